/-
  Contracts: rows put together.
-/
import Derived.Test.YtbgclbnbnpnolaaInfI
import Derived.Lib.AppendZerosOnto
import Derived.Maps.AppendAt
namespace Go.Proofs.Ytbgclbnbnpnolaa
set_option maxRecDepth 100000
open Go.RowKit Go.Deep Go.Joins

set_option maxHeartbeats 2000000 in
theorem grow_any (B n : Nat) (h1 : 1 ≤ n) (hn : n ≤ 1000000) (w : World) (hB : B ≤ w.heap.size) :
    Calls Try.prog 74 #[.slice none 0 0, .int .i64 n] w fun e w' => ∃ G, e = .returned (.slice (some ⟨w.heap.size, 0, none⟩) 0 G) ∧ w'.ownsRow B 5 1 (.slice (some ⟨w.heap.size, 0, none⟩) 0 G) 0 [] ∧ Below w.heap.size w w' := by
  obtain ⟨i0, hi, hz0, hz1, hz2⟩ := info_parts info8
  have h3 : ¬ ((n : Int) < 0) := by omega
  have h4 : (n : Int) > 0 := by omega
  have hold : (Builtin.firstCells i0.size 0 (.slice none 0 0)).run Try.prog w.drew = .ok (#[] : Array Value) w.drew := run_firstCells_none w.drew i0.size 0 0 0
  have hrz : ∀ ty, (Builtin.append_ #[22, 3] ty #[.slice none 0 0, .int .i64 (n : Int)]).run Try.prog w =
      .ok (.slice (some ⟨w.heap.size, 0, none⟩) n (grownCap w n 0 5)) (w.drew.alloc (.cells (#[] ++ Builtin.zeroCells (Value.int .u8 0).cells n ++ Builtin.zeroCells (Value.int .u8 0).cells (grownCap w n 0 5 - n)) 5)) := fun ty => by
    have h := Lib.run_append_grow_zeros w 22 3 ty 5 i0 (.int .u8 0) .i64 .i64 Try.underlying22 Try.underlying3 hi hz0 none 0 0 [] (by simpa using hold) n (by omega) (by omega) (by omega) (by omega) (by rw [hz2]; omega) (by rw [Nat.zero_add]; exact growslice_fits (by omega) (by rw [hz2]; omega))
    rw [Nat.zero_add] at h
    exact h
  have hGn : n ≤ grownCap w n 0 5 := grownCap_ge w _ _ _
  have hGm := grownCap_le_maxLen w n 0 5 (by unfold maxLen; omega)
  obtain ⟨G, hG⟩ : ∃ G, G = grownCap w n 0 5 := ⟨_, rfl⟩
  rw [← hG] at hrz hGn hGm
  have HGM := Lib.hid hGm
  have hG63 : G ≤ 9223372036854775807 := by unfold maxLen at hGm; omega
  have HW : Hid ((w.alloc (.cells (Builtin.zeroCells #[Value.int .u8 0] n ++ Builtin.zeroCells #[Value.int .u8 0] (G - n)) 5)).drew.ownsRow B 5 1 (.slice (some ⟨w.heap.size, 0, none⟩) 0 G) 0 []) := by
    refine ⟨rfl, .inr ⟨w.heap.size, G, _, rfl, hB, heap_alloc_new w _, Nat.zero_le _, hGm, ?_, rfl⟩⟩
    simp [Builtin.zeroCells]
    omega
  have HBW : Hid (Below w.heap.size w (w.alloc (.cells (Builtin.zeroCells #[Value.int .u8 0] n ++ Builtin.zeroCells #[Value.int .u8 0] (G - n)) 5)).drew) := ((Below.refl _ _).alloc (Nat.le_refl _) _).drew
  clear hold hG hGm
  go_enter Try.func74, Try.ntmps74
  go_wp2_with (at_builtin; refine Lib.wpList_append_run _ rfl _ _ _ _ rfl _ _ rfl rfl _ _ (hrz _) ?_)
  go_ret
  exact ⟨G, rfl, HW.out, HBW.out⟩

/-- The first k rows, one behind the other. -/
def joinR (rs : Nat → List Nat) : Nat → List Nat
  | 0 => []
  | k + 1 => joinR rs k ++ rs k
theorem joinR_mono (rs : Nat → List Nat) (k : Nat) : ∀ d, (joinR rs k).length ≤ (joinR rs (k + d)).length
  | 0 => Nat.le_refl _
  | d + 1 => by
    rw [← Nat.add_assoc, joinR, List.length_append]
    have := joinR_mono rs k d
    omega
set_option maxHeartbeats 4000000 in
theorem concat_any (gc n : Nat) (gi : Nat → Nat) (rs : Nat → List Nat) (h0 : 1 ≤ n) (hn : n ≤ 10) (hlen : ∀ i, i < n → 1 ≤ (rs i).length) (htot : (joinR rs n).length ≤ 100000) (w : World) (hgc : gc < w.heap.size)
    (hc : ∀ i, i < n → w.cell? ⟨gc, i, none⟩ = some (.slice (some ⟨gi i, 0, none⟩) (rs i).length (rs i).length)) (hr : ∀ i, i < n → w.heap[gi i]? = some (.cells (cells8 (rs i)).toArray 5 (0, 0))) :
    Calls Try.prog 67 #[.slice (some ⟨gc, 0, none⟩) n n] w fun e w' => ∃ g cap, e = .returned (.slice (some ⟨g, 0, none⟩) (joinR rs n).length cap) ∧ w'.ownsRow w.heap.size 5 1 (.slice (some ⟨g, 0, none⟩) (joinR rs n).length cap) (joinR rs n).length (cells8 (joinR rs n)) ∧ Below w.heap.size w w' := by
  have HC := Lib.hid hc
  have HR := Lib.hid hr
  have HL := Lib.hid hlen
  have hmono : ∀ k, k ≤ n → (joinR rs k).length ≤ (joinR rs n).length := fun k hk => by
    have := joinR_mono rs k (n - k)
    rwa [show k + (n - k) = n by omega] at this
  have HMO := Lib.hid hmono
  have HTOT := Lib.hid htot
  have hpos : 1 ≤ (joinR rs n).length := by
    have h1 := hmono 1 h0
    have h2 := hlen 0 (by omega)
    have h3 : (joinR rs 1).length = (rs 0).length := by rw [joinR, joinR, List.nil_append]
    omega
  have HPOS := Lib.hid hpos
  have HJ := Lib.hid (fun k => show joinR rs (k + 1) = joinR rs k ++ rs k from rfl)
  have HG := Lib.hid (grow_any w.heap.size (joinR rs n).length hpos (by omega) w (Nat.le_refl _))
  clear hc hr hlen hmono htot hpos
  go_enter Try.func67, Try.ntmps67
  go_wp2_with fail
  go_loop [3, 11] (fun t i => ∃ k : Nat, k ≤ n ∧ i = .int .i64 (k : Nat) ∧ t = .int .i64 ((joinR rs k).length : Nat)) (fun _ i => n - (intOf i).toNat)
  case atStart => exact ⟨0, Nat.zero_le _, rfl, rfl⟩
  case round =>
    obtain ⟨k, hk, rfl, rfl⟩ := hrel
    by_cases hlt : k < n
    · have hcell := HC.out k hlt
      have hm1 := HMO.out (k + 1) (by omega)
      have hm2 := HMO.out k hk
      have hj := congrArg List.length (HJ.out k)
      rw [List.length_append] at hj
      have HJL := Lib.hid hj
      have htt := HTOT.out
      have hll : (rs k).length ≤ 100000 := by omega
      have hkk : (joinR rs k).length ≤ 100000 := by omega
      clear hm1 hm2 hj htt
      generalize (joinR rs k).length = a at *
      generalize (rs k).length = b at *
      go_wp2_with fail
      go_round
      case rel => exact ⟨k + 1, by omega, by go_num, by rw [HJL.out]; go_num⟩
      case measure => simp [intOf]; omega
    · obtain rfl : k = n := by omega
      have htt := HTOT.out
      go_wp2_with fail
      refine (HG.out).mono ?_; rintro e w1 ⟨G, rfl, hown, hb⟩
      have HO1 := Lib.hid hown
      have HB1 := Lib.hid hb
      clear hown hb HG
      obtain ⟨i0, hi, hz0, hz1, hz2⟩ := info_parts info8
      go_wp2_with fail
      go_loopw [6, 27] (fun v i wr => ∃ j g cap, j ≤ k ∧ i = .int .i64 (j : Nat) ∧ v = .slice (some ⟨g, 0, none⟩) (joinR rs j).length cap ∧ wr.ownsRow w.heap.size 5 1 v (joinR rs j).length (cells8 (joinR rs j)) ∧ Below w.heap.size w wr) (fun _ i _ => k - (intOf i).toNat)
      case atStart => exact ⟨0, w.heap.size, G, Nat.zero_le _, rfl, rfl, HO1.out, HB1.out⟩
      case round =>
        obtain ⟨j, g, cap, hj, rfl, rfl, ho, hb⟩ := hrel
        have HO := Lib.hid ho
        have HB := Lib.hid hb
        by_cases hjk : j < k
        · have hcell : wr.cell? ⟨gc, j, none⟩ = some (.slice (some ⟨gi j, 0, none⟩) (rs j).length (rs j).length) := (hb.cell (p := ⟨gc, j, none⟩) hgc).trans (HC.out j hjk)
          have hgi := lt_of_heap (HR.out j hjk)
          have HRJ : Hid (wr.heap[gi j]? = some (.cells (cells8 (rs j)).toArray 5 (0, 0))) := (hb.block _ hgi).trans (HR.out j hjk)
          have hm1 := HMO.out (j + 1) (by omega)
          have hJ := congrArg List.length (HJ.out j)
          rw [List.length_append] at hJ
          have HJL := Lib.hid hJ
          have HJJ := Lib.hid (HJ.out j)
          have hll := HL.out j hjk
          have hsum : (joinR rs j).length + (rs j).length ≤ 100000 := by omega
          have hbase : w.heap.size ≤ wr.heap.size := hb.size
          have HCL : Hid ((cells8 (rs j)).length = (rs j).length) := by show _ = _; simp [cells8]
          have HON : Hid (∀ u ∈ cells8 (rs j), u.oneCell' = true) := by
            intro u hu
            unfold cells8 at hu
            rw [List.mem_map] at hu
            obtain ⟨_, _, rfl⟩ := hu
            rfl
          have HNW : Hid (∀ q u, (cells8 (rs j))[q]? = some u → wr.cell? ((⟨gi j, 0, none⟩ : Addr).add q) = some u) := by
            intro q u hu
            rw [Addr.add_lit, Nat.zero_add, cell_of_row wr (gi j) q _ _ _ HRJ.out, List.getElem?_toArray]
            exact hu
          clear ho hb hm1 hJ
          generalize hNE : cells8 (rs j) = news at *
          generalize hLE : (rs j).length = b at *
          generalize hLA : (joinR rs j).length = a at *
          have HNE := Lib.hid hNE
          clear hNE hLE hLA
          go_wp2_with (at_builtin; refine wpList_append_own_at _ rfl (.tmp 31) (.tmp 32) _ rfl w.heap.size 5 i0 (.int .u8 0) 1 1 Try.underlying22 hi hz0 hz1 hz2 rfl (by decide) _ a (cells8 (joinR rs j)) rfl HO.out ⟨gi j, 0, none⟩ b b news rfl ?c1 ?c2 ?c3 ?c4 ?c5 hbase ?_)
          case c1 => rw [HCL.out, Nat.mul_one]
          case c2 => exact HNW.out
          case c3 => exact HON.out
          case c4 => unfold maxLen; omega
          case c5 => omega
          intro v2 w2 hown hgrow _ hat
          have HB2 := Lib.hid (HB.out.grown hgrow hbase (by
            intro q hq
            have := HO.out.lt q hq
            exact this.1))
          obtain ⟨g2, cap2, hv2⟩ : ∃ g2 cap2, v2 = .slice (some ⟨g2, 0, none⟩) (a + b) cap2 := by
            rcases ownsRow_forms hown with ⟨rfl, h⟩ | ⟨g2, cap2, h⟩
            · omega
            · exact ⟨g2, cap2, h⟩
          subst hv2
          have HO2 : Hid (w2.ownsRow w.heap.size 5 1 (.slice (some ⟨g2, 0, none⟩) (a + b) cap2) (a + b) (cells8 (joinR rs (j + 1)))) := by
            show World.ownsRow _ _ _ _ _ _ _
            rw [HJJ.out, cells8_app, HNE.out]
            exact hown
          clear hown hgrow hat
          go_wp2
          go_roundw
          case rel => exact ⟨j + 1, g2, cap2, by omega, by go_num, by rw [HJL.out], by rw [HJL.out]; exact HO2.out, HB2.out⟩
          case measure => simp [intOf]; omega
        · obtain rfl : j = k := by omega
          clear ho hb
          go_wp2_with fail
          go_ret
          exact ⟨g, cap, rfl, HO.out, HB.out⟩
end Go.Proofs.Ytbgclbnbnpnolaa
