/-
  Contracts: Grow, Concat of three rows of fields.
-/
import Derived.Test.YtkiecgcjnlgbnaaExK
import Derived.Lib.AppendZerosOnto
import Derived.Laws.OwnMore
namespace Go.Proofs.Ytkiecgcjnlgbnaa
set_option maxRecDepth 100000
open Go.RowKit Go.Joins Go.Deep

theorem zeroCells_size (z : Array Value) (n : Nat) : (Builtin.zeroCells z n).size = n * z.size := by
  simp [Builtin.zeroCells]
set_option maxHeartbeats 2000000 in
theorem grow13_any (B n : Nat) (h1 : 1 ≤ n) (hn : n ≤ 100000) (w : World) (hB : B ≤ w.heap.size) :
    Calls Try.prog 43 #[.slice none 0 0, .int .i64 n] w fun e w' => ∃ G, e = .returned (.slice (some ⟨w.heap.size, 0, none⟩) 0 G) ∧ w'.ownsRow B 38 2 (.slice (some ⟨w.heap.size, 0, none⟩) 0 G) 0 [] ∧ Below w.heap.size w w' := by
  obtain ⟨i0, hi, hz0, hz1, hz2⟩ := info_parts parts_fd
  have h3 : ¬ ((n : Int) < 0) := by omega
  have h4 : (n : Int) > 0 := by omega
  have hold : (Builtin.firstCells i0.size 0 (.slice none 0 0)).run Try.prog w.drew = .ok (#[] : Array Value) w.drew := run_firstCells_none w.drew i0.size 0 0 0
  have hrz : ∀ ty, (Builtin.append_ #[22, 3] ty #[.slice none 0 0, .int .i64 (n : Int)]).run Try.prog w =
      .ok (.slice (some ⟨w.heap.size, 0, none⟩) n (grownCap w n 0 38)) (w.drew.alloc (.cells (#[] ++ Builtin.zeroCells (Value.agg #[.int .u16 0, .string ⟨#[]⟩]).cells n ++ Builtin.zeroCells (Value.agg #[.int .u16 0, .string ⟨#[]⟩]).cells (grownCap w n 0 38 - n)) 38)) := fun ty => by
    have h := Lib.run_append_grow_zeros w 22 3 ty 38 i0 (.agg #[.int .u16 0, .string ⟨#[]⟩]) .i64 .i64 Try.underlying22 Try.underlying3 hi hz0 none 0 0 [] (by simpa using hold) n (by omega) (by omega) (by omega) (by omega) (by rw [hz2]; omega) (by rw [Nat.zero_add]; exact growslice_fits (by omega) (by rw [hz2]; omega))
    rw [Nat.zero_add] at h
    exact h
  have hGn : n ≤ grownCap w n 0 38 := grownCap_ge w _ _ _
  have hGm := grownCap_le_maxLen w n 0 38 (by unfold maxLen; omega)
  obtain ⟨G, hG⟩ : ∃ G, G = grownCap w n 0 38 := ⟨_, rfl⟩
  rw [← hG] at hrz hGn hGm
  have HGM := Lib.hid hGm
  have hG63 : G ≤ 9223372036854775807 := by unfold maxLen at hGm; omega
  have hzc : (Value.agg #[.int .u16 0, .string ⟨#[]⟩]).cells = #[Value.int .u16 0, .string ⟨#[]⟩] := rfl
  rw [hzc] at hrz
  have HW : Hid ((w.alloc (.cells (Builtin.zeroCells #[Value.int .u16 0, .string ⟨#[]⟩] n ++ Builtin.zeroCells #[Value.int .u16 0, .string ⟨#[]⟩] (G - n)) 38)).drew.ownsRow B 38 2 (.slice (some ⟨w.heap.size, 0, none⟩) 0 G) 0 []) := by
    refine ⟨rfl, .inr ⟨w.heap.size, G, _, rfl, hB, heap_alloc_new w _, Nat.zero_le _, hGm, ?_, rfl⟩⟩
    rw [Array.size_append, zeroCells_size, zeroCells_size]
    show n * 2 + (G - n) * 2 = G * 2
    omega
  have HBW : Hid (Below w.heap.size w (w.alloc (.cells (Builtin.zeroCells #[Value.int .u16 0, .string ⟨#[]⟩] n ++ Builtin.zeroCells #[Value.int .u16 0, .string ⟨#[]⟩] (G - n)) 38)).drew) := ((Below.refl _ _).alloc (Nat.le_refl _) _).drew
  clear hold hG hGm hzc
  go_enter Try.func43, Try.ntmps43
  go_wp2_with (at_builtin; refine Lib.wpList_append_run _ rfl _ _ _ _ rfl _ _ rfl rfl _ _ (hrz _) ?_)
  go_ret
  exact ⟨G, rfl, HW.out, HBW.out⟩

/-- The first k rows, one behind the other. -/
def joinF (rs : Nat → List Fd) : Nat → List Fd
  | 0 => []
  | k + 1 => joinF rs k ++ rs k
theorem joinF_mono (rs : Nat → List Fd) (k : Nat) : ∀ d, (joinF rs k).length ≤ (joinF rs (k + d)).length
  | 0 => Nat.le_refl _
  | d + 1 => by
    rw [← Nat.add_assoc, joinF, List.length_append]
    have := joinF_mono rs k d
    omega
theorem cellsF_news {w : World} {ad : Addr} {l : List Fd} (h : Fds w (some ad) l) : ∀ q u, (cellsF l)[q]? = some u → w.cell? (ad.add q) = some u := by
  intro q u hu
  have hql := (List.getElem?_eq_some_iff.1 hu).1
  rw [cellsF_len] at hql
  obtain ⟨b, off, e, _, hc⟩ := h (by omega)
  injection e with e
  subst e
  rw [Addr.add_lit]
  have hi : q / 2 < l.length := by omega
  have hg := cellsF_get l (q / 2) hi
  have hcc := hc (q / 2) hi
  rcases (by omega : q = q / 2 * 2 ∨ q = q / 2 * 2 + 1) with e | e
  · rw [e, hg.1] at hu
    rw [e, ← hu]
    exact hcc.1
  · rw [e, hg.2] at hu
    rw [e, ← hu, ← Nat.add_assoc]
    exact hcc.2
theorem cellsF_ones (l : List Fd) : ∀ u ∈ cellsF l, u.oneCell' = true := by
  induction l with
  | nil => intro u hu; cases hu
  | cons x l ih =>
    intro u hu
    simp only [cellsF, List.mem_cons] at hu
    rcases hu with rfl | rfl | hu
    · rfl
    · rfl
    · exact ih u hu
theorem nil_of_own {w : World} {B : Nat} {T : TypeId} {A : Option Addr} {cap : Nat} {l : List Fd} (h : w.ownsRow B T 2 (.slice A l.length cap) l.length (cellsF l)) : Nil0 A l.length cap := by
  obtain ⟨A2, c2, he, hn⟩ := slice_of_own0 h
  injection he with h1 h2 h3
  subst h1 h3
  exact hn
set_option maxHeartbeats 4000000 in
theorem concat13_any (gc n : Nat) (As : Nat → Option Addr) (cp : Nat → Nat) (rs : Nat → List Fd) (hn : n ≤ 10) (hpos : 1 ≤ (joinF rs n).length) (htot : (joinF rs n).length ≤ 50000) (w : World) (hgc : gc < w.heap.size)
    (hc : ∀ i, i < n → w.cell? ⟨gc, i, none⟩ = some (.slice (As i) (rs i).length (cp i))) (hr : ∀ i, i < n → Fds w (As i) (rs i)) (h0 : ∀ i, i < n → Nil0 (As i) (rs i).length (cp i)) :
    Calls Try.prog 34 #[.slice (some ⟨gc, 0, none⟩) n n] w fun e w' => ∃ A cap, e = .returned (.slice A (joinF rs n).length cap) ∧ Fds w' A (joinF rs n) ∧ Nil0 A (joinF rs n).length cap ∧ Below w.heap.size w w' := by
  have HC := Lib.hid hc
  have HR := Lib.hid hr
  have H0 := Lib.hid h0
  have hmono : ∀ k, k ≤ n → (joinF rs k).length ≤ (joinF rs n).length := fun k hk => by
    have := joinF_mono rs k (n - k)
    rwa [show k + (n - k) = n by omega] at this
  have HMO := Lib.hid hmono
  have HTOT := Lib.hid htot
  have HJ := Lib.hid (fun k => show joinF rs (k + 1) = joinF rs k ++ rs k from rfl)
  have HG := Lib.hid (grow13_any w.heap.size (joinF rs n).length hpos (by omega) w (Nat.le_refl _))
  clear hc hr hmono htot h0 hpos
  go_enter Try.func34, Try.ntmps34
  go_wp2_with fail
  go_loop [3, 11] (fun t i => ∃ k : Nat, k ≤ n ∧ i = .int .i64 (k : Nat) ∧ t = .int .i64 ((joinF rs k).length : Nat)) (fun _ i => n - (intOf i).toNat)
  case atStart => exact ⟨0, Nat.zero_le _, rfl, rfl⟩
  case round =>
    obtain ⟨k, hk, rfl, rfl⟩ := hrel
    by_cases hlt : k < n
    · have hcell := HC.out k hlt
      have hm1 := HMO.out (k + 1) (by omega)
      have hm2 := HMO.out k hk
      have hj := congrArg List.length (HJ.out k)
      rw [List.length_append] at hj
      have HJL := Lib.hid hj
      have htt := HTOT.out
      have hll : (rs k).length ≤ 100000 := by omega
      have hkk : (joinF rs k).length ≤ 100000 := by omega
      clear hm1 hm2 hj htt
      generalize (joinF rs k).length = a at *
      generalize (rs k).length = b at *
      generalize As k = A1 at *
      go_wp2_with fail
      go_round
      case rel => exact ⟨k + 1, by omega, by go_num, by rw [HJL.out]; go_num⟩
      case measure => simp [intOf]; omega
    · obtain rfl : k = n := by omega
      have htt := HTOT.out
      go_wp2_with fail
      refine (HG.out).mono ?_; rintro e w1 ⟨G, rfl, hown, hb⟩
      have HO1 := Lib.hid hown
      have HB1 := Lib.hid hb
      clear hown hb HG
      obtain ⟨i0, hi, hz0, hz1, hz2⟩ := info_parts parts_fd
      go_wp2_with fail
      go_loopw [6, 27] (fun v i wr => ∃ j, j ≤ k ∧ i = .int .i64 (j : Nat) ∧ Hid (wr.ownsRow w.heap.size 38 2 v (joinF rs j).length (cellsF (joinF rs j))) ∧ Hid (Below w.heap.size w wr)) (fun _ i _ => k - (intOf i).toNat)
      case atStart => exact ⟨0, Nat.zero_le _, rfl, HO1.out, HB1.out⟩
      case round =>
        obtain ⟨j, hj, rfl, HO, HB⟩ := hrel
        obtain ⟨A2, cp2, rfl⟩ := slice_of_own HO.out
        by_cases hjk : j < k
        · have hcell : wr.cell? ⟨gc, j, none⟩ = some (.slice (As j) (rs j).length (cp j)) := (HB.out.cell (p := ⟨gc, j, none⟩) hgc).trans (HC.out j hjk)
          have HRJ := Lib.hid ((HR.out j hjk).below (Nat.le_refl _) HB.out)
          have HN0 := Lib.hid (H0.out j hjk)
          have hm1 := HMO.out (j + 1) (by omega)
          have hJ := congrArg List.length (HJ.out j)
          rw [List.length_append] at hJ
          have HJJ := Lib.hid (HJ.out j)
          have hsum : (joinF rs j).length + (rs j).length ≤ 50000 := by omega
          have hbase : w.heap.size ≤ wr.heap.size := HB.out.size
          have HCL := Lib.hid (cellsF_len (rs j))
          have HON := Lib.hid (cellsF_ones (rs j))
          clear hm1 hJ
          generalize As j = A1 at *
          cases A1 with
          | none =>
            obtain ⟨hz, hcz⟩ := HN0.out rfl
            have hnil : rs j = [] := List.eq_nil_of_length_eq_zero hz
            rw [hz, hcz] at hcell
            have HNIL := Lib.hid hnil
            have HRN := Lib.hid (fun ty => run_append_owned_none wr w.heap.size 22 ty 38 i0 2 Try.underlying22 hi _ _ _ HO.out)
            have HJ2 : Hid (joinF rs (j + 1) = joinF rs j) := by show _ = _; rw [HJJ.out, HNIL.out, List.append_nil]
            clear hnil HJJ HRJ
            go_wp2_with (at_builtin; refine Lib.wpList_append_run _ rfl _ _ _ _ rfl _ _ rfl rfl _ _ (HRN.out _) ?_)
            go_roundw
            case rel => exact ⟨j + 1, by omega, by go_num, by rw [HJ2.out]; exact HO.out, HB.out⟩
            case measure => simp [intOf]; omega
          | some ad =>
            have HNW := Lib.hid (cellsF_news HRJ.out)
            generalize hNE : cellsF (rs j) = news at *
            generalize hLE : (rs j).length = b at *
            have HLE := Lib.hid hLE
            have HNE := Lib.hid hNE
            clear hNE hLE
            generalize hLA : (joinF rs j).length = a at *
            have HLA := Lib.hid hLA
            clear hLA
            go_wp2_with (at_builtin; refine wpList_append_own_at _ rfl (.tmp 31) (.tmp 32) _ rfl w.heap.size 38 i0 (.agg #[.int .u16 0, .string ⟨#[]⟩]) 2 24 Try.underlying22 hi hz0 hz1 hz2 rfl (by decide) _ a (cellsF (joinF rs j)) rfl HO.out ad b (cp j) news rfl HCL.out HNW.out HON.out (by unfold maxLen; omega) (by omega) hbase ?_)
            intro v2 w2 hown hgrow _ hat
            have HB2 := Lib.hid (HB.out.grown hgrow hbase (fun q hq => (HO.out.lt q hq).1))
            have HO2 : Hid (w2.ownsRow w.heap.size 38 2 v2 (joinF rs (j + 1)).length (cellsF (joinF rs (j + 1)))) := by
              show World.ownsRow _ _ _ _ _ _ _
              rw [HJJ.out, cellsF_app, HNE.out, List.length_append, HLA.out, HLE.out]
              exact hown
            clear hown hgrow hat
            go_wp2_with fail
            go_roundw
            case rel => exact ⟨j + 1, by omega, by go_num, HO2.out, HB2.out⟩
            case measure => simp [intOf]; omega
        · obtain rfl : j = k := by omega
          have HN0 := Lib.hid (nil_of_own HO.out)
          go_wp2_with fail
          go_ret
          exact ⟨A2, cp2, rfl, fds_of_own HO.out, HN0.out, HB.out⟩
end Go.Proofs.Ytkiecgcjnlgbnaa
