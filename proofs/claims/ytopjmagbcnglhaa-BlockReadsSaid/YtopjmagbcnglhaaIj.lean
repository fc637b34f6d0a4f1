/-
  slices.Repeat and slices.Concat of bytes (out of stage 4's XInfI and XInfJ; a row may have room).
-/
import Derived.Test.YtopjmagbcnglhaaPkAD
import Derived.Test.YtopjmagbcnglhaaPreN
import Derived.Deep.RegionHeld3
import Derived.Laws.BitsAllLaws
import Derived.Laws.CopyOwn
import Derived.Deep.OwnRows
import Derived.Laws.OwnMore
import Derived.BigRegion
import Derived.Deep.DeepMust
import Derived.Lib.AppendZerosOnto
import Derived.Maps.AppendAt

namespace Go.Proofs.Ytopjmagbcnglhaa.Ij
set_option maxRecDepth 100000
open Go.RowKit Go.Deep Go.Joins

theorem mul64_one (n : Nat) (hn : n ≤ 1000000) (w : World) : Calls Try.prog 69 #[.int .u64 1, .int .u64 n] w fun e w' => e = .returned (.tuple #[.int .u64 0, .int .u64 n]) ∧ w = w' := by
  have h1 : bits .and .u64 1 4294967295 = 1 := by decide
  have h2 : bits .and .u64 (n : Int) 4294967295 = (n : Int) := by
    have := u64_and_nat n 4294967295 (by omega) (by omega)
    rw [show (4294967295 : Nat) = 2 ^ 32 - 1 from rfl, Nat.and_two_pow_sub_one_eq_mod, Nat.mod_eq_of_lt (by omega)] at this
    exact this
  have h3 : bits .and .u64 0 4294967295 = 0 := by decide
  have h4 : (n : Int) / 4294967296 = 0 := by omega
  have h5 : (n : Int) / 2 ^ 32 = 0 := by omega
  go_enter Try.func69, Try.ntmps69
  go_wp2
  go_ret2
  exact ⟨by simp, rfl⟩
theorem mul_one (n : Nat) (hn : n ≤ 1000000) (w : World) : Calls Try.prog 55 #[.int .u64 1, .int .u64 n] w fun e w' => e = .returned (.tuple #[.int .u64 0, .int .u64 n]) ∧ w = w' := by
  go_enter Try.func55, Try.ntmps55
  go_wp2_with (go_at_call 69; refine (mul64_one n hn _).mono ?_; rintro e w' ⟨rfl, rfl⟩)
  go_ret2
  exact ⟨rfl, rfl⟩

/-- A row of bytes, so many of them laid down. -/
def fillB (n k x : Nat) : List Value := List.replicate k (.int .u8 (x : Nat)) ++ List.replicate (n - k) (.int .u8 0)
theorem fillB_len (n k x : Nat) (h : k ≤ n) : (fillB n k x).length = n := by simp [fillB]; omega
theorem fillB_at (n k x i : Nat) (h : i < k) : (fillB n k x)[i]? = some (.int .u8 (x : Nat)) := by
  unfold fillB
  rw [List.getElem?_append_left (by simpa using h), List.getElem?_replicate, if_pos h]
theorem fillB_zero (n x : Nat) : madeCells #[.int .u8 0] n = (fillB n 0 x).toArray := by
  apply Array.ext'
  rw [toList_madeCells_one]
  simp [fillB]
theorem fillB_splice (n k m x : Nat) (h : k + m ≤ n) : splice (fillB n k x) k (List.replicate m (.int .u8 (x : Nat))) = fillB n (k + m) x := by
  unfold splice fillB
  rw [List.length_replicate, List.take_append_of_le_length (by simp), List.take_of_length_le (by simp), List.drop_append, List.drop_eq_nil_of_le (by simp), List.length_replicate, List.drop_replicate, List.nil_append, ← List.append_assoc, List.replicate_append_replicate, show n - k - (k + m - k) = n - (k + m) by omega]
theorem fillB_full (n x : Nat) : fillB n n x = cells8 (List.replicate n x) := by simp [fillB, cells8]

set_option maxHeartbeats 4000000 in
theorem repeat_any (gx n x : Nat) (h1 : 1 ≤ n) (hn : n ≤ 1000) (w : World) (hgx : gx < w.heap.size) (hc : w.cell? ⟨gx, 0, none⟩ = some (.int .u8 (x : Nat))) :
    Calls Try.prog 39 #[.slice (some ⟨gx, 0, none⟩) 1 1, .int .i64 n] w fun e w' => e = .returned (.slice (some ⟨w.heap.size, 0, none⟩) n n) ∧ w'.heap[w.heap.size]? = some (.cells (cells8 (List.replicate n x)).toArray 5 (0, 0)) ∧ Below w.heap.size w w' := by
  have HM := Lib.hid (mul_one n (by omega))
  have hmk := run_make_row' (P := Try.prog) 29 5 (.int .u8 0) 1 Try.underlying29 info8 rfl .i64 .i64 n (by omega) (by omega)
  have hB0 : Below w.heap.size w (w.alloc (.cells (madeCells #[.int .u8 0] n) 5)) := (Below.refl _ _).alloc (Nat.le_refl _) _
  have hg0 : (w.alloc (.cells (madeCells #[.int .u8 0] n) 5)).heap[w.heap.size]? = some (.cells (fillB n 0 x).toArray 5 (0, 0)) := by rw [fillB_zero n x]; exact heap_alloc_new w _
  have hc0 : (w.alloc (.cells (madeCells #[.int .u8 0] n) 5)).cell? ⟨gx, 0, none⟩ = some (.int .u8 (x : Nat)) := (hB0.cell (p := ⟨gx, 0, none⟩) hgx).trans hc
  have HCC := Lib.hid hc
  have HB0 := Lib.hid hB0
  have HG0 := Lib.hid hg0
  have HC0 := Lib.hid hc0
  have hwn : IntKind.u64.wrap (n : Int) = (n : Int) := by rw [IntKind.wrap_u64]; omega
  have hwi : IntKind.i64.wrap (n : Int) = (n : Int) := by rw [IntKind.wrap_i64]; omega
  have hsz1 : (Try.prog.info? 5).map (·.size) = some 1 := by kernel_rfl
  clear hB0 hg0 hc0
  go_enter Try.func39, Try.ntmps39
  have hlt0 : decide ((n : Int) < 0) = false := decide_eq_false (by omega)
  have hlt1 : decide ((9223372036854775807 : Int) < (n : Int)) = false := decide_eq_false (by omega)
  go_wp2_with fail
  refine (HM.out _).mono ?_; rintro e w' ⟨rfl, rfl⟩
  go_wp2_with (with_reducible refine wpList_copy_splice rfl (.tmp 31) (.tmp 32) 29 29 rfl 5 Try.underlying29 hsz1 (some ⟨w.heap.size, 0, none⟩) (some ⟨gx, 0, none⟩) n n 1 1 rfl rfl w.heap.size 0 (fillB n 0 x) 5 HG0.out [.int .u8 (x : Nat)] ?c1 ?c2 ?c3 ?c4 w.heap.size w HB0.out (Nat.le_refl _) ?_)
  case c1 => show 1 = min 1 n; omega
  case c2 =>
    intro j v hj
    cases j with
    | zero =>
      simp at hj
      subst hj
      exact HCC.out
    | succ j => simp at hj
  case c3 => rw [fillB_len n 0 x (by omega)]; simp; omega
  case c4 => intro v hv; simp at hv; subst hv; rfl
  intro w1 hg1 hb1
  have HG1 : Hid (w1.heap[w.heap.size]? = some (.cells (fillB n 1 x).toArray 5 (0, 0))) := by
    have h := hg1.out
    have e := fillB_splice n 0 1 x (by omega)
    rw [show List.replicate 1 (Value.int .u8 (x : Nat)) = [.int .u8 (x : Nat)] from rfl] at e
    rw [e] at h
    exact h
  have HB1 := Lib.hid hb1
  clear hg1 hb1 hmk HG0 HC0 HB0 HM hc HCC
  go_wp2_with fail
  go_loopw [8] (fun i wr => ∃ k : Nat, 1 ≤ k ∧ k ≤ n ∧ i = .int .i64 (k : Nat) ∧ wr.heap[w.heap.size]? = some (.cells (fillB n k x).toArray 5 (0, 0)) ∧ Below w.heap.size w wr) (fun i _ => n - (intOf i).toNat)
  case atStart => exact ⟨1, Nat.le_refl _, h1, rfl, HG1.out, HB1.out⟩
  case round =>
    obtain ⟨k, hk1, hkn, rfl, hg, hb⟩ := hrel
    have HG := Lib.hid hg
    have HB := Lib.hid hb
    by_cases hlt : k < n
    · obtain ⟨m, hm, hmn, hm0⟩ : ∃ m, m = min k (n - k) ∧ k + m ≤ n ∧ 0 < m := ⟨_, rfl, by omega, by omega⟩
      have HM := Lib.hid hm
      clear hg hb hm
      have hgo : goInt (List.replicate m (Value.int .u8 (x : Nat))).length = .int .i64 (m : Nat) := by rw [List.length_replicate]; rfl
      have hkm : IntKind.i64.wrap ((k : Int) + (m : Int)) = (k : Int) + (m : Int) := by rw [IntKind.wrap_i64]; omega
      have hkn1 : (k : Int) ≤ (n : Int) := by omega
      have hnk : ¬ n = k := by omega
      go_wp2_with fail
      have HSRC : Hid (∀ j v, (List.replicate m (Value.int .u8 (x : Nat)))[j]? = some v → wr.drew.cell? ((⟨w.heap.size, 0, none⟩ : Addr).add j) = some v) := by
        intro j v hj
        rw [List.getElem?_replicate] at hj
        split at hj
        · injection hj with hj
          subst hj
          rw [Addr.add_lit, Nat.zero_add]
          refine (cell_of_row wr.drew w.heap.size j _ _ _ HG.out).trans ?_
          rw [List.getElem?_toArray]
          exact fillB_at n k x j (by have := HM.out; omega)
        · cases hj
      have HFIT : Hid (k + (List.replicate m (Value.int .u8 (x : Nat))).length ≤ (fillB n k x).length) := by
        show _ ≤ _
        rw [List.length_replicate, fillB_len n k x (by omega)]
        exact hmn
      have HONE : Hid (∀ v ∈ List.replicate m (Value.int .u8 (x : Nat)), v.oneCell' = true) := by
        intro v hv
        rw [List.mem_replicate] at hv
        obtain ⟨_, rfl⟩ := hv
        rfl
      have HLEN : Hid ((List.replicate m (Value.int .u8 (x : Nat))).length = Nat.min k (n - k)) := by
        show _ = _
        rw [List.length_replicate]
        exact HM.out
      have HGD : Hid (wr.drew.heap[w.heap.size]? = some (.cells (fillB n k x).toArray 5 (0, 0))) := HG.out
      have HBD := Lib.hid (HB.out.drew)
      have HSPL := Lib.hid (fillB_splice n k m x hmn)
      obtain ⟨cs, hcs⟩ : ∃ cs, cs = List.replicate m (Value.int .u8 (x : Nat)) := ⟨_, rfl⟩
      rw [← hcs] at HSRC HFIT HONE HLEN HSPL hgo
      generalize fillB n k x = cur at *
      clear hcs
      go_region_law (first | (go_must (refine step_copy_splice (by rfl) (.tmp 41) (.tmp 44) 29 29 (by rfl) 5 Try.underlying29 hsz1 (some ⟨w.heap.size, k, none⟩) (some ⟨w.heap.size, 0, none⟩) (n - k) (n - k) k n (by simp [Act.eval, Act.put]) (by simp [Act.eval, Act.put]) w.heap.size k cur 5 (by exact HGD.out) cs (by exact HLEN.out) (fun _ => ⟨rfl, _, rfl, HSRC.out⟩) (by exact HFIT.out) (by exact HONE.out) w.heap.size w (by exact HBD.out) (Nat.le_refl _) ?_; intro w4 hg4 hb4; rw [hgo])) | fail)
      all_goals
        have HG5 : Hid (w4.heap[w.heap.size]? = some (.cells (fillB n (k + m) x).toArray 5 (0, 0))) := by
          have h := hg4.out
          rw [HSPL.out] at h
          exact h
        have HB5 := Lib.hid hb4
        clear hg4 hb4 HSPL HBD HGD HLEN HONE HFIT HSRC
        simp only [Act.put, List.getElem_toArray, List.getElem_cons_zero, List.getElem_cons_succ, List.setIfInBounds_toArray, List.set_cons_zero, List.set_cons_succ]
        go_wp2
        go_roundw
        case rel => exact ⟨k + m, by omega, hmn, by go_num, HG5.out, HB5.out⟩
        case measure => simp [intOf]; omega
    · obtain rfl : k = n := by omega
      rw [fillB_full] at hg
      have HGF := Lib.hid hg
      clear hg hb HG
      go_wp2_with fail
      go_ret
      exact ⟨rfl, HGF.out, HB.out⟩
end Go.Proofs.Ytopjmagbcnglhaa.Ij

namespace Go.Proofs.Ytopjmagbcnglhaa.Ij
set_option maxRecDepth 100000
open Go.RowKit Go.Deep Go.Joins

set_option maxHeartbeats 2000000 in
theorem grow_any (B n : Nat) (h1 : 1 ≤ n) (hn : n ≤ 1000000) (w : World) (hB : B ≤ w.heap.size) :
    Calls Try.prog 57 #[.slice none 0 0, .int .i64 n] w fun e w' => ∃ G, e = .returned (.slice (some ⟨w.heap.size, 0, none⟩) 0 G) ∧ w'.ownsRow B 5 1 (.slice (some ⟨w.heap.size, 0, none⟩) 0 G) 0 [] ∧ Below w.heap.size w w' := by
  obtain ⟨i0, hi, hz0, hz1, hz2⟩ := info_parts info8
  have h3 : ¬ ((n : Int) < 0) := by omega
  have h4 : (n : Int) > 0 := by omega
  have hold : (Builtin.firstCells i0.size 0 (.slice none 0 0)).run Try.prog w.drew = .ok (#[] : Array Value) w.drew := run_firstCells_none w.drew i0.size 0 0 0
  have hrz : ∀ ty, (Builtin.append_ #[29, 3] ty #[.slice none 0 0, .int .i64 (n : Int)]).run Try.prog w =
      .ok (.slice (some ⟨w.heap.size, 0, none⟩) n (grownCap w n 0 5)) (w.drew.alloc (.cells (#[] ++ Builtin.zeroCells (Value.int .u8 0).cells n ++ Builtin.zeroCells (Value.int .u8 0).cells (grownCap w n 0 5 - n)) 5)) := fun ty => by
    have h := Lib.run_append_grow_zeros w 29 3 ty 5 i0 (.int .u8 0) .i64 .i64 Try.underlying29 Try.underlying3 hi hz0 none 0 0 [] (by simpa using hold) n (by omega) (by omega) (by omega) (by omega) (by rw [hz2]; omega) (by rw [Nat.zero_add]; exact growslice_fits (by omega) (by rw [hz2]; omega))
    rw [Nat.zero_add] at h
    exact h
  have hGn : n ≤ grownCap w n 0 5 := grownCap_ge w _ _ _
  have hGm := grownCap_le_maxLen w n 0 5 (by unfold maxLen; omega)
  obtain ⟨G, hG⟩ : ∃ G, G = grownCap w n 0 5 := ⟨_, rfl⟩
  rw [← hG] at hrz hGn hGm
  have HGM := Lib.hid hGm
  have hG63 : G ≤ 9223372036854775807 := by unfold maxLen at hGm; omega
  have HW : Hid ((w.alloc (.cells (Builtin.zeroCells #[Value.int .u8 0] n ++ Builtin.zeroCells #[Value.int .u8 0] (G - n)) 5)).drew.ownsRow B 5 1 (.slice (some ⟨w.heap.size, 0, none⟩) 0 G) 0 []) := by
    refine ⟨rfl, .inr ⟨w.heap.size, G, _, rfl, hB, heap_alloc_new w _, Nat.zero_le _, hGm, ?_, rfl⟩⟩
    simp [Builtin.zeroCells]
    omega
  have HBW : Hid (Below w.heap.size w (w.alloc (.cells (Builtin.zeroCells #[Value.int .u8 0] n ++ Builtin.zeroCells #[Value.int .u8 0] (G - n)) 5)).drew) := ((Below.refl _ _).alloc (Nat.le_refl _) _).drew
  clear hold hG hGm
  go_enter Try.func57, Try.ntmps57
  go_wp2_with (at_builtin; refine Lib.wpList_append_run _ rfl _ _ _ _ rfl _ _ rfl rfl _ _ (hrz _) ?_)
  go_ret
  exact ⟨G, rfl, HW.out, HBW.out⟩

/-- The first k rows, one behind the other. -/
def joinR (rs : Nat → List Nat) : Nat → List Nat
  | 0 => []
  | k + 1 => joinR rs k ++ rs k
theorem joinR_mono (rs : Nat → List Nat) (k : Nat) : ∀ d, (joinR rs k).length ≤ (joinR rs (k + d)).length
  | 0 => Nat.le_refl _
  | d + 1 => by
    rw [← Nat.add_assoc, joinR, List.length_append]
    have := joinR_mono rs k d
    omega
set_option maxHeartbeats 4000000 in
theorem concat_any (gc n : Nat) (gi cp : Nat → Nat) (rs : Nat → List Nat) (h0 : 1 ≤ n) (hn : n ≤ 10) (hlen : ∀ i, i < n → 1 ≤ (rs i).length) (htot : (joinR rs n).length ≤ 100000) (w : World) (hgc : gc < w.heap.size)
    (hc : ∀ i, i < n → w.cell? ⟨gc, i, none⟩ = some (.slice (some ⟨gi i, 0, none⟩) (rs i).length (cp i))) (hr : ∀ i, i < n → gi i < w.heap.size ∧ ∀ q u, (cells8 (rs i))[q]? = some u → w.cell? ⟨gi i, q, none⟩ = some u) :
    Calls Try.prog 41 #[.slice (some ⟨gc, 0, none⟩) n n] w fun e w' => ∃ g cap, e = .returned (.slice (some ⟨g, 0, none⟩) (joinR rs n).length cap) ∧ w'.ownsRow w.heap.size 5 1 (.slice (some ⟨g, 0, none⟩) (joinR rs n).length cap) (joinR rs n).length (cells8 (joinR rs n)) ∧ Below w.heap.size w w' := by
  have HC := Lib.hid hc
  have HR := Lib.hid hr
  have HL := Lib.hid hlen
  have hmono : ∀ k, k ≤ n → (joinR rs k).length ≤ (joinR rs n).length := fun k hk => by
    have := joinR_mono rs k (n - k)
    rwa [show k + (n - k) = n by omega] at this
  have HMO := Lib.hid hmono
  have HTOT := Lib.hid htot
  have hpos : 1 ≤ (joinR rs n).length := by
    have h1 := hmono 1 h0
    have h2 := hlen 0 (by omega)
    have h3 : (joinR rs 1).length = (rs 0).length := by rw [joinR, joinR, List.nil_append]
    omega
  have HPOS := Lib.hid hpos
  have HJ := Lib.hid (fun k => show joinR rs (k + 1) = joinR rs k ++ rs k from rfl)
  have HG := Lib.hid (grow_any w.heap.size (joinR rs n).length hpos (by omega) w (Nat.le_refl _))
  clear hc hr hlen hmono htot hpos
  go_enter Try.func41, Try.ntmps41
  go_wp2_with fail
  go_loop [3, 11] (fun t i => ∃ k : Nat, k ≤ n ∧ i = .int .i64 (k : Nat) ∧ t = .int .i64 ((joinR rs k).length : Nat)) (fun _ i => n - (intOf i).toNat)
  case atStart => exact ⟨0, Nat.zero_le _, rfl, rfl⟩
  case round =>
    obtain ⟨k, hk, rfl, rfl⟩ := hrel
    by_cases hlt : k < n
    · have hcell := HC.out k hlt
      have hm1 := HMO.out (k + 1) (by omega)
      have hm2 := HMO.out k hk
      have hj := congrArg List.length (HJ.out k)
      rw [List.length_append] at hj
      have HJL := Lib.hid hj
      have htt := HTOT.out
      have hll : (rs k).length ≤ 100000 := by omega
      have hkk : (joinR rs k).length ≤ 100000 := by omega
      clear hm1 hm2 hj htt
      generalize (joinR rs k).length = a at *
      generalize (rs k).length = b at *
      go_wp2_with fail
      go_round
      case rel => exact ⟨k + 1, by omega, by go_num, by rw [HJL.out]; go_num⟩
      case measure => simp [intOf]; omega
    · obtain rfl : k = n := by omega
      have htt := HTOT.out
      go_wp2_with fail
      refine (HG.out).mono ?_; rintro e w1 ⟨G, rfl, hown, hb⟩
      have HO1 := Lib.hid hown
      have HB1 := Lib.hid hb
      clear hown hb HG
      obtain ⟨i0, hi, hz0, hz1, hz2⟩ := info_parts info8
      go_wp2_with fail
      go_loopw [6, 27] (fun v i wr => ∃ j g cap, j ≤ k ∧ i = .int .i64 (j : Nat) ∧ v = .slice (some ⟨g, 0, none⟩) (joinR rs j).length cap ∧ wr.ownsRow w.heap.size 5 1 v (joinR rs j).length (cells8 (joinR rs j)) ∧ Below w.heap.size w wr) (fun _ i _ => k - (intOf i).toNat)
      case atStart => exact ⟨0, w.heap.size, G, Nat.zero_le _, rfl, rfl, HO1.out, HB1.out⟩
      case round =>
        obtain ⟨j, g, cap, hj, rfl, rfl, ho, hb⟩ := hrel
        have HO := Lib.hid ho
        have HB := Lib.hid hb
        by_cases hjk : j < k
        · have hcell : wr.cell? ⟨gc, j, none⟩ = some (.slice (some ⟨gi j, 0, none⟩) (rs j).length (cp j)) := (hb.cell (p := ⟨gc, j, none⟩) hgc).trans (HC.out j hjk)
          have hgi := (HR.out j hjk).1
          have HRJ : Hid (∀ q u, (cells8 (rs j))[q]? = some u → wr.cell? ⟨gi j, q, none⟩ = some u) := fun q u hu => (hb.cell (p := ⟨gi j, q, none⟩) hgi).trans ((HR.out j hjk).2 q u hu)
          have hm1 := HMO.out (j + 1) (by omega)
          have hJ := congrArg List.length (HJ.out j)
          rw [List.length_append] at hJ
          have HJL := Lib.hid hJ
          have HJJ := Lib.hid (HJ.out j)
          have hll := HL.out j hjk
          have hsum : (joinR rs j).length + (rs j).length ≤ 100000 := by omega
          have hbase : w.heap.size ≤ wr.heap.size := hb.size
          have HCL : Hid ((cells8 (rs j)).length = (rs j).length) := by show _ = _; simp [cells8]
          have HON : Hid (∀ u ∈ cells8 (rs j), u.oneCell' = true) := by
            intro u hu
            unfold cells8 at hu
            rw [List.mem_map] at hu
            obtain ⟨_, _, rfl⟩ := hu
            rfl
          have HNW : Hid (∀ q u, (cells8 (rs j))[q]? = some u → wr.cell? ((⟨gi j, 0, none⟩ : Addr).add q) = some u) := by
            intro q u hu
            rw [Addr.add_lit, Nat.zero_add]
            exact HRJ.out q u hu
          clear ho hb hm1 hJ
          generalize hNE : cells8 (rs j) = news at *
          generalize hLE : (rs j).length = b at *
          generalize hLA : (joinR rs j).length = a at *
          have HNE := Lib.hid hNE
          clear hNE hLE hLA
          go_wp2_with (at_builtin; refine wpList_append_own_at _ rfl (.tmp 31) (.tmp 32) _ rfl w.heap.size 5 i0 (.int .u8 0) 1 1 Try.underlying29 hi hz0 hz1 hz2 rfl (by decide) _ a (cells8 (joinR rs j)) rfl HO.out ⟨gi j, 0, none⟩ b (cp j) news rfl ?c1 ?c2 ?c3 ?c4 ?c5 hbase ?_)
          case c1 => rw [HCL.out, Nat.mul_one]
          case c2 => exact HNW.out
          case c3 => exact HON.out
          case c4 => unfold maxLen; omega
          case c5 => omega
          intro v2 w2 hown hgrow _ hat
          have HB2 := Lib.hid (HB.out.grown hgrow hbase (by
            intro q hq
            have := HO.out.lt q hq
            exact this.1))
          obtain ⟨g2, cap2, hv2⟩ : ∃ g2 cap2, v2 = .slice (some ⟨g2, 0, none⟩) (a + b) cap2 := by
            rcases ownsRow_forms hown with ⟨rfl, h⟩ | ⟨g2, cap2, h⟩
            · omega
            · exact ⟨g2, cap2, h⟩
          subst hv2
          have HO2 : Hid (w2.ownsRow w.heap.size 5 1 (.slice (some ⟨g2, 0, none⟩) (a + b) cap2) (a + b) (cells8 (joinR rs (j + 1)))) := by
            show World.ownsRow _ _ _ _ _ _ _
            rw [HJJ.out, cells8_app, HNE.out]
            exact hown
          clear hown hgrow hat
          go_wp2
          go_roundw
          case rel => exact ⟨j + 1, g2, cap2, by omega, by go_num, by rw [HJL.out], by rw [HJL.out]; exact HO2.out, HB2.out⟩
          case measure => simp [intOf]; omega
        · obtain rfl : j = k := by omega
          clear ho hb
          go_wp2_with fail
          go_ret
          exact ⟨g, cap, rfl, HO.out, HB.out⟩
end Go.Proofs.Ytopjmagbcnglhaa.Ij
