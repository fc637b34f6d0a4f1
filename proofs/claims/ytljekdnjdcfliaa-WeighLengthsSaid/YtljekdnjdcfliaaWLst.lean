/-
  The document's merge and Least.
-/
import Derived.Test.YtljekdnjdcfliaaWeL
import Derived.Deep.RegionHeld3
import Derived.Deep.RegionLaw
import Derived.Deep.AppendLies
namespace Go.Proofs.Ytljekdnjdcfliaa
open Go.RowKit

def mgN1 (a : Nat) (rest : List Nat → List Nat) : List Nat → List Nat
  | [] => a :: rest []
  | b :: bs => if a ≤ b then a :: rest (b :: bs) else b :: mgN1 a rest bs
/-- Two rows of weights, merged. -/
def mgN : List Nat → List Nat → List Nat
  | [], bs => bs
  | a :: A, bs => mgN1 a (mgN A) bs
theorem mgN_nil (B : List Nat) : mgN [] B = B := rfl
theorem mgN_cons (a b : Nat) (A B : List Nat) : mgN (a :: A) (b :: B) = if a ≤ b then a :: mgN A (b :: B) else b :: mgN (a :: A) B := rfl
theorem mgN_nil_r (A : List Nat) : mgN A [] = A := by
  induction A with
  | nil => rfl
  | cons a A ih => show a :: mgN A [] = _; rw [ih]
theorem mg_fst (A B : List Ld) : (mg A B).map (·.1) = mgN (A.map (·.1)) (B.map (·.1)) := by
  induction A generalizing B with
  | nil => rfl
  | cons a A ih =>
    induction B with
    | nil => rw [mg_nil_r, List.map_nil, mgN_nil_r]
    | cons b B ihB =>
      rw [mg_cons, List.map_cons, List.map_cons, mgN_cons]
      split
      · rw [List.map_cons, ih]; rfl
      · rw [List.map_cons, ihB]; rfl
theorem mgN_one {A B : List Nat} {i j a : Nat} (ha : A[i]? = some a) (h : B[j]? = none ∨ ∃ b, B[j]? = some b ∧ a ≤ b) : mgN (A.drop i) (B.drop j) = a :: mgN (A.drop (i + 1)) (B.drop j) := by
  obtain ⟨hi, e⟩ := List.getElem?_eq_some_iff.1 ha
  rw [List.drop_eq_getElem_cons hi, e]
  rcases h with h | ⟨b, hb, hle⟩
  · rw [List.getElem?_eq_none_iff] at h
    rw [List.drop_eq_nil_of_le h, mgN_nil_r, mgN_nil_r]
  · obtain ⟨hj, e2⟩ := List.getElem?_eq_some_iff.1 hb
    rw [List.drop_eq_getElem_cons hj, e2, mgN_cons, if_pos hle]
theorem mgN_two {A B : List Nat} {i j b : Nat} (hb : B[j]? = some b) (h : A[i]? = none ∨ ∃ a, A[i]? = some a ∧ b < a) : mgN (A.drop i) (B.drop j) = b :: mgN (A.drop i) (B.drop (j + 1)) := by
  obtain ⟨hj, e⟩ := List.getElem?_eq_some_iff.1 hb
  rw [List.drop_eq_getElem_cons hj, e]
  rcases h with h | ⟨a, ha, hle⟩
  · rw [List.getElem?_eq_none_iff] at h
    rw [List.drop_eq_nil_of_le h, mgN_nil, mgN_nil]
  · obtain ⟨hi, e2⟩ := List.getElem?_eq_some_iff.1 ha
    rw [List.drop_eq_getElem_cons hi, e2, mgN_cons, if_neg (by omega)]
def rowV (W : List Nat) (k : Nat) : List Nat := (rowN W k).map (·.1)
def prsV (r : List Ld) : List Nat := (prs r).map (·.1)
theorem rowV_succ (W : List Nat) (k : Nat) : rowV W (k + 1) = mgN W (prsV (rowN W k)) := by
  unfold rowV prsV
  rw [rowN, nxt, mg_fst]
  congr 1
  simp [bts, Function.comp_def]
theorem rowV_one (W : List Nat) : rowV W 1 = W := by rw [rowV_succ]; exact mgN_nil_r W
theorem rowV_length (W : List Nat) (k : Nat) : (rowV W k).length = (rowN W k).length := by simp [rowV]

set_option maxRecDepth 100000 in
set_option maxHeartbeats 8000000 in
theorem rmerge_any (A B : Option Addr) (capA capB : Nat) (a b : List Nat) (ha : a.length ≤ 1000) (hb : b.length ≤ 1000) (w : World) (hA : Us w A a) (hB : Us w B b) :
    Calls Try.prog 58 #[.slice A a.length capA, .slice B b.length capB] w fun e w' => ∃ C, (∃ c, e = .returned (.slice C (mgN a b).length c)) ∧ Us w' C (mgN a b) ∧ Below w.heap.size w w' := by
  have HA := Lib.hid hA
  have HB0 := Lib.hid hB
  clear hA hB
  obtain ⟨i0, hi, hz0, hz1, hz2⟩ := info_parts info_u64
  generalize hm : a.length = m at *
  generalize hk : b.length = k at *
  have HMK : Hid (a.length = m ∧ b.length = k) := ⟨hm, hk⟩
  clear hm hk
  go_enter Try.func58, Try.ntmps58
  go_wp2
  go_loopw [5, 6, 7] (fun v si sj wr => ∃ (i j : Nat) (done : List Nat), i ≤ m ∧ j ≤ k ∧ si = .int .i64 i ∧ sj = .int .i64 j ∧ done.length = i + j ∧ wr.ownsRow w.heap.size 26 1 v (i + j) (uV done) ∧ done ++ mgN (a.drop i) (b.drop j) = mgN a b ∧ Below w.heap.size w wr) (fun _ si sj _ => (m - (intOf si).toNat) + (k - (intOf sj).toNat))
  case atStart => exact ⟨0, 0, [], Nat.zero_le _, Nat.zero_le _, rfl, rfl, rfl, World.ownsRow_nil _ _ _ _, rfl, Below.refl _ _⟩
  case round =>
    obtain ⟨i, j, done, hil, hjl, rfl, rfl, hdl, hown, hT, hbr⟩ := hrel
    have HO := Lib.hid hown
    have HT := Lib.hid hT
    have HBR := Lib.hid hbr
    have HDL := Lib.hid hdl
    clear hown hT hbr hdl
    by_cases hik : i < m
    · obtain ⟨x, hx⟩ : ∃ x, a[i]? = some x := ⟨_, List.getElem?_eq_getElem (by rw [HMK.out.1]; exact hik)⟩
      obtain ⟨bA, oA, rfl, hbA, hcA⟩ := HA.out (by rw [HMK.out.1]; omega)
      have x1 := (HBR.out.cell (p := ⟨bA, oA + i, none⟩) hbA).trans (hcA i x hx)
      clear hcA
      by_cases hjk : j < k
      · obtain ⟨y, hy⟩ : ∃ y, b[j]? = some y := ⟨_, List.getElem?_eq_getElem (by rw [HMK.out.2]; exact hjk)⟩
        obtain ⟨bB, oB, rfl, hbB, hcB⟩ := HB0.out (by rw [HMK.out.2]; omega)
        have y1 := (HBR.out.cell (p := ⟨bB, oB + j, none⟩) hbB).trans (hcB j y hy)
        clear hcB
        have n1 : ¬ k ≤ j := by omega
        have d1 : decide (k ≤ j) = false := decide_eq_false (by omega)
        have d2 : decide (i < m) = true := decide_eq_true (by omega)
        by_cases hxy : x ≤ y
        · have HST := Lib.hid (mgN_one (j := j) hx (.inr ⟨y, hy, hxy⟩))
          have d3 : decide (x ≤ y) = true := decide_eq_true (by omega)
          clear hx hy
          go_wp2_with fail
          go_quiet (fail)
          go_wp2_with (at_builtin; refine wpList_append_own _ rfl _ _ 107 rfl w.heap.size 26 i0 (.int .u64 0) 1 8 Try.underlying107 hi hz0 hz1 hz2 rfl (by decide) _ _ _ rfl ((show (wr.drewN nq).ownsRow w.heap.size 26 1 _ (i + j) (uV done) from HO.out).alloc _) ⟨wr.heap.size, 0, none⟩ 1 1 [.int .u64 (x : Nat)] rfl rfl (one_cell (heap_alloc_new (wr.drewN nq) _)) (one_one x) (by unfold maxLen; omega) (by omega) (by have := HBR.out.size; simp; omega) ?_)
          intro v' w3 hown3 hgrow3 _
          have HOW := Lib.hid (fun h => (HO.out.lt h))
          have HB3 := Lib.hid ((below_alloc (below_drewN HBR.out nq) (.cells #[.int .u64 (x : Nat)] 26)).grown hgrow3 (by have := HBR.out.size; simp; omega) (fun h e => (HOW.out h e).1))
          have HO3 := Lib.hid (show w3.ownsRow w.heap.size 26 1 v' (i + j + 1) (uV (done ++ [x])) by rw [uV_snoc]; exact hown3)
          clear hown3 hgrow3
          go_wp2_with fail
          go_roundw
          case rel => exact ⟨i + 1, j, done ++ [x], by omega, by omega, by first | rfl | go_num, by first | rfl | go_num, by rw [List.length_append, HDL.out]; simp; omega, by first | exact HO3.out | (rw [show i + 1 + (j) = i + j + 1 by omega]; exact HO3.out), by rw [List.append_assoc, List.singleton_append, ← HST.out]; exact HT.out, HB3.out⟩
          case measure => simp [intOf]; omega
        · have HST := Lib.hid (mgN_two (i := i) hy (.inr ⟨x, hx, by omega⟩))
          have d3 : decide (x ≤ y) = false := decide_eq_false (by omega)
          clear hx hy
          go_wp2_with fail
          go_quiet (fail)
          go_wp2_with (at_builtin; refine wpList_append_own _ rfl _ _ 107 rfl w.heap.size 26 i0 (.int .u64 0) 1 8 Try.underlying107 hi hz0 hz1 hz2 rfl (by decide) _ _ _ rfl ((show (wr.drewN nq).ownsRow w.heap.size 26 1 _ (i + j) (uV done) from HO.out).alloc _) ⟨wr.heap.size, 0, none⟩ 1 1 [.int .u64 (y : Nat)] rfl rfl (one_cell (heap_alloc_new (wr.drewN nq) _)) (one_one y) (by unfold maxLen; omega) (by omega) (by have := HBR.out.size; simp; omega) ?_)
          intro v' w3 hown3 hgrow3 _
          have HOW := Lib.hid (fun h => (HO.out.lt h))
          have HB3 := Lib.hid ((below_alloc (below_drewN HBR.out nq) (.cells #[.int .u64 (y : Nat)] 26)).grown hgrow3 (by have := HBR.out.size; simp; omega) (fun h e => (HOW.out h e).1))
          have HO3 := Lib.hid (show w3.ownsRow w.heap.size 26 1 v' (i + j + 1) (uV (done ++ [y])) by rw [uV_snoc]; exact hown3)
          clear hown3 hgrow3
          go_wp2_with fail
          go_roundw
          case rel => exact ⟨i, j + 1, done ++ [y], by omega, by omega, by first | rfl | go_num, by first | rfl | go_num, by rw [List.length_append, HDL.out]; simp; omega, by first | exact HO3.out | (rw [show i + (j + 1) = i + j + 1 by omega]; exact HO3.out), by rw [List.append_assoc, List.singleton_append, ← HST.out]; exact HT.out, HB3.out⟩
          case measure => simp [intOf]; omega
      · have hje : j = k := by omega
        have HST := Lib.hid (mgN_one (B := b) (j := j) hx (.inl (by rw [List.getElem?_eq_none_iff, HMK.out.2]; omega)))
        have n1 : k ≤ j := by omega
        have d1 : decide (k ≤ j) = true := decide_eq_true (by omega)
        clear hx
        have HJE := Lib.hid hje
        clear hje
        go_wp2_with fail
        go_quiet (fail)
        go_wp2_with (at_builtin; refine wpList_append_own _ rfl _ _ 107 rfl w.heap.size 26 i0 (.int .u64 0) 1 8 Try.underlying107 hi hz0 hz1 hz2 rfl (by decide) _ _ _ rfl ((show (wr.drewN nq).ownsRow w.heap.size 26 1 _ (i + j) (uV done) from HO.out).alloc _) ⟨wr.heap.size, 0, none⟩ 1 1 [.int .u64 (x : Nat)] rfl rfl (one_cell (heap_alloc_new (wr.drewN nq) _)) (one_one x) (by unfold maxLen; omega) (by omega) (by have := HBR.out.size; simp; omega) ?_)
        intro v' w3 hown3 hgrow3 _
        have HOW := Lib.hid (fun h => (HO.out.lt h))
        have HB3 := Lib.hid ((below_alloc (below_drewN HBR.out nq) (.cells #[.int .u64 (x : Nat)] 26)).grown hgrow3 (by have := HBR.out.size; simp; omega) (fun h e => (HOW.out h e).1))
        have HO3 := Lib.hid (show w3.ownsRow w.heap.size 26 1 v' (i + j + 1) (uV (done ++ [x])) by rw [uV_snoc]; exact hown3)
        clear hown3 hgrow3
        go_wp2_with fail
        go_roundw
        case rel => exact ⟨i + 1, j, done ++ [x], by omega, by omega, by first | rfl | go_num, by first | rfl | go_num, by rw [List.length_append, HDL.out]; simp; omega, by first | exact HO3.out | (rw [show i + 1 + (j) = i + j + 1 by omega]; exact HO3.out), by rw [List.append_assoc, List.singleton_append, ← HST.out]; exact HT.out, HB3.out⟩
        case measure => simp [intOf]; omega
    · have hie : i = m := by omega
      by_cases hjk : j < k
      · obtain ⟨y, hy⟩ : ∃ y, b[j]? = some y := ⟨_, List.getElem?_eq_getElem (by rw [HMK.out.2]; exact hjk)⟩
        obtain ⟨bB, oB, rfl, hbB, hcB⟩ := HB0.out (by rw [HMK.out.2]; omega)
        have y1 := (HBR.out.cell (p := ⟨bB, oB + j, none⟩) hbB).trans (hcB j y hy)
        clear hcB
        have HST := Lib.hid (mgN_two (A := a) (i := i) hy (.inl (by rw [List.getElem?_eq_none_iff, HMK.out.1]; omega)))
        have n1 : ¬ k ≤ j := by omega
        have d1 : decide (k ≤ j) = false := decide_eq_false (by omega)
        have n2 : ¬ i < m := by omega
        have d2 : decide (i < m) = false := decide_eq_false (by omega)
        clear hy
        have HIE := Lib.hid hie
        clear hie
        go_wp2_with fail
        go_quiet (fail)
        go_wp2_with (at_builtin; refine wpList_append_own _ rfl _ _ 107 rfl w.heap.size 26 i0 (.int .u64 0) 1 8 Try.underlying107 hi hz0 hz1 hz2 rfl (by decide) _ _ _ rfl ((show (wr.drewN nq).ownsRow w.heap.size 26 1 _ (i + j) (uV done) from HO.out).alloc _) ⟨wr.heap.size, 0, none⟩ 1 1 [.int .u64 (y : Nat)] rfl rfl (one_cell (heap_alloc_new (wr.drewN nq) _)) (one_one y) (by unfold maxLen; omega) (by omega) (by have := HBR.out.size; simp; omega) ?_)
        intro v' w3 hown3 hgrow3 _
        have HOW := Lib.hid (fun h => (HO.out.lt h))
        have HB3 := Lib.hid ((below_alloc (below_drewN HBR.out nq) (.cells #[.int .u64 (y : Nat)] 26)).grown hgrow3 (by have := HBR.out.size; simp; omega) (fun h e => (HOW.out h e).1))
        have HO3 := Lib.hid (show w3.ownsRow w.heap.size 26 1 v' (i + j + 1) (uV (done ++ [y])) by rw [uV_snoc]; exact hown3)
        clear hown3 hgrow3
        go_wp2_with fail
        go_roundw
        case rel => exact ⟨i, j + 1, done ++ [y], by omega, by omega, by first | rfl | go_num, by first | rfl | go_num, by rw [List.length_append, HDL.out]; simp; omega, by first | exact HO3.out | (rw [show i + (j + 1) = i + j + 1 by omega]; exact HO3.out), by rw [List.append_assoc, List.singleton_append, ← HST.out]; exact HT.out, HB3.out⟩
        case measure => simp [intOf]; omega
      · have hd : done = mgN a b := by
          have := HT.out
          rw [List.drop_eq_nil_of_le (by rw [HMK.out.1]; omega), List.drop_eq_nil_of_le (by rw [HMK.out.2]; omega)] at this
          simpa [mgN_nil] using this
        have hO3 := HO.out
        rw [← HDL.out, hd] at hO3
        obtain ⟨C, c, rfl, hus⟩ := us_of_owns hO3
        have HUS := Lib.hid hus
        clear hd hO3 hus HO
        go_wp2_with fail
        go_ret
        exact ⟨C, ⟨c, rfl⟩, HUS.out, HBR.out⟩

/-! ## Least -/
/-- The counts that aren't 0, sorted. -/
def sgL (f : Nat → Nat) : Nat → List Nat
  | 0 => []
  | k + 1 => if 0 < f k then insL (f k) (sgL f k) else sgL f k
theorem sgL_perm (f : Nat → Nat) (k : Nat) : (sgL f k).Perm ((comeL f k).map f) := by
  induction k with
  | zero => exact List.Perm.refl _
  | succ k ih =>
    rw [sgL, comeL]
    split
    · rw [List.map_append]
      exact (insL_perm _ _).trans ((List.Perm.cons _ ih).trans (by simpa using (List.perm_append_comm (l₁ := [f k]) (l₂ := (comeL f k).map f))))
    · exact ih
theorem sgL_srt (f : Nat → Nat) (k : Nat) : (sgL f k).Pairwise (· ≤ ·) := by
  induction k with
  | zero => exact List.Pairwise.nil
  | succ k ih =>
    rw [sgL]
    split
    · exact insL_srt _ _ ih
    · exact ih
theorem sgL_len (f : Nat → Nat) (k : Nat) : (sgL f k).length = (comeL f k).length := by rw [(sgL_perm f k).length_eq, List.length_map]
theorem prsV_take (r : List Ld) (t : Nat) (h : 2 * t + 1 < r.length) : (prsV r).take (t + 1) = (prsV r).take t ++ [((r.map (·.1))[2 * t]?.getD 0) + ((r.map (·.1))[2 * t + 1]?.getD 0)] := by
  rw [List.take_add_one]
  congr 1
  unfold prsV
  rw [List.getElem?_map, prs_get r t h, List.getElem?_map, List.getElem?_map, List.getElem?_eq_getElem (show 2 * t < r.length by omega), List.getElem?_eq_getElem h]
  rfl
theorem prsV_length (r : List Ld) : (prsV r).length = r.length / 2 := by simp [prsV, prs_length]
theorem sumv_take (l : List Nat) (k : Nat) (h : k < l.length) : (l.take (k + 1)).sum = (l.take k).sum + l[k]?.getD 0 := by
  rw [List.take_add_one, List.sum_append, List.getElem?_eq_getElem h]
  simp
theorem sum_bound (l : List Nat) (B k : Nat) (h : ∀ x ∈ l, x < B) : (l.take k).sum ≤ k * B := by
  induction k generalizing l with
  | zero => simp
  | succ k ih =>
    cases l with
    | nil => simp
    | cons x l =>
      have := ih l (fun y hy => h y (by simp [hy]))
      have := h x (by simp)
      rw [List.take_succ_cons, List.sum_cons, Nat.succ_mul]
      omega
theorem row_small40 (W : List Nat) (hW : ∀ x ∈ W, x < 4294967296) (k : Nat) (hk : k ≤ 15) : ∀ x ∈ rowV W k, x < 140737488355329 := fun x hx => by
  unfold rowV at hx
  obtain ⟨y, hy, rfl⟩ := List.mem_map.1 hx
  have h := row_small W hW k (by omega) y hy
  have h1 : (2 : Nat) ^ k ≤ 2 ^ 15 := Nat.pow_le_pow_right (by omega) hk
  have h2 : 4294967296 * 2 ^ k ≤ 4294967296 * 32768 := Nat.mul_le_mul_left _ h1
  omega

set_option maxRecDepth 100000 in
set_option maxHeartbeats 16000000 in
theorem least_any (A : Option Addr) (n cap most : Nat) (f : Nat → Nat) (w : World) (hC : Cts w A n f) (hn : n ≤ 400) (hm : 1 ≤ most) (hm15 : most ≤ 15) (h2 : 2 ≤ (comeL f n).length) (hpow : (comeL f n).length ≤ 2 ^ most) :
    Calls Try.prog 34 #[.slice A n cap, .int .i64 most] w fun e w' => e = .returned (.int .u64 (leastOf (sgL f n) most : Nat)) ∧ Below w.heap.size w w' := by
  have HC := Lib.hid hC
  clear hC
  obtain ⟨i0, hi, hz0, hz1, hz2⟩ := info_parts info_u64
  go_enter Try.func34, Try.ntmps34
  go_wp2_with fail
  go_loopw [5, 16] (fun v i wr => ∃ (k : Nat) (B : Option Addr) (c : Nat), k ≤ n ∧ i = .int .i64 k ∧ v = .slice B (sgL f k).length c ∧ Us wr B (sgL f k) ∧ Below w.heap.size w wr) (fun _ i _ => n - (intOf i).toNat)
  case atStart => exact ⟨0, none, 0, Nat.zero_le _, rfl, rfl, fun h => by simp [sgL] at h, Below.refl _ _⟩
  case round =>
    obtain ⟨k, B, c, hk, rfl, rfl, hus, hb⟩ := hrel
    have HU := Lib.hid hus
    have HB := Lib.hid hb
    clear hus hb
    by_cases hlt : k < n
    · obtain ⟨b, off, rfl, hbl, hcc⟩ := HC.out (by omega)
      have c1 := (HB.out.cell (p := ⟨b, off + k, none⟩) hbl).trans (hcc k hlt).1
      have hfx := (hcc k hlt).2
      have hll := sgL_len f k
      have hle := comeL_le f k
      clear hcc
      by_cases hf : 0 < f k
      · have HS : Hid (sgL f (k + 1) = insL (f k) (sgL f k)) := by rw [Hid, sgL, if_pos hf]
        have HIN := Lib.hid (insert_any B c (f k) (sgL f k) (by omega) wr HU.out)
        clear hll hle
        generalize f k = x at *
        go_wp2_with fail
        refine (HIN.out).mono ?_
        rintro e w2 ⟨D, ⟨d, rfl⟩, hus2, hb2⟩
        have HU2 := Lib.hid hus2
        have HB2 := Lib.hid (below_then' HB.out hb2)
        clear hus2 hb2
        go_wp2_with fail
        go_roundw
        case rel => exact ⟨k + 1, D, d, by omega, by go_num, by rw [HS.out], by rw [HS.out]; exact HU2.out, HB2.out⟩
        case measure => simp [intOf]; omega
      · have hf0 : f k = 0 := by omega
        have HS : Hid (sgL f (k + 1) = sgL f k) := by rw [Hid, sgL, if_neg hf]
        rw [hf0] at c1
        clear hll hle
        go_wp2_with fail
        go_roundw
        case rel => exact ⟨k + 1, B, c, by omega, by go_num, by rw [HS.out], by rw [HS.out]; exact HU.out, HB.out⟩
        case measure => simp [intOf]; omega
    · obtain rfl : k = n := by omega
      have hll := sgL_len f k
      have hle := comeL_le f k
      have hWb : ∀ x ∈ sgL f k, x < 4294967296 := fun x hx => by
        obtain ⟨s, hs, rfl⟩ := List.mem_map.1 ((sgL_perm f k).mem_iff.1 hx)
        obtain ⟨_, _, _, _, hcc⟩ := HC.out (by omega)
        exact (hcc s (comeL_lt f k s hs).1).2
      have HWB := Lib.hid hWb
      have HEN := Lib.hid (row_enough (sgL f k) most hm (by omega) (by omega))
      have HR1 : Hid (rowV (sgL f k) 1 = sgL f k) := rowV_one _
      rw [← hll] at h2 hpow
      clear hWb HC hpow
      have hN4 : (sgL f k).length ≤ 400 := by omega
      clear hll hle hlt hk
      generalize hW : sgL f k = W at *
      have HWE := Lib.hid hW
      clear hW
      generalize hNW : W.length = N at *
      have HNW := Lib.hid hNW
      clear hNW
      go_wp2_with fail
      have HBS := Lib.hid (show Hid (Us wr B W) from HU)
      have HBW := Lib.hid HB.out
      clear HU HB
      go_loopw [8, 9] (fun vr vi w1 => ∃ (j : Nat) (R : Option Addr) (cr : Nat), 1 ≤ j ∧ j ≤ most ∧ vi = .int .i64 j ∧ vr = .slice R (rowV W j).length cr ∧ Us w1 R (rowV W j) ∧ Us w1 B W ∧ Below w.heap.size w w1) (fun _ vi _ => most - (intOf vi).toNat)
      case atStart => exact ⟨1, B, c, Nat.le_refl _, hm, rfl, by rw [HR1.out, HNW.out], by rw [HR1.out]; exact HBS.out.out, HBS.out.out, HBW.out⟩
      case round =>
        obtain ⟨j, R, cr, hj1, hjm, rfl, rfl, hur, hub, hb1⟩ := hrel
        generalize hww : wr = w1 at *
        clear hww
        have HUR := Lib.hid hur
        have HUB := Lib.hid hub
        have HB1 := Lib.hid hb1
        clear hur hub hb1
        have hL2 := row_le W j
        rw [HNW.out] at hL2
        by_cases hlt : j < most
        · have hsm := row_small40 W HWB.out j (by omega)
          have HSM := Lib.hid hsm
          have HRS := Lib.hid (rowV_succ W j)
          have HPT := Lib.hid (fun t (h : 2 * t + 1 < (rowN W j).length) => prsV_take (rowN W j) t h)
          have HPL := Lib.hid (prsV_length (rowN W j))
          have HRL := Lib.hid (rowV_length W j)
          have HRV : Hid ((rowN W j).map (·.1) = rowV W j) := rfl
          clear hsm
          rw [← HRL.out] at hL2
          generalize hP : prsV (rowN W j) = P at *
          generalize hr : rowV W j = r at *
          generalize hL : r.length = L at *
          have HLL := Lib.hid hL
          clear hP hr hL
          go_wp2_with fail
          go_loopw [10, 11] (fun v vk w2 => ∃ t : Nat, t ≤ L / 2 ∧ vk = .int .i64 (2 * t : Nat) ∧ w2.ownsRow w1.heap.size 26 1 v t (uV (P.take t)) ∧ Below w1.heap.size w1 w2) (fun _ vk _ => L - (intOf vk).toNat)
          case atStart => exact ⟨0, Nat.zero_le _, rfl, World.ownsRow_nil _ _ _ _, Below.refl _ _⟩
          case round =>
            obtain ⟨t, ht, rfl, hown, hb2⟩ := hrel
            have HO2 := Lib.hid hown
            have HB2 := Lib.hid hb2
            clear hown hb2
            generalize hww : wr = w2 at *
            clear hww
            by_cases hlt2 : 2 * t + 1 < L
            · obtain ⟨b, off, rfl, hbl, hcc⟩ := HUR.out (by rw [HLL.out]; omega)
              have e1 := List.getElem?_eq_getElem (show 2 * t < r.length by rw [HLL.out]; omega)
              have e2 := List.getElem?_eq_getElem (show 2 * t + 1 < r.length by rw [HLL.out]; omega)
              have c1 := (HB2.out.cell (p := ⟨b, off + 2 * t, none⟩) hbl).trans (hcc _ _ e1)
              have c2 := (HB2.out.cell (p := ⟨b, off + (2 * t + 1), none⟩) hbl).trans (hcc _ _ e2)
              have s1 := HSM.out _ (List.getElem_mem (show 2 * t < r.length by rw [HLL.out]; omega))
              have s2 := HSM.out _ (List.getElem_mem (show 2 * t + 1 < r.length by rw [HLL.out]; omega))
              have HTK : Hid (P.take (t + 1) = P.take t ++ [r[2 * t]'(by rw [HLL.out]; omega) + r[2 * t + 1]'(by rw [HLL.out]; omega)]) := by
                rw [Hid, HPT.out t (by rw [← HRL.out]; exact hlt2), HRV.out, e1, e2]; rfl
              clear hcc e1 e2
              generalize r[2 * t]'(by rw [HLL.out]; omega) = x at *
              generalize r[2 * t + 1]'(by rw [HLL.out]; omega) = y at *
              generalize hq : 2 * t = q at *
              have HQ := Lib.hid hq
              clear hq
              have hq2 : t ≤ q := by have := HQ.out; omega
              have v1 : IntKind.i64.wrap ((q : Int) + 1) = ((q + 1 : Nat) : Int) := by rw [IntKind.wrap_i64]; omega
              obtain ⟨z, v2, hzz⟩ : ∃ z : Nat, IntKind.u64.wrap ((x : Int) + (y : Int)) = (z : Int) ∧ x + y = z := ⟨x + y, by rw [IntKind.wrap_u64]; omega, rfl⟩
              rw [hzz] at HTK
              clear hzz s1 s2
              have v3 : (q : Int) + 1 < L := by omega
              have v4 : (q : Int) < L := by omega
              have v5 : (0 : Int) ≤ (q : Int) + 1 := by omega
              have v6 : IntKind.i64.wrap ((q : Int) + 2) = ((q + 2 : Nat) : Int) := by rw [IntKind.wrap_i64]; omega
              go_wp2_with fail
              go_region_law ((refine step_append_lies _ (by rfl) (.tmp 40) (.tmp 51) _ (by rfl) w1.heap.size 26 i0 (.int .u64 0) 1 8 Try.underlying107 hi hz0 hz1 hz2 rfl (by decide) u10 t (uV (P.take t)) (by rfl) (HO2.out.alloc _).drew ⟨w2.heap.size, 0, none⟩ 1 1 [.int .u64 (z : Nat)] (by rfl) rfl (by exact World.news_of_block (heap_alloc_new _ _)) (by intro u hu; simp at hu; subst hu; rfl) (by omega) (by unfold maxLen; omega) (by omega) (by have := HB2.out.size; simp; omega) (w2.heap.size + 1) (by simp) ?_; intro g2 cap2 w3 hown3 hgrow3 hat hlt3))
              all_goals
                have HOW := Lib.hid (fun h => (HO2.out.lt h))
                have HB3 := Lib.hid (((below_alloc HB2.out (.cells #[.int .u64 (z : Nat)] 26)).drew).grown hgrow3 (by have := HB2.out.size; simp; omega) (fun h e => (HOW.out h e).1))
                have HO3 := Lib.hid (show w3.ownsRow w1.heap.size 26 1 (.slice (some ⟨g2, 0, none⟩) (t + 1) cap2) (t + 1) (uV (P.take (t + 1))) by rw [HTK.out, uV_snoc]; exact hown3)
                clear hown3 hgrow3
                go_wp2_with fail
                go_roundw
                case rel => exact ⟨t + 1, by have := HQ.out; omega, by have := HQ.out; congr 1; omega, HO3.out, HB3.out⟩
                case measure => simp [intOf]; omega
            · have ht2 : t = L / 2 := by omega
              have hle : L / 2 ≤ 400 := by omega
              have htk : P.take t = P := List.take_of_length_le (by rw [HPL.out, ← HRL.out]; omega)
              have hO3 := HO2.out
              rw [htk, ht2, show L / 2 = P.length by rw [HPL.out, ← HRL.out]] at hO3
              obtain ⟨Q, cq, rfl, hus⟩ := us_of_owns hO3
              have hPl : P.length ≤ 1000 := by rw [HPL.out, ← HRL.out]; omega
              have hmg := rmerge_any B Q c cq W P (by rw [HNW.out]; omega) hPl w2 (HUB.out.below (Nat.le_refl _) HB2.out) hus
              rw [HNW.out, ← HRS.out] at hmg
              have HMG := Lib.hid hmg
              have v3 : ¬ ((2 * t : Nat) : Int) + 1 < L := by omega
              have v1 : IntKind.i64.wrap (((2 * t : Nat) : Int) + 1) = ((2 * t + 1 : Nat) : Int) := by rw [IntKind.wrap_i64]; omega
              have HU2 := Lib.hid (HUB.out.below (Nat.le_refl _) HB2.out)
              have HB12 := Lib.hid (below_then' HB1.out HB2.out)
              clear hmg hus hO3 htk hPl
              generalize hpl : P.length = pl at *
              clear hpl
              clear ht2
              generalize hq : 2 * t = q at *
              clear hq
              go_wp2_with fail
              refine (HMG.out).mono ?_
              rintro e w4 ⟨D, ⟨d, rfl⟩, hus4, hb4⟩
              have HU4 := Lib.hid hus4
              have HUB4 := Lib.hid (HU2.out.below (Nat.le_refl _) hb4)
              have HB4 := Lib.hid (below_then' HB12.out hb4)
              clear hus4 hb4
              go_wp2_with fail
              go_roundw
              case rel => exact ⟨j + 1, D, d, by omega, by omega, by go_num, rfl, HU4.out, HUB4.out, HB4.out⟩
              case measure => simp [intOf]; omega
        · have hje : j = most := by omega
          have hbd := row_small40 W HWB.out most hm15
          have HBD := Lib.hid (fun i => sum_bound (rowV W most) 140737488355329 i hbd)
          have HST := Lib.hid (fun i (h : i < (rowV W most).length) => sumv_take (rowV W most) i h)
          have hen : 2 * N - 2 ≤ (rowV W most).length := by have h := HEN.out; rw [← rowV_length] at h; exact h
          have HFIN : Hid (((rowV W most).take (2 * N - 2)).sum = leastOf W most) := by
            rw [Hid, leastOf, HNW.out, sw, rowV, List.map_take]
          have HBDM := Lib.hid hbd
          clear hbd
          subst hje
          generalize rowV W j = r at *
          generalize hlo : leastOf W j = lo at *
          have HLO := Lib.hid hlo
          clear hlo
          generalize hL : r.length = L at *
          have HLL := Lib.hid hL
          clear hL
          have w5 : IntKind.i64.wrap (2 * (N : Int)) = 2 * N := by rw [IntKind.wrap_i64]; omega
          have w6 : IntKind.i64.wrap (2 * (N : Int) - 2) = ((2 * N - 2 : Nat) : Int) := by rw [IntKind.wrap_i64]; omega
          go_wp2_with fail
          go_loopw [12, 13] (fun vs vi w2 => ∃ i : Nat, i ≤ 2 * N - 2 ∧ vi = .int .i64 i ∧ vs = .int .u64 ((r.take i).sum : Nat) ∧ w2 = w1) (fun _ vi _ => 2 * N - (intOf vi).toNat)
          case atStart => exact ⟨0, Nat.zero_le _, rfl, by simp, rfl⟩
          case round =>
            obtain ⟨i, hi2, rfl, rfl, rfl⟩ := hrel
            by_cases hlt2 : i < 2 * N - 2
            · obtain ⟨b, off, rfl, hbl, hcc⟩ := HUR.out (by rw [HLL.out]; omega)
              have e1 := List.getElem?_eq_getElem (show i < r.length by rw [HLL.out]; omega)
              have c1 := hcc _ _ e1
              have s1 := HBDM.out _ (List.getElem_mem (show i < r.length by rw [HLL.out]; omega))
              have hst := HST.out i (by omega)
              rw [e1] at hst
              have HSTT := Lib.hid hst
              have hsb := HBD.out i
              clear hcc e1 hst
              simp only [Option.getD_some] at HSTT
              generalize r[i]'(by rw [HLL.out]; omega) = x at *
              generalize (r.take i).sum = sm at *
              have v1 : (i : Int) < ((2 * N - 2 : Nat) : Int) := by omega
              have v2 : IntKind.u64.wrap ((sm : Int) + (x : Int)) = (sm : Int) + x := by rw [IntKind.wrap_u64]; omega
              have v3 : (i : Int) < L := by omega
              have v4 : i < L := by omega
              go_wp2_with fail
              go_roundw
              case rel => exact ⟨i + 1, by omega, by go_num, by rw [HSTT.out]; go_num, by first | rfl | trivial⟩
              case measure => simp [intOf]; omega
            · have hie : i = 2 * N - 2 := by omega
              have v1 : ¬ (i : Int) < ((2 * N - 2 : Nat) : Int) := by omega
              rw [hie, HFIN.out]
              clear hie
              go_wp2_with fail
              go_ret
              exact ⟨by rw [HWE.out, HLO.out]; rfl, HB1.out⟩
end Go.Proofs.Ytljekdnjdcfliaa
