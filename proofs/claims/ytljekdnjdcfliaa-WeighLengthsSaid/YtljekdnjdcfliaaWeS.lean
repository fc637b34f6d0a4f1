/-
  slices.SortStableFunc over signs: what compares; the insertion sort.
-/
import Derived.Test.YtljekdnjdcfliaaWeC
import Derived.BigQuiet
namespace Go.Proofs.Ytljekdnjdcfliaa
open Go.RowKit

def cmpI (x y : Nat) : Int := if x < y then -1 else if y < x then 1 else 0

theorem nan_any (x : Int) (w : World) : Calls Try.prog 70 #[.int .u32 x] w fun e w' => e = .returned (.bool false) ∧ w' = w := by
  go_enter Try.func70, Try.ntmps70
  go_wp2
  go_ret
  exact ⟨rfl, rfl⟩
set_option maxHeartbeats 2000000 in
theorem compare_any (x y : Nat) (w : World) : Calls Try.prog 64 #[.int .u32 x, .int .u32 y] w fun e w' => e = .returned (.int .i64 (cmpI x y)) ∧ w' = w := by
  go_enter Try.func64, Try.ntmps64
  go_wp2_with (go_at_call 70; refine (nan_any _ _).mono ?_; rintro e w' ⟨rfl, rfl⟩)
  · have h1 : x < y := by assumption
    go_ret
    exact ⟨by rw [cmpI, if_pos h1]; rfl, rfl⟩
  · have h1 : ¬ x < y := by assumption
    have h2 : y < x := by assumption
    go_ret
    exact ⟨by rw [cmpI, if_neg h1, if_pos h2]; rfl, rfl⟩
  · have h1 : ¬ x < y := by assumption
    have h2 : ¬ y < x := by assumption
    go_ret
    exact ⟨by rw [cmpI, if_neg h1, if_neg h2]; rfl, rfl⟩

set_option maxHeartbeats 4000000 in
/-- The function that compares two signs by their counts. -/
theorem cmp_any (pc : Nat) (A : Option Addr) (n capA : Nat) (f : Nat → Nat) (a b : Nat) (w : World) (hC : Cts w A n f) (hp : w.cell? ⟨pc, 0, none⟩ = some (.slice A n capA)) (ha : a < n) (hb : b < n) :
    Calls Try.prog 63 #[.int .i64 a, .int .i64 b, .pointer (some ⟨pc, 0, none⟩)] w fun e w' => e = .returned (.int .i64 (cmpI (f a) (f b))) ∧ ∃ d, w' = w.drewN d := by
  obtain ⟨bk, off, rfl, hbl, hc⟩ := hC (by omega)
  have c1 := (hc a ha).1
  have c2 := (hc b hb).1
  clear hc hC
  generalize f a = x at *
  generalize f b = y at *
  go_enter Try.func63, Try.ntmps63
  go_wp2
  go_quiet (first | (go_at_call 64; exact Calls.quiet_of_same (compare_any _ _ _)))
  go_wp2
  go_ret
  exact ⟨rfl, _, rfl⟩

/-! ## Lists of signs, moved about -/
def at0 (S : List Nat) (k : Nat) : Nat := S[k]?.getD 0
/-- Only what stands from a on, short of b, was moved. -/
structure Mov (a b : Nat) (S S' : List Nat) : Prop where
  len : S'.length = S.length
  perm : S'.Perm S
  out : ∀ k, k < a ∨ b ≤ k → at0 S' k = at0 S k
  ins : ∀ i, a ≤ i → i < b → ∃ i', a ≤ i' ∧ i' < b ∧ at0 S' i = at0 S i'
theorem Mov.refl (a b : Nat) (S : List Nat) : Mov a b S S := ⟨rfl, List.Perm.refl _, fun _ _ => rfl, fun i h1 h2 => ⟨i, h1, h2, rfl⟩⟩
theorem Mov.trans {a b : Nat} {S S' S'' : List Nat} (h : Mov a b S S') (k : Mov a b S' S'') : Mov a b S S'' :=
  ⟨k.len.trans h.len, k.perm.trans h.perm, fun i hi => (k.out i hi).trans (h.out i hi), fun i h1 h2 => by
    obtain ⟨i', h3, h4, h5⟩ := k.ins i h1 h2
    obtain ⟨i'', h6, h7, h8⟩ := h.ins i' h3 h4
    exact ⟨i'', h6, h7, h5.trans h8⟩⟩
theorem Mov.wide {a b a' b' : Nat} {S S' : List Nat} (h : Mov a b S S') (ha : a' ≤ a) (hb : b ≤ b') : Mov a' b' S S' :=
  ⟨h.len, h.perm, fun k hk => h.out k (by omega), fun i h1 h2 => by
    by_cases hi : a ≤ i ∧ i < b
    · obtain ⟨i', h3, h4, h5⟩ := h.ins i hi.1 hi.2
      exact ⟨i', by omega, by omega, h5⟩
    · exact ⟨i, h1, h2, h.out i (by omega)⟩⟩
def swp (S : List Nat) (i j : Nat) : List Nat := (S.set i (at0 S j)).set j (at0 S i)
theorem swp_at (S : List Nat) (i j k : Nat) (hi : i < S.length) (hj : j < S.length) : at0 (swp S i j) k = if k = j then at0 S i else if k = i then at0 S j else at0 S k := by
  unfold swp
  show (((S.set i (at0 S j)).set j (at0 S i))[k]?).getD 0 = _
  rw [List.getElem?_set, List.getElem?_set, List.length_set]
  by_cases h1 : j = k
  · subst h1; simp [hj]
  · have h1' : ¬ k = j := fun e => h1 e.symm
    by_cases h2 : i = k
    · subst h2; simp [h1, h1', hi]
    · have h2' : ¬ k = i := fun e => h2 e.symm
      simp [h1, h1', h2, h2', at0]
theorem swp_mov (S : List Nat) (a b i j : Nat) (hi : i < S.length) (hj : j < S.length) (h1 : a ≤ i ∧ i < b) (h2 : a ≤ j ∧ j < b) : Mov a b S (swp S i j) := by
  refine ⟨by simp [swp], ?_, fun k hk => ?_, fun k h3 h4 => ?_⟩
  · have e : ∀ k (h : k < S.length), at0 S k = S[k] := fun k h => by simp [at0, List.getElem?_eq_getElem h]
    unfold swp
    rw [e i hi, e j hj]
    exact List.set_set_perm hi hj
  · rw [swp_at S i j k hi hj, if_neg (by omega), if_neg (by omega)]
  · rw [swp_at S i j k hi hj]
    by_cases e1 : k = j
    · rw [if_pos e1]; exact ⟨i, h1.1, h1.2, rfl⟩
    · rw [if_neg e1]
      by_cases e2 : k = i
      · rw [if_pos e2]; exact ⟨j, h2.1, h2.2, rfl⟩
      · rw [if_neg e2]; exact ⟨k, h3, h4, rfl⟩
/-- Sorted by f from a on, short of b. -/
def SrtOn (f : Nat → Nat) (a b : Nat) (S : List Nat) : Prop := ∀ i j, a ≤ i → i ≤ j → j < b → f (at0 S i) ≤ f (at0 S j)

def iv (x : Nat) : Value := .int .i64 (x : Nat)
/-- The signs' own row. -/
def SnO (w : World) (base gd m cap : Nat) (S : List Nat) : Prop := S.length = m ∧ w.ownsRow base 3 1 (.slice (some ⟨gd, 0, none⟩) m cap) m (S.map iv)
theorem SnO.cell {w : World} {base gd m cap : Nat} {S : List Nat} (h : SnO w base gd m cap S) (k : Nat) (hk : k < m) : w.cell? ⟨gd, k, none⟩ = some (.int .i64 (at0 S k : Nat)) := by
  rw [h.2.cellAt k (by omega), List.getElem?_map, at0, List.getElem?_eq_getElem (by rw [h.1]; exact hk)]
  rfl
theorem SnO.frozen {w : World} {base gd m cap : Nat} {S : List Nat} (h : SnO w base gd m cap S) (k : Nat) : w.frozen? ⟨gd, k, none⟩ = false := h.2.frozenAt k
theorem SnO.drewN {w : World} {base gd m cap : Nat} {S : List Nat} (h : SnO w base gd m cap S) (d : Nat) : SnO (w.drewN d) base gd m cap S := h
theorem SnO.drew {w : World} {base gd m cap : Nat} {S : List Nat} (h : SnO w base gd m cap S) : SnO w.drew base gd m cap S := h
theorem SnO.swap {w : World} {base gd m cap : Nat} {S : List Nat} (h : SnO w base gd m cap S) (i j : Nat) :
    SnO ((w.setCell ⟨gd, i, none⟩ (.int .i64 (at0 S j : Nat))).setCell ⟨gd, j, none⟩ (.int .i64 (at0 S i : Nat))) base gd m cap (swp S i j) := by
  refine ⟨by simp [swp, h.1], ?_⟩
  have h1 := (h.2.stored i (.int .i64 (at0 S j : Nat))).1
  have h2 := (h1.stored j (.int .i64 (at0 S i : Nat))).1
  unfold swp
  rw [List.map_set, List.map_set]
  exact h2
theorem gdrewN (w : World) (d : Nat) (row : Option Nat) : w.grownBy (w.drewN d) row := ⟨rfl, rfl, rfl, Nat.le_refl _, fun _ _ _ => rfl⟩
theorem gset2 {a w : World} {b : Nat} (h : a.grownBy w (some b)) (i : Nat) (v : Value) : a.grownBy (w.setCell ⟨b, i, none⟩ v) (some b) :=
  ⟨h.os, h.tape, h.output, by simp; exact h.size, fun k hk hne => (Below.heap_setCell w _ v k (fun e => hne (by rw [e]))).trans (h.block k hk hne)⟩
theorem gdrew {a w : World} {row : Option Nat} (h : a.grownBy w row) (d : Nat) : a.grownBy (w.drewN d) row := ⟨h.os, h.tape, h.output, h.size, h.block⟩
theorem gdrew1 {a w : World} {row : Option Nat} (h : a.grownBy w row) : a.grownBy w.drew row := ⟨h.os, h.tape, h.output, h.size, h.block⟩

/-- What compares, in every world that the sort passes. -/
def CmpOk (w : World) (gd pc n : Nat) (f : Nat → Nat) : Prop := ∀ w1, w.grownBy w1 (some gd) → ∀ a b, a < n → b < n →
  Calls Try.prog 63 #[.int .i64 (a : Nat), .int .i64 (b : Nat), .pointer (some ⟨pc, 0, none⟩)] w1 fun e w' => e = .returned (.int .i64 (cmpI (f a) (f b))) ∧ ∃ d, w' = w1.drewN d
theorem cmp_lt (x y : Nat) (h : x < y) : cmpI x y < 0 := by rw [cmpI, if_pos h]; omega
theorem cmp_ge (x y : Nat) (h : ¬ x < y) : ¬ cmpI x y < 0 := by
  rw [cmpI, if_neg h]; split <;> omega

set_option maxRecDepth 100000 in
set_option maxHeartbeats 8000000 in
theorem ins_any (base gd m cap a b pc n : Nat) (f : Nat → Nat) (S : List Nat) (w : World) (hO : SnO w base gd m cap S) (hx : ∀ x ∈ S, x < n) (hC : CmpOk w gd pc n f) (hab : b ≤ m) (ha : a ≤ m) (hm : m ≤ 1000) :
    Calls Try.prog 75 #[.slice (some ⟨gd, 0, none⟩) m cap, .int .i64 a, .int .i64 b, .func (.func 63) #[] #[.pointer (some ⟨pc, 0, none⟩)]] w
      fun e w' => e = .returned (.tuple #[]) ∧ ∃ S', SnO w' base gd m cap S' ∧ Mov a b S S' ∧ SrtOn f a b S' ∧ w.grownBy w' (some gd) := by
  have HC := Lib.hid hC
  have HX : Hid (∀ S', S'.Perm S → ∀ k, k < m → at0 S' k < n) := fun S' hp k hk => by
    have hl : S'.length = m := by rw [hp.length_eq, hO.1]
    refine hx _ (hp.mem_iff.1 ?_)
    rw [at0, List.getElem?_eq_getElem (by omega)]
    exact List.getElem_mem _
  have HO := Lib.hid hO
  clear hC hx hO
  have hw1 : IntKind.i64.wrap ((a : Int) + 1) = ((a + 1 : Nat) : Int) := by rw [IntKind.wrap_i64]; omega
  go_enter Try.func75, Try.ntmps75
  go_wp2
  go_loopw [8] (fun v wr => ∃ i S1, a < i ∧ (i ≤ b ∨ i = a + 1) ∧ v = .int .i64 (i : Nat) ∧ SnO wr base gd m cap S1 ∧ Mov a b S S1 ∧ SrtOn f a i S1 ∧ w.grownBy wr (some gd)) (fun v _ => (m + 2) - (intOf v).toNat)
  case atStart =>
    exact ⟨a + 1, S, by omega, .inr rfl, by go_num, HO.out, Mov.refl _ _ _, fun i j h1 h2 h3 => by rw [show i = j by omega]; exact Nat.le_refl _, World.grownBy.refl _ _⟩
  case round =>
    obtain ⟨i, S1, hai, hib, rfl, ho, hmv, hsr, hg⟩ := hrel
    by_cases hlt : i < b
    · have HO1 := Lib.hid ho
      have HM := Lib.hid hmv
      have HG := Lib.hid hg
      have HS := Lib.hid hsr
      clear ho hmv hg hsr
      go_wp2
      go_loopw [9] (fun v wr2 => ∃ j S2, a ≤ j ∧ j ≤ i ∧ v = .int .i64 (j : Nat) ∧ SnO wr2 base gd m cap S2 ∧ Mov a b S S2 ∧ (∀ p q, a ≤ p → p ≤ q → q ≤ i → p ≠ j → q ≠ j → f (at0 S2 p) ≤ f (at0 S2 q)) ∧ (∀ q, j < q → q ≤ i → f (at0 S2 j) ≤ f (at0 S2 q)) ∧ w.grownBy wr2 (some gd)) (fun v _ => (intOf v).toNat)
      case atStart => exact ⟨i, S1, by omega, Nat.le_refl _, rfl, HO1.out, HM.out, fun p q h1 h2 h3 h4 h5 => HS.out p q h1 h2 (by omega), fun q h1 h2 => by omega, HG.out⟩
      case round =>
        obtain ⟨j, S2, haj, hji, rfl, ho, hmv, hs1, hs2, hg⟩ := hrel
        have HO2 := Lib.hid ho
        have HM2 := Lib.hid hmv
        have HG2 := Lib.hid hg
        have HS1 := Lib.hid hs1
        have HS2 := Lib.hid hs2
        -- the inner loop's way out
        have OUT : Hid ((j = a ∨ ¬ f (at0 S2 j) < f (at0 S2 (j - 1))) → ∀ d, ∃ i' S', a < i' ∧ (i' ≤ b ∨ i' = a + 1) ∧ Value.int .i64 ((i : Int) + 1) = .int .i64 (i' : Nat) ∧ SnO (wr.drewN d) base gd m cap S' ∧ Mov a b S S' ∧ SrtOn f a i' S' ∧ w.grownBy (wr.drewN d) (some gd)) := fun hs d =>
          ⟨i + 1, S2, by omega, .inl (by omega), by go_num, HO2.out.drewN d, HM2.out, fun p q h1 h2 h3 => by
            by_cases e1 : q = j
            · by_cases e2 : p = j
              · rw [e1, e2]; exact Nat.le_refl _
              · have h5 := HS1.out p (j - 1) h1 (by omega) (by omega) e2 (by omega)
                subst e1
                omega
            · by_cases e2 : p = j
              · subst e2; exact HS2.out q (by omega) (by omega)
              · exact HS1.out p q h1 h2 (by omega) e2 e1, gdrew HG2.out d⟩
        clear ho hmv hg hs1 hs2
        by_cases hja : a < j
        · obtain ⟨k, rfl⟩ : ∃ k, j = k + 1 := ⟨j - 1, by omega⟩
          have c1 := HO2.out.cell (k + 1) (by omega)
          have c2 := HO2.out.cell k (by omega)
          have f1 := HO2.out.frozen (k + 1)
          have f2 := HO2.out.frozen k
          have hq1 := HX.out S2 HM2.out.perm (k + 1) (by omega)
          have hq2 := HX.out S2 HM2.out.perm k (by omega)
          have HCM := Lib.hid (fun d => HC.out (wr.drewN d) (gdrew HG2.out d) _ _ hq1 hq2)
          have hI1 : (a : Int) < (k : Int) + 1 := by omega
          have hI2 : IntKind.i64.wrap ((k : Int) + 1 - 1) = k := by rw [IntKind.wrap_i64]; omega
          have hI3 : IntKind.i64.wrap (k : Int) = k := by rw [IntKind.wrap_i64]; omega
          have hI4 : (k : Int) < m := by omega
          have hI5 : (k : Int) + 1 < m := by omega
          have hI6 : (0 : Int) ≤ (k : Int) + 1 := by omega
          have HSW := Lib.hid (fun d => (HO2.out.drewN d).swap (k + 1) k)
          have HSM := Lib.hid (swp_mov S2 a b (k + 1) k (by have := HO2.out.1; omega) (by have := HO2.out.1; omega) (by omega) (by omega))
          have HSA := Lib.hid (fun p => swp_at S2 (k + 1) k p (by have := HO2.out.1; omega) (by have := HO2.out.1; omega))
          generalize hx1 : at0 S2 (k + 1) = x at *
          generalize hx2 : at0 S2 k = y at *
          have HX1 := Lib.hid hx1
          have HX2 := Lib.hid hx2
          clear hx1 hx2
          by_cases hfx : f x < f y
          · have hc := cmp_lt _ _ hfx
            go_wp2
            go_quiet (first | (go_at_call 63; exact Calls.quiet_of (HCM.out _)))
            go_wp2
            have HGQ := Lib.hid (gdrew1 (gdrew HG2.out nq))
            have HSW2 := Lib.hid (show SnO ((((wr.drewN nq).drew).setCell ⟨gd, k + 1, none⟩ (.int .i64 (y : Nat))).setCell ⟨gd, k, none⟩ (.int .i64 (x : Nat))) base gd m cap (swp S2 (k + 1) k) from HSW.out (nq + 1))
            go_region
            all_goals go_wp2
            go_roundw
            case rel =>
              refine ⟨k, swp S2 (k + 1) k, by omega, by omega, by go_num, HSW2.out, HM2.out.trans HSM.out, ?_, ?_, gset2 (gset2 HGQ.out _ _) _ _⟩
              · intro p q h1 h2 h3 h4 h5
                rw [HSA.out, HSA.out, if_neg h4, if_neg h5]
                by_cases e1 : q = k + 1
                · by_cases e2 : p = k + 1
                  · rw [if_pos e1, if_pos e2]; exact Nat.le_refl _
                  · rw [if_pos e1, if_neg e2, ← HX2.out]
                    exact HS1.out p k h1 (by omega) (by omega) e2 (by omega)
                · by_cases e2 : p = k + 1
                  · rw [if_neg e1, if_pos e2, ← HX2.out]
                    exact HS1.out k q (by omega) (by omega) h3 (by omega) e1
                  · rw [if_neg e1, if_neg e2]
                    exact HS1.out p q h1 h2 h3 e2 e1
              · intro q h1 h2
                rw [HSA.out, HSA.out, if_pos rfl, if_neg (by omega)]
                by_cases e1 : q = k + 1
                · rw [if_pos e1]; omega
                · rw [if_neg e1]
                  exact HS2.out q (by omega) h2
            case measure => simp [intOf]
          · have hc := cmp_ge _ _ hfx
            go_wp2
            go_quiet (first | (go_at_call 63; exact Calls.quiet_of (HCM.out _)))
            go_wp2
            go_roundw
            case rel => exact OUT.out (.inr (by rw [Nat.add_sub_cancel, HX2.out]; exact hfx)) nq
            case measure => simp [intOf]; omega
        · have hd : decide ((a : Int) < (j : Int)) = false := decide_eq_false (by omega)
          go_wp2
          go_quiet (fail)
          go_wp2
          go_roundw
          case rel => exact OUT.out (.inl (by omega)) nq
          case measure => simp [intOf]; omega
    · go_wp2
      go_end0
      exact ⟨rfl, S1, ho, hmv, fun p q h1 h2 h3 => hsr p q h1 h2 (by omega), hg⟩
end Go.Proofs.Ytljekdnjdcfliaa
