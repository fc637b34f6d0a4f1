/-
  Glob: runes of two texts, one behind the other; valid texts.
-/
import Derived.Test.YtmhalkkfpbkafaaDoorGlZ
namespace Go.Proofs.YtmhalkkfpbkafaaDoor
set_option maxRecDepth 100000
set_option linter.unusedSimpArgs false
set_option linter.unusedVariables false
open Go.RowKit Go.Deep Go.Joins
open Go.Lib hiding intOf

/-- A list that begins with no continuation. -/
def Nc (t : List Nat) : Prop := ∀ b t1, t = b :: t1 → b / 64 ≠ 2
theorem nc_at {t : List Nat} (h : Nc t) : ¬ (0 < t.length ∧ t.getD 0 0 / 64 = 2) := by
  rintro ⟨h1, h2⟩
  rcases t with _ | ⟨b, t1⟩
  · simp at h1
  · exact h b t1 rfl h2
theorem dcl_app (x : Nat) (t m : List Nat) (hm : Nc m) : dcl (x :: (t ++ m)) = dcl (x :: t) := by
  by_cases h0 : x < 128
  · unfold dcl decodeN
    exact (if_pos h0).trans (if_pos h0).symm
  have h0' : 128 ≤ x := by omega
  have key : ∀ u : List Nat, Nc u → dcl (x :: u) = (65533, 1) := fun u hu => dec_none h0' (fun h => nc_at hu ⟨by have := h.1; simp only [List.length_cons] at this; omega, h.2⟩)
  have two : ∀ (b : Nat) (u v : List Nat), Nc u → Nc v → dcl (x :: b :: u) = dcl (x :: b :: v) := fun b u v hu hv => dec_two h0' (by simp only [List.length_cons]; omega) (by simp only [List.length_cons]; omega) (fun h => nc_at hu ⟨by have := h.1; simp only [List.length_cons] at this; omega, h.2⟩) (fun h => nc_at hv ⟨by have := h.1; simp only [List.length_cons] at this; omega, h.2⟩)
  have three : ∀ (b c : Nat) (u v : List Nat), Nc u → Nc v → dcl (x :: b :: c :: u) = dcl (x :: b :: c :: v) := fun b c u v hu hv => dec_three h0' (by simp only [List.length_cons]; omega) (by simp only [List.length_cons]; omega) (fun h => nc_at hu ⟨by have := h.1; simp only [List.length_cons] at this; omega, h.2⟩) (fun h => nc_at hv ⟨by have := h.1; simp only [List.length_cons] at this; omega, h.2⟩)
  have nn : Nc ([] : List Nat) := fun b t1 h => by cases h
  have nc1 : ∀ b u, b / 64 ≠ 2 → Nc (b :: u) := fun b u h b' u' e => by injection e with e _; rw [← e]; exact h
  rcases t with _ | ⟨b1, t1⟩
  · exact (key m hm).trans (key [] nn).symm
  by_cases c1 : b1 / 64 = 2
  · rcases t1 with _ | ⟨b2, t2⟩
    · exact two b1 m [] hm nn
    by_cases c2 : b2 / 64 = 2
    · rcases t2 with _ | ⟨b3, t3⟩
      · exact three b1 b2 m [] hm nn
      exact dec_four (by simp only [List.length_cons, List.cons_append]; omega) (by simp only [List.length_cons]; omega)
    · exact two b1 (b2 :: (t2 ++ m)) (b2 :: t2) (nc1 _ _ c2) (nc1 _ _ c2)
  · exact (key (b1 :: (t1 ++ m)) (nc1 _ _ c1)).trans (key (b1 :: t1) (nc1 _ _ c1)).symm
theorem dcl_fit (x : Nat) (t : List Nat) : (dcl (x :: t)).2 ≤ t.length + 1 := by
  by_cases h0 : x < 128
  · rw [show dcl (x :: t) = (x, 1) by unfold dcl decodeN; exact if_pos h0]
    show 1 ≤ _; omega
  · rcases dec_width2 (n := (x :: t).length) (b0 := x) (b1 := (x :: t).getD 1 0) (b2 := (x :: t).getD 2 0) (b3 := (x :: t).getD 3 0) (by omega) with h | ⟨h, h2, _⟩ | ⟨h, _, h2, _⟩ | ⟨h, _, _, h2, _⟩
    · rw [show (dcl (x :: t)).2 = 1 from h]; omega
    · rw [show (dcl (x :: t)).2 = 2 from h]; simp only [List.length_cons] at h2; omega
    · rw [show (dcl (x :: t)).2 = 3 from h]; simp only [List.length_cons] at h2; omega
    · rw [show (dcl (x :: t)).2 = 4 from h]; simp only [List.length_cons] at h2; omega
theorem runesL_app : ∀ (f : Nat) (l m : List Nat) (g h : Nat), Nc m → l.length ≤ f → (l ++ m).length ≤ g → m.length ≤ h → runesL g (l ++ m) = runesL f l ++ runesL h m
  | 0, l, m, g, h, hm, hl, hg, hh => by
    obtain rfl : l = [] := List.eq_nil_of_length_eq_zero (by omega)
    exact runesL_fuel g h m (by simpa using hg) hh
  | f + 1, [], m, g, h, hm, hl, hg, hh => runesL_fuel g h m (by simpa using hg) hh
  | f + 1, x :: t, m, g, h, hm, hl, hg, hh => by
    simp only [List.length_cons, List.length_append] at hl hg
    obtain ⟨g', rfl⟩ : ∃ g', g = g' + 1 := ⟨g - 1, by omega⟩
    have hw := dcl_width (x :: t)
    have hf := dcl_fit x t
    show runesL (g' + 1) (x :: (t ++ m)) = _
    rw [runesL, dcl_app x t m hm]
    have hd : (x :: (t ++ m)).drop (dcl (x :: t)).2 = (x :: t).drop (dcl (x :: t)).2 ++ m := by
      show ((x :: t) ++ m).drop _ = _
      exact List.drop_append_of_le_length (by simp only [List.length_cons]; omega)
    rw [hd, runesL_app f ((x :: t).drop (dcl (x :: t)).2) m g' h hm (by rw [List.length_drop, List.length_cons]; omega) (by rw [List.length_append, List.length_drop, List.length_cons]; omega) hh]
    rfl
theorem nums_append (s t : ByteArray) : nums (s ++ t) = nums s ++ nums t := by
  unfold nums
  rw [ByteArray.data_append, Array.toList_append, List.map_append]
theorem runesB_app (s t : ByteArray) (h : Nc (nums t)) : runesB (s ++ t) = runesB s ++ runesB t := by
  rw [runesB_nums, runesB_nums, runesB_nums, nums_append]
  exact runesL_app s.size (nums s) (nums t) _ _ h (by rw [nums_len]; exact Nat.le_refl _) (by rw [List.length_append, nums_len, nums_len, ByteArray.size_append]; exact Nat.le_refl _) (by rw [nums_len]; exact Nat.le_refl _)
/-! ### Valid texts -/
theorem dcl_map (l : List UInt8) : dcl (l.map UInt8.toNat) = decodeL l := by
  rw [decodeL_N]
  unfold dcl
  have e : ∀ i, (l.map UInt8.toNat).getD i 0 = (l.getD i 0).toNat := fun i => by
    rw [List.getD_eq_getElem?_getD, List.getD_eq_getElem?_getD, List.getElem?_map]
    cases l[i]? <;> rfl
  rw [e, e, e, e, List.length_map]
theorem valid_nc (s : ByteArray) (h : validD s.data.toList = true) : Nc (nums s) := by
  intro b t1 e hb
  unfold nums at e
  rcases hl : s.data.toList with _ | ⟨x, l⟩
  · rw [hl] at e; cases e
  · rw [hl] at e h
    injection e with e1 e2
    rw [validD_step _ (by simp), ← dcl_map] at h
    have hd : dcl ((x :: l).map UInt8.toNat) = (65533, 1) := by
      show decodeN _ x.toNat _ _ _ = _
      unfold decodeN
      rw [e1, if_neg (by omega), if_neg (by omega), if_neg (by omega), if_neg (by omega)]
    rw [hd] at h
    simp at h
theorem valid_enc : ∀ (f : Nat) (l : List UInt8), l.length ≤ f → validD l = true → (runesL f (l.map UInt8.toNat)).flatMap (fun r => encodeRune ((r : Nat) : Int)) = l
  | 0, l, h, _ => by
    obtain rfl : l = [] := List.eq_nil_of_length_eq_zero (by omega)
    rfl
  | f + 1, [], _, _ => rfl
  | f + 1, x :: l, h, hv => by
    rw [validD_step _ (by simp)] at hv
    split at hv
    · cases hv
    next hne =>
      have hw := decodeL_width (x :: l)
      have he := encode_decode (x :: l) (by simp) hne
      show (runesL (f + 1) (x.toNat :: l.map UInt8.toNat)).flatMap _ = _
      rw [runesL, show dcl (x.toNat :: l.map UInt8.toNat) = decodeL (x :: l) from dcl_map (x :: l)]
      rw [List.flatMap_cons, he, show (x.toNat :: l.map UInt8.toNat).drop (decodeL (x :: l)).2 = ((x :: l).drop (decodeL (x :: l)).2).map UInt8.toNat by rw [List.map_drop]; rfl]
      rw [valid_enc f _ (by rw [List.length_drop]; simp only [List.length_cons] at *; omega) hv]
      exact List.take_append_drop _ _
/-- Valid texts of the same runes are the same. -/
theorem valid_inj (s t : ByteArray) (hs : validD s.data.toList = true) (ht : validD t.data.toList = true) (h : runesB s = runesB t) : s = t := by
  rw [runesB_nums, runesB_nums] at h
  have e1 := valid_enc s.size s.data.toList (Nat.le_refl _) hs
  have e2 := valid_enc t.size t.data.toList (Nat.le_refl _) ht
  have h' : runesL s.size (s.data.toList.map UInt8.toNat) = runesL t.size (t.data.toList.map UInt8.toNat) := h
  rw [h', e2] at e1
  cases s with
  | mk a => cases t with
    | mk b =>
      have : b = a := by
        apply Array.ext'
        exact e1
      rw [this]
/-! ### The five patterns -/
theorem pat_star (l : List Nat) : compF (runesB ⟨#[42]⟩) 0 [] = some [⟨3, 0, false, []⟩] ∧ mtB [⟨3, 0, false, []⟩] l = true := by
  constructor
  · rw [show runesB ⟨#[42]⟩ = [42] by kernel_rfl, compF_more (by decide) (x := ⟨3, 0, false, []⟩) (k := 1) (by kernel_rfl), compF_end (by decide)]
    rfl
  · exact (mtB_iff _ _).2 ((Mt_star rfl _ _).2 ⟨l, [], by simp, rfl⟩)
theorem pat_self (s : ByteArray) : compF (runesB (text (quoL (nums s)))) 0 [] = some (plains (runesB s)) := by
  rw [runesB_quo]
  exact comp_quo0 _
theorem nc_42 : Nc [42] := fun b t1 e => by injection e with e _; rw [← e]; decide
theorem pat_ahead (s : ByteArray) : compF (runesB (text (quoL (nums s)) ++ ⟨#[42]⟩)) 0 [] = some (plains (runesB s) ++ [⟨3, 0, false, []⟩]) := by
  rw [runesB_app _ ⟨#[42]⟩ (show Nc (nums ⟨#[42]⟩) from nc_42), runesB_quo, show runesB ⟨#[42]⟩ = [42] by kernel_rfl]
  generalize runesB s = R
  have h := comp_quo R [] [42] []
  simp only [List.nil_append, List.length_nil, Nat.zero_add] at h
  rw [h, compF_more (by simp) (x := ⟨3, 0, false, []⟩) (k := 1) (atom_star (by simp)), compF_end (by simp)]
theorem pat_behind (s : ByteArray) (hn : Nc (nums (text (quoL (nums s))))) : compF (runesB (⟨#[42]⟩ ++ text (quoL (nums s)))) 0 [] = some (⟨3, 0, false, []⟩ :: plains (runesB s)) := by
  rw [runesB_app _ _ hn, runesB_quo, show runesB ⟨#[42]⟩ = [42] by kernel_rfl]
  generalize runesB s = R
  rw [compF_more (by simp) (x := ⟨3, 0, false, []⟩) (k := 1) (atom_star (a := 0) rfl)]
  have h := comp_quo R [42] [] [⟨3, 0, false, []⟩]
  simp only [List.append_nil] at h
  exact h.trans (compF_end (by simp only [List.length_append, List.length_cons, List.length_nil]; omega))
theorem mt_ahead (R l : List Nat) : mtB (plains R ++ [⟨3, 0, false, []⟩]) (R ++ l) = true :=
  (mtB_iff _ _).2 ((Mt_app _ _ _).2 ⟨R, l, rfl, (mt_plains R R).2 rfl, (Mt_star rfl _ _).2 ⟨l, [], by simp, rfl⟩⟩)
theorem mt_behind (R l : List Nat) : mtB (⟨3, 0, false, []⟩ :: plains R) (l ++ R) = true :=
  (mtB_iff _ _).2 ((Mt_star rfl _ _).2 ⟨l, R, rfl, (mt_plains R R).2 rfl⟩)
theorem quo_nc (l : List Nat) (h : Nc l) : Nc (quoL l) := by
  rcases quo_head l with ⟨rfl, e⟩ | ⟨b, t1, rfl, hb, e⟩ | ⟨b, t1, c, u, rfl, hb, e, hc⟩
  · rw [e]; exact h
  · exact absurd hb (h b t1 rfl)
  · rw [e]
    intro b' t' e'
    injection e' with e' _
    rw [← e']
    exact hc
end Go.Proofs.YtmhalkkfpbkafaaDoor
