/-
  ParseStamp: the program's answer is the document's.
-/
import Derived.Test.YtmhalkkfpbkafaaDoorFlF
namespace Go.Proofs.YtmhalkkfpbkafaaDoor
set_option maxRecDepth 100000
open Go.RowKit Go.Joins

/-! ### the program's answer is the document's -/
theorem ite_true4 : (if true = true then 4 else 0) = 4 := rfl
theorem stA_yes {s : ByteArray} {t : Bool} {a : Nat} (h : a + (if t = true then 4 else 0) ≤ s.size) : sA s t a 0 = a + (if t = true then 4 else 0) ∧ sE s t a 0 = 0 ∧ sV s t a 0 = if t = true then sgn (numL (((nums s).drop a).take 4)) else 0 := by
  cases t with
  | true =>
    rw [ite_true4] at h ⊢
    have e1 : sA s true a 0 = atB s a 0 (4 : Nat) := if_pos rfl
    have e2 : sE s true a 0 = errB s a 0 (4 : Nat) := if_pos rfl
    have e3 : sV s true a 0 = sgn (numB s a 0 4) := if_pos rfl
    have e4 : numB s a 0 4 = numL (((nums s).drop a).take 4) := by unfold numB; rw [nums_piece s a 4 h]
    rw [e1, e2, e3, e4, atB_yes s a 4 h, errB_yes s a 4 h, if_pos rfl]
    exact ⟨rfl, rfl, rfl⟩
  | false => exact ⟨if_neg (by decide), if_neg (by decide), (if_neg (by decide)).trans (if_neg (by decide)).symm⟩
theorem stE_zero {s : ByteArray} {t : Bool} {a e : Nat} (ha : a ≤ s.size) (h : sE s t a e = 0) : e = 0 ∧ a + (if t = true then 4 else 0) ≤ s.size := by
  cases t with
  | true =>
    obtain ⟨h1, _, h3, _⟩ := errB_zero (show errB s a e (4 : Nat) = 0 from h)
    exact ⟨h1, h3⟩
  | false => exact ⟨h, ha⟩
theorem sA_le {s : ByteArray} {t : Bool} {a e : Nat} (ha : a ≤ s.size) : sA s t a e ≤ s.size := by
  cases t with
  | true => exact atB_le s a e _ ha
  | false => exact ha
theorem told_tk (F : Nat) (c : Bool) : decide (toldN F c % 2 = 1) = tk F c 0 ∧ decide (toldN F c / 2 % 2 = 1) = tk F c 1 ∧ decide (toldN F c / 4 % 2 = 1) = tk F c 2 := by
  unfold tk toldN
  cases c with
  | true => 
    refine ⟨?_, ?_, ?_⟩
    · simp
    · simp
      try omega
    · simp
      try omega
  | false =>
    refine ⟨?_, ?_, ?_⟩ <;> simp <;> omega
theorem st_same (s : ByteArray) (c : Bool) {F a0 e0 a1 e1 a2 e2 a3 e3 : Nat} {v0 v1 v2 : Int}
    (hF : numB s 0 0 1 = F) (hA : atB s 0 0 (1 : Nat) = a0) (hE : errB s 0 0 (1 : Nat) = e0)
    (hA0 : sA s (tk F c 0) a0 e0 = a1) (hE0 : sE s (tk F c 0) a0 e0 = e1) (hV0 : sV s (tk F c 0) a0 e0 = v0)
    (hA1 : sA s (tk F c 1) a1 e1 = a2) (hE1 : sE s (tk F c 1) a1 e1 = e2) (hV1 : sV s (tk F c 1) a1 e1 = v1)
    (hA2 : sA s (tk F c 2) a2 e2 = a3) (hE2 : sE s (tk F c 2) a2 e2 = e3) (hV2 : sV s (tk F c 2) a2 e2 = v2) :
    spOut s c F a3 e3 v0 v1 v2 = stRes s c := by
  by_cases h1 : 1 ≤ s.size
  · have hF2 : (nums s).getD 0 0 = F := by rw [← hF]; exact (numB_one s 0 h1).symm
    have a0' : a0 = 1 := by rw [← hA]; exact atB_yes s 0 1 h1
    have e0' : e0 = 0 := by rw [← hE]; exact errB_yes s 0 1 h1
    subst a0' e0'
    have p1 : pk F c 1 = 1 + if tk F c 0 = true then 4 else 0 := rfl
    have p2 : pk F c 2 = pk F c 1 + if tk F c 1 = true then 4 else 0 := rfl
    have p3 : pk F c 3 = pk F c 2 + if tk F c 2 = true then 4 else 0 := rfl
    have m12 := pk_mono F c 1 2 (by omega)
    have m23 := pk_mono F c 2 3 (by omega)
    by_cases hp : pk F c 3 ≤ s.size
    · obtain ⟨x1, x2, x3⟩ := stA_yes (s := s) (t := tk F c 0) (a := 1) (by omega)
      have a1' : a1 = pk F c 1 := by rw [← hA0, x1, p1]
      have e1' : e1 = 0 := by rw [← hE0, x2]
      have v0' : v0 = vk s F c 0 := by rw [← hV0, x3]; rfl
      subst a1' e1'
      obtain ⟨y1, y2, y3⟩ := stA_yes (s := s) (t := tk F c 1) (a := pk F c 1) (by omega)
      have a2' : a2 = pk F c 2 := by rw [← hA1, y1, p2]
      have e2' : e2 = 0 := by rw [← hE1, y2]
      have v1' : v1 = vk s F c 1 := by rw [← hV1, y3]; rfl
      subst a2' e2'
      obtain ⟨z1, z2, z3⟩ := stA_yes (s := s) (t := tk F c 2) (a := pk F c 2) (by omega)
      have a3' : a3 = pk F c 3 := by rw [← hA2, z1, p3]
      have e3' : e3 = 0 := by rw [← hE2, z2]
      have v2' : v2 = vk s F c 2 := by rw [← hV2, z3]; rfl
      subst a3' e3' v0' v1' v2'
      by_cases hok : F ≤ 7 ∧ (c = true ∨ pk F c 3 = s.size)
      · rw [stRes_yes hF2 ⟨h1, hok.1, hp, hok.2⟩]
        exact if_pos ⟨rfl, hok.1, hok.2⟩
      · rw [stRes_no hF2 (fun h => hok ⟨h.2.1, h.2.2.2⟩)]
        exact if_neg (fun h => hok ⟨h.2.1, h.2.2⟩)
    · rw [stRes_no hF2 (fun h => hp h.2.2.1)]
      refine if_neg (fun h => hp ?_)
      have b1 : a1 ≤ s.size := by rw [← hA0]; exact sA_le h1
      have b2 : a2 ≤ s.size := by rw [← hA1]; exact sA_le b1
      have he3 : e3 = 0 := h.1
      rw [he3] at hE2
      obtain ⟨q2, w2⟩ := stE_zero b2 hE2
      rw [q2] at hE1
      obtain ⟨q1, w1⟩ := stE_zero b1 hE1
      rw [q1] at hE0
      obtain ⟨_, w0⟩ := stE_zero h1 hE0
      obtain ⟨x1, _, _⟩ := stA_yes (s := s) (t := tk F c 0) (a := 1) w0
      have a1' : a1 = pk F c 1 := by rw [← hA0, x1, p1]
      rw [a1'] at w1
      obtain ⟨y1, _, _⟩ := stA_yes (s := s) (t := tk F c 1) (a := pk F c 1) w1
      have a2' : a2 = pk F c 2 := by rw [← hA1, a1', q1, y1, p2]
      rw [a2'] at w2
      omega
  · rw [stRes_no rfl (fun h => h1 h.1)]
    refine if_neg (fun h => h1 ?_)
    have e0n : e0 = 3 := by
      rw [← hE]
      refine if_neg (fun k => h1 ?_)
      unfold mayB at k
      have := of_decide_eq_true k
      omega
    exfalso
    have key : ∀ t a, sE s t a 3 = 3 := fun t a => by
      cases t with
      | true =>
        refine (if_pos rfl).trans (if_neg (fun k => ?_))
        unfold mayB at k
        have := (of_decide_eq_true k).1
        omega
      | false => rfl
    rw [e0n, key] at hE0
    rw [← hE0, key] at hE1
    rw [← hE1, key] at hE2
    have := h.1
    omega
theorem parseStamp_st (s : ByteArray) (c : Bool) (hs : s.size ≤ maxLen) (w : World) :
    Calls Tryd.prog 23 #[.string s, .bool c] w fun e w' => e = .returned (stRes s c) ∧ Below w.heap.size w w' := by
  obtain ⟨t0, t1, t2⟩ := told_tk (numB s 0 0 1) c
  have h := parseStamp_any s c hs rfl rfl rfl rfl t0 t1 t2 rfl rfl rfl rfl rfl rfl rfl rfl rfl w
  rw [st_same s c rfl rfl rfl rfl rfl rfl rfl rfl rfl rfl rfl rfl] at h
  exact h
end Go.Proofs.YtmhalkkfpbkafaaDoor
