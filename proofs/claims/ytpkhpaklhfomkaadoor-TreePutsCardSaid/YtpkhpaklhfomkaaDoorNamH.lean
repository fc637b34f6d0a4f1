/-
  Mathematics of names that may be paths: what is wrong with a path, by its bytes; its parent's parts; a text cut at a slash has no stray that it had not.
-/
import Derived.Test.YtpkhpaklhfomkaaDoorNamG
namespace Go.Proofs.YtpkhpaklhfomkaaDoor
set_option maxRecDepth 100000
open Go.RowKit Go.Lib

def misL (p : List Nat) : Bool := p.isEmpty || decide (p = [46]) || decide (p = [46, 46])
def longL (p : List Nat) : Bool := decide (255 < p.length)
def badL (l : List Nat) : Bool := l.any fun b => decide (b = 0) || decide (b = 92)
/-- What is wrong with a path, by its bytes. -/
def harmL (l : List Nat) : Int := if badL l || ((partsL l).length == 0) || (partsL l).any misL then 21 else if decide (32 < (partsL l).length) || (partsL l).any longL then 5 else 0
theorem toNat_list_inj : ∀ a b : List UInt8, a.map UInt8.toNat = b.map UInt8.toNat → a = b
  | [], [], _ => rfl
  | [], _ :: _, h => by cases h
  | _ :: _, [], h => by cases h
  | x :: xs, y :: ys, h => by
    rw [List.map_cons, List.map_cons] at h
    injection h with h1 h2
    rw [UInt8.toNat_inj.1 h1, toNat_list_inj xs ys h2]
theorem nums_eq_list (s : ByteArray) (t : List UInt8) : (s.toList == t) = decide (nums s = t.map UInt8.toNat) := by
  rw [Lib.toList_data]
  by_cases h : s.data.toList = t
  · rw [decide_eq_true (by unfold nums; rw [h])]; rw [h]; simp
  · rw [decide_eq_false, beq_eq_false_iff_ne]
    · exact h
    · intro e
      exact h (toNat_list_inj _ _ e)
theorem isEmpty_nums2 (s : ByteArray) : s.toList.isEmpty = (nums s).isEmpty := by
  rw [Lib.toList_data]; unfold nums; cases s.data.toList <;> rfl
theorem misB_L (p : ByteArray) : misB p = misL (nums p) := by
  unfold misB misL
  rw [isEmpty_nums2, nums_eq_list, nums_eq_list]
  rfl
theorem longB_L (p : ByteArray) : longB p = longL (nums p) := by unfold longB longL; rw [nums_len]
theorem any_map_nums (ss : List ByteArray) (f : ByteArray → Bool) (g : List Nat → Bool) (h : ∀ p, f p = g (nums p)) : ss.any f = (ss.map nums).any g := by
  rw [List.any_map]
  congr 1
  funext p
  exact h p
theorem harm_L (s : ByteArray) : harmN s = harmL (nums s) := by
  unfold harmN harmL
  rw [any_map_nums _ _ _ misB_L, any_map_nums _ _ _ longB_L, pts_nums, ← List.length_map (f := nums), pts_nums]
  rfl
theorem harm_zero (l : List Nat) : harmL l = 0 ↔ badL l = false ∧ l ≠ [] ∧ (∀ p ∈ splitL l, misL p = false ∧ p.length ≤ 255) ∧ (splitL l).length ≤ 32 := by
  unfold harmL partsL
  by_cases hl : l = []
  · subst hl
    simp
  · rw [if_neg hl]
    have hn : ((splitL l).length == 0) = false := by
      rw [beq_eq_false_iff_ne]
      exact fun e => splitL_ne l (List.length_eq_zero_iff.1 e)
    rw [hn]
    constructor
    · intro h
      cases hb : badL l with
      | true => rw [hb] at h; exact absurd h (by simp)
      | false =>
        cases hm : (splitL l).any misL with
        | true => rw [hb, hm] at h; exact absurd h (by simp)
        | false =>
          rw [hb, hm] at h
          by_cases h32 : 32 < (splitL l).length
          · rw [decide_eq_true h32] at h; exact absurd h (by simp)
          · cases hg : (splitL l).any longL with
            | true => rw [hg] at h; exact absurd h (by simp)
            | false =>
              refine ⟨rfl, hl, fun p hp => ⟨?_, ?_⟩, by omega⟩
              · have := List.any_eq_false.1 hm p hp
                simpa using this
              · have := List.any_eq_false.1 hg p hp
                unfold longL at this
                simp at this
                omega
    · rintro ⟨hb, _, hp, h32⟩
      have hm : (splitL l).any misL = false := List.any_eq_false.2 fun p h => by rw [(hp p h).1]; decide
      have hg : (splitL l).any longL = false := List.any_eq_false.2 fun p h => by
        have := (hp p h).2
        unfold longL
        rw [decide_eq_false (by omega)]
        decide
      rw [hb, hm, hg, decide_eq_false (by omega)]
      rfl
theorem splitL_none (b : List Nat) (h : ∀ x ∈ b, x ≠ 47) : splitL b = [b] := by
  induction b with
  | nil => rfl
  | cons c r ih => exact splitL_other (h c (.head _)) (ih fun x hx => h x (.tail _ hx))
theorem splitL_app (b : List Nat) (h : ∀ x ∈ b, x ≠ 47) : ∀ a, splitL (a ++ 47 :: b) = splitL a ++ [b]
  | [] => by
    rw [List.nil_append, splitL_slash, splitL_none b h]
    rfl
  | c :: r => by
    have ih := splitL_app b h r
    obtain ⟨p, t, e⟩ := splitL_form r
    by_cases hc : c = 47
    · subst hc
      rw [List.cons_append, splitL_slash, splitL_slash, ih]
      rfl
    · rw [e] at ih
      rw [List.cons_append, splitL_other hc ih, splitL_other hc e]
      rfl
/-- The last byte of a path that is right is no slash. -/
theorem harm_last (a : List Nat) : harmL (a ++ [47]) ≠ 0 := by
  intro h
  obtain ⟨_, _, hp, _⟩ := (harm_zero _).1 h
  rw [show a ++ [47] = a ++ 47 :: [] from rfl, splitL_app [] (fun x hx => by cases hx)] at hp
  have := (hp [] (by simp)).1
  exact absurd this (by decide)
/-- Of a path that is right the parent, too; and its last part leads nowhere else. -/
theorem harm_parent (a b : List Nat) (hb : ∀ x ∈ b, x ≠ 47) (h : harmL (a ++ 47 :: b) = 0) : misL b = false ∧ (a ≠ [] → harmL a = 0) := by
  obtain ⟨h1, _, h3, h4⟩ := (harm_zero _).1 h
  rw [splitL_app b hb] at h3 h4
  refine ⟨(h3 b (by simp)).1, fun ha => (harm_zero a).2 ⟨?_, ha, fun p hp => h3 p (List.mem_append_left _ hp), ?_⟩⟩
  · unfold badL at h1 ⊢
    rw [List.any_append] at h1
    cases e : a.any fun b => decide (b = 0) || decide (b = 92) with
    | true => rw [e] at h1; exact absurd h1 (by simp)
    | false => rfl
  · rw [List.length_append] at h4; omega
theorem harm_lone (b : List Nat) (hb : ∀ x ∈ b, x ≠ 47) (h : harmL b = 0) : misL b = false := by
  obtain ⟨_, _, h3, _⟩ := (harm_zero _).1 h
  rw [splitL_none b hb] at h3
  exact (h3 b (by simp)).1

/-! ### a text cut at a slash -/
set_option maxHeartbeats 4000000 in
theorem decodeN_cut (n m b0 b1 b2 b3 c1 c2 c3 : Nat) (h0 : 1 ≤ m) (hm : m < n) (e1 : 1 < m → c1 = b1) (e2 : 2 < m → c2 = b2) (e3 : 3 < m → c3 = b3) (g1 : m = 1 → b1 = 47) (g2 : m = 2 → b2 = 47) (g3 : m = 3 → b3 = 47) : decodeN m b0 c1 c2 c3 = decodeN n b0 b1 b2 b3 := by
  unfold decodeN
  by_cases h : b0 < 128
  · rw [if_pos h, if_pos h]
  · rw [if_neg h, if_neg h]
    rcases (by omega : m = 1 ∨ m = 2 ∨ m = 3 ∨ 3 < m) with rfl | rfl | rfl | h3
    · have := g1 rfl
      subst this
      simp
    · obtain rfl := e1 (by omega)
      have := g2 rfl
      subst this
      have d1 : (1 < n) = True := eq_true (by omega)
      simp [d1]
    · obtain rfl := e1 (by omega)
      obtain rfl := e2 (by omega)
      have := g3 rfl
      subst this
      have d1 : (1 < n) = True := eq_true (by omega)
      have d2 : (2 < n) = True := eq_true (by omega)
      simp [d1, d2]
    · obtain rfl := e1 (by omega)
      obtain rfl := e2 (by omega)
      obtain rfl := e3 (by omega)
      have d1 : (1 < n) = True := eq_true (by omega)
      have d2 : (2 < n) = True := eq_true (by omega)
      have d3 : (3 < n) = True := eq_true (by omega)
      have d4 : (1 < m) = True := eq_true (by omega)
      have d5 : (2 < m) = True := eq_true (by omega)
      have d6 : (3 < m) = True := eq_true (by omega)
      simp only [d1, d2, d3, d4, d5, d6]
theorem get_cut (s : ByteArray) (k j : Nat) (hk : k ≤ s.size) (hj : j < k) : (s.extract 0 k).get! j = s.get! j := by
  have hsz : (s.extract 0 k).size = k := by rw [ByteArray.size_extract]; omega
  have h1 := get_at (s.extract 0 k) j (by omega)
  have h2 := get_at s j (by omega)
  rw [Nat.add_zero] at h1 h2
  rw [h1, h2]
  simp only [ByteArray.getElem_extract, Nat.zero_add]
theorem decode_cut (s : ByteArray) (k : Nat) (hk : k < s.size) (h47 : s[k].toNat = 47) (p : Nat) (hp : p < k) : Utf8.decode (s.extract 0 k) p = Utf8.decode s p := by
  have hsz : (s.extract 0 k).size = k := by rw [ByteArray.size_extract]; omega
  rw [decode_at, decode_at, hsz, get_cut s k p (by omega) hp]
  have g : ∀ i, p + i < k → ((s.extract 0 k).get! (p + i)).toNat = (s.get! (p + i)).toNat := fun i hi => by rw [get_cut s k (p + i) (by omega) hi]
  have gk : ∀ i, p + i = k → (s.get! (p + i)).toNat = 47 := fun i hi => by
    rw [get_bang s (p + i) (by omega)]
    simp only [hi]
    exact h47
  exact decodeN_cut _ _ _ _ _ _ _ _ _ (by omega) (by omega) (fun h => g 1 (by omega)) (fun h => g 2 (by omega)) (fun h => g 3 (by omega)) (fun h => gk 1 (by omega)) (fun h => gk 2 (by omega)) (fun h => gk 3 (by omega))
theorem strayF_cut (s : ByteArray) (k : Nat) (hk : k < s.size) (h47 : s[k].toNat = 47) : ∀ f g p, f ≤ g → p ≤ k → strayF (s.extract 0 k) f p = true → strayF s g p = true
  | 0, _, _, _, _, h => by cases h
  | f + 1, 0, _, h, _, _ => by omega
  | f + 1, g + 1, p, hfg, hpk, h => by
    have hsz : (s.extract 0 k).size = k := by rw [ByteArray.size_extract]; omega
    unfold strayF at h ⊢
    rw [hsz] at h
    by_cases hp : p < k
    · rw [if_pos hp] at h
      rw [if_pos (by omega : p < s.size)]
      have hd := decode_cut s k hk h47 p hp
      unfold strayAt at h ⊢
      rw [hd] at h
      by_cases hs : Utf8.decode s p = (65533, 1)
      · rw [if_pos (decide_eq_true hs)]
      · rw [if_neg (by rw [decide_eq_false hs]; decide)] at h ⊢
        refine strayF_cut s k hk h47 f g _ (by omega) ?_ h
        rcases decode_run (s.extract 0 k) p (by omega) with ⟨_, h2⟩ | ⟨_, _, _, _, h2, _⟩
        · rw [hd] at h2; rw [h2]; show p + 1 ≤ k; omega
        · rw [hd, hsz] at h2; exact h2
    · rw [if_neg hp] at h; cases h
theorem strays_cut (s : ByteArray) (k : Nat) (hk : k < s.size) (h47 : s[k].toNat = 47) (h : straysB s = false) : straysB (s.extract 0 k) = false := by
  have hsz : (s.extract 0 k).size = k := by rw [ByteArray.size_extract]; omega
  cases e : straysB (s.extract 0 k) with
  | false => rfl
  | true =>
    unfold straysB at e
    rw [hsz] at e
    have := strayF_cut s k hk h47 k s.size 0 (by omega) (by omega) e
    unfold straysB at h
    rw [h] at this
    cases this
end Go.Proofs.YtpkhpaklhfomkaaDoor
