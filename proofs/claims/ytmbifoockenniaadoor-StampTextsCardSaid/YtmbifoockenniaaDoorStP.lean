/-
  The order of texts and of DOS numbers goes by the time.
-/
import Derived.Test.YtmbifoockenniaaDoorStN
import Derived.Laws.Cover1
namespace Go.Proofs.YtmbifoockenniaaDoor
set_option maxRecDepth 100000
open Go.RowKit Go.Joins Go.Deep Go.Op

theorem less_same (a l r : List UInt8) : bytesLess (a ++ l) (a ++ r) = bytesLess l r := by
  induction a with
  | nil => rfl
  | cons x a ih => rw [List.cons_append, List.cons_append, bytesLess, ih]; simp
theorem dgl_succ (n k : Nat) : dgl n (k + 1) = dgl (n / 10) k ++ [UInt8.ofNat (48 + n % 10)] := by
  simp [dgl, dgs]
theorem less_dig (k : Nat) : ∀ (n n' : Nat) (l r : List UInt8), n < n' → n' < 10 ^ k → bytesLess (dgl n k ++ l) (dgl n' k ++ r) = true := by
  induction k with
  | zero => intro n n' l r h h'; simp at h'; omega
  | succ k ih =>
    intro n n' l r h h'
    rw [dgl_succ, dgl_succ, List.append_assoc, List.append_assoc]
    by_cases hd : n / 10 < n' / 10
    · exact ih _ _ _ _ hd (by rw [Nat.pow_succ] at h'; omega)
    · rw [show n / 10 = n' / 10 by omega, less_same]
      have h1 : n % 10 < n' % 10 := by omega
      rw [List.singleton_append, List.singleton_append, bytesLess]
      have : UInt8.ofNat (48 + n % 10) < UInt8.ofNat (48 + n' % 10) := by
        rw [UInt8.lt_iff_toNat_lt, show (UInt8.ofNat (48 + n % 10)).toNat = 48 + n % 10 from Nat.mod_eq_of_lt (by omega), show (UInt8.ofNat (48 + n' % 10)).toNat = 48 + n' % 10 from Nat.mod_eq_of_lt (by omega)]
        omega
      rw [decide_eq_true this]; rfl
/-- The text, as a list. -/
def tl (y m d h mi s : Nat) : List UInt8 := dgl y 4 ++ ([45] ++ (dgl m 2 ++ ([45] ++ (dgl d 2 ++ ([84] ++ (dgl h 2 ++ ([58] ++ (dgl mi 2 ++ ([58] ++ dgl s 2)))))))))
theorem dgI_data (n : Nat) (z : Int) : (dgI n z).data = (dgl n z.toNat).toArray := rfl
theorem txt_data (y m d h mi s : Nat) : (txt y m d h mi s).data = (tl y m d h mi s).toArray := by
  unfold txt tl
  simp only [ByteArray.data_append, dgI_data, List.append_toArray, List.append_assoc]
  rfl
theorem txt_le {y m d h mi s y' m' d' h' mi' s' : Nat} (by' : y' < 10000) (bm : m' < 100) (bd : d' < 100) (bh : h' < 100) (bmi : mi' < 100) (bs : s' < 100)
    (k : y < y' ∨ y = y' ∧ (m < m' ∨ m = m' ∧ (d < d' ∨ d = d' ∧ (h < h' ∨ h = h' ∧ (mi < mi' ∨ mi = mi' ∧ s ≤ s'))))) :
    (bytesLess (txt y m d h mi s).toList (txt y' m' d' h' mi' s').toList || (txt y m d h mi s).toList == (txt y' m' d' h' mi' s').toList) = true := by
  rw [ByteArray.toList_eq, ByteArray.toList_eq, txt_data, txt_data]
  show (bytesLess (tl y m d h mi s) (tl y' m' d' h' mi' s') || (tl y m d h mi s) == (tl y' m' d' h' mi' s')) = true
  unfold tl
  rcases k with k | ⟨rfl, k⟩
  · rw [less_dig 4 _ _ _ _ k by']; rfl
  rcases k with k | ⟨rfl, k⟩
  · rw [less_same, less_same, less_dig 2 _ _ _ _ k bm]; rfl
  rcases k with k | ⟨rfl, k⟩
  · rw [less_same, less_same, less_same, less_same, less_dig 2 _ _ _ _ k bd]; rfl
  rcases k with k | ⟨rfl, k⟩
  · rw [less_same, less_same, less_same, less_same, less_same, less_same, less_dig 2 _ _ _ _ k bh]; rfl
  rcases k with k | ⟨rfl, k⟩
  · rw [less_same, less_same, less_same, less_same, less_same, less_same, less_same, less_same, less_dig 2 _ _ _ _ k bmi]; rfl
  rcases Nat.lt_or_eq_of_le k with k | rfl
  · have := less_dig 2 s s' [] [] k bs
    rw [List.append_nil, List.append_nil] at this
    rw [less_same, less_same, less_same, less_same, less_same, less_same, less_same, less_same, less_same, less_same, this]; rfl
  · simp
theorem clock_le {a b : Nat} (h : a ≤ b) : a / 3600 < b / 3600 ∨ a / 3600 = b / 3600 ∧ (a / 60 % 60 < b / 60 % 60 ∨ a / 60 % 60 = b / 60 % 60 ∧ a % 60 ≤ b % 60) := by omega
theorem of_txt_le {t t' : Int} {y m d h mi s y' m' d' h' mi' s' : Nat} (H : OfIs t y m d h mi s 0) (H' : OfIs t' y' m' d' h' mi' s' 0) (k : t ≤ t') :
    (bytesLess (txt y m d h mi s).toList (txt y' m' d' h' mi' s').toList || (txt y m d h mi s).toList == (txt y' m' d' h' mi' s').toList) = true := by
  have hb := H'.bd
  refine txt_le hb.1 hb.2.1 hb.2.2.1 hb.2.2.2.1 hb.2.2.2.2.1 hb.2.2.2.2.2.1 ?_
  cases H with
  | yes y m d s hd ht =>
    cases H' with
    | yes y' m' d' s' hd' ht' =>
      have := date_le hd hd' (by have a := tI_inj ht; have b := tI_inj ht'; omega)
      rcases this with q | ⟨k1, q | ⟨k2, q | ⟨k3, k4⟩⟩⟩
      · exact .inl q
      · exact .inr ⟨k1, .inl q⟩
      · exact .inr ⟨k1, .inr ⟨k2, .inl q⟩⟩
      · exact .inr ⟨k1, .inr ⟨k2, .inr ⟨k3, clock_le k4⟩⟩⟩
theorem dosN_le {y m d s y' m' d' s' : Nat} (h : IsDate y m d s) (h' : IsDate y' m' d' s') (hl : 1980 ≤ y) (k : timeN y m d s ≤ timeN y' m' d' s') : dosN y m d s ≤ dosN y' m' d' s' := by
  have h1 := h.m2; have h2 := h.d2; have h3 := h.s2; have h4 := ml_bd y m
  have h1' := h'.m1; have h2' := h'.d1
  have := date_le h h' k
  unfold dosN
  rcases this with k | ⟨rfl, k | ⟨rfl, k | ⟨rfl, k4⟩⟩⟩
  · omega
  · omega
  · omega
  · have := clock_le k4
    omega
theorem dos_le {t t' : Int} {y m d s y' m' d' s' : Nat} (D : Dos t y m d s) (D' : Dos t' y' m' d' s') (k : t ≤ t') : dosN y m d s ≤ dosN y' m' d' s' := by
  obtain ⟨hd, he, hl, _⟩ := D
  obtain ⟨hd', he', _, _⟩ := D'
  refine dosN_le hd hd' hl ?_
  have a := tI_inj he
  have b := tI_inj he'
  have : (if t < 315532800 then (315532800 : Int) else if 4354819199 < t then 4354819199 else t) ≤ (if t' < 315532800 then 315532800 else if 4354819199 < t' then 4354819199 else t') := by
    split <;> split <;> (try split) <;> (try split) <;> omega
  omega
/-- The DOS number of a time, as a function. -/
theorem dos_fun : ∃ F : Int → Nat, (∀ t w, Calls Tryd.prog 17 #[.int .i64 t] w fun e w' => e = .returned (.int .u32 (F t : Nat)) ∧ Below w.heap.size w w') ∧ ∀ t t', t ≤ t' → F t ≤ F t' := by
  let G : Int → Nat := fun t =>
    let p := Classical.choose (dos_ex t); let q := Classical.choose (Classical.choose_spec (dos_ex t))
    let r := Classical.choose (Classical.choose_spec (Classical.choose_spec (dos_ex t)))
    dosN p q r (Classical.choose (Classical.choose_spec (Classical.choose_spec (Classical.choose_spec (dos_ex t)))))
  have hG : ∀ t, ∃ y m d s, Dos t y m d s ∧ G t = dosN y m d s := fun t => ⟨_, _, _, _, Classical.choose_spec (Classical.choose_spec (Classical.choose_spec (Classical.choose_spec (dos_ex t)))), rfl⟩
  refine ⟨G, fun t w => ?_, fun t t' k => ?_⟩
  · obtain ⟨y, m, d, s, h, e⟩ := hG t
    rw [e]
    exact toDOS_any t y m d s h w
  · obtain ⟨y, m, d, s, h, e⟩ := hG t
    obtain ⟨y', m', d', s', h', e'⟩ := hG t'
    rw [e, e']
    exact dos_le h h' k
end Go.Proofs.YtmbifoockenniaaDoor
