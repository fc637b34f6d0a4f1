/-
  weigh's lengths, as a function of the counts: there are such lengths; how long they are; how far they fill; the program's Lengths answers them.
-/
import Derived.Test.YtfhbkidceombbaaWm3
namespace Go.Proofs.Ytfhbkidceombbaa.We
open Go.RowKit

theorem sum_at0 (h : Nat → Nat) (S : List Nat) : (S.map h).sum = sumTo (fun i => h (at0 S i)) S.length := by
  have key : ∀ k, k ≤ S.length → ((S.take k).map h).sum = sumTo (fun i => h (at0 S i)) k := by
    intro k
    induction k with
    | zero => intro _; simp [sumTo]
    | succ k ih =>
      intro hk
      rw [List.take_add_one, List.map_append, List.sum_append, ih (by omega), sumTo, at0, List.getElem?_eq_getElem (by omega)]
      simp
  have := key S.length (Nat.le_refl _)
  rwa [List.take_length] at this
theorem sum_perm (h : Nat → Nat) {S T : List Nat} (hp : S.Perm T) : (S.map h).sum = (T.map h).sum := by
  induction hp with
  | nil => rfl
  | cons x _ ih => simp [ih]
  | swap x y l => simp only [List.map_cons, List.sum_cons]; omega
  | trans _ _ ih1 ih2 => exact ih1.trans ih2
theorem spec_kraft {f L : Nat → Nat} {n most : Nat} (h : LenSpec f n most L) (hm : 1 ≤ most) (h2 : 2 ≤ (comeL f n).length) (hpow : (comeL f n).length ≤ 2 ^ most) :
    (∀ s ∈ comeL f n, 1 ≤ L s ∧ L s ≤ most) ∧ ((comeL f n).map fun s => 2 ^ (most - L s)).sum = 2 ^ most := by
  obtain ⟨S, hp, hs, _, _, hL⟩ := h
  have hl := hp.length_eq
  have hpw := srt_map f S hs
  have hL := hL (by omega)
  have hWl : (S.map f).length = S.length := List.length_map ..
  refine ⟨?_, ?_⟩
  · intro s hs'
    obtain ⟨i, hi, rfl⟩ : ∃ i, i < S.length ∧ at0 S i = s := by
      obtain ⟨i, hi, e⟩ := List.getElem_of_mem (hp.mem_iff.2 hs')
      exact ⟨i, hi, by rw [at0, List.getElem?_eq_getElem hi, e]; rfl⟩
    rw [hL i hi]
    exact ⟨lensOf_pos (S.map f) hpw most hm (by omega) (by omega) i (by omega), lensOf_le _ _ _⟩
  · rw [← sum_perm _ hp, sum_at0 (fun s => 2 ^ (most - L s)), ← lensOf_kraft (S.map f) hpw most hm (by omega) (by omega), hWl]
    exact sumTo_congr _ fun i hi => by rw [hL i hi]
theorem sum_scale (L : Nat → Nat) (most : Nat) (hm : most ≤ 15) (l : List Nat) (h : ∀ s ∈ l, L s ≤ most) : (l.map fun s => 2 ^ (15 - L s)).sum = 2 ^ (15 - most) * (l.map fun s => 2 ^ (most - L s)).sum := by
  induction l with
  | nil => simp
  | cons s l ih =>
    have hs := h s (by simp)
    rw [List.map_cons, List.map_cons, List.sum_cons, List.sum_cons, ih fun t ht => h t (by simp [ht]), Nat.mul_add, ← Nat.pow_add, show 15 - most + (most - L s) = 15 - L s by omega]
theorem fill_come (f L : Nat → Nat) (n : Nat) (h : ∀ i, i < n → (0 < L i ↔ 0 < f i)) : fillN L n = ((comeL f n).map fun s => 2 ^ (15 - L s)).sum := by
  induction n with
  | zero => rfl
  | succ n ih =>
    have hn := h n (by omega)
    rw [fillN, comeL, ih fun i hi => h i (by omega)]
    by_cases hf : 0 < f n
    · rw [if_pos hf, if_neg (by omega), List.map_append, List.sum_append]; simp
    · rw [if_neg hf, if_pos (by omega)]; simp
theorem fix_ex (f : Nat → Nat) (n most : Nat) (hn : n ≤ 1000) (hm : 1 ≤ most) (hpow : (comeL f n).length ≤ 2 ^ most) : ∃ L, LenFix f n most L := by
  have hp := List.mergeSort_perm (comeL f n) (fun a b => decide (keyF f a ≤ keyF f b))
  have hs := List.pairwise_mergeSort (le := fun a b => decide (keyF f a ≤ keyF f b)) (fun a b c h1 h2 => by simp at h1 h2 ⊢; omega) (fun a b => by simp; omega) (comeL f n)
  generalize (comeL f n).mergeSort (fun a b => decide (keyF f a ≤ keyF f b)) = S at *
  have hs2 : SrtOn (keyF f) 0 S.length S := fun i j _ h2 h3 => by
    rw [at0, at0, List.getElem?_eq_getElem (by omega), List.getElem?_eq_getElem h3]
    by_cases e : i = j
    · subst e; exact Nat.le_refl _
    · have := (List.pairwise_iff_getElem.1 hs) i j (by omega) h3 (by omega)
      simpa using this
  have hl := hp.length_eq
  by_cases h2 : 2 ≤ S.length
  · exact ⟨_, lens_many f n most hn S hp hs2 hm h2 (by omega)⟩
  · by_cases h1 : S.length = 1
    · refine ⟨fun s => if s = at0 S 0 then 1 else 0, S, hp, hs2, fun s hs' hf => ?_, fun _ => if_pos rfl, fun h => by omega⟩
      show (if s = at0 S 0 then 1 else 0) = 0
      rw [if_neg]
      intro e
      have := (at0_come hp 0 (by omega)).2
      rw [← e] at this
      omega
    · exact ⟨fun _ => 0, S, hp, hs2, fun _ _ _ => rfl, fun h => absurd h h1, fun h => absurd h h2⟩
theorem lensF_fix (f : Nat → Nat) (n most : Nat) (hn : n ≤ 1000) (hm : 1 ≤ most) (hpow : (comeL f n).length ≤ 2 ^ most) : LenFix f n most (lensF f n most) := by
  obtain ⟨L, h⟩ := fix_ex f n most hn hm hpow
  exact lensF_spec hn h
theorem lensF_iff (f : Nat → Nat) (n most : Nat) (hn : n ≤ 1000) (hm : 1 ≤ most) (hpow : (comeL f n).length ≤ 2 ^ most) (i : Nat) (hi : i < n) : (0 < lensF f n most i ↔ 0 < f i) ∧ lensF f n most i ≤ most ∧ ((comeL f n).length ≤ 1 → lensF f n most i ≤ 1) := by
  have h := (lensF_fix f n most hn hm hpow).spec hn
  rcases Nat.lt_or_ge (comeL f n).length 2 with h2 | h2
  · obtain ⟨S, hp, hs, h0, hone, _⟩ := h
    have hl := hp.length_eq
    rcases Nat.eq_zero_or_pos (f i) with hz | hz
    · rw [h0 i hi hz, hz]; simp
    · obtain ⟨j, hj, e⟩ := List.getElem_of_mem (hp.mem_iff.2 (comeL_mem f n i hi hz))
      have hj0 : j = 0 := by omega
      subst hj0
      have e2 : at0 S 0 = i := by rw [at0, List.getElem?_eq_getElem hj, e]; rfl
      have := hone (by omega)
      rw [e2] at this
      exact ⟨by omega, by omega, by omega⟩
  · obtain ⟨hb, _⟩ := spec_kraft h hm h2 hpow
    obtain ⟨S, hp, hs, h0, _, _⟩ := h
    rcases Nat.eq_zero_or_pos (f i) with hz | hz
    · rw [h0 i hi hz, hz]; simp
    · have := hb i (comeL_mem f n i hi hz)
      exact ⟨by omega, by omega, by omega⟩
theorem lensF_fill (f : Nat → Nat) (n most : Nat) (hn : n ≤ 1000) (hm : 1 ≤ most) (hm15 : most ≤ 15) (hpow : (comeL f n).length ≤ 2 ^ most) (h2 : 2 ≤ (comeL f n).length) : fillN (lensF f n most) n = 32768 := by
  obtain ⟨hb, hk⟩ := spec_kraft ((lensF_fix f n most hn hm hpow).spec hn) hm h2 hpow
  rw [fill_come f (lensF f n most) n fun i hi => (lensF_iff f n most hn hm hpow i hi).1, sum_scale (lensF f n most) most hm15 _ fun s hs => (hb s hs).2, hk, ← Nat.pow_add, show 15 - most + most = 15 by omega]
theorem sum_come (f L : Nat → Nat) : ∀ n, (∀ i, i < n → (0 < L i ↔ 0 < f i) ∧ L i ≤ 1) → sumN L n = (comeL f n).length
  | 0, _ => rfl
  | n + 1, h => by
    have hn := h n (by omega)
    rw [sumN, comeL, sum_come f L n fun i hi => h i (by omega)]
    by_cases hf : 0 < f n
    · rw [if_pos hf, List.length_append]
      have : L n = 1 := by omega
      rw [this]
      rfl
    · rw [if_neg hf]
      omega
/-- The program's Lengths. -/
theorem weigh_any (A : Option Addr) (n capA most : Nat) (f : Nat → Nat) (w : World) (hC : Cts w A n f) (hn : n ≤ 400) (hm1 : 1 ≤ most) (hm15 : most ≤ 15) (hpow : (comeL f n).length ≤ 2 ^ most) :
    Calls Try.prog 65 #[.slice A n capA, .int .i64 most] w fun e w' => ∃ gl, e = .returned (.tuple #[.slice (some ⟨gl, 0, none⟩) n n, .int .i64 0]) ∧ IsLen w' gl n (lensF f n most) ∧ w.heap.size ≤ gl ∧ Below w.heap.size w w' := by
  refine (lengths_any A n capA most f w hC hn hm1 hm15 hpow (fun base gd m cap pc _ h2 => sym_ok base gd m cap pc n (keyF f) (by have := comeL_le f n; omega))).mono ?_
  rintro e w' ⟨gl, L, rfl, h1, h2, h3, h4⟩
  exact ⟨gl, rfl, h1.ext fun i hi => lensF_of (by omega) h2 i hi, h3, h4⟩
theorem IsLen.lens {w : World} {g n : Nat} {f : Nat → Nat} (h : IsLen w g n f) (h256 : ∀ i, i < n → f i < 256) (m : Nat) (hm : m ≤ n) : Lens w (some ⟨g, 0, none⟩) m f := fun _ =>
  ⟨g, 0, rfl, lt_of_cells h, fun i hi => ⟨by rw [Nat.zero_add]; exact h.cell i (by omega), h256 i (by omega)⟩⟩
/-- Two that come. -/
theorem come_two {f : Nat → Nat} {n x y : Nat} (hx : x < n) (hy : y < n) (h1 : 0 < f x) (h2 : 0 < f y) (hne : x ≠ y) : 2 ≤ (comeL f n).length := by
  have hx' := comeL_mem f n x hx h1
  have hy' := comeL_mem f n y hy h2
  match hl : comeL f n, hx', hy' with
  | [], h, _ => cases h
  | [a], h, k => simp at h k; omega
  | _ :: _ :: _, _, _ => simp
end Go.Proofs.Ytfhbkidceombbaa.We
