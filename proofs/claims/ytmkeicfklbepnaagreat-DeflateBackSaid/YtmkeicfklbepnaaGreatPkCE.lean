/-
 weigh's lengths, as a function of the counts: there are such lengths; how long they are; how far they fill; the program's Lengths answers them.
 block, by mathematics: the pieces of a row have two unlike signs; the bits that a row is told by.
 block: a block's tokens put by two codes; what is wrong with what is to be a block; a stored text put.
-/
import Derived.Test.YtmkeicfklbepnaaGreatWm3
import Derived.Test.YtmkeicfklbepnaaGreatPkCC
import Derived.Test.YtmkeicfklbepnaaGreatPkCD
import Derived.Test.YtmkeicfklbepnaaGreatBlkD
import Derived.Deep.DeepCutAuto

namespace Go.Proofs.YtmkeicfklbepnaaGreat.We
open Go.RowKit

theorem sum_at0 (h : Nat → Nat) (S : List Nat) : (S.map h).sum = sumTo (fun i => h (at0 S i)) S.length := by
 have key : ∀ k, k ≤ S.length → ((S.take k).map h).sum = sumTo (fun i => h (at0 S i)) k := by
  intro k
  induction k with
  | zero => intro _; simp [sumTo]
  | succ k ih =>
   intro hk
   rw [List.take_add_one, List.map_append, List.sum_append, ih (by omega), sumTo, at0, List.getElem?_eq_getElem (by omega)]
   simp
 have := key S.length (Nat.le_refl _)
 rwa [List.take_length] at this
theorem sum_perm (h : Nat → Nat) {S T : List Nat} (hp : S.Perm T) : (S.map h).sum = (T.map h).sum := by
 induction hp with
 | nil => rfl
 | cons x _ ih => simp [ih]
 | swap x y l => simp only [List.map_cons, List.sum_cons]; omega
 | trans _ _ ih1 ih2 => exact ih1.trans ih2
theorem spec_kraft {f L : Nat → Nat} {n most : Nat} (h : LenSpec f n most L) (hm : 1 ≤ most) (h2 : 2 ≤ (comeL f n).length) (hpow : (comeL f n).length ≤ 2 ^ most) :
  (∀ s ∈ comeL f n, 1 ≤ L s ∧ L s ≤ most) ∧ ((comeL f n).map fun s => 2 ^ (most - L s)).sum = 2 ^ most := by
 obtain ⟨S, hp, hs, _, _, hL⟩ := h
 have hl := hp.length_eq
 have hpw := srt_map f S hs
 have hL := hL (by omega)
 have hWl : (S.map f).length = S.length := List.length_map ..
 refine ⟨?_, ?_⟩
 ·intro s hs'
  obtain ⟨i, hi, rfl⟩ : ∃ i, i < S.length ∧ at0 S i = s := by
   obtain ⟨i, hi, e⟩ := List.getElem_of_mem (hp.mem_iff.2 hs')
   exact ⟨i, hi, by rw [at0, List.getElem?_eq_getElem hi, e]; rfl⟩
  rw [hL i hi]
  exact ⟨lensOf_pos (S.map f) hpw most hm (by omega) (by omega) i (by omega), lensOf_le _ _ _⟩
 ·rw [← sum_perm _ hp, sum_at0 (fun s => 2 ^ (most - L s)), ← lensOf_kraft (S.map f) hpw most hm (by omega) (by omega), hWl]
  exact sumTo_congr _ fun i hi => by rw [hL i hi]
theorem sum_scale (L : Nat → Nat) (most : Nat) (hm : most ≤ 15) (l : List Nat) (h : ∀ s ∈ l, L s ≤ most) : (l.map fun s => 2 ^ (15 - L s)).sum = 2 ^ (15 - most) * (l.map fun s => 2 ^ (most - L s)).sum := by
 induction l with
 | nil => simp
 | cons s l ih =>
  have hs := h s (by simp)
  rw [List.map_cons, List.map_cons, List.sum_cons, List.sum_cons, ih fun t ht => h t (by simp [ht]), Nat.mul_add, ← Nat.pow_add, show 15 - most + (most - L s) = 15 - L s by omega]
theorem fill_come (f L : Nat → Nat) (n : Nat) (h : ∀ i, i < n → (0 < L i ↔ 0 < f i)) : fillN L n = ((comeL f n).map fun s => 2 ^ (15 - L s)).sum := by
 induction n with
 | zero => rfl
 | succ n ih =>
  have hn := h n (by omega)
  rw [fillN, comeL, ih fun i hi => h i (by omega)]
  by_cases hf : 0 < f n
  ·rw [if_pos hf, if_neg (by omega), List.map_append, List.sum_append]; simp
  ·rw [if_neg hf, if_pos (by omega)]; simp
theorem fix_ex (f : Nat → Nat) (n most : Nat) (hn : n ≤ 1000) (hm : 1 ≤ most) (hpow : (comeL f n).length ≤ 2 ^ most) : ∃ L, LenFix f n most L := by
 have hp := List.mergeSort_perm (comeL f n) (fun a b => decide (keyF f a ≤ keyF f b))
 have hs := List.pairwise_mergeSort (le := fun a b => decide (keyF f a ≤ keyF f b)) (fun a b c h1 h2 => by simp at h1 h2 ⊢; omega) (fun a b => by simp; omega) (comeL f n)
 generalize (comeL f n).mergeSort (fun a b => decide (keyF f a ≤ keyF f b)) = S at *
 have hs2 : SrtOn (keyF f) 0 S.length S := fun i j _ h2 h3 => by
  rw [at0, at0, List.getElem?_eq_getElem (by omega), List.getElem?_eq_getElem h3]
  by_cases e : i = j
  ·subst e; exact Nat.le_refl _
  ·have := (List.pairwise_iff_getElem.1 hs) i j (by omega) h3 (by omega)
   simpa using this
 have hl := hp.length_eq
 by_cases h2 : 2 ≤ S.length
 ·exact ⟨_, lens_many f n most hn S hp hs2 hm h2 (by omega)⟩
 ·by_cases h1 : S.length = 1
  ·refine ⟨fun s => if s = at0 S 0 then 1 else 0, S, hp, hs2, fun s hs' hf => ?_, fun _ => if_pos rfl, fun h => by omega⟩
   show (if s = at0 S 0 then 1 else 0) = 0
   rw [if_neg]
   intro e
   have := (at0_come hp 0 (by omega)).2
   rw [← e] at this
   omega
  ·exact ⟨fun _ => 0, S, hp, hs2, fun _ _ _ => rfl, fun h => absurd h h1, fun h => absurd h h2⟩
theorem lensF_fix (f : Nat → Nat) (n most : Nat) (hn : n ≤ 1000) (hm : 1 ≤ most) (hpow : (comeL f n).length ≤ 2 ^ most) : LenFix f n most (lensF f n most) := by
 obtain ⟨L, h⟩ := fix_ex f n most hn hm hpow
 exact lensF_spec hn h
theorem lensF_iff (f : Nat → Nat) (n most : Nat) (hn : n ≤ 1000) (hm : 1 ≤ most) (hpow : (comeL f n).length ≤ 2 ^ most) (i : Nat) (hi : i < n) : (0 < lensF f n most i ↔ 0 < f i) ∧ lensF f n most i ≤ most ∧ ((comeL f n).length ≤ 1 → lensF f n most i ≤ 1) := by
 have h := (lensF_fix f n most hn hm hpow).spec hn
 rcases Nat.lt_or_ge (comeL f n).length 2 with h2 | h2
 ·obtain ⟨S, hp, hs, h0, hone, _⟩ := h
  have hl := hp.length_eq
  rcases Nat.eq_zero_or_pos (f i) with hz | hz
  ·rw [h0 i hi hz, hz]; simp
  ·obtain ⟨j, hj, e⟩ := List.getElem_of_mem (hp.mem_iff.2 (comeL_mem f n i hi hz))
   have hj0 : j = 0 := by omega
   subst hj0
   have e2 : at0 S 0 = i := by rw [at0, List.getElem?_eq_getElem hj, e]; rfl
   have := hone (by omega)
   rw [e2] at this
   exact ⟨by omega, by omega, by omega⟩
 ·obtain ⟨hb, _⟩ := spec_kraft h hm h2 hpow
  obtain ⟨S, hp, hs, h0, _, _⟩ := h
  rcases Nat.eq_zero_or_pos (f i) with hz | hz
  ·rw [h0 i hi hz, hz]; simp
  ·have := hb i (comeL_mem f n i hi hz)
   exact ⟨by omega, by omega, by omega⟩
theorem lensF_fill (f : Nat → Nat) (n most : Nat) (hn : n ≤ 1000) (hm : 1 ≤ most) (hm15 : most ≤ 15) (hpow : (comeL f n).length ≤ 2 ^ most) (h2 : 2 ≤ (comeL f n).length) : fillN (lensF f n most) n = 32768 := by
 obtain ⟨hb, hk⟩ := spec_kraft ((lensF_fix f n most hn hm hpow).spec hn) hm h2 hpow
 rw [fill_come f (lensF f n most) n fun i hi => (lensF_iff f n most hn hm hpow i hi).1, sum_scale (lensF f n most) most hm15 _ fun s hs => (hb s hs).2, hk, ← Nat.pow_add, show 15 - most + most = 15 by omega]
theorem sum_come (f L : Nat → Nat) : ∀ n, (∀ i, i < n → (0 < L i ↔ 0 < f i) ∧ L i ≤ 1) → sumN L n = (comeL f n).length
 | 0, _ => rfl
 | n + 1, h => by
  have hn := h n (by omega)
  rw [sumN, comeL, sum_come f L n fun i hi => h i (by omega)]
  by_cases hf : 0 < f n
  ·rw [if_pos hf, List.length_append]
   have : L n = 1 := by omega
   rw [this]
   rfl
  ·rw [if_neg hf]
   omega
/-- The program's Lengths. -/
theorem weigh_any (A : Option Addr) (n capA most : Nat) (f : Nat → Nat) (w : World) (hC : Cts w A n f) (hn : n ≤ 400) (hm1 : 1 ≤ most) (hm15 : most ≤ 15) (hpow : (comeL f n).length ≤ 2 ^ most) :
  Calls Tryz.prog 88 #[.slice A n capA, .int .i64 most] w fun e w' => ∃ gl, e = .returned (.tuple #[.slice (some ⟨gl, 0, none⟩) n n, .int .i64 0]) ∧ IsLen w' gl n (lensF f n most) ∧ w.heap.size ≤ gl ∧ Below w.heap.size w w' := by
 refine (lengths_any A n capA most f w hC hn hm1 hm15 hpow (fun base gd m cap pc _ h2 => sym_ok base gd m cap pc n (keyF f) (by have := comeL_le f n; omega))).mono ?_
 rintro e w' ⟨gl, L, rfl, h1, h2, h3, h4⟩
 exact ⟨gl, rfl, h1.ext fun i hi => lensF_of (by omega) h2 i hi, h3, h4⟩
theorem IsLen.lens {w : World} {g n : Nat} {f : Nat → Nat} (h : IsLen w g n f) (h256 : ∀ i, i < n → f i < 256) (m : Nat) (hm : m ≤ n) : Lens w (some ⟨g, 0, none⟩) m f := fun _ =>
 ⟨g, 0, rfl, lt_of_cells h, fun i hi => ⟨by rw [Nat.zero_add]; exact h.cell i (by omega), h256 i (by omega)⟩⟩
/-- Two that come. -/
theorem come_two {f : Nat → Nat} {n x y : Nat} (hx : x < n) (hy : y < n) (h1 : 0 < f x) (h2 : 0 < f y) (hne : x ≠ y) : 2 ≤ (comeL f n).length := by
 have hx' := comeL_mem f n x hx h1
 have hy' := comeL_mem f n y hy h2
 match hl : comeL f n, hx', hy' with
 | [], h, _ => cases h
 | [a], h, k => simp at h k; omega
 | _ :: _ :: _, _, _ => simp
end Go.Proofs.YtmkeicfklbepnaaGreat.We

namespace Go.Proofs.YtmkeicfklbepnaaGreat
set_option maxRecDepth 100000
open Go.RowKit Go.Joins Go.Deep

theorem pc_cases (row : Nat → Nat) (n a : Nat) (ha : a < n) : (((pcN row n a).sg = 18 ∨ (pcN row n a).sg = 17) ∧ ∀ j, j < (pcN row n a).mn → row (a + j) = 0) ∨
  ((pcN row n a).sg = 16 ∧ 0 < a ∧ row (a - 1) = row a ∧ ∀ j, j < (pcN row n a).mn → row (a + j) = row a) ∨ ((pcN row n a).sg = row a ∧ (pcN row n a).mn = 1) := by
 obtain ⟨_, _, h3⟩ := alk_ge row n a ha
 unfold pcN
 split
 ·rename_i h
  exact .inl ⟨.inl rfl, fun j hj => by dsimp only at hj; rw [h3 j (by omega), h.1]⟩
 ·split
  ·rename_i h
   exact .inl ⟨.inr rfl, fun j hj => by dsimp only at hj; rw [h3 j hj, h.1]⟩
  ·split
   ·rename_i h
    exact .inr (.inl ⟨rfl, h.1, h.2.1, fun j hj => by dsimp only at hj; rw [h3 j (by omega)]⟩)
   ·exact .inr (.inr ⟨rfl, rfl⟩)
theorem split_uniq {row : Nat → Nat} {n K K' : Nat} (h : Split1 row n K) (h' : Split1 row n K') : K = K' := by
 rcases Nat.lt_trichotomy K K' with e | e | e
 ·have := h'.2 K e; have := h.1; omega
 ·exact e
 ·have := h.2 K' e; have := h'.1; omega
open Classical in
noncomputable def kN (row : Nat → Nat) (n : Nat) : Nat := if h : ∃ K, Split1 row n K then Classical.choose h else 0
theorem kN_of {row : Nat → Nat} {n K : Nat} (h : Split1 row n K) : kN row n = K := by
 unfold kN
 rw [dif_pos ⟨K, h⟩]
 exact split_uniq (Classical.choose_spec (⟨K, h⟩ : ∃ K, Split1 row n K)) h
theorem split_ex (row : Nat → Nat) (n : Nat) : Split1 row n (kN row n) := by
 have key : ∀ d k, n - pzN row n k ≤ d → pzN row n k ≤ n → (∀ j, j < k → pzN row n j < n) → ∃ K, Split1 row n K := by
  intro d
  induction d with
  | zero => intro k h1 h2 h3; exact ⟨k, by omega, h3⟩
  | succ d ih =>
   intro k h1 h2 h3
   by_cases e : pzN row n k = n
   ·exact ⟨k, e, h3⟩
   ·have hlt : pzN row n k < n := by omega
    have := pc_mn row n _ hlt
    refine ih (k + 1) ?_ ?_ fun j hj => ?_
    ·show n - (pzN row n k + _) ≤ d; omega
    ·show pzN row n k + _ ≤ n; omega
    ·by_cases e2 : j = k
     ·subst e2; exact hlt
     ·exact h3 j (by omega)
 obtain ⟨K, h⟩ := key n 0 (by omega) (Nat.zero_le _) (fun j hj => by omega)
 rw [kN_of h]
 exact h
/-- How often each sign comes among the first pieces. -/
def cntP (row : Nat → Nat) (n : Nat) : Nat → Nat → Nat
 | 0 => fun _ => 0
 | k + 1 => bump (cntP row n k) (pkN row n k).sg
theorem cntP_le (row : Nat → Nat) (n : Nat) : ∀ k i, cntP row n k i ≤ k
 | 0, _ => Nat.le_refl _
 | k + 1, i => bump_le _ _ k (cntP_le row n k) i
theorem cntP_pos (row : Nat → Nat) (n : Nat) : ∀ k i, i < k → 0 < cntP row n k (pkN row n i).sg
 | 0, i, h => by omega
 | k + 1, i, h => by
  rw [cntP, bump]
  by_cases e : i = k
  ·subst e
   rw [if_pos rfl]
   omega
  ·have := cntP_pos row n k i (by omega)
   split <;> omega
theorem two_signs {row : Nat → Nat} {n K : Nat} (h : Split1 row n K) (hn : 258 ≤ n) (h15 : ∀ i, i < n → row i ≤ 15) (hz : ∃ i, i < n ∧ row i ≠ 0) : 2 ≤ (We.comeL (cntP row n K) 19).length := by
 have hK : 0 < K := by
  rcases Nat.eq_zero_or_pos K with e | e
  ·subst e; have h1 : pzN row n 0 = n := h.1; rw [pzN] at h1; omega
  ·exact e
 by_cases hs : ∃ i, i < K ∧ (pkN row n i).sg ≠ (pkN row n 0).sg
 ·obtain ⟨i, hi, hne⟩ := hs
  have b0 := (pc_bd row n (pzN row n 0) (by have := h15 _ (h.2 0 hK); omega)).1
  have bi := (pc_bd row n (pzN row n i) (by have := h15 _ (h.2 i hi); omega)).1
  exact We.come_two bi b0 (cntP_pos row n K i hi) (cntP_pos row n K 0 hK) hne
 ·exfalso
  have hall : ∀ i, i < K → (pkN row n i).sg = (pkN row n 0).sg := fun i hi => Classical.byContradiction fun hc => hs ⟨i, hi, hc⟩
  have hlt : ∀ i, i < K → pzN row n i < n := h.2
  obtain ⟨iz, hiz, hnz⟩ := hz
  rcases pc_cases row n (pzN row n 0) (hlt 0 hK) with ⟨h1, _⟩ | ⟨_, h1, _⟩ | ⟨h1, h2⟩
  ·-- noughts alone
   have cov : ∀ k, k ≤ K → ∀ j, j < pzN row n k → row j = 0 := by
    intro k
    induction k with
    | zero => intro _ j hj; rw [pzN] at hj; omega
    | succ k ih =>
     intro hk j hj
     by_cases hjk : j < pzN row n k
     ·exact ih (by omega) j hjk
     ·have he := hall k (by omega)
      rcases pc_cases row n (pzN row n k) (hlt k (by omega)) with ⟨_, g⟩ | ⟨g, _⟩ | ⟨g, _⟩
      ·have := g (j - pzN row n k) (by have : pzN row n (k + 1) = pzN row n k + (pcN row n (pzN row n k)).mn := rfl; omega)
       rwa [show pzN row n k + (j - pzN row n k) = j by omega] at this
      ·unfold pkN at he; omega
      ·have := h15 _ (hlt k (by omega)); unfold pkN at he; omega
   exact hnz (cov K (Nat.le_refl _) iz (by rw [h.1]; exact hiz))
  ·rw [pzN] at h1; omega
  ·have hs15 : (pkN row n 0).sg ≤ 15 := by have := h15 _ (hlt 0 hK); unfold pkN; omega
   have cov : ∀ k, k ≤ K → pzN row n k = k ∧ ∀ j, j < k → row j = (pkN row n 0).sg := by
    intro k
    induction k with
    | zero => exact fun _ => ⟨rfl, fun j hj => by omega⟩
    | succ k ih =>
     intro hk
     obtain ⟨g1, g2⟩ := ih (by omega)
     have he := hall k (by omega)
     rcases pc_cases row n (pzN row n k) (hlt k (by omega)) with ⟨g, _⟩ | ⟨g, _⟩ | ⟨g, g3⟩
     ·unfold pkN at he hs15; omega
     ·unfold pkN at he hs15; omega
     ·have e1 : pzN row n (k + 1) = pzN row n k + (pcN row n (pzN row n k)).mn := rfl
      refine ⟨by omega, fun j hj => ?_⟩
      by_cases e : j = k
      ·subst e
       rw [← he]
       unfold pkN
       rw [g, g1]
      ·exact g2 j (by omega)
   obtain ⟨hKn, hrow⟩ := cov K (Nat.le_refl _)
   have hKn2 : K = n := by rw [← hKn, h.1]
   subst hKn2
   have hsz : (pkN row K 0).sg ≠ 0 := by rw [← hrow iz hiz]; exact hnz
   have hak : alkN row K 1 = K - 1 := alF_eq _ _ _ (fun i hi => by simp [hrow (1 + i) (by omega), hrow 1 (by omega)]) (Nat.le_refl _) (.inl rfl)
   have h16 : (pkN row K 1).sg = 16 := by
    unfold pkN
    rw [(cov 1 (by omega)).1]
    unfold pcN
    rw [hrow 1 (by omega), if_neg (fun e => hsz e.1), if_neg (fun e => hsz e.1), if_pos ⟨by omega, hrow 0 (by omega), by omega⟩]
   have := hall 1 (by omega)
   omega

/-! ## The bits -/
def ordF (L : Nat → Nat) (i : Nat) : Nat := L (orderL.getD i 0)
def threeB (L : Nat → Nat) : Nat → Bs
 | 0 => (0, 0)
 | k + 1 => (threeB L k).app (wB (ordF L k) 3)
def pcB (c : Cod) (row : Nat → Nat) (n : Nat) : Nat → Bs
 | 0 => (0, 0)
 | k + 1 => (pcB c row n k).app ((sgB c (pkN row n k).sg).app (wB (pkN row n k).re (pkN row n k).mo))
/-- The lengths of lengths of a row. -/
noncomputable def rowL (row : Nat → Nat) (n : Nat) : Nat → Nat := We.lensF (cntP row n (kN row n)) 19 7
noncomputable def rowH (row : Nat → Nat) (n : Nat) : Nat := shrN (ordF (rowL row n)) 4 19
noncomputable def rowC (row : Nat → Nat) (n : Nat) : Cod := ⟨19, rowL row n⟩
/-- A row's bits. -/
noncomputable def rowBs (row : Nat → Nat) (n : Nat) : Bs := ((wB (rowH row n - 4) 4).app (threeB (rowL row n) (rowH row n))).app (pcB (rowC row n) row n (kN row n))
theorem rowL_pow (row : Nat → Nat) (n : Nat) : (We.comeL (cntP row n (kN row n)) 19).length ≤ 2 ^ 7 := by
 have := We.comeL_le (cntP row n (kN row n)) 19
 omega
theorem rowL_le (row : Nat → Nat) (n i : Nat) (hi : i < 19) : rowL row n i ≤ 7 := (We.lensF_iff _ 19 7 (by omega) (by omega) (rowL_pow row n) i hi).2.1
theorem rowC_may {row : Nat → Nat} {n : Nat} (hn : 258 ≤ n) (h15 : ∀ i, i < n → row i ≤ 15) (hz : ∃ i, i < n ∧ row i ≠ 0) : may (rowC row n) false := by
 have h := We.lensF_fill (cntP row n (kN row n)) 19 7 (by omega) (by omega) (by omega) (rowL_pow row n) (two_signs (split_ex row n) hn h15 hz)
 exact ⟨Nat.le_of_eq h, .inl h⟩
theorem ord_lt19 : ∀ i, i < 19 → orderL.getD i 0 < 19 := by decide
theorem threeB_len (L : Nat → Nat) : ∀ k, (threeB L k).2 = 3 * k
 | 0 => rfl
 | k + 1 => by show (threeB L k).2 + 3 = _; rw [threeB_len L k]; omega
theorem pcB_le (c : Cod) (row : Nat → Nat) (n : Nat) (hc : ∀ i, i < c.n → c.ls i ≤ 7) : ∀ k, (∀ i, i < k → (pkN row n i).mo ≤ 7) → (pcB c row n k).2 ≤ 14 * k
 | 0, _ => Nat.le_refl _
 | k + 1, h => by
  have h1 := pcB_le c row n hc k fun i hi => h i (by omega)
  have h2 := h k (by omega)
  have h3 : (sgB c (pkN row n k).sg).2 ≤ 7 := by
   unfold sgB
   split
   ·rename_i h; exact hc _ h
   ·exact Nat.zero_le _
  show (pcB c row n k).2 + ((sgB c (pkN row n k).sg).2 + (pkN row n k).mo) ≤ _
  omega
end Go.Proofs.YtmkeicfklbepnaaGreat

namespace Go.Proofs.YtmkeicfklbepnaaGreat
set_option maxRecDepth 100000
open Go.RowKit Go.Joins Go.Deep

theorem tokB_le (c d : Cod) (t : Tok) (hc : ∀ i, i < c.n → c.ls i ≤ 15) (hd : ∀ i, i < d.n → d.ls i ≤ 15) : (tokB c d t).2 ≤ 48 := by
 unfold tokB
 split
 ·have := sgB_le c t.b hc; omega
 ·have h1 := sgB_le c (lsg t.l.toNat) hc
  have h2 := sgB_le d (dsg t.d.toNat) hd
  have h3 := (len_bound (lsg t.l.toNat)).2
  have h4 := (dist_bound (dsg t.d.toNat)).2
  show (sgB c _).2 + _ + (sgB d _).2 + _ ≤ 48
  show (sgB c _).2 + (lenOf (lsg t.l.toNat)).2 + (sgB d _).2 + (distOf (dsg t.d.toNat)).2 ≤ 48
  omega
theorem toksB_le (c d : Cod) (f : Nat → Tok) (hc : ∀ i, i < c.n → c.ls i ≤ 15) (hd : ∀ i, i < d.n → d.ls i ≤ 15) : ∀ k, (toksB c d f k).2 ≤ 48 * k
 | 0 => Nat.le_refl _
 | k + 1 => by
  have h1 := toksB_le c d f hc hd k
  have h2 := tokB_le c d (f k) hc hd
  show (toksB c d f k).2 + (tokB c d (f k)).2 ≤ _
  omega
def CodV (gs gd : Nat) : Value := .agg #[.pointer (some ⟨gs, 0, none⟩), .pointer (some ⟨gd, 0, none⟩)]
theorem info_bcodes : (Tryz.prog.info? 107).map (·.size) = some 2 := by kernel_rfl

/-- What lies about while tokens are put. -/
def PSt (w : World) (gs gd Bw gw n : Nat) (A : Option Addr) (f : Nat → Tok) (r : Option Nat) (c d : Cod) (Q : Bs) (r1 : Option Nat) (wr : World) : Prop :=
 WrB wr Bw gw r1 Q ∧ Upd gw r r1 w wr ∧ CodeAt wr gs c ∧ CodeAt wr gd d ∧ TokB wr Bw A n f ∧ wr.heap[w.heap.size]? = some (.cells #[.pointer (some ⟨gs, 0, none⟩), .pointer (some ⟨gd, 0, none⟩)] 107 (0, 0)) ∧ Bw ≤ wr.heap.size
theorem PSt.emit {w wr w2 : World} {gs gd Bw gw n : Nat} {A : Option Addr} {f : Nat → Tok} {r r1 r2 : Option Nat} {c d : Cod} {Q Q2 : Bs} (h : PSt w gs gd Bw gw n A f r c d Q r1 wr) (hu : Upd gw r1 r2 wr w2) (hw : WrB w2 Bw gw r2 Q2) : PSt w gs gd Bw gw n A f r c d Q2 r2 w2 := by
 obtain ⟨h1, h2, h3, h4, h5, h6, h7⟩ := h
 have hf := farW_upd h1 hu
 exact ⟨hw, h2.then hu, h3.far hf, h4.far hf, h5.upd h1 hu, hf.cells h6 (by decide) (by decide), Nat.le_trans h7 hu.1.size⟩
theorem PSt.below {w wr w2 : World} {gs gd Bw gw n : Nat} {A : Option Addr} {f : Nat → Tok} {r r1 : Option Nat} {c d : Cod} {Q : Bs} (h : PSt w gs gd Bw gw n A f r c d Q r1 wr) (hb : Below wr.heap.size wr w2) : PSt w gs gd Bw gw n A f r c d Q r1 w2 :=
 h.emit ⟨kept_below hb, .inl rfl⟩ (Wr.stay h.1 fun i hi _ => hb.block i hi)

set_option maxHeartbeats 4000000 in
theorem codes_put (gs gd Bw gw n cap : Nat) (A : Option Addr) (f : Nat → Tok) (r : Option Nat) (P : Bs) (c d : Cod) (hn : n ≤ 100000) (hL : P.2 ≤ 100000000) (hR : ∀ i, i < n → rightT (f i) = true) (w : World) (hB : Bw ≤ w.heap.size)
  (hc : CodeAt w gs c) (hd : CodeAt w gd d) (hT : TokB w Bw A n f) (hw : WrB w Bw gw r P) :
  Calls Tryz.prog 55 #[CodV gs gd, .pointer (some ⟨gw, 0, none⟩), .slice A n cap] w fun e w' => e = .returned (.tuple #[]) ∧ Emits w Bw gw r ((P.app (toksB c d f n)).app (sgB c 256)) w' := by
 have HTL := Lib.hid (toksB_le c d f (fun i hi => (hc.2.2.2 i hi).1) (fun i hi => (hd.2.2.2 i hi).1))
 have HR := Lib.hid hR
 have hb0 : Below w.heap.size w (w.alloc (.cells #[.pointer (some ⟨gs, 0, none⟩), .pointer (some ⟨gd, 0, none⟩)] 107)) := (Below.refl _ _).alloc (Nat.le_refl _) _
 have hu0 : Upd gw r r w (w.alloc (.cells #[.pointer (some ⟨gs, 0, none⟩), .pointer (some ⟨gd, 0, none⟩)] 107)) := ⟨(kept_alloc (fun _ => False) w _).more fun _ e => e.elim, .inl rfl⟩
 have HI : Hid (PSt w gs gd Bw gw n A f r c d (P.app (toksB c d f 0)) r (w.alloc (.cells #[.pointer (some ⟨gs, 0, none⟩), .pointer (some ⟨gd, 0, none⟩)] 107))) :=
  ⟨(by rw [toksB, bs_nil]; exact Wr.alloc hw _), hu0, hc.far (farW_below hb0), hd.far (farW_below hb0), hT.later hb0 (Nat.le_refl _), heap_alloc_new w _, (by simp; omega)⟩
 have hit := info_tok
 have hci := hc.2.2.2
 have hdi := hd.2.2.2
 have HCI := Lib.hid hci
 have HDI := Lib.hid hdi
 clear hc hd hT hw hb0 hu0 hR hci hdi
 unfold CodV
 go_enter Tryz.func55, Tryz.ntmps55
 go_wp2_with fail
 generalize w.alloc (.cells #[.pointer (some ⟨gs, 0, none⟩), .pointer (some ⟨gd, 0, none⟩)] 107) = w1 at *
 go_loopw [14] (fun i wr => ∃ (k : Nat) (r1 : Option Nat), k ≤ n ∧ i = .int .i64 (k : Nat) ∧ Hid (PSt w gs gd Bw gw n A f r c d (P.app (toksB c d f k)) r1 wr)) (fun i _ => n - (intOf i).toNat)
 case atStart => exact ⟨0, r, Nat.zero_le _, rfl, HI⟩
 case round =>
  obtain ⟨k, r1, hk, rfl, HC⟩ := hrel
  have hc6 := HC.out.2.2.2.2.2.1
  by_cases hkn : k < n
  ·obtain ⟨b, off, rfl, _, hbl, hcl⟩ := HC.out.2.2.2.2.1 (by omega)
   obtain ⟨hok, c0, c1, c2⟩ := hcl k hkn
   have hbx := heap_alloc_new wr (.cells #[.int .u8 ((f k).b : Nat), .int .i64 (f k).l, .int .i64 (f k).d] 76)
   have hba : Below wr.heap.size wr (wr.alloc (.cells #[.int .u8 ((f k).b : Nat), .int .i64 (f k).l, .int .i64 (f k).d] 76)) := (Below.refl _ _).alloc (Nat.le_refl _) _
   have HC4 := Lib.hid (HC.out.below hba)
   have HBX := Lib.hid hbx
   have HRT := Lib.hid (HR.out k hkn)
   have HTS := Lib.hid (show toksB c d f (k + 1) = (toksB c d f k).app (tokB c d (f k)) from rfl)
   have hlk := HTL.out k
   clear hcl hbx hba HC
   have hQ : (P.app (toksB c d f k)).2 ≤ 200000000 := by show P.2 + (toksB c d f k).2 ≤ _; omega
   generalize hQQ : P.app (toksB c d f k) = Q at *
   have HNX : Hid (P.app (toksB c d f (k + 1)) = Q.app (tokB c d (f k))) := by show _ = _; rw [HTS.out, ← bs_assoc, hQQ]
   clear hQQ hlk
   generalize f k = U at *
   obtain ⟨tb, tl, td⟩ := U
   dsimp only at *
   have htb : tb < 256 := hok.1
   clear hok
   go_upto_region 4 with fail
   generalize wr.alloc (.cells #[.int .u8 (tb : Nat), .int .i64 tl, .int .i64 td] 76) = w6 at *
   have hx6 := HBX.out
   have k0 := (cell_of_row _ _ 0 _ _ _ hx6).trans (show _ = some (Value.int .u8 (tb : Nat)) from rfl)
   have k1 := (cell_of_row _ _ 1 _ _ _ hx6).trans (show _ = some (Value.int .i64 tl) from rfl)
   have hy6 := HC4.out.2.2.2.2.2.1
   have e0 := (cell_of_row _ _ 0 _ _ _ hy6).trans (show _ = some (Value.pointer (some ⟨gs, 0, none⟩)) from rfl)
   by_cases hl0 : tl = 0
   ·subst hl0
    have HP := Lib.hid (put_sg gs tb Bw gw r1 Q c (by omega) w6 HC4.out.2.2.2.2.2.2 HC4.out.2.2.1 HC4.out.1)
    have HT0 : Hid (tokB c d ⟨tb, 0, td⟩ = sgB c tb) := by show _ = _; unfold tokB; exact if_pos rfl
    have hwb : wrap64 (tb : Int) = (tb : Int) := by unfold wrap64; omega
    clear hx6 hy6
    go_wp2_with fail
    (with_reducible refine (HP.out).mono ?_); rintro e w7 ⟨⟨x, rfl⟩, r2, hw7, hu7⟩
    have HC7 := Lib.hid (HC4.out.emit hu7 hw7)
    clear hw7 hu7
    go_wp2_with fail
    go_roundw
    case rel => exact ⟨k + 1, r2, by omega, by go_num, by rw [Hid, HNX.out, HT0.out]; exact HC7.out⟩
    case measure => simp [intOf]; omega
   ·obtain ⟨_, hr1, hr2, hr3, hr4⟩ := right_copy HRT.out hl0
    dsimp only at hr1 hr2 hr3 hr4
    obtain ⟨ln, rfl⟩ := Int.eq_ofNat_of_zero_le (show 0 ≤ tl by omega)
    obtain ⟨dn, rfl⟩ := Int.eq_ofNat_of_zero_le (show 0 ≤ td by omega)
    have HBL := Lib.hid (fun w => blen_any (ln : Nat) w)
    have HBD := Lib.hid (fun w => bdist_any (dn : Nat) w)
    rw [lenT_in ln (by omega)] at HBL
    rw [dstT_in dn (by omega)] at HBD
    dsimp only at HBL HBD
    have HT0 : Hid (tokB c d ⟨tb, (ln : Nat), (dn : Nat)⟩ = (((sgB c (lsg ln)).app (wB (ln - (lenOf (lsg ln)).1) (lenOf (lsg ln)).2)).app (sgB d (dsg dn))).app (wB (dn - (distOf (dsg dn)).1) (distOf (dsg dn)).2)) := by
     show _ = _
     unfold tokB
     rw [if_neg (by exact hl0)]
     dsimp only [Int.toNat_natCast]
    have hb1 := (len_bound (lsg ln)).2
    have hb2 := (dist_bound (dsg dn)).2
    have hb3 : ln - (lenOf (lsg ln)).1 < 4294967296 := by omega
    have hb4 : dn - (distOf (dsg dn)).1 < 4294967296 := by omega
    have hsg1 := sgB_le c (lsg ln) (fun i hi => (HCI.out i hi).1)
    generalize lsg ln = sl at *
    generalize dsg dn = sd at *
    generalize hv1 : ln - (lenOf sl).1 = v1 at *
    generalize hv2 : dn - (distOf sd).1 = v2 at *
    generalize (lenOf sl).2 = m1 at *
    generalize (distOf sd).2 = m2 at *
    clear hv1 hv2
    have hQ1 : ((Q.app (sgB c sl)).app (wB v1 m1)).2 ≤ 200001000 := by show Q.2 + (sgB c sl).2 + m1 ≤ _; omega
    have HP := Lib.hid (bnumber_any gw gs sl m1 v1 Bw r1 Q c (by omega) (by omega) hb3 w6 HC4.out.2.2.2.2.2.2 HC4.out.2.2.1 HC4.out.1)
    have HX6 := Lib.hid hx6
    clear hx6 hy6 hr1 hr2 hr3 hr4 hsg1
    go_wp2_with fail
    (with_reducible refine (HBL.out _).mono ?_); rintro e w7 ⟨rfl, rfl⟩
    go_wp2_with fail
    (with_reducible refine (HP.out).mono ?_); rintro e w7 ⟨rfl, r2, hw7, hu7⟩
    have HC7 := Lib.hid (HC4.out.emit hu7 hw7)
    have hx7 := (farW_upd HC4.out.1 hu7).cells HX6.out (by decide) (by decide)
    have j2 := (cell_of_row _ _ 2 _ _ _ hx7).trans (show _ = some (Value.int .i64 (dn : Nat)) from rfl)
    have hy7 := HC7.out.2.2.2.2.2.1
    have q1 := (cell_of_row _ _ 1 _ _ _ hy7).trans (show _ = some (Value.pointer (some ⟨gd, 0, none⟩)) from rfl)
    have HP2 := Lib.hid (bnumber_any gw gd sd m2 v2 Bw r2 _ d (by omega) (by omega) hb4 w7 HC7.out.2.2.2.2.2.2 HC7.out.2.2.2.1 HC7.out.1)
    clear hw7 hu7 hx7 hy7 k0 k1 e0 HP HC4 HX6
    go_wp2_with fail
    (with_reducible refine (HBD.out _).mono ?_); rintro e w8 ⟨rfl, rfl⟩
    go_wp2_with fail
    (with_reducible refine (HP2.out).mono ?_); rintro e w8 ⟨rfl, r3, hw8, hu8⟩
    have HC8 := Lib.hid (HC7.out.emit hu8 hw8)
    clear hw8 hu8 j2 q1
    go_wp2_with fail
    go_roundw
    case rel => exact ⟨k + 1, r3, by omega, by go_num, by rw [Hid, HNX.out, HT0.out, ← bs_assoc, ← bs_assoc, ← bs_assoc]; exact HC8.out⟩
    case measure => simp [intOf]; omega
  ·obtain rfl : k = n := by omega
   have e0 := (cell_of_row _ _ 0 _ _ _ hc6).trans (show _ = some (Value.pointer (some ⟨gs, 0, none⟩)) from rfl)
   have hlk := HTL.out k
   have hQ : (P.app (toksB c d f k)).2 ≤ 200000000 := by show P.2 + (toksB c d f k).2 ≤ _; omega
   have HP := Lib.hid (put_sg gs 256 Bw gw r1 _ c (by omega) wr HC.out.2.2.2.2.2.2 HC.out.2.2.1 HC.out.1)
   rw [show ((256 : Nat) : Int) = 256 from rfl] at HP
   clear hc6
   go_wp2_with fail
   (with_reducible refine (HP.out).mono ?_); rintro e w7 ⟨⟨x, rfl⟩, r2, hw7, hu7⟩
   have HE := Lib.hid (Emits.then HC.out.2.1 ⟨r2, hw7, hu7⟩)
   clear hw7 hu7
   go_wp2_with fail
   go_end0
   exact ⟨rfl, HE.out⟩
end Go.Proofs.YtmkeicfklbepnaaGreat
