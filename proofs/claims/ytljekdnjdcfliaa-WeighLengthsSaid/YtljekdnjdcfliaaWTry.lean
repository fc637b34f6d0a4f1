/-
  The trial of all lengths: its mathematics.
-/
import Derived.Test.YtljekdnjdcfliaaWeX
namespace Go.Proofs.Ytljekdnjdcfliaa

def mn : Option Nat → Option Nat → Option Nat
  | none, y => y
  | some x, none => some x
  | some x, some y => some (if y < x then y else x)
/-- Of a sign the k longest words tried; g: what the rest costs, with so much left. -/
def tl (m c : Nat) (g : Nat → Option Nat) (left : Nat) : Nat → Option Nat
  | 0 => none
  | k + 1 => mn (tl m c g left k) (if 2 ^ k ≤ left then (g (left - 2 ^ k)).map (· + c * (m - k)) else none)
def tryF (m : Nat) : List Nat → Nat → Option Nat
  | [], left => if left = 0 then some 0 else none
  | c :: cs, left => tl m c (tryF m cs) left m

theorem mn_some {x y : Option Nat} {z : Nat} (h : mn x y = some z) : x = some z ∨ y = some z := by
  cases x <;> cases y <;> simp [mn] at h ⊢
  · exact h
  · exact h
  · split at h <;> simp [h]
theorem mn_le_left {x y : Option Nat} {a : Nat} (h : x = some a) : ∃ z, mn x y = some z ∧ z ≤ a := by
  subst h
  cases y with
  | none => exact ⟨a, rfl, Nat.le_refl _⟩
  | some b =>
    by_cases hb : b < a
    · exact ⟨b, by simp [mn, hb], by omega⟩
    · exact ⟨a, by simp [mn, hb], Nat.le_refl _⟩
theorem mn_le_right {x y : Option Nat} {b : Nat} (h : y = some b) : ∃ z, mn x y = some z ∧ z ≤ b := by
  subst h
  cases x with
  | none => exact ⟨b, rfl, Nat.le_refl _⟩
  | some a =>
    by_cases hb : b < a
    · exact ⟨b, by simp [mn, hb], Nat.le_refl _⟩
    · exact ⟨a, by simp [mn, hb], by omega⟩
theorem tl_some {m c left k z : Nat} {g : Nat → Option Nat} (h : tl m c g left k = some z) : ∃ j, j < k ∧ 2 ^ j ≤ left ∧ ∃ y, g (left - 2 ^ j) = some y ∧ z = y + c * (m - j) := by
  induction k with
  | zero => simp [tl] at h
  | succ k ih =>
    rcases mn_some h with h | h
    · obtain ⟨j, hj, r⟩ := ih h
      exact ⟨j, by omega, r⟩
    · split at h
      · rename_i hle
        obtain ⟨y, hy, e⟩ := Option.map_eq_some_iff.1 h
        exact ⟨k, by omega, hle, y, hy, e.symm⟩
      · cases h
theorem tl_le {m c left : Nat} {g : Nat → Option Nat} {j y : Nat} (hj : 2 ^ j ≤ left) (hy : g (left - 2 ^ j) = some y) (k : Nat) (hk : j < k) : ∃ z, tl m c g left k = some z ∧ z ≤ y + c * (m - j) := by
  induction k with
  | zero => omega
  | succ k ih =>
    rw [tl]
    by_cases e : j = k
    · subst e
      exact mn_le_right (by rw [if_pos hj, hy]; rfl)
    · obtain ⟨z, hz, hz2⟩ := ih (by omega)
      obtain ⟨z', h1, h2⟩ := mn_le_left (y := if 2 ^ k ≤ left then (g (left - 2 ^ k)).map (· + c * (m - k)) else none) hz
      exact ⟨z', h1, by omega⟩
/-- What is told is the cost of lengths that fill. -/
theorem try_some {m : Nat} (f : Nat → Nat) (ss : List Nat) (hnd : ss.Nodup) (left z : Nat) (h : tryF m (ss.map f) left = some z) :
    ∃ L : Nat → Nat, (∀ s ∈ ss, 1 ≤ L s ∧ L s ≤ m) ∧ (ss.map fun s => 2 ^ (m - L s)).sum = left ∧ (ss.map fun s => f s * L s).sum = z := by
  induction ss generalizing left z with
  | nil =>
    simp only [List.map_nil, tryF] at h
    split at h
    · rename_i h0
      injection h with h
      exact ⟨fun _ => 0, by simp, by simp [h0], by simp [h]⟩
    · cases h
  | cons s ss ih =>
    rw [List.nodup_cons] at hnd
    obtain ⟨j, hj, hle, y, hy, rfl⟩ := tl_some h
    obtain ⟨L, h1, h2, h3⟩ := ih hnd.2 _ _ hy
    have e : ∀ g : Nat → Nat → Nat, (ss.map fun t => g t (if t = s then m - j else L t)) = ss.map fun t => g t (L t) := fun g => by
      apply List.map_congr_left
      intro t ht
      have hne : ¬ t = s := fun q => hnd.1 (by rw [← q]; exact ht)
      simp only [if_neg hne]
    refine ⟨fun t => if t = s then m - j else L t, fun t ht => ?_, ?_, ?_⟩
    · rcases List.mem_cons.1 ht with rfl | ht
      · simp only [if_true]; omega
      · have hne : ¬ t = s := fun q => hnd.1 (by rw [← q]; exact ht)
        simp only [if_neg hne]
        exact h1 t ht
    · rw [List.map_cons, List.sum_cons, e fun _ l => 2 ^ (m - l), h2]
      simp only [if_true]
      rw [show m - (m - j) = j by omega]
      omega
    · rw [List.map_cons, List.sum_cons, e fun t l => f t * l, h3]
      simp only [if_true]
      omega
/-- Whatever lengths fill, something is told, and no more than their cost. -/
theorem try_le {m : Nat} (f L : Nat → Nat) (ss : List Nat) (h1 : ∀ s ∈ ss, 1 ≤ L s ∧ L s ≤ m) :
    ∃ z, tryF m (ss.map f) ((ss.map fun s => 2 ^ (m - L s)).sum) = some z ∧ z ≤ (ss.map fun s => f s * L s).sum := by
  induction ss with
  | nil => exact ⟨0, by simp [tryF], by simp⟩
  | cons s ss ih =>
    obtain ⟨z, hz, hz2⟩ := ih fun t ht => h1 t (by simp [ht])
    have hs := h1 s (by simp)
    rw [List.map_cons, List.map_cons, List.map_cons, List.sum_cons, List.sum_cons, tryF]
    have hsub : 2 ^ (m - L s) + (ss.map fun s => 2 ^ (m - L s)).sum - 2 ^ (m - L s) = (ss.map fun s => 2 ^ (m - L s)).sum := by omega
    obtain ⟨z', h3, h4⟩ := tl_le (m := m) (c := f s) (g := tryF m (ss.map f)) (left := 2 ^ (m - L s) + (ss.map fun s => 2 ^ (m - L s)).sum) (j := m - L s) (by omega) (by rw [hsub]; exact hz) m (by omega)
    refine ⟨z', h3, ?_⟩
    rw [show m - (m - L s) = L s by omega] at h4
    omega
theorem try_bound (m : Nat) (cs : List Nat) (hc : ∀ c ∈ cs, c < 4294967296) (left z : Nat) (h : tryF m cs left = some z) : z ≤ cs.length * (4294967296 * m) := by
  induction cs generalizing left z with
  | nil =>
    simp only [tryF] at h
    split at h
    · injection h with h; omega
    · cases h
  | cons c cs ih =>
    obtain ⟨j, hj, _, y, hy, rfl⟩ := tl_some h
    have := ih (fun x hx => hc x (by simp [hx])) _ _ hy
    have h2 : c * (m - j) ≤ 4294967296 * m := Nat.mul_le_mul (Nat.le_of_lt (hc c (by simp))) (Nat.sub_le _ _)
    rw [List.length_cons, Nat.succ_mul]
    omega

/-! ## Sums over the signs -/
theorem cost_come (f L : Nat → Nat) (n : Nat) : costN f L n = ((comeL f n).map fun s => f s * L s).sum := by
  induction n with
  | zero => rfl
  | succ n ih =>
    rw [costN, comeL]
    split
    · rw [List.map_append, List.sum_append, ih]; simp
    · rename_i h
      have : f n = 0 := by omega
      rw [ih, this]; simp
theorem sum_at0 (h : Nat → Nat) (S : List Nat) : (S.map h).sum = sumTo (fun i => h (at0 S i)) S.length := by
  have key : ∀ k, k ≤ S.length → ((S.take k).map h).sum = sumTo (fun i => h (at0 S i)) k := by
    intro k
    induction k with
    | zero => intro _; simp [sumTo]
    | succ k ih =>
      intro hk
      rw [List.take_add_one, List.map_append, List.sum_append, ih (by omega), sumTo, at0, List.getElem?_eq_getElem (by omega)]
      simp
  have := key S.length (Nat.le_refl _)
  rwa [List.take_length] at this
theorem sum_perm (h : Nat → Nat) {S T : List Nat} (hp : S.Perm T) : (S.map h).sum = (T.map h).sum := by
  induction hp with
  | nil => rfl
  | cons x _ ih => simp [ih]
  | swap x y l => simp only [List.map_cons, List.sum_cons]; omega
  | trans _ _ ih1 ih2 => exact ih1.trans ih2
theorem wsum_at0 (f g : Nat → Nat) (S : List Nat) : wsum (S.map f) g = sumTo (fun i => f (at0 S i) * g i) S.length := by
  unfold wsum
  rw [List.length_map]
  refine sumTo_congr _ fun i hi => ?_
  rw [List.getElem?_map, at0, List.getElem?_eq_getElem hi]
  rfl

/-- What the program's lengths come to, of two signs or more. -/
theorem spec_cost {f L : Nat → Nat} {n most : Nat} (h : LenSpec f n most L) (hm : 1 ≤ most) (h2 : 2 ≤ (comeL f n).length) (hpow : (comeL f n).length ≤ 2 ^ most) :
    ∃ S : List Nat, S.Perm (comeL f n) ∧ (S.map f).Pairwise (· ≤ ·) ∧ costN f L n = leastOf (S.map f) most ∧ (∀ s ∈ comeL f n, 1 ≤ L s ∧ L s ≤ most) ∧ ((comeL f n).map fun s => 2 ^ (most - L s)).sum = 2 ^ most := by
  obtain ⟨S, hp, hs, _, _, hL⟩ := h
  have hl := hp.length_eq
  have hpw := srt_map f S hs
  have hL := hL (by omega)
  have hWl : (S.map f).length = S.length := List.length_map ..
  refine ⟨S, hp, hpw, ?_, ?_, ?_⟩
  · rw [cost_come, ← sum_perm _ hp, sum_at0, ← lensOf_cost (S.map f) hpw most hm (by omega) (by omega), wsum_at0]
    exact sumTo_congr _ fun i hi => by rw [hL i hi]
  · intro s hs'
    obtain ⟨i, hi, rfl⟩ : ∃ i, i < S.length ∧ at0 S i = s := by
      obtain ⟨i, hi, e⟩ := List.getElem_of_mem (hp.mem_iff.2 hs')
      exact ⟨i, hi, by rw [at0, List.getElem?_eq_getElem hi, e]; rfl⟩
    rw [hL i hi]
    exact ⟨lensOf_pos (S.map f) hpw most hm (by omega) (by omega) i (by omega), lensOf_le _ _ _⟩
  · rw [← sum_perm _ hp, sum_at0 (fun s => 2 ^ (most - L s)), ← lensOf_kraft (S.map f) hpw most hm (by omega) (by omega), hWl]
    exact sumTo_congr _ fun i hi => by rw [hL i hi]
/-- No lengths that fill are cheaper. -/
theorem spec_least {f : Nat → Nat} {n most : Nat} {S : List Nat} (hp : S.Perm (comeL f n)) (hpw : (S.map f).Pairwise (· ≤ ·)) (h1 : 1 ≤ (comeL f n).length) (L : Nat → Nat) (hL : ∀ s ∈ comeL f n, L s ≤ most)
    (hk : ((comeL f n).map fun s => 2 ^ (most - L s)).sum = 2 ^ most) : leastOf (S.map f) most ≤ ((comeL f n).map fun s => f s * L s).sum := by
  have hl := hp.length_eq
  rw [← sum_perm _ hp, sum_at0, ← wsum_at0 f (fun i => L (at0 S i))]
  rw [← sum_perm _ hp, sum_at0 (fun s => 2 ^ (most - L s))] at hk
  refine least_of (S.map f) hpw most (by rw [List.length_map]; omega) _ (fun i hi => ?_) (by rw [List.length_map]; exact hk)
  rw [List.length_map] at hi
  refine hL _ (hp.mem_iff.1 ?_)
  rw [at0, List.getElem?_eq_getElem hi]
  exact List.getElem_mem _
/-- The trial of all lengths comes to the program's cost. -/
theorem try_is {f L : Nat → Nat} {n m : Nat} (h : LenSpec f n m L) (hm : 1 ≤ m) (h2 : 2 ≤ (comeL f n).length) (hpow : (comeL f n).length ≤ 2 ^ m) : tryF m ((comeL f n).map f) (2 ^ m) = some (costN f L n) := by
  obtain ⟨S, hp, hpw, hc, hb, hk⟩ := spec_cost h hm h2 hpow
  obtain ⟨z, hz, hz2⟩ := try_le (m := m) f L (comeL f n) hb
  rw [hk] at hz
  obtain ⟨L', h1, h3, h4⟩ := try_some f (comeL f n) (comeL_nodup f n) _ _ hz
  have := spec_least hp hpw (by omega) L' (fun s hs => (h1 s hs).2) h3
  rw [h4] at this
  rw [← cost_come] at hz2
  rw [hz]
  congr 1
  omega
end Go.Proofs.Ytljekdnjdcfliaa
