/-
  The mathematics of weigh: rows of bits and pairs, merged; what is taken of them.
-/

namespace Go.Proofs.YtmkeicfklbepnaaGreat.We

abbrev Ld := Nat × Bool

def mg1 (a : Ld) (rest : List Ld → List Ld) : List Ld → List Ld
  | [] => a :: rest []
  | b :: bs => if a.1 ≤ b.1 then a :: rest (b :: bs) else b :: mg1 a rest bs
/-- Two lists, merged: the first one's ahead, where they are alike. -/
def mg : List Ld → List Ld → List Ld
  | [], bs => bs
  | a :: as, bs => mg1 a (mg as) bs
theorem mg_nil (B : List Ld) : mg [] B = B := rfl
theorem mg_cons (a b : Ld) (A B : List Ld) : mg (a :: A) (b :: B) = if a.1 ≤ b.1 then a :: mg A (b :: B) else b :: mg (a :: A) B := rfl
theorem mg_nil_r (A : List Ld) : mg A [] = A := by
  induction A with
  | nil => rfl
  | cons a A ih => show a :: mg A [] = _; rw [ih]
theorem mg_length (A B : List Ld) : (mg A B).length = A.length + B.length := by
  induction A generalizing B with
  | nil => simp [mg_nil]
  | cons a A ih =>
    induction B with
    | nil => rw [mg_nil_r]; simp
    | cons b B ihB =>
      rw [mg_cons]
      split
      · simp [ih]; omega
      · simp [ihB]; omega
theorem mg_mem (A B : List Ld) (x : Ld) : x ∈ mg A B ↔ x ∈ A ∨ x ∈ B := by
  induction A generalizing B with
  | nil => simp [mg_nil]
  | cons a A ih =>
    induction B with
    | nil => rw [mg_nil_r]; simp
    | cons b B ihB =>
      rw [mg_cons]
      split
      · simp [ih, or_assoc]
      · simp only [List.mem_cons, ihB]
        constructor
        · rintro (h | (h | h) | h) <;> simp [h]
        · rintro ((h | h) | (h | h)) <;> simp [h]

/-- Sorted by weight. -/
def Srt (l : List Ld) : Prop := l.Pairwise fun a b => a.1 ≤ b.1
theorem mg_srt (A B : List Ld) (hA : Srt A) (hB : Srt B) : Srt (mg A B) := by
  unfold Srt at *
  induction A generalizing B with
  | nil => exact hB
  | cons a A ih =>
    induction B with
    | nil => rw [mg_nil_r]; exact hA
    | cons b B ihB =>
      rw [mg_cons]
      have hA' := List.pairwise_cons.1 hA
      have hB' := List.pairwise_cons.1 hB
      split
      · rename_i h
        refine List.pairwise_cons.2 ⟨fun x hx => ?_, ih _ hA'.2 hB⟩
        rcases (mg_mem _ _ _).1 hx with hx | hx
        · exact hA'.1 x hx
        · rcases List.mem_cons.1 hx with rfl | hx
          · exact h
          · exact Nat.le_trans h (hB'.1 x hx)
      · rename_i h
        refine List.pairwise_cons.2 ⟨fun x hx => ?_, ihB hB'.2⟩
        rcases (mg_mem _ _ _).1 hx with hx | hx
        · rcases List.mem_cons.1 hx with rfl | hx
          · omega
          · have := hA'.1 x hx; omega
        · exact hB'.1 x hx

/-- Two by two. -/
def prs : List Ld → List Ld
  | a :: b :: r => (a.1 + b.1, true) :: prs r
  | _ => []
theorem prs_length (l : List Ld) : (prs l).length = l.length / 2 := by
  induction l using prs.induct with
  | case1 a b r ih => simp [prs, ih]; omega
  | case2 l h =>
    match l, h with
    | [], _ => rfl
    | [_], _ => simp [prs]
    | a :: b :: r, h => exact absurd rfl (h a b r)
theorem prs_true (l : List Ld) : ∀ x ∈ prs l, x.2 = true := by
  induction l using prs.induct with
  | case1 a b r ih => simp only [prs, List.mem_cons]; rintro x (rfl | h); rfl; exact ih x h
  | case2 l h =>
    match l, h with
    | [], _ => simp [prs]
    | [_], _ => simp [prs]
    | a :: b :: r, h => exact absurd rfl (h a b r)
theorem prs_get (l : List Ld) (i : Nat) (h : 2 * i + 1 < l.length) : (prs l)[i]? = some ((l[2 * i]?.getD (0, false)).1 + (l[2 * i + 1]?.getD (0, false)).1, true) := by
  induction l using prs.induct generalizing i with
  | case1 a b r ih =>
    cases i with
    | zero => simp [prs]
    | succ i =>
      have := ih i (by simp at h; omega)
      simp only [prs, List.getElem?_cons_succ]
      rw [this]
      simp [show 2 * (i + 1) = 2 * i + 1 + 1 by omega]
  | case2 l hl =>
    match l, hl with
    | [], _ => simp at h
    | [_], _ => simp at h
    | a :: b :: r, hl => exact absurd rfl (hl a b r)
theorem prs_srt (l : List Ld) (h : Srt l) : Srt (prs l) := by
  unfold Srt at *
  induction l using prs.induct with
  | case1 a b r ih =>
    have h1 := List.pairwise_cons.1 h
    have h2 := List.pairwise_cons.1 h1.2
    refine List.pairwise_cons.2 ⟨?_, ih h2.2⟩
    have key : ∀ (r : List Ld), (∀ x ∈ r, a.1 ≤ x.1) → (∀ x ∈ r, b.1 ≤ x.1) → ∀ y ∈ prs r, a.1 + b.1 ≤ y.1 := by
      intro r
      induction r using prs.induct with
      | case1 c d r ih2 =>
        intro ha hb y hy
        simp only [prs, List.mem_cons] at hy
        rcases hy with rfl | hy
        · have := ha c (by simp); have := hb d (by simp); simp; omega
        · exact ih2 (fun x hx => ha x (by simp [hx])) (fun x hx => hb x (by simp [hx])) y hy
      | case2 l h =>
        match l, h with
        | [], _ => simp [prs]
        | [_], _ => simp [prs]
        | a :: b :: r, h => exact absurd rfl (h a b r)
    exact key r (fun x hx => h1.1 x (by simp [hx])) (fun x hx => h2.1 x hx)
  | case2 l hl =>
    match l, hl with
    | [], _ => simp [prs]
    | [_], _ => simp [prs]
    | a :: b :: r, hl => exact absurd rfl (hl a b r)

def sw (l : List Ld) : Nat := (l.map (·.1)).sum
def npair (l : List Ld) : Nat := l.countP (·.2)
theorem sw_cons (a : Ld) (l : List Ld) : sw (a :: l) = a.1 + sw l := by simp [sw]
theorem sw_nil : sw [] = 0 := rfl

theorem prs_take (l : List Ld) (p : Nat) (h : 2 * p ≤ l.length) : sw ((prs l).take p) = sw (l.take (2 * p)) := by
  induction l using prs.induct generalizing p with
  | case1 a b r ih =>
    cases p with
    | zero => rfl
    | succ p =>
      have := ih p (by simp at h; omega)
      rw [show 2 * (p + 1) = 2 * p + 1 + 1 by omega]
      simp only [prs, List.take_succ_cons, sw_cons, this]
      omega
  | case2 l hl =>
    match l, hl with
    | [], _ => simp [prs, sw]
    | [_], _ => have : p = 0 := by simp at h; omega
                subst this; rfl
    | a :: b :: r, hl => exact absurd rfl (hl a b r)

/-- What is taken of two lists merged: so many of either, each the first. -/
theorem take_mg (A B : List Ld) (hA : Srt A) (hf : ∀ x ∈ A, x.2 = false) (ht : ∀ x ∈ B, x.2 = true) (t : Nat) (h : t ≤ A.length + B.length) :
    ∃ x p, x + p = t ∧ x ≤ A.length ∧ p ≤ B.length ∧ npair ((mg A B).take t) = p ∧ sw ((mg A B).take t) = sw (A.take x) + sw (B.take p) ∧
      (∀ i a b, A[i]? = some a → 0 < p → B[p - 1]? = some b → a.1 ≤ b.1 → i < x) ∧ ∀ i a, i < x → A[i]? = some a → a ∈ (mg A B).take t := by
  unfold Srt at hA
  induction A generalizing B t with
  | nil =>
    refine ⟨0, t, by omega, Nat.le_refl _, by simpa using h, ?_, by simp [mg_nil, sw_nil], fun i a b h => by simp at h, fun i a h => by omega⟩
    rw [mg_nil, npair, List.countP_eq_length.2 (fun x hx => ht x (List.mem_of_mem_take hx))]
    simp at h
    simp; omega
  | cons a A ih =>
    induction B generalizing t with
    | nil =>
      refine ⟨t, 0, by omega, by simpa using h, Nat.le_refl _, ?_, by simp [mg_nil_r, sw_nil], fun i a b _ h => by omega, fun i a h1 h2 => by rw [mg_nil_r]; exact List.mem_of_getElem? (by rw [List.getElem?_take, if_pos h1]; exact h2)⟩
      rw [mg_nil_r, npair, List.countP_eq_zero.2 (fun x hx => by simp [hf x (List.mem_of_mem_take hx)])]
    | cons b B ihB =>
      cases t with
      | zero => exact ⟨0, 0, rfl, by simp, by simp, by simp [npair], by simp [sw], fun i a b _ h => by omega, fun i a h => by omega⟩
      | succ t =>
        have hA' := List.pairwise_cons.1 hA
        rw [mg_cons]
        split
        · rename_i hab
          obtain ⟨x, p, h1, h2, h3, h4, h5, h6, h7⟩ := ih (b :: B) hA'.2 (fun x hx => hf x (by simp [hx])) ht t (by simp at h ⊢; omega)
          refine ⟨x + 1, p, by omega, by simp; omega, h3, ?_, ?_, ?_, ?_⟩
          · simp only [List.take_succ_cons, npair, List.countP_cons] at h4 ⊢
            rw [h4, hf a (by simp)]
            simp
          · simp only [List.take_succ_cons, sw_cons, h5]; omega
          · intro i a' b' hi hp hb hle
            cases i with
            | zero => omega
            | succ i => simp only [List.getElem?_cons_succ] at hi; have := h6 i a' b' hi hp hb hle; omega
          · intro i a' hi ha
            rw [List.take_succ_cons]
            cases i with
            | zero => simp at ha; subst ha; simp
            | succ i => simp only [List.getElem?_cons_succ] at ha; exact List.mem_cons_of_mem _ (h7 i a' (by omega) ha)
        · rename_i hab
          obtain ⟨x, p, h1, h2, h3, h4, h5, h6, h7⟩ := ihB (fun x hx => ht x (by simp [hx])) t (by simp at h ⊢; omega)
          refine ⟨x, p + 1, by omega, h2, by simp; omega, ?_, ?_, ?_, ?_⟩
          · simp only [List.take_succ_cons, npair, List.countP_cons] at h4 ⊢
            rw [h4, ht b (by simp)]
            simp
          · simp only [List.take_succ_cons, sw_cons, h5]; omega
          · intro i a' b' hi hp hb hle
            cases p with
            | zero =>
              simp at hb
              subst hb
              cases i with
              | zero => simp at hi; subst hi; omega
              | succ i =>
                simp only [List.getElem?_cons_succ] at hi
                have := hA'.1 a' (List.mem_of_getElem? hi)
                omega
            | succ p =>
              simp only [Nat.add_sub_cancel, List.getElem?_cons_succ] at hb
              exact h6 i a' b' hi (by omega) (by simpa using hb) hle
          · intro i a' hi ha
            rw [List.take_succ_cons]
            exact List.mem_cons_of_mem _ (h7 i a' hi ha)

/-- The signs' bits. -/
def bts (W : List Nat) : List Ld := W.map fun n => (n, false)
def nxt (W : List Nat) (row : List Ld) : List Ld := mg (bts W) (prs row)
def rowN (W : List Nat) : Nat → List Ld
  | 0 => []
  | k + 1 => nxt W (rowN W k)
theorem bts_length (W : List Nat) : (bts W).length = W.length := by simp [bts]
theorem bts_false (W : List Nat) : ∀ x ∈ bts W, x.2 = false := by simp [bts]
theorem bts_srt (W : List Nat) (h : W.Pairwise (· ≤ ·)) : Srt (bts W) := by
  unfold Srt bts
  rw [List.pairwise_map]
  exact h
theorem sw_bts (W : List Nat) (x : Nat) : sw ((bts W).take x) = (W.take x).sum := by
  simp [sw, bts, ← List.map_take, Function.comp_def]
theorem row_len (W : List Nat) (k : Nat) : (rowN W (k + 1)).length = W.length + (rowN W k).length / 2 := by
  simp [rowN, nxt, mg_length, bts_length, prs_length]
theorem row_srt (W : List Nat) (h : W.Pairwise (· ≤ ·)) (k : Nat) : Srt (rowN W k) := by
  induction k with
  | zero => exact List.Pairwise.nil
  | succ k ih => exact mg_srt _ _ (bts_srt W h) (prs_srt _ ih)
theorem row_len_eq (W : List Nat) (h : 0 < W.length) (k : Nat) : (rowN W (k + 1)).length + (W.length - 1) / 2 ^ k + 1 = 2 * W.length := by
  induction k with
  | zero =>
    rw [row_len]
    simp only [rowN, List.length_nil, Nat.zero_div, Nat.pow_zero, Nat.div_one]
    omega
  | succ k ih =>
    rw [row_len, Nat.pow_succ, ← Nat.div_div_eq_div_mul]
    generalize (W.length - 1) / 2 ^ k = q at *
    have := h
    omega
/-- The last row has enough. -/
theorem row_enough (W : List Nat) (m : Nat) (hm : 1 ≤ m) (h2 : 2 ≤ W.length) (hn : W.length ≤ 2 ^ m) : 2 * W.length - 2 ≤ (rowN W m).length := by
  obtain ⟨k, rfl⟩ : ∃ k, m = k + 1 := ⟨m - 1, by omega⟩
  have := row_len_eq W (by omega) k
  have h3 : (W.length - 1) / 2 ^ k < 2 := by
    rw [Nat.div_lt_iff_lt_mul (Nat.two_pow_pos k)]
    rw [Nat.pow_succ] at hn
    omega
  generalize (W.length - 1) / 2 ^ k = q at *
  omega
theorem row_le (W : List Nat) (k : Nat) : (rowN W k).length ≤ 2 * W.length := by
  cases k with
  | zero => simp [rowN]
  | succ k =>
    by_cases h : 0 < W.length
    · have := row_len_eq W h k
      generalize (W.length - 1) / 2 ^ k = q at *
      omega
    · have h0 : W.length = 0 := by omega
      have : ∀ k, (rowN W k).length = 0 := by
        intro k
        induction k with
        | zero => rfl
        | succ k ih => rw [row_len, ih, h0]
      rw [this]; omega

/-- How many pairs are taken of row k. -/
def pk (W : List Nat) (k t : Nat) : Nat := npair ((rowN W k).take t)
/-- How many signs get a bit, row by row, the last row first. -/
def shs (W : List Nat) : Nat → Nat → List Nat
  | 0, _ => []
  | k + 1, t => (t - pk W (k + 1) t) :: shs W k (2 * pk W (k + 1) t)
def val : List Nat → Nat
  | [] => 0
  | s :: L => s * 2 ^ (L.length + 1) + val L
theorem shs_length (W : List Nat) (k t : Nat) : (shs W k t).length = k := by
  induction k generalizing t with
  | zero => rfl
  | succ k ih => simp [shs, ih]
theorem pk_facts (W : List Nat) (hW : W.Pairwise (· ≤ ·)) (k t : Nat) (ht : t ≤ (rowN W (k + 1)).length) :
    pk W (k + 1) t ≤ t ∧ t - pk W (k + 1) t ≤ W.length ∧ 2 * pk W (k + 1) t ≤ (rowN W k).length ∧
    sw ((rowN W (k + 1)).take t) = (W.take (t - pk W (k + 1) t)).sum + sw ((rowN W k).take (2 * pk W (k + 1) t)) ∧
    (∀ i a b, W[i]? = some a → 0 < pk W (k + 1) t → (prs (rowN W k))[pk W (k + 1) t - 1]? = some b → a ≤ b.1 → i < t - pk W (k + 1) t) ∧
    ∀ i a, i < t - pk W (k + 1) t → W[i]? = some a → (a, false) ∈ (rowN W (k + 1)).take t := by
  obtain ⟨x, p, h1, h2, h3, h4, h5, h6, h7⟩ := take_mg (bts W) (prs (rowN W k)) (bts_srt W hW) (bts_false W) (prs_true _) t (by rw [← mg_length]; exact ht)
  have e : pk W (k + 1) t = p := h4
  rw [prs_length] at h3
  rw [bts_length] at h2
  refine ⟨by omega, by omega, by omega, ?_, ?_, ?_⟩
  · rw [e, show t - p = x by omega, ← sw_bts, ← prs_take _ _ (by omega)]
    exact h5
  · rw [e, show t - p = x by omega]
    intro i a b hi hp hb hle
    exact h6 i (a, false) b (by simp [bts, hi]) hp hb hle
  · rw [e, show t - p = x by omega]
    intro i a hi ha
    exact h7 i (a, false) hi (by simp [bts, ha])
theorem shs_val (W : List Nat) (hW : W.Pairwise (· ≤ ·)) (k t : Nat) (ht : t ≤ (rowN W k).length) : val (shs W k t) = t * 2 ^ k := by
  induction k generalizing t with
  | zero => simp [rowN] at ht; subst ht; rfl
  | succ k ih =>
    obtain ⟨h1, h2, h3, h4, _⟩ := pk_facts W hW k t ht
    simp only [shs, val, shs_length]
    rw [ih _ h3]
    generalize pk W (k + 1) t = p at *
    obtain ⟨x, rfl⟩ : ∃ x, t = x + p := ⟨t - p, by omega⟩
    simp only [Nat.add_sub_cancel]
    rw [Nat.add_mul x p (2 ^ (k + 1)), Nat.pow_succ, Nat.mul_comm 2 p, Nat.mul_assoc p 2, Nat.mul_comm 2 (2 ^ k)]
theorem shs_le (W : List Nat) (hW : W.Pairwise (· ≤ ·)) (k t : Nat) (ht : t ≤ (rowN W k).length) : ∀ s ∈ shs W k t, s ≤ W.length := by
  induction k generalizing t with
  | zero => simp [shs]
  | succ k ih =>
    obtain ⟨h1, h2, h3, h4, _⟩ := pk_facts W hW k t ht
    intro s hs
    rcases List.mem_cons.1 hs with rfl | hs
    · exact h2
    · exact ih _ h3 s hs
theorem take_get_le (l : List Ld) (h : Srt l) (i j : Nat) (hij : i ≤ j) (a b : Ld) (ha : l[i]? = some a) (hb : l[j]? = some b) : a.1 ≤ b.1 := by
  unfold Srt at h
  rcases Nat.eq_or_lt_of_le hij with rfl | hlt
  · rw [ha] at hb; injection hb with hb; subst hb; exact Nat.le_refl _
  · obtain ⟨h1, e1⟩ := List.getElem?_eq_some_iff.1 ha
    obtain ⟨h2, e2⟩ := List.getElem?_eq_some_iff.1 hb
    have := List.pairwise_iff_getElem.1 h i j h1 h2 hlt
    rw [e1, e2] at this
    exact this

/-- Falling. -/
def Fall : List Nat → Prop
  | [] => True
  | s :: L => (∀ x ∈ L, x ≤ s) ∧ Fall L
theorem shs_fall (W : List Nat) (hW : W.Pairwise (· ≤ ·)) (k t : Nat) (ht : t ≤ (rowN W k).length) : Fall (shs W k t) ∧ ∀ s ∈ shs W k t, s ≤ t := by
  induction k generalizing t with
  | zero => exact ⟨trivial, by simp [shs]⟩
  | succ k ih =>
    obtain ⟨h1, h2, h3, h4, h5, _⟩ := pk_facts W hW k t ht
    obtain ⟨i1, _⟩ := ih _ h3
    have key : ∀ s ∈ shs W k (2 * pk W (k + 1) t), s ≤ t - pk W (k + 1) t := by
      generalize hp : pk W (k + 1) t = p at *
      cases k with
      | zero => simp [shs]
      | succ k =>
        -- the next row's own part is the greatest of the rest
        obtain ⟨g1, g2, g3, g4, g5, g6⟩ := pk_facts W hW k (2 * p) h3
        have hs : 2 * p - pk W (k + 1) (2 * p) ≤ t - p := by
          rcases Nat.eq_zero_or_pos (2 * p - pk W (k + 1) (2 * p)) with h0 | h0
          · omega
          · -- the last sign taken of the row ahead is no heavier than the last pair
            obtain ⟨i, hi⟩ : ∃ i, 2 * p - pk W (k + 1) (2 * p) = i + 1 := ⟨2 * p - pk W (k + 1) (2 * p) - 1, by omega⟩
            have hiW : i < W.length := by omega
            have hp0 : 0 < p := by omega
            have e1 := prs_get (rowN W (k + 1)) (p - 1) (by omega)
            have hle : W[i] ≤ (((rowN W (k + 1))[2 * (p - 1)]?.getD (0, false)).1 + ((rowN W (k + 1))[2 * (p - 1) + 1]?.getD (0, false)).1) := by
              -- it stands among the first 2p of the row
              have hmem : ∃ j c, j < 2 * p ∧ (rowN W (k + 1))[j]? = some c ∧ W[i] ≤ c.1 := by
                obtain ⟨j, hj⟩ := List.mem_iff_getElem?.1 (g6 i W[i] (by omega) (List.getElem?_eq_getElem hiW))
                rw [List.getElem?_take] at hj
                split at hj
                · rename_i hj2
                  exact ⟨j, _, hj2, hj, Nat.le_refl _⟩
                · cases hj
              obtain ⟨j, c, hj, hc, hcw⟩ := hmem
              have hlen : 2 * p - 1 < (rowN W (k + 1)).length := by omega
              have hlast := List.getElem?_eq_getElem hlen
              have := take_get_le _ (row_srt W hW (k + 1)) j (2 * p - 1) (by omega) c _ hc hlast
              rw [show 2 * (p - 1) + 1 = 2 * p - 1 by omega, hlast]
              simp only [Option.getD_some]
              omega
            have := h5 i W[i] _ (List.getElem?_eq_getElem hiW) hp0 e1 hle
            omega
        intro s hs'
        simp only [shs, List.mem_cons] at hs'
        rcases hs' with rfl | hs'
        · exact hs
        · simp only [shs, Fall] at i1
          exact Nat.le_trans (i1.1 s hs') hs
    refine ⟨⟨key, i1⟩, ?_⟩
    intro s hs
    simp only [shs, List.mem_cons] at hs
    rcases hs with rfl | hs
    · omega
    · have := key s hs; omega

/-- How many bits a sign's word gets. -/
def lenR (L : List Nat) (i : Nat) : Nat := L.countP fun s => decide (i < s)
theorem lenR_le (L : List Nat) (i : Nat) : lenR L i ≤ L.length := List.countP_le_length
def sumTo (f : Nat → Nat) : Nat → Nat
  | 0 => 0
  | n + 1 => sumTo f n + f n
theorem sumTo_congr {f g : Nat → Nat} (n : Nat) (h : ∀ i, i < n → f i = g i) : sumTo f n = sumTo g n := by
  induction n with
  | zero => rfl
  | succ n ih => simp only [sumTo]; rw [ih (fun i hi => h i (by omega)), h n (by omega)]
theorem sumTo_add (f g : Nat → Nat) (n : Nat) : sumTo (fun i => f i + g i) n = sumTo f n + sumTo g n := by
  induction n with
  | zero => rfl
  | succ n ih => simp only [sumTo]; rw [ih]; omega
theorem sumTo_const (c n : Nat) : sumTo (fun _ => c) n = n * c := by
  induction n with
  | zero => simp [sumTo]
  | succ n ih => simp only [sumTo]; rw [ih, Nat.succ_mul]
theorem sumTo_below (f : Nat → Nat) (s n : Nat) (h : s ≤ n) : sumTo (fun i => if i < s then f i else 0) n = sumTo f s := by
  induction n with
  | zero => have : s = 0 := by omega
            subst this; rfl
  | succ n ih =>
    simp only [sumTo]
    rcases Nat.eq_or_lt_of_le h with rfl | hlt
    · rw [if_pos (by omega), sumTo]
      congr 1
      exact sumTo_congr n fun i hi => by rw [if_pos (by omega)]
    · rw [ih (by omega), if_neg (by omega)]; omega
theorem fall_zero (L : List Nat) (s i : Nat) (h : ∀ x ∈ L, x ≤ s) (hi : s ≤ i) : lenR L i = 0 := by
  unfold lenR
  rw [List.countP_eq_zero]
  intro x hx
  have := h x hx
  simp; omega
/-- What the words take of 2^(rows). -/
def kr (L : List Nat) (n : Nat) : Nat := sumTo (fun i => 2 ^ (L.length - lenR L i)) n
theorem kr_val (L : List Nat) (n : Nat) (hf : Fall L) (hn : ∀ s ∈ L, s ≤ n) : 2 * kr L n + val L = 2 * (n * 2 ^ L.length) := by
  induction L with
  | nil => simp [kr, val, lenR, sumTo_const]
  | cons s L ih =>
    have h1 := ih hf.2 (fun x hx => hn x (by simp [hx]))
    have hs := hn s (by simp)
    have e : kr (s :: L) n + s * 2 ^ L.length = kr L n + n * 2 ^ L.length := by
      unfold kr
      rw [← sumTo_const, ← sumTo_below (fun _ => 2 ^ L.length) s n hs, ← sumTo_const, ← sumTo_add, ← sumTo_add]
      refine sumTo_congr n fun i hi => ?_
      simp only [lenR, List.countP_cons, List.length_cons]
      by_cases his : i < s
      · simp only [his, decide_true, if_true]
        have := lenR_le L i
        unfold lenR at this
        rw [show L.length + 1 - (List.countP (fun s => decide (i < s)) L + 1) = L.length - List.countP (fun s => decide (i < s)) L by omega]
      · have h0 := fall_zero L s i hf.1 (by omega)
        unfold lenR at h0
        simp only [his, decide_false, h0]
        simp; omega
    simp only [val, List.length_cons, Nat.pow_succ]
    rw [Nat.mul_comm (2 ^ L.length) 2, Nat.mul_left_comm s, Nat.mul_left_comm n]
    omega
/-- The cost, by signs, is the cost by rows. -/
def wsum (W : List Nat) (f : Nat → Nat) : Nat := sumTo (fun i => W[i]?.getD 0 * f i) W.length
/-- The rows' share: what the program gives each sign. -/
def lensOf (W : List Nat) (m : Nat) (i : Nat) : Nat := lenR (shs W m (2 * W.length - 2)) i
theorem lensOf_kraft (W : List Nat) (hW : W.Pairwise (· ≤ ·)) (m : Nat) (hm : 1 ≤ m) (h2 : 2 ≤ W.length) (hn : W.length ≤ 2 ^ m) : sumTo (fun i => 2 ^ (m - lensOf W m i)) W.length = 2 ^ m := by
  have he := row_enough W m hm h2 hn
  have h := kr_val (shs W m (2 * W.length - 2)) W.length (shs_fall W hW m _ he).1 (shs_le W hW m _ he)
  rw [shs_val W hW m _ he, shs_length] at h
  unfold kr at h
  rw [shs_length] at h
  unfold lensOf
  generalize sumTo _ _ = K at *
  obtain ⟨n, hn2⟩ : ∃ n, W.length = n + 2 := ⟨W.length - 2, by omega⟩
  rw [hn2, show 2 * (n + 2) - 2 = 2 * n + 2 by omega, Nat.add_mul, Nat.add_mul, Nat.mul_assoc] at h
  generalize 2 ^ m = P at *
  generalize n * P = Q at *
  omega
theorem lensOf_le (W : List Nat) (m i : Nat) : lensOf W m i ≤ m := by
  have := lenR_le (shs W m (2 * W.length - 2)) i
  rw [shs_length] at this
  exact this
theorem sumTo_pos_lt (f : Nat → Nat) (n i j : Nat) (hi : i < n) (hj : j < n) (hij : i ≠ j) : f i + f j ≤ sumTo f n := by
  have h1 : ∀ n i, i < n → f i ≤ sumTo f n := by
    intro n
    induction n with
    | zero => intro i h; omega
    | succ n ih =>
      intro i h
      simp only [sumTo]
      rcases Nat.lt_or_ge i n with h1 | h1
      · have := ih i h1; omega
      · rw [show i = n by omega]; omega
  induction n with
  | zero => omega
  | succ n ih =>
    simp only [sumTo]
    by_cases hin : i = n
    · subst hin; have := h1 i j (by omega); omega
    · by_cases hjn : j = n
      · subst hjn; have := h1 j i (by omega); omega
      · have := ih (by omega) (by omega); omega
theorem lensOf_pos (W : List Nat) (hW : W.Pairwise (· ≤ ·)) (m : Nat) (hm : 1 ≤ m) (h2 : 2 ≤ W.length) (hn : W.length ≤ 2 ^ m) (i : Nat) (hi : i < W.length) : 1 ≤ lensOf W m i := by
  refine Nat.one_le_iff_ne_zero.2 fun h0 => ?_
  have hk := lensOf_kraft W hW m hm h2 hn
  obtain ⟨j, hj, hij⟩ : ∃ j, j < W.length ∧ i ≠ j := by
    by_cases h : i = 0
    · exact ⟨1, by omega, by omega⟩
    · exact ⟨0, by omega, h⟩
  have := sumTo_pos_lt (fun i => 2 ^ (m - lensOf W m i)) W.length i j hi hj hij
  rw [hk] at this
  simp only [h0, Nat.sub_zero] at this
  have := Nat.two_pow_pos (m - lensOf W m j)
  omega
/-- The program's cost. -/
def leastOf (W : List Nat) (m : Nat) : Nat := sw ((rowN W m).take (2 * W.length - 2))
/-- How many bits of each place any lengths have. -/
def Lf (n : Nat) : Nat → (Nat → Nat) → List Nat
  | 0, _ => []
  | m + 1, f => sumTo (fun i => if 0 < f i then 1 else 0) n :: Lf n m (fun i => f i - 1)
end Go.Proofs.YtmkeicfklbepnaaGreat.We
