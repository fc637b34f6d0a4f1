/-
  Plain facts on the step of a sum, its rounds, and the product of two numbers as polynomials. No Go in sight.
-/
namespace Go.Proofs.YtmhalkkfpbkafaaDoor.Crc

/-- A step. -/
def st (n : Nat) : Nat := if n % 2 = 1 then (n / 2) ^^^ 3988292384 else n / 2
/-- So many steps. -/
def it : Nat → Nat → Nat
  | 0, n => n
  | k + 1, n => st (it k n)

theorem st_even (n : Nat) (h : n % 2 ≠ 1) : st n = n / 2 := if_neg h
theorem st_odd (n : Nat) (h : n % 2 = 1) : st n = (n / 2) ^^^ 3988292384 := if_pos h

theorem st_lt (n : Nat) (h : n < 4294967296) : st n < 4294967296 := by
  unfold st
  split
  · exact Nat.xor_lt_two_pow (n := 32) (by omega) (by omega)
  · omega
theorem it_lt (k n : Nat) (h : n < 4294967296) : it k n < 4294967296 := by
  induction k with
  | zero => exact h
  | succ k ih => exact st_lt _ ih

theorem xor_mod2 (a b : Nat) : (a ^^^ b) % 2 = (a % 2 + b % 2) % 2 := by
  have h := Nat.xor_mod_two_eq_one (a := a) (b := b)
  omega
theorem xor_div2 (a b : Nat) : (a ^^^ b) / 2 = (a / 2) ^^^ (b / 2) := by
  have := Nat.shiftRight_xor_distrib (a := a) (b := b) (i := 1)
  simpa [Nat.shiftRight_eq_div_pow] using this

theorem st_xor (a b : Nat) : st (a ^^^ b) = st a ^^^ st b := by
  have h := xor_mod2 a b
  have hd := xor_div2 a b
  by_cases ha : a % 2 = 1 <;> by_cases hb : b % 2 = 1
  · rw [st_even _ (by omega), st_odd a ha, st_odd b hb, hd]
    rw [Nat.xor_comm (b / 2), ← Nat.xor_assoc, Nat.xor_assoc (a / 2), Nat.xor_self, Nat.xor_zero]
  · rw [st_odd _ (by omega), st_odd a ha, st_even b hb, hd, Nat.xor_assoc, Nat.xor_comm (b / 2), ← Nat.xor_assoc]
  · rw [st_odd _ (by omega), st_even a ha, st_odd b hb, hd, Nat.xor_assoc]
  · rw [st_even _ (by omega), st_even a ha, st_even b hb, hd]
theorem st_zero : st 0 = 0 := by decide
theorem it_xor (k a b : Nat) : it k (a ^^^ b) = it k a ^^^ it k b := by
  induction k with
  | zero => rfl
  | succ k ih => show st (it k (a ^^^ b)) = st (it k a) ^^^ st (it k b); rw [ih, st_xor]
theorem it_zero (k : Nat) : it k 0 = 0 := by
  induction k with
  | zero => rfl
  | succ k ih => show st (it k 0) = 0; rw [ih, st_zero]
theorem it_add (j k n : Nat) : it (j + k) n = it j (it k n) := by
  induction j with
  | zero => simp [it]
  | succ j ih => rw [Nat.succ_add]; show st (it (j + k) n) = st (it j (it k n)); rw [ih]
theorem it_st (k n : Nat) : it k (st n) = st (it k n) := by
  have h := it_add k 1 n
  have h2 : it (k + 1) n = st (it k n) := rfl
  have h1 : it 1 n = st n := rfl
  rw [← h1, ← h, h2]
theorem it_comm (j k n : Nat) : it j (it k n) = it k (it j n) := by rw [← it_add, ← it_add, Nat.add_comm]

/-- A step tells one number of 32 bits from another. -/
theorem st_inj0 (n : Nat) (h : n < 4294967296) (h0 : st n = 0) : n = 0 := by
  by_cases ho : n % 2 = 1
  · rw [st_odd n ho] at h0
    have h1 : (n / 2 ^^^ 3988292384) ^^^ 3988292384 = 0 ^^^ 3988292384 := by rw [h0]
    rw [Nat.xor_assoc, Nat.xor_self, Nat.xor_zero, Nat.zero_xor] at h1
    omega
  · rw [st_even n ho] at h0; omega
theorem it_inj0 (k n : Nat) (h : n < 4294967296) (h0 : it k n = 0) : n = 0 := by
  induction k with
  | zero => exact h0
  | succ k ih => exact ih (st_inj0 _ (it_lt k n h) h0)

/-- Eight steps of what has noughts below are eight places. -/
theorem it_pow (k m : Nat) : it k (2 ^ k * m) = m := by
  induction k generalizing m with
  | zero => simp [it]
  | succ k ih =>
    have e : 2 ^ (k + 1) * m = 2 ^ k * (2 * m) := by rw [Nat.pow_succ, Nat.mul_assoc]
    show st (it k (2 ^ (k + 1) * m)) = m
    rw [e, ih, st_even _ (by omega)]
    omega

/-! ### bytes -/
theorem split_byte (c : Nat) : c = (c % 256) ^^^ (256 * (c / 256)) := by
  apply Nat.eq_of_testBit_eq
  intro i
  have e : 256 * (c / 256) = (c / 2 ^ 8) * 2 ^ 8 := by omega
  rw [Nat.testBit_xor, show (256 : Nat) = 2 ^ 8 from rfl, Nat.testBit_mod_two_pow, show 2 ^ 8 * (c / 2 ^ 8) = (c / 2 ^ 8) * 2 ^ 8 from Nat.mul_comm _ _, ← Nat.shiftLeft_eq, Nat.testBit_shiftLeft, Nat.testBit_div_two_pow]
  by_cases h : i < 8
  · simp [h, Nat.not_le.mpr h]
  · simp [h, Nat.le_of_not_lt h, Nat.sub_add_cancel (Nat.le_of_not_lt h)]
/-- What a byte does to a sum, by the table. -/
theorem by_table (c s : Nat) (_hs : s < 256) : it 8 ((c % 256) ^^^ s) ^^^ (c / 256) = it 8 (c ^^^ s) := by
  have e : c ^^^ s = ((c % 256) ^^^ s) ^^^ (256 * (c / 256)) := by
    conv => lhs; rw [split_byte c]
    rw [Nat.xor_assoc, Nat.xor_comm (256 * (c / 256)), ← Nat.xor_assoc]
  rw [e, it_xor 8 ((c % 256) ^^^ s), show it 8 (256 * (c / 256)) = c / 256 from it_pow 8 (c / 256)]

/-- The bare sum of bytes behind c, by any table. -/
def through (T : Nat → Nat) (c : Nat) : List Nat → Nat
  | [] => c
  | s :: l => through T (T ((c % 256) ^^^ s) ^^^ (c / 256)) l
/-- The bare sum. -/
def raw (c : Nat) : List Nat → Nat
  | [] => c
  | s :: l => raw (it 8 (c ^^^ s)) l
theorem through_snoc (T : Nat → Nat) (c s : Nat) (l : List Nat) : through T c (l ++ [s]) = T ((through T c l % 256) ^^^ s) ^^^ (through T c l / 256) := by
  induction l generalizing c with
  | nil => rfl
  | cons x l ih => exact ih _
theorem raw_snoc (c s : Nat) (l : List Nat) : raw c (l ++ [s]) = it 8 (raw c l ^^^ s) := by
  induction l generalizing c with
  | nil => rfl
  | cons x l ih => exact ih _
theorem raw_append (c : Nat) (l m : List Nat) : raw c (l ++ m) = raw (raw c l) m := by
  induction l generalizing c with
  | nil => rfl
  | cons x l ih => exact ih _
theorem raw_lt (c : Nat) (l : List Nat) (hc : c < 4294967296) (hl : ∀ s ∈ l, s < 256) : raw c l < 4294967296 := by
  induction l generalizing c with
  | nil => exact hc
  | cons x l ih =>
    have hx := hl x (by simp)
    exact ih _ (it_lt 8 _ (Nat.xor_lt_two_pow (n := 32) hc (by omega))) fun s hs => hl s (by simp [hs])
theorem through_it (c : Nat) (l : List Nat) (hl : ∀ s ∈ l, s < 256) : through (it 8) c l = raw c l := by
  induction l generalizing c with
  | nil => rfl
  | cons x l ih =>
    show through (it 8) (it 8 ((c % 256) ^^^ x) ^^^ (c / 256)) l = raw (it 8 (c ^^^ x)) l
    rw [by_table c x (hl x (by simp))]
    exact ih _ fun s hs => hl s (by simp [hs])
/-- What is turned ahead of bytes turns the sum behind them by as many steps. -/
theorem raw_xor (c d : Nat) (l : List Nat) : raw (c ^^^ d) l = raw c l ^^^ it (8 * l.length) d := by
  induction l generalizing c d with
  | nil => rfl
  | cons x l ih =>
    show raw (it 8 ((c ^^^ d) ^^^ x)) l = raw (it 8 (c ^^^ x)) l ^^^ _
    have e : (c ^^^ d) ^^^ x = (c ^^^ x) ^^^ d := by rw [Nat.xor_assoc, Nat.xor_comm d, ← Nat.xor_assoc]
    rw [e, it_xor, ih, ← it_add, List.length_cons, show 8 * (l.length + 1) = 8 * l.length + 8 from by omega]

/-- All bits turned. -/
def neg (n : Nat) : Nat := 4294967295 - n
theorem neg_xor (n : Nat) (h : n < 4294967296) : neg n = n ^^^ 4294967295 := by
  unfold neg
  apply Nat.eq_of_testBit_eq
  intro i
  have h32 : (4294967295 : Nat) = 2 ^ 32 - 1 := by decide
  rw [show 4294967295 - n = 2 ^ 32 - (n + 1) from by omega, Nat.testBit_two_pow_sub_succ (by omega), Nat.testBit_xor, h32, Nat.testBit_two_pow_sub_one]
  by_cases hi : i < 32
  · simp [hi]
  · have : n.testBit i = false := Nat.testBit_lt_two_pow (Nat.lt_of_lt_of_le h (by
      have := Nat.pow_le_pow_right (n := 2) (by omega) (Nat.le_of_not_lt hi)
      omega))
    simp [hi, this]
theorem neg_neg (n : Nat) (h : n < 4294967296) : neg (neg n) = n := by unfold neg; omega
theorem neg_lt (n : Nat) : neg n < 4294967296 := by unfold neg; omega

/-! ### the product -/
/-- The number whose one bit is the power 0. -/
def e0 : Nat := 2147483648
/-- The product's first k rounds. -/
def pr (a b : Nat) : Nat → Nat
  | 0 => 0
  | k + 1 => if a.testBit (31 - k) then pr a b k ^^^ it k b else pr a b k
def product (a b : Nat) : Nat := pr a b 32

theorem pr_st (a b k : Nat) : pr a (st b) k = st (pr a b k) := by
  induction k with
  | zero => exact st_zero.symm
  | succ k ih =>
    unfold pr
    split
    · rw [ih, st_xor, it_st]
    · exact ih
theorem pr_it (a b j k : Nat) : pr a (it j b) k = it j (pr a b k) := by
  induction j with
  | zero => rfl
  | succ j ih => show pr a (st (it j b)) k = st (it j (pr a b k)); rw [pr_st, ih]
theorem pr_xor (a b c k : Nat) : pr a (b ^^^ c) k = pr a b k ^^^ pr a c k := by
  induction k with
  | zero => simp [pr]
  | succ k ih =>
    unfold pr
    split
    · rw [ih, it_xor]
      simp only [Nat.xor_assoc]
      rw [Nat.xor_comm (pr a c k) (it k b ^^^ it k c), Nat.xor_assoc, Nat.xor_comm (it k c)]
    · exact ih
theorem pr_zero (a k : Nat) : pr a 0 k = 0 := by
  induction k with
  | zero => rfl
  | succ k ih => unfold pr; rw [ih, it_zero]; simp

theorem pr_lt (a b k : Nat) (hb : b < 4294967296) : pr a b k < 4294967296 := by
  induction k with
  | zero => show 0 < _; omega
  | succ k ih =>
    unfold pr
    split
    · exact Nat.xor_lt_two_pow (n := 32) ih (it_lt k b hb)
    · exact ih
theorem pr_yes (a b k : Nat) (h : a.testBit (31 - k) = true) : pr a b (k + 1) = pr a b k ^^^ it k b := by
  show (if a.testBit (31 - k) then _ else _) = _
  rw [if_pos h]
theorem pr_no (a b k : Nat) (h : a.testBit (31 - k) = false) : pr a b (k + 1) = pr a b k := by
  show (if a.testBit (31 - k) then _ else _) = _
  rw [h]; rfl
theorem it_e0 : ∀ k, k < 32 → it k e0 = 2 ^ (31 - k) := by decide +kernel

/-- The top k bits of a number. -/
theorem pr_e0 (b : Nat) (k : Nat) (hk : k ≤ 32) : ∀ i, (pr b e0 k).testBit i = (b.testBit i && decide (32 - k ≤ i) && decide (i < 32)) := by
  induction k with
  | zero => intro i; by_cases h : 32 ≤ i <;> simp [pr, h]
  | succ k ih =>
    intro i
    have h := ih (by omega) i
    have he := it_e0 k (by omega)
    unfold pr
    by_cases hi : i = 31 - k
    · subst hi
      split
      · rename_i hb
        rw [Nat.testBit_xor, h, he, Nat.testBit_two_pow_self, hb]
        simp
        omega
      · rename_i hb
        rw [h]; simp [hb]
    · have hd : decide (32 - (k + 1) ≤ i) = decide (32 - k ≤ i) := decide_eq_decide.mpr (by omega)
      split
      · rw [Nat.testBit_xor, h, he, Nat.testBit_two_pow_of_ne (by omega), hd]; simp
      · rw [h, hd]
theorem product_e0 (b : Nat) (hb : b < 4294967296) : product b e0 = b := by
  apply Nat.eq_of_testBit_eq
  intro i
  unfold product
  rw [pr_e0 b 32 (Nat.le_refl _)]
  by_cases hi : i < 32
  · simp [hi]
  · have : b.testBit i = false := Nat.testBit_lt_two_pow (Nat.lt_of_lt_of_le hb (by
      have := Nat.pow_le_pow_right (n := 2) (by omega) (Nat.le_of_not_lt hi)
      omega))
    simp [hi, this]
/-- What goes with steps and turns, and is one at the power 0, is one everywhere. -/
theorem agree (f : Nat → Nat) (hx : ∀ a b, f (a ^^^ b) = f a ^^^ f b) (hs : ∀ b, f (st b) = st (f b)) (j : Nat) (h0 : f e0 = it j e0) (b : Nat) (hb : b < 4294967296) : f b = it j b := by
  have fz : f 0 = 0 := by
    have h := hx 0 0
    simp at h
    exact h
  have fi : ∀ k, f (it k e0) = it j (it k e0) := by
    intro k
    induction k with
    | zero => exact h0
    | succ k ih => show f (st (it k e0)) = it j (st (it k e0)); rw [hs, ih, it_st]
  have fp : ∀ k, f (pr b e0 k) = it j (pr b e0 k) := by
    intro k
    induction k with
    | zero => show f 0 = it j 0; rw [fz, it_zero]
    | succ k ih =>
      unfold pr
      split
      · rw [hx, it_xor, ih, fi]
      · exact ih
  have h := fp 32
  rw [show pr b e0 32 = b from product_e0 b hb] at h
  exact h

theorem pr_poly (b : Nat) (hb : b < 4294967296) : product 3988292384 b = it 32 b :=
  agree (product 3988292384) (fun a b => pr_xor _ a b 32) (fun b => pr_st _ b 32) 32 (by decide +kernel) b hb

theorem pr_xor_left (a c b k : Nat) : pr (a ^^^ c) b k = pr a b k ^^^ pr c b k := by
  induction k with
  | zero => simp [pr]
  | succ k ih =>
    unfold pr
    rw [Nat.testBit_xor, ih]
    by_cases ha : a.testBit (31 - k) <;> by_cases hc : c.testBit (31 - k)
    · simp only [ha, hc, if_true, Bool.xor_self, Bool.false_eq_true, if_false]
      rw [Nat.xor_assoc, Nat.xor_comm (it k b) (pr c b k ^^^ it k b), Nat.xor_assoc (pr c b k), Nat.xor_self, Nat.xor_zero]
    · simp [ha, hc]
      rw [Nat.xor_assoc, Nat.xor_comm (pr c b k), ← Nat.xor_assoc]
    · simp [ha, hc, Nat.xor_assoc]
    · simp [ha, hc]
/-- Half of a number: one power more. -/
theorem pr_half (a b k : Nat) (ha : a < 4294967296) (hk : k < 32) : pr (a / 2) b (k + 1) = st (pr a b k) := by
  induction k with
  | zero =>
    have h : (a / 2).testBit 31 = false := Nat.testBit_lt_two_pow (by omega)
    unfold pr
    simp [h, pr, st_zero]
  | succ k ih =>
    have h := ih (by omega)
    have e : (a / 2).testBit (31 - (k + 1)) = a.testBit (31 - k) := by
      rw [Nat.testBit_div_two]
      congr 1
      omega
    have e2 : pr (a / 2) b (k + 1 + 1) = if (a / 2).testBit (31 - (k + 1)) then pr (a / 2) b (k + 1) ^^^ it (k + 1) b else pr (a / 2) b (k + 1) := rfl
    have e3 : pr a b (k + 1) = if a.testBit (31 - k) then pr a b k ^^^ it k b else pr a b k := rfl
    rw [e2, e3, e, h]
    split
    · rw [st_xor]; rfl
    · rfl
theorem product_st (a b : Nat) (ha : a < 4294967296) (hb : b < 4294967296) : product (st a) b = st (product a b) := by
  have hh : product (a / 2) b = st (pr a b 31) := pr_half a b 31 ha (by omega)
  have e : product a b = if a.testBit 0 then pr a b 31 ^^^ it 31 b else pr a b 31 := rfl
  rw [e, Nat.testBit_zero]
  by_cases ho : a % 2 = 1
  · rw [st_odd a ho]
    show pr (a / 2 ^^^ 3988292384) b 32 = _
    rw [pr_xor_left]
    have hp := pr_poly b hb
    unfold product at hh hp
    rw [hh, hp]
    simp only [ho, decide_true, if_true]
    rw [st_xor]
    rfl
  · rw [st_even a ho, hh]
    simp [ho]
theorem product_it (k b : Nat) (hb : b < 4294967296) : product (it k e0) b = it k b := by
  induction k with
  | zero =>
    have h : ∀ k, k < 32 → pr e0 b (k + 1) = b := by
      intro k
      induction k with
      | zero =>
        intro _
        have h : e0.testBit 31 = true := by decide +kernel
        unfold pr
        simp [pr, it, h]
      | succ k ih =>
        intro hk
        have h1 := ih (by omega)
        have e2 : pr e0 b (k + 1 + 1) = if e0.testBit (31 - (k + 1)) then pr e0 b (k + 1) ^^^ it (k + 1) b else pr e0 b (k + 1) := rfl
        have e3 : e0.testBit (31 - (k + 1)) = false := by
          show (2 ^ 31).testBit _ = false
          exact Nat.testBit_two_pow_of_ne (by omega)
        rw [e2, e3, h1]
        rfl
    exact h 31 (by omega)
  | succ k ih =>
    show product (st (it k e0)) b = st (it k b)
    rw [product_st _ _ (it_lt k e0 (by decide)) hb, ih]

/-! ### shifts -/
/-- The powers that a shift goes by. -/
def pw (r : Nat) : Nat := it (8 * 2 ^ r) e0
theorem pw_lt (r : Nat) : pw r < 4294967296 := it_lt _ _ (by decide)
theorem pw_zero : pw 0 = 8388608 := by decide +kernel
theorem pw_product (r s : Nat) (hs : s < 4294967296) : product (pw r) s = it (8 * 2 ^ r) s := product_it _ s hs
theorem pw_succ (r : Nat) : product (pw r) (pw r) = pw (r + 1) := by
  rw [pw_product r _ (pw_lt r)]
  unfold pw
  rw [← it_add, show 8 * 2 ^ r + 8 * 2 ^ r = 8 * 2 ^ (r + 1) from by rw [Nat.pow_succ]; omega]
/-- A number, so many bytes 0 behind it. -/
def shift (n s : Nat) : Nat := it (8 * n) s
theorem shift_lt (n s : Nat) (h : s < 4294967296) : shift n s < 4294967296 := it_lt _ _ h
theorem shift_zero (s : Nat) : shift 0 s = s := rfl
theorem shift_add (a b s : Nat) : shift (a + b) s = shift b (shift a s) := by
  unfold shift
  rw [← it_add, show 8 * b + 8 * a = 8 * (a + b) from by omega]
theorem shift_xor (n a b : Nat) : shift n (a ^^^ b) = shift n a ^^^ shift n b := it_xor _ _ _
theorem shift_succ (n s : Nat) : shift (n + 1) s = it 8 (shift n s) := by rw [shift_add]; rfl
/-- A round of the shift: the lowest bit of what is left. -/
theorem shift_odd (r n s : Nat) (h : n % 2 = 1) : shift (2 ^ r * n) s = shift (2 ^ (r + 1) * (n / 2)) (it (8 * 2 ^ r) s) := by
  have e : 2 ^ r * n = 2 ^ r + 2 ^ (r + 1) * (n / 2) := by
    have : n = 1 + 2 * (n / 2) := by omega
    conv => lhs; rw [this]
    rw [Nat.mul_add, Nat.pow_succ, Nat.mul_one, ← Nat.mul_assoc]
  rw [e, shift_add]
  rfl
theorem shift_even (r n s : Nat) (h : n % 2 ≠ 1) : shift (2 ^ r * n) s = shift (2 ^ (r + 1) * (n / 2)) s := by
  have e : 2 ^ r * n = 2 ^ (r + 1) * (n / 2) := by
    have : n = 2 * (n / 2) := by omega
    conv => lhs; rw [this]
    rw [Nat.pow_succ, ← Nat.mul_assoc]
  rw [e]
end Go.Proofs.YtmhalkkfpbkafaaDoor.Crc
