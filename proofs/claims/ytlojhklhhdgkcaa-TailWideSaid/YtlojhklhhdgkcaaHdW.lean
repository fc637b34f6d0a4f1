/-
  What is printed is parsed as it was; what is parsed is printed so; cut short it isn't parsed.
-/
import Derived.Test.YtlojhklhhdgkcaaHdU
import Derived.Laws.StructEq
namespace Go.Proofs.Ytlojhklhhdgkcaa
set_option maxRecDepth 100000
set_option linter.unusedSimpArgs false
set_option linter.unusedVariables false
open Go.RowKit Go.Joins Go.Deep Go.Op
/-- Does each number have room in its width? -/
def inW : List Nat → List Nat → Prop
  | x :: l, k :: ws => x < 256 ^ k ∧ inW l ws
  | _, _ => True
theorem row_back (s : ByteArray) : ∀ (ws l : List Nat) (a : Nat) (R : List Nat), l.length = ws.length → inW l ws → (nums s).drop a = prN l ws ++ R → rowN s a ws = l ∧ (nums s).drop (a + ws.sum) = R
  | [], [], a, R, _, _, h => by simpa [prN, rowN] using h
  | k :: ws, x :: l, a, R, hl, hw, h => by
    have h1 : (nums s).drop a = le x k ++ (prN l ws ++ R) := by rw [h]; simp [prN]
    have h2 : nAt s a k = x := by
      unfold nAt
      rw [h1, List.take_append_of_le_length (by rw [le_len]; exact Nat.le_refl _), List.take_of_length_le (by rw [le_len]; exact Nat.le_refl _), numL_le, Nat.mod_eq_of_lt hw.1]
    have h3 : (nums s).drop (a + k) = prN l ws ++ R := by
      rw [← List.drop_drop, h1, List.drop_append_of_le_length (by rw [le_len]; exact Nat.le_refl _), List.drop_of_length_le (by rw [le_len]; exact Nat.le_refl _), List.nil_append]
    obtain ⟨r1, r2⟩ := row_back s ws l (a + k) R (by simpa using hl) hw.2 h3
    refine ⟨by simp only [rowN, h2, r1], ?_⟩
    rw [List.sum_cons, ← Nat.add_assoc]
    exact r2
  | [], _ :: _, _, _, h, _, _ => by simp at h
  | _ :: _, [], _, _, h, _, _ => by simp at h
theorem row_print (s : ByteArray) : ∀ (ws : List Nat) (a : Nat), a + ws.sum ≤ s.size → prN (rowN s a ws) ws = ((nums s).drop a).take ws.sum
  | [], a, _ => by simp [prN, rowN]
  | k :: ws, a, h => by
    rw [List.sum_cons] at h ⊢
    have hl : (((nums s).drop a).take k).length = k := by rw [List.length_take, List.length_drop, nums_len]; omega
    have e1 : le (nAt s a k) k = ((nums s).drop a).take k := by
      unfold nAt
      rw [le_of_numL _ (fun x hx => nums_lt s x (List.mem_of_mem_drop (List.mem_of_mem_take hx))) k (by rw [hl]; exact Nat.le_refl _), List.take_take, Nat.min_self]
    simp only [rowN, prN]
    rw [e1, row_print s ws (a + k) (by omega), ← List.drop_drop, List.take_add]
theorem nums_app (a b : ByteArray) : nums (a ++ b) = nums a ++ nums b := nums_append a b
theorem nums_pr (l ws : List Nat) : nums (text (prN l ws)) = prN l ws := nums_text _ (prN_lt l ws)
theorem nAt_cut (s : ByteArray) (c a k : Nat) (h : a + k ≤ c) : nAt (s.extract 0 c) a k = nAt s a k := by
  unfold nAt
  rw [nums_ext', List.drop_zero, Nat.sub_zero, List.drop_take, List.take_take, Nat.min_eq_left (by omega)]
theorem tAt_of {s p : ByteArray} {a : Nat} {R : List Nat} (h : (nums s).drop a = nums p ++ R) : tAt s a p.size = p ∧ (nums s).drop (a + p.size) = R := by
  constructor
  · apply nums_inj
    rw [nums_tAt, h, List.take_append_of_le_length (by rw [nums_len]; exact Nat.le_refl _), List.take_of_length_le (by rw [nums_len]; exact Nat.le_refl _)]
  · rw [← List.drop_drop, h, List.drop_append_of_le_length (by rw [nums_len]; exact Nat.le_refl _), List.drop_of_length_le (by rw [nums_len]; exact Nat.le_refl _), List.nil_append]
theorem take_text (s : ByteArray) (n : Nat) : text ((nums s).take n) = s.extract 0 n := by
  apply nums_inj
  rw [nums_text _ (fun x hx => nums_lt s x (List.mem_of_mem_take hx)), nums_ext', List.drop_zero, Nat.sub_zero]
theorem nums_tAt' (s : ByteArray) (a k : Nat) : nums (tAt s a k) = ((nums s).drop a).take k := nums_tAt s a k
theorem inL (x0 x1 x2 x3 x4 x5 x6 : Nat) (b0 : x0 < 65536) (b1 : x1 < 65536) (b2 : x2 < 65536) (b3 : x3 < 4294967296) (b4 : x4 < 4294967296) (b5 : x5 < 4294967296) (b6 : x6 < 4294967296) (s7 s8 : ByteArray) (z7 : s7.size ≤ 65535) (z8 : s8.size ≤ 65535) : inW (rowLocal x0 x1 x2 x3 x4 x5 x6 s7 s8) wsLocals := by
  unfold rowLocal wsLocals
  simp only [inW, and_true]
  omega
/-- The numbers and the texts of what was printed, whatever stands behind. -/
theorem gotL (x0 x1 x2 x3 x4 x5 x6 : Nat) (b0 : x0 < 65536) (b1 : x1 < 65536) (b2 : x2 < 65536) (b3 : x3 < 4294967296) (b4 : x4 < 4294967296) (b5 : x5 < 4294967296) (b6 : x6 < 4294967296) (s7 s8 t : ByteArray) (z7 : s7.size ≤ 65535) (z8 : s8.size ≤ 65535) (T : ByteArray) (hT : T = txL x0 x1 x2 x3 x4 x5 x6 s7 s8 ++ t) : (nAt T 0 4 = 67324752 ∧ nAt T 4 2 = x0 ∧ nAt T 6 2 = x1 ∧ nAt T 8 2 = x2 ∧ nAt T 10 4 = x3 ∧ nAt T 14 4 = x4 ∧ nAt T 18 4 = x5 ∧ nAt T 22 4 = x6 ∧ nAt T 26 2 = s7.size ∧ nAt T 28 2 = s8.size) ∧ (tAt T (30) s7.size = s7 ∧ tAt T (30 + s7.size) s8.size = s8) ∧ (30 + s7.size + s8.size) ≤ T.size := by
  have hn : (nums T).drop 0 = prN (rowLocal x0 x1 x2 x3 x4 x5 x6 s7 s8) wsLocals ++ (nums s7 ++ nums s8 ++ nums t) := by
    rw [hT, tx_L, List.drop_zero]
    simp only [nums_app, nums_pr, List.append_assoc]
  obtain ⟨h1, h2⟩ := row_back T wsLocals (rowLocal x0 x1 x2 x3 x4 x5 x6 s7 s8) 0 _ rfl (inL x0 x1 x2 x3 x4 x5 x6 b0 b1 b2 b3 b4 b5 b6 s7 s8 z7 z8) hn
  rw [row_L] at h1
  unfold rowLocal at h1
  simp only [List.cons.injEq, and_true] at h1
  have h20 : (nums T).drop 30 = nums s7 ++ (nums s8 ++ nums t) := by
    have := h2
    rw [show 0 + wsLocals.sum = 30 from rfl] at this
    rw [this]
    simp only [List.append_assoc]
  obtain ⟨t0, h21⟩ := tAt_of (p := s7) h20
  obtain ⟨t1, h22⟩ := tAt_of (p := s8) h21
  refine ⟨h1, ⟨t0, t1⟩, ?_⟩
  have hz : T.size = (30 + s7.size + s8.size + t.size) := by
    rw [hT, tx_L]
    simp only [ByteArray.size_append, text_size]
    rw [prN_len (rowLocal x0 x1 x2 x3 x4 x5 x6 s7 s8) wsLocals rfl]
    rfl
  omega
theorem backL (x0 x1 x2 x3 x4 x5 x6 : Nat) (b0 : x0 < 65536) (b1 : x1 < 65536) (b2 : x2 < 65536) (b3 : x3 < 4294967296) (b4 : x4 < 4294967296) (b5 : x5 < 4294967296) (b6 : x6 < 4294967296) (s7 s8 t : ByteArray) (z7 : s7.size ≤ 65535) (z8 : s8.size ≤ 65535) : psL (txL x0 x1 x2 x3 x4 x5 x6 s7 s8 ++ t) = .tuple #[.agg #[.int .u16 (x0 : Nat), .int .u16 (x1 : Nat), .int .u16 (x2 : Nat), .int .u32 (x3 : Nat), .int .u32 (x4 : Nat), .int .u32 (x5 : Nat), .int .u32 (x6 : Nat), .string s7, .string s8], .int .i64 ((30 + s7.size + s8.size) : Nat), .int .i64 0] := by
  obtain ⟨h1, h2, h3⟩ := gotL x0 x1 x2 x3 x4 x5 x6 b0 b1 b2 b3 b4 b5 b6 s7 s8 t z7 z8 _ rfl
  generalize txL x0 x1 x2 x3 x4 x5 x6 s7 s8 ++ t = T at *
  obtain ⟨e0, e1, e2, e3, e4, e5, e6, e7, e8, e9⟩ := h1
  obtain ⟨f0, f1⟩ := h2
  unfold psL
  have hb : begB T 67324752 = true := by unfold begB; rw [e0, decide_eq_true rfl, Bool.or_true]
  have hf : fitL T := by unfold fitL; rw [e8, e9]; exact h3
  rw [if_pos hb, if_pos hf]
  unfold hdL endL
  rw [e1, e2, e3, e4, e5, e6, e7, e8, e9, f0, f1]
theorem cutL (x0 x1 x2 x3 x4 x5 x6 : Nat) (b0 : x0 < 65536) (b1 : x1 < 65536) (b2 : x2 < 65536) (b3 : x3 < 4294967296) (b4 : x4 < 4294967296) (b5 : x5 < 4294967296) (b6 : x6 < 4294967296) (s7 s8 : ByteArray) (z7 : s7.size ≤ 65535) (z8 : s8.size ≤ 65535) (X : ByteArray) (hX : X = txL x0 x1 x2 x3 x4 x5 x6 s7 s8) (c : Nat) (hc : c < X.size) : psL (X.extract 0 c) = .tuple #[.agg #[.int .u16 0, .int .u16 0, .int .u16 0, .int .u32 0, .int .u32 0, .int .u32 0, .int .u32 0, .string ⟨#[]⟩, .string ⟨#[]⟩], .int .i64 0, .int .i64 3] := by
  have hz : X.size = (30 + s7.size + s8.size) := by
    rw [hX, tx_L]
    simp only [ByteArray.size_append, text_size]
    rw [prN_len (rowLocal x0 x1 x2 x3 x4 x5 x6 s7 s8) wsLocals rfl]
    rfl
  obtain ⟨h1, h2, h3⟩ := gotL x0 x1 x2 x3 x4 x5 x6 b0 b1 b2 b3 b4 b5 b6 s7 s8 ⟨#[]⟩ z7 z8 X (by rw [hX]; exact (ByteArray.append_empty).symm)
  obtain ⟨e0, e1, e2, e3, e4, e5, e6, e7, e8, e9⟩ := h1
  have hcs : (X.extract 0 c).size = c := by rw [ByteArray.size_extract]; omega
  unfold psL
  have hb : begB (X.extract 0 c) 67324752 = true := by
    unfold begB
    rw [hcs]
    by_cases h4 : c < 4
    · rw [decide_eq_true h4, Bool.true_or]
    · rw [nAt_cut X c 0 4 (by omega), e0, decide_eq_true rfl, Bool.or_true]
  have hf : ¬ fitL (X.extract 0 c) := by
    unfold fitL
    rw [hcs]
    intro h
    rw [nAt_cut X c 26 2 (by omega), nAt_cut X c 28 2 (by omega), e8, e9] at h
    omega
  rw [if_pos hb, if_neg hf]
/-- What was parsed is printed so. -/
theorem againL (s : ByteArray) (x0 x1 x2 x3 x4 x5 x6 : Nat) (s7 s8 : ByteArray) (n : Nat) (hok : okR s wsLocals 67324752 [8, 9]) (hn : n = txE (rowN s 0 wsLocals) wsLocals.sum [8, 9]) (hrow : rowLocal x0 x1 x2 x3 x4 x5 x6 s7 s8 = rowN s 0 wsLocals) (htx : txT s (rowN s 0 wsLocals) wsLocals.sum [8, 9] = [s7, s8]) : fitsT [s7, s8] = true ∧ txL x0 x1 x2 x3 x4 x5 x6 s7 s8 = s.extract 0 n ∧ n ≤ s.size := by
  obtain ⟨h4, hm, hsz, htf⟩ := hok
  have hle := txE_le s (rowN s 0 wsLocals) [8, 9] wsLocals.sum htf hsz
  have hp := row_print s wsLocals 0 (by omega)
  rw [← hrow, List.drop_zero] at hp
  have hr2 := hrow
  rw [row_L] at hr2 hn hle htx htf
  unfold rowLocal at hr2
  simp only [List.cons.injEq, and_true] at hr2
  obtain ⟨e0, e1, e2, e3, e4, e5, e6, e7, e8, e9⟩ := hr2
  simp only [txT, txE, txF, List.getD_eq_getElem?_getD, List.getElem?_cons_succ, List.getElem?_cons_zero, Option.getD_some, List.cons.injEq, and_true, Bool.and_eq_true, decide_eq_true_iff] at htx hn hle htf
  rw [show wsLocals.sum = 30 from rfl] at *
  obtain ⟨f0, f1⟩ := htx
  have q0 := nAt_lt s 26 2
  have q1 := nAt_lt s 28 2
  have u0 : nAt s 26 2 = s7.size := e8.symm
  have u1 : nAt s 28 2 = s8.size := e9.symm
  refine ⟨fits_yes (by intro x hx; simp at hx; rcases hx with rfl | rfl <;> omega), ?_, by omega⟩
  rw [tx_L, hp, take_text]
  apply nums_inj
  simp only [nums_app]
  have key : ∀ a k, a + k ≤ s.size → (nums s).take a ++ ((nums s).drop a).take k = (nums s).take (a + k) := fun a k _ => by rw [List.take_add]
  rw [nums_ext', nums_ext', List.drop_zero, Nat.sub_zero, Nat.sub_zero, ← f0, ← f1, nums_tAt, nums_tAt, key _ _ (by omega), key _ _ (by omega), hn]
theorem inC (x0 x1 x2 x3 x4 x5 x6 x7 x8 x9 x10 x11 : Nat) (b0 : x0 < 65536) (b1 : x1 < 65536) (b2 : x2 < 65536) (b3 : x3 < 65536) (b4 : x4 < 4294967296) (b5 : x5 < 4294967296) (b6 : x6 < 4294967296) (b7 : x7 < 4294967296) (b8 : x8 < 65536) (b9 : x9 < 65536) (b10 : x10 < 4294967296) (b11 : x11 < 4294967296) (s12 s13 s14 : ByteArray) (z12 : s12.size ≤ 65535) (z13 : s13.size ≤ 65535) (z14 : s14.size ≤ 65535) : inW (rowCentral x0 x1 x2 x3 x4 x5 x6 x7 x8 x9 x10 x11 s12 s13 s14) wsCentrals := by
  unfold rowCentral wsCentrals
  simp only [inW, and_true]
  omega
/-- The numbers and the texts of what was printed, whatever stands behind. -/
theorem gotC (x0 x1 x2 x3 x4 x5 x6 x7 x8 x9 x10 x11 : Nat) (b0 : x0 < 65536) (b1 : x1 < 65536) (b2 : x2 < 65536) (b3 : x3 < 65536) (b4 : x4 < 4294967296) (b5 : x5 < 4294967296) (b6 : x6 < 4294967296) (b7 : x7 < 4294967296) (b8 : x8 < 65536) (b9 : x9 < 65536) (b10 : x10 < 4294967296) (b11 : x11 < 4294967296) (s12 s13 s14 t : ByteArray) (z12 : s12.size ≤ 65535) (z13 : s13.size ≤ 65535) (z14 : s14.size ≤ 65535) (T : ByteArray) (hT : T = txC x0 x1 x2 x3 x4 x5 x6 x7 x8 x9 x10 x11 s12 s13 s14 ++ t) : (nAt T 0 4 = 33639248 ∧ nAt T 4 2 = x0 ∧ nAt T 6 2 = x1 ∧ nAt T 8 2 = x2 ∧ nAt T 10 2 = x3 ∧ nAt T 12 4 = x4 ∧ nAt T 16 4 = x5 ∧ nAt T 20 4 = x6 ∧ nAt T 24 4 = x7 ∧ nAt T 28 2 = s12.size ∧ nAt T 30 2 = s13.size ∧ nAt T 32 2 = s14.size ∧ nAt T 34 2 = x8 ∧ nAt T 36 2 = x9 ∧ nAt T 38 4 = x10 ∧ nAt T 42 4 = x11) ∧ (tAt T (46) s12.size = s12 ∧ tAt T (46 + s12.size) s13.size = s13 ∧ tAt T (46 + s12.size + s13.size) s14.size = s14) ∧ (46 + s12.size + s13.size + s14.size) ≤ T.size := by
  have hn : (nums T).drop 0 = prN (rowCentral x0 x1 x2 x3 x4 x5 x6 x7 x8 x9 x10 x11 s12 s13 s14) wsCentrals ++ (nums s12 ++ nums s13 ++ nums s14 ++ nums t) := by
    rw [hT, tx_C, List.drop_zero]
    simp only [nums_app, nums_pr, List.append_assoc]
  obtain ⟨h1, h2⟩ := row_back T wsCentrals (rowCentral x0 x1 x2 x3 x4 x5 x6 x7 x8 x9 x10 x11 s12 s13 s14) 0 _ rfl (inC x0 x1 x2 x3 x4 x5 x6 x7 x8 x9 x10 x11 b0 b1 b2 b3 b4 b5 b6 b7 b8 b9 b10 b11 s12 s13 s14 z12 z13 z14) hn
  rw [row_C] at h1
  unfold rowCentral at h1
  simp only [List.cons.injEq, and_true] at h1
  have h20 : (nums T).drop 46 = nums s12 ++ (nums s13 ++ (nums s14 ++ nums t)) := by
    have := h2
    rw [show 0 + wsCentrals.sum = 46 from rfl] at this
    rw [this]
    simp only [List.append_assoc]
  obtain ⟨t0, h21⟩ := tAt_of (p := s12) h20
  obtain ⟨t1, h22⟩ := tAt_of (p := s13) h21
  obtain ⟨t2, h23⟩ := tAt_of (p := s14) h22
  refine ⟨h1, ⟨t0, t1, t2⟩, ?_⟩
  have hz : T.size = (46 + s12.size + s13.size + s14.size + t.size) := by
    rw [hT, tx_C]
    simp only [ByteArray.size_append, text_size]
    rw [prN_len (rowCentral x0 x1 x2 x3 x4 x5 x6 x7 x8 x9 x10 x11 s12 s13 s14) wsCentrals rfl]
    rfl
  omega
theorem backC (x0 x1 x2 x3 x4 x5 x6 x7 x8 x9 x10 x11 : Nat) (b0 : x0 < 65536) (b1 : x1 < 65536) (b2 : x2 < 65536) (b3 : x3 < 65536) (b4 : x4 < 4294967296) (b5 : x5 < 4294967296) (b6 : x6 < 4294967296) (b7 : x7 < 4294967296) (b8 : x8 < 65536) (b9 : x9 < 65536) (b10 : x10 < 4294967296) (b11 : x11 < 4294967296) (s12 s13 s14 t : ByteArray) (z12 : s12.size ≤ 65535) (z13 : s13.size ≤ 65535) (z14 : s14.size ≤ 65535) : psC (txC x0 x1 x2 x3 x4 x5 x6 x7 x8 x9 x10 x11 s12 s13 s14 ++ t) = .tuple #[.agg #[.int .u16 (x0 : Nat), .int .u16 (x1 : Nat), .int .u16 (x2 : Nat), .int .u16 (x3 : Nat), .int .u32 (x4 : Nat), .int .u32 (x5 : Nat), .int .u32 (x6 : Nat), .int .u32 (x7 : Nat), .int .u16 (x8 : Nat), .int .u16 (x9 : Nat), .int .u32 (x10 : Nat), .int .u32 (x11 : Nat), .string s12, .string s13, .string s14], .int .i64 ((46 + s12.size + s13.size + s14.size) : Nat), .int .i64 0] := by
  obtain ⟨h1, h2, h3⟩ := gotC x0 x1 x2 x3 x4 x5 x6 x7 x8 x9 x10 x11 b0 b1 b2 b3 b4 b5 b6 b7 b8 b9 b10 b11 s12 s13 s14 t z12 z13 z14 _ rfl
  generalize txC x0 x1 x2 x3 x4 x5 x6 x7 x8 x9 x10 x11 s12 s13 s14 ++ t = T at *
  obtain ⟨e0, e1, e2, e3, e4, e5, e6, e7, e8, e9, e10, e11, e12, e13, e14, e15⟩ := h1
  obtain ⟨f0, f1, f2⟩ := h2
  unfold psC
  have hb : begB T 33639248 = true := by unfold begB; rw [e0, decide_eq_true rfl, Bool.or_true]
  have hf : fitC T := by unfold fitC; rw [e9, e10, e11]; exact h3
  rw [if_pos hb, if_pos hf]
  unfold hdC endC
  rw [e1, e2, e3, e4, e5, e6, e7, e8, e9, e10, e11, e12, e13, e14, e15, f0, f1, f2]
theorem cutC (x0 x1 x2 x3 x4 x5 x6 x7 x8 x9 x10 x11 : Nat) (b0 : x0 < 65536) (b1 : x1 < 65536) (b2 : x2 < 65536) (b3 : x3 < 65536) (b4 : x4 < 4294967296) (b5 : x5 < 4294967296) (b6 : x6 < 4294967296) (b7 : x7 < 4294967296) (b8 : x8 < 65536) (b9 : x9 < 65536) (b10 : x10 < 4294967296) (b11 : x11 < 4294967296) (s12 s13 s14 : ByteArray) (z12 : s12.size ≤ 65535) (z13 : s13.size ≤ 65535) (z14 : s14.size ≤ 65535) (X : ByteArray) (hX : X = txC x0 x1 x2 x3 x4 x5 x6 x7 x8 x9 x10 x11 s12 s13 s14) (c : Nat) (hc : c < X.size) : psC (X.extract 0 c) = .tuple #[.agg #[.int .u16 0, .int .u16 0, .int .u16 0, .int .u16 0, .int .u32 0, .int .u32 0, .int .u32 0, .int .u32 0, .int .u16 0, .int .u16 0, .int .u32 0, .int .u32 0, .string ⟨#[]⟩, .string ⟨#[]⟩, .string ⟨#[]⟩], .int .i64 0, .int .i64 3] := by
  have hz : X.size = (46 + s12.size + s13.size + s14.size) := by
    rw [hX, tx_C]
    simp only [ByteArray.size_append, text_size]
    rw [prN_len (rowCentral x0 x1 x2 x3 x4 x5 x6 x7 x8 x9 x10 x11 s12 s13 s14) wsCentrals rfl]
    rfl
  obtain ⟨h1, h2, h3⟩ := gotC x0 x1 x2 x3 x4 x5 x6 x7 x8 x9 x10 x11 b0 b1 b2 b3 b4 b5 b6 b7 b8 b9 b10 b11 s12 s13 s14 ⟨#[]⟩ z12 z13 z14 X (by rw [hX]; exact (ByteArray.append_empty).symm)
  obtain ⟨e0, e1, e2, e3, e4, e5, e6, e7, e8, e9, e10, e11, e12, e13, e14, e15⟩ := h1
  have hcs : (X.extract 0 c).size = c := by rw [ByteArray.size_extract]; omega
  unfold psC
  have hb : begB (X.extract 0 c) 33639248 = true := by
    unfold begB
    rw [hcs]
    by_cases h4 : c < 4
    · rw [decide_eq_true h4, Bool.true_or]
    · rw [nAt_cut X c 0 4 (by omega), e0, decide_eq_true rfl, Bool.or_true]
  have hf : ¬ fitC (X.extract 0 c) := by
    unfold fitC
    rw [hcs]
    intro h
    rw [nAt_cut X c 28 2 (by omega), nAt_cut X c 30 2 (by omega), nAt_cut X c 32 2 (by omega), e9, e10, e11] at h
    omega
  rw [if_pos hb, if_neg hf]
/-- What was parsed is printed so. -/
theorem againC (s : ByteArray) (x0 x1 x2 x3 x4 x5 x6 x7 x8 x9 x10 x11 : Nat) (s12 s13 s14 : ByteArray) (n : Nat) (hok : okR s wsCentrals 33639248 [9, 10, 11]) (hn : n = txE (rowN s 0 wsCentrals) wsCentrals.sum [9, 10, 11]) (hrow : rowCentral x0 x1 x2 x3 x4 x5 x6 x7 x8 x9 x10 x11 s12 s13 s14 = rowN s 0 wsCentrals) (htx : txT s (rowN s 0 wsCentrals) wsCentrals.sum [9, 10, 11] = [s12, s13, s14]) : fitsT [s12, s13, s14] = true ∧ txC x0 x1 x2 x3 x4 x5 x6 x7 x8 x9 x10 x11 s12 s13 s14 = s.extract 0 n ∧ n ≤ s.size := by
  obtain ⟨h4, hm, hsz, htf⟩ := hok
  have hle := txE_le s (rowN s 0 wsCentrals) [9, 10, 11] wsCentrals.sum htf hsz
  have hp := row_print s wsCentrals 0 (by omega)
  rw [← hrow, List.drop_zero] at hp
  have hr2 := hrow
  rw [row_C] at hr2 hn hle htx htf
  unfold rowCentral at hr2
  simp only [List.cons.injEq, and_true] at hr2
  obtain ⟨e0, e1, e2, e3, e4, e5, e6, e7, e8, e9, e10, e11, e12, e13, e14, e15⟩ := hr2
  simp only [txT, txE, txF, List.getD_eq_getElem?_getD, List.getElem?_cons_succ, List.getElem?_cons_zero, Option.getD_some, List.cons.injEq, and_true, Bool.and_eq_true, decide_eq_true_iff] at htx hn hle htf
  rw [show wsCentrals.sum = 46 from rfl] at *
  obtain ⟨f0, f1, f2⟩ := htx
  have q0 := nAt_lt s 28 2
  have q1 := nAt_lt s 30 2
  have q2 := nAt_lt s 32 2
  have u0 : nAt s 28 2 = s12.size := e9.symm
  have u1 : nAt s 30 2 = s13.size := e10.symm
  have u2 : nAt s 32 2 = s14.size := e11.symm
  refine ⟨fits_yes (by intro x hx; simp at hx; rcases hx with rfl | rfl | rfl <;> omega), ?_, by omega⟩
  rw [tx_C, hp, take_text]
  apply nums_inj
  simp only [nums_app]
  have key : ∀ a k, a + k ≤ s.size → (nums s).take a ++ ((nums s).drop a).take k = (nums s).take (a + k) := fun a k _ => by rw [List.take_add]
  rw [nums_ext', nums_ext', List.drop_zero, Nat.sub_zero, Nat.sub_zero, ← f0, ← f1, ← f2, nums_tAt, nums_tAt, nums_tAt, key _ _ (by omega), key _ _ (by omega), key _ _ (by omega), hn]
theorem gotD (x0 x1 x2 : Nat) (b0 : x0 < 4294967296) (b1 : x1 < 18446744073709551616) (b2 : x2 < 18446744073709551616) (t : ByteArray) : psD true (txD x0 x1 x2 true ++ t) = .tuple #[.agg #[.int .u32 (x0 : Nat), .int .u64 (x1 : Nat), .int .u64 (x2 : Nat)], .int .i64 (24 : Nat), .int .i64 0] := by
  have hn : (nums (txD x0 x1 x2 true ++ t)).drop 0 = prN (rowDescriptor x0 x1 x2) (wsD true) ++ nums t := by
    rw [tx_D, List.drop_zero]
    simp only [nums_app, nums_pr]
  obtain ⟨h1, h2⟩ := row_back _ (wsD true) (rowDescriptor x0 x1 x2) 0 _ rfl (by unfold rowDescriptor wsD; simp only [inW, if_true, and_true]; omega) hn
  have hz : 24 ≤ (txD x0 x1 x2 true ++ t).size := by
    rw [tx_D, ByteArray.size_append, text_size, prN_len (rowDescriptor x0 x1 x2) (wsD true) rfl]
    have : (wsD true).sum = 24 := rfl
    omega
  rw [row_D] at h1
  generalize txD x0 x1 x2 true ++ t = T at *
  unfold rowDescriptor at h1
  simp only [List.cons.injEq, and_true] at h1
  obtain ⟨e0, e1, e2, e3⟩ := h1
  unfold psD
  have hb : begB T 134695760 = true := by unfold begB; rw [e0, decide_eq_true rfl, Bool.or_true]
  have hf : fitD true T := hz
  rw [if_pos hb, if_pos hf]
  unfold hdD
  rw [e1, e2, e3]
  rfl
end Go.Proofs.Ytlojhklhhdgkcaa
