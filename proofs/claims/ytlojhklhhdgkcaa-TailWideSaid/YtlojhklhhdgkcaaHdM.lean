/-
  Numbers and texts at places; a cursor on its way through a header.
-/
import Derived.Test.YtlojhklhhdgkcaaFlA
namespace Go.Proofs.Ytlojhklhhdgkcaa
set_option maxRecDepth 100000
open Go.RowKit Go.Joins

/-- The number of k bytes from a place on. -/
def nAt (s : ByteArray) (a k : Nat) : Nat := numL (((nums s).drop a).take k)
theorem nAt_lt (s : ByteArray) (a k : Nat) : nAt s a k < 256 ^ k := by
  have h := numL_lt (((nums s).drop a).take k) (fun x hx => nums_lt s x (List.mem_of_mem_drop (List.mem_of_mem_take hx)))
  refine Nat.lt_of_lt_of_le h (Nat.pow_le_pow_right (n := 256) (by omega) ?_)
  rw [List.length_take]
  omega
theorem numB_yes (s : ByteArray) (a k : Nat) (h : a + k ≤ s.size) : numB s a 0 k = nAt s a k := by
  unfold numB nAt
  rw [nums_piece s a k h]
/-- k bytes from a place on. -/
def tAt (s : ByteArray) (a k : Nat) : ByteArray := s.extract a (a + k)
theorem piece_yes (s : ByteArray) (a k : Nat) (h : a + k ≤ s.size) : piece s a 0 (k : Nat) = tAt s a k := by
  unfold piece
  rw [if_pos (mayB_yes s a k h), Int.toNat_natCast]
  rfl
theorem tAt_size (s : ByteArray) (a k : Nat) (h : a + k ≤ s.size) : (tAt s a k).size = k := by
  unfold tAt
  rw [ByteArray.size_extract]
  omega
theorem nums_tAt (s : ByteArray) (a k : Nat) : nums (tAt s a k) = ((nums s).drop a).take k := by
  unfold nums tAt
  rw [ByteArray.data_extract]
  simp
theorem tAt_num (s : ByteArray) (a k : Nat) : numL (nums (tAt s a k)) = nAt s a k := by
  rw [nums_tAt]
  rfl
/-- Bytes are the number's. -/
theorem tAt_le (s : ByteArray) (a k : Nat) (h : a + k ≤ s.size) : tAt s a k = text (le (nAt s a k) k) := by
  apply nums_inj
  rw [nums_text _ (le_lt _ _), nums_tAt]
  unfold nAt
  have hl : (((nums s).drop a).take k).length = k := by rw [List.length_take, List.length_drop, nums_len]; omega
  rw [le_of_numL _ (fun x hx => nums_lt s x (List.mem_of_mem_drop (List.mem_of_mem_take hx))) k (by rw [hl]; exact Nat.le_refl _), List.take_take, Nat.min_self]
theorem errB_no (s : ByteArray) (a e k : Nat) (h : e = 3 ∨ s.size < a + k) : errB s a e (k : Nat) = 3 := by
  unfold errB
  split
  · rename_i hm
    unfold mayB at hm
    have := of_decide_eq_true hm
    omega
  · rfl

theorem lt_of_some {w : World} {k : Nat} {o : Obj} (h : w.heap[k]? = some o) : k < w.heap.size := (Array.getElem?_eq_some_iff.1 h).1
/-- A cursor of the call's own on its way: as long as nothing was short it is at K and Q holds; else the header doesn't fit. -/
def Wk (w0 : World) (s : ByteArray) (F : Prop) (K : Nat) (Q : Prop) (w : World) : Prop :=
  ∃ a e, CI w0 s a e w ∧ a ≤ s.size ∧ ((e = 0 ∧ a = K ∧ Q) ∨ (e = 3 ∧ ¬ F))
theorem Wk.lt {w0 w : World} {s : ByteArray} {F Q : Prop} {K : Nat} (h : Wk w0 s F K Q w) : w0.heap.size < w.heap.size := by
  obtain ⟨a, e, hc, _⟩ := h
  exact hc.lt
theorem Wk.bel {w0 w : World} {s : ByteArray} {F Q : Prop} {K : Nat} (h : Wk w0 s F K Q w) : Below w0.heap.size w0 w := by
  obtain ⟨a, e, hc, _⟩ := h
  exact hc.bel
/-- What is made or written above the cursor. -/
theorem Wk.below {w0 w w' : World} {s : ByteArray} {F Q : Prop} {K : Nat} (h : Wk w0 s F K Q w) (hb : Below (w0.heap.size + 1) w w') : Wk w0 s F K Q w' := by
  obtain ⟨a, e, hc, h1, h2⟩ := h
  exact ⟨a, e, ⟨hc.cur.below hb (by omega), hc.bel.trans (hb.mono (by omega))⟩, h1, h2⟩
theorem wk_step {w0 w' : World} {s : ByteArray} {F Q : Prop} {K a e k : Nat} (hF : F → Q → K + k ≤ s.size) (h : (e = 0 ∧ a = K ∧ Q) ∨ (e = 3 ∧ ¬ F)) (ha : a ≤ s.size) {P : Prop} (hP : a + k ≤ s.size → e = 0 → P) (hc : CI w0 s (atB s a e (k : Nat)) (errB s a e (k : Nat)) w') :
    Wk w0 s F (K + k) (Q ∧ K + k ≤ s.size ∧ P) w' := by
  refine ⟨_, _, hc, atB_le s a e _ ha, ?_⟩
  rcases h with ⟨rfl, rfl, hq⟩ | ⟨rfl, hn⟩
  · by_cases hk : a + k ≤ s.size
    · exact .inl ⟨errB_yes s a k hk, atB_yes s a k hk, hq, hk, hP hk rfl⟩
    · exact .inr ⟨errB_no s a 0 k (.inr (by omega)), fun f => hk (hF f hq)⟩
  · exact .inr ⟨errB_no s a 3 k (.inl rfl), hn⟩
theorem two_wk {w0 w : World} {s : ByteArray} {F Q : Prop} {K : Nat} (hs : s.size ≤ maxLen) (h : Wk w0 s F K Q w) (hF : F → Q → K + 2 ≤ s.size) :
    Calls Try.prog 27 #[.pointer (some ⟨w0.heap.size, 0, none⟩)] w fun r w' => ∃ v : Nat, v < 65536 ∧ r = .returned (.int .u16 v) ∧ Wk w0 s F (K + 2) (Q ∧ K + 2 ≤ s.size ∧ v = nAt s K 2) w' ∧ w.grownBy w' (some w0.heap.size) := by
  obtain ⟨a, e, hc, ha, h⟩ := h
  refine (two_of _ s a e hs ha w hc.cur).mono fun r w' ⟨hr, hc', hg⟩ => ⟨numB s a e 2, numB_lt s a e 2, hr, wk_step (k := 2) hF h ha ?_ (hc.grown hc' hg), hg⟩
  intro hk he
  rcases h with ⟨_, rfl, _⟩ | ⟨h3, _⟩
  · rw [he]; exact numB_yes s a 2 hk
  · omega
theorem four_wk {w0 w : World} {s : ByteArray} {F Q : Prop} {K : Nat} (hs : s.size ≤ maxLen) (h : Wk w0 s F K Q w) (hF : F → Q → K + 4 ≤ s.size) :
    Calls Try.prog 28 #[.pointer (some ⟨w0.heap.size, 0, none⟩)] w fun r w' => ∃ v : Nat, v < 4294967296 ∧ r = .returned (.int .u32 v) ∧ Wk w0 s F (K + 4) (Q ∧ K + 4 ≤ s.size ∧ v = nAt s K 4) w' ∧ w.grownBy w' (some w0.heap.size) := by
  obtain ⟨a, e, hc, ha, h⟩ := h
  refine (four_of _ s a e hs ha w hc.cur).mono fun r w' ⟨hr, hc', hg⟩ => ⟨numB s a e 4, numB_lt s a e 4, hr, wk_step (k := 4) hF h ha ?_ (hc.grown hc' hg), hg⟩
  intro hk he
  rcases h with ⟨_, rfl, _⟩ | ⟨h3, _⟩
  · rw [he]; exact numB_yes s a 4 hk
  · omega
theorem eight_wk {w0 w : World} {s : ByteArray} {F Q : Prop} {K : Nat} (hs : s.size ≤ maxLen) (h : Wk w0 s F K Q w) (hF : F → Q → K + 8 ≤ s.size) :
    Calls Try.prog 30 #[.pointer (some ⟨w0.heap.size, 0, none⟩)] w fun r w' => ∃ v : Nat, v < 18446744073709551616 ∧ r = .returned (.int .u64 v) ∧ Wk w0 s F (K + 8) (Q ∧ K + 8 ≤ s.size ∧ v = nAt s K 8) w' ∧ w.grownBy w' (some w0.heap.size) := by
  obtain ⟨a, e, hc, ha, h⟩ := h
  refine (eight_of _ s a e hs ha w hc.cur).mono fun r w' ⟨hr, hc', hg⟩ => ⟨numB s a e 8, numB_lt s a e 8, hr, wk_step (k := 8) hF h ha ?_ (hc.grown hc' hg), hg⟩
  intro hk he
  rcases h with ⟨_, rfl, _⟩ | ⟨h3, _⟩
  · rw [he]; exact numB_yes s a 8 hk
  · omega
theorem take_wk {w0 w : World} {s : ByteArray} {F Q : Prop} {K : Nat} (n : Nat) (hn : n < 65536) (hs : s.size ≤ maxLen) (h : Wk w0 s F K Q w) (hF : F → Q → K + n ≤ s.size) :
    Calls Try.prog 29 #[.pointer (some ⟨w0.heap.size, 0, none⟩), .int .i64 (n : Nat)] w fun r w' => ∃ p : ByteArray, p.size ≤ n ∧ r = .returned (.string p) ∧ Wk w0 s F (K + n) (Q ∧ K + n ≤ s.size ∧ p = tAt s K n) w' ∧ w.grownBy w' (some w0.heap.size) := by
  obtain ⟨a, e, hc, ha, h⟩ := h
  refine (take_any _ s a e n hs ha (WalkArith.wf_i64 (by omega)) w hc.cur).mono fun r w' ⟨hr, hc', hg⟩ => ⟨piece s a e n, by have := piece_size s a e (n : Nat); omega, hr, wk_step (k := n) hF h ha ?_ (hc.grown hc' hg), hg⟩
  intro hk he
  rcases h with ⟨_, rfl, _⟩ | ⟨h3, _⟩
  · rw [he]; exact piece_yes s a n hk
  · omega
/-- A block that is none of the cursor's stays. -/
theorem stays {w w' : World} {g k : Nat} {o : Obj} (hg : w.grownBy w' (some g)) (hne : k ≠ g) (h : w.heap[k]? = some o) : w'.heap[k]? = some o :=
  (hg.block k (lt_of_some h) (fun e => hne (Option.some.inj e))).trans h
/-- Does it begin with its four bytes, where there are four? -/
def begB (s : ByteArray) (k : Nat) : Bool := decide (s.size < 4) || decide (nAt s 0 4 = k)
theorem wk_fresh {w0 w : World} {s : ByteArray} {F : Prop} (k : Nat) (hF : F → 4 ≤ s.size) (hb : begB s k = true) (h : CI w0 s (atB s 0 0 (4 : Nat)) (errB s 0 0 (4 : Nat)) w) : Wk w0 s F 4 (4 ≤ s.size ∧ nAt s 0 4 = k) w := by
  refine ⟨_, _, h, atB_le s 0 0 _ (Nat.zero_le _), ?_⟩
  by_cases h4 : 4 ≤ s.size
  · refine .inl ⟨errB_yes s 0 4 (by omega), atB_yes s 0 4 (by omega), h4, ?_⟩
    unfold begB at hb
    rw [decide_eq_false (by omega), Bool.false_or, decide_eq_true_iff] at hb
    exact hb
  · exact .inr ⟨errB_no s 0 0 4 (.inr (by omega)), fun f => h4 (hF f)⟩
end Go.Proofs.Ytlojhklhhdgkcaa
