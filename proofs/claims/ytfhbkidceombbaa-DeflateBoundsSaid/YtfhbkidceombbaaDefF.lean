/-
  Layer 9: Split of any tokens; tokens behind which 9,000 made ones and copies are put.
-/
import Derived.Test.YtfhbkidceombbaaDefE
import Derived.Lib.AppendZerosOnto
import Derived.Laws.OwnMore
namespace Go.Proofs.Ytfhbkidceombbaa
set_option maxRecDepth 100000
open Go.RowKit Go.Joins Go.Deep

set_option maxHeartbeats 4000000 in
theorem clone_zero (a : Addr) (cap : Nat) (w : World) :
    Calls Try.prog 40 #[.slice (some a) 0 cap] w fun e w' => ∃ A2 c2, e = .returned (.slice A2 0 c2) ∧ Below w.heap.size w w' := by
  obtain ⟨i0, hi, hz0, hz1, hz2⟩ := info_parts info_tok3
  have q54 : ∀ (w : World) (a : Option Addr) (n c n' c' : Nat), (binOp .eql 22 (.slice a n c) (.slice none n' c')).run Try.prog w = .ok (.bool a.isNone) w := fun w a n c n' c' => Lib.run_eql_slice_nil w _ _ a n c n' c' Try.underlying22
  go_enter Try.func40, Try.ntmps40
  go_wp2_with (at_builtin; refine wpList_append_own _ rfl _ _ 22 rfl w.heap.size 43 i0 (.agg #[.int .u8 0, .int .i64 0, .int .i64 0]) 3 24 Try.underlying22 hi hz0 hz1 hz2 rfl (by decide) _ _ _ rfl (World.ownsRow_made w #[] 0 (Nat.le_refl _) (Nat.zero_le _) rfl) a 0 cap [] rfl ?qc1 ?qc2 ?qc3 ?qc4 ?qc5 ?qc6 ?_)
  case qc1 => rfl
  case qc2 => intro j u hj; simp at hj
  case qc3 => intro u hu; cases hu
  case qc4 => unfold maxLen; omega
  case qc5 => omega
  case qc6 => simp
  intro v' w1 hown hgrow hnil
  go_wp2
  go_ret
  obtain ⟨A2, c2, rfl⟩ := row_slice' hown
  refine ⟨A2, c2, by simp, ?_⟩
  exact ((Below.refl _ w).alloc (Nat.le_refl _) _).grown hgrow (by simp) (by intro k hk; simp [Value.ownBlock] at hk; omega)
set_option maxHeartbeats 4000000 in
theorem split_zero (A : Option Addr) (cap : Nat) (w : World) :
    Calls Try.prog 15 #[.slice A 0 cap] w fun e w' => e = .returned (.slice none 0 0) ∧ Below w.heap.size w w' := by
  have HC : Hid (Calls Try.prog 40 #[.slice A 0 cap] w fun e w' => ∃ A2 c2, e = .returned (.slice A2 0 c2) ∧ Below w.heap.size w w') := by
    show Calls _ _ _ _ _
    cases A with
    | none =>
      refine (clone_none 0 cap w).mono ?_
      rintro e w' ⟨rfl, rfl⟩
      exact ⟨none, 0, rfl, Below.refl _ _⟩
    | some a => exact clone_zero a cap w
  go_enter Try.func15, Try.ntmps15
  go_wp2_with fail
  (with_reducible refine (HC.out).mono ?_); rintro e w1 ⟨A2, c2, rfl, hb1⟩
  have HB1 := Lib.hid hb1
  clear hb1
  go_wp2_with fail
  go_loopw [4, 5, 6, 13] (fun v4 v5 v6 i wr => v4 = .slice none 0 0 ∧ v5 = .int .i64 0 ∧ v6 = .int .i64 0 ∧ i = .int .i64 0 ∧ wr = w1) (fun _ _ _ _ _ => 0)
  case atStart => exact ⟨rfl, rfl, rfl, rfl, rfl⟩
  case round =>
    obtain ⟨rfl, rfl, rfl, rfl, rfl⟩ := hrel
    go_wp2_with fail
    go_ret
    exact ⟨rfl, HB1.out⟩
theorem own_cell1 {w : World} {B n : Nat} {e : TypeId} {v : Value} {xs : List Value} (h : w.ownsRow B e 1 v n xs) (h0 : 0 < n) : ∃ b c, v = .slice (some ⟨b, 0, none⟩) n c ∧ b < w.heap.size ∧ ∀ i u, xs[i]? = some u → w.cell? ⟨b, i, none⟩ = some u := by
  rcases h.2 with ⟨_, h1⟩ | ⟨g, cap, cur, h1, _, h3, _, _, _, h7⟩
  · omega
  · refine ⟨g, cap, h1, lt_of_heap h3, fun i u hu => ?_⟩
    rw [cell_of_row _ _ i _ _ _ h3]
    rw [← h7, List.getElem?_take] at hu
    split at hu
    · simpa using hu
    · cases hu
/-- The parts as a row of slices over the tokens at block g. -/
def PRow (w : World) (A : Option Addr) (P : List (Nat × Nat)) (g : Nat) : Prop := 0 < P.length → ∃ b, A = some ⟨b, 0, none⟩ ∧ b < w.heap.size ∧ ∀ i, i < P.length → w.cell? ⟨b, i, none⟩ = some (partV g (P.getD i (0, 0)))
theorem PRow.below {w w' : World} {B : Nat} {A : Option Addr} {P : List (Nat × Nat)} {g : Nat} (h : PRow w A P g) (hB : w.heap.size ≤ B) (hb : Below B w w') : PRow w' A P g := fun h0 => by
  obtain ⟨b, e, hlt, hc⟩ := h h0
  exact ⟨b, e, Nat.lt_of_lt_of_le hlt hb.size, fun i hi => (hb.cell (p := ⟨b, i, none⟩) (Nat.lt_of_lt_of_le hlt hB)).trans (hc i hi)⟩
/-- Split, of any tokens. -/
theorem split_any (A : Option Addr) (n cap : Nat) (f : Nat → Tok) (w : World) (hT : Toks w A n f) (hn : n ≤ 100000) :
    Calls Try.prog 15 #[.slice A n cap] w fun e w' => ∃ g A2 c2, e = .returned (.slice A2 (partsOf f n).length c2) ∧ PRow w' A2 (partsOf f n) g ∧ Toks w' (some ⟨g, 0, none⟩) n f ∧ Below w.heap.size w w' := by
  by_cases h0 : n = 0
  · subst h0
    refine (split_zero A cap w).mono ?_
    rintro e w' ⟨rfl, hb⟩
    exact ⟨0, none, 0, rfl, fun h => absurd h (by simp [partsOf]), fun h => by omega, hb⟩
  · obtain ⟨b, off, rfl, _, _⟩ := hT (by omega)
    refine (split_some b off n cap f w hT (by omega) hn).mono ?_
    rintro e w' ⟨g, B, A2, c2, _, rfl, hown, ht, hb⟩
    have hP : partsOf f n = (spl f n).1 ++ [((spl f n).2.1, n)] := if_neg h0
    have hL : (partsOf f n).length = (spl f n).1.length + 1 := by rw [hP, List.length_append]; rfl
    refine ⟨g, A2, c2, by rw [hL], fun _ => ?_, ht, hb⟩
    obtain ⟨b2, c3, e3, hlt, hc⟩ := own_cell1 hown (by omega)
    injection e3 with e3 _ _
    refine ⟨b2, e3, hlt, fun i hi => hc i _ ?_⟩
    rw [← hP, List.getElem?_map, List.getD_eq_getElem?_getD, List.getElem?_eq_getElem hi]
    rfl
theorem follow_at : ∀ (P : List (Nat × Nat)) (x k : Nat), follow P x → k < P.length → (P.getD k (0, 0)).1 = endsAt (P.take k) x ∧ endsAt (P.take (k + 1)) x = (P.getD k (0, 0)).2
  | [], _, k, _, h => absurd h (Nat.not_lt_zero k)
  | p :: ps, x, 0, hf, _ => ⟨hf.1, rfl⟩
  | p :: ps, x, k + 1, hf, h => by
    have := follow_at ps p.2 k hf.2 (by simpa using h)
    simpa [endsAt] using this

/-! ## More tokens -/
def moreT (f : Nat → Tok) (n m : Nat) (i : Nat) : Tok := if i < n then f i else if i < n + m then ⟨0, 0, 0⟩ else ⟨0, 258, 1⟩
theorem tokCells_ext {f h : Nat → Tok} : ∀ n, (∀ i, i < n → f i = h i) → tokCells f n = tokCells h n
  | 0, _ => rfl
  | n + 1, e => by
    show tokCells f n ++ cellT (f n) = tokCells h n ++ cellT (h n)
    rw [tokCells_ext n fun i hi => e i (by omega), e n (by omega)]
theorem zeroC_succ (z : Array Value) (hz : z.size = 3) (n : Nat) : (Builtin.zeroCells z (n + 1)).toList = (Builtin.zeroCells z n).toList ++ [z[0]!, z[1]!, z[2]!] := by
  simp only [Builtin.zeroCells, hz, Array.toList_map, Array.toList_range]
  rw [show (n + 1) * 3 = n * 3 + 1 + 1 + 1 by omega, List.range_succ, List.range_succ, List.range_succ]
  simp only [List.map_append, List.map_cons, List.map_nil, List.append_assoc, List.cons_append, List.nil_append]
  rw [show n * 3 % 3 = 0 by omega, show (n * 3 + 1) % 3 = 1 by omega, show (n * 3 + 1 + 1) % 3 = 2 by omega]
theorem zeroC_toks (f : Nat → Tok) (n : Nat) : ∀ m, tokCells f n ++ (Builtin.zeroCells #[Value.int .u8 0, .int .i64 0, .int .i64 0] m).toList = tokCells (moreT f n m) (n + m)
  | 0 => by
    have e := tokCells_ext n (f := moreT f n 0) (h := f) (fun i hi => by unfold moreT; rw [if_pos hi])
    simp [Builtin.zeroCells, e]
  | m + 1 => by
    rw [zeroC_succ _ rfl, ← List.append_assoc, zeroC_toks f n m]
    show _ = tokCells (moreT f n (m + 1)) (n + m) ++ cellT (moreT f n (m + 1) (n + m))
    rw [tokCells_ext (n + m) (f := moreT f n (m + 1)) (h := moreT f n m) (fun i hi => by unfold moreT; rw [if_pos (show i < n + m by omega), if_pos (show i < n + (m + 1) by omega)])]
    congr 1
    unfold moreT
    rw [if_neg (by omega), if_pos (by omega)]
    rfl
theorem moreT_ok {f : Nat → Tok} {n m : Nat} (h : ∀ i, i < n → TokOk (f i)) (i : Nat) : TokOk (moreT f n m i) := by
  unfold moreT
  by_cases h1 : i < n
  · rw [if_pos h1]; exact h i h1
  · rw [if_neg h1]
    split
    · unfold TokOk; simp
    · unfold TokOk; simp
theorem moreT_copy (f : Nat → Tok) (n m k : Nat) : moreT f n m (n + m + k) = ⟨0, 258, 1⟩ := by
  unfold moreT
  rw [if_neg (by omega), if_neg (by omega)]
theorem toks_ok {w : World} {A : Option Addr} {n : Nat} {f : Nat → Tok} (h : Toks w A n f) (i : Nat) (hi : i < n) : TokOk (f i) := by
  obtain ⟨_, _, _, _, hc⟩ := h (by omega)
  exact (hc i hi).1
/-- Where the run of 'append(tokens[:n:n], make(..)...)' leads. -/
theorem run_more (A : Option Addr) (n m : Nat) (f : Nat → Tok) (w : World) (hT : Toks w A n f) (hn : n ≤ 400) (hm1 : 1 ≤ m) (hm : m ≤ 9000) :
    ∃ v w1, (∀ ty, (Builtin.append_ #[22, 3] ty #[.slice A n n, .int .i64 (m : Nat)]).run Try.prog w = .ok v w1) ∧
      w1.ownsRow w.heap.size 43 3 v (n + m) (tokCells (moreT f n m) (n + m)) ∧ Below w.heap.size w w1 := by
  obtain ⟨i0, hi, hz0, hz1, hz2⟩ := info_parts info_tok3
  have hold : (Builtin.firstCells i0.size n (.slice A n n)).run Try.prog w.drew = .ok (tokCells f n).toArray w.drew := by
    rw [hz1]
    cases A with
    | none =>
      have : n = 0 := by
        rcases Nat.eq_zero_or_pos n with h | h
        · exact h
        · obtain ⟨_, _, e, _⟩ := hT h; cases e
      subst this
      exact run_firstCells_none w.drew 3 0 0 0
    | some a =>
      refine run_firstCells_some (w := w.drew) 3 n a n n (tokCells f n) (tokCells_len f n) ?_
      by_cases h0 : n = 0
      · subst h0; intro j v hj; simp [tokCells] at hj
      · obtain ⟨b, off, e, _, _⟩ := hT (by omega)
        injection e with e
        subst e
        exact toks_cells hT
  have h := fun ty => Lib.run_append_grow_zeros w 22 3 ty 43 i0 (.agg #[.int .u8 0, .int .i64 0, .int .i64 0]) .i64 .i64 Try.underlying22 Try.underlying3 hi hz0 A n n (tokCells f n) hold m (by omega) (by omega) (by omega) (by omega) (by rw [hz2]; omega) (growslice_fits (by omega) (by rw [hz2]; omega))
  refine ⟨_, _, h, ?_, ((Below.refl _ _).drew.alloc (Nat.le_refl _) _)⟩
  have hGn : n + m ≤ grownCap w (n + m) n 43 := grownCap_ge w _ _ _
  have hGm := grownCap_le_maxLen w (n + m) n 43 (by unfold maxLen; omega)
  generalize grownCap w (n + m) n 43 = G at *
  have hzc : (Value.agg #[.int .u8 0, .int .i64 0, .int .i64 0]).cells = #[Value.int .u8 0, .int .i64 0, .int .i64 0] := rfl
  rw [hzc]
  refine ⟨tokCells_len _ _, .inr ⟨w.heap.size, G, _, rfl, Nat.le_refl _, heap_alloc_new w.drew _, hGn, hGm, ?_, ?_⟩⟩
  · rw [Array.size_append, Array.size_append]
    have e1 : ∀ k, (Builtin.zeroCells #[Value.int .u8 0, .int .i64 0, .int .i64 0] k).size = k * 3 := fun k => by simp [Builtin.zeroCells]
    rw [e1, e1, List.size_toArray, tokCells_len]
    omega
  · rw [Array.toList_append, Array.toList_append, zeroC_toks f n m]
    exact List.take_left' (tokCells_len _ _)
end Go.Proofs.Ytfhbkidceombbaa
