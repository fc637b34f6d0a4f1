/-
  Contracts: a stored block.
-/
import Derived.Test.YtbgclbnbnpnolaaInfE
namespace Go.Proofs.Ytbgclbnbnpnolaa
set_option maxRecDepth 100000
open Go.RowKit Go.Deep Go.Joins

section
variable {P : Program} (w : World)
/-- A string's bytes put behind a row of the call's own, in a region. -/
theorem step_append_str {ops : Array Oper} {o : Oper} {a : Act} {K : Act → World → Prop} {Q : Exit → Act → World → Prop} {E : Prop} (hgd : o.guard = none) (sl x : Operand) (t u : TypeId)
    (ho : o.op = .call { callee := .builtin .append, args := #[sl, x], argTypes := #[t, u] })
    (base : Nat) (e : TypeId) (i : TypeInfo) (ht : P.underlying t = some (.slice e)) (hu : P.underlying u = some .string) (hi : P.info? e = some i) (hz : i.zero = some (.int .u8 0))
    (hsize : i.size = 1) (hby : i.bytes = 1) (v : Value) (n : Nat) (xs : List Value) (hs : a.eval sl = v) (hown : w.ownsRow base e 1 v n xs) (s : ByteArray) (hx : a.eval x = .string s)
    (h63 : n + s.size ≤ maxLen) (hbytes : n + s.size ≤ 140737488355328) (hbase : base ≤ w.heap.size)
    (h : ∀ A c w', w'.ownsRow base e 1 (.slice A (n + s.size) c) (n + s.size) (xs ++ Lib.strCells s) → w.grownBy w' v.ownBlock → ((Value.slice A (n + s.size) c).ownBlock = v.ownBlock ∨ (Value.slice A (n + s.size) c).ownBlock = some w.heap.size) → K (a.put o.dst (.slice A (n + s.size) c)) w') :
    if Region.wanted o (yielded ops a.tmps) = true then Oper.wp P o a w K Q else E := by
  have hw : Region.wanted o (yielded ops a.tmps) = true := by simp [Region.wanted, hgd]
  rw [if_pos hw]
  obtain ⟨v', w', hr, h2, h3, h4⟩ := run_append_str_at (P := P) w base t u o.type e i ht hu hi hz hsize hby v n xs hown s h63 hbytes hbase
  obtain ⟨A, c, rfl⟩ := row_slice h2
  simp only [Oper.wp, execOp, ho, resolve, invoke, builtin, Sem.run_bind, Sem.run_pure, Result.andThen_ok, List.map_toArray, List.map_cons, List.map_nil, hs, hx, hr]
  exact h A c w' h2 h3 h4
end
theorem byte_bits (s : ByteArray) (k : Nat) (h : k < s.size) : bitsAt (num s) (8 * k) 8 = s[k].toNat := by
  have hg := numL_get _ (nums_lt s) k _ (nums_get s k h)
  unfold bitsAt
  rw [show (2 : Nat) ^ (8 * k) = 256 ^ k from (p256 k).symm]
  exact hg
theorem nums_extract (s : ByteArray) (f n : Nat) (h : f + n ≤ s.size) : nums (s.extract f (f + n)) = bytesAt (num s) (8 * f) n := by
  induction n with
  | zero =>
    rw [bytesAt]
    unfold nums
    rw [ByteArray.data_extract, Array.toList_extract, List.extract_eq_take_drop]
    simp
  | succ n ih =>
    rw [bytesAt, ← ih (by omega), show 8 * f + 8 * n = 8 * (f + n) by omega, byte_bits s (f + n) (by omega)]
    unfold nums
    rw [ByteArray.data_extract, ByteArray.data_extract, Array.toList_extract, Array.toList_extract, List.extract_eq_take_drop, List.extract_eq_take_drop, show f + (n + 1) - f = n + 1 by omega, show f + n - f = n by omega]
    rw [List.take_succ_eq_append_getElem (by simp; omega), List.map_append]
    simp
    rfl
theorem bytes_ok (g : Nat) (s : ByteArray) (a n : Nat) (hs : s.size ≤ 1000000) (h8 : a % 8 = 0) (h : a + 8 * n ≤ 8 * s.size) (w : World) (hc : Rd 81 w g s a 0) :
    Calls Try.prog 63 #[.pointer (some ⟨g, 0, none⟩), .int .i64 n] w fun r w' => (r = .returned (.string (s.extract (a / 8) (a / 8 + n))) ∧ Rd 81 w' g s (a + 8 * n) 0 ∧ w.grownBy w' (some g)) := by
  have hA : alignA a 0 = a := by unfold alignA; rw [if_pos rfl]; omega
  have hm : mayB s a 0 (n : Nat) = true := decide_eq_true ⟨rfl, by omega, by omega⟩
  have e1 : pieceB s a 0 (n : Nat) = s.extract (a / 8) (a / 8 + n) := by unfold pieceB; rw [if_pos hm]; simp
  have e2 : bytA s a 0 (n : Nat) = a + 8 * n := by unfold bytA; rw [if_pos hm]; simp
  have e3 : bytE s a 0 (n : Nat) = 0 := by unfold bytE; rw [if_neg (by omega), if_neg (by omega), if_pos (by omega)]
  have := bytes_any g s a 0 (n : Nat) hs (by omega) w hc
  rwa [hA, e1, e2, e3] at this
theorem bytes_short (g : Nat) (s : ByteArray) (a n : Nat) (hs : s.size ≤ 1000000) (ha : a ≤ 8 * s.size) (h8 : a % 8 = 0) (h : 8 * s.size < a + 8 * n) (w : World) (hc : Rd 81 w g s a 0) :
    Calls Try.prog 63 #[.pointer (some ⟨g, 0, none⟩), .int .i64 n] w fun r w' => (r = .returned (.string ⟨#[]⟩) ∧ Rd 81 w' g s a 3 ∧ w.grownBy w' (some g)) := by
  have hA : alignA a 0 = a := by unfold alignA; rw [if_pos rfl]; omega
  have hm : ¬ mayB s a 0 (n : Nat) = true := fun h => by
    have := of_decide_eq_true h
    omega
  have e1 : pieceB s a 0 (n : Nat) = ⟨#[]⟩ := by unfold pieceB; rw [if_neg hm]
  have e2 : bytA s a 0 (n : Nat) = a := by unfold bytA; rw [if_neg hm]
  have e3 : bytE s a 0 (n : Nat) = 3 := by unfold bytE; rw [if_neg (by omega), if_neg (by omega), if_neg (by omega)]
  have := bytes_any g s a 0 (n : Nat) hs ha w hc
  rwa [hA, e1, e2, e3] at this
/-- A stream with bytes more. -/
theorem Sm.growL {w w2 : World} {B g gr a lim : Nat} {r : Option Nat} {s : ByteArray} {o l : List Nat} {v v2 p : Value} (h : Sm w B g gr r s a lim o) (hb : w.heap[g]? = some (.cells #[.pointer (some ⟨gr, 0, none⟩), v, .int .i64 (lim : Nat), p] 94 (0, 0)))
    (W : World) (hW : Below w.heap.size w W) (hg : W.grownBy w2 v.ownBlock) (ho : w2.ownsRow B 5 1 v2 (o.length + l.length) (cells8 o ++ cells8 l)) (hx : ∀ x ∈ l, x < 256) (hl : o.length + l.length ≤ lim) (hat : v2.ownBlock = v.ownBlock ∨ ∃ j, v2.ownBlock = some j ∧ w.heap.size ≤ j) :
    Sm (w2.setCell ⟨g, 1, none⟩ v2) B g gr v2.ownBlock s a lim (o ++ l) ∧ UpS g gr r v2.ownBlock w (w2.setCell ⟨g, 1, none⟩ v2) := by
  have hSm := h
  obtain ⟨v', p', hb', ho', hv, hR, hfx, h1, h2, h3, h4, h5⟩ := h
  rw [hb] at hb'
  simp at hb'
  obtain ⟨rfl, rfl⟩ := hb'
  have hne : v.ownBlock ≠ some g := row_ne (by decide) ho' hb
  have hner : v.ownBlock ≠ some gr := row_ne (by decide) ho' hR
  have hgs := lt_of_heap hb
  have hb2 : w2.heap[g]? = some (.cells #[.pointer (some ⟨gr, 0, none⟩), v, .int .i64 (lim : Nat), p] 94 (0, 0)) := (hg.block g (Nat.lt_of_lt_of_le hgs hW.size) (fun e => hne e.symm)).trans ((hW.block g hgs).trans hb)
  have hR2 : Rd 81 w2 gr s a 0 := (hg.block gr (Nat.lt_of_lt_of_le hR.lt hW.size) (fun e => hner e.symm)).trans ((hW.block gr hR.lt).trans hR)
  have hne2 : v2.ownBlock ≠ some g := row_ne (by decide) ho hb2
  have hgr : g ≠ gr := blk_ne hb hR (by decide)
  have hb3 := heap_setCell_same w2 g 1 _ _ v2 hb2
  have hU : UpS g gr r v2.ownBlock w (w2.setCell ⟨g, 1, none⟩ v2) := by
    refine ⟨((kept_below hW).then (kept_grown hg) (fun i _ e => ?_)).then (kept_set w2 g 1 _) (fun i _ e => .inl e), ?_⟩
    · rw [hv] at e
      exact .inr (.inr e)
    · rcases hat with e | ⟨j, e, hj⟩
      · exact .inl (e.trans hv)
      · exact .inr ⟨j, e, hj⟩
  refine ⟨⟨v2, p, hb3, ?_, rfl, (Below.heap_setCell _ _ _ _ (Ne.symm hgr)).trans hR2, hfx.far (hU.far hSm), h1, h2, by simpa using hl, h4, ?_⟩, hU⟩
  · rw [List.length_append, cells8_app]
    exact row_kept ho fun b hb => Below.heap_setCell _ _ _ _ (fun e => hne2 (by rw [hb, e]))
  · intro y hy
    rw [List.mem_append] at hy
    rcases hy with hy | hy
    · exact h5 y hy
    · exact hx y hy
theorem ups_store {w w2 : World} {g gr : Nat} {r : Option Nat} {v v2 : Value} (hv : v.ownBlock = r) (hg : w.grownBy w2 v.ownBlock) (hat : v2.ownBlock = v.ownBlock ∨ v2.ownBlock = some w.heap.size) : UpS g gr r v2.ownBlock w (w2.setCell ⟨g, 1, none⟩ v2) := by
  refine ⟨((kept_grown hg).more (S' := fun i => i = g ∨ i = gr ∨ some i = r) (fun i e => .inr (.inr (by rw [e, hv])))).then (kept_set w2 g 1 _) (fun i _ e => .inl e), ?_⟩
  · rcases hat with e | e
    · exact .inl (e.trans hv)
    · exact .inr ⟨_, e, Nat.le_refl _⟩
end Go.Proofs.Ytbgclbnbnpnolaa
