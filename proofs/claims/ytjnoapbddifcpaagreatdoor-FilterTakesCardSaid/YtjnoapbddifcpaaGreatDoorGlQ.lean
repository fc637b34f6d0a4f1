/-
  Glob, the document's side: Compile.
-/
import Derived.Test.YtjnoapbddifcpaaGreatDoorGlP
import Derived.Maps.AppendAt
import Derived.Laws.OwnMore
import Derived.Deep.DeepMust
namespace Go.Proofs.YtjnoapbddifcpaaGreatDoor
set_option maxRecDepth 100000
set_option linter.unusedSimpArgs false
open Go.RowKit Go.Joins Go.Deep

def cellsB : List (Atm × Value) → List Value
  | [] => []
  | q :: l => .int .i64 q.1.k :: .int .i64 q.1.r :: .bool q.1.n :: q.2 :: cellsB l
theorem cellsB_app (l m : List (Atm × Value)) : cellsB (l ++ m) = cellsB l ++ cellsB m := by
  induction l with
  | nil => rfl
  | cons x l ih => simp only [List.cons_append, cellsB, ih]
theorem cellsB_get : ∀ (l : List (Atm × Value)) (i : Nat) (q : Atm × Value), l[i]? = some q → (cellsB l)[i * 4]? = some (.int .i64 q.1.k) ∧ (cellsB l)[i * 4 + 1]? = some (.int .i64 q.1.r) ∧ (cellsB l)[i * 4 + 2]? = some (.bool q.1.n) ∧ (cellsB l)[i * 4 + 3]? = some q.2
  | x :: l, 0, q, h => by
    obtain rfl : x = q := by simpa using h
    exact ⟨rfl, rfl, rfl, rfl⟩
  | x :: l, i + 1, q, h => by
    have := cellsB_get l i q (by simpa using h)
    rw [show (i + 1) * 4 = i * 4 + 4 by omega, show i * 4 + 4 + 1 = i * 4 + 1 + 4 by omega, show i * 4 + 4 + 2 = i * 4 + 2 + 4 by omega, show i * 4 + 4 + 3 = i * 4 + 3 + 4 by omega]
    simpa [cellsB] using this
/-- A row of the document's pairs, with its block. -/
def RgI (w : World) (A : Option Addr) (l : List (Int × Int)) : Prop := 0 < l.length → ∃ (b : Nat) (cs : Array Value), A = some ⟨b, 0, none⟩ ∧ w.heap[b]? = some (.cells cs 107 (0, 0)) ∧ ∀ (i : Nat) (u : Value), (cellsP .i64 l)[i]? = some u → cs[i]? = some u
theorem RgI.keep {w w' : World} {A : Option Addr} {l : List (Int × Int)} (h : RgI w A l) (hk : ∀ (b : Nat) (cs : Array Value), w.heap[b]? = some (Obj.cells cs 107 (0, 0)) → w'.heap[b]? = w.heap[b]?) : RgI w' A l := fun h0 => by
  obtain ⟨b, cs, e, hb, hc⟩ := h h0
  exact ⟨b, cs, e, (hk b cs hb).trans hb, hc⟩
theorem RgI.below {w w' : World} {A : Option Addr} {l : List (Int × Int)} (h : RgI w A l) (hb : Below w.heap.size w w') : RgI w' A l := h.keep fun b _ hx => hb.block b (lt_of_block hx)
theorem RgI.set {w : World} {A : Option Addr} {l : List (Int × Int)} (h : RgI w A l) {g i : Nat} {cs : Array Value} {T : TypeId} (hg : w.heap[g]? = some (.cells cs T (0, 0))) (hT : T ≠ 107) (v : Value) : RgI (w.setCell ⟨g, i, none⟩ v) A l := h.keep fun b cs' hx => heap_setCell_other w ⟨g, i, none⟩ b v (fun e => by
  have e' : b = g := e
  subst e'
  rw [hg] at hx
  injection hx with hx
  injection hx with _ hx _
  exact hT hx)
theorem RgI.rgs {w : World} {A : Option Addr} {l : List (Int × Int)} (h : RgI w A l) : Rgs w .i64 A l := fun h0 => by
  obtain ⟨b, cs, e, hb, hc⟩ := h h0
  refine ⟨b, 0, e, lt_of_block hb, fun i hi => ?_⟩
  obtain ⟨g1, g2⟩ := cellsP_get .i64 l i hi
  rw [Nat.zero_add]
  exact ⟨(cell_of_row _ _ _ _ _ _ hb).trans (hc _ _ g1), (cell_of_row _ _ _ _ _ _ hb).trans (hc _ _ g2)⟩
theorem rgi_of_own {w : World} {B c : Nat} {A : Option Addr} {l : List (Int × Int)} (h : w.ownsRow B 107 2 (.slice A l.length c) l.length (cellsP .i64 l)) : RgI w A l := fun h0 => by
  rcases h.2 with ⟨_, h1⟩ | ⟨g, cap, cur, h1, _, h3, _, _, _, h7⟩
  · omega
  · injection h1 with h1 _ _
    refine ⟨g, cur, h1, h3, fun i u hu => ?_⟩
    rw [← h7, List.getElem?_take] at hu
    split at hu
    · simpa using hu
    · cases hu
theorem RgI.grow {w w' : World} {A : Option Addr} {l : List (Int × Int)} (h : RgI w A l) {B n z : Nat} {v : Value} {xs : List Value} {T : TypeId} (ho : w.ownsRow B T z v n xs) (hT : T ≠ 107) (hg : w.grownBy w' v.ownBlock) : RgI w' A l := h.keep fun b cs hx => hg.block b (lt_of_block hx) (fun e => by
  rcases ho.2 with ⟨h1, _⟩ | ⟨g, cap, cur, h1, _, h3, _⟩
  · rw [h1] at e; cases e
  · rw [h1] at e
    injection e with e
    have e' : b = g := e
    subst e'
    rw [h3] at hx
    injection hx with hx
    injection hx with _ hx _
    exact hT hx)

def AtmW (w : World) (x : Atm) (V : Value) : Prop := ∃ A c, V = .slice A x.rs.length c ∧ RgI w A x.rs
theorem AtmW.below {w w' : World} {x : Atm} {V : Value} (h : AtmW w x V) (hb : Below w.heap.size w w') : AtmW w' x V := by
  obtain ⟨A, c, e, hr⟩ := h
  exact ⟨A, c, e, hr.below hb⟩
theorem atmW_nil (w : World) (k r : Int) (n : Bool) : AtmW w ⟨k, r, n, []⟩ (.slice none 0 0) := ⟨none, 0, rfl, fun h => absurd (show (0 : Nat) < 0 from h) (by decide)⟩
/-- What Compile's outer loop keeps. -/
structure RSt (w1 wr : World) (V : Value) (qs : List (Atm × Value)) : Prop where
  o : wr.ownsRow w1.heap.size 104 4 V qs.length (cellsB qs)
  r : ∀ q ∈ qs, AtmW wr q.1 q.2
  b : Below w1.heap.size w1 wr
theorem RSt.next {w1 wr wx : World} {V : Value} {qs : List (Atm × Value)} (h : RSt w1 wr V qs) (hb : Below wr.heap.size wr wx) : RSt w1 wx V qs :=
  ⟨own_below' h.o hb, fun q hq => (h.r q hq).below hb, below_then h.b hb⟩
theorem RSt.push {w1 w7 w8 : World} {V v' vx : Value} {qs : List (Atm × Value)} {x : Atm} (h : RSt w1 w7 V qs) (ho : w8.ownsRow w1.heap.size 104 4 v' (qs.length + 1) (cellsB qs ++ [.int .i64 x.k, .int .i64 x.r, .bool x.n, vx])) (hg : w7.grownBy w8 V.ownBlock) (hx : AtmW w7 x vx) : RSt w1 w8 v' (qs ++ [(x, vx)]) := by
  refine ⟨?_, fun q hq => ?_, h.b.grown hg h.b.size (fun q hq => (h.o.lt q hq).1)⟩
  · rw [cellsB_app, List.length_append]
    exact ho
  · have key : ∀ (y : Atm) (v : Value), AtmW w7 y v → AtmW w8 y v := fun y v hq => by
      obtain ⟨Aq, cq, e, hrq⟩ := hq
      exact ⟨Aq, cq, e, hrq.grow h.o (by decide) hg⟩
    rcases List.mem_append.1 hq with hq | hq
    · exact key _ _ (h.r q hq)
    · obtain rfl : q = (x, vx) := by simpa using hq
      exact key _ _ hx
/-- What the set's loop keeps. -/
structure RSet (ws wr : World) (nt : Bool) (V : Value) (rs : List (Nat × Nat)) : Prop where
  a : wr.heap[ws.heap.size]? = some (.cells #[.int .i64 4, .int .i64 0, .bool nt, V] 104 (0, 0))
  o : wr.ownsRow (ws.heap.size + 1) 107 2 V rs.length (cellsP .i64 (rgI rs))
  b : Below ws.heap.size ws wr
  s : ws.heap.size + 1 ≤ wr.heap.size
theorem RSet.next {ws wr wx : World} {nt : Bool} {V : Value} {rs : List (Nat × Nat)} (h : RSet ws wr nt V rs) (hb : Below wr.heap.size wr wx) : RSet ws wx nt V rs :=
  ⟨(hb.block _ (lt_of_block h.a)).trans h.a, own_below' h.o hb, below_then h.b hb, Nat.le_trans h.s hb.size⟩
theorem zero_ratom (w : World) : (zeroValue 104).run Tryz.prog w = .ok (.agg #[.int .i64 0, .int .i64 0, .bool false, .slice none 0 0]) w := by kernel_rfl
theorem zero_pair (w : World) : (zeroValue 107).run Tryz.prog w = .ok (.agg #[.int .i64 0, .int .i64 0]) w := by kernel_rfl
theorem parts_ratom : (Tryz.prog.info? 104).map (fun i => (i.zero, i.size, i.bytes)) = some (some (.agg #[.int .i64 0, .int .i64 0, .bool false, .slice none 0 0]), 4, 48) := by kernel_rfl
theorem parts_pair : (Tryz.prog.info? 107).map (fun i => (i.zero, i.size, i.bytes)) = some (some (.agg #[.int .i64 0, .int .i64 0]), 2, 16) := by kernel_rfl
/-! ### An atom from a place on -/
theorem drop_getD (l : List Nat) (a i : Nat) : (l.drop a).getD i 0 = l.getD (a + i) 0 := by
  rw [List.getD_eq_getElem?_getD, List.getElem?_drop, ← List.getD_eq_getElem?_getD]
theorem atom_star {l : List Nat} {a : Nat} (h : l.getD a 0 = 42) : atomF (l.drop a) = some (⟨3, 0, false, []⟩, 1) := by
  unfold atomF; rw [drop_getD, Nat.add_zero, if_pos h]
theorem atom_any1 {l : List Nat} {a : Nat} (h : l.getD a 0 = 63) : atomF (l.drop a) = some (⟨2, 0, false, []⟩, 1) := by
  unfold atomF; rw [drop_getD, Nat.add_zero, if_neg (by omega), if_pos h]
theorem atom_esc {l : List Nat} {a : Nat} (h0 : a < l.length) (h : l.getD a 0 = 92) : atomF (l.drop a) = if a + 1 < l.length then some (⟨1, (l.getD (a + 1) 0 : Nat), false, []⟩, 2) else none := by
  obtain ⟨p1, _, _⟩ := plain_at l a
  obtain ⟨q1, q2⟩ := p1 ⟨h0, h⟩
  unfold atomF
  rw [drop_getD, Nat.add_zero, if_neg (by omega), if_neg (by omega), if_neg (by omega)]
  by_cases h1 : a + 1 < l.length
  · rw [q1 h1, if_pos h1]; rfl
  · rw [q2 h1, if_neg h1]; rfl
theorem atom_set {l : List Nat} {a : Nat} (h : l.getD a 0 = 91) : atomF (l.drop a) = (setF (l.drop (a + 1)) (if notF (l.drop (a + 1)) 0 = true then 1 else 0) []).map fun p => (⟨4, 0, notF (l.drop (a + 1)) 0, rgI p.1⟩, p.2 + 1) := by
  unfold atomF
  rw [drop_getD, Nat.add_zero, if_neg (by omega), if_neg (by omega), if_pos h, List.drop_drop]
theorem atom_else {l : List Nat} {a : Nat} (h0 : a < l.length) (h1 : l.getD a 0 ≠ 42) (h2 : l.getD a 0 ≠ 63) (h3 : l.getD a 0 ≠ 92) (h4 : l.getD a 0 ≠ 91) : atomF (l.drop a) = some (⟨1, (l.getD a 0 : Nat), false, []⟩, 1) := by
  obtain ⟨_, p2, _⟩ := plain_at l a
  unfold atomF
  rw [drop_getD, Nat.add_zero, if_neg h1, if_neg h2, if_neg h4, p2 h0 h3]
  rfl
theorem span_none {l : List Nat} {p : Nat} (h : (plainF (l.drop p)).2 = 0) : (spanF (l.drop p)).2 = 0 := by
  unfold spanF; rw [if_pos h]
theorem span_lone {l : List Nat} {p : Nat} (h : (plainF (l.drop p)).2 ≠ 0) (hc : ¬ (p + (plainF (l.drop p)).2 + 1 < l.length ∧ l.getD (p + (plainF (l.drop p)).2) 0 = 45 ∧ l.getD (p + (plainF (l.drop p)).2 + 1) 0 ≠ 93)) : spanF (l.drop p) = (((plainF (l.drop p)).1, (plainF (l.drop p)).1), (plainF (l.drop p)).2) := by
  unfold spanF
  rw [if_neg h, if_pos]
  rw [List.drop_drop, List.length_drop, drop_getD, drop_getD]
  by_cases h1 : l.length - (p + (plainF (l.drop p)).2) < 2
  · exact .inl h1
  by_cases h2 : l.getD (p + (plainF (l.drop p)).2 + 0) 0 ≠ 45
  · exact .inr (.inl h2)
  · refine .inr (.inr ?_)
    rw [Nat.add_zero] at h2
    by_cases h3 : l.getD (p + (plainF (l.drop p)).2 + 1) 0 = 93
    · exact h3
    · exact absurd ⟨by omega, by omega, h3⟩ hc
theorem span_two {l : List Nat} {p : Nat} (h : (plainF (l.drop p)).2 ≠ 0) (hc : p + (plainF (l.drop p)).2 + 1 < l.length ∧ l.getD (p + (plainF (l.drop p)).2) 0 = 45 ∧ l.getD (p + (plainF (l.drop p)).2 + 1) 0 ≠ 93) : spanF (l.drop p) = if (plainF (l.drop (p + (plainF (l.drop p)).2 + 1))).2 = 0 ∨ (plainF (l.drop (p + (plainF (l.drop p)).2 + 1))).1 < (plainF (l.drop p)).1 then ((0, 0), 0) else (((plainF (l.drop p)).1, (plainF (l.drop (p + (plainF (l.drop p)).2 + 1))).1), (plainF (l.drop p)).2 + 1 + (plainF (l.drop (p + (plainF (l.drop p)).2 + 1))).2) := by
  obtain ⟨c1, c2, c3⟩ := hc
  conv => lhs; unfold spanF
  rw [if_neg h, if_neg, List.drop_drop, ← Nat.add_assoc]
  rw [List.drop_drop, List.length_drop, drop_getD, drop_getD, Nat.add_zero]
  rintro (h1 | h1 | h1)
  · omega
  · exact h1 c2
  · exact c3 h1
/-- Atoms where they lie, in a block of atoms. -/
def RAtsT (w : World) (A : Option Addr) (ats : List Atm) : Prop := 0 < ats.length → ∃ (b : Nat) (cs : Array Value), A = some ⟨b, 0, none⟩ ∧ w.heap[b]? = some (Obj.cells cs 104 (0, 0)) ∧ ∀ (i : Nat) (x : Atm), ats[i]? = some x → cs[i * 4]? = some (.int .i64 x.k) ∧ cs[i * 4 + 1]? = some (.int .i64 x.r) ∧ cs[i * 4 + 2]? = some (.bool x.n) ∧ ∃ Ai ci, cs[i * 4 + 3]? = some (.slice Ai x.rs.length ci) ∧ RgI w Ai x.rs
theorem own_curD {w : World} {B n c z : Nat} {T : TypeId} {A : Option Addr} {xs : List Value} (h : w.ownsRow B T z (.slice A n c) n xs) (h0 : 0 < n) : ∃ (b : Nat) (cur : Array Value), A = some ⟨b, 0, none⟩ ∧ w.heap[b]? = some (Obj.cells cur T (0, 0)) ∧ ∀ (j : Nat) (u : Value), xs[j]? = some u → cur[j]? = some u := by
  rcases h.2 with ⟨h1, h2⟩ | ⟨g, cap, cur, h1, _, h3, _, _, _, h6⟩
  · omega
  · injection h1 with e1 _ _
    refine ⟨g, cur, e1, h3, fun j u hu => ?_⟩
    rw [← h6, List.getElem?_take] at hu
    rw [← Array.getElem?_toList]
    split at hu
    · exact hu
    · cases hu
theorem ratsT_of_own {w : World} {B c : Nat} {A : Option Addr} {qs : List (Atm × Value)} (h : w.ownsRow B 104 4 (.slice A qs.length c) qs.length (cellsB qs)) (hr : ∀ q ∈ qs, AtmW w q.1 q.2) : RAtsT w A (qs.map (·.1)) := fun h0 => by
  rw [List.length_map] at h0
  obtain ⟨b, cur, e, hb, hc⟩ := own_curD h h0
  refine ⟨b, cur, e, hb, fun i x hx => ?_⟩
  rw [List.getElem?_map] at hx
  obtain ⟨q, hq, rfl⟩ := Option.map_eq_some_iff.1 hx
  obtain ⟨g0, g1, g2, g3⟩ := cellsB_get qs i q hq
  obtain ⟨Ai, ci, e2, hrb⟩ := hr q (List.mem_of_getElem? hq)
  exact ⟨hc _ _ g0, hc _ _ g1, hc _ _ g2, Ai, ci, by rw [← e2]; exact hc _ _ g3, hrb⟩
theorem RAtsT.rats {w : World} {A : Option Addr} {ats : List Atm} (h : RAtsT w A ats) : RAts w A ats := fun h0 => by
  obtain ⟨b, cs, e, hb, hc⟩ := h h0
  refine ⟨b, 0, e, lt_of_block hb, fun i x hx => ?_⟩
  obtain ⟨g0, g1, g2, Ai, ci, g3, hr⟩ := hc i x hx
  rw [Nat.zero_add]
  exact ⟨(cell_of_row _ _ _ _ _ _ hb).trans g0, (cell_of_row _ _ _ _ _ _ hb).trans g1, (cell_of_row _ _ _ _ _ _ hb).trans g2, Ai, ci, (cell_of_row _ _ _ _ _ _ hb).trans g3, hr.rgs⟩
/-- What keeps every block of atoms and of ranges keeps the atoms. -/
theorem RAtsT.keep {w w' : World} {A : Option Addr} {ats : List Atm} (h : RAtsT w A ats) (k1 : ∀ (b : Nat) (cs : Array Value), w.heap[b]? = some (Obj.cells cs 104 (0, 0)) → w'.heap[b]? = w.heap[b]?) (k2 : ∀ (b : Nat) (cs : Array Value), w.heap[b]? = some (Obj.cells cs 107 (0, 0)) → w'.heap[b]? = w.heap[b]?) : RAtsT w' A ats := fun h0 => by
  obtain ⟨b, cs, e, hb, hc⟩ := h h0
  refine ⟨b, cs, e, (k1 b cs hb).trans hb, fun i x hx => ?_⟩
  obtain ⟨g0, g1, g2, Ai, ci, g3, hr⟩ := hc i x hx
  exact ⟨g0, g1, g2, Ai, ci, g3, hr.keep k2⟩
theorem RAtsT.below {w w' : World} {A : Option Addr} {ats : List Atm} (h : RAtsT w A ats) (hb : Below w.heap.size w w') : RAtsT w' A ats := h.keep (fun b _ hx => hb.block b (lt_of_block hx)) (fun b _ hx => hb.block b (lt_of_block hx))
/-- What Compile answers. -/
def RCompR (w : World) (o : Option (List Atm)) (e : Ending) (w' : World) : Prop :=
  (o = none ∧ e = .returned (.tuple #[.slice none 0 0, .int .i64 22]) ∧ Below w.heap.size w w') ∨
  (∃ ats A c, o = some ats ∧ e = .returned (.tuple #[.slice A ats.length c, .int .i64 0]) ∧ RAtsT w' A ats ∧ Below w.heap.size w w')
theorem Ins.cell {w : World} {b off : Nat} {l : List Nat} (h : Ins w (some ⟨b, off, none⟩) l) (i : Nat) (hi : i < l.length) : w.cell? ⟨b, off + i, none⟩ = some (.int .i64 ((l.getD i 0 : Nat) : Int)) := by
  obtain ⟨b', o', e, _, hc⟩ := h (by omega)
  injection e with e
  injection e with e1 e2 _
  subst e1 e2
  exact hc i hi
set_option maxHeartbeats 16000000 in
theorem rcompile_any (s : ByteArray) (hs : s.size ≤ 65535) (w : World) :
    Calls Tryz.prog 28 #[.string s] w (RCompR w (compF (runesB s) 0 [])) := by
  have hira := info_ratom
  have hza := zero_ratom
  have hzp := zero_pair
  have hipr := info_pair
  have hirs := info_prs
  obtain ⟨i0, hi, hz0, hz1, hz2⟩ := parts_of parts_ratom
  obtain ⟨j0, hj, hy0, hy1, hy2⟩ := parts_of parts_pair
  have HNU := Lib.hid (numbers_any s (by omega) w)
  have hlen : (runesB s).length ≤ s.size := runeF_len s s.size 0
  obtain ⟨O, hO⟩ : ∃ O, O = compF (runesB s) 0 [] := ⟨_, rfl⟩
  rw [← hO]
  have HO := Lib.hid hO.symm
  clear hO
  have hmx := allR_of (runeF_max s s.size 0)
  have HMX : Hid (AllR (runesB s)) := hmx
  generalize runesB s = l at *
  have hN0 : l.length ≤ 65535 := by omega
  have g1 : decide ((65535 : Int) < (s.size : Int)) = false := decide_eq_false (by omega)
  have g2 : decide (65535 < s.size) = false := decide_eq_false (by omega)
  obtain ⟨N, hN⟩ : ∃ N, N = l.length := ⟨_, rfl⟩
  rw [← hN] at HNU hN0
  have HNL := Lib.hid hN
  clear hN hlen hmx
  go_enter Tryz.func28, Tryz.ntmps28
  go_wp2_with fail
  refine HNU.out.mono ?_; rintro e w1 ⟨Al, cl, rfl, hIn, hb1⟩
  have HIN := Lib.hid hIn
  have HB1 := Lib.hid hb1
  clear hIn hb1
  go_wp2_with fail
  go_loopw [5, 6] (fun V i wr => ∃ (a : Nat) (qs : List (Atm × Value)), i = .int .i64 (a : Nat) ∧ a ≤ N ∧ qs.length ≤ a ∧ Hid (RSt w1 wr V qs) ∧ Hid (compF l a (qs.map (·.1)) = O)) (fun _ i _ => N - (intOf i).toNat)
  case atStart => exact ⟨0, [], rfl, Nat.zero_le _, Nat.le_refl _, ⟨World.ownsRow_nil _ _ _ _, (fun q hq => by cases hq), Below.refl _ _⟩, HO⟩
  case round =>
    obtain ⟨a, qs, rfl, ha, hqa, HS, HOr⟩ := hrel
    obtain ⟨A2, c2, rfl⟩ := row_slice2 HS.out.o
    by_cases han : a < N
    · have haN : a < l.length := by have := HNL.out; omega
      obtain ⟨bl, ol, rfl, hbl, hcl⟩ := (HIN.out.below HS.out.b) (by omega)
      have ca := hcl a haN
      have HCL := Lib.hid hcl
      clear hcl
      have gan : decide ((a : Int) < (N : Int)) = true := decide_eq_true (by omega)
      obtain ⟨x, hx⟩ : ∃ x, x = l.getD a 0 := ⟨_, rfl⟩
      rw [← hx] at ca
      have HX := Lib.hid hx.symm
      clear hx
      by_cases h42 : x = 42
      · subst h42
        have HOO : Hid (compF l (a + 1) ((qs ++ [(((⟨3, 0, false, []⟩ : Atm) : Atm), Value.slice none 0 0)]).map (·.1)) = O) := by
          show _ = _
          rw [List.map_append, ← HOr.out]
          exact (compF_more haN (atom_star HX.out)).symm
        clear haN
        have HX7 := Lib.hid (heap_alloc_new wr (.cells #[.int .i64 3, .int .i64 0, .bool false, .slice none 0 0] 104))
        have HB7 := below_alG wr (.cells #[.int .i64 3, .int .i64 0, .bool false, .slice none 0 0] 104)
        have HS7 := Lib.hid (HS.out.next HB7)
        have HLT := Lib.hid HS7.out.o.lt
        have HSS := Lib.hid HS7.out.b.size
        have HW7 : Hid (AtmW (wr.alloc (.cells #[.int .i64 3, .int .i64 0, .bool false, .slice none 0 0] 104)) (⟨3, 0, false, []⟩ : Atm) (.slice none 0 0)) := atmW_nil _ _ _ _
        clear HB7
        go_wp2_with (at_builtin; go_must (refine wpList_append_own_at _ rfl (.tmp 30) (.tmp 32) _ rfl w1.heap.size 104 i0 (.agg #[.int .i64 0, .int .i64 0, .bool false, .slice none 0 0]) 4 48 Tryz.underlying76 hi hz0 hz1 hz2 rfl (by decide) (.slice A2 qs.length c2) qs.length _ rfl HS7.out.o ⟨wr.heap.size, 0, none⟩ 1 1 [.int .i64 3, .int .i64 0, .bool false, .slice none 0 0] rfl rfl (by exact World.news_of_block HX7.out) (by intro u hu; simp at hu; rcases hu with rfl | rfl | rfl | rfl <;> rfl) (by unfold maxLen; omega) (by omega) (by exact HSS.out) ?_; intro v' w8 hown' hgrow hnil' hloc; have HS8 := Lib.hid (HS7.out.push (x := (⟨3, 0, false, []⟩ : Atm)) hown' hgrow HW7.out); clear hown' hgrow hnil' hloc))
        go_roundw
        case rel => exact ⟨a + 1, qs ++ [((⟨3, 0, false, []⟩ : Atm), .slice none 0 0)], by go_num, by omega, by rw [List.length_append]; show qs.length + 1 ≤ _; omega, HS8, HOO⟩
        case measure => simp [intOf]; omega
      · have g42 : ((x : Int) == 42) = false := by rw [beq_eq_false_iff_ne]; omega
        by_cases h63 : x = 63
        · subst h63
          have HOO : Hid (compF l (a + 1) ((qs ++ [(((⟨2, 0, false, []⟩ : Atm) : Atm), Value.slice none 0 0)]).map (·.1)) = O) := by
            show _ = _
            rw [List.map_append, ← HOr.out]
            exact (compF_more haN (atom_any1 HX.out)).symm
          clear haN h42
          have HX7 := Lib.hid (heap_alloc_new wr (.cells #[.int .i64 2, .int .i64 0, .bool false, .slice none 0 0] 104))
          have HB7 := below_alG wr (.cells #[.int .i64 2, .int .i64 0, .bool false, .slice none 0 0] 104)
          have HS7 := Lib.hid (HS.out.next HB7)
          have HLT := Lib.hid HS7.out.o.lt
          have HSS := Lib.hid HS7.out.b.size
          have HW7 : Hid (AtmW (wr.alloc (.cells #[.int .i64 2, .int .i64 0, .bool false, .slice none 0 0] 104)) (⟨2, 0, false, []⟩ : Atm) (.slice none 0 0)) := atmW_nil _ _ _ _
          clear HB7
          go_wp2_with (at_builtin; go_must (refine wpList_append_own_at _ rfl (.tmp 36) (.tmp 38) _ rfl w1.heap.size 104 i0 (.agg #[.int .i64 0, .int .i64 0, .bool false, .slice none 0 0]) 4 48 Tryz.underlying76 hi hz0 hz1 hz2 rfl (by decide) (.slice A2 qs.length c2) qs.length _ rfl HS7.out.o ⟨wr.heap.size, 0, none⟩ 1 1 [.int .i64 2, .int .i64 0, .bool false, .slice none 0 0] rfl rfl (by exact World.news_of_block HX7.out) (by intro u hu; simp at hu; rcases hu with rfl | rfl | rfl | rfl <;> rfl) (by unfold maxLen; omega) (by omega) (by exact HSS.out) ?_; intro v' w8 hown' hgrow hnil' hloc; have HS8 := Lib.hid (HS7.out.push (x := (⟨2, 0, false, []⟩ : Atm)) hown' hgrow HW7.out); clear hown' hgrow hnil' hloc))
          go_roundw
          case rel => exact ⟨a + 1, qs ++ [((⟨2, 0, false, []⟩ : Atm), .slice none 0 0)], by go_num, by omega, by rw [List.length_append]; show qs.length + 1 ≤ _; omega, HS8, HOO⟩
          case measure => simp [intOf]; omega
        · have g63 : ((x : Int) == 63) = false := by rw [beq_eq_false_iff_ne]; omega
          by_cases h92 : x = 92
          · subst h92
            have hE := atom_esc haN HX.out
            by_cases ha1 : a + 1 < l.length
            · rw [if_pos ha1] at hE
              have c1 := HCL.out (a + 1) ha1
              obtain ⟨y, hy⟩ : ∃ y, y = l.getD (a + 1) 0 := ⟨_, rfl⟩
              rw [← hy] at c1 hE
              obtain ⟨q, hq⟩ : ∃ q, q = a + 1 := ⟨_, rfl⟩
              have hqI : (a : Int) + 1 = (q : Int) := by omega
              have hqN : q < N := by have := HNL.out; omega
              have gq : decide ((N : Int) ≤ (q : Int)) = false := decide_eq_false (by omega)
              have hqe : ((q + 1 : Nat) : Int) = ((a + 2 : Nat) : Int) := by omega
              have HQE := Lib.hid hqe
              rw [← hq] at c1
              have HOO : Hid (compF l (a + 2) ((qs ++ [(((⟨1, (y : Nat), false, []⟩ : Atm) : Atm), Value.slice none 0 0)]).map (·.1)) = O) := by
                show _ = _
                rw [List.map_append, ← HOr.out]
                exact (compF_more haN (hE)).symm
              clear haN h42 h63 hE ha1 hy hq hqe
              have HX7 := Lib.hid (heap_alloc_new wr (.cells #[.int .i64 1, .int .i64 (y : Nat), .bool false, .slice none 0 0] 104))
              have HB7 := below_alG wr (.cells #[.int .i64 1, .int .i64 (y : Nat), .bool false, .slice none 0 0] 104)
              have HS7 := Lib.hid (HS.out.next HB7)
              have HLT := Lib.hid HS7.out.o.lt
              have HSS := Lib.hid HS7.out.b.size
              have HW7 : Hid (AtmW (wr.alloc (.cells #[.int .i64 1, .int .i64 (y : Nat), .bool false, .slice none 0 0] 104)) (⟨1, (y : Nat), false, []⟩ : Atm) (.slice none 0 0)) := atmW_nil _ _ _ _
              clear HB7
              go_wp2_with (at_builtin; go_must (refine wpList_append_own_at _ rfl (.tmp 46) (.tmp 52) _ rfl w1.heap.size 104 i0 (.agg #[.int .i64 0, .int .i64 0, .bool false, .slice none 0 0]) 4 48 Tryz.underlying76 hi hz0 hz1 hz2 rfl (by decide) (.slice A2 qs.length c2) qs.length _ rfl HS7.out.o ⟨wr.heap.size, 0, none⟩ 1 1 [.int .i64 1, .int .i64 (y : Nat), .bool false, .slice none 0 0] rfl rfl (by exact World.news_of_block HX7.out) (by intro u hu; simp at hu; rcases hu with rfl | rfl | rfl | rfl <;> rfl) (by unfold maxLen; omega) (by omega) (by exact HSS.out) ?_; intro v' w8 hown' hgrow hnil' hloc; have HS8 := Lib.hid (HS7.out.push (x := (⟨1, (y : Nat), false, []⟩ : Atm)) hown' hgrow HW7.out); clear hown' hgrow hnil' hloc))
              go_roundw
              case rel => exact ⟨a + 2, qs ++ [(⟨1, (y : Nat), false, []⟩, .slice none 0 0)], by rw [← HQE.out]; go_num, by have := HQE.out; omega, by rw [List.length_append]; show qs.length + 1 ≤ _; omega, HS8, HOO⟩
              case measure => simp [intOf]; have := HQE.out; omega
            · rw [if_neg ha1] at hE
              have HOO : Hid (O = none) := by show _ = _; rw [← HOr.out]; exact compF_none haN hE
              have gq : decide ((N : Int) ≤ (a : Int) + 1) = true := decide_eq_true (by have := HNL.out; omega)
              clear haN h42 h63 hE ha1
              go_wp2_with fail
              go_ret2
              exact .inl ⟨HOO.out, rfl, below_then HB1.out HS.out.b⟩
          · have g92 : ((x : Int) == 92) = false := by rw [beq_eq_false_iff_ne]; omega
            by_cases h91 : x = 91
            · subst h91
              have hE := atom_set HX.out
              obtain ⟨M, hM⟩ : ∃ M, M = l.drop (a + 1) := ⟨_, rfl⟩
              obtain ⟨p1, hp1⟩ : ∃ p1, p1 = a + 1 := ⟨_, rfl⟩
              have hpI : (a : Int) + 1 = (p1 : Int) := by omega
              have HMd : Hid (∀ b, M.drop b = l.drop (p1 + b)) := fun b => by rw [hM, List.drop_drop, hp1]
              have HMg : Hid (∀ b, M.getD b 0 = l.getD (p1 + b) 0) := fun b => by rw [hM, drop_getD, hp1]
              have HMl : Hid (M.length + p1 = N) := by show _ = _; rw [hM, List.length_drop, hp1]; have := HNL.out; omega
              have HP1 := Lib.hid hp1
              rw [← hM] at hE
              have hp1N : p1 ≤ N := by omega
              clear hM hp1
              obtain ⟨NT, hNT⟩ : ∃ NT, NT = notF M 0 := ⟨_, rfl⟩
              rw [← hNT] at hE
              have HT : Hid ((p1 = N ∧ NT = false) ∨ (p1 < N ∧ NT = (decide (l.getD p1 0 = 33) || decide (l.getD p1 0 = 94)))) := by
                show _ ∨ _
                rw [hNT]
                unfold notF
                have h1 := HMg.out 0
                have h2 := HMl.out
                rw [Nat.add_zero] at h1
                rw [h1]
                by_cases h0 : p1 < N
                · exact .inr ⟨h0, by rw [decide_eq_true (by omega : 0 < M.length), Bool.true_and]⟩
                · exact .inl ⟨by omega, by rw [decide_eq_false (by omega : ¬ 0 < M.length), Bool.false_and]⟩
              clear hNT
              obtain ⟨b0, hb0⟩ : ∃ b0, b0 = if NT = true then 1 else 0 := ⟨_, rfl⟩
              rw [← hb0] at hE
              obtain ⟨S, hS⟩ : ∃ S, S = setF M b0 [] := ⟨_, rfl⟩
              rw [← hS] at hE
              have HSF := Lib.hid hS.symm
              have HB0 := Lib.hid hb0
              have HCN : Hid (S = none → O = none) := fun h => by rw [← HOr.out]; exact compF_none haN (by rw [hE, h]; rfl)
              have HCM : Hid (∀ rs e, S = some (rs, e) → compF l (a + (e + 1)) (qs.map (·.1) ++ [⟨4, 0, NT, rgI rs⟩]) = O) := fun rs e h => by rw [← HOr.out]; exact (compF_more haN (by rw [hE, h]; rfl)).symm
              have HBN : Hid (p1 + b0 ≤ N) := by
                show _ ≤ _
                rcases HT.out with ⟨h1, h2⟩ | ⟨h1, _⟩
                · rw [hb0, h2]; simp; omega
                · rw [hb0]; split <;> omega
              have HS0 : Hid (RSet wr (wr.alloc (.cells #[.int .i64 4, .int .i64 0, .bool NT, .slice none 0 0] 104)) NT (.slice none 0 0) []) :=
                ⟨heap_alloc_new wr _, World.ownsRow_nil _ _ _ _, below_alG wr _, by simp⟩
              have HI2 : Hid (Ins (wr.alloc (.cells #[.int .i64 4, .int .i64 0, .bool false, .slice none 0 0] 104)) (some ⟨bl, ol, none⟩) l) := HIN.out.below (below_then HS.out.b (below_alG wr _))
              clear hS hb0 hE haN h42 h63 h92
              go_upto_region 20 with fail
              obtain ⟨W2, hW2⟩ : ∃ W2, W2 = wr.alloc (.cells #[.int .i64 4, .int .i64 0, .bool false, .slice none 0 0] 104) := ⟨_, rfl⟩
              rw [← hW2] at HI2
              rw [← hW2]
              have HW2 := Lib.hid hW2
              clear hW2
              go_cut [76] from 18 to 75 (fun v wx => v = .bool NT ∧ wx = W2)
              case first => as_aux_lemma =>
                rcases HT.out with ⟨h0, hN⟩ | ⟨h0, hN⟩
                · have g0 : decide ((p1 : Int) < (N : Int)) = false := decide_eq_false (by omega)
                  have hnl : ¬ p1 < N := by omega
                  clear h0
                  subst hN
                  go_wp2_with fail
                  go_meet
                  exact ⟨rfl, rfl⟩
                · have c0 := HI2.out.cell p1 (by have := HNL.out; omega)
                  generalize l.getD p1 0 = y at *
                  have g0 : decide ((p1 : Int) < (N : Int)) = true := decide_eq_true (by omega)
                  by_cases h1 : y = 33
                  · subst h1
                    obtain rfl : NT = true := by rw [hN]; rfl
                    clear hN
                    go_wp2_with fail
                    go_meet
                    exact ⟨rfl, rfl⟩
                  · have e1 : ((y : Int) == 33) = false := by rw [beq_eq_false_iff_ne]; omega
                    by_cases h2 : y = 94
                    · subst h2
                      obtain rfl : NT = true := by rw [hN]; rfl
                      clear hN h1
                      go_wp2_with fail
                      go_meet
                      exact ⟨rfl, rfl⟩
                    · have e2 : ((y : Int) == 94) = false := by rw [beq_eq_false_iff_ne]; omega
                      obtain rfl : NT = false := by rw [hN, decide_eq_false h1, decide_eq_false h2]; rfl
                      clear hN h1 h2
                      go_wp2_with fail
                      go_meet
                      exact ⟨rfl, rfl⟩
              case rest =>
                obtain ⟨rfl, rfl⟩ := hcut
                go_upto_if 76 with fail
                go_cut [6] from 18 to 79 (fun v wx => (∃ z : Int, v = .int .i64 z ∧ z = ((p1 + b0 : Nat) : Int)) ∧ Hid (RSet wr wx NT (.slice none 0 0) []))
                case first => as_aux_lemma =>
                  have hW := HW2.out
                  subst hW
                  have hA := HB0.out
                  cases NT with
                  | false =>
                    rw [if_neg (by simp)] at hA
                    subst hA
                    go_wp2_with fail
                    go_meet
                    exact ⟨⟨_, rfl, by omega⟩, HS0⟩
                  | true =>
                    rw [if_pos rfl] at hA
                    subst hA
                    go_wp2_with fail
                    go_meet
                    exact ⟨⟨_, rfl, by omega⟩, HS0⟩
                case rest =>
                  obtain ⟨⟨z, rfl, rfl⟩, HS1⟩ := hcut
                  clear HS0 HI2 HW2 HT
                  generalize wc = w3 at *
                  obtain ⟨p2, hp2⟩ : ∃ p2, p2 = p1 + b0 := ⟨_, rfl⟩
                  rw [← hp2]
                  rw [← hp2] at HBN
                  have HP2 := Lib.hid hp2
                  clear hp2
                  obtain ⟨wo, rfl⟩ : ∃ wo : World, wo = wr := ⟨_, rfl⟩
                  go_wp2_with fail
                  go_loopw [6] (fun v wq => ∃ (p b : Nat) (V : Value) (rs : List (Nat × Nat)), Hid (p = p1 + b) ∧ p ≤ N ∧ v = .int .i64 (p : Nat) ∧ Hid (RSet wo wq NT V rs) ∧ Hid (setF M b rs = S) ∧ rs.length ≤ b) (fun v _ => N - (intOf v).toNat)
                  case atStart => exact ⟨p2, b0, _, [], HP2, HBN.out, rfl, HS1, HSF, Nat.zero_le _⟩
                  case round =>
                    obtain ⟨p, b, V, rs, HP, hpN, rfl, HR, HSr, hrs⟩ := hrel
                    obtain ⟨A3, c3, rfl⟩ := row_slice2 HR.out.o
                    have a3 := (cell_of_row _ _ 3 _ _ _ HR.out.a).trans (show _ = some (Value.slice A3 rs.length c3) from rfl)
                    have HI := Lib.hid (HIN.out.below (below_then HS.out.b HR.out.b))
                    have hp1a : a + 1 ≤ p := by have := HP.out; have := HP1.out; omega
                    have hbp : b ≤ p := by have := HP.out; omega
                    have hpm : p < 65536 := by omega
                    have hrl : rs.length ≤ 65536 := by omega
                    have e2 : M.drop b = l.drop p := by rw [HMd.out, ← HP.out]
                    have e3 : M.getD b 0 = l.getD p 0 := by rw [HMg.out, ← HP.out]
                    have e4 : (b < M.length) = (p < N) := by have := HMl.out; have := HP.out; exact propext ⟨fun h => by omega, fun h => by omega⟩
                    by_cases hend : p < N ∧ l.getD p 0 = 93 ∧ rs ≠ []
                    · obtain ⟨hp3, h93, hne⟩ := hend
                      have h2 : setF M b rs = some (rs, b + 1) := setF_done ⟨by rw [e4]; exact hp3, by rw [e3]; exact h93, hne⟩
                      have h3 := HCM.out rs (b + 1) (HSr.out.symm.trans h2)
                      rw [show a + (b + 1 + 1) = p + 1 by have := HP.out; have := HP1.out; omega] at h3
                      have HOO : Hid (compF l (p + 1) ((qs ++ [((⟨4, 0, NT, rgI rs⟩ : Atm), Value.slice A3 rs.length c3)]).map (·.1)) = O) := by
                        show _ = _
                        rw [List.map_append]
                        exact h3
                      have cp := HI.out.cell p (by have := HNL.out; omega)
                      rw [h93] at cp
                      have hpos : 0 < rs.length := List.length_pos_iff.2 hne
                      have gl : decide ((0 : Int) < (rs.length : Int)) = true := decide_eq_true (by omega)
                      have gp : decide ((p : Int) < (N : Int)) = true := decide_eq_true (by omega)
                      have d0 := (cell_of_row _ _ 0 _ _ _ HR.out.a).trans (show _ = some (Value.int .i64 4) from rfl)
                      have d1 := (cell_of_row _ _ 1 _ _ _ HR.out.a).trans (show _ = some (Value.int .i64 0) from rfl)
                      have d2 := (cell_of_row _ _ 2 _ _ _ HR.out.a).trans (show _ = some (Value.bool NT) from rfl)
                      have HRI : Hid (RgI wr A3 (rgI rs)) := rgi_of_own (l := rgI rs) (c := c3) (by rw [rgI_len]; exact HR.out.o)
                      have HSq := Lib.hid (HS.out.next HR.out.b)
                      clear h2 h3 h93 hne e2 e3 e4
                      have HX7 := Lib.hid (heap_alloc_new wr (.cells #[.int .i64 4, .int .i64 0, .bool NT, .slice A3 rs.length c3] 104))
                      have HB7 := below_alG wr (.cells #[.int .i64 4, .int .i64 0, .bool NT, .slice A3 rs.length c3] 104)
                      have HS7 := Lib.hid (HSq.out.next HB7)
                      have HLT := Lib.hid HS7.out.o.lt
                      have HSS := Lib.hid HS7.out.b.size
                      have HW7 : Hid (AtmW (wr.alloc (.cells #[.int .i64 4, .int .i64 0, .bool NT, .slice A3 rs.length c3] 104)) (⟨4, 0, NT, rgI rs⟩ : Atm) (.slice A3 rs.length c3)) := ⟨A3, c3, by rw [rgI_len], HRI.out.below (below_alG wr _)⟩
                      clear HB7
                      go_wp2_with (at_builtin; go_must (refine wpList_append_own_at _ rfl (.tmp 151) (.tmp 153) _ rfl w1.heap.size 104 i0 (.agg #[.int .i64 0, .int .i64 0, .bool false, .slice none 0 0]) 4 48 Tryz.underlying76 hi hz0 hz1 hz2 rfl (by decide) (.slice A2 qs.length c2) qs.length _ rfl HS7.out.o ⟨wr.heap.size, 0, none⟩ 1 1 [.int .i64 4, .int .i64 0, .bool NT, .slice A3 rs.length c3] rfl rfl (by exact World.news_of_block HX7.out) (by intro u hu; simp at hu; rcases hu with rfl | rfl | rfl | rfl <;> rfl) (by unfold maxLen; omega) (by omega) (by exact HSS.out) ?_; intro v' w8 hown' hgrow hnil' hloc; have HS8 := Lib.hid (HS7.out.push (x := (⟨4, 0, NT, rgI rs⟩ : Atm)) hown' hgrow HW7.out); clear hown' hgrow hnil' hloc))
                      go_roundw
                      case rel => exact ⟨p + 1, qs ++ [((⟨4, 0, NT, rgI rs⟩ : Atm), .slice A3 rs.length c3)], by go_num, by omega, by rw [List.length_append]; show qs.length + 1 ≤ _; omega, HS8, HOO⟩
                      case measure => simp [intOf]; omega
                    · have hnd : ¬ (b < M.length ∧ M.getD b 0 = 93 ∧ rs ≠ []) := by rw [e4, e3]; exact hend
                      have HNO := Lib.hid (fun h => setF_none hnd h)
                      have HMO := Lib.hid (fun h => setF_more hnd h)
                      rw [e2] at HNO HMO
                      have HSN := Lib.hid (fun h => span_none (l := l) (p := p) h)
                      have HSL := Lib.hid (fun h hc => span_lone (l := l) (p := p) h hc)
                      have HST := Lib.hid (fun h hc => span_two (l := l) (p := p) h hc)
                      have hkl := plainF_le (l.drop p)
                      rw [List.length_drop] at hkl
                      obtain ⟨lo, hlo⟩ : ∃ lo, lo = (plainF (l.drop p)).1 := ⟨_, rfl⟩
                      obtain ⟨k, hk⟩ : ∃ k, k = (plainF (l.drop p)).2 := ⟨_, rfl⟩
                      obtain ⟨K, hK⟩ : ∃ K, K = decide (k ≠ 0) := ⟨_, rfl⟩
                      have h1 := one11_any l (some ⟨bl, ol, none⟩) cl p wr HI.out (by have := HNL.out; omega) (by have := HNL.out; omega)
                      rw [← HNL.out, ← hlo, ← hk, ← hK] at h1
                      have HON := Lib.hid h1
                      rw [← hk] at HSN HSL HST hkl
                      rw [← hlo] at HSL HST
                      rw [← HNL.out] at HSL HST hkl
                      clear h1 hlo hk e2 e3 e4 hnd
                      have HEN := Lib.hid hend
                      clear hend
                      go_upto_region 23 with fail
                      go_cut [96] from 80 to 95 (fun v wx => v = .bool false ∧ wx = wr)
                      case first => as_aux_lemma =>
                        by_cases hp3 : p < N
                        · have cp := HI.out.cell p (by have := HNL.out; omega)
                          have gp : decide ((p : Int) < (N : Int)) = true := decide_eq_true (by omega)
                          have hend := HEN.out
                          generalize l.getD p 0 = y at *
                          by_cases h93 : y = 93
                          · have h0 : rs.length = 0 := by
                              rcases Nat.eq_zero_or_pos rs.length with h | h
                              · exact h
                              · exact absurd ⟨hp3, h93, fun e => by rw [e] at h; simp at h⟩ hend
                            rw [h0] at a3
                            subst h93
                            clear hend
                            go_wp2_with fail
                            go_meet
                            exact ⟨rfl, rfl⟩
                          · have g1 : ((y : Int) == 93) = false := by rw [beq_eq_false_iff_ne]; omega
                            clear hend h93
                            go_wp2_with fail
                            go_meet
                            exact ⟨rfl, rfl⟩
                        · have gp : decide ((p : Int) < (N : Int)) = false := decide_eq_false (by omega)
                          go_wp2_with fail
                          go_meet
                          exact ⟨rfl, rfl⟩
                      case rest =>
                        obtain ⟨rfl, hwc⟩ := hcut
                        have hwc := hwc.symm
                        subst hwc
                        clear HEN
                        go_wp2_with fail
                        refine HON.out.mono ?_; rintro e w5 ⟨⟨q, rfl, hq⟩, rfl⟩
                        have HQ := Lib.hid hq
                        clear hq
                        cases K with
                        | false =>
                          have hk0 : k = 0 := by simpa using hK.symm
                          have HOO : Hid (O = none) := HCN.out (by rw [← HSr.out]; exact HNO.out (HSN.out hk0))
                          clear hK hk0
                          go_wp2_with fail
                          go_ret2
                          exact .inl ⟨HOO.out, rfl, below_then HB1.out (below_then HS.out.b HR.out.b)⟩
                        | true =>
                          have hk0 : k ≠ 0 := by simpa using hK.symm
                          have hqe := HQ.out hk0
                          have hqN : q ≤ N := by omega
                          obtain ⟨C, hC⟩ : ∃ C, C = decide (q + 1 < N ∧ l.getD q 0 = 45 ∧ l.getD (q + 1) 0 ≠ 93) := ⟨_, rfl⟩
                          have HCC := Lib.hid hC
                          have HQE := Lib.hid hqe
                          have HK0 := Lib.hid hk0
                          clear hK hC
                          have hqp : p < q := by omega
                          clear hk0 hqe hkl
                          go_upto_region 30 with fail
                          go_cut [129] from 80 to 128 (fun v wx => v = .bool C ∧ wx = wr)
                          case first => as_aux_lemma =>
                            have hC := HCC.out
                            obtain ⟨r, hr⟩ : ∃ r, r = q + 1 := ⟨_, rfl⟩
                            have hrI : (q : Int) + 1 = (r : Int) := by omega
                            rw [← hr] at hC
                            have hrm : r ≤ 65536 := by omega
                            clear hr
                            by_cases h1 : r < N
                            · have g1 : decide ((r : Int) < (N : Int)) = true := decide_eq_true (by omega)
                              have cq := HI.out.cell q (by have := HNL.out; omega)
                              have cr := HI.out.cell r (by have := HNL.out; omega)
                              generalize l.getD q 0 = y at *
                              generalize l.getD r 0 = x2 at *
                              by_cases h2 : y = 45
                              · by_cases h3 : x2 = 93
                                · obtain rfl : C = false := by rw [hC]; exact decide_eq_false (fun h => h.2.2 h3)
                                  subst h2
                                  subst h3
                                  clear hC
                                  go_wp2_with fail
                                  go_meet
                                  exact ⟨rfl, rfl⟩
                                · obtain rfl : C = true := by rw [hC]; exact decide_eq_true ⟨h1, h2, h3⟩
                                  have g3 : ((x2 : Int) == 93) = false := by rw [beq_eq_false_iff_ne]; omega
                                  have g4 : ((x2 : Int) != 93) = true := by rw [bne_iff_ne]; omega
                                  subst h2
                                  clear hC h3
                                  go_wp2_with fail
                                  go_meet
                                  exact ⟨rfl, rfl⟩
                              · obtain rfl : C = false := by rw [hC]; exact decide_eq_false (fun h => h2 h.2.1)
                                have g3 : ((y : Int) == 45) = false := by rw [beq_eq_false_iff_ne]; omega
                                clear hC h2
                                go_wp2_with fail
                                go_meet
                                exact ⟨rfl, rfl⟩
                            · obtain rfl : C = false := by rw [hC]; exact decide_eq_false (fun h => h1 h.1)
                              have g1 : decide ((r : Int) < (N : Int)) = false := decide_eq_false (by omega)
                              clear hC
                              go_wp2_with fail
                              go_meet
                              exact ⟨rfl, rfl⟩
                          case rest =>
                            obtain ⟨rfl, hwc⟩ := hcut
                            have hwc := hwc.symm
                            subst hwc
                            cases C with
                            | false =>
                              have hsp := HSL.out HK0.out (by rw [← HQE.out]; exact of_decide_eq_false HCC.out.symm)
                              have h4 := HMO.out (by rw [hsp]; exact HK0.out)
                              rw [hsp] at h4
                              have HOO : Hid (setF M (b + k) (rs ++ [(lo, lo)]) = S) := by show _ = _; rw [← HSr.out]; exact h4.symm
                              have hbk : q = p + k := HQE.out
                              have hk1 : 1 ≤ k := by have := HK0.out; omega
                              clear hsp h4
                              have HX7 := Lib.hid (heap_alloc_new wr (.cells #[.int .i64 (lo : Nat), .int .i64 (lo : Nat)] 107))
                              have HS7 := Lib.hid (HR.out.next (below_alG wr (.cells #[.int .i64 (lo : Nat), .int .i64 (lo : Nat)] 107)))
                              have HLT := Lib.hid HR.out.o.lt
                              have HSS := Lib.hid HS7.out.s
                              go_wp2_with (at_builtin; go_must (refine wpList_append_own_at _ rfl (.tmp 144) (.tmp 148) _ rfl (wo.heap.size + 1) 107 j0 (.agg #[.int .i64 0, .int .i64 0]) 2 16 Tryz.underlying102 hj hy0 hy1 hy2 rfl (by decide) (.slice A3 rs.length c3) rs.length _ rfl HS7.out.o ⟨wr.heap.size, 0, none⟩ 1 1 [.int .i64 (lo : Nat), .int .i64 (lo : Nat)] rfl rfl (by exact cells_news2 HX7.out) (by intro u hu; simp at hu; rcases hu with rfl | rfl <;> rfl) (by unfold maxLen; omega) (by omega) (by exact HSS.out) ?_; intro v' w8 hown' hgrow hnil' hloc; obtain ⟨A8, c8, rfl⟩ := row_slice2 hown'; have HO8 := Lib.hid hown'; have HB8 := Lib.hid (HS7.out.b.grown hgrow (by have := HSS.out; omega) (fun q hq => by have := (HLT.out q hq).1; omega)); have HA8 := Lib.hid ((hgrow.block wo.heap.size (by have := HSS.out; omega) (fun e => by have := (HLT.out _ e.symm).1; omega)).trans HS7.out.a); have HG8 := Lib.hid hgrow.size; have a8 := (cell_of_row _ _ 3 _ _ _ HA8.out).trans (show _ = some (Value.slice A3 rs.length c3) from rfl); have f8 := frozen_of_row _ _ 3 _ _ HA8.out; clear hown' hgrow hnil' hloc))
                              have HO9 := Lib.hid (ownsRow_setCell_below HO8.out (a := ⟨wo.heap.size, 3, none⟩) (by simp) (.slice A8 (rs.length + 1) c8))
                              have HA9 := Lib.hid (heap_setCell_same w8 wo.heap.size 3 _ _ (.slice A8 (rs.length + 1) c8) HA8.out)
                              have HB9 := Lib.hid (HB8.out.setCell (p := ⟨wo.heap.size, 3, none⟩) (Nat.le_refl _) (.slice A8 (rs.length + 1) c8))
                              have HG9 : Hid (wo.heap.size + 1 ≤ (w8.setCell ⟨wo.heap.size, 3, none⟩ (.slice A8 (rs.length + 1) c8)).heap.size) := by
                                have h1 := HG8.out
                                have h2 := HSS.out
                                show _ ≤ _
                                simp [World.setCell]
                                omega
                              go_roundw
                              case rel =>
                                refine ⟨q, b + k, _, rs ++ [(lo, lo)], by show _ = _; have := HP.out; omega, by omega, by first | rfl | go_num, ⟨HA9.out, ?_, HB9.out, HG9.out⟩, HOO, by rw [List.length_append]; show rs.length + 1 ≤ _; omega⟩
                                have e : cellsP .i64 (rgI (rs ++ [(lo, lo)])) = cellsP .i64 (rgI rs) ++ [.int .i64 (lo : Nat), .int .i64 (lo : Nat)] := by
                                  unfold rgI
                                  rw [List.map_append, cellsP_app]
                                  rfl
                                rw [e, List.length_append]
                                exact HO9.out
                              case measure => simp [intOf]; omega
                            | true =>
                              obtain ⟨c1, c2', c3'⟩ := of_decide_eq_true HCC.out.symm
                              have hsp := HST.out HK0.out (by rw [← HQE.out]; exact ⟨c1, c2', c3'⟩)
                              rw [← HQE.out] at hsp
                              obtain ⟨hi2, hhi⟩ : ∃ hi2, hi2 = (plainF (l.drop (q + 1))).1 := ⟨_, rfl⟩
                              obtain ⟨k2, hk2⟩ : ∃ k2, k2 = (plainF (l.drop (q + 1))).2 := ⟨_, rfl⟩
                              obtain ⟨K2, hK2⟩ : ∃ K2, K2 = decide (k2 ≠ 0) := ⟨_, rfl⟩
                              have hkl2 := plainF_le (l.drop (q + 1))
                              rw [List.length_drop] at hkl2
                              have h1 := one11_any l (some ⟨bl, ol, none⟩) cl (q + 1) wr HI.out (by have := HNL.out; omega) (by have := HNL.out; omega)
                              rw [← HNL.out, ← hhi, ← hk2, ← hK2] at h1
                              rw [← hhi, ← hk2] at hsp
                              rw [← hk2, ← HNL.out] at hkl2
                              obtain ⟨r, hr⟩ : ∃ r, r = q + 1 := ⟨_, rfl⟩
                              have hrI : (q : Int) + 1 = (r : Int) := by omega
                              rw [← hr] at h1 hkl2
                              have hrm : r ≤ N := by omega
                              have hrq : q < r := by omega
                              have HRQ := Lib.hid hr
                              have HON2 := Lib.hid h1
                              have HSP := Lib.hid hsp
                              clear h1 hhi hk2 hsp c1 c2' c3' hr
                              go_wp2_with fail
                              refine HON2.out.mono ?_; rintro e w6 ⟨⟨t, rfl, ht⟩, rfl⟩
                              have H104 := Lib.hid ht
                              clear ht
                              cases K2 with
                              | false =>
                                have hk0 : k2 = 0 := by simpa using hK2.symm
                                have HOO : Hid (O = none) := HCN.out (by rw [← HSr.out]; exact HNO.out (by rw [HSP.out, if_pos (.inl hk0)]))
                                clear hK2 hk0 hkl2
                                go_wp2_with fail
                                go_ret2
                                exact .inl ⟨HOO.out, rfl, below_then HB1.out (below_then HS.out.b HR.out.b)⟩
                              | true =>
                                have hk0 : k2 ≠ 0 := by simpa using hK2.symm
                                have hte := H104.out hk0
                                have htN : t ≤ N := by omega
                                by_cases hlt : hi2 < lo
                                · have HOO : Hid (O = none) := HCN.out (by rw [← HSr.out]; exact HNO.out (by rw [HSP.out, if_pos (.inr hlt)]))
                                  have gg : decide ((hi2 : Int) < (lo : Int)) = true := decide_eq_true (by omega)
                                  clear hK2 hk0 hkl2 hte
                                  go_wp2_with fail
                                  go_ret2
                                  exact .inl ⟨HOO.out, rfl, below_then HB1.out (below_then HS.out.b HR.out.b)⟩
                                · have hsp := HSP.out
                                  rw [if_neg (fun h => h.elim hk0 hlt)] at hsp
                                  have h4 := HMO.out (by rw [hsp]; show _ + 1 + _ ≠ 0; omega)
                                  rw [hsp] at h4
                                  have HOO : Hid (setF M (b + (k + 1 + k2)) (rs ++ [(lo, hi2)]) = S) := by show _ = _; rw [← HSr.out]; exact h4.symm
                                  have gg : decide ((hi2 : Int) < (lo : Int)) = false := decide_eq_false (by omega)
                                  have htk : t = p + (k + 1 + k2) := by have := HQE.out; have := HRQ.out; omega
                                  have HTK := Lib.hid htk
                                  have hpt : p + 2 ≤ t := by omega
                                  clear hsp h4 hK2 hk0 hkl2 hte htk
                                  have HX7 := Lib.hid (heap_alloc_new wr (.cells #[.int .i64 (lo : Nat), .int .i64 (hi2 : Nat)] 107))
                                  have HS7 := Lib.hid (HR.out.next (below_alG wr (.cells #[.int .i64 (lo : Nat), .int .i64 (hi2 : Nat)] 107)))
                                  have HLT := Lib.hid HR.out.o.lt
                                  have HSS := Lib.hid HS7.out.s
                                  go_wp2_with (at_builtin; go_must (refine wpList_append_own_at _ rfl (.tmp 144) (.tmp 148) _ rfl (wo.heap.size + 1) 107 j0 (.agg #[.int .i64 0, .int .i64 0]) 2 16 Tryz.underlying102 hj hy0 hy1 hy2 rfl (by decide) (.slice A3 rs.length c3) rs.length _ rfl HS7.out.o ⟨wr.heap.size, 0, none⟩ 1 1 [.int .i64 (lo : Nat), .int .i64 (hi2 : Nat)] rfl rfl (by exact cells_news2 HX7.out) (by intro u hu; simp at hu; rcases hu with rfl | rfl <;> rfl) (by unfold maxLen; omega) (by omega) (by exact HSS.out) ?_; intro v' w8 hown' hgrow hnil' hloc; obtain ⟨A8, c8, rfl⟩ := row_slice2 hown'; have HO8 := Lib.hid hown'; have HB8 := Lib.hid (HS7.out.b.grown hgrow (by have := HSS.out; omega) (fun q hq => by have := (HLT.out q hq).1; omega)); have HA8 := Lib.hid ((hgrow.block wo.heap.size (by have := HSS.out; omega) (fun e => by have := (HLT.out _ e.symm).1; omega)).trans HS7.out.a); have HG8 := Lib.hid hgrow.size; have a8 := (cell_of_row _ _ 3 _ _ _ HA8.out).trans (show _ = some (Value.slice A3 rs.length c3) from rfl); have f8 := frozen_of_row _ _ 3 _ _ HA8.out; clear hown' hgrow hnil' hloc))
                                  have HO9 := Lib.hid (ownsRow_setCell_below HO8.out (a := ⟨wo.heap.size, 3, none⟩) (by simp) (.slice A8 (rs.length + 1) c8))
                                  have HA9 := Lib.hid (heap_setCell_same w8 wo.heap.size 3 _ _ (.slice A8 (rs.length + 1) c8) HA8.out)
                                  have HB9 := Lib.hid (HB8.out.setCell (p := ⟨wo.heap.size, 3, none⟩) (Nat.le_refl _) (.slice A8 (rs.length + 1) c8))
                                  have HG9 : Hid (wo.heap.size + 1 ≤ (w8.setCell ⟨wo.heap.size, 3, none⟩ (.slice A8 (rs.length + 1) c8)).heap.size) := by
                                    have h1 := HG8.out
                                    have h2 := HSS.out
                                    show _ ≤ _
                                    simp [World.setCell]
                                    omega
                                  go_roundw
                                  case rel =>
                                    refine ⟨t, b + (k + 1 + k2), _, rs ++ [(lo, hi2)], by show _ = _; have := HP.out; have := HTK.out; omega, by omega, by first | rfl | go_num, ⟨HA9.out, ?_, HB9.out, HG9.out⟩, HOO, by rw [List.length_append]; show rs.length + 1 ≤ _; omega⟩
                                    have e : cellsP .i64 (rgI (rs ++ [(lo, hi2)])) = cellsP .i64 (rgI rs) ++ [.int .i64 (lo : Nat), .int .i64 (hi2 : Nat)] := by
                                      unfold rgI
                                      rw [List.map_append, cellsP_app]
                                      rfl
                                    rw [e, List.length_append]
                                    exact HO9.out
                                  case measure => simp [intOf]; omega
            · have g91 : ((x : Int) == 91) = false := by rw [beq_eq_false_iff_ne]; omega
              have hE := atom_else haN (by rw [HX.out]; exact h42) (by rw [HX.out]; exact h63) (by rw [HX.out]; exact h92) (by rw [HX.out]; exact h91)
              rw [HX.out] at hE
              have HOO : Hid (compF l (a + 1) ((qs ++ [(((⟨1, (x : Nat), false, []⟩ : Atm) : Atm), Value.slice none 0 0)]).map (·.1)) = O) := by
                show _ = _
                rw [List.map_append, ← HOr.out]
                exact (compF_more haN (hE)).symm
              clear haN h42 h63 h92 h91 hE
              have HX7 := Lib.hid (heap_alloc_new wr (.cells #[.int .i64 1, .int .i64 (x : Nat), .bool false, .slice none 0 0] 104))
              have HB7 := below_alG wr (.cells #[.int .i64 1, .int .i64 (x : Nat), .bool false, .slice none 0 0] 104)
              have HS7 := Lib.hid (HS.out.next HB7)
              have HLT := Lib.hid HS7.out.o.lt
              have HSS := Lib.hid HS7.out.b.size
              have HW7 : Hid (AtmW (wr.alloc (.cells #[.int .i64 1, .int .i64 (x : Nat), .bool false, .slice none 0 0] 104)) (⟨1, (x : Nat), false, []⟩ : Atm) (.slice none 0 0)) := atmW_nil _ _ _ _
              clear HB7
              go_wp2_with (at_builtin; go_must (refine wpList_append_own_at _ rfl (.tmp 155) (.tmp 158) _ rfl w1.heap.size 104 i0 (.agg #[.int .i64 0, .int .i64 0, .bool false, .slice none 0 0]) 4 48 Tryz.underlying76 hi hz0 hz1 hz2 rfl (by decide) (.slice A2 qs.length c2) qs.length _ rfl HS7.out.o ⟨wr.heap.size, 0, none⟩ 1 1 [.int .i64 1, .int .i64 (x : Nat), .bool false, .slice none 0 0] rfl rfl (by exact World.news_of_block HX7.out) (by intro u hu; simp at hu; rcases hu with rfl | rfl | rfl | rfl <;> rfl) (by unfold maxLen; omega) (by omega) (by exact HSS.out) ?_; intro v' w8 hown' hgrow hnil' hloc; have HS8 := Lib.hid (HS7.out.push (x := (⟨1, (x : Nat), false, []⟩ : Atm)) hown' hgrow HW7.out); clear hown' hgrow hnil' hloc))
              go_roundw
              case rel => exact ⟨a + 1, qs ++ [((⟨1, (x : Nat), false, []⟩ : Atm), .slice none 0 0)], by go_num, by omega, by rw [List.length_append]; show qs.length + 1 ≤ _; omega, HS8, HOO⟩
              case measure => simp [intOf]; omega
    · obtain rfl : a = N := by omega
      have HOO : Hid (O = some (qs.map (·.1))) := by show _ = _; rw [← HOr.out]; exact compF_end (by have := HNL.out; omega)
      have gan : decide ((a : Int) < (a : Int)) = false := decide_eq_false (by omega)
      go_wp2_with fail
      go_ret2
      exact .inr ⟨qs.map (·.1), A2, c2, HOO.out, by show Ending.returned (.tuple #[.slice A2 qs.length c2, .int .i64 0]) = _; rw [List.length_map], ratsT_of_own HS.out.o HS.out.r, below_then HB1.out HS.out.b⟩
end Go.Proofs.YtjnoapbddifcpaaGreatDoor
