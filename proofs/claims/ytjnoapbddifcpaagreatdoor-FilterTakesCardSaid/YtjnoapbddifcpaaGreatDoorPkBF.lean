/-
  An entry's fields: fieldsOf, find.
  Items: their cells; items where they lie; items in a block of their own.
  Entries where they lie; the law's few.
-/
import Derived.Test.YtjnoapbddifcpaaGreatDoorPkBE
import Derived.Test.YtjnoapbddifcpaaGreatDoorPkAA
import Derived.Below
import Derived.WalkKit
import Derived.Lib.SmallJoins
import Derived.Lib.Hide
import Derived.Laws.IdiomStrings
import Derived.Deep.AppendLies
import Derived.Deep.MidRow
import Derived.Deep.DeepMust
import Derived.Deep.Upon
import Derived.Maps.AppendAt
import Derived.Laws.StructEq

namespace Go.Proofs.YtjnoapbddifcpaaGreatDoor
set_option maxRecDepth 100000
set_option linter.unusedSimpArgs false
set_option linter.unusedVariables false
open Go.RowKit Go.Joins Go.Deep
/-- An entry. -/
structure Ent where
  nm : ByteArray
  made : Nat
  need : Nat
  flags : Nat
  method : Nat
  time : Nat
  sum : Nat
  packed : Nat
  size : Nat
  inner : Nat
  outer : Nat
  off : Nat
  ext : ByteArray
  com : ByteArray
  loc : ByteArray
  beg : Nat
  fin : Nat
def Ent.cells (E : Ent) : Array Value := #[.string E.nm, .int .u16 (E.made : Nat), .int .u16 (E.need : Nat), .int .u16 (E.flags : Nat), .int .u16 (E.method : Nat), .int .u32 (E.time : Nat), .int .u32 (E.sum : Nat), .int .u64 (E.packed : Nat), .int .u64 (E.size : Nat), .int .u16 (E.inner : Nat), .int .u32 (E.outer : Nat), .int .u64 (E.off : Nat), .string E.ext, .string E.com, .string E.loc, .int .u64 (E.beg : Nat), .int .u64 (E.fin : Nat)]
/-- What is asked of an entry: its texts' sizes, its numbers. -/
def EntOk (E : Ent) : Prop := E.nm.size ≤ 1000000 ∧ E.ext.size ≤ 1000000 ∧ E.loc.size ≤ 1000000 ∧ E.flags < 65536 ∧ E.made < 65536 ∧ E.outer < 4294967296 ∧ E.time < 4294967296
def flB (E : Ent) : Bool := parE E.loc == 0 && parE E.ext == 0
def flL (E : Ent) : List Fd := if flB E = true then parL E.loc else []
def flC (E : Ent) : List Fd := if flB E = true then parL E.ext else []
/-- Fields of an entry, local and central. -/
def FsV (w : World) (F : Array Value) (l1 l2 : List Fd) : Prop := ∃ A1 c1 A2 c2, F = #[.slice A1 l1.length c1, .slice A2 l2.length c2] ∧ Fds w A1 l1 ∧ Nil0 A1 l1.length c1 ∧ Fds w A2 l2 ∧ Nil0 A2 l2.length c2
theorem FsV.below {w w' : World} {F : Array Value} {l1 l2 : List Fd} (h : FsV w F l1 l2) (hb : Below w.heap.size w w') : FsV w' F l1 l2 := by
  obtain ⟨A1, c1, A2, c2, e, h1, n1, h2, n2⟩ := h
  exact ⟨A1, c1, A2, c2, e, h1.below (Nat.le_refl _) hb, n1, h2.below (Nat.le_refl _) hb, n2⟩
theorem FsV.nil (w : World) : FsV w #[.slice none 0 0, .slice none 0 0] [] [] := ⟨none, 0, none, 0, rfl, Fds.nil _ _, fun _ => ⟨rfl, rfl⟩, Fds.nil _ _, fun _ => ⟨rfl, rfl⟩⟩
theorem flL_len (E : Ent) : (flL E).length ≤ 16384 := by
  unfold flL
  split
  · exact parL_len4 _
  · exact Nat.zero_le _
theorem flC_len (E : Ent) : (flC E).length ≤ 16384 := by
  unfold flC
  split
  · exact parL_len4 _
  · exact Nat.zero_le _
theorem parE_forms (s : ByteArray) : parE s = 0 ∨ parE s = 5 ∨ parE s = 24 := by
  unfold parE
  split
  · exact .inr (.inl rfl)
  · split
    · exact .inl rfl
    · exact .inr (.inr rfl)
theorem results_ct_rowF {P : Program} {fn : Func} {p u : Tmp} {ty : TypeId} (h : fn.results = #[.cell p ty, .tmp u]) (tmps : Array Value) (w : World) (g : Nat) (t : TypeId) (cs : Array Value) (fr : Nat × Nat) (d : TypeDesc)
    (hp : tmps.getD p undef = .pointer (some ⟨g, 0, none⟩)) (hg : w.heap[g]? = some (.cells cs t fr))
    (hu : P.underlying ty = some d) (hd : (match d with | .struct _ | .array _ _ => true | _ => false) = true) (hi : (P.info? ty).map (·.size) = some cs.size) :
    (results fn tmps).run P w = .ok (.tuple #[.agg cs, tmps.getD u undef]) w := by
  rw [results_cell_tmp h, hp]
  simp [asAddr, run_loadVar_row w g t ty cs fr d hg hu hd hi, Result.andThen]
theorem info_fields : (Tryz.prog.info? 110).map (·.size) = some 2 := by kernel_rfl
set_option maxHeartbeats 8000000 in
theorem fieldsOf_any (E : Ent) (hE : EntOk E) (w : World) :
    Calls Tryz.prog 46 #[.agg E.cells] w fun e w' => ∃ F, e = .returned (.tuple #[.agg F, .int .i64 (if flB E = true then 0 else 24 : Int)]) ∧ FsV w' F (flL E) (flC E) ∧ Below w.heap.size w w' := by
  obtain ⟨h1, h2, h3, _⟩ := hE
  have HP1 := Lib.hid (fun w1 => parse0_any E.loc (by unfold maxLen; omega) w1)
  have HP2 := Lib.hid (fun w1 => parse0_any E.ext (by unfold maxLen; omega) w1)
  have HF1 := Lib.hid (parE_forms E.loc)
  have HF2 := Lib.hid (parE_forms E.ext)
  have HB : Hid (flB E = (parE E.loc == 0 && parE E.ext == 0)) := rfl
  have HL : Hid (flL E = if flB E = true then parL E.loc else []) := rfl
  have HC : Hid (flC E = if flB E = true then parL E.ext else []) := rfl
  obtain ⟨w1, hw1⟩ : ∃ w1, w1 = w.alloc (.cells E.cells 32) := ⟨_, rfl⟩
  have HB1 : Hid (Below w.heap.size w w1) := by show Below _ _ _; rw [hw1]; exact (Below.refl _ _).alloc (Nat.le_refl _) _
  have hx : w1.heap[w.heap.size]? = some (.cells E.cells 32 (0, 0)) := by rw [hw1]; exact heap_alloc_new w _
  have HX := Lib.hid hx
  simp only [Ent.cells] at hw1 HX ⊢
  have HW1 := Lib.hid hw1
  generalize flB E = B at *
  generalize flL E = L at *
  generalize flC E = C at *
  clear hw1 hx
  obtain ⟨w2, hw2⟩ : ∃ w2, w2 = w1.alloc (.cells #[.slice none 0 0, .slice none 0 0] 110) := ⟨_, rfl⟩
  have hb12 : Below w1.heap.size w1 w2 := by rw [hw2]; exact (Below.refl _ _).alloc (Nat.le_refl _) _
  have hsz : w1.heap.size = w.heap.size + 1 := by rw [HW1.out]; simp only [World.alloc, Array.size_push]
  have hy : w2.heap[w.heap.size + 1]? = some (.cells #[.slice none 0 0, .slice none 0 0] 110 (0, 0)) := by rw [hw2, ← hsz]; exact heap_alloc_new w1 _
  have HX2 := Lib.hid ((hb12.block _ (lt_of_block HX.out)).trans HX.out)
  have HY2 := Lib.hid hy
  have HB2 := Lib.hid (below_then HB1.out hb12)
  have HW2 := Lib.hid hw2
  have HSZ : Hid (w2.heap.size = w.heap.size + 2) := by show _ = _; rw [hw2]; simp only [World.alloc, Array.size_push]; omega
  clear HX hb12 hy hw2 hsz HB1
  have x14 : w2.cell? ⟨w.heap.size, 14, none⟩ = some (.string E.loc) := cell_of_row _ _ 14 _ _ _ HX2.out
  go_enter Tryz.func46, Tryz.ntmps46
  go_upto_region 1 with fail
  rw [← HW1.out, ← HW2.out]
  clear HW1 HW2
  go_wp2_with fail
  refine (HP1.out _).mono ?_; rintro e w3 ⟨A1, c1, rfl, hf1, hn1, hw1, hb3⟩
  have HX3 := Lib.hid ((hb3.block _ (lt_of_block HX2.out)).trans HX2.out)
  have HY3 := Lib.hid ((hb3.block _ (lt_of_block HY2.out)).trans HY2.out)
  have HB3 := Lib.hid (below_then HB2.out hb3)
  have x12 : w3.cell? ⟨w.heap.size, 12, none⟩ = some (.string E.ext) := cell_of_row _ _ 12 _ _ _ HX3.out
  have hZ2 : w2.heap.size = w.heap.size + 2 := HSZ.out
  have hb3 := hb3
  clear HX2 HY2 HB2 x14 HP1
  go_wp2_with fail
  refine (HP2.out _).mono ?_; rintro e w4 ⟨A2, c2, rfl, hf2, hn2, hw2, hb4⟩
  have HY4 := Lib.hid ((hb4.block _ (lt_of_block HY3.out)).trans HY3.out)
  have HB4 := Lib.hid (below_then HB3.out hb4)
  have HFD1 := Lib.hid (hf1.below (Nat.le_refl _) hb4)
  have HFD2 := Lib.hid hf2
  have HN1 := Lib.hid hn1
  have HN2 := Lib.hid hn2
  have HV1 : Hid (NewA (w.heap.size + 1 + 1) A1) := fun a e => by have := hw1 a e; omega
  have HV2 : Hid (NewA (w.heap.size + 1 + 1) A2) := fun a e => by have := hw2 a e; have := hb3.size; omega
  clear hb3 hb4 HX3 HY3 HB3 x12 HP2 hf1 hf2 hn1 hn2 hw1 hw2 hZ2
  generalize parE E.loc = p1 at *
  generalize parE E.ext = p2 at *
  by_cases q1 : p1 = 0
  · subst q1
    by_cases q2 : p2 = 0
    · subst q2
      have hBT : B = true := by rw [HB.out]; rfl
      subst hBT
      have HL2 : Hid (L = parL E.loc) := by show _ = _; rw [HL.out, if_pos rfl]
      have HC2 : Hid (C = parL E.ext) := by show _ = _; rw [HC.out, if_pos rfl]
      rw [← HL2.out] at HFD1 HN1 ⊢
      rw [← HC2.out] at HFD2 HN2 ⊢
      clear HL HC HB HF1 HF2
      go_wp2_with (refine wpList_store_row rfl 110 (.tmp 2) (.tmp 29) rfl (w.heap.size + 1) #[.slice A1 L.length c1, .slice A2 C.length c2] rfl rfl 110 _ HY4.out info_fields rfl (by simp [Value.oneCell']) ?_)
      have HY5 := Lib.hid (setRow_heap _ _ _ #[.slice A1 L.length c1, .slice A2 C.length c2] _ _ HY4.out)
      refine bodyPost_ret (results_ct_rowF rfl _ _ (w.heap.size + 1) 110 _ (0, 0) _ rfl HY5.out Tryz.underlying110 rfl info_fields) rfl ⟨_, rfl, ?_, ?_⟩
      · exact ⟨A1, c1, A2, c2, rfl, HFD1.out.setRow HV1.out _, HN1.out, HFD2.out.setRow HV2.out _, HN2.out⟩
      · exact below_setRow HB4.out (Nat.le_succ _) _
    · have n2 : ((p2 : Int) == 0) = false := by rw [beq_eq_false_iff_ne]; omega
      have n3 : ((p2 : Int) != 0) = true := by rw [bne_iff_ne]; omega
      have hBF : B = false := by rw [HB.out]; simp [q2]
      subst hBF
      have HL2 : Hid (L = []) := by show _ = _; rw [HL.out, if_neg (by decide)]
      have HC2 : Hid (C = []) := by show _ = _; rw [HC.out, if_neg (by decide)]
      clear HL HC HB HF1 HF2
      go_wp2_with (refine wpList_store_row rfl 110 (.tmp 2) (.tmp 26) rfl (w.heap.size + 1) #[.slice none 0 0, .slice none 0 0] rfl rfl 110 _ HY4.out info_fields rfl (by simp [Value.oneCell']) ?_)
      have HY5 := Lib.hid (setRow_heap _ _ _ #[.slice none 0 0, .slice none 0 0] _ _ HY4.out)
      refine bodyPost_ret (results_ct_rowF rfl _ _ (w.heap.size + 1) 110 _ (0, 0) _ rfl HY5.out Tryz.underlying110 rfl info_fields) rfl ⟨_, rfl, ?_, ?_⟩
      · rw [HL2.out, HC2.out]; exact FsV.nil _
      · exact below_setRow HB4.out (Nat.le_succ _) _
  · have n1 : ((p1 : Int) != 0) = true := by rw [bne_iff_ne]; omega
    have hBF : B = false := by rw [HB.out]; simp [q1]
    subst hBF
    have HL2 : Hid (L = []) := by show _ = _; rw [HL.out, if_neg (by decide)]
    have HC2 : Hid (C = []) := by show _ = _; rw [HC.out, if_neg (by decide)]
    clear HL HC HB HF1 HF2
    go_wp2_with (refine wpList_store_row rfl 110 (.tmp 2) (.tmp 26) rfl (w.heap.size + 1) #[.slice none 0 0, .slice none 0 0] rfl rfl 110 _ HY4.out info_fields rfl (by simp [Value.oneCell']) ?_)
    have HY5 := Lib.hid (setRow_heap _ _ _ #[.slice none 0 0, .slice none 0 0] _ _ HY4.out)
    refine bodyPost_ret (results_ct_rowF rfl _ _ (w.heap.size + 1) 110 _ (0, 0) _ rfl HY5.out Tryz.underlying110 rfl info_fields) rfl ⟨_, rfl, ?_, ?_⟩
    · rw [HL2.out, HC2.out]; exact FsV.nil _
    · exact below_setRow HB4.out (Nat.le_succ _) _
end Go.Proofs.YtjnoapbddifcpaaGreatDoor

namespace Go.Proofs.YtjnoapbddifcpaaGreatDoor
set_option maxRecDepth 100000
set_option linter.unusedSimpArgs false
set_option linter.unusedVariables false
open Go.RowKit Go.Joins Go.Deep
/-- An item. -/
structure Itm where
  s : ByteArray
  k : Int
  m : Int
  u : Int
  g : Int
  t : Int
  a : Int
  d : ByteArray
instance : Inhabited Itm := ⟨⟨⟨#[]⟩, 0, 0, 0, 0, 0, 0, ⟨#[]⟩⟩⟩
/-- Its cells. -/
def Itm.cells (x : Itm) : Array Value := #[.string x.s, .int .i64 x.k, .int .u32 x.m, .int .u32 x.u, .int .u32 x.g, .int .i64 x.t, .int .i64 x.a, .string x.d]
def Itm.cellsL (x : Itm) : List Value := [.string x.s, .int .i64 x.k, .int .u32 x.m, .int .u32 x.u, .int .u32 x.g, .int .i64 x.t, .int .i64 x.a, .string x.d]
/-- Items in memory. -/
def Itms (w : World) (A : Option Addr) (l : List Itm) : Prop := 0 < l.length → ∃ b off, A = some ⟨b, off, none⟩ ∧ b < w.heap.size ∧ ∀ (k : Nat) x, l[k]? = some x →
  w.cell? ⟨b, off + k * 8, none⟩ = some (.string x.s) ∧ w.cell? ⟨b, off + k * 8 + 1, none⟩ = some (.int .i64 x.k) ∧ w.cell? ⟨b, off + k * 8 + 2, none⟩ = some (.int .u32 x.m) ∧ w.cell? ⟨b, off + k * 8 + 3, none⟩ = some (.int .u32 x.u) ∧
  w.cell? ⟨b, off + k * 8 + 4, none⟩ = some (.int .u32 x.g) ∧ w.cell? ⟨b, off + k * 8 + 5, none⟩ = some (.int .i64 x.t) ∧ w.cell? ⟨b, off + k * 8 + 6, none⟩ = some (.int .i64 x.a) ∧ w.cell? ⟨b, off + k * 8 + 7, none⟩ = some (.string x.d)
theorem Itms.below {w w' : World} {A : Option Addr} {l : List Itm} (h : Itms w A l) (hb : Below w.heap.size w w') : Itms w' A l := fun h0 => by
  obtain ⟨b, off, e, hlt, hc⟩ := h h0
  refine ⟨b, off, e, Nat.lt_of_lt_of_le hlt hb.size, fun k x hx => ?_⟩
  obtain ⟨c0, c1, c2, c3, c4, c5, c6, c7⟩ := hc k x hx
  exact ⟨(hb.cell hlt).trans c0, (hb.cell hlt).trans c1, (hb.cell hlt).trans c2, (hb.cell hlt).trans c3, (hb.cell hlt).trans c4, (hb.cell hlt).trans c5, (hb.cell hlt).trans c6, (hb.cell hlt).trans c7⟩
theorem Itms.nil (w : World) (A : Option Addr) : Itms w A [] := fun h => absurd h (by decide)
theorem Itms.none {w : World} {l : List Itm} (h : Itms w none l) : l = [] := by
  cases l with
  | nil => rfl
  | cons x l => obtain ⟨b, off, e, _⟩ := h (by simp); cases e
theorem Itms.range {w : World} {b off : Nat} {l : List Itm} (h : Itms w (some ⟨b, off, Option.none⟩) l) (k : Nat) (x : Itm) (hx : l[k]? = some x) : w.rangeAt b (off + k * 8) x.cellsL := by
  obtain ⟨b', off', e, _, hc⟩ := h (by have := (List.getElem?_eq_some_iff.1 hx).1; omega)
  injection e with e
  injection e with e1 e2 _
  subst e1 e2
  obtain ⟨c0, c1, c2, c3, c4, c5, c6, c7⟩ := hc k x hx
  intro j v hv
  have hj : j < 8 := (List.getElem?_eq_some_iff.1 hv).1
  have h8 : j = 0 ∨ j = 1 ∨ j = 2 ∨ j = 3 ∨ j = 4 ∨ j = 5 ∨ j = 6 ∨ j = 7 := by omega
  rcases h8 with rfl | rfl | rfl | rfl | rfl | rfl | rfl | rfl <;> (injection hv with hv; subst hv; assumption)
/-- The cells of a row of items. -/
def cellsI : List Itm → List Value
  | [] => []
  | x :: l => x.cellsL ++ cellsI l
theorem cellsI_app (l m : List Itm) : cellsI (l ++ m) = cellsI l ++ cellsI m := by
  induction l with
  | nil => rfl
  | cons x l ih => simp only [List.cons_append, cellsI, ih, List.append_assoc]
theorem cellsI_len (l : List Itm) : (cellsI l).length = l.length * 8 := by
  induction l with
  | nil => rfl
  | cons x l ih => rw [cellsI, List.length_append, ih, List.length_cons]; show 8 + _ = _; omega
theorem cellsI_one (l : List Itm) : ∀ u ∈ cellsI l, u.oneCell' = true := by
  induction l with
  | nil => intro u h; cases h
  | cons x l ih =>
    intro u h
    rw [cellsI] at h
    rcases List.mem_append.1 h with h | h
    · simp only [Itm.cellsL, List.mem_cons, List.not_mem_nil, or_false] at h
      rcases h with rfl | rfl | rfl | rfl | rfl | rfl | rfl | rfl <;> rfl
    · exact ih u h
theorem cellsI_get : ∀ (l : List Itm) (i : Nat) (x : Itm), l[i]? = some x → ∀ j v, x.cellsL[j]? = some v → (cellsI l)[i * 8 + j]? = some v
  | y :: l, 0, x, h, j, v, hv => by
    injection h with h
    subst h
    rw [cellsI, Nat.zero_mul, Nat.zero_add, List.getElem?_append_left (show j < y.cellsL.length from (List.getElem?_eq_some_iff.1 hv).1)]
    exact hv
  | y :: l, i + 1, x, h, j, v, hv => by
    rw [cellsI, List.getElem?_append_right (show y.cellsL.length ≤ (i + 1) * 8 + j by show 8 ≤ _; omega), show (i + 1) * 8 + j - y.cellsL.length = i * 8 + j by show (i + 1) * 8 + j - 8 = _; omega]
    exact cellsI_get l i x (by simpa using h) j v hv
  | [], i, x, h, _, _, _ => by cases h
theorem info_item : (Tryz.prog.info? 73).map (·.size) = some 8 := by kernel_rfl
theorem parts_item : (Tryz.prog.info? 73).map (fun i => (i.zero, i.size, i.bytes)) = some (some (.agg #[.string ⟨#[]⟩, .int .i64 0, .int .u32 0, .int .u32 0, .int .u32 0, .int .i64 0, .int .i64 0, .string ⟨#[]⟩]), 8, 72) := by kernel_rfl
/-- Items in a block of their own: they are there, and may be written. -/
def IO (w : World) (g : Nat) (l : List Itm) : Prop := g < w.heap.size ∧ ∀ (k : Nat) x, l[k]? = some x → w.rangeAt g (k * 8) x.cellsL ∧ w.there g (k * 8) 8
theorem IO.itms {w : World} {g : Nat} {l : List Itm} (h : IO w g l) : Itms w (some ⟨g, 0, none⟩) l := fun h0 => by
  refine ⟨g, 0, rfl, h.1, fun k x hx => ?_⟩
  have hr := (h.2 k x hx).1
  rw [Nat.zero_add]
  exact ⟨hr 0 _ rfl, hr 1 _ rfl, hr 2 _ rfl, hr 3 _ rfl, hr 4 _ rfl, hr 5 _ rfl, hr 6 _ rfl, hr 7 _ rfl⟩
theorem IO.below {w w' : World} {g : Nat} {l : List Itm} (h : IO w g l) (hb : Below w.heap.size w w') : IO w' g l :=
  ⟨Nat.lt_of_lt_of_le h.1 hb.size, fun k x hx => ⟨fun j v hv => (World.cell?_of_block (hb.block g h.1)).trans ((h.2 k x hx).1 j v hv), fun j hj => by
    have := (h.2 k x hx).2 j hj
    exact ⟨by rw [World.cell?_of_block (hb.block g h.1)]; exact this.1, by rw [World.frozen?_of_block (hb.block g h.1)]; exact this.2⟩⟩⟩
theorem size_setCells (b : Nat) : ∀ (vs : List Value) (o : Nat) (w : World), (w.setCells b o vs).heap.size = w.heap.size
  | [], _, _ => rfl
  | v :: r, o, w => by rw [World.setCells, size_setCells b r]; simp [World.setCell]
theorem IO.store {w : World} {g : Nat} {l : List Itm} (h : IO w g l) (k : Nat) (y : Itm) (hk : k < l.length) : IO (w.setCells g (k * 8) y.cellsL) g (l.set k y) := by
  refine ⟨by rw [size_setCells]; exact h.1, fun j x hx => ?_⟩
  by_cases e : k = j
  · subst e
    rw [List.getElem?_set_self hk] at hx
    injection hx with hx
    subst hx
    have ht := (h.2 k l[k] (List.getElem?_eq_getElem hk)).2
    exact ⟨World.rangeAt_setCells_same _ _ _ _ ht, World.there_setCells ht _ _ _⟩
  · rw [List.getElem?_set_ne e] at hx
    have hj := h.2 j x hx
    have e1 : y.cellsL.length = 8 := rfl
    have e2 : x.cellsL.length = 8 := rfl
    exact ⟨World.rangeAt_setCells_apart hj.1 _ _ _ (by rw [e1, e2]; omega), World.there_setCells hj.2 _ _ _⟩
theorem IO.take {w : World} {g : Nat} {l : List Itm} (h : IO w g l) (n : Nat) : IO w g (l.take n) := ⟨h.1, fun k x hx => h.2 k x (by
  rw [List.getElem?_take] at hx
  split at hx
  · exact hx
  · cases hx)⟩
theorem IO.drewN {w : World} {g : Nat} {l : List Itm} (h : IO w g l) (n : Nat) : IO (w.drewN n) g l := h
theorem below_setCells' {w : World} {b : Nat} {B : Nat} (hb : B ≤ b) : ∀ (vs : List Value) (o : Nat) (w1 : World), Below B w w1 → Below B w (w1.setCells b o vs)
  | [], _, _, h => h
  | v :: r, o, w1, h => by rw [World.setCells]; exact below_setCells' hb r (o + 1) _ (h.setCell (p := ⟨b, o, none⟩) hb v)
theorem io_of_own {w : World} {B g cap : Nat} {T : TypeId} {l : List Itm} (h : w.ownsRow B T 8 (.slice (some ⟨g, 0, none⟩) l.length cap) l.length (cellsI l)) : IO w g l := by
  have hlt := (h.lt g rfl).2
  refine ⟨hlt, fun k x hx => ?_⟩
  have hk : k < l.length := (List.getElem?_eq_some_iff.1 hx).1
  have hr : w.rangeAt g (k * 8) x.cellsL := fun j v hv => by
    have hj : j < 8 := (List.getElem?_eq_some_iff.1 hv).1
    rw [h.cellAt (k * 8 + j) (by omega)]
    exact cellsI_get l k x hx j v hv
  exact ⟨hr, fun j hj => ⟨hr.isSome j hj, h.frozenAt _⟩⟩
theorem eqv_node (k m u g t a : Int) (d : ByteArray) (w : World) : (Op.equalIn 9999 71 (.agg #[.int .i64 k, .int .u32 m, .int .u32 u, .int .u32 g, .int .i64 t, .int .i64 a, .string d]) (.agg #[.int .i64 k, .int .u32 m, .int .u32 u, .int .u32 g, .int .i64 t, .int .i64 a, .string d])).run Tryz.prog w = .ok true w := by
  rw [run_equalIn_struct w 9998 71 _ _ (by kernel_rfl) (by kernel_rfl)]
  simp [go_sem, Program.fieldsOf, Tryz.underlying71]
end Go.Proofs.YtjnoapbddifcpaaGreatDoor

namespace Go.Proofs.YtjnoapbddifcpaaGreatDoor
set_option maxRecDepth 100000
set_option linter.unusedSimpArgs false
set_option linter.unusedVariables false
open Go.RowKit Go.Joins Go.Deep
instance : Inhabited Ent := ⟨⟨⟨#[]⟩, 0, 0, 0, 0, 0, 0, 0, 0, 0, 0, 0, ⟨#[]⟩, ⟨#[]⟩, ⟨#[]⟩, 0, 0⟩⟩
def Ent.cellsL (E : Ent) : List Value := [.string E.nm, .int .u16 (E.made : Nat), .int .u16 (E.need : Nat), .int .u16 (E.flags : Nat), .int .u16 (E.method : Nat), .int .u32 (E.time : Nat), .int .u32 (E.sum : Nat), .int .u64 (E.packed : Nat), .int .u64 (E.size : Nat), .int .u16 (E.inner : Nat), .int .u32 (E.outer : Nat), .int .u64 (E.off : Nat), .string E.ext, .string E.com, .string E.loc, .int .u64 (E.beg : Nat), .int .u64 (E.fin : Nat)]
/-- Entries in memory. -/
def Ents (w : World) (A : Option Addr) (l : List Ent) : Prop := 0 < l.length → ∃ b off, A = some ⟨b, off, none⟩ ∧ b < w.heap.size ∧ ∀ (k : Nat) E, l[k]? = some E → w.rangeAt b (off + k * 17) E.cellsL
theorem Ents.below {w w' : World} {A : Option Addr} {l : List Ent} (h : Ents w A l) (hb : Below w.heap.size w w') : Ents w' A l := fun h0 => by
  obtain ⟨b, off, e, hlt, hc⟩ := h h0
  exact ⟨b, off, e, Nat.lt_of_lt_of_le hlt hb.size, fun k E hE j v hv => (hb.cell (p := ⟨b, off + k * 17 + j, none⟩) hlt).trans (hc k E hE j v hv)⟩
theorem Ents.nil (w : World) (A : Option Addr) : Ents w A [] := fun h => absurd h (by decide)
/-- The cells of one entry. -/
def Ent17 (w : World) (b o : Nat) (E : Ent) : Prop :=
  w.cell? ⟨b, o, none⟩ = some (.string E.nm) ∧ w.cell? ⟨b, o + 1, none⟩ = some (.int .u16 (E.made : Nat)) ∧ w.cell? ⟨b, o + 2, none⟩ = some (.int .u16 (E.need : Nat)) ∧ w.cell? ⟨b, o + 3, none⟩ = some (.int .u16 (E.flags : Nat)) ∧
  w.cell? ⟨b, o + 4, none⟩ = some (.int .u16 (E.method : Nat)) ∧ w.cell? ⟨b, o + 5, none⟩ = some (.int .u32 (E.time : Nat)) ∧ w.cell? ⟨b, o + 6, none⟩ = some (.int .u32 (E.sum : Nat)) ∧ w.cell? ⟨b, o + 7, none⟩ = some (.int .u64 (E.packed : Nat)) ∧
  w.cell? ⟨b, o + 8, none⟩ = some (.int .u64 (E.size : Nat)) ∧ w.cell? ⟨b, o + 9, none⟩ = some (.int .u16 (E.inner : Nat)) ∧ w.cell? ⟨b, o + 10, none⟩ = some (.int .u32 (E.outer : Nat)) ∧ w.cell? ⟨b, o + 11, none⟩ = some (.int .u64 (E.off : Nat)) ∧
  w.cell? ⟨b, o + 12, none⟩ = some (.string E.ext) ∧ w.cell? ⟨b, o + 13, none⟩ = some (.string E.com) ∧ w.cell? ⟨b, o + 14, none⟩ = some (.string E.loc) ∧ w.cell? ⟨b, o + 15, none⟩ = some (.int .u64 (E.beg : Nat)) ∧ w.cell? ⟨b, o + 16, none⟩ = some (.int .u64 (E.fin : Nat))
/-- An entry in a box. -/
theorem ent_box {w : World} {g : Nat} {E : Ent} (h : w.heap[g]? = some (.cells E.cells 32 (0, 0))) : Ent17 w g 0 E :=
  ⟨(cell_of_row _ _ 0 _ _ _ h).trans rfl, (cell_of_row _ _ 1 _ _ _ h).trans rfl, (cell_of_row _ _ 2 _ _ _ h).trans rfl, (cell_of_row _ _ 3 _ _ _ h).trans rfl, (cell_of_row _ _ 4 _ _ _ h).trans rfl, (cell_of_row _ _ 5 _ _ _ h).trans rfl, (cell_of_row _ _ 6 _ _ _ h).trans rfl, (cell_of_row _ _ 7 _ _ _ h).trans rfl, (cell_of_row _ _ 8 _ _ _ h).trans rfl, (cell_of_row _ _ 9 _ _ _ h).trans rfl, (cell_of_row _ _ 10 _ _ _ h).trans rfl, (cell_of_row _ _ 11 _ _ _ h).trans rfl, (cell_of_row _ _ 12 _ _ _ h).trans rfl, (cell_of_row _ _ 13 _ _ _ h).trans rfl, (cell_of_row _ _ 14 _ _ _ h).trans rfl, (cell_of_row _ _ 15 _ _ _ h).trans rfl, (cell_of_row _ _ 16 _ _ _ h).trans rfl⟩
theorem info_entE : (Tryz.prog.info? 32).map (·.size) = some 17 := by kernel_rfl
theorem ent_cells (E : Ent) : E.cellsL.toArray = E.cells := rfl
/-- Is an entry light? -/
def LitE (E : Ent) : Prop := E.nm.size ≤ 3000 ∧ E.ext.size ≤ 3000 ∧ E.com.size ≤ 3000 ∧ E.loc.size ≤ 3000
instance (E : Ent) : Decidable (LitE E) := by unfold LitE; infer_instance
def FewE (l : List Ent) : Prop := ∀ E ∈ l, l.length ≤ 30 ∧ LitE E
instance (l : List Ent) : Decidable (FewE l) := by unfold FewE; infer_instance
/-- What an entry's parts are within. -/
def EntW (E : Ent) : Prop := E.nm.size ≤ maxLen ∧ E.made < 65536 ∧ E.need < 65536 ∧ E.flags < 65536 ∧ E.method < 65536 ∧ E.time < 4294967296 ∧ E.sum < 4294967296 ∧ E.packed < 18446744073709551616 ∧ E.size < 18446744073709551616 ∧ E.inner < 65536 ∧ E.outer < 4294967296 ∧ E.off < 18446744073709551616 ∧ E.ext.size ≤ maxLen ∧ E.com.size ≤ maxLen ∧ E.loc.size ≤ maxLen ∧ E.beg < 18446744073709551616 ∧ E.fin < 18446744073709551616
theorem entOk_of {E : Ent} (h : LitE E) (hw : EntW E) : EntOk E := by
  obtain ⟨h1, h2, h3, h4⟩ := h
  obtain ⟨_, g1, _, g3, _, g5, _, _, _, _, g10, _⟩ := hw
  exact ⟨by omega, by omega, by omega, g3, g1, g10, g5⟩
end Go.Proofs.YtjnoapbddifcpaaGreatDoor
