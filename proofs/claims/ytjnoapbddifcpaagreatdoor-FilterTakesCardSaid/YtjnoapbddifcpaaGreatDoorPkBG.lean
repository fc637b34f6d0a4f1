/-
  Entries: the laws' Light and few.
  Entries: the law's few.
  An entry's fields: find.
  Contracts: ParseOwner.
-/
import Derived.Test.YtjnoapbddifcpaaGreatDoorPkBF
import Derived.BigQuiet
import Derived.Test.YtjnoapbddifcpaaGreatDoorPkBC
import Derived.Lib.Strings

namespace Go.Proofs.YtjnoapbddifcpaaGreatDoor
set_option maxRecDepth 100000
set_option linter.unusedSimpArgs false
set_option linter.unusedVariables false
open Go.RowKit Go.Joins Go.Deep
theorem below_thenE {w w1 w2 : World} (h : Below w.heap.size w w1) (h2 : Below w1.heap.size w1 w2) : Below w.heap.size w w2 := h.trans (h2.mono h.size)
def zE : Array Value := #[.string ⟨#[]⟩, .int .u16 0, .int .u16 0, .int .u16 0, .int .u16 0, .int .u32 0, .int .u32 0, .int .u64 0, .int .u64 0, .int .u16 0, .int .u32 0, .int .u64 0, .string ⟨#[]⟩, .string ⟨#[]⟩, .string ⟨#[]⟩, .int .u64 0, .int .u64 0]
theorem ent_size (E : Ent) : E.cells.size = 17 := rfl
theorem ent_one (E : Ent) : E.cells.all (·.oneCell') = true := by simp [Ent.cells, Value.oneCell']
theorem wpList_load_ent {ops : Array Oper} {rest : List Oper} {op : Oper} {a : Act} {w : World} {Q : Exit → Act → World → Prop} (E : Ent) (hgd : op.guard = none) (x : Operand) (ho : op.op = .load 32 x)
    (b o : Nat) (hx : a.eval x = .pointer (some ⟨b, o, none⟩)) (hc : w.rangeAt b o E.cellsL)
    (h : wpList Tryz.prog ops Q rest (a.put op.dst (.agg E.cells)) w) : wpList Tryz.prog ops Q (op :: rest) a w :=
  wpList_load_mid hgd 32 x ho b o hx E.cellsL _ hc Tryz.underlying32 rfl info_entE h
/-- An entry that was copied into a box. -/
def boxE (w : World) (EC : Array Value) : World := (w.alloc (.cells zE 32)).setRow w.heap.size EC
theorem boxE_row (w : World) (E : Ent) : (boxE w E.cells).heap[w.heap.size]? = some (.cells E.cells 32 (0, 0)) := setRow_heap _ _ _ E.cells _ _ (heap_alloc_new w _)
theorem boxE_below {B : Nat} {w0 w : World} (EC : Array Value) (h : Below B w0 w) (hB : B ≤ w.heap.size) : Below B w0 (boxE w EC) := below_setRow (h.alloc hB _) hB _
theorem wpList_store_ent {ops : Array Oper} {rest : List Oper} {o : Oper} {a : Act} {w : World} {Q : Exit → Act → World → Prop} (EC : Array Value) (hgd : o.guard = none) (x y : Operand) (ho : o.op = .store 32 x y) (hx : a.eval x = .pointer (some ⟨w.heap.size, 0, none⟩)) (hy : a.eval y = .agg EC) (h17 : EC.size = 17) (h1 : EC.all (·.oneCell') = true)
    (h : wpList Tryz.prog ops Q rest (a.put o.dst undef) (boxE w EC)) : wpList Tryz.prog ops Q (o :: rest) a (w.alloc (.cells #[.string ⟨#[]⟩, .int .u16 0, .int .u16 0, .int .u16 0, .int .u16 0, .int .u32 0, .int .u32 0, .int .u64 0, .int .u64 0, .int .u16 0, .int .u32 0, .int .u64 0, .string ⟨#[]⟩, .string ⟨#[]⟩, .string ⟨#[]⟩, .int .u64 0, .int .u64 0] 32)) :=
  wpList_store_row hgd 32 x y ho w.heap.size EC hx hy 32 zE (heap_alloc_new w _) (by rw [h17]; exact info_entE) (by rw [h17]; rfl) h1 h
def mx2 (a b : Int) : Int := if a < b then b else a
theorem run_max4 (P : Program) (w : World) (ts : Array TypeId) (ty : TypeId) (a b c d : Int) : (Builtin.max_ ts ty #[.int .i64 a, .int .i64 b, .int .i64 c, .int .i64 d]).run P w = .ok (.int .i64 (mx2 (mx2 (mx2 a b) c) d)) w := by
  unfold mx2
  simp only [Builtin.max_, List.foldlM]
  simp [Builtin.max2]
set_option maxHeartbeats 4000000 in
theorem lightE_any (E : Ent) (hW : EntW E) (w : World) : Calls Tryz.prog 8 #[.agg E.cells] w fun e w' => e = .returned (.bool (decide (LitE E))) ∧ Below w.heap.size w w' := by
  obtain ⟨s0, _, _, _, _, _, _, _, _, _, _, _, s1, s2, s3, _⟩ := hW
  unfold maxLen at s0 s1 s2 s3
  obtain ⟨W1, hW1⟩ : ∃ W1, W1 = w.alloc (.cells E.cells 32) := ⟨_, rfl⟩
  have HX : Hid (W1.heap[w.heap.size]? = some (.cells E.cells 32 (0, 0))) := by show _ = _; rw [hW1]; exact heap_alloc_new w _
  have HB : Hid (Below w.heap.size w W1) := by show Below _ _ _; rw [hW1]; exact (Below.refl _ _).alloc (Nat.le_refl _) _
  have hEB := ent_box HX.out
  unfold Ent17 at hEB
  simp only [Nat.zero_add] at hEB
  obtain ⟨c0, _, _, _, _, _, _, _, _, _, _, _, c12, c13, c14, _, _⟩ := hEB
  obtain ⟨V, hV⟩ : ∃ V, V = decide (LitE E) := ⟨_, rfl⟩
  rw [← hV]
  have HV := Lib.hid hV
  simp only [Ent.cells] at hW1 ⊢
  have HW1 := Lib.hid hW1
  clear hW1 hV
  go_enter Tryz.func8, Tryz.ntmps8
  go_upto_region 1 with fail
  rw [← HW1.out]
  clear HW1 HX
  have HMX := Lib.hid (fun w1 => run_max4 Tryz.prog w1 #[3, 3, 3, 3] 3 (E.nm.size : Nat) (E.ext.size : Nat) (E.com.size : Nat) (E.loc.size : Nat))
  have hle : decide (mx2 (mx2 (mx2 (E.nm.size : Nat) (E.ext.size : Nat)) (E.com.size : Nat)) (E.loc.size : Nat) ≤ 3000) = V := by
    rw [HV.out]
    by_cases h : LitE E
    · rw [decide_eq_true h]
      refine decide_eq_true ?_
      obtain ⟨h1, h2, h3, h4⟩ := h
      unfold mx2
      repeat' split
      all_goals omega
    · rw [decide_eq_false h]
      refine decide_eq_false fun k => h ?_
      unfold mx2 at k
      unfold LitE
      repeat' split at k
      all_goals (refine ⟨?_, ?_, ?_, ?_⟩ <;> omega)
  generalize mx2 (mx2 (mx2 (E.nm.size : Nat) (E.ext.size : Nat)) (E.com.size : Nat)) (E.loc.size : Nat) = M at *
  have hmm := HMX.out W1
  go_wp2_with fail
  go_ret
  exact ⟨rfl, HB.out⟩
end Go.Proofs.YtjnoapbddifcpaaGreatDoor

namespace Go.Proofs.YtjnoapbddifcpaaGreatDoor
set_option maxRecDepth 100000
set_option linter.unusedSimpArgs false
set_option linter.unusedVariables false
open Go.RowKit Go.Joins Go.Deep
end Go.Proofs.YtjnoapbddifcpaaGreatDoor

namespace Go.Proofs.YtjnoapbddifcpaaGreatDoor
set_option maxRecDepth 100000
set_option linter.unusedSimpArgs false
set_option linter.unusedVariables false
open Go.RowKit Go.Joins Go.Deep
def two {α : Type} (a b : α) (i : Nat) : α := if i = 0 then a else b
theorem join_two (l1 l2 : List Fd) : joinF (two l1 l2) 2 = l1 ++ l2 := rfl
theorem concat2F (gc : Nat) (A1 A2 : Option Addr) (c1 c2 : Nat) (l1 l2 : List Fd) (h1 : l1.length ≤ 16384) (h2 : l2.length ≤ 16384) (w : World) (hgc : gc < w.heap.size)
    (hc0 : w.cell? ⟨gc, 0, none⟩ = some (.slice A1 l1.length c1)) (hc1 : w.cell? ⟨gc, 1, none⟩ = some (.slice A2 l2.length c2)) (hf1 : Fds w A1 l1) (hn1 : Nil0 A1 l1.length c1) (hf2 : Fds w A2 l2) (hn2 : Nil0 A2 l2.length c2) :
    Calls Tryz.prog 114 #[.slice (some ⟨gc, 0, none⟩) 2 2] w fun e w' => ∃ A cap, e = .returned (.slice A (l1 ++ l2).length cap) ∧ Fds w' A (l1 ++ l2) ∧ Below w.heap.size w w' := by
  have hj := join_two l1 l2
  refine (concatF_any gc 2 (two A1 A2) (two c1 c2) (two l1 l2) (by decide) (by rw [hj, List.length_append]; omega) w hgc ?_ ?_ ?_).mono ?_
  · intro i hi
    match i, hi with
    | 0, _ => exact hc0
    | 1, _ => exact hc1
  · intro i hi
    match i, hi with
    | 0, _ => exact hf1
    | 1, _ => exact hf2
  · intro i hi
    match i, hi with
    | 0, _ => exact hn1
    | 1, _ => exact hn2
  · rintro e w' ⟨A, cap, rfl, hF, _, hb⟩
    rw [hj] at hF ⊢
    exact ⟨A, cap, rfl, hF, hb⟩
set_option maxHeartbeats 8000000 in
theorem findE_any (F : Array Value) (l1 l2 : List Fd) (id : Nat) (h1 : l1.length ≤ 16384) (h2 : l2.length ≤ 16384) (w : World) (hF : FsV w F l1 l2) :
    Calls Tryz.prog 75 #[.agg F, .int .u16 (id : Nat)] w fun e w' => e = .returned (.tuple #[.string (fndD (l1 ++ l2) id), .bool (fndB (l1 ++ l2) id)]) ∧ Below w.heap.size w w' := by
  obtain ⟨A1, c1, A2, c2, rfl, hf1, hn1, hf2, hn2⟩ := hF
  obtain ⟨w1, hw1⟩ : ∃ w1, w1 = w.alloc (.cells #[.slice A1 l1.length c1, .slice A2 l2.length c2] 110) := ⟨_, rfl⟩
  obtain ⟨w2, hw2⟩ : ∃ w2, w2 = w1.alloc (.cells #[.slice A1 l1.length c1, .slice A2 l2.length c2] 108) := ⟨_, rfl⟩
  have hb1 : Below w.heap.size w w1 := by rw [hw1]; exact (Below.refl _ _).alloc (Nat.le_refl _) _
  have hb12 : Below w1.heap.size w1 w2 := by rw [hw2]; exact (Below.refl _ _).alloc (Nat.le_refl _) _
  have hsz : w1.heap.size = w.heap.size + 1 := by rw [hw1]; simp only [World.alloc, Array.size_push]
  have hx2 : w2.heap[w.heap.size + 1]? = some (.cells #[.slice A1 l1.length c1, .slice A2 l2.length c2] 108 (0, 0)) := by rw [hw2, ← hsz]; exact heap_alloc_new w1 _
  have hb2 := below_then hb1 hb12
  have HCC := Lib.hid (concat2F (w.heap.size + 1) A1 A2 c1 c2 l1 l2 h1 h2 w2 (lt_of_block hx2) (cell_of_row _ _ 0 _ _ _ hx2) (cell_of_row _ _ 1 _ _ _ hx2) (hf1.below (Nat.le_refl _) hb2) hn1 (hf2.below (Nat.le_refl _) hb2) hn2)
  have HLL : Hid ((l1 ++ l2).length ≤ 1000000) := by show _ ≤ _; rw [List.length_append]; omega
  have HB2 := Lib.hid hb2
  rw [hw1] at hw2
  have HW2 := Lib.hid hw2
  generalize l1 ++ l2 = L at *
  clear hw1 hw2 hb1 hb12 hsz hx2 hf1 hf2 hn1 hn2 hb2
  go_enter Tryz.func75, Tryz.ntmps75
  go_wp2_with fail
  rw [← HW2.out]
  clear HW2
  refine HCC.out.mono ?_; rintro e w3 ⟨A, cap, rfl, hF, hb3⟩
  have HFI := Lib.hid (find13_any A cap L id w3 hF HLL.out)
  have HB3 := Lib.hid (below_then HB2.out hb3)
  clear HCC hF hb3 HB2
  go_wp2_with fail
  refine HFI.out.mono ?_; rintro e w4 ⟨rfl, hb4⟩
  have HB4 := Lib.hid (below_then HB3.out hb4)
  clear HFI HB3 hb4
  go_wp2_with fail
  go_ret2
  exact ⟨rfl, HB4.out⟩
end Go.Proofs.YtjnoapbddifcpaaGreatDoor

namespace Go.Proofs.YtjnoapbddifcpaaGreatDoor
set_option maxRecDepth 100000
open Go.RowKit Go.Joins

section
variable (s : ByteArray)
def oN1 : Nat := (nums s).getD 1 0
def oN2 : Nat := (nums s).getD (2 + oN1 s) 0
def oU : Nat := numL (((nums s).drop 2).take (oN1 s))
def oG : Nat := numL (((nums s).drop (3 + oN1 s)).take (oN2 s))
def oT : Bool := decide (s.size = 3 + oN1 s + oN2 s)
def oOk : Bool := decide (s.size = 3 + oN1 s + oN2 s ∧ (nums s).getD 0 0 = 1 ∧ oN1 s ≤ 8 ∧ oN2 s ≤ 8)
def oFit : Bool := decide (oU s ≤ 4294967295 ∧ oG s ≤ 4294967295)
def oRes : Value := if oOk s = true then (if oFit s = true then .tuple #[.int .u32 (oU s : Nat), .int .u32 (oG s : Nat), .int .i64 0] else .tuple #[.int .u32 0, .int .u32 0, .int .i64 8]) else .tuple #[.int .u32 0, .int .u32 0, .int .i64 24]
end
theorem getD_lt (s : ByteArray) (i : Nat) : (nums s).getD i 0 < 256 := by
  rw [List.getD_eq_getElem?_getD]
  cases h : (nums s)[i]? with
  | none => simp
  | some x => exact nums_lt s x (List.mem_of_getElem? h)
theorem piece_nums_size (s : ByteArray) (a k : Nat) (h : a + k ≤ s.size) : (piece s a 0 (k : Nat)).size = k := by
  rw [← nums_len, nums_piece s a k h, List.length_take, List.length_drop, nums_len]
  omega
theorem piece_one (s : ByteArray) (a : Nat) (h : a + 1 ≤ s.size) : piece s a 0 (1 : Nat) = text [(nums s).getD a 0] := by
  apply nums_inj
  have hl : a < (nums s).length := by rw [nums_len]; omega
  rw [nums_piece s a 1 h, nums_text _ (by intro x hx; simp at hx; subst hx; exact getD_lt s a), List.drop_eq_getElem_cons hl]
  simp only [List.take_succ_cons, List.take_zero, List.getD_eq_getElem?_getD, List.getElem?_eq_getElem hl, Option.getD_some]
theorem piece_le (s : ByteArray) (a e : Nat) (n : Int) : (piece s a e n).size ≤ s.size := by
  unfold piece
  split
  · rw [ByteArray.size_extract]; omega
  · exact Nat.zero_le _

theorem tx_ne8 {T1 T : ByteArray} (h : T1 ≠ T) : (T1.toList == T.toList) = false := by
  rw [beq_eq_false_iff_ne, Lib.toList_data, Lib.toList_data]
  intro e
  exact h (ByteArray.ext (Array.toList_inj.1 e))
theorem own_case (s : ByteArray) {a1 e1 a2 e2 m1 a3 e3 v1 f1 a4 e4 m2 a5 e5 v2 f2 : Nat} {p1 p2 p3 : ByteArray}
    (A1 : atB s 0 0 1 = a1) (E1 : errB s 0 0 1 = e1) (P1 : piece s 0 0 1 = p1) (A2 : atB s a1 e1 (1 : Nat) = a2) (E2 : errB s a1 e1 (1 : Nat) = e2) (M1 : numB s a1 e1 1 = m1)
    (A3 : atB s a2 e2 (m1 : Nat) = a3) (E3 : errB s a2 e2 (m1 : Nat) = e3) (P2 : piece s a2 e2 (m1 : Nat) = p2) (V1 : nvB p2 = v1) (F1 : neB p2 = f1)
    (A4 : atB s a3 e3 (1 : Nat) = a4) (E4 : errB s a3 e3 (1 : Nat) = e4) (M2 : numB s a3 e3 1 = m2) (A5 : atB s a4 e4 (m2 : Nat) = a5) (E5 : errB s a4 e4 (m2 : Nat) = e5) (P3 : piece s a4 e4 (m2 : Nat) = p3) (V2 : nvB p3 = v2) (F2 : neB p3 = f2) :
    (thrB s a5 e5 = false ∧ oRes s = .tuple #[.int .u32 0, .int .u32 0, .int .i64 24]) ∨ (thrB s a5 e5 = true ∧ p1 = text [(nums s).getD 0 0] ∧ v1 = (if oN1 s ≤ 8 then oU s else 0) ∧ f1 = (if oN1 s ≤ 8 then 0 else 5) ∧ v2 = (if oN2 s ≤ 8 then oG s else 0) ∧ f2 = (if oN2 s ≤ 8 then 0 else 5) ∧ s.size = 3 + oN1 s + oN2 s) := by
  have hn1 := getD_lt s 1
  by_cases hT : s.size = 3 + oN1 s + oN2 s
  · right
    have h1 : 1 ≤ s.size := by omega
    have a1' : a1 = 1 := by rw [← A1]; exact atB_yes s 0 1 (by omega)
    have e1' : e1 = 0 := by rw [← E1]; exact errB_yes s 0 1 (by omega)
    subst a1' e1'
    have a2' : a2 = 2 := by rw [← A2]; exact atB_yes s 1 1 (by omega)
    have e2' : e2 = 0 := by rw [← E2]; exact errB_yes s 1 1 (by omega)
    have m1' : m1 = oN1 s := by rw [← M1]; exact numB_one s 1 (by omega)
    subst a2' e2' m1'
    have a3' : a3 = 2 + oN1 s := by rw [← A3]; exact atB_yes s 2 _ (by omega)
    have e3' : e3 = 0 := by rw [← E3]; exact errB_yes s 2 _ (by omega)
    subst a3' e3'
    have a4' : a4 = 3 + oN1 s := by rw [← A4]; exact (atB_yes s (2 + oN1 s) 1 (by omega)).trans (by omega)
    have e4' : e4 = 0 := by rw [← E4]; exact errB_yes s _ 1 (by omega)
    have m2' : m2 = oN2 s := by rw [← M2]; exact numB_one s (2 + oN1 s) (by omega)
    subst a4' e4' m2'
    have a5' : a5 = s.size := by rw [← A5]; exact (atB_yes s (3 + oN1 s) _ (by omega)).trans (by omega)
    have e5' : e5 = 0 := by rw [← E5]; exact errB_yes s _ _ (by omega)
    subst a5' e5'
    have z2 : p2.size = oN1 s := by rw [← P2]; exact piece_nums_size s 2 _ (by omega)
    have z3 : p3.size = oN2 s := by rw [← P3]; exact piece_nums_size s (3 + oN1 s) _ (by omega)
    have y2 : numL (nums p2) = oU s := by rw [← P2, nums_piece s 2 _ (by omega)]; rfl
    have y3 : numL (nums p3) = oG s := by rw [← P3, nums_piece s (3 + oN1 s) _ (by omega)]; rfl
    refine ⟨decide_eq_true ⟨rfl, rfl⟩, ?_, ?_, ?_, ?_, ?_, hT⟩
    · rw [← P1]; exact piece_one s 0 (by omega)
    · rw [← V1]; unfold nvB; rw [z2, y2]
    · rw [← F1]; unfold neB; rw [z2]
    · rw [← V2]; unfold nvB; rw [z3, y3]
    · rw [← F2]; unfold neB; rw [z3]
  · left
    refine ⟨decide_eq_false fun h => hT ?_, ?_⟩
    · obtain ⟨he, ha⟩ := h
      rw [he] at E5
      obtain ⟨rfl, _, k5, j5⟩ := errB_zero E5
      obtain ⟨rfl, _, k4, j4⟩ := errB_zero E4
      obtain ⟨rfl, _, k3, j3⟩ := errB_zero E3
      obtain ⟨rfl, _, k2, j2⟩ := errB_zero E2
      obtain ⟨_, _, k1, j1⟩ := errB_zero E1
      rw [Int.toNat_natCast] at *
      have a1' : a1 = 1 := by rw [← A1, j1]; rfl
      subst a1'
      have a2' : a2 = 2 := by rw [← A2, j2]
      subst a2'
      have m1' : m1 = oN1 s := by rw [← M1]; exact numB_one s 1 (by omega)
      subst m1'
      have a3' : a3 = 2 + oN1 s := by rw [← A3, j3]
      subst a3'
      have a4' : a4 = 3 + oN1 s := by rw [← A4, j4]; omega
      subst a4'
      have m2' : m2 = oN2 s := by rw [← M2]; exact numB_one s (2 + oN1 s) (by omega)
      subst m2'
      rw [← A5, j5] at ha
      omega
    · unfold oRes
      rw [if_neg]
      intro h
      exact hT (of_decide_eq_true h).1
set_option maxHeartbeats 1000000 in
theorem parseOwner_any (s : ByteArray) (hs : s.size ≤ maxLen) (w : World) :
    Calls Tryz.prog 76 #[.string s] w fun e w' => e = .returned (oRes s) ∧ Below w.heap.size w w' := by
  have HL := Lib.hid hs
  have HN := Lib.hid (fun (p : ByteArray) (h : p.size ≤ s.size) (w : World) => number_gen p (Nat.le_trans h hs) w)
  go_enter Tryz.func76, Tryz.ntmps76
  go_wp2_with fail
  refine (over_ci s _).mono ?_; rintro r wF ⟨rfl, C0⟩
  go_wp2_with fail
  refine (take_ci 1 HL.out (Nat.zero_le _) (by decide) C0).mono ?_; rintro r x1 ⟨rfl, C1⟩
  have hle1 := atB_le s 0 0 1 (Nat.zero_le _)
  generalize hA1 : atB s 0 0 1 = a1 at *
  generalize hE1 : errB s 0 0 1 = e1 at *
  generalize hP1 : piece s 0 0 1 = p1 at *
  have A1 := Lib.hid hA1; have E1 := Lib.hid hE1; have P1 := Lib.hid hP1
  clear hA1 hE1 hP1
  go_wp2_with fail
  refine (one_ci HL.out hle1 C1).mono ?_; rintro r x2 ⟨rfl, C2⟩
  have hle2 := atB_le s a1 e1 (1 : Nat) hle1
  have hm1 := numB_lt s a1 e1 1
  generalize hA2 : atB s a1 e1 (1 : Nat) = a2 at *
  generalize hE2 : errB s a1 e1 (1 : Nat) = e2 at *
  generalize hM1 : numB s a1 e1 1 = m1 at *
  have A2 := Lib.hid hA2; have E2 := Lib.hid hE2; have M1 := Lib.hid hM1
  clear hA2 hE2 hM1
  go_wp2_with fail
  refine (take_ci (m1 : Nat) HL.out hle2 (WalkArith.wf_i64 (by omega)) C2).mono ?_; rintro r x3 ⟨rfl, C3⟩
  have hle3 := atB_le s a2 e2 (m1 : Nat) hle2
  have hp2 := piece_le s a2 e2 (m1 : Nat)
  generalize hA3 : atB s a2 e2 (m1 : Nat) = a3 at *
  generalize hE3 : errB s a2 e2 (m1 : Nat) = e3 at *
  generalize hP2 : piece s a2 e2 (m1 : Nat) = p2 at *
  have A3 := Lib.hid hA3; have E3 := Lib.hid hE3; have P2 := Lib.hid hP2
  clear hA3 hE3 hP2
  go_wp2_with fail
  refine (HN.out p2 hp2 _).mono ?_; rintro r x4 ⟨rfl, rfl⟩
  have hv1 := nvB_lt p2
  generalize hV1 : nvB p2 = v1 at *
  generalize hF1 : neB p2 = f1 at *
  have V1 := Lib.hid hV1; have F1 := Lib.hid hF1
  clear hV1 hF1
  go_wp2_with fail
  refine (one_ci HL.out hle3 C3).mono ?_; rintro r x5 ⟨rfl, C4⟩
  have hle4 := atB_le s a3 e3 (1 : Nat) hle3
  have hm2 := numB_lt s a3 e3 1
  generalize hA4 : atB s a3 e3 (1 : Nat) = a4 at *
  generalize hE4 : errB s a3 e3 (1 : Nat) = e4 at *
  generalize hM2 : numB s a3 e3 1 = m2 at *
  have A4 := Lib.hid hA4; have E4 := Lib.hid hE4; have M2 := Lib.hid hM2
  clear hA4 hE4 hM2
  go_wp2_with fail
  refine (take_ci (m2 : Nat) HL.out hle4 (WalkArith.wf_i64 (by omega)) C4).mono ?_; rintro r x6 ⟨rfl, C5⟩
  have hle5 := atB_le s a4 e4 (m2 : Nat) hle4
  have hp3 := piece_le s a4 e4 (m2 : Nat)
  generalize hA5 : atB s a4 e4 (m2 : Nat) = a5 at *
  generalize hE5 : errB s a4 e4 (m2 : Nat) = e5 at *
  generalize hP3 : piece s a4 e4 (m2 : Nat) = p3 at *
  have A5 := Lib.hid hA5; have E5 := Lib.hid hE5; have P3 := Lib.hid hP3
  clear hA5 hE5 hP3
  go_wp2_with fail
  refine (HN.out p3 hp3 _).mono ?_; rintro r x7 ⟨rfl, rfl⟩
  have hv2 := nvB_lt p3
  generalize hV2 : nvB p3 = v2 at *
  generalize hF2 : neB p3 = f2 at *
  have V2 := Lib.hid hV2; have F2 := Lib.hid hF2
  clear hV2 hF2
  go_wp2_with fail
  refine (through_ci HL.out hle5 C5).mono ?_; rintro r x8 ⟨rfl, d, rfl⟩
  have B := Lib.hid (below_drewN C5.bel d)
  have hcase : (thrB s a5 e5 = false ∧ oRes s = .tuple #[.int .u32 0, .int .u32 0, .int .i64 24]) ∨ (thrB s a5 e5 = true ∧ p1 = text [(nums s).getD 0 0] ∧ v1 = (if oN1 s ≤ 8 then oU s else 0) ∧ f1 = (if oN1 s ≤ 8 then 0 else 5) ∧ v2 = (if oN2 s ≤ 8 then oG s else 0) ∧ f2 = (if oN2 s ≤ 8 then 0 else 5) ∧ s.size = 3 + oN1 s + oN2 s) := by
    exact own_case s A1.out E1.out P1.out A2.out E2.out M1.out A3.out E3.out P2.out V1.out F1.out A4.out E4.out M2.out A5.out E5.out P3.out V2.out F2.out
  generalize thrB s a5 e5 = t at *
  clear C0 C1 C2 C3 C4 C5 A1 A2 A3 A4 A5 E1 E2 E3 E4 E5 P1 P2 P3 M1 M2 V1 V2 F1 F2
  rcases hcase with ⟨rfl, hr⟩ | ⟨rfl, rfl, h1, h2, h3, h4, h5⟩
  · have HR := Lib.hid hr
    clear hr
    go_wp2_with fail
    go_ret3
    exact ⟨by rw [HR.out]; rfl, B.out⟩
  · have H1 := Lib.hid h1; have H2 := Lib.hid h2; have H3 := Lib.hid h3; have H4 := Lib.hid h4; have H5 := Lib.hid h5
    clear h1 h2 h3 h4 h5
    by_cases c1 : (nums s).getD 0 0 = 1
    · rw [c1, show text [1] = ⟨#[1]⟩ from rfl]
      by_cases c2 : oN1 s ≤ 8
      · rw [if_pos c2] at H1 H2
        have h1 := H1.out; have h2 := H2.out
        subst h2
        by_cases c3 : oN2 s ≤ 8
        · rw [if_pos c3] at H3 H4
          have h4 := H4.out
          subst h4
          have HO : Hid (oOk s = true) := decide_eq_true ⟨H5.out, c1, c2, c3⟩
          clear c1 c2 c3 h1
          by_cases c4 : max v1 v2 ≤ 4294967295
          · have c5 : v1 ≤ 4294967295 := by omega
            have c6 : v2 ≤ 4294967295 := by omega
            have HFi : Hid (oFit s = true) := decide_eq_true ⟨by rw [← H1.out]; exact c5, by rw [← H3.out]; exact c6⟩
            clear c4
            have HR : Hid (oRes s = .tuple #[.int .u32 (v1 : Nat), .int .u32 (v2 : Nat), .int .i64 0]) := by
              show _ = _
              unfold oRes
              rw [HO.out, HFi.out, H1.out, H3.out]
              rfl
            have hm : ¬ (4294967295 : Nat) < v1 := by omega
            have hm2 : ¬ (4294967295 : Nat) < v2 := by omega
            go_wp2_with fail
            all_goals
              go_ret3
              exact ⟨by rw [HR.out]; rfl, B.out⟩
          · have HFi : Hid (oFit s = false) := decide_eq_false (by rw [← H1.out, ← H3.out]; omega)
            have HR : Hid (oRes s = .tuple #[.int .u32 0, .int .u32 0, .int .i64 8]) := by
              show _ = _
              unfold oRes
              rw [HO.out, HFi.out]
              rfl
            by_cases c5 : v1 < v2
            · have c6 : 4294967295 < v2 := by omega
              clear c4
              go_wp2_with fail
              go_ret3
              exact ⟨by rw [HR.out]; rfl, B.out⟩
            · have c6 : 4294967295 < v1 := by omega
              clear c4
              go_wp2_with fail
              go_ret3
              exact ⟨by rw [HR.out]; rfl, B.out⟩
        · rw [if_neg c3] at H3 H4
          have h4 := H4.out
          subst h4
          have HO : Hid (oOk s = false) := decide_eq_false fun h => c3 h.2.2.2
          clear c1 c2 c3 h1
          go_wp2_with fail
          go_ret3
          exact ⟨by unfold oRes; rw [HO.out]; rfl, B.out⟩
      · rw [if_neg c2] at H1 H2
        have h2 := H2.out
        subst h2
        have HO : Hid (oOk s = false) := decide_eq_false fun h => c2 h.2.2.1
        clear c1 c2
        go_wp2_with fail
        go_ret3
        exact ⟨by unfold oRes; rw [HO.out]; rfl, B.out⟩
    · have HO : Hid (oOk s = false) := decide_eq_false fun h => c1 h.2.1
      have hx := getD_lt s 0
      have hne : text [(nums s).getD 0 0] ≠ ⟨#[1]⟩ := fun h => c1 (by
        have h2 := congrArg nums h
        rw [nums_text _ (by intro x hx; simp at hx; subst hx; exact getD_lt s 0)] at h2
        exact List.head_eq_of_cons_eq h2)
      generalize text [(nums s).getD 0 0] = p1 at *
      have hb : (p1.toList == [1]) = false := by
        have h := tx_ne8 hne
        rw [Lib.toList_data ⟨#[1]⟩] at h
        exact h
      clear hne c1
      go_wp2_with fail
      go_ret3
      exact ⟨by unfold oRes; rw [HO.out]; rfl, B.out⟩
end Go.Proofs.YtjnoapbddifcpaaGreatDoor
