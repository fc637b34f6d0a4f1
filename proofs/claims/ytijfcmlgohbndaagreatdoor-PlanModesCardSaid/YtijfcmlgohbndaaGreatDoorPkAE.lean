/-
  Entries: the law's few.
  An entry's fields: find.
  Contracts: ParseOwner.
  Contracts: the document's ParseOwner.
  Contracts: ParseOld on both sides, the document's PrintOwner, the chapter's example.
-/
import Derived.Test.YtijfcmlgohbndaaGreatDoorPkAD
import Derived.Test.YtijfcmlgohbndaaGreatDoorPkAB
import Derived.Lib.Strings

namespace Go.Proofs.YtijfcmlgohbndaaGreatDoor
set_option maxRecDepth 100000
set_option linter.unusedSimpArgs false
set_option linter.unusedVariables false
open Go.RowKit Go.Joins Go.Deep
set_option maxHeartbeats 8000000 in
theorem fewE_any (A : Option Addr) (cap : Nat) (l : List Ent) (w : World) (hR : Ents w A l) (hl : l.length ≤ 9223372036854775807) (hW : ∀ E ∈ l, EntW E) :
    Calls Tryz.prog 5 #[.slice A l.length cap] w fun e w' => e = .returned (.bool (decide (FewE l))) ∧ Below w.heap.size w w' := by
  have hie := info_entE
  have HR := Lib.hid hR
  have HWE := Lib.hid hW
  obtain ⟨V, hV⟩ : ∃ V, V = decide (FewE l) := ⟨_, rfl⟩
  rw [← hV]
  have HV := Lib.hid hV
  clear hR hV hW
  go_enter Tryz.func5, Tryz.ntmps5
  go_wp2_with fail
  go_loopw [7] (fun v7 wr => ∃ k : Nat, k ≤ l.length ∧ v7 = .int .i64 (k : Nat) ∧ Hid (∀ x ∈ l.take k, l.length ≤ 30 ∧ LitE x) ∧ Hid (Below w.heap.size w wr)) (fun v _ => l.length - (intOf v).toNat)
  case atStart => exact ⟨0, Nat.zero_le _, rfl, (fun s hs => by cases hs), Below.refl _ _⟩
  case round =>
    obtain ⟨k, hk, rfl, HS, HB⟩ := hrel
    by_cases hlt : k < l.length
    · have hd : decide ((k : Int) < (l.length : Int)) = true := decide_eq_true (by omega)
      obtain ⟨b, off, rfl, hb, hcc⟩ := (HR.out.below HB.out) (by omega)
      have HRG := Lib.hid (hcc k l[k] (List.getElem?_eq_getElem hlt))
      have HMEM : Hid (l[k] ∈ l) := List.getElem_mem hlt
      have HTK : Hid (l.take (k + 1) = l.take k ++ [l[k]]) := List.take_succ_eq_append_getElem hlt
      have HX1 := Lib.hid (boxE_row wr l[k])
      have HB1 := Lib.hid (boxE_below l[k].cells HB.out HB.out.size)
      have HLI := Lib.hid (lightE_any l[k] (HWE.out _ HMEM.out) (boxE wr l[k].cells))
      generalize l[k] = E at *
      have H17 := Lib.hid (ent_size E)
      have HON := Lib.hid (ent_one E)
      have HIE : Hid ((Tryz.prog.info? 51).map (·.size) = some E.cells.size) := info_entE
      have HLD : Hid (∀ {ops : Array Oper} {rest : List Oper} {op : Oper} {a : Act} {w : World} {Q : Exit → Act → World → Prop} (hgd : op.guard = none) (x : Operand) (ho : op.op = .load 51 x)
        (b o : Nat) (hx : a.eval x = .pointer (some ⟨b, o, none⟩)) (hc : w.rangeAt b o E.cellsL)
        (h : wpList Tryz.prog ops Q rest (a.put op.dst (.agg E.cells)) w), wpList Tryz.prog ops Q (op :: rest) a w) := fun hgd x ho b o hx hc h => wpList_load_ent E hgd x ho b o hx hc h
      generalize E.cells = EC at *
      clear hcc HB
      go_upto_region 4 with (first | (refine HLD.out rfl (.tmp 9) rfl b (off + k * 17) rfl HRG.out ?_) | (refine wpList_store_ent EC rfl (.tmp 4) (.tmp 10) rfl rfl rfl H17.out HON.out ?_))
      generalize wr.heap.size = gx at *
      generalize boxE wr EC = W1 at *
      clear HLD HRG
      by_cases h30 : 30 < l.length
      · have e1 : decide ((30 : Int) < (l.length : Int)) = true := decide_eq_true (by omega)
        have HF : Hid (V = false) := by
          show V = false
          rw [HV.out]
          exact decide_eq_false (fun h => by have := (h _ HMEM.out).1; omega)
        clear HR HS HTK HMEM HV HLI HX1
        go_wp2_with fail
        go_ret
        exact ⟨by rw [HF.out]; rfl, HB1.out⟩
      have e1 : decide ((30 : Int) < (l.length : Int)) = false := decide_eq_false (by omega)
      go_step
      go_step
      go_simp
      rename_i hK
      refine hK _ _ ?_
      clear hK
      go_step
      go_simp
      rename_i hK
      refine hK _ _ ?_
      clear hK
      go_step
      go_simp
      rename_i hK
      refine hK _ _ ?_
      clear hK
      go_step
      go_simp
      rename_i hK
      refine hK _ _ ?_
      clear hK
      refine wpList_load_rowG (by rfl) 51 (.tmp 4) rfl gx (by rfl) 51 _ (0, 0) _ HX1.out Tryz.underlying51 rfl HIE.out ?_
      go_wp2_with fail
      refine HLI.out.mono ?_; rintro e w2 ⟨rfl, hb2⟩
      have HB2 := Lib.hid (below_thenE HB1.out hb2)
      clear hb2 HLI HX1
      by_cases hL : LitE E
      · have e2 : decide (LitE E) = true := decide_eq_true hL
        rw [e2]
        have HS2 : Hid (∀ y ∈ l.take (k + 1), l.length ≤ 30 ∧ LitE y) := fun y hy => by
          rw [HTK.out, List.mem_append] at hy
          rcases hy with hy | hy
          · exact HS.out y hy
          · obtain rfl : y = _ := by simpa using hy
            exact ⟨by omega, hL⟩
        have hk62 : (k : Int) + 1 < 9223372036854775807 := by omega
        clear HR HTK HMEM HV HS e2 hL
        go_wp2_with fail
        go_roundw
        case rel => exact ⟨k + 1, by omega, by go_num, HS2, HB2⟩
        case measure => simp [intOf]; omega
      · have e2 : decide (LitE E) = false := decide_eq_false hL
        rw [e2]
        have HF : Hid (V = false) := by
          show V = false
          rw [HV.out]
          exact decide_eq_false (fun h => hL (h _ HMEM.out).2)
        clear HR HTK HMEM HV HS e2
        go_wp2_with fail
        go_ret
        exact ⟨by rw [HF.out]; rfl, HB2.out⟩
    · obtain rfl : k = l.length := by omega
      have hd : decide ((l.length : Int) < (l.length : Int)) = false := decide_eq_false (by omega)
      have HF : Hid (V = true) := by
        show V = true
        rw [HV.out]
        refine decide_eq_true (fun x hx => ?_)
        exact HS.out x (by rw [List.take_length]; exact hx)
      go_wp2_with fail
      go_ret
      exact ⟨by rw [HF.out]; rfl, HB.out⟩
end Go.Proofs.YtijfcmlgohbndaaGreatDoor

namespace Go.Proofs.YtijfcmlgohbndaaGreatDoor
set_option maxRecDepth 100000
set_option linter.unusedSimpArgs false
set_option linter.unusedVariables false
open Go.RowKit Go.Joins Go.Deep
def two {α : Type} (a b : α) (i : Nat) : α := if i = 0 then a else b
theorem join_two (l1 l2 : List Fd) : joinF (two l1 l2) 2 = l1 ++ l2 := rfl
theorem concat2F (gc : Nat) (A1 A2 : Option Addr) (c1 c2 : Nat) (l1 l2 : List Fd) (h1 : l1.length ≤ 16384) (h2 : l2.length ≤ 16384) (w : World) (hgc : gc < w.heap.size)
    (hc0 : w.cell? ⟨gc, 0, none⟩ = some (.slice A1 l1.length c1)) (hc1 : w.cell? ⟨gc, 1, none⟩ = some (.slice A2 l2.length c2)) (hf1 : Fds w A1 l1) (hn1 : Nil0 A1 l1.length c1) (hf2 : Fds w A2 l2) (hn2 : Nil0 A2 l2.length c2) :
    Calls Tryz.prog 67 #[.slice (some ⟨gc, 0, none⟩) 2 2] w fun e w' => ∃ A cap, e = .returned (.slice A (l1 ++ l2).length cap) ∧ Fds w' A (l1 ++ l2) ∧ Below w.heap.size w w' := by
  have hj := join_two l1 l2
  refine (concatF_any gc 2 (two A1 A2) (two c1 c2) (two l1 l2) (by decide) (by rw [hj, List.length_append]; omega) w hgc ?_ ?_ ?_).mono ?_
  · intro i hi
    match i, hi with
    | 0, _ => exact hc0
    | 1, _ => exact hc1
  · intro i hi
    match i, hi with
    | 0, _ => exact hf1
    | 1, _ => exact hf2
  · intro i hi
    match i, hi with
    | 0, _ => exact hn1
    | 1, _ => exact hn2
  · rintro e w' ⟨A, cap, rfl, hF, _, hb⟩
    rw [hj] at hF ⊢
    exact ⟨A, cap, rfl, hF, hb⟩
set_option maxHeartbeats 8000000 in
theorem findE_any (F : Array Value) (l1 l2 : List Fd) (id : Nat) (h1 : l1.length ≤ 16384) (h2 : l2.length ≤ 16384) (w : World) (hF : FsV w F l1 l2) :
    Calls Tryz.prog 41 #[.agg F, .int .u16 (id : Nat)] w fun e w' => e = .returned (.tuple #[.string (fndD (l1 ++ l2) id), .bool (fndB (l1 ++ l2) id)]) ∧ Below w.heap.size w w' := by
  obtain ⟨A1, c1, A2, c2, rfl, hf1, hn1, hf2, hn2⟩ := hF
  obtain ⟨w1, hw1⟩ : ∃ w1, w1 = w.alloc (.cells #[.slice A1 l1.length c1, .slice A2 l2.length c2] 69) := ⟨_, rfl⟩
  obtain ⟨w2, hw2⟩ : ∃ w2, w2 = w1.alloc (.cells #[.slice A1 l1.length c1, .slice A2 l2.length c2] 67) := ⟨_, rfl⟩
  have hb1 : Below w.heap.size w w1 := by rw [hw1]; exact (Below.refl _ _).alloc (Nat.le_refl _) _
  have hb12 : Below w1.heap.size w1 w2 := by rw [hw2]; exact (Below.refl _ _).alloc (Nat.le_refl _) _
  have hsz : w1.heap.size = w.heap.size + 1 := by rw [hw1]; simp only [World.alloc, Array.size_push]
  have hx2 : w2.heap[w.heap.size + 1]? = some (.cells #[.slice A1 l1.length c1, .slice A2 l2.length c2] 67 (0, 0)) := by rw [hw2, ← hsz]; exact heap_alloc_new w1 _
  have hb2 := below_then hb1 hb12
  have HCC := Lib.hid (concat2F (w.heap.size + 1) A1 A2 c1 c2 l1 l2 h1 h2 w2 (lt_of_block hx2) (cell_of_row _ _ 0 _ _ _ hx2) (cell_of_row _ _ 1 _ _ _ hx2) (hf1.below (Nat.le_refl _) hb2) hn1 (hf2.below (Nat.le_refl _) hb2) hn2)
  have HLL : Hid ((l1 ++ l2).length ≤ 1000000) := by show _ ≤ _; rw [List.length_append]; omega
  have HB2 := Lib.hid hb2
  rw [hw1] at hw2
  have HW2 := Lib.hid hw2
  generalize l1 ++ l2 = L at *
  clear hw1 hw2 hb1 hb12 hsz hx2 hf1 hf2 hn1 hn2 hb2
  go_enter Tryz.func41, Tryz.ntmps41
  go_wp2_with fail
  rw [← HW2.out]
  clear HW2
  refine HCC.out.mono ?_; rintro e w3 ⟨A, cap, rfl, hF, hb3⟩
  have HFI := Lib.hid (find13_any A cap L id w3 hF HLL.out)
  have HB3 := Lib.hid (below_then HB2.out hb3)
  clear HCC hF hb3 HB2
  go_wp2_with fail
  refine HFI.out.mono ?_; rintro e w4 ⟨rfl, hb4⟩
  have HB4 := Lib.hid (below_then HB3.out hb4)
  clear HFI HB3 hb4
  go_wp2_with fail
  go_ret2
  exact ⟨rfl, HB4.out⟩
end Go.Proofs.YtijfcmlgohbndaaGreatDoor

namespace Go.Proofs.YtijfcmlgohbndaaGreatDoor
set_option maxRecDepth 100000
open Go.RowKit Go.Joins

section
variable (s : ByteArray)
def oN1 : Nat := (nums s).getD 1 0
def oN2 : Nat := (nums s).getD (2 + oN1 s) 0
def oU : Nat := numL (((nums s).drop 2).take (oN1 s))
def oG : Nat := numL (((nums s).drop (3 + oN1 s)).take (oN2 s))
def oT : Bool := decide (s.size = 3 + oN1 s + oN2 s)
def oOk : Bool := decide (s.size = 3 + oN1 s + oN2 s ∧ (nums s).getD 0 0 = 1 ∧ oN1 s ≤ 8 ∧ oN2 s ≤ 8)
def oFit : Bool := decide (oU s ≤ 4294967295 ∧ oG s ≤ 4294967295)
def oRes : Value := if oOk s = true then (if oFit s = true then .tuple #[.int .u32 (oU s : Nat), .int .u32 (oG s : Nat), .int .i64 0] else .tuple #[.int .u32 0, .int .u32 0, .int .i64 8]) else .tuple #[.int .u32 0, .int .u32 0, .int .i64 24]
end
theorem getD_lt (s : ByteArray) (i : Nat) : (nums s).getD i 0 < 256 := by
  rw [List.getD_eq_getElem?_getD]
  cases h : (nums s)[i]? with
  | none => simp
  | some x => exact nums_lt s x (List.mem_of_getElem? h)
theorem getD_out (s : ByteArray) (i : Nat) (h : s.size ≤ i) : (nums s).getD i 0 = 0 := by
  rw [List.getD_eq_getElem?_getD, List.getElem?_eq_none (by rw [nums_len]; exact h)]
  rfl
theorem oT_in {s : ByteArray} (h : s.size = 3 + oN1 s + oN2 s) : 2 + oN1 s < s.size := by omega
theorem piece_nums_size (s : ByteArray) (a k : Nat) (h : a + k ≤ s.size) : (piece s a 0 (k : Nat)).size = k := by
  rw [← nums_len, nums_piece s a k h, List.length_take, List.length_drop, nums_len]
  omega
theorem piece_one (s : ByteArray) (a : Nat) (h : a + 1 ≤ s.size) : piece s a 0 (1 : Nat) = text [(nums s).getD a 0] := by
  apply nums_inj
  have hl : a < (nums s).length := by rw [nums_len]; omega
  rw [nums_piece s a 1 h, nums_text _ (by intro x hx; simp at hx; subst hx; exact getD_lt s a), List.drop_eq_getElem_cons hl]
  simp only [List.take_succ_cons, List.take_zero, List.getD_eq_getElem?_getD, List.getElem?_eq_getElem hl, Option.getD_some]
theorem piece_le (s : ByteArray) (a e : Nat) (n : Int) : (piece s a e n).size ≤ s.size := by
  unfold piece
  split
  · rw [ByteArray.size_extract]; omega
  · exact Nat.zero_le _

theorem tx_ne8 {T1 T : ByteArray} (h : T1 ≠ T) : (T1.toList == T.toList) = false := by
  rw [beq_eq_false_iff_ne, Lib.toList_data, Lib.toList_data]
  intro e
  exact h (ByteArray.ext (Array.toList_inj.1 e))
theorem own_case (s : ByteArray) {a1 e1 a2 e2 m1 a3 e3 v1 f1 a4 e4 m2 a5 e5 v2 f2 : Nat} {p1 p2 p3 : ByteArray}
    (A1 : atB s 0 0 1 = a1) (E1 : errB s 0 0 1 = e1) (P1 : piece s 0 0 1 = p1) (A2 : atB s a1 e1 (1 : Nat) = a2) (E2 : errB s a1 e1 (1 : Nat) = e2) (M1 : numB s a1 e1 1 = m1)
    (A3 : atB s a2 e2 (m1 : Nat) = a3) (E3 : errB s a2 e2 (m1 : Nat) = e3) (P2 : piece s a2 e2 (m1 : Nat) = p2) (V1 : nvB p2 = v1) (F1 : neB p2 = f1)
    (A4 : atB s a3 e3 (1 : Nat) = a4) (E4 : errB s a3 e3 (1 : Nat) = e4) (M2 : numB s a3 e3 1 = m2) (A5 : atB s a4 e4 (m2 : Nat) = a5) (E5 : errB s a4 e4 (m2 : Nat) = e5) (P3 : piece s a4 e4 (m2 : Nat) = p3) (V2 : nvB p3 = v2) (F2 : neB p3 = f2) :
    (thrB s a5 e5 = false ∧ oRes s = .tuple #[.int .u32 0, .int .u32 0, .int .i64 24]) ∨ (thrB s a5 e5 = true ∧ p1 = text [(nums s).getD 0 0] ∧ v1 = (if oN1 s ≤ 8 then oU s else 0) ∧ f1 = (if oN1 s ≤ 8 then 0 else 5) ∧ v2 = (if oN2 s ≤ 8 then oG s else 0) ∧ f2 = (if oN2 s ≤ 8 then 0 else 5) ∧ s.size = 3 + oN1 s + oN2 s) := by
  have hn1 := getD_lt s 1
  by_cases hT : s.size = 3 + oN1 s + oN2 s
  · right
    have h1 : 1 ≤ s.size := by omega
    have a1' : a1 = 1 := by rw [← A1]; exact atB_yes s 0 1 (by omega)
    have e1' : e1 = 0 := by rw [← E1]; exact errB_yes s 0 1 (by omega)
    subst a1' e1'
    have a2' : a2 = 2 := by rw [← A2]; exact atB_yes s 1 1 (by omega)
    have e2' : e2 = 0 := by rw [← E2]; exact errB_yes s 1 1 (by omega)
    have m1' : m1 = oN1 s := by rw [← M1]; exact numB_one s 1 (by omega)
    subst a2' e2' m1'
    have a3' : a3 = 2 + oN1 s := by rw [← A3]; exact atB_yes s 2 _ (by omega)
    have e3' : e3 = 0 := by rw [← E3]; exact errB_yes s 2 _ (by omega)
    subst a3' e3'
    have a4' : a4 = 3 + oN1 s := by rw [← A4]; exact (atB_yes s (2 + oN1 s) 1 (by omega)).trans (by omega)
    have e4' : e4 = 0 := by rw [← E4]; exact errB_yes s _ 1 (by omega)
    have m2' : m2 = oN2 s := by rw [← M2]; exact numB_one s (2 + oN1 s) (by omega)
    subst a4' e4' m2'
    have a5' : a5 = s.size := by rw [← A5]; exact (atB_yes s (3 + oN1 s) _ (by omega)).trans (by omega)
    have e5' : e5 = 0 := by rw [← E5]; exact errB_yes s _ _ (by omega)
    subst a5' e5'
    have z2 : p2.size = oN1 s := by rw [← P2]; exact piece_nums_size s 2 _ (by omega)
    have z3 : p3.size = oN2 s := by rw [← P3]; exact piece_nums_size s (3 + oN1 s) _ (by omega)
    have y2 : numL (nums p2) = oU s := by rw [← P2, nums_piece s 2 _ (by omega)]; rfl
    have y3 : numL (nums p3) = oG s := by rw [← P3, nums_piece s (3 + oN1 s) _ (by omega)]; rfl
    refine ⟨decide_eq_true ⟨rfl, rfl⟩, ?_, ?_, ?_, ?_, ?_, hT⟩
    · rw [← P1]; exact piece_one s 0 (by omega)
    · rw [← V1]; unfold nvB; rw [z2, y2]
    · rw [← F1]; unfold neB; rw [z2]
    · rw [← V2]; unfold nvB; rw [z3, y3]
    · rw [← F2]; unfold neB; rw [z3]
  · left
    refine ⟨decide_eq_false fun h => hT ?_, ?_⟩
    · obtain ⟨he, ha⟩ := h
      rw [he] at E5
      obtain ⟨rfl, _, k5, j5⟩ := errB_zero E5
      obtain ⟨rfl, _, k4, j4⟩ := errB_zero E4
      obtain ⟨rfl, _, k3, j3⟩ := errB_zero E3
      obtain ⟨rfl, _, k2, j2⟩ := errB_zero E2
      obtain ⟨_, _, k1, j1⟩ := errB_zero E1
      rw [Int.toNat_natCast] at *
      have a1' : a1 = 1 := by rw [← A1, j1]; rfl
      subst a1'
      have a2' : a2 = 2 := by rw [← A2, j2]
      subst a2'
      have m1' : m1 = oN1 s := by rw [← M1]; exact numB_one s 1 (by omega)
      subst m1'
      have a3' : a3 = 2 + oN1 s := by rw [← A3, j3]
      subst a3'
      have a4' : a4 = 3 + oN1 s := by rw [← A4, j4]; omega
      subst a4'
      have m2' : m2 = oN2 s := by rw [← M2]; exact numB_one s (2 + oN1 s) (by omega)
      subst m2'
      rw [← A5, j5] at ha
      omega
    · unfold oRes
      rw [if_neg]
      intro h
      exact hT (of_decide_eq_true h).1
set_option maxHeartbeats 1000000 in
theorem parseOwner_any (s : ByteArray) (hs : s.size ≤ maxLen) (w : World) :
    Calls Tryz.prog 42 #[.string s] w fun e w' => e = .returned (oRes s) ∧ Below w.heap.size w w' := by
  have HL := Lib.hid hs
  have HN := Lib.hid (fun (p : ByteArray) (h : p.size ≤ s.size) (w : World) => number_gen p (Nat.le_trans h hs) w)
  go_enter Tryz.func42, Tryz.ntmps42
  go_wp2_with fail
  refine (over_ci s _).mono ?_; rintro r wF ⟨rfl, C0⟩
  go_wp2_with fail
  refine (take_ci 1 HL.out (Nat.zero_le _) (by decide) C0).mono ?_; rintro r x1 ⟨rfl, C1⟩
  have hle1 := atB_le s 0 0 1 (Nat.zero_le _)
  generalize hA1 : atB s 0 0 1 = a1 at *
  generalize hE1 : errB s 0 0 1 = e1 at *
  generalize hP1 : piece s 0 0 1 = p1 at *
  have A1 := Lib.hid hA1; have E1 := Lib.hid hE1; have P1 := Lib.hid hP1
  clear hA1 hE1 hP1
  go_wp2_with fail
  refine (one_ci HL.out hle1 C1).mono ?_; rintro r x2 ⟨rfl, C2⟩
  have hle2 := atB_le s a1 e1 (1 : Nat) hle1
  have hm1 := numB_lt s a1 e1 1
  generalize hA2 : atB s a1 e1 (1 : Nat) = a2 at *
  generalize hE2 : errB s a1 e1 (1 : Nat) = e2 at *
  generalize hM1 : numB s a1 e1 1 = m1 at *
  have A2 := Lib.hid hA2; have E2 := Lib.hid hE2; have M1 := Lib.hid hM1
  clear hA2 hE2 hM1
  go_wp2_with fail
  refine (take_ci (m1 : Nat) HL.out hle2 (WalkArith.wf_i64 (by omega)) C2).mono ?_; rintro r x3 ⟨rfl, C3⟩
  have hle3 := atB_le s a2 e2 (m1 : Nat) hle2
  have hp2 := piece_le s a2 e2 (m1 : Nat)
  generalize hA3 : atB s a2 e2 (m1 : Nat) = a3 at *
  generalize hE3 : errB s a2 e2 (m1 : Nat) = e3 at *
  generalize hP2 : piece s a2 e2 (m1 : Nat) = p2 at *
  have A3 := Lib.hid hA3; have E3 := Lib.hid hE3; have P2 := Lib.hid hP2
  clear hA3 hE3 hP2
  go_wp2_with fail
  refine (HN.out p2 hp2 _).mono ?_; rintro r x4 ⟨rfl, rfl⟩
  have hv1 := nvB_lt p2
  generalize hV1 : nvB p2 = v1 at *
  generalize hF1 : neB p2 = f1 at *
  have V1 := Lib.hid hV1; have F1 := Lib.hid hF1
  clear hV1 hF1
  go_wp2_with fail
  refine (one_ci HL.out hle3 C3).mono ?_; rintro r x5 ⟨rfl, C4⟩
  have hle4 := atB_le s a3 e3 (1 : Nat) hle3
  have hm2 := numB_lt s a3 e3 1
  generalize hA4 : atB s a3 e3 (1 : Nat) = a4 at *
  generalize hE4 : errB s a3 e3 (1 : Nat) = e4 at *
  generalize hM2 : numB s a3 e3 1 = m2 at *
  have A4 := Lib.hid hA4; have E4 := Lib.hid hE4; have M2 := Lib.hid hM2
  clear hA4 hE4 hM2
  go_wp2_with fail
  refine (take_ci (m2 : Nat) HL.out hle4 (WalkArith.wf_i64 (by omega)) C4).mono ?_; rintro r x6 ⟨rfl, C5⟩
  have hle5 := atB_le s a4 e4 (m2 : Nat) hle4
  have hp3 := piece_le s a4 e4 (m2 : Nat)
  generalize hA5 : atB s a4 e4 (m2 : Nat) = a5 at *
  generalize hE5 : errB s a4 e4 (m2 : Nat) = e5 at *
  generalize hP3 : piece s a4 e4 (m2 : Nat) = p3 at *
  have A5 := Lib.hid hA5; have E5 := Lib.hid hE5; have P3 := Lib.hid hP3
  clear hA5 hE5 hP3
  go_wp2_with fail
  refine (HN.out p3 hp3 _).mono ?_; rintro r x7 ⟨rfl, rfl⟩
  have hv2 := nvB_lt p3
  generalize hV2 : nvB p3 = v2 at *
  generalize hF2 : neB p3 = f2 at *
  have V2 := Lib.hid hV2; have F2 := Lib.hid hF2
  clear hV2 hF2
  go_wp2_with fail
  refine (through_ci HL.out hle5 C5).mono ?_; rintro r x8 ⟨rfl, d, rfl⟩
  have B := Lib.hid (below_drewN C5.bel d)
  have hcase : (thrB s a5 e5 = false ∧ oRes s = .tuple #[.int .u32 0, .int .u32 0, .int .i64 24]) ∨ (thrB s a5 e5 = true ∧ p1 = text [(nums s).getD 0 0] ∧ v1 = (if oN1 s ≤ 8 then oU s else 0) ∧ f1 = (if oN1 s ≤ 8 then 0 else 5) ∧ v2 = (if oN2 s ≤ 8 then oG s else 0) ∧ f2 = (if oN2 s ≤ 8 then 0 else 5) ∧ s.size = 3 + oN1 s + oN2 s) := by
    exact own_case s A1.out E1.out P1.out A2.out E2.out M1.out A3.out E3.out P2.out V1.out F1.out A4.out E4.out M2.out A5.out E5.out P3.out V2.out F2.out
  generalize thrB s a5 e5 = t at *
  clear C0 C1 C2 C3 C4 C5 A1 A2 A3 A4 A5 E1 E2 E3 E4 E5 P1 P2 P3 M1 M2 V1 V2 F1 F2
  rcases hcase with ⟨rfl, hr⟩ | ⟨rfl, rfl, h1, h2, h3, h4, h5⟩
  · have HR := Lib.hid hr
    clear hr
    go_wp2_with fail
    go_ret3
    exact ⟨by rw [HR.out]; rfl, B.out⟩
  · have H1 := Lib.hid h1; have H2 := Lib.hid h2; have H3 := Lib.hid h3; have H4 := Lib.hid h4; have H5 := Lib.hid h5
    clear h1 h2 h3 h4 h5
    by_cases c1 : (nums s).getD 0 0 = 1
    · rw [c1, show text [1] = ⟨#[1]⟩ from rfl]
      by_cases c2 : oN1 s ≤ 8
      · rw [if_pos c2] at H1 H2
        have h1 := H1.out; have h2 := H2.out
        subst h2
        by_cases c3 : oN2 s ≤ 8
        · rw [if_pos c3] at H3 H4
          have h4 := H4.out
          subst h4
          have HO : Hid (oOk s = true) := decide_eq_true ⟨H5.out, c1, c2, c3⟩
          clear c1 c2 c3 h1
          by_cases c4 : max v1 v2 ≤ 4294967295
          · have c5 : v1 ≤ 4294967295 := by omega
            have c6 : v2 ≤ 4294967295 := by omega
            have HFi : Hid (oFit s = true) := decide_eq_true ⟨by rw [← H1.out]; exact c5, by rw [← H3.out]; exact c6⟩
            clear c4
            have HR : Hid (oRes s = .tuple #[.int .u32 (v1 : Nat), .int .u32 (v2 : Nat), .int .i64 0]) := by
              show _ = _
              unfold oRes
              rw [HO.out, HFi.out, H1.out, H3.out]
              rfl
            have hm : ¬ (4294967295 : Nat) < v1 := by omega
            have hm2 : ¬ (4294967295 : Nat) < v2 := by omega
            go_wp2_with fail
            all_goals
              go_ret3
              exact ⟨by rw [HR.out]; rfl, B.out⟩
          · have HFi : Hid (oFit s = false) := decide_eq_false (by rw [← H1.out, ← H3.out]; omega)
            have HR : Hid (oRes s = .tuple #[.int .u32 0, .int .u32 0, .int .i64 8]) := by
              show _ = _
              unfold oRes
              rw [HO.out, HFi.out]
              rfl
            by_cases c5 : v1 < v2
            · have c6 : 4294967295 < v2 := by omega
              clear c4
              go_wp2_with fail
              go_ret3
              exact ⟨by rw [HR.out]; rfl, B.out⟩
            · have c6 : 4294967295 < v1 := by omega
              clear c4
              go_wp2_with fail
              go_ret3
              exact ⟨by rw [HR.out]; rfl, B.out⟩
        · rw [if_neg c3] at H3 H4
          have h4 := H4.out
          subst h4
          have HO : Hid (oOk s = false) := decide_eq_false fun h => c3 h.2.2.2
          clear c1 c2 c3 h1
          go_wp2_with fail
          go_ret3
          exact ⟨by unfold oRes; rw [HO.out]; rfl, B.out⟩
      · rw [if_neg c2] at H1 H2
        have h2 := H2.out
        subst h2
        have HO : Hid (oOk s = false) := decide_eq_false fun h => c2 h.2.2.1
        clear c1 c2
        go_wp2_with fail
        go_ret3
        exact ⟨by unfold oRes; rw [HO.out]; rfl, B.out⟩
    · have HO : Hid (oOk s = false) := decide_eq_false fun h => c1 h.2.1
      have hx := getD_lt s 0
      have hne : text [(nums s).getD 0 0] ≠ ⟨#[1]⟩ := fun h => c1 (by
        have h2 := congrArg nums h
        rw [nums_text _ (by intro x hx; simp at hx; subst hx; exact getD_lt s 0)] at h2
        exact List.head_eq_of_cons_eq h2)
      generalize text [(nums s).getD 0 0] = p1 at *
      have hb : (p1.toList == [1]) = false := by
        have h := tx_ne8 hne
        rw [Lib.toList_data ⟨#[1]⟩] at h
        exact h
      clear hne c1
      go_wp2_with fail
      go_ret3
      exact ⟨by unfold oRes; rw [HO.out]; rfl, B.out⟩
end Go.Proofs.YtijfcmlgohbndaaGreatDoor

namespace Go.Proofs.YtijfcmlgohbndaaGreatDoor
set_option maxRecDepth 100000
open Go.RowKit Go.Joins

theorem nums_ext (t : ByteArray) (a b : Nat) : nums (t.extract a b) = ((nums t).drop a).take (b - a) := by
  unfold nums
  rw [ByteArray.data_extract]
  simp
theorem nums_at (t : ByteArray) (k : Nat) (h : k < t.size) : t[k].toNat = (nums t).getD k 0 := by
  rw [List.getD_eq_getElem?_getD, nums_get t k h]
  rfl

theorem oRes_no {s : ByteArray} (h : ¬ (s.size = 3 + oN1 s + oN2 s ∧ (nums s).getD 0 0 = 1 ∧ oN1 s ≤ 8 ∧ oN2 s ≤ 8)) : oRes s = .tuple #[.int .u32 0, .int .u32 0, .int .i64 24] :=
  if_neg (by unfold oOk; rw [decide_eq_true_iff]; exact h)

end Go.Proofs.YtijfcmlgohbndaaGreatDoor

namespace Go.Proofs.YtijfcmlgohbndaaGreatDoor
set_option maxRecDepth 100000
open Go.RowKit Go.Joins

def oldRes (s : ByteArray) : Value := if s.size = 0 then .tuple #[.int .u32 0, .int .u32 0, .int .i64 0] else if s.size = 4 then .tuple #[.int .u32 (numL ((nums s).take 2) : Nat), .int .u32 (numL ((nums s).drop 2) : Nat), .int .i64 0] else .tuple #[.int .u32 0, .int .u32 0, .int .i64 24]
theorem size_zero {s : ByteArray} (h : s.size = 0) : s = ⟨#[]⟩ := by
  apply nums_inj
  rw [List.eq_nil_of_length_eq_zero (l := nums s) (by rw [nums_len]; exact h)]
  rfl
theorem size_pos {s : ByteArray} (h : ¬ s.size = 0) : s.toList = [] ↔ False := by
  rw [Lib.toList_data]
  refine ⟨fun e => h ?_, fun e => e.elim⟩
  rw [← nums_len]
  unfold nums
  rw [e]
  rfl

theorem parseOld_any (s : ByteArray) (hs : s.size ≤ maxLen) (w : World) :
    Calls Tryz.prog 43 #[.string s] w fun e w' => e = .returned (oldRes s) ∧ Below w.heap.size w w' := by
  have HL := Lib.hid hs
  by_cases h0 : s.size = 0
  · obtain rfl := size_zero h0
    clear h0
    go_enter Tryz.func43, Tryz.ntmps43
    go_wp2_with fail
    go_ret3
    exact ⟨rfl, Below.refl _ _⟩
  · have hb : s.toList.isEmpty = false := by
      have := size_pos h0
      cases hc : s.toList with
      | nil => exact (this.1 hc).elim
      | cons _ _ => rfl
    have hb2 := size_pos h0
    have H0 := Lib.hid h0
    clear h0
    go_enter Tryz.func43, Tryz.ntmps43
    go_wp2_with fail
    refine (over_ci s _).mono ?_; rintro r wF ⟨rfl, C0⟩
    go_wp2_with fail
    refine (two_ci HL.out (Nat.zero_le _) C0).mono ?_; rintro r x1 ⟨rfl, C1⟩
    have hle1 := atB_le s 0 0 (2 : Nat) (Nat.zero_le _)
    have hm1 := numB_lt s 0 0 2
    generalize hA1 : atB s 0 0 (2 : Nat) = a1 at *
    generalize hE1 : errB s 0 0 (2 : Nat) = e1 at *
    generalize hM1 : numB s 0 0 2 = m1 at *
    have A1 := Lib.hid hA1; have E1 := Lib.hid hE1; have M1 := Lib.hid hM1
    clear hA1 hE1 hM1
    go_wp2_with fail
    refine (two_ci HL.out hle1 C1).mono ?_; rintro r x2 ⟨rfl, C2⟩
    have hle2 := atB_le s a1 e1 (2 : Nat) hle1
    have hm2 := numB_lt s a1 e1 2
    generalize hA2 : atB s a1 e1 (2 : Nat) = a2 at *
    generalize hE2 : errB s a1 e1 (2 : Nat) = e2 at *
    generalize hM2 : numB s a1 e1 2 = m2 at *
    have A2 := Lib.hid hA2; have E2 := Lib.hid hE2; have M2 := Lib.hid hM2
    clear hA2 hE2 hM2
    go_wp2_with fail
    refine (through_ci HL.out hle2 C2).mono ?_; rintro r x3 ⟨rfl, d, rfl⟩
    have B := Lib.hid (below_drewN C2.bel d)
    by_cases h4 : s.size = 4
    · have a1' : a1 = 2 := by rw [← A1.out]; exact atB_yes s 0 2 (by omega)
      have e1' : e1 = 0 := by rw [← E1.out]; exact errB_yes s 0 2 (by omega)
      subst a1' e1'
      have a2' : a2 = 4 := by rw [← A2.out]; exact atB_yes s 2 2 (by omega)
      have e2' : e2 = 0 := by rw [← E2.out]; exact errB_yes s 2 2 (by omega)
      subst a2' e2'
      have hm1 : m1 = numL ((nums s).take 2) := by
        rw [← M1.out]
        unfold numB
        rw [nums_piece s 0 2 (by omega)]
        rfl
      have hm2 : m2 = numL ((nums s).drop 2) := by
        rw [← M2.out]
        unfold numB
        rw [nums_piece s 2 2 (by omega), List.take_of_length_le (by rw [List.length_drop, nums_len]; omega)]
      have HR : Hid (oldRes s = .tuple #[.int .u32 (m1 : Nat), .int .u32 (m2 : Nat), .int .i64 0]) := by
        show _ = _
        unfold oldRes
        rw [if_neg H0.out, if_pos h4, hm1, hm2]
      have ht : thrB s 4 0 = true := decide_eq_true ⟨rfl, h4.symm⟩
      rw [ht]
      clear ht h4 hm1 hm2 A1 A2 E1 E2 M1 M2
      go_wp2_with fail
      go_ret3
      exact ⟨by rw [HR.out]; rfl, B.out⟩
    · have HR : Hid (oldRes s = .tuple #[.int .u32 0, .int .u32 0, .int .i64 24]) := by
        show _ = _
        unfold oldRes
        rw [if_neg H0.out, if_neg h4]
      have ht : thrB s a2 e2 = false := decide_eq_false fun h => h4 (by
        obtain ⟨he, ha⟩ := h
        have E2' := E2.out
        rw [he] at E2'
        obtain ⟨he1, _, k2, j2⟩ := errB_zero E2'
        have E1' := E1.out
        rw [he1] at E1'
        obtain ⟨_, _, k1, j1⟩ := errB_zero E1'
        have A2' := A2.out
        rw [he1] at A2' j2
        rw [A2'] at j2
        rw [A1.out] at j1
        rw [Int.toNat_natCast] at *
        omega)
      rw [ht]
      clear ht h4 A1 A2 E1 E2 M1 M2
      go_wp2_with fail
      go_ret3
      exact ⟨by rw [HR.out]; rfl, B.out⟩

end Go.Proofs.YtijfcmlgohbndaaGreatDoor
