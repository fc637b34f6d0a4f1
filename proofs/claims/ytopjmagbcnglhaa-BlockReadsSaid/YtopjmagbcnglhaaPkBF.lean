/-
  Tokens as values: may one be; what is wrong with one.
  Contract: Expand.
  Contract: the document's Expand.
-/
import Derived.Test.YtopjmagbcnglhaaMatM
import Derived.Deep.DeepMust
import Derived.Test.YtopjmagbcnglhaaPreN
import Derived.Test.YtopjmagbcnglhaaPkAD
import Derived.Maps.AppendAt

namespace Go.Proofs.Ytopjmagbcnglhaa
set_option maxRecDepth 100000
open Go.RowKit Go.Deep Go.Joins

/-- A token's cells. -/
def cellT (t : Tok) : List Value := [.int .u8 (t.b : Nat), .int .i64 t.l, .int .i64 t.d]
/-- A token as a value. -/
def valT (t : Tok) : Value := .agg #[.int .u8 (t.b : Nat), .int .i64 t.l, .int .i64 t.d]
/-- A token that Go holds. -/
def TokOk (t : Tok) : Prop := t.b < 256 ∧ -9223372036854775808 ≤ t.l ∧ t.l ≤ 9223372036854775807 ∧ -9223372036854775808 ≤ t.d ∧ t.d ≤ 9223372036854775807

theorem right_any (t : Tok) (w : World) : Calls Try.prog 34 #[valT t] w fun e w' => e = .returned (.bool (rightT t)) ∧ Below w.heap.size w w' := by
  obtain ⟨b, l, d⟩ := t
  unfold valT rightT
  go_enter Try.func34, Try.ntmps34
  by_cases h0 : l = 0
  · simp only [h0, if_true]
    go_wp2
    go_ret
    exact ⟨rfl, (Below.refl _ _).alloc (Nat.le_refl _) _⟩
  · simp only [h0, if_false]
    by_cases h1 : b = 0
    · go_wp2 <;> (go_ret; refine ⟨congrArg (fun x => Ending.returned (.bool x)) ?_, (Below.refl _ _).alloc (Nat.le_refl _) _⟩; rw [Bool.eq_iff_iff]; simp; try omega)
    · go_wp2 <;> (go_ret; refine ⟨congrArg (fun x => Ending.returned (.bool x)) ?_, (Below.refl _ _).alloc (Nat.le_refl _) _⟩; rw [Bool.eq_iff_iff]; simp; try omega)
theorem rright_any (t : Tok) (w : World) : Calls Try.prog 14 #[valT t] w fun e w' => e = .returned (.bool (rightT t)) ∧ Below w.heap.size w w' := by
  obtain ⟨b, l, d⟩ := t
  unfold valT rightT
  go_enter Try.func14, Try.ntmps14
  by_cases h0 : l = 0
  · simp only [h0, if_true]
    go_wp2
    go_ret
    exact ⟨rfl, (Below.refl _ _).alloc (Nat.le_refl _) _⟩
  · simp only [h0, if_false]
    by_cases h1 : b = 0
    · go_wp2 <;> (go_ret; refine ⟨congrArg (fun x => Ending.returned (.bool x)) ?_, (Below.refl _ _).alloc (Nat.le_refl _) _⟩; rw [Bool.eq_iff_iff]; simp; try omega)
    · go_wp2 <;> (go_ret; refine ⟨congrArg (fun x => Ending.returned (.bool x)) ?_, (Below.refl _ _).alloc (Nat.le_refl _) _⟩; rw [Bool.eq_iff_iff]; simp; try omega)
theorem box_cells (t : Tok) (w : World) (T : TypeId) (w1 : World) (h : w1 = w.alloc (.cells #[.int .u8 (t.b : Nat), .int .i64 t.l, .int .i64 t.d] T)) : w1.cell? ⟨w.heap.size, 0, none⟩ = some (.int .u8 (t.b : Nat)) ∧ w1.cell? ⟨w.heap.size, 1, none⟩ = some (.int .i64 t.l) ∧ w1.cell? ⟨w.heap.size, 2, none⟩ = some (.int .i64 t.d) ∧ Below w.heap.size w w1 ∧ w1.heap.size = w.heap.size + 1 := by
  subst h
  refine ⟨?_, ?_, ?_, (Below.refl _ _).alloc (Nat.le_refl _) _, by simp⟩
  · rw [cell_of_row _ _ 0 _ _ _ (heap_alloc_new w _)]; rfl
  · rw [cell_of_row _ _ 1 _ _ _ (heap_alloc_new w _)]; rfl
  · rw [cell_of_row _ _ 2 _ _ _ (heap_alloc_new w _)]; rfl
end Go.Proofs.Ytopjmagbcnglhaa

namespace Go.Proofs.Ytopjmagbcnglhaa
set_option maxRecDepth 100000
open Go.RowKit Go.Deep Go.Joins

/-- A slice of tokens. -/
def Toks (w : World) (A : Option Addr) (n : Nat) (f : Nat → Tok) : Prop := 0 < n → ∃ b off, A = some ⟨b, off, none⟩ ∧ b < w.heap.size ∧ ∀ i, i < n → TokOk (f i) ∧ w.cell? ⟨b, off + i * 3, none⟩ = some (.int .u8 ((f i).b : Nat)) ∧ w.cell? ⟨b, off + i * 3 + 1, none⟩ = some (.int .i64 (f i).l) ∧ w.cell? ⟨b, off + i * 3 + 2, none⟩ = some (.int .i64 (f i).d)
theorem Toks.below {w w' : World} {B n : Nat} {A : Option Addr} {f : Nat → Tok} (h : Toks w A n f) (hB : w.heap.size ≤ B) (hb : Below B w w') : Toks w' A n f := fun hn => by
  obtain ⟨b, off, e, hlt, hc⟩ := h hn
  have hl := Nat.lt_of_lt_of_le hlt hB
  exact ⟨b, off, e, Nat.lt_of_lt_of_le hlt hb.size, fun i hi => ⟨(hc i hi).1, (hb.cell (p := ⟨b, off + i * 3, none⟩) hl).trans (hc i hi).2.1, (hb.cell (p := ⟨b, off + i * 3 + 1, none⟩) hl).trans (hc i hi).2.2.1, (hb.cell (p := ⟨b, off + i * 3 + 2, none⟩) hl).trans (hc i hi).2.2.2⟩⟩

theorem own_byte {w : World} {B : Nat} {v : Value} {o : List Nat} (h : w.ownsRow B 5 1 v o.length (cells8 o)) (h0 : 0 < o.length) :
    ∃ g cap, v = .slice (some ⟨g, 0, none⟩) o.length cap ∧ ∀ i, i < o.length → w.cell? ⟨g, i, none⟩ = some (.int .u8 ((o.getD i 0 : Nat) : Int)) := by
  rcases ownsRow_forms h with ⟨rfl, hn⟩ | ⟨g2, cap, rfl⟩
  · omega
  · refine ⟨g2, cap, rfl, fun i hi => ?_⟩
    have := h.cellAt i (by omega)
    rw [this]
    simp only [cells8, List.getElem?_map, List.getElem?_eq_getElem hi, Option.map_some, List.getD_eq_getElem?_getD, Option.getD_some]
theorem bytes_lt {o : List Nat} (ho : ∀ x ∈ o, x < 256) (i : Nat) : o.getD i 0 < 256 := by
  rw [List.getD_eq_getElem?_getD]
  by_cases h : i < o.length
  · rw [List.getElem?_eq_getElem h]; exact ho _ (List.getElem_mem h)
  · rw [List.getElem?_eq_none (by omega)]; decide
theorem info_tok : (Try.prog.info? 48).map (·.size) = some 3 := by kernel_rfl
/-- What a copy's loop keeps. -/
def CopySt (w w1 wr : World) (T : TypeId) (B0 : Nat) (t : Tok) (o : List Nat) (d : Nat) (j : Nat) (v : Value) : Prop :=
  wr.ownsRow w.heap.size 5 1 v (copyT o d j).length (cells8 (copyT o d j)) ∧ wr.heap[B0]? = some (.cells #[.int .u8 (t.b : Nat), .int .i64 t.l, .int .i64 t.d] T (0, 0)) ∧ Below w.heap.size w wr ∧ w1.heap.size ≤ wr.heap.size
/-- The text that tokens are: none where something is wrong. -/
def expT (f : Nat → Tok) (n : Nat) : List Nat := if expE f n = 0 then expO f n else []
theorem expT_ok {f : Nat → Tok} {n : Nat} (h : expE f n = 0) : expT f n = expO f n := if_pos h
theorem expT_no {f : Nat → Tok} {n : Nat} (h : expE f n ≠ 0) : expT f n = [] := if_neg h
end Go.Proofs.Ytopjmagbcnglhaa

namespace Go.Proofs.Ytopjmagbcnglhaa
set_option maxRecDepth 100000
open Go.RowKit Go.Deep Go.Joins

theorem info_rtok : (Try.prog.info? 46).map (·.size) = some 3 := by kernel_rfl
set_option maxHeartbeats 8000000 in
theorem rexpand_any (A : Option Addr) (n cap : Nat) (f : Nat → Tok) (w : World) (hT : Toks w A n f) (hn : n ≤ 5864062014634) :
    Calls Try.prog 5 #[.slice A n cap] w fun e w' => e = .returned (.tuple #[.string (text (expT f n)), .int .i64 (expE f n : Nat)]) ∧ Below w.heap.size w w' := by
  obtain ⟨i0, hi, hz0, hz1, hz2⟩ := info_parts info8
  have hit := info_rtok
  have HT := Lib.hid hT
  have HEN := Lib.hid (fun k e => expE_ends f n k e)
  have HST := Lib.hid (fun k (h : expE f k = 0) => show expE f (k + 1) = fitsT (f k) (expO f k).length by rw [expE, if_pos h])
  have HSO := Lib.hid (fun k => show expO f (k + 1) = stepT (expO f k) (f k) from rfl)
  have HSM := Lib.hid (fun k h => expO_small f k h)
  have HLT := Lib.hid (fun k (h : ∀ i, i < k → (f i).b < 256) => expO_lt f k h)
  clear hT
  go_enter Try.func5, Try.ntmps5
  go_wp2_with fail
  go_loopw [11, 4] (fun i v wr => ∃ k : Nat, k ≤ n ∧ i = .int .i64 (k : Nat) ∧ Hid (expE f k = 0) ∧ Hid (wr.ownsRow w.heap.size 5 1 v (expO f k).length (cells8 (expO f k))) ∧ Hid (Below w.heap.size w wr)) (fun i _ _ => n - (intOf i).toNat)
  case atStart => exact ⟨0, Nat.zero_le _, rfl, rfl, World.ownsRow_nil _ _ _ _, Below.refl _ _⟩
  case round =>
    obtain ⟨k, hk, rfl, HE, HO, HB⟩ := hrel
    by_cases hkn : k < n
    · obtain ⟨b, off, rfl, hbl, hc⟩ := (HT.out.below (Nat.le_refl _) HB.out) (by omega)
      have HB8 : Hid (∀ i, i < n → (f i).b < 256) := fun i hi => (hc i hi).1.1
      obtain ⟨hok, c0, c1, c2⟩ := hc k hkn
      clear hc
      have ho := HO.out
      have hol := HSM.out k HE.out
      have HXL := Lib.hid (HLT.out k fun i hi => HB8.out i (by omega))
      have HE1 := Lib.hid (HST.out k HE.out)
      have HO1 := Lib.hid (HSO.out k)
      have HEND := Lib.hid (fun e => HEN.out k e hkn HE.out)
      generalize expO f k = o at *
      generalize f k = t at *
      obtain ⟨A2, cp2, rfl⟩ := row_slice ho
      clear ho
      have HF := Lib.hid (fun w => rright_any t w)
      have hbox := box_cells t wr 46 _ rfl
      have hb1 : ∀ w2, Below (wr.alloc (.cells #[.int .u8 (t.b : Nat), .int .i64 t.l, .int .i64 t.d] 46)).heap.size (wr.alloc (.cells #[.int .u8 (t.b : Nat), .int .i64 t.l, .int .i64 t.d] 46)) w2 → Below w.heap.size w w2 := fun w2 h => HB.out.trans (hbox.2.2.2.1.trans (h.mono (by simp)) |>.mono HB.out.size)
      have HB1 := Lib.hid hb1
      have HBX : Hid ((wr.alloc (.cells #[.int .u8 (t.b : Nat), .int .i64 t.l, .int .i64 t.d] 46)).heap[wr.heap.size]? = some (.cells #[.int .u8 (t.b : Nat), .int .i64 t.l, .int .i64 t.d] 46 (0, 0))) := heap_alloc_new wr _
      have HOW := Lib.hid (HO.out.alloc (.cells #[.int .u8 (t.b : Nat), .int .i64 t.l, .int .i64 t.d] 46))
      have HMON : Hid (w.heap.size ≤ wr.heap.size) := HB.out.size
      clear hb1 hbox
      have hwg : valT t = .agg #[.int .u8 (t.b : Nat), .int .i64 t.l, .int .i64 t.d] := rfl
      rw [hwg] at HF
      clear hwg
      by_cases hfit : fitsT t o.length = 0
      · have HFT := Lib.hid (fits_zero hfit)
        rw [(fits_zero hfit).1] at HF
        have HEK := Lib.hid (HE1.out.trans hfit)
        have htl := hok.1
        clear hok hfit
        obtain ⟨tb, tl, td⟩ := t
        dsimp only at *
        by_cases hl0 : tl = 0
        · subst hl0
          obtain rfl : td = 0 := right_byte HFT.out.1 rfl
          have HSO1 : Hid (expO f (k + 1) = o ++ [tb]) := HO1.out
          have hol1 : o.length < 1048576 := by
            have h := HFT.out.2.2
            have e : widT ⟨tb, 0, 0⟩ = 1 := rfl
            rw [e] at h; omega
          obtain ⟨m, e1, hm⟩ : ∃ m : Nat, ((o.length : Int) + 1) = (m : Int) ∧ m ≤ 1048576 := ⟨o.length + 1, by omega, by omega⟩
          have HOL1 := Lib.hid hol1
          clear hol1
          go_wp2_with fail
          refine (HF.out _).mono ?_
          rintro e w2 ⟨rfl, hb2⟩
          have e0 := (hb2.block _ (by simp)).trans HBX.out
          have d0 : w2.cell? ⟨wr.heap.size, 0, none⟩ = some (.int .u8 (tb : Nat)) := by rw [cell_of_row w2 _ 0 _ _ _ e0]; rfl
          have d1 : w2.cell? ⟨wr.heap.size, 1, none⟩ = some (.int .i64 0) := by rw [cell_of_row w2 _ 1 _ _ _ e0]; rfl
          have d2 : w2.cell? ⟨wr.heap.size, 2, none⟩ = some (.int .i64 0) := by rw [cell_of_row w2 _ 2 _ _ _ e0]; rfl
          have HO2 := Lib.hid (row_kept HOW.out (fun g hg => hb2.block g (HOW.out.lt g hg).2))
          have HB2 := Lib.hid (HB1.out w2 hb2)
          have hsz2 : wr.heap.size + 1 ≤ w2.heap.size := by have := hb2.size; simpa using this
          have E0 := Lib.hid e0
          have HS2 := Lib.hid hsz2
          clear e0 hb2 hsz2
          go_wp2_with (at_builtin; refine wpList_append_own_at _ rfl (.tmp 35) (.tmp 38) _ rfl w.heap.size 5 i0 (.int .u8 0) 1 1 Try.underlying29 hi hz0 hz1 hz2 rfl (by decide) _ o.length (cells8 o) rfl (HO2.out.alloc _) ⟨w2.heap.size, 0, none⟩ 1 1 [.int .u8 (tb : Nat)] rfl rfl ?c1 ?c2 ?c3 ?c4 ?c5 ?_)
          case c1 => exact cell_one_new _ _ _
          case c2 => intro u hu; simp at hu; subst hu; rfl
          case c3 => unfold maxLen; omega
          case c4 => omega
          case c5 => have := HS2.out; have := HMON.out; simp; omega
          intro v2 w3 hown hgrow _ hat
          have HB3 : Hid (Below w.heap.size w w3) := by
            refine ((HB2.out.alloc (by have := HS2.out; have := HMON.out; omega) _).grown hgrow (by have := HS2.out; have := HMON.out; simp; omega) fun g hg => (HO2.out.lt g hg).1)
          have HO3 := Lib.hid hown
          have d1' : w3.cell? ⟨wr.heap.size, 1, none⟩ = some (.int .i64 0) := by
            rw [cell_of_row w3 _ 1 _ _ _ (after_append E0.out (by exact ⟨hgrow.os, hgrow.tape, hgrow.output, hgrow.size, hgrow.block⟩) (row_ne (by decide) HO2.out E0.out))]; rfl
          clear hown hgrow hat d0 d1 d2
          go_wp2_with fail
          refine wp_loop_rounds 1 ?_
          rw [rounds_succ]
          go_wp2_with fail
          go_roundw
          case rel =>
            refine ⟨k + 1, by omega, by go_num, HEK, ?_, HB3⟩
            rw [HSO1.out, List.length_append, cells8_app]
            exact HO3
          case measure => simp [intOf]; omega
        · have hR := HFT.out
          obtain ⟨h3, h4, h5, h6⟩ : 3 ≤ tl ∧ tl ≤ 258 ∧ 1 ≤ td ∧ td ≤ 32768 := (right_copy hR.1 hl0).2
          have hdl : td ≤ (o.length : Int) := hR.2.1
          have hwl : (o.length : Int) + max tl 1 ≤ 1048576 := hR.2.2
          obtain ⟨l, rfl⟩ : ∃ l : Nat, tl = (l : Nat) := ⟨tl.toNat, by omega⟩
          obtain ⟨d, rfl⟩ : ∃ d : Nat, td = (d : Nat) := ⟨td.toNat, by omega⟩
          have hsum : o.length + l ≤ 1048576 := by omega
          have hd1 : 1 ≤ d := by omega
          have hdo : d ≤ o.length := by omega
          have hl3 : 3 ≤ l ∧ l ≤ 258 := by omega
          have HSO1 : Hid (expO f (k + 1) = copyT o d l) := HO1.out.trans (by unfold stepT; rw [if_neg hl0]; rfl)
          have hz : ((l : Int) == 0) = false := by rw [beq_eq_false_iff_ne]; omega
          have hbd : decide (o.length < d) = false := decide_eq_false (by omega)
          have hl1 := hl3.1
          have hl2 := hl3.2
          have HARI : Hid (o.length + l ≤ 1048576 ∧ 1 ≤ d ∧ d ≤ o.length ∧ 3 ≤ l ∧ l ≤ 258) := ⟨hsum, hd1, hdo, hl1, hl2⟩
          clear hR h3 h4 h5 h6 hdl hwl hl0 hl3
          go_wp2_with fail
          refine (HF.out _).mono ?_
          rintro e w2 ⟨rfl, hb2⟩
          have e0 := (hb2.block _ (by simp)).trans HBX.out
          have d1 : w2.cell? ⟨wr.heap.size, 1, none⟩ = some (.int .i64 (l : Nat)) := by rw [cell_of_row w2 _ 1 _ _ _ e0]; rfl
          have d2 : w2.cell? ⟨wr.heap.size, 2, none⟩ = some (.int .i64 (d : Nat)) := by rw [cell_of_row w2 _ 2 _ _ _ e0]; rfl
          have HO2 := Lib.hid (row_kept HOW.out (fun g hg => hb2.block g (HOW.out.lt g hg).2))
          have HB2 := Lib.hid (HB1.out w2 hb2)
          have hsz2 : wr.heap.size + 1 ≤ w2.heap.size := by have := hb2.size; simpa using this
          have E0 := Lib.hid e0
          have HS2 := Lib.hid hsz2
          clear e0 hb2 hsz2
          go_wp2_with fail
          go_loopw [8, 4] (fun i v w3 => ∃ j : Nat, j ≤ l ∧ i = .int .i64 (j : Nat) ∧ Hid (CopySt w w2 w3 46 wr.heap.size ⟨tb, l, d⟩ o d j v)) (fun i _ _ => l - (intOf i).toNat)
          case atStart => exact ⟨0, Nat.zero_le _, rfl, HO2.out, E0.out, HB2.out, Nat.le_refl _⟩
          case round =>
            obtain ⟨j, hj, rfl, HC⟩ := hrel
            have k1 := (cell_of_row _ _ 1 _ _ _ HC.out.2.1).trans (show _ = some (Value.int .i64 (l : Nat)) from rfl)
            by_cases hjl : j < l
            · obtain ⟨ho3, hx3, hb3, hs3⟩ := HC.out
              have hlen := copyT_len o d j
              have hbyte := copyT_lt o d j HXL.out
              have hnext : copyT o d (j + 1) = copyT o d j ++ [(copyT o d j).getD ((copyT o d j).length - d) 0] := rfl
              have HN := Lib.hid hnext
              clear hnext
              generalize copyT o d j = p at *
              obtain ⟨g3, cp3, rfl, hget⟩ := own_byte ho3 (by omega)
              obtain ⟨q, hq, hq2⟩ : ∃ q : Nat, p.length - d = q ∧ ((p.length : Int) - (d : Int)) = (q : Int) := ⟨p.length - d, rfl, by omega⟩
              have c3 := hget q (by omega)
              have hx := bytes_lt hbyte q
              rw [hq] at HN
              generalize p.getD q 0 = x at *
              have k2 := (cell_of_row _ _ 2 _ _ _ hx3).trans (show _ = some (Value.int .i64 (d : Nat)) from rfl)
              have hw1 : IntKind.i64.wrap (q : Int) = (q : Int) := by rw [IntKind.wrap_i64]; omega
              have hqz : q < p.length := by omega
              have hqi : (q : Int) < (p.length : Int) := by omega
              have hpl : p.length ≤ 1048575 := by omega
              have HO3 := Lib.hid ho3
              have HX3 := Lib.hid hx3
              have HB3 := Lib.hid hb3
              have HS3 := Lib.hid hs3
              clear hget hbyte ho3 hx3 hb3 hs3 hq HC hsum hdo hd1 hlen
              go_wp2_with (at_builtin; refine wpList_append_own_at _ rfl (.tmp 46) (.tmp 55) _ rfl w.heap.size 5 i0 (.int .u8 0) 1 1 Try.underlying29 hi hz0 hz1 hz2 rfl (by decide) _ p.length (cells8 p) rfl (HO3.out.alloc _) ⟨wr.heap.size, 0, none⟩ 1 1 [.int .u8 (x : Nat)] rfl rfl ?e1 ?e2 ?e3 ?e4 ?e5 ?_)
              case e2 => rfl
              case e3 => unfold maxLen; omega
              case e4 => omega
              case e5 => have := HS3.out; have := HS2.out; have := HMON.out; simp; omega
              intro v2 w4 hown hgrow _ hat
              have HC4 := Lib.hid (show CopySt w w2 w4 46 _ ⟨tb, l, d⟩ o d (j + 1) v2 from ⟨by rw [HN.out, List.length_append, cells8_app]; exact hown, after_append HX3.out (by exact ⟨hgrow.os, hgrow.tape, hgrow.output, hgrow.size, hgrow.block⟩) (row_ne (by decide) HO3.out HX3.out),
                (HB3.out.alloc (by have := HS3.out; have := HS2.out; have := HMON.out; omega) _).grown hgrow (by have := HS3.out; have := HS2.out; have := HMON.out; simp; omega) fun g hg => (HO3.out.lt g hg).1, by have h1 := hgrow.size; have h2 := HS3.out; simp at h1; omega⟩)
              clear hown hgrow hat
              go_wp2_with fail
              go_roundw
              case rel => exact ⟨j + 1, by omega, by go_num, HC4⟩
              case measure => simp [intOf]; omega
            · obtain rfl : j = l := by omega
              obtain ⟨ho3, hx3, hb3, hs3⟩ := HC.out
              have HO3 := Lib.hid ho3
              have HB3 := Lib.hid hb3
              clear ho3 hx3 hb3 hs3
              go_wp2_with fail
              go_roundw
              case rel =>
                refine ⟨k + 1, by omega, by go_num, HEK, ?_, HB3⟩
                rw [HSO1.out]
                exact HO3
              case measure => simp [intOf]; omega
      · have HZ := Lib.hid (HEND.out _ rfl hfit)
        have HZ2 := Lib.hid (expT_no (f := f) (n := n) (by rw [HZ.out]; exact hfit))
        have hok3 := hok.2.2.1
        have hokd := hok.2.2.2
        cases hrt : rightT t with
        | false =>
          have HE8 : Hid (fitsT t o.length = 8) := by unfold fitsT; rw [hrt]; rfl
          rw [hrt] at HF
          clear hok hrt hfit
          go_wp2_with (go_at_call 14; refine (HF.out _).mono ?_; rintro e w2 ⟨rfl, hb2⟩)
          go_ret2
          rw [HZ.out, HZ2.out, HE8.out]
          exact ⟨rfl, HB1.out _ hb2⟩
        | true =>
          have hpos := right_pos hrt
          have hw1 : widT t = max t.l 1 := rfl
          rw [hrt] at HF
          have HFD : Hid (fitsT t o.length = if (o.length : Int) < t.d then 11 else if 1048576 - (o.length : Int) < max t.l 1 then 14 else 0) := by
            unfold fitsT; rw [hrt]; rfl
          have HFIT := Lib.hid hfit
          clear hok hrt hfit hw1
          obtain ⟨tb, tl, td⟩ := t
          dsimp only at *
          by_cases hdl : (o.length : Int) < td
          · have HE8 : Hid (fitsT ⟨tb, tl, td⟩ o.length = 11) := HFD.out.trans (if_pos hdl)
            go_wp2_with fail
            refine (HF.out _).mono ?_
            rintro e w2 ⟨rfl, hb2⟩
            have e0 := (hb2.block _ (by simp)).trans HBX.out
            have d2 : w2.cell? ⟨wr.heap.size, 2, none⟩ = some (.int .i64 td) := by rw [cell_of_row w2 _ 2 _ _ _ e0]; rfl
            have HB2 := Lib.hid (HB1.out w2 hb2)
            clear hb2 e0
            go_wp2
            go_ret2
            rw [HZ.out, HZ2.out, HE8.out]
            exact ⟨rfl, HB2.out⟩
          · have hwl : 1048576 - (o.length : Int) < max tl 1 := by
              by_cases h : 1048576 - (o.length : Int) < max tl 1
              · exact h
              · exact absurd (HFD.out.trans ((if_neg hdl).trans (if_neg h))) HFIT.out
            have HE8 : Hid (fitsT ⟨tb, tl, td⟩ o.length = 14) := HFD.out.trans ((if_neg hdl).trans (if_pos hwl))
            by_cases hl0 : tl = 0
            · subst hl0
              have hol1 : o.length = 1048576 := by omega
              have h4 : ((o.length : Nat) : Int) = 1048576 := by omega
              have H4 := Lib.hid h4
              have H5 := Lib.hid hol1
              clear hwl h4 hol1
              go_wp2_with fail
              refine (HF.out _).mono ?_
              rintro e w2 ⟨rfl, hb2⟩
              have e0 := (hb2.block _ (by simp)).trans HBX.out
              have d1 : w2.cell? ⟨wr.heap.size, 1, none⟩ = some (.int .i64 0) := by rw [cell_of_row w2 _ 1 _ _ _ e0]; rfl
              have d2 : w2.cell? ⟨wr.heap.size, 2, none⟩ = some (.int .i64 td) := by rw [cell_of_row w2 _ 2 _ _ _ e0]; rfl
              have HB2 := Lib.hid (HB1.out w2 hb2)
              obtain ⟨m, e1, hm, hm2⟩ : ∃ m : Nat, ((o.length : Int) + 1) = (m : Int) ∧ 1048576 < m ∧ m ≤ 2000000 := ⟨o.length + 1, by omega, by have := H5.out; omega, by have := H5.out; omega⟩
              clear hb2 e0
              go_wp2
              go_ret2
              rw [HZ.out, HZ2.out, HE8.out]
              exact ⟨rfl, HB2.out⟩
            · obtain ⟨l, rfl⟩ : ∃ l : Nat, tl = (l : Nat) := ⟨tl.toNat, by omega⟩
              have hl1 : 1 ≤ l := by omega
              have hl2 : l ≤ 258 := by omega
              have hwl2 : 1048576 < o.length + l := by omega
              have hz : ((l : Int) == 0) = false := by rw [beq_eq_false_iff_ne]; omega
              clear hwl hl0 hpos
              go_wp2_with fail
              refine (HF.out _).mono ?_
              rintro e w2 ⟨rfl, hb2⟩
              have e0 := (hb2.block _ (by simp)).trans HBX.out
              have d1 : w2.cell? ⟨wr.heap.size, 1, none⟩ = some (.int .i64 (l : Nat)) := by rw [cell_of_row w2 _ 1 _ _ _ e0]; rfl
              have d2 : w2.cell? ⟨wr.heap.size, 2, none⟩ = some (.int .i64 td) := by rw [cell_of_row w2 _ 2 _ _ _ e0]; rfl
              have HB2 := Lib.hid (HB1.out w2 hb2)
              clear hb2 e0
              go_wp2
              go_ret2
              rw [HZ.out, HZ2.out, HE8.out]
              exact ⟨rfl, HB2.out⟩
    · obtain rfl : k = n := by omega
      have hs := string_of_own HO.out (HLT.out k fun i hi => by
        obtain ⟨b, off, _, _, hc⟩ := HT.out (by omega)
        exact (hc i hi).1.1)
      have HX := Lib.hid (expT_ok HE.out)
      obtain ⟨A2, cp2, rfl⟩ := row_slice HO.out
      go_wp2
      go_ret2
      rw [HX.out, HE.out]
      exact ⟨rfl, HB.out⟩
end Go.Proofs.Ytopjmagbcnglhaa
