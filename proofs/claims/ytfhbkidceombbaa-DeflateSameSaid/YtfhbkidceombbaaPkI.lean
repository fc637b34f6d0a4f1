/-
  Contract: Expand.
  Contract: the document's Expand.
  Triples as keys of a map; a map of slices that grows by the entry.
  Contract: Chains.
  The chapter's example holds.
  Contract: the document's Places.
  Ranging over where triples begin.
  Contracts: so many times -1.
  Contract: earlier.
  The walk of MatchChains: it returns true, whatever the text and the bytes.
-/
import Derived.Test.YtfhbkidceombbaaMatA
import Derived.Test.YtfhbkidceombbaaPreN
import Derived.Test.YtfhbkidceombbaaBitsX
import Derived.Maps.AppendAt
import Derived.Test.YtfhbkidceombbaaPreK
import Derived.WideKeyEntry
import Derived.Maps.OwnRows
import Derived.Maps.RangeWalk
import Derived.DeepKeys4
import Derived.MapViews
import Derived.Laws.IdiomArrays
import Derived.Laws.CopyOwn
import Derived.Deep.OwnRows
import Derived.Laws.OwnMore
import Derived.BigRegion
import Derived.Deep.DeepMust

namespace Go.Proofs.Ytfhbkidceombbaa
set_option maxRecDepth 100000
open Go.RowKit Go.Deep Go.Joins

/-- A slice of tokens. -/
def Toks (w : World) (A : Option Addr) (n : Nat) (f : Nat → Tok) : Prop := 0 < n → ∃ b off, A = some ⟨b, off, none⟩ ∧ b < w.heap.size ∧ ∀ i, i < n → TokOk (f i) ∧ w.cell? ⟨b, off + i * 3, none⟩ = some (.int .u8 ((f i).b : Nat)) ∧ w.cell? ⟨b, off + i * 3 + 1, none⟩ = some (.int .i64 (f i).l) ∧ w.cell? ⟨b, off + i * 3 + 2, none⟩ = some (.int .i64 (f i).d)
theorem Toks.below {w w' : World} {B n : Nat} {A : Option Addr} {f : Nat → Tok} (h : Toks w A n f) (hB : w.heap.size ≤ B) (hb : Below B w w') : Toks w' A n f := fun hn => by
  obtain ⟨b, off, e, hlt, hc⟩ := h hn
  have hl := Nat.lt_of_lt_of_le hlt hB
  exact ⟨b, off, e, Nat.lt_of_lt_of_le hlt hb.size, fun i hi => ⟨(hc i hi).1, (hb.cell (p := ⟨b, off + i * 3, none⟩) hl).trans (hc i hi).2.1, (hb.cell (p := ⟨b, off + i * 3 + 1, none⟩) hl).trans (hc i hi).2.2.1, (hb.cell (p := ⟨b, off + i * 3 + 2, none⟩) hl).trans (hc i hi).2.2.2⟩⟩

theorem own_byte {w : World} {B : Nat} {v : Value} {o : List Nat} (h : w.ownsRow B 5 1 v o.length (cells8 o)) (h0 : 0 < o.length) :
    ∃ g cap, v = .slice (some ⟨g, 0, none⟩) o.length cap ∧ ∀ i, i < o.length → w.cell? ⟨g, i, none⟩ = some (.int .u8 ((o.getD i 0 : Nat) : Int)) := by
  rcases ownsRow_forms h with ⟨rfl, hn⟩ | ⟨g2, cap, rfl⟩
  · omega
  · refine ⟨g2, cap, rfl, fun i hi => ?_⟩
    have := h.cellAt i (by omega)
    rw [this]
    simp only [cells8, List.getElem?_map, List.getElem?_eq_getElem hi, Option.map_some, List.getD_eq_getElem?_getD, Option.getD_some]
theorem bytes_lt {o : List Nat} (ho : ∀ x ∈ o, x < 256) (i : Nat) : o.getD i 0 < 256 := by
  rw [List.getD_eq_getElem?_getD]
  by_cases h : i < o.length
  · rw [List.getElem?_eq_getElem h]; exact ho _ (List.getElem_mem h)
  · rw [List.getElem?_eq_none (by omega)]; decide
theorem info_tok : (Try.prog.info? 43).map (·.size) = some 3 := by kernel_rfl
/-- What a copy's loop keeps. -/
def CopySt (w w1 wr : World) (T : TypeId) (B0 : Nat) (t : Tok) (o : List Nat) (d : Nat) (j : Nat) (v : Value) : Prop :=
  wr.ownsRow w.heap.size 5 1 v (copyT o d j).length (cells8 (copyT o d j)) ∧ wr.heap[B0]? = some (.cells #[.int .u8 (t.b : Nat), .int .i64 t.l, .int .i64 t.d] T (0, 0)) ∧ Below w.heap.size w wr ∧ w1.heap.size ≤ wr.heap.size
/-- The text that tokens are: none where something is wrong. -/
def expT (f : Nat → Tok) (n : Nat) : List Nat := if expE f n = 0 then expO f n else []
theorem expT_ok {f : Nat → Tok} {n : Nat} (h : expE f n = 0) : expT f n = expO f n := if_pos h
theorem expT_no {f : Nat → Tok} {n : Nat} (h : expE f n ≠ 0) : expT f n = [] := if_neg h
end Go.Proofs.Ytfhbkidceombbaa

namespace Go.Proofs.Ytfhbkidceombbaa
set_option maxRecDepth 100000
open Go.RowKit Go.Deep Go.Joins

theorem info_rtok : (Try.prog.info? 47).map (·.size) = some 3 := by kernel_rfl
set_option maxHeartbeats 8000000 in
theorem rexpand_any (A : Option Addr) (n cap : Nat) (f : Nat → Tok) (w : World) (hT : Toks w A n f) (hn : n ≤ 1000000) :
    Calls Try.prog 7 #[.slice A n cap] w fun e w' => e = .returned (.tuple #[.string (text (expT f n)), .int .i64 (expE f n : Nat)]) ∧ Below w.heap.size w w' := by
  obtain ⟨i0, hi, hz0, hz1, hz2⟩ := info_parts info8
  have hit := info_rtok
  have HT := Lib.hid hT
  have HEN := Lib.hid (fun k e => expE_ends f n k e)
  have HST := Lib.hid (fun k (h : expE f k = 0) => show expE f (k + 1) = fitsT (f k) (expO f k).length by rw [expE, if_pos h])
  have HSO := Lib.hid (fun k => show expO f (k + 1) = stepT (expO f k) (f k) from rfl)
  have HSM := Lib.hid (fun k h => expO_small f k h)
  have HLT := Lib.hid (fun k (h : ∀ i, i < k → (f i).b < 256) => expO_lt f k h)
  clear hT
  go_enter Try.func7, Try.ntmps7
  go_wp2_with fail
  go_loopw [11, 4] (fun i v wr => ∃ k : Nat, k ≤ n ∧ i = .int .i64 (k : Nat) ∧ Hid (expE f k = 0) ∧ Hid (wr.ownsRow w.heap.size 5 1 v (expO f k).length (cells8 (expO f k))) ∧ Hid (Below w.heap.size w wr)) (fun i _ _ => n - (intOf i).toNat)
  case atStart => exact ⟨0, Nat.zero_le _, rfl, rfl, World.ownsRow_nil _ _ _ _, Below.refl _ _⟩
  case round =>
    obtain ⟨k, hk, rfl, HE, HO, HB⟩ := hrel
    by_cases hkn : k < n
    · obtain ⟨b, off, rfl, hbl, hc⟩ := (HT.out.below (Nat.le_refl _) HB.out) (by omega)
      have HB8 : Hid (∀ i, i < n → (f i).b < 256) := fun i hi => (hc i hi).1.1
      obtain ⟨hok, c0, c1, c2⟩ := hc k hkn
      clear hc
      have ho := HO.out
      have hol := HSM.out k HE.out
      have HXL := Lib.hid (HLT.out k fun i hi => HB8.out i (by omega))
      have HE1 := Lib.hid (HST.out k HE.out)
      have HO1 := Lib.hid (HSO.out k)
      have HEND := Lib.hid (fun e => HEN.out k e hkn HE.out)
      generalize expO f k = o at *
      generalize f k = t at *
      obtain ⟨A2, cp2, rfl⟩ := row_slice ho
      clear ho
      have HF := Lib.hid (fun w => rright_any t w)
      have hbox := box_cells t wr 47 _ rfl
      have hb1 : ∀ w2, Below (wr.alloc (.cells #[.int .u8 (t.b : Nat), .int .i64 t.l, .int .i64 t.d] 47)).heap.size (wr.alloc (.cells #[.int .u8 (t.b : Nat), .int .i64 t.l, .int .i64 t.d] 47)) w2 → Below w.heap.size w w2 := fun w2 h => HB.out.trans (hbox.2.2.2.1.trans (h.mono (by simp)) |>.mono HB.out.size)
      have HB1 := Lib.hid hb1
      have HBX : Hid ((wr.alloc (.cells #[.int .u8 (t.b : Nat), .int .i64 t.l, .int .i64 t.d] 47)).heap[wr.heap.size]? = some (.cells #[.int .u8 (t.b : Nat), .int .i64 t.l, .int .i64 t.d] 47 (0, 0))) := heap_alloc_new wr _
      have HOW := Lib.hid (HO.out.alloc (.cells #[.int .u8 (t.b : Nat), .int .i64 t.l, .int .i64 t.d] 47))
      have HMON : Hid (w.heap.size ≤ wr.heap.size) := HB.out.size
      clear hb1 hbox
      have hwg : valT t = .agg #[.int .u8 (t.b : Nat), .int .i64 t.l, .int .i64 t.d] := rfl
      rw [hwg] at HF
      clear hwg
      by_cases hfit : fitsT t o.length = 0
      · have HFT := Lib.hid (fits_zero hfit)
        rw [(fits_zero hfit).1] at HF
        have HEK := Lib.hid (HE1.out.trans hfit)
        have htl := hok.1
        clear hok hfit
        obtain ⟨tb, tl, td⟩ := t
        dsimp only at *
        by_cases hl0 : tl = 0
        · subst hl0
          obtain rfl : td = 0 := right_byte HFT.out.1 rfl
          have HSO1 : Hid (expO f (k + 1) = o ++ [tb]) := HO1.out
          have hol1 : o.length < 1048576 := by
            have h := HFT.out.2.2
            have e : widT ⟨tb, 0, 0⟩ = 1 := rfl
            rw [e] at h; omega
          obtain ⟨m, e1, hm⟩ : ∃ m : Nat, ((o.length : Int) + 1) = (m : Int) ∧ m ≤ 1048576 := ⟨o.length + 1, by omega, by omega⟩
          have HOL1 := Lib.hid hol1
          clear hol1
          go_wp2_with fail
          refine (HF.out _).mono ?_
          rintro e w2 ⟨rfl, hb2⟩
          have e0 := (hb2.block _ (by simp)).trans HBX.out
          have d0 : w2.cell? ⟨wr.heap.size, 0, none⟩ = some (.int .u8 (tb : Nat)) := by rw [cell_of_row w2 _ 0 _ _ _ e0]; rfl
          have d1 : w2.cell? ⟨wr.heap.size, 1, none⟩ = some (.int .i64 0) := by rw [cell_of_row w2 _ 1 _ _ _ e0]; rfl
          have d2 : w2.cell? ⟨wr.heap.size, 2, none⟩ = some (.int .i64 0) := by rw [cell_of_row w2 _ 2 _ _ _ e0]; rfl
          have HO2 := Lib.hid (row_kept HOW.out (fun g hg => hb2.block g (HOW.out.lt g hg).2))
          have HB2 := Lib.hid (HB1.out w2 hb2)
          have hsz2 : wr.heap.size + 1 ≤ w2.heap.size := by have := hb2.size; simpa using this
          have E0 := Lib.hid e0
          have HS2 := Lib.hid hsz2
          clear e0 hb2 hsz2
          go_wp2_with (at_builtin; refine wpList_append_own_at _ rfl (.tmp 35) (.tmp 38) _ rfl w.heap.size 5 i0 (.int .u8 0) 1 1 Try.underlying29 hi hz0 hz1 hz2 rfl (by decide) _ o.length (cells8 o) rfl (HO2.out.alloc _) ⟨w2.heap.size, 0, none⟩ 1 1 [.int .u8 (tb : Nat)] rfl rfl ?c1 ?c2 ?c3 ?c4 ?c5 ?_)
          case c1 => exact cell_one_new _ _ _
          case c2 => intro u hu; simp at hu; subst hu; rfl
          case c3 => unfold maxLen; omega
          case c4 => omega
          case c5 => have := HS2.out; have := HMON.out; simp; omega
          intro v2 w3 hown hgrow _ hat
          have HB3 : Hid (Below w.heap.size w w3) := by
            refine ((HB2.out.alloc (by have := HS2.out; have := HMON.out; omega) _).grown hgrow (by have := HS2.out; have := HMON.out; simp; omega) fun g hg => (HO2.out.lt g hg).1)
          have HO3 := Lib.hid hown
          have d1' : w3.cell? ⟨wr.heap.size, 1, none⟩ = some (.int .i64 0) := by
            rw [cell_of_row w3 _ 1 _ _ _ (after_append E0.out (by exact ⟨hgrow.os, hgrow.tape, hgrow.output, hgrow.size, hgrow.block⟩) (row_ne (by decide) HO2.out E0.out))]; rfl
          clear hown hgrow hat d0 d1 d2
          go_wp2_with fail
          refine wp_loop_rounds 1 ?_
          rw [rounds_succ]
          go_wp2_with fail
          go_roundw
          case rel =>
            refine ⟨k + 1, by omega, by go_num, HEK, ?_, HB3⟩
            rw [HSO1.out, List.length_append, cells8_app]
            exact HO3
          case measure => simp [intOf]; omega
        · have hR := HFT.out
          obtain ⟨h3, h4, h5, h6⟩ : 3 ≤ tl ∧ tl ≤ 258 ∧ 1 ≤ td ∧ td ≤ 32768 := (right_copy hR.1 hl0).2
          have hdl : td ≤ (o.length : Int) := hR.2.1
          have hwl : (o.length : Int) + max tl 1 ≤ 1048576 := hR.2.2
          obtain ⟨l, rfl⟩ : ∃ l : Nat, tl = (l : Nat) := ⟨tl.toNat, by omega⟩
          obtain ⟨d, rfl⟩ : ∃ d : Nat, td = (d : Nat) := ⟨td.toNat, by omega⟩
          have hsum : o.length + l ≤ 1048576 := by omega
          have hd1 : 1 ≤ d := by omega
          have hdo : d ≤ o.length := by omega
          have hl3 : 3 ≤ l ∧ l ≤ 258 := by omega
          have HSO1 : Hid (expO f (k + 1) = copyT o d l) := HO1.out.trans (by unfold stepT; rw [if_neg hl0]; rfl)
          have hz : ((l : Int) == 0) = false := by rw [beq_eq_false_iff_ne]; omega
          have hbd : decide (o.length < d) = false := decide_eq_false (by omega)
          have hl1 := hl3.1
          have hl2 := hl3.2
          have HARI : Hid (o.length + l ≤ 1048576 ∧ 1 ≤ d ∧ d ≤ o.length ∧ 3 ≤ l ∧ l ≤ 258) := ⟨hsum, hd1, hdo, hl1, hl2⟩
          clear hR h3 h4 h5 h6 hdl hwl hl0 hl3
          go_wp2_with fail
          refine (HF.out _).mono ?_
          rintro e w2 ⟨rfl, hb2⟩
          have e0 := (hb2.block _ (by simp)).trans HBX.out
          have d1 : w2.cell? ⟨wr.heap.size, 1, none⟩ = some (.int .i64 (l : Nat)) := by rw [cell_of_row w2 _ 1 _ _ _ e0]; rfl
          have d2 : w2.cell? ⟨wr.heap.size, 2, none⟩ = some (.int .i64 (d : Nat)) := by rw [cell_of_row w2 _ 2 _ _ _ e0]; rfl
          have HO2 := Lib.hid (row_kept HOW.out (fun g hg => hb2.block g (HOW.out.lt g hg).2))
          have HB2 := Lib.hid (HB1.out w2 hb2)
          have hsz2 : wr.heap.size + 1 ≤ w2.heap.size := by have := hb2.size; simpa using this
          have E0 := Lib.hid e0
          have HS2 := Lib.hid hsz2
          clear e0 hb2 hsz2
          go_wp2_with fail
          go_loopw [8, 4] (fun i v w3 => ∃ j : Nat, j ≤ l ∧ i = .int .i64 (j : Nat) ∧ Hid (CopySt w w2 w3 47 wr.heap.size ⟨tb, l, d⟩ o d j v)) (fun i _ _ => l - (intOf i).toNat)
          case atStart => exact ⟨0, Nat.zero_le _, rfl, HO2.out, E0.out, HB2.out, Nat.le_refl _⟩
          case round =>
            obtain ⟨j, hj, rfl, HC⟩ := hrel
            have k1 := (cell_of_row _ _ 1 _ _ _ HC.out.2.1).trans (show _ = some (Value.int .i64 (l : Nat)) from rfl)
            by_cases hjl : j < l
            · obtain ⟨ho3, hx3, hb3, hs3⟩ := HC.out
              have hlen := copyT_len o d j
              have hbyte := copyT_lt o d j HXL.out
              have hnext : copyT o d (j + 1) = copyT o d j ++ [(copyT o d j).getD ((copyT o d j).length - d) 0] := rfl
              have HN := Lib.hid hnext
              clear hnext
              generalize copyT o d j = p at *
              obtain ⟨g3, cp3, rfl, hget⟩ := own_byte ho3 (by omega)
              obtain ⟨q, hq, hq2⟩ : ∃ q : Nat, p.length - d = q ∧ ((p.length : Int) - (d : Int)) = (q : Int) := ⟨p.length - d, rfl, by omega⟩
              have c3 := hget q (by omega)
              have hx := bytes_lt hbyte q
              rw [hq] at HN
              generalize p.getD q 0 = x at *
              have k2 := (cell_of_row _ _ 2 _ _ _ hx3).trans (show _ = some (Value.int .i64 (d : Nat)) from rfl)
              have hw1 : IntKind.i64.wrap (q : Int) = (q : Int) := by rw [IntKind.wrap_i64]; omega
              have hqz : q < p.length := by omega
              have hqi : (q : Int) < (p.length : Int) := by omega
              have hpl : p.length ≤ 1048575 := by omega
              have HO3 := Lib.hid ho3
              have HX3 := Lib.hid hx3
              have HB3 := Lib.hid hb3
              have HS3 := Lib.hid hs3
              clear hget hbyte ho3 hx3 hb3 hs3 hq HC hsum hdo hd1 hlen
              go_wp2_with (at_builtin; refine wpList_append_own_at _ rfl (.tmp 46) (.tmp 55) _ rfl w.heap.size 5 i0 (.int .u8 0) 1 1 Try.underlying29 hi hz0 hz1 hz2 rfl (by decide) _ p.length (cells8 p) rfl (HO3.out.alloc _) ⟨wr.heap.size, 0, none⟩ 1 1 [.int .u8 (x : Nat)] rfl rfl ?e1 ?e2 ?e3 ?e4 ?e5 ?_)
              case e2 => rfl
              case e3 => unfold maxLen; omega
              case e4 => omega
              case e5 => have := HS3.out; have := HS2.out; have := HMON.out; simp; omega
              intro v2 w4 hown hgrow _ hat
              have HC4 := Lib.hid (show CopySt w w2 w4 47 _ ⟨tb, l, d⟩ o d (j + 1) v2 from ⟨by rw [HN.out, List.length_append, cells8_app]; exact hown, after_append HX3.out (by exact ⟨hgrow.os, hgrow.tape, hgrow.output, hgrow.size, hgrow.block⟩) (row_ne (by decide) HO3.out HX3.out),
                (HB3.out.alloc (by have := HS3.out; have := HS2.out; have := HMON.out; omega) _).grown hgrow (by have := HS3.out; have := HS2.out; have := HMON.out; simp; omega) fun g hg => (HO3.out.lt g hg).1, by have h1 := hgrow.size; have h2 := HS3.out; simp at h1; omega⟩)
              clear hown hgrow hat
              go_wp2_with fail
              go_roundw
              case rel => exact ⟨j + 1, by omega, by go_num, HC4⟩
              case measure => simp [intOf]; omega
            · obtain rfl : j = l := by omega
              obtain ⟨ho3, hx3, hb3, hs3⟩ := HC.out
              have HO3 := Lib.hid ho3
              have HB3 := Lib.hid hb3
              clear ho3 hx3 hb3 hs3
              go_wp2_with fail
              go_roundw
              case rel =>
                refine ⟨k + 1, by omega, by go_num, HEK, ?_, HB3⟩
                rw [HSO1.out]
                exact HO3
              case measure => simp [intOf]; omega
      · have HZ := Lib.hid (HEND.out _ rfl hfit)
        have HZ2 := Lib.hid (expT_no (f := f) (n := n) (by rw [HZ.out]; exact hfit))
        have hok3 := hok.2.2.1
        have hokd := hok.2.2.2
        cases hrt : rightT t with
        | false =>
          have HE8 : Hid (fitsT t o.length = 8) := by unfold fitsT; rw [hrt]; rfl
          rw [hrt] at HF
          clear hok hrt hfit
          go_wp2_with (go_at_call 23; refine (HF.out _).mono ?_; rintro e w2 ⟨rfl, hb2⟩)
          go_ret2
          rw [HZ.out, HZ2.out, HE8.out]
          exact ⟨rfl, HB1.out _ hb2⟩
        | true =>
          have hpos := right_pos hrt
          have hw1 : widT t = max t.l 1 := rfl
          rw [hrt] at HF
          have HFD : Hid (fitsT t o.length = if (o.length : Int) < t.d then 11 else if 1048576 - (o.length : Int) < max t.l 1 then 14 else 0) := by
            unfold fitsT; rw [hrt]; rfl
          have HFIT := Lib.hid hfit
          clear hok hrt hfit hw1
          obtain ⟨tb, tl, td⟩ := t
          dsimp only at *
          by_cases hdl : (o.length : Int) < td
          · have HE8 : Hid (fitsT ⟨tb, tl, td⟩ o.length = 11) := HFD.out.trans (if_pos hdl)
            go_wp2_with fail
            refine (HF.out _).mono ?_
            rintro e w2 ⟨rfl, hb2⟩
            have e0 := (hb2.block _ (by simp)).trans HBX.out
            have d2 : w2.cell? ⟨wr.heap.size, 2, none⟩ = some (.int .i64 td) := by rw [cell_of_row w2 _ 2 _ _ _ e0]; rfl
            have HB2 := Lib.hid (HB1.out w2 hb2)
            clear hb2 e0
            go_wp2
            go_ret2
            rw [HZ.out, HZ2.out, HE8.out]
            exact ⟨rfl, HB2.out⟩
          · have hwl : 1048576 - (o.length : Int) < max tl 1 := by
              by_cases h : 1048576 - (o.length : Int) < max tl 1
              · exact h
              · exact absurd (HFD.out.trans ((if_neg hdl).trans (if_neg h))) HFIT.out
            have HE8 : Hid (fitsT ⟨tb, tl, td⟩ o.length = 14) := HFD.out.trans ((if_neg hdl).trans (if_pos hwl))
            by_cases hl0 : tl = 0
            · subst hl0
              have hol1 : o.length = 1048576 := by omega
              have h4 : ((o.length : Nat) : Int) = 1048576 := by omega
              have H4 := Lib.hid h4
              have H5 := Lib.hid hol1
              clear hwl h4 hol1
              go_wp2_with fail
              refine (HF.out _).mono ?_
              rintro e w2 ⟨rfl, hb2⟩
              have e0 := (hb2.block _ (by simp)).trans HBX.out
              have d1 : w2.cell? ⟨wr.heap.size, 1, none⟩ = some (.int .i64 0) := by rw [cell_of_row w2 _ 1 _ _ _ e0]; rfl
              have d2 : w2.cell? ⟨wr.heap.size, 2, none⟩ = some (.int .i64 td) := by rw [cell_of_row w2 _ 2 _ _ _ e0]; rfl
              have HB2 := Lib.hid (HB1.out w2 hb2)
              obtain ⟨m, e1, hm, hm2⟩ : ∃ m : Nat, ((o.length : Int) + 1) = (m : Int) ∧ 1048576 < m ∧ m ≤ 2000000 := ⟨o.length + 1, by omega, by have := H5.out; omega, by have := H5.out; omega⟩
              clear hb2 e0
              go_wp2
              go_ret2
              rw [HZ.out, HZ2.out, HE8.out]
              exact ⟨rfl, HB2.out⟩
            · obtain ⟨l, rfl⟩ : ∃ l : Nat, tl = (l : Nat) := ⟨tl.toNat, by omega⟩
              have hl1 : 1 ≤ l := by omega
              have hl2 : l ≤ 258 := by omega
              have hwl2 : 1048576 < o.length + l := by omega
              have hz : ((l : Int) == 0) = false := by rw [beq_eq_false_iff_ne]; omega
              clear hwl hl0 hpos
              go_wp2_with fail
              refine (HF.out _).mono ?_
              rintro e w2 ⟨rfl, hb2⟩
              have e0 := (hb2.block _ (by simp)).trans HBX.out
              have d1 : w2.cell? ⟨wr.heap.size, 1, none⟩ = some (.int .i64 (l : Nat)) := by rw [cell_of_row w2 _ 1 _ _ _ e0]; rfl
              have d2 : w2.cell? ⟨wr.heap.size, 2, none⟩ = some (.int .i64 td) := by rw [cell_of_row w2 _ 2 _ _ _ e0]; rfl
              have HB2 := Lib.hid (HB1.out w2 hb2)
              clear hb2 e0
              go_wp2
              go_ret2
              rw [HZ.out, HZ2.out, HE8.out]
              exact ⟨rfl, HB2.out⟩
    · obtain rfl : k = n := by omega
      have hs := string_of_own HO.out (HLT.out k fun i hi => by
        obtain ⟨b, off, _, _, hc⟩ := HT.out (by omega)
        exact (hc i hi).1.1)
      have HX := Lib.hid (expT_ok HE.out)
      obtain ⟨A2, cp2, rfl⟩ := row_slice HO.out
      go_wp2
      go_ret2
      rw [HX.out, HE.out]
      exact ⟨rfl, HB.out⟩
end Go.Proofs.Ytfhbkidceombbaa

namespace Go.Proofs.Ytfhbkidceombbaa
set_option maxRecDepth 100000
open Go.RowKit Go.Deep Go.ChangeMaps Go.ChangeShapes Go.WideShapes Go.MapKept
open Go.Maps (Keyed IsMap has)
open Go.WideMaps (KeyLaw)
open Go.WideElems (Fit rd rg entry_then_store)

theorem tri_row : (184 : TypeId) < Try.prog.types.size := of_decide_eq_true (by kernel_rfl)
theorem tri_cells : Try.prog.cellsOf 184 = 3 := by kernel_rfl
theorem tri_deep : Try.prog.keyTypeAt (Try.prog.types.size + 1) 184 = true := by kernel_rfl
theorem tri_wide : (match Try.prog.underlying 184 with | some (.array _ _) | some (.struct _) => true | _ => false) = true := by rw [Try.underlying184]
theorem tri_klaw : KeyLaw Try.prog 184 := deep_law_laid laid_out (m := 2) (by omega) tri_row (by kernel_rfl) tri_wide
theorem tri_law : Keyed Try.prog 184 := Keyed.of_law tri_klaw

/-- A triple as a value. -/
def tv (x y z : Nat) : Value := .agg #[.int .u8 (x : Nat), .int .u8 (y : Nat), .int .u8 (z : Nat)]
theorem tv_key (x y z : Nat) (hx : x < 256) (hy : y < 256) (hz : z < 256) : ∃ k, keyOf Try.prog 184 (tv x y z) = some k := by
  have h0 : (Lit.int .u8 (x : Nat)).wf = true := WalkArith.wf_u8 (by omega)
  have h1 : (Lit.int .u8 (y : Nat)).wf = true := WalkArith.wf_u8 (by omega)
  have h2 : (Lit.int .u8 (z : Nat)).wf = true := WalkArith.wf_u8 (by omega)
  have hf : (tv x y z).formed Try.prog 184 = true := by simp [tv, Value.formed, Try.underlying184, tri_cells]
  have t0 : DataW.trod (fun _ => ()) Try.prog (default : World) 0 (fun _ => false) false 1 5 [.int .u8 (x : Nat)] = some (.lit (.int .u8 (x : Nat)), []) := trod_int_mk 0 Try.underlying5 h0
  have t1 : DataW.trod (fun _ => ()) Try.prog (default : World) 0 (fun _ => false) false 1 5 [.int .u8 (y : Nat)] = some (.lit (.int .u8 (y : Nat)), []) := trod_int_mk 0 Try.underlying5 h1
  have t2 : DataW.trod (fun _ => ()) Try.prog (default : World) 0 (fun _ => false) false 1 5 [.int .u8 (z : Nat)] = some (.lit (.int .u8 (z : Nat)), []) := trod_int_mk 0 Try.underlying5 h2
  have hd : DataW.trod (fun _ => ()) Try.prog (default : World) 0 (fun _ => false) false 2 184 [.int .u8 (x : Nat), .int .u8 (y : Nat), .int .u8 (z : Nat)] = some (.agg [.lit (.int .u8 (x : Nat)), .lit (.int .u8 (y : Nat)), .lit (.int .u8 (z : Nat))], []) := by
    unfold DataW.trod
    rw [Try.underlying184]
    have r3 : List.range 3 = [0, 1, 2] := rfl
    simp [r3, u8_cells, tri_cells, t0, t1, t2]
  exact ⟨_, (keyOf_asKey tri_deep tri_wide hf ⟨2, by simpa [tv, Value.cells] using hd⟩).1⟩
/-- What a triple reads as, as a key. -/
noncomputable def tk (x y z : Nat) : Lit := (keyOf Try.prog 184 (tv x y z)).getD (.bool true)
theorem tk_of (x y z : Nat) (hx : x < 256) (hy : y < 256) (hz : z < 256) : keyOf Try.prog 184 (tv x y z) = some (tk x y z) := by
  obtain ⟨k, h⟩ := tv_key x y z hx hy hz
  unfold tk
  rw [h]
  rfl
theorem tk_inj (x y z x' y' z' : Nat) (hx : x < 256) (hy : y < 256) (hz : z < 256) (hx' : x' < 256) (hy' : y' < 256) (hz' : z' < 256) (h : tk x y z = tk x' y' z') : x = x' ∧ y = y' ∧ z = z' := by
  have e := tri_law.inj (tk_of x y z hx hy hz) (h ▸ tk_of x' y' z' hx' hy' hz')
  unfold tv at e
  simp at e
  omega

section
variable {H : Type} {P : Program} {w : World} {t k E : TypeId} {b : Nat} {es : Array MapEntry} {clock : Nat} {base : Nat} {e : TypeId} {q : IntKind} {n : Nat} {D : DataW H}
/-- A store does the same to one map wherever it lies. -/
theorem upd_local {R : Value → Option (DataW H × List MemPlace)} (K : Keyed P k) (ht : P.underlying t = some (.map k E)) (F : Fit P k R es clock) {key val : Value} {kl : Lit} (hkey : keyOf P k key = some kl) :
    ∃ o, ∀ u : World, u.heap[b]? = some (.map es clock) → (Instr.mapUpdate t (.map (some b)) key val).run P u = .ok () (setBlock u b o) := by
  rcases K.find (default : World) hkey es.toList F.keys with ⟨_, h2⟩ | ⟨j, e0, _, h2, h3⟩
  · refine ⟨.map (es.push ⟨key, val, clock⟩) (clock + 1), fun u hu => ?_⟩
    rcases K.find u hkey es.toList F.keys with ⟨h1, _⟩ | ⟨j, e0, _, h2', h3⟩
    · simp [Instr.mapUpdate, run_underlying ht, MapKept.run_getObj_map hu, K.check u false hkey, h1, MapKept.run_setObj_map _ hu, Result.andThen, setBlock]
    · exact absurd h3 (h2 e0 (List.mem_of_getElem? h2'))
  · refine ⟨.map (es.modify j (fun x => { x with key := key, val := val })) clock, fun u hu => ?_⟩
    rcases K.find u hkey es.toList F.keys with ⟨_, h⟩ | ⟨j', e1, h1, h2', h3'⟩
    · exact absurd h3 (h e0 (List.mem_of_getElem? h2))
    · have hpw := ((stamped_iff es clock).1 F.stamped).2.2
      have hjj : j' = j := by
        obtain ⟨hj, he⟩ := List.getElem?_eq_some_iff.1 h2
        obtain ⟨hj', he'⟩ := List.getElem?_eq_some_iff.1 h2'
        rcases Nat.lt_trichotomy j' j with h | h | h
        · have := List.pairwise_iff_getElem.1 hpw j' j hj' hj h
          rw [he, he', h3, h3'] at this
          exact absurd rfl this
        · exact h
        · have := List.pairwise_iff_getElem.1 hpw j j' hj hj' h
          rw [he, he', h3, h3'] at this
          exact absurd rfl this
      subst hjj
      have hj : es[j']? = some e1 := by simpa using h2'
      simp [Instr.mapUpdate, run_underlying ht, MapKept.run_getObj_map hu, K.check u false hkey, h1, hj, h3', K.stays u hkey, MapKept.run_setObj_map _ hu, Result.andThen, setBlock]
theorem groups_entry {key : Value} {kl : Lit} (K : KeyLaw P k) (ht : P.underlying t = some (.map k E)) (hz : ∀ u : World, (zeroValue E).run P u = .ok (.slice none 0 0) u) (h : w.ownsGroups P k base e q b n D) (hn : n < maxLen) (hkey : keyOf P k key = some kl) :
    ∃ v zs w1 st, (Instr.mapEntry t (.map (some b)) key).run P w = .ok (.tuple #[v, goInt st]) w1 ∧ D.atKey kl .nil = rowDatum q v zs ∧ w1.ownsInts base e q v zs ∧ zs.length ≤ n ∧ w.grownBy w1 (some b) ∧ w1.heap.size = w.heap.size ∧ b < base ∧
      ∀ (w2 : World) (v' : Value) (zs' : List Int), w1.grownBy w2 v.ownBlock → w2.ownsInts base e q v' zs' → zs'.length ≤ n + 1 → (v'.ownBlock = v.ownBlock ∨ ∃ g, v'.ownBlock = some g ∧ w1.heap.size ≤ g) →
        ∃ w3, (Instr.entryStore t (.map (some b)) (goInt st) v').run P w2 = .ok () w3 ∧ w3.ownsGroups P k base e q b (n + 1) (D.put kl (rowDatum q v' zs')) ∧ w2.grownBy w3 (some b) := by
  obtain ⟨v, zs, hrun, hat, hoi, hzl, hback⟩ := h.at (Keyed.of_law K) ht (hz w) hn hkey
  obtain ⟨es, clock, hb, F, hs, rfl, hbb, hlen, hap⟩ := h
  obtain ⟨v0, st, es1, clock1, hE, hcase, hS⟩ := entry_then_store (w := w) K ht hz hb F hkey
  have hblt : b < w.heap.size := (Array.getElem?_eq_some_iff.1 hb).1
  have hv : v0 = v := by
    rcases Maps.fit_look false (Keyed.of_law K) ht (hz w) hb F hkey with ⟨hr, hno, _⟩ | ⟨e0, y, hm0, h3, hr, _⟩
    · rw [hr] at hrun
      simp at hrun
      rcases hcase with ⟨e1, he1, hk1, _⟩ | ⟨_, h2⟩
      · exact absurd hk1 (hno e1 he1)
      · rw [h2, hrun]
    · rw [hr] at hrun
      simp at hrun
      rcases hcase with ⟨e1, he1, hk1, h2⟩ | ⟨hno, _⟩
      · rw [h2, ← hrun]
        exact congrArg MapEntry.val (entry_eq_of_key ((stamped_iff es clock).1 F.stamped).2.2 he1 hm0 (by rw [hk1, h3]))
      · exact absurd h3 (hno e0 hm0)
  subst hv
  have hg1 : w.grownBy (setBlock w b (.map es1 clock1)) (some b) := ⟨rfl, rfl, rfl, by simp [setBlock], fun i _ hi => heap_setBlock_other hb _ (fun e1 => hi (by rw [e1]))⟩
  have hvb : v0.ownBlock = none ∨ v0.ownBlock ≠ some b := by
    cases hu : v0.ownBlock with
    | none => exact .inl rfl
    | some g => exact .inr fun e1 => by have := (hoi.1.lt g hu).1; cases e1; omega
  refine ⟨v0, zs, _, st, hE, hat, hoi.kept hg1 hvb, hzl, hg1, by simp [setBlock], hbb, fun w2 v' zs' hgr hown' hl' hloc => ?_⟩
  have hsz1 : (setBlock w b (.map es1 clock1)).heap.size = w.heap.size := by simp [setBlock]
  have hb1 : (setBlock w b (.map es1 clock1)).heap[b]? = some (.map es1 clock1) := heap_setBlock_same hb _
  have hvb' : v0.ownBlock ≠ some b := by
    rcases hvb with h | h
    · rw [h]; simp
    · exact h
  have hb2 : w2.heap[b]? = some (.map es1 clock1) := (hgr.block b (by rw [hsz1]; exact hblt) (Ne.symm hvb')).trans hb1
  obtain ⟨o, hloc0⟩ := upd_local (b := b) (val := v') (Keyed.of_law K) ht F hkey
  obtain ⟨es', clock', hst, hup⟩ := hS w2 v' hb2
  have ho : o = .map es' clock' := by
    have h1 := hloc0 w hb
    rw [hup] at h1
    injection h1 with h1 h2
    have h3 := congrArg (fun u : World => u.heap[b]?) h2
    rw [heap_setBlock_same hb, heap_setBlock_same hb] at h3
    exact (Option.some.inj h3).symm
  subst ho
  have hgu : w2.grownBy (setBlock w2 b (.map es clock)) (some b) := ⟨rfl, rfl, rfl, by simp [setBlock], fun i _ hi => heap_setBlock_other hb2 _ (fun e1 => hi (by rw [e1]))⟩
  have hub : (setBlock w2 b (.map es clock)).heap[b]? = some (.map es clock) := heap_setBlock_same hb2 _
  have hvb2 : v'.ownBlock = none ∨ v'.ownBlock ≠ some b := by
    cases hu : v'.ownBlock with
    | none => exact .inl rfl
    | some g => exact .inr fun e1 => by have := (hown'.1.lt g hu).1; cases e1; omega
  have hwu : w.grownBy (setBlock w2 b (.map es clock)) v0.ownBlock := by
    refine ⟨hgr.os, hgr.tape, hgr.output, by have := hgr.size; rw [hsz1] at this; simpa [setBlock] using this, fun i hi hne => ?_⟩
    by_cases e1 : i = b
    · subst e1; rw [hub, hb]
    · rw [heap_setBlock_other hb2 _ e1, hgr.block i (by rw [hsz1]; exact hi) hne, heap_setBlock_other hb _ e1]
  obtain ⟨w3, hrun3, hgr3, hg3⟩ := hback (setBlock w2 b (.map es clock)) v' zs' hwu (hown'.kept hgu hvb2) hl' (hloc.imp id fun ⟨g, h1, h2⟩ => ⟨g, h1, by rw [hsz1] at h2; exact h2⟩)
  have h4 := hloc0 _ hub
  rw [hrun3] at h4
  injection h4 with _ h4
  have h5 : setBlock (setBlock w2 b (.map es clock)) b (.map es' clock') = setBlock w2 b (.map es' clock') := by simp [setBlock]
  rw [h5] at h4
  subst h4
  exact ⟨_, hst, hgr3, ⟨rfl, rfl, rfl, by simp [setBlock], fun i _ hi => heap_setBlock_other hb2 _ (fun e1 => hi (by rw [e1]))⟩⟩
end
section
variable {H : Type} {P : Program} (w : World) {ops : Array Oper} {rest : List Oper} {o : Oper} {a : Act} {Q : Exit → Act → World → Prop}
theorem wpList_mapEntry (hg : o.guard = none) (m x : Operand) (t : TypeId) (hop : o.op = Op.mapEntry t m x) (b : Nat) (hm : a.eval m = .map (some b)) (key : Value) (hx : a.eval x = key) {v : Value} {st : Nat} {w1 : World}
    (hrun : (Instr.mapEntry t (.map (some b)) key).run P w = .ok (.tuple #[v, goInt st]) w1) (hK : wpList P ops Q rest (a.put o.dst (.tuple #[v, goInt st])) w1) : wpList P ops Q (o :: rest) a w := by
  refine wpList_plain hg fun K' hK' => ?_
  unfold Oper.wp
  simp [execOp, hop, hm, hx, hrun, Result.andThen]
  exact hK' _ _ hK
theorem wpList_entryStore (hg : o.guard = none) (m s x : Operand) (t : TypeId) (hop : o.op = Op.entryStore t m s x) (b : Nat) (hm : a.eval m = .map (some b)) (st : Nat) (hs : a.eval s = goInt st) (v : Value) (hx : a.eval x = v) {w1 : World}
    (hrun : (Instr.entryStore t (.map (some b)) (goInt st) v).run P w = .ok () w1) (hK : wpList P ops Q rest (a.put o.dst undef) w1) : wpList P ops Q (o :: rest) a w := by
  refine wpList_plain hg fun K' hK' => ?_
  unfold Oper.wp
  simp [execOp, hop, hm, hs, hx, hrun, Result.andThen]
  exact hK' _ _ hK
end
end Go.Proofs.Ytfhbkidceombbaa

namespace Go.Proofs.Ytfhbkidceombbaa
set_option maxRecDepth 100000
open Go.RowKit Go.Deep Go.ChangeMaps Go.ChangeShapes Go.WideShapes
open Go.Maps (Keyed IsMap has)

def zsOf (l : List Nat) : List Int := l.map fun i => ((i : Nat) : Int)
/-- What the map holds of the first k places. -/
noncomputable def gM (a : Nat → Nat) : Nat → DataW Unit
  | 0 => .map []
  | k + 1 => (gM a k).put (tk (a k) (a (k + 1)) (a (k + 2))) (.slice (lits .i64 (zsOf (places a (a k) (a (k + 1)) (a (k + 2)) (k + 1)))) [])
/-- Places as read. -/
def pd (l : List Nat) : DataW Unit := if l = [] then .nil else .slice (lits .i64 (zsOf l)) []
theorem gM_isMap (a : Nat → Nat) : ∀ k, IsMap (gM a k)
  | 0 => ⟨_, rfl⟩
  | k + 1 => (gM_isMap a k).put _ _
theorem gM_has (a : Nat → Nat) (ha : ∀ i, a i < 256) (kl : Lit) : ∀ k, has (gM a k) kl = true ↔ ∃ i, i < k ∧ kl = tk (a i) (a (i + 1)) (a (i + 2))
  | 0 => by
    constructor
    · intro h; simp [gM, has] at h
    · rintro ⟨i, h, _⟩; omega
  | k + 1 => by
    have ih := gM_has a ha kl k
    have hk := tri_law.key (tk_of (a k) (a (k + 1)) (a (k + 2)) (ha _) (ha _) (ha _))
    rw [gM]
    by_cases e : kl = tk (a k) (a (k + 1)) (a (k + 2))
    · subst e
      rw [Maps.has_put_same (gM_isMap a k) hk]
      exact ⟨fun _ => ⟨k, by omega, rfl⟩, fun _ => rfl⟩
    · rw [Maps.has_put_other e, ih]
      constructor
      · rintro ⟨i, hi, h⟩; exact ⟨i, by omega, h⟩
      · rintro ⟨i, hi, h⟩
        refine ⟨i, ?_, h⟩
        by_cases e2 : i = k
        · subst e2; exact absurd h e
        · omega
theorem gM_at (a : Nat → Nat) (ha : ∀ i, a i < 256) (x y z : Nat) (hx : x < 256) (hy : y < 256) (hz : z < 256) : ∀ k, (gM a k).atKey (tk x y z) .nil = pd (places a x y z k)
  | 0 => rfl
  | k + 1 => by
    have ih := gM_at a ha x y z hx hy hz k
    have hk := tri_law.key (tk_of (a k) (a (k + 1)) (a (k + 2)) (ha _) (ha _) (ha _))
    rw [gM]
    by_cases e : a k = x ∧ a (k + 1) = y ∧ a (k + 2) = z
    · obtain ⟨rfl, rfl, rfl⟩ := e
      rw [Maps.atKey_put_same (gM_isMap a k) hk]
      unfold pd
      rw [if_neg (by rw [places, if_pos ⟨rfl, rfl, rfl⟩]; simp)]
    · rw [Maps.atKey_put_other (fun h => e (by
        obtain ⟨h1, h2, h3⟩ := tk_inj _ _ _ _ _ _ hx hy hz (ha _) (ha _) (ha _) h
        exact ⟨h1.symm, h2.symm, h3.symm⟩)), ih, places, if_neg e]
theorem pd_inj {W : World} {base : Nat} {v : Value} {zs : List Int} {l : List Nat} (ho : W.ownsInts base 3 .i64 v zs) (h : pd l = rowDatum .i64 v zs) : zs = zsOf l := by
  rcases ho.datum (H := Unit) with ⟨h1, h2⟩ | h1
  · rw [h1] at h
    unfold pd at h
    split at h
    · rename_i e; rw [e, h2]; rfl
    · cases h
  · rw [h1] at h
    unfold pd at h
    split at h
    · cases h
    · injection h with h _
      have hinj : ∀ a b : List Int, lits (H := Unit) .i64 a = lits .i64 b → a = b := fun a b e => (List.map_inj_right (fun x y hxy => by cases hxy; rfl)).1 e
      exact (hinj _ _ h).symm

theorem info_int : (Try.prog.info? 3).map (fun i => (i.zero, i.size, i.bytes)) = some (some (.int .i64 0), 1, 8) := by kernel_rfl
theorem zero_ints (w : World) : (zeroValue 81).run Try.prog w = .ok (.slice none 0 0) w := by kernel_rfl
theorem zero_tri (w : World) : (zeroValue 184).run Try.prog w = .ok (.agg #[.int .u8 0, .int .u8 0, .int .u8 0]) w := by kernel_rfl
theorem groups_kept {H : Type} {P : Program} {w w' : World} {k : TypeId} {base : Nat} {e : TypeId} {q : IntKind} {b n : Nat} {D : DataW H} (h : w.ownsGroups P k base e q b n D) (hg : w.grownBy w' none) : w'.ownsGroups P k base e q b n D := by
  obtain ⟨es, clock, hb, F, hs, rfl, hbb, hlen, hap⟩ := h
  have kept : ∀ {v : Value} {zs : List Int}, w.ownsInts base e q v zs → w'.ownsInts base e q v zs := fun ho => ho.kept hg (by cases hv : Value.ownBlock _ <;> simp)
  obtain ⟨F2, hmap, _⟩ := F.stay (R' := rowElem (H := H) w' base e q) (fun x _ z hz => by
    obtain ⟨ys, ho, rfl⟩ := rowElem_inv hz
    exact rowElem_mk (kept ho))
  refine ⟨es, clock, (hg.block b (Array.getElem?_eq_some_iff.1 hb).1 (by simp)).trans hb, F2, hs, by rw [hmap], hbb, fun x hx zs ho => ?_, hap⟩
  obtain ⟨y, hy⟩ := F.reads x hx
  obtain ⟨z, hz, _⟩ := Go.WideElems.rd_val hy
  obtain ⟨ys, ho', _⟩ := rowElem_inv hz
  rw [ho.unique (kept ho')]
  exact hlen x hx ys ho'
theorem cell1 {w : World} {g : Nat} {x : Value} (h : w.cell? ⟨g, 0, none⟩ = some x) : ∀ j u, [x][j]? = some u → w.cell? ((⟨g, 0, none⟩ : Addr).add j) = some u := by
  intro j u hj
  match j, hj with
  | 0, hj =>
    simp at hj
    subst hj
    simpa [Addr.add] using h
theorem gM_step (a : Nat → Nat) (ha : ∀ i, a i < 256) (k : Nat) {W : World} {base : Nat} {v v' : Value} {zs : List Int} (hat : (gM a k).atKey (tk (a k) (a (k + 1)) (a (k + 2))) .nil = rowDatum .i64 v zs) {W0 : World} (ho : W0.ownsInts base 3 .i64 v zs)
    (ho' : W.ownsInts base 3 .i64 v' (zs ++ [((k : Nat) : Int)])) : (gM a k).put (tk (a k) (a (k + 1)) (a (k + 2))) (rowDatum .i64 v' (zs ++ [((k : Nat) : Int)])) = gM a (k + 1) := by
  rw [gM_at a ha _ _ _ (ha _) (ha _) (ha _)] at hat
  have hz := pd_inj ho hat
  rw [gM, ho'.datum_pos (by simp), hz, places, if_pos ⟨rfl, rfl, rfl⟩]
  unfold zsOf
  rw [List.map_append]
  rfl
set_option maxHeartbeats 4000000 in
theorem chains_long (s : ByteArray) (hs : 1048576 < s.size) (w : World) : Calls Try.prog 114 #[.string s] w fun e w' => e = .returned (.map none) ∧ w' = w := by
  go_enter Try.func114, Try.ntmps114
  go_wp2
  go_ret
  exact ⟨rfl, rfl⟩
set_option maxHeartbeats 4000000 in
theorem chains_any (s : ByteArray) (hs : s.size ≤ 1048576) (w : World) : Calls Try.prog 114 #[.string s] w fun e w' => e = .returned (.map (some w.heap.size)) ∧ w'.ownsGroups Try.prog 184 (w.heap.size + 1) 3 .i64 w.heap.size (s.size - 2) (gM (bt s) (s.size - 2)) ∧ Below w.heap.size w w' := by
  obtain ⟨i0, hi, hz0, hz1, hz2⟩ := info_parts info_int
  have hmm := @run_makeMap Try.prog
  have hzt := zero_tri
  go_enter Try.func114, Try.ntmps114
  go_wp2_with fail
  go_loopw [14] (fun i wr => ∃ k : Nat, k ≤ s.size - 2 ∧ i = .int .i64 (k : Nat) ∧ Hid (wr.ownsGroups Try.prog 184 (w.heap.size + 1) 3 .i64 w.heap.size k (gM (bt s) k)) ∧ Hid (Below w.heap.size w wr) ∧ Hid (w.heap.size + 1 ≤ wr.heap.size)) (fun i _ => (s.size - 2) - (intOf i).toNat)
  case atStart => exact ⟨0, Nat.zero_le _, rfl, World.ownsGroups_made _ _ _ _ _, (Below.refl _ _).alloc (Nat.le_refl _) _, (by simp : w.heap.size + 1 ≤ (w.alloc (.map #[] 0)).heap.size)⟩
  case round =>
    obtain ⟨k, hk, rfl, HG, HB, HS⟩ := hrel
    by_cases hkn : k + 2 < s.size
    · have l0 : k < s.size := by omega
      obtain ⟨q1, e1, f1⟩ : ∃ q1 : Nat, ((k : Int) + 1) = (q1 : Int) ∧ q1 = k + 1 := ⟨k + 1, by omega, rfl⟩
      obtain ⟨q2, e2, f2⟩ : ∃ q2 : Nat, ((k : Int) + 2) = (q2 : Int) ∧ q2 = k + 2 := ⟨k + 2, by omega, rfl⟩
      have l1 : q1 < s.size := by omega
      have l2 : q2 < s.size := by omega
      have F1 := Lib.hid f1
      have F2 := Lib.hid f2
      clear f1 f2
      go_wp2_with fail
      go_region
      rw [bt_get s k l0, bt_get s q1 l1, bt_get s q2 l2]
      have b0 := bt_lt s k
      have b1 := bt_lt s q1
      have b2 := bt_lt s q2
      have HK := Lib.hid (tk_of _ _ _ b0 b1 b2)
      have hg1 : wr.grownBy (wr.alloc (.cells #[.int .u8 (bt s k : Nat), .int .u8 (bt s q1 : Nat), .int .u8 (bt s q2 : Nat)] 184)).drew none := ⟨rfl, rfl, rfl, by simp [World.drew], fun i hi _ => Below.heap_alloc wr _ i hi⟩
      have hx1 : (wr.alloc (.cells #[.int .u8 (bt s k : Nat), .int .u8 (bt s q1 : Nat), .int .u8 (bt s q2 : Nat)] 184)).drew.heap[wr.heap.size]? = some (.cells #[.int .u8 (bt s k : Nat), .int .u8 (bt s q1 : Nat), .int .u8 (bt s q2 : Nat)] 184 (0, 0)) := heap_alloc_new wr _
      have hs1 : (wr.alloc (.cells #[.int .u8 (bt s k : Nat), .int .u8 (bt s q1 : Nat), .int .u8 (bt s q2 : Nat)] 184)).drew.heap.size = wr.heap.size + 1 := by simp [World.drew]
      have hB1 : Below w.heap.size w (wr.alloc (.cells #[.int .u8 (bt s k : Nat), .int .u8 (bt s q1 : Nat), .int .u8 (bt s q2 : Nat)] 184)).drew := (HB.out.alloc (by have := HS.out; omega) _).drew
      have HBT : Hid (∀ W : World, ∀ base v v' zs, ∀ W0 : World, (gM (bt s) k).atKey (tk (bt s k) (bt s q1) (bt s q2)) .nil = rowDatum .i64 v zs → W0.ownsInts base 3 .i64 v zs → W.ownsInts base 3 .i64 v' (zs ++ [((k : Nat) : Int)]) → (gM (bt s) k).put (tk (bt s k) (bt s q1) (bt s q2)) (rowDatum .i64 v' (zs ++ [((k : Nat) : Int)])) = gM (bt s) (k + 1)) := by
        intro W base v v' zs W0 h1 h2 h3
        rw [F1.out, F2.out] at h1 ⊢
        exact gM_step (bt s) (bt_lt s) k h1 h2 h3
      generalize bt s k = x0 at *
      generalize bt s q1 = x1 at *
      generalize bt s q2 = x2 at *
      have HG1 := groups_kept HG.out hg1
      generalize (wr.alloc (.cells #[.int .u8 (x0 : Nat), .int .u8 (x1 : Nat), .int .u8 (x2 : Nat)] 184)).drew = w1 at *
      have k0 : w1.cell? ⟨wr.heap.size, 0, none⟩ = some (.int .u8 (x0 : Nat)) := by rw [cell_of_row w1 _ 0 _ _ _ hx1]; rfl
      have k1 : w1.cell? ⟨wr.heap.size, 1, none⟩ = some (.int .u8 (x1 : Nat)) := by rw [cell_of_row w1 _ 1 _ _ _ hx1]; rfl
      have k2 : w1.cell? ⟨wr.heap.size, 2, none⟩ = some (.int .u8 (x2 : Nat)) := by rw [cell_of_row w1 _ 2 _ _ _ hx1]; rfl
      have HG2 := groups_kept HG1 (World.grownBy_alloc w1 (.cells #[.int .i64 (k : Nat)] 3) none)
      have hB2 : Below w.heap.size w (w1.alloc (.cells #[.int .i64 (k : Nat)] 3)) := hB1.alloc (by have := HS.out; omega) _
      have hx2 : (w1.alloc (.cells #[.int .i64 (k : Nat)] 3)).cell? ⟨w1.heap.size, 0, none⟩ = some (.int .i64 (k : Nat)) := by rw [cell_of_row _ _ 0 _ _ _ (heap_alloc_new w1 _)]; rfl
      have hs2 : (w1.alloc (.cells #[.int .i64 (k : Nat)] 3)).heap.size = w1.heap.size + 1 := by simp
      obtain ⟨v, zs, w3, st, hE, hat, hoi, hzl, hg3, hs3, hbb, hst⟩ := groups_entry (t := 181) tri_klaw Try.underlying181 zero_ints HG2 (by unfold maxLen; omega) HK.out
      have k3 : w3.cell? ⟨w1.heap.size, 0, none⟩ = some (.int .i64 (k : Nat)) := (World.cell?_of_block (hg3.block w1.heap.size (by rw [hs2]; omega) (by intro e; injection e with e; have := HS.out; omega))).trans hx2
      have HOI := Lib.hid hoi
      have HAT := Lib.hid hat
      have HST := Lib.hid hst
      have HZL := Lib.hid hzl
      have hB3 : Below w.heap.size w w3 := hB2.grown hg3 (by have := HS.out; rw [hs2]; omega) (fun j hj => by injection hj with e; omega)
      have HB3 := Lib.hid hB3
      have HSZ : Hid (w3.heap.size = wr.heap.size + 2) := by show w3.heap.size = _; rw [hs3, hs2, hs1]
      have HSZ1' : Hid (w1.heap.size = wr.heap.size + 1) := hs1
      unfold tv at hE
      clear hg1 hx1 hs1 hB1 HG1 HG2 hB2 hx2 hs2 hoi hat hst hzl hg3 hs3 hbb hB3 HK
      have HSZ1 : Hid (w1.heap.size = wr.heap.size + 1) := HSZ1'
      go_wp2_with (at_builtin; go_must (refine wpList_append_own_at _ rfl (.tmp 31) (.tmp 33) _ rfl (w.heap.size + 1) 3 i0 (.int .i64 0) 1 8 Try.underlying81 hi hz0 hz1 hz2 rfl (by decide) v zs.length (zs.map (Value.int .i64)) rfl HOI.out.1 ⟨w1.heap.size, 0, none⟩ 1 1 [.int .i64 (k : Nat)] rfl rfl (cell1 k3) (ints_oneCell .i64 [((k : Nat) : Int)]) (by have := HZL.out; unfold maxLen; omega) (by have := HZL.out; omega) (by have h1 := HSZ.out; have h2 := HS.out; omega) ?_; intro v' w4 hown' hgrow hnil hloc; obtain ⟨w5, hS, hG5, hg5⟩ := HST.out w4 v' _ hgrow (HOI.out.appended hown' (WalkArith.wf_i64 (by omega))) (by have := HZL.out; simp; omega) (hloc.imp id (fun h => ⟨_, h, Nat.le_refl _⟩)); have HOA := Lib.hid (HOI.out.appended hown' (WalkArith.wf_i64 (by omega))); have HGR := Lib.hid hgrow; have HG5 := Lib.hid hG5; have HR5 := Lib.hid hg5; clear hown' hgrow hnil hloc hG5 hg5; unfold goInt at hS))
      go_roundw
      case rel =>
        refine ⟨k + 1, by omega, by go_num, ?_, ?_, ?_⟩
        · have h := HG5.out
          rw [HBT.out _ _ v v' zs _ HAT.out HOI.out HOA.out] at h
          exact h
        · exact (HB3.out.grown HGR.out (by have h1 := HSZ.out; have h2 := HS.out; omega) (fun j hj => by have := (HOI.out.1.lt j hj).1; omega)).grown HR5.out (by have h0 := HGR.out.size; have h1 := HSZ.out; have h2 := HS.out; omega) (fun j hj => by injection hj with e; omega)
        · show w.heap.size + 1 ≤ _
          have h0 := HGR.out.size; have h1 := HSZ.out; have h2 := HS.out; have h3 := HR5.out.size; omega
      case measure => simp [intOf]; omega
    · obtain rfl : k = s.size - 2 := by omega
      go_wp2
      go_ret
      exact ⟨rfl, HG.out, HB.out⟩
end Go.Proofs.Ytfhbkidceombbaa

namespace Go.Proofs.Ytfhbkidceombbaa
set_option maxRecDepth 100000
open Go.RowKit Go.Deep Go.ChangeMaps Go.ChangeShapes Go.WideShapes
open Go.Maps (Keyed IsMap has Tidy)

theorem groups_own {H : Type} {P : Program} {w : World} {k : TypeId} {base : Nat} {e : TypeId} {q : IntKind} {b n : Nat} {D : DataW H} (h : w.ownsGroups P k base e q b n D) : w.ownsMap P k (rowElem w base e q) b n D := by
  obtain ⟨es, clock, hb, F, hs, rfl, _⟩ := h
  exact ⟨es, clock, hb, F, hs, rfl⟩
theorem gM_two (a : Nat → Nat) (ha : ∀ i, a i < 256) (hne : a 0 ≠ a 1) : Maps.size (gM a 2) = 2 := by
  have h1 : Tidy (gM a 1) := ⟨_, rfl, by simp [List.pairwise_cons, DataW.insert]⟩
  have h0 : Tidy (gM a 0) := Maps.tidy_empty
  have e1 : Maps.size (gM a 1) = 1 := by
    rw [gM, Maps.size_put h0]
    rfl
  have hf : has (gM a 1) (tk (a 1) (a 2) (a 3)) = false := by
    cases h : has (gM a 1) (tk (a 1) (a 2) (a 3)) with
    | false => rfl
    | true =>
      obtain ⟨i, hi, he⟩ := (gM_has a ha _ 1).1 h
      obtain rfl : i = 0 := by omega
      exact absurd (tk_inj _ _ _ _ _ _ (ha _) (ha _) (ha _) (ha _) (ha _) (ha _) he).1 (Ne.symm hne)
  rw [gM, Maps.size_put h1, hf, e1]
  rfl
def exToks : Nat → Tok := fun i => if i = 0 then ⟨97, 0, 0⟩ else ⟨0, 4, 1⟩
theorem ex_text : expT exToks 2 = [97, 97, 97, 97, 97] := by decide +kernel
theorem ex_err : expE exToks 2 = 0 := by decide +kernel
def abcd : ByteArray := ⟨#[97, 98, 99, 100]⟩
end Go.Proofs.Ytfhbkidceombbaa

namespace Go.Proofs.Ytfhbkidceombbaa
set_option maxRecDepth 100000
open Go.RowKit Go.Deep Go.Joins

def cellsI (l : List Nat) : List Value := l.map fun i => Value.int .i64 (i : Nat)
theorem cellsI_zs (l : List Nat) : (zsOf l).map (Value.int .i64) = cellsI l := by unfold zsOf cellsI; rw [List.map_map]; rfl
theorem byte_eq (s : ByteArray) (k x : Nat) (h : k < s.size) : ((s[k].toNat : Int) == (x : Int)) = decide (bt s k = x) := by
  rw [bt_get s k h]
  rw [Bool.eq_iff_iff]
  simp only [beq_iff_eq, decide_eq_true_eq]
  exact Int.natCast_inj
end Go.Proofs.Ytfhbkidceombbaa

namespace Go.Proofs.Ytfhbkidceombbaa
set_option maxRecDepth 100000
open Go.RowKit Go.Deep Go.ChangeMaps Go.ChangeShapes Go.WideShapes Go.MapKept
open Go.Maps (Keyed IsMap has)
open Go.WideElems (Fit rd rg)

noncomputable def keyOfT (a : Nat → Nat) (p : Nat) : Lit := tk (a p) (a (p + 1)) (a (p + 2))
/-- How many places' keys have come. -/
noncomputable def cameN (a : Nat → Nat) (left : Lit → Bool) : Nat → Nat
  | 0 => 0
  | m + 1 => if left (keyOfT a m) = true then cameN a left m else cameN a left m + 1
theorem came_start (a : Nat → Nat) (left : Lit → Bool) : ∀ m, (∀ p, p < m → left (keyOfT a p) = true) → cameN a left m = 0
  | 0, _ => rfl
  | m + 1, h => by rw [cameN, if_pos (h m (by omega)), came_start a left m fun p hp => h p (by omega)]
theorem came_end (a : Nat → Nat) (left : Lit → Bool) (h : ∀ kl, left kl = false) : ∀ m, cameN a left m = m
  | 0 => rfl
  | m + 1 => by rw [cameN, if_neg (by rw [h]; decide), came_end a left h m]
theorem came_step (a : Nat → Nat) (ha : ∀ i, a i < 256) (left : Lit → Bool) (x y z : Nat) (hx : x < 256) (hy : y < 256) (hz : z < 256) (hl : left (tk x y z) = true) : ∀ m, cameN a (fun kl => left kl && !kl.sameKey (tk x y z)) m = cameN a left m + (places a x y z m).length
  | 0 => rfl
  | m + 1 => by
    have ih := came_step a ha left x y z hx hy hz hl m
    rw [cameN, cameN, places]
    by_cases e : a m = x ∧ a (m + 1) = y ∧ a (m + 2) = z
    · have hk : keyOfT a m = tk x y z := by unfold keyOfT; rw [e.1, e.2.1, e.2.2]
      have hs : (tk x y z).sameKey (tk x y z) = true := WideAt.sameKey_self (tri_law.key (tk_of x y z hx hy hz))
      rw [hk, hs, hl, if_pos e, if_neg (by simp), if_pos rfl, ih, List.length_append]
      simp
      omega
    · have hne : keyOfT a m ≠ tk x y z := fun h => e (by
        have := tk_inj _ _ _ _ _ _ (ha _) (ha _) (ha _) hx hy hz h
        exact this)
      have hs : (keyOfT a m).sameKey (tk x y z) = false := Maps.sameKey_ne hne
      rw [hs, if_neg e, ih]
      cases left (keyOfT a m) <;> simp
      omega
theorem came_le (a : Nat → Nat) (left : Lit → Bool) (m : Nat) : cameN a left m ≤ m := by
  induction m with
  | zero => exact Nat.le_refl _
  | succ m ih => rw [cameN]; split <;> omega

section
variable {H : Type} {P : Program} {w : World} {t k E : TypeId} {b : Nat} {base : Nat} {e : TypeId} {q : IntKind} {n : Nat} {D : DataW H}
theorem look_local {key : Value} {kl : Lit} (K : Keyed P k) (ht : P.underlying t = some (.map k E)) (hz : ∀ u : World, (zeroValue E).run P u = .ok (.slice none 0 0) u) (h : w.ownsGroups P k base e q b n D) (hn : n < maxLen) (hkey : keyOf P k key = some kl) :
    ∃ v zs, (∀ u : World, u.heap[b]? = w.heap[b]? → (Instr.lookup t (.map (some b)) key false).run P u = .ok v u) ∧ D.atKey kl .nil = rowDatum q v zs ∧ w.ownsInts base e q v zs ∧ zs.length ≤ n := by
  obtain ⟨v, zs, hrun, hat, hoi, hzl, _⟩ := h.at K ht (hz w) hn hkey
  obtain ⟨es, clock, hb, F, hs, rfl, hbb, hlen, hap⟩ := h
  refine ⟨v, zs, fun u hu => ?_, hat, hoi, hzl⟩
  rcases Maps.fit_look false K ht (hz w) hb F hkey with ⟨hr, hno, _⟩ | ⟨e0, y, hm0, h3, hr, _⟩
  · rw [hr] at hrun
    simp at hrun
    rcases Maps.fit_look false K ht (hz u) (hu.trans hb) F hkey with ⟨hr', _⟩ | ⟨e1, y1, hm1, h31, hr', _⟩
    · rw [hr', ← hrun]; rfl
    · exact absurd h31 (hno e1 hm1)
  · rw [hr] at hrun
    simp at hrun
    rcases Maps.fit_look false K ht (hz u) (hu.trans hb) F hkey with ⟨hr', hno, _⟩ | ⟨e1, y1, hm1, h31, hr', _⟩
    · exact absurd h3 (hno e0 hm0)
    · rw [hr', ← hrun]
      have := entry_eq_of_key ((stamped_iff es clock).1 F.stamped).2.2 hm1 hm0 (by rw [h31, h3])
      rw [this]
      rfl
end
/-- A slice, by its parts. -/
def mkS (p : Option Addr × Nat × Nat) : Value := .slice p.1 p.2.1 p.2.2
theorem inv_slice {w0 : World} {base : Nat} {e : TypeId} (v : Value) (y : DataW Unit × List MemPlace) (h : rowElem w0 base e .i64 v = some y) : ∃ c, v = mkS c := by
  obtain ⟨zs, ho, _⟩ := rowElem_inv h
  obtain ⟨A, c, rfl⟩ := row_slice ho.1
  exact ⟨(A, zs.length, c), rfl⟩
theorem inv_key (key : Value) (kl : Lit) (_ : keyOf Try.prog 184 key = some kl) : ∃ x, key = (fun v : Value => v) x := ⟨key, rfl⟩
/-- What comes at a key: where its triple begins. -/
theorem came_val (a : Nat → Nat) (ha : ∀ i, a i < 256) (m : Nat) {w0 : World} {base : Nat} {c : Option Addr × Nat × Nat} {kl : Lit} {y : DataW Unit × List MemPlace} (hl : has (gM a m) kl = true) (hv : rowElem w0 base 3 .i64 (mkS c) = some y) (hat : ∀ zd, (gM a m).atKey kl zd = y.1) :
    ∃ p, p < m ∧ kl = keyOfT a p ∧ w0.ownsInts base 3 .i64 (mkS c) (zsOf (places a (a p) (a (p + 1)) (a (p + 2)) m)) ∧ c.2.1 = (places a (a p) (a (p + 1)) (a (p + 2)) m).length := by
  obtain ⟨p, hp, hkl⟩ := (gM_has a ha kl m).1 hl
  obtain ⟨zs, ho, rfl⟩ := rowElem_inv hv
  have h1 := hat .nil
  rw [hkl, gM_at a ha _ _ _ (ha _) (ha _) (ha _)] at h1
  have hz := pd_inj ho h1
  subst hz
  refine ⟨p, hp, hkl, ho, ?_⟩
  obtain ⟨A, cp, h2⟩ := row_slice ho.1
  have h3 : c.2.1 = (zsOf (places a (a p) (a (p + 1)) (a (p + 2)) m)).length := by
    unfold mkS at h2
    injection h2
  rw [h3]
  simp [zsOf]
end Go.Proofs.Ytfhbkidceombbaa

namespace Go.Proofs.Ytfhbkidceombbaa
set_option maxRecDepth 100000
open Go.RowKit Go.Deep Go.Joins

theorem mul64_oneI (n : Nat) (hn : n ≤ 1000000) (w : World) : Calls Try.prog 79 #[.int .u64 1, .int .u64 n] w fun e w' => e = .returned (.tuple #[.int .u64 0, .int .u64 n]) ∧ w = w' := by
  have h1 : bits .and .u64 1 4294967295 = 1 := by decide
  have h2 : bits .and .u64 (n : Int) 4294967295 = (n : Int) := by
    have := u64_and_nat n 4294967295 (by omega) (by omega)
    rw [show (4294967295 : Nat) = 2 ^ 32 - 1 from rfl, Nat.and_two_pow_sub_one_eq_mod, Nat.mod_eq_of_lt (by omega)] at this
    exact this
  have h3 : bits .and .u64 0 4294967295 = 0 := by decide
  have h4 : (n : Int) / 4294967296 = 0 := by omega
  have h5 : (n : Int) / 2 ^ 32 = 0 := by omega
  go_enter Try.func79, Try.ntmps79
  go_wp2
  go_ret2
  exact ⟨by simp, rfl⟩
theorem mul_oneI (n : Nat) (hn : n ≤ 1000000) (w : World) : Calls Try.prog 45 #[.int .u64 1, .int .u64 n] w fun e w' => e = .returned (.tuple #[.int .u64 0, .int .u64 n]) ∧ w = w' := by
  go_enter Try.func45, Try.ntmps45
  go_wp2_with (go_at_call 79; refine (mul64_oneI n hn _).mono ?_; rintro e w' ⟨rfl, rfl⟩)
  go_ret2
  exact ⟨rfl, rfl⟩

/-- A row of bytes, so many of them laid down. -/
def fillI (n k : Nat) (x : Int) : List Value := List.replicate k (.int .i64 x) ++ List.replicate (n - k) (.int .i64 0)
theorem fillI_len (n k : Nat) (x : Int) (h : k ≤ n) : (fillI n k x).length = n := by simp [fillI]; omega
theorem fillI_at (n k : Nat) (x : Int) (i : Nat) (h : i < k) : (fillI n k x)[i]? = some (.int .i64 x) := by
  unfold fillI
  rw [List.getElem?_append_left (by simpa using h), List.getElem?_replicate, if_pos h]
theorem fillI_zero (n : Nat) (x : Int) : madeCells #[.int .i64 0] n = (fillI n 0 x).toArray := by
  apply Array.ext'
  rw [toList_madeCells_one]
  simp [fillI]
theorem fillI_splice (n k m : Nat) (x : Int) (h : k + m ≤ n) : splice (fillI n k x) k (List.replicate m (.int .i64 x)) = fillI n (k + m) x := by
  unfold splice fillI
  rw [List.length_replicate, List.take_append_of_le_length (by simp), List.take_of_length_le (by simp), List.drop_append, List.drop_eq_nil_of_le (by simp), List.length_replicate, List.drop_replicate, List.nil_append, ← List.append_assoc, List.replicate_append_replicate, show n - k - (k + m - k) = n - (k + m) by omega]
theorem fillI_full (n : Nat) (x : Int) : fillI n n x = List.replicate n (Value.int .i64 x) := by simp [fillI]

set_option maxHeartbeats 4000000 in
theorem repeatI_any (gx n : Nat) (x : Int) (h1 : 1 ≤ n) (hn : n ≤ 10000) (w : World) (hgx : gx < w.heap.size) (hc : w.cell? ⟨gx, 0, none⟩ = some (.int .i64 x)) :
    Calls Try.prog 113 #[.slice (some ⟨gx, 0, none⟩) 1 1, .int .i64 n] w fun e w' => e = .returned (.slice (some ⟨w.heap.size, 0, none⟩) n n) ∧ w'.heap[w.heap.size]? = some (.cells (List.replicate n (Value.int .i64 x)).toArray 3 (0, 0)) ∧ Below w.heap.size w w' := by
  have HM := Lib.hid (mul_oneI n (by omega))
  have hmk := run_make_row' (P := Try.prog) 81 3 (.int .i64 0) 8 Try.underlying81 info_int rfl .i64 .i64 n (by omega) (by omega)
  have hB0 : Below w.heap.size w (w.alloc (.cells (madeCells #[.int .i64 0] n) 3)) := (Below.refl _ _).alloc (Nat.le_refl _) _
  have hg0 : (w.alloc (.cells (madeCells #[.int .i64 0] n) 3)).heap[w.heap.size]? = some (.cells (fillI n 0 x).toArray 3 (0, 0)) := by rw [fillI_zero n x]; exact heap_alloc_new w _
  have hc0 : (w.alloc (.cells (madeCells #[.int .i64 0] n) 3)).cell? ⟨gx, 0, none⟩ = some (.int .i64 x) := (hB0.cell (p := ⟨gx, 0, none⟩) hgx).trans hc
  have HCC := Lib.hid hc
  have HB0 := Lib.hid hB0
  have HG0 := Lib.hid hg0
  have HC0 := Lib.hid hc0
  have hwn : IntKind.u64.wrap (n : Int) = (n : Int) := by rw [IntKind.wrap_u64]; omega
  have hwi : IntKind.i64.wrap (n : Int) = (n : Int) := by rw [IntKind.wrap_i64]; omega
  have hsz1 : (Try.prog.info? 3).map (·.size) = some 1 := by kernel_rfl
  clear hB0 hg0 hc0
  go_enter Try.func113, Try.ntmps113
  have hlt0 : decide ((n : Int) < 0) = false := decide_eq_false (by omega)
  have hlt1 : decide ((9223372036854775807 : Int) < (n : Int)) = false := decide_eq_false (by omega)
  go_wp2_with fail
  refine (HM.out _).mono ?_; rintro e w' ⟨rfl, rfl⟩
  go_wp2_with (with_reducible refine wpList_copy_splice rfl (.tmp 31) (.tmp 32) 81 81 rfl 3 Try.underlying81 hsz1 (some ⟨w.heap.size, 0, none⟩) (some ⟨gx, 0, none⟩) n n 1 1 rfl rfl w.heap.size 0 (fillI n 0 x) 3 HG0.out [.int .i64 x] ?c1 ?c2 ?c3 ?c4 w.heap.size w HB0.out (Nat.le_refl _) ?_)
  case c1 => show 1 = min 1 n; omega
  case c2 =>
    intro j v hj
    cases j with
    | zero =>
      simp at hj
      subst hj
      exact HCC.out
    | succ j => simp at hj
  case c3 => rw [fillI_len n 0 x (by omega)]; simp; omega
  case c4 => intro v hv; simp at hv; subst hv; rfl
  intro w1 hg1 hb1
  have HG1 : Hid (w1.heap[w.heap.size]? = some (.cells (fillI n 1 x).toArray 3 (0, 0))) := by
    have h := hg1.out
    have e := fillI_splice n 0 1 x (by omega)
    rw [show List.replicate 1 (Value.int .i64 x) = [.int .i64 x] from rfl] at e
    rw [e] at h
    exact h
  have HB1 := Lib.hid hb1
  clear hg1 hb1 hmk HG0 HC0 HB0 HM hc HCC
  go_wp2_with fail
  go_loopw [8] (fun i wr => ∃ k : Nat, 1 ≤ k ∧ k ≤ n ∧ i = .int .i64 (k : Nat) ∧ wr.heap[w.heap.size]? = some (.cells (fillI n k x).toArray 3 (0, 0)) ∧ Below w.heap.size w wr) (fun i _ => n - (intOf i).toNat)
  case atStart => exact ⟨1, Nat.le_refl _, h1, rfl, HG1.out, HB1.out⟩
  case round =>
    obtain ⟨k, hk1, hkn, rfl, hg, hb⟩ := hrel
    have HG := Lib.hid hg
    have HB := Lib.hid hb
    by_cases hlt : k < n
    · obtain ⟨m, hm, hmn, hm0⟩ : ∃ m, m = min k (n - k) ∧ k + m ≤ n ∧ 0 < m := ⟨_, rfl, by omega, by omega⟩
      have HM := Lib.hid hm
      clear hg hb hm
      have hgo : goInt (List.replicate m (Value.int .i64 x)).length = .int .i64 (m : Nat) := by rw [List.length_replicate]; rfl
      have hkm : IntKind.i64.wrap ((k : Int) + (m : Int)) = (k : Int) + (m : Int) := by rw [IntKind.wrap_i64]; omega
      have hkn1 : (k : Int) ≤ (n : Int) := by omega
      have hnk : ¬ n = k := by omega
      go_wp2_with fail
      have HSRC : Hid (∀ j v, (List.replicate m (Value.int .i64 x))[j]? = some v → wr.drew.cell? ((⟨w.heap.size, 0, none⟩ : Addr).add j) = some v) := by
        intro j v hj
        rw [List.getElem?_replicate] at hj
        split at hj
        · injection hj with hj
          subst hj
          rw [Addr.add_lit, Nat.zero_add]
          refine (cell_of_row wr.drew w.heap.size j _ _ _ HG.out).trans ?_
          rw [List.getElem?_toArray]
          exact fillI_at n k x j (by have := HM.out; omega)
        · cases hj
      have HFIT : Hid (k + (List.replicate m (Value.int .i64 x)).length ≤ (fillI n k x).length) := by
        show _ ≤ _
        rw [List.length_replicate, fillI_len n k x (by omega)]
        exact hmn
      have HONE : Hid (∀ v ∈ List.replicate m (Value.int .i64 x), v.oneCell' = true) := by
        intro v hv
        rw [List.mem_replicate] at hv
        obtain ⟨_, rfl⟩ := hv
        rfl
      have HLEN : Hid ((List.replicate m (Value.int .i64 x)).length = Nat.min k (n - k)) := by
        show _ = _
        rw [List.length_replicate]
        exact HM.out
      have HGD : Hid (wr.drew.heap[w.heap.size]? = some (.cells (fillI n k x).toArray 3 (0, 0))) := HG.out
      have HBD := Lib.hid (HB.out.drew)
      have HSPL := Lib.hid (fillI_splice n k m x hmn)
      obtain ⟨cs, hcs⟩ : ∃ cs, cs = List.replicate m (Value.int .i64 x) := ⟨_, rfl⟩
      rw [← hcs] at HSRC HFIT HONE HLEN HSPL hgo
      generalize fillI n k x = cur at *
      clear hcs
      go_region_law (first | (go_must (refine step_copy_splice (by rfl) (.tmp 41) (.tmp 44) 81 81 (by rfl) 3 Try.underlying81 hsz1 (some ⟨w.heap.size, k, none⟩) (some ⟨w.heap.size, 0, none⟩) (n - k) (n - k) k n (by simp [Act.eval, Act.put]) (by simp [Act.eval, Act.put]) w.heap.size k cur 3 (by exact HGD.out) cs (by exact HLEN.out) (fun _ => ⟨rfl, _, rfl, HSRC.out⟩) (by exact HFIT.out) (by exact HONE.out) w.heap.size w (by exact HBD.out) (Nat.le_refl _) ?_; intro w4 hg4 hb4; rw [hgo])) | fail)
      all_goals
        have HG5 : Hid (w4.heap[w.heap.size]? = some (.cells (fillI n (k + m) x).toArray 3 (0, 0))) := by
          have h := hg4.out
          rw [HSPL.out] at h
          exact h
        have HB5 := Lib.hid hb4
        clear hg4 hb4 HSPL HBD HGD HLEN HONE HFIT HSRC
        simp only [Act.put, List.getElem_toArray, List.getElem_cons_zero, List.getElem_cons_succ, List.setIfInBounds_toArray, List.set_cons_zero, List.set_cons_succ]
        go_wp2
        go_roundw
        case rel => exact ⟨k + m, by omega, hmn, by go_num, HG5.out, HB5.out⟩
        case measure => simp [intOf]; omega
    · obtain rfl : k = n := by omega
      rw [fillI_full] at hg
      have HGF := Lib.hid hg
      clear hg hb HG
      go_wp2_with fail
      go_ret
      exact ⟨rfl, HGF.out, HB.out⟩
end Go.Proofs.Ytfhbkidceombbaa

namespace Go.Proofs.Ytfhbkidceombbaa
set_option maxRecDepth 100000
open Go.Joins Go.RowKit Go.Deep Go.ChangeMaps Go.ChangeShapes Go.WideShapes
open Go.Maps (Keyed IsMap has)

/-- A row of numbers. -/
def rowF (F : Nat → Int) (n : Nat) : Array Value := ((List.range n).map fun p => Value.int .i64 (F p)).toArray
theorem rowF_size (F : Nat → Int) (n : Nat) : (rowF F n).size = n := by simp [rowF]
theorem rowF_get (F : Nat → Int) (n i : Nat) (h : i < n) : (rowF F n)[i]? = some (.int .i64 (F i)) := by simp [rowF, h]
theorem rowF_congr (F G : Nat → Int) (n : Nat) (h : ∀ p, p < n → F p = G p) : rowF F n = rowF G n := by
  unfold rowF
  congr 1
  exact List.map_congr_left fun p hp => by rw [h p (List.mem_range.1 hp)]
theorem rowF_set (F : Nat → Int) (n i : Nat) (v : Int) : (rowF F n).setIfInBounds i (.int .i64 v) = rowF (fun p => if p = i then v else F p) n := by
  apply Array.ext
  · rw [Array.size_setIfInBounds, rowF_size, rowF_size]
  · intro j h1 h2
    have hj : j < n := by rw [rowF_size] at h2; exact h2
    have e1 := rowF_get (fun p => if p = i then v else F p) n j hj
    rw [Array.getElem?_eq_getElem h2] at e1
    rw [Option.some.inj e1, Array.getElem_setIfInBounds]
    · by_cases e : i = j
      · subst e; rw [if_pos rfl, if_pos rfl]
      · rw [if_neg e, if_neg (Ne.symm e)]
        have e2 := rowF_get F n j hj
        rw [Array.getElem?_eq_getElem (by rw [rowF_size]; exact hj)] at e2
        exact Option.some.inj e2
    · rw [rowF_size]; exact hj
theorem rowF_neg (n : Nat) : (List.replicate n (Value.int .i64 (-1))).toArray = rowF (fun _ => -1) n := by
  unfold rowF
  congr 1
  rw [List.map_const', List.length_range]
set_option maxHeartbeats 4000000 in
theorem repeatI_zero (gx n : Nat) (hn : n = 0) (w : World) : Calls Try.prog 113 #[.slice (some ⟨gx, 0, none⟩) 1 1, .int .i64 (n : Nat)] w fun e w' => e = .returned (.slice (some ⟨w.heap.size, 0, none⟩) n n) ∧ w'.heap[w.heap.size]? = some (.cells (rowF (fun _ => -1) n) 3 (0, 0)) ∧ Below w.heap.size w w' := by
  have HM := Lib.hid (mul_oneI n (by omega))
  have hmk := run_make_row' (P := Try.prog) 81 3 (.int .i64 0) 8 Try.underlying81 info_int rfl .i64 .i64 n (by omega) (by omega)
  have hB0 : Below w.heap.size w (w.alloc (.cells (madeCells #[.int .i64 0] n) 3)) := (Below.refl _ _).alloc (Nat.le_refl _) _
  have hg0 : (w.alloc (.cells (madeCells #[.int .i64 0] n) 3)).heap[w.heap.size]? = some (.cells (fillI n 0 0).toArray 3 (0, 0)) := by rw [fillI_zero n 0]; exact heap_alloc_new w _
  have HB0 := Lib.hid hB0
  have HG0 := Lib.hid hg0
  have hsz1 : (Try.prog.info? 3).map (·.size) = some 1 := by kernel_rfl
  have HN := Lib.hid hn
  have hwn : IntKind.u64.wrap (n : Int) = (n : Int) := by rw [IntKind.wrap_u64]; omega
  have hwi : IntKind.i64.wrap (n : Int) = (n : Int) := by rw [IntKind.wrap_i64]; omega
  have hn1 : n ≤ 1000 := by omega
  clear hB0 hg0 hn
  go_enter Try.func113, Try.ntmps113
  have hlt0 : decide ((n : Int) < 0) = false := decide_eq_false (by omega)
  have hlt1 : decide ((9223372036854775807 : Int) < (n : Int)) = false := decide_eq_false (by omega)
  go_wp2_with fail
  refine (HM.out _).mono ?_; rintro e w' ⟨rfl, rfl⟩
  go_wp2_with (with_reducible refine wpList_copy_splice rfl (.tmp 31) (.tmp 32) 81 81 rfl 3 Try.underlying81 hsz1 (some ⟨w.heap.size, 0, none⟩) (some ⟨gx, 0, none⟩) n n 1 1 rfl rfl w.heap.size 0 (fillI n 0 0) 3 HG0.out [] ?c1 ?c2 ?c3 ?c4 w.heap.size w HB0.out (Nat.le_refl _) ?_)
  case c1 => have := HN.out; show 0 = min 1 n; omega
  case c3 => rw [fillI_len n 0 0 (by omega)]; simp
  case c4 => intro v hv; simp at hv
  intro w1 hg1 hb1
  have hz : decide ((0 : Int) < (n : Int)) = false := decide_eq_false (by have := HN.out; omega)
  have hz2 : decide (0 < n) = false := decide_eq_false (by have := HN.out; omega)
  have HG1 := Lib.hid hg1
  have HB1 := Lib.hid hb1
  clear hg1 hb1 hmk
  go_wp2_with fail
  refine wp_loop_rounds 1 ?_
  rw [rounds_succ]
  go_wp2
  go_ret
  refine ⟨rfl, ?_, HB1.out⟩
  have h := HG1.out.out
  have hn := HN.out
  subst hn
  exact h
theorem repeatI_neg (gx n : Nat) (hn : n ≤ 10000) (w : World) (hgx : gx < w.heap.size) (hc : w.cell? ⟨gx, 0, none⟩ = some (.int .i64 (-1))) : Calls Try.prog 113 #[.slice (some ⟨gx, 0, none⟩) 1 1, .int .i64 (n : Nat)] w fun e w' => e = .returned (.slice (some ⟨w.heap.size, 0, none⟩) n n) ∧ w'.heap[w.heap.size]? = some (.cells (rowF (fun _ => -1) n) 3 (0, 0)) ∧ Below w.heap.size w w' := by
  by_cases h : n = 0
  · exact repeatI_zero gx n h w
  · have := repeatI_any gx n (-1) (by omega) hn w hgx hc
    rw [rowF_neg] at this
    exact this

/-- What stands in the row while places are told. -/
def EarlyF (a : Nat → Nat) (n : Nat) (left : Lit → Bool) (F : Nat → Int) : Prop :=
  (∀ p, p + 2 < n → left (keyOfT a p) = false → F p = befT a n p) ∧ (∀ p, (p + 2 < n → left (keyOfT a p) = true) → F p = -1)
def InnerF (a : Nat → Nat) (n : Nat) (P : List Nat) (k : Nat) (F0 F : Nat → Int) : Prop :=
  (∀ j p, j < k → P[j + 1]? = some p → F p = befT a n p) ∧ (∀ p, (∀ j, j < k → P[j + 1]? ≠ some p) → F p = F0 p)
theorem early_step (a : Nat → Nat) (ha : ∀ i, a i < 256) (n : Nat) (left : Lit → Bool) (F0 F : Nat → Int) (q : Nat) (hl : left (keyOfT a q) = true) (h0 : EarlyF a n left F0)
    (hF : InnerF a n (places a (a q) (a (q + 1)) (a (q + 2)) (n - 2)) ((places a (a q) (a (q + 1)) (a (q + 2)) (n - 2)).length - 1) F0 F) : EarlyF a n (fun kl => left kl && !kl.sameKey (keyOfT a q)) F := by
  have hk : ∀ p, keyOfT a p = keyOfT a q ↔ a p = a q ∧ a (p + 1) = a (q + 1) ∧ a (p + 2) = a (q + 2) := fun p => ⟨fun h => tk_inj _ _ _ _ _ _ (ha _) (ha _) (ha _) (ha _) (ha _) (ha _) h, fun h => by unfold keyOfT; rw [h.1, h.2.1, h.2.2]⟩
  have hself : (keyOfT a q).sameKey (keyOfT a q) = true := WideAt.sameKey_self (tri_law.key (tk_of _ _ _ (ha _) (ha _) (ha _)))
  have hmem := fun p => places_mem a (a q) (a (q + 1)) (a (q + 2)) (n - 2) p
  have hprev := fun i p => places_prev a (a q) (a (q + 1)) (a (q + 2)) (n - 2) i p
  generalize places a (a q) (a (q + 1)) (a (q + 2)) (n - 2) = P at *
  have hout : ∀ p, keyOfT a p ≠ keyOfT a q → F p = F0 p := fun p hp => hF.2 p fun j _ hj => hp ((hk p).2 ((hmem p).1 (List.mem_of_getElem? hj)).2)
  constructor
  · intro p hp hlp
    by_cases e : keyOfT a p = keyOfT a q
    · have hin : p ∈ P := (hmem p).2 ⟨by omega, (hk p).1 e⟩
      obtain ⟨i, hi⟩ := List.getElem?_of_mem hin
      by_cases hi0 : i = 0
      · subst hi0
        have hpv := hprev 0 p hi
        rw [if_pos rfl] at hpv
        have hb : befT a n p = -1 := by unfold befT; rw [if_pos hp, hpv]
        rw [hb, hF.2 p fun j _ hj => by
          have h2 := hprev (j + 1) p hj
          rw [if_neg (by omega), hpv, Nat.add_sub_cancel] at h2
          obtain ⟨hjl, _⟩ := List.getElem?_eq_some_iff.1 hj
          rw [List.getElem?_eq_getElem (by omega)] at h2
          cases h2]
        exact h0.2 p fun _ => by rw [e]; exact hl
      · obtain ⟨hil, _⟩ := List.getElem?_eq_some_iff.1 hi
        exact hF.1 (i - 1) p (by omega) (by rw [show i - 1 + 1 = i by omega]; exact hi)
    · rw [hout p e]
      refine h0.1 p hp ?_
      simp only [Maps.sameKey_ne e] at hlp
      simpa using hlp
  · intro p hp
    by_cases e : keyOfT a p = keyOfT a q
    · by_cases hpn : p + 2 < n
      · have := hp hpn
        simp only [e, hself] at this
        simp at this
      · rw [hF.2 p fun j _ hj => by have := (hmem p).1 (List.mem_of_getElem? hj); omega]
        exact h0.2 p fun h => absurd h hpn
    · rw [hout p e]
      refine h0.2 p fun hpn => ?_
      have := hp hpn
      simp at this
      exact this.1
theorem early_start (a : Nat → Nat) (ha : ∀ i, a i < 256) (n : Nat) : EarlyF a n (has (gM a (n - 2))) (fun _ => -1) :=
  ⟨fun p hp h => (by
    have := (gM_has a ha (keyOfT a p) (n - 2)).2 ⟨p, by omega, rfl⟩
    rw [this] at h; cases h), fun _ _ => rfl⟩
theorem early_end (a : Nat → Nat) (n : Nat) (left : Lit → Bool) (h : ∀ kl, left kl = false) (F : Nat → Int) (hF : EarlyF a n left F) : rowF F n = rowF (befT a n) n := by
  refine rowF_congr _ _ _ fun p _ => ?_
  by_cases hp : p + 2 < n
  · exact hF.1 p hp (h _)
  · rw [hF.2 p fun hh => absurd hh hp]
    unfold befT
    rw [if_neg hp]
theorem inner_start (a : Nat → Nat) (n : Nat) (P : List Nat) (F : Nat → Int) : InnerF a n P 0 F F := ⟨fun j _ hj => by omega, fun _ _ => rfl⟩
theorem inner_step (a : Nat → Nat) (n x y z k place : Nat) (F0 F : Nat → Int) (hP : (places a x y z (n - 2))[k + 1]? = some place) (hF : InnerF a n (places a x y z (n - 2)) k F0 F) :
    InnerF a n (places a x y z (n - 2)) (k + 1) F0 (fun p => if p = place then (((places a x y z (n - 2)).getD k 0 : Nat) : Int) else F p) := by
  have hb : befT a n place = (((places a x y z (n - 2)).getD k 0 : Nat) : Int) := by
    have h1 := (places_mem a x y z (n - 2) place).1 (List.mem_of_getElem? hP)
    have h2 := places_prev a x y z (n - 2) (k + 1) place hP
    rw [if_neg (by omega), Nat.add_sub_cancel] at h2
    obtain ⟨hl, _⟩ := List.getElem?_eq_some_iff.1 hP
    unfold befT
    rw [if_pos (by omega), h2, List.getElem?_eq_getElem (by omega), List.getD_eq_getElem?_getD, List.getElem?_eq_getElem (by omega)]
    rfl
  constructor
  · intro j p hj hp
    by_cases e : p = place
    · subst e; simp only [if_true]; exact hb.symm
    · simp only [if_neg e]
      refine hF.1 j p ?_ hp
      by_cases e2 : j = k
      · subst e2; rw [hP] at hp; exact absurd (Option.some.inj hp).symm e
      · omega
  · intro p hp
    by_cases e : p = place
    · subst e; exact absurd hP (hp k (by omega))
    · simp only [if_neg e]
      exact hF.2 p fun j hj => hp j (by omega)
end Go.Proofs.Ytfhbkidceombbaa

namespace Go.Proofs.Ytfhbkidceombbaa
set_option maxRecDepth 100000
open Go.Joins Go.RowKit Go.Deep Go.ChangeMaps Go.ChangeShapes Go.WideShapes
open Go.Maps (Keyed IsMap has)

theorem own_int {w : World} {B c : Nat} {A : Option Addr} {o : List Nat} (h : w.ownsRow B 3 1 (.slice A o.length c) o.length (cellsI o)) (h0 : 0 < o.length) :
    ∃ g, A = some ⟨g, 0, none⟩ ∧ B ≤ g ∧ g < w.heap.size ∧ ∀ i, i < o.length → w.cell? ⟨g, i, none⟩ = some (.int .i64 ((o.getD i 0 : Nat) : Int)) := by
  have hl := h.lt
  rcases ownsRow_forms h with ⟨hv, hn⟩ | ⟨g2, cap, hv⟩
  · omega
  · injection hv with hA _ _
    subst hA
    refine ⟨g2, rfl, (hl g2 rfl).1, (hl g2 rfl).2, fun i hi => ?_⟩
    have := h.cellAt i (by omega)
    rw [this]
    simp only [cellsI, List.getElem?_map, List.getElem?_eq_getElem hi, Option.map_some, List.getD_eq_getElem?_getD, Option.getD_some]
end Go.Proofs.Ytfhbkidceombbaa
