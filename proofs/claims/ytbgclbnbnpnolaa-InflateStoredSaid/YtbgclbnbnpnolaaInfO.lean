/-
  Contracts: outer.
-/
import Derived.Test.YtbgclbnbnpnolaaInfN
namespace Go.Proofs.Ytbgclbnbnpnolaa
set_option maxRecDepth 100000
open Go.RowKit Go.Deep Go.Joins

def ouOk (c : Cod) (r : Ending) (w' : World) : Prop := ∃ g, r = .returned (.tuple #[.pointer (some ⟨g, 0, none⟩), .int .i64 0]) ∧ CdC w' g c
def ouBad (e : Nat) (r : Ending) : Prop := r = .returned (.tuple #[.pointer none, .int .i64 (e : Nat)])
theorem made19 : madeCells #[.int .u8 0] 19 = rowB 19 (fun _ => 0) := rowB_made 19
theorem grown_new {w w1 : World} {row : Option Nat} (h : w.grownBy w1 row) {g : Nat} (hg : w.heap.size ≤ g) (i : Nat) (v : Value) : w.grownBy (w1.setCell ⟨g, i, none⟩ v) row :=
  ⟨h.os, h.tape, h.output, by simpa [World.setCell] using h.size, fun j hj hne => (Below.heap_setCell _ _ _ _ (show j ≠ g by omega)).trans (h.block j hj hne)⟩
theorem ord_at (k : Nat) (hk : k < 19) : ordV[k]? = some (.int .i64 (orderL.getD k 0 : Nat)) := by
  have : ∀ k, k < 19 → orderL[k]? = some (orderL.getD k 0) := by decide
  unfold ordV
  rw [List.getElem?_toArray, List.getElem?_map, this k hk]
  rfl
/-- What stands behind k lengths of lengths. -/
def OuSt (w : World) (gr gl : Nat) (s : ByteArray) (a k : Nat) : Prop := (a + 3 * k ≤ 8 * s.size ∧ Rd 81 w gr s (a + 3 * k) 0 ∧ IsRowB w gl 19 (outerC (t3 (num s) a k)).ls) ∨
  (8 * s.size < a + 3 * k ∧ ∃ a' f, a' ≤ 8 * s.size ∧ Rd 81 w gr s a' 3 ∧ IsRowB w gl 19 f)
/-- One more. -/
def OuIn (w : World) (gr gl : Nat) (s : ByteArray) (a k v : Nat) : Prop := v < 8 ∧ ((a + 3 * (k + 1) ≤ 8 * s.size ∧ v = bitsAt (num s) (a + 3 * k) 3 ∧ Rd 81 w gr s (a + 3 * (k + 1)) 0 ∧ IsRowB w gl 19 (outerC (t3 (num s) a k)).ls) ∨
  (8 * s.size < a + 3 * (k + 1) ∧ ∃ a' f, a' ≤ 8 * s.size ∧ Rd 81 w gr s a' 3 ∧ IsRowB w gl 19 f))
theorem IsRowB.grown {w w' : World} {g n gr : Nat} {f : Nat → Nat} {s : ByteArray} {a e : Nat} (h : IsRowB w g n f) (hr : Rd 81 w gr s a e) (hg : w.grownBy w' (some gr)) : IsRowB w' g n f :=
  (hg.block g (lt_of_heap h) (by intro hh; injection hh with hh; exact blk_ne h hr (by decide) hh)).trans h
theorem ouin (w : World) (gr gl : Nat) (s : ByteArray) (a k : Nat) (hs : s.size ≤ 1000000) (h : OuSt w gr gl s a k) :
    Calls Try.prog 53 #[.pointer (some ⟨gr, 0, none⟩), .int .i64 (3 : Nat)] w fun r w' => ∃ v : Nat, r = .returned (.int .u32 (v : Nat)) ∧ w.grownBy w' (some gr) ∧ OuIn w' gr gl s a k v := by
  rcases h with ⟨h1, h2, h3⟩ | ⟨h1, a', f, h2, h3, h4⟩
  · by_cases hk : a + 3 * (k + 1) ≤ 8 * s.size
    · refine (read_ok gr s (a + 3 * k) 3 hs (by omega) (by omega) w h2).mono ?_
      rintro r w' ⟨rfl, hr, hg⟩
      exact ⟨_, rfl, hg, bitsAt_lt _ _ 3, .inl ⟨hk, rfl, by rw [show a + 3 * (k + 1) = a + 3 * k + 3 by omega]; exact hr, h3.grown h2 hg⟩⟩
    · refine (read_short gr s (a + 3 * k) 3 hs h1 (by omega) (by omega) w h2).mono ?_
      rintro r w' ⟨rfl, hr, hg⟩
      exact ⟨0, rfl, hg, by omega, .inr ⟨by omega, _, _, h1, hr, h3.grown h2 hg⟩⟩
  · refine (read_bad gr s a' 3 3 hs h2 (by omega) w h3).mono ?_
    rintro r w' ⟨rfl, hr, hg⟩
    exact ⟨0, rfl, hg, by omega, .inr ⟨by omega, _, _, h2, hr, h4.grown h3 hg⟩⟩
theorem Rd.set_other {w : World} {gr gl i : Nat} {s : ByteArray} {a e : Nat} {v : Value} (h : Rd 81 w gr s a e) (hne : gr ≠ gl) : Rd 81 (w.setCell ⟨gl, i, none⟩ v) gr s a e := (Below.heap_setCell _ _ _ _ hne).trans h
theorem OuIn.put {w : World} {gr gl : Nat} {s : ByteArray} {a k v : Nat} (h : OuIn w gr gl s a k v) (hk : k < 19) : OuSt (w.setCell ⟨gl, orderL.getD k 0, none⟩ (.int .u8 (v : Nat))) gr gl s a (k + 1) := by
  obtain ⟨_, h⟩ := h
  rcases h with ⟨h1, rfl, h3, h4⟩ | ⟨h1, a', f, h2, h3, h4⟩
  · refine .inl ⟨h1, h3.set_other (Ne.symm (blk_ne h4 h3 (by decide))), (h4.set _ _ (ord_lt k hk)).ext fun i hi => ?_⟩
    have := outer_snoc (t3 (num s) a k) (bitsAt (num s) (a + 3 * k) 3) i (by rw [t3_len]; exact hk) hi
    rw [t3_len] at this
    exact this
  · exact .inr ⟨h1, a', _, h2, h3.set_other (Ne.symm (blk_ne h4 h3 (by decide))), h4.set _ _ (ord_lt k hk)⟩
theorem OuIn.row {w : World} {gr gl : Nat} {s : ByteArray} {a k v : Nat} (h : OuIn w gr gl s a k v) : ∃ f, IsRowB w gl 19 f := by
  obtain ⟨_, h⟩ := h
  rcases h with ⟨_, _, _, h⟩ | ⟨_, _, f, _, _, h⟩
  · exact ⟨_, h⟩
  · exact ⟨f, h⟩
theorem OuSt.rd {w : World} {gr gl : Nat} {s : ByteArray} {a k : Nat} (h : OuSt w gr gl s a k) : ∃ a' e', a' ≤ 8 * s.size ∧ Rd 81 w gr s a' e' := by
  rcases h with ⟨h1, h2, _⟩ | ⟨_, a', f, h2, h3, _⟩
  · exact ⟨_, _, h1, h2⟩
  · exact ⟨_, _, h2, h3⟩
set_option maxHeartbeats 8000000 in
theorem outer_any (g gr a told lim : Nat) (s : ByteArray) (o : List Nat) (hs : s.size ≤ 1000000) (ha : a ≤ 8 * s.size) (ht : told ≤ 19) (w : World) (hp : Pin w g gr) (hr : Rd 81 w gr s a 0) :
    Calls Try.prog 69 #[.pointer (some ⟨g, 0, none⟩), .int .i64 told] w (PRW w gr s ouOk ouBad (outerM told (srcOf s lim) a o)) := by
  have HP := Lib.hid hp
  have HR := Lib.hid hr
  have hz := zero_arr
  have hmk : ∀ w, (Instr.makeSlice 22 (.int .i64 19) (.int .i64 19)).run Try.prog w = .ok (.slice (some ⟨w.heap.size, 0, none⟩) 19 19) (w.alloc (.cells (rowB 19 fun _ => 0) 5)) := fun w => by
    rw [← made19]
    exact run_make_row' (P := Try.prog) 22 5 (.int .u8 0) 1 Try.underlying22 info8 rfl .i64 .i64 19 (by omega) (by omega) w
  clear hp hr
  have hti : (told : Int) ≤ 19 := by omega
  go_enter Try.func69, Try.ntmps69
  go_wp2_with fail
  refine (order_any _).mono ?_; rintro e w1 ⟨rfl, hb1⟩
  have HB1 := Lib.hid hb1
  have HZ1 := Lib.hid hb1.size
  clear hb1
  go_wp2_with (refine wpList_store_row rfl 55 (.tmp 6) (.tmp 11) rfl w1.heap.size ordV rfl rfl 55 zeroA (heap_alloc_new w1 _) info_ord rfl ord_one ?_)
  have hb2 : Below w.heap.size w ((w1.alloc (.cells zeroA 55)).setRow w1.heap.size ordV) := below_setRow (HB1.out.alloc HZ1.out _) HZ1.out _
  have ho2 : ((w1.alloc (.cells zeroA 55)).setRow w1.heap.size ordV).heap[w1.heap.size]? = some (.cells ordV 55 (0, 0)) := setRow_heap _ _ _ ordV _ _ (heap_alloc_new w1 _)
  have HSZ : Hid (((w1.alloc (.cells zeroA 55)).setRow w1.heap.size ordV).heap.size = w1.heap.size + 1) := by show _ = _; simp [World.setRow]
  generalize (w1.alloc (.cells zeroA 55)).setRow w1.heap.size ordV = w2 at *
  have hlt12 := lt_of_heap ho2
  have hsz2 : w2.heap.size = w1.heap.size + 1 := HSZ.out
  generalize hgo : w1.heap.size = go at *
  have hb3 : Below w.heap.size w (w2.alloc (.cells (rowB 19 fun _ => 0) 5)) := hb2.alloc hb2.size _
  have ho3 : (w2.alloc (.cells (rowB 19 fun _ => 0) 5)).heap[go]? = some (.cells ordV 55 (0, 0)) := (Below.heap_alloc w2 _ go hlt12).trans ho2
  have hl3 : IsRowB (w2.alloc (.cells (rowB 19 fun _ => 0) 5)) w2.heap.size 19 (fun _ => 0) := heap_alloc_new w2 _
  have hgw : w.heap.size ≤ w2.heap.size := hb2.size
  generalize w2.alloc (.cells (rowB 19 fun _ => 0) 5) = w3 at *
  rw [hsz2] at hl3 hgw
  have HGW := Lib.hid hgw
  have HB3 := Lib.hid hb3
  have HO3 := Lib.hid ho3
  have HL3 := Lib.hid hl3
  clear hb2 ho2 hb3 ho3 hl3 hgo hgw HB1 HZ1 hz hmk hlt12 hsz2 HSZ
  have hP3 : Hid (Pin w3 g gr) := HP.out.below HB3.out HP.out.lt
  have hR3 := HR.out.below HB3.out HR.out.lt
  have HST : Hid (OuSt w3 gr (go + 1) s a 0) := .inl ⟨by omega, hR3, HL3.out.ext fun i _ => rfl⟩
  have HGR : Hid (w.grownBy w3 (some gr)) := grown_of_below HB3.out
  clear hR3 hP3
  go_wp2_with fail
  go_loopw [16] (fun i wr => ∃ k, k ≤ told ∧ i = .int .i64 (k : Nat) ∧ wr.heap[go]? = some (.cells ordV 55 (0, 0)) ∧ w.grownBy wr (some gr) ∧ OuSt wr gr (go + 1) s a k) (fun i _ => told - (intOf i).toNat)
  case atStart => exact ⟨0, Nat.zero_le _, rfl, HO3.out, HGR.out, HST.out⟩
  case round =>
    obtain ⟨k, hk, rfl, ho, hg, hst⟩ := hrel
    have HO := Lib.hid ho
    have HG := Lib.hid hg
    have HS := Lib.hid hst
    have hpw := HP.out.grown HR.out hg
    have c0 := hpw.c0
    by_cases hlt : k < told
    · have hk19 : k < 19 := by omega
      have cx : wr.cell? ⟨go, k, none⟩ = some (.int .i64 (orderL.getD k 0 : Nat)) := by rw [cell_of_row wr go k _ _ _ ho, ord_at k hk19]
      have HIN := Lib.hid (ouin wr gr (go + 1) s a k hs hst)
      have hx19 := ord_lt k hk19
      have HPUT := Lib.hid (fun (wx : World) (v : Nat) (h : OuIn wx gr (go + 1) s a k v) => h.put hk19)
      generalize orderL.getD k 0 = x at *
      have hx19i : (x : Int) < 19 := by omega
      clear ho hg hst hpw
      go_wp2_with fail
      refine (HIN.out).mono ?_; rintro e w5 ⟨v, rfl, hg5, hin⟩
      have hv8 := hin.1
      obtain ⟨f5, hf5⟩ := hin.row
      have hvw : IntKind.u8.wrap (v : Int) = (v : Int) := by rw [IntKind.wrap_u8]; omega
      have k0 := hf5.cell x hx19
      have kf := hf5.frozen x
      obtain ⟨a6, e6, _, hrd6⟩ := HS.out.rd
      have HO5 : Hid (w5.heap[go]? = some (.cells ordV 55 (0, 0))) := (hg5.block go (lt_of_heap HO.out) (by intro hh; injection hh with hh; exact blk_ne HO.out hrd6 (by decide) hh)).trans HO.out
      have HG5 := Lib.hid (grown_then HG.out hg5)
      have HIN5 := Lib.hid hin
      clear hg5 hin hf5 hrd6 HIN
      go_wp2_with fail
      go_roundw
      case rel =>
        refine ⟨k + 1, by omega, by go_num, (Below.heap_setCell _ _ _ _ (show go ≠ go + 1 by omega)).trans HO5.out, grown_new HG5.out HGW.out _ _, ?_⟩
        exact HPUT.out w5 v HIN5.out
      case measure => simp [intOf]; omega
    · obtain rfl : k = told := by omega
      have HEQ := Lib.hid (threes_eq (srcOf s lim) a o k ha)
      clear ho hst
      rcases HS.out with ⟨h1, h2, h3⟩ | ⟨h1, a', f, h2, h3, h4⟩
      · have HTH : Hid (threesM k (srcOf s lim) a o = .ok (t3 (num s) a k, a + 3 * k, o)) := HEQ.out.trans (if_pos h1)
        have HER := Lib.hid (err_any gr s (a + 3 * k) 0 wr h2)
        have hlt8 := fun i (_ : i < 19) => outer_lt (t3 (num s) a k) (t3_lt (num s) a k) i
        have hL : Lens wr (some ⟨go + 1, 0, none⟩) (outerC (t3 (num s) a k)).n (outerC (t3 (num s) a k)).ls := h3.lens (fun i hi => by have := hlt8 i hi; omega)
        have h15 : ∀ i, i < (outerC (t3 (num s) a k)).n → (outerC (t3 (num s) a k)).ls i ≤ 15 := fun i hi => by have := hlt8 i hi; omega
        have HOU : Hid (outerM k (srcOf s lim) a o = bindM (makeM (outerC (t3 (num s) a k)) false) (fun _ => retM (outerC (t3 (num s) a k))) (srcOf s lim) (a + 3 * k) o) := bind_ok HTH.out
        have HRD := Lib.hid h2
        by_cases hm : may (outerC (t3 (num s) a k)) false
        · have HE : Hid (outerM k (srcOf s lim) a o = .ok (outerC (t3 (num s) a k), a + 3 * k, o)) := HOU.out.trans (bind_ok (show makeM _ _ _ _ _ = _ from by unfold makeM; rw [if_pos hm]; rfl))
          have HN := Lib.hid (newC_ok (some ⟨go + 1, 0, none⟩) 19 false (outerC (t3 (num s) a k)) (by show 19 ≤ 4096; omega) h15 hm wr hL)
          clear h3 hL h15 hlt8 hm HOU HTH HEQ hg hpw h2
          go_wp2_with fail
          refine (HER.out).mono ?_; rintro e w5 ⟨rfl, rfl⟩
          go_wp2_with fail
          refine (HN.out).mono ?_; rintro e w6 ⟨gc, rfl, hc6, hb6⟩
          have HC6 := Lib.hid hc6
          have HB6 := Lib.hid hb6
          clear hc6 hb6 HN HER
          go_wp2
          go_ret2
          exact .ok HE.out (grown_then HG.out (grown_of_below HB6.out)) ⟨gc, rfl, HC6.out⟩ (HRD.out.below HB6.out HRD.out.lt) h1
        · have HE : Hid (outerM k (srcOf s lim) a o = .error 10) := HOU.out.trans (bind_err (show makeM _ _ _ _ _ = _ from by unfold makeM; rw [if_neg hm]; rfl))
          have HN := Lib.hid (newC_no (some ⟨go + 1, 0, none⟩) 19 false (outerC (t3 (num s) a k)) (by show 19 ≤ 4096; omega) h15 hm wr hL)
          clear h3 hL h15 hlt8 hm HOU HTH HEQ hg hpw h2
          go_wp2_with fail
          refine (HER.out).mono ?_; rintro e w5 ⟨rfl, rfl⟩
          go_wp2_with fail
          refine (HN.out).mono ?_; rintro e w6 ⟨rfl, hb6⟩
          have HB6 := Lib.hid hb6
          clear hb6 HN HER
          go_wp2
          go_ret2
          exact .err HE.out (grown_then HG.out (grown_of_below HB6.out)) rfl (by omega) (by omega)
      · have HE : Hid (outerM k (srcOf s lim) a o = .error 3) := bind_err (HEQ.out.trans (if_neg (by show ¬ a + 3 * k ≤ 8 * s.size; omega)))
        have HER := Lib.hid (err_any gr s a' 3 wr h3)
        clear hg hpw h3 h4
        go_wp2_with fail
        refine (HER.out).mono ?_; rintro e w5 ⟨rfl, rfl⟩
        go_wp2
        go_ret2
        exact .err HE.out HG.out rfl (by omega) (by omega)
end Go.Proofs.Ytbgclbnbnpnolaa
