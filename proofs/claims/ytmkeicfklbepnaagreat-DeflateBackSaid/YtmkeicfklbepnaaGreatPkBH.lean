/-
 Contracts: the code of lengths of lengths.
 Contracts: outer.
 Contracts: a row of lengths.
-/
import Derived.Test.YtmkeicfklbepnaaGreatPkBG

namespace Go.Proofs.YtmkeicfklbepnaaGreat
set_option maxRecDepth 100000
open Go.RowKit Go.Deep Go.Joins

/-- A row of bytes as cells. -/
def rowB (n : Nat) (f : Nat → Nat) : Array Value := ((List.range n).map fun i => Value.int .u8 (f i : Nat)).toArray
theorem rowB_size (n : Nat) (f : Nat → Nat) : (rowB n f).size = n := by simp [rowB]
theorem rowB_at (n : Nat) (f : Nat → Nat) (i : Nat) (hi : i < n) : (rowB n f)[i]? = some (.int .u8 (f i : Nat)) := by
 unfold rowB
 simp [List.getElem?_range hi]
theorem rowB_ext (n : Nat) (f g : Nat → Nat) (h : ∀ i, i < n → f i = g i) : rowB n f = rowB n g := by
 unfold rowB
 congr 1
 apply List.map_congr_left
 intro i hi
 rw [h i (by simpa using hi)]
theorem rowB_set (n : Nat) (f : Nat → Nat) (k x : Nat) (hk : k < n) : (rowB n f).setIfInBounds k (.int .u8 (x : Nat)) = rowB n (fun i => if i = k then x else f i) := by
 apply Array.ext_getElem?
 intro i
 rw [Array.getElem?_setIfInBounds, rowB_size]
 by_cases hi : i < n
 ·by_cases h : k = i
  ·subst h
   rw [if_pos rfl, if_pos hi, rowB_at _ _ _ hi, if_pos rfl]
  ·rw [if_neg h, rowB_at _ _ _ hi, rowB_at _ _ _ hi, if_neg (fun e => h e.symm)]
 ·have hn : ∀ g : Nat → Nat, (rowB n g)[i]? = none := fun g => by rw [Array.getElem?_eq_none_iff, rowB_size]; omega
  rw [hn, hn]
  by_cases h : k = i
  ·rw [if_pos h, if_neg (by omega)]
  ·rw [if_neg h]
theorem rowB_made (n : Nat) : madeCells #[.int .u8 0] n = rowB n (fun _ => 0) := by
 apply Array.ext'
 rw [toList_madeCells_one]
 unfold rowB
 rw [List.map_const', List.length_range]
 rfl
def IsRowB (w : World) (g n : Nat) (f : Nat → Nat) : Prop := w.heap[g]? = some (.cells (rowB n f) 5 (0, 0))
section
variable {w w' : World} {g n : Nat} {f : Nat → Nat}
theorem IsRowB.cell (h : IsRowB w g n f) (i : Nat) (hi : i < n) : w.cell? ⟨g, i, none⟩ = some (.int .u8 (f i : Nat)) := by
 rw [cell_of_row w g i _ _ _ h, rowB_at n f i hi]
theorem IsRowB.frozen (h : IsRowB w g n f) (i : Nat) : w.frozen? ⟨g, i, none⟩ = false := frozen_of_row w g i _ _ h
theorem IsRowB.set (h : IsRowB w g n f) (k x : Nat) (hk : k < n) : IsRowB (w.setCell ⟨g, k, none⟩ (.int .u8 (x : Nat))) g n (fun i => if i = k then x else f i) := by
 have e := heap_setCell_same w g k _ _ (.int .u8 (x : Nat)) h
 rw [rowB_set n f k x hk] at e
 exact e
theorem IsRowB.ext {f' : Nat → Nat} (h : IsRowB w g n f) (e : ∀ i, i < n → f i = f' i) : IsRowB w g n f' := by
 unfold IsRowB at *
 rw [← rowB_ext n f f' e]
 exact h
theorem IsRowB.lens (h : IsRowB w g n f) (h256 : ∀ i, i < n → f i < 256) : Lens w (some ⟨g, 0, none⟩) n f := fun _ =>
 ⟨g, 0, rfl, lt_of_heap h, fun i hi => ⟨by rw [Nat.zero_add]; exact h.cell i hi, h256 i hi⟩⟩
end

/-- The 3-bit numbers from a place on. -/
def t3 (N a : Nat) : Nat → List Nat
 | 0 => []
 | k + 1 => t3 N a k ++ [bitsAt N (a + 3 * k) 3]
theorem t3_len (N a : Nat) : ∀ k, (t3 N a k).length = k
 | 0 => rfl
 | k + 1 => by rw [t3, List.length_append, t3_len N a k]; rfl
theorem t3_lt (N a : Nat) : ∀ k, ∀ x ∈ t3 N a k, x < 8
 | 0, x, h => by cases h
 | k + 1, x, h => by
  rw [t3, List.mem_append] at h
  rcases h with h | h
  ·exact t3_lt N a k x h
  ·simp at h
   subst h
   exact bitsAt_lt N _ 3
theorem threes_eq (src : Src) (a : Nat) (o : List Nat) : ∀ k, a ≤ src.L → threesM k src a o = if a + 3 * k ≤ src.L then .ok (t3 src.N a k, a + 3 * k, o) else .error 3
 | 0, h => by rw [if_pos (by omega)]; rfl
 | k + 1, h => by
  have ih := threes_eq src a o k h
  unfold threesM
  by_cases h1 : a + 3 * k ≤ src.L
  ·rw [if_pos h1] at ih
   rw [bind_ok ih]
   by_cases h2 : a + 3 * (k + 1) ≤ src.L
   ·rw [if_pos h2, bind_ok (show readM1 3 src (a + 3 * k) o = _ from if_pos (by omega))]
    unfold retM
    rw [t3, show a + 3 * k + 3 = a + 3 * (k + 1) by omega]
   ·rw [if_neg h2, bind_err (show readM1 3 src (a + 3 * k) o = _ from if_neg (by omega))]
  ·rw [if_neg h1] at ih
   rw [bind_err ih, if_neg (by omega)]
theorem ord_idx : ∀ k, k < 19 → ∀ j, j < 19 → (orderL.findIdx (· == j) = k ↔ j = orderL.getD k 0) := by decide +kernel
theorem ord_lt : ∀ k, k < 19 → orderL.getD k 0 < 19 := by decide
theorem outer_snoc (l : List Nat) (x j : Nat) (hl : l.length < 19) (hj : j < 19) : (if j = orderL.getD l.length 0 then x else (outerC l).ls j) = (outerC (l ++ [x])).ls j := by
 have hi := ord_idx l.length hl j hj
 show _ = (l ++ [x]).getD (orderL.findIdx (· == j)) 0
 by_cases e : j = orderL.getD l.length 0
 ·rw [if_pos e, hi.2 e, List.getD_eq_getElem?_getD, List.getElem?_append_right (Nat.le_refl _), Nat.sub_self]
  rfl
 ·rw [if_neg e]
  show l.getD (orderL.findIdx (· == j)) 0 = _
  have hne : orderL.findIdx (· == j) ≠ l.length := fun h => e (hi.1 h)
  generalize orderL.findIdx (· == j) = q at *
  rw [List.getD_eq_getElem?_getD, List.getD_eq_getElem?_getD]
  by_cases hq : q < l.length
  ·rw [List.getElem?_append_left hq]
  ·rw [List.getElem?_eq_none (by omega), List.getElem?_eq_none (by simp; omega)]
theorem outer_lt (l : List Nat) (h : ∀ x ∈ l, x < 8) (i : Nat) : (outerC l).ls i < 8 := by
 show l.getD (orderL.findIdx (· == i)) 0 < 8
 rw [List.getD_eq_getElem?_getD]
 cases hg : l[orderL.findIdx (· == i)]? with
 | none => simp
 | some x => exact h x (List.mem_of_getElem? hg)

/-- As PR, but the answer's value lies in the world. -/
def PRW {α : Type} (w : World) (gr : Nat) (s : ByteArray) (val : α → Ending → World → Prop) (bad : Nat → Ending → Prop) (ans : Ans α) (r : Ending) (w' : World) : Prop :=
 w.grownBy w' (some gr) ∧ match ans with
  | .ok (x, a1, _) => val x r w' ∧ Rd 83 w' gr s a1 0 ∧ a1 ≤ 8 * s.size
  | .error e => bad e r ∧ e ≠ 0 ∧ e < 100
theorem PRW.ok {α : Type} {w w' : World} {gr : Nat} {s : ByteArray} {val : α → Ending → World → Prop} {bad : Nat → Ending → Prop} {ans : Ans α} {r : Ending} {x : α} {a1 : Nat} {o1 : List Nat} (h : ans = .ok (x, a1, o1)) (hg : w.grownBy w' (some gr)) (hv : val x r w') (hr : Rd 83 w' gr s a1 0) (ha : a1 ≤ 8 * s.size) : PRW w gr s val bad ans r w' := by
 subst h
 exact ⟨hg, hv, hr, ha⟩
theorem PRW.err {α : Type} {w w' : World} {gr : Nat} {s : ByteArray} {val : α → Ending → World → Prop} {bad : Nat → Ending → Prop} {ans : Ans α} {r : Ending} {e : Nat} (h : ans = .error e) (hg : w.grownBy w' (some gr)) (hv : bad e r) (he : e ≠ 0) (h1 : e < 100) : PRW w gr s val bad ans r w' := by
 subst h
 exact ⟨hg, hv, he, h1⟩
theorem PRW.of_ok {α : Type} {w w' : World} {gr : Nat} {s : ByteArray} {val : α → Ending → World → Prop} {bad : Nat → Ending → Prop} {ans : Ans α} {r : Ending} {x : α} {a1 : Nat} {o1 : List Nat} (h : PRW w gr s val bad ans r w') (e : ans = .ok (x, a1, o1)) : w.grownBy w' (some gr) ∧ val x r w' ∧ Rd 83 w' gr s a1 0 ∧ a1 ≤ 8 * s.size := by
 subst e
 exact h
theorem PRW.of_err {α : Type} {w w' : World} {gr : Nat} {s : ByteArray} {val : α → Ending → World → Prop} {bad : Nat → Ending → Prop} {ans : Ans α} {r : Ending} {e : Nat} (h : PRW w gr s val bad ans r w') (he : ans = .error e) : w.grownBy w' (some gr) ∧ bad e r ∧ e ≠ 0 ∧ e < 100 := by
 subst he
 exact h

def ordV : Array Value := (orderL.map fun x => Value.int .i64 (x : Nat)).toArray
theorem info_ord : (Tryz.prog.info? 160).map (·.size) = some 19 := by kernel_rfl
theorem ord_one : ordV.all (·.oneCell') = true := by kernel_rfl
def zeroA : Array Value := (List.replicate 19 (Value.int .i64 0)).toArray
theorem zero_arr (w : World) : (zeroValue 160).run Tryz.prog w = .ok (.agg zeroA) w := by kernel_rfl
theorem order_any (w : World) : Calls Tryz.prog 98 #[] w fun e w' => e = .returned (.agg ordV) ∧ Below w.heap.size w w' := by
 have hz := zero_arr
 go_enter Tryz.func98, Tryz.ntmps98
 go_wp2_with (refine wpList_store_row rfl 160 (.tmp 0) (.tmp 1) rfl w.heap.size ordV rfl rfl 160 zeroA (heap_alloc_new w _) info_ord rfl ord_one ?_)
 exact bodyPost_ret (results_cell_row rfl _ _ w.heap.size 160 ordV (0, 0) _ rfl (setRow_heap _ _ _ ordV _ _ (heap_alloc_new w _)) Tryz.underlying160 rfl info_ord) rfl ⟨rfl, below_setRow ((Below.refl _ _).alloc (Nat.le_refl _) _) (Nat.le_refl _) _⟩
end Go.Proofs.YtmkeicfklbepnaaGreat

namespace Go.Proofs.YtmkeicfklbepnaaGreat
set_option maxRecDepth 100000
open Go.RowKit Go.Deep Go.Joins

def ouOk (c : Cod) (r : Ending) (w' : World) : Prop := ∃ g, r = .returned (.tuple #[.pointer (some ⟨g, 0, none⟩), .int .i64 0]) ∧ CdC w' g c
def ouBad (e : Nat) (r : Ending) : Prop := r = .returned (.tuple #[.pointer none, .int .i64 (e : Nat)])
theorem made19 : madeCells #[.int .u8 0] 19 = rowB 19 (fun _ => 0) := rowB_made 19
theorem grown_new {w w1 : World} {row : Option Nat} (h : w.grownBy w1 row) {g : Nat} (hg : w.heap.size ≤ g) (i : Nat) (v : Value) : w.grownBy (w1.setCell ⟨g, i, none⟩ v) row :=
 ⟨h.os, h.tape, h.output, by simpa [World.setCell] using h.size, fun j hj hne => (Below.heap_setCell _ _ _ _ (show j ≠ g by omega)).trans (h.block j hj hne)⟩
theorem ord_at (k : Nat) (hk : k < 19) : ordV[k]? = some (.int .i64 (orderL.getD k 0 : Nat)) := by
 have : ∀ k, k < 19 → orderL[k]? = some (orderL.getD k 0) := by decide
 unfold ordV
 rw [List.getElem?_toArray, List.getElem?_map, this k hk]
 rfl
/-- What stands behind k lengths of lengths. -/
def OuSt (w : World) (gr gl : Nat) (s : ByteArray) (a k : Nat) : Prop := (a + 3 * k ≤ 8 * s.size ∧ Rd 83 w gr s (a + 3 * k) 0 ∧ IsRowB w gl 19 (outerC (t3 (num s) a k)).ls) ∨
 (8 * s.size < a + 3 * k ∧ ∃ a' f, a' ≤ 8 * s.size ∧ Rd 83 w gr s a' 3 ∧ IsRowB w gl 19 f)
/-- One more. -/
def OuIn (w : World) (gr gl : Nat) (s : ByteArray) (a k v : Nat) : Prop := v < 8 ∧ ((a + 3 * (k + 1) ≤ 8 * s.size ∧ v = bitsAt (num s) (a + 3 * k) 3 ∧ Rd 83 w gr s (a + 3 * (k + 1)) 0 ∧ IsRowB w gl 19 (outerC (t3 (num s) a k)).ls) ∨
 (8 * s.size < a + 3 * (k + 1) ∧ ∃ a' f, a' ≤ 8 * s.size ∧ Rd 83 w gr s a' 3 ∧ IsRowB w gl 19 f))
theorem IsRowB.grown {w w' : World} {g n gr : Nat} {f : Nat → Nat} {s : ByteArray} {a e : Nat} (h : IsRowB w g n f) (hr : Rd 83 w gr s a e) (hg : w.grownBy w' (some gr)) : IsRowB w' g n f :=
 (hg.block g (lt_of_heap h) (by intro hh; injection hh with hh; exact blk_ne h hr (by decide) hh)).trans h
theorem ouin (w : World) (gr gl : Nat) (s : ByteArray) (a k : Nat) (hs : s.size ≤ 1000000) (h : OuSt w gr gl s a k) :
  Calls Tryz.prog 35 #[.pointer (some ⟨gr, 0, none⟩), .int .i64 (3 : Nat)] w fun r w' => ∃ v : Nat, r = .returned (.int .u32 (v : Nat)) ∧ w.grownBy w' (some gr) ∧ OuIn w' gr gl s a k v := by
 rcases h with ⟨h1, h2, h3⟩ | ⟨h1, a', f, h2, h3, h4⟩
 ·by_cases hk : a + 3 * (k + 1) ≤ 8 * s.size
  ·refine (read_ok gr s (a + 3 * k) 3 hs (by omega) (by omega) w h2).mono ?_
   rintro r w' ⟨rfl, hr, hg⟩
   exact ⟨_, rfl, hg, bitsAt_lt _ _ 3, .inl ⟨hk, rfl, by rw [show a + 3 * (k + 1) = a + 3 * k + 3 by omega]; exact hr, h3.grown h2 hg⟩⟩
  ·refine (read_short gr s (a + 3 * k) 3 hs h1 (by omega) (by omega) w h2).mono ?_
   rintro r w' ⟨rfl, hr, hg⟩
   exact ⟨0, rfl, hg, by omega, .inr ⟨by omega, _, _, h1, hr, h3.grown h2 hg⟩⟩
 ·refine (read_bad gr s a' 3 3 hs h2 (by omega) w h3).mono ?_
  rintro r w' ⟨rfl, hr, hg⟩
  exact ⟨0, rfl, hg, by omega, .inr ⟨by omega, _, _, h2, hr, h4.grown h3 hg⟩⟩
theorem Rd.set_other {w : World} {gr gl i : Nat} {s : ByteArray} {a e : Nat} {v : Value} (h : Rd 83 w gr s a e) (hne : gr ≠ gl) : Rd 83 (w.setCell ⟨gl, i, none⟩ v) gr s a e := (Below.heap_setCell _ _ _ _ hne).trans h
theorem OuIn.put {w : World} {gr gl : Nat} {s : ByteArray} {a k v : Nat} (h : OuIn w gr gl s a k v) (hk : k < 19) : OuSt (w.setCell ⟨gl, orderL.getD k 0, none⟩ (.int .u8 (v : Nat))) gr gl s a (k + 1) := by
 obtain ⟨_, h⟩ := h
 rcases h with ⟨h1, rfl, h3, h4⟩ | ⟨h1, a', f, h2, h3, h4⟩
 ·refine .inl ⟨h1, h3.set_other (Ne.symm (blk_ne h4 h3 (by decide))), (h4.set _ _ (ord_lt k hk)).ext fun i hi => ?_⟩
  have := outer_snoc (t3 (num s) a k) (bitsAt (num s) (a + 3 * k) 3) i (by rw [t3_len]; exact hk) hi
  rw [t3_len] at this
  exact this
 ·exact .inr ⟨h1, a', _, h2, h3.set_other (Ne.symm (blk_ne h4 h3 (by decide))), h4.set _ _ (ord_lt k hk)⟩
theorem OuIn.row {w : World} {gr gl : Nat} {s : ByteArray} {a k v : Nat} (h : OuIn w gr gl s a k v) : ∃ f, IsRowB w gl 19 f := by
 obtain ⟨_, h⟩ := h
 rcases h with ⟨_, _, _, h⟩ | ⟨_, _, f, _, _, h⟩
 ·exact ⟨_, h⟩
 ·exact ⟨f, h⟩
theorem OuSt.rd {w : World} {gr gl : Nat} {s : ByteArray} {a k : Nat} (h : OuSt w gr gl s a k) : ∃ a' e', a' ≤ 8 * s.size ∧ Rd 83 w gr s a' e' := by
 rcases h with ⟨h1, h2, _⟩ | ⟨_, a', f, h2, h3, _⟩
 ·exact ⟨_, _, h1, h2⟩
 ·exact ⟨_, _, h2, h3⟩
set_option maxHeartbeats 8000000 in
theorem outer_any (g gr a told lim : Nat) (s : ByteArray) (o : List Nat) (hs : s.size ≤ 1000000) (ha : a ≤ 8 * s.size) (ht : told ≤ 19) (w : World) (hp : Pin w g gr) (hr : Rd 83 w gr s a 0) :
  Calls Tryz.prog 69 #[.pointer (some ⟨g, 0, none⟩), .int .i64 told] w (PRW w gr s ouOk ouBad (outerM told (srcOf s lim) a o)) := by
 have HP := Lib.hid hp
 have HR := Lib.hid hr
 have hz := zero_arr
 have hmk : ∀ w, (Instr.makeSlice 37 (.int .i64 19) (.int .i64 19)).run Tryz.prog w = .ok (.slice (some ⟨w.heap.size, 0, none⟩) 19 19) (w.alloc (.cells (rowB 19 fun _ => 0) 5)) := fun w => by
  rw [← made19]
  exact run_make_row' (P := Tryz.prog) 37 5 (.int .u8 0) 1 Tryz.underlying37 info8 rfl .i64 .i64 19 (by omega) (by omega) w
 clear hp hr
 have hti : (told : Int) ≤ 19 := by omega
 go_enter Tryz.func69, Tryz.ntmps69
 go_wp2_with fail
 refine (order_any _).mono ?_; rintro e w1 ⟨rfl, hb1⟩
 have HB1 := Lib.hid hb1
 have HZ1 := Lib.hid hb1.size
 clear hb1
 go_wp2_with (refine wpList_store_row rfl 160 (.tmp 6) (.tmp 11) rfl w1.heap.size ordV rfl rfl 160 zeroA (heap_alloc_new w1 _) info_ord rfl ord_one ?_)
 have hb2 : Below w.heap.size w ((w1.alloc (.cells zeroA 160)).setRow w1.heap.size ordV) := below_setRow (HB1.out.alloc HZ1.out _) HZ1.out _
 have ho2 : ((w1.alloc (.cells zeroA 160)).setRow w1.heap.size ordV).heap[w1.heap.size]? = some (.cells ordV 160 (0, 0)) := setRow_heap _ _ _ ordV _ _ (heap_alloc_new w1 _)
 have HSZ : Hid (((w1.alloc (.cells zeroA 160)).setRow w1.heap.size ordV).heap.size = w1.heap.size + 1) := by show _ = _; simp [World.setRow]
 generalize (w1.alloc (.cells zeroA 160)).setRow w1.heap.size ordV = w2 at *
 have hlt12 := lt_of_heap ho2
 have hsz2 : w2.heap.size = w1.heap.size + 1 := HSZ.out
 generalize hgo : w1.heap.size = go at *
 have hb3 : Below w.heap.size w (w2.alloc (.cells (rowB 19 fun _ => 0) 5)) := hb2.alloc hb2.size _
 have ho3 : (w2.alloc (.cells (rowB 19 fun _ => 0) 5)).heap[go]? = some (.cells ordV 160 (0, 0)) := (Below.heap_alloc w2 _ go hlt12).trans ho2
 have hl3 : IsRowB (w2.alloc (.cells (rowB 19 fun _ => 0) 5)) w2.heap.size 19 (fun _ => 0) := heap_alloc_new w2 _
 have hgw : w.heap.size ≤ w2.heap.size := hb2.size
 generalize w2.alloc (.cells (rowB 19 fun _ => 0) 5) = w3 at *
 rw [hsz2] at hl3 hgw
 have HGW := Lib.hid hgw
 have HB3 := Lib.hid hb3
 have HO3 := Lib.hid ho3
 have HL3 := Lib.hid hl3
 clear hb2 ho2 hb3 ho3 hl3 hgo hgw HB1 HZ1 hz hmk hlt12 hsz2 HSZ
 have hP3 : Hid (Pin w3 g gr) := HP.out.below HB3.out HP.out.lt
 have hR3 := HR.out.below HB3.out HR.out.lt
 have HST : Hid (OuSt w3 gr (go + 1) s a 0) := .inl ⟨by omega, hR3, HL3.out.ext fun i _ => rfl⟩
 have HGR : Hid (w.grownBy w3 (some gr)) := grown_of_below HB3.out
 clear hR3 hP3
 go_wp2_with fail
 go_loopw [16] (fun i wr => ∃ k, k ≤ told ∧ i = .int .i64 (k : Nat) ∧ wr.heap[go]? = some (.cells ordV 160 (0, 0)) ∧ w.grownBy wr (some gr) ∧ OuSt wr gr (go + 1) s a k) (fun i _ => told - (intOf i).toNat)
 case atStart => exact ⟨0, Nat.zero_le _, rfl, HO3.out, HGR.out, HST.out⟩
 case round =>
  obtain ⟨k, hk, rfl, ho, hg, hst⟩ := hrel
  have HO := Lib.hid ho
  have HG := Lib.hid hg
  have HS := Lib.hid hst
  have hpw := HP.out.grown HR.out hg
  have c0 := hpw.c0
  by_cases hlt : k < told
  ·have hk19 : k < 19 := by omega
   have cx : wr.cell? ⟨go, k, none⟩ = some (.int .i64 (orderL.getD k 0 : Nat)) := by rw [cell_of_row wr go k _ _ _ ho, ord_at k hk19]
   have HIN := Lib.hid (ouin wr gr (go + 1) s a k hs hst)
   have hx19 := ord_lt k hk19
   have HPUT := Lib.hid (fun (wx : World) (v : Nat) (h : OuIn wx gr (go + 1) s a k v) => h.put hk19)
   generalize orderL.getD k 0 = x at *
   have hx19i : (x : Int) < 19 := by omega
   clear ho hg hst hpw
   go_wp2_with fail
   refine (HIN.out).mono ?_; rintro e w5 ⟨v, rfl, hg5, hin⟩
   have hv8 := hin.1
   obtain ⟨f5, hf5⟩ := hin.row
   have hvw : IntKind.u8.wrap (v : Int) = (v : Int) := by rw [IntKind.wrap_u8]; omega
   have k0 := hf5.cell x hx19
   have kf := hf5.frozen x
   obtain ⟨a6, e6, _, hrd6⟩ := HS.out.rd
   have HO5 : Hid (w5.heap[go]? = some (.cells ordV 160 (0, 0))) := (hg5.block go (lt_of_heap HO.out) (by intro hh; injection hh with hh; exact blk_ne HO.out hrd6 (by decide) hh)).trans HO.out
   have HG5 := Lib.hid (grown_then HG.out hg5)
   have HIN5 := Lib.hid hin
   clear hg5 hin hf5 hrd6 HIN
   go_wp2_with fail
   go_roundw
   case rel =>
    refine ⟨k + 1, by omega, by go_num, (Below.heap_setCell _ _ _ _ (show go ≠ go + 1 by omega)).trans HO5.out, grown_new HG5.out HGW.out _ _, ?_⟩
    exact HPUT.out w5 v HIN5.out
   case measure => simp [intOf]; omega
  ·obtain rfl : k = told := by omega
   have HEQ := Lib.hid (threes_eq (srcOf s lim) a o k ha)
   clear ho hst
   rcases HS.out with ⟨h1, h2, h3⟩ | ⟨h1, a', f, h2, h3, h4⟩
   ·have HTH : Hid (threesM k (srcOf s lim) a o = .ok (t3 (num s) a k, a + 3 * k, o)) := HEQ.out.trans (if_pos h1)
    have HER := Lib.hid (err_any gr s (a + 3 * k) 0 wr h2)
    have hlt8 := fun i (_ : i < 19) => outer_lt (t3 (num s) a k) (t3_lt (num s) a k) i
    have hL : Lens wr (some ⟨go + 1, 0, none⟩) (outerC (t3 (num s) a k)).n (outerC (t3 (num s) a k)).ls := h3.lens (fun i hi => by have := hlt8 i hi; omega)
    have h15 : ∀ i, i < (outerC (t3 (num s) a k)).n → (outerC (t3 (num s) a k)).ls i ≤ 15 := fun i hi => by have := hlt8 i hi; omega
    have HOU : Hid (outerM k (srcOf s lim) a o = bindM (makeM (outerC (t3 (num s) a k)) false) (fun _ => retM (outerC (t3 (num s) a k))) (srcOf s lim) (a + 3 * k) o) := bind_ok HTH.out
    have HRD := Lib.hid h2
    by_cases hm : may (outerC (t3 (num s) a k)) false
    ·have HE : Hid (outerM k (srcOf s lim) a o = .ok (outerC (t3 (num s) a k), a + 3 * k, o)) := HOU.out.trans (bind_ok (show makeM _ _ _ _ _ = _ from by unfold makeM; rw [if_pos hm]; rfl))
     have HN := Lib.hid (newC_ok (some ⟨go + 1, 0, none⟩) 19 false (outerC (t3 (num s) a k)) (by show 19 ≤ 4096; omega) h15 hm wr hL)
     clear h3 hL h15 hlt8 hm HOU HTH HEQ hg hpw h2
     go_wp2_with fail
     refine (HER.out).mono ?_; rintro e w5 ⟨rfl, rfl⟩
     go_wp2_with fail
     refine (HN.out).mono ?_; rintro e w6 ⟨gc, rfl, hc6, hb6⟩
     have HC6 := Lib.hid hc6
     have HB6 := Lib.hid hb6
     clear hc6 hb6 HN HER
     go_wp2
     go_ret2
     exact .ok HE.out (grown_then HG.out (grown_of_below HB6.out)) ⟨gc, rfl, HC6.out⟩ (HRD.out.below HB6.out HRD.out.lt) h1
    ·have HE : Hid (outerM k (srcOf s lim) a o = .error 10) := HOU.out.trans (bind_err (show makeM _ _ _ _ _ = _ from by unfold makeM; rw [if_neg hm]; rfl))
     have HN := Lib.hid (newC_no (some ⟨go + 1, 0, none⟩) 19 false (outerC (t3 (num s) a k)) (by show 19 ≤ 4096; omega) h15 hm wr hL)
     clear h3 hL h15 hlt8 hm HOU HTH HEQ hg hpw h2
     go_wp2_with fail
     refine (HER.out).mono ?_; rintro e w5 ⟨rfl, rfl⟩
     go_wp2_with fail
     refine (HN.out).mono ?_; rintro e w6 ⟨rfl, hb6⟩
     have HB6 := Lib.hid hb6
     clear hb6 HN HER
     go_wp2
     go_ret2
     exact .err HE.out (grown_then HG.out (grown_of_below HB6.out)) rfl (by omega) (by omega)
   ·have HE : Hid (outerM k (srcOf s lim) a o = .error 3) := bind_err (HEQ.out.trans (if_neg (by show ¬ a + 3 * k ≤ 8 * s.size; omega)))
    have HER := Lib.hid (err_any gr s a' 3 wr h3)
    clear hg hpw h3 h4
    go_wp2_with fail
    refine (HER.out).mono ?_; rintro e w5 ⟨rfl, rfl⟩
    go_wp2
    go_ret2
    exact .err HE.out HG.out rfl (by omega) (by omega)
end Go.Proofs.YtmkeicfklbepnaaGreat

namespace Go.Proofs.YtmkeicfklbepnaaGreat
set_option maxRecDepth 100000
open Go.RowKit Go.Deep Go.Joins

def rwOk (B : Nat) (l : List Nat) (r : Ending) (w' : World) : Prop := (∃ A cap, r = .returned (.tuple #[.slice A l.length cap, .int .i64 0]) ∧ w'.ownsRow B 5 1 (.slice A l.length cap) l.length (cells8 l)) ∧ ∀ y ∈ l, y ≤ 15
def rwBad (e : Nat) (r : Ending) : Prop := r = .returned (.tuple #[.slice none 0 0, .int .i64 (e : Nat)])
theorem row_read {w w' : World} {B n gr : Nat} {v : Value} {l : List Value} {s : ByteArray} {a e : Nat} (ho : w.ownsRow B 5 1 v n l) (hr : Rd 83 w gr s a e) (hg : w.grownBy w' (some gr)) : w'.ownsRow B 5 1 v n l :=
 row_kept ho fun b hb => hg.block b (ho.lt b hb).2 fun hh => row_ne (by decide) ho hr (by rw [hb, hh])
theorem run_o {x : Nat} {row : List Nat} {src : Src} {a a1 : Nat} {o o1 : List Nat} {p : Nat × Nat} (h : runM x row src a o = .ok (p, a1, o1)) : o1 = o ∧ a ≤ a1 ∧ p.1 = (runOf x row).1 ∧ (runOf x row).2.1 ≤ p.2 ∧ p.2 < (runOf x row).2.1 + 2 ^ (runOf x row).2.2 := by
 by_cases h0 : x = 16 ∧ row.length = 0
 ·unfold runM at h
  rw [if_pos h0] at h
  cases h
 ·rw [run_eq x row _ h0 rfl] at h
  split at h
  ·injection h with h
   cases h
   have := bitsAt_lt src.N a (runOf x row).2.2
   exact ⟨rfl, by omega, rfl, by simp, by simp; omega⟩
  ·cases h
theorem run_le (x : Nat) (row : List Nat) (hx : x < 19) (h15 : ∀ y ∈ row, y ≤ 15) : (runOf x row).1 ≤ 15 ∧ 1 ≤ (runOf x row).2.1 ∧ (runOf x row).2.1 + 2 ^ (runOf x row).2.2 ≤ 139 := by
 unfold runOf
 split
 ·refine ⟨?_, by show 1 ≤ 3; omega, by show 3 + 2 ^ 2 ≤ 139; omega⟩
  show row.getD (row.length - 1) 0 ≤ 15
  rw [List.getD_eq_getElem?_getD]
  cases hg : row[row.length - 1]? with
  | none => simp
  | some y => exact h15 y (List.mem_of_getElem? hg)
 ·split
  ·exact ⟨by decide, by decide, by decide⟩
  ·split
   ·exact ⟨by decide, by decide, by decide⟩
   ·exact ⟨by show x ≤ 15; omega, by show 1 ≤ 1; omega, by show 1 + 2 ^ 0 ≤ 139; omega⟩

set_option maxHeartbeats 8000000 in
theorem row_any (g gr gc a many lim : Nat) (s : ByteArray) (o : List Nat) (c : Cod) (hs : s.size ≤ 1000000) (ha : a ≤ 8 * s.size) (hm : many ≤ 1000) (hn19 : c.n ≤ 19) (w : World) (hp : Pin w g gr) (hr : Rd 83 w gr s a 0) (hc : CdC w gc c) :
  Calls Tryz.prog 70 #[.pointer (some ⟨g, 0, none⟩), .pointer (some ⟨gc, 0, none⟩), .int .i64 many] w (PRW w gr s (rwOk w.heap.size) rwBad (rowM c many (srcOf s lim) a o)) := by
 have HP := Lib.hid hp
 have HR := Lib.hid hr
 have HC := Lib.hid hc
 clear hp hr hc
 have HOWN0 : Hid (w.ownsRow w.heap.size 5 1 (.slice none 0 0) ([] : List Nat).length (cells8 [])) := World.ownsRow_nil _ _ _ _
 go_enter Tryz.func70, Tryz.ntmps70
 go_wp2_with fail
 go_loopw [8] (fun v wr => ∃ row a1, wr.ownsRow w.heap.size 5 1 v row.length (cells8 row) ∧ Rd 83 wr gr s a1 0 ∧ a1 ≤ 8 * s.size ∧ w.grownBy wr (some gr) ∧ row.length ≤ 2000 ∧ (∀ y ∈ row, y ≤ 15) ∧ ∀ ans, Runs (rowStep c many) (srcOf s lim) row a1 o ans → Runs (rowStep c many) (srcOf s lim) [] a o ans) (fun _ wr => 8 * s.size - rdAt gr wr)
 case atStart => exact ⟨[], a, HOWN0.out, HR.out, ha, World.grownBy.refl _ _, Nat.zero_le _, fun y hy => by (cases hy), fun _ h => h⟩
 case round =>
  obtain ⟨row, a1, ho, hrd, ha1, hg, hrl, h15, hrun⟩ := hrel
  obtain ⟨A, cp, rfl⟩ := row_slice ho
  have HO := Lib.hid ho
  have HRD := Lib.hid hrd
  have HG := Lib.hid hg
  have H15 := Lib.hid h15
  have HRUN := Lib.hid hrun
  have HM := Lib.hid (rdAt_of hrd)
  have c0 := (HP.out.grown HR.out hg).c0
  have HPW := Lib.hid (HP.out.grown HR.out hg)
  have HSG := Lib.hid (signC_any gc gr a1 lim c s o hs ha1 wr (HC.out.far (far_read HR.out hg)) hrd)
  have HST : Hid (row.length < many → rowStep c many row (srcOf s lim) a1 o = bindM (signM c) (fun x => bindM (runM x row) fun p => retM (.inl (row ++ List.replicate p.2 p.1))) (srcOf s lim) a1 o) := fun h => by
   unfold rowStep
   rw [if_pos h]
  have HSF : Hid (¬ row.length < many → rowStep c many row (srcOf s lim) a1 o = if many < row.length then .error 10 else .ok (.inr row, a1, o)) := fun h => by
   unfold rowStep
   rw [if_neg h]
   by_cases h2 : many < row.length
   ·rw [if_pos h2, if_pos h2]
    rfl
   ·rw [if_neg h2, if_neg h2]
    rfl
  clear ho hrd hg h15 hrun
  by_cases hlt : row.length < many
  ·have HST1 := Lib.hid (HST.out hlt)
   have HRU := Lib.hid (fun x a2 w1 (hx : x < 19) (h2 : a2 ≤ 8 * s.size) (hw : wr.grownBy w1 (some gr)) (h3 : Rd 83 w1 gr s a2 0) => run_any g gr a2 lim x w.heap.size row.length cp A s o row hs h2 hx rfl (by omega) (fun y hy => by have := H15.out y hy; omega) w1 (HPW.out.grown HRD.out hw) h3 (row_read HO.out HRD.out hw))
   clear HST HSF
   generalize hlen : row.length = n at *
   have HLEN := Lib.hid hlen
   clear hlen
   go_wp2_with fail
   refine (HSG.out).mono ?_; rintro e w2 hpr
   cases hn : signM c (srcOf s lim) a1 o with
   | error k =>
    obtain ⟨hg2, hbad, hk0, hk1⟩ := hpr.of_err hn
    unfold sgBad at hbad
    subst hbad
    have HE := Lib.hid (loop_of (HRUN.out _ (.err (HST1.out.trans (bind_err hn)))))
    have hne : ((k : Int) == 0) = false := by rw [beq_eq_false_iff_ne]; omega
    have HG2 := Lib.hid (grown_then HG.out hg2)
    clear hn hpr hg2
    go_wp2
    go_ret2
    exact .err HE.out HG2.out rfl hk0 hk1
   | ok q =>
    obtain ⟨x, a2, o2⟩ := q
    obtain rfl := sign_same hn
    obtain ⟨hg2, ⟨rfl, hxn⟩, hr2, ha2⟩ := hpr.of_ok hn
    have hlta : a1 < a2 := by
     obtain ⟨l, h1, _, h2, _⟩ := sign_ok _ _ _ _ _ _ _ hn
     omega
    have hx19 : x < 19 := by omega
    have HST2 := Lib.hid (HST1.out.trans (bind_ok hn))
    have HRU2 := Lib.hid (HRU.out x a2 w2 hx19 ha2 hg2 hr2)
    have HO2 := Lib.hid (row_read HO.out HRD.out hg2)
    have HG2 := Lib.hid (grown_then HG.out hg2)
    have HR2 := Lib.hid hr2
    have HRL := Lib.hid (run_le x row hx19 H15.out)
    clear hn hpr hg2 hr2 HST1 HRU HSG
    go_wp2_with fail
    refine (HRU2.out).mono ?_; rintro e w3 hpr
    cases hn : runM x row (srcOf s lim) a2 o2 with
    | error k =>
     obtain ⟨hg3, ⟨y, z, rfl⟩, hk0, hk1⟩ := hpr.of_err hn
     have HE := Lib.hid (loop_of (HRUN.out _ (.err (HST2.out.trans (bind_err hn)))))
     have hne : ((k : Int) == 0) = false := by rw [beq_eq_false_iff_ne]; omega
     have HG3 := Lib.hid (grown_then HG2.out hg3)
     clear hn hpr hg3
     go_wp2
     go_ret2
     exact .err HE.out HG3.out rfl hk0 hk1
    | ok q =>
     obtain ⟨⟨y, t⟩, a3, o3⟩ := q
     obtain ⟨hg3, hrn, hr3, ha3⟩ := hpr.of_ok hn
     unfold rnOk at hrn
     subst hrn
     obtain ⟨ho3, h23, hy, ht1, ht2⟩ := run_o hn
     have hrl2 := HRL.out
     have hy15 : y ≤ 15 := by
      have : y = (runOf x row).1 := hy
      omega
     have ht138 : 1 ≤ t ∧ t ≤ 138 := by
      have h1 : (runOf x row).2.1 ≤ t := ht1
      have h2 : t < (runOf x row).2.1 + 2 ^ (runOf x row).2.2 := ht2
      omega
     obtain ⟨ht0, ht9⟩ := ht138
     subst ho3
     have HST3 := Lib.hid (HST2.out.trans (bind_ok hn))
     have HO3 := Lib.hid (row_read HO2.out HR2.out hg3)
     have HG3 := Lib.hid (grown_then HG2.out hg3)
     have HR3 := Lib.hid hr3
     have HSM := Lib.hid (same_any t y ht0 (by omega) w3)
     clear hn hpr hg3 hr3 hrl2 hy ht1 ht2 HST2 HRU2
     go_wp2_with fail
     refine (HSM.out).mono ?_; rintro e w4 ⟨gB, rfl, hgB, hge, hb4⟩
     have HO4 := Lib.hid (row_kept HO3.out (fun q e => hb4.block q (HO3.out.lt q e).2))
     have HG4 := Lib.hid (grown_then HG3.out (grown_of_below hb4))
     have HR4 := Lib.hid (HR3.out.below hb4 HR3.out.lt)
     have HGB := Lib.hid hgB
     have hbase : w.heap.size ≤ w4.heap.size := HG4.out.size
     have HCL : Hid ((cells8 (List.replicate t y)).length = t) := by show _ = _; simp [cells8]
     have HON : Hid (∀ u ∈ cells8 (List.replicate t y), u.oneCell' = true) := by
      intro u hu
      unfold cells8 at hu
      rw [List.mem_map] at hu
      obtain ⟨_, _, rfl⟩ := hu
      rfl
     have HNW : Hid (∀ q u, (cells8 (List.replicate t y))[q]? = some u → w4.cell? ((⟨gB, 0, none⟩ : Addr).add q) = some u) := by
      intro q u hu
      rw [Addr.add_lit, Nat.zero_add, cell_of_row w4 gB q _ _ _ HGB.out, List.getElem?_toArray]
      exact hu
     obtain ⟨i0, hi, hz0, hz1, hz2⟩ := info_parts info8
     obtain ⟨rep, hrep⟩ : ∃ rep, rep = List.replicate t y := ⟨_, rfl⟩
     rw [← hrep] at HCL HON HNW HST3 HGB
     have HREP := Lib.hid hrep
     clear hgB hge hb4 HSM hrep
     go_wp2_with (at_builtin; refine wpList_append_own_at _ rfl (.tmp 40) (.tmp 43) _ rfl w.heap.size 5 i0 (.int .u8 0) 1 1 Tryz.underlying37 hi hz0 hz1 hz2 rfl (by decide) _ n (cells8 row) rfl HO4.out ⟨gB, 0, none⟩ t t (cells8 rep) rfl ?c1 ?c2 ?c3 ?c4 ?c5 hbase ?_)
     case c1 => rw [HCL.out, Nat.mul_one]
     case c2 => exact HNW.out
     case c3 => exact HON.out
     case c4 => unfold maxLen; omega
     case c5 => omega
     intro v2 w5 hown hgrow _ hat
     have hR5 : Rd 83 w5 gr s a3 0 := (hgrow.block gr HR4.out.lt (fun e => row_ne (by decide) HO4.out HR4.out e.symm)).trans HR4.out
     have hG5 : w.grownBy w5 (some gr) := ⟨hgrow.os.trans HG4.out.os, hgrow.tape.trans HG4.out.tape, hgrow.output.trans HG4.out.output, Nat.le_trans HG4.out.size hgrow.size, fun i hi hne =>
      (hgrow.block i (Nat.lt_of_lt_of_le hi HG4.out.size) (fun e => by
       have := (HO4.out.lt i e.symm).1
       omega)).trans (HG4.out.block i hi hne)⟩
     have HR5 := Lib.hid hR5
     have HG5 := Lib.hid hG5
     have hlr : (row ++ rep).length = n + t := by rw [List.length_append, HLEN.out, HREP.out, List.length_replicate]
     have HLR := Lib.hid hlr
     have HO5 : Hid (w5.ownsRow w.heap.size 5 1 v2 (row ++ rep).length (cells8 (row ++ rep))) := by
      show World.ownsRow _ _ _ _ _ _ _
      rw [hlr, cells8_app]
      exact hown
     have HE := Lib.hid (fun ans h => HRUN.out ans (.more (HST3.out.trans rfl) h))
     have H15b : Hid (∀ z ∈ row ++ rep, z ≤ 15) := by
      intro z hz
      rw [List.mem_append] at hz
      rcases hz with hz | hz
      ·exact H15.out z hz
      ·rw [HREP.out, List.mem_replicate] at hz
       omega
     clear hown hgrow hat hR5 hG5 hlr
     go_wp2
     go_roundw
     case rel => exact ⟨row ++ rep, a3, HO5.out, HR5.out, ha3, HG5.out, by rw [HLR.out]; omega, H15b.out, HE.out⟩
     case measure =>
      rw [rdAt_of HR5.out, HM.out]
      omega
  ·have HSF1 := Lib.hid (HSF.out hlt)
   clear HST HSF
   by_cases hgt : many < row.length
   ·have HE := Lib.hid (loop_of (HRUN.out _ (.err (HSF1.out.trans (if_pos hgt)))))
    generalize row.length = n at *
    go_wp2_with fail
    go_ret2
    exact .err HE.out HG.out rfl (by omega) (by omega)
   ·have HE := Lib.hid (loop_of (HRUN.out _ (.done (HSF1.out.trans (if_neg hgt)))))
    have HO9 : Hid ((∃ A' cap', Ending.returned (.tuple #[.slice A row.length cp, .int .i64 0]) = .returned (.tuple #[.slice A' row.length cap', .int .i64 0]) ∧ wr.ownsRow w.heap.size 5 1 (.slice A' row.length cap') row.length (cells8 row)) ∧ ∀ y ∈ row, y ≤ 15) := ⟨⟨A, cp, rfl, HO.out⟩, H15.out⟩
    generalize hlen : row.length = n at *
    have HLEN := Lib.hid hlen
    clear hlen
    go_wp2_with fail
    go_ret2
    refine .ok HE.out HG.out ?_ HRD.out ha1
    unfold rwOk
    rw [HLEN.out]
    exact HO9.out
end Go.Proofs.YtmkeicfklbepnaaGreat
