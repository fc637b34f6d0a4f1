/-
 Contracts: how often signs come.
-/
import Derived.Test.YtmkeicfklbepnaaGreatPkCD
import Derived.Laws.Tables
namespace Go.Proofs.YtmkeicfklbepnaaGreat
set_option maxRecDepth 100000
open Go.Joins Go.RowKit Go.Deep

/-- Cells of counts. -/
def arrU (F : Nat → Nat) (n : Nat) : Array Value := ((List.range n).map fun i => Value.int .u32 (F i : Nat)).toArray
theorem arrU_size (F : Nat → Nat) (n : Nat) : (arrU F n).size = n := by simp [arrU]
theorem arrU_get (F : Nat → Nat) (n i : Nat) (h : i < n) : (arrU F n)[i]? = some (.int .u32 (F i : Nat)) := by simp [arrU, h]
theorem arrU_set (F : Nat → Nat) (n i v : Nat) : (arrU F n).setIfInBounds i (.int .u32 (v : Nat)) = arrU (fun p => if p = i then v else F p) n := by
 apply Array.ext
 ·rw [Array.size_setIfInBounds, arrU_size, arrU_size]
 ·intro j h1 h2
  have hj : j < n := by rw [arrU_size] at h2; exact h2
  have e1 := arrU_get (fun p => if p = i then v else F p) n j hj
  rw [Array.getElem?_eq_getElem h2] at e1
  rw [Option.some.inj e1, Array.getElem_setIfInBounds]
  ·by_cases e : i = j
   ·subst e; rw [if_pos rfl, if_pos rfl]
   ·rw [if_neg e, if_neg (Ne.symm e)]
    have e2 := arrU_get F n j hj
    rw [Array.getElem?_eq_getElem (by rw [arrU_size]; exact hj)] at e2
    exact Option.some.inj e2
  ·rw [arrU_size]; exact hj
theorem arrU_one (F : Nat → Nat) (n : Nat) : (arrU F n).all (·.oneCell') = true := by
 rw [Array.all_eq_true_iff_forall_mem]
 intro v hv
 unfold arrU at hv
 simp at hv
 obtain ⟨i, _, rfl⟩ := hv
 rfl
theorem zeroA286 (w : World) : (zeroValue 142).run Tryz.prog w = .ok (.agg (arrU (fun _ => 0) 286)) w := by kernel_rfl
theorem zeroA30 (w : World) : (zeroValue 143).run Tryz.prog w = .ok (.agg (arrU (fun _ => 0) 30)) w := by kernel_rfl
theorem infoA286 (F : Nat → Nat) : (Tryz.prog.info? 142).map (·.size) = some (arrU F 286).size := by rw [arrU_size]; kernel_rfl
theorem infoA30 (F : Nat → Nat) : (Tryz.prog.info? 143).map (·.size) = some (arrU F 30).size := by rw [arrU_size]; kernel_rfl

def bump (F : Nat → Nat) (j : Nat) : Nat → Nat := fun i => if i = j then F j + 1 else F i
def cA (f : Nat → Tok) : Nat → Nat → Nat
 | 0 => fun i => if i = 256 then 1 else 0
 | k + 1 => if rightT (f k) = true then (if (f k).l = 0 then bump (cA f k) (f k).b else bump (cA f k) (lsg (f k).l.toNat)) else cA f k
def cB (f : Nat → Tok) : Nat → Nat → Nat
 | 0 => fun _ => 0
 | k + 1 => if rightT (f k) = true then (if (f k).l = 0 then cB f k else bump (cB f k) (dsg (f k).d.toNat)) else cB f k
theorem bump_le (F : Nat → Nat) (j m : Nat) (h : ∀ i, F i ≤ m) : ∀ i, bump F j i ≤ m + 1 := fun i => by
 unfold bump
 have h1 := h i
 have h2 := h j
 split <;> omega
theorem cA_le (f : Nat → Tok) : ∀ k i, cA f k i ≤ k + 1
 | 0, i => by unfold cA; split <;> omega
 | k + 1, i => by
  rw [cA]
  have ih := cA_le f k
  split
  ·split
   ·exact bump_le _ _ _ ih i
   ·exact bump_le _ _ _ ih i
  ·exact Nat.le_succ_of_le (ih i)
theorem cB_le (f : Nat → Tok) : ∀ k i, cB f k i ≤ k
 | 0, i => Nat.le_refl _
 | k + 1, i => by
  rw [cB]
  have ih := cB_le f k
  split
  ·split
   ·exact Nat.le_succ_of_le (ih i)
   ·exact bump_le _ _ _ ih i
  ·exact Nat.le_succ_of_le (ih i)

/-- What the counting keeps. -/
def CSt (w wr : World) (A B : Nat → Nat) : Prop :=
 wr.heap[w.heap.size]? = some (.cells (arrU (fun _ => 0) 286) 142 (0, 0)) ∧ wr.heap[w.heap.size + 1]? = some (.cells (arrU (fun _ => 0) 30) 143 (0, 0)) ∧
 wr.heap[w.heap.size + 1 + 1]? = some (.cells (arrU A 286) 142 (0, 0)) ∧ wr.heap[w.heap.size + 1 + 1 + 1]? = some (.cells (arrU B 30) 143 (0, 0)) ∧ Below w.heap.size w wr ∧ w.heap.size + 4 ≤ wr.heap.size
theorem CSt.later {w wr w2 : World} {A B : Nat → Nat} (h : CSt w wr A B) (hb : Below wr.heap.size wr w2) : CSt w w2 A B := by
 obtain ⟨h0, h1, h2, h3, h4, h5⟩ := h
 exact ⟨(hb.block _ (by omega)).trans h0, (hb.block _ (by omega)).trans h1, (hb.block _ (by omega)).trans h2, (hb.block _ (by omega)).trans h3, h4.trans (hb.mono h4.size), Nat.le_trans h5 hb.size⟩
theorem CSt.setA {w wr : World} {A B : Nat → Nat} (h : CSt w wr A B) (i v : Nat) : CSt w (wr.setCell ⟨w.heap.size + 1 + 1, i, none⟩ (.int .u32 (v : Nat))) (fun p => if p = i then v else A p) B := by
 obtain ⟨h0, h1, h2, h3, h4, h5⟩ := h
 have e := heap_setCell_same wr _ i _ _ (.int .u32 (v : Nat)) h2
 rw [arrU_set] at e
 exact ⟨(Below.heap_setCell _ _ _ _ (by show w.heap.size ≠ w.heap.size + 1 + 1; omega)).trans h0, (Below.heap_setCell _ _ _ _ (by show w.heap.size + 1 ≠ w.heap.size + 1 + 1; omega)).trans h1, e,
  (Below.heap_setCell _ _ _ _ (by show w.heap.size + 1 + 1 + 1 ≠ w.heap.size + 1 + 1; omega)).trans h3, h4.setCell (by show w.heap.size ≤ w.heap.size + 1 + 1; omega) _, by simpa [World.setCell] using h5⟩
theorem CSt.setB {w wr : World} {A B : Nat → Nat} (h : CSt w wr A B) (i v : Nat) : CSt w (wr.setCell ⟨w.heap.size + 1 + 1 + 1, i, none⟩ (.int .u32 (v : Nat))) A (fun p => if p = i then v else B p) := by
 obtain ⟨h0, h1, h2, h3, h4, h5⟩ := h
 have e := heap_setCell_same wr _ i _ _ (.int .u32 (v : Nat)) h3
 rw [arrU_set] at e
 exact ⟨(Below.heap_setCell _ _ _ _ (by show w.heap.size ≠ w.heap.size + 1 + 1 + 1; omega)).trans h0, (Below.heap_setCell _ _ _ _ (by show w.heap.size + 1 ≠ w.heap.size + 1 + 1 + 1; omega)).trans h1,
  (Below.heap_setCell _ _ _ _ (by show w.heap.size + 1 + 1 ≠ w.heap.size + 1 + 1 + 1; omega)).trans h2, e, h4.setCell (by show w.heap.size ≤ w.heap.size + 1 + 1 + 1; omega) _, by simpa [World.setCell] using h5⟩
theorem CSt.start (w : World) (A : Nat → Nat) : CSt w ((((w.alloc (.cells (arrU (fun _ => 0) 286) 142)).alloc (.cells (arrU (fun _ => 0) 30) 143)).alloc (.cells (arrU A 286) 142)).alloc (.cells (arrU (fun _ => 0) 30) 143)) A (fun _ => 0) := by
 have b1 := heap_alloc_new w (.cells (arrU (fun _ => 0) 286) 142)
 have s1 : (w.alloc (.cells (arrU (fun _ => 0) 286) 142)).heap.size = w.heap.size + 1 := by simp
 have d1 : Below w.heap.size w (w.alloc (.cells (arrU (fun _ => 0) 286) 142)) := (Below.refl _ _).alloc (Nat.le_refl _) _
 generalize w.alloc (.cells (arrU (fun _ => 0) 286) 142) = w1 at *
 have b2 := heap_alloc_new w1 (.cells (arrU (fun _ => 0) 30) 143)
 have s2 : (w1.alloc (.cells (arrU (fun _ => 0) 30) 143)).heap.size = w1.heap.size + 1 := by simp
 have d2 : Below w1.heap.size w1 (w1.alloc (.cells (arrU (fun _ => 0) 30) 143)) := (Below.refl _ _).alloc (Nat.le_refl _) _
 generalize w1.alloc (.cells (arrU (fun _ => 0) 30) 143) = w2 at *
 have b3 := heap_alloc_new w2 (.cells (arrU A 286) 142)
 have s3 : (w2.alloc (.cells (arrU A 286) 142)).heap.size = w2.heap.size + 1 := by simp
 have d3 : Below w2.heap.size w2 (w2.alloc (.cells (arrU A 286) 142)) := (Below.refl _ _).alloc (Nat.le_refl _) _
 generalize w2.alloc (.cells (arrU A 286) 142) = w3 at *
 have b4 := heap_alloc_new w3 (.cells (arrU (fun _ => 0) 30) 143)
 have s4 : (w3.alloc (.cells (arrU (fun _ => 0) 30) 143)).heap.size = w3.heap.size + 1 := by simp
 have d4 : Below w3.heap.size w3 (w3.alloc (.cells (arrU (fun _ => 0) 30) 143)) := (Below.refl _ _).alloc (Nat.le_refl _) _
 generalize w3.alloc (.cells (arrU (fun _ => 0) 30) 143) = w4 at *
 rw [s1] at b2
 rw [s2, s1] at b3
 rw [s3, s2, s1] at b4
 exact ⟨(d4.block _ (by omega)).trans ((d3.block _ (by omega)).trans ((d2.block _ (by omega)).trans b1)), (d4.block _ (by omega)).trans ((d3.block _ (by omega)).trans b2), (d4.block _ (by omega)).trans b3, b4,
  ((d1.trans (d2.mono (by omega))).trans (d3.mono (by omega))).trans (d4.mono (by omega)), by omega⟩
theorem results_cells2 {P : Program} {fn : Func} {p q : Tmp} {ty uy : TypeId} (h : fn.results = #[.cell p ty, .cell q uy]) (tmps : Array Value) (w : World) (g g2 : Nat) (t t2 : TypeId) (cs cs2 : Array Value) (fr fr2 : Nat × Nat) (d d2 : TypeDesc)
  (hp : tmps.getD p undef = .pointer (some ⟨g, 0, none⟩)) (hg : w.heap[g]? = some (.cells cs t fr)) (hu : P.underlying ty = some d) (hd : (match d with | .struct _ | .array _ _ => true | _ => false) = true) (hi : (P.info? ty).map (·.size) = some cs.size)
  (hp2 : tmps.getD q undef = .pointer (some ⟨g2, 0, none⟩)) (hg2 : w.heap[g2]? = some (.cells cs2 t2 fr2)) (hu2 : P.underlying uy = some d2) (hd2 : (match d2 with | .struct _ | .array _ _ => true | _ => false) = true) (hi2 : (P.info? uy).map (·.size) = some cs2.size) :
  (results fn tmps).run P w = .ok (.tuple #[.agg cs, .agg cs2]) w := by
 have hp' : tmps[p]?.getD undef = .pointer (some ⟨g, 0, none⟩) := by simpa using hp
 have hq' : tmps[q]?.getD undef = .pointer (some ⟨g2, 0, none⟩) := by simpa using hp2
 simp [results, h, hp', hq', asAddr, run_loadVar_row w g t ty cs fr d hg hu hd hi, run_loadVar_row w g2 t2 uy cs2 fr2 d2 hg2 hu2 hd2 hi2, Result.andThen]
theorem step_load_row {P : Program} {ops : Array Oper} {o : Oper} {a : Act} {w : World} {K : Act → World → Prop} {Q : Exit → Act → World → Prop} {E : Prop} (hgd : o.guard = none) (ty : TypeId) (x : Operand) (ho : o.op = .load ty x)
  (g : Nat) (hx : a.eval x = .pointer (some ⟨g, 0, none⟩)) (t : TypeId) (cs : Array Value) (fr : Nat × Nat) (d : TypeDesc) (hg : w.heap[g]? = some (.cells cs t fr))
  (hu : P.underlying ty = some d) (hd : (match d with | .struct _ | .array _ _ => true | _ => false) = true) (hi : (P.info? ty).map (·.size) = some cs.size)
  (h : K (a.put o.dst (.agg cs)) w) : if Region.wanted o (yielded ops a.tmps) = true then Oper.wp P o a w K Q else E := by
 rw [if_pos (by simp [Region.wanted, hgd])]
 exact wp_load_row ty x ho g hx t cs fr d hg hu hd hi h
theorem step_store_row {P : Program} {ops : Array Oper} {o : Oper} {a : Act} {w : World} {K : Act → World → Prop} {Q : Exit → Act → World → Prop} {E : Prop} (hgd : o.guard = none) (ty : TypeId) (x y : Operand) (ho : o.op = .store ty x y)
  (g : Nat) (cells : Array Value) (hx : a.eval x = .pointer (some ⟨g, 0, none⟩)) (hy : a.eval y = .agg cells) (t : TypeId) (old : Array Value) (hg : w.heap[g]? = some (.cells old t (0, 0))) (hi : (P.info? ty).map (·.size) = some cells.size)
  (hold : old.size = cells.size) (h1 : cells.all (·.oneCell') = true) (h : K (a.put o.dst undef) (w.setRow g cells)) : if Region.wanted o (yielded ops a.tmps) = true then Oper.wp P o a w K Q else E := by
 rw [if_pos (by simp [Region.wanted, hgd])]
 exact wp_store_row ty x y ho g cells hx hy t old hg hi hold h1 h
set_option maxHeartbeats 8000000 in
theorem counts_any (A : Option Addr) (n cap : Nat) (f : Nat → Tok) (w : World) (hT : Toks w A n f) (hn : n ≤ 100000) :
  Calls Tryz.prog 87 #[.slice A n cap] w fun e w' => e = .returned (.tuple #[.agg (arrU (cA f n) 286), .agg (arrU (cB f n) 30)]) ∧ Below w.heap.size w w' := by
 have hz1 := zeroA286
 have hz2 := zeroA30
 have hit := info_tok
 have HT := Lib.hid hT
 have HSTA := Lib.hid (CSt.start w (fun _ => 0))
 have HST1 := Lib.hid (CSt.start w (fun p => if p = 256 then 1 else 0))
 clear hT
 go_enter Tryz.func87, Tryz.ntmps87
 have c256 := (cell_of_row _ _ 256 _ _ _ HSTA.out.2.2.1).trans (arrU_get (fun _ => 0) 286 256 (by omega))
 have f256 := frozen_of_row _ _ 256 _ _ HSTA.out.2.2.1
 go_wp2_with fail
 rw [show (arrU (fun _ => 0) 286).setIfInBounds 256 (Value.int .u32 1) = arrU (fun p => if p = 256 then 1 else 0) 286 from arrU_set (fun _ => 0) 286 256 1]
 clear c256 f256 HSTA hz1 hz2
 generalize (((w.alloc (.cells (arrU (fun _ => 0) 286) 142)).alloc (.cells (arrU (fun _ => 0) 30) 143)).alloc (.cells (arrU (fun p => if p = 256 then 1 else 0) 286) 142)).alloc (.cells (arrU (fun _ => 0) 30) 143) = w5 at *
 go_loopw [17] (fun i wr => ∃ k : Nat, k ≤ n ∧ i = .int .i64 (k : Nat) ∧ Hid (CSt w wr (cA f k) (cB f k))) (fun i _ => n - (intOf i).toNat)
 case atStart => exact ⟨0, Nat.zero_le _, rfl, HST1⟩
 case round =>
  obtain ⟨k, hk, rfl, HC⟩ := hrel
  by_cases hkn : k < n
  ·obtain ⟨b, off, rfl, hbl, hc⟩ := (HT.out.below (Nat.le_refl _) HC.out.2.2.2.2.1) (by omega)
   obtain ⟨hok, c0, c1, c2⟩ := hc k hkn
   have HRT := Lib.hid (right_any (f k))
   have HCA := Lib.hid (show cA f (k + 1) = if rightT (f k) = true then (if (f k).l = 0 then bump (cA f k) (f k).b else bump (cA f k) (lsg (f k).l.toNat)) else cA f k from rfl)
   have HCB := Lib.hid (show cB f (k + 1) = if rightT (f k) = true then (if (f k).l = 0 then cB f k else bump (cB f k) (dsg (f k).d.toNat)) else cB f k from rfl)
   have hAle := cA_le f k
   have hBle := cB_le f k
   have hbx := heap_alloc_new wr (.cells #[.int .u8 ((f k).b : Nat), .int .i64 (f k).l, .int .i64 (f k).d] 76)
   have HBX := Lib.hid hbx
   have HC4 := Lib.hid (HC.out.later ((Below.refl _ _).alloc (Nat.le_refl _) (.cells #[.int .u8 ((f k).b : Nat), .int .i64 (f k).l, .int .i64 (f k).d] 76)))
   have HSZ : Hid ((wr.alloc (.cells #[.int .u8 ((f k).b : Nat), .int .i64 (f k).l, .int .i64 (f k).d] 76)).heap.size = wr.heap.size + 1) := by show _ = _; simp
   have HWS : Hid (w.heap.size + 4 ≤ wr.heap.size) := HC.out.2.2.2.2.2
   have hrc := fun h => right_copy (t := f k) h
   clear hc hbx
   generalize hA1 : cA f (k + 1) = A1 at *
   generalize hB1 : cB f (k + 1) = B1 at *
   have HA1 := Lib.hid hA1
   have HB1 := Lib.hid hB1
   clear hA1 hB1
   generalize cA f k = A0 at *
   generalize cB f k = B0 at *
   generalize f k = U at *
   generalize hrt : rightT U = r at *
   have HRTT := Lib.hid hrt
   clear hrt
   obtain ⟨tb, tl, td⟩ := U
   unfold valT at HRT
   dsimp only at *
   have htb := hok.1
   clear hok
   go_wp2_with fail
   generalize wr.alloc (.cells #[.int .u8 (tb : Nat), .int .i64 tl, .int .i64 td] 76) = w6 at *
   refine (HRT.out _).mono ?_; rintro e w7 ⟨rfl, hb7⟩
   have HC7 := Lib.hid (HC4.out.later hb7)
   have hx7 := (hb7.block wr.heap.size (by have := HSZ.out; omega)).trans HBX.out
   have k0 := (cell_of_row _ _ 0 _ _ _ hx7).trans (show _ = some (Value.int .u8 (tb : Nat)) from rfl)
   have k1 := (cell_of_row _ _ 1 _ _ _ hx7).trans (show _ = some (Value.int .i64 tl) from rfl)
   have k2 := (cell_of_row _ _ 2 _ _ _ hx7).trans (show _ = some (Value.int .i64 td) from rfl)
   have HSW : Hid (wr.heap.size + 1 ≤ w7.heap.size) := by show _ ≤ _; have h1 := HSZ.out; have h2 := hb7.size; omega
   clear hb7 hx7 HBX
   cases r with
   | false =>
    have HA2 : Hid (A1 = A0) := HCA.out.trans (if_neg (by simp))
    have HB2 : Hid (B1 = B0) := HCB.out.trans (if_neg (by simp))
    go_wp2_with fail
    go_roundw
    case rel => exact ⟨k + 1, by omega, by go_num, by rw [HA1.out, HB1.out, HA2.out, HB2.out]; exact HC7⟩
    case measure => simp [intOf]; omega
   | true =>
    have hA3 := HCA.out.trans (if_pos rfl)
    have hB3 := HCB.out.trans (if_pos rfl)
    by_cases hl0 : tl = 0
    ·subst hl0
     have HA4 : Hid (A1 = bump A0 tb) := hA3.trans (if_pos rfl)
     have HB4 : Hid (B1 = B0) := hB3.trans (if_pos rfl)
     have a1 := (cell_of_row _ _ tb _ _ _ HC7.out.2.2.1).trans (arrU_get A0 286 tb (by omega))
     have af := frozen_of_row _ _ tb _ _ HC7.out.2.2.1
     have hsum : ((A0 tb : Nat) : Int) + 1 = ((A0 tb + 1 : Nat) : Int) := by omega
     have ha0 := hAle tb
     have HNX : Hid (CSt w (w7.setCell ⟨w.heap.size + 1 + 1, tb, none⟩ (.int .u32 ((A0 tb + 1 : Nat) : Int))) (bump A0 tb) B0) := HC7.out.setA tb (A0 tb + 1)
     have hwu : IntKind.u32.wrap ((A0 tb + 1 : Nat) : Int) = ((A0 tb + 1 : Nat) : Int) := by rw [IntKind.wrap_u32]; omega
     have hin : tb < 286 := by omega
     clear hA3 hB3 hrc
     generalize A0 tb + 1 = v1 at *
     generalize A0 tb = v0 at *
     go_wp2_with fail
     go_roundw
     case rel =>
      refine ⟨k + 1, by omega, by go_num, ?_⟩
      rw [HA1.out, HB1.out, HA4.out, HB4.out]
      exact HNX
     case measure => simp [intOf]; omega
    ·obtain ⟨_, h3, h4, h5, h6⟩ := hrc rfl hl0
     obtain ⟨l, rfl⟩ : ∃ m : Nat, tl = (m : Nat) := ⟨tl.toNat, by omega⟩
     obtain ⟨d, rfl⟩ : ∃ m : Nat, td = (m : Nat) := ⟨td.toNat, by omega⟩
     have HA4 : Hid (A1 = bump A0 (lsg l)) := hA3.trans (if_neg hl0)
     have HB4 : Hid (B1 = bump B0 (dsg d)) := hB3.trans (if_neg hl0)
     have hlb := (lsg_ok l (by omega) (by omega)).2.1
     have hdb := (dsg_ok d (by omega) (by omega)).1
     have hLL := blen_any (l : Int) w7
     rw [lenT_in l (by omega)] at hLL
     have hDD := fun W => bdist_any (d : Int) W
     simp only [dstT_in d (by omega)] at hDD
     have HLL := Lib.hid hLL
     have HDD := Lib.hid hDD
     generalize lsg l = x at *
     generalize dsg d = y at *
     have hz : ((l : Int) == 0) = false := by rw [beq_eq_false_iff_ne]; omega
     have hxl : x < 286 := by omega
     have hyl : y < 30 := by omega
     have a1 := (cell_of_row _ _ x _ _ _ HC7.out.2.2.1).trans (arrU_get A0 286 x hxl)
     have af := frozen_of_row _ _ x _ _ HC7.out.2.2.1
     have b1 := (cell_of_row _ _ y _ _ _ HC7.out.2.2.2.1).trans (arrU_get B0 30 y hyl)
     have bf := frozen_of_row _ _ y _ _ HC7.out.2.2.2.1
     have ha0 := hAle x
     have hb0 := hBle y
     have hwu : IntKind.u32.wrap ((A0 x + 1 : Nat) : Int) = ((A0 x + 1 : Nat) : Int) := by rw [IntKind.wrap_u32]; omega
     have hwv : IntKind.u32.wrap ((B0 y + 1 : Nat) : Int) = ((B0 y + 1 : Nat) : Int) := by rw [IntKind.wrap_u32]; omega
     have HNX : Hid (CSt w ((w7.setCell ⟨w.heap.size + 1 + 1, x, none⟩ (.int .u32 ((A0 x + 1 : Nat) : Int))).setCell ⟨w.heap.size + 1 + 1 + 1, y, none⟩ (.int .u32 ((B0 y + 1 : Nat) : Int))) (bump A0 x) (bump B0 y)) := (HC7.out.setA x (A0 x + 1)).setB y (B0 y + 1)
     clear hA3 hB3 hrc h3 h4 h5 h6 hLL hDD hl0
     go_wp2_with fail
     refine (HLL.out).mono ?_; rintro e w8 ⟨rfl, rfl⟩
     go_wp2_with fail
     refine (HDD.out _).mono ?_; rintro e w8 ⟨rfl, rfl⟩
     go_wp2_with fail
     go_roundw
     case rel =>
      refine ⟨k + 1, by omega, by go_num, ?_⟩
      rw [HA1.out, HB1.out, HA4.out, HB4.out]
      exact HNX
     case measure => simp [intOf]; omega
  ·obtain rfl : k = n := by omega
   go_wp2_with fail
   refine wp_region_any (by kernel_rfl) ?_
   change wpAny _ _ _ _ _ _ _ wr.drew
   have HA0 : Hid (wr.drew.heap[w.heap.size + 1 + 1]? = some (.cells (arrU (cA f k) 286) 142 (0, 0))) := HC.out.2.2.1
   have HB0 : Hid (wr.drew.heap[w.heap.size + 1 + 1 + 1]? = some (.cells (arrU (cB f k) 30) 143 (0, 0))) := HC.out.2.2.2.1
   have HZ0 : Hid (wr.drew.heap[w.heap.size]? = some (.cells (arrU (fun _ => 0) 286) 142 (0, 0))) := HC.out.1
   have HZ1 : Hid (wr.drew.heap[w.heap.size + 1]? = some (.cells (arrU (fun _ => 0) 30) 143 (0, 0))) := HC.out.2.1
   have HSB : Hid ((wr.drew.setRow w.heap.size (arrU (cA f k) 286)).heap[w.heap.size + 1 + 1 + 1]? = some (.cells (arrU (cB f k) 30) 143 (0, 0))) := (setRow_other _ _ _ _ (by omega)).trans HB0.out
   have HSZ : Hid ((wr.drew.setRow w.heap.size (arrU (cA f k) 286)).heap[w.heap.size + 1]? = some (.cells (arrU (fun _ => 0) 30) 143 (0, 0))) := (setRow_other _ _ _ _ (by omega)).trans HZ1.out
   have HR1 : Hid (((wr.drew.setRow w.heap.size (arrU (cA f k) 286)).setRow (w.heap.size + 1) (arrU (cB f k) 30)).heap[w.heap.size]? = some (.cells (arrU (cA f k) 286) 142 (0, 0))) := (setRow_other _ _ _ _ (by omega)).trans (setRow_heap _ _ _ _ _ _ HZ0.out)
   have HR2 : Hid (((wr.drew.setRow w.heap.size (arrU (cA f k) 286)).setRow (w.heap.size + 1) (arrU (cB f k) 30)).heap[w.heap.size + 1]? = some (.cells (arrU (cB f k) 30) 143 (0, 0))) := setRow_heap _ _ _ _ _ _ HSZ.out
   have HRB : Hid (Below w.heap.size w ((wr.drew.setRow w.heap.size (arrU (cA f k) 286)).setRow (w.heap.size + 1) (arrU (cB f k) 30))) := below_setRow (below_setRow HC.out.2.2.2.2.1.drew (Nat.le_refl _) _) (Nat.le_succ _) _
   refine wpAny_ready (rs := [0, 1]) (by kernel_rfl) (by simp) ?_
   refine AllReady.cons rfl (fun K hK => ?_) (AllReady.cons rfl (fun K hK => ?_) AllReady.nil)
   ·refine step_load_row rfl 142 (.tmp 4) rfl (w.heap.size + 1 + 1) rfl 142 (arrU (cA f k) 286) (0, 0) _ HA0.out Tryz.underlying142 rfl (infoA286 _) ?_
    refine hK _ _ ?_; clear hK K
    refine wpAny_ready (rs := [1, 2]) (by kernel_rfl) (by simp) ?_
    refine AllReady.cons rfl (fun K hK => ?_) (AllReady.cons rfl (fun K hK => ?_) AllReady.nil)
    ·refine step_load_row rfl 143 (.tmp 5) rfl (w.heap.size + 1 + 1 + 1) rfl 143 (arrU (cB f k) 30) (0, 0) _ HB0.out Tryz.underlying143 rfl (infoA30 _) ?_
     refine hK _ _ ?_; clear hK K
     refine wpAny_ready (rs := [2]) (by kernel_rfl) (by simp) ?_
     refine AllReady.cons rfl (fun K hK => ?_) AllReady.nil
     refine step_store_row rfl 142 (.tmp 2) (.tmp 60) rfl w.heap.size (arrU (cA f k) 286) rfl rfl 142 (arrU (fun _ => 0) 286) HZ0.out (infoA286 _) (by rw [arrU_size, arrU_size]) (arrU_one _ _) ?_
     refine hK _ _ ?_; clear hK K
     refine wpAny_ready (rs := [3]) (by kernel_rfl) (by simp) ?_
     refine AllReady.cons rfl (fun K hK => ?_) AllReady.nil
     refine step_store_row rfl 143 (.tmp 3) (.tmp 61) rfl (w.heap.size + 1) (arrU (cB f k) 30) rfl rfl 143 (arrU (fun _ => 0) 30) HSZ.out (infoA30 _) (by rw [arrU_size, arrU_size]) (arrU_one _ _) ?_
     refine hK _ _ ?_; clear hK K
     refine wpAny_done (by kernel_rfl) ?_ _
     go_wp2
     exact bodyPost_ret (results_cells2 rfl _ _ w.heap.size (w.heap.size + 1) 142 143 (arrU (cA f k) 286) (arrU (cB f k) 30) (0, 0) (0, 0) _ _ rfl HR1.out Tryz.underlying142 rfl (infoA286 _) rfl HR2.out Tryz.underlying143 rfl (infoA30 _)) rfl ⟨rfl, HRB.out⟩
    ·refine step_store_row rfl 142 (.tmp 2) (.tmp 60) rfl w.heap.size (arrU (cA f k) 286) rfl rfl 142 (arrU (fun _ => 0) 286) HZ0.out (infoA286 _) (by rw [arrU_size, arrU_size]) (arrU_one _ _) ?_
     refine hK _ _ ?_; clear hK K
     refine wpAny_ready (rs := [1]) (by kernel_rfl) (by simp) ?_
     refine AllReady.cons rfl (fun K hK => ?_) AllReady.nil
     refine step_load_row rfl 143 (.tmp 5) rfl (w.heap.size + 1 + 1 + 1) rfl 143 (arrU (cB f k) 30) (0, 0) _ HSB.out Tryz.underlying143 rfl (infoA30 _) ?_
     refine hK _ _ ?_; clear hK K
     refine wpAny_ready (rs := [3]) (by kernel_rfl) (by simp) ?_
     refine AllReady.cons rfl (fun K hK => ?_) AllReady.nil
     refine step_store_row rfl 143 (.tmp 3) (.tmp 61) rfl (w.heap.size + 1) (arrU (cB f k) 30) rfl rfl 143 (arrU (fun _ => 0) 30) HSZ.out (infoA30 _) (by rw [arrU_size, arrU_size]) (arrU_one _ _) ?_
     refine hK _ _ ?_; clear hK K
     refine wpAny_done (by kernel_rfl) ?_ _
     go_wp2
     exact bodyPost_ret (results_cells2 rfl _ _ w.heap.size (w.heap.size + 1) 142 143 (arrU (cA f k) 286) (arrU (cB f k) 30) (0, 0) (0, 0) _ _ rfl HR1.out Tryz.underlying142 rfl (infoA286 _) rfl HR2.out Tryz.underlying143 rfl (infoA30 _)) rfl ⟨rfl, HRB.out⟩
   ·refine step_load_row rfl 143 (.tmp 5) rfl (w.heap.size + 1 + 1 + 1) rfl 143 (arrU (cB f k) 30) (0, 0) _ HB0.out Tryz.underlying143 rfl (infoA30 _) ?_
    refine hK _ _ ?_; clear hK K
    refine wpAny_ready (rs := [0]) (by kernel_rfl) (by simp) ?_
    refine AllReady.cons rfl (fun K hK => ?_) AllReady.nil
    refine step_load_row rfl 142 (.tmp 4) rfl (w.heap.size + 1 + 1) rfl 142 (arrU (cA f k) 286) (0, 0) _ HA0.out Tryz.underlying142 rfl (infoA286 _) ?_
    refine hK _ _ ?_; clear hK K
    refine wpAny_ready (rs := [2]) (by kernel_rfl) (by simp) ?_
    refine AllReady.cons rfl (fun K hK => ?_) AllReady.nil
    refine step_store_row rfl 142 (.tmp 2) (.tmp 60) rfl w.heap.size (arrU (cA f k) 286) rfl rfl 142 (arrU (fun _ => 0) 286) HZ0.out (infoA286 _) (by rw [arrU_size, arrU_size]) (arrU_one _ _) ?_
    refine hK _ _ ?_; clear hK K
    refine wpAny_ready (rs := [3]) (by kernel_rfl) (by simp) ?_
    refine AllReady.cons rfl (fun K hK => ?_) AllReady.nil
    refine step_store_row rfl 143 (.tmp 3) (.tmp 61) rfl (w.heap.size + 1) (arrU (cB f k) 30) rfl rfl 143 (arrU (fun _ => 0) 30) HSZ.out (infoA30 _) (by rw [arrU_size, arrU_size]) (arrU_one _ _) ?_
    refine hK _ _ ?_; clear hK K
    refine wpAny_done (by kernel_rfl) ?_ _
    go_wp2
    exact bodyPost_ret (results_cells2 rfl _ _ w.heap.size (w.heap.size + 1) 142 143 (arrU (cA f k) 286) (arrU (cB f k) 30) (0, 0) (0, 0) _ _ rfl HR1.out Tryz.underlying142 rfl (infoA286 _) rfl HR2.out Tryz.underlying143 rfl (infoA30 _)) rfl ⟨rfl, HRB.out⟩
end Go.Proofs.YtmkeicfklbepnaaGreat
