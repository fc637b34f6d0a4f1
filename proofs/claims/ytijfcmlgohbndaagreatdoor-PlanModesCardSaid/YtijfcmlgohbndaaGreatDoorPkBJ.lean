/-
  Compare: what an entry is to an item.
  Filter: Make, matched, Takes.
  Plan: what patterns mean; the fate of an entry.
  Plan: the chapter's example, second half: what is added; one item is at odds with none; Make.
-/
import Derived.Test.YtijfcmlgohbndaaGreatDoorPkBI
import Derived.Test.YtijfcmlgohbndaaGreatDoorPkBD

namespace Go.Proofs.YtijfcmlgohbndaaGreatDoor
set_option maxRecDepth 100000
set_option linter.unusedSimpArgs false
set_option linter.unusedVariables false
open Go.RowKit Go.Joins Go.Deep
open Go.Lib hiding intOf
theorem info_traits : (Tryz.prog.info? 129).map (·.size) = some 4 := by kernel_rfl
theorem below_two (w : World) (a b : Obj) : Below w.heap.size w ((w.alloc a).alloc b) := below_thenE (below_alP w a) (below_alP (w.alloc a) b)
theorem size_one' (w : World) (a : Obj) : (w.alloc a).heap.size = w.heap.size + 1 := by simp only [World.alloc, Array.size_push]
theorem two_first (w : World) (a b : Obj) : ((w.alloc a).alloc b).heap[w.heap.size]? = some a := ((below_alP (w.alloc a) b).block _ (lt_of_heapP (heap_alloc_new w a))).trans (heap_alloc_new w a)
theorem two_second (w : World) (a b : Obj) : ((w.alloc a).alloc b).heap[w.heap.size + 1]? = some b := by rw [← size_one' w a]; exact heap_alloc_new _ b
def trC (p : ByteArray) (k : Int) (s : Int) (t : Int) : Array Value := #[.string p, .int .i64 k, .int .u64 s, .int .i64 t]
set_option maxHeartbeats 8000000 in
theorem entTraits_any (E : Ent) (hE : EntOk E) (hnm : E.nm.size ≤ 100000) (w : World) (hU : Upper w) (hEn : Env w) :
    Calls Tryz.prog 52 #[.agg E.cells] w fun e w' => e = .returned (.tuple #[.agg (trC (metV E).p (metV E).k (E.size : Nat) (metV E).t), .int .i64 (metV E).z]) ∧ Below w.heap.size w w' := by
  obtain ⟨w1, hw1⟩ : ∃ w1, w1 = (w.alloc (.cells E.cells 51)).alloc (.cells #[.string ⟨#[]⟩, .int .i64 0, .int .u64 0, .int .i64 0] 129) := ⟨_, rfl⟩
  have HB1 : Hid (Below w.heap.size w w1) := by show Below _ _ _; rw [hw1]; exact below_two _ _ _
  have HX1 : Hid (w1.heap[w.heap.size]? = some (.cells E.cells 51 (0, 0))) := by show _ = _; rw [hw1]; exact two_first _ _ _
  have HT1 : Hid (w1.heap[w.heap.size + 1]? = some (.cells #[.string ⟨#[]⟩, .int .i64 0, .int .u64 0, .int .i64 0] 129 (0, 0))) := by show _ = _; rw [hw1]; exact two_second _ _ _
  have HME := Lib.hid (meta_any E hE hnm w1 (hU.below HB1.out) (hEn.below HB1.out))
  have HW1 := Lib.hid hw1
  clear hw1 hU hEn
  have hEs : E.cells[8]? = some (.int .u64 (E.size : Nat)) := rfl
  have HIE : Hid ((Tryz.prog.info? 51).map (·.size) = some E.cells.size) := info_entE
  generalize E.cells = EC at *
  generalize metV E = M at *
  go_enter Tryz.func52, Tryz.ntmps52
  go_upto_region 1 with fail
  rw [← HW1.out]
  clear HW1
  go_wp2_with (refine wpList_load_row rfl 51 (.tmp 1) rfl w.heap.size rfl 51 _ (0, 0) _ HX1.out Tryz.underlying51 rfl HIE.out ?_)
  refine HME.out.mono ?_; rintro e w2 ⟨rfl, hb2⟩
  unfold MeT.val
  obtain ⟨mp, mk, mm, mu, mg, mt, ma, mz⟩ := M
  dsimp only
  obtain ⟨w3, hw3⟩ : ∃ w3, w3 = w2.alloc (.cells #[.int .i64 mk, .int .u32 mm, .int .u32 mu, .int .u32 mg, .int .i64 mt, .int .i64 ma, .string ⟨#[]⟩] 45) := ⟨_, rfl⟩
  have hb3 : Below w2.heap.size w2 w3 := by rw [hw3]; exact below_alP w2 _
  have hn3 : w3.heap[w2.heap.size]? = some (.cells #[.int .i64 mk, .int .u32 mm, .int .u32 mu, .int .u32 mg, .int .i64 mt, .int .i64 ma, .string ⟨#[]⟩] 45 (0, 0)) := by rw [hw3]; exact heap_alloc_new w2 _
  have hb13 := below_thenE hb2 hb3
  have HB3 := Lib.hid (below_thenE HB1.out hb13)
  have hx3 := (hb13.block _ (lt_of_heapP HX1.out)).trans HX1.out
  have HT3 := Lib.hid ((hb13.block _ (lt_of_heapP HT1.out)).trans HT1.out)
  have y0 := (cell_of_row _ _ 0 _ _ _ hn3).trans (show _ = some (Value.int .i64 mk) from rfl)
  have y4 := (cell_of_row _ _ 4 _ _ _ hn3).trans (show _ = some (Value.int .i64 mt) from rfl)
  have x8 := (cell_of_row _ _ 8 _ _ _ hx3).trans hEs
  have HW3 := Lib.hid hw3
  clear hb2 hb3 hb13 hn3 hx3 hw3 HX1 HT1 HME HB1 hEs
  go_upto_region 2 with fail
  rw [← HW3.out]
  clear HW3
  generalize w2.heap.size = gn at *
  go_wp2_with (refine wpList_store_row rfl 129 (.tmp 2) (.tmp 20) rfl (w.heap.size + 1) (trC mp mk (E.size : Nat) mt) rfl rfl 129 _ HT3.out info_traits rfl (by simp [trC, Value.oneCell']) ?_)
  have HY := Lib.hid (setRow_heap _ _ _ (trC mp mk (E.size : Nat) mt) _ _ HT3.out)
  refine bodyPost_ret (results_ct_rowF rfl _ _ (w.heap.size + 1) 129 _ (0, 0) _ rfl HY.out Tryz.underlying129 rfl info_traits) rfl ⟨rfl, ?_⟩
  exact below_setRow HB3.out (Nat.le_succ _) _
set_option maxHeartbeats 8000000 in
theorem itmTraits_any (X : Itm) (hd : X.d.size ≤ 9223372036854775807) (w : World) :
    Calls Tryz.prog 53 #[.agg X.cells] w fun e w' => e = .returned (.agg (trC X.s X.k (X.d.size : Nat) X.t)) ∧ Below w.heap.size w w' := by
  obtain ⟨w1, hw1⟩ : ∃ w1, w1 = (w.alloc (.cells X.cells 47)).alloc (.cells #[.string ⟨#[]⟩, .int .i64 0, .int .u64 0, .int .i64 0] 129) := ⟨_, rfl⟩
  have HB1 : Hid (Below w.heap.size w w1) := by show Below _ _ _; rw [hw1]; exact below_two _ _ _
  have HX1 : Hid (w1.heap[w.heap.size]? = some (.cells X.cells 47 (0, 0))) := by show _ = _; rw [hw1]; exact two_first _ _ _
  have HT1 : Hid (w1.heap[w.heap.size + 1]? = some (.cells #[.string ⟨#[]⟩, .int .i64 0, .int .u64 0, .int .i64 0] 129 (0, 0))) := by show _ = _; rw [hw1]; exact two_second _ _ _
  obtain ⟨x0, x1, x2, x3, x4, x5, x6, x7⟩ := item_boxP HX1.out
  have hwr : IntKind.u64.wrap ((X.d.size : Nat) : Int) = ((X.d.size : Nat) : Int) := by rw [IntKind.wrap_u64]; omega
  simp only [Itm.cells] at hw1 ⊢
  have HW1 := Lib.hid hw1
  clear hw1 HX1
  go_enter Tryz.func53, Tryz.ntmps53
  go_upto_region 1 with fail
  rw [← HW1.out]
  clear HW1
  go_wp2_with (refine wpList_store_row rfl 129 (.tmp 2) (.tmp 16) rfl (w.heap.size + 1) (trC X.s X.k (X.d.size : Nat) X.t) rfl rfl 129 _ HT1.out info_traits rfl (by simp [trC, Value.oneCell']) ?_)
  have HY := Lib.hid (setRow_heap _ _ _ (trC X.s X.k (X.d.size : Nat) X.t) _ _ HT1.out)
  refine bodyPost_ret (results_cell_row rfl _ _ (w.heap.size + 1) 129 _ (0, 0) _ rfl HY.out Tryz.underlying129 rfl info_traits) rfl ⟨rfl, ?_⟩
  exact below_setRow HB1.out (Nat.le_succ _) _
/-- What an entry is to an item, and an error. -/
noncomputable def cmpV (E : Ent) (X : Itm) : Int × Int :=
  if (metV E).z = 0 then
    (if (metV E).p = X.s then
      (if (metV E).k = X.k ∧ E.size = X.d.size ∧ (metV E).t = X.t then (1, 0)
      else if (metV E).t < X.t then (2, 0) else if X.t < (metV E).t then (3, 0) else (4, 0))
    else (0, 0))
  else (0, (metV E).z)
theorem cmpV_rng (E : Ent) (X : Itm) : 0 ≤ (cmpV E X).1 ∧ (cmpV E X).1 ≤ 4 := by
  unfold cmpV
  repeat' split
  all_goals (constructor <;> simp)
set_option maxHeartbeats 8000000 in
theorem compare_any (E : Ent) (X : Itm) (hE : EntOk E) (hnm : E.nm.size ≤ 100000) (hd : X.d.size ≤ 9223372036854775807) (w : World) (hU : Upper w) (hEn : Env w) :
    Calls Tryz.prog 33 #[.agg E.cells, .agg X.cells] w fun e w' => e = .returned (.tuple #[.int .i64 (cmpV E X).1, .int .i64 (cmpV E X).2]) ∧ Below w.heap.size w w' := by
  obtain ⟨w1, hw1⟩ : ∃ w1, w1 = (w.alloc (.cells E.cells 51)).alloc (.cells X.cells 47) := ⟨_, rfl⟩
  have HB1 : Hid (Below w.heap.size w w1) := by show Below _ _ _; rw [hw1]; exact below_two _ _ _
  have HX1 : Hid (w1.heap[w.heap.size]? = some (.cells E.cells 51 (0, 0))) := by show _ = _; rw [hw1]; exact two_first _ _ _
  have HI1 : Hid (w1.heap[w.heap.size + 1]? = some (.cells X.cells 47 (0, 0))) := by show _ = _; rw [hw1]; exact two_second _ _ _
  have HME := Lib.hid (entTraits_any E hE hnm w1 (hU.below HB1.out) (hEn.below HB1.out))
  have HIT := Lib.hid (fun w2 => itmTraits_any X hd w2)
  have HIE : Hid ((Tryz.prog.info? 51).map (·.size) = some E.cells.size) := info_entE
  have HIX : Hid ((Tryz.prog.info? 47).map (·.size) = some X.cells.size) := info_item
  obtain ⟨V, hV⟩ : ∃ V, V = cmpV E X := ⟨_, rfl⟩
  rw [← hV]
  unfold cmpV at hV
  have HV := Lib.hid hV
  have HW1 := Lib.hid hw1
  clear hw1 hU hEn hV
  generalize metV E = M at *
  obtain ⟨mp, mk, mm, mu, mg, mt, ma, mz⟩ := M
  generalize E.cells = EC at *
  generalize X.cells = XC at *
  obtain ⟨xs, xk, xm, xu, xg, xt, xa, xd⟩ := X
  dsimp only at HV HME HIT
  generalize E.size = es at *
  generalize xd.size = ds at *
  go_enter Tryz.func33, Tryz.ntmps33
  go_upto_region 1 with fail
  rw [← HW1.out]
  clear HW1
  go_wp2_with (refine wpList_load_row rfl 51 (.tmp 2) rfl w.heap.size rfl 51 _ (0, 0) _ HX1.out Tryz.underlying51 rfl HIE.out ?_)
  refine HME.out.mono ?_; rintro e w2 ⟨rfl, hb2⟩
  obtain ⟨w3, hw3⟩ : ∃ w3, w3 = w2.alloc (.cells (trC mp mk (es : Nat) mt) 129) := ⟨_, rfl⟩
  have hb3 : Below w2.heap.size w2 w3 := by rw [hw3]; exact below_alP w2 _
  have hn3 : w3.heap[w2.heap.size]? = some (.cells (trC mp mk (es : Nat) mt) 129 (0, 0)) := by rw [hw3]; exact heap_alloc_new w2 _
  have hb13 := below_thenE hb2 hb3
  have HB3 := Lib.hid (below_thenE HB1.out hb13)
  have HT3 := Lib.hid hn3
  have HI3 := Lib.hid ((hb13.block _ (lt_of_heapP HI1.out)).trans HI1.out)
  unfold trC at hw3 ⊢
  have HW3 := Lib.hid hw3
  clear hb2 hb3 hb13 hn3 hw3 HX1 HI1 HME HB1
  by_cases hz : mz = 0
  case neg =>
    have bz : (mz != 0) = true := bne_iff_ne.2 hz
    have HVV : Hid (V = (0, mz)) := by show _ = _; rw [HV.out, if_neg hz]
    clear HV HIT
    go_wp2_with fail
    rw [← HW3.out]
    go_ret2
    rw [HVV.out]
    exact ⟨rfl, HB3.out⟩
  subst hz
  have HV2 : Hid (V = if mp = xs then (if mk = xk ∧ es = ds ∧ mt = xt then (1, 0) else if mt < xt then (2, 0) else if xt < mt then (3, 0) else (4, 0)) else (0, 0)) := by show _ = _; rw [HV.out, if_pos rfl]
  clear HV
  go_upto_region 4 with fail
  rw [← HW3.out]
  clear HW3
  generalize w2.heap.size = ga at *
  go_wp2_with (refine wpList_load_row rfl 47 (.tmp 3) rfl (w.heap.size + 1) rfl 47 _ (0, 0) _ HI3.out Tryz.underlying47 rfl HIX.out ?_)
  refine (HIT.out w3).mono ?_; rintro e w4 ⟨rfl, hb4⟩
  obtain ⟨w5, hw5⟩ : ∃ w5, w5 = w4.alloc (.cells (trC xs xk (ds : Nat) xt) 129) := ⟨_, rfl⟩
  have hb5 : Below w4.heap.size w4 w5 := by rw [hw5]; exact below_alP w4 _
  have hn5 : w5.heap[w4.heap.size]? = some (.cells (trC xs xk (ds : Nat) xt) 129 (0, 0)) := by rw [hw5]; exact heap_alloc_new w4 _
  have hb35 := below_thenE hb4 hb5
  have HB5 := Lib.hid (below_thenE HB3.out hb35)
  have HS5 := Lib.hid hn5
  have HT5 := Lib.hid ((hb35.block _ (lt_of_heapP HT3.out)).trans HT3.out)
  have a0 := (cell_of_row _ _ 0 _ _ _ HT5.out).trans (show _ = some (Value.string mp) from rfl)
  have a3 := (cell_of_row _ _ 3 _ _ _ HT5.out).trans (show _ = some (Value.int .i64 mt) from rfl)
  have b0 := (cell_of_row _ _ 0 _ _ _ HS5.out).trans (show _ = some (Value.string xs) from rfl)
  have b3 := (cell_of_row _ _ 3 _ _ _ HS5.out).trans (show _ = some (Value.int .i64 xt) from rfl)
  unfold trC at hw5 ⊢
  have HW5 := Lib.hid hw5
  clear hb4 hb5 hb35 hn5 hw5 HI3 HIT HB3 HT3
  go_upto_region 5 with fail
  rw [← HW5.out]
  clear HW5
  generalize w4.heap.size = gb at *
  by_cases hps : mp = xs
  case neg =>
    have hne : (mp.toList == xs.toList) = false := beq_eq_false_iff_ne.2 (fun h => hps (toListP_inj h))
    have HVV : Hid (V = (0, 0)) := by show _ = _; rw [HV2.out, if_neg hps]
    clear HV2
    go_wp2_with fail
    go_ret2
    rw [HVV.out]
    exact ⟨rfl, HB5.out⟩
  subst hps
  have hne : (mp.toList == mp.toList) = true := by simp
  have HV3 : Hid (V = if mk = xk ∧ es = ds ∧ mt = xt then (1, 0) else if mt < xt then (2, 0) else if xt < mt then (3, 0) else (4, 0)) := by show _ = _; rw [HV2.out, if_pos rfl]
  clear HV2
  have a1 := (cell_of_row _ _ 1 _ _ _ HT5.out).trans (show _ = some (Value.int .i64 mk) from rfl)
  have a2 := (cell_of_row _ _ 2 _ _ _ HT5.out).trans (show _ = some (Value.int .u64 (es : Nat)) from rfl)
  have b1 := (cell_of_row _ _ 1 _ _ _ HS5.out).trans (show _ = some (Value.int .i64 xk) from rfl)
  have b2 := (cell_of_row _ _ 2 _ _ _ HS5.out).trans (show _ = some (Value.int .u64 (ds : Nat)) from rfl)
  clear HT5 HS5
  by_cases h1 : mk = xk
  case neg =>
    have HV4 : Hid (V = if mt < xt then (2, 0) else if xt < mt then (3, 0) else (4, 0)) := by
      show _ = _
      rw [HV3.out, if_neg (fun k => h1 k.1)]
    clear HV3
    by_cases q2 : mt < xt
    · have d2 : decide (mt < xt) = true := decide_eq_true q2
      have HVV : Hid (V = (2, 0)) := by show _ = _; rw [HV4.out, if_pos q2]
      clear HV4
      go_wp2_with fail
      go_ret2
      rw [HVV.out]
      exact ⟨rfl, HB5.out⟩
    have d2 : decide (mt < xt) = false := decide_eq_false q2
    by_cases q3 : xt < mt
    · have d3 : decide (xt < mt) = true := decide_eq_true q3
      have HVV : Hid (V = (3, 0)) := by show _ = _; rw [HV4.out, if_neg q2, if_pos q3]
      clear HV4
      go_wp2_with fail
      go_ret2
      rw [HVV.out]
      exact ⟨rfl, HB5.out⟩
    have d3 : decide (xt < mt) = false := decide_eq_false q3
    have HVV : Hid (V = (4, 0)) := by show _ = _; rw [HV4.out, if_neg q2, if_neg q3]
    clear HV4
    go_wp2_with fail
    go_ret2
    rw [HVV.out]
    exact ⟨rfl, HB5.out⟩
  by_cases h2 : es = ds
  case neg =>
    have hes : ¬ ((es : Nat) : Int) = ((ds : Nat) : Int) := by omega
    have HV4 : Hid (V = if mt < xt then (2, 0) else if xt < mt then (3, 0) else (4, 0)) := by
      show _ = _
      rw [HV3.out, if_neg (fun k => h2 k.2.1)]
    clear HV3
    by_cases q2 : mt < xt
    · have d2 : decide (mt < xt) = true := decide_eq_true q2
      have HVV : Hid (V = (2, 0)) := by show _ = _; rw [HV4.out, if_pos q2]
      clear HV4
      go_wp2_with fail
      go_ret2
      rw [HVV.out]
      exact ⟨rfl, HB5.out⟩
    have d2 : decide (mt < xt) = false := decide_eq_false q2
    by_cases q3 : xt < mt
    · have d3 : decide (xt < mt) = true := decide_eq_true q3
      have HVV : Hid (V = (3, 0)) := by show _ = _; rw [HV4.out, if_neg q2, if_pos q3]
      clear HV4
      go_wp2_with fail
      go_ret2
      rw [HVV.out]
      exact ⟨rfl, HB5.out⟩
    have d3 : decide (xt < mt) = false := decide_eq_false q3
    have HVV : Hid (V = (4, 0)) := by show _ = _; rw [HV4.out, if_neg q2, if_neg q3]
    clear HV4
    go_wp2_with fail
    go_ret2
    rw [HVV.out]
    exact ⟨rfl, HB5.out⟩
  by_cases h3 : mt = xt
  case neg =>
    have HV4 : Hid (V = if mt < xt then (2, 0) else if xt < mt then (3, 0) else (4, 0)) := by
      show _ = _
      rw [HV3.out, if_neg (fun k => h3 k.2.2)]
    clear HV3
    by_cases q2 : mt < xt
    · have d2 : decide (mt < xt) = true := decide_eq_true q2
      have HVV : Hid (V = (2, 0)) := by show _ = _; rw [HV4.out, if_pos q2]
      clear HV4
      go_wp2_with fail
      go_ret2
      rw [HVV.out]
      exact ⟨rfl, HB5.out⟩
    have d2 : decide (mt < xt) = false := decide_eq_false q2
    by_cases q3 : xt < mt
    · have d3 : decide (xt < mt) = true := decide_eq_true q3
      have HVV : Hid (V = (3, 0)) := by show _ = _; rw [HV4.out, if_neg q2, if_pos q3]
      clear HV4
      go_wp2_with fail
      go_ret2
      rw [HVV.out]
      exact ⟨rfl, HB5.out⟩
    exfalso; omega
  have HVV : Hid (V = (1, 0)) := by show _ = _; rw [HV3.out, if_pos ⟨h1, h2, h3⟩]
  subst h1 h2 h3
  clear HV3
  go_wp2_with fail
  go_ret2
  rw [HVV.out]
  exact ⟨rfl, HB5.out⟩
end Go.Proofs.YtijfcmlgohbndaaGreatDoor

namespace Go.Proofs.YtijfcmlgohbndaaGreatDoor
set_option maxRecDepth 100000
set_option linter.unusedSimpArgs false
set_option linter.unusedVariables false
open Go.RowKit Go.Joins Go.Deep
open Go.Lib hiding intOf
theorem info_fil : (Tryz.prog.info? 31).map (·.size) = some 2 := by kernel_rfl
theorem zero_fil (w : World) : (zeroValue 31).run Tryz.prog w = .ok (.agg #[.slice none 0 0, .slice none 0 0]) w := by kernel_rfl
/-- A filter's value. -/
def FilV (w : World) (V : Value) (ins outs : List (List Atm)) : Prop := ∃ A1 c1 A2 c2, V = .agg #[.slice A1 ins.length c1, .slice A2 outs.length c2] ∧ PatR w A1 ins ∧ PatR w A2 outs ∧ ins.length ≤ c1 ∧ outs.length ≤ c2
theorem FilV.below {w w' : World} {V : Value} {ins outs : List (List Atm)} (h : FilV w V ins outs) (hb : Below w.heap.size w w') : FilV w' V ins outs := by
  obtain ⟨A1, c1, A2, c2, e, h1, h2, h3, h4⟩ := h
  exact ⟨A1, c1, A2, c2, e, h1.below hb, h2.below hb, h3, h4⟩
/-- Does one of some patterns match? -/
noncomputable def anyM (pats : List (List Atm)) (s : ByteArray) : Bool := pats.any fun p => mtB p (runesB s)
def slash (s : ByteArray) : ByteArray := s ++ ⟨#[47]⟩
noncomputable def mchM (pats : List (List Atm)) (s : ByteArray) (dir : Bool) : Bool := anyM pats s || (dir && anyM pats (slash s))
noncomputable def takM (ins outs : List (List Atm)) (s : ByteArray) (dir : Bool) : Bool := (decide (ins.length = 0) || mchM ins s dir) && !mchM outs s dir
/-- All is small. -/
def SmallP (pats : List (List Atm)) : Prop := pats.length ≤ 1000 ∧ ∀ p ∈ pats, p.length ≤ 1000000 ∧ ∀ x ∈ p, x.rs.length ≤ 1000000
theorem fany_any (A : Option Addr) (c : Nat) (pats : List (List Atm)) (s : ByteArray) (hs : s.size ≤ 1000000) (hp : SmallP pats) (w : World) (hR : PatR w A pats) (hT : Tabs w) :
    Calls Tryz.prog 104 #[.slice A pats.length c, .string s] w fun e w' => e = .returned (.bool (anyM pats s)) ∧ Below w.heap.size w w' := by
  by_cases h0 : pats.length = 0
  · obtain rfl : pats = [] := List.eq_nil_of_length_eq_zero h0
    have h := any_any (fun _ => True) (fun _ _ _ _ => trivial) s [] A c w (fun q hq => by cases hq) (by decide) (fun h => by cases h) trivial
    exact h
  · obtain ⟨b, cs, e, hb, hc⟩ := hR (by omega)
    have hV : ∀ i, i < pats.length → ∃ V, cs[i]? = some V ∧ ∀ p, pats[i]? = some p → PV w V p := fun i hi => by
      obtain ⟨V, h1, h2⟩ := hc i pats[i] (List.getElem?_eq_getElem hi)
      exact ⟨V, h1, fun p hp => by rw [List.getElem?_eq_getElem hi] at hp; injection hp with hp; rw [← hp]; exact h2⟩
    -- the values with their answers
    have hps : ∃ ps : List (Value × Bool), ps.length = pats.length ∧ (∀ (i : Nat) q, ps[i]? = some q → cs[i]? = some q.1 ∧ ∃ p, pats[i]? = some p ∧ PV w q.1 p ∧ q.2 = mtB p (runesB s)) ∧ ps.map (·.2) = pats.map fun p => mtB p (runesB s) := by
      have key : ∀ k, k ≤ pats.length → ∃ ps : List (Value × Bool), ps.length = k ∧ (∀ (i : Nat) q, ps[i]? = some q → cs[i]? = some q.1 ∧ ∃ p, pats[i]? = some p ∧ PV w q.1 p ∧ q.2 = mtB p (runesB s)) ∧ ps.map (·.2) = (pats.take k).map fun p => mtB p (runesB s) := by
        intro k
        induction k with
        | zero => intro _; exact ⟨[], rfl, (fun i q h => by cases h), rfl⟩
        | succ k ih =>
          intro hk
          obtain ⟨ps, h1, h2, h3⟩ := ih (by omega)
          obtain ⟨V, g1, g2⟩ := hV k (by omega)
          refine ⟨ps ++ [(V, mtB pats[k] (runesB s))], by rw [List.length_append, h1]; rfl, fun i q hq => ?_, ?_⟩
          · by_cases e : i = k
            · subst e
              rw [List.getElem?_append_right (by omega), h1, Nat.sub_self] at hq
              injection hq with hq
              subst hq
              exact ⟨g1, pats[i], List.getElem?_eq_getElem (by omega), g2 _ (List.getElem?_eq_getElem (by omega)), rfl⟩
            · have hi : i < k := by
                have := (List.getElem?_eq_some_iff.1 hq).1
                rw [List.length_append, h1] at this
                simp at this
                omega
              rw [List.getElem?_append_left (by omega)] at hq
              exact h2 i q hq
          · rw [List.map_append, h3, List.take_succ_eq_append_getElem (by omega), List.map_append]
            rfl
      obtain ⟨ps, h1, h2, h3⟩ := key pats.length (Nat.le_refl _)
      rw [List.take_length] at h3
      exact ⟨ps, h1, h2, h3⟩
    obtain ⟨ps, h1, h2, h3⟩ := hps
    have h := any_any (fun w1 => Tabs w1 ∧ KeepG w w1) (fun w1 w2 hw hb => ⟨hw.1.below hb, hw.2.then (keepG_below hb)⟩) s ps A c w (fun q hq => by
      obtain ⟨i, hi⟩ := List.getElem?_of_mem hq
      obtain ⟨g1, p, g2, g3, g4⟩ := h2 i q hi
      refine ⟨g3.one, fun w1 hw => ?_⟩
      obtain ⟨A1, c1, k1, k2, k3⟩ := g3.keep hw.2
      obtain ⟨m1, m2⟩ := hp.2 p (List.mem_of_getElem? g2)
      rw [k1, g4]
      exact matches_any p A1 c1 s hs m1 k2 m2 w1 hw.1 k3.ats) (by rw [h1]; exact hp.1) (fun _ => ⟨b, 0, e, lt_of_block hb, fun i q hq => by
        rw [Nat.zero_add]
        exact (cell_of_row _ _ _ _ _ _ hb).trans (h2 i q hq).1⟩) ⟨hT, fun T b cs _ hx => hx⟩
    rw [h1] at h
    have hany : ps.any (fun q => q.2) = anyM pats s := by
      have e1 : ps.any (fun q => q.2) = (ps.map (·.2)).any id := by rw [List.any_map]; rfl
      have e2 : anyM pats s = (pats.map fun p => mtB p (runesB s)).any id := by unfold anyM; rw [List.any_map]; rfl
      rw [e1, e2, h3]
    rw [hany] at h
    exact h
set_option maxHeartbeats 4000000 in
theorem matched_any (A : Option Addr) (c : Nat) (pats : List (List Atm)) (s : ByteArray) (dir : Bool) (hs : s.size ≤ 100000) (hp : SmallP pats) (w : World) (hR : PatR w A pats) (hT : Tabs w) :
    Calls Tryz.prog 77 #[.slice A pats.length c, .string s, .bool dir] w fun e w' => e = .returned (.bool (mchM pats s dir)) ∧ Below w.heap.size w w' := by
  have H1 := Lib.hid (fany_any A c pats s (by omega) hp w hR hT)
  have H2 := Lib.hid (fun w1 (hb : Below w.heap.size w w1) => fany_any A c pats (slash s) (by unfold slash; rw [ByteArray.size_append]; show s.size + 1 ≤ _; omega) hp w1 (hR.below hb) (hT.below hb))
  have HV : Hid (mchM pats s dir = (anyM pats s || (dir && anyM pats (slash s)))) := rfl
  generalize mchM pats s dir = V at *
  generalize anyM pats s = X at *
  generalize anyM pats (slash s) = Y at *
  have hcat : ¬ 9223372036854775807 < s.size + (⟨#[47]⟩ : ByteArray).size := by show ¬ 9223372036854775807 < s.size + 1; omega
  have hcat1 : ¬ 9223372036854775807 < s.size + 1 := by omega
  have HSL : Hid (slash s = s ++ ⟨#[47]⟩) := rfl
  rw [HSL.out] at H2
  go_enter Tryz.func77, Tryz.ntmps77
  go_wp2_with fail
  refine H1.out.mono ?_; rintro e w1 ⟨rfl, hb1⟩
  have HB1 := Lib.hid hb1
  clear hb1
  cases X with
  | true =>
    go_wp2_with fail
    go_ret
    exact ⟨by rw [HV.out]; rfl, HB1.out⟩
  | false =>
    cases dir with
    | false =>
      go_wp2_with fail
      go_ret
      exact ⟨by rw [HV.out]; rfl, HB1.out⟩
    | true =>
      go_wp2_with fail
      refine (H2.out _ HB1.out).mono ?_; rintro e w2 ⟨rfl, hb2⟩
      have HB2 := Lib.hid (below_then HB1.out hb2)
      clear hb2
      go_wp2_with fail
      go_ret
      exact ⟨by rw [HV.out]; rfl, HB2.out⟩
set_option maxHeartbeats 4000000 in
theorem takes_any (V : Value) (ins outs : List (List Atm)) (s : ByteArray) (dir : Bool) (hs : s.size ≤ 100000) (h1 : SmallP ins) (h2 : SmallP outs) (w : World) (hF : FilV w V ins outs) (hT : Tabs w) :
    Calls Tryz.prog 51 #[V, .string s, .bool dir] w fun e w' => e = .returned (.bool (takM ins outs s dir)) ∧ Below w.heap.size w w' := by
  obtain ⟨A1, c1, A2, c2, rfl, hR1, hR2, _, _⟩ := hF
  have hif := info_fil
  have hb0 := below_alG w (.cells #[.slice A1 ins.length c1, .slice A2 outs.length c2] 31)
  have hx0 := heap_alloc_new w (.cells #[.slice A1 ins.length c1, .slice A2 outs.length c2] 31)
  have HB0 := Lib.hid hb0
  have HX0 := Lib.hid hx0
  have H1 := Lib.hid (matched_any A1 c1 ins s dir hs h1 _ (hR1.below hb0) (hT.below hb0))
  have H2 := Lib.hid (fun w1 (hb : Below w.heap.size w w1) => matched_any A2 c2 outs s dir hs h2 w1 (hR2.below hb) (hT.below hb))
  have HV : Hid (takM ins outs s dir = ((decide (ins.length = 0) || mchM ins s dir) && !mchM outs s dir)) := rfl
  generalize takM ins outs s dir = V at *
  generalize mchM ins s dir = X at *
  generalize mchM outs s dir = Y at *
  clear hR1 hR2 hT hb0
  have a0 := (cell_of_row _ _ 0 _ _ _ hx0).trans (show _ = some (Value.slice A1 ins.length c1) from rfl)
  have a1 := (cell_of_row _ _ 1 _ _ _ hx0).trans (show _ = some (Value.slice A2 outs.length c2) from rfl)
  clear hx0
  by_cases h0 : ins.length = 0
  · have d0 : ((((ins.length : Nat) : Int)) == 0) = true := by rw [beq_iff_eq]; omega
    have HD : Hid (decide (ins.length = 0) = true) := decide_eq_true h0
    clear h0
    go_enter Tryz.func51, Tryz.ntmps51
    go_upto_region 1 with fail
    generalize hg : w.heap.size = g at *
    generalize w.alloc (.cells #[.slice A1 ins.length c1, .slice A2 outs.length c2] 31) = w1 at *
    have HLT : Hid (g < w1.heap.size) := lt_of_block HX0.out
    go_wp2_with fail
    refine (H2.out _ HB0.out).mono ?_; rintro e w3 ⟨rfl, hb3⟩
    have HB3 := Lib.hid (below_then (by rw [hg]; exact HB0.out : Below w.heap.size w w1) hb3)
    clear hb3
    go_wp2_with fail
    go_ret
    exact ⟨by rw [HV.out, HD.out]; rfl, HB3.out⟩
  · have d0 : ((((ins.length : Nat) : Int)) == 0) = false := by rw [beq_eq_false_iff_ne]; omega
    have HD : Hid (decide (ins.length = 0) = false) := decide_eq_false h0
    clear h0
    go_enter Tryz.func51, Tryz.ntmps51
    go_upto_region 1 with fail
    generalize hg : w.heap.size = g at *
    generalize w.alloc (.cells #[.slice A1 ins.length c1, .slice A2 outs.length c2] 31) = w1 at *
    have HLT : Hid (g < w1.heap.size) := lt_of_block HX0.out
    go_wp2_with fail
    refine H1.out.mono ?_; rintro e w2 ⟨rfl, hb2⟩
    have HB2 := Lib.hid (below_then (by rw [hg]; exact HB0.out : Below w.heap.size w w1) hb2)
    have b1 := (hb2.cell (p := ⟨g, 1, none⟩) HLT.out).trans a1
    clear hb2
    cases X with
    | false =>
      go_wp2_with fail
      go_ret
      exact ⟨by rw [HV.out, HD.out]; rfl, HB2.out⟩
    | true =>
      go_wp2_with fail
      refine (H2.out _ (by rw [← hg]; exact HB2.out)).mono ?_; rintro e w3 ⟨rfl, hb3⟩
      have HB3 := Lib.hid (below_then HB2.out hb3)
      clear hb3
      go_wp2_with fail
      go_ret
      exact ⟨by rw [HV.out, HD.out]; rfl, HB3.out⟩
end Go.Proofs.YtijfcmlgohbndaaGreatDoor

namespace Go.Proofs.YtijfcmlgohbndaaGreatDoor
set_option maxRecDepth 100000
set_option linter.unusedSimpArgs false
set_option linter.unusedVariables false
open Go.RowKit Go.Joins Go.Deep
open Go.Lib hiding intOf
/-- A filter that may be gone by. -/
def FilK (w : World) (V : Value) (ins outs : List (List Atm)) : Prop := FilV w V ins outs ∧ SmallP ins ∧ SmallP outs ∧ Tabs w
theorem FilK.below {w w' : World} {V : Value} {ins outs : List (List Atm)} (h : FilK w V ins outs) (hb : Below w.heap.size w w') : FilK w' V ins outs := ⟨h.1.below hb, h.2.1, h.2.2.1, h.2.2.2.below hb⟩
set_option maxHeartbeats 8000000 in
theorem planTakes_any (V : Value) (ins outs : List (List Atm)) (X : Itm) (hs : X.s.size ≤ 100000) (w : World) (hF : FilK w V ins outs) :
    Calls Tryz.prog 32 #[V, .agg X.cells] w fun e w' => e = .returned (.bool (takM ins outs X.s (X.k == 1))) ∧ Below w.heap.size w w' := by
  have hFK := hF
  obtain ⟨⟨A1, c1, A2, c2, rfl, _⟩, h1, h2, hT⟩ := hFK
  have hif := info_fil
  obtain ⟨w1, hw1⟩ : ∃ w1, w1 = (w.alloc (.cells #[.slice A1 ins.length c1, .slice A2 outs.length c2] 31)).alloc (.cells X.cells 47) := ⟨_, rfl⟩
  have HB1 : Hid (Below w.heap.size w w1) := by show Below _ _ _; rw [hw1]; exact below_two _ _ _
  have HX1 : Hid (w1.heap[w.heap.size]? = some (.cells #[.slice A1 ins.length c1, .slice A2 outs.length c2] 31 (0, 0))) := by show _ = _; rw [hw1]; exact two_first _ _ _
  have HI1 : Hid (w1.heap[w.heap.size + 1]? = some (.cells X.cells 47 (0, 0))) := by show _ = _; rw [hw1]; exact two_second _ _ _
  have HTK := Lib.hid (fun d => takes_any _ ins outs X.s d hs h1 h2 w1 (hF.1.below HB1.out) (hT.below HB1.out))
  obtain ⟨x0, x1, _⟩ := item_boxP HI1.out
  simp only [Itm.cells] at hw1 ⊢
  have HW1 := Lib.hid hw1
  clear hw1 hF h1 h2 hT HI1
  obtain ⟨D, hD⟩ : ∃ D, D = (X.k == 1) := ⟨_, rfl⟩
  rw [← hD]
  generalize X.k = k at *
  have hD' := hD.symm
  clear hD
  go_enter Tryz.func32, Tryz.ntmps32
  go_upto_region 1 with fail
  rw [← HW1.out]
  clear HW1
  go_wp2_with (refine wpList_load_row rfl 31 (.tmp 2) rfl w.heap.size rfl 31 _ (0, 0) _ HX1.out Tryz.underlying31 rfl info_fil ?_)
  refine (HTK.out D).mono ?_; rintro e w3 ⟨rfl, hb3⟩
  have HB3 := Lib.hid (below_thenE HB1.out hb3)
  clear hb3
  go_wp2_with fail
  go_ret
  exact ⟨rfl, HB3.out⟩
set_option maxHeartbeats 8000000 in
theorem filTakes_any (V : Value) (ins outs : List (List Atm)) (s : ByteArray) (k m u g t a : Int) (d : ByteArray) (hs : s.size ≤ 100000) (w : World) (hF : FilK w V ins outs) :
    Calls Tryz.prog 50 #[V, .string s, .agg #[.int .i64 k, .int .u32 m, .int .u32 u, .int .u32 g, .int .i64 t, .int .i64 a, .string d]] w fun e w' => e = .returned (.bool (takM ins outs s (k == 1))) ∧ Below w.heap.size w w' := by
  have hFK := hF
  obtain ⟨⟨A1, c1, A2, c2, rfl, _⟩, h1, h2, hT⟩ := hFK
  have hif := info_fil
  obtain ⟨w1, hw1⟩ : ∃ w1, w1 = (w.alloc (.cells #[.slice A1 ins.length c1, .slice A2 outs.length c2] 31)).alloc (.cells #[.int .i64 k, .int .u32 m, .int .u32 u, .int .u32 g, .int .i64 t, .int .i64 a, .string d] 45) := ⟨_, rfl⟩
  have HB1 : Hid (Below w.heap.size w w1) := by show Below _ _ _; rw [hw1]; exact below_two _ _ _
  have HX1 : Hid (w1.heap[w.heap.size]? = some (.cells #[.slice A1 ins.length c1, .slice A2 outs.length c2] 31 (0, 0))) := by show _ = _; rw [hw1]; exact two_first _ _ _
  have hn1 : w1.heap[w.heap.size + 1]? = some (.cells #[.int .i64 k, .int .u32 m, .int .u32 u, .int .u32 g, .int .i64 t, .int .i64 a, .string d] 45 (0, 0)) := by rw [hw1]; exact two_second _ _ _
  have HTK := Lib.hid (fun d => takes_any _ ins outs s d hs h1 h2 w1 (hF.1.below HB1.out) (hT.below HB1.out))
  have x0 := (cell_of_row _ _ 0 _ _ _ hn1).trans (show _ = some (Value.int .i64 k) from rfl)
  have HW1 := Lib.hid hw1
  clear hw1 hF h1 h2 hT hn1
  obtain ⟨D, hD⟩ : ∃ D, D = (k == 1) := ⟨_, rfl⟩
  rw [← hD]
  have hD' := hD.symm
  clear hD
  go_enter Tryz.func50, Tryz.ntmps50
  go_upto_region 1 with fail
  rw [← HW1.out]
  clear HW1
  go_wp2_with (refine wpList_load_row rfl 31 (.tmp 3) rfl w.heap.size rfl 31 _ (0, 0) _ HX1.out Tryz.underlying31 rfl info_fil ?_)
  refine (HTK.out D).mono ?_; rintro e w3 ⟨rfl, hb3⟩
  have HB3 := Lib.hid (below_thenE HB1.out hb3)
  clear hb3
  go_wp2_with fail
  go_ret
  exact ⟨rfl, HB3.out⟩
/-- The fate of an entry. -/
def fatI (mode state : Int) : Int := if mode ≠ 1 ∧ state = 2 then 2 else if mode ≠ 1 ∨ state = 1 then 1 else if state = 0 then 3 else 2
set_option maxHeartbeats 8000000 in
theorem fate_any (mode state : Int) (w : World) : Calls Tryz.prog 34 #[.int .i64 mode, .int .i64 state] w fun e w' => e = .returned (.int .i64 (fatI mode state)) ∧ w' = w := by
  obtain ⟨V, hV⟩ : ∃ V, V = fatI mode state := ⟨_, rfl⟩
  rw [← hV]
  unfold fatI at hV
  have HV := Lib.hid hV
  clear hV
  by_cases hm : mode = 1
  · subst hm
    by_cases h1 : state = 1
    · subst h1
      have HVV : Hid (V = 1) := by show _ = _; rw [HV.out]; decide
      clear HV
      go_enter Tryz.func34, Tryz.ntmps34
      go_wp2_with fail
      go_ret
      exact ⟨by rw [HVV.out]; rfl, rfl⟩
    have e1 : (state == 1) = false := beq_eq_false_iff_ne.2 h1
    by_cases h0 : state = 0
    · subst h0
      have HVV : Hid (V = 3) := by show _ = _; rw [HV.out]; decide
      clear HV
      go_enter Tryz.func34, Tryz.ntmps34
      go_wp2_with fail
      go_ret
      exact ⟨by rw [HVV.out]; rfl, rfl⟩
    have e0 : (state == 0) = false := beq_eq_false_iff_ne.2 h0
    have HVV : Hid (V = 2) := by show _ = _; rw [HV.out]; simp [h1, h0]
    clear HV
    go_enter Tryz.func34, Tryz.ntmps34
    go_wp2_with fail
    go_ret
    exact ⟨by rw [HVV.out]; rfl, rfl⟩
  have em : (mode == 1) = false := beq_eq_false_iff_ne.2 hm
  by_cases h2 : state = 2
  · subst h2
    have HVV : Hid (V = 2) := by show _ = _; rw [HV.out]; simp [hm]
    clear HV
    go_enter Tryz.func34, Tryz.ntmps34
    go_wp2_with fail
    go_ret
    exact ⟨by rw [HVV.out]; rfl, rfl⟩
  have e2 : (state == 2) = false := beq_eq_false_iff_ne.2 h2
  have HVV : Hid (V = 1) := by show _ = _; rw [HV.out]; simp [hm, h2]
  clear HV
  go_enter Tryz.func34, Tryz.ntmps34
  go_wp2_with fail
  go_ret
  exact ⟨by rw [HVV.out]; rfl, rfl⟩
end Go.Proofs.YtijfcmlgohbndaaGreatDoor

namespace Go.Proofs.YtijfcmlgohbndaaGreatDoor
set_option maxRecDepth 100000
set_option linter.unusedSimpArgs false
set_option linter.unusedVariables false
open Go.RowKit Go.Joins Go.Deep Go.WideMaps
theorem parts_pact : (Tryz.prog.info? 41).map (fun i => (i.zero, i.size, i.bytes)) = some (some (.agg #[.int .i64 0, .int .i64 0, .int .i64 0]), 3, 24) := by kernel_rfl
theorem partsP : ∃ i0, Tryz.prog.info? 41 = some i0 ∧ i0.zero = some (.agg #[.int .i64 0, .int .i64 0, .int .i64 0]) ∧ i0.size = 3 ∧ i0.bytes = 24 := by
  have h := parts_pact
  cases hq : Tryz.prog.info? 41 with
  | none => rw [hq] at h; cases h
  | some i =>
    rw [hq] at h
    simp only [Option.map_some, Option.some.injEq, Prod.mk.injEq] at h
    exact ⟨i, rfl, h.1, h.2.1, h.2.2⟩
/-- The example's action. -/
def acA : Act3 := ⟨4, -1, 0⟩
/-- A row of the one action. -/
def OneA (w : World) (B : Nat) (v : Value) : Prop := w.ownsRow B 41 3 v 1 [.int .i64 4, .int .i64 (-1), .int .i64 0]
set_option maxHeartbeats 8000000 in
theorem addN_any (A : Option Addr) (w : World) (hT : Itms w A [itA]) : Calls Tryz.prog 20 #[.slice none 0 0, .slice A 1 1, .agg #[.slice none 0 0, .slice none 0 0]] w fun e w' => ∃ v, e = .returned (.tuple #[v, .int .i64 0]) ∧ OneA w' w.heap.size v ∧ Below w.heap.size w w' := by
  have hmm := @run_makeMap Tryz.prog
  have hif := info_filP
  have hir := info_item
  have hzu := zero_unitP
  obtain ⟨i0, hi, hz0, hz1, hz2⟩ := partsP
  have hb1 := below_alP w (.cells #[.slice none 0 0, .slice none 0 0] 31)
  have hx1 := heap_alloc_new w (.cells #[.slice none 0 0, .slice none 0 0] 31)
  have HB1 := Lib.hid hb1
  have HX1 := Lib.hid hx1
  have HT1 := Lib.hid (hT.below hb1)
  have HP := Lib.hid (pathsN_any (w.alloc (.cells #[.slice none 0 0, .slice none 0 0] 31)))
  have HG : Hid (w.heap.size ≤ w.heap.size) := Nat.le_refl _
  clear hT hb1 hx1
  go_enter Tryz.func20, Tryz.ntmps20
  go_upto_region 1 with fail
  generalize w.alloc (.cells #[.slice none 0 0, .slice none 0 0] 31) = w1 at *
  generalize hg1 : w.heap.size = g1 at *
  go_wp2_with fail
  refine HP.out.mono ?_; rintro e w2 ⟨rfl, hb2⟩
  have HM := Lib.hid (World.ownsMap_made (H := Unit) w2 Tryz.prog 9 unitElem)
  have hb3 := below_alP w2 (.map #[] 0)
  have HB3 : Hid (Below g1 w (w2.alloc (.map #[] 0))) := by subst hg1; exact below_then (below_then HB1.out hb2) hb3
  have HT3 := Lib.hid ((HT1.out.below hb2).below hb3)
  have HX3 := Lib.hid (((HX1.out : _)) |> fun h => (hb3.block _ (lt_of_heapP ((hb2.block _ (lt_of_heapP h)).trans h))).trans ((hb2.block _ (lt_of_heapP h)).trans h))
  have HGM : Hid (g1 ≤ w2.heap.size) := Nat.le_trans (Nat.le_of_lt (lt_of_heapP HX1.out)) hb2.size
  have HNE : Hid (g1 < w2.heap.size) := Nat.lt_of_lt_of_le (lt_of_heapP HX1.out) hb2.size
  clear hb2 hb3 HP HT1 HX1 HB1
  go_upto_region 5 with fail
  generalize hgm : w2.heap.size = gm at *
  clear hgm
  generalize w2.alloc (.map #[] 0) = w3 at *
  go_wp2_with fail
  refine wp_loop_rounds 1 ?_
  rw [rounds_succ]
  obtain ⟨b, off, rfl, c0, c1, c2, c3, c4, c5, c6, c7⟩ := one_cells HT3.out
  go_upto_region 11 with fail
  go_wp2_with fail
  refine wp_loop_rounds 2 ?_
  rw [rounds_succ]
  have hx4 := heap_alloc_new w3 (.cells itA.cells 47)
  have hb4 := below_alP w3 (.cells itA.cells 47)
  have HM4 := Lib.hid (HM.out.alloc (.cells itA.cells 47))
  have HX4 := Lib.hid hx4
  have HF4 := Lib.hid ((hb4.block _ (lt_of_heapP HX3.out)).trans HX3.out)
  have HB4 := Lib.hid (HB3.out.trans (hb4.mono (Nat.le_trans (Nat.le_of_lt (lt_of_heapP HX3.out)) (Nat.le_refl _))))
  simp only [Itm.cells, itA] at hx4 HM4 HX4 HF4 HB4
  have y0 := (cell_of_row _ _ 0 _ _ _ hx4).trans (show _ = some (.string ⟨#[97]⟩) from rfl)
  clear hx4 hb4 HM HB3 HT3 HX3
  go_upto_region 14 with fail
  generalize hgi : w3.heap.size = gi at *
  generalize w3.alloc (.cells #[.string ⟨#[97]⟩, .int .i64 2, .int .u32 0, .int .u32 0, .int .u32 0, .int .i64 0, .int .i64 0, .string ⟨#[]⟩] 47) = w4 at *
  have hha : Maps.has (DataW.map [] : DataW Unit) (.string [97]) = false := rfl
  have hb5 := below_alP w4 (.cells #[] 102)
  have HM5 := Lib.hid (HM4.out.alloc (.cells #[] 102))
  have hf5 := (hb5.block _ (lt_of_heapP HF4.out)).trans HF4.out
  have hx5 := (hb5.block _ (lt_of_heapP HX4.out)).trans HX4.out
  have HB5 := Lib.hid (HB4.out.trans (hb5.mono (Nat.le_of_lt (lt_of_heapP HF4.out))))
  have HTK := Lib.hid (takesP_nil (w4.alloc (.cells #[] 102)))
  simp only [Itm.cells, itA] at HTK
  have HX5 := Lib.hid hx5
  have HL5 : Hid (gm < (w4.alloc (.cells #[] 102)).heap.size ∧ g1 < (w4.alloc (.cells #[] 102)).heap.size) := ⟨HM5.out.lt, lt_of_heapP hf5⟩
  have v0 := (cell_of_row _ _ 0 _ _ _ hf5).trans (show _ = some (Value.slice none 0 0) from rfl)
  have v1 := (cell_of_row _ _ 1 _ _ _ hf5).trans (show _ = some (Value.slice none 0 0) from rfl)
  have u0 := (cell_of_row _ _ 0 _ _ _ hx5).trans (show _ = some (Value.string ⟨#[97]⟩) from rfl)
  have u1 := (cell_of_row _ _ 1 _ _ _ hx5).trans (show _ = some (Value.int .i64 2) from rfl)
  have u2 := (cell_of_row _ _ 2 _ _ _ hx5).trans (show _ = some (Value.int .u32 0) from rfl)
  have u3 := (cell_of_row _ _ 3 _ _ _ hx5).trans (show _ = some (Value.int .u32 0) from rfl)
  have u4 := (cell_of_row _ _ 4 _ _ _ hx5).trans (show _ = some (Value.int .u32 0) from rfl)
  have u5 := (cell_of_row _ _ 5 _ _ _ hx5).trans (show _ = some (Value.int .i64 0) from rfl)
  have u6 := (cell_of_row _ _ 6 _ _ _ hx5).trans (show _ = some (Value.int .i64 0) from rfl)
  have u7 := (cell_of_row _ _ 7 _ _ _ hx5).trans (show _ = some (Value.string ⟨#[]⟩) from rfl)
  clear hb5 hf5 hx5 HF4 HX4 HB4
  go_wp2_with (at_lookup; refine wpList_lookup_own_unit _ rfl _ _ 101 rfl 9 102 keyS Tryz.underlying101 (zero_unitP _) gm 0 _ rfl HM4.out _ _ rfl keyA ?_; rw [hha])
  refine HTK.out.mono ?_; rintro e w6 ⟨rfl, hb6⟩
  have HM6 := Lib.hid (HM5.out.kept (row := none) ⟨hb6.os, hb6.tape, hb6.output, hb6.size, fun i hi _ => hb6.block i hi⟩ (by simp))
  have HX6 := Lib.hid ((hb6.block _ (lt_of_heapP HX5.out)).trans HX5.out)
  have HB6 := Lib.hid (HB5.out.trans (hb6.mono (Nat.le_of_lt HL5.out.2)))
  have HL6 : Hid (gm < w6.heap.size ∧ g1 < w6.heap.size) := ⟨Nat.lt_of_lt_of_le HL5.out.1 hb6.size, Nat.lt_of_lt_of_le HL5.out.2 hb6.size⟩
  have HB7 := Lib.hid (HB6.out.trans ((below_alP w6 (.cells acA.cells 41)).mono (Nat.le_of_lt HL6.out.2)))
  have HM7 := Lib.hid (HM6.out.alloc (.cells acA.cells 41))
  have HX7 := Lib.hid (((below_alP w6 (.cells acA.cells 41)).block _ (lt_of_heapP HX6.out)).trans HX6.out)
  have HNW := Lib.hid (act_news w6 acA 41)
  have HON := Lib.hid (act_ones acA)
  simp only [Act3.cells, Act3.cellsL, acA] at HB7 HM7 HX7 HNW HON
  clear hb6 HTK HM5 HX5 HB5 HL5 HM4 v0 v1 u0 u1 u2 u3 u4 u5 u6 u7 y0
  have hg62 : g1 ≤ w6.heap.size + 1 := by have := HL6.out.2; omega
  go_wp2_with (at_builtin; refine wpList_append_own_at _ rfl (.tmp 58) (.tmp 61) _ rfl g1 41 i0 (.agg #[.int .i64 0, .int .i64 0, .int .i64 0]) 3 24 Tryz.underlying35 hi hz0 hz1 hz2 rfl (by decide) (.slice none 0 0) 0 [] rfl (World.ownsRow_nil _ _ _ _) ⟨w6.heap.size, 0, none⟩ 1 1 [.int .i64 4, .int .i64 (-1), .int .i64 0] rfl rfl ?c1 ?c2 ?c3 ?c4 ?c5 ?_)
  case c1 => exact HNW.out
  case c2 => exact HON.out
  case c3 => decide
  case c4 => decide
  case c5 => exact Nat.le_trans (Nat.le_of_lt HL6.out.2) (below_alP w6 _).size
  intro v8 w8 hown hgrow _ hfr
  have HM8 := Lib.hid (HM7.out.kept hgrow (by simp [Value.ownBlock]))
  have HX8 := Lib.hid ((hgrow.block _ (lt_of_heapP HX7.out) (by simp [Value.ownBlock])).trans HX7.out)
  have HB8 := Lib.hid (HB7.out.grown hgrow (Nat.le_trans (Nat.le_of_lt HL6.out.2) (below_alP w6 _).size) (fun k hk => by simp [Value.ownBlock] at hk))
  have HOW := Lib.hid hown
  have HSZ8 : Hid (w6.heap.size ≤ w8.heap.size) := Nat.le_trans (below_alP w6 _).size hgrow.size
  have HFR : Hid (v8.ownBlock ≠ some gm) := by
    intro h
    rw [h] at hfr
    rcases hfr with hfr | hfr
    · simp [Value.ownBlock] at hfr
    · injection hfr with hfr
      have := HL6.out.1
      try simp only [World.alloc, Array.size_push] at hfr
      omega
  have y0 := (cell_of_row _ _ 0 _ _ _ HX8.out).trans (show _ = some (.string ⟨#[97]⟩) from rfl)
  clear hown hgrow hfr HX7 HX8 HM7 HB7 HB6 HM6 HX6 HNW HON
  go_wp2_with (at_mapUpdate; refine wpList_mapUpdate_own _ rfl _ _ _ 101 rfl 9 102 keyS Tryz.underlying101 _ gm 0 _ rfl HM8.out (by unfold maxLen; omega) _ _ _ rfl rfl keyA (.agg []) [] unitElem_mk ?_; intro w9 hown9 hgrow9)
  rw [rounds_succ]
  have HB9 : Hid (Below g1 w w9) := HB8.out.grown hgrow9 (Nat.le_trans (Nat.le_of_lt HL6.out.2) HSZ8.out) (fun k hk => by injection hk with hk; subst hk; exact HGM.out)
  have HO9 : Hid (OneA w9 g1 v8) := HOW.out.kept hgrow9 (.inr HFR.out)
  clear hown9 hgrow9
  go_wp2_with fail
  go_ret2
  exact ⟨v8, rfl, by subst hg1; exact HO9.out, by subst hg1; exact HB9.out⟩
end Go.Proofs.YtijfcmlgohbndaaGreatDoor
