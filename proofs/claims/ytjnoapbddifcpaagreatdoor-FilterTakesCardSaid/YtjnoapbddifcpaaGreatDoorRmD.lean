/-
  An entry by the document: Meta.
-/
import Derived.Test.YtjnoapbddifcpaaGreatDoorPkDD
import Derived.Deep.CutRange
namespace Go.Proofs.YtjnoapbddifcpaaGreatDoor
set_option maxRecDepth 100000
set_option linter.unusedSimpArgs false
set_option linter.unusedVariables false
open Go.RowKit Go.Joins Go.Deep Go.WideMaps
/-- A world of Meta's: the entry, the answer, the node. -/
def MtS (w : World) (E : Ent) (N : Array Value) (x : World) : Prop := x.heap[w.heap.size]? = some (.cells E.cells 32 (0, 0)) ∧ x.heap[w.heap.size + 1]? = some (.cells nodZ 71 (0, 0)) ∧ x.heap[w.heap.size + 1 + 1]? = some (.cells N 71 (0, 0)) ∧ Below w.heap.size w x
theorem MtS.next {w x y : World} {E : Ent} {N : Array Value} (h : MtS w E N x) (hb : Below x.heap.size x y) : MtS w E N y :=
  ⟨(hb.block _ (lt_of_block h.1)).trans h.1, (hb.block _ (lt_of_block h.2.1)).trans h.2.1, (hb.block _ (lt_of_block h.2.2.1)).trans h.2.2.1, h.2.2.2.trans (hb.mono h.2.2.2.size)⟩
theorem MtS.lt {w x : World} {E : Ent} {N : Array Value} (h : MtS w E N x) : w.heap.size + 1 + 1 < x.heap.size := lt_of_block h.2.2.1
theorem MtS.set {w x : World} {E : Ent} {N : Array Value} (h : MtS w E N x) (i : Nat) (v : Value) : MtS w E (N.setIfInBounds i v) (x.setCell ⟨w.heap.size + 1 + 1, i, none⟩ v) :=
  ⟨(Below.heap_setCell _ _ _ _ (by simp only [ne_eq]; omega)).trans h.1, (Below.heap_setCell _ _ _ _ (by simp only [ne_eq]; omega)).trans h.2.1, heap_setCell_same x _ i _ _ v h.2.2.1, h.2.2.2.setCell (p := ⟨w.heap.size + 1 + 1, i, none⟩) (by show w.heap.size ≤ w.heap.size + 1 + 1; omega) _⟩
theorem MtS.cellN {w x : World} {E : Ent} {N : Array Value} (h : MtS w E N x) (i : Nat) {v : Value} (hv : N[i]? = some v) : x.cell? ⟨w.heap.size + 1 + 1, i, none⟩ = some v := (cell_of_row _ _ i _ _ _ h.2.2.1).trans hv
theorem MtS.cellE {w x : World} {E : Ent} {N : Array Value} (h : MtS w E N x) (i : Nat) {v : Value} (hv : E.cells[i]? = some v) : x.cell? ⟨w.heap.size, i, none⟩ = some v := (cell_of_row _ _ i _ _ _ h.1).trans hv
theorem MtS.frz {w x : World} {E : Ent} {N : Array Value} (h : MtS w E N x) (i : Nat) : x.frozen? ⟨w.heap.size + 1 + 1, i, none⟩ = false := Lib.frozen_of_heap h.2.2.1 i
theorem mts_three (w : World) (E : Ent) : MtS w E nodZ (((w.alloc (.cells E.cells 32)).alloc (.cells nodZ 71)).alloc (.cells nodZ 71)) := by
  have s1 : (w.alloc (.cells E.cells 32)).heap.size = w.heap.size + 1 := by simp only [World.alloc, Array.size_push]
  have s2 : ((w.alloc (.cells E.cells 32)).alloc (.cells nodZ 71)).heap.size = w.heap.size + 1 + 1 := by simp only [World.alloc, Array.size_push]
  have h1 : ((w.alloc (.cells E.cells 32)).alloc (.cells nodZ 71)).heap[w.heap.size]? = some (.cells E.cells 32 (0, 0)) := (((Below.refl _ _).alloc (Nat.le_refl _) _).block _ (lt_of_block (heap_alloc_new w _))).trans (heap_alloc_new w _)
  refine ⟨(((Below.refl _ _).alloc (Nat.le_refl _) _).block _ (lt_of_block h1)).trans h1, three_mid _ _ _ _, ?_, below_three _ _ _ _⟩
  rw [← s2]
  exact heap_alloc_new _ _
theorem nod_u16 (a b c d e f : Int) (s : ByteArray) (j : Nat) (id : Int) : (#[.int .i64 a, .int .u32 b, .int .u32 c, .int .u32 d, .int .i64 e, .int .i64 f, .string s] : Array Value)[j]? ≠ some (.int .u16 id) := by
  intro h
  have hj : j < 7 := by
    have := (Array.getElem?_eq_some_iff.1 h).1
    simpa using this
  have : j = 0 ∨ j = 1 ∨ j = 2 ∨ j = 3 ∨ j = 4 ∨ j = 5 ∨ j = 6 := by omega
  rcases this with rfl | rfl | rfl | rfl | rfl | rfl | rfl <;> simp at h
/-- Fields stay where they are while a node's cell is written. -/
theorem Fds.nod {x : World} {A : Option Addr} {l : List Fd} {g : Nat} {a b c d e f : Int} {s : ByteArray} (h : Fds x A l) (hg : x.heap[g]? = some (.cells #[.int .i64 a, .int .u32 b, .int .u32 c, .int .u32 d, .int .i64 e, .int .i64 f, .string s] 71 (0, 0))) (i : Nat) (v : Value) : Fds (x.setCell ⟨g, i, none⟩ v) A l := fun hn => by
  obtain ⟨bb, off, he, hlt, hc⟩ := h hn
  have hne : bb ≠ g := by
    intro k
    subst k
    have h0 := (hc 0 hn).1
    rw [cell_of_row _ _ (off + 0 * 2) _ _ _ hg] at h0
    exact nod_u16 _ _ _ _ _ _ _ _ _ h0
  have hk : (x.setCell ⟨g, i, none⟩ v).heap[bb]? = x.heap[bb]? := Below.heap_setCell _ _ _ _ (fun k => hne k)
  refine ⟨bb, off, he, ?_, fun j hj => ?_⟩
  · have := (Array.getElem?_eq_some_iff.1 (hk.trans (Array.getElem?_eq_getElem hlt))).1
    exact this
  · obtain ⟨h1, h2⟩ := hc j hj
    constructor
    · rw [← h1]; simp only [World.cell?, hk]
    · rw [← h2]; simp only [World.cell?, hk]
theorem keyU : Maps.Keyed Tryz.prog 29 := Maps.int_keyed Tryz.underlying29
theorem zero_intM (w : World) : (zeroValue 3).run Tryz.prog w = .ok (.int .i64 0) w := by kernel_rfl
theorem wpList_insertM {H : Type} {P : Program} (w : World) {ops : Array Oper} {rest : List Oper} {o : Oper} {a : Act} {Q : Exit → Act → World → Prop}
    (hg : o.guard = none) (m x v : Operand) (t : TypeId) (hop : o.op = Op.insert t m x v)
    (k e : TypeId) (K : Maps.Keyed P k) (ht : P.underlying t = some (.map k e)) (R : Value → Option (DataW H × List MemPlace)) (b n : Nat) (D : DataW H)
    (hm : a.eval m = .map (some b)) (hown : w.ownsMap P k R b n D) (hn : n < maxLen) (key val : Value) (kl : Lit) (hx : a.eval x = key) (hv : a.eval v = val) (hkey : keyOf P k key = some kl)
    (d : DataW H) (ps : List MemPlace) (hval : R val = some (d, ps))
    (hK : ∀ w', w'.ownsMap P k R b (n + 1) (D.put kl d) → w.grownBy w' (some b) → wpList P ops Q rest (a.put o.dst undef) w') :
    wpList P ops Q (o :: rest) a w := by
  refine wpList_plain hg fun K' hK' => ?_
  obtain ⟨w', hrun, r1, r2⟩ := hown.update K ht hn hkey hval
  unfold Oper.wp
  simp [execOp, hop, hm, hx, hv, hrun, Result.andThen]
  exact hK' _ _ (hK w' r1 r2)
theorem stamp_cells {w : World} {g : Nat} {X : StT} (h : w.heap[g]? = some (.cells #[.int .u8 X.f, .int .i32 X.a, .int .i32 X.b, .int .i32 X.c] 130 (0, 0))) : w.cell? ⟨g, 0, none⟩ = some (.int .u8 X.f) ∧ w.cell? ⟨g, 1, none⟩ = some (.int .i32 X.a) ∧ w.cell? ⟨g, 2, none⟩ = some (.int .i32 X.b) :=
  ⟨(cell_of_row _ _ 0 _ _ _ h).trans rfl, (cell_of_row _ _ 1 _ _ _ h).trans rfl, (cell_of_row _ _ 2 _ _ _ h).trans rfl⟩
/-- What Meta answers, by the document's words. -/
theorem met_doc (E : Ent) (h1 : parE E.loc = 0) (h2 : parE E.ext = 0) (sd od nd : ByteArray) (sw ow nw : Int) (hs : fndP (parL E.loc) (parL E.ext) 21589 = (sd, sw)) (ho : fndP (parL E.loc) (parL E.ext) 30837 = (od, ow)) (hn : fndP (parL E.loc) (parL E.ext) 30805 = (nd, nw)) :
    metV E = if (patV (parL E.loc ++ parL E.ext) E).2.2 = 0 then (if barB E (patV (parL E.loc ++ parL E.ext) E).2.1 = true then (if (stD sw sd).z = 0 then (if (mtD (stD sw sd) E.time).2 = 0 then (if (owD od nd ow nw).2.2 = 0 then ⟨(patV (parL E.loc ++ parL E.ext) E).1, barK E (patV (parL E.loc ++ parL E.ext) E).2.1, barM E (patV (parL E.loc ++ parL E.ext) E).2.1, (owD od nd ow nw).1, (owD od nd ow nw).2.1, (mtD (stD sw sd) E.time).1, atD sw (stD sw sd) (mtD (stD sw sd) E.time).1, 0⟩ else meE (owD od nd ow nw).2.2) else meE (mtD (stD sw sd) E.time).2) else meE (stD sw sd).z) else meE 42) else meE (patV (parL E.loc ++ parL E.ext) E).2.2 := by
  have hB : flB E = true := by unfold flB; rw [h1, h2]; rfl
  have e1 : flL E = parL E.loc := by unfold flL; rw [if_pos hB]
  have e2 : flC E = parL E.ext := by unfold flC; rw [if_pos hB]
  unfold metV
  rw [if_pos hB, e1, e2, own_doc _ _ od nd ow nw ho hn, tim_doc _ _ E.time sd sw hs]
  generalize patV (parL E.loc ++ parL E.ext) E = PT
  generalize stD sw sd = X
  generalize owD od nd ow nw = OW
  generalize mtD X E.time = MT
  by_cases a : PT.2.2 = 0
  · rw [if_pos a, if_pos a]
    by_cases b : barB E PT.2.1 = true
    · rw [if_pos b, if_pos b]
      by_cases c : X.z = 0
      · rw [if_pos c, if_pos c]
        by_cases d : MT.2 = 0
        · rw [if_pos d, if_pos d, if_pos rfl]
        · rw [if_neg d, if_neg d, if_neg (by exact d)]
      · rw [if_neg c, if_neg c, if_neg (by exact c)]
    · rw [if_neg b, if_neg b]
  · rw [if_neg a, if_neg a]
set_option maxHeartbeats 64000000 in
theorem rmeta_any (E : Ent) (hE : EntOk E) (hnm : E.nm.size ≤ 100000) (w : World) :
    Calls Tryz.prog 31 #[.agg E.cells] w fun e w' => e = .returned (metV E).val ∧ Below w.heap.size w w' := by
  have hmm := @run_makeMap Tryz.prog
  obtain ⟨_, hxs, hls, hfl, hmd, hou, htm⟩ := hE
  have hd1 : ∀ x ∈ parL E.loc, x.d.size ≤ 1000000 := fun x hx => Nat.le_trans (parL_d E.loc x hx) hls
  have hd2 : ∀ x ∈ parL E.ext, x.d.size ≤ 1000000 := fun x hx => Nat.le_trans (parL_d E.ext x hx) hxs
  have hn1 : (parL E.loc).length ≤ 1000000 := by have := parL_len4 E.loc; omega
  have hn2 : (parL E.ext).length ≤ 1000000 := by have := parL_len4 E.ext; omega
  have hD : (fndD (parL E.loc ++ parL E.ext) 28789).size ≤ 1000000 := fndD_sz _ _ _ (fun x hx => by
    rcases List.mem_append.1 hx with hx | hx
    · exact hd1 x hx
    · exact hd2 x hx)
  have HPL := Lib.hid (fun w1 => rparse_any E.loc (by unfold maxLen; omega) w1)
  have HPX := Lib.hid (fun w1 => rparse_any E.ext (by unfold maxLen; omega) w1)
  have HPT := Lib.hid (fun (A1 A2 : Option Addr) (c1 c2 : Nat) (w1 : World) (hF1 : Fds w1 A1 (parL E.loc)) (hF2 : Fds w1 A2 (parL E.ext)) => rpath20_any A1 A2 c1 c2 (parL E.loc) (parL E.ext) E hnm hfl hn1 hn2 hD w1 hF1 hF2)
  obtain ⟨sd, sw, hs⟩ : ∃ sd sw, fndP (parL E.loc) (parL E.ext) 21589 = (sd, sw) := ⟨_, _, rfl⟩
  obtain ⟨od, ow, ho⟩ : ∃ od ow, fndP (parL E.loc) (parL E.ext) 30837 = (od, ow) := ⟨_, _, rfl⟩
  obtain ⟨nd, nw, hn⟩ : ∃ nd nw, fndP (parL E.loc) (parL E.ext) 30805 = (nd, nw) := ⟨_, _, rfl⟩
  have HFS := Lib.hid (fun (A1 A2 : Option Addr) (c1 c2 : Nat) (w1 : World) (hF1 : Fds w1 A1 (parL E.loc)) (hF2 : Fds w1 A2 (parL E.ext)) => by have h := rfind20_any A1 A2 c1 c2 (parL E.loc) (parL E.ext) 21589 w1 hF1 hF2 hn1 hn2; rw [hs] at h; exact h)
  have HFO := Lib.hid (fun (A1 A2 : Option Addr) (c1 c2 : Nat) (w1 : World) (hF1 : Fds w1 A1 (parL E.loc)) (hF2 : Fds w1 A2 (parL E.ext)) => by have h := rfind20_any A1 A2 c1 c2 (parL E.loc) (parL E.ext) 30837 w1 hF1 hF2 hn1 hn2; rw [ho] at h; exact h)
  have HFN := Lib.hid (fun (A1 A2 : Option Addr) (c1 c2 : Nat) (w1 : World) (hF1 : Fds w1 A1 (parL E.loc)) (hF2 : Fds w1 A2 (parL E.ext)) => by have h := rfind20_any A1 A2 c1 c2 (parL E.loc) (parL E.ext) 30805 w1 hF1 hF2 hn1 hn2; rw [hn] at h; exact h)
  have hss : sd.size ≤ 1000000 := by have h := fndP_sz (parL E.loc) (parL E.ext) 21589 1000000 hd1 hd2; rw [hs] at h; exact h
  have hos : od.size ≤ 1000000 := by have h := fndP_sz (parL E.loc) (parL E.ext) 30837 1000000 hd1 hd2; rw [ho] at h; exact h
  have hns : nd.size ≤ 1000000 := by have h := fndP_sz (parL E.loc) (parL E.ext) 30805 1000000 hd1 hd2; rw [hn] at h; exact h
  have hsw : sw = 0 ∨ sw = 1 ∨ sw = 2 := by have h := fndP_w (parL E.loc) (parL E.ext) 21589; rw [hs] at h; exact h
  have HSW := Lib.hid hsw
  have HST := Lib.hid (fun w1 => by have h := rparseStampN_any sd (sw == 2) hss w1; rw [stRes_T] at h; exact h)
  have HDO := Lib.hid (fun w1 => rfromDOS_any htm (dosT_is E.time) w1)
  have HOW := Lib.hid (fun w1 => by have h := rparseOwner_any od (by unfold maxLen; omega) w1; rw [oRes_tri] at h; exact h)
  have HON := Lib.hid (fun w1 => by have h := rparseOld_any nd (by unfold maxLen; omega) w1; rw [oldRes_tri] at h; exact h)
  obtain ⟨V, hV⟩ : ∃ V, V = metV E := ⟨_, rfl⟩
  have HVA : Hid (parE E.loc ≠ 0 → V = meE 24) := fun h => by
    rw [hV]; unfold metV flB
    rw [beq_eq_false_iff_ne.2 h]; rfl
  have HVB : Hid (parE E.ext ≠ 0 → V = meE 24) := fun h => by
    rw [hV]; unfold metV flB
    rw [beq_eq_false_iff_ne.2 h, Bool.and_false]; rfl
  have HVC := Lib.hid (fun h1 h2 => hV.trans (met_doc E h1 h2 sd od nd sw ow nw hs ho hn))
  rw [← hV]
  have HXO := Lib.hid (stD_ok sw sd)
  have HXE : Hid (stD sw sd = if sw = 0 then ⟨0, 0, 0, 0, 0⟩ else stT sd (sw == 2)) := rfl
  have HRT := Lib.hid (bar_rights E hou)
  have HBK : Hid (∀ d, barK E d = if unxB E = true then kinI ((E.outer : Int) / 268435456) else if d = true then 1 else 2) := fun d => rfl
  have HBM : Hid (∀ d, barM E d = if unxB E = true then (E.outer : Int) / 65536 % 4096 else if d = true then 493 else 420) := fun d => by
    unfold barM
    rw [HRT.out]
  have HBB : Hid (∀ d, barB E d = (!(barK E d == 0) && (d == (barK E d == 1)))) := fun d => rfl
  have HUX : Hid (unxB E = (decide ((E.made : Int) / 256 = 3) && !((E.outer : Int) / 268435456 == 0))) := rfl
  have HMT : Hid (mtD (stD sw sd) E.time = if (stD sw sd).f % 2 = 1 then ((stD sw sd).a, 0) else (((dosT E.time).1, (((dosT E.time).2 : Nat) : Int)) : Int × Int)) := rfl
  have HAT : Hid (∀ m, atD sw (stD sw sd) m = if sw = 1 ∧ (stD sw sd).f / 2 % 2 = 1 then (stD sw sd).b else m) := fun m => rfl
  have HOD : Hid (owD od nd ow nw = if 0 < ow then oTri od else if 0 < nw then oldTri nd else (0, 0, 0)) := rfl
  obtain ⟨w1, hw1⟩ : ∃ w1, w1 = ((w.alloc (.cells E.cells 32)).alloc (.cells nodZ 71)).alloc (.cells nodZ 71) := ⟨_, rfl⟩
  have HS1 : Hid (MtS w E nodZ w1) := by show MtS _ _ _ _; rw [hw1]; exact mts_three w E
  simp only [Ent.cells, nodZ] at hw1
  have HW1 := Lib.hid hw1
  generalize hpl : parL E.loc = L1 at *
  generalize hpx : parL E.ext = L2 at *
  generalize patV (L1 ++ L2) E = PT at *
  generalize mtD (stD sw sd) E.time = MT at *
  generalize owD od nd ow nw = OD at *
  generalize stT sd (sw == 2) = XT at *
  generalize hX : stD sw sd = X at *
  clear hs ho hn hss hos hns hd1 hd2 hn1 hn2 hD hV hw1 hls hxs hpl hpx hX
  simp only [Ent.cells]
  go_enter Tryz.func31, Tryz.ntmps31
  go_upto_region 2 with fail
  rw [← HW1.out]
  clear HW1
  have y14 : w1.cell? ⟨w.heap.size, 14, none⟩ = some (.string E.loc) := HS1.out.cellE 14 rfl
  go_wp2_with fail
  refine (HPL.out w1).mono ?_; rintro e w2 ⟨A1, c1, rfl, hF1, hb2⟩
  have HS2 := Lib.hid (HS1.out.next hb2)
  have HF1 := Lib.hid hF1
  clear hF1 hb2 HS1 HPL y14
  by_cases h1 : parE E.loc = 0
  case neg =>
    have bz : (((parE E.loc : Nat) : Int) != 0) = true := bne_iff_ne.2 (by omega)
    have HVV := Lib.hid (HVA.out h1)
    clear HVA HVB HVC HPX HPT HFS HFO HFN HST HDO HOW HON HF1
    go_upto_region 4 with fail
    have HGD : Hid (w2.drew.heap[w.heap.size + 1 + 1]? = some (.cells nodZ 71 (0, 0))) := HS2.out.2.2.1
    have HND : Hid (w2.drew.heap[w.heap.size + 1]? = some (.cells nodZ 71 (0, 0))) := HS2.out.2.1
    have HBD := Lib.hid HS2.out.2.2.2.drew
    have HY := Lib.hid (setRow_heap _ _ _ nodZ _ _ HND.out)

    refine wp_region_any (by kernel_rfl) ?_
    try (change wpAny _ _ _ _ _ _ _ (World.drew _))

    refine wpAny_take (i := 1) (v := ?_) rfl (by kernel_rfl) (by kernel_rfl) (by kernel_rfl) (fun _ _ _ h => h) (Or.inl ⟨by rfl, ?_⟩) ?_
    rotate_left
    · intro w; go_simp; try with_reducible rfl
    try simp only [Act.put, List.setIfInBounds_toArray, List.set_cons_zero, List.set_cons_succ, List.getElem_toArray, List.getElem_cons_succ, List.getElem_cons_zero]

    refine wpAny_ready (rs := [0]) (by kernel_rfl) (by simp) ?_
    refine AllReady.cons rfl (fun K hK => ?_) AllReady.nil
    refine step_load_rowM rfl 71 (.tmp 5) rfl (w.heap.size + 1 + 1) rfl 71 _ (0, 0) _ HGD.out Tryz.underlying71 rfl info_nodeM ?_
    refine hK _ _ ?_; clear hK K

    refine wpAny_ready (rs := [2]) (by kernel_rfl) (by simp) ?_
    refine AllReady.cons rfl (fun K hK => ?_) AllReady.nil
    refine step_store_rowM rfl 71 (.tmp 3) (.tmp 24) rfl (w.heap.size + 1) nodZ rfl rfl 71 _ HND.out info_nodeM rfl (by simp [nodZ, Value.oneCell']) ?_
    refine hK _ _ ?_; clear hK K

    refine wpAny_take (i := 3) (v := ?_) rfl (by kernel_rfl) (by kernel_rfl) (by kernel_rfl) (fun _ _ _ h => h) (Or.inl ⟨by rfl, ?_⟩) ?_
    rotate_left
    · intro w; go_simp; try with_reducible rfl
    try simp only [Act.put, List.setIfInBounds_toArray, List.set_cons_zero, List.set_cons_succ, List.getElem_toArray, List.getElem_cons_succ, List.getElem_cons_zero]

    refine wpAny_done (by kernel_rfl) ?_ _
    go_wp2_with fail
    refine bodyPost_ret (results_tctM rfl _ _ (w.heap.size + 1) 71 _ (0, 0) _ rfl HY.out Tryz.underlying71 rfl info_nodeM) rfl ⟨?_, ?_⟩
    · rw [HVV.out]; rfl
    · exact below_setRow HBD.out (Nat.le_succ _) _

  have bz : (((parE E.loc : Nat) : Int) != 0) = false := by rw [h1]; rfl
  have y12 : w2.cell? ⟨w.heap.size, 12, none⟩ = some (.string E.ext) := HS2.out.cellE 12 rfl
  go_wp2_with fail
  refine (HPX.out w2).mono ?_; rintro e w3 ⟨A2, c2, rfl, hF2, hb3⟩
  have HS3 := Lib.hid (HS2.out.next hb3)
  have HF13 := Lib.hid (HF1.out.below (Nat.le_refl _) hb3)
  have HF23 := Lib.hid hF2
  clear hF2 hb3 HS2 HPX y12 HF1 bz
  by_cases h2 : parE E.ext = 0
  case neg =>
    have bz : (((parE E.ext : Nat) : Int) != 0) = true := bne_iff_ne.2 (by omega)
    have HVV := Lib.hid (HVB.out h2)
    clear HVA HVB HVC HPT HFS HFO HFN HST HDO HOW HON HF13 HF23
    go_upto_region 7 with fail
    have HGD : Hid (w3.drew.heap[w.heap.size + 1 + 1]? = some (.cells nodZ 71 (0, 0))) := HS3.out.2.2.1
    have HND : Hid (w3.drew.heap[w.heap.size + 1]? = some (.cells nodZ 71 (0, 0))) := HS3.out.2.1
    have HBD := Lib.hid HS3.out.2.2.2.drew
    have HY := Lib.hid (setRow_heap _ _ _ nodZ _ _ HND.out)

    refine wp_region_any (by kernel_rfl) ?_
    try (change wpAny _ _ _ _ _ _ _ (World.drew _))

    refine wpAny_take (i := 1) (v := ?_) rfl (by kernel_rfl) (by kernel_rfl) (by kernel_rfl) (fun _ _ _ h => h) (Or.inl ⟨by rfl, ?_⟩) ?_
    rotate_left
    · intro w; go_simp; try with_reducible rfl
    try simp only [Act.put, List.setIfInBounds_toArray, List.set_cons_zero, List.set_cons_succ, List.getElem_toArray, List.getElem_cons_succ, List.getElem_cons_zero]

    refine wpAny_ready (rs := [0]) (by kernel_rfl) (by simp) ?_
    refine AllReady.cons rfl (fun K hK => ?_) AllReady.nil
    refine step_load_rowM rfl 71 (.tmp 5) rfl (w.heap.size + 1 + 1) rfl 71 _ (0, 0) _ HGD.out Tryz.underlying71 rfl info_nodeM ?_
    refine hK _ _ ?_; clear hK K

    refine wpAny_ready (rs := [2]) (by kernel_rfl) (by simp) ?_
    refine AllReady.cons rfl (fun K hK => ?_) AllReady.nil
    refine step_store_rowM rfl 71 (.tmp 3) (.tmp 33) rfl (w.heap.size + 1) nodZ rfl rfl 71 _ HND.out info_nodeM rfl (by simp [nodZ, Value.oneCell']) ?_
    refine hK _ _ ?_; clear hK K

    refine wpAny_take (i := 3) (v := ?_) rfl (by kernel_rfl) (by kernel_rfl) (by kernel_rfl) (fun _ _ _ h => h) (Or.inl ⟨by rfl, ?_⟩) ?_
    rotate_left
    · intro w; go_simp; try with_reducible rfl
    try simp only [Act.put, List.setIfInBounds_toArray, List.set_cons_zero, List.set_cons_succ, List.getElem_toArray, List.getElem_cons_succ, List.getElem_cons_zero]

    refine wpAny_done (by kernel_rfl) ?_ _
    go_wp2_with fail
    refine bodyPost_ret (results_tctM rfl _ _ (w.heap.size + 1) 71 _ (0, 0) _ rfl HY.out Tryz.underlying71 rfl info_nodeM) rfl ⟨?_, ?_⟩
    · rw [HVV.out]; rfl
    · exact below_setRow HBD.out (Nat.le_succ _) _

  have bz : (((parE E.ext : Nat) : Int) != 0) = false := by rw [h2]; rfl
  have HV1 := Lib.hid (HVC.out h1 h2)
  have HPP := Lib.hid (HPT.out A1 A2 c1 c2 w3 HF13.out HF23.out)
  simp only [Ent.cells] at HPP
  clear HVA HVB HVC HPT
  go_wp2_with (refine wpList_load_row rfl 32 (.tmp 1) rfl w.heap.size rfl 32 _ (0, 0) _ HS3.out.1 Tryz.underlying32 rfl info_entM ?_)
  refine HPP.out.mono ?_; rintro e w4 ⟨rfl, hb4⟩
  have HS4 := Lib.hid (HS3.out.next hb4)
  have HF14 := Lib.hid (HF13.out.below (Nat.le_refl _) hb4)
  have HF24 := Lib.hid (HF23.out.below (Nat.le_refl _) hb4)
  clear hb4 HS3 HF13 HF23 HPP bz h1 h2
  obtain ⟨pp, pd, pz⟩ := PT
  dsimp only at HV1 ⊢
  by_cases hz : pz = 0
  case neg =>
    have bz : (pz != 0) = true := bne_iff_ne.2 hz
    have HVV : Hid (V = meE pz) := by show _ = _; rw [HV1.out, if_neg hz]
    clear HV1 HFS HFO HFN HST HDO HOW HON HF14 HF24
    go_upto_region 10 with fail
    have HGD : Hid (w4.drew.heap[w.heap.size + 1 + 1]? = some (.cells nodZ 71 (0, 0))) := HS4.out.2.2.1
    have HND : Hid (w4.drew.heap[w.heap.size + 1]? = some (.cells nodZ 71 (0, 0))) := HS4.out.2.1
    have HBD := Lib.hid HS4.out.2.2.2.drew
    have HY := Lib.hid (setRow_heap _ _ _ nodZ _ _ HND.out)

    refine wp_region_any (by kernel_rfl) ?_
    try (change wpAny _ _ _ _ _ _ _ (World.drew _))

    refine wpAny_take (i := 1) (v := ?_) rfl (by kernel_rfl) (by kernel_rfl) (by kernel_rfl) (fun _ _ _ h => h) (Or.inl ⟨by rfl, ?_⟩) ?_
    rotate_left
    · intro w; go_simp; try with_reducible rfl
    try simp only [Act.put, List.setIfInBounds_toArray, List.set_cons_zero, List.set_cons_succ, List.getElem_toArray, List.getElem_cons_succ, List.getElem_cons_zero]

    refine wpAny_take (i := 2) (v := ?_) rfl (by kernel_rfl) (by kernel_rfl) (by kernel_rfl) (fun _ _ _ h => h) (Or.inl ⟨by rfl, ?_⟩) ?_
    rotate_left
    · intro w; go_simp; try with_reducible rfl
    try simp only [Act.put, List.setIfInBounds_toArray, List.set_cons_zero, List.set_cons_succ, List.getElem_toArray, List.getElem_cons_succ, List.getElem_cons_zero]

    refine wpAny_ready (rs := [0]) (by kernel_rfl) (by simp) ?_
    refine AllReady.cons rfl (fun K hK => ?_) AllReady.nil
    refine step_load_rowM rfl 71 (.tmp 5) rfl (w.heap.size + 1 + 1) rfl 71 _ (0, 0) _ HGD.out Tryz.underlying71 rfl info_nodeM ?_
    refine hK _ _ ?_; clear hK K

    refine wpAny_ready (rs := [3]) (by kernel_rfl) (by simp) ?_
    refine AllReady.cons rfl (fun K hK => ?_) AllReady.nil
    refine step_store_rowM rfl 71 (.tmp 3) (.tmp 44) rfl (w.heap.size + 1) nodZ rfl rfl 71 _ HND.out info_nodeM rfl (by simp [nodZ, Value.oneCell']) ?_
    refine hK _ _ ?_; clear hK K

    refine wpAny_take (i := 4) (v := ?_) rfl (by kernel_rfl) (by kernel_rfl) (by kernel_rfl) (fun _ _ _ h => h) (Or.inl ⟨by rfl, ?_⟩) ?_
    rotate_left
    · intro w; go_simp; try with_reducible rfl
    try simp only [Act.put, List.setIfInBounds_toArray, List.set_cons_zero, List.set_cons_succ, List.getElem_toArray, List.getElem_cons_succ, List.getElem_cons_zero]

    refine wpAny_done (by kernel_rfl) ?_ _
    go_wp2_with fail
    refine bodyPost_ret (results_tctM rfl _ _ (w.heap.size + 1) 71 _ (0, 0) _ rfl HY.out Tryz.underlying71 rfl info_nodeM) rfl ⟨?_, ?_⟩
    · rw [HVV.out]; rfl
    · exact below_setRow HBD.out (Nat.le_succ _) _

  subst hz
  rw [if_pos rfl] at HV1
  have y10 : w4.cell? ⟨w.heap.size, 10, none⟩ = some (.int .u32 (E.outer : Nat)) := HS4.out.cellE 10 rfl
  have y1 : w4.cell? ⟨w.heap.size, 1, none⟩ = some (.int .u16 (E.made : Nat)) := HS4.out.cellE 1 rfl
  go_upto_region 12 with fail

  go_cut [56] from 16 (fun v wx => v = .bool (unxB E) ∧ wx = w4)
  case first =>
    as_aux_lemma =>
      by_cases hu : (E.made : Int) / 256 = 3
      · have bu : ((E.made : Int) / 256 == 3) = true := by rw [hu]; rfl
        by_cases hs : (E.outer : Int) / 268435456 = 0
        · have bs : ((E.outer : Int) / 268435456 != 0) = false := by rw [hs]; rfl
          have HUU : Hid (unxB E = false) := by show _ = _; rw [HUX.out, hs]; simp
          clear hu hs
          go_wp2_with fail
          go_meet
          case rel => exact ⟨by rw [HUU.out], rfl⟩
        · have bs : ((E.outer : Int) / 268435456 != 0) = true := bne_iff_ne.2 hs
          have HUU : Hid (unxB E = true) := by show _ = _; rw [HUX.out, decide_eq_true hu, beq_eq_false_iff_ne.2 hs]; rfl
          clear hu hs
          go_wp2_with fail
          go_meet
          case rel => exact ⟨by rw [HUU.out], rfl⟩
      · have bu : ((E.made : Int) / 256 == 3) = false := beq_eq_false_iff_ne.2 hu
        have HUU : Hid (unxB E = false) := by show _ = _; rw [HUX.out, decide_eq_false hu]; rfl
        clear hu
        go_wp2_with fail
        go_meet
        case rel => exact ⟨by rw [HUU.out], rfl⟩
  case rest =>
    obtain ⟨rfl, hwc⟩ := hcut
    have hwc := hwc.symm
    subst hwc
    have HKK := Lib.hid (HBK.out pd)
    have HKM := Lib.hid (HBM.out pd)
    have HKB := Lib.hid (HBB.out pd)
    clear HUX HRT HBK HBM HBB
    generalize unxB E = U at *
    generalize hbk : barK E pd = bk at *
    generalize hbm : barM E pd = bm at *
    generalize hbb : barB E pd = bb at *
    clear hbk hbm hbb
    go_upto_if 56 with fail
    go_cut [] from 16 (fun wx => Hid (bb = true) ∧ Hid (MtS w E #[.int .i64 bk, .int .u32 bm, .int .u32 0, .int .u32 0, .int .i64 0, .int .i64 0, .string ⟨#[]⟩] wx) ∧ Hid (Fds wx A1 L1) ∧ Hid (Fds wx A2 L2))
    case first =>
      as_aux_lemma =>
        cases U with
        | false =>
          have y0 : w4.cell? ⟨w.heap.size + 1 + 1, 0, none⟩ = some (.int .i64 0) := HS4.out.cellN 0 rfl
          have y1 : w4.cell? ⟨w.heap.size + 1 + 1, 1, none⟩ = some (.int .u32 0) := HS4.out.cellN 1 rfl
          have z0 := HS4.out.frz 0
          have z1 := HS4.out.frz 1
          have HFX : Hid (∀ (A : Option Addr) (l : List Fd) (v1 : Int) (v2 : Int), Fds w4 A l → Fds ((w4.setCell ⟨w.heap.size + 1 + 1, 0, none⟩ (.int .i64 v1)).setCell ⟨w.heap.size + 1 + 1, 1, none⟩ (.int .u32 v2)) A l) := fun A l v1 v2 h => Fds.nod (Fds.nod h HS4.out.2.2.1 0 _) (HS4.out.set 0 (.int .i64 v1)).2.2.1 1 _
          cases pd with
          | true =>
            have e1 : bk = 1 := HKK.out
            have e2 : bm = 493 := HKM.out
            have HSX : Hid (MtS w E #[.int .i64 bk, .int .u32 bm, .int .u32 0, .int .u32 0, .int .i64 0, .int .i64 0, .string ⟨#[]⟩] ((w4.setCell ⟨w.heap.size + 1 + 1, 0, none⟩ (.int .i64 1)).setCell ⟨w.heap.size + 1 + 1, 1, none⟩ (.int .u32 493))) := by rw [e1, e2]; exact (HS4.out.set 0 _).set 1 _
            have HBT : Hid (bb = true) := by show _ = _; rw [HKB.out, e1]; rfl
            clear e1 e2
            go_wp2_with fail
            go_meet
            case rel => exact ⟨HBT, HSX, HFX.out _ _ _ _ HF14.out, HFX.out _ _ _ _ HF24.out⟩
          | false =>
            have e1 : bk = 2 := HKK.out
            have e2 : bm = 420 := HKM.out
            have HSX : Hid (MtS w E #[.int .i64 bk, .int .u32 bm, .int .u32 0, .int .u32 0, .int .i64 0, .int .i64 0, .string ⟨#[]⟩] ((w4.setCell ⟨w.heap.size + 1 + 1, 0, none⟩ (.int .i64 2)).setCell ⟨w.heap.size + 1 + 1, 1, none⟩ (.int .u32 420))) := by rw [e1, e2]; exact (HS4.out.set 0 _).set 1 _
            have HBT : Hid (bb = true) := by show _ = _; rw [HKB.out, e1]; rfl
            clear e1 e2
            go_wp2_with fail
            go_meet
            case rel => exact ⟨HBT, HSX, HFX.out _ _ _ _ HF14.out, HFX.out _ _ _ _ HF24.out⟩
        | true =>
          have HS := Lib.hid ((by omega : 0 ≤ (E.outer : Int) / 268435456 ∧ (E.outer : Int) / 268435456 ≤ 4294967295))
          have e1 : bk = kinI ((E.outer : Int) / 268435456) := HKK.out
          have HE1 := Lib.hid e1
          have HE2 : Hid (bm = (E.outer : Int) / 65536 % 4096) := HKM.out
          generalize hsn : (E.outer : Int) / 268435456 = sn at *
          have HW : Hid ((Lit.int .u32 sn).wf = true) := by
            show (decide (_ ≤ sn) && decide (sn ≤ _)) = true
            rw [Bool.and_eq_true, decide_eq_true_iff, decide_eq_true_iff]
            exact ⟨HS.out.1, HS.out.2⟩
          have HSN := Lib.hid hsn
          clear hsn e1 HKK HKM
          have HM0 := Lib.hid (World.ownsMap_made (H := Unit) w4 Tryz.prog 29 (plainElem Tryz.prog 3))
          have HG0 := Lib.hid ((Below.refl w4.heap.size w4).alloc (Nat.le_refl _) (.map #[] 0))
          go_upto_region 14 with (first
            | (refine wpList_insertM _ rfl _ _ _ 125 rfl 29 3 keyU Tryz.underlying125 (plainElem Tryz.prog 3) w4.heap.size 2 _ rfl hm2 (by unfold maxLen; omega) _ _ (.int .u32 10) rfl rfl (Maps.keyOf_int_mk Tryz.underlying29 (by decide)) (.lit (.int .i64 3)) [] (plainElem_int Tryz.underlying3 (by decide)) ?_; intro x3 hm3 hg3)
            | (refine wpList_insertM _ rfl _ _ _ 125 rfl 29 3 keyU Tryz.underlying125 (plainElem Tryz.prog 3) w4.heap.size 1 _ rfl hm1 (by unfold maxLen; omega) _ _ (.int .u32 8) rfl rfl (Maps.keyOf_int_mk Tryz.underlying29 (by decide)) (.lit (.int .i64 2)) [] (plainElem_int Tryz.underlying3 (by decide)) ?_; intro x2 hm2 hg2)
            | (refine wpList_insertM _ rfl _ _ _ 125 rfl 29 3 keyU Tryz.underlying125 (plainElem Tryz.prog 3) w4.heap.size 0 _ rfl HM0.out (by unfold maxLen; omega) _ _ (.int .u32 4) rfl rfl (Maps.keyOf_int_mk Tryz.underlying29 (by decide)) (.lit (.int .i64 1)) [] (plainElem_int Tryz.underlying3 (by decide)) ?_; intro x1 hm1 hg1)
            | (at_lookup; refine wpList_lookup_own_int _ rfl _ _ 125 rfl 29 3 .i64 keyU Tryz.underlying125 Tryz.underlying3 (zero_intM _) w4.heap.size 3 _ rfl hm3 _ _ rfl (Maps.keyOf_int_mk Tryz.underlying29 HW.out) ?_; intro c hc hcw))
          have hck : c = kinI sn := by
            rw [kin_at] at hc
            injection hc with hc
            injection hc with _ hc
            exact hc.symm
          obtain rfl : c = bk := hck.trans HE1.out.symm
          have hb3 : Below w4.heap.size w4 x3 := ((HG0.out.grown hg1 HG0.out.size (fun q hq => by injection hq with hq; subst hq; exact Nat.le_refl _)).grown hg2 (HG0.out.grown hg1 HG0.out.size (fun q hq => by injection hq with hq; subst hq; exact Nat.le_refl _)).size (fun q hq => by injection hq with hq; subst hq; exact Nat.le_refl _)).grown hg3 ((HG0.out.grown hg1 HG0.out.size (fun q hq => by injection hq with hq; subst hq; exact Nat.le_refl _)).grown hg2 (HG0.out.grown hg1 HG0.out.size (fun q hq => by injection hq with hq; subst hq; exact Nat.le_refl _)).size (fun q hq => by injection hq with hq; subst hq; exact Nat.le_refl _)).size (fun q hq => by injection hq with hq; subst hq; exact Nat.le_refl _)
          have HS5 := Lib.hid (HS4.out.next hb3)
          have HF15 := Lib.hid (HF14.out.below (Nat.le_refl _) hb3)
          have HF25 := Lib.hid (HF24.out.below (Nat.le_refl _) hb3)
          have HBN := Lib.hid HE1.out
          clear hck hc hcw hg1 hg2 hg3 hm1 hm2 hm3 hb3 HM0 HG0 HW HS HE1 HS4 HF14 HF24 y10 y1 hmm
          by_cases k0 : c = 0
          · have b0 : (c == 0) = true := by rw [k0]; rfl
            have HVV : Hid (V = meE 42) := by show _ = _; rw [HV1.out, if_neg (by rw [HKB.out, b0]; simp)]
            clear k0 HV1 HKB
            go_wp2_with fail
            go_upto_region 15 with fail
            have HGD : Hid (x3.drew.heap[w.heap.size + 1 + 1]? = some (.cells nodZ 71 (0, 0))) := HS5.out.2.2.1
            have HND : Hid (x3.drew.heap[w.heap.size + 1]? = some (.cells nodZ 71 (0, 0))) := HS5.out.2.1
            have HBD := Lib.hid HS5.out.2.2.2.drew
            have HY := Lib.hid (setRow_heap _ _ _ nodZ _ _ HND.out)

            refine wp_region_any (by kernel_rfl) ?_
            try (change wpAny _ _ _ _ _ _ _ (World.drew _))

            refine wpAny_take (i := 1) (v := ?_) rfl (by kernel_rfl) (by kernel_rfl) (by kernel_rfl) (fun _ _ _ h => h) (Or.inl ⟨by rfl, ?_⟩) ?_
            rotate_left
            · intro w; go_simp; try with_reducible rfl
            try simp only [Act.put, List.setIfInBounds_toArray, List.set_cons_zero, List.set_cons_succ, List.getElem_toArray, List.getElem_cons_succ, List.getElem_cons_zero]

            refine wpAny_ready (rs := [0]) (by kernel_rfl) (by simp) ?_
            refine AllReady.cons rfl (fun K hK => ?_) AllReady.nil
            refine step_load_rowM rfl 71 (.tmp 5) rfl (w.heap.size + 1 + 1) rfl 71 _ (0, 0) _ HGD.out Tryz.underlying71 rfl info_nodeM ?_
            refine hK _ _ ?_; clear hK K

            refine wpAny_ready (rs := [2]) (by kernel_rfl) (by simp) ?_
            refine AllReady.cons rfl (fun K hK => ?_) AllReady.nil
            refine step_store_rowM rfl 71 (.tmp 3) (.tmp 69) rfl (w.heap.size + 1) nodZ rfl rfl 71 _ HND.out info_nodeM rfl (by simp [nodZ, Value.oneCell']) ?_
            refine hK _ _ ?_; clear hK K

            refine wpAny_take (i := 3) (v := ?_) rfl (by kernel_rfl) (by kernel_rfl) (by kernel_rfl) (fun _ _ _ h => h) (Or.inl ⟨by rfl, ?_⟩) ?_
            rotate_left
            · intro w; go_simp; try with_reducible rfl
            try simp only [Act.put, List.setIfInBounds_toArray, List.set_cons_zero, List.set_cons_succ, List.getElem_toArray, List.getElem_cons_succ, List.getElem_cons_zero]

            refine wpAny_done (by kernel_rfl) ?_ _
            go_wp2_with fail
            refine bodyPost_ret (results_tctM rfl _ _ (w.heap.size + 1) 71 _ (0, 0) _ rfl HY.out Tryz.underlying71 rfl info_nodeM) rfl ⟨?_, ?_⟩
            · rw [HVV.out]; rfl
            · exact below_setRow HBD.out (Nat.le_succ _) _
          have b0 : (c == 0) = false := beq_eq_false_iff_ne.2 k0
          have y10 : x3.cell? ⟨w.heap.size, 10, none⟩ = some (.int .u32 (E.outer : Nat)) := HS5.out.cellE 10 rfl
          have y10' : (x3.setCell ⟨w.heap.size + 1 + 1, 0, none⟩ (.int .i64 c)).cell? ⟨w.heap.size, 10, none⟩ = some (.int .u32 (E.outer : Nat)) := (HS5.out.set 0 _).cellE 10 rfl
          have y0 : x3.cell? ⟨w.heap.size + 1 + 1, 0, none⟩ = some (.int .i64 0) := HS5.out.cellN 0 rfl
          have y1 : x3.cell? ⟨w.heap.size + 1 + 1, 1, none⟩ = some (.int .u32 0) := HS5.out.cellN 1 rfl
          have z0 := HS5.out.frz 0
          have z1 := HS5.out.frz 1
          have HSX : Hid (MtS w E #[.int .i64 c, .int .u32 bm, .int .u32 0, .int .u32 0, .int .i64 0, .int .i64 0, .string ⟨#[]⟩] ((x3.setCell ⟨w.heap.size + 1 + 1, 0, none⟩ (.int .i64 c)).setCell ⟨w.heap.size + 1 + 1, 1, none⟩ (.int .u32 ((E.outer : Int) / 65536 % 4096)))) := by rw [HE2.out]; exact (HS5.out.set 0 _).set 1 _
          have HFX : Hid (∀ (A : Option Addr) (l : List Fd) (v1 : Int) (v2 : Int), Fds x3 A l → Fds ((x3.setCell ⟨w.heap.size + 1 + 1, 0, none⟩ (.int .i64 v1)).setCell ⟨w.heap.size + 1 + 1, 1, none⟩ (.int .u32 v2)) A l) := fun A l v1 v2 h => Fds.nod (Fds.nod h HS5.out.2.2.1 0 _) (HS5.out.set 0 (.int .i64 v1)).2.2.1 1 _
          clear k0
          by_cases k1 : c = 1
          · have b1 : (c == 1) = true := by rw [k1]; rfl
            cases pd with
            | false =>
              have HVV : Hid (V = meE 42) := by show _ = _; rw [HV1.out, if_neg (by rw [HKB.out, b0, b1]; decide)]
              clear k1 HV1 HKB HSX HFX y10 y10' y0 y1 z0 z1
              go_wp2_with fail
              go_upto_region 15 with fail
              have HGD : Hid (x3.drew.heap[w.heap.size + 1 + 1]? = some (.cells nodZ 71 (0, 0))) := HS5.out.2.2.1
              have HND : Hid (x3.drew.heap[w.heap.size + 1]? = some (.cells nodZ 71 (0, 0))) := HS5.out.2.1
              have HBD := Lib.hid HS5.out.2.2.2.drew
              have HY := Lib.hid (setRow_heap _ _ _ nodZ _ _ HND.out)

              refine wp_region_any (by kernel_rfl) ?_
              try (change wpAny _ _ _ _ _ _ _ (World.drew _))

              refine wpAny_take (i := 1) (v := ?_) rfl (by kernel_rfl) (by kernel_rfl) (by kernel_rfl) (fun _ _ _ h => h) (Or.inl ⟨by rfl, ?_⟩) ?_
              rotate_left
              · intro w; go_simp; try with_reducible rfl
              try simp only [Act.put, List.setIfInBounds_toArray, List.set_cons_zero, List.set_cons_succ, List.getElem_toArray, List.getElem_cons_succ, List.getElem_cons_zero]

              refine wpAny_ready (rs := [0]) (by kernel_rfl) (by simp) ?_
              refine AllReady.cons rfl (fun K hK => ?_) AllReady.nil
              refine step_load_rowM rfl 71 (.tmp 5) rfl (w.heap.size + 1 + 1) rfl 71 _ (0, 0) _ HGD.out Tryz.underlying71 rfl info_nodeM ?_
              refine hK _ _ ?_; clear hK K

              refine wpAny_ready (rs := [2]) (by kernel_rfl) (by simp) ?_
              refine AllReady.cons rfl (fun K hK => ?_) AllReady.nil
              refine step_store_rowM rfl 71 (.tmp 3) (.tmp 69) rfl (w.heap.size + 1) nodZ rfl rfl 71 _ HND.out info_nodeM rfl (by simp [nodZ, Value.oneCell']) ?_
              refine hK _ _ ?_; clear hK K

              refine wpAny_take (i := 3) (v := ?_) rfl (by kernel_rfl) (by kernel_rfl) (by kernel_rfl) (fun _ _ _ h => h) (Or.inl ⟨by rfl, ?_⟩) ?_
              rotate_left
              · intro w; go_simp; try with_reducible rfl
              try simp only [Act.put, List.setIfInBounds_toArray, List.set_cons_zero, List.set_cons_succ, List.getElem_toArray, List.getElem_cons_succ, List.getElem_cons_zero]

              refine wpAny_done (by kernel_rfl) ?_ _
              go_wp2_with fail
              refine bodyPost_ret (results_tctM rfl _ _ (w.heap.size + 1) 71 _ (0, 0) _ rfl HY.out Tryz.underlying71 rfl info_nodeM) rfl ⟨?_, ?_⟩
              · rw [HVV.out]; rfl
              · exact below_setRow HBD.out (Nat.le_succ _) _
            | true =>
              have HBT : Hid (bb = true) := by show _ = _; rw [HKB.out, b0, b1]; rfl
              clear k1
              go_wp2_with fail
              go_meet
              case rel => exact ⟨HBT, HSX, HFX.out _ _ _ _ HF15.out, HFX.out _ _ _ _ HF25.out⟩
          · have b1 : (c == 1) = false := beq_eq_false_iff_ne.2 k1
            cases pd with
            | true =>
              have HVV : Hid (V = meE 42) := by show _ = _; rw [HV1.out, if_neg (by rw [HKB.out, b0, b1]; decide)]
              clear k1 HV1 HKB HSX HFX y10 y10' y0 y1 z0 z1
              go_wp2_with fail
              go_upto_region 15 with fail
              have HGD : Hid (x3.drew.heap[w.heap.size + 1 + 1]? = some (.cells nodZ 71 (0, 0))) := HS5.out.2.2.1
              have HND : Hid (x3.drew.heap[w.heap.size + 1]? = some (.cells nodZ 71 (0, 0))) := HS5.out.2.1
              have HBD := Lib.hid HS5.out.2.2.2.drew
              have HY := Lib.hid (setRow_heap _ _ _ nodZ _ _ HND.out)

              refine wp_region_any (by kernel_rfl) ?_
              try (change wpAny _ _ _ _ _ _ _ (World.drew _))

              refine wpAny_take (i := 1) (v := ?_) rfl (by kernel_rfl) (by kernel_rfl) (by kernel_rfl) (fun _ _ _ h => h) (Or.inl ⟨by rfl, ?_⟩) ?_
              rotate_left
              · intro w; go_simp; try with_reducible rfl
              try simp only [Act.put, List.setIfInBounds_toArray, List.set_cons_zero, List.set_cons_succ, List.getElem_toArray, List.getElem_cons_succ, List.getElem_cons_zero]

              refine wpAny_ready (rs := [0]) (by kernel_rfl) (by simp) ?_
              refine AllReady.cons rfl (fun K hK => ?_) AllReady.nil
              refine step_load_rowM rfl 71 (.tmp 5) rfl (w.heap.size + 1 + 1) rfl 71 _ (0, 0) _ HGD.out Tryz.underlying71 rfl info_nodeM ?_
              refine hK _ _ ?_; clear hK K

              refine wpAny_ready (rs := [2]) (by kernel_rfl) (by simp) ?_
              refine AllReady.cons rfl (fun K hK => ?_) AllReady.nil
              refine step_store_rowM rfl 71 (.tmp 3) (.tmp 69) rfl (w.heap.size + 1) nodZ rfl rfl 71 _ HND.out info_nodeM rfl (by simp [nodZ, Value.oneCell']) ?_
              refine hK _ _ ?_; clear hK K

              refine wpAny_take (i := 3) (v := ?_) rfl (by kernel_rfl) (by kernel_rfl) (by kernel_rfl) (fun _ _ _ h => h) (Or.inl ⟨by rfl, ?_⟩) ?_
              rotate_left
              · intro w; go_simp; try with_reducible rfl
              try simp only [Act.put, List.setIfInBounds_toArray, List.set_cons_zero, List.set_cons_succ, List.getElem_toArray, List.getElem_cons_succ, List.getElem_cons_zero]

              refine wpAny_done (by kernel_rfl) ?_ _
              go_wp2_with fail
              refine bodyPost_ret (results_tctM rfl _ _ (w.heap.size + 1) 71 _ (0, 0) _ rfl HY.out Tryz.underlying71 rfl info_nodeM) rfl ⟨?_, ?_⟩
              · rw [HVV.out]; rfl
              · exact below_setRow HBD.out (Nat.le_succ _) _
            | false =>
              have HBT : Hid (bb = true) := by show _ = _; rw [HKB.out, b0, b1]; rfl
              clear k1
              go_wp2_with fail
              go_meet
              case rel => exact ⟨HBT, HSX, HFX.out _ _ _ _ HF15.out, HFX.out _ _ _ _ HF25.out⟩
    case rest =>
      obtain ⟨HBT, HS5, HF15, HF25⟩ := hcut
      rw [if_pos HBT.out] at HV1
      clear HKK HKM HKB HBT HS4 HF14 HF24 y10 y1 hmm
      have HQ := Lib.hid (HFS.out A1 A2 c1 c2 wc HF15.out HF25.out)
      clear HFS
      go_wp2_with fail
      refine HQ.out.mono ?_; rintro e w6 ⟨rfl, hb6⟩
      have HS6 := Lib.hid (HS5.out.next hb6)
      have HF16 := Lib.hid (HF15.out.below (Nat.le_refl _) hb6)
      have HF26 := Lib.hid (HF25.out.below (Nat.le_refl _) hb6)
      clear hb6 HQ HS5 HF15 HF25
      obtain ⟨w7, hw7⟩ : ∃ w7, w7 = w6.alloc (.cells #[.int .u8 0, .int .i32 0, .int .i32 0, .int .i32 0] 130) := ⟨_, rfl⟩
      have hb7 : Below w6.heap.size w6 w7 := by rw [hw7]; exact (Below.refl _ _).alloc (Nat.le_refl _) _
      have HT7 : Hid (w7.heap[w6.heap.size]? = some (.cells #[.int .u8 0, .int .i32 0, .int .i32 0, .int .i32 0] 130 (0, 0))) := by show _ = _; rw [hw7]; exact heap_alloc_new w6 _
      have HB7 := Lib.hid hb7
      have HW7 := Lib.hid hw7
      have HGS : Hid (w.heap.size + 1 + 1 < w6.heap.size) := HS6.out.lt
      clear hb7 hw7
      go_upto_if 89 with fail
      rw [← HW7.out]
      clear HW7
      generalize hgs : w6.heap.size = gs at *
      have HGE := Lib.hid hgs
      clear hgs
      go_cut [7] from 16 (fun v wx => v = .int .i64 0 ∧ Hid (X.z = 0) ∧ Hid (MtS w E #[.int .i64 bk, .int .u32 bm, .int .u32 0, .int .u32 0, .int .i64 0, .int .i64 0, .string ⟨#[]⟩] wx) ∧ Hid (Fds wx A1 L1) ∧ Hid (Fds wx A2 L2) ∧ Hid (wx.heap[gs]? = some (.cells #[.int .u8 X.f, .int .i32 X.a, .int .i32 X.b, .int .i32 X.c] 130 (0, 0))))
      case first =>
        as_aux_lemma =>
          by_cases h0 : sw = 0
          · have hx : X = ⟨0, 0, 0, 0, 0⟩ := by rw [HXE.out, if_pos h0]
            have d0 : decide (0 < sw) = false := decide_eq_false (by omega)
            have p0 : ¬ 0 < sw := by omega
            have p0' : sw ≤ 0 := by omega
            have HXZ : Hid (X.z = 0) := by show _ = _; rw [hx]
            have HTX : Hid (w7.heap[gs]? = some (.cells #[.int .u8 X.f, .int .i32 X.a, .int .i32 X.b, .int .i32 X.c] 130 (0, 0))) := by show _ = _; rw [hx]; exact HT7.out
            have HBX : Below w6.heap.size w6 w7 := by rw [HGE.out]; exact HB7.out
            have HS7 := Lib.hid (HS6.out.next HBX)
            have HF17 := Lib.hid (HF16.out.below (Nat.le_refl _) HBX)
            have HF27 := Lib.hid (HF26.out.below (Nat.le_refl _) HBX)
            clear h0 hx HBX
            go_wp2_with fail
            go_meet
            case rel => exact ⟨rfl, HXZ, HS7, HF17, HF27, HTX⟩
          · have hx : X = XT := by rw [HXE.out, if_neg h0]
            have p0 : 0 < sw := by have := HSW.out; omega
            have d0 : decide (0 < sw) = true := decide_eq_true p0
            have HQ := Lib.hid (HST.out w7)
            unfold StT.val at HQ
            rw [← hx] at HQ
            clear h0 hx
            go_wp2_with fail
            refine HQ.out.mono ?_; rintro e w8 ⟨rfl, hb8⟩
            have hbx : Below w6.heap.size w6 w8 := below_then (by rw [HGE.out]; exact HB7.out) hb8
            have HT8 := Lib.hid ((hb8.block _ (lt_of_block HT7.out)).trans HT7.out)
            have HY := Lib.hid (setRow_heap _ _ _ #[.int .u8 X.f, .int .i32 X.a, .int .i32 X.b, .int .i32 X.c] _ _ HT8.out)
            have hby : Below w6.heap.size w6 (w8.setRow gs #[.int .u8 X.f, .int .i32 X.a, .int .i32 X.b, .int .i32 X.c]) := below_setRow hbx (by rw [HGE.out]; exact Nat.le_refl _) _
            have HS9 := Lib.hid (HS6.out.next hby)
            have HF19 := Lib.hid (HF16.out.below (Nat.le_refl _) hby)
            have HF29 := Lib.hid (HF26.out.below (Nat.le_refl _) hby)
            clear hb8 hbx hby HQ
            go_upto_region 27 with (refine wpList_store_row rfl 130 (.tmp 15) (.tmp 95) rfl gs #[.int .u8 X.f, .int .i32 X.a, .int .i32 X.b, .int .i32 X.c] rfl rfl 130 _ HT8.out info_rstamp rfl (by simp [Value.oneCell']) ?_)
            generalize w8.setRow gs #[.int .u8 X.f, .int .i32 X.a, .int .i32 X.b, .int .i32 X.c] = w9 at *
            by_cases hz : X.z = 0
            · have bz : (X.z != 0) = false := by rw [hz]; rfl
              have HXZ := Lib.hid hz
              have HZV : Hid (Value.int .i64 X.z = .int .i64 0) := by show _ = _; rw [hz]
              clear hz
              go_wp2_with fail
              go_meet
              case rel => exact ⟨HZV.out, HXZ, HS9, HF19, HF29, HY⟩
            · have bz : (X.z != 0) = true := bne_iff_ne.2 hz
              have HVV : Hid (V = meE X.z) := by show _ = _; rw [HV1.out, if_neg hz]
              clear HV1 hz
              go_wp2_with (refine wpList_store_row rfl 71 (.tmp 3) (.tmp 99) rfl (w.heap.size + 1) nodZ rfl rfl 71 _ HS9.out.2.1 info_nodeM rfl (by simp [nodZ, Value.oneCell']) ?_)
              have HY := Lib.hid (setRow_heap _ _ _ nodZ _ _ HS9.out.2.1)
              refine bodyPost_ret (results_tctM rfl _ _ (w.heap.size + 1) 71 _ (0, 0) _ rfl HY.out Tryz.underlying71 rfl info_nodeM) rfl ⟨?_, ?_⟩
              · rw [HVV.out]; rfl
              · exact below_setRow HS9.out.2.2.2 (Nat.le_succ _) _

      case rest =>
        obtain ⟨rfl, HXZ, HS8, HF18, HF28, HT8⟩ := hcut
        rw [if_pos HXZ.out] at HV1
        clear HST HS6 HF16 HF26 HT7 HB7 HXE HSW HGE HXZ
        obtain ⟨s0, s1, s2⟩ := stamp_cells HT8.out
        obtain ⟨hXF, hXA, hXB⟩ := HXO.out
        have HXA : Hid (wrap64 X.a = X.a ∧ IntKind.i64.wrap X.a = X.a) := ⟨w64_id hXA, by rw [IntKind.wrap_i64]; omega⟩
        have HXB : Hid (wrap64 X.b = X.b ∧ IntKind.i64.wrap X.b = X.b) := ⟨w64_id hXB, by rw [IntKind.wrap_i64]; omega⟩
        obtain ⟨kf, hkf, hXf⟩ := hXF
        have ht2 : X.f.tdiv 2 = X.f / 2 := Int.tdiv_eq_ediv_of_nonneg (by omega)
        have hm2 : X.f.tmod 2 = X.f % 2 := Int.tmod_eq_emod_of_nonneg (by omega)
        clear HXO hXf hkf hXA hXB
        go_upto_if 104 with fail
        go_cut [7] from 16 (fun v wx => v = .int .i64 0 ∧ Hid (MT.2 = 0) ∧ Hid (MtS w E #[.int .i64 bk, .int .u32 bm, .int .u32 0, .int .u32 0, .int .i64 MT.1, .int .i64 0, .string ⟨#[]⟩] wx) ∧ Hid (Fds wx A1 L1) ∧ Hid (Fds wx A2 L2) ∧ Hid (wx.heap[gs]? = some (.cells #[.int .u8 X.f, .int .i32 X.a, .int .i32 X.b, .int .i32 X.c] 130 (0, 0))))
        case first =>
          as_aux_lemma =>
            by_cases hf : X.f % 2 = 1
            · have bf : (X.f % 2 == 1) = true := by rw [hf]; rfl
              have hm : MT = (X.a, 0) := by rw [HMT.out, if_pos hf]
              have hm1 : MT.1 = X.a := by rw [hm]
              have HM2 : Hid (MT.2 = 0) := by show _ = _; rw [hm]
              have e1 : IntKind.i64.wrap X.a = X.a := HXA.out.2
              have e2 : wrap64 X.a = X.a := HXA.out.1
              have y4 : wc.cell? ⟨w.heap.size + 1 + 1, 4, none⟩ = some (.int .i64 0) := HS8.out.cellN 4 rfl
              have z4 := HS8.out.frz 4
              have HSX : Hid (MtS w E #[.int .i64 bk, .int .u32 bm, .int .u32 0, .int .u32 0, .int .i64 MT.1, .int .i64 0, .string ⟨#[]⟩] (wc.setCell ⟨w.heap.size + 1 + 1, 4, none⟩ (.int .i64 X.a))) := by rw [hm1]; exact HS8.out.set 4 _
              have HF1X := Lib.hid (Fds.nod HF18.out HS8.out.2.2.1 4 (.int .i64 X.a))
              have HF2X := Lib.hid (Fds.nod HF28.out HS8.out.2.2.1 4 (.int .i64 X.a))
              have HTX : Hid ((wc.setCell ⟨w.heap.size + 1 + 1, 4, none⟩ (.int .i64 X.a)).heap[gs]? = _) := (Below.heap_setCell _ _ _ _ (by have := HGS.out; simp only [ne_eq]; omega)).trans HT8.out
              clear hf hm hm1
              go_wp2_with fail
              go_meet
              case rel => exact ⟨rfl, HM2, HSX, HF1X, HF2X, HTX⟩
            · have bf : (X.f % 2 == 1) = false := beq_eq_false_iff_ne.2 hf
              have hm : MT = (((dosT E.time).1, (((dosT E.time).2 : Nat) : Int)) : Int × Int) := by rw [HMT.out, if_neg hf]
              have y5 : wc.cell? ⟨w.heap.size, 5, none⟩ = some (.int .u32 (E.time : Nat)) := HS8.out.cellE 5 rfl
              have HQ := Lib.hid (HDO.out wc)
              have hm1 : MT.1 = (dosT E.time).1 := by rw [hm]
              have hm2 : MT.2 = (((dosT E.time).2 : Nat) : Int) := by rw [hm]
              generalize (dosT E.time).1 = dt at *
              generalize (dosT E.time).2 = dz at *
              have HM1 := Lib.hid hm1
              have HM2 := Lib.hid hm2
              clear hf hm hm1 hm2 HMT HDO s0 s1 s2
              go_wp2_with fail
              refine HQ.out.mono ?_; rintro e w9 ⟨rfl, hb9⟩
              have HS9 := Lib.hid (HS8.out.next hb9)
              have HF19 := Lib.hid (HF18.out.below (Nat.le_refl _) hb9)
              have HF29 := Lib.hid (HF28.out.below (Nat.le_refl _) hb9)
              have HT9 := Lib.hid ((hb9.block _ (lt_of_block HT8.out)).trans HT8.out)
              have y4 : w9.cell? ⟨w.heap.size + 1 + 1, 4, none⟩ = some (.int .i64 0) := HS9.out.cellN 4 rfl
              have z4 := HS9.out.frz 4
              have HSX : Hid (MtS w E #[.int .i64 bk, .int .u32 bm, .int .u32 0, .int .u32 0, .int .i64 MT.1, .int .i64 0, .string ⟨#[]⟩] (w9.setCell ⟨w.heap.size + 1 + 1, 4, none⟩ (.int .i64 dt))) := by rw [HM1.out]; exact HS9.out.set 4 _
              have HF1X := Lib.hid (Fds.nod HF19.out HS9.out.2.2.1 4 (.int .i64 dt))
              have HF2X := Lib.hid (Fds.nod HF29.out HS9.out.2.2.1 4 (.int .i64 dt))
              have HTX : Hid ((w9.setCell ⟨w.heap.size + 1 + 1, 4, none⟩ (.int .i64 dt)).heap[gs]? = _) := (Below.heap_setCell _ _ _ _ (by have := HGS.out; simp only [ne_eq]; omega)).trans HT9.out
              clear hb9 HQ HS8 HF18 HF28 HT8 y5
              by_cases hz : dz = 0
              · have bz : (((dz : Nat) : Int) != 0) = false := by rw [hz]; rfl
                have HZV : Hid (Value.int .i64 (dz : Nat) = .int .i64 0) := by show _ = _; rw [hz]; rfl
                have HMZ : Hid (MT.2 = 0) := by show _ = _; rw [HM2.out, hz]; rfl
                clear hz
                go_wp2_with fail
                go_meet
                case rel => exact ⟨HZV.out, HMZ, HSX, HF1X, HF2X, HTX⟩
              · have bz : (((dz : Nat) : Int) != 0) = true := bne_iff_ne.2 (by omega)
                have HVV : Hid (V = meE (dz : Nat)) := by show _ = _; rw [HV1.out, if_neg (by rw [HM2.out]; omega), HM2.out]
                clear HV1 hz
                go_upto_region 32 with fail
                generalize w9.setCell ⟨w.heap.size + 1 + 1, 4, none⟩ (.int .i64 dt) = wY at *
                go_wp2_with (refine wpList_store_row rfl 71 (.tmp 3) (.tmp 119) rfl (w.heap.size + 1) nodZ rfl rfl 71 _ HSX.out.2.1 info_nodeM rfl (by simp [nodZ, Value.oneCell']) ?_)
                have HY := Lib.hid (setRow_heap _ _ _ nodZ _ _ HSX.out.2.1)
                refine bodyPost_ret (results_tctM rfl _ _ (w.heap.size + 1) 71 _ (0, 0) _ rfl HY.out Tryz.underlying71 rfl info_nodeM) rfl ⟨?_, ?_⟩
                · rw [HVV.out]; rfl
                · exact below_setRow HSX.out.2.2.2 (Nat.le_succ _) _

        case rest =>
          obtain ⟨rfl, HMZ, HS9, HF19, HF29, HT9⟩ := hcut
          rw [if_pos HMZ.out] at HV1
          have HAE := Lib.hid (HAT.out MT.1)
          clear HS8 HF18 HF28 HT8 HMT HDO HMZ HAT s0 s1 s2
          generalize atD sw X MT.1 = AT at *
          have y4 : wc.cell? ⟨w.heap.size + 1 + 1, 4, none⟩ = some (.int .i64 MT.1) := HS9.out.cellN 4 rfl
          have y5 : wc.cell? ⟨w.heap.size + 1 + 1, 5, none⟩ = some (.int .i64 0) := HS9.out.cellN 5 rfl
          have z5 := HS9.out.frz 5
          obtain ⟨wD, hwD⟩ : ∃ wD, wD = wc.setCell ⟨w.heap.size + 1 + 1, 5, none⟩ (.int .i64 MT.1) := ⟨_, rfl⟩
          have HSD : Hid (MtS w E #[.int .i64 bk, .int .u32 bm, .int .u32 0, .int .u32 0, .int .i64 MT.1, .int .i64 MT.1, .string ⟨#[]⟩] wD) := by show MtS _ _ _ _; rw [hwD]; exact HS9.out.set 5 _
          have HF1D : Hid (Fds wD A1 L1) := by show Fds _ _ _; rw [hwD]; exact Fds.nod HF19.out HS9.out.2.2.1 5 _
          have HF2D : Hid (Fds wD A2 L2) := by show Fds _ _ _; rw [hwD]; exact Fds.nod HF29.out HS9.out.2.2.1 5 _
          have HTD : Hid (wD.heap[gs]? = some (.cells #[.int .u8 X.f, .int .i32 X.a, .int .i32 X.b, .int .i32 X.c] 130 (0, 0))) := by show _ = _; rw [hwD]; exact (Below.heap_setCell _ _ _ _ (by have := HGS.out; simp only [ne_eq]; omega)).trans HT9.out
          have HWD := Lib.hid hwD
          clear hwD HS9 HF19 HF29 HT9
          go_upto_region 35 with fail
          rw [← HWD.out]
          clear HWD y4 y5 z5
          obtain ⟨s0, s1, s2⟩ := stamp_cells HTD.out
          go_cut [132] from 16 (fun v wx => v = .bool (decide (sw = 1) && (X.f / 2 % 2 == 1)) ∧ wx = wD)
          case first =>
            as_aux_lemma =>
              by_cases h1 : sw = 1
              · have b1 : (sw == 1) = true := by rw [h1]; rfl
                have d1 : decide (sw = 1) = true := decide_eq_true h1
                clear h1
                go_wp2_with fail
                go_meet
                case rel => exact ⟨by rw [d1, Bool.true_and], rfl⟩
              · have b1 : (sw == 1) = false := beq_eq_false_iff_ne.2 h1
                have d1 : decide (sw = 1) = false := decide_eq_false h1
                clear h1
                go_wp2_with fail
                go_meet
                case rel => exact ⟨by rw [d1, Bool.false_and], rfl⟩
          case rest =>
            obtain ⟨rfl, hwc⟩ := hcut
            have hwc := hwc.symm
            subst hwc
            go_upto_if 132 with fail
            go_cut [] from 16 (fun wx => Hid (MtS w E #[.int .i64 bk, .int .u32 bm, .int .u32 0, .int .u32 0, .int .i64 MT.1, .int .i64 AT, .string ⟨#[]⟩] wx) ∧ Hid (Fds wx A1 L1) ∧ Hid (Fds wx A2 L2))
            case first =>
              as_aux_lemma =>
                cases hq : (decide (sw = 1) && (X.f / 2 % 2 == 1)) with
                | false =>
                  have ha : AT = MT.1 := by
                    rw [HAE.out, if_neg]
                    rintro ⟨k1, k2⟩
                    rw [decide_eq_true k1, k2] at hq
                    cases hq
                  have HSX : Hid (MtS w E #[.int .i64 bk, .int .u32 bm, .int .u32 0, .int .u32 0, .int .i64 MT.1, .int .i64 AT, .string ⟨#[]⟩] wD) := by rw [ha]; exact HSD.out
                  clear ha hq
                  go_wp2_with fail
                  go_meet
                  case rel => exact ⟨HSX, HF1D, HF2D⟩
                | true =>
                  have ha : AT = X.b := by
                    rw [Bool.and_eq_true, decide_eq_true_iff, beq_iff_eq] at hq
                    rw [HAE.out, if_pos hq]
                  have e1 : IntKind.i64.wrap X.b = X.b := HXB.out.2
                  have e2 : wrap64 X.b = X.b := HXB.out.1
                  have y5 : wD.cell? ⟨w.heap.size + 1 + 1, 5, none⟩ = some (.int .i64 MT.1) := HSD.out.cellN 5 rfl
                  have z5 := HSD.out.frz 5
                  have HSX : Hid (MtS w E #[.int .i64 bk, .int .u32 bm, .int .u32 0, .int .u32 0, .int .i64 MT.1, .int .i64 AT, .string ⟨#[]⟩] (wD.setCell ⟨w.heap.size + 1 + 1, 5, none⟩ (.int .i64 X.b))) := by rw [ha]; exact HSD.out.set 5 _
                  have HF1X := Lib.hid (Fds.nod HF1D.out HSD.out.2.2.1 5 (.int .i64 X.b))
                  have HF2X := Lib.hid (Fds.nod HF2D.out HSD.out.2.2.1 5 (.int .i64 X.b))
                  clear ha hq
                  go_wp2_with fail
                  go_meet
                  case rel => exact ⟨HSX, HF1X, HF2X⟩
            case rest =>
              obtain ⟨HSG, HF1G, HF2G⟩ := hcut
              have HQ := Lib.hid (HFO.out A1 A2 c1 c2 wc HF1G.out HF2G.out)
              clear HFO HSD HF1D HF2D HTD s0 s1 s2 HAE HXA HXB
              go_wp2_with fail
              refine HQ.out.mono ?_; rintro e wH ⟨rfl, hbH⟩
              have HSH := Lib.hid (HSG.out.next hbH)
              have HF1H := Lib.hid (HF1G.out.below (Nat.le_refl _) hbH)
              have HF2H := Lib.hid (HF2G.out.below (Nat.le_refl _) hbH)
              clear hbH HQ HSG HF1G HF2G
              go_upto_if 145 with fail
              go_cut [7] from 16 (fun v wx => v = .int .i64 OD.2.2 ∧ Hid (MtS w E #[.int .i64 bk, .int .u32 bm, .int .u32 OD.1, .int .u32 OD.2.1, .int .i64 MT.1, .int .i64 AT, .string ⟨#[]⟩] wx))
              case first =>
                as_aux_lemma =>
                  by_cases ho : 0 < ow
                  · have d0 : decide (0 < ow) = true := decide_eq_true ho
                    have pd0 : 0 < ow := ho
                    have hod : OD = oTri od := by rw [HOD.out, if_pos ho]
                    have HQ := Lib.hid (HOW.out wH)
                    rw [← hod] at HQ
                    clear ho hod HOD HON HFN HOW
                    go_wp2_with fail
                    refine HQ.out.mono ?_; rintro e wI ⟨rfl, hbI⟩
                    have HSI := Lib.hid (HSH.out.next hbI)
                    have y2 : wI.cell? ⟨w.heap.size + 1 + 1, 2, none⟩ = some (.int .u32 0) := HSI.out.cellN 2 rfl
                    have y3 : wI.cell? ⟨w.heap.size + 1 + 1, 3, none⟩ = some (.int .u32 0) := HSI.out.cellN 3 rfl
                    have z2 := HSI.out.frz 2
                    have z3 := HSI.out.frz 3
                    have HSX : Hid (MtS w E #[.int .i64 bk, .int .u32 bm, .int .u32 OD.1, .int .u32 OD.2.1, .int .i64 MT.1, .int .i64 AT, .string ⟨#[]⟩] ((wI.setCell ⟨w.heap.size + 1 + 1, 2, none⟩ (.int .u32 OD.1)).setCell ⟨w.heap.size + 1 + 1, 3, none⟩ (.int .u32 OD.2.1))) := (HSI.out.set 2 _).set 3 _
                    clear hbI HQ HSH
                    go_wp2_with fail
                    go_meet
                    case rel => exact ⟨rfl, HSX⟩
                  · have d0 : decide (0 < ow) = false := decide_eq_false ho
                    have pd0 : ¬ 0 < ow := ho
                    have qd0 : ow ≤ 0 := by omega
                    have hod : OD = if 0 < nw then oldTri nd else (0, 0, 0) := by rw [HOD.out, if_neg ho]
                    have HQ := Lib.hid (HFN.out A1 A2 c1 c2 wH HF1H.out HF2H.out)
                    have HO2 := Lib.hid hod
                    clear ho hod HOD HOW HFN
                    go_wp2_with fail
                    refine HQ.out.mono ?_; rintro e wI ⟨rfl, hbI⟩
                    have HSI := Lib.hid (HSH.out.next hbI)
                    clear hbI HQ HSH HF1H HF2H
                    by_cases hn : 0 < nw
                    · have d1 : decide (0 < nw) = true := decide_eq_true hn
                      have pd1 : 0 < nw := hn
                      have hod : OD = oldTri nd := by rw [HO2.out, if_pos hn]
                      have HQ := Lib.hid (HON.out wI)
                      rw [← hod] at HQ
                      clear hn hod HO2 HON
                      go_wp2_with fail
                      refine HQ.out.mono ?_; rintro e wJ ⟨rfl, hbJ⟩
                      have HSJ := Lib.hid (HSI.out.next hbJ)
                      have y2 : wJ.cell? ⟨w.heap.size + 1 + 1, 2, none⟩ = some (.int .u32 0) := HSJ.out.cellN 2 rfl
                      have y3 : wJ.cell? ⟨w.heap.size + 1 + 1, 3, none⟩ = some (.int .u32 0) := HSJ.out.cellN 3 rfl
                      have z2 := HSJ.out.frz 2
                      have z3 := HSJ.out.frz 3
                      have HSX : Hid (MtS w E #[.int .i64 bk, .int .u32 bm, .int .u32 OD.1, .int .u32 OD.2.1, .int .i64 MT.1, .int .i64 AT, .string ⟨#[]⟩] ((wJ.setCell ⟨w.heap.size + 1 + 1, 2, none⟩ (.int .u32 OD.1)).setCell ⟨w.heap.size + 1 + 1, 3, none⟩ (.int .u32 OD.2.1))) := (HSJ.out.set 2 _).set 3 _
                      clear hbJ HQ HSI
                      go_wp2_with fail
                      go_meet
                      case rel => exact ⟨rfl, HSX⟩
                    · have d1 : decide (0 < nw) = false := decide_eq_false hn
                      have pd1 : ¬ 0 < nw := hn
                      have qd1 : nw ≤ 0 := by omega
                      have hod : OD = (0, 0, 0) := by rw [HO2.out, if_neg hn]
                      have HSX : Hid (MtS w E #[.int .i64 bk, .int .u32 bm, .int .u32 OD.1, .int .u32 OD.2.1, .int .i64 MT.1, .int .i64 AT, .string ⟨#[]⟩] wI) := by rw [hod]; exact HSI.out
                      have HZV : Hid (Value.int .i64 0 = .int .i64 OD.2.2) := by show _ = _; rw [hod]
                      clear hn hod HO2 HON HSI
                      go_wp2_with fail
                      go_meet
                      case rel => exact ⟨HZV.out, HSX⟩
              case rest =>
                obtain ⟨rfl, HSK⟩ := hcut
                clear HSH HF1H HF2H HFN HOW HON HOD
                obtain ⟨ou, og, oz⟩ := OD
                dsimp only at HV1 HSK ⊢
                by_cases hz : oz = 0
                case neg =>
                  have bz : (oz != 0) = true := bne_iff_ne.2 hz
                  have HVV : Hid (V = meE oz) := by show _ = _; rw [HV1.out, if_neg hz]
                  clear HV1 hz
                  go_wp2_with (refine wpList_store_row rfl 71 (.tmp 3) (.tmp 172) rfl (w.heap.size + 1) nodZ rfl rfl 71 _ HSK.out.2.1 info_nodeM rfl (by simp [nodZ, Value.oneCell']) ?_)
                  have HY := Lib.hid (setRow_heap _ _ _ nodZ _ _ HSK.out.2.1)
                  refine bodyPost_ret (results_tctM rfl _ _ (w.heap.size + 1) 71 _ (0, 0) _ rfl HY.out Tryz.underlying71 rfl info_nodeM) rfl ⟨?_, ?_⟩
                  · rw [HVV.out]; rfl
                  · exact below_setRow HSK.out.2.2.2 (Nat.le_succ _) _

                subst hz
                have HVV : Hid (V = ⟨pp, bk, bm, ou, og, MT.1, AT, 0⟩) := by show _ = _; rw [HV1.out, if_pos rfl]
                clear HV1
                go_upto_region 45 with fail
                have HGD : Hid (wc.drew.heap[w.heap.size + 1 + 1]? = some (.cells #[.int .i64 bk, .int .u32 bm, .int .u32 ou, .int .u32 og, .int .i64 MT.1, .int .i64 AT, .string ⟨#[]⟩] 71 (0, 0))) := HSK.out.2.2.1
                have HND : Hid (wc.drew.heap[w.heap.size + 1]? = some (.cells nodZ 71 (0, 0))) := HSK.out.2.1
                have HBD := Lib.hid HSK.out.2.2.2.drew
                have HY := Lib.hid (setRow_heap _ _ _ #[.int .i64 bk, .int .u32 bm, .int .u32 ou, .int .u32 og, .int .i64 MT.1, .int .i64 AT, .string ⟨#[]⟩] _ _ HND.out)

                refine wp_region_any (by kernel_rfl) ?_
                try (change wpAny _ _ _ _ _ _ _ (World.drew _))

                refine wpAny_take (i := 0) (v := ?_) rfl (by kernel_rfl) (by kernel_rfl) (by kernel_rfl) (fun _ _ _ h => h) (Or.inl ⟨by rfl, ?_⟩) ?_
                rotate_left
                · intro w; go_simp; try with_reducible rfl
                try simp only [Act.put, List.setIfInBounds_toArray, List.set_cons_zero, List.set_cons_succ, List.getElem_toArray, List.getElem_cons_succ, List.getElem_cons_zero]

                refine wpAny_take (i := 2) (v := ?_) rfl (by kernel_rfl) (by kernel_rfl) (by kernel_rfl) (fun _ _ _ h => h) (Or.inl ⟨by rfl, ?_⟩) ?_
                rotate_left
                · intro w; go_simp; try with_reducible rfl
                try simp only [Act.put, List.setIfInBounds_toArray, List.set_cons_zero, List.set_cons_succ, List.getElem_toArray, List.getElem_cons_succ, List.getElem_cons_zero]

                refine wpAny_ready (rs := [1]) (by kernel_rfl) (by simp) ?_
                refine AllReady.cons rfl (fun K hK => ?_) AllReady.nil
                refine step_load_rowM rfl 71 (.tmp 5) rfl (w.heap.size + 1 + 1) rfl 71 _ (0, 0) _ HGD.out Tryz.underlying71 rfl info_nodeM ?_
                refine hK _ _ ?_; clear hK K

                refine wpAny_ready (rs := [3]) (by kernel_rfl) (by simp) ?_
                refine AllReady.cons rfl (fun K hK => ?_) AllReady.nil
                refine step_store_rowM rfl 71 (.tmp 3) (.tmp 175) rfl (w.heap.size + 1) #[.int .i64 bk, .int .u32 bm, .int .u32 ou, .int .u32 og, .int .i64 MT.1, .int .i64 AT, .string ⟨#[]⟩] rfl rfl 71 _ HND.out info_nodeM rfl (by simp [nodZ, Value.oneCell']) ?_
                refine hK _ _ ?_; clear hK K

                refine wpAny_take (i := 4) (v := ?_) rfl (by kernel_rfl) (by kernel_rfl) (by kernel_rfl) (fun _ _ _ h => h) (Or.inl ⟨by rfl, ?_⟩) ?_
                rotate_left
                · intro w; go_simp; try with_reducible rfl
                try simp only [Act.put, List.setIfInBounds_toArray, List.set_cons_zero, List.set_cons_succ, List.getElem_toArray, List.getElem_cons_succ, List.getElem_cons_zero]

                refine wpAny_done (by kernel_rfl) ?_ _
                go_wp2_with fail
                refine bodyPost_ret (results_tctM rfl _ _ (w.heap.size + 1) 71 _ (0, 0) _ rfl HY.out Tryz.underlying71 rfl info_nodeM) rfl ⟨?_, ?_⟩
                · rw [HVV.out]; rfl
                · exact below_setRow HBD.out (Nat.le_succ _) _
end Go.Proofs.YtjnoapbddifcpaaGreatDoor
