/-
  Trees: index, of any items.
  Trees, awake: a map's literal; sound.
  Trees: implied, of any items.
-/
import Derived.Test.YtmeapijckncoeaaGreatDoorPkBF
import Derived.Test.YtmeapijckncoeaaGreatDoorPkAD
import Derived.Test.YtmeapijckncoeaaGreatDoorPkBA
import Derived.Test.YtmeapijckncoeaaGreatDoorPkAG
import Derived.Maps.Own
import Derived.Maps.OwnSet
import Derived.Deep.CutBlock

namespace Go.Proofs.YtmeapijckncoeaaGreatDoor
set_option maxRecDepth 100000
set_option linter.unusedSimpArgs false
set_option linter.unusedVariables false
open Go.RowKit Go.Joins Go.Deep Go.WideMaps
open Go.Lib hiding intOf
theorem keyF : Maps.Keyed Tryz.prog 9 := Maps.string_keyed Tryz.underlying9
theorem zero_unitF (w : World) : (zeroValue 51).run Tryz.prog w = .ok (.agg #[]) w := by kernel_rfl
theorem zero_nodeF (w : World) : (zeroValue 25).run Tryz.prog w = .ok (nodV itm0) w := by kernel_rfl
theorem ownsMapF {w w' : World} {R : Value → Option (DataW Unit × List MemPlace)} {b n : Nat} {D : DataW Unit} (h : w.ownsMap Tryz.prog 9 R b n D) (hb : Below w.heap.size w w') : w'.ownsMap Tryz.prog 9 R b n D :=
  h.kept (row := none) ⟨hb.os, hb.tape, hb.output, hb.size, fun i hi _ => hb.block i hi⟩ (by simp)
theorem item_box {w : World} {g : Nat} {X : Itm} (h : w.heap[g]? = some (.cells X.cells 42 (0, 0))) : w.cell? ⟨g, 0, none⟩ = some (.string X.s) ∧ w.cell? ⟨g, 1, none⟩ = some (.int .i64 X.k) ∧ w.cell? ⟨g, 2, none⟩ = some (.int .u32 X.m) ∧ w.cell? ⟨g, 3, none⟩ = some (.int .u32 X.u) ∧ w.cell? ⟨g, 4, none⟩ = some (.int .u32 X.g) ∧ w.cell? ⟨g, 5, none⟩ = some (.int .i64 X.t) ∧ w.cell? ⟨g, 6, none⟩ = some (.int .i64 X.a) ∧ w.cell? ⟨g, 7, none⟩ = some (.string X.d) :=
  ⟨(cell_of_row _ _ 0 _ _ _ h).trans rfl, (cell_of_row _ _ 1 _ _ _ h).trans rfl, (cell_of_row _ _ 2 _ _ _ h).trans rfl, (cell_of_row _ _ 3 _ _ _ h).trans rfl, (cell_of_row _ _ 4 _ _ _ h).trans rfl, (cell_of_row _ _ 5 _ _ _ h).trans rfl, (cell_of_row _ _ 6 _ _ _ h).trans rfl, (cell_of_row _ _ 7 _ _ _ h).trans rfl⟩
/-- A map of the first node of each path. -/
def MapI (w : World) (gm : Nat) (l : List Itm) : Prop := ∃ n, n ≤ l.length ∧ w.ownsMap Tryz.prog 9 nodeR gm n (idxD l)
theorem MapI.below {w w' : World} {gm : Nat} {l : List Itm} (h : MapI w gm l) (hb : Below w.heap.size w w') : MapI w' gm l := by
  obtain ⟨n, hn, ho⟩ := h
  exact ⟨n, hn, ownsMapF ho hb⟩
theorem MapI.lt {w : World} {gm : Nat} {l : List Itm} (h : MapI w gm l) : gm < w.heap.size := by
  obtain ⟨n, hn, ho⟩ := h
  exact ho.lt
set_option maxHeartbeats 16000000 in
theorem tindex_any (A : Option Addr) (c : Nat) (l : List Itm) (w : World) (hT : Itms w A l) (hl : l.length ≤ 100000) (hs : ∀ x ∈ l, x.s.size ≤ 1000000) : Calls Tryz.prog 29 #[.slice A l.length c] w fun e w' => ∃ gm, e = .returned (.map (some gm)) ∧ w.heap.size ≤ gm ∧ MapI w' gm l ∧ Below w.heap.size w w' := by
  have hmm := @run_makeMap Tryz.prog
  have hir := info_item
  have hinod := info_nodeT
  have HM0 : Hid (MapI (w.alloc (.map #[] 0)) w.heap.size []) := ⟨0, Nat.le_refl _, World.ownsMap_made (H := Unit) w Tryz.prog 9 nodeR⟩
  have HB0 := Lib.hid (below_al w (.map #[] 0))
  have HT := Lib.hid hT
  have HS := Lib.hid hs
  clear hT hs
  go_enter Tryz.func29, Tryz.ntmps29
  go_wp2_with fail
  generalize w.alloc (.map #[] 0) = w0 at *
  go_loopw [11] (fun v11 wr => ∃ k : Nat, k ≤ l.length ∧ v11 = .int .i64 (k : Nat) ∧ Hid (MapI wr w.heap.size (l.take k)) ∧ Hid (Below w.heap.size w wr)) (fun v _ => l.length - (intOf v).toNat)
  case atStart => exact ⟨0, Nat.zero_le _, rfl, HM0, HB0⟩
  case round =>
    clear HM0 HB0
    obtain ⟨k, hk, rfl, HM, HB⟩ := hrel
    by_cases hkn : k < l.length
    · have hd : decide ((k : Int) < (l.length : Int)) = true := decide_eq_true (by omega)
      obtain ⟨b, off, rfl, hb, hcc⟩ := (HT.out.below HB.out) (by omega)
      obtain ⟨c0, c1, c2, c3, c4, c5, c6, c7⟩ := hcc k l[k] (List.getElem?_eq_getElem hkn)
      have HTS : Hid (l.take (k + 1) = l.take k ++ [l[k]]) := List.take_succ_eq_append_getElem hkn
      have HSX := Lib.hid (HS.out _ (List.getElem_mem hkn))
      obtain ⟨W2, hW2⟩ : ∃ W2, W2 = wr.alloc (.cells l[k].cells 42) := ⟨_, rfl⟩
      have hb2 : Below wr.heap.size wr W2 := by rw [hW2]; exact below_al wr _
      have HX2 : Hid (W2.heap[wr.heap.size]? = some (.cells l[k].cells 42 (0, 0))) := by show _ = _; rw [hW2]; exact heap_alloc_new wr _
      have HM2 := Lib.hid (HM.out.below hb2)
      have HB2 := Lib.hid (below_then HB.out hb2)
      generalize l[k] = X at *
      simp only [Itm.cells] at hW2
      have HW2 := Lib.hid hW2
      clear hcc hb2 hW2 HM HB
      generalize hgx : wr.heap.size = gx at *
      go_upto_region 5 with fail
      rw [← HW2.out]
      clear HW2 c0 c1 c2 c3 c4 c5 c6 c7
      obtain ⟨x0, _⟩ := item_box HX2.out
      have HK := Lib.hid (keyOf_string_mk (P := Tryz.prog) Tryz.underlying9 (s := X.s) (by have := HSX.out; unfold maxLen; omega))
      obtain ⟨n, hn, hown⟩ := HM2.out
      have HN : Hid (n ≤ 100000) := by show _ ≤ _; rw [List.length_take] at hn; omega
      have HOW := Lib.hid hown
      have HH := Lib.hid (idx_has (l.take k) X.s)
      have HVV : Hid (∀ v ps, nodeR v = some ((idxD (l.take k)).atKey (keyT X.s) (nodD itm0), ps) → v = nodV (lokN (l.take k) X.s)) := fun v ps h => idx_val _ _ h
      have HST : Hid (idxD (l.take (k + 1)) = idxStep (idxD (l.take k)) X) := by show _ = _; rw [HTS.out, idxD_snoc]
      generalize lokN (l.take k) X.s = Z at *
      obtain ⟨W4, hW4⟩ : ∃ W4, W4 = W2.alloc (.cells #[.int .i64 Z.k, .int .u32 Z.m, .int .u32 Z.u, .int .u32 Z.g, .int .i64 Z.t, .int .i64 Z.a, .string Z.d] 25) := ⟨_, rfl⟩
      have hb4 : Below W2.heap.size W2 W4 := by rw [hW4]; exact below_al W2 _
      have HX4 := Lib.hid ((hb4.block _ (lt_of_block HX2.out)).trans HX2.out)
      have HO4 := Lib.hid (ownsMapF hown hb4)
      have HB4 := Lib.hid (below_then HB2.out hb4)
      have HW4 := Lib.hid hW4
      have HLT : Hid (n ≤ (l.take k).length) := hn
      generalize hff : (fndQ (l.take k) X.s).isSome = F at *
      clear hown hb4 hW4 HX2 HM2 HB2 hn hff
      go_upto_region 6 with (at_lookup; refine wpList_lookup_own_ok _ rfl _ _ 47 rfl 9 25 keyF Tryz.underlying47 nodeR (zero_nodeF _) (nodD itm0) [] (nodeR_mk itm0) w.heap.size n _ rfl HOW.out _ _ rfl HK.out ?_; intro v ps hv; obtain rfl := HVV.out v ps hv; rw [HH.out]; unfold nodV)
      rw [← HW4.out]
      clear HW4 HOW x0 HVV
      obtain ⟨x0, x1, x2, x3, x4, x5, x6, x7⟩ := item_box HX4.out
      cases F with
      | true =>
        have HNE : Hid (MapI W4 w.heap.size (l.take (k + 1))) := ⟨n, by rw [HTS.out, List.length_append]; have := HLT.out; omega, by rw [HST.out]; unfold idxStep; rw [if_pos HH.out]; exact HO4.out⟩
        clear HH HST HO4
        go_wp2_with fail
        go_roundw
        case rel => exact ⟨k + 1, by omega, by go_num, HNE, HB4⟩
        case measure => simp [intOf]; omega
      | false =>
        go_wp2_with (at_mapUpdate; refine wpList_mapUpdate_own _ rfl _ _ _ 47 rfl 9 25 keyF Tryz.underlying47 nodeR w.heap.size n _ rfl HO4.out (by have := HN.out; unfold maxLen; omega) _ _ _ rfl rfl HK.out (nodD X) [] (nodeR_mk X) ?_; intro w9 hown9 hgrow9)
        have HB9 : Hid (Below w.heap.size w w9) := HB4.out.grown hgrow9 HB4.out.size (fun q hq => by injection hq with hq; subst hq; exact Nat.le_refl _)
        have HNE : Hid (MapI w9 w.heap.size (l.take (k + 1))) := ⟨n + 1, by rw [HTS.out, List.length_append, List.length_singleton]; have := HLT.out; omega, by rw [HST.out]; unfold idxStep; rw [if_neg (by rw [HH.out]; decide)]; exact hown9⟩
        clear hown9 hgrow9 HH HST HO4
        go_wp2_with fail
        go_roundw
        case rel => exact ⟨k + 1, by omega, by go_num, HNE, HB9⟩
        case measure => simp [intOf]; omega
    · obtain rfl : k = l.length := by omega
      have hd : decide ((l.length : Int) < (l.length : Int)) = false := decide_eq_false (by omega)
      have HME : Hid (MapI wr w.heap.size l) := by have h := HM.out; rw [List.take_length] at h; exact h
      clear HM
      go_wp2_with fail
      go_ret
      exact ⟨w.heap.size, rfl, Nat.le_refl _, HME.out, HB.out⟩
end Go.Proofs.YtmeapijckncoeaaGreatDoor

namespace Go.Proofs.YtmeapijckncoeaaGreatDoor
set_option maxRecDepth 100000
set_option linter.unusedSimpArgs false
set_option linter.unusedVariables false
open Go.RowKit Go.Joins Go.Deep Go.WideMaps
open Go.Lib hiding intOf
theorem wpList_insert_own {H : Type} {P : Program} (w : World) {ops : Array Oper} {rest : List Oper} {o : Oper} {a : Act} {Q : Exit → Act → World → Prop}
    (hg : o.guard = none) (m x v : Operand) (t : TypeId) (hop : o.op = Op.insert t m x v)
    (k e : TypeId) (K : Maps.Keyed P k) (ht : P.underlying t = some (.map k e)) (R : Value → Option (DataW H × List MemPlace)) (b n : Nat) (D : DataW H)
    (hm : a.eval m = .map (some b)) (hown : w.ownsMap P k R b n D) (hn : n < maxLen) (key val : Value) (kl : Lit) (hx : a.eval x = key) (hv : a.eval v = val) (hkey : keyOf P k key = some kl)
    (d : DataW H) (ps : List MemPlace) (hval : R val = some (d, ps))
    (hK : ∀ w', w'.ownsMap P k R b (n + 1) (D.put kl d) → w.grownBy w' (some b) → wpList P ops Q rest (a.put o.dst undef) w') :
    wpList P ops Q (o :: rest) a w := by
  refine wpList_plain hg fun K' hK' => ?_
  obtain ⟨w', hrun, r1, r2⟩ := hown.update K ht hn hkey hval
  unfold Oper.wp
  simp [execOp, hop, hm, hx, hv, hrun, Result.andThen]
  exact hK' _ _ (hK w' r1 r2)
/-- Is an item sound? -/
def sodI (X : Itm) : Bool := (((chkV X.s).2.2 == 0) && !(chkV X.s).2.1) && ((X.k == 2) || (X.k == 3) || ((X.k == 1) && X.d.toList.isEmpty))
set_option maxHeartbeats 8000000 in
theorem sound_any (X : Itm) (w : World) (hs : X.s.size ≤ 100000) (hE : Env w) : Calls Tryz.prog 32 #[.agg X.cells] w fun e w' => e = .returned (.bool (sodI X)) ∧ Below w.heap.size w w' := by
  have hir := info_item
  have hb1 := below_al w (.cells X.cells 42)
  have hx1 := heap_alloc_new w (.cells X.cells 42)
  have HC := Lib.hid (check_any X.s (w.alloc (.cells X.cells 42)) (by omega) (hE.alloc _))
  have HB := Lib.hid hb1
  obtain ⟨V, hV⟩ : ∃ V, V = sodI X := ⟨_, rfl⟩
  rw [← hV]
  unfold sodI at hV
  obtain ⟨x0, x1, x2, x3, x4, x5, x6, x7⟩ := X
  simp only [Itm.cells] at hx1 HB HC ⊢
  dsimp only at hV
  generalize (chkV x0).1 = V1 at *
  generalize (chkV x0).2.1 = V2 at *
  generalize (chkV x0).2.2 = V3 at *
  have HV := Lib.hid hV
  have HX := Lib.hid hx1
  clear hb1 hx1 hE hs hV
  go_enter Tryz.func32, Tryz.ntmps32
  go_upto_region 1 with fail
  generalize hgg : w.heap.size = gx at *
  generalize w.alloc (.cells #[.string x0, .int .i64 x1, .int .u32 x2, .int .u32 x3, .int .u32 x4, .int .i64 x5, .int .i64 x6, .string x7] 42) = w2 at *
  have z0 := (cell_of_row _ _ 0 _ _ _ HX.out).trans (show _ = some (Value.string x0) from rfl)
  go_wp2_with fail
  refine HC.out.mono ?_; rintro e w3 ⟨rfl, hb3⟩
  have HB3 : Hid (Below gx w w3) := HB.out.trans (hb3.mono HB.out.size |> fun h => by subst hgg; exact h)
  have hx3 := (hb3.block _ (lt_of_block HX.out)).trans HX.out
  have y1 := (cell_of_row _ _ 1 _ _ _ hx3).trans (show _ = some (Value.int .i64 x1) from rfl)
  have y7 := (cell_of_row _ _ 7 _ _ _ hx3).trans (show _ = some (Value.string x7) from rfl)
  clear hb3 hx3 HC HX HB z0
  by_cases h3 : V3 = 0
  case neg =>
    have HF : Hid (V = false) := by show V = _; rw [HV.out, beq_eq_false_iff_ne.2 h3]; rfl
    clear HV
    go_wp2_with fail
    go_ret
    exact ⟨by rw [HF.out]; rfl, by subst hgg; exact HB3.out⟩
  subst h3
  cases V2 with
  | true =>
    have HF : Hid (V = false) := by show V = _; rw [HV.out]; rfl
    clear HV
    go_wp2_with fail
    go_ret
    exact ⟨by rw [HF.out]; rfl, by subst hgg; exact HB3.out⟩
  | false =>
    have HF : Hid (V = ((x1 == 2) || (x1 == 3) || ((x1 == 1) && x7.toList.isEmpty))) := by show V = _; rw [HV.out]; rfl
    clear HV
    by_cases h2 : x1 = 2
    · subst h2
      go_wp2_with fail
      go_ret
      exact ⟨by rw [HF.out]; rfl, by subst hgg; exact HB3.out⟩
    by_cases h33 : x1 = 3
    · subst h33
      go_wp2_with fail
      go_ret
      exact ⟨by rw [HF.out]; rfl, by subst hgg; exact HB3.out⟩
    by_cases h1 : x1 = 1
    · subst h1
      go_wp2_with fail
      go_ret
      exact ⟨by rw [HF.out]; rfl, by subst hgg; exact HB3.out⟩
    · go_wp2_with fail
      go_ret
      exact ⟨by rw [HF.out, beq_eq_false_iff_ne.2 h2, beq_eq_false_iff_ne.2 h33, beq_eq_false_iff_ne.2 h1]; rfl, by subst hgg; exact HB3.out⟩
end Go.Proofs.YtmeapijckncoeaaGreatDoor

namespace Go.Proofs.YtmeapijckncoeaaGreatDoor
set_option maxRecDepth 100000
set_option linter.unusedSimpArgs false
set_option linter.unusedVariables false
open Go.RowKit Go.Joins Go.Deep Go.WideMaps
open Go.Lib hiding intOf
/-- A set of texts. -/
def setF (ks : List ByteArray) : DataW Unit := Maps.setOf (.agg []) (ks.map keyT)
theorem setF_snoc (ks : List ByteArray) (x : ByteArray) : setF (ks ++ [x]) = (setF ks).put (keyT x) (.agg []) := by
  unfold setF
  rw [List.map_append]
  exact Maps.setOf_snoc _ _ _
theorem setF_has (ks : List ByteArray) (p : ByteArray) : Maps.has (setF ks) (keyT p) = knB ks p := by
  unfold setF Maps.setOf knB
  rw [Maps.has_fold _ _ _ _ ⟨[], rfl⟩ (fun y hy => by obtain ⟨i, _, rfl⟩ := List.mem_map.1 hy; exact (show WideAt.IsKeyLit (keyT i) from trivial))]
  rw [show Maps.has (DataW.map [] : DataW Unit) (keyT p) = false from rfl, Bool.false_or, List.any_map]
  rw [Bool.eq_iff_iff, List.any_eq_true, List.any_eq_true]
  constructor
  · rintro ⟨y, hy, h⟩
    have := keyT_inj (WideAt.sameKey_eq (a := keyT y) (b := keyT p) h)
    exact ⟨y, hy, by rw [this]; simp⟩
  · rintro ⟨y, hy, h⟩
    have h2 := toList_inj' (eq_of_beq h)
    refine ⟨y, hy, ?_⟩
    show Lit.sameKey (keyT y) (keyT p) = true
    rw [h2]
    exact WideAt.sameKey_self (a := keyT p) trivial
theorem kn_zero (kn : List ByteArray) (q : ByteArray) (h : q.size = 0) : knB (⟨#[]⟩ :: kn) q = true := by
  have : q = ⟨#[]⟩ := by
    apply ByteArray.ext
    exact Array.eq_empty_of_size_eq_zero h
  rw [this]
  unfold knB
  simp
theorem kn_pos (kn : List ByteArray) (q : ByteArray) (h : q.size ≠ 0) : knB (⟨#[]⟩ :: kn) q = knB kn q := by
  unfold knB
  rw [List.any_cons]
  have : (((⟨#[]⟩ : ByteArray).toList == q.toList) : Bool) = false := beq_eq_false_iff_ne.2 fun k => h (by rw [← toList_inj' k]; rfl)
  rw [this, Bool.false_or]
/-- A set of paths, the root's with it. -/
def KnM (w : World) (gk n : Nat) (kn : List ByteArray) : Prop := n ≤ 1 + kn.length ∧ w.ownsMap Tryz.prog 9 (unitElem (H := Unit)) gk n (setF (⟨#[]⟩ :: kn))
/-- The parents that aren't there; none, where one of them is something else. -/
def impL (t : List Itm) : List ByteArray := if impB t = true then impO t else []
/-- A text's size. -/
def szV : Value → Nat
  | .string s => s.size
  | _ => 0
theorem own_lower {w : World} {B B' size n : Nat} {e : TypeId} {v : Value} {xs : List Value} (h : w.ownsRow B e size v n xs) (hB : B' ≤ B) : w.ownsRow B' e size v n xs := by
  refine ⟨h.1, ?_⟩
  rcases h.2 with q | ⟨g, cap, cur, e1, e2, e3⟩
  · exact .inl q
  · exact .inr ⟨g, cap, cur, e1, Nat.le_trans hB e2, e3⟩
theorem own_keep {w w' : World} {base size n : Nat} {e : TypeId} {v : Value} {xs : List Value} (h : w.ownsRow base e size v n xs) (hb : Below w.heap.size w w') : w'.ownsRow base e size v n xs :=
  h.kept (row := none) ⟨hb.os, hb.tape, hb.output, hb.size, fun i hi _ => hb.block i hi⟩ (by cases hv : v.ownBlock <;> simp)
theorem KnM.keep {w w' : World} {gk n : Nat} {kn : List ByteArray} (h : KnM w gk n kn) (hb : Below w.heap.size w w') : KnM w' gk n kn := ⟨h.1, ownsMapF h.2 hb⟩
set_option maxHeartbeats 32000000 in
theorem timplied_any (A : Option Addr) (c : Nat) (t : List Itm) (w : World) (hT : Itms w A t) (hl : t.length ≤ 1000) (hs : ∀ x ∈ t, x.s.size ≤ 100000) :
    Calls Tryz.prog 24 #[.slice A t.length c] w fun e w' => ∃ V, e = .returned (.tuple #[V, .bool (impB t)]) ∧ w'.ownsRow w.heap.size 9 1 V (impL t).length ((impL t).map .string) ∧ (impL t).length ≤ 100000000 ∧ Below w.heap.size w w' := by
  have hmm := @run_makeMap Tryz.prog
  have hir := info_item
  have hinod := info_nodeT
  have hzu := zero_unitF
  obtain ⟨i0, hi, hz0, hz1, hz2⟩ : ∃ i0, Tryz.prog.info? 9 = some i0 ∧ i0.zero = some (.string ⟨#[]⟩) ∧ i0.size = 1 ∧ i0.bytes = 16 := by
    have h : (Tryz.prog.info? 9).map (fun i => (i.zero, i.size, i.bytes)) = some (some (.string ⟨#[]⟩), 1, 16) := by kernel_rfl
    cases hq : Tryz.prog.info? 9 with
    | none => rw [hq] at h; cases h
    | some i =>
      rw [hq] at h
      simp only [Option.map_some, Option.some.injEq, Prod.mk.injEq] at h
      exact ⟨i, rfl, h.1, h.2.1, h.2.2⟩
  have HT := Lib.hid (fun w1 (hb : Below w.heap.size w w1) => hT.below hb)
  have HS := Lib.hid hs
  have HIX := Lib.hid (tindex_any A c t w hT (by omega) (fun x hx => by have := hs x hx; omega))
  obtain ⟨RB, hRB⟩ : ∃ RB, RB = impB t := ⟨_, rfl⟩
  obtain ⟨RO, hRO⟩ : ∃ RO, RO = impL t := ⟨_, rfl⟩
  rw [← hRB, ← hRO]
  have HRB := Lib.hid hRB
  have HRO := Lib.hid hRO
  clear hT hs hRB hRO
  go_enter Tryz.func24, Tryz.ntmps24
  go_wp2_with fail
  refine HIX.out.mono ?_; rintro e w2 ⟨gn, rfl, hgn, hMI, hb2⟩
  have HN2 := Lib.hid hMI
  have HM := Lib.hid (World.ownsMap_made (H := Unit) w2 Tryz.prog 9 unitElem)
  have HB2 := Lib.hid hb2
  have HB3 := Lib.hid (below_al w2 (.map #[] 0))
  have HZK : Hid ((w2.alloc (.map #[] 0)).heap.size = w2.heap.size + 1) := by show _ = _; simp only [World.alloc, Array.size_push]
  clear hgn hMI hb2 HIX
  generalize hgk : w2.heap.size = gk at *
  go_upto_region 3 with (first | (refine wpList_insert_own _ rfl _ _ _ 52 rfl 9 51 keyF Tryz.underlying52 unitElem gk 0 _ rfl HM.out (by unfold maxLen; omega) _ _ _ rfl rfl (keyOf_string_mk (s := ⟨#[]⟩) Tryz.underlying9 (by decide)) (.agg []) [] unitElem_mk ?_; intro w4 hown4 hgrow4))
  have HK4 : Hid (KnM w4 gk 1 []) := ⟨Nat.le_refl _, hown4⟩
  have HB4 : Hid (Below w2.heap.size w2 w4) := by
    show Below _ _ _
    rw [hgk]
    exact HB3.out.grown hgrow4 (by rw [HZK.out]; omega) (fun k hk => by injection hk with hk; subst hk; exact Nat.le_refl _)
  have HZ4 : Hid (gk + 1 ≤ w4.heap.size) := by show _ ≤ _; have := hgrow4.size; have := HZK.out; omega
  clear hown4 hgrow4 HM HB3 HZK
  go_wp2_with fail
  have HNW := Lib.hid (fun w1 (hb : Below w2.heap.size w2 w1) => HN2.out.below hb)
  have HTW := Lib.hid (fun w1 (hb : Below w2.heap.size w2 w1) => HT.out w1 (below_then HB2.out hb))
  go_loopw [6, 21] (fun v6 v21 wr => ∃ (k : Nat) (V : Value) (kn out : List ByteArray) (n : Nat), k ≤ t.length ∧ V = v6 ∧ v21 = .int .i64 (k : Nat) ∧ Hid (impA t (t.take k) = some (kn, out)) ∧ Hid (KnM wr gk n kn) ∧ Hid (wr.ownsRow (gk + 1) 9 1 V out.length (out.map .string)) ∧ Hid (kn.length ≤ k * 100000 ∧ out.length ≤ k * 100000) ∧ Hid (Below w2.heap.size w2 wr)) (fun _ v _ => t.length - (intOf v).toNat)
  case atStart => exact ⟨0, _, [], [], 1, Nat.zero_le _, rfl, rfl, rfl, HK4, World.ownsRow_nil _ _ _ _, ⟨Nat.zero_le _, Nat.zero_le _⟩, HB4⟩
  case round =>
    clear HK4 HB4 HZ4
    obtain ⟨k, V, kn, out, n, hk, rfl, rfl, HI, HK, HO, HL, HB⟩ := hrel
    by_cases hkn : k < t.length
    case neg =>
      obtain rfl : k = t.length := by omega
      have hd : decide ((t.length : Int) < (t.length : Int)) = false := decide_eq_false (by omega)
      have HIT : Hid (impA t t = some (kn, out)) := by have h := HI.out; rw [List.take_length] at h; exact h
      have e1 : Hid (RB = true) := by show _ = _; rw [HRB.out]; unfold impB; rw [HIT.out]; rfl
      have e2 : Hid (RO = out) := by show _ = _; rw [HRO.out]; unfold impL impB impO; rw [HIT.out]; rfl
      have HBW := Lib.hid (below_then HB2.out HB.out)
      have hgw : w.heap.size ≤ gk + 1 := by have := HB2.out.size; omega
      clear HI HIT HK HN2 HNW HTW
      go_wp2_with fail
      go_ret2
      rw [e1.out, e2.out]
      refine ⟨_, rfl, ?_, ?_, HBW.out⟩
      · exact own_lower HO.out hgw
      · have := HL.out.2; omega
    have hd : decide ((k : Int) < (t.length : Int)) = true := decide_eq_true (by omega)
    obtain ⟨b, off, rfl, hb, hcc⟩ := (HTW.out wr HB.out) (by omega)
    obtain ⟨c0, c1, c2, c3, c4, c5, c6, c7⟩ := hcc k t[k] (List.getElem?_eq_getElem hkn)
    have HTS : Hid (t.take (k + 1) = t.take k ++ [t[k]]) := List.take_succ_eq_append_getElem hkn
    have HDR : Hid (t = t.take (k + 1) ++ t.drop (k + 1)) := (List.take_append_drop _ _).symm
    have HSX := Lib.hid (HS.out _ (List.getElem_mem hkn))
    obtain ⟨W5, hW5⟩ : ∃ W5, W5 = wr.alloc (.cells t[k].cells 42) := ⟨_, rfl⟩
    have hb5 : Below wr.heap.size wr W5 := by rw [hW5]; exact below_al wr _
    have hx5 : W5.heap[wr.heap.size]? = some (.cells t[k].cells 42 (0, 0)) := by rw [hW5]; exact heap_alloc_new wr _
    have HK5 := Lib.hid (HK.out.keep hb5)
    have HO5 := Lib.hid (own_keep HO.out hb5)
    have HB5 := Lib.hid (below_then HB.out hb5)
    generalize t[k] = X at *
    obtain ⟨x0, _⟩ := item_box hx5
    have HP := Lib.hid (fun w => parent_any X.s w (by have := HSX.out; omega))
    have HPZ : Hid ((parB X.s).size ≤ 100000) := by
      show _ ≤ _
      have h : (parB X.s).size ≤ X.s.size := by unfold parB; rw [ByteArray.size_extract]; omega
      have := HSX.out
      omega
    obtain ⟨R, hR⟩ : ∃ R, R = impW t (chn (parB X.s)) (kn, out) := ⟨_, rfl⟩
    have HIR : Hid (impA t (t.take (k + 1)) = R) := by show _ = _; rw [HTS.out, impA_snoc, HI.out, hR]; rfl
    have HR := Lib.hid hR.symm
    simp only [Itm.cells] at hW5
    have HW5 := Lib.hid hW5
    clear hcc hb5 hx5 hW5 HK HO HB hR HI
    generalize hgx : wr.heap.size = gx at *
    go_upto_region 7 with fail
    rw [← HW5.out]
    clear HW5 c0 c1 c2 c3 c4 c5 c6 c7
    go_wp2_with fail
    refine (HP.out _).mono ?_; rintro e wx ⟨rfl, hw⟩; rw [hw]; clear hw wx
    generalize parB X.s = q0 at *
    clear HP x0
    go_wp2_with fail
    go_loopw [6, 9] (fun v6 v9 wi => ∃ (q : ByteArray) (V : Value) (kn out : List ByteArray) (n : Nat), V = v6 ∧ v9 = .string q ∧ Hid (impW t (chn q) (kn, out) = R) ∧ Hid (KnM wi gk n kn) ∧ Hid (wi.ownsRow (gk + 1) 9 1 V out.length (out.map .string)) ∧ Hid (kn.length + q.size ≤ (k + 1) * 100000 ∧ out.length + q.size ≤ (k + 1) * 100000) ∧ Hid (Below w2.heap.size w2 wi)) (fun _ v _ => szV v)
    case atStart => exact ⟨q0, _, kn, out, n, rfl, rfl, HR, HK5, HO5, by have := HL.out; have := HPZ.out; show _ ∧ _; omega, HB5⟩
    case round =>
      clear HR HK5 HO5 HB5 HL HPZ
      obtain ⟨q, V, kn, out, n, rfl, rfl, HR, HK, HO, HL, HB⟩ := hrel
      obtain ⟨hkc, hown⟩ := HK.out
      have HKC := Lib.hid hkc
      have HOW := Lib.hid hown
      have HQK := Lib.hid (keyOf_string_mk (P := Tryz.prog) Tryz.underlying9 (s := q) (by have := HL.out; unfold maxLen; omega))
      have HH := Lib.hid (setF_has (⟨#[]⟩ :: kn) q)
      have HNM : Hid (n < 200000000) := by show _ < _; have := HL.out; omega
      obtain ⟨W6, hW6⟩ : ∃ W6, W6 = wr.alloc (.cells #[] 51) := ⟨_, rfl⟩
      have hb6 : Below wr.heap.size wr W6 := by rw [hW6]; exact below_al wr _
      have HOM6 := Lib.hid (ownsMapF hown hb6)
      have HO6 := Lib.hid (own_keep HO.out hb6)
      have HB6 := Lib.hid (below_then HB.out hb6)
      have HW6 := Lib.hid hW6
      generalize hG : knB (⟨#[]⟩ :: kn) q = G at *
      have HG := Lib.hid hG
      clear hkc hown hb6 hW6 HK HO HB hG
      go_upto_region 10 with (at_lookup; refine wpList_lookup_own_unit _ rfl _ _ 52 rfl 9 51 keyF Tryz.underlying52 (zero_unitF _) gk n _ rfl HOW.out _ _ rfl HQK.out ?_; rw [HH.out])
      rw [← HW6.out]
      clear HW6 HOW HH
      cases G with
      | true =>
        have HE : Hid (R = some (kn, out)) := by
          show R = _
          rw [← HR.out]
          by_cases h0 : q.size = 0
          · rw [chn_nil h0]; rfl
          · rw [chn_cons h0]
            unfold impW
            rw [if_pos (by rw [← kn_pos kn q h0]; exact HG.out)]
        have HK7 : Hid (KnM W6 gk n kn) := ⟨HKC.out, HOM6.out⟩
        have HI7 : Hid (impA t (t.take (k + 1)) = some (kn, out)) := HIR.out.trans HE.out
        clear HR HG HE HOM6
        go_wp2_with fail
        go_roundw
        case rel => exact ⟨k + 1, _, kn, out, n, by omega, rfl, by go_num, HI7, HK7, HO6, by have := HL.out; show _ ∧ _; omega, HB6⟩
        case measure => simp [intOf]; omega
      | false =>
        have hq0 : q.size ≠ 0 := fun h => by have := kn_zero kn q h; rw [HG.out] at this; cases this
        have HKQ : Hid (knB kn q = false) := by show _ = _; rw [← kn_pos kn q hq0]; exact HG.out
        have HPS := Lib.hid (par_size q hq0)
        have HIS : Hid (∀ X, fndQ t q = some X → R = if X.k = 1 then impW t (chn (parB q)) (kn ++ [q], out) else none) := fun X hX => by
          rw [← HR.out, chn_cons hq0, impW, if_neg (by rw [HKQ.out]; decide), hX]
        have HIN : Hid (fndQ t q = none → R = impW t (chn (parB q)) (kn ++ [q], out ++ [q])) := fun hX => by
          rw [← HR.out, chn_cons hq0, impW, if_neg (by rw [HKQ.out]; decide), hX]
        have HPA := Lib.hid (fun w => parent_any q w (by have := HL.out; omega))
        have HLK := Lib.hid (idx_has t q)
        have HVV : Hid (∀ v ps, nodeR v = some ((idxD t).atKey (keyT q) (nodD itm0), ps) → v = nodV (lokN t q)) := fun v ps h => idx_val _ _ h
        have HLN : Hid (∀ X, fndQ t q = some X → lokN t q = X) := fun X h => by unfold lokN; rw [h]; rfl
        clear HR HG HKQ
        go_upto_region 12 with (at_mapUpdate; refine wpList_mapUpdate_own _ rfl _ _ _ 52 rfl 9 51 keyF Tryz.underlying52 _ gk n _ rfl HOM6.out (by have := HNM.out; unfold maxLen; omega) _ _ _ rfl rfl HQK.out (.agg []) [] unitElem_mk ?_; intro w7 hown7 hgrow7)
        have HK7 : Hid (KnM w7 gk (n + 1) (kn ++ [q])) := ⟨by rw [List.length_append, List.length_singleton]; have := HKC.out; omega, by
          rw [show (⟨#[]⟩ : ByteArray) :: (kn ++ [q]) = (⟨#[]⟩ :: kn) ++ [q] from rfl, setF_snoc]
          exact hown7⟩
        have HO7 := Lib.hid (HO6.out.kept hgrow7 (.inr (fun h => by have := (HO6.out.lt gk (by rw [h])).1; omega)))
        have HB7 : Hid (Below w2.heap.size w2 w7) := HB6.out.grown hgrow7 HB6.out.size (fun z hz => by injection hz with hz; omega)
        have HMI := HNW.out w7 HB7.out
        obtain ⟨m, hm, hownm⟩ := HMI
        have HOM := Lib.hid hownm
        generalize lokN t q = Z at *
        obtain ⟨W8, hW8⟩ : ∃ W8, W8 = w7.alloc (.cells #[.int .i64 Z.k, .int .u32 Z.m, .int .u32 Z.u, .int .u32 Z.g, .int .i64 Z.t, .int .i64 Z.a, .string Z.d] 25) := ⟨_, rfl⟩
        have hb8 : Below w7.heap.size w7 W8 := by rw [hW8]; exact below_al w7 _
        have hx8 : W8.heap[w7.heap.size]? = some (.cells #[.int .i64 Z.k, .int .u32 Z.m, .int .u32 Z.u, .int .u32 Z.g, .int .i64 Z.t, .int .i64 Z.a, .string Z.d] 25 (0, 0)) := by rw [hW8]; exact heap_alloc_new w7 _
        have HK8 := Lib.hid (HK7.out.keep hb8)
        have HO8 := Lib.hid (own_keep HO7.out hb8)
        have HB8 := Lib.hid (below_then HB7.out hb8)
        have z0 := (cell_of_row _ _ 0 _ _ _ hx8).trans (show _ = some (.int .i64 Z.k) from rfl)
        have HW8 := Lib.hid hW8
        clear hown7 hgrow7 hownm hm hb8 hx8 hW8 HK7 HO7 HB7 HOM6 HO6 HB6
        generalize hgz : w7.heap.size = gz at *
        obtain ⟨F, hF⟩ : ∃ F, F = (fndQ t q).isSome := ⟨_, rfl⟩
        rw [← hF] at HLK
        have HF := Lib.hid hF
        clear hF
        go_upto_region 13 with (at_lookup; refine wpList_lookup_own_ok _ rfl _ _ 47 rfl 9 25 keyF Tryz.underlying47 nodeR (zero_nodeF _) (nodD itm0) [] (nodeR_mk itm0) gn m _ rfl HOM.out _ _ rfl HQK.out ?_; intro v ps hv; obtain rfl := HVV.out v ps hv; rw [HLK.out]; unfold nodV)
        rw [← HW8.out]
        clear HW8 HOM HVV HLK
        have hb1 : (kn ++ [q]).length + (parB q).size ≤ (k + 1) * 100000 ∧ out.length + (parB q).size ≤ (k + 1) * 100000 ∧ (out ++ [q]).length + (parB q).size ≤ (k + 1) * 100000 := by
          have := HL.out
          have := HPS.out
          rw [List.length_append, List.length_append, List.length_singleton]
          omega
        have HLB := Lib.hid hb1
        clear hb1
        cases F with
        | true =>
          obtain ⟨X, hX⟩ : ∃ X, fndQ t q = some X := Option.isSome_iff_exists.1 HF.out.symm
          obtain rfl := HLN.out X hX
          have HRX := Lib.hid (HIS.out _ hX)
          clear hX HIS HIN HLN HF
          by_cases hk1 : Z.k = 1
          · have HR2 : Hid (impW t (chn (parB q)) (kn ++ [q], out) = R) := by show _ = _; rw [HRX.out, if_pos hk1]
            rw [hk1] at z0
            clear HRX hk1
            go_wp2_with fail
            refine (HPA.out _).mono ?_; rintro e wx ⟨rfl, hw⟩; rw [hw]; clear hw wx
            go_wp2_with fail
            go_roundw
            case rel => exact ⟨parB q, _, kn ++ [q], out, n + 1, rfl, rfl, HR2, HK8, HO8, ⟨HLB.out.1, HLB.out.2.1⟩, HB8⟩
            case measure => exact HPS.out
          · have hkn1 : (Z.k != 1) = true := bne_iff_ne.2 hk1
            have HRN : Hid (impA t t = none) := by
              show _ = _
              have h : impA t (t.take (k + 1)) = none := by rw [HIR.out, HRX.out, if_neg hk1]
              have h2 := impA_none (m := t.drop (k + 1)) h
              rw [← HDR.out] at h2
              exact h2
            have e1 : Hid (RB = false) := by show _ = _; rw [HRB.out]; unfold impB; rw [HRN.out]; rfl
            have e2 : Hid (RO = []) := by show _ = _; rw [HRO.out]; unfold impL impB; rw [HRN.out]; rfl
            have HBW := Lib.hid (below_then HB2.out HB8.out)
            clear HRX hk1 HRN HPA
            go_wp2_with fail
            go_ret2
            rw [e1.out, e2.out]
            exact ⟨_, rfl, World.ownsRow_nil _ _ _ _, Nat.zero_le _, HBW.out⟩
        | false =>
          have hX : fndQ t q = none := by
            cases h : fndQ t q with
            | none => rfl
            | some X => have := HF.out; rw [h] at this; cases this
          have HR2 := Lib.hid (HIN.out hX).symm
          have HO9 := Lib.hid (HO8.out.alloc (.cells #[.string q] 9))
          have HK9 := Lib.hid (HK8.out.keep (below_al W8 (.cells #[.string q] 9)))
          have HB9 := Lib.hid (below_then HB8.out (below_al W8 (.cells #[.string q] 9)))
          have HQ9 : Hid (∀ j u, [Value.string q][j]? = some u → (W8.alloc (.cells #[.string q] 9)).cell? ((⟨W8.heap.size, 0, none⟩ : Addr).add j) = some u) := fun j u hj => by
            rw [Addr.add_lit, Nat.zero_add, cell_of_row _ _ j _ _ _ (heap_alloc_new W8 _)]
            simpa using hj
          have HGK : Hid (gk + 1 ≤ (W8.alloc (.cells #[.string q] 9)).heap.size) := by show _ ≤ _; have := HK9.out.2.lt; omega
          clear hX HIS HIN HLN HF z0 HO8 HK8
          go_upto_region 8 with (at_builtin; refine wpList_append_own _ rfl _ _ 32 rfl (gk + 1) 9 i0 (.string ⟨#[]⟩) 1 16 Tryz.underlying32 hi hz0 hz1 hz2 rfl (by decide) _ _ _ rfl HO9.out ⟨W8.heap.size, 0, none⟩ 1 1 [.string q] rfl ?qc1 ?qc2 ?qc3 ?qc4 ?qc5 ?qc6 ?_)
          case qc1 => rfl
          case qc2 => exact HQ9.out
          case qc3 => intro u hu; simp at hu; subst hu; rfl
          case qc4 => have := HL.out; unfold maxLen; omega
          case qc5 => have := HL.out; omega
          case qc6 => exact HGK.out
          intro v10 w10 hown10 hgrow10 _
          have HO10 : Hid (w10.ownsRow (gk + 1) 9 1 v10 (out ++ [q]).length ((out ++ [q]).map .string)) := by
            show World.ownsRow _ _ _ _ _ _ _
            rw [List.length_append, List.map_append]
            exact hown10
          have HK10 : Hid (KnM w10 gk (n + 1) (kn ++ [q])) := ⟨HK9.out.1, HK9.out.2.kept hgrow10 (fun h => by have := (HO9.out.lt gk h.symm).1; omega)⟩
          have HB10 : Hid (Below w2.heap.size w2 w10) := HB9.out.grown hgrow10 HB9.out.size (fun z hz => by have := (HO9.out.lt z hz).1; omega)
          clear hown10 hgrow10 HO9 HK9 HB9 HQ9 HGK
          go_wp2_with fail
          refine (HPA.out _).mono ?_; rintro e wx ⟨rfl, hw⟩; rw [hw]; clear hw wx
          go_wp2_with fail
          go_roundw
          case rel => exact ⟨parB q, _, kn ++ [q], out ++ [q], n + 1, rfl, rfl, HR2, HK10, HO10, ⟨HLB.out.1, HLB.out.2.2⟩, HB10⟩
          case measure => exact HPS.out
end Go.Proofs.YtmeapijckncoeaaGreatDoor
