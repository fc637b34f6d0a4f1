/-
  Triples as keys of a map; a map of slices that grows by the entry.
-/
import Derived.Test.YtfhbkidceombbaaMatC
import Derived.Test.YtfhbkidceombbaaPreK
import Derived.WideKeyEntry
import Derived.Maps.OwnRows
import Derived.Maps.RangeWalk
import Derived.DeepKeys4
import Derived.MapViews
import Derived.Laws.IdiomArrays
namespace Go.Proofs.Ytfhbkidceombbaa
set_option maxRecDepth 100000
open Go.RowKit Go.Deep Go.ChangeMaps Go.ChangeShapes Go.WideShapes Go.MapKept
open Go.Maps (Keyed IsMap has)
open Go.WideMaps (KeyLaw)
open Go.WideElems (Fit rd rg entry_then_store)

theorem tri_row : (184 : TypeId) < Try.prog.types.size := of_decide_eq_true (by kernel_rfl)
theorem tri_cells : Try.prog.cellsOf 184 = 3 := by kernel_rfl
theorem tri_deep : Try.prog.keyTypeAt (Try.prog.types.size + 1) 184 = true := by kernel_rfl
theorem tri_wide : (match Try.prog.underlying 184 with | some (.array _ _) | some (.struct _) => true | _ => false) = true := by rw [Try.underlying184]
theorem tri_klaw : KeyLaw Try.prog 184 := deep_law_laid laid_out (m := 2) (by omega) tri_row (by kernel_rfl) tri_wide
theorem tri_law : Keyed Try.prog 184 := Keyed.of_law tri_klaw

/-- A triple as a value. -/
def tv (x y z : Nat) : Value := .agg #[.int .u8 (x : Nat), .int .u8 (y : Nat), .int .u8 (z : Nat)]
theorem tv_key (x y z : Nat) (hx : x < 256) (hy : y < 256) (hz : z < 256) : ∃ k, keyOf Try.prog 184 (tv x y z) = some k := by
  have h0 : (Lit.int .u8 (x : Nat)).wf = true := WalkArith.wf_u8 (by omega)
  have h1 : (Lit.int .u8 (y : Nat)).wf = true := WalkArith.wf_u8 (by omega)
  have h2 : (Lit.int .u8 (z : Nat)).wf = true := WalkArith.wf_u8 (by omega)
  have hf : (tv x y z).formed Try.prog 184 = true := by simp [tv, Value.formed, Try.underlying184, tri_cells]
  have t0 : DataW.trod (fun _ => ()) Try.prog (default : World) 0 (fun _ => false) false 1 5 [.int .u8 (x : Nat)] = some (.lit (.int .u8 (x : Nat)), []) := trod_int_mk 0 Try.underlying5 h0
  have t1 : DataW.trod (fun _ => ()) Try.prog (default : World) 0 (fun _ => false) false 1 5 [.int .u8 (y : Nat)] = some (.lit (.int .u8 (y : Nat)), []) := trod_int_mk 0 Try.underlying5 h1
  have t2 : DataW.trod (fun _ => ()) Try.prog (default : World) 0 (fun _ => false) false 1 5 [.int .u8 (z : Nat)] = some (.lit (.int .u8 (z : Nat)), []) := trod_int_mk 0 Try.underlying5 h2
  have hd : DataW.trod (fun _ => ()) Try.prog (default : World) 0 (fun _ => false) false 2 184 [.int .u8 (x : Nat), .int .u8 (y : Nat), .int .u8 (z : Nat)] = some (.agg [.lit (.int .u8 (x : Nat)), .lit (.int .u8 (y : Nat)), .lit (.int .u8 (z : Nat))], []) := by
    unfold DataW.trod
    rw [Try.underlying184]
    have r3 : List.range 3 = [0, 1, 2] := rfl
    simp [r3, u8_cells, tri_cells, t0, t1, t2]
  exact ⟨_, (keyOf_asKey tri_deep tri_wide hf ⟨2, by simpa [tv, Value.cells] using hd⟩).1⟩
/-- What a triple reads as, as a key. -/
noncomputable def tk (x y z : Nat) : Lit := (keyOf Try.prog 184 (tv x y z)).getD (.bool true)
theorem tk_of (x y z : Nat) (hx : x < 256) (hy : y < 256) (hz : z < 256) : keyOf Try.prog 184 (tv x y z) = some (tk x y z) := by
  obtain ⟨k, h⟩ := tv_key x y z hx hy hz
  unfold tk
  rw [h]
  rfl
theorem tk_inj (x y z x' y' z' : Nat) (hx : x < 256) (hy : y < 256) (hz : z < 256) (hx' : x' < 256) (hy' : y' < 256) (hz' : z' < 256) (h : tk x y z = tk x' y' z') : x = x' ∧ y = y' ∧ z = z' := by
  have e := tri_law.inj (tk_of x y z hx hy hz) (h ▸ tk_of x' y' z' hx' hy' hz')
  unfold tv at e
  simp at e
  omega

section
variable {H : Type} {P : Program} {w : World} {t k E : TypeId} {b : Nat} {es : Array MapEntry} {clock : Nat} {base : Nat} {e : TypeId} {q : IntKind} {n : Nat} {D : DataW H}
/-- A store does the same to one map wherever it lies. -/
theorem upd_local {R : Value → Option (DataW H × List MemPlace)} (K : Keyed P k) (ht : P.underlying t = some (.map k E)) (F : Fit P k R es clock) {key val : Value} {kl : Lit} (hkey : keyOf P k key = some kl) :
    ∃ o, ∀ u : World, u.heap[b]? = some (.map es clock) → (Instr.mapUpdate t (.map (some b)) key val).run P u = .ok () (setBlock u b o) := by
  rcases K.find (default : World) hkey es.toList F.keys with ⟨_, h2⟩ | ⟨j, e0, _, h2, h3⟩
  · refine ⟨.map (es.push ⟨key, val, clock⟩) (clock + 1), fun u hu => ?_⟩
    rcases K.find u hkey es.toList F.keys with ⟨h1, _⟩ | ⟨j, e0, _, h2', h3⟩
    · simp [Instr.mapUpdate, run_underlying ht, MapKept.run_getObj_map hu, K.check u false hkey, h1, MapKept.run_setObj_map _ hu, Result.andThen, setBlock]
    · exact absurd h3 (h2 e0 (List.mem_of_getElem? h2'))
  · refine ⟨.map (es.modify j (fun x => { x with key := key, val := val })) clock, fun u hu => ?_⟩
    rcases K.find u hkey es.toList F.keys with ⟨_, h⟩ | ⟨j', e1, h1, h2', h3'⟩
    · exact absurd h3 (h e0 (List.mem_of_getElem? h2))
    · have hpw := ((stamped_iff es clock).1 F.stamped).2.2
      have hjj : j' = j := by
        obtain ⟨hj, he⟩ := List.getElem?_eq_some_iff.1 h2
        obtain ⟨hj', he'⟩ := List.getElem?_eq_some_iff.1 h2'
        rcases Nat.lt_trichotomy j' j with h | h | h
        · have := List.pairwise_iff_getElem.1 hpw j' j hj' hj h
          rw [he, he', h3, h3'] at this
          exact absurd rfl this
        · exact h
        · have := List.pairwise_iff_getElem.1 hpw j j' hj hj' h
          rw [he, he', h3, h3'] at this
          exact absurd rfl this
      subst hjj
      have hj : es[j']? = some e1 := by simpa using h2'
      simp [Instr.mapUpdate, run_underlying ht, MapKept.run_getObj_map hu, K.check u false hkey, h1, hj, h3', K.stays u hkey, MapKept.run_setObj_map _ hu, Result.andThen, setBlock]
theorem groups_entry {key : Value} {kl : Lit} (K : KeyLaw P k) (ht : P.underlying t = some (.map k E)) (hz : ∀ u : World, (zeroValue E).run P u = .ok (.slice none 0 0) u) (h : w.ownsGroups P k base e q b n D) (hn : n < maxLen) (hkey : keyOf P k key = some kl) :
    ∃ v zs w1 st, (Instr.mapEntry t (.map (some b)) key).run P w = .ok (.tuple #[v, goInt st]) w1 ∧ D.atKey kl .nil = rowDatum q v zs ∧ w1.ownsInts base e q v zs ∧ zs.length ≤ n ∧ w.grownBy w1 (some b) ∧ w1.heap.size = w.heap.size ∧ b < base ∧
      ∀ (w2 : World) (v' : Value) (zs' : List Int), w1.grownBy w2 v.ownBlock → w2.ownsInts base e q v' zs' → zs'.length ≤ n + 1 → (v'.ownBlock = v.ownBlock ∨ ∃ g, v'.ownBlock = some g ∧ w1.heap.size ≤ g) →
        ∃ w3, (Instr.entryStore t (.map (some b)) (goInt st) v').run P w2 = .ok () w3 ∧ w3.ownsGroups P k base e q b (n + 1) (D.put kl (rowDatum q v' zs')) ∧ w2.grownBy w3 (some b) := by
  obtain ⟨v, zs, hrun, hat, hoi, hzl, hback⟩ := h.at (Keyed.of_law K) ht (hz w) hn hkey
  obtain ⟨es, clock, hb, F, hs, rfl, hbb, hlen, hap⟩ := h
  obtain ⟨v0, st, es1, clock1, hE, hcase, hS⟩ := entry_then_store (w := w) K ht hz hb F hkey
  have hblt : b < w.heap.size := (Array.getElem?_eq_some_iff.1 hb).1
  have hv : v0 = v := by
    rcases Maps.fit_look false (Keyed.of_law K) ht (hz w) hb F hkey with ⟨hr, hno, _⟩ | ⟨e0, y, hm0, h3, hr, _⟩
    · rw [hr] at hrun
      simp at hrun
      rcases hcase with ⟨e1, he1, hk1, _⟩ | ⟨_, h2⟩
      · exact absurd hk1 (hno e1 he1)
      · rw [h2, hrun]
    · rw [hr] at hrun
      simp at hrun
      rcases hcase with ⟨e1, he1, hk1, h2⟩ | ⟨hno, _⟩
      · rw [h2, ← hrun]
        exact congrArg MapEntry.val (entry_eq_of_key ((stamped_iff es clock).1 F.stamped).2.2 he1 hm0 (by rw [hk1, h3]))
      · exact absurd h3 (hno e0 hm0)
  subst hv
  have hg1 : w.grownBy (setBlock w b (.map es1 clock1)) (some b) := ⟨rfl, rfl, rfl, by simp [setBlock], fun i _ hi => heap_setBlock_other hb _ (fun e1 => hi (by rw [e1]))⟩
  have hvb : v0.ownBlock = none ∨ v0.ownBlock ≠ some b := by
    cases hu : v0.ownBlock with
    | none => exact .inl rfl
    | some g => exact .inr fun e1 => by have := (hoi.1.lt g hu).1; cases e1; omega
  refine ⟨v0, zs, _, st, hE, hat, hoi.kept hg1 hvb, hzl, hg1, by simp [setBlock], hbb, fun w2 v' zs' hgr hown' hl' hloc => ?_⟩
  have hsz1 : (setBlock w b (.map es1 clock1)).heap.size = w.heap.size := by simp [setBlock]
  have hb1 : (setBlock w b (.map es1 clock1)).heap[b]? = some (.map es1 clock1) := heap_setBlock_same hb _
  have hvb' : v0.ownBlock ≠ some b := by
    rcases hvb with h | h
    · rw [h]; simp
    · exact h
  have hb2 : w2.heap[b]? = some (.map es1 clock1) := (hgr.block b (by rw [hsz1]; exact hblt) (Ne.symm hvb')).trans hb1
  obtain ⟨o, hloc0⟩ := upd_local (b := b) (val := v') (Keyed.of_law K) ht F hkey
  obtain ⟨es', clock', hst, hup⟩ := hS w2 v' hb2
  have ho : o = .map es' clock' := by
    have h1 := hloc0 w hb
    rw [hup] at h1
    injection h1 with h1 h2
    have h3 := congrArg (fun u : World => u.heap[b]?) h2
    rw [heap_setBlock_same hb, heap_setBlock_same hb] at h3
    exact (Option.some.inj h3).symm
  subst ho
  have hgu : w2.grownBy (setBlock w2 b (.map es clock)) (some b) := ⟨rfl, rfl, rfl, by simp [setBlock], fun i _ hi => heap_setBlock_other hb2 _ (fun e1 => hi (by rw [e1]))⟩
  have hub : (setBlock w2 b (.map es clock)).heap[b]? = some (.map es clock) := heap_setBlock_same hb2 _
  have hvb2 : v'.ownBlock = none ∨ v'.ownBlock ≠ some b := by
    cases hu : v'.ownBlock with
    | none => exact .inl rfl
    | some g => exact .inr fun e1 => by have := (hown'.1.lt g hu).1; cases e1; omega
  have hwu : w.grownBy (setBlock w2 b (.map es clock)) v0.ownBlock := by
    refine ⟨hgr.os, hgr.tape, hgr.output, by have := hgr.size; rw [hsz1] at this; simpa [setBlock] using this, fun i hi hne => ?_⟩
    by_cases e1 : i = b
    · subst e1; rw [hub, hb]
    · rw [heap_setBlock_other hb2 _ e1, hgr.block i (by rw [hsz1]; exact hi) hne, heap_setBlock_other hb _ e1]
  obtain ⟨w3, hrun3, hgr3, hg3⟩ := hback (setBlock w2 b (.map es clock)) v' zs' hwu (hown'.kept hgu hvb2) hl' (hloc.imp id fun ⟨g, h1, h2⟩ => ⟨g, h1, by rw [hsz1] at h2; exact h2⟩)
  have h4 := hloc0 _ hub
  rw [hrun3] at h4
  injection h4 with _ h4
  have h5 : setBlock (setBlock w2 b (.map es clock)) b (.map es' clock') = setBlock w2 b (.map es' clock') := by simp [setBlock]
  rw [h5] at h4
  subst h4
  exact ⟨_, hst, hgr3, ⟨rfl, rfl, rfl, by simp [setBlock], fun i _ hi => heap_setBlock_other hb2 _ (fun e1 => hi (by rw [e1]))⟩⟩
end
section
variable {H : Type} {P : Program} (w : World) {ops : Array Oper} {rest : List Oper} {o : Oper} {a : Act} {Q : Exit → Act → World → Prop}
theorem wpList_mapEntry (hg : o.guard = none) (m x : Operand) (t : TypeId) (hop : o.op = Op.mapEntry t m x) (b : Nat) (hm : a.eval m = .map (some b)) (key : Value) (hx : a.eval x = key) {v : Value} {st : Nat} {w1 : World}
    (hrun : (Instr.mapEntry t (.map (some b)) key).run P w = .ok (.tuple #[v, goInt st]) w1) (hK : wpList P ops Q rest (a.put o.dst (.tuple #[v, goInt st])) w1) : wpList P ops Q (o :: rest) a w := by
  refine wpList_plain hg fun K' hK' => ?_
  unfold Oper.wp
  simp [execOp, hop, hm, hx, hrun, Result.andThen]
  exact hK' _ _ hK
theorem wpList_entryStore (hg : o.guard = none) (m s x : Operand) (t : TypeId) (hop : o.op = Op.entryStore t m s x) (b : Nat) (hm : a.eval m = .map (some b)) (st : Nat) (hs : a.eval s = goInt st) (v : Value) (hx : a.eval x = v) {w1 : World}
    (hrun : (Instr.entryStore t (.map (some b)) (goInt st) v).run P w = .ok () w1) (hK : wpList P ops Q rest (a.put o.dst undef) w1) : wpList P ops Q (o :: rest) a w := by
  refine wpList_plain hg fun K' hK' => ?_
  unfold Oper.wp
  simp [execOp, hop, hm, hs, hx, hrun, Result.andThen]
  exact hK' _ _ hK
end
end Go.Proofs.Ytfhbkidceombbaa
