/-
 Triples as keys of a map; a map of slices that grows by the entry.
 Contract: Chains.
 The chapter's example holds.
 Contract: the document's Places.
 Ranging over where triples begin.
 Contracts: so many times -1.
-/
import Derived.Test.YtmkeicfklbepnaaGreatPkBJ
import Derived.Test.YtmkeicfklbepnaaGreatPkAB
import Derived.WideKeyEntry
import Derived.Maps.OwnRows
import Derived.Maps.RangeWalk
import Derived.DeepKeys4
import Derived.MapViews
import Derived.Laws.IdiomArrays
import Derived.Laws.CopyOwn
import Derived.Deep.OwnRows
import Derived.Laws.OwnMore
import Derived.BigRegion
import Derived.Deep.DeepMust

namespace Go.Proofs.YtmkeicfklbepnaaGreat
set_option maxRecDepth 100000
open Go.RowKit Go.Deep Go.ChangeMaps Go.ChangeShapes Go.WideShapes Go.MapKept
open Go.Maps (Keyed IsMap has)
open Go.WideMaps (KeyLaw)
open Go.WideElems (Fit rd rg entry_then_store)

theorem tri_row : (131 : TypeId) < Tryz.prog.types.size := of_decide_eq_true (by kernel_rfl)
theorem tri_cells : Tryz.prog.cellsOf 131 = 3 := by kernel_rfl
theorem tri_deep : Tryz.prog.keyTypeAt (Tryz.prog.types.size + 1) 131 = true := by kernel_rfl
theorem tri_wide : (match Tryz.prog.underlying 131 with | some (.array _ _) | some (.struct _) => true | _ => false) = true := by rw [Tryz.underlying131]
theorem tri_klaw : KeyLaw Tryz.prog 131 := deep_law_laid laid_out (m := 2) (by omega) tri_row (by kernel_rfl) tri_wide
theorem tri_law : Keyed Tryz.prog 131 := Keyed.of_law tri_klaw

/-- A triple as a value. -/
def tv (x y z : Nat) : Value := .agg #[.int .u8 (x : Nat), .int .u8 (y : Nat), .int .u8 (z : Nat)]
theorem tv_key (x y z : Nat) (hx : x < 256) (hy : y < 256) (hz : z < 256) : ∃ k, keyOf Tryz.prog 131 (tv x y z) = some k := by
 have h0 : (Lit.int .u8 (x : Nat)).wf = true := WalkArith.wf_u8 (by omega)
 have h1 : (Lit.int .u8 (y : Nat)).wf = true := WalkArith.wf_u8 (by omega)
 have h2 : (Lit.int .u8 (z : Nat)).wf = true := WalkArith.wf_u8 (by omega)
 have hf : (tv x y z).formed Tryz.prog 131 = true := by simp [tv, Value.formed, Tryz.underlying131, tri_cells]
 have t0 : DataW.trod (fun _ => ()) Tryz.prog (default : World) 0 (fun _ => false) false 1 5 [.int .u8 (x : Nat)] = some (.lit (.int .u8 (x : Nat)), []) := trod_int_mk 0 Tryz.underlying5 h0
 have t1 : DataW.trod (fun _ => ()) Tryz.prog (default : World) 0 (fun _ => false) false 1 5 [.int .u8 (y : Nat)] = some (.lit (.int .u8 (y : Nat)), []) := trod_int_mk 0 Tryz.underlying5 h1
 have t2 : DataW.trod (fun _ => ()) Tryz.prog (default : World) 0 (fun _ => false) false 1 5 [.int .u8 (z : Nat)] = some (.lit (.int .u8 (z : Nat)), []) := trod_int_mk 0 Tryz.underlying5 h2
 have hd : DataW.trod (fun _ => ()) Tryz.prog (default : World) 0 (fun _ => false) false 2 131 [.int .u8 (x : Nat), .int .u8 (y : Nat), .int .u8 (z : Nat)] = some (.agg [.lit (.int .u8 (x : Nat)), .lit (.int .u8 (y : Nat)), .lit (.int .u8 (z : Nat))], []) := by
  unfold DataW.trod
  rw [Tryz.underlying131]
  have r3 : List.range 3 = [0, 1, 2] := rfl
  simp [r3, u8_cells, tri_cells, t0, t1, t2]
 exact ⟨_, (keyOf_asKey tri_deep tri_wide hf ⟨2, by simpa [tv, Value.cells] using hd⟩).1⟩
/-- What a triple reads as, as a key. -/
noncomputable def tk (x y z : Nat) : Lit := (keyOf Tryz.prog 131 (tv x y z)).getD (.bool true)
theorem tk_of (x y z : Nat) (hx : x < 256) (hy : y < 256) (hz : z < 256) : keyOf Tryz.prog 131 (tv x y z) = some (tk x y z) := by
 obtain ⟨k, h⟩ := tv_key x y z hx hy hz
 unfold tk
 rw [h]
 rfl
theorem tk_inj (x y z x' y' z' : Nat) (hx : x < 256) (hy : y < 256) (hz : z < 256) (hx' : x' < 256) (hy' : y' < 256) (hz' : z' < 256) (h : tk x y z = tk x' y' z') : x = x' ∧ y = y' ∧ z = z' := by
 have e := tri_law.inj (tk_of x y z hx hy hz) (h ▸ tk_of x' y' z' hx' hy' hz')
 unfold tv at e
 simp at e
 omega

section
variable {H : Type} {P : Program} {w : World} {t k E : TypeId} {b : Nat} {es : Array MapEntry} {clock : Nat} {base : Nat} {e : TypeId} {q : IntKind} {n : Nat} {D : DataW H}
/-- A store does the same to one map wherever it lies. -/
theorem upd_local {R : Value → Option (DataW H × List MemPlace)} (K : Keyed P k) (ht : P.underlying t = some (.map k E)) (F : Fit P k R es clock) {key val : Value} {kl : Lit} (hkey : keyOf P k key = some kl) :
  ∃ o, ∀ u : World, u.heap[b]? = some (.map es clock) → (Instr.mapUpdate t (.map (some b)) key val).run P u = .ok () (setBlock u b o) := by
 rcases K.find (default : World) hkey es.toList F.keys with ⟨_, h2⟩ | ⟨j, e0, _, h2, h3⟩
 ·refine ⟨.map (es.push ⟨key, val, clock⟩) (clock + 1), fun u hu => ?_⟩
  rcases K.find u hkey es.toList F.keys with ⟨h1, _⟩ | ⟨j, e0, _, h2', h3⟩
  ·simp [Instr.mapUpdate, run_underlying ht, MapKept.run_getObj_map hu, K.check u false hkey, h1, MapKept.run_setObj_map _ hu, Result.andThen, setBlock]
  ·exact absurd h3 (h2 e0 (List.mem_of_getElem? h2'))
 ·refine ⟨.map (es.modify j (fun x => { x with key := key, val := val })) clock, fun u hu => ?_⟩
  rcases K.find u hkey es.toList F.keys with ⟨_, h⟩ | ⟨j', e1, h1, h2', h3'⟩
  ·exact absurd h3 (h e0 (List.mem_of_getElem? h2))
  ·have hpw := ((stamped_iff es clock).1 F.stamped).2.2
   have hjj : j' = j := by
    obtain ⟨hj, he⟩ := List.getElem?_eq_some_iff.1 h2
    obtain ⟨hj', he'⟩ := List.getElem?_eq_some_iff.1 h2'
    rcases Nat.lt_trichotomy j' j with h | h | h
    ·have := List.pairwise_iff_getElem.1 hpw j' j hj' hj h
     rw [he, he', h3, h3'] at this
     exact absurd rfl this
    ·exact h
    ·have := List.pairwise_iff_getElem.1 hpw j j' hj hj' h
     rw [he, he', h3, h3'] at this
     exact absurd rfl this
   subst hjj
   have hj : es[j']? = some e1 := by simpa using h2'
   simp [Instr.mapUpdate, run_underlying ht, MapKept.run_getObj_map hu, K.check u false hkey, h1, hj, h3', K.stays u hkey, MapKept.run_setObj_map _ hu, Result.andThen, setBlock]
theorem groups_entry {key : Value} {kl : Lit} (K : KeyLaw P k) (ht : P.underlying t = some (.map k E)) (hz : ∀ u : World, (zeroValue E).run P u = .ok (.slice none 0 0) u) (h : w.ownsGroups P k base e q b n D) (hn : n < maxLen) (hkey : keyOf P k key = some kl) :
  ∃ v zs w1 st, (Instr.mapEntry t (.map (some b)) key).run P w = .ok (.tuple #[v, goInt st]) w1 ∧ D.atKey kl .nil = rowDatum q v zs ∧ w1.ownsInts base e q v zs ∧ zs.length ≤ n ∧ w.grownBy w1 (some b) ∧ w1.heap.size = w.heap.size ∧ b < base ∧
   ∀ (w2 : World) (v' : Value) (zs' : List Int), w1.grownBy w2 v.ownBlock → w2.ownsInts base e q v' zs' → zs'.length ≤ n + 1 → (v'.ownBlock = v.ownBlock ∨ ∃ g, v'.ownBlock = some g ∧ w1.heap.size ≤ g) →
    ∃ w3, (Instr.entryStore t (.map (some b)) (goInt st) v').run P w2 = .ok () w3 ∧ w3.ownsGroups P k base e q b (n + 1) (D.put kl (rowDatum q v' zs')) ∧ w2.grownBy w3 (some b) := by
 obtain ⟨v, zs, hrun, hat, hoi, hzl, hback⟩ := h.at (Keyed.of_law K) ht (hz w) hn hkey
 obtain ⟨es, clock, hb, F, hs, rfl, hbb, hlen, hap⟩ := h
 obtain ⟨v0, st, es1, clock1, hE, hcase, hS⟩ := entry_then_store (w := w) K ht hz hb F hkey
 have hblt : b < w.heap.size := (Array.getElem?_eq_some_iff.1 hb).1
 have hv : v0 = v := by
  rcases Maps.fit_look false (Keyed.of_law K) ht (hz w) hb F hkey with ⟨hr, hno, _⟩ | ⟨e0, y, hm0, h3, hr, _⟩
  ·rw [hr] at hrun
   simp at hrun
   rcases hcase with ⟨e1, he1, hk1, _⟩ | ⟨_, h2⟩
   ·exact absurd hk1 (hno e1 he1)
   ·rw [h2, hrun]
  ·rw [hr] at hrun
   simp at hrun
   rcases hcase with ⟨e1, he1, hk1, h2⟩ | ⟨hno, _⟩
   ·rw [h2, ← hrun]
    exact congrArg MapEntry.val (entry_eq_of_key ((stamped_iff es clock).1 F.stamped).2.2 he1 hm0 (by rw [hk1, h3]))
   ·exact absurd h3 (hno e0 hm0)
 subst hv
 have hg1 : w.grownBy (setBlock w b (.map es1 clock1)) (some b) := ⟨rfl, rfl, rfl, by simp [setBlock], fun i _ hi => heap_setBlock_other hb _ (fun e1 => hi (by rw [e1]))⟩
 have hvb : v0.ownBlock = none ∨ v0.ownBlock ≠ some b := by
  cases hu : v0.ownBlock with
  | none => exact .inl rfl
  | some g => exact .inr fun e1 => by have := (hoi.1.lt g hu).1; cases e1; omega
 refine ⟨v0, zs, _, st, hE, hat, hoi.kept hg1 hvb, hzl, hg1, by simp [setBlock], hbb, fun w2 v' zs' hgr hown' hl' hloc => ?_⟩
 have hsz1 : (setBlock w b (.map es1 clock1)).heap.size = w.heap.size := by simp [setBlock]
 have hb1 : (setBlock w b (.map es1 clock1)).heap[b]? = some (.map es1 clock1) := heap_setBlock_same hb _
 have hvb' : v0.ownBlock ≠ some b := by
  rcases hvb with h | h
  ·rw [h]; simp
  ·exact h
 have hb2 : w2.heap[b]? = some (.map es1 clock1) := (hgr.block b (by rw [hsz1]; exact hblt) (Ne.symm hvb')).trans hb1
 obtain ⟨o, hloc0⟩ := upd_local (b := b) (val := v') (Keyed.of_law K) ht F hkey
 obtain ⟨es', clock', hst, hup⟩ := hS w2 v' hb2
 have ho : o = .map es' clock' := by
  have h1 := hloc0 w hb
  rw [hup] at h1
  injection h1 with h1 h2
  have h3 := congrArg (fun u : World => u.heap[b]?) h2
  rw [heap_setBlock_same hb, heap_setBlock_same hb] at h3
  exact (Option.some.inj h3).symm
 subst ho
 have hgu : w2.grownBy (setBlock w2 b (.map es clock)) (some b) := ⟨rfl, rfl, rfl, by simp [setBlock], fun i _ hi => heap_setBlock_other hb2 _ (fun e1 => hi (by rw [e1]))⟩
 have hub : (setBlock w2 b (.map es clock)).heap[b]? = some (.map es clock) := heap_setBlock_same hb2 _
 have hvb2 : v'.ownBlock = none ∨ v'.ownBlock ≠ some b := by
  cases hu : v'.ownBlock with
  | none => exact .inl rfl
  | some g => exact .inr fun e1 => by have := (hown'.1.lt g hu).1; cases e1; omega
 have hwu : w.grownBy (setBlock w2 b (.map es clock)) v0.ownBlock := by
  refine ⟨hgr.os, hgr.tape, hgr.output, by have := hgr.size; rw [hsz1] at this; simpa [setBlock] using this, fun i hi hne => ?_⟩
  by_cases e1 : i = b
  ·subst e1; rw [hub, hb]
  ·rw [heap_setBlock_other hb2 _ e1, hgr.block i (by rw [hsz1]; exact hi) hne, heap_setBlock_other hb _ e1]
 obtain ⟨w3, hrun3, hgr3, hg3⟩ := hback (setBlock w2 b (.map es clock)) v' zs' hwu (hown'.kept hgu hvb2) hl' (hloc.imp id fun ⟨g, h1, h2⟩ => ⟨g, h1, by rw [hsz1] at h2; exact h2⟩)
 have h4 := hloc0 _ hub
 rw [hrun3] at h4
 injection h4 with _ h4
 have h5 : setBlock (setBlock w2 b (.map es clock)) b (.map es' clock') = setBlock w2 b (.map es' clock') := by simp [setBlock]
 rw [h5] at h4
 subst h4
 exact ⟨_, hst, hgr3, ⟨rfl, rfl, rfl, by simp [setBlock], fun i _ hi => heap_setBlock_other hb2 _ (fun e1 => hi (by rw [e1]))⟩⟩
end
section
variable {H : Type} {P : Program} (w : World) {ops : Array Oper} {rest : List Oper} {o : Oper} {a : Act} {Q : Exit → Act → World → Prop}
end
end Go.Proofs.YtmkeicfklbepnaaGreat

namespace Go.Proofs.YtmkeicfklbepnaaGreat
set_option maxRecDepth 100000
open Go.RowKit Go.Deep Go.ChangeMaps Go.ChangeShapes Go.WideShapes
open Go.Maps (Keyed IsMap has)

def zsOf (l : List Nat) : List Int := l.map fun i => ((i : Nat) : Int)
/-- What the map holds of the first k places. -/
noncomputable def gM (a : Nat → Nat) : Nat → DataW Unit
 | 0 => .map []
 | k + 1 => (gM a k).put (tk (a k) (a (k + 1)) (a (k + 2))) (.slice (lits .i64 (zsOf (places a (a k) (a (k + 1)) (a (k + 2)) (k + 1)))) [])
/-- Places as read. -/
def pd (l : List Nat) : DataW Unit := if l = [] then .nil else .slice (lits .i64 (zsOf l)) []
theorem gM_isMap (a : Nat → Nat) : ∀ k, IsMap (gM a k)
 | 0 => ⟨_, rfl⟩
 | k + 1 => (gM_isMap a k).put _ _
theorem gM_has (a : Nat → Nat) (ha : ∀ i, a i < 256) (kl : Lit) : ∀ k, has (gM a k) kl = true ↔ ∃ i, i < k ∧ kl = tk (a i) (a (i + 1)) (a (i + 2))
 | 0 => by
  constructor
  ·intro h; simp [gM, has] at h
  ·rintro ⟨i, h, _⟩; omega
 | k + 1 => by
  have ih := gM_has a ha kl k
  have hk := tri_law.key (tk_of (a k) (a (k + 1)) (a (k + 2)) (ha _) (ha _) (ha _))
  rw [gM]
  by_cases e : kl = tk (a k) (a (k + 1)) (a (k + 2))
  ·subst e
   rw [Maps.has_put_same (gM_isMap a k) hk]
   exact ⟨fun _ => ⟨k, by omega, rfl⟩, fun _ => rfl⟩
  ·rw [Maps.has_put_other e, ih]
   constructor
   ·rintro ⟨i, hi, h⟩; exact ⟨i, by omega, h⟩
   ·rintro ⟨i, hi, h⟩
    refine ⟨i, ?_, h⟩
    by_cases e2 : i = k
    ·subst e2; exact absurd h e
    ·omega
theorem gM_at (a : Nat → Nat) (ha : ∀ i, a i < 256) (x y z : Nat) (hx : x < 256) (hy : y < 256) (hz : z < 256) : ∀ k, (gM a k).atKey (tk x y z) .nil = pd (places a x y z k)
 | 0 => rfl
 | k + 1 => by
  have ih := gM_at a ha x y z hx hy hz k
  have hk := tri_law.key (tk_of (a k) (a (k + 1)) (a (k + 2)) (ha _) (ha _) (ha _))
  rw [gM]
  by_cases e : a k = x ∧ a (k + 1) = y ∧ a (k + 2) = z
  ·obtain ⟨rfl, rfl, rfl⟩ := e
   rw [Maps.atKey_put_same (gM_isMap a k) hk]
   unfold pd
   rw [if_neg (by rw [places, if_pos ⟨rfl, rfl, rfl⟩]; simp)]
  ·rw [Maps.atKey_put_other (fun h => e (by
    obtain ⟨h1, h2, h3⟩ := tk_inj _ _ _ _ _ _ hx hy hz (ha _) (ha _) (ha _) h
    exact ⟨h1.symm, h2.symm, h3.symm⟩)), ih, places, if_neg e]
theorem pd_inj {W : World} {base : Nat} {v : Value} {zs : List Int} {l : List Nat} (ho : W.ownsInts base 3 .i64 v zs) (h : pd l = rowDatum .i64 v zs) : zs = zsOf l := by
 rcases ho.datum (H := Unit) with ⟨h1, h2⟩ | h1
 ·rw [h1] at h
  unfold pd at h
  split at h
  ·rename_i e; rw [e, h2]; rfl
  ·cases h
 ·rw [h1] at h
  unfold pd at h
  split at h
  ·cases h
  ·injection h with h _
   have hinj : ∀ a b : List Int, lits (H := Unit) .i64 a = lits .i64 b → a = b := fun a b e => (List.map_inj_right (fun x y hxy => by cases hxy; rfl)).1 e
   exact (hinj _ _ h).symm

theorem info_int : (Tryz.prog.info? 3).map (fun i => (i.zero, i.size, i.bytes)) = some (some (.int .i64 0), 1, 8) := by kernel_rfl
theorem zero_ints (w : World) : (zeroValue 68).run Tryz.prog w = .ok (.slice none 0 0) w := by kernel_rfl
theorem zero_tri (w : World) : (zeroValue 131).run Tryz.prog w = .ok (.agg #[.int .u8 0, .int .u8 0, .int .u8 0]) w := by kernel_rfl
theorem groups_kept {H : Type} {P : Program} {w w' : World} {k : TypeId} {base : Nat} {e : TypeId} {q : IntKind} {b n : Nat} {D : DataW H} (h : w.ownsGroups P k base e q b n D) (hg : w.grownBy w' none) : w'.ownsGroups P k base e q b n D := by
 obtain ⟨es, clock, hb, F, hs, rfl, hbb, hlen, hap⟩ := h
 have kept : ∀ {v : Value} {zs : List Int}, w.ownsInts base e q v zs → w'.ownsInts base e q v zs := fun ho => ho.kept hg (by cases hv : Value.ownBlock _ <;> simp)
 obtain ⟨F2, hmap, _⟩ := F.stay (R' := rowElem (H := H) w' base e q) (fun x _ z hz => by
  obtain ⟨ys, ho, rfl⟩ := rowElem_inv hz
  exact rowElem_mk (kept ho))
 refine ⟨es, clock, (hg.block b (Array.getElem?_eq_some_iff.1 hb).1 (by simp)).trans hb, F2, hs, by rw [hmap], hbb, fun x hx zs ho => ?_, hap⟩
 obtain ⟨y, hy⟩ := F.reads x hx
 obtain ⟨z, hz, _⟩ := Go.WideElems.rd_val hy
 obtain ⟨ys, ho', _⟩ := rowElem_inv hz
 rw [ho.unique (kept ho')]
 exact hlen x hx ys ho'
theorem cell1 {w : World} {g : Nat} {x : Value} (h : w.cell? ⟨g, 0, none⟩ = some x) : ∀ j u, [x][j]? = some u → w.cell? ((⟨g, 0, none⟩ : Addr).add j) = some u := by
 intro j u hj
 match j, hj with
 | 0, hj =>
  simp at hj
  subst hj
  simpa [Addr.add] using h
theorem gM_step (a : Nat → Nat) (ha : ∀ i, a i < 256) (k : Nat) {W : World} {base : Nat} {v v' : Value} {zs : List Int} (hat : (gM a k).atKey (tk (a k) (a (k + 1)) (a (k + 2))) .nil = rowDatum .i64 v zs) {W0 : World} (ho : W0.ownsInts base 3 .i64 v zs)
  (ho' : W.ownsInts base 3 .i64 v' (zs ++ [((k : Nat) : Int)])) : (gM a k).put (tk (a k) (a (k + 1)) (a (k + 2))) (rowDatum .i64 v' (zs ++ [((k : Nat) : Int)])) = gM a (k + 1) := by
 rw [gM_at a ha _ _ _ (ha _) (ha _) (ha _)] at hat
 have hz := pd_inj ho hat
 rw [gM, ho'.datum_pos (by simp), hz, places, if_pos ⟨rfl, rfl, rfl⟩]
 unfold zsOf
 rw [List.map_append]
 rfl
set_option maxHeartbeats 4000000 in
theorem chains_long (s : ByteArray) (hs : 1048576 < s.size) (w : World) : Calls Tryz.prog 75 #[.string s] w fun e w' => e = .returned (.map none) ∧ w' = w := by
 go_enter Tryz.func75, Tryz.ntmps75
 go_wp2
 go_ret
 exact ⟨rfl, rfl⟩
set_option maxHeartbeats 4000000 in
theorem chains_any (s : ByteArray) (hs : s.size ≤ 1048576) (w : World) : Calls Tryz.prog 75 #[.string s] w fun e w' => e = .returned (.map (some w.heap.size)) ∧ w'.ownsGroups Tryz.prog 131 (w.heap.size + 1) 3 .i64 w.heap.size (s.size - 2) (gM (bt s) (s.size - 2)) ∧ Below w.heap.size w w' := by
 obtain ⟨i0, hi, hz0, hz1, hz2⟩ := info_parts info_int
 have hmm := @run_makeMap Tryz.prog
 have hzt := zero_tri
 go_enter Tryz.func75, Tryz.ntmps75
 go_wp2_with fail
 go_loopw [14] (fun i wr => ∃ k : Nat, k ≤ s.size - 2 ∧ i = .int .i64 (k : Nat) ∧ Hid (wr.ownsGroups Tryz.prog 131 (w.heap.size + 1) 3 .i64 w.heap.size k (gM (bt s) k)) ∧ Hid (Below w.heap.size w wr) ∧ Hid (w.heap.size + 1 ≤ wr.heap.size)) (fun i _ => (s.size - 2) - (intOf i).toNat)
 case atStart => exact ⟨0, Nat.zero_le _, rfl, World.ownsGroups_made _ _ _ _ _, (Below.refl _ _).alloc (Nat.le_refl _) _, (by simp : w.heap.size + 1 ≤ (w.alloc (.map #[] 0)).heap.size)⟩
 case round =>
  obtain ⟨k, hk, rfl, HG, HB, HS⟩ := hrel
  by_cases hkn : k + 2 < s.size
  ·have l0 : k < s.size := by omega
   obtain ⟨q1, e1, f1⟩ : ∃ q1 : Nat, ((k : Int) + 1) = (q1 : Int) ∧ q1 = k + 1 := ⟨k + 1, by omega, rfl⟩
   obtain ⟨q2, e2, f2⟩ : ∃ q2 : Nat, ((k : Int) + 2) = (q2 : Int) ∧ q2 = k + 2 := ⟨k + 2, by omega, rfl⟩
   have l1 : q1 < s.size := by omega
   have l2 : q2 < s.size := by omega
   have F1 := Lib.hid f1
   have F2 := Lib.hid f2
   clear f1 f2
   go_wp2_with fail
   go_region
   rw [bt_get s k l0, bt_get s q1 l1, bt_get s q2 l2]
   have b0 := bt_lt s k
   have b1 := bt_lt s q1
   have b2 := bt_lt s q2
   have HK := Lib.hid (tk_of _ _ _ b0 b1 b2)
   have hg1 : wr.grownBy (wr.alloc (.cells #[.int .u8 (bt s k : Nat), .int .u8 (bt s q1 : Nat), .int .u8 (bt s q2 : Nat)] 131)).drew none := ⟨rfl, rfl, rfl, by simp [World.drew], fun i hi _ => Below.heap_alloc wr _ i hi⟩
   have hx1 : (wr.alloc (.cells #[.int .u8 (bt s k : Nat), .int .u8 (bt s q1 : Nat), .int .u8 (bt s q2 : Nat)] 131)).drew.heap[wr.heap.size]? = some (.cells #[.int .u8 (bt s k : Nat), .int .u8 (bt s q1 : Nat), .int .u8 (bt s q2 : Nat)] 131 (0, 0)) := heap_alloc_new wr _
   have hs1 : (wr.alloc (.cells #[.int .u8 (bt s k : Nat), .int .u8 (bt s q1 : Nat), .int .u8 (bt s q2 : Nat)] 131)).drew.heap.size = wr.heap.size + 1 := by simp [World.drew]
   have hB1 : Below w.heap.size w (wr.alloc (.cells #[.int .u8 (bt s k : Nat), .int .u8 (bt s q1 : Nat), .int .u8 (bt s q2 : Nat)] 131)).drew := (HB.out.alloc (by have := HS.out; omega) _).drew
   have HBT : Hid (∀ W : World, ∀ base v v' zs, ∀ W0 : World, (gM (bt s) k).atKey (tk (bt s k) (bt s q1) (bt s q2)) .nil = rowDatum .i64 v zs → W0.ownsInts base 3 .i64 v zs → W.ownsInts base 3 .i64 v' (zs ++ [((k : Nat) : Int)]) → (gM (bt s) k).put (tk (bt s k) (bt s q1) (bt s q2)) (rowDatum .i64 v' (zs ++ [((k : Nat) : Int)])) = gM (bt s) (k + 1)) := by
    intro W base v v' zs W0 h1 h2 h3
    rw [F1.out, F2.out] at h1 ⊢
    exact gM_step (bt s) (bt_lt s) k h1 h2 h3
   generalize bt s k = x0 at *
   generalize bt s q1 = x1 at *
   generalize bt s q2 = x2 at *
   have HG1 := groups_kept HG.out hg1
   generalize (wr.alloc (.cells #[.int .u8 (x0 : Nat), .int .u8 (x1 : Nat), .int .u8 (x2 : Nat)] 131)).drew = w1 at *
   have k0 : w1.cell? ⟨wr.heap.size, 0, none⟩ = some (.int .u8 (x0 : Nat)) := by rw [cell_of_row w1 _ 0 _ _ _ hx1]; rfl
   have k1 : w1.cell? ⟨wr.heap.size, 1, none⟩ = some (.int .u8 (x1 : Nat)) := by rw [cell_of_row w1 _ 1 _ _ _ hx1]; rfl
   have k2 : w1.cell? ⟨wr.heap.size, 2, none⟩ = some (.int .u8 (x2 : Nat)) := by rw [cell_of_row w1 _ 2 _ _ _ hx1]; rfl
   have HG2 := groups_kept HG1 (World.grownBy_alloc w1 (.cells #[.int .i64 (k : Nat)] 3) none)
   have hB2 : Below w.heap.size w (w1.alloc (.cells #[.int .i64 (k : Nat)] 3)) := hB1.alloc (by have := HS.out; omega) _
   have hx2 : (w1.alloc (.cells #[.int .i64 (k : Nat)] 3)).cell? ⟨w1.heap.size, 0, none⟩ = some (.int .i64 (k : Nat)) := by rw [cell_of_row _ _ 0 _ _ _ (heap_alloc_new w1 _)]; rfl
   have hs2 : (w1.alloc (.cells #[.int .i64 (k : Nat)] 3)).heap.size = w1.heap.size + 1 := by simp
   obtain ⟨v, zs, w3, st, hE, hat, hoi, hzl, hg3, hs3, hbb, hst⟩ := groups_entry (t := 128) tri_klaw Tryz.underlying128 zero_ints HG2 (by unfold maxLen; omega) HK.out
   have k3 : w3.cell? ⟨w1.heap.size, 0, none⟩ = some (.int .i64 (k : Nat)) := (World.cell?_of_block (hg3.block w1.heap.size (by rw [hs2]; omega) (by intro e; injection e with e; have := HS.out; omega))).trans hx2
   have HOI := Lib.hid hoi
   have HAT := Lib.hid hat
   have HST := Lib.hid hst
   have HZL := Lib.hid hzl
   have hB3 : Below w.heap.size w w3 := hB2.grown hg3 (by have := HS.out; rw [hs2]; omega) (fun j hj => by injection hj with e; omega)
   have HB3 := Lib.hid hB3
   have HSZ : Hid (w3.heap.size = wr.heap.size + 2) := by show w3.heap.size = _; rw [hs3, hs2, hs1]
   have HSZ1' : Hid (w1.heap.size = wr.heap.size + 1) := hs1
   unfold tv at hE
   clear hg1 hx1 hs1 hB1 HG1 HG2 hB2 hx2 hs2 hoi hat hst hzl hg3 hs3 hbb hB3 HK
   have HSZ1 : Hid (w1.heap.size = wr.heap.size + 1) := HSZ1'
   go_wp2_with (at_builtin; go_must (refine wpList_append_own_at _ rfl (.tmp 31) (.tmp 33) _ rfl (w.heap.size + 1) 3 i0 (.int .i64 0) 1 8 Tryz.underlying68 hi hz0 hz1 hz2 rfl (by decide) v zs.length (zs.map (Value.int .i64)) rfl HOI.out.1 ⟨w1.heap.size, 0, none⟩ 1 1 [.int .i64 (k : Nat)] rfl rfl (cell1 k3) (ints_oneCell .i64 [((k : Nat) : Int)]) (by have := HZL.out; unfold maxLen; omega) (by have := HZL.out; omega) (by have h1 := HSZ.out; have h2 := HS.out; omega) ?_; intro v' w4 hown' hgrow hnil hloc; obtain ⟨w5, hS, hG5, hg5⟩ := HST.out w4 v' _ hgrow (HOI.out.appended hown' (WalkArith.wf_i64 (by omega))) (by have := HZL.out; simp; omega) (hloc.imp id (fun h => ⟨_, h, Nat.le_refl _⟩)); have HOA := Lib.hid (HOI.out.appended hown' (WalkArith.wf_i64 (by omega))); have HGR := Lib.hid hgrow; have HG5 := Lib.hid hG5; have HR5 := Lib.hid hg5; clear hown' hgrow hnil hloc hG5 hg5; unfold goInt at hS))
   go_roundw
   case rel =>
    refine ⟨k + 1, by omega, by go_num, ?_, ?_, ?_⟩
    ·have h := HG5.out
     rw [HBT.out _ _ v v' zs _ HAT.out HOI.out HOA.out] at h
     exact h
    ·exact (HB3.out.grown HGR.out (by have h1 := HSZ.out; have h2 := HS.out; omega) (fun j hj => by have := (HOI.out.1.lt j hj).1; omega)).grown HR5.out (by have h0 := HGR.out.size; have h1 := HSZ.out; have h2 := HS.out; omega) (fun j hj => by injection hj with e; omega)
    ·show w.heap.size + 1 ≤ _
     have h0 := HGR.out.size; have h1 := HSZ.out; have h2 := HS.out; have h3 := HR5.out.size; omega
   case measure => simp [intOf]; omega
  ·obtain rfl : k = s.size - 2 := by omega
   go_wp2
   go_ret
   exact ⟨rfl, HG.out, HB.out⟩
end Go.Proofs.YtmkeicfklbepnaaGreat

namespace Go.Proofs.YtmkeicfklbepnaaGreat
set_option maxRecDepth 100000
open Go.RowKit Go.Deep Go.ChangeMaps Go.ChangeShapes Go.WideShapes
open Go.Maps (Keyed IsMap has Tidy)

theorem groups_own {H : Type} {P : Program} {w : World} {k : TypeId} {base : Nat} {e : TypeId} {q : IntKind} {b n : Nat} {D : DataW H} (h : w.ownsGroups P k base e q b n D) : w.ownsMap P k (rowElem w base e q) b n D := by
 obtain ⟨es, clock, hb, F, hs, rfl, _⟩ := h
 exact ⟨es, clock, hb, F, hs, rfl⟩
def exToks : Nat → Tok := fun i => if i = 0 then ⟨97, 0, 0⟩ else ⟨0, 4, 1⟩
def abcd : ByteArray := ⟨#[97, 98, 99, 100]⟩
end Go.Proofs.YtmkeicfklbepnaaGreat

namespace Go.Proofs.YtmkeicfklbepnaaGreat
set_option maxRecDepth 100000
open Go.RowKit Go.Deep Go.Joins

def cellsI (l : List Nat) : List Value := l.map fun i => Value.int .i64 (i : Nat)
theorem cellsI_zs (l : List Nat) : (zsOf l).map (Value.int .i64) = cellsI l := by unfold zsOf cellsI; rw [List.map_map]; rfl
end Go.Proofs.YtmkeicfklbepnaaGreat

namespace Go.Proofs.YtmkeicfklbepnaaGreat
set_option maxRecDepth 100000
open Go.RowKit Go.Deep Go.ChangeMaps Go.ChangeShapes Go.WideShapes Go.MapKept
open Go.Maps (Keyed IsMap has)
open Go.WideElems (Fit rd rg)

noncomputable def keyOfT (a : Nat → Nat) (p : Nat) : Lit := tk (a p) (a (p + 1)) (a (p + 2))
/-- How many places' keys have come. -/
noncomputable def cameN (a : Nat → Nat) (left : Lit → Bool) : Nat → Nat
 | 0 => 0
 | m + 1 => if left (keyOfT a m) = true then cameN a left m else cameN a left m + 1
section
variable {H : Type} {P : Program} {w : World} {t k E : TypeId} {b : Nat} {base : Nat} {e : TypeId} {q : IntKind} {n : Nat} {D : DataW H}
end
/-- A slice, by its parts. -/
def mkS (p : Option Addr × Nat × Nat) : Value := .slice p.1 p.2.1 p.2.2
theorem inv_slice {w0 : World} {base : Nat} {e : TypeId} (v : Value) (y : DataW Unit × List MemPlace) (h : rowElem w0 base e .i64 v = some y) : ∃ c, v = mkS c := by
 obtain ⟨zs, ho, _⟩ := rowElem_inv h
 obtain ⟨A, c, rfl⟩ := row_slice ho.1
 exact ⟨(A, zs.length, c), rfl⟩
theorem inv_key (key : Value) (kl : Lit) (_ : keyOf Tryz.prog 131 key = some kl) : ∃ x, key = (fun v : Value => v) x := ⟨key, rfl⟩
/-- What comes at a key: where its triple begins. -/
theorem came_val (a : Nat → Nat) (ha : ∀ i, a i < 256) (m : Nat) {w0 : World} {base : Nat} {c : Option Addr × Nat × Nat} {kl : Lit} {y : DataW Unit × List MemPlace} (hl : has (gM a m) kl = true) (hv : rowElem w0 base 3 .i64 (mkS c) = some y) (hat : ∀ zd, (gM a m).atKey kl zd = y.1) :
  ∃ p, p < m ∧ kl = keyOfT a p ∧ w0.ownsInts base 3 .i64 (mkS c) (zsOf (places a (a p) (a (p + 1)) (a (p + 2)) m)) ∧ c.2.1 = (places a (a p) (a (p + 1)) (a (p + 2)) m).length := by
 obtain ⟨p, hp, hkl⟩ := (gM_has a ha kl m).1 hl
 obtain ⟨zs, ho, rfl⟩ := rowElem_inv hv
 have h1 := hat .nil
 rw [hkl, gM_at a ha _ _ _ (ha _) (ha _) (ha _)] at h1
 have hz := pd_inj ho h1
 subst hz
 refine ⟨p, hp, hkl, ho, ?_⟩
 obtain ⟨A, cp, h2⟩ := row_slice ho.1
 have h3 : c.2.1 = (zsOf (places a (a p) (a (p + 1)) (a (p + 2)) m)).length := by
  unfold mkS at h2
  injection h2
 rw [h3]
 simp [zsOf]
end Go.Proofs.YtmkeicfklbepnaaGreat

namespace Go.Proofs.YtmkeicfklbepnaaGreat
set_option maxRecDepth 100000
open Go.RowKit Go.Deep Go.Joins

theorem mul64_oneI (n : Nat) (hn : n ≤ 1000000) (w : World) : Calls Tryz.prog 114 #[.int .u64 1, .int .u64 n] w fun e w' => e = .returned (.tuple #[.int .u64 0, .int .u64 n]) ∧ w = w' := by
 have h1 : bits .and .u64 1 4294967295 = 1 := by decide
 have h2 : bits .and .u64 (n : Int) 4294967295 = (n : Int) := by
  have := u64_and_nat n 4294967295 (by omega) (by omega)
  rw [show (4294967295 : Nat) = 2 ^ 32 - 1 from rfl, Nat.and_two_pow_sub_one_eq_mod, Nat.mod_eq_of_lt (by omega)] at this
  exact this
 have h3 : bits .and .u64 0 4294967295 = 0 := by decide
 have h4 : (n : Int) / 4294967296 = 0 := by omega
 have h5 : (n : Int) / 2 ^ 32 = 0 := by omega
 go_enter Tryz.func114, Tryz.ntmps114
 go_wp2
 go_ret2
 exact ⟨by simp, rfl⟩
theorem mul_oneI (n : Nat) (hn : n ≤ 1000000) (w : World) : Calls Tryz.prog 100 #[.int .u64 1, .int .u64 n] w fun e w' => e = .returned (.tuple #[.int .u64 0, .int .u64 n]) ∧ w = w' := by
 go_enter Tryz.func100, Tryz.ntmps100
 go_wp2_with (go_at_call 114; refine (mul64_oneI n hn _).mono ?_; rintro e w' ⟨rfl, rfl⟩)
 go_ret2
 exact ⟨rfl, rfl⟩

/-- A row of bytes, so many of them laid down. -/
def fillI (n k : Nat) (x : Int) : List Value := List.replicate k (.int .i64 x) ++ List.replicate (n - k) (.int .i64 0)
theorem fillI_len (n k : Nat) (x : Int) (h : k ≤ n) : (fillI n k x).length = n := by simp [fillI]; omega
theorem fillI_at (n k : Nat) (x : Int) (i : Nat) (h : i < k) : (fillI n k x)[i]? = some (.int .i64 x) := by
 unfold fillI
 rw [List.getElem?_append_left (by simpa using h), List.getElem?_replicate, if_pos h]
theorem fillI_zero (n : Nat) (x : Int) : madeCells #[.int .i64 0] n = (fillI n 0 x).toArray := by
 apply Array.ext'
 rw [toList_madeCells_one]
 simp [fillI]
theorem fillI_splice (n k m : Nat) (x : Int) (h : k + m ≤ n) : splice (fillI n k x) k (List.replicate m (.int .i64 x)) = fillI n (k + m) x := by
 unfold splice fillI
 rw [List.length_replicate, List.take_append_of_le_length (by simp), List.take_of_length_le (by simp), List.drop_append, List.drop_eq_nil_of_le (by simp), List.length_replicate, List.drop_replicate, List.nil_append, ← List.append_assoc, List.replicate_append_replicate, show n - k - (k + m - k) = n - (k + m) by omega]
theorem fillI_full (n : Nat) (x : Int) : fillI n n x = List.replicate n (Value.int .i64 x) := by simp [fillI]

set_option maxHeartbeats 4000000 in
theorem repeatI_any (gx n : Nat) (x : Int) (h1 : 1 ≤ n) (hn : n ≤ 10000) (w : World) (hgx : gx < w.heap.size) (hc : w.cell? ⟨gx, 0, none⟩ = some (.int .i64 x)) :
  Calls Tryz.prog 74 #[.slice (some ⟨gx, 0, none⟩) 1 1, .int .i64 n] w fun e w' => e = .returned (.slice (some ⟨w.heap.size, 0, none⟩) n n) ∧ w'.heap[w.heap.size]? = some (.cells (List.replicate n (Value.int .i64 x)).toArray 3 (0, 0)) ∧ Below w.heap.size w w' := by
 have HM := Lib.hid (mul_oneI n (by omega))
 have hmk := run_make_row' (P := Tryz.prog) 68 3 (.int .i64 0) 8 Tryz.underlying68 info_int rfl .i64 .i64 n (by omega) (by omega)
 have hB0 : Below w.heap.size w (w.alloc (.cells (madeCells #[.int .i64 0] n) 3)) := (Below.refl _ _).alloc (Nat.le_refl _) _
 have hg0 : (w.alloc (.cells (madeCells #[.int .i64 0] n) 3)).heap[w.heap.size]? = some (.cells (fillI n 0 x).toArray 3 (0, 0)) := by rw [fillI_zero n x]; exact heap_alloc_new w _
 have hc0 : (w.alloc (.cells (madeCells #[.int .i64 0] n) 3)).cell? ⟨gx, 0, none⟩ = some (.int .i64 x) := (hB0.cell (p := ⟨gx, 0, none⟩) hgx).trans hc
 have HCC := Lib.hid hc
 have HB0 := Lib.hid hB0
 have HG0 := Lib.hid hg0
 have HC0 := Lib.hid hc0
 have hwn : IntKind.u64.wrap (n : Int) = (n : Int) := by rw [IntKind.wrap_u64]; omega
 have hwi : IntKind.i64.wrap (n : Int) = (n : Int) := by rw [IntKind.wrap_i64]; omega
 have hsz1 : (Tryz.prog.info? 3).map (·.size) = some 1 := by kernel_rfl
 clear hB0 hg0 hc0
 go_enter Tryz.func74, Tryz.ntmps74
 have hlt0 : decide ((n : Int) < 0) = false := decide_eq_false (by omega)
 have hlt1 : decide ((9223372036854775807 : Int) < (n : Int)) = false := decide_eq_false (by omega)
 go_wp2_with fail
 refine (HM.out _).mono ?_; rintro e w' ⟨rfl, rfl⟩
 go_wp2_with (with_reducible refine wpList_copy_splice rfl (.tmp 31) (.tmp 32) 68 68 rfl 3 Tryz.underlying68 hsz1 (some ⟨w.heap.size, 0, none⟩) (some ⟨gx, 0, none⟩) n n 1 1 rfl rfl w.heap.size 0 (fillI n 0 x) 3 HG0.out [.int .i64 x] ?c1 ?c2 ?c3 ?c4 w.heap.size w HB0.out (Nat.le_refl _) ?_)
 case c1 => show 1 = min 1 n; omega
 case c2 =>
  intro j v hj
  cases j with
  | zero =>
   simp at hj
   subst hj
   exact HCC.out
  | succ j => simp at hj
 case c3 => rw [fillI_len n 0 x (by omega)]; simp; omega
 case c4 => intro v hv; simp at hv; subst hv; rfl
 intro w1 hg1 hb1
 have HG1 : Hid (w1.heap[w.heap.size]? = some (.cells (fillI n 1 x).toArray 3 (0, 0))) := by
  have h := hg1.out
  have e := fillI_splice n 0 1 x (by omega)
  rw [show List.replicate 1 (Value.int .i64 x) = [.int .i64 x] from rfl] at e
  rw [e] at h
  exact h
 have HB1 := Lib.hid hb1
 clear hg1 hb1 hmk HG0 HC0 HB0 HM hc HCC
 go_wp2_with fail
 go_loopw [8] (fun i wr => ∃ k : Nat, 1 ≤ k ∧ k ≤ n ∧ i = .int .i64 (k : Nat) ∧ wr.heap[w.heap.size]? = some (.cells (fillI n k x).toArray 3 (0, 0)) ∧ Below w.heap.size w wr) (fun i _ => n - (intOf i).toNat)
 case atStart => exact ⟨1, Nat.le_refl _, h1, rfl, HG1.out, HB1.out⟩
 case round =>
  obtain ⟨k, hk1, hkn, rfl, hg, hb⟩ := hrel
  have HG := Lib.hid hg
  have HB := Lib.hid hb
  by_cases hlt : k < n
  ·obtain ⟨m, hm, hmn, hm0⟩ : ∃ m, m = min k (n - k) ∧ k + m ≤ n ∧ 0 < m := ⟨_, rfl, by omega, by omega⟩
   have HM := Lib.hid hm
   clear hg hb hm
   have hgo : goInt (List.replicate m (Value.int .i64 x)).length = .int .i64 (m : Nat) := by rw [List.length_replicate]; rfl
   have hkm : IntKind.i64.wrap ((k : Int) + (m : Int)) = (k : Int) + (m : Int) := by rw [IntKind.wrap_i64]; omega
   have hkn1 : (k : Int) ≤ (n : Int) := by omega
   have hnk : ¬ n = k := by omega
   go_wp2_with fail
   have HSRC : Hid (∀ j v, (List.replicate m (Value.int .i64 x))[j]? = some v → wr.drew.cell? ((⟨w.heap.size, 0, none⟩ : Addr).add j) = some v) := by
    intro j v hj
    rw [List.getElem?_replicate] at hj
    split at hj
    ·injection hj with hj
     subst hj
     rw [Addr.add_lit, Nat.zero_add]
     refine (cell_of_row wr.drew w.heap.size j _ _ _ HG.out).trans ?_
     rw [List.getElem?_toArray]
     exact fillI_at n k x j (by have := HM.out; omega)
    ·cases hj
   have HFIT : Hid (k + (List.replicate m (Value.int .i64 x)).length ≤ (fillI n k x).length) := by
    show _ ≤ _
    rw [List.length_replicate, fillI_len n k x (by omega)]
    exact hmn
   have HONE : Hid (∀ v ∈ List.replicate m (Value.int .i64 x), v.oneCell' = true) := by
    intro v hv
    rw [List.mem_replicate] at hv
    obtain ⟨_, rfl⟩ := hv
    rfl
   have HLEN : Hid ((List.replicate m (Value.int .i64 x)).length = Nat.min k (n - k)) := by
    show _ = _
    rw [List.length_replicate]
    exact HM.out
   have HGD : Hid (wr.drew.heap[w.heap.size]? = some (.cells (fillI n k x).toArray 3 (0, 0))) := HG.out
   have HBD := Lib.hid (HB.out.drew)
   have HSPL := Lib.hid (fillI_splice n k m x hmn)
   obtain ⟨cs, hcs⟩ : ∃ cs, cs = List.replicate m (Value.int .i64 x) := ⟨_, rfl⟩
   rw [← hcs] at HSRC HFIT HONE HLEN HSPL hgo
   generalize fillI n k x = cur at *
   clear hcs
   go_region_law (first | (go_must (refine step_copy_splice (by rfl) (.tmp 41) (.tmp 44) 68 68 (by rfl) 3 Tryz.underlying68 hsz1 (some ⟨w.heap.size, k, none⟩) (some ⟨w.heap.size, 0, none⟩) (n - k) (n - k) k n (by simp [Act.eval, Act.put]) (by simp [Act.eval, Act.put]) w.heap.size k cur 3 (by exact HGD.out) cs (by exact HLEN.out) (fun _ => ⟨rfl, _, rfl, HSRC.out⟩) (by exact HFIT.out) (by exact HONE.out) w.heap.size w (by exact HBD.out) (Nat.le_refl _) ?_; intro w4 hg4 hb4; rw [hgo])) | fail)
   all_goals
    have HG5 : Hid (w4.heap[w.heap.size]? = some (.cells (fillI n (k + m) x).toArray 3 (0, 0))) := by
     have h := hg4.out
     rw [HSPL.out] at h
     exact h
    have HB5 := Lib.hid hb4
    clear hg4 hb4 HSPL HBD HGD HLEN HONE HFIT HSRC
    simp only [Act.put, List.getElem_toArray, List.getElem_cons_zero, List.getElem_cons_succ, List.setIfInBounds_toArray, List.set_cons_zero, List.set_cons_succ]
    go_wp2
    go_roundw
    case rel => exact ⟨k + m, by omega, hmn, by go_num, HG5.out, HB5.out⟩
    case measure => simp [intOf]; omega
  ·obtain rfl : k = n := by omega
   rw [fillI_full] at hg
   have HGF := Lib.hid hg
   clear hg hb HG
   go_wp2_with fail
   go_ret
   exact ⟨rfl, HGF.out, HB.out⟩
end Go.Proofs.YtmkeicfklbepnaaGreat
