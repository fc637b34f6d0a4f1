/-
  Triples as keys of a map; a map of slices that grows by the entry.
  Contract: Chains.
  The chapter's example holds.
  Contract: the document's Places.
  Ranging over where triples begin.
  Contracts: so many times -1.
  Contract: earlier.
  The walk of MatchChains: it returns true, whatever the text and the bytes.
  Contract: earlier, the walk.
  Contracts: alike, longest.
  Contract: longest.
  Contract: token.
  Contracts: begin; rows of tokens.
-/
import Derived.Test.YtopjmagbcnglhaaPkBF
import Derived.Test.YtopjmagbcnglhaaPkAB
import Derived.WideKeyEntry
import Derived.Maps.OwnRows
import Derived.Maps.RangeWalk
import Derived.DeepKeys4
import Derived.MapViews
import Derived.Laws.IdiomArrays
import Derived.Laws.CopyOwn
import Derived.Deep.OwnRows
import Derived.Laws.OwnMore
import Derived.BigRegion
import Derived.Deep.DeepMust

namespace Go.Proofs.Ytopjmagbcnglhaa
set_option maxRecDepth 100000
open Go.RowKit Go.Deep Go.ChangeMaps Go.ChangeShapes Go.WideShapes Go.MapKept
open Go.Maps (Keyed IsMap has)
open Go.WideMaps (KeyLaw)
open Go.WideElems (Fit rd rg entry_then_store)

/-- A triple as a value. -/
def tv (x y z : Nat) : Value := .agg #[.int .u8 (x : Nat), .int .u8 (y : Nat), .int .u8 (z : Nat)]
section
variable {H : Type} {P : Program} {w : World} {t k E : TypeId} {b : Nat} {es : Array MapEntry} {clock : Nat} {base : Nat} {e : TypeId} {q : IntKind} {n : Nat} {D : DataW H}
/-- A store does the same to one map wherever it lies. -/
theorem upd_local {R : Value → Option (DataW H × List MemPlace)} (K : Keyed P k) (ht : P.underlying t = some (.map k E)) (F : Fit P k R es clock) {key val : Value} {kl : Lit} (hkey : keyOf P k key = some kl) :
    ∃ o, ∀ u : World, u.heap[b]? = some (.map es clock) → (Instr.mapUpdate t (.map (some b)) key val).run P u = .ok () (setBlock u b o) := by
  rcases K.find (default : World) hkey es.toList F.keys with ⟨_, h2⟩ | ⟨j, e0, _, h2, h3⟩
  · refine ⟨.map (es.push ⟨key, val, clock⟩) (clock + 1), fun u hu => ?_⟩
    rcases K.find u hkey es.toList F.keys with ⟨h1, _⟩ | ⟨j, e0, _, h2', h3⟩
    · simp [Instr.mapUpdate, run_underlying ht, MapKept.run_getObj_map hu, K.check u false hkey, h1, MapKept.run_setObj_map _ hu, Result.andThen, setBlock]
    · exact absurd h3 (h2 e0 (List.mem_of_getElem? h2'))
  · refine ⟨.map (es.modify j (fun x => { x with key := key, val := val })) clock, fun u hu => ?_⟩
    rcases K.find u hkey es.toList F.keys with ⟨_, h⟩ | ⟨j', e1, h1, h2', h3'⟩
    · exact absurd h3 (h e0 (List.mem_of_getElem? h2))
    · have hpw := ((stamped_iff es clock).1 F.stamped).2.2
      have hjj : j' = j := by
        obtain ⟨hj, he⟩ := List.getElem?_eq_some_iff.1 h2
        obtain ⟨hj', he'⟩ := List.getElem?_eq_some_iff.1 h2'
        rcases Nat.lt_trichotomy j' j with h | h | h
        · have := List.pairwise_iff_getElem.1 hpw j' j hj' hj h
          rw [he, he', h3, h3'] at this
          exact absurd rfl this
        · exact h
        · have := List.pairwise_iff_getElem.1 hpw j j' hj hj' h
          rw [he, he', h3, h3'] at this
          exact absurd rfl this
      subst hjj
      have hj : es[j']? = some e1 := by simpa using h2'
      simp [Instr.mapUpdate, run_underlying ht, MapKept.run_getObj_map hu, K.check u false hkey, h1, hj, h3', K.stays u hkey, MapKept.run_setObj_map _ hu, Result.andThen, setBlock]
theorem groups_entry {key : Value} {kl : Lit} (K : KeyLaw P k) (ht : P.underlying t = some (.map k E)) (hz : ∀ u : World, (zeroValue E).run P u = .ok (.slice none 0 0) u) (h : w.ownsGroups P k base e q b n D) (hn : n < maxLen) (hkey : keyOf P k key = some kl) :
    ∃ v zs w1 st, (Instr.mapEntry t (.map (some b)) key).run P w = .ok (.tuple #[v, goInt st]) w1 ∧ D.atKey kl .nil = rowDatum q v zs ∧ w1.ownsInts base e q v zs ∧ zs.length ≤ n ∧ w.grownBy w1 (some b) ∧ w1.heap.size = w.heap.size ∧ b < base ∧
      ∀ (w2 : World) (v' : Value) (zs' : List Int), w1.grownBy w2 v.ownBlock → w2.ownsInts base e q v' zs' → zs'.length ≤ n + 1 → (v'.ownBlock = v.ownBlock ∨ ∃ g, v'.ownBlock = some g ∧ w1.heap.size ≤ g) →
        ∃ w3, (Instr.entryStore t (.map (some b)) (goInt st) v').run P w2 = .ok () w3 ∧ w3.ownsGroups P k base e q b (n + 1) (D.put kl (rowDatum q v' zs')) ∧ w2.grownBy w3 (some b) := by
  obtain ⟨v, zs, hrun, hat, hoi, hzl, hback⟩ := h.at (Keyed.of_law K) ht (hz w) hn hkey
  obtain ⟨es, clock, hb, F, hs, rfl, hbb, hlen, hap⟩ := h
  obtain ⟨v0, st, es1, clock1, hE, hcase, hS⟩ := entry_then_store (w := w) K ht hz hb F hkey
  have hblt : b < w.heap.size := (Array.getElem?_eq_some_iff.1 hb).1
  have hv : v0 = v := by
    rcases Maps.fit_look false (Keyed.of_law K) ht (hz w) hb F hkey with ⟨hr, hno, _⟩ | ⟨e0, y, hm0, h3, hr, _⟩
    · rw [hr] at hrun
      simp at hrun
      rcases hcase with ⟨e1, he1, hk1, _⟩ | ⟨_, h2⟩
      · exact absurd hk1 (hno e1 he1)
      · rw [h2, hrun]
    · rw [hr] at hrun
      simp at hrun
      rcases hcase with ⟨e1, he1, hk1, h2⟩ | ⟨hno, _⟩
      · rw [h2, ← hrun]
        exact congrArg MapEntry.val (entry_eq_of_key ((stamped_iff es clock).1 F.stamped).2.2 he1 hm0 (by rw [hk1, h3]))
      · exact absurd h3 (hno e0 hm0)
  subst hv
  have hg1 : w.grownBy (setBlock w b (.map es1 clock1)) (some b) := ⟨rfl, rfl, rfl, by simp [setBlock], fun i _ hi => heap_setBlock_other hb _ (fun e1 => hi (by rw [e1]))⟩
  have hvb : v0.ownBlock = none ∨ v0.ownBlock ≠ some b := by
    cases hu : v0.ownBlock with
    | none => exact .inl rfl
    | some g => exact .inr fun e1 => by have := (hoi.1.lt g hu).1; cases e1; omega
  refine ⟨v0, zs, _, st, hE, hat, hoi.kept hg1 hvb, hzl, hg1, by simp [setBlock], hbb, fun w2 v' zs' hgr hown' hl' hloc => ?_⟩
  have hsz1 : (setBlock w b (.map es1 clock1)).heap.size = w.heap.size := by simp [setBlock]
  have hb1 : (setBlock w b (.map es1 clock1)).heap[b]? = some (.map es1 clock1) := heap_setBlock_same hb _
  have hvb' : v0.ownBlock ≠ some b := by
    rcases hvb with h | h
    · rw [h]; simp
    · exact h
  have hb2 : w2.heap[b]? = some (.map es1 clock1) := (hgr.block b (by rw [hsz1]; exact hblt) (Ne.symm hvb')).trans hb1
  obtain ⟨o, hloc0⟩ := upd_local (b := b) (val := v') (Keyed.of_law K) ht F hkey
  obtain ⟨es', clock', hst, hup⟩ := hS w2 v' hb2
  have ho : o = .map es' clock' := by
    have h1 := hloc0 w hb
    rw [hup] at h1
    injection h1 with h1 h2
    have h3 := congrArg (fun u : World => u.heap[b]?) h2
    rw [heap_setBlock_same hb, heap_setBlock_same hb] at h3
    exact (Option.some.inj h3).symm
  subst ho
  have hgu : w2.grownBy (setBlock w2 b (.map es clock)) (some b) := ⟨rfl, rfl, rfl, by simp [setBlock], fun i _ hi => heap_setBlock_other hb2 _ (fun e1 => hi (by rw [e1]))⟩
  have hub : (setBlock w2 b (.map es clock)).heap[b]? = some (.map es clock) := heap_setBlock_same hb2 _
  have hvb2 : v'.ownBlock = none ∨ v'.ownBlock ≠ some b := by
    cases hu : v'.ownBlock with
    | none => exact .inl rfl
    | some g => exact .inr fun e1 => by have := (hown'.1.lt g hu).1; cases e1; omega
  have hwu : w.grownBy (setBlock w2 b (.map es clock)) v0.ownBlock := by
    refine ⟨hgr.os, hgr.tape, hgr.output, by have := hgr.size; rw [hsz1] at this; simpa [setBlock] using this, fun i hi hne => ?_⟩
    by_cases e1 : i = b
    · subst e1; rw [hub, hb]
    · rw [heap_setBlock_other hb2 _ e1, hgr.block i (by rw [hsz1]; exact hi) hne, heap_setBlock_other hb _ e1]
  obtain ⟨w3, hrun3, hgr3, hg3⟩ := hback (setBlock w2 b (.map es clock)) v' zs' hwu (hown'.kept hgu hvb2) hl' (hloc.imp id fun ⟨g, h1, h2⟩ => ⟨g, h1, by rw [hsz1] at h2; exact h2⟩)
  have h4 := hloc0 _ hub
  rw [hrun3] at h4
  injection h4 with _ h4
  have h5 : setBlock (setBlock w2 b (.map es clock)) b (.map es' clock') = setBlock w2 b (.map es' clock') := by simp [setBlock]
  rw [h5] at h4
  subst h4
  exact ⟨_, hst, hgr3, ⟨rfl, rfl, rfl, by simp [setBlock], fun i _ hi => heap_setBlock_other hb2 _ (fun e1 => hi (by rw [e1]))⟩⟩
end
section
variable {H : Type} {P : Program} (w : World) {ops : Array Oper} {rest : List Oper} {o : Oper} {a : Act} {Q : Exit → Act → World → Prop}
theorem wpList_mapEntry (hg : o.guard = none) (m x : Operand) (t : TypeId) (hop : o.op = Op.mapEntry t m x) (b : Nat) (hm : a.eval m = .map (some b)) (key : Value) (hx : a.eval x = key) {v : Value} {st : Nat} {w1 : World}
    (hrun : (Instr.mapEntry t (.map (some b)) key).run P w = .ok (.tuple #[v, goInt st]) w1) (hK : wpList P ops Q rest (a.put o.dst (.tuple #[v, goInt st])) w1) : wpList P ops Q (o :: rest) a w := by
  refine wpList_plain hg fun K' hK' => ?_
  unfold Oper.wp
  simp [execOp, hop, hm, hx, hrun, Result.andThen]
  exact hK' _ _ hK
theorem wpList_entryStore (hg : o.guard = none) (m s x : Operand) (t : TypeId) (hop : o.op = Op.entryStore t m s x) (b : Nat) (hm : a.eval m = .map (some b)) (st : Nat) (hs : a.eval s = goInt st) (v : Value) (hx : a.eval x = v) {w1 : World}
    (hrun : (Instr.entryStore t (.map (some b)) (goInt st) v).run P w = .ok () w1) (hK : wpList P ops Q rest (a.put o.dst undef) w1) : wpList P ops Q (o :: rest) a w := by
  refine wpList_plain hg fun K' hK' => ?_
  unfold Oper.wp
  simp [execOp, hop, hm, hs, hx, hrun, Result.andThen]
  exact hK' _ _ hK
end
end Go.Proofs.Ytopjmagbcnglhaa

namespace Go.Proofs.Ytopjmagbcnglhaa
set_option maxRecDepth 100000
open Go.RowKit Go.Deep Go.ChangeMaps Go.ChangeShapes Go.WideShapes
open Go.Maps (Keyed IsMap has)

def zsOf (l : List Nat) : List Int := l.map fun i => ((i : Nat) : Int)
/-- Places as read. -/
def pd (l : List Nat) : DataW Unit := if l = [] then .nil else .slice (lits .i64 (zsOf l)) []
theorem pd_inj {W : World} {base : Nat} {v : Value} {zs : List Int} {l : List Nat} (ho : W.ownsInts base 3 .i64 v zs) (h : pd l = rowDatum .i64 v zs) : zs = zsOf l := by
  rcases ho.datum (H := Unit) with ⟨h1, h2⟩ | h1
  · rw [h1] at h
    unfold pd at h
    split at h
    · rename_i e; rw [e, h2]; rfl
    · cases h
  · rw [h1] at h
    unfold pd at h
    split at h
    · cases h
    · injection h with h _
      have hinj : ∀ a b : List Int, lits (H := Unit) .i64 a = lits .i64 b → a = b := fun a b e => (List.map_inj_right (fun x y hxy => by cases hxy; rfl)).1 e
      exact (hinj _ _ h).symm

theorem info_int : (Try.prog.info? 3).map (fun i => (i.zero, i.size, i.bytes)) = some (some (.int .i64 0), 1, 8) := by kernel_rfl
theorem zero_ints (w : World) : (zeroValue 73).run Try.prog w = .ok (.slice none 0 0) w := by kernel_rfl
theorem groups_kept {H : Type} {P : Program} {w w' : World} {k : TypeId} {base : Nat} {e : TypeId} {q : IntKind} {b n : Nat} {D : DataW H} (h : w.ownsGroups P k base e q b n D) (hg : w.grownBy w' none) : w'.ownsGroups P k base e q b n D := by
  obtain ⟨es, clock, hb, F, hs, rfl, hbb, hlen, hap⟩ := h
  have kept : ∀ {v : Value} {zs : List Int}, w.ownsInts base e q v zs → w'.ownsInts base e q v zs := fun ho => ho.kept hg (by cases hv : Value.ownBlock _ <;> simp)
  obtain ⟨F2, hmap, _⟩ := F.stay (R' := rowElem (H := H) w' base e q) (fun x _ z hz => by
    obtain ⟨ys, ho, rfl⟩ := rowElem_inv hz
    exact rowElem_mk (kept ho))
  refine ⟨es, clock, (hg.block b (Array.getElem?_eq_some_iff.1 hb).1 (by simp)).trans hb, F2, hs, by rw [hmap], hbb, fun x hx zs ho => ?_, hap⟩
  obtain ⟨y, hy⟩ := F.reads x hx
  obtain ⟨z, hz, _⟩ := Go.WideElems.rd_val hy
  obtain ⟨ys, ho', _⟩ := rowElem_inv hz
  rw [ho.unique (kept ho')]
  exact hlen x hx ys ho'
theorem cell1 {w : World} {g : Nat} {x : Value} (h : w.cell? ⟨g, 0, none⟩ = some x) : ∀ j u, [x][j]? = some u → w.cell? ((⟨g, 0, none⟩ : Addr).add j) = some u := by
  intro j u hj
  match j, hj with
  | 0, hj =>
    simp at hj
    subst hj
    simpa [Addr.add] using h
end Go.Proofs.Ytopjmagbcnglhaa

namespace Go.Proofs.Ytopjmagbcnglhaa
set_option maxRecDepth 100000
open Go.RowKit Go.Deep Go.ChangeMaps Go.ChangeShapes Go.WideShapes
open Go.Maps (Keyed IsMap has Tidy)

theorem groups_own {H : Type} {P : Program} {w : World} {k : TypeId} {base : Nat} {e : TypeId} {q : IntKind} {b n : Nat} {D : DataW H} (h : w.ownsGroups P k base e q b n D) : w.ownsMap P k (rowElem w base e q) b n D := by
  obtain ⟨es, clock, hb, F, hs, rfl, _⟩ := h
  exact ⟨es, clock, hb, F, hs, rfl⟩
def exToks : Nat → Tok := fun i => if i = 0 then ⟨97, 0, 0⟩ else ⟨0, 4, 1⟩
theorem ex_text : expT exToks 2 = [97, 97, 97, 97, 97] := by decide +kernel
theorem ex_err : expE exToks 2 = 0 := by decide +kernel
def abcd : ByteArray := ⟨#[97, 98, 99, 100]⟩
end Go.Proofs.Ytopjmagbcnglhaa

namespace Go.Proofs.Ytopjmagbcnglhaa
set_option maxRecDepth 100000
open Go.RowKit Go.Deep Go.Joins

def cellsI (l : List Nat) : List Value := l.map fun i => Value.int .i64 (i : Nat)
theorem cellsI_zs (l : List Nat) : (zsOf l).map (Value.int .i64) = cellsI l := by unfold zsOf cellsI; rw [List.map_map]; rfl
theorem byte_eq (s : ByteArray) (k x : Nat) (h : k < s.size) : ((s[k].toNat : Int) == (x : Int)) = decide (bt s k = x) := by
  rw [bt_get s k h]
  rw [Bool.eq_iff_iff]
  simp only [beq_iff_eq, decide_eq_true_eq]
  exact Int.natCast_inj
end Go.Proofs.Ytopjmagbcnglhaa

namespace Go.Proofs.Ytopjmagbcnglhaa
set_option maxRecDepth 100000
open Go.RowKit Go.Deep Go.ChangeMaps Go.ChangeShapes Go.WideShapes Go.MapKept
open Go.Maps (Keyed IsMap has)
open Go.WideElems (Fit rd rg)

section
variable {H : Type} {P : Program} {w : World} {t k E : TypeId} {b : Nat} {base : Nat} {e : TypeId} {q : IntKind} {n : Nat} {D : DataW H}
theorem look_local {key : Value} {kl : Lit} (K : Keyed P k) (ht : P.underlying t = some (.map k E)) (hz : ∀ u : World, (zeroValue E).run P u = .ok (.slice none 0 0) u) (h : w.ownsGroups P k base e q b n D) (hn : n < maxLen) (hkey : keyOf P k key = some kl) :
    ∃ v zs, (∀ u : World, u.heap[b]? = w.heap[b]? → (Instr.lookup t (.map (some b)) key false).run P u = .ok v u) ∧ D.atKey kl .nil = rowDatum q v zs ∧ w.ownsInts base e q v zs ∧ zs.length ≤ n := by
  obtain ⟨v, zs, hrun, hat, hoi, hzl, _⟩ := h.at K ht (hz w) hn hkey
  obtain ⟨es, clock, hb, F, hs, rfl, hbb, hlen, hap⟩ := h
  refine ⟨v, zs, fun u hu => ?_, hat, hoi, hzl⟩
  rcases Maps.fit_look false K ht (hz w) hb F hkey with ⟨hr, hno, _⟩ | ⟨e0, y, hm0, h3, hr, _⟩
  · rw [hr] at hrun
    simp at hrun
    rcases Maps.fit_look false K ht (hz u) (hu.trans hb) F hkey with ⟨hr', _⟩ | ⟨e1, y1, hm1, h31, hr', _⟩
    · rw [hr', ← hrun]; rfl
    · exact absurd h31 (hno e1 hm1)
  · rw [hr] at hrun
    simp at hrun
    rcases Maps.fit_look false K ht (hz u) (hu.trans hb) F hkey with ⟨hr', hno, _⟩ | ⟨e1, y1, hm1, h31, hr', _⟩
    · exact absurd h3 (hno e0 hm0)
    · rw [hr', ← hrun]
      have := entry_eq_of_key ((stamped_iff es clock).1 F.stamped).2.2 hm1 hm0 (by rw [h31, h3])
      rw [this]
      rfl
end
/-- A slice, by its parts. -/
def mkS (p : Option Addr × Nat × Nat) : Value := .slice p.1 p.2.1 p.2.2
theorem inv_slice {w0 : World} {base : Nat} {e : TypeId} (v : Value) (y : DataW Unit × List MemPlace) (h : rowElem w0 base e .i64 v = some y) : ∃ c, v = mkS c := by
  obtain ⟨zs, ho, _⟩ := rowElem_inv h
  obtain ⟨A, c, rfl⟩ := row_slice ho.1
  exact ⟨(A, zs.length, c), rfl⟩
end Go.Proofs.Ytopjmagbcnglhaa

namespace Go.Proofs.Ytopjmagbcnglhaa
set_option maxRecDepth 100000
open Go.RowKit Go.Deep Go.Joins

theorem mul64_oneI (n : Nat) (hn : n ≤ 1000000) (w : World) : Calls Try.prog 69 #[.int .u64 1, .int .u64 n] w fun e w' => e = .returned (.tuple #[.int .u64 0, .int .u64 n]) ∧ w = w' := by
  have h1 : bits .and .u64 1 4294967295 = 1 := by decide
  have h2 : bits .and .u64 (n : Int) 4294967295 = (n : Int) := by
    have := u64_and_nat n 4294967295 (by omega) (by omega)
    rw [show (4294967295 : Nat) = 2 ^ 32 - 1 from rfl, Nat.and_two_pow_sub_one_eq_mod, Nat.mod_eq_of_lt (by omega)] at this
    exact this
  have h3 : bits .and .u64 0 4294967295 = 0 := by decide
  have h4 : (n : Int) / 4294967296 = 0 := by omega
  have h5 : (n : Int) / 2 ^ 32 = 0 := by omega
  go_enter Try.func69, Try.ntmps69
  go_wp2
  go_ret2
  exact ⟨by simp, rfl⟩
theorem mul_oneI (n : Nat) (hn : n ≤ 1000000) (w : World) : Calls Try.prog 55 #[.int .u64 1, .int .u64 n] w fun e w' => e = .returned (.tuple #[.int .u64 0, .int .u64 n]) ∧ w = w' := by
  go_enter Try.func55, Try.ntmps55
  go_wp2_with (go_at_call 69; refine (mul64_oneI n hn _).mono ?_; rintro e w' ⟨rfl, rfl⟩)
  go_ret2
  exact ⟨rfl, rfl⟩

/-- A row of bytes, so many of them laid down. -/
def fillI (n k : Nat) (x : Int) : List Value := List.replicate k (.int .i64 x) ++ List.replicate (n - k) (.int .i64 0)
theorem fillI_len (n k : Nat) (x : Int) (h : k ≤ n) : (fillI n k x).length = n := by simp [fillI]; omega
theorem fillI_at (n k : Nat) (x : Int) (i : Nat) (h : i < k) : (fillI n k x)[i]? = some (.int .i64 x) := by
  unfold fillI
  rw [List.getElem?_append_left (by simpa using h), List.getElem?_replicate, if_pos h]
theorem fillI_zero (n : Nat) (x : Int) : madeCells #[.int .i64 0] n = (fillI n 0 x).toArray := by
  apply Array.ext'
  rw [toList_madeCells_one]
  simp [fillI]
theorem fillI_splice (n k m : Nat) (x : Int) (h : k + m ≤ n) : splice (fillI n k x) k (List.replicate m (.int .i64 x)) = fillI n (k + m) x := by
  unfold splice fillI
  rw [List.length_replicate, List.take_append_of_le_length (by simp), List.take_of_length_le (by simp), List.drop_append, List.drop_eq_nil_of_le (by simp), List.length_replicate, List.drop_replicate, List.nil_append, ← List.append_assoc, List.replicate_append_replicate, show n - k - (k + m - k) = n - (k + m) by omega]
theorem fillI_full (n : Nat) (x : Int) : fillI n n x = List.replicate n (Value.int .i64 x) := by simp [fillI]

end Go.Proofs.Ytopjmagbcnglhaa

namespace Go.Proofs.Ytopjmagbcnglhaa
set_option maxRecDepth 100000
open Go.Joins Go.RowKit Go.Deep Go.ChangeMaps Go.ChangeShapes Go.WideShapes
open Go.Maps (Keyed IsMap has)

/-- A row of numbers. -/
def rowF (F : Nat → Int) (n : Nat) : Array Value := ((List.range n).map fun p => Value.int .i64 (F p)).toArray
theorem rowF_size (F : Nat → Int) (n : Nat) : (rowF F n).size = n := by simp [rowF]
theorem rowF_get (F : Nat → Int) (n i : Nat) (h : i < n) : (rowF F n)[i]? = some (.int .i64 (F i)) := by simp [rowF, h]
theorem rowF_congr (F G : Nat → Int) (n : Nat) (h : ∀ p, p < n → F p = G p) : rowF F n = rowF G n := by
  unfold rowF
  congr 1
  exact List.map_congr_left fun p hp => by rw [h p (List.mem_range.1 hp)]
theorem rowF_set (F : Nat → Int) (n i : Nat) (v : Int) : (rowF F n).setIfInBounds i (.int .i64 v) = rowF (fun p => if p = i then v else F p) n := by
  apply Array.ext
  · rw [Array.size_setIfInBounds, rowF_size, rowF_size]
  · intro j h1 h2
    have hj : j < n := by rw [rowF_size] at h2; exact h2
    have e1 := rowF_get (fun p => if p = i then v else F p) n j hj
    rw [Array.getElem?_eq_getElem h2] at e1
    rw [Option.some.inj e1, Array.getElem_setIfInBounds]
    · by_cases e : i = j
      · subst e; rw [if_pos rfl, if_pos rfl]
      · rw [if_neg e, if_neg (Ne.symm e)]
        have e2 := rowF_get F n j hj
        rw [Array.getElem?_eq_getElem (by rw [rowF_size]; exact hj)] at e2
        exact Option.some.inj e2
    · rw [rowF_size]; exact hj
theorem rowF_neg (n : Nat) : (List.replicate n (Value.int .i64 (-1))).toArray = rowF (fun _ => -1) n := by
  unfold rowF
  congr 1
  rw [List.map_const', List.length_range]
def InnerF (a : Nat → Nat) (n : Nat) (P : List Nat) (k : Nat) (F0 F : Nat → Int) : Prop :=
  (∀ j p, j < k → P[j + 1]? = some p → F p = befT a n p) ∧ (∀ p, (∀ j, j < k → P[j + 1]? ≠ some p) → F p = F0 p)
theorem inner_start (a : Nat → Nat) (n : Nat) (P : List Nat) (F : Nat → Int) : InnerF a n P 0 F F := ⟨fun j _ hj => by omega, fun _ _ => rfl⟩
theorem inner_step (a : Nat → Nat) (n x y z k place : Nat) (F0 F : Nat → Int) (hP : (places a x y z (n - 2))[k + 1]? = some place) (hF : InnerF a n (places a x y z (n - 2)) k F0 F) :
    InnerF a n (places a x y z (n - 2)) (k + 1) F0 (fun p => if p = place then (((places a x y z (n - 2)).getD k 0 : Nat) : Int) else F p) := by
  have hb : befT a n place = (((places a x y z (n - 2)).getD k 0 : Nat) : Int) := by
    have h1 := (places_mem a x y z (n - 2) place).1 (List.mem_of_getElem? hP)
    have h2 := places_prev a x y z (n - 2) (k + 1) place hP
    rw [if_neg (by omega), Nat.add_sub_cancel] at h2
    obtain ⟨hl, _⟩ := List.getElem?_eq_some_iff.1 hP
    unfold befT
    rw [if_pos (by omega), h2, List.getElem?_eq_getElem (by omega), List.getD_eq_getElem?_getD, List.getElem?_eq_getElem (by omega)]
    rfl
  constructor
  · intro j p hj hp
    by_cases e : p = place
    · subst e; simp only [if_true]; exact hb.symm
    · simp only [if_neg e]
      refine hF.1 j p ?_ hp
      by_cases e2 : j = k
      · subst e2; rw [hP] at hp; exact absurd (Option.some.inj hp).symm e
      · omega
  · intro p hp
    by_cases e : p = place
    · subst e; exact absurd hP (hp k (by omega))
    · simp only [if_neg e]
      exact hF.2 p fun j hj => hp j (by omega)
end Go.Proofs.Ytopjmagbcnglhaa

namespace Go.Proofs.Ytopjmagbcnglhaa
set_option maxRecDepth 100000
open Go.Joins Go.RowKit Go.Deep Go.ChangeMaps Go.ChangeShapes Go.WideShapes
open Go.Maps (Keyed IsMap has)

theorem own_int {w : World} {B c : Nat} {A : Option Addr} {o : List Nat} (h : w.ownsRow B 3 1 (.slice A o.length c) o.length (cellsI o)) (h0 : 0 < o.length) :
    ∃ g, A = some ⟨g, 0, none⟩ ∧ B ≤ g ∧ g < w.heap.size ∧ ∀ i, i < o.length → w.cell? ⟨g, i, none⟩ = some (.int .i64 ((o.getD i 0 : Nat) : Int)) := by
  have hl := h.lt
  rcases ownsRow_forms h with ⟨hv, hn⟩ | ⟨g2, cap, hv⟩
  · omega
  · injection hv with hA _ _
    subst hA
    refine ⟨g2, rfl, (hl g2 rfl).1, (hl g2 rfl).2, fun i hi => ?_⟩
    have := h.cellAt i (by omega)
    rw [this]
    simp only [cellsI, List.getElem?_map, List.getElem?_eq_getElem hi, Option.map_some, List.getD_eq_getElem?_getD, Option.getD_some]
end Go.Proofs.Ytopjmagbcnglhaa

namespace Go.Proofs.Ytopjmagbcnglhaa
set_option maxRecDepth 100000
open Go.Joins Go.RowKit Go.Deep Go.ChangeMaps Go.ChangeShapes Go.WideShapes
open Go.Maps (Keyed IsMap has)

end Go.Proofs.Ytopjmagbcnglhaa

namespace Go.Proofs.Ytopjmagbcnglhaa
set_option maxRecDepth 100000
open Go.Joins Go.RowKit Go.Deep

/-- A search as a value. -/
def valS (s : ByteArray) (v : Value) (t : Nat) : Value := .agg #[.string s, v, .int .i64 (t : Nat)]
def eqA (a : Nat → Nat) (f p : Nat) : Nat → Bool := fun i => decide (a (f + i) = a (p + i))
end Go.Proofs.Ytopjmagbcnglhaa

namespace Go.Proofs.Ytopjmagbcnglhaa
set_option maxRecDepth 100000
open Go.Joins Go.RowKit Go.Deep

theorem info_tokf : (Try.prog.info? 48).map (·.size) = some 3 := by kernel_rfl
theorem zero_tok (w : World) : (zeroValue 48).run Try.prog w = .ok (.agg #[.int .u8 0, .int .i64 0, .int .i64 0]) w := by kernel_rfl
theorem three_set {w : World} {g : Nat} {a b c x y z : Value} {T : TypeId} (h : w.heap[g]? = some (.cells #[a, b, c] T (0, 0))) : (((w.setCell ⟨g, 0, none⟩ x).setCell ⟨g, 1, none⟩ y).setCell ⟨g, 2, none⟩ z).heap[g]? = some (.cells #[x, y, z] T (0, 0)) := by
  have h1 := heap_setCell_same w g 0 _ _ x h
  have h2 := heap_setCell_same _ g 1 _ _ y h1
  have h3 := heap_setCell_same _ g 2 _ _ z h2
  simpa using h3
end Go.Proofs.Ytopjmagbcnglhaa

namespace Go.Proofs.Ytopjmagbcnglhaa
set_option maxRecDepth 100000
open Go.Joins Go.RowKit Go.Deep

/-- What a search's row of places is. -/
def Bef (w : World) (s : ByteArray) (A : Option Addr) (nA t : Nat) : Prop := 0 < t → ∃ g, A = some ⟨g, 0, none⟩ ∧ nA = s.size ∧ g < w.heap.size ∧ w.heap[g]? = some (.cells (rowF (befT (bt s) s.size) s.size) 3 (0, 0))
theorem Bef.below {w w' : World} {s : ByteArray} {A : Option Addr} {nA t B : Nat} (h : Bef w s A nA t) (hB : w.heap.size ≤ B) (hb : Below B w w') : Bef w' s A nA t := fun ht => by
  obtain ⟨g, h1, h2, h3, h4⟩ := h ht
  exact ⟨g, h1, h2, Nat.lt_of_lt_of_le h3 hb.size, (hb.block g (by omega)).trans h4⟩
theorem field_len (b l d : Int) (W : World) : (Instr.field 48 (.agg #[.int .u8 b, .int .i64 l, .int .i64 d]) 1).run Try.prog W = .ok (.int .i64 l) W := by kernel_rfl
end Go.Proofs.Ytopjmagbcnglhaa

namespace Go.Proofs.Ytopjmagbcnglhaa
set_option maxRecDepth 100000
open Go.Joins Go.RowKit Go.Deep

/-- How many places a level looks at. -/
def triesOf (level : Nat) : Nat := if level = 0 then 0 else 2 * 2 ^ level
theorem tries_le (level : Nat) (h : level ≤ 9) : triesOf level ≤ 2000 := by
  unfold triesOf
  split
  · omega
  · have : 2 ^ level ≤ 2 ^ 9 := Nat.pow_le_pow_right (by omega) h
    omega
/-- The cells of the first tokens. -/
def tokCells (f : Nat → Tok) : Nat → List Value
  | 0 => []
  | k + 1 => tokCells f k ++ cellT (f k)
theorem tokCells_len (f : Nat → Tok) (n : Nat) : (tokCells f n).length = n * 3 := by
  induction n with
  | zero => rfl
  | succ n ih => rw [tokCells, List.length_append, ih]; simp [cellT]; omega
theorem tokCells_get (f : Nat → Tok) (n i j : Nat) (hi : i < n) (hj : j < 3) : (tokCells f n)[i * 3 + j]? = (cellT (f i))[j]? := by
  induction n with
  | zero => omega
  | succ n ih =>
    rw [tokCells]
    by_cases e : i = n
    · subst e
      rw [List.getElem?_append_right (by rw [tokCells_len]; omega), tokCells_len, show i * 3 + j - i * 3 = j by omega]
    · rw [List.getElem?_append_left (by rw [tokCells_len]; omega)]
      exact ih (by omega)
theorem toks_of_own {w : World} {B n c : Nat} {e : TypeId} {A : Option Addr} {f : Nat → Tok} (h : w.ownsRow B e 3 (.slice A n c) n (tokCells f n)) (hok : ∀ i, i < n → TokOk (f i)) : Toks w A n f := fun hn => by
  have hlt := h.lt
  rcases h.2 with ⟨_, h0⟩ | ⟨g, cap, cur, hv, _, hg, _, _, _, htake⟩
  · omega
  · injection hv with hA _ _
    subst hA
    have hc : ∀ i j, i < n → j < 3 → w.cell? ⟨g, i * 3 + j, none⟩ = (cellT (f i))[j]? := fun i j hi hj => by
      rw [cell_of_row w g _ _ _ _ hg, ← tokCells_get f n i j hi hj, ← htake, List.getElem?_take, if_pos (by omega)]
      simp
    refine ⟨g, 0, rfl, (hlt g rfl).2, fun i hi => ⟨hok i hi, ?_, ?_, ?_⟩⟩
    · have := hc i 0 hi (by omega); simpa [cellT] using this
    · have := hc i 1 hi (by omega); simpa [cellT] using this
    · have := hc i 2 hi (by omega); simpa [cellT] using this
theorem info_tok3 : (Try.prog.info? 48).map (fun i => (i.zero, i.size, i.bytes)) = some (some (.agg #[.int .u8 0, .int .i64 0, .int .i64 0]), 3, 24) := by kernel_rfl
theorem cells3 {w : World} {g : Nat} {x y z : Value} {T : TypeId} (h : w.heap[g]? = some (.cells #[x, y, z] T (0, 0))) : ∀ j u, [x, y, z][j]? = some u → w.cell? ((⟨g, 0, none⟩ : Addr).add j) = some u := by
  intro j u hj
  rw [Addr.add_lit, Nat.zero_add, cell_of_row w g j _ _ _ h]
  simpa using hj
theorem cellT_one (t : Tok) : ∀ u ∈ cellT t, u.oneCell' = true := by
  intro u hu
  simp [cellT] at hu
  rcases hu with rfl | rfl | rfl <;> rfl
theorem row_slice' {w : World} {B n z : Nat} {e : TypeId} {v : Value} {l : List Value} (h : w.ownsRow B e z v n l) : ∃ A c, v = .slice A n c := by
  rcases h.2 with ⟨rfl, rfl⟩ | ⟨g, cap, cur, rfl, _⟩
  · exact ⟨_, _, rfl⟩
  · exact ⟨_, _, rfl⟩
end Go.Proofs.Ytopjmagbcnglhaa
