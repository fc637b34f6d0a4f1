/-
  Trees: slices.Clone, IndexFunc, DeleteFunc over items, with the whole room of a slice kept track of.
  Trees: without, Drop.
  Trees: Drop, Find.
  Trees: the document's Find and kind.
  Contracts: the document's less, Order, Parent, Base, Under.
  The walk of NameOrders: it returns true, whatever the paths.
  Contracts: the document's Parent, Base, Under.
  Contracts: the document's Strays, Check.
  Contract: the document's Check.
  Trees: the document's Right.
  Trees: the document's Right, of layer 16.
  Trees: slices.Insert of one item: what is in memory.
  Trees: slices.Insert of one item.
  Trees: Put.
  Trees: what is put is found; what was dropped isn't there; of a right tree what is dropped leaves a right one.
-/
import Derived.Test.YtijfcmlgohbndaaGreatDoorPkBC
import Derived.Deep.Cut
import Derived.Lib.Walk
import Derived.Test.YtijfcmlgohbndaaGreatDoorPkAG
import Derived.Test.YtijfcmlgohbndaaGreatDoorPkAJ
import Derived.Test.YtijfcmlgohbndaaGreatDoorPkAH
import Derived.Deep.RegionHeld3
import Derived.Shelf.Spec.SlicesInsertGrow

namespace Go.Proofs.YtijfcmlgohbndaaGreatDoor
set_option maxRecDepth 100000
set_option linter.unusedSimpArgs false
set_option linter.unusedVariables false
open Go.RowKit Go.Joins Go.Deep
open Go.Lib hiding intOf
/-- A block of so many items. -/
def BK (w : World) (g c : Nat) : Prop := ∃ cur, w.heap[g]? = some (.cells cur 47 (0, 0)) ∧ cur.size = c * 8 ∧ c ≤ maxLen
theorem BK.below {w w' : World} {g c : Nat} (h : BK w g c) (hb : Below w.heap.size w w') : BK w' g c := by
  obtain ⟨cur, h1, h2⟩ := h
  exact ⟨cur, (hb.block g (lt_of_block h1)).trans h1, h2⟩
theorem BK.store1 {w : World} {g c : Nat} (h : BK w g c) (o : Nat) (v : Value) : BK (w.setCell ⟨g, o, none⟩ v) g c := by
  obtain ⟨cur, h1, h2⟩ := h
  refine ⟨cur.setIfInBounds o v, ?_, by rw [Array.size_setIfInBounds]; exact h2⟩
  show (w.heap.modify g _)[g]? = _
  rw [Array.getElem?_modify, if_pos rfl, h1]
  rfl
theorem BK.store {g c : Nat} : ∀ (vs : List Value) (o : Nat) (w : World), BK w g c → BK (w.setCells g o vs) g c
  | [], _, _, h => h
  | v :: r, o, w, h => by rw [World.setCells]; exact BK.store r (o + 1) _ (h.store1 o v)
/-- Items in a block of their own, with its room. -/
def IC (w : World) (g c : Nat) (l : List Itm) : Prop := IO w g l ∧ BK w g c
theorem IC.below {w w' : World} {g c : Nat} {l : List Itm} (h : IC w g c l) (hb : Below w.heap.size w w') : IC w' g c l := ⟨h.1.below hb, h.2.below hb⟩
theorem IC.store {w : World} {g c : Nat} {l : List Itm} (h : IC w g c l) (k : Nat) (y : Itm) (hk : k < l.length) : IC (w.setCells g (k * 8) y.cellsL) g c (l.set k y) := ⟨h.1.store k y hk, h.2.store _ _ _⟩
theorem IC.itms {w : World} {g c : Nat} {l : List Itm} (h : IC w g c l) : Itms w (some ⟨g, 0, none⟩) l := h.1.itms
theorem below_al (w : World) (o : Obj) : Below w.heap.size w (w.alloc o) := (Below.refl _ _).alloc (Nat.le_refl _) o
theorem any_take {α : Type} (l : List α) (p : α → Bool) (k : Nat) (h : k < l.length) : (l.take (k + 1)).any p = ((l.take k).any p || p l[k]) := by
  rw [List.take_succ_eq_append_getElem h, List.any_append]
  simp
theorem zero_item (w : World) : (zeroValue 47).run Tryz.prog w = .ok (.agg #[.string ⟨#[]⟩, .int .i64 0, .int .u32 0, .int .u32 0, .int .u32 0, .int .i64 0, .int .i64 0, .string ⟨#[]⟩]) w := by kernel_rfl
/-- The cells of so many zero items. -/
theorem zeroCells_sizeI (z : Array Value) (n : Nat) : (Builtin.zeroCells z n).size = n * z.size := by
  unfold Builtin.zeroCells
  simp
theorem run_clear_items {w : World} {g : Nat} {l : List Itm} (h : IO w g l) (i c : Nat) (hi : i ≤ l.length) (ty : TypeId) :
    ∃ zs : List Value, (Builtin.clear_ #[23] ty #[.slice (some ⟨g, i * 8, none⟩) (l.length - i) c]).run Tryz.prog w = .ok (.tuple #[]) (w.setCells g (i * 8) zs) := by
  by_cases hz : l.length - i = 0
  · refine ⟨[], ?_⟩
    rw [hz]
    simp [Builtin.clear_, run_underlying Tryz.underlying23, World.setCells]
  · refine ⟨(Builtin.zeroCells #[.string ⟨#[]⟩, .int .i64 0, .int .u32 0, .int .u32 0, .int .u32 0, .int .i64 0, .int .i64 0, .string ⟨#[]⟩] (l.length - i)).toList, ?_⟩
    have hlen : (Builtin.zeroCells #[Value.string ⟨#[]⟩, .int .i64 0, .int .u32 0, .int .u32 0, .int .u32 0, .int .i64 0, .int .i64 0, .string ⟨#[]⟩] (l.length - i)).toList.length = (l.length - i) * 8 := by
      rw [Array.length_toList, zeroCells_sizeI]; rfl
    have hone : ∀ v ∈ (Builtin.zeroCells #[Value.string ⟨#[]⟩, .int .i64 0, .int .u32 0, .int .u32 0, .int .u32 0, .int .i64 0, .int .i64 0, .string ⟨#[]⟩] (l.length - i)).toList, v.oneCell' = true := by
      intro v hv
      rw [Builtin.zeroCells, Array.toList_map, List.mem_map] at hv
      obtain ⟨j, _, rfl⟩ := hv
      have h8 : j % 8 < 8 := Nat.mod_lt _ (by decide)
      show ((#[Value.string ⟨#[]⟩, .int .i64 0, .int .u32 0, .int .u32 0, .int .u32 0, .int .i64 0, .int .i64 0, .string ⟨#[]⟩] : Array Value)[j % 8]!).oneCell' = true
      generalize j % 8 = q at h8
      have h9 : q = 0 ∨ q = 1 ∨ q = 2 ∨ q = 3 ∨ q = 4 ∨ q = 5 ∨ q = 6 ∨ q = 7 := by omega
      rcases h9 with rfl | rfl | rfl | rfl | rfl | rfl | rfl | rfl <;> simp [Value.oneCell']
    have hth : ∀ j, j < (l.length - i) * 8 → (w.cell? ⟨g, i * 8 + j, none⟩).isSome = true ∧ w.frozen? ⟨g, i * 8 + j, none⟩ = false := fun j hj => by
      have hk : i + j / 8 < l.length := by omega
      have := (h.2 (i + j / 8) _ (List.getElem?_eq_getElem hk)).2 (j % 8) (Nat.mod_lt _ (by decide))
      rwa [show (i + j / 8) * 8 + j % 8 = i * 8 + j by omega] at this
    have hst := run_storeCells_cells (P := Tryz.prog) g (i * 8) _ 0 w (fun j hj => by rw [hlen] at hj; exact (hth j hj).1) (fun j hj => by rw [hlen] at hj; exact (hth j hj).2) hone
    obtain ⟨n, hn⟩ : ∃ n, l.length - i = n + 1 := ⟨l.length - i - 1, by omega⟩
    rw [hn] at hst ⊢
    simp only [Nat.add_zero] at hst
    simp [Builtin.clear_, run_underlying Tryz.underlying23, zero_item, Value.cells, hst]
theorem filter_snoc {α : Type} (q : α → Bool) (l : List α) (k : Nat) (h : k < l.length) : (l.take (k + 1)).filter q = (l.take k).filter q ++ (if q l[k] then [l[k]] else []) := by
  rw [List.take_succ_eq_append_getElem h, List.filter_append]
  congr 1
  by_cases hq : q l[k] = true
  · rw [if_pos hq, List.filter_cons_of_pos hq]; rfl
  · rw [if_neg hq, List.filter_cons_of_neg hq]; rfl
theorem filter_none {α : Type} (p : α → Bool) (l : List α) (h : l.any p = false) : l.filter (fun x => !p x) = l := by
  rw [List.filter_eq_self]
  intro x hx
  have := List.any_eq_false.1 h x hx
  simpa using this
end Go.Proofs.YtijfcmlgohbndaaGreatDoor

namespace Go.Proofs.YtijfcmlgohbndaaGreatDoor
set_option maxRecDepth 100000
set_option linter.unusedSimpArgs false
set_option linter.unusedVariables false
open Go.RowKit Go.Joins Go.Deep
open Go.Lib hiding intOf
theorem ic_of_own {w : World} {B g cap : Nat} {l : List Itm} (h : w.ownsRow B 47 8 (.slice (some ⟨g, 0, none⟩) l.length cap) l.length (cellsI l)) : IC w g cap l := by
  refine ⟨io_of_own h, ?_⟩
  rcases h.2 with ⟨he, _⟩ | ⟨g2, cap2, cur, he, _, hc, _, hm, hs, _⟩
  · cases he
  · injection he with e1 e2 e3
    injection e1 with e1
    injection e1 with e1
    subst e1 e3
    exact ⟨cur, hc, hs, hm⟩
/-- A slice of items that was made, with its room. -/
def NewB (w : World) (B c : Nat) (A : Option Addr) (l : List Itm) : Prop := (l = [] ∧ A = none ∧ c = 0) ∨ ∃ g, A = some ⟨g, 0, none⟩ ∧ B ≤ g ∧ IC w g c l
theorem NewB.itms {w : World} {B c : Nat} {A : Option Addr} {l : List Itm} (h : NewB w B c A l) : Itms w A l := by
  rcases h with ⟨rfl, _⟩ | ⟨g, rfl, _, h⟩
  · exact Itms.nil _ _
  · exact h.itms
theorem NewB.below {w w' : World} {B c : Nat} {A : Option Addr} {l : List Itm} (h : NewB w B c A l) (hb : Below w.heap.size w w') : NewB w' B c A l := by
  rcases h with h | ⟨g, e, hg, h⟩
  · exact .inl h
  · exact .inr ⟨g, e, hg, h.below hb⟩
/-- A box with a text. -/
def BxS (w : World) (g : Nat) (s : ByteArray) : Prop := g < w.heap.size ∧ w.cell? ⟨g, 0, none⟩ = some (.string s)
theorem BxS.below {w w' : World} {g : Nat} {s : ByteArray} (h : BxS w g s) (hb : Below w.heap.size w w') : BxS w' g s := ⟨Nat.lt_of_lt_of_le h.1 hb.size, (hb.cell h.1).trans h.2⟩
end Go.Proofs.YtijfcmlgohbndaaGreatDoor

namespace Go.Proofs.YtijfcmlgohbndaaGreatDoor
set_option maxRecDepth 100000
set_option linter.unusedSimpArgs false
set_option linter.unusedVariables false
open Go.RowKit Go.Joins Go.Deep
open Go.Lib hiding intOf
/-- What Drop leaves. -/
def drpL (p : ByteArray) (l : List Itm) : List Itm := l.filter (fun X => !(undB X.s p))
theorem results_ct_rowT {P : Program} {fn : Func} {p u : Tmp} {ty : TypeId} (h : fn.results = #[.cell p ty, .tmp u]) (tmps : Array Value) (w : World) (g : Nat) (t : TypeId) (cs : Array Value) (fr : Nat × Nat) (d : TypeDesc)
    (hp : tmps.getD p undef = .pointer (some ⟨g, 0, none⟩)) (hg : w.heap[g]? = some (.cells cs t fr))
    (hu : P.underlying ty = some d) (hd : (match d with | .struct _ | .array _ _ => true | _ => false) = true) (hi : (P.info? ty).map (·.size) = some cs.size) :
    (results fn tmps).run P w = .ok (.tuple #[.agg cs, tmps.getD u undef]) w := by
  rw [results_cell_tmp h, hp]
  simp [asAddr, run_loadVar_row w g t ty cs fr d hg hu hd hi, Result.andThen]
theorem info_nodeT : (Tryz.prog.info? 45).map (·.size) = some 7 := by kernel_rfl
/-- A node's cells. -/
def Itm.node (x : Itm) : Array Value := #[.int .i64 x.k, .int .u32 x.m, .int .u32 x.u, .int .u32 x.g, .int .i64 x.t, .int .i64 x.a, .string x.d]
/-- What Find answers. -/
def fndV (l : List Itm) (p : ByteArray) : Value := match l.find? (fun X => X.s.toList == p.toList) with
  | some x => .tuple #[.agg x.node, .bool true]
  | none => .tuple #[.agg #[.int .i64 0, .int .u32 0, .int .u32 0, .int .u32 0, .int .i64 0, .int .i64 0, .string ⟨#[]⟩], .bool false]
theorem find_take {α : Type} (q : α → Bool) (l : List α) (k : Nat) (h : k < l.length) (h0 : (l.take k).find? q = none) (hq : q l[k] = true) : l.find? q = some l[k] := by
  have h1 : (l.take k ++ l.drop k).find? q = some l[k] := by
    rw [List.find?_append, h0, Option.none_or, List.drop_eq_getElem_cons h, List.find?_cons, hq]
  rwa [List.take_append_drop] at h1
theorem find_take_no {α : Type} (q : α → Bool) (l : List α) (k : Nat) (h : k < l.length) (h0 : (l.take k).find? q = none) (hq : q l[k] = false) : (l.take (k + 1)).find? q = none := by
  rw [List.take_succ_eq_append_getElem h, List.find?_append, h0]
  simp [hq]
end Go.Proofs.YtijfcmlgohbndaaGreatDoor

namespace Go.Proofs.YtijfcmlgohbndaaGreatDoor
set_option maxRecDepth 100000
set_option linter.unusedSimpArgs false
set_option linter.unusedVariables false
open Go.RowKit Go.Joins Go.Deep
open Go.Lib hiding intOf
/-- The Kind of a path in a tree. -/
def kndL (l : List Itm) (p : ByteArray) : Int := if p.toList.isEmpty = true then 1 else match l.find? (fun X => X.s.toList == p.toList) with
  | some x => x.k
  | none => 0
end Go.Proofs.YtijfcmlgohbndaaGreatDoor

namespace Go.Proofs.YtijfcmlgohbndaaGreatDoor
set_option maxRecDepth 100000
open Go.RowKit Go.Deep Go.Joins Go.Lib

theorem splitL_mem : ∀ (l p : List Nat), p ∈ splitL l → ∀ x ∈ p, x ∈ l
  | [], p, hp, x, hx => by
    simp [splitL] at hp
    subst hp
    cases hx
  | c :: r, p, hp, x, hx => by
    obtain ⟨h, t, e⟩ := splitL_form r
    by_cases hc : c = 47
    · subst hc
      rw [splitL_slash] at hp
      rcases List.mem_cons.1 hp with rfl | hp
      · cases hx
      · exact .tail _ (splitL_mem r p hp x hx)
    · rw [splitL_other hc e] at hp
      rcases List.mem_cons.1 hp with rfl | hp
      · rcases List.mem_cons.1 hx with rfl | hx
        · exact .head _
        · exact .tail _ (splitL_mem r h (by rw [e]; exact .head _) x hx)
      · exact .tail _ (splitL_mem r p (by rw [e]; exact .tail _ hp) x hx)
theorem parts_lt (s : ByteArray) (p : List Nat) (hp : p ∈ partsL (nums s)) : ∀ x ∈ p, x < 256 := fun x hx => by
  unfold partsL at hp
  by_cases h : nums s = []
  · rw [if_pos h] at hp; cases hp
  · rw [if_neg h] at hp
    exact nums_lt s x (splitL_mem _ p hp x hx)
theorem parts_len (s : ByteArray) : (partsL (nums s)).length ≤ s.size + 1 := by
  unfold partsL
  split
  · simp
  · rw [splitL_count]
    have := List.count_le_length (a := 47) (l := nums s)
    rw [nums_len] at this
    omega
theorem splitL_size : ∀ (l p : List Nat), p ∈ splitL l → p.length ≤ l.length
  | [], p, hp => by
    simp [splitL] at hp
    subst hp
    simp
  | c :: r, p, hp => by
    obtain ⟨h, t, e⟩ := splitL_form r
    rw [List.length_cons]
    by_cases hc : c = 47
    · subst hc
      rw [splitL_slash] at hp
      rcases List.mem_cons.1 hp with rfl | hp
      · simp
      · have := splitL_size r p hp; omega
    · rw [splitL_other hc e] at hp
      rcases List.mem_cons.1 hp with rfl | hp
      · have := splitL_size r h (by rw [e]; exact .head _)
        rw [List.length_cons]; omega
      · have := splitL_size r p (by rw [e]; exact .tail _ hp); omega
theorem part_size (s : ByteArray) (p : List Nat) (hp : p ∈ partsL (nums s)) : p.length ≤ s.size := by
  unfold partsL at hp
  by_cases h : nums s = []
  · rw [if_pos h] at hp; cases hp
  · rw [if_neg h] at hp
    have := splitL_size _ p hp
    rw [nums_len] at this
    exact this
theorem own_str {w : World} {B c : Nat} {A : Option Addr} {ss : List (List Nat)} (h : w.ownsRow B 9 1 (.slice A ss.length c) ss.length (strC ss)) (h0 : 0 < ss.length) :
    ∃ g, A = some ⟨g, 0, none⟩ ∧ B ≤ g ∧ g < w.heap.size ∧ ∀ i (hi : i < ss.length), w.cell? ⟨g, i, none⟩ = some (.string (text ss[i])) := by
  have hl := h.lt
  rcases ownsRow_forms h with ⟨hv, hn⟩ | ⟨g2, cap, hv⟩
  · omega
  · injection hv with hA _ _
    subst hA
    refine ⟨g2, rfl, (hl g2 rfl).1, (hl g2 rfl).2, fun i hi => ?_⟩
    have := h.cellAt i (by omega)
    rw [this]
    simp only [strC, List.getElem?_map, List.getElem?_eq_getElem hi, Option.map_some]

theorem cmpL_drop {xs ys : List (List Nat)} {k : Nat} (h1 : k < xs.length) (h2 : k < ys.length) : cmpL (xs.drop k) (ys.drop k) = if lessL xs[k] ys[k] = 0 then cmpL (xs.drop (k + 1)) (ys.drop (k + 1)) else lessL xs[k] ys[k] := by
  rw [List.drop_eq_getElem_cons h1, List.drop_eq_getElem_cons h2, cmpL]
end Go.Proofs.YtijfcmlgohbndaaGreatDoor

namespace Go.Proofs.YtijfcmlgohbndaaGreatDoor
set_option maxRecDepth 100000
open Go.RowKit Go.Deep Go.Joins Go.Lib

theorem ordT_neg (a b : ByteArray) : ordT b a = - ordT a b := ordL_neg _ _
theorem ordT_three (a b : ByteArray) : ordT a b = -1 ∨ ordT a b = 0 ∨ ordT a b = 1 := ordL_three _ _
theorem nums_injO {a b : ByteArray} (h : nums a = nums b) : a = b := by rw [← text_nums a, ← text_nums b, h]
theorem ordT_zero (a b : ByteArray) : ordT a b = 0 ↔ a = b := ⟨fun h => nums_injO ((ordL_zero _ _).1 h), fun h => by rw [h]; exact ordL_self _⟩
theorem eq_texts (a b : ByteArray) : (a.toList == b.toList) = decide (a = b) := by
  by_cases h : a = b
  · subst h; simp
  · rw [decide_eq_false h, beq_eq_false_iff_ne, Lib.toList_data, Lib.toList_data]
    intro e
    exact h (ByteArray.ext (Array.toList_inj.1 e))
theorem und_le (a b : ByteArray) (h : undB a b = true) : ordT b a ≤ 0 := by
  unfold undB at h
  have h1 : Lib.hasPrefix a.data.toList b.data.toList = true := by
    cases e : Lib.hasPrefix a.data.toList b.data.toList with
    | true => rfl
    | false => rw [e] at h; exact absurd h (by simp)
  unfold Lib.hasPrefix at h1
  rw [List.isPrefixOf_iff_prefix] at h1
  obtain ⟨t, ht⟩ := h1
  unfold ordT
  have e : nums a = nums b ++ t.map UInt8.toNat := by unfold nums; rw [← ht, List.map_append]
  rw [e]
  exact ordL_prefix _ _

end Go.Proofs.YtijfcmlgohbndaaGreatDoor

namespace Go.Proofs.YtijfcmlgohbndaaGreatDoor
set_option maxRecDepth 100000
open Go.RowKit Go.Deep Go.Joins Go.Lib

theorem last_facts (s : ByteArray) : -1 ≤ lastIndexByte s 47 ∧ lastIndexByte s 47 < s.size ∧ (∀ j (h : j < s.size), lastIndexByte s 47 < (j : Int) → s[j].toNat ≠ 47) ∧ (∀ j (h : j < s.size), lastIndexByte s 47 = (j : Int) → s[j].toNat = 47) := by
  rcases Lib.lastIdx_spec s 47 s.size with ⟨h, hn⟩ | ⟨i, hi, h, hc, hn⟩
  · have e : lastIndexByte s 47 = -1 := h
    rw [e]
    refine ⟨by omega, by omega, fun j hj _ => ?_, fun j hj h2 => by omega⟩
    have := hn j hj
    rw [data_bang s j hj] at this
    omega
  · have e : lastIndexByte s 47 = (i : Int) := h
    rw [e]
    refine ⟨by omega, by omega, fun j hj h2 => ?_, fun j hj h2 => ?_⟩
    · have := hn j (by omega) hj
      rw [data_bang s j hj] at this
      omega
    · obtain rfl : i = j := by omega
      rw [data_bang s i hj] at hc
      omega
theorem par_hit (s : ByteArray) (j : Nat) (h : lastIndexByte s 47 = (j : Int)) : parB s = s.extract 0 j := by
  unfold parB parN spl
  rw [h]
  congr 1
  omega
theorem par_none (s : ByteArray) (h : lastIndexByte s 47 = -1) : parB s = ByteArray.empty := by
  unfold parB parN spl
  rw [h]
  apply ByteArray.ext
  apply Array.toList_inj.1
  rw [Lib.extract_from_zero]
  rfl
theorem base_hit (s : ByteArray) (j : Nat) (h : lastIndexByte s 47 = (j : Int)) : baseB s = s.extract (j + 1) s.size := by
  unfold baseB spl
  rw [h]
  rfl
theorem base_none (s : ByteArray) (h : lastIndexByte s 47 = -1) : baseB s = s := by
  unfold baseB spl
  rw [h]
  apply ByteArray.ext
  apply Array.toList_inj.1
  rw [Lib.extract_to_end]
  rfl
/-! ### Under -/
theorem prefix_iff (a r : ByteArray) : hasPrefix a.data.toList r.data.toList = true ↔ r.size ≤ a.size ∧ a.extract 0 r.size = r := by
  unfold hasPrefix
  rw [List.isPrefixOf_iff_prefix]
  constructor
  · rintro ⟨t, ht⟩
    have hl := congrArg List.length ht
    rw [List.length_append, ← Lib.size_eq, ← Lib.size_eq] at hl
    refine ⟨by omega, ?_⟩
    apply ByteArray.ext
    apply Array.toList_inj.1
    rw [Lib.extract_from_zero, ← ht]
    rw [show r.size = r.data.toList.length by rw [Array.length_toList]; rfl, List.take_left]
  · rintro ⟨_, h⟩
    refine ⟨a.data.toList.drop r.size, ?_⟩
    have := congrArg (fun b : ByteArray => b.data.toList) h
    simp only [Lib.extract_from_zero] at this
    conv => lhs; lhs; rw [← this]
    exact List.take_append_drop _ _
theorem und_nil (a r : ByteArray) (h : r.toList.isEmpty = true) : undB a r = true := by
  rw [Lib.toList_data] at h
  have hr : r.data.toList = [] := List.isEmpty_iff.1 h
  unfold undB hasPrefix
  rw [hr]
  simp
theorem und_self (a : ByteArray) : undB a a = true := by
  have h : hasPrefix a.data.toList a.data.toList = true := by unfold hasPrefix; rw [List.isPrefixOf_iff_prefix]; exact ⟨[], List.append_nil _⟩
  unfold undB trimPrefix
  rw [h]
  simp
theorem und_no (a r : ByteArray) (h : ¬ (r.size ≤ a.size ∧ a.extract 0 r.size = r)) : undB a r = false := by
  have h2 : hasPrefix a.data.toList r.data.toList = false := by
    cases e : hasPrefix a.data.toList r.data.toList with
    | false => rfl
    | true => exact absurd ((prefix_iff a r).1 e) h
  unfold undB
  rw [h2]
  rfl
theorem und_at (a r : ByteArray) (hr : r.toList.isEmpty = false) (hs : r.size < a.size) (he : a.extract 0 r.size = r) : undB a r = decide (a[r.size].toNat = 47) := by
  have h := (prefix_iff a r).2 ⟨by omega, he⟩
  rw [Lib.toList_data] at hr
  unfold undB trimPrefix
  rw [h, if_pos rfl, hr]
  have hl : r.data.toList.length = r.size := by rw [Array.length_toList]; rfl
  rw [hl]
  have hd : a.data.toList.drop r.size = a[r.size] :: a.data.toList.drop (r.size + 1) := by
    have hla : r.size < a.data.toList.length := by rw [Array.length_toList]; exact hs
    rw [List.drop_eq_getElem_cons hla]
    rfl
  rw [hd]
  unfold hasPrefix
  by_cases h47 : a[r.size].toNat = 47
  · rw [decide_eq_true h47, show a[r.size] = 47 from UInt8.toNat_inj.1 h47]
    rfl
  · rw [decide_eq_false h47]
    have : ((47 : UInt8) == a[r.size]) = false := by
      rw [beq_eq_false_iff_ne]
      exact fun e => h47 (by rw [← e]; rfl)
    simp [List.isPrefixOf, this]
end Go.Proofs.YtijfcmlgohbndaaGreatDoor

namespace Go.Proofs.YtijfcmlgohbndaaGreatDoor
set_option maxRecDepth 100000
open Go.RowKit Go.Deep Go.Joins Go.Lib

/-- What the document's Check answers is what the program's does. -/
theorem chk_long {s : ByteArray} (h : 65535 < s.size) : chkV s = (.empty, false, 5) := by
  have : readN s = 5 := by unfold readN; rw [decide_eq_true h]; rfl
  unfold chkV
  rw [this]
  rfl
theorem chk_read {s : ByteArray} (h : s.size ≤ 65535) (h2 : s.size = 0 ∨ straysB s = true) : chkV s = (.empty, false, 20) := by
  have : readN s = 20 := by
    unfold readN
    rw [decide_eq_false (by omega), if_neg (by decide), isEmpty_nums2]
    rcases h2 with h2 | h2
    · rw [empty_of_size h2]; rfl
    · rw [h2]; cases (nums s).isEmpty <;> rfl
  unfold chkV
  rw [this]
  rfl
theorem chk_rest {s : ByteArray} (h : s.size ≤ 65535) (h0 : s.size ≠ 0) (h2 : straysB s = false) : chkV s = if harmL (nums (pathB s)) = 0 then (pathB s, dirB s, 0) else (.empty, false, harmL (nums (pathB s))) := by
  have : readN s = 0 := (read_zero s).2 ⟨h, fun e => h0 (by rw [← nums_len, e]; rfl), h2⟩
  unfold chkV
  rw [this, if_neg (by decide), harm_L]
  by_cases e : harmL (nums (pathB s)) = 0
  · rw [if_neg (by rw [e]; decide), if_pos e]
  · rw [if_pos e, if_neg e]
theorem path_last (s : ByteArray) (h0 : 0 < s.size) : (s[s.size - 1].toNat = 47 ∧ pathB s = s.extract 0 (s.size - 1) ∧ dirB s = true) ∨ (s[s.size - 1].toNat ≠ 47 ∧ pathB s = s ∧ dirB s = false) := by
  cases hd : dirB s with
  | true =>
    obtain ⟨k, hk, h47, hks, hp⟩ := path_true hd
    obtain rfl : k = s.size - 1 := by omega
    exact .inl ⟨h47, hp, rfl⟩
  | false =>
    refine .inr ⟨fun h47 => ?_, path_false hd, rfl⟩
    have hx : dirB s = true := (suffix_nums s).2 ⟨(nums s).take (s.size - 1), by
      have h1 := nums_snoc s (s.size - 1) (by omega)
      rw [h47, show s.size - 1 + 1 = s.size by omega] at h1
      rw [← h1, ← nums_len, List.take_length]⟩
    rw [hd] at hx
    cases hx
theorem bad_path (s : ByteArray) (h0 : 0 < s.size) : badL (nums (pathB s)) = badL (nums s) := by
  rcases path_last s h0 with ⟨h47, hp, _⟩ | ⟨_, hp, _⟩
  · rw [hp, nums_take]
    have h1 := nums_snoc s (s.size - 1) (by omega)
    rw [h47, show s.size - 1 + 1 = s.size by omega, show (nums s).take s.size = nums s by rw [← nums_len, List.take_length]] at h1
    conv => rhs; rw [h1]
    unfold badL
    rw [List.any_append]
    simp
  · rw [hp]
/-- The answer by what is found: bad bytes, no parts, parts that mislead, parts that are too long or too many. -/
theorem harm_bad {l : List Nat} (h : badL l = true) : harmL l = 21 := by unfold harmL; rw [h]; rfl
theorem harm_none {l : List Nat} (h : partsL l = []) : harmL l = 21 := by unfold harmL; rw [h]; cases badL l <;> rfl
theorem harm_mis {l : List Nat} (h : (partsL l).any misL = true) : harmL l = 21 := by unfold harmL; rw [h]; cases badL l <;> cases ((partsL l).length == 0) <;> rfl
theorem harm_long {l : List Nat} (h1 : badL l = false) (h2 : partsL l ≠ []) (h3 : (partsL l).any misL = false) (h : 32 < (partsL l).length ∨ (partsL l).any longL = true) : harmL l = 5 := by
  unfold harmL
  have hn : ((partsL l).length == 0) = false := by rw [beq_eq_false_iff_ne]; exact fun e => h2 (List.length_eq_zero_iff.1 e)
  rw [h1, hn, h3]
  rcases h with h | h
  · rw [decide_eq_true h]; rfl
  · rw [h]; cases decide (32 < (partsL l).length) <;> rfl
theorem harm_fine {l : List Nat} (h1 : badL l = false) (h2 : partsL l ≠ []) (h3 : (partsL l).any misL = false) (h4 : ¬ 32 < (partsL l).length) (h5 : (partsL l).any longL = false) : harmL l = 0 := by
  unfold harmL
  have hn : ((partsL l).length == 0) = false := by rw [beq_eq_false_iff_ne]; exact fun e => h2 (List.length_eq_zero_iff.1 e)
  rw [h1, hn, h3, decide_eq_false h4, h5]
  rfl
end Go.Proofs.YtijfcmlgohbndaaGreatDoor

namespace Go.Proofs.YtijfcmlgohbndaaGreatDoor
set_option maxRecDepth 100000
open Go.RowKit Go.Deep Go.Joins Go.Lib

end Go.Proofs.YtijfcmlgohbndaaGreatDoor

namespace Go.Proofs.YtijfcmlgohbndaaGreatDoor
set_option maxRecDepth 100000
set_option linter.unusedSimpArgs false
set_option linter.unusedVariables false
open Go.RowKit Go.Joins Go.Deep
open Go.Lib hiding intOf
/-- The item at a place. -/
def atI (l : List Itm) (i : Nat) : Itm := l[i]?.getD default
/-- May an item be one of a tree? -/
def sndL (x : Itm) : Bool := (chkV x.s).2.2 == 0 && !(chkV x.s).2.1 && ((chkV x.s).1.toList == x.s.toList) && !(decide (x.k < 1)) && !(decide (3 < x.k))
/-- Does an item stand behind the one ahead of it? -/
def ordI (l : List Itm) (k : Nat) : Bool := decide (k = 0) || decide (ordT (atI l (k - 1)).s (atI l k).s < 0)
/-- Is all of it right there? -/
def rowI (l : List Itm) (k : Nat) : Bool := sndL (atI l k) && ordI l k && (kndL l (parB (atI l k).s) == 1)
def rgtI (l : List Itm) : Bool := (List.range l.length).all (rowI l)
theorem rng_all (q : Nat → Bool) (n k : Nat) (h : (List.range k).all q = true) (hk : k < n) (hq : q k = false) : (List.range n).all q = false := by
  rw [List.all_eq_false]
  exact ⟨k, List.mem_range.2 hk, by simp [hq]⟩
theorem rng_more (q : Nat → Bool) (k : Nat) (h : (List.range k).all q = true) (hq : q k = true) : (List.range (k + 1)).all q = true := by
  rw [List.range_succ, List.all_append, h]
  simp [hq]

end Go.Proofs.YtijfcmlgohbndaaGreatDoor

namespace Go.Proofs.YtijfcmlgohbndaaGreatDoor
set_option maxRecDepth 100000
set_option linter.unusedSimpArgs false
set_option linter.unusedVariables false
open Go.RowKit Go.Joins Go.Deep
open Go.Lib hiding intOf
/-- Has a directory Data? -/
def datL (x : Itm) : Bool := (x.k == 1) && decide (0 < x.d.size)
end Go.Proofs.YtijfcmlgohbndaaGreatDoor

namespace Go.Proofs.YtijfcmlgohbndaaGreatDoor
set_option maxRecDepth 100000
set_option linter.unusedSimpArgs false
set_option linter.unusedVariables false
open Go.RowKit Go.Joins Go.Deep
open Go.Lib hiding intOf
theorem run_copy_items (w : World) (ty : TypeId) (b o dLen dCap : Nat) (a : Addr) (sLen sCap : Nat) (cs : List Value)
    (hn : cs.length = Nat.min sLen dLen * 8)
    (hsrc : ∀ j v, cs[j]? = some v → w.cell? (a.add j) = some v) (hc : ∀ j, j < cs.length → (w.cell? ⟨b, o + j, none⟩).isSome = true) (hf : ∀ j, j < cs.length → w.frozen? ⟨b, o + j, none⟩ = false) (h1 : ∀ v ∈ cs, v.oneCell' = true) :
    (Builtin.copy_ #[23, 23] ty #[.slice (some ⟨b, o, none⟩) dLen dCap, .slice (some a) sLen sCap]).run Tryz.prog w = .ok (goInt (Nat.min sLen dLen)) (w.setCells b o cs) := by
  have hl := run_loadCells_list (P := Tryz.prog) w a cs hsrc
  have hst := run_storeCells_cells (P := Tryz.prog) b o cs 0 w (by simpa using hc) (by simpa using hf) h1
  have hs := info_item
  cases hq : Tryz.prog.info? 47 with
  | none => simp [hq] at hs
  | some i =>
    have hi : i.size = 8 := by simpa [hq] using hs
    simp [Builtin.copy_, run_underlying Tryz.underlying23, Builtin.lenOf, Builtin.firstCells, sizeOf, typeInfo, hq, hi, ← hn, hl, hst]
theorem BK.there {w : World} {g c : Nat} (h : BK w g c) (o n : Nat) (ho : o + n ≤ c * 8) : w.there g o n := fun j hj => by
  obtain ⟨cur, h1, h2, _⟩ := h
  refine ⟨?_, frozen_of_row w g _ cur _ h1⟩
  rw [cell_of_row w g _ cur _ (0, 0) h1, Array.getElem?_eq_getElem (by omega)]
  rfl
theorem range_of_io {w : World} {g : Nat} {l : List Itm} (h : IO w g l) : w.rangeAt g 0 (cellsI l) := fun j v hj => by
  have hjl : j < l.length * 8 := by rw [← cellsI_len]; exact (List.getElem?_eq_some_iff.1 hj).1
  have hk : j / 8 < l.length := by omega
  have hr := (h.2 (j / 8) l[j / 8] (List.getElem?_eq_getElem hk)).1
  have hm : j % 8 < (l[j / 8]).cellsL.length := Nat.mod_lt _ (by decide)
  have hg := cellsI_get l (j / 8) l[j / 8] (List.getElem?_eq_getElem hk) (j % 8) _ (List.getElem?_eq_getElem hm)
  rw [show j / 8 * 8 + j % 8 = j by omega, hj] at hg
  injection hg with hg
  subst hg
  have h := hr (j % 8) _ (List.getElem?_eq_getElem hm)
  rw [show j / 8 * 8 + j % 8 = 0 + j by omega] at h
  exact h
theorem io_of_range {w : World} {g : Nat} {l : List Itm} (hlt : g < w.heap.size) (h : w.rangeAt g 0 (cellsI l)) (ht : w.there g 0 (l.length * 8)) : IO w g l :=
  ⟨hlt, fun k x hx => by
    have hk : k < l.length := (List.getElem?_eq_some_iff.1 hx).1
    refine ⟨fun j v hv => ?_, fun j hj => ?_⟩
    · have := h (k * 8 + j) v (cellsI_get l k x hx j v hv)
      rwa [Nat.zero_add] at this
    · have := ht (k * 8 + j) (by omega)
      rwa [Nat.zero_add] at this⟩
theorem range_app {w : World} {g o : Nat} {a b : List Value} (h1 : w.rangeAt g o a) (h2 : w.rangeAt g (o + a.length) b) : w.rangeAt g o (a ++ b) := fun j v hj => by
  by_cases hlt : j < a.length
  · rw [List.getElem?_append_left hlt] at hj
    exact h1 j v hj
  · rw [List.getElem?_append_right (by omega)] at hj
    have := h2 _ v hj
    rwa [show o + a.length + (j - a.length) = o + j by omega] at this
theorem cellsI_take : ∀ (l : List Itm) (i : Nat), i ≤ l.length → cellsI (l.take i) = (cellsI l).take (i * 8)
  | l, i, h => by
    have e : cellsI l = cellsI (l.take i) ++ cellsI (l.drop i) := by rw [← cellsI_app, List.take_append_drop]
    rw [e, List.take_left' (by rw [cellsI_len, List.length_take, Nat.min_eq_left h])]
theorem cellsI_drop : ∀ (l : List Itm) (i : Nat), i ≤ l.length → cellsI (l.drop i) = (cellsI l).drop (i * 8)
  | l, i, h => by
    have e : cellsI l = cellsI (l.take i) ++ cellsI (l.drop i) := by rw [← cellsI_app, List.take_append_drop]
    rw [e, List.drop_left' (by rw [cellsI_len, List.length_take, Nat.min_eq_left h])]
/-- With an item put in. -/
def insI (l : List Itm) (i : Nat) (y : Itm) : List Itm := l.take i ++ y :: l.drop i
theorem insI_len (l : List Itm) (i : Nat) (y : Itm) (h : i ≤ l.length) : (insI l i y).length = l.length + 1 := by
  unfold insI
  rw [List.length_append, List.length_cons, List.length_take, List.length_drop, Nat.min_eq_left h]
  omega
theorem insI_cells (l : List Itm) (i : Nat) (y : Itm) (h : i ≤ l.length) : cellsI (insI l i y) = (cellsI l).take (i * 8) ++ (y.cellsL ++ (cellsI l).drop (i * 8)) := by
  unfold insI
  rw [cellsI_app, cellsI, cellsI_take l i h, cellsI_drop l i h]
theorem put_in {w : World} {g c : Nat} (l : List Itm) (i : Nat) (y : Itm) (h : i ≤ l.length) (hbk : BK w g c) (hc : l.length + 1 ≤ c)
    (h1 : w.rangeAt g 0 ((cellsI l).take (i * 8))) (h2 : w.rangeAt g (i * 8) y.cellsL) (h3 : w.rangeAt g ((i + 1) * 8) ((cellsI l).drop (i * 8))) : IC w g c (insI l i y) := by
  have hlt : g < w.heap.size := by obtain ⟨cur, h1, _⟩ := hbk; exact lt_of_block h1
  refine ⟨io_of_range hlt ?_ (hbk.there _ _ (by rw [insI_len l i y h]; omega)), hbk⟩
  rw [insI_cells l i y h]
  have e : ((cellsI l).take (i * 8)).length = i * 8 := by rw [List.length_take, cellsI_len]; omega
  have e8 : y.cellsL.length = 8 := rfl
  refine range_app h1 (range_app ?_ ?_)
  · rw [e, Nat.zero_add]; exact h2
  · rw [e, e8, Nat.zero_add, show i * 8 + 8 = (i + 1) * 8 by omega]; exact h3
theorem own_of {w : World} {B c : Nat} {A : Option Addr} {l : List Itm} (h : NewB w B c A l) (hc : l.length ≤ c) : w.ownsRow B 47 8 (.slice A l.length c) l.length (cellsI l) := by
  rcases h with ⟨rfl, rfl, rfl⟩ | ⟨g, rfl, hg, hio, hbk⟩
  · exact World.ownsRow_nil w B 47 8
  · have hr := range_of_io hio
    obtain ⟨cur, h1, h2, h3⟩ := hbk
    refine ⟨cellsI_len l, .inr ⟨g, c, cur, rfl, hg, h1, hc, h3, h2, ?_⟩⟩
    refine List.ext_getElem? fun j => ?_
    by_cases hj : j < l.length * 8
    · rw [List.getElem?_take, if_pos hj]
      have hjl : j < (cellsI l).length := by rw [cellsI_len]; exact hj
      have h := hr j _ (List.getElem?_eq_getElem hjl)
      rw [Nat.zero_add, cell_of_row w g j cur _ (0, 0) h1] at h
      rw [List.getElem?_eq_getElem hjl, ← h]
      simp
    · rw [List.getElem?_eq_none (by rw [List.length_take]; omega), List.getElem?_eq_none (by rw [cellsI_len]; omega)]
theorem nb_of_own {w : World} {B : Nat} {l : List Itm} (v : Value) (hn : 0 < l.length) (h : w.ownsRow B 47 8 v l.length (cellsI l)) : ∃ A' c', v = .slice A' l.length c' ∧ NewB w B c' A' l := by
  rcases h.2 with ⟨_, h0⟩ | ⟨g, c', cur, rfl, hg, _⟩
  · omega
  · exact ⟨_, c', rfl, .inr ⟨g, rfl, hg, ic_of_own h⟩⟩
end Go.Proofs.YtijfcmlgohbndaaGreatDoor

namespace Go.Proofs.YtijfcmlgohbndaaGreatDoor
set_option maxRecDepth 100000
set_option linter.unusedSimpArgs false
set_option linter.unusedVariables false
open Go.RowKit Go.Joins Go.Deep
open Go.Lib hiding intOf
end Go.Proofs.YtijfcmlgohbndaaGreatDoor

namespace Go.Proofs.YtijfcmlgohbndaaGreatDoor
set_option maxRecDepth 100000
set_option linter.unusedSimpArgs false
set_option linter.unusedVariables false
open Go.RowKit Go.Joins Go.Deep
open Go.Lib hiding intOf
/-- What Put leaves. -/
def putR (l : List Itm) (p : ByteArray) : List Itm := l.filter (fun X => !(X.s.toList == p.toList))
def putQ (p : ByteArray) (X : Itm) : Bool := decide (0 < ordT X.s p)
def putLT (l : List Itm) (y : Itm) : List Itm := insI (putR l y.s) ((putR l y.s).findIdx (putQ y.s)) y
theorem idx_of {α : Type} (q : α → Bool) (l : List α) (k : Nat) (h : k < l.length) (h1 : q l[k] = true) (h2 : (l.take k).any q = false) : l.findIdx q = k := by
  refine (List.findIdx_eq h).2 ⟨h1, fun j hj => ?_⟩
  have := List.any_eq_false.1 h2 l[j] (List.mem_take_iff_getElem.2 ⟨j, by omega, rfl⟩)
  simpa using this
theorem idx_none {α : Type} (q : α → Bool) (l : List α) (h : l.any q = false) : l.findIdx q = l.length := by
  refine List.findIdx_eq_length.2 fun x hx => ?_
  have := List.any_eq_false.1 h x hx
  simpa using this
theorem NewB.lt {w : World} {B c : Nat} {A : Option Addr} {l : List Itm} (h : NewB w B c A l) (g : Nat) (e : A = some ⟨g, 0, none⟩) : g < w.heap.size := by
  rcases h with ⟨_, rfl, _⟩ | ⟨g2, rfl, _, h⟩
  · cases e
  · injection e with e
    injection e with e
    subst e
    exact h.1.1
end Go.Proofs.YtijfcmlgohbndaaGreatDoor

namespace Go.Proofs.YtijfcmlgohbndaaGreatDoor
set_option maxRecDepth 100000
set_option linter.unusedSimpArgs false
set_option linter.unusedVariables false
open Go.RowKit Go.Joins Go.Deep
open Go.Lib hiding intOf
theorem toList_inj' {a b : ByteArray} (h : a.toList = b.toList) : a = b := by
  rw [Lib.toList_data, Lib.toList_data] at h
  exact ByteArray.ext (Array.toList_inj.1 h)
theorem find_put (l : List Itm) (y : Itm) : (putLT l y).find? (fun X => X.s.toList == y.s.toList) = some y := by
  unfold putLT insI
  rw [List.find?_append]
  have h0 : ∀ m : List Itm, (∀ x ∈ m, x ∈ putR l y.s) → m.find? (fun X => X.s.toList == y.s.toList) = none := fun m hm => List.find?_eq_none.2 fun x hx => by
    have := (List.mem_filter.1 (hm x hx)).2
    simpa using this
  rw [h0 _ fun x hx => List.mem_of_mem_take hx, Option.none_or, List.find?_cons]
  simp
theorem find_drop (l : List Itm) (p : ByteArray) : (drpL p l).find? (fun X => X.s.toList == p.toList) = none := List.find?_eq_none.2 fun x hx h => by
  have h1 := (List.mem_filter.1 hx).2
  have h2 := toList_inj' (eq_of_beq h)
  rw [h2, und_self] at h1
  cases h1
/-- What is under a path's parent is under what that is under. -/
theorem und_par (s p : ByteArray) (hne : (parB s).toList.isEmpty = false) (h : undB (parB s) p = true) : undB s p = true := by
  rcases last_cases s with ⟨h0, _⟩ | ⟨k, hk, h47, hpar, hnum, _⟩
  · rw [Lib.toList_data] at hne
    have : (parB s).data.toList = [] := List.eq_nil_of_length_eq_zero h0
    rw [this] at hne
    cases hne
  · have hs : ∃ t, s.data.toList = (parB s).data.toList ++ 47 :: t := by
      refine ⟨(baseB s).data.toList, ?_⟩
      have inj : ∀ a b : List UInt8, a.map UInt8.toNat = b.map UInt8.toNat → a = b := fun a b h => (List.map_inj_right (fun x y h => UInt8.toNat_inj.1 h)).1 h
      refine inj _ _ ?_
      rw [List.map_append, List.map_cons]
      exact hnum
    obtain ⟨t, hs⟩ := hs
    unfold undB at h ⊢
    rw [hs]
    generalize (parB s).data.toList = a at *
    generalize p.data.toList = r at *
    rw [Bool.and_eq_true] at h
    obtain ⟨h1, h2⟩ := h
    obtain ⟨u, rfl⟩ := List.isPrefixOf_iff_prefix.1 (show r.isPrefixOf a = true from h1)
    have hp1 : Lib.hasPrefix (r ++ u) r = true := h1
    have hp2 : Lib.hasPrefix (r ++ u ++ 47 :: t) r = true := by unfold Lib.hasPrefix; exact List.isPrefixOf_iff_prefix.2 ⟨u ++ 47 :: t, by rw [List.append_assoc]⟩
    unfold Lib.trimPrefix at h2 ⊢
    rw [if_pos hp1] at h2
    rw [if_pos hp2, hp2]
    rw [List.append_assoc, List.drop_left']
    rw [List.drop_left'] at h2
    cases u with
    | nil => simp [Lib.hasPrefix]
    | cons x u =>
      simp [Lib.hasPrefix] at h2 ⊢
      rcases h2 with h2 | h2
      · exact .inl h2
      · exact .inr h2
    all_goals rfl
/-- A right tree's rows. -/
theorem rgt_row {l : List Itm} (h : rgtI l = true) (k : Nat) (hk : k < l.length) : sndL l[k] = true ∧ (∀ j, k = j + 1 → ordT (atI l j).s l[k].s < 0) ∧ kndL l (parB l[k].s) = 1 := by
  have h1 := List.all_eq_true.1 h k (List.mem_range.2 hk)
  have e : atI l k = l[k] := by show l[k]?.getD default = _; rw [List.getElem?_eq_getElem hk]; rfl
  unfold rowI at h1
  rw [e, Bool.and_eq_true, Bool.and_eq_true] at h1
  obtain ⟨⟨h1, h2⟩, h3⟩ := h1
  refine ⟨h1, fun j hj => ?_, eq_of_beq h3⟩
  subst hj
  unfold ordI at h2
  rw [e, decide_eq_false (by omega : ¬ (j + 1 = 0)), Bool.false_or] at h2
  exact of_decide_eq_true h2
theorem ordT_trans {a b c : ByteArray} (h1 : ordT a b < 0) (h2 : ordT b c < 0) : ordT a c < 0 := by
  unfold ordT at *
  have t1 := ordL_trans (nums a) (nums b) (nums c) (by omega) (by omega)
  rcases Int.lt_or_eq_of_le t1 with h | h
  · exact h
  · have h3 := (ordL_zero (nums a) (nums c)).1 h
    rw [h3] at h1
    have := ordL_neg (nums b) (nums c)
    omega
theorem rgt_pw {l : List Itm} (h : rgtI l = true) : l.Pairwise (fun a b => ordT a.s b.s < 0) := by
  refine List.pairwise_iff_getElem.2 fun i j hi hj hij => ?_
  obtain ⟨d, rfl⟩ : ∃ d, j = i + 1 + d := ⟨j - i - 1, by omega⟩
  clear hij
  induction d with
  | zero =>
    have := (rgt_row h (i + 1) hj).2.1 i rfl
    have e : atI l i = l[i] := by show l[i]?.getD default = _; rw [List.getElem?_eq_getElem hi]; rfl
    rw [e] at this
    exact this
  | succ d ih =>
    have hj2 : i + 1 + d < l.length := by omega
    have h1 := ih hj2
    have h2 := (rgt_row h (i + 1 + (d + 1)) hj).2.1 (i + 1 + d) (by omega)
    have e : atI l (i + 1 + d) = l[i + 1 + d] := by show l[i + 1 + d]?.getD default = _; rw [List.getElem?_eq_getElem hj2]; rfl
    rw [e] at h2
    exact ordT_trans h1 h2
theorem rgt_of {l : List Itm} (h1 : ∀ x ∈ l, sndL x = true ∧ kndL l (parB x.s) = 1) (h2 : l.Pairwise (fun a b => ordT a.s b.s < 0)) : rgtI l = true := by
  refine List.all_eq_true.2 fun k hk => ?_
  have hk := List.mem_range.1 hk
  have e : atI l k = l[k] := by show l[k]?.getD default = _; rw [List.getElem?_eq_getElem hk]; rfl
  obtain ⟨a, b⟩ := h1 l[k] (List.getElem_mem hk)
  unfold rowI
  rw [e, a, b]
  have : ordI l k = true := by
    unfold ordI
    cases k with
    | zero => rfl
    | succ j =>
      have e2 : atI l j = l[j] := by show l[j]?.getD default = _; rw [List.getElem?_eq_getElem (by omega)]; rfl
      rw [e, Nat.add_sub_cancel, e2]
      have := List.pairwise_iff_getElem.1 h2 j (j + 1) (by omega) hk (by omega)
      rw [decide_eq_true this]
      simp
  rw [this]
  rfl
theorem rgt_drop {l : List Itm} (p : ByteArray) (h : rgtI l = true) : rgtI (drpL p l) = true := by
  refine rgt_of (fun x hx => ?_) ((rgt_pw h).sublist List.filter_sublist)
  obtain ⟨hxl, hxu⟩ := List.mem_filter.1 hx
  obtain ⟨k, hk, rfl⟩ := List.getElem_of_mem hxl
  obtain ⟨h1, _, h3⟩ := rgt_row h k hk
  refine ⟨h1, ?_⟩
  have hxu : undB l[k].s p = false := by simpa using hxu
  unfold kndL at h3 ⊢
  by_cases h0 : (parB l[k].s).toList.isEmpty = true
  · rw [if_pos h0]
  · rw [if_neg h0] at h3 ⊢
    have hpu : undB (parB l[k].s) p = false := by
      rcases Bool.eq_false_or_eq_true (undB (parB l[k].s) p) with e | e
      · rw [und_par _ _ (Bool.eq_false_iff.2 h0) e] at hxu
        cases hxu
      · exact e
    have hf : (drpL p l).find? (fun X => X.s.toList == (parB l[k].s).toList) = l.find? (fun X => X.s.toList == (parB l[k].s).toList) := by
      unfold drpL
      rw [List.find?_filter]
      congr 1
      funext X
      by_cases e : (X.s.toList == (parB l[k].s).toList) = true
      · have e2 := toList_inj' (eq_of_beq e)
        rw [e, e2, hpu]
        rfl
      · rw [Bool.eq_false_iff.2 e]
        simp
    rw [hf]
    exact h3
theorem dat_drop {l : List Itm} (p : ByteArray) (h : l.any datL = false) : (drpL p l).any datL = false := by
  rw [List.any_eq_false] at h ⊢
  exact fun x hx => h x (List.mem_filter.1 hx).1
end Go.Proofs.YtijfcmlgohbndaaGreatDoor
