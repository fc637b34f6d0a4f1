/-
  Trees: Drop, Find.
-/
import Derived.Test.YtpkhpaklhfomkaaGreatDoorTpB
namespace Go.Proofs.YtpkhpaklhfomkaaGreatDoor
set_option maxRecDepth 100000
set_option linter.unusedSimpArgs false
set_option linter.unusedVariables false
open Go.RowKit Go.Joins Go.Deep
open Go.Lib hiding intOf
/-- What Drop leaves. -/
def drpL (p : ByteArray) (l : List Itm) : List Itm := l.filter (fun X => !(undB X.s p))
theorem results_ct_rowT {P : Program} {fn : Func} {p u : Tmp} {ty : TypeId} (h : fn.results = #[.cell p ty, .tmp u]) (tmps : Array Value) (w : World) (g : Nat) (t : TypeId) (cs : Array Value) (fr : Nat × Nat) (d : TypeDesc)
    (hp : tmps.getD p undef = .pointer (some ⟨g, 0, none⟩)) (hg : w.heap[g]? = some (.cells cs t fr))
    (hu : P.underlying ty = some d) (hd : (match d with | .struct _ | .array _ _ => true | _ => false) = true) (hi : (P.info? ty).map (·.size) = some cs.size) :
    (results fn tmps).run P w = .ok (.tuple #[.agg cs, tmps.getD u undef]) w := by
  rw [results_cell_tmp h, hp]
  simp [asAddr, run_loadVar_row w g t ty cs fr d hg hu hd hi, Result.andThen]
theorem info_nodeT : (Tryz.prog.info? 31).map (·.size) = some 7 := by kernel_rfl
/-- A node's cells. -/
def Itm.node (x : Itm) : Array Value := #[.int .i64 x.k, .int .u32 x.m, .int .u32 x.u, .int .u32 x.g, .int .i64 x.t, .int .i64 x.a, .string x.d]
/-- What Find answers. -/
def fndV (l : List Itm) (p : ByteArray) : Value := match l.find? (fun X => X.s.toList == p.toList) with
  | some x => .tuple #[.agg x.node, .bool true]
  | none => .tuple #[.agg #[.int .i64 0, .int .u32 0, .int .u32 0, .int .u32 0, .int .i64 0, .int .i64 0, .string ⟨#[]⟩], .bool false]
theorem find_take {α : Type} (q : α → Bool) (l : List α) (k : Nat) (h : k < l.length) (h0 : (l.take k).find? q = none) (hq : q l[k] = true) : l.find? q = some l[k] := by
  have h1 : (l.take k ++ l.drop k).find? q = some l[k] := by
    rw [List.find?_append, h0, Option.none_or, List.drop_eq_getElem_cons h, List.find?_cons, hq]
  rwa [List.take_append_drop] at h1
theorem find_take_no {α : Type} (q : α → Bool) (l : List α) (k : Nat) (h : k < l.length) (h0 : (l.take k).find? q = none) (hq : q l[k] = false) : (l.take (k + 1)).find? q = none := by
  rw [List.take_succ_eq_append_getElem h, List.find?_append, h0]
  simp [hq]
end Go.Proofs.YtpkhpaklhfomkaaGreatDoor
