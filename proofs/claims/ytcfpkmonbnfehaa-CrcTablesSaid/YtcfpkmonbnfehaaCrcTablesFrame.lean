/-
  'CrcTables' holds: for every input the call returns true, and each argument reads afterwards as it read before. No condition.
-/
import Derived.Test.YtcfpkmonbnfehaaRows
import Derived.Test.YtcfpkmonbnfehaaCrcTablesWalk
import Derived.Below
import Derived.ChangeOld
import Derived.WalkKit
import Derived.ProofKit
import Derived.OpenShut
import Derived.ShutString
namespace Go.Proofs.Ytcfpkmonbnfehaa.crcTables
open Go.ChangeShapes Go.WideShapes Go.ChangeAt Go.RowKit
open Go.ChangeMaps (open_string shut_string)
set_option linter.unusedVariables false

theorem own : ownKnob Try.prog.godebug = none := by kernel_rfl
theorem laidOut : laidOutB Try.prog = true := by kernel_rfl
theorem cells_tab : Try.prog.cellsOf 55 = 256 := by kernel_rfl
theorem cells_num : Try.prog.cellsOf 32 = 1 := by kernel_rfl

/-- The number in a cell. -/
def numAt (cs : Array Value) (i : Nat) : Nat := match cs[i]? with
  | some (.int _ n) => n.toNat
  | _ => 0
/-- Cells that read as numbers of 32 bits are a table. -/
theorem tab_of (cs : Array Value) (h : cs.size = 256) (hn : ∀ i, i < 256 → ∃ n : Nat, n < 4294967296 ∧ cs[i]? = some (.int .u32 (n : Nat))) : ∃ f : Nat → Nat, cs = tab f ∧ ∀ i, i < 256 → f i < 4294967296 := by
  have hv : ∀ i, i < 256 → ∀ n : Nat, cs[i]? = some (.int .u32 (n : Nat)) → numAt cs i = n := fun i _ n e => by unfold numAt; rw [e]; simp
  refine ⟨numAt cs, ?_, ?_⟩
  · apply Array.ext_getElem?
    intro i
    by_cases hi : i < 256
    · obtain ⟨n, _, e⟩ := hn i hi
      rw [tab_at _ i hi, hv i hi n e, e]
    · rw [Array.getElem?_eq_none_iff.2 (by omega), Array.getElem?_eq_none_iff.2 (by rw [tab_size]; omega)]
  · intro i hi
    obtain ⟨n, hl, e⟩ := hn i hi
    rw [hv i hi n e]
    exact hl

set_option maxRecDepth 100000 in
theorem lifted (os : Os) (started : os.Started) (H : Type) (enc : TypeId × Value → H) :
    ReturnsInHanded {} Try.checked os 8 .any (Rows.crcTablesSpec.pre6 enc Try.prog Try.f8 Rows.crcTablesRow.domain false) (Rows.crcTablesSpec.post enc Try.prog Try.f8 false true false false) := by
  refine returnsInHanded_of_change (C := Try.checked) own started (by kernel_rfl) Try.func8
    (ChangeSpec.witness6 (enc := enc) (C := Try.checked) false ⟨#[], #[.agg (tab fun _ => 0), .int .u32 0, .string ByteArray.empty], []⟩ 8 (by kernel_rfl) (by kernel_rfl) (by kernel_rfl) (by kernel_rfl)) ?_
  intro W base args ds gs before hval0 hW hcnd _
  have hval : ∀ (j : Nat) t v, Try.f8.params[j]? = some t → args[j]? = some v → Value.okWide Try.prog W .any base t v := hval0
  have hW' := hW
  obtain ⟨p, q, hA0, hV, rfl, hfz, hnd⟩ := hW
  have hA : DataW.TrodAll enc Try.prog W 0 (fun _ => true) true Try.f8.params.toList args.toList ds p := hA0
  rw [Try.params8] at hA hval
  obtain ⟨v0, vs0, d0, ds0, p0, q0, hargs, rfl, rfl, h0, r0⟩ := trodAll_cons hA
  obtain ⟨v1, vs1, d1, ds1, p1, q1, rfl, rfl, rfl, h1, r1⟩ := trodAll_cons r0
  obtain ⟨v2, vs2, d2, ds2, p2, q2, rfl, rfl, rfl, h2, r2⟩ := trodAll_cons r1
  obtain ⟨rfl, rfl, rfl⟩ := trodAll_nil r2
  obtain rfl : args = #[v0, v1, v2] := by cases args; simp_all
  obtain ⟨rfl, rfl⟩ := trodVars_none hV
  obtain ⟨cs, rfl, hsz, _⟩ : ∃ cs, v0 = .agg cs ∧ cs.size = Try.prog.cellsOf 55 ∧ Row.okWide Try.prog W .any base 55 cs := by
    have := hval 0 55 v0 rfl rfl
    simpa [Value.okWide, Try.underlying55] using this
  rw [cells_tab] at hsz
  have k0 := h0
  have lt0 : ∀ x ∈ p0, x.block < W.heap.size := by obtain ⟨m, hm⟩ := k0; exact DataW.trod_lt m _ _ _ hm
  obtain ⟨f, rfl, hf⟩ : ∃ f : Nat → Nat, cs = tab f ∧ ∀ i, i < 256 → f i < 4294967296 := by
    obtain ⟨fuel, hfu⟩ := h0
    obtain ⟨xs, m, _, _, _, hl, hel⟩ := DataW.trod_array Try.underlying55 hfu
    refine tab_of cs hsz fun i hi => ?_
    have he := hel i hi
    rw [cells_num] at he
    have hx : xs[i]? = some xs[i] := by simp [hl, hi]
    rw [hx] at he
    obtain ⟨n, e, _, wn⟩ := DataW.trod_int Try.underlying32 he
    obtain ⟨k, rfl, hk⟩ := nat_u32 wn
    refine ⟨k, hk, ?_⟩
    have e2 : (((Value.agg cs).cells.toList.drop (i * 1)).take 1)[0]? = some (.int .u32 (k : Nat)) := by rw [e]; rfl
    simpa [Value.cells] using e2
  obtain ⟨a1, rfl, rfl, rfl, w1⟩ := open_int Try.underlying32 (hval 1 32 v1 rfl rfl) h1
  obtain ⟨a2, rfl, rfl, rfl, w2⟩ := open_string Try.underlying9 (hval 2 9 v2 rfl rfl) h2
  clear hA0 hval0
  refine (crcTables_walk f hf a1 a2 w1 w2 W).mono fun e W' ⟨he, hg⟩ => ?_
  subst he
  exact ⟨_, rfl, _, _, _, [], _, [], hW', trodAll_mk1 (shut_bool Try.underlying4 _), (trodAll_cons_mk (Below.trod laidOut (by kernel_rfl) (of_decide_eq_true (by kernel_rfl)) k0 hg lt0) (trodAll_cons_mk (shut_int Try.underlying32 w1) (trodAll_cons_mk (shut_string Try.underlying9 w2) trodAll_mk0))), rfl, hg.frame _, fun h => by cases h⟩

theorem over : Rows.crcTablesRow.holds Try.pinned (OpenSpec.ofChange Rows.crcTablesSpec) :=
  OpenClaim.holds_of_wide 8 Try.f8 rfl rfl rfl rfl rfl rfl rfl ⟨rfl, rfl, rfl, rfl, rfl⟩ rfl rfl rfl rfl rfl (by kernel_rfl) Try.func8 (by kernel_rfl)
    (of_decide_eq_true (by kernel_rfl)) (by unfold Func.isWrapper; first | (rw [if_pos (by decide +kernel)]; kernel_rfl) | (rw [if_neg (by decide +kernel)]; exact ⟨rfl, rfl⟩))
    (fun os started H enc _ => lifted os started H enc)
end Go.Proofs.Ytcfpkmonbnfehaa.crcTables

namespace Go.Proofs.Ytcfpkmonbnfehaa
theorem crcTables_holds : Rows.CrcTablesSaid := crcTables.over
end Go.Proofs.Ytcfpkmonbnfehaa
