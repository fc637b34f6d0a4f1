/-
  'CursorReads' holds: for every input the call returns true, and each argument reads afterwards as it read before. No condition.
-/
import Derived.Test.YtcfpkmonbnfehaaRows
import Derived.Test.YtcfpkmonbnfehaaCursorReadsWalk
import Derived.Below
import Derived.ChangeOld
import Derived.WalkKit
import Derived.ProofKit
import Derived.OpenShut
import Derived.ShutString
import Derived.Deep.SlicePairs
namespace Go.Proofs.Ytcfpkmonbnfehaa.cursorReads
open Go.ChangeShapes Go.WideShapes Go.ChangeAt Go.RowKit Go.Deep
open Go.ChangeMaps (open_string shut_string)
set_option linter.unusedVariables false

theorem own : ownKnob Try.prog.godebug = none := by kernel_rfl
theorem laidOut : laidOutB Try.prog = true := by kernel_rfl
theorem cells_act : Try.prog.cellsOf 42 = 2 := by kernel_rfl
theorem cells_int : Try.prog.cellsOf 3 = 1 := by kernel_rfl

/-- The number that a value is. -/
def intIn (v : Value) : Int := match v with
  | .int _ n => n
  | _ => 0

set_option maxRecDepth 100000 in
theorem lifted (os : Os) (started : os.Started) (H : Type) (enc : TypeId × Value → H) :
    ReturnsInHanded {} Try.checked os 4 .any (Rows.cursorReadsSpec.pre6 enc Try.prog Try.f4 Rows.cursorReadsRow.domain false) (Rows.cursorReadsSpec.post enc Try.prog Try.f4 false true false false) := by
  refine returnsInHanded_of_change (C := Try.checked) own started (by kernel_rfl) Try.func4
    (ChangeSpec.witness6 (enc := enc) (C := Try.checked) false ⟨#[], #[.string ByteArray.empty, .slice none 0 0], []⟩ 8 (by kernel_rfl) (by kernel_rfl) (by kernel_rfl) (by kernel_rfl)) ?_
  intro W base args ds gs before hval0 hW hcnd _
  have hval : ∀ (j : Nat) t v, Try.f4.params[j]? = some t → args[j]? = some v → Value.okWide Try.prog W .any base t v := hval0
  have hW' := hW
  obtain ⟨p, q, hA0, hV, rfl, hfz, hnd⟩ := hW
  have hA : DataW.TrodAll enc Try.prog W 0 (fun _ => true) true Try.f4.params.toList args.toList ds p := hA0
  rw [Try.params4] at hA hval
  obtain ⟨v0, vs0, d0, ds0, p0, q0, hargs, rfl, rfl, h0, r0⟩ := trodAll_cons hA
  obtain ⟨v1, vs1, d1, ds1, p1, q1, rfl, rfl, rfl, h1, r1⟩ := trodAll_cons r0
  obtain ⟨rfl, rfl, rfl⟩ := trodAll_nil r1
  obtain rfl : args = #[v0, v1] := by cases args; simp_all
  obtain ⟨rfl, rfl⟩ := trodVars_none hV
  obtain ⟨a0, rfl, rfl, rfl, w0⟩ := open_string Try.underlying9 (hval 0 9 v0 rfl rfl) h0
  obtain ⟨a1, len1, cap1, rfl⟩ := okWide_slice Try.underlying35 (hval 1 35 v1 rfl rfl)
  have k1 := h1
  have lt1 : ∀ x ∈ p1, x.block < W.heap.size := by obtain ⟨m, hm⟩ := k1; exact DataW.trod_lt m _ _ _ hm
  obtain ⟨D, N, hp⟩ : ∃ D N : Nat → Int, 0 < len1 → ∃ b off, a1 = some ⟨b, off, none⟩ ∧ b < W.heap.size ∧
      (∀ i, i < len1 → W.cell? ⟨b, off + i * 2, none⟩ = some (.int .i64 (D i)) ∧ (Lit.int .i64 (D i)).wf = true) ∧ (∀ i, i < len1 → W.cell? ⟨b, off + i * 2 + 1, none⟩ = some (.int .i64 (N i)) ∧ (Lit.int .i64 (N i)).wf = true) := by
    obtain ⟨fuel, hf⟩ := h1
    rcases open_slice_pairs Try.underlying35 Try.underlying42 cells_act rfl rfl cells_int cells_int hf with ⟨hcs, _⟩ | ⟨a, len, cap, m, n, V0, V1, D0, D1, P0, P1, hcs, _, hl, hm, hmm, _, hel⟩
    · simp [Value.cells] at hcs
      obtain ⟨rfl, rfl, rfl⟩ := hcs
      exact ⟨fun _ => 0, fun _ => 0, fun h => by omega⟩
    · simp [Value.cells] at hcs
      obtain ⟨rfl, rfl, rfl⟩ := hcs
      have hm2 : len1 ≤ m := by rw [hmm]; split <;> omega
      refine ⟨fun i => intIn (V0 i), fun i => intIn (V1 i), fun hpos => ?_⟩
      obtain ⟨b, off, spot⟩ := a
      have hz := (hel 0 (by omega)).1
      have hspot : spot = none := by simpa [Addr.add] using World.cell?_spot hz
      subst hspot
      refine ⟨b, off, rfl, ?_, fun i hi => ?_, fun i hi => ?_⟩
      · exact block_lt_of_cell hz
      · obtain ⟨c0, c1, t0, t1⟩ := hel i (by omega)
        rw [Addr.add_lit] at c0
        obtain ⟨x, ex, _, wx⟩ := DataW.trod_int Try.underlying3 t0
        simp at ex
        have e2 : intIn (V0 i) = x := by rw [ex]; rfl
        show _ = some (Value.int .i64 (intIn (V0 i))) ∧ (Lit.int .i64 (intIn (V0 i))).wf = true
        rw [e2, c0, ex]
        exact ⟨rfl, wx⟩
      · obtain ⟨c0, c1, t0, t1⟩ := hel i (by omega)
        rw [Addr.add_lit, ← Nat.add_assoc] at c1
        obtain ⟨x, ex, _, wx⟩ := DataW.trod_int Try.underlying3 t1
        simp at ex
        have e2 : intIn (V1 i) = x := by rw [ex]; rfl
        show _ = some (Value.int .i64 (intIn (V1 i))) ∧ (Lit.int .i64 (intIn (V1 i))).wf = true
        rw [e2, c1, ex]
        exact ⟨rfl, wx⟩
  clear hA0 hval0
  refine (cursorReads_walk a0 a1 len1 cap1 D N W hp).mono fun e W' ⟨he, hg⟩ => ?_
  subst he
  exact ⟨_, rfl, _, _, _, [], _, [], hW', trodAll_mk1 (shut_bool Try.underlying4 _), (trodAll_cons_mk (shut_string Try.underlying9 w0) (trodAll_cons_mk (Below.trod laidOut (by kernel_rfl) (of_decide_eq_true (by kernel_rfl)) k1 hg lt1) trodAll_mk0)), rfl, hg.frame _, fun h => by cases h⟩

theorem over : Rows.cursorReadsRow.holds Try.pinned (OpenSpec.ofChange Rows.cursorReadsSpec) :=
  OpenClaim.holds_of_wide 4 Try.f4 rfl rfl rfl rfl rfl rfl rfl ⟨rfl, rfl, rfl, rfl, rfl⟩ rfl rfl rfl rfl rfl (by kernel_rfl) Try.func4 (by kernel_rfl)
    (of_decide_eq_true (by kernel_rfl)) (by unfold Func.isWrapper; first | (rw [if_pos (by decide +kernel)]; kernel_rfl) | (rw [if_neg (by decide +kernel)]; exact ⟨rfl, rfl⟩))
    (fun os started H enc _ => lifted os started H enc)
end Go.Proofs.Ytcfpkmonbnfehaa.cursorReads

namespace Go.Proofs.Ytcfpkmonbnfehaa
theorem cursorReads_holds : Rows.CursorReadsSaid := cursorReads.over
end Go.Proofs.Ytcfpkmonbnfehaa
