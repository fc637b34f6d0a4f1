/-
  'TailPrints' holds: for every input the call returns true, and each argument reads afterwards as it read before. No condition.
-/
import Derived.Test.YtklmfncljebgnaaRows
import Derived.Test.YtklmfncljebgnaaTailPrintsWalk
import Derived.Test.YtklmfncljebgnaaAgg6
import Derived.Below
import Derived.ChangeOld
import Derived.WalkKit
import Derived.ProofKit
import Derived.OpenShut
import Derived.ShutString
import Derived.Lib.SmallJoins
namespace Go.Proofs.Ytklmfncljebgnaa.tailPrints
open Go.ChangeShapes Go.WideShapes Go.ChangeAt Go.RowKit Go.Deep Go.Joins
open Go.ChangeMaps (open_string shut_string)
set_option linter.unusedVariables false
set_option maxRecDepth 100000

theorem own : ownKnob Try.prog.godebug = none := by kernel_rfl
theorem laidOut : laidOutB Try.prog = true := by kernel_rfl
theorem lifted (os : Os) (started : os.Started) (H : Type) (enc : TypeId × Value → H) :
    ReturnsInHanded {} Try.checked os 7 .any (Rows.tailPrintsSpec.pre6 enc Try.prog Try.f7 Rows.tailPrintsRow.domain false) (Rows.tailPrintsSpec.post enc Try.prog Try.f7 false true false false) := by
  refine returnsInHanded_of_change (C := Try.checked) own started (by kernel_rfl) Try.func7
    (ChangeSpec.witness6 (enc := enc) (C := Try.checked) false ⟨#[], #[.agg #[.int .i64 0, .int .u64 0, .int .u64 0, .int .u64 0, .string ⟨#[]⟩, .bool false], .bool false], []⟩ 8 (by kernel_rfl) (by kernel_rfl) (by kernel_rfl) (by kernel_rfl)) ?_
  intro W base args ds gs before hval0 hW hcnd _
  have hval : ∀ (j : Nat) t v, Try.f7.params[j]? = some t → args[j]? = some v → Value.okWide Try.prog W .any base t v := hval0
  have hW' := hW
  obtain ⟨p, q, hA0, hV, rfl, hfz, hnd⟩ := hW
  have hA : DataW.TrodAll enc Try.prog W 0 (fun _ => true) true Try.f7.params.toList args.toList ds p := hA0
  rw [Try.params7] at hA hval
  obtain ⟨v0, vs0, d0, ds0, p0, q0, hargs, rfl, rfl, h0, r0⟩ := trodAll_cons hA
  obtain ⟨v1, vs1, d1, ds1, p1, q1, rfl, rfl, rfl, h1, r1⟩ := trodAll_cons r0
  obtain ⟨rfl, rfl, rfl⟩ := trodAll_nil r1
  obtain rfl : args = #[v0, v1] := by cases args; simp_all
  obtain ⟨rfl, rfl⟩ := trodVars_none hV
  obtain ⟨c0_0, c0_1, c0_2, c0_3, c0_4, c0_5, y0_0, y0_1, y0_2, y0_3, y0_4, y0_5, m0, rfl, rfl, rfl, k0_0, k0_1, k0_2, k0_3, k0_4, k0_5⟩ := open_agg6 Try.underlying61 (by kernel_rfl) (by kernel_rfl) (hval 0 61 v0 rfl rfl) h0
  obtain ⟨b0_0, e0_0, rfl, x0_0⟩ := DataW.trod_int Try.underlying3 k0_0
  obtain ⟨b0_1, e0_1, rfl, x0_1⟩ := DataW.trod_int Try.underlying36 k0_1
  obtain ⟨b0_2, e0_2, rfl, x0_2⟩ := DataW.trod_int Try.underlying36 k0_2
  obtain ⟨b0_3, e0_3, rfl, x0_3⟩ := DataW.trod_int Try.underlying36 k0_3
  obtain ⟨b0_4, e0_4, rfl, x0_4⟩ := DataW.trod_string Try.underlying9 k0_4
  obtain ⟨b0_5, e0_5, rfl⟩ := DataW.trod_bool Try.underlying4 k0_5
  simp at e0_0 e0_1 e0_2 e0_3 e0_4 e0_5
  subst e0_0 e0_1 e0_2 e0_3 e0_4 e0_5
  obtain ⟨a1, rfl, rfl, rfl⟩ := open_bool Try.underlying4 (hval 1 4 v1 rfl rfl) h1
  clear hA0 hval0
  simp only [List.append_nil] at hW'
  have reads0 : ∀ (W' : World) (sp : Nat → Bool), DataW.Trod enc Try.prog W' 0 sp true 61 (.agg #[.int .i64 b0_0, .int .u64 b0_1, .int .u64 b0_2, .int .u64 b0_3, .string b0_4, .bool b0_5]) (.agg [.lit (.int .i64 b0_0), .lit (.int .u64 b0_1), .lit (.int .u64 b0_2), .lit (.int .u64 b0_3), .lit (.string b0_4.data.toList), .lit (.bool b0_5)]) [] := fun W' sp =>
    shut_agg6 (y0 := (.lit (.int .i64 b0_0), [])) (y1 := (.lit (.int .u64 b0_1), [])) (y2 := (.lit (.int .u64 b0_2), [])) (y3 := (.lit (.int .u64 b0_3), [])) (y4 := (.lit (.string b0_4.data.toList), [])) (y5 := (.lit (.bool b0_5), [])) Try.underlying61 (by kernel_rfl) (by kernel_rfl) ⟨1, by simp [DataW.trod, Try.underlying3, x0_0]⟩ ⟨1, by simp [DataW.trod, Try.underlying36, x0_1]⟩ ⟨1, by simp [DataW.trod, Try.underlying36, x0_2]⟩ ⟨1, by simp [DataW.trod, Try.underlying36, x0_3]⟩ ⟨1, by simp [DataW.trod, Try.underlying9, x0_4]⟩ ⟨1, by simp [DataW.trod, Try.underlying4]⟩
  refine (tailPrints_walk b0_0 b0_1 b0_2 b0_3 b0_4 b0_5 a1 x0_0 x0_1 x0_2 x0_3 x0_4 W).mono fun e W' ⟨he, hg⟩ => ?_
  subst he
  exact ⟨_, rfl, _, _, _, [], _, [], hW', trodAll_mk1 (shut_bool Try.underlying4 _), (trodAll_cons_mk (reads0 W' _) (trodAll_cons_mk (shut_bool Try.underlying4 _) trodAll_mk0)), rfl, hg.frame _, fun h => by cases h⟩

theorem over : Rows.tailPrintsRow.holds Try.pinned (OpenSpec.ofChange Rows.tailPrintsSpec) :=
  OpenClaim.holds_of_wide 7 Try.f7 rfl rfl rfl rfl rfl rfl rfl ⟨rfl, rfl, rfl, rfl, rfl⟩ rfl rfl rfl rfl rfl (by kernel_rfl) Try.func7 (by kernel_rfl)
    (of_decide_eq_true (by kernel_rfl)) (by unfold Func.isWrapper; first | (rw [if_pos (by decide +kernel)]; kernel_rfl) | (rw [if_neg (by decide +kernel)]; exact ⟨rfl, rfl⟩))
    (fun os started H enc _ => lifted os started H enc)
end Go.Proofs.Ytklmfncljebgnaa.tailPrints

namespace Go.Proofs.Ytklmfncljebgnaa
theorem tailPrints_holds : Rows.TailPrintsSaid := tailPrints.over
end Go.Proofs.Ytklmfncljebgnaa
