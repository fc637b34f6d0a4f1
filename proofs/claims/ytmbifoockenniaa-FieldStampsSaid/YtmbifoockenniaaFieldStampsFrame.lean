/-
  'FieldStamps' holds: for every input the call returns true, and each argument reads afterwards as it read before. No condition.
-/
import Derived.Test.YtmbifoockenniaaRows
import Derived.Test.YtmbifoockenniaaFieldStampsWalk
import Derived.Below
import Derived.ChangeOld
import Derived.WalkKit
import Derived.ProofKit
import Derived.OpenShut
import Derived.ShutString
import Derived.Lib.SmallJoins
namespace Go.Proofs.Ytmbifoockenniaa.fieldStamps
open Go.ChangeShapes Go.WideShapes Go.ChangeAt Go.RowKit Go.Deep Go.Joins
open Go.ChangeMaps (open_string shut_string)
set_option linter.unusedVariables false
set_option maxRecDepth 100000

theorem own : ownKnob Try.prog.godebug = none := by kernel_rfl
theorem laidOut : laidOutB Try.prog = true := by kernel_rfl
theorem lifted (os : Os) (started : os.Started) (H : Type) (enc : TypeId × Value → H) :
    ReturnsInHanded {} Try.checked os 7 .any (Rows.fieldStampsSpec.pre6 enc Try.prog Try.f7 Rows.fieldStampsRow.domain false) (Rows.fieldStampsSpec.post enc Try.prog Try.f7 false true false false) := by
  refine returnsInHanded_of_change (C := Try.checked) own started (by kernel_rfl) Try.func7
    (ChangeSpec.witness6 (enc := enc) (C := Try.checked) false ⟨#[], #[.string ⟨#[]⟩, .agg #[.int .u8 0, .int .i32 0, .int .i32 0, .int .i32 0], .bool false], []⟩ 8 (by kernel_rfl) (by kernel_rfl) (by kernel_rfl) (by kernel_rfl)) ?_
  intro W base args ds gs before hval0 hW hcnd _
  have hval : ∀ (j : Nat) t v, Try.f7.params[j]? = some t → args[j]? = some v → Value.okWide Try.prog W .any base t v := hval0
  have hW' := hW
  obtain ⟨p, q, hA0, hV, rfl, hfz, hnd⟩ := hW
  have hA : DataW.TrodAll enc Try.prog W 0 (fun _ => true) true Try.f7.params.toList args.toList ds p := hA0
  rw [Try.params7] at hA hval
  obtain ⟨v0, vs0, d0, ds0, p0, q0, hargs, rfl, rfl, h0, r0⟩ := trodAll_cons hA
  obtain ⟨v1, vs1, d1, ds1, p1, q1, rfl, rfl, rfl, h1, r1⟩ := trodAll_cons r0
  obtain ⟨v2, vs2, d2, ds2, p2, q2, rfl, rfl, rfl, h2, r2⟩ := trodAll_cons r1
  obtain ⟨rfl, rfl, rfl⟩ := trodAll_nil r2
  obtain rfl : args = #[v0, v1, v2] := by cases args; simp_all
  obtain ⟨rfl, rfl⟩ := trodVars_none hV
  obtain ⟨a0, rfl, rfl, rfl, ws0⟩ := open_string Try.underlying9 (hval 0 9 v0 rfl rfl) h0
  obtain ⟨c0, c1, c2, c3, y0, y1, y2, y3, m, rfl, rfl, rfl, k0, k1, k2, k3⟩ := open_agg4 Try.underlying66 (by kernel_rfl) (by kernel_rfl) (hval 1 66 v1 rfl rfl) h1
  obtain ⟨a2, rfl, rfl, rfl⟩ := open_bool Try.underlying4 (hval 2 4 v2 rfl rfl) h2
  obtain ⟨b0, e0, rfl, wb0⟩ := DataW.trod_int Try.underlying5 k0
  obtain ⟨b1, e1, rfl, wb1⟩ := DataW.trod_int Try.underlying21 k1
  obtain ⟨b2, e2, rfl, wb2⟩ := DataW.trod_int Try.underlying21 k2
  obtain ⟨b3, e3, rfl, wb3⟩ := DataW.trod_int Try.underlying21 k3
  simp at e0 e1 e2 e3
  subst e0 e1 e2 e3
  clear hA0 hval0
  simp only [List.append_nil] at hW'
  have structReads : ∀ (W' : World) (sp : Nat → Bool), DataW.Trod enc Try.prog W' 0 sp true 66 (.agg #[.int .u8 b0, .int .i32 b1, .int .i32 b2, .int .i32 b3]) (.agg [.lit (.int .u8 b0), .lit (.int .i32 b1), .lit (.int .i32 b2), .lit (.int .i32 b3)]) [] := fun W' sp =>
    shut_agg4 (y0 := (.lit (.int .u8 b0), [])) (y1 := (.lit (.int .i32 b1), [])) (y2 := (.lit (.int .i32 b2), [])) (y3 := (.lit (.int .i32 b3), [])) Try.underlying66 (by kernel_rfl) (by kernel_rfl) ⟨1, by simp [DataW.trod, Try.underlying5, wb0]⟩ ⟨1, by simp [DataW.trod, Try.underlying21, wb1]⟩ ⟨1, by simp [DataW.trod, Try.underlying21, wb2]⟩ ⟨1, by simp [DataW.trod, Try.underlying21, wb3]⟩
  refine (fieldStamps_walk a0 b0 b1 b2 b3 a2 ws0 wb0 wb1 wb2 wb3 W).mono fun e W' ⟨he, hg⟩ => ?_
  subst he
  exact ⟨_, rfl, _, _, _, [], _, [], hW', trodAll_mk1 (shut_bool Try.underlying4 _), (trodAll_cons_mk (shut_string Try.underlying9 ws0) (trodAll_cons_mk (structReads W' _) (trodAll_cons_mk (shut_bool Try.underlying4 _) trodAll_mk0))), rfl, hg.frame _, fun h => by cases h⟩

theorem over : Rows.fieldStampsRow.holds Try.pinned (OpenSpec.ofChange Rows.fieldStampsSpec) :=
  OpenClaim.holds_of_wide 7 Try.f7 rfl rfl rfl rfl rfl rfl rfl ⟨rfl, rfl, rfl, rfl, rfl⟩ rfl rfl rfl rfl rfl (by kernel_rfl) Try.func7 (by kernel_rfl)
    (of_decide_eq_true (by kernel_rfl)) (by unfold Func.isWrapper; first | (rw [if_pos (by decide +kernel)]; kernel_rfl) | (rw [if_neg (by decide +kernel)]; exact ⟨rfl, rfl⟩))
    (fun os started H enc _ => lifted os started H enc)
end Go.Proofs.Ytmbifoockenniaa.fieldStamps

namespace Go.Proofs.Ytmbifoockenniaa
theorem fieldStamps_holds : Rows.FieldStampsSaid := fieldStamps.over
end Go.Proofs.Ytmbifoockenniaa
