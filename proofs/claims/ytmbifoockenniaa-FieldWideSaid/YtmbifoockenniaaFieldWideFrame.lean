/-
  'FieldWide' holds: for every input the call returns true, and each argument reads afterwards as it read before. No condition.
-/
import Derived.Test.YtmbifoockenniaaRows
import Derived.Test.YtmbifoockenniaaFieldWideWalk
import Derived.Below
import Derived.ChangeOld
import Derived.WalkKit
import Derived.ProofKit
import Derived.OpenShut
import Derived.ShutString
import Derived.Lib.SmallJoins
namespace Go.Proofs.Ytmbifoockenniaa.fieldWide
open Go.ChangeShapes Go.WideShapes Go.ChangeAt Go.RowKit Go.Deep Go.Joins
open Go.ChangeMaps (open_string shut_string)
set_option linter.unusedVariables false
set_option maxRecDepth 100000

theorem own : ownKnob Try.prog.godebug = none := by kernel_rfl
theorem laidOut : laidOutB Try.prog = true := by kernel_rfl
theorem lifted (os : Os) (started : os.Started) (H : Type) (enc : TypeId × Value → H) :
    ReturnsInHanded {} Try.checked os 6 .any (Rows.fieldWideSpec.pre6 enc Try.prog Try.f6 Rows.fieldWideRow.domain false) (Rows.fieldWideSpec.post enc Try.prog Try.f6 false true false false) := by
  refine returnsInHanded_of_change (C := Try.checked) own started (by kernel_rfl) Try.func6
    (ChangeSpec.witness6 (enc := enc) (C := Try.checked) false ⟨#[], #[.string ⟨#[]⟩, .agg #[.bool false, .bool false, .bool false, .bool false], .agg #[.int .u64 0, .int .u64 0, .int .u64 0, .int .u32 0]], []⟩ 8 (by kernel_rfl) (by kernel_rfl) (by kernel_rfl) (by kernel_rfl)) ?_
  intro W base args ds gs before hval0 hW hcnd _
  have hval : ∀ (j : Nat) t v, Try.f6.params[j]? = some t → args[j]? = some v → Value.okWide Try.prog W .any base t v := hval0
  have hW' := hW
  obtain ⟨p, q, hA0, hV, rfl, hfz, hnd⟩ := hW
  have hA : DataW.TrodAll enc Try.prog W 0 (fun _ => true) true Try.f6.params.toList args.toList ds p := hA0
  rw [Try.params6] at hA hval
  obtain ⟨v0, vs0, d0, ds0, p0, q0, hargs, rfl, rfl, h0, r0⟩ := trodAll_cons hA
  obtain ⟨v1, vs1, d1, ds1, p1, q1, rfl, rfl, rfl, h1, r1⟩ := trodAll_cons r0
  obtain ⟨v2, vs2, d2, ds2, p2, q2, rfl, rfl, rfl, h2, r2⟩ := trodAll_cons r1
  obtain ⟨rfl, rfl, rfl⟩ := trodAll_nil r2
  obtain rfl : args = #[v0, v1, v2] := by cases args; simp_all
  obtain ⟨rfl, rfl⟩ := trodVars_none hV
  obtain ⟨a0, rfl, rfl, rfl, w0⟩ := open_string Try.underlying9 (hval 0 9 v0 rfl rfl) h0
  obtain ⟨c1_0, c1_1, c1_2, c1_3, y1_0, y1_1, y1_2, y1_3, m1, rfl, rfl, rfl, k1_0, k1_1, k1_2, k1_3⟩ := open_agg4 Try.underlying50 (by kernel_rfl) (by kernel_rfl) (hval 1 50 v1 rfl rfl) h1
  obtain ⟨b1_0, e1_0, rfl⟩ := DataW.trod_bool Try.underlying4 k1_0
  obtain ⟨b1_1, e1_1, rfl⟩ := DataW.trod_bool Try.underlying4 k1_1
  obtain ⟨b1_2, e1_2, rfl⟩ := DataW.trod_bool Try.underlying4 k1_2
  obtain ⟨b1_3, e1_3, rfl⟩ := DataW.trod_bool Try.underlying4 k1_3
  simp at e1_0 e1_1 e1_2 e1_3
  subst e1_0 e1_1 e1_2 e1_3
  obtain ⟨c2_0, c2_1, c2_2, c2_3, y2_0, y2_1, y2_2, y2_3, m2, rfl, rfl, rfl, k2_0, k2_1, k2_2, k2_3⟩ := open_agg4 Try.underlying54 (by kernel_rfl) (by kernel_rfl) (hval 2 54 v2 rfl rfl) h2
  obtain ⟨b2_0, e2_0, rfl, x2_0⟩ := DataW.trod_int Try.underlying51 k2_0
  obtain ⟨b2_1, e2_1, rfl, x2_1⟩ := DataW.trod_int Try.underlying51 k2_1
  obtain ⟨b2_2, e2_2, rfl, x2_2⟩ := DataW.trod_int Try.underlying51 k2_2
  obtain ⟨b2_3, e2_3, rfl, x2_3⟩ := DataW.trod_int Try.underlying52 k2_3
  simp at e2_0 e2_1 e2_2 e2_3
  subst e2_0 e2_1 e2_2 e2_3
  clear hA0 hval0
  simp only [List.append_nil] at hW'
  have reads1 : ∀ (W' : World) (sp : Nat → Bool), DataW.Trod enc Try.prog W' 0 sp true 50 (.agg #[.bool b1_0, .bool b1_1, .bool b1_2, .bool b1_3]) (.agg [.lit (.bool b1_0), .lit (.bool b1_1), .lit (.bool b1_2), .lit (.bool b1_3)]) [] := fun W' sp =>
    shut_agg4 (y0 := (.lit (.bool b1_0), [])) (y1 := (.lit (.bool b1_1), [])) (y2 := (.lit (.bool b1_2), [])) (y3 := (.lit (.bool b1_3), [])) Try.underlying50 (by kernel_rfl) (by kernel_rfl) ⟨1, by simp [DataW.trod, Try.underlying4]⟩ ⟨1, by simp [DataW.trod, Try.underlying4]⟩ ⟨1, by simp [DataW.trod, Try.underlying4]⟩ ⟨1, by simp [DataW.trod, Try.underlying4]⟩
  have reads2 : ∀ (W' : World) (sp : Nat → Bool), DataW.Trod enc Try.prog W' 0 sp true 54 (.agg #[.int .u64 b2_0, .int .u64 b2_1, .int .u64 b2_2, .int .u32 b2_3]) (.agg [.lit (.int .u64 b2_0), .lit (.int .u64 b2_1), .lit (.int .u64 b2_2), .lit (.int .u32 b2_3)]) [] := fun W' sp =>
    shut_agg4 (y0 := (.lit (.int .u64 b2_0), [])) (y1 := (.lit (.int .u64 b2_1), [])) (y2 := (.lit (.int .u64 b2_2), [])) (y3 := (.lit (.int .u32 b2_3), [])) Try.underlying54 (by kernel_rfl) (by kernel_rfl) ⟨1, by simp [DataW.trod, Try.underlying51, x2_0]⟩ ⟨1, by simp [DataW.trod, Try.underlying51, x2_1]⟩ ⟨1, by simp [DataW.trod, Try.underlying51, x2_2]⟩ ⟨1, by simp [DataW.trod, Try.underlying52, x2_3]⟩
  refine (fieldWide_walk a0 b1_0 b1_1 b1_2 b1_3 b2_0 b2_1 b2_2 b2_3 w0 x2_0 x2_1 x2_2 x2_3 W).mono fun e W' ⟨he, hg⟩ => ?_
  subst he
  exact ⟨_, rfl, _, _, _, [], _, [], hW', trodAll_mk1 (shut_bool Try.underlying4 _), (trodAll_cons_mk (shut_string Try.underlying9 w0) (trodAll_cons_mk (reads1 W' _) (trodAll_cons_mk (reads2 W' _) trodAll_mk0))), rfl, hg.frame _, fun h => by cases h⟩

theorem over : Rows.fieldWideRow.holds Try.pinned (OpenSpec.ofChange Rows.fieldWideSpec) :=
  OpenClaim.holds_of_wide 6 Try.f6 rfl rfl rfl rfl rfl rfl rfl ⟨rfl, rfl, rfl, rfl, rfl⟩ rfl rfl rfl rfl rfl (by kernel_rfl) Try.func6 (by kernel_rfl)
    (of_decide_eq_true (by kernel_rfl)) (by unfold Func.isWrapper; first | (rw [if_pos (by decide +kernel)]; kernel_rfl) | (rw [if_neg (by decide +kernel)]; exact ⟨rfl, rfl⟩))
    (fun os started H enc _ => lifted os started H enc)
end Go.Proofs.Ytmbifoockenniaa.fieldWide

namespace Go.Proofs.Ytmbifoockenniaa
theorem fieldWide_holds : Rows.FieldWideSaid := fieldWide.over
end Go.Proofs.Ytmbifoockenniaa
