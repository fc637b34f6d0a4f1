/-
  'HeaderBack' holds: for every input the call returns true, and each argument reads afterwards as it read before. No condition.
-/
import Derived.Test.YtklmfncljebgnaaRows
import Derived.Test.YtklmfncljebgnaaHeaderBackWalk
import Derived.Test.YtklmfncljebgnaaAgg9
import Derived.Test.YtklmfncljebgnaaAgg15
import Derived.Below
import Derived.ChangeOld
import Derived.WalkKit
import Derived.ProofKit
import Derived.OpenShut
import Derived.ShutString
import Derived.Lib.SmallJoins
namespace Go.Proofs.Ytklmfncljebgnaa.headerBack
open Go.ChangeShapes Go.WideShapes Go.ChangeAt Go.RowKit Go.Deep Go.Joins
open Go.ChangeMaps (open_string shut_string)
set_option linter.unusedVariables false
set_option maxRecDepth 100000

theorem own : ownKnob Try.prog.godebug = none := by kernel_rfl
theorem laidOut : laidOutB Try.prog = true := by kernel_rfl
theorem lifted (os : Os) (started : os.Started) (H : Type) (enc : TypeId × Value → H) :
    ReturnsInHanded {} Try.checked os 5 .any (Rows.headerBackSpec.pre6 enc Try.prog Try.f5 Rows.headerBackRow.domain false) (Rows.headerBackSpec.post enc Try.prog Try.f5 false true false false) := by
  refine returnsInHanded_of_change (C := Try.checked) own started (by kernel_rfl) Try.func5
    (ChangeSpec.witness6 (enc := enc) (C := Try.checked) false ⟨#[], #[.agg #[.int .u16 0, .int .u16 0, .int .u16 0, .int .u32 0, .int .u32 0, .int .u32 0, .int .u32 0, .string ⟨#[]⟩, .string ⟨#[]⟩], .agg #[.int .u16 0, .int .u16 0, .int .u16 0, .int .u16 0, .int .u32 0, .int .u32 0, .int .u32 0, .int .u32 0, .int .u16 0, .int .u16 0, .int .u32 0, .int .u32 0, .string ⟨#[]⟩, .string ⟨#[]⟩, .string ⟨#[]⟩], .agg #[.int .u32 0, .int .u64 0, .int .u64 0], .string ⟨#[]⟩, .string ⟨#[]⟩, .int .i64 0], []⟩ 8 (by kernel_rfl) (by kernel_rfl) (by kernel_rfl) (by kernel_rfl)) ?_
  intro W base args ds gs before hval0 hW hcnd _
  have hval : ∀ (j : Nat) t v, Try.f5.params[j]? = some t → args[j]? = some v → Value.okWide Try.prog W .any base t v := hval0
  have hW' := hW
  obtain ⟨p, q, hA0, hV, rfl, hfz, hnd⟩ := hW
  have hA : DataW.TrodAll enc Try.prog W 0 (fun _ => true) true Try.f5.params.toList args.toList ds p := hA0
  rw [Try.params5] at hA hval
  obtain ⟨v0, vs0, d0, ds0, p0, q0, hargs, rfl, rfl, h0, r0⟩ := trodAll_cons hA
  obtain ⟨v1, vs1, d1, ds1, p1, q1, rfl, rfl, rfl, h1, r1⟩ := trodAll_cons r0
  obtain ⟨v2, vs2, d2, ds2, p2, q2, rfl, rfl, rfl, h2, r2⟩ := trodAll_cons r1
  obtain ⟨v3, vs3, d3, ds3, p3, q3, rfl, rfl, rfl, h3, r3⟩ := trodAll_cons r2
  obtain ⟨v4, vs4, d4, ds4, p4, q4, rfl, rfl, rfl, h4, r4⟩ := trodAll_cons r3
  obtain ⟨v5, vs5, d5, ds5, p5, q5, rfl, rfl, rfl, h5, r5⟩ := trodAll_cons r4
  obtain ⟨rfl, rfl, rfl⟩ := trodAll_nil r5
  obtain rfl : args = #[v0, v1, v2, v3, v4, v5] := by cases args; simp_all
  obtain ⟨rfl, rfl⟩ := trodVars_none hV
  obtain ⟨c0_0, c0_1, c0_2, c0_3, c0_4, c0_5, c0_6, c0_7, c0_8, y0_0, y0_1, y0_2, y0_3, y0_4, y0_5, y0_6, y0_7, y0_8, m0, rfl, rfl, rfl, k0_0, k0_1, k0_2, k0_3, k0_4, k0_5, k0_6, k0_7, k0_8⟩ := open_agg9 Try.underlying26 (by kernel_rfl) (by kernel_rfl) (hval 0 26 v0 rfl rfl) h0
  obtain ⟨b0_0, e0_0, rfl, x0_0⟩ := DataW.trod_int Try.underlying23 k0_0
  obtain ⟨b0_1, e0_1, rfl, x0_1⟩ := DataW.trod_int Try.underlying23 k0_1
  obtain ⟨b0_2, e0_2, rfl, x0_2⟩ := DataW.trod_int Try.underlying23 k0_2
  obtain ⟨b0_3, e0_3, rfl, x0_3⟩ := DataW.trod_int Try.underlying24 k0_3
  obtain ⟨b0_4, e0_4, rfl, x0_4⟩ := DataW.trod_int Try.underlying24 k0_4
  obtain ⟨b0_5, e0_5, rfl, x0_5⟩ := DataW.trod_int Try.underlying24 k0_5
  obtain ⟨b0_6, e0_6, rfl, x0_6⟩ := DataW.trod_int Try.underlying24 k0_6
  obtain ⟨b0_7, e0_7, rfl, x0_7⟩ := DataW.trod_string Try.underlying9 k0_7
  obtain ⟨b0_8, e0_8, rfl, x0_8⟩ := DataW.trod_string Try.underlying9 k0_8
  simp at e0_0 e0_1 e0_2 e0_3 e0_4 e0_5 e0_6 e0_7 e0_8
  subst e0_0 e0_1 e0_2 e0_3 e0_4 e0_5 e0_6 e0_7 e0_8
  obtain ⟨c1_0, c1_1, c1_2, c1_3, c1_4, c1_5, c1_6, c1_7, c1_8, c1_9, c1_10, c1_11, c1_12, c1_13, c1_14, y1_0, y1_1, y1_2, y1_3, y1_4, y1_5, y1_6, y1_7, y1_8, y1_9, y1_10, y1_11, y1_12, y1_13, y1_14, m1, rfl, rfl, rfl, k1_0, k1_1, k1_2, k1_3, k1_4, k1_5, k1_6, k1_7, k1_8, k1_9, k1_10, k1_11, k1_12, k1_13, k1_14⟩ := open_agg15 Try.underlying40 (by kernel_rfl) (by kernel_rfl) (hval 1 40 v1 rfl rfl) h1
  obtain ⟨b1_0, e1_0, rfl, x1_0⟩ := DataW.trod_int Try.underlying23 k1_0
  obtain ⟨b1_1, e1_1, rfl, x1_1⟩ := DataW.trod_int Try.underlying23 k1_1
  obtain ⟨b1_2, e1_2, rfl, x1_2⟩ := DataW.trod_int Try.underlying23 k1_2
  obtain ⟨b1_3, e1_3, rfl, x1_3⟩ := DataW.trod_int Try.underlying23 k1_3
  obtain ⟨b1_4, e1_4, rfl, x1_4⟩ := DataW.trod_int Try.underlying24 k1_4
  obtain ⟨b1_5, e1_5, rfl, x1_5⟩ := DataW.trod_int Try.underlying24 k1_5
  obtain ⟨b1_6, e1_6, rfl, x1_6⟩ := DataW.trod_int Try.underlying24 k1_6
  obtain ⟨b1_7, e1_7, rfl, x1_7⟩ := DataW.trod_int Try.underlying24 k1_7
  obtain ⟨b1_8, e1_8, rfl, x1_8⟩ := DataW.trod_int Try.underlying23 k1_8
  obtain ⟨b1_9, e1_9, rfl, x1_9⟩ := DataW.trod_int Try.underlying23 k1_9
  obtain ⟨b1_10, e1_10, rfl, x1_10⟩ := DataW.trod_int Try.underlying24 k1_10
  obtain ⟨b1_11, e1_11, rfl, x1_11⟩ := DataW.trod_int Try.underlying24 k1_11
  obtain ⟨b1_12, e1_12, rfl, x1_12⟩ := DataW.trod_string Try.underlying9 k1_12
  obtain ⟨b1_13, e1_13, rfl, x1_13⟩ := DataW.trod_string Try.underlying9 k1_13
  obtain ⟨b1_14, e1_14, rfl, x1_14⟩ := DataW.trod_string Try.underlying9 k1_14
  simp at e1_0 e1_1 e1_2 e1_3 e1_4 e1_5 e1_6 e1_7 e1_8 e1_9 e1_10 e1_11 e1_12 e1_13 e1_14
  subst e1_0 e1_1 e1_2 e1_3 e1_4 e1_5 e1_6 e1_7 e1_8 e1_9 e1_10 e1_11 e1_12 e1_13 e1_14
  obtain ⟨c2_0, c2_1, c2_2, y2_0, y2_1, y2_2, m2, rfl, rfl, rfl, k2_0, k2_1, k2_2⟩ := open_agg3 Try.underlying45 (by kernel_rfl) (by kernel_rfl) (hval 2 45 v2 rfl rfl) h2
  obtain ⟨b2_0, e2_0, rfl, x2_0⟩ := DataW.trod_int Try.underlying24 k2_0
  obtain ⟨b2_1, e2_1, rfl, x2_1⟩ := DataW.trod_int Try.underlying36 k2_1
  obtain ⟨b2_2, e2_2, rfl, x2_2⟩ := DataW.trod_int Try.underlying36 k2_2
  simp at e2_0 e2_1 e2_2
  subst e2_0 e2_1 e2_2
  obtain ⟨a3, rfl, rfl, rfl, w3⟩ := open_string Try.underlying9 (hval 3 9 v3 rfl rfl) h3
  obtain ⟨a4, rfl, rfl, rfl, w4⟩ := open_string Try.underlying9 (hval 4 9 v4 rfl rfl) h4
  obtain ⟨a5, rfl, rfl, rfl, w5⟩ := open_int Try.underlying3 (hval 5 3 v5 rfl rfl) h5
  clear hA0 hval0
  simp only [List.append_nil] at hW'
  have reads0 : ∀ (W' : World) (sp : Nat → Bool), DataW.Trod enc Try.prog W' 0 sp true 26 (.agg #[.int .u16 b0_0, .int .u16 b0_1, .int .u16 b0_2, .int .u32 b0_3, .int .u32 b0_4, .int .u32 b0_5, .int .u32 b0_6, .string b0_7, .string b0_8]) (.agg [.lit (.int .u16 b0_0), .lit (.int .u16 b0_1), .lit (.int .u16 b0_2), .lit (.int .u32 b0_3), .lit (.int .u32 b0_4), .lit (.int .u32 b0_5), .lit (.int .u32 b0_6), .lit (.string b0_7.data.toList), .lit (.string b0_8.data.toList)]) [] := fun W' sp =>
    shut_agg9 (y0 := (.lit (.int .u16 b0_0), [])) (y1 := (.lit (.int .u16 b0_1), [])) (y2 := (.lit (.int .u16 b0_2), [])) (y3 := (.lit (.int .u32 b0_3), [])) (y4 := (.lit (.int .u32 b0_4), [])) (y5 := (.lit (.int .u32 b0_5), [])) (y6 := (.lit (.int .u32 b0_6), [])) (y7 := (.lit (.string b0_7.data.toList), [])) (y8 := (.lit (.string b0_8.data.toList), [])) Try.underlying26 (by kernel_rfl) (by kernel_rfl) ⟨1, by simp [DataW.trod, Try.underlying23, x0_0]⟩ ⟨1, by simp [DataW.trod, Try.underlying23, x0_1]⟩ ⟨1, by simp [DataW.trod, Try.underlying23, x0_2]⟩ ⟨1, by simp [DataW.trod, Try.underlying24, x0_3]⟩ ⟨1, by simp [DataW.trod, Try.underlying24, x0_4]⟩ ⟨1, by simp [DataW.trod, Try.underlying24, x0_5]⟩ ⟨1, by simp [DataW.trod, Try.underlying24, x0_6]⟩ ⟨1, by simp [DataW.trod, Try.underlying9, x0_7]⟩ ⟨1, by simp [DataW.trod, Try.underlying9, x0_8]⟩
  have reads1 : ∀ (W' : World) (sp : Nat → Bool), DataW.Trod enc Try.prog W' 0 sp true 40 (.agg #[.int .u16 b1_0, .int .u16 b1_1, .int .u16 b1_2, .int .u16 b1_3, .int .u32 b1_4, .int .u32 b1_5, .int .u32 b1_6, .int .u32 b1_7, .int .u16 b1_8, .int .u16 b1_9, .int .u32 b1_10, .int .u32 b1_11, .string b1_12, .string b1_13, .string b1_14]) (.agg [.lit (.int .u16 b1_0), .lit (.int .u16 b1_1), .lit (.int .u16 b1_2), .lit (.int .u16 b1_3), .lit (.int .u32 b1_4), .lit (.int .u32 b1_5), .lit (.int .u32 b1_6), .lit (.int .u32 b1_7), .lit (.int .u16 b1_8), .lit (.int .u16 b1_9), .lit (.int .u32 b1_10), .lit (.int .u32 b1_11), .lit (.string b1_12.data.toList), .lit (.string b1_13.data.toList), .lit (.string b1_14.data.toList)]) [] := fun W' sp =>
    shut_agg15 (y0 := (.lit (.int .u16 b1_0), [])) (y1 := (.lit (.int .u16 b1_1), [])) (y2 := (.lit (.int .u16 b1_2), [])) (y3 := (.lit (.int .u16 b1_3), [])) (y4 := (.lit (.int .u32 b1_4), [])) (y5 := (.lit (.int .u32 b1_5), [])) (y6 := (.lit (.int .u32 b1_6), [])) (y7 := (.lit (.int .u32 b1_7), [])) (y8 := (.lit (.int .u16 b1_8), [])) (y9 := (.lit (.int .u16 b1_9), [])) (y10 := (.lit (.int .u32 b1_10), [])) (y11 := (.lit (.int .u32 b1_11), [])) (y12 := (.lit (.string b1_12.data.toList), [])) (y13 := (.lit (.string b1_13.data.toList), [])) (y14 := (.lit (.string b1_14.data.toList), [])) Try.underlying40 (by kernel_rfl) (by kernel_rfl) ⟨1, by simp [DataW.trod, Try.underlying23, x1_0]⟩ ⟨1, by simp [DataW.trod, Try.underlying23, x1_1]⟩ ⟨1, by simp [DataW.trod, Try.underlying23, x1_2]⟩ ⟨1, by simp [DataW.trod, Try.underlying23, x1_3]⟩ ⟨1, by simp [DataW.trod, Try.underlying24, x1_4]⟩ ⟨1, by simp [DataW.trod, Try.underlying24, x1_5]⟩ ⟨1, by simp [DataW.trod, Try.underlying24, x1_6]⟩ ⟨1, by simp [DataW.trod, Try.underlying24, x1_7]⟩ ⟨1, by simp [DataW.trod, Try.underlying23, x1_8]⟩ ⟨1, by simp [DataW.trod, Try.underlying23, x1_9]⟩ ⟨1, by simp [DataW.trod, Try.underlying24, x1_10]⟩ ⟨1, by simp [DataW.trod, Try.underlying24, x1_11]⟩ ⟨1, by simp [DataW.trod, Try.underlying9, x1_12]⟩ ⟨1, by simp [DataW.trod, Try.underlying9, x1_13]⟩ ⟨1, by simp [DataW.trod, Try.underlying9, x1_14]⟩
  have reads2 : ∀ (W' : World) (sp : Nat → Bool), DataW.Trod enc Try.prog W' 0 sp true 45 (.agg #[.int .u32 b2_0, .int .u64 b2_1, .int .u64 b2_2]) (.agg [.lit (.int .u32 b2_0), .lit (.int .u64 b2_1), .lit (.int .u64 b2_2)]) [] := fun W' sp =>
    shut_agg3 (y0 := (.lit (.int .u32 b2_0), [])) (y1 := (.lit (.int .u64 b2_1), [])) (y2 := (.lit (.int .u64 b2_2), [])) Try.underlying45 (by kernel_rfl) (by kernel_rfl) ⟨1, by simp [DataW.trod, Try.underlying24, x2_0]⟩ ⟨1, by simp [DataW.trod, Try.underlying36, x2_1]⟩ ⟨1, by simp [DataW.trod, Try.underlying36, x2_2]⟩
  refine (headerBack_walk b0_0 b0_1 b0_2 b0_3 b0_4 b0_5 b0_6 b0_7 b0_8 b1_0 b1_1 b1_2 b1_3 b1_4 b1_5 b1_6 b1_7 b1_8 b1_9 b1_10 b1_11 b1_12 b1_13 b1_14 b2_0 b2_1 b2_2 a3 a4 a5 x0_0 x0_1 x0_2 x0_3 x0_4 x0_5 x0_6 x0_7 x0_8 x1_0 x1_1 x1_2 x1_3 x1_4 x1_5 x1_6 x1_7 x1_8 x1_9 x1_10 x1_11 x1_12 x1_13 x1_14 x2_0 x2_1 x2_2 w3 w4 w5 W).mono fun e W' ⟨he, hg⟩ => ?_
  subst he
  exact ⟨_, rfl, _, _, _, [], _, [], hW', trodAll_mk1 (shut_bool Try.underlying4 _), (trodAll_cons_mk (reads0 W' _) (trodAll_cons_mk (reads1 W' _) (trodAll_cons_mk (reads2 W' _) (trodAll_cons_mk (shut_string Try.underlying9 w3) (trodAll_cons_mk (shut_string Try.underlying9 w4) (trodAll_cons_mk (shut_int Try.underlying3 w5) trodAll_mk0)))))), rfl, hg.frame _, fun h => by cases h⟩

theorem over : Rows.headerBackRow.holds Try.pinned (OpenSpec.ofChange Rows.headerBackSpec) :=
  OpenClaim.holds_of_wide 5 Try.f5 rfl rfl rfl rfl rfl rfl rfl ⟨rfl, rfl, rfl, rfl, rfl⟩ rfl rfl rfl rfl rfl (by kernel_rfl) Try.func5 (by kernel_rfl)
    (of_decide_eq_true (by kernel_rfl)) (by unfold Func.isWrapper; first | (rw [if_pos (by decide +kernel)]; kernel_rfl) | (rw [if_neg (by decide +kernel)]; exact ⟨rfl, rfl⟩))
    (fun os started H enc _ => lifted os started H enc)
end Go.Proofs.Ytklmfncljebgnaa.headerBack

namespace Go.Proofs.Ytklmfncljebgnaa
theorem headerBack_holds : Rows.HeaderBackSaid := headerBack.over
end Go.Proofs.Ytklmfncljebgnaa
