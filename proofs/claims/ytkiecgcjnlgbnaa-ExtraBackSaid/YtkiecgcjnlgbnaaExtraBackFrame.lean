/-
  'ExtraBack' holds: for every input the call returns true, and each argument reads afterwards as it read before. No condition.
-/
import Derived.Test.YtkiecgcjnlgbnaaRows
import Derived.Test.YtkiecgcjnlgbnaaExtraBackWalk
import Derived.Below
import Derived.ChangeOld
import Derived.WalkKit
import Derived.ProofKit
import Derived.OpenShut
import Derived.ShutString
import Derived.Lib.SmallJoins
namespace Go.Proofs.Ytkiecgcjnlgbnaa.extraBack
open Go.ChangeShapes Go.WideShapes Go.ChangeAt Go.RowKit Go.Deep Go.Joins
open Go.ChangeMaps (open_string shut_string)
set_option linter.unusedVariables false
set_option maxRecDepth 100000

theorem own : ownKnob Try.prog.godebug = none := by kernel_rfl
theorem laidOut : laidOutB Try.prog = true := by kernel_rfl
theorem lifted (os : Os) (started : os.Started) (H : Type) (enc : TypeId × Value → H) :
    ReturnsInHanded {} Try.checked os 5 .any (Rows.extraBackSpec.pre6 enc Try.prog Try.f5 Rows.extraBackRow.domain false) (Rows.extraBackSpec.post enc Try.prog Try.f5 false true false false) := by
  refine returnsInHanded_of_change (C := Try.checked) own started (by kernel_rfl) Try.func5
    (ChangeSpec.witness6 (enc := enc) (C := Try.checked) false ⟨#[], #[.string ⟨#[]⟩, .slice none 0 0, .agg #[.int .u16 0, .string ⟨#[]⟩]], []⟩ 8 (by kernel_rfl) (by kernel_rfl) (by kernel_rfl) (by kernel_rfl)) ?_
  intro W base args ds gs before hval0 hW hcnd _
  have hval : ∀ (j : Nat) t v, Try.f5.params[j]? = some t → args[j]? = some v → Value.okWide Try.prog W .any base t v := hval0
  have hW' := hW
  obtain ⟨p, q, hA0, hV, rfl, hfz, hnd⟩ := hW
  have hA : DataW.TrodAll enc Try.prog W 0 (fun _ => true) true Try.f5.params.toList args.toList ds p := hA0
  rw [Try.params5] at hA hval
  obtain ⟨v0, vs0, d0, ds0, p0, q0, hargs, rfl, rfl, h0, r0⟩ := trodAll_cons hA
  obtain ⟨v1, vs1, d1, ds1, p1, q1, rfl, rfl, rfl, h1, r1⟩ := trodAll_cons r0
  obtain ⟨v2, vs2, d2, ds2, p2, q2, rfl, rfl, rfl, h2, r2⟩ := trodAll_cons r1
  obtain ⟨rfl, rfl, rfl⟩ := trodAll_nil r2
  obtain rfl : args = #[v0, v1, v2] := by cases args; simp_all
  obtain ⟨rfl, rfl⟩ := trodVars_none hV
  obtain ⟨a0, rfl, rfl, rfl, w0⟩ := open_string Try.underlying9 (hval 0 9 v0 rfl rfl) h0
  obtain ⟨a1, len1, cap1, rfl⟩ := okWide_slice Try.underlying22 (hval 1 22 v1 rfl rfl)
  have k1 := h1
  have lt1 : ∀ x ∈ p1, x.block < W.heap.size := by obtain ⟨m, hm⟩ := k1; exact DataW.trod_lt m _ _ _ hm
  obtain ⟨fu1, hf1⟩ := h1
  obtain ⟨l1, rfl, hp1, ho1, hn1, hc1⟩ := fds_row (by simpa [Value.cells] using hf1)
  obtain ⟨c2_0, c2_1, y2_0, y2_1, m2, rfl, rfl, rfl, k2_0, k2_1⟩ := open_agg2 Try.underlying38 (by kernel_rfl) (by kernel_rfl) (hval 2 38 v2 rfl rfl) h2
  obtain ⟨b2_0, e2_0, rfl, x2_0⟩ := DataW.trod_int Try.underlying36 k2_0
  obtain ⟨b2_1, e2_1, rfl, x2_1⟩ := DataW.trod_string Try.underlying9 k2_1
  simp at e2_0 e2_1
  subst e2_0 e2_1
  clear hA0 hval0
  have reads2 : ∀ (W' : World) (sp : Nat → Bool), DataW.Trod enc Try.prog W' 0 sp true 38 (.agg #[.int .u16 b2_0, .string b2_1]) (.agg [.lit (.int .u16 b2_0), .lit (.string b2_1.data.toList)]) [] := fun W' sp =>
    shut_agg2 (y0 := (.lit (.int .u16 b2_0), [])) (y1 := (.lit (.string b2_1.data.toList), [])) Try.underlying38 (by kernel_rfl) (by kernel_rfl) ⟨1, by simp [DataW.trod, Try.underlying36, x2_0]⟩ ⟨1, by simp [DataW.trod, Try.underlying9, x2_1]⟩
  refine (extraBack_walk a0 a1 cap1 l1 b2_0 b2_1 w0 x2_0 x2_1 W hp1 ho1 hn1 hc1).mono fun e W' ⟨he, hg⟩ => ?_
  subst he
  exact ⟨_, rfl, _, _, _, [], _, [], hW', trodAll_mk1 (shut_bool Try.underlying4 _), (trodAll_cons_mk (shut_string Try.underlying9 w0) (trodAll_cons_mk (Below.trod laidOut (by kernel_rfl) (of_decide_eq_true (by kernel_rfl)) k1 hg lt1) (trodAll_cons_mk (reads2 W' _) trodAll_mk0))), rfl, hg.frame _, fun h => by cases h⟩

theorem over : Rows.extraBackRow.holds Try.pinned (OpenSpec.ofChange Rows.extraBackSpec) :=
  OpenClaim.holds_of_wide 5 Try.f5 rfl rfl rfl rfl rfl rfl rfl ⟨rfl, rfl, rfl, rfl, rfl⟩ rfl rfl rfl rfl rfl (by kernel_rfl) Try.func5 (by kernel_rfl)
    (of_decide_eq_true (by kernel_rfl)) (by unfold Func.isWrapper; first | (rw [if_pos (by decide +kernel)]; kernel_rfl) | (rw [if_neg (by decide +kernel)]; exact ⟨rfl, rfl⟩))
    (fun os started H enc _ => lifted os started H enc)
end Go.Proofs.Ytkiecgcjnlgbnaa.extraBack

namespace Go.Proofs.Ytkiecgcjnlgbnaa
theorem extraBack_holds : Rows.ExtraBackSaid := extraBack.over
end Go.Proofs.Ytkiecgcjnlgbnaa
