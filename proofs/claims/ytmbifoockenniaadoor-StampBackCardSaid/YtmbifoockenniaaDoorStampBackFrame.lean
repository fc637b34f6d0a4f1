/-
  'StampBack' holds: for every input the call returns true, and each argument reads afterwards as it read before. The library's tables that it reads are tied to the program's text. No condition.
-/
import Derived.Test.YtmbifoockenniaaDoorRows
import Derived.Test.YtmbifoockenniaaDoorStampBackWalk
import Derived.Test.YtmbifoockenniaaDoorAgg6
import Derived.Test.YtmbifoockenniaaDoorSDoor
import Derived.Test.YtmbifoockenniaaDoorTie
import Derived.Test.YtmbifoockenniaaDoorCards
import Derived.Below
import Derived.SevenTiedAt
import Derived.ChangeOld
import Derived.WalkKit
import Derived.ProofKit
import Derived.OpenShut
import Derived.ShutString
import Derived.Lib.SmallJoins
namespace Go.Proofs.YtmbifoockenniaaDoor.stampBack
open Go.ChangeShapes Go.WideShapes Go.ChangeAt Go.RowKit Go.Deep Go.Joins
open Go.ChangeMaps (open_string shut_string)
set_option linter.unusedVariables false
set_option maxRecDepth 100000

theorem lifted (os : Os) (started : os.Started) (H : Type) (enc : TypeId × Value → H) :
    ReturnsInHanded {} Tryd.checked os 5 .any (fun w args => (Rows.stampBackSpec.pre enc Tryd.prog Tryd.f5 [] false w args ∧ laidMetH Tryd.prog tabsS w) ∧ sizedMet enc Tryd.prog Tryd.f5 (OpenSpec.ofChange Rows.stampBackSpec) false w args) (Rows.stampBackSpec.post enc Tryd.prog Tryd.f5 false true false false) := by
  refine returns_door (C := Tryd.checked) (X := fun w => laidMetH Tryd.prog tabsS w) (fun _ _ hh h => h.of_heap hh) door_own started (by kernel_rfl) Tryd.func5
    (ChangeSpec.witness_shaped (enc := enc) (C := Tryd.checked) (os := os) (X := fun w _ => laidMetH Tryd.prog tabsS w) false (doorW os) #[.int .i64 0, .agg #[.int .i64 0, .int .i64 0, .int .i64 0, .int .i64 0, .int .i64 0, .int .i64 0], .int .u32 0] 8 rfl (World.shaped_of_RefB (by kernel_rfl) (by kernel_rfl)) (by kernel_rfl) (by kernel_rfl) (by kernel_rfl) (door_metS os _)) ?_
  intro W base args ds gs before hval0 hW hL hsh
  have hval : ∀ (j : Nat) t v, Tryd.f5.params[j]? = some t → args[j]? = some v → Value.okWide Tryd.prog W .any base t v := hval0
  have hW' := hW
  obtain ⟨p, q, hA0, hV, rfl, hfz, hnd⟩ := hW
  have hA : DataW.TrodAll enc Tryd.prog W 0 (fun _ => true) true Tryd.f5.params.toList args.toList ds p := hA0
  rw [Tryd.params5] at hA hval
  obtain ⟨v0, vs0, d0, ds0, p0, q0, hargs, rfl, rfl, h0, r0⟩ := trodAll_cons hA
  obtain ⟨v1, vs1, d1, ds1, p1, q1, rfl, rfl, rfl, h1, r1⟩ := trodAll_cons r0
  obtain ⟨v2, vs2, d2, ds2, p2, q2, rfl, rfl, rfl, h2, r2⟩ := trodAll_cons r1
  obtain ⟨rfl, rfl, rfl⟩ := trodAll_nil r2
  obtain rfl : args = #[v0, v1, v2] := by cases args; simp_all
  obtain ⟨rfl, rfl⟩ := trodVars_none hV
  obtain ⟨a0, rfl, rfl, rfl, w0⟩ := open_int Tryd.underlying2 (hval 0 2 v0 rfl rfl) h0
  obtain ⟨c1_0, c1_1, c1_2, c1_3, c1_4, c1_5, y1_0, y1_1, y1_2, y1_3, y1_4, y1_5, m1, rfl, rfl, rfl, k1_0, k1_1, k1_2, k1_3, k1_4, k1_5⟩ := open_agg6 Tryd.underlying23 (by kernel_rfl) (by kernel_rfl) (hval 1 23 v1 rfl rfl) h1
  obtain ⟨b1_0, e1_0, rfl, x1_0⟩ := DataW.trod_int Tryd.underlying3 k1_0
  obtain ⟨b1_1, e1_1, rfl, x1_1⟩ := DataW.trod_int Tryd.underlying3 k1_1
  obtain ⟨b1_2, e1_2, rfl, x1_2⟩ := DataW.trod_int Tryd.underlying3 k1_2
  obtain ⟨b1_3, e1_3, rfl, x1_3⟩ := DataW.trod_int Tryd.underlying3 k1_3
  obtain ⟨b1_4, e1_4, rfl, x1_4⟩ := DataW.trod_int Tryd.underlying3 k1_4
  obtain ⟨b1_5, e1_5, rfl, x1_5⟩ := DataW.trod_int Tryd.underlying3 k1_5
  simp at e1_0 e1_1 e1_2 e1_3 e1_4 e1_5
  subst e1_0 e1_1 e1_2 e1_3 e1_4 e1_5
  obtain ⟨a2, rfl, rfl, rfl, w2⟩ := open_int Tryd.underlying36 (hval 2 36 v2 rfl rfl) h2
  clear hA0 hval0
  simp only [List.append_nil] at hW'
  have reads1 : ∀ (W' : World) (sp : Nat → Bool), DataW.Trod enc Tryd.prog W' 0 sp true 23 (.agg #[.int .i64 b1_0, .int .i64 b1_1, .int .i64 b1_2, .int .i64 b1_3, .int .i64 b1_4, .int .i64 b1_5]) (.agg [.lit (.int .i64 b1_0), .lit (.int .i64 b1_1), .lit (.int .i64 b1_2), .lit (.int .i64 b1_3), .lit (.int .i64 b1_4), .lit (.int .i64 b1_5)]) [] := fun W' sp =>
    shut_agg6 (y0 := (.lit (.int .i64 b1_0), [])) (y1 := (.lit (.int .i64 b1_1), [])) (y2 := (.lit (.int .i64 b1_2), [])) (y3 := (.lit (.int .i64 b1_3), [])) (y4 := (.lit (.int .i64 b1_4), [])) (y5 := (.lit (.int .i64 b1_5), [])) Tryd.underlying23 (by kernel_rfl) (by kernel_rfl) ⟨1, by simp [DataW.trod, Tryd.underlying3, x1_0]⟩ ⟨1, by simp [DataW.trod, Tryd.underlying3, x1_1]⟩ ⟨1, by simp [DataW.trod, Tryd.underlying3, x1_2]⟩ ⟨1, by simp [DataW.trod, Tryd.underlying3, x1_3]⟩ ⟨1, by simp [DataW.trod, Tryd.underlying3, x1_4]⟩ ⟨1, by simp [DataW.trod, Tryd.underlying3, x1_5]⟩
  refine (stampBack_walk a0 b1_0 b1_1 b1_2 b1_3 b1_4 b1_5 a2 w0 x1_0 x1_1 x1_2 x1_3 x1_4 x1_5 w2 W (pow_of hL)).mono fun e W' ⟨he, hg⟩ => ?_
  subst he
  exact ⟨_, rfl, _, _, _, [], _, [], hW', trodAll_mk1 (shut_bool Tryd.underlying4 _), (trodAll_cons_mk (shut_int Tryd.underlying2 w0) (trodAll_cons_mk (reads1 W' _) (trodAll_cons_mk (shut_int Tryd.underlying36 w2) trodAll_mk0))), rfl, hg.frame _, fun h => by cases h⟩

theorem over : Rows.stampBackRow.holds Tryd.pinned (OpenSpec.ofChange Rows.stampBackSpec) :=
  OpenClaim.holds_of_wide 5 Tryd.f5 rfl rfl rfl rfl rfl rfl rfl ⟨rfl, rfl, rfl, rfl, rfl⟩ rfl rfl rfl rfl rfl (by kernel_rfl) Tryd.func5 (by kernel_rfl)
    (of_decide_eq_true (by kernel_rfl)) (by unfold Func.isWrapper; first | (rw [if_pos (by decide +kernel)]; kernel_rfl) | (rw [if_neg (by decide +kernel)]; exact ⟨rfl, rfl⟩))
    (fun os started H enc _ => lifted os started H enc)
theorem stampBack_tied : Rows.StampBackCardSaid :=
  Claim7.holds_tied_plain_at .later [] [.data, .data, .data] true (true, "7ca1e0ea985be700aa86db1d4b198eeb81b7570d4e78ffc9b0a0d1b9a3032e53") false
    over (fun _ h => by cases h) (by kernel_rfl) (fun _ h => by cases h) stampBack_row_tie rfl ⟨rfl, rfl⟩ (by kernel_rfl) rfl
    (fun f fn hf hfn => by
      obtain rfl : f = 5 := Option.some.inj ((show Tryd.prog.funcNamed Rows.stampBackRow.func = some 5 by kernel_rfl).symm.trans hf) |>.symm
      obtain rfl : fn = Tryd.f5 := (Option.some.inj (Tryd.func5.symm.trans hfn)).symm
      exact ⟨by kernel_rfl, fun j t ht => by
        rw [Tryd.params5] at ht
        have hall : (#[2, 23, 36] : Array TypeId).toList.all (fun t => Tryd.prog.wantsStandIn t == false) = true := by kernel_rfl
        have hm : t ∈ (#[2, 23, 36] : Array TypeId).toList := by
          rw [← Array.getElem?_toList] at ht
          exact List.mem_of_getElem? ht
        exact beq_iff_eq.1 (List.all_eq_true.1 hall t hm)⟩)
    (by kernel_rfl)
end Go.Proofs.YtmbifoockenniaaDoor.stampBack

namespace Go.Proofs.YtmbifoockenniaaDoor
theorem stampBack_holds : Rows.StampBackCardSaid := stampBack.stampBack_tied
end Go.Proofs.YtmbifoockenniaaDoor
