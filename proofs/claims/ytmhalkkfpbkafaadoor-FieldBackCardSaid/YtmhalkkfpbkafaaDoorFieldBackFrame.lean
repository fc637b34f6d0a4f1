/-
  'FieldBack' holds: for every input the call returns true, and each argument reads afterwards as it read before. The library's tables that it reads are tied to the program's text. No condition.
-/
import Derived.Test.YtmhalkkfpbkafaaDoorRows
import Derived.Test.YtmhalkkfpbkafaaDoorFieldBackWalk
import Derived.Test.YtmhalkkfpbkafaaDoorPDoor
import Derived.Test.YtmhalkkfpbkafaaDoorTie
import Derived.Test.YtmhalkkfpbkafaaDoorCards
import Derived.Below
import Derived.SevenTiedAt
import Derived.ChangeOld
import Derived.WalkKit
import Derived.ProofKit
import Derived.OpenShut
import Derived.ShutString
import Derived.Lib.SmallJoins
namespace Go.Proofs.YtmhalkkfpbkafaaDoor.fieldBack
open Go.ChangeShapes Go.WideShapes Go.ChangeAt Go.RowKit Go.Deep Go.Joins
open Go.ChangeMaps (open_string shut_string)
set_option linter.unusedVariables false
set_option maxRecDepth 100000

theorem lifted (os : Os) (started : os.Started) (H : Type) (enc : TypeId × Value → H) :
    ReturnsInHanded {} Tryd.checked os 7 .any (fun w args => (Rows.fieldBackSpec.pre enc Tryd.prog Tryd.f7 [] false w args ∧ laidMetH Tryd.prog tabsP w) ∧ sizedMet enc Tryd.prog Tryd.f7 (OpenSpec.ofChange Rows.fieldBackSpec) false w args) (Rows.fieldBackSpec.post enc Tryd.prog Tryd.f7 false true false false) := by
  refine returns_door (C := Tryd.checked) (X := fun w => laidMetH Tryd.prog tabsP w) (fun _ _ hh h => h.of_heap hh) door_own started (by kernel_rfl) Tryd.func7
    (ChangeSpec.witness_shaped (enc := enc) (C := Tryd.checked) (os := os) (X := fun w _ => laidMetH Tryd.prog tabsP w) false (doorW os) #[.agg #[.int .u64 0, .int .u64 0, .int .u64 0, .int .u32 0], .agg #[.int .u8 0, .int .i32 0, .int .i32 0, .int .i32 0], .int .u32 0, .int .u32 0, .string ⟨#[]⟩, .string ⟨#[]⟩] 8 rfl (World.shaped_of_RefB (by kernel_rfl) (by kernel_rfl)) (by kernel_rfl) (by kernel_rfl) (by kernel_rfl) (door_metP os _)) ?_
  intro W base args ds gs before hval0 hW hL hsh
  have hval : ∀ (j : Nat) t v, Tryd.f7.params[j]? = some t → args[j]? = some v → Value.okWide Tryd.prog W .any base t v := hval0
  have hW' := hW
  obtain ⟨p, q, hA0, hV, rfl, hfz, hnd⟩ := hW
  have hA : DataW.TrodAll enc Tryd.prog W 0 (fun _ => true) true Tryd.f7.params.toList args.toList ds p := hA0
  rw [Tryd.params7] at hA hval
  obtain ⟨v0, vs0, d0, ds0, p0, q0, hargs, rfl, rfl, h0, r0⟩ := trodAll_cons hA
  obtain ⟨v1, vs1, d1, ds1, p1, q1, rfl, rfl, rfl, h1, r1⟩ := trodAll_cons r0
  obtain ⟨v2, vs2, d2, ds2, p2, q2, rfl, rfl, rfl, h2, r2⟩ := trodAll_cons r1
  obtain ⟨v3, vs3, d3, ds3, p3, q3, rfl, rfl, rfl, h3, r3⟩ := trodAll_cons r2
  obtain ⟨v4, vs4, d4, ds4, p4, q4, rfl, rfl, rfl, h4, r4⟩ := trodAll_cons r3
  obtain ⟨v5, vs5, d5, ds5, p5, q5, rfl, rfl, rfl, h5, r5⟩ := trodAll_cons r4
  obtain ⟨rfl, rfl, rfl⟩ := trodAll_nil r5
  obtain rfl : args = #[v0, v1, v2, v3, v4, v5] := by cases args; simp_all
  obtain ⟨rfl, rfl⟩ := trodVars_none hV
  obtain ⟨c0_0, c0_1, c0_2, c0_3, y0_0, y0_1, y0_2, y0_3, m0, rfl, rfl, rfl, k0_0, k0_1, k0_2, k0_3⟩ := open_agg4 Tryd.underlying51 (by kernel_rfl) (by kernel_rfl) (hval 0 51 v0 rfl rfl) h0
  obtain ⟨b0_0, e0_0, rfl, x0_0⟩ := DataW.trod_int Tryd.underlying48 k0_0
  obtain ⟨b0_1, e0_1, rfl, x0_1⟩ := DataW.trod_int Tryd.underlying48 k0_1
  obtain ⟨b0_2, e0_2, rfl, x0_2⟩ := DataW.trod_int Tryd.underlying48 k0_2
  obtain ⟨b0_3, e0_3, rfl, x0_3⟩ := DataW.trod_int Tryd.underlying49 k0_3
  simp at e0_0 e0_1 e0_2 e0_3
  subst e0_0 e0_1 e0_2 e0_3
  obtain ⟨c1_0, c1_1, c1_2, c1_3, y1_0, y1_1, y1_2, y1_3, m1, rfl, rfl, rfl, k1_0, k1_1, k1_2, k1_3⟩ := open_agg4 Tryd.underlying53 (by kernel_rfl) (by kernel_rfl) (hval 1 53 v1 rfl rfl) h1
  obtain ⟨b1_0, e1_0, rfl, x1_0⟩ := DataW.trod_int Tryd.underlying5 k1_0
  obtain ⟨b1_1, e1_1, rfl, x1_1⟩ := DataW.trod_int Tryd.underlying21 k1_1
  obtain ⟨b1_2, e1_2, rfl, x1_2⟩ := DataW.trod_int Tryd.underlying21 k1_2
  obtain ⟨b1_3, e1_3, rfl, x1_3⟩ := DataW.trod_int Tryd.underlying21 k1_3
  simp at e1_0 e1_1 e1_2 e1_3
  subst e1_0 e1_1 e1_2 e1_3
  obtain ⟨a2, rfl, rfl, rfl, w2⟩ := open_int Tryd.underlying49 (hval 2 49 v2 rfl rfl) h2
  obtain ⟨a3, rfl, rfl, rfl, w3⟩ := open_int Tryd.underlying49 (hval 3 49 v3 rfl rfl) h3
  obtain ⟨a4, rfl, rfl, rfl, w4⟩ := open_string Tryd.underlying9 (hval 4 9 v4 rfl rfl) h4
  obtain ⟨a5, rfl, rfl, rfl, w5⟩ := open_string Tryd.underlying9 (hval 5 9 v5 rfl rfl) h5
  clear hA0 hval0
  simp only [List.append_nil] at hW'
  have reads0 : ∀ (W' : World) (sp : Nat → Bool), DataW.Trod enc Tryd.prog W' 0 sp true 51 (.agg #[.int .u64 b0_0, .int .u64 b0_1, .int .u64 b0_2, .int .u32 b0_3]) (.agg [.lit (.int .u64 b0_0), .lit (.int .u64 b0_1), .lit (.int .u64 b0_2), .lit (.int .u32 b0_3)]) [] := fun W' sp =>
    shut_agg4 (y0 := (.lit (.int .u64 b0_0), [])) (y1 := (.lit (.int .u64 b0_1), [])) (y2 := (.lit (.int .u64 b0_2), [])) (y3 := (.lit (.int .u32 b0_3), [])) Tryd.underlying51 (by kernel_rfl) (by kernel_rfl) ⟨1, by simp [DataW.trod, Tryd.underlying48, x0_0]⟩ ⟨1, by simp [DataW.trod, Tryd.underlying48, x0_1]⟩ ⟨1, by simp [DataW.trod, Tryd.underlying48, x0_2]⟩ ⟨1, by simp [DataW.trod, Tryd.underlying49, x0_3]⟩
  have reads1 : ∀ (W' : World) (sp : Nat → Bool), DataW.Trod enc Tryd.prog W' 0 sp true 53 (.agg #[.int .u8 b1_0, .int .i32 b1_1, .int .i32 b1_2, .int .i32 b1_3]) (.agg [.lit (.int .u8 b1_0), .lit (.int .i32 b1_1), .lit (.int .i32 b1_2), .lit (.int .i32 b1_3)]) [] := fun W' sp =>
    shut_agg4 (y0 := (.lit (.int .u8 b1_0), [])) (y1 := (.lit (.int .i32 b1_1), [])) (y2 := (.lit (.int .i32 b1_2), [])) (y3 := (.lit (.int .i32 b1_3), [])) Tryd.underlying53 (by kernel_rfl) (by kernel_rfl) ⟨1, by simp [DataW.trod, Tryd.underlying5, x1_0]⟩ ⟨1, by simp [DataW.trod, Tryd.underlying21, x1_1]⟩ ⟨1, by simp [DataW.trod, Tryd.underlying21, x1_2]⟩ ⟨1, by simp [DataW.trod, Tryd.underlying21, x1_3]⟩
  refine (fieldBack_walk b0_0 b0_1 b0_2 b0_3 b1_0 b1_1 b1_2 b1_3 a2 a3 a4 a5 x0_0 x0_1 x0_2 x0_3 x1_0 x1_1 x1_2 x1_3 w2 w3 w4 w5 W ).mono fun e W' ⟨he, hg⟩ => ?_
  subst he
  exact ⟨_, rfl, _, _, _, [], _, [], hW', trodAll_mk1 (shut_bool Tryd.underlying4 _), (trodAll_cons_mk (reads0 W' _) (trodAll_cons_mk (reads1 W' _) (trodAll_cons_mk (shut_int Tryd.underlying49 w2) (trodAll_cons_mk (shut_int Tryd.underlying49 w3) (trodAll_cons_mk (shut_string Tryd.underlying9 w4) (trodAll_cons_mk (shut_string Tryd.underlying9 w5) trodAll_mk0)))))), rfl, hg.frame _, fun h => by cases h⟩

theorem over : Rows.fieldBackRow.holds Tryd.pinned (OpenSpec.ofChange Rows.fieldBackSpec) :=
  OpenClaim.holds_of_wide 7 Tryd.f7 rfl rfl rfl rfl rfl rfl rfl ⟨rfl, rfl, rfl, rfl, rfl⟩ rfl rfl rfl rfl rfl (by kernel_rfl) Tryd.func7 (by kernel_rfl)
    (of_decide_eq_true (by kernel_rfl)) (by unfold Func.isWrapper; first | (rw [if_pos (by decide +kernel)]; kernel_rfl) | (rw [if_neg (by decide +kernel)]; exact ⟨rfl, rfl⟩))
    (fun os started H enc _ => lifted os started H enc)
theorem fieldBack_tied : Rows.FieldBackCardSaid :=
  Claim7.holds_tied_plain_at .later [] [.data] true (true, "144a46fd5c6fa99155db4d89c39d5305462f58e3cd753756dd86c7678aad2235") false
    over (fun _ h => by cases h) (by kernel_rfl) (fun _ h => by cases h) fieldBack_row_tie rfl ⟨rfl, rfl⟩ (by kernel_rfl) rfl
    (fun f fn hf hfn => by
      obtain rfl : f = 7 := Option.some.inj ((show Tryd.prog.funcNamed Rows.fieldBackRow.func = some 7 by kernel_rfl).symm.trans hf) |>.symm
      obtain rfl : fn = Tryd.f7 := (Option.some.inj (Tryd.func7.symm.trans hfn)).symm
      exact ⟨by kernel_rfl, fun j t ht => by
        rw [Tryd.params7] at ht
        have hall : (#[51, 53, 49, 49, 9, 9] : Array TypeId).toList.all (fun t => Tryd.prog.wantsStandIn t == false) = true := by kernel_rfl
        have hm : t ∈ (#[51, 53, 49, 49, 9, 9] : Array TypeId).toList := by
          rw [← Array.getElem?_toList] at ht
          exact List.mem_of_getElem? ht
        exact beq_iff_eq.1 (List.all_eq_true.1 hall t hm)⟩)
    (by kernel_rfl)
end Go.Proofs.YtmhalkkfpbkafaaDoor.fieldBack

namespace Go.Proofs.YtmhalkkfpbkafaaDoor
theorem fieldBack_holds : Rows.FieldBackCardSaid := fieldBack.fieldBack_tied
end Go.Proofs.YtmhalkkfpbkafaaDoor
