/-
  'TreePuts' holds: for every input the call returns true, and each argument reads afterwards as it read before. The library's tables that it reads are tied to the program's text. No condition.
-/
import Derived.Test.YtpkhpaklhfomkaaDoorRows
import Derived.Test.YtpkhpaklhfomkaaDoorPkC
import Derived.Test.YtpkhpaklhfomkaaDoorAgg7
import Derived.Test.YtpkhpaklhfomkaaDoorTDoor
import Derived.Test.YtpkhpaklhfomkaaDoorTie
import Derived.Test.YtpkhpaklhfomkaaDoorCards
import Derived.Below
import Derived.SevenTiedAt
import Derived.ChangeOld
import Derived.WalkKit
import Derived.ProofKit
import Derived.OpenShut
import Derived.ShutString
import Derived.Lib.SmallJoins
namespace Go.Proofs.YtpkhpaklhfomkaaDoor.treePuts
open Go.ChangeShapes Go.WideShapes Go.ChangeAt Go.RowKit Go.Deep Go.Joins
open Go.ChangeMaps (open_string shut_string)
set_option linter.unusedVariables false
set_option maxRecDepth 100000

theorem laidOut : laidOutB Tryd.prog = true := by kernel_rfl
theorem lifted (os : Os) (started : os.Started) (H : Type) (enc : TypeId × Value → H) :
    ReturnsInHanded {} Tryd.checked os 3 .any (fun w args => (Rows.treePutsSpec.pre enc Tryd.prog Tryd.f3 [] false w args ∧ laidMetH Tryd.prog tabsT w) ∧ sizedMet enc Tryd.prog Tryd.f3 (OpenSpec.ofChange Rows.treePutsSpec) false w args) (Rows.treePutsSpec.post enc Tryd.prog Tryd.f3 false true false false) := by
  refine returns_door (C := Tryd.checked) (X := fun w => laidMetH Tryd.prog tabsT w) (fun _ _ hh h => h.of_heap hh) door_own started (by kernel_rfl) Tryd.func3
    (ChangeSpec.witness_shaped (enc := enc) (C := Tryd.checked) (os := os) (X := fun w _ => laidMetH Tryd.prog tabsT w) false (doorW os) #[.slice none 0 0, .string ⟨#[]⟩, .agg #[.int .i64 0, .int .u32 0, .int .u32 0, .int .u32 0, .int .i64 0, .int .i64 0, .string ⟨#[]⟩]] 8 rfl (World.shaped_of_RefB (by kernel_rfl) (by kernel_rfl)) (by kernel_rfl) (by kernel_rfl) (by kernel_rfl) (door_metT os _)) ?_
  intro W base args ds gs before hval0 hW hL hsh
  have hval : ∀ (j : Nat) t v, Tryd.f3.params[j]? = some t → args[j]? = some v → Value.okWide Tryd.prog W .any base t v := hval0
  have hW' := hW
  obtain ⟨p, q, hA0, hV, rfl, hfz, hnd⟩ := hW
  have hA : DataW.TrodAll enc Tryd.prog W 0 (fun _ => true) true Tryd.f3.params.toList args.toList ds p := hA0
  rw [Tryd.params3] at hA hval
  obtain ⟨v0, vs0, d0, ds0, p0, q0, hargs, rfl, rfl, h0, r0⟩ := trodAll_cons hA
  obtain ⟨v1, vs1, d1, ds1, p1, q1, rfl, rfl, rfl, h1, r1⟩ := trodAll_cons r0
  obtain ⟨v2, vs2, d2, ds2, p2, q2, rfl, rfl, rfl, h2, r2⟩ := trodAll_cons r1
  obtain ⟨rfl, rfl, rfl⟩ := trodAll_nil r2
  obtain rfl : args = #[v0, v1, v2] := by cases args; simp_all
  obtain ⟨rfl, rfl⟩ := trodVars_none hV
  obtain ⟨a0, len0, cap0, rfl⟩ := okWide_slice Tryd.underlying22 (hval 0 22 v0 rfl rfl)
  have k0 := h0
  have lt0 : ∀ x ∈ p0, x.block < W.heap.size := by obtain ⟨m, hm⟩ := k0; exact DataW.trod_lt m _ _ _ hm
  obtain ⟨fu0, hf0⟩ := h0
  obtain ⟨l0, rfl, hp0, ho0, hn0, hc0⟩ := itms_row' (by simpa [Value.cells] using hf0)
  obtain ⟨a1, rfl, rfl, rfl, w1⟩ := open_string Tryd.underlying9 (hval 1 9 v1 rfl rfl) h1
  obtain ⟨c2_0, c2_1, c2_2, c2_3, c2_4, c2_5, c2_6, y2_0, y2_1, y2_2, y2_3, y2_4, y2_5, y2_6, m2, rfl, rfl, rfl, k2_0, k2_1, k2_2, k2_3, k2_4, k2_5, k2_6⟩ := open_agg7 Tryd.underlying25 (by kernel_rfl) (by kernel_rfl) (hval 2 25 v2 rfl rfl) h2
  obtain ⟨b2_0, e2_0, rfl, x2_0⟩ := DataW.trod_int Tryd.underlying3 k2_0
  obtain ⟨b2_1, e2_1, rfl, x2_1⟩ := DataW.trod_int Tryd.underlying23 k2_1
  obtain ⟨b2_2, e2_2, rfl, x2_2⟩ := DataW.trod_int Tryd.underlying23 k2_2
  obtain ⟨b2_3, e2_3, rfl, x2_3⟩ := DataW.trod_int Tryd.underlying23 k2_3
  obtain ⟨b2_4, e2_4, rfl, x2_4⟩ := DataW.trod_int Tryd.underlying2 k2_4
  obtain ⟨b2_5, e2_5, rfl, x2_5⟩ := DataW.trod_int Tryd.underlying2 k2_5
  obtain ⟨b2_6, e2_6, rfl, x2_6⟩ := DataW.trod_string Tryd.underlying9 k2_6
  simp at e2_0 e2_1 e2_2 e2_3 e2_4 e2_5 e2_6
  subst e2_0 e2_1 e2_2 e2_3 e2_4 e2_5 e2_6
  clear hA0 hval0
  have reads2 : ∀ (W' : World) (sp : Nat → Bool), DataW.Trod enc Tryd.prog W' 0 sp true 25 (.agg #[.int .i64 b2_0, .int .u32 b2_1, .int .u32 b2_2, .int .u32 b2_3, .int .i64 b2_4, .int .i64 b2_5, .string b2_6]) (.agg [.lit (.int .i64 b2_0), .lit (.int .u32 b2_1), .lit (.int .u32 b2_2), .lit (.int .u32 b2_3), .lit (.int .i64 b2_4), .lit (.int .i64 b2_5), .lit (.string b2_6.data.toList)]) [] := fun W' sp =>
    shut_agg7 (y0 := (.lit (.int .i64 b2_0), [])) (y1 := (.lit (.int .u32 b2_1), [])) (y2 := (.lit (.int .u32 b2_2), [])) (y3 := (.lit (.int .u32 b2_3), [])) (y4 := (.lit (.int .i64 b2_4), [])) (y5 := (.lit (.int .i64 b2_5), [])) (y6 := (.lit (.string b2_6.data.toList), [])) Tryd.underlying25 (by kernel_rfl) (by kernel_rfl) ⟨1, by simp [DataW.trod, Tryd.underlying3, x2_0]⟩ ⟨1, by simp [DataW.trod, Tryd.underlying23, x2_1]⟩ ⟨1, by simp [DataW.trod, Tryd.underlying23, x2_2]⟩ ⟨1, by simp [DataW.trod, Tryd.underlying23, x2_3]⟩ ⟨1, by simp [DataW.trod, Tryd.underlying2, x2_4]⟩ ⟨1, by simp [DataW.trod, Tryd.underlying2, x2_5]⟩ ⟨1, by simp [DataW.trod, Tryd.underlying9, x2_6]⟩
  refine (treePuts_walk a0 cap0 l0 a1 b2_0 b2_1 b2_2 b2_3 b2_4 b2_5 b2_6 w1 x2_0 x2_1 x2_2 x2_3 x2_4 x2_5 x2_6 W hp0 ho0 hn0 hc0 (env_ofT hL hsh)).mono fun e W' ⟨he, hg⟩ => ?_
  subst he
  exact ⟨_, rfl, _, _, _, [], _, [], hW', trodAll_mk1 (shut_bool Tryd.underlying4 _), (trodAll_cons_mk (Below.trod laidOut (by kernel_rfl) (of_decide_eq_true (by kernel_rfl)) k0 hg lt0) (trodAll_cons_mk (shut_string Tryd.underlying9 w1) (trodAll_cons_mk (reads2 W' _) trodAll_mk0))), rfl, hg.frame _, fun h => by cases h⟩

theorem over : Rows.treePutsRow.holds Tryd.pinned (OpenSpec.ofChange Rows.treePutsSpec) :=
  OpenClaim.holds_of_wide 3 Tryd.f3 rfl rfl rfl rfl rfl rfl rfl ⟨rfl, rfl, rfl, rfl, rfl⟩ rfl rfl rfl rfl rfl (by kernel_rfl) Tryd.func3 (by kernel_rfl)
    (of_decide_eq_true (by kernel_rfl)) (by unfold Func.isWrapper; first | (rw [if_pos (by decide +kernel)]; kernel_rfl) | (rw [if_neg (by decide +kernel)]; exact ⟨rfl, rfl⟩))
    (fun os started H enc _ => lifted os started H enc)
theorem treePuts_tied : Rows.TreePutsCardSaid :=
  Claim7.holds_tied_plain_at .later [] [.data, .pinned] true (true, "147e3a74e63d0ea4a080c465098ddfe38a8d021b506512c6b2c2bc5d5cfde45b") false
    over (fun _ h => by cases h) (by kernel_rfl) (fun _ h => by cases h) treePuts_row_tie rfl ⟨rfl, rfl⟩ (by kernel_rfl) rfl
    (fun f fn hf hfn => by
      obtain rfl : f = 3 := Option.some.inj ((show Tryd.prog.funcNamed Rows.treePutsRow.func = some 3 by kernel_rfl).symm.trans hf) |>.symm
      obtain rfl : fn = Tryd.f3 := (Option.some.inj (Tryd.func3.symm.trans hfn)).symm
      exact ⟨by kernel_rfl, fun j t ht => by
        rw [Tryd.params3] at ht
        have hall : (#[22, 9, 25] : Array TypeId).toList.all (fun t => Tryd.prog.wantsStandIn t == false) = true := by kernel_rfl
        have hm : t ∈ (#[22, 9, 25] : Array TypeId).toList := by
          rw [← Array.getElem?_toList] at ht
          exact List.mem_of_getElem? ht
        exact beq_iff_eq.1 (List.all_eq_true.1 hall t hm)⟩)
    (by kernel_rfl)
end Go.Proofs.YtpkhpaklhfomkaaDoor.treePuts

namespace Go.Proofs.YtpkhpaklhfomkaaDoor
theorem treePuts_holds : Rows.TreePutsCardSaid := treePuts.treePuts_tied
end Go.Proofs.YtpkhpaklhfomkaaDoor
