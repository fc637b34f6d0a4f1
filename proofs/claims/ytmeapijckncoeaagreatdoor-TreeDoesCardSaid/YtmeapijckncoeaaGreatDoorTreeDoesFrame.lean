/-
  'TreeDoes' holds: for every input the call returns true, and each argument reads afterwards as it read before. The library's tables that it reads are tied to the program's text. No condition.
-/
import Derived.Test.YtmeapijckncoeaaGreatDoorRows
import Derived.Test.YtmeapijckncoeaaGreatDoorPkCC
import Derived.Test.YtmeapijckncoeaaGreatDoorPkCD
import Derived.Test.YtmeapijckncoeaaGreatDoorTie
import Derived.Test.YtmeapijckncoeaaGreatDoorCards
import Derived.Below
import Derived.SevenTiedAt
import Derived.ChangeOld
import Derived.WalkKit
import Derived.ProofKit
import Derived.OpenShut
import Derived.ShutString
import Derived.Lib.SmallJoins
namespace Go.Proofs.YtmeapijckncoeaaGreatDoor.treeDoes
open Go.ChangeShapes Go.WideShapes Go.ChangeAt Go.RowKit Go.Deep Go.Joins
open Go.ChangeMaps (open_string shut_string)
set_option linter.unusedVariables false
set_option maxRecDepth 100000

theorem laidOut : laidOutB Tryz.prog = true := by kernel_rfl
theorem lifted (os : Os) (started : os.Started) (H : Type) (enc : TypeId × Value → H) :
    ReturnsInHanded {} Tryz.checked os 3 .any (fun w args => (Rows.treeDoesSpec.pre enc Tryz.prog Tryz.f3 [] false w args ∧ laidMetH Tryz.prog tabsT w) ∧ sizedMet enc Tryz.prog Tryz.f3 (OpenSpec.ofChange Rows.treeDoesSpec) false w args) (Rows.treeDoesSpec.post enc Tryz.prog Tryz.f3 false true false false) := by
  refine returns_door (C := Tryz.checked) (X := fun w => laidMetH Tryz.prog tabsT w) (fun _ _ hh h => h.of_heap hh) door_own started (by kernel_rfl) Tryz.func3
    (ChangeSpec.witness_shaped (enc := enc) (C := Tryz.checked) (os := os) (X := fun w _ => laidMetH Tryz.prog tabsT w) false (doorW os) #[.slice none 0 0, .slice none 0 0, .string ⟨#[]⟩, .agg #[.int .i64 0, .int .u32 0, .int .u32 0, .int .u32 0, .int .i64 0, .int .i64 0, .string ⟨#[]⟩], .agg #[.int .i64 0, .int .u32 0, .int .u32 0, .int .u32 0, .int .i64 0, .int .i64 0, .string ⟨#[]⟩]] 8 rfl (World.shaped_of_RefB (by kernel_rfl) (by kernel_rfl)) (by kernel_rfl) (by kernel_rfl) (by kernel_rfl) (door_metT os _)) ?_
  intro W base args ds gs before hval0 hW hL hsh
  have hval : ∀ (j : Nat) t v, Tryz.f3.params[j]? = some t → args[j]? = some v → Value.okWide Tryz.prog W .any base t v := hval0
  have hW' := hW
  obtain ⟨p, q, hA0, hV, rfl, hfz, hnd⟩ := hW
  have hA : DataW.TrodAll enc Tryz.prog W 0 (fun _ => true) true Tryz.f3.params.toList args.toList ds p := hA0
  rw [Tryz.params3] at hA hval
  obtain ⟨v0, vs0, d0, ds0, p0, q0, hargs, rfl, rfl, h0, r0⟩ := trodAll_cons hA
  obtain ⟨v1, vs1, d1, ds1, p1, q1, rfl, rfl, rfl, h1, r1⟩ := trodAll_cons r0
  obtain ⟨v2, vs2, d2, ds2, p2, q2, rfl, rfl, rfl, h2, r2⟩ := trodAll_cons r1
  obtain ⟨v3, vs3, d3, ds3, p3, q3, rfl, rfl, rfl, h3, r3⟩ := trodAll_cons r2
  obtain ⟨v4, vs4, d4, ds4, p4, q4, rfl, rfl, rfl, h4, r4⟩ := trodAll_cons r3
  obtain ⟨rfl, rfl, rfl⟩ := trodAll_nil r4
  obtain rfl : args = #[v0, v1, v2, v3, v4] := by cases args; simp_all
  obtain ⟨rfl, rfl⟩ := trodVars_none hV
  obtain ⟨a0, len0, cap0, rfl⟩ := okWide_slice Tryz.underlying22 (hval 0 22 v0 rfl rfl)
  have k0 := h0
  have lt0 : ∀ x ∈ p0, x.block < W.heap.size := by obtain ⟨m, hm⟩ := k0; exact DataW.trod_lt m _ _ _ hm
  obtain ⟨fu0, hf0⟩ := h0
  obtain ⟨l0, rfl, hp0, ho0, hn0, hc0⟩ := itms_row' (by simpa [Value.cells] using hf0)
  obtain ⟨a1, len1, cap1, rfl⟩ := okWide_slice Tryz.underlying22 (hval 1 22 v1 rfl rfl)
  have k1 := h1
  have lt1 : ∀ x ∈ p1, x.block < W.heap.size := by obtain ⟨m, hm⟩ := k1; exact DataW.trod_lt m _ _ _ hm
  obtain ⟨fu1, hf1⟩ := h1
  obtain ⟨l1, rfl, hp1, ho1, hn1, hc1⟩ := itms_row' (by simpa [Value.cells] using hf1)
  obtain ⟨a2, rfl, rfl, rfl, w2⟩ := open_string Tryz.underlying9 (hval 2 9 v2 rfl rfl) h2
  obtain ⟨c3_0, c3_1, c3_2, c3_3, c3_4, c3_5, c3_6, y3_0, y3_1, y3_2, y3_3, y3_4, y3_5, y3_6, m3, rfl, rfl, rfl, k3_0, k3_1, k3_2, k3_3, k3_4, k3_5, k3_6⟩ := open_agg7 Tryz.underlying25 (by kernel_rfl) (by kernel_rfl) (hval 3 25 v3 rfl rfl) h3
  obtain ⟨b3_0, e3_0, rfl, x3_0⟩ := DataW.trod_int Tryz.underlying3 k3_0
  obtain ⟨b3_1, e3_1, rfl, x3_1⟩ := DataW.trod_int Tryz.underlying23 k3_1
  obtain ⟨b3_2, e3_2, rfl, x3_2⟩ := DataW.trod_int Tryz.underlying23 k3_2
  obtain ⟨b3_3, e3_3, rfl, x3_3⟩ := DataW.trod_int Tryz.underlying23 k3_3
  obtain ⟨b3_4, e3_4, rfl, x3_4⟩ := DataW.trod_int Tryz.underlying2 k3_4
  obtain ⟨b3_5, e3_5, rfl, x3_5⟩ := DataW.trod_int Tryz.underlying2 k3_5
  obtain ⟨b3_6, e3_6, rfl, x3_6⟩ := DataW.trod_string Tryz.underlying9 k3_6
  simp at e3_0 e3_1 e3_2 e3_3 e3_4 e3_5 e3_6
  subst e3_0 e3_1 e3_2 e3_3 e3_4 e3_5 e3_6
  obtain ⟨c4_0, c4_1, c4_2, c4_3, c4_4, c4_5, c4_6, y4_0, y4_1, y4_2, y4_3, y4_4, y4_5, y4_6, m4, rfl, rfl, rfl, k4_0, k4_1, k4_2, k4_3, k4_4, k4_5, k4_6⟩ := open_agg7 Tryz.underlying25 (by kernel_rfl) (by kernel_rfl) (hval 4 25 v4 rfl rfl) h4
  obtain ⟨b4_0, e4_0, rfl, x4_0⟩ := DataW.trod_int Tryz.underlying3 k4_0
  obtain ⟨b4_1, e4_1, rfl, x4_1⟩ := DataW.trod_int Tryz.underlying23 k4_1
  obtain ⟨b4_2, e4_2, rfl, x4_2⟩ := DataW.trod_int Tryz.underlying23 k4_2
  obtain ⟨b4_3, e4_3, rfl, x4_3⟩ := DataW.trod_int Tryz.underlying23 k4_3
  obtain ⟨b4_4, e4_4, rfl, x4_4⟩ := DataW.trod_int Tryz.underlying2 k4_4
  obtain ⟨b4_5, e4_5, rfl, x4_5⟩ := DataW.trod_int Tryz.underlying2 k4_5
  obtain ⟨b4_6, e4_6, rfl, x4_6⟩ := DataW.trod_string Tryz.underlying9 k4_6
  simp at e4_0 e4_1 e4_2 e4_3 e4_4 e4_5 e4_6
  subst e4_0 e4_1 e4_2 e4_3 e4_4 e4_5 e4_6
  clear hA0 hval0
  have reads3 : ∀ (W' : World) (sp : Nat → Bool), DataW.Trod enc Tryz.prog W' 0 sp true 25 (.agg #[.int .i64 b3_0, .int .u32 b3_1, .int .u32 b3_2, .int .u32 b3_3, .int .i64 b3_4, .int .i64 b3_5, .string b3_6]) (.agg [.lit (.int .i64 b3_0), .lit (.int .u32 b3_1), .lit (.int .u32 b3_2), .lit (.int .u32 b3_3), .lit (.int .i64 b3_4), .lit (.int .i64 b3_5), .lit (.string b3_6.data.toList)]) [] := fun W' sp =>
    shut_agg7 (y0 := (.lit (.int .i64 b3_0), [])) (y1 := (.lit (.int .u32 b3_1), [])) (y2 := (.lit (.int .u32 b3_2), [])) (y3 := (.lit (.int .u32 b3_3), [])) (y4 := (.lit (.int .i64 b3_4), [])) (y5 := (.lit (.int .i64 b3_5), [])) (y6 := (.lit (.string b3_6.data.toList), [])) Tryz.underlying25 (by kernel_rfl) (by kernel_rfl) ⟨1, by simp [DataW.trod, Tryz.underlying3, x3_0]⟩ ⟨1, by simp [DataW.trod, Tryz.underlying23, x3_1]⟩ ⟨1, by simp [DataW.trod, Tryz.underlying23, x3_2]⟩ ⟨1, by simp [DataW.trod, Tryz.underlying23, x3_3]⟩ ⟨1, by simp [DataW.trod, Tryz.underlying2, x3_4]⟩ ⟨1, by simp [DataW.trod, Tryz.underlying2, x3_5]⟩ ⟨1, by simp [DataW.trod, Tryz.underlying9, x3_6]⟩
  have reads4 : ∀ (W' : World) (sp : Nat → Bool), DataW.Trod enc Tryz.prog W' 0 sp true 25 (.agg #[.int .i64 b4_0, .int .u32 b4_1, .int .u32 b4_2, .int .u32 b4_3, .int .i64 b4_4, .int .i64 b4_5, .string b4_6]) (.agg [.lit (.int .i64 b4_0), .lit (.int .u32 b4_1), .lit (.int .u32 b4_2), .lit (.int .u32 b4_3), .lit (.int .i64 b4_4), .lit (.int .i64 b4_5), .lit (.string b4_6.data.toList)]) [] := fun W' sp =>
    shut_agg7 (y0 := (.lit (.int .i64 b4_0), [])) (y1 := (.lit (.int .u32 b4_1), [])) (y2 := (.lit (.int .u32 b4_2), [])) (y3 := (.lit (.int .u32 b4_3), [])) (y4 := (.lit (.int .i64 b4_4), [])) (y5 := (.lit (.int .i64 b4_5), [])) (y6 := (.lit (.string b4_6.data.toList), [])) Tryz.underlying25 (by kernel_rfl) (by kernel_rfl) ⟨1, by simp [DataW.trod, Tryz.underlying3, x4_0]⟩ ⟨1, by simp [DataW.trod, Tryz.underlying23, x4_1]⟩ ⟨1, by simp [DataW.trod, Tryz.underlying23, x4_2]⟩ ⟨1, by simp [DataW.trod, Tryz.underlying23, x4_3]⟩ ⟨1, by simp [DataW.trod, Tryz.underlying2, x4_4]⟩ ⟨1, by simp [DataW.trod, Tryz.underlying2, x4_5]⟩ ⟨1, by simp [DataW.trod, Tryz.underlying9, x4_6]⟩
  refine (treeDoes_walk a0 cap0 l0 a1 cap1 l1 a2 b3_0 b3_1 b3_2 b3_3 b3_4 b3_5 b3_6 b4_0 b4_1 b4_2 b4_3 b4_4 b4_5 b4_6 w2 x3_0 x3_1 x3_2 x3_3 x3_4 x3_5 x3_6 x4_0 x4_1 x4_2 x4_3 x4_4 x4_5 x4_6 W hp0 ho0 hn0 hc0 hp1 ho1 hn1 hc1 (env_ofT hL hsh)).mono fun e W' ⟨he, hg⟩ => ?_
  subst he
  exact ⟨_, rfl, _, _, _, [], _, [], hW', trodAll_mk1 (shut_bool Tryz.underlying4 _), (trodAll_cons_mk (Below.trod laidOut (by kernel_rfl) (of_decide_eq_true (by kernel_rfl)) k0 hg lt0) (trodAll_cons_mk (Below.trod laidOut (by kernel_rfl) (of_decide_eq_true (by kernel_rfl)) k1 hg lt1) (trodAll_cons_mk (shut_string Tryz.underlying9 w2) (trodAll_cons_mk (reads3 W' _) (trodAll_cons_mk (reads4 W' _) trodAll_mk0))))), rfl, hg.frame _, fun h => by cases h⟩

theorem over : Rows.treeDoesRow.holds Tryz.pinned (OpenSpec.ofChange Rows.treeDoesSpec) :=
  OpenClaim.holds_of_wide 3 Tryz.f3 rfl rfl rfl rfl rfl rfl rfl ⟨rfl, rfl, rfl, rfl, rfl⟩ rfl rfl rfl rfl rfl (by kernel_rfl) Tryz.func3 (by kernel_rfl)
    (of_decide_eq_true (by kernel_rfl)) (by unfold Func.isWrapper; first | (rw [if_pos (by decide +kernel)]; kernel_rfl) | (rw [if_neg (by decide +kernel)]; exact ⟨rfl, rfl⟩))
    (fun os started H enc _ => lifted os started H enc)
theorem treeDoes_tied : Rows.TreeDoesCardSaid :=
  Claim7.holds_tied_plain_at .later [] [.data, .pinned] true (true, "6224168de9685f10337a5de127cab9d4b20dfd7628fb5d263ece406f4fc83771") false
    over (fun _ h => by cases h) (by kernel_rfl) (fun _ h => by cases h) treeDoes_row_tie rfl ⟨rfl, rfl⟩ (by kernel_rfl) rfl
    (fun f fn hf hfn => by
      obtain rfl : f = 3 := Option.some.inj ((show Tryz.prog.funcNamed Rows.treeDoesRow.func = some 3 by kernel_rfl).symm.trans hf) |>.symm
      obtain rfl : fn = Tryz.f3 := (Option.some.inj (Tryz.func3.symm.trans hfn)).symm
      exact ⟨by kernel_rfl, fun j t ht => by
        rw [Tryz.params3] at ht
        have hall : (#[22, 22, 9, 25, 25] : Array TypeId).toList.all (fun t => Tryz.prog.wantsStandIn t == false) = true := by kernel_rfl
        have hm : t ∈ (#[22, 22, 9, 25, 25] : Array TypeId).toList := by
          rw [← Array.getElem?_toList] at ht
          exact List.mem_of_getElem? ht
        exact beq_iff_eq.1 (List.all_eq_true.1 hall t hm)⟩)
    (by kernel_rfl)
end Go.Proofs.YtmeapijckncoeaaGreatDoor.treeDoes

namespace Go.Proofs.YtmeapijckncoeaaGreatDoor
theorem treeDoes_holds : Rows.TreeDoesCardSaid := treeDoes.treeDoes_tied
end Go.Proofs.YtmeapijckncoeaaGreatDoor
