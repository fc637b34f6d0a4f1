/-
  Contracts: IndexRune in "\x00\\" of a rune that is no ASCII; IndexAny, ContainsAny of these two bytes in any text.
-/
import Derived.Test.YtpkhpaklhfomkaaGreatDoorNamC
import Derived.Laws.Runes
import Derived.Scope
import Derived.ScopeJumps
namespace Go.Proofs.YtpkhpaklhfomkaaGreatDoor
set_option maxRecDepth 100000
open Go.RowKit Go.Deep Go.Joins

def bad2 : ByteArray := ⟨#[0, 92]⟩
theorem enc_high (r : Nat) (hv : Utf8.valid (r : Int) = true) (h128 : 128 ≤ r) : ∃ m x, (Utf8.encode (r : Int)).size = m ∧ 2 ≤ m ∧ m ≤ 4 ∧ (Utf8.encode (r : Int))[m - 1]? = some x ∧ 128 ≤ x.toNat := by
  obtain ⟨h1, h2, h3⟩ := encode_facts (r : Int) hv (by omega)
  refine ⟨_, (Utf8.encode (r : Int))[(Utf8.encode (r : Int)).size - 1]'(by omega), rfl, h1, h2, ?_, h3 (by omega)⟩
  rw [getElem?_pos]

theorem lib_valid (r : Int) : Utf8.valid r = Lib.validRune r := by
  rw [validRune_eq]
  rfl
set_option maxHeartbeats 8000000 in
set_option maxRecDepth 1000000 in
theorem indexRune_high (r : Nat) (h0 : 128 ≤ r) (h1 : r ≤ 2147483647) (w : World) :
    Calls Tryz.prog 228 #[.string ⟨#[0, 92]⟩, .int .i32 (r : Nat)] w fun e w' => e = .returned (.int .i64 (-1)) ∧ Below w.heap.size w w' := by
  have hd1 : decide ((r : Int) < 128) = false := decide_eq_false (by omega)
  by_cases hr : r = 65533
  · subst hr
    have e0 : ((65533 : Nat) : Int) = 65533 := rfl
    have hn0 : ∀ ty, (Instr.next (.pointer (some ⟨w.heap.size, 0, none⟩)) true ty).run Tryz.prog (w.iter ⟨#[0, 92]⟩ 0) = .ok (.tuple #[.bool true, .int .i64 0, .int .i32 0]) (w.iter ⟨#[0, 92]⟩ 1) := fun ty => run_next_any w ⟨#[0, 92]⟩ 0 ty (by decide)
    have hn1 : ∀ ty, (Instr.next (.pointer (some ⟨w.heap.size, 0, none⟩)) true ty).run Tryz.prog (w.iter ⟨#[0, 92]⟩ 1) = .ok (.tuple #[.bool true, .int .i64 1, .int .i32 92]) (w.iter ⟨#[0, 92]⟩ 2) := fun ty => run_next_any w ⟨#[0, 92]⟩ 1 ty (by decide)
    have hn2 : ∀ ty, (Instr.next (.pointer (some ⟨w.heap.size, 0, none⟩)) true ty).run Tryz.prog (w.iter ⟨#[0, 92]⟩ 2) = _ := fun ty => run_next_end w ⟨#[0, 92]⟩ 2 ty (by decide)
    go_enter Tryz.func228, Tryz.ntmps228
    go_wp2_with fail
    refine wp_loop_rounds 3 ?_
    rw [rounds_succ]
    go_wp2_with fail
    rw [rounds_succ]
    go_wp2_with fail
    rw [rounds_succ]
    go_wp2_with fail
    go_ret
    exact ⟨rfl, below_iter _ _ _⟩
  · have hr2 : ((r : Int) == 65533) = false := by rw [beq_eq_false_iff_ne]; omega
    cases hv : Utf8.valid (r : Int) with
    | false =>
      have hvr : Lib.validRune (r : Int) = false := by rw [← lib_valid]; exact hv
      go_enter Tryz.func228, Tryz.ntmps228
      go_wp2_with fail
      refine (sh_utf8_ValidRune _ _).mono ?_
      rintro e w1 ⟨rfl, rfl⟩
      rw [hvr]
      go_wp2
      go_ret
      exact ⟨rfl, Below.refl _ _⟩
    | true =>
      have hvr : Lib.validRune (r : Int) = true := by rw [← lib_valid]; exact hv
      obtain ⟨m, x, hm, hm2, hm4, hx, hx8⟩ := enc_high r hv h0
      go_enter Tryz.func228, Tryz.ntmps228
      go_wp2_with fail
      refine (sh_utf8_ValidRune _ _).mono ?_
      rintro e w1 ⟨rfl, rfl⟩
      rw [hvr]
      have hcv : ∀ w, (convert 21 9 (.int .i32 (r : Int))).run Tryz.prog w = .ok (.string (Utf8.encode (r : Int))) w := fun w => run_convert_int_string w _ _ _ _ (by kernel_rfl) Tryz.underlying9
      generalize Utf8.encode (r : Int) = rs at *
      have HX := Lib.hid hx
      clear hx
      by_cases h2 : m = 2
      · subst h2
        have hi1 : (2 : Int) - 1 = 1 := rfl
        have hsz1 : 1 < rs.size := by omega
        have hrx : rs[1] = x := by
          have h := HX.out
          rw [show 2 - 1 = 1 from rfl, getElem?_pos rs 1 hsz1] at h
          exact Option.some.inj h
        have hneq : (((((⟨#[0, 92]⟩ : ByteArray)[1]'(by decide)).toNat : Nat) : Int) != (x.toNat : Int)) = true := by
          rw [bne_iff_ne]
          show ((92 : Nat) : Int) ≠ _
          omega
        go_wp2_with fail
        go_step3
        go_wp2_with fail
        refine wp_loop_rounds 1 ?_
        rw [rounds_succ]
        go_wp2_with fail
        go_step3
        go_wp2_with fail
        go_quiet (fail)
        have HD2 : Hid (Below w1.heap.size w1 (w1.drewN nq)) := below_drewN (Below.refl _ _) nq
        have hw2 : IntKind.i64.wrap 2 = 2 := rfl
        generalize w1.drewN nq = w2 at *
        go_wp2_with fail
        go_quiet (first | (go_at_call 242; exact Calls.quiet_of_same (sh_strings_IndexByte _ _ _)))
        have hib : Lib.indexByte ByteArray.empty.data.toList ((x.toNat : Int)).toNat.toUInt8 = -1 := rfl
        rw [hib]
        go_wp2_with fail
        go_simp
        go_ret
        exact ⟨rfl, below_drewN HD2.out _⟩
      · have hm3 : (2 : Int) ≤ (m : Int) - 1 := by omega
        go_wp2_with fail
        go_step3
        go_wp2_with fail
        refine wp_loop_rounds 1 ?_
        rw [rounds_succ]
        go_wp2_with fail
        rw [Exit.noGoto_ret]
        go_ret
        exact ⟨rfl, Below.refl _ _⟩
end Go.Proofs.YtpkhpaklhfomkaaGreatDoor
