/-
  The chapter's example holds.
-/
import Derived.Test.YtblojfgbdmnccaaMatE
namespace Go.Proofs.Ytblojfgbdmnccaa
set_option maxRecDepth 100000
open Go.RowKit Go.Deep Go.ChangeMaps Go.ChangeShapes Go.WideShapes
open Go.Maps (Keyed IsMap has Tidy)

theorem groups_own {H : Type} {P : Program} {w : World} {k : TypeId} {base : Nat} {e : TypeId} {q : IntKind} {b n : Nat} {D : DataW H} (h : w.ownsGroups P k base e q b n D) : w.ownsMap P k (rowElem w base e q) b n D := by
  obtain ⟨es, clock, hb, F, hs, rfl, _⟩ := h
  exact ⟨es, clock, hb, F, hs, rfl⟩
theorem gM_two (a : Nat → Nat) (ha : ∀ i, a i < 256) (hne : a 0 ≠ a 1) : Maps.size (gM a 2) = 2 := by
  have h1 : Tidy (gM a 1) := ⟨_, rfl, by simp [List.pairwise_cons, DataW.insert]⟩
  have h0 : Tidy (gM a 0) := Maps.tidy_empty
  have e1 : Maps.size (gM a 1) = 1 := by
    rw [gM, Maps.size_put h0]
    rfl
  have hf : has (gM a 1) (tk (a 1) (a 2) (a 3)) = false := by
    cases h : has (gM a 1) (tk (a 1) (a 2) (a 3)) with
    | false => rfl
    | true =>
      obtain ⟨i, hi, he⟩ := (gM_has a ha _ 1).1 h
      obtain rfl : i = 0 := by omega
      exact absurd (tk_inj _ _ _ _ _ _ (ha _) (ha _) (ha _) (ha _) (ha _) (ha _) he).1 (Ne.symm hne)
  rw [gM, Maps.size_put h1, hf, e1]
  rfl
def exToks : Nat → Tok := fun i => if i = 0 then ⟨97, 0, 0⟩ else ⟨0, 4, 1⟩
theorem ex_text : expT exToks 2 = [97, 97, 97, 97, 97] := by decide +kernel
theorem ex_err : expE exToks 2 = 0 := by decide +kernel
def abcd : ByteArray := ⟨#[97, 98, 99, 100]⟩
set_option maxHeartbeats 4000000 in
theorem awake7_any (w : World) : Calls Try.prog 26 #[] w fun e w' => e = .returned (.bool true) ∧ Below w.heap.size w w' := by
  have hT : Toks (w.alloc (.cells #[.int .u8 97, .int .i64 0, .int .i64 0, .int .u8 0, .int .i64 4, .int .i64 1] 56)) (some ⟨w.heap.size, 0, none⟩) 2 exToks := fun _ => by
    refine ⟨_, 0, rfl, by simp, fun i hi => ?_⟩
    have hc := fun j => cell_of_row (w.alloc (.cells #[.int .u8 97, .int .i64 0, .int .i64 0, .int .u8 0, .int .i64 4, .int .i64 1] 56)) w.heap.size j _ _ _ (heap_alloc_new w _)
    match i, hi with
    | 0, _ => exact ⟨⟨by decide, by decide, by decide, by decide, by decide⟩, hc 0, hc 1, hc 2⟩
    | 1, _ => exact ⟨⟨by decide, by decide, by decide, by decide, by decide⟩, hc 3, hc 4, hc 5⟩
  have HEX := Lib.hid (expand_any _ 2 2 exToks _ hT (by omega))
  have HCH := Lib.hid (fun w => chains_any abcd (by decide) w)
  have hsz : Maps.size (gM (bt abcd) (abcd.size - 2)) = 2 := gM_two _ (bt_lt _) (by decide +kernel)
  rw [ex_text, ex_err] at HEX
  have ht5 : (text [97, 97, 97, 97, 97]).toList = [97, 97, 97, 97, 97] := by decide +kernel
  go_enter Try.func26, Try.ntmps26
  go_wp2_with first
    | (go_at_call 29; go_must (refine (HEX.out).mono ?_; rintro e w1 ⟨rfl, hb1⟩))
    | (go_at_call 33; go_must (refine (HCH.out _).mono ?_; rintro e w2 ⟨rfl, hg, hb2⟩; have hl := (groups_own hg).len Try.underlying72; rw [hsz] at hl))
  go_ret
  exact ⟨rfl, (((Below.refl w.heap.size w).alloc (Nat.le_refl _) _).trans (hb1.mono (by simp))).trans (hb2.mono (by have := hb1.size; simp at this; omega))⟩
end Go.Proofs.Ytblojfgbdmnccaa
