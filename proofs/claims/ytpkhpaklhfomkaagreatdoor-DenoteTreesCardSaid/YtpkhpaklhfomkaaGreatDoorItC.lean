/-
  Items: slices.Clone.
-/
import Derived.Test.YtpkhpaklhfomkaaGreatDoorItA
namespace Go.Proofs.YtpkhpaklhfomkaaGreatDoor
set_option maxRecDepth 100000
set_option linter.unusedSimpArgs false
set_option linter.unusedVariables false
open Go.RowKit Go.Joins Go.Deep
theorem partsI : ∃ i0, Tryz.prog.info? 33 = some i0 ∧ i0.zero = some (.agg #[.string ⟨#[]⟩, .int .i64 0, .int .u32 0, .int .u32 0, .int .u32 0, .int .i64 0, .int .i64 0, .string ⟨#[]⟩]) ∧ i0.size = 8 ∧ i0.bytes = 72 := by
  have h := parts_item
  cases hq : Tryz.prog.info? 33 with
  | none => rw [hq] at h; cases h
  | some i =>
    rw [hq] at h
    simp only [Option.map_some, Option.some.injEq, Prod.mk.injEq] at h
    exact ⟨i, rfl, h.1, h.2.1, h.2.2⟩
/-- What a slice of items is that was made: nothing, or a block of its own. -/
def NewI (w : World) (B : Nat) (A : Option Addr) (l : List Itm) : Prop := l = [] ∨ ∃ g, A = some ⟨g, 0, none⟩ ∧ B ≤ g ∧ IO w g l
theorem NewI.itms {w : World} {B : Nat} {A : Option Addr} {l : List Itm} (h : NewI w B A l) : Itms w A l := by
  rcases h with rfl | ⟨g, rfl, _, h⟩
  · exact Itms.nil _ _
  · exact h.itms
set_option maxHeartbeats 4000000 in
theorem cloneI_any (A : Option Addr) (c : Nat) (l : List Itm) (w : World) (hR : Itms w A l) (hl : l.length ≤ 1000000) :
    Calls Tryz.prog 25 #[.slice A l.length c] w fun e w' => ∃ A' c', e = .returned (.slice A' l.length c') ∧ l.length ≤ c' ∧ NewI w' w.heap.size A' l ∧ Below w.heap.size w w' := by
  obtain ⟨i0, hi, hz0, hz1, hz2⟩ := partsI
  have HR := Lib.hid hR
  have q54 : ∀ (w : World) (a : Option Addr) (n c n' c' : Nat), (binOp .eql 22 (.slice a n c) (.slice none n' c')).run Tryz.prog w = .ok (.bool a.isNone) w := fun w a n c n' c' => Lib.run_eql_slice_nil w _ _ a n c n' c' Tryz.underlying22
  clear hR
  cases A with
  | none =>
    obtain rfl : l = [] := HR.out.none
    go_enter Tryz.func25, Tryz.ntmps25
    go_wp2_with fail
    go_ret
    exact ⟨none, 0, rfl, Nat.le_refl _, .inl rfl, Below.refl _ _⟩
  | some ad =>
    go_enter Tryz.func25, Tryz.ntmps25
    go_wp2_with (at_builtin; refine wpList_append_own _ rfl _ _ 22 rfl w.heap.size 33 i0 (.agg #[.string ⟨#[]⟩, .int .i64 0, .int .u32 0, .int .u32 0, .int .u32 0, .int .i64 0, .int .i64 0, .string ⟨#[]⟩]) 8 72 Tryz.underlying22 hi hz0 hz1 hz2 rfl (by decide) _ _ _ rfl (World.ownsRow_made w #[] 0 (Nat.le_refl _) (Nat.zero_le _) rfl) ad l.length c (cellsI l) rfl ?qc1 ?qc2 ?qc3 ?qc4 ?qc5 ?qc6 ?_)
    case qc1 => exact cellsI_len l
    case qc2 =>
      intro j u hj
      have hjl : j < l.length * 8 := by rw [← cellsI_len]; exact (List.getElem?_eq_some_iff.1 hj).1
      obtain ⟨b, off, e, hlt, _⟩ := HR.out (by omega)
      injection e with e
      subst e
      have hk : j / 8 < l.length := by omega
      have hr := HR.out.range (j / 8) l[j / 8] (List.getElem?_eq_getElem hk)
      have hm : j % 8 < (l[j / 8]).cellsL.length := Nat.mod_lt _ (by decide)
      have hg := cellsI_get l (j / 8) l[j / 8] (List.getElem?_eq_getElem hk) (j % 8) _ (List.getElem?_eq_getElem hm)
      rw [show j / 8 * 8 + j % 8 = j by omega, hj] at hg
      injection hg with hg
      subst hg
      have h := hr (j % 8) _ (List.getElem?_eq_getElem hm)
      rw [show off + j / 8 * 8 + j % 8 = off + j by omega] at h
      rw [Addr.add_mid]
      exact Lib.cell?_alloc_some _ h
    case qc3 =>
      intro u hu
      exact cellsI_one l u hu
    case qc4 => unfold maxLen; omega
    case qc5 => omega
    case qc6 => simp
    intro v' w1 hown hgrow hnil
    go_wp2_with fail
    go_ret
    have hb : Below w.heap.size w w1 := ((Below.refl _ w).alloc (Nat.le_refl _) _).grown hgrow (by simp) (by intro k hk; simp [Value.ownBlock] at hk; omega)
    rcases hown.2 with ⟨he, h0⟩ | ⟨g2, cap2, cur, he, hbg, _, hnc, _⟩
    · exact ⟨none, 0, by rw [he, h0]; rfl, by omega, .inl (List.eq_nil_of_length_eq_zero h0), hb⟩
    · refine ⟨_, cap2, by rw [he]; rfl, hnc, .inr ⟨g2, rfl, hbg, ?_⟩, hb⟩
      rw [he] at hown
      exact io_of_own hown
end Go.Proofs.YtpkhpaklhfomkaaGreatDoor
