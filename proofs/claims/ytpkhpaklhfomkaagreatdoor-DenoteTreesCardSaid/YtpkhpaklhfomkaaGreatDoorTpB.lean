/-
  Trees: without, Drop.
-/
import Derived.Test.YtpkhpaklhfomkaaGreatDoorTpA
import Derived.Test.YtpkhpaklhfomkaaGreatDoorNamB
import Derived.Test.YtpkhpaklhfomkaaGreatDoorNamC
namespace Go.Proofs.YtpkhpaklhfomkaaGreatDoor
set_option maxRecDepth 100000
set_option linter.unusedSimpArgs false
set_option linter.unusedVariables false
open Go.RowKit Go.Joins Go.Deep
open Go.Lib hiding intOf
theorem ic_of_own {w : World} {B g cap : Nat} {l : List Itm} (h : w.ownsRow B 33 8 (.slice (some ⟨g, 0, none⟩) l.length cap) l.length (cellsI l)) : IC w g cap l := by
  refine ⟨io_of_own h, ?_⟩
  rcases h.2 with ⟨he, _⟩ | ⟨g2, cap2, cur, he, _, hc, _, hm, hs, _⟩
  · cases he
  · injection he with e1 e2 e3
    injection e1 with e1
    injection e1 with e1
    subst e1 e3
    exact ⟨cur, hc, hs, hm⟩
/-- A slice of items that was made, with its room. -/
def NewB (w : World) (B c : Nat) (A : Option Addr) (l : List Itm) : Prop := (l = [] ∧ A = none ∧ c = 0) ∨ ∃ g, A = some ⟨g, 0, none⟩ ∧ B ≤ g ∧ IC w g c l
theorem NewB.itms {w : World} {B c : Nat} {A : Option Addr} {l : List Itm} (h : NewB w B c A l) : Itms w A l := by
  rcases h with ⟨rfl, _⟩ | ⟨g, rfl, _, h⟩
  · exact Itms.nil _ _
  · exact h.itms
theorem NewB.below {w w' : World} {B c : Nat} {A : Option Addr} {l : List Itm} (h : NewB w B c A l) (hb : Below w.heap.size w w') : NewB w' B c A l := by
  rcases h with h | ⟨g, e, hg, h⟩
  · exact .inl h
  · exact .inr ⟨g, e, hg, h.below hb⟩
/-- A box with a text. -/
def BxS (w : World) (g : Nat) (s : ByteArray) : Prop := g < w.heap.size ∧ w.cell? ⟨g, 0, none⟩ = some (.string s)
theorem BxS.below {w w' : World} {g : Nat} {s : ByteArray} (h : BxS w g s) (hb : Below w.heap.size w w') : BxS w' g s := ⟨Nat.lt_of_lt_of_le h.1 hb.size, (hb.cell h.1).trans h.2⟩
set_option maxHeartbeats 4000000 in
theorem cloneB_any (A : Option Addr) (c : Nat) (l : List Itm) (w : World) (hR : Itms w A l) (hl : l.length ≤ 1000000) :
    Calls Tryz.prog 25 #[.slice A l.length c] w fun e w' => ∃ A' c', e = .returned (.slice A' l.length c') ∧ l.length ≤ c' ∧ NewB w' w.heap.size c' A' l ∧ Below w.heap.size w w' := by
  obtain ⟨i0, hi, hz0, hz1, hz2⟩ := partsI
  have HR := Lib.hid hR
  have q54 : ∀ (w : World) (a : Option Addr) (n c n' c' : Nat), (binOp .eql 22 (.slice a n c) (.slice none n' c')).run Tryz.prog w = .ok (.bool a.isNone) w := fun w a n c n' c' => Lib.run_eql_slice_nil w _ _ a n c n' c' Tryz.underlying22
  clear hR
  cases A with
  | none =>
    obtain rfl : l = [] := HR.out.none
    go_enter Tryz.func25, Tryz.ntmps25
    go_wp2_with fail
    go_ret
    exact ⟨none, 0, rfl, Nat.le_refl _, .inl ⟨rfl, rfl, rfl⟩, Below.refl _ _⟩
  | some ad =>
    go_enter Tryz.func25, Tryz.ntmps25
    go_wp2_with (at_builtin; refine wpList_append_own _ rfl _ _ 22 rfl w.heap.size 33 i0 (.agg #[.string ⟨#[]⟩, .int .i64 0, .int .u32 0, .int .u32 0, .int .u32 0, .int .i64 0, .int .i64 0, .string ⟨#[]⟩]) 8 72 Tryz.underlying22 hi hz0 hz1 hz2 rfl (by decide) _ _ _ rfl (World.ownsRow_made w #[] 0 (Nat.le_refl _) (Nat.zero_le _) rfl) ad l.length c (cellsI l) rfl ?qc1 ?qc2 ?qc3 ?qc4 ?qc5 ?qc6 ?_)
    case qc1 => exact cellsI_len l
    case qc2 =>
      intro j u hj
      have hjl : j < l.length * 8 := by rw [← cellsI_len]; exact (List.getElem?_eq_some_iff.1 hj).1
      obtain ⟨b, off, e, hlt, _⟩ := HR.out (by omega)
      injection e with e
      subst e
      have hk : j / 8 < l.length := by omega
      have hr := HR.out.range (j / 8) l[j / 8] (List.getElem?_eq_getElem hk)
      have hm : j % 8 < (l[j / 8]).cellsL.length := Nat.mod_lt _ (by decide)
      have hg := cellsI_get l (j / 8) l[j / 8] (List.getElem?_eq_getElem hk) (j % 8) _ (List.getElem?_eq_getElem hm)
      rw [show j / 8 * 8 + j % 8 = j by omega, hj] at hg
      injection hg with hg
      subst hg
      have h := hr (j % 8) _ (List.getElem?_eq_getElem hm)
      rw [show off + j / 8 * 8 + j % 8 = off + j by omega] at h
      rw [Addr.add_mid]
      exact Lib.cell?_alloc_some _ h
    case qc3 =>
      intro u hu
      exact cellsI_one l u hu
    case qc4 => unfold maxLen; omega
    case qc5 => omega
    case qc6 => simp
    intro v' w1 hown hgrow hnil
    go_wp2_with fail
    go_ret
    have hb : Below w.heap.size w w1 := ((Below.refl _ w).alloc (Nat.le_refl _) _).grown hgrow (by simp) (by intro k hk; simp [Value.ownBlock] at hk; omega)
    rcases hown.2 with ⟨he, h0⟩ | ⟨g2, cap2, cur, he, hbg, _, hnc, _⟩
    · exact ⟨none, 0, by rw [he, h0]; rfl, by omega, .inl ⟨List.eq_nil_of_length_eq_zero h0, rfl, rfl⟩, hb⟩
    · refine ⟨_, cap2, by rw [he]; rfl, hnc, .inr ⟨g2, rfl, hbg, ?_⟩, hb⟩
      rw [he] at hown
      exact ic_of_own hown

theorem put1_any (s p : ByteArray) (g : Nat) (w : World) (hp : BxS w g p) : Calls Tryz.prog 100 #[.string s, .pointer (some ⟨g, 0, none⟩)] w fun e w' => e = .returned (.bool (s.toList == p.toList)) ∧ ∃ d, w' = w.drewN d := by
  have c0 := hp.2
  go_enter Tryz.func100, Tryz.ntmps100
  go_wp2_with fail
  go_ret
  exact ⟨rfl, 0, rfl⟩
/-- A box with a closure of a box. -/
def BxFP (w : World) (gs g : Nat) : Prop := gs < w.heap.size ∧ w.cell? ⟨gs, 0, none⟩ = some (.func (.func 100) #[] #[.pointer (some ⟨g, 0, none⟩)])
theorem BxFP.below {w w' : World} {gs g : Nat} (h : BxFP w gs g) (hb : Below w.heap.size w w') : BxFP w' gs g := ⟨Nat.lt_of_lt_of_le h.1 hb.size, (hb.cell h.1).trans h.2⟩
theorem wo1P_any (X : Itm) (p : ByteArray) (gs g : Nat) (w : World) (hf : BxFP w gs g) (hp : BxS w g p) : Calls Tryz.prog 141 #[.agg X.cells, .pointer (some ⟨gs, 0, none⟩)] w fun e w' => e = .returned (.bool (X.s.toList == p.toList)) ∧ Below w.heap.size w w' := by
  have hir := info_item
  have hb1 := (Below.refl w.heap.size w).alloc (Nat.le_refl _) (.cells X.cells 33)
  have hx1 := heap_alloc_new w (.cells X.cells 33)
  have c0 := (hf.below hb1).2
  have HC := Lib.hid (put1_any X.s p g _ (hp.below hb1))
  have HB := Lib.hid hb1
  obtain ⟨x0, x1, x2, x3, x4, x5, x6, x7⟩ := X
  simp only [Itm.cells] at hx1 HB c0 HC
  have z0 := (cell_of_row _ _ 0 _ _ _ hx1).trans (show _ = some (Value.string x0) from rfl)
  simp only [Itm.cells]
  clear hb1 hx1 hf hp
  go_enter Tryz.func141, Tryz.ntmps141
  go_upto_region 1 with fail
  generalize hgg : w.heap.size = gx at *
  generalize w.alloc (.cells #[.string x0, .int .i64 x1, .int .u32 x2, .int .u32 x3, .int .u32 x4, .int .i64 x5, .int .i64 x6, .string x7] 33) = w2 at *
  go_wp2_with fail
  refine HC.out.mono ?_; rintro e w3 ⟨rfl, d, rfl⟩
  go_wp2_with fail
  go_ret
  exact ⟨rfl, by subst hgg; exact below_drewN HB.out d⟩
set_option maxHeartbeats 4000000 in
theorem withoutP_any (A : Option Addr) (c : Nat) (l : List Itm) (p : ByteArray) (g : Nat) (w : World) (hR : Itms w A l) (hl : l.length ≤ 100000) (hp : BxS w g p) :
    Calls Tryz.prog 99 #[.slice A l.length c, .func (.func 100) #[] #[.pointer (some ⟨g, 0, none⟩)]] w fun e w' => ∃ A' c', e = .returned (.slice A' (l.filter (fun X => !(X.s.toList == p.toList))).length c') ∧ (l.filter (fun X => !(X.s.toList == p.toList))).length ≤ c' ∧ NewB w' w.heap.size c' A' (l.filter (fun X => !(X.s.toList == p.toList))) ∧ Below w.heap.size w w' := by
  obtain ⟨W1, hW1⟩ : ∃ W1, W1 = w.alloc (.cells #[.func (.func 100) #[] #[.pointer (some ⟨g, 0, none⟩)]] 132) := ⟨_, rfl⟩
  have hb1 := (Below.refl w.heap.size w).alloc (Nat.le_refl _) (.cells #[.func (.func 100) #[] #[.pointer (some ⟨g, 0, none⟩)]] 132)
  have hx1 := heap_alloc_new w (.cells #[.func (.func 100) #[] #[.pointer (some ⟨g, 0, none⟩)]] 132)
  have hs1 : (w.alloc (.cells #[.func (.func 100) #[] #[.pointer (some ⟨g, 0, none⟩)]] 132)).heap.size = w.heap.size + 1 := by simp only [World.alloc, Array.size_push]
  rw [← hW1] at hb1 hx1 hs1
  have hbf : BxFP W1 w.heap.size g := ⟨by omega, (cell_of_row _ _ 0 _ _ _ hx1).trans rfl⟩
  have hC := cloneB_any A c l W1 (hR.below hb1) (by omega)
  have hp1 := hp.below hb1
  have HQ := Lib.hid (List.length_filter_le (fun X => !(X.s.toList == p.toList)) l)
  have HF := Lib.hid (fun w1 (hb : Below W1.heap.size W1 w1) => hbf.below hb)
  have HP := Lib.hid (fun w1 (hb : Below W1.heap.size W1 w1) => hp1.below hb)
  have HC := Lib.hid hC
  have HB1 := Lib.hid hb1
  have HS1 := Lib.hid hs1
  have HW1 := Lib.hid hW1
  clear hb1 hx1 hbf hC hp1 hR hp hs1 hW1
  go_enter Tryz.func99, Tryz.ntmps99
  go_upto_region 1 with fail
  rw [← HW1.out]
  generalize hgg : w.heap.size = gx at *
  go_wp2_with fail
  refine HC.out.mono ?_; rintro e w3 ⟨A1, c1, rfl, hlc, hN, hb3⟩
  have HB3 := Lib.hid hb3
  have hdel : Hid (Calls Tryz.prog 24 #[.slice A1 l.length c1, .func (.func 141) #[] #[.pointer (some ⟨gx, 0, none⟩)]] w3
      fun e w' => e = .returned (.slice A1 (l.filter (fun X => !(X.s.toList == p.toList))).length c1) ∧ NewB w' W1.heap.size c1 A1 (l.filter (fun X => !(X.s.toList == p.toList))) ∧ Below W1.heap.size W1 w') := by
    show Calls _ _ _ _ _
    rcases hN with ⟨rfl, rfl, rfl⟩ | ⟨g1, rfl, hg1, hIC⟩
    · refine (deleteW_nil none 0 gx w3).mono ?_
      rintro e w4 ⟨rfl, hb4⟩
      exact ⟨rfl, .inl ⟨rfl, rfl, rfl⟩, below_then HB3.out hb4⟩
    · refine (deleteW_any W1 (fun X => X.s.toList == p.toList) l g1 c1 gx w3 hl hlc hg1 (fun x _ w4 hb4 => wo1P_any x p gx g w4 (HF.out w4 hb4) (HP.out w4 hb4)) hb3 hIC).mono ?_
      rintro e w4 ⟨rfl, hic, hb4⟩
      exact ⟨rfl, .inr ⟨g1, rfl, hg1, hic⟩, hb4⟩
  clear hN hb3 HC HF HP HB3
  go_wp2_with fail
  refine hdel.out.mono ?_; rintro e w4 ⟨rfl, hN4, hb4⟩
  have HN4 := Lib.hid hN4
  have HB4 := Lib.hid hb4
  clear hN4 hb4 hdel
  go_wp2_with fail
  go_ret
  refine ⟨A1, c1, rfl, Nat.le_trans HQ.out hlc, ?_, ?_⟩
  · rcases HN4.out with h | ⟨g1, e, hg1, hic⟩
    · exact .inl h
    · exact .inr ⟨g1, e, by have := HS1.out; omega, hic⟩
  · subst hgg
    exact HB1.out.trans (HB4.out.mono (by have := HS1.out; omega))

end Go.Proofs.YtpkhpaklhfomkaaGreatDoor
