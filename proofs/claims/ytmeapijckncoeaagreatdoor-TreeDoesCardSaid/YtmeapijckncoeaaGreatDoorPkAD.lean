/-
  Trees: without, Drop.
  Trees: Drop, Find.
  Trees: the document's Find and kind.
  Contracts: IndexRune in "\x00\\" of a rune that is no ASCII; IndexAny, ContainsAny of these two bytes in any text.
-/
import Derived.Test.YtmeapijckncoeaaGreatDoorPkAA
import Derived.Test.YtmeapijckncoeaaGreatDoorPkAC
import Derived.Laws.Runes
import Derived.Scope
import Derived.ScopeJumps

namespace Go.Proofs.YtmeapijckncoeaaGreatDoor
set_option maxRecDepth 100000
set_option linter.unusedSimpArgs false
set_option linter.unusedVariables false
open Go.RowKit Go.Joins Go.Deep
open Go.Lib hiding intOf
theorem ic_of_own {w : World} {B g cap : Nat} {l : List Itm} (h : w.ownsRow B 42 8 (.slice (some ⟨g, 0, none⟩) l.length cap) l.length (cellsI l)) : IC w g cap l := by
  refine ⟨io_of_own h, ?_⟩
  rcases h.2 with ⟨he, _⟩ | ⟨g2, cap2, cur, he, _, hc, _, hm, hs, _⟩
  · cases he
  · injection he with e1 e2 e3
    injection e1 with e1
    injection e1 with e1
    subst e1 e3
    exact ⟨cur, hc, hs, hm⟩
/-- A slice of items that was made, with its room. -/
def NewB (w : World) (B c : Nat) (A : Option Addr) (l : List Itm) : Prop := (l = [] ∧ A = none ∧ c = 0) ∨ ∃ g, A = some ⟨g, 0, none⟩ ∧ B ≤ g ∧ IC w g c l
theorem NewB.itms {w : World} {B c : Nat} {A : Option Addr} {l : List Itm} (h : NewB w B c A l) : Itms w A l := by
  rcases h with ⟨rfl, _⟩ | ⟨g, rfl, _, h⟩
  · exact Itms.nil _ _
  · exact h.itms
theorem NewB.below {w w' : World} {B c : Nat} {A : Option Addr} {l : List Itm} (h : NewB w B c A l) (hb : Below w.heap.size w w') : NewB w' B c A l := by
  rcases h with h | ⟨g, e, hg, h⟩
  · exact .inl h
  · exact .inr ⟨g, e, hg, h.below hb⟩
/-- A box with a text. -/
def BxS (w : World) (g : Nat) (s : ByteArray) : Prop := g < w.heap.size ∧ w.cell? ⟨g, 0, none⟩ = some (.string s)
theorem BxS.below {w w' : World} {g : Nat} {s : ByteArray} (h : BxS w g s) (hb : Below w.heap.size w w') : BxS w' g s := ⟨Nat.lt_of_lt_of_le h.1 hb.size, (hb.cell h.1).trans h.2⟩
set_option maxHeartbeats 4000000 in
theorem cloneB_any (A : Option Addr) (c : Nat) (l : List Itm) (w : World) (hR : Itms w A l) (hl : l.length ≤ 1000000) :
    Calls Tryz.prog 25 #[.slice A l.length c] w fun e w' => ∃ A' c', e = .returned (.slice A' l.length c') ∧ l.length ≤ c' ∧ NewB w' w.heap.size c' A' l ∧ Below w.heap.size w w' := by
  obtain ⟨i0, hi, hz0, hz1, hz2⟩ := partsI
  have HR := Lib.hid hR
  have q54 : ∀ (w : World) (a : Option Addr) (n c n' c' : Nat), (binOp .eql 22 (.slice a n c) (.slice none n' c')).run Tryz.prog w = .ok (.bool a.isNone) w := fun w a n c n' c' => Lib.run_eql_slice_nil w _ _ a n c n' c' Tryz.underlying22
  clear hR
  cases A with
  | none =>
    obtain rfl : l = [] := HR.out.none
    go_enter Tryz.func25, Tryz.ntmps25
    go_wp2_with fail
    go_ret
    exact ⟨none, 0, rfl, Nat.le_refl _, .inl ⟨rfl, rfl, rfl⟩, Below.refl _ _⟩
  | some ad =>
    go_enter Tryz.func25, Tryz.ntmps25
    go_wp2_with (at_builtin; refine wpList_append_own _ rfl _ _ 22 rfl w.heap.size 42 i0 (.agg #[.string ⟨#[]⟩, .int .i64 0, .int .u32 0, .int .u32 0, .int .u32 0, .int .i64 0, .int .i64 0, .string ⟨#[]⟩]) 8 72 Tryz.underlying22 hi hz0 hz1 hz2 rfl (by decide) _ _ _ rfl (World.ownsRow_made w #[] 0 (Nat.le_refl _) (Nat.zero_le _) rfl) ad l.length c (cellsI l) rfl ?qc1 ?qc2 ?qc3 ?qc4 ?qc5 ?qc6 ?_)
    case qc1 => exact cellsI_len l
    case qc2 =>
      intro j u hj
      have hjl : j < l.length * 8 := by rw [← cellsI_len]; exact (List.getElem?_eq_some_iff.1 hj).1
      obtain ⟨b, off, e, hlt, _⟩ := HR.out (by omega)
      injection e with e
      subst e
      have hk : j / 8 < l.length := by omega
      have hr := HR.out.range (j / 8) l[j / 8] (List.getElem?_eq_getElem hk)
      have hm : j % 8 < (l[j / 8]).cellsL.length := Nat.mod_lt _ (by decide)
      have hg := cellsI_get l (j / 8) l[j / 8] (List.getElem?_eq_getElem hk) (j % 8) _ (List.getElem?_eq_getElem hm)
      rw [show j / 8 * 8 + j % 8 = j by omega, hj] at hg
      injection hg with hg
      subst hg
      have h := hr (j % 8) _ (List.getElem?_eq_getElem hm)
      rw [show off + j / 8 * 8 + j % 8 = off + j by omega] at h
      rw [Addr.add_mid]
      exact Lib.cell?_alloc_some _ h
    case qc3 =>
      intro u hu
      exact cellsI_one l u hu
    case qc4 => unfold maxLen; omega
    case qc5 => omega
    case qc6 => simp
    intro v' w1 hown hgrow hnil
    go_wp2_with fail
    go_ret
    have hb : Below w.heap.size w w1 := ((Below.refl _ w).alloc (Nat.le_refl _) _).grown hgrow (by simp) (by intro k hk; simp [Value.ownBlock] at hk; omega)
    rcases hown.2 with ⟨he, h0⟩ | ⟨g2, cap2, cur, he, hbg, _, hnc, _⟩
    · exact ⟨none, 0, by rw [he, h0]; rfl, by omega, .inl ⟨List.eq_nil_of_length_eq_zero h0, rfl, rfl⟩, hb⟩
    · refine ⟨_, cap2, by rw [he]; rfl, hnc, .inr ⟨g2, rfl, hbg, ?_⟩, hb⟩
      rw [he] at hown
      exact ic_of_own hown

theorem put1_any (s p : ByteArray) (g : Nat) (w : World) (hp : BxS w g p) : Calls Tryz.prog 36 #[.string s, .pointer (some ⟨g, 0, none⟩)] w fun e w' => e = .returned (.bool (s.toList == p.toList)) ∧ ∃ d, w' = w.drewN d := by
  have c0 := hp.2
  go_enter Tryz.func36, Tryz.ntmps36
  go_wp2_with fail
  go_ret
  exact ⟨rfl, 0, rfl⟩
theorem drop1_any (s p : ByteArray) (g : Nat) (w : World) (hp : BxS w g p) : Calls Tryz.prog 40 #[.string s, .pointer (some ⟨g, 0, none⟩)] w fun e w' => e = .returned (.bool (undB s p)) ∧ ∃ d, w' = w.drewN d := by
  have c0 := hp.2
  have HU := Lib.hid (fun w => under_any s p w)
  go_enter Tryz.func40, Tryz.ntmps40
  go_wp2_with fail
  refine (HU.out _).mono ?_; rintro e w1 ⟨rfl, rfl⟩
  go_wp2_with fail
  go_ret
  exact ⟨rfl, 0, rfl⟩

/-- A box with a closure of a box. -/
def BxFP (w : World) (gs g : Nat) : Prop := gs < w.heap.size ∧ w.cell? ⟨gs, 0, none⟩ = some (.func (.func 36) #[] #[.pointer (some ⟨g, 0, none⟩)])
theorem BxFP.below {w w' : World} {gs g : Nat} (h : BxFP w gs g) (hb : Below w.heap.size w w') : BxFP w' gs g := ⟨Nat.lt_of_lt_of_le h.1 hb.size, (hb.cell h.1).trans h.2⟩
theorem wo1P_any (X : Itm) (p : ByteArray) (gs g : Nat) (w : World) (hf : BxFP w gs g) (hp : BxS w g p) : Calls Tryz.prog 57 #[.agg X.cells, .pointer (some ⟨gs, 0, none⟩)] w fun e w' => e = .returned (.bool (X.s.toList == p.toList)) ∧ Below w.heap.size w w' := by
  have hir := info_item
  have hb1 := (Below.refl w.heap.size w).alloc (Nat.le_refl _) (.cells X.cells 42)
  have hx1 := heap_alloc_new w (.cells X.cells 42)
  have c0 := (hf.below hb1).2
  have HC := Lib.hid (put1_any X.s p g _ (hp.below hb1))
  have HB := Lib.hid hb1
  obtain ⟨x0, x1, x2, x3, x4, x5, x6, x7⟩ := X
  simp only [Itm.cells] at hx1 HB c0 HC
  have z0 := (cell_of_row _ _ 0 _ _ _ hx1).trans (show _ = some (Value.string x0) from rfl)
  simp only [Itm.cells]
  clear hb1 hx1 hf hp
  go_enter Tryz.func57, Tryz.ntmps57
  go_upto_region 1 with fail
  generalize hgg : w.heap.size = gx at *
  generalize w.alloc (.cells #[.string x0, .int .i64 x1, .int .u32 x2, .int .u32 x3, .int .u32 x4, .int .i64 x5, .int .i64 x6, .string x7] 42) = w2 at *
  go_wp2_with fail
  refine HC.out.mono ?_; rintro e w3 ⟨rfl, d, rfl⟩
  go_wp2_with fail
  go_ret
  exact ⟨rfl, by subst hgg; exact below_drewN HB.out d⟩
set_option maxHeartbeats 4000000 in
theorem withoutP_any (A : Option Addr) (c : Nat) (l : List Itm) (p : ByteArray) (g : Nat) (w : World) (hR : Itms w A l) (hl : l.length ≤ 100000) (hp : BxS w g p) :
    Calls Tryz.prog 35 #[.slice A l.length c, .func (.func 36) #[] #[.pointer (some ⟨g, 0, none⟩)]] w fun e w' => ∃ A' c', e = .returned (.slice A' (l.filter (fun X => !(X.s.toList == p.toList))).length c') ∧ (l.filter (fun X => !(X.s.toList == p.toList))).length ≤ c' ∧ NewB w' w.heap.size c' A' (l.filter (fun X => !(X.s.toList == p.toList))) ∧ Below w.heap.size w w' := by
  obtain ⟨W1, hW1⟩ : ∃ W1, W1 = w.alloc (.cells #[.func (.func 36) #[] #[.pointer (some ⟨g, 0, none⟩)]] 56) := ⟨_, rfl⟩
  have hb1 := (Below.refl w.heap.size w).alloc (Nat.le_refl _) (.cells #[.func (.func 36) #[] #[.pointer (some ⟨g, 0, none⟩)]] 56)
  have hx1 := heap_alloc_new w (.cells #[.func (.func 36) #[] #[.pointer (some ⟨g, 0, none⟩)]] 56)
  have hs1 : (w.alloc (.cells #[.func (.func 36) #[] #[.pointer (some ⟨g, 0, none⟩)]] 56)).heap.size = w.heap.size + 1 := by simp only [World.alloc, Array.size_push]
  rw [← hW1] at hb1 hx1 hs1
  have hbf : BxFP W1 w.heap.size g := ⟨by omega, (cell_of_row _ _ 0 _ _ _ hx1).trans rfl⟩
  have hC := cloneB_any A c l W1 (hR.below hb1) (by omega)
  have hp1 := hp.below hb1
  have HQ := Lib.hid (List.length_filter_le (fun X => !(X.s.toList == p.toList)) l)
  have HF := Lib.hid (fun w1 (hb : Below W1.heap.size W1 w1) => hbf.below hb)
  have HP := Lib.hid (fun w1 (hb : Below W1.heap.size W1 w1) => hp1.below hb)
  have HC := Lib.hid hC
  have HB1 := Lib.hid hb1
  have HS1 := Lib.hid hs1
  have HW1 := Lib.hid hW1
  clear hb1 hx1 hbf hC hp1 hR hp hs1 hW1
  go_enter Tryz.func35, Tryz.ntmps35
  go_upto_region 1 with fail
  rw [← HW1.out]
  generalize hgg : w.heap.size = gx at *
  go_wp2_with fail
  refine HC.out.mono ?_; rintro e w3 ⟨A1, c1, rfl, hlc, hN, hb3⟩
  have HB3 := Lib.hid hb3
  have hdel : Hid (Calls Tryz.prog 56 #[.slice A1 l.length c1, .func (.func 57) #[] #[.pointer (some ⟨gx, 0, none⟩)]] w3
      fun e w' => e = .returned (.slice A1 (l.filter (fun X => !(X.s.toList == p.toList))).length c1) ∧ NewB w' W1.heap.size c1 A1 (l.filter (fun X => !(X.s.toList == p.toList))) ∧ Below W1.heap.size W1 w') := by
    show Calls _ _ _ _ _
    rcases hN with ⟨rfl, rfl, rfl⟩ | ⟨g1, rfl, hg1, hIC⟩
    · refine (deleteW_nil none 0 gx w3).mono ?_
      rintro e w4 ⟨rfl, hb4⟩
      exact ⟨rfl, .inl ⟨rfl, rfl, rfl⟩, below_then HB3.out hb4⟩
    · refine (deleteW_any W1 (fun X => X.s.toList == p.toList) l g1 c1 gx w3 hl hlc hg1 (fun x _ w4 hb4 => wo1P_any x p gx g w4 (HF.out w4 hb4) (HP.out w4 hb4)) hb3 hIC).mono ?_
      rintro e w4 ⟨rfl, hic, hb4⟩
      exact ⟨rfl, .inr ⟨g1, rfl, hg1, hic⟩, hb4⟩
  clear hN hb3 HC HF HP HB3
  go_wp2_with fail
  refine hdel.out.mono ?_; rintro e w4 ⟨rfl, hN4, hb4⟩
  have HN4 := Lib.hid hN4
  have HB4 := Lib.hid hb4
  clear hN4 hb4 hdel
  go_wp2_with fail
  go_ret
  refine ⟨A1, c1, rfl, Nat.le_trans HQ.out hlc, ?_, ?_⟩
  · rcases HN4.out with h | ⟨g1, e, hg1, hic⟩
    · exact .inl h
    · exact .inr ⟨g1, e, by have := HS1.out; omega, hic⟩
  · subst hgg
    exact HB1.out.trans (HB4.out.mono (by have := HS1.out; omega))

/-- A box with a closure of a box. -/
def BxFD (w : World) (gs g : Nat) : Prop := gs < w.heap.size ∧ w.cell? ⟨gs, 0, none⟩ = some (.func (.func 40) #[] #[.pointer (some ⟨g, 0, none⟩)])
theorem BxFD.below {w w' : World} {gs g : Nat} (h : BxFD w gs g) (hb : Below w.heap.size w w') : BxFD w' gs g := ⟨Nat.lt_of_lt_of_le h.1 hb.size, (hb.cell h.1).trans h.2⟩
theorem wo1D_any (X : Itm) (p : ByteArray) (gs g : Nat) (w : World) (hf : BxFD w gs g) (hp : BxS w g p) : Calls Tryz.prog 57 #[.agg X.cells, .pointer (some ⟨gs, 0, none⟩)] w fun e w' => e = .returned (.bool (undB X.s p)) ∧ Below w.heap.size w w' := by
  have hir := info_item
  have hb1 := (Below.refl w.heap.size w).alloc (Nat.le_refl _) (.cells X.cells 42)
  have hx1 := heap_alloc_new w (.cells X.cells 42)
  have c0 := (hf.below hb1).2
  have HC := Lib.hid (drop1_any X.s p g _ (hp.below hb1))
  have HB := Lib.hid hb1
  obtain ⟨x0, x1, x2, x3, x4, x5, x6, x7⟩ := X
  simp only [Itm.cells] at hx1 HB c0 HC
  have z0 := (cell_of_row _ _ 0 _ _ _ hx1).trans (show _ = some (Value.string x0) from rfl)
  simp only [Itm.cells]
  clear hb1 hx1 hf hp
  go_enter Tryz.func57, Tryz.ntmps57
  go_upto_region 1 with fail
  generalize hgg : w.heap.size = gx at *
  generalize w.alloc (.cells #[.string x0, .int .i64 x1, .int .u32 x2, .int .u32 x3, .int .u32 x4, .int .i64 x5, .int .i64 x6, .string x7] 42) = w2 at *
  go_wp2_with fail
  refine HC.out.mono ?_; rintro e w3 ⟨rfl, d, rfl⟩
  go_wp2_with fail
  go_ret
  exact ⟨rfl, by subst hgg; exact below_drewN HB.out d⟩
set_option maxHeartbeats 4000000 in
theorem withoutD_any (A : Option Addr) (c : Nat) (l : List Itm) (p : ByteArray) (g : Nat) (w : World) (hR : Itms w A l) (hl : l.length ≤ 100000) (hp : BxS w g p) :
    Calls Tryz.prog 35 #[.slice A l.length c, .func (.func 40) #[] #[.pointer (some ⟨g, 0, none⟩)]] w fun e w' => ∃ A' c', e = .returned (.slice A' (l.filter (fun X => !(undB X.s p))).length c') ∧ (l.filter (fun X => !(undB X.s p))).length ≤ c' ∧ NewB w' w.heap.size c' A' (l.filter (fun X => !(undB X.s p))) ∧ Below w.heap.size w w' := by
  obtain ⟨W1, hW1⟩ : ∃ W1, W1 = w.alloc (.cells #[.func (.func 40) #[] #[.pointer (some ⟨g, 0, none⟩)]] 56) := ⟨_, rfl⟩
  have hb1 := (Below.refl w.heap.size w).alloc (Nat.le_refl _) (.cells #[.func (.func 40) #[] #[.pointer (some ⟨g, 0, none⟩)]] 56)
  have hx1 := heap_alloc_new w (.cells #[.func (.func 40) #[] #[.pointer (some ⟨g, 0, none⟩)]] 56)
  have hs1 : (w.alloc (.cells #[.func (.func 40) #[] #[.pointer (some ⟨g, 0, none⟩)]] 56)).heap.size = w.heap.size + 1 := by simp only [World.alloc, Array.size_push]
  rw [← hW1] at hb1 hx1 hs1
  have hbf : BxFD W1 w.heap.size g := ⟨by omega, (cell_of_row _ _ 0 _ _ _ hx1).trans rfl⟩
  have hC := cloneB_any A c l W1 (hR.below hb1) (by omega)
  have hp1 := hp.below hb1
  have HQ := Lib.hid (List.length_filter_le (fun X => !(undB X.s p)) l)
  have HF := Lib.hid (fun w1 (hb : Below W1.heap.size W1 w1) => hbf.below hb)
  have HP := Lib.hid (fun w1 (hb : Below W1.heap.size W1 w1) => hp1.below hb)
  have HC := Lib.hid hC
  have HB1 := Lib.hid hb1
  have HS1 := Lib.hid hs1
  have HW1 := Lib.hid hW1
  clear hb1 hx1 hbf hC hp1 hR hp hs1 hW1
  go_enter Tryz.func35, Tryz.ntmps35
  go_upto_region 1 with fail
  rw [← HW1.out]
  generalize hgg : w.heap.size = gx at *
  go_wp2_with fail
  refine HC.out.mono ?_; rintro e w3 ⟨A1, c1, rfl, hlc, hN, hb3⟩
  have HB3 := Lib.hid hb3
  have hdel : Hid (Calls Tryz.prog 56 #[.slice A1 l.length c1, .func (.func 57) #[] #[.pointer (some ⟨gx, 0, none⟩)]] w3
      fun e w' => e = .returned (.slice A1 (l.filter (fun X => !(undB X.s p))).length c1) ∧ NewB w' W1.heap.size c1 A1 (l.filter (fun X => !(undB X.s p))) ∧ Below W1.heap.size W1 w') := by
    show Calls _ _ _ _ _
    rcases hN with ⟨rfl, rfl, rfl⟩ | ⟨g1, rfl, hg1, hIC⟩
    · refine (deleteW_nil none 0 gx w3).mono ?_
      rintro e w4 ⟨rfl, hb4⟩
      exact ⟨rfl, .inl ⟨rfl, rfl, rfl⟩, below_then HB3.out hb4⟩
    · refine (deleteW_any W1 (fun X => undB X.s p) l g1 c1 gx w3 hl hlc hg1 (fun x _ w4 hb4 => wo1D_any x p gx g w4 (HF.out w4 hb4) (HP.out w4 hb4)) hb3 hIC).mono ?_
      rintro e w4 ⟨rfl, hic, hb4⟩
      exact ⟨rfl, .inr ⟨g1, rfl, hg1, hic⟩, hb4⟩
  clear hN hb3 HC HF HP HB3
  go_wp2_with fail
  refine hdel.out.mono ?_; rintro e w4 ⟨rfl, hN4, hb4⟩
  have HN4 := Lib.hid hN4
  have HB4 := Lib.hid hb4
  clear hN4 hb4 hdel
  go_wp2_with fail
  go_ret
  refine ⟨A1, c1, rfl, Nat.le_trans HQ.out hlc, ?_, ?_⟩
  · rcases HN4.out with h | ⟨g1, e, hg1, hic⟩
    · exact .inl h
    · exact .inr ⟨g1, e, by have := HS1.out; omega, hic⟩
  · subst hgg
    exact HB1.out.trans (HB4.out.mono (by have := HS1.out; omega))
end Go.Proofs.YtmeapijckncoeaaGreatDoor

namespace Go.Proofs.YtmeapijckncoeaaGreatDoor
set_option maxRecDepth 100000
set_option linter.unusedSimpArgs false
set_option linter.unusedVariables false
open Go.RowKit Go.Joins Go.Deep
open Go.Lib hiding intOf
/-- What Drop leaves. -/
def drpL (p : ByteArray) (l : List Itm) : List Itm := l.filter (fun X => !(undB X.s p))
set_option maxHeartbeats 4000000 in
theorem tdrop_any (A : Option Addr) (c : Nat) (l : List Itm) (p : ByteArray) (w : World) (hR : Itms w A l) (hl : l.length ≤ 100000) :
    Calls Tryz.prog 17 #[.slice A l.length c, .string p] w fun e w' => ∃ A' c', e = .returned (.slice A' (drpL p l).length c') ∧ NewB w' w.heap.size c' A' (drpL p l) ∧ Below w.heap.size w w' := by
  obtain ⟨W1, hW1⟩ : ∃ W1, W1 = w.alloc (.cells #[.string p] 9) := ⟨_, rfl⟩
  have hb1 := (Below.refl w.heap.size w).alloc (Nat.le_refl _) (.cells #[.string p] 9)
  have hx1 := heap_alloc_new w (.cells #[.string p] 9)
  have hs1 : (w.alloc (.cells #[.string p] 9)).heap.size = w.heap.size + 1 := by simp only [World.alloc, Array.size_push]
  rw [← hW1] at hb1 hx1 hs1
  have hC := withoutD_any A c l p w.heap.size W1 (hR.below hb1) hl ⟨by omega, (cell_of_row _ _ 0 _ _ _ hx1).trans rfl⟩
  have HC := Lib.hid hC
  have HB1 := Lib.hid hb1
  have HS1 := Lib.hid hs1
  have HW1 := Lib.hid hW1
  clear hb1 hx1 hC hR hs1 hW1
  go_enter Tryz.func17, Tryz.ntmps17
  go_upto_region 1 with fail
  rw [← HW1.out]
  generalize hgg : w.heap.size = gx at *
  go_wp2_with fail
  refine HC.out.mono ?_; rintro e w3 ⟨A1, c1, rfl, hlc, hN, hb3⟩
  have HB3 := Lib.hid hb3
  have HN := Lib.hid hN
  clear hN hb3 HC
  go_wp2_with fail
  go_ret
  refine ⟨A1, c1, rfl, ?_, ?_⟩
  · rcases HN.out with h | ⟨g1, e, hg1, hic⟩
    · exact .inl h
    · exact .inr ⟨g1, e, by have := HS1.out; omega, hic⟩
  · subst hgg
    exact HB1.out.trans (HB3.out.mono (by have := HS1.out; omega))
theorem results_ct_rowT {P : Program} {fn : Func} {p u : Tmp} {ty : TypeId} (h : fn.results = #[.cell p ty, .tmp u]) (tmps : Array Value) (w : World) (g : Nat) (t : TypeId) (cs : Array Value) (fr : Nat × Nat) (d : TypeDesc)
    (hp : tmps.getD p undef = .pointer (some ⟨g, 0, none⟩)) (hg : w.heap[g]? = some (.cells cs t fr))
    (hu : P.underlying ty = some d) (hd : (match d with | .struct _ | .array _ _ => true | _ => false) = true) (hi : (P.info? ty).map (·.size) = some cs.size) :
    (results fn tmps).run P w = .ok (.tuple #[.agg cs, tmps.getD u undef]) w := by
  rw [results_cell_tmp h, hp]
  simp [asAddr, run_loadVar_row w g t ty cs fr d hg hu hd hi, Result.andThen]
theorem info_nodeT : (Tryz.prog.info? 25).map (·.size) = some 7 := by kernel_rfl
/-- A node's cells. -/
def Itm.node (x : Itm) : Array Value := #[.int .i64 x.k, .int .u32 x.m, .int .u32 x.u, .int .u32 x.g, .int .i64 x.t, .int .i64 x.a, .string x.d]
/-- What Find answers. -/
def fndV (l : List Itm) (p : ByteArray) : Value := match l.find? (fun X => X.s.toList == p.toList) with
  | some x => .tuple #[.agg x.node, .bool true]
  | none => .tuple #[.agg #[.int .i64 0, .int .u32 0, .int .u32 0, .int .u32 0, .int .i64 0, .int .i64 0, .string ⟨#[]⟩], .bool false]
theorem find_take {α : Type} (q : α → Bool) (l : List α) (k : Nat) (h : k < l.length) (h0 : (l.take k).find? q = none) (hq : q l[k] = true) : l.find? q = some l[k] := by
  have h1 : (l.take k ++ l.drop k).find? q = some l[k] := by
    rw [List.find?_append, h0, Option.none_or, List.drop_eq_getElem_cons h, List.find?_cons, hq]
  rwa [List.take_append_drop] at h1
theorem find_take_no {α : Type} (q : α → Bool) (l : List α) (k : Nat) (h : k < l.length) (h0 : (l.take k).find? q = none) (hq : q l[k] = false) : (l.take (k + 1)).find? q = none := by
  rw [List.take_succ_eq_append_getElem h, List.find?_append, h0]
  simp [hq]
set_option maxHeartbeats 8000000 in
theorem tfind_any (A : Option Addr) (c : Nat) (l : List Itm) (p : ByteArray) (w : World) (hR : Itms w A l) (hl : l.length ≤ 1000000) :
    Calls Tryz.prog 6 #[.slice A l.length c, .string p] w fun e w' => e = .returned (fndV l p) ∧ Below w.heap.size w w' := by
  have hir := info_item
  obtain ⟨W1, hW1⟩ : ∃ W1, W1 = w.alloc (.cells #[.int .i64 0, .int .u32 0, .int .u32 0, .int .u32 0, .int .i64 0, .int .i64 0, .string ⟨#[]⟩] 25) := ⟨_, rfl⟩
  have hb1 := (Below.refl w.heap.size w).alloc (Nat.le_refl _) (.cells #[.int .i64 0, .int .u32 0, .int .u32 0, .int .u32 0, .int .i64 0, .int .i64 0, .string ⟨#[]⟩] 25)
  have hx1 := heap_alloc_new w (.cells #[.int .i64 0, .int .u32 0, .int .u32 0, .int .u32 0, .int .i64 0, .int .i64 0, .string ⟨#[]⟩] 25)
  have hs1 : (w.alloc (.cells #[.int .i64 0, .int .u32 0, .int .u32 0, .int .u32 0, .int .i64 0, .int .i64 0, .string ⟨#[]⟩] 25)).heap.size = w.heap.size + 1 := by simp only [World.alloc, Array.size_push]
  rw [← hW1] at hb1 hx1 hs1
  have HR := Lib.hid (hR.below hb1)
  have HX := Lib.hid hx1
  have HS := Lib.hid hs1
  have HB1 := Lib.hid hb1
  have HW1 := Lib.hid hW1
  obtain ⟨V, hV⟩ : ∃ V, V = fndV l p := ⟨_, rfl⟩
  rw [← hV]
  have HV := Lib.hid hV
  clear hR hV hb1 hx1 hs1 hW1
  go_enter Tryz.func6, Tryz.ntmps6
  go_wp2_with fail
  rw [← HW1.out]
  generalize hgg : w.heap.size = gx at *
  go_loopw [10] (fun v10 wr => ∃ k : Nat, k ≤ l.length ∧ v10 = .int .i64 (k : Nat) ∧ Hid ((l.take k).find? (fun X => X.s.toList == p.toList) = none) ∧ Hid (Below W1.heap.size W1 wr)) (fun v _ => l.length - (intOf v).toNat)
  case atStart => exact ⟨0, Nat.zero_le _, rfl, rfl, Below.refl _ _⟩
  case round =>
    obtain ⟨k, hk, rfl, HF, HB⟩ := hrel
    have HXR : Hid (wr.heap[gx]? = _) := (HB.out.block gx (by have := HS.out; omega)).trans HX.out
    by_cases hlt : k < l.length
    · have hd : decide ((k : Int) < (l.length : Int)) = true := decide_eq_true (by omega)
      obtain ⟨b, off, rfl, hb, hcc⟩ := (HR.out.below HB.out) (by omega)
      obtain ⟨c0, c1, c2, c3, c4, c5, c6, c7⟩ := hcc k l[k] (List.getElem?_eq_getElem hlt)
      have HFT := Lib.hid (find_take (fun X => X.s.toList == p.toList) l k hlt HF.out)
      have HFN := Lib.hid (find_take_no (fun X => X.s.toList == p.toList) l k hlt HF.out)
      have hx0 := heap_alloc_new wr (.cells l[k].cells 42)
      have HB2 := Lib.hid (HB.out.alloc HB.out.size (.cells l[k].cells 42))
      have HX2 := Lib.hid (((below_al wr (.cells l[k].cells 42)).block gx (lt_of_block HXR.out)).trans HXR.out)
      simp only [Itm.cells] at hx0 HB2 HX2
      generalize hx : l[k] = x at *
      obtain ⟨x0, x1, x2, x3, x4, x5, x6, x7⟩ := x
      dsimp only at c0 c1 c2 c3 c4 c5 c6 c7 HB2 hx0 HX2
      have HLX := Lib.hid hx
      have d0 := (cell_of_row _ _ 0 _ _ _ hx0).trans (show _ = some (.string x0) from rfl)
      have d1 := (cell_of_row _ _ 1 _ _ _ hx0).trans (show _ = some (.int .i64 x1) from rfl)
      have d2 := (cell_of_row _ _ 2 _ _ _ hx0).trans (show _ = some (.int .u32 x2) from rfl)
      have d3 := (cell_of_row _ _ 3 _ _ _ hx0).trans (show _ = some (.int .u32 x3) from rfl)
      have d4 := (cell_of_row _ _ 4 _ _ _ hx0).trans (show _ = some (.int .u32 x4) from rfl)
      have d5 := (cell_of_row _ _ 5 _ _ _ hx0).trans (show _ = some (.int .i64 x5) from rfl)
      have d6 := (cell_of_row _ _ 6 _ _ _ hx0).trans (show _ = some (.int .i64 x6) from rfl)
      have d7 := (cell_of_row _ _ 7 _ _ _ hx0).trans (show _ = some (.string x7) from rfl)
      clear hcc hx hx0
      by_cases hq : (x0.toList == p.toList) = true
      · have HVV : Hid (V = .tuple #[.agg #[.int .i64 x1, .int .u32 x2, .int .u32 x3, .int .u32 x4, .int .i64 x5, .int .i64 x6, .string x7], .bool true]) := by
          show V = _
          rw [HV.out]; unfold fndV; rw [HFT.out hq]; rfl
        have hxr := HX2.out
        clear HFN HFT HV HR HF HX
        go_wp2_with (first
          | refine wpList_store_row rfl 25 (.tmp 4) (.tmp 19) rfl gx #[.int .i64 x1, .int .u32 x2, .int .u32 x3, .int .u32 x4, .int .i64 x5, .int .i64 x6, .string x7] rfl rfl 25 _ HX2.out info_nodeT rfl (by simp [Value.oneCell']) ?_
          | fail)
        have HX3 := Lib.hid (setRow_heap _ _ _ #[.int .i64 x1, .int .u32 x2, .int .u32 x3, .int .u32 x4, .int .i64 x5, .int .i64 x6, .string x7] _ _ HX2.out)
        rw [HVV.out]
        exact bodyPost_ret (results_ct_rowT rfl _ _ gx 25 _ (0, 0) _ rfl HX3.out Tryz.underlying25 rfl info_nodeT) rfl ⟨rfl, by rw [hgg]; exact below_setRow (HB1.out.trans (HB2.out.mono (by have := HS.out; omega))) (Nat.le_refl _) _⟩
      · have hq := Bool.eq_false_iff.2 hq
        have HF2 := Lib.hid (HFN.out hq)
        clear HFN HFT HV HR HF HX
        go_wp2_with fail
        go_roundw
        case rel => exact ⟨k + 1, by omega, by go_num, HF2, HB2⟩
        case measure => simp [intOf]; omega
    · obtain rfl : k = l.length := by omega
      have hd : decide ((l.length : Int) < (l.length : Int)) = false := decide_eq_false (by omega)
      have HVV : Hid (V = .tuple #[.agg #[.int .i64 0, .int .u32 0, .int .u32 0, .int .u32 0, .int .i64 0, .int .i64 0, .string ⟨#[]⟩], .bool false]) := by
        show V = _
        have h := HF.out
        rw [List.take_length] at h
        rw [HV.out]; unfold fndV; rw [h]
      have HXR := Lib.hid HXR.out
      have HX3 := Lib.hid (setRow_heap _ _ _ #[.int .i64 0, .int .u32 0, .int .u32 0, .int .u32 0, .int .i64 0, .int .i64 0, .string ⟨#[]⟩] _ _ HXR.out)
      go_wp2_with (first
        | refine wpList_store_row rfl 25 (.tmp 4) (.tmp 21) rfl gx #[.int .i64 0, .int .u32 0, .int .u32 0, .int .u32 0, .int .i64 0, .int .i64 0, .string ⟨#[]⟩] rfl rfl 25 _ HXR.out info_nodeT rfl (by simp [Value.oneCell']) ?_
        | fail)
      rw [HVV.out]
      exact bodyPost_ret (results_ct_rowT rfl _ _ gx 25 _ (0, 0) _ rfl HX3.out Tryz.underlying25 rfl info_nodeT) rfl ⟨rfl, by rw [hgg]; exact below_setRow (HB1.out.trans (HB.out.mono (by have := HS.out; omega))) (Nat.le_refl _) _⟩
end Go.Proofs.YtmeapijckncoeaaGreatDoor

namespace Go.Proofs.YtmeapijckncoeaaGreatDoor
set_option maxRecDepth 100000
set_option linter.unusedSimpArgs false
set_option linter.unusedVariables false
open Go.RowKit Go.Joins Go.Deep
open Go.Lib hiding intOf
set_option maxHeartbeats 8000000 in
theorem rfind_any (A : Option Addr) (c : Nat) (l : List Itm) (p : ByteArray) (w : World) (hR : Itms w A l) (hl : l.length ≤ 1000000) :
    Calls Tryz.prog 7 #[.slice A l.length c, .string p] w fun e w' => e = .returned (fndV l p) ∧ Below w.heap.size w w' := by
  have hir := info_item
  obtain ⟨W1, hW1⟩ : ∃ W1, W1 = w.alloc (.cells #[.int .i64 0, .int .u32 0, .int .u32 0, .int .u32 0, .int .i64 0, .int .i64 0, .string ⟨#[]⟩] 25) := ⟨_, rfl⟩
  have hb1 := (Below.refl w.heap.size w).alloc (Nat.le_refl _) (.cells #[.int .i64 0, .int .u32 0, .int .u32 0, .int .u32 0, .int .i64 0, .int .i64 0, .string ⟨#[]⟩] 25)
  have hx1 := heap_alloc_new w (.cells #[.int .i64 0, .int .u32 0, .int .u32 0, .int .u32 0, .int .i64 0, .int .i64 0, .string ⟨#[]⟩] 25)
  have hs1 : (w.alloc (.cells #[.int .i64 0, .int .u32 0, .int .u32 0, .int .u32 0, .int .i64 0, .int .i64 0, .string ⟨#[]⟩] 25)).heap.size = w.heap.size + 1 := by simp only [World.alloc, Array.size_push]
  rw [← hW1] at hb1 hx1 hs1
  have HR := Lib.hid (hR.below hb1)
  have HX := Lib.hid hx1
  have HS := Lib.hid hs1
  have HB1 := Lib.hid hb1
  have HW1 := Lib.hid hW1
  obtain ⟨V, hV⟩ : ∃ V, V = fndV l p := ⟨_, rfl⟩
  rw [← hV]
  have HV := Lib.hid hV
  clear hR hV hb1 hx1 hs1 hW1
  go_enter Tryz.func7, Tryz.ntmps7
  go_wp2_with fail
  rw [← HW1.out]
  generalize hgg : w.heap.size = gx at *
  go_loopw [10] (fun v10 wr => ∃ k : Nat, k ≤ l.length ∧ v10 = .int .i64 (k : Nat) ∧ Hid ((l.take k).find? (fun X => X.s.toList == p.toList) = none) ∧ Hid (Below W1.heap.size W1 wr)) (fun v _ => l.length - (intOf v).toNat)
  case atStart => exact ⟨0, Nat.zero_le _, rfl, rfl, Below.refl _ _⟩
  case round =>
    obtain ⟨k, hk, rfl, HF, HB⟩ := hrel
    have HXR : Hid (wr.heap[gx]? = _) := (HB.out.block gx (by have := HS.out; omega)).trans HX.out
    by_cases hlt : k < l.length
    · have hd : decide ((k : Int) < (l.length : Int)) = true := decide_eq_true (by omega)
      obtain ⟨b, off, rfl, hb, hcc⟩ := (HR.out.below HB.out) (by omega)
      obtain ⟨c0, c1, c2, c3, c4, c5, c6, c7⟩ := hcc k l[k] (List.getElem?_eq_getElem hlt)
      have HFT := Lib.hid (find_take (fun X => X.s.toList == p.toList) l k hlt HF.out)
      have HFN := Lib.hid (find_take_no (fun X => X.s.toList == p.toList) l k hlt HF.out)
      have hx0 := heap_alloc_new wr (.cells l[k].cells 42)
      have HB2 := Lib.hid (HB.out.alloc HB.out.size (.cells l[k].cells 42))
      have HX2 := Lib.hid (((below_al wr (.cells l[k].cells 42)).block gx (lt_of_block HXR.out)).trans HXR.out)
      simp only [Itm.cells] at hx0 HB2 HX2
      generalize hx : l[k] = x at *
      obtain ⟨x0, x1, x2, x3, x4, x5, x6, x7⟩ := x
      dsimp only at c0 c1 c2 c3 c4 c5 c6 c7 HB2 hx0 HX2
      have HLX := Lib.hid hx
      have d0 := (cell_of_row _ _ 0 _ _ _ hx0).trans (show _ = some (.string x0) from rfl)
      have d1 := (cell_of_row _ _ 1 _ _ _ hx0).trans (show _ = some (.int .i64 x1) from rfl)
      have d2 := (cell_of_row _ _ 2 _ _ _ hx0).trans (show _ = some (.int .u32 x2) from rfl)
      have d3 := (cell_of_row _ _ 3 _ _ _ hx0).trans (show _ = some (.int .u32 x3) from rfl)
      have d4 := (cell_of_row _ _ 4 _ _ _ hx0).trans (show _ = some (.int .u32 x4) from rfl)
      have d5 := (cell_of_row _ _ 5 _ _ _ hx0).trans (show _ = some (.int .i64 x5) from rfl)
      have d6 := (cell_of_row _ _ 6 _ _ _ hx0).trans (show _ = some (.int .i64 x6) from rfl)
      have d7 := (cell_of_row _ _ 7 _ _ _ hx0).trans (show _ = some (.string x7) from rfl)
      clear hcc hx hx0
      by_cases hq : (x0.toList == p.toList) = true
      · have HVV : Hid (V = .tuple #[.agg #[.int .i64 x1, .int .u32 x2, .int .u32 x3, .int .u32 x4, .int .i64 x5, .int .i64 x6, .string x7], .bool true]) := by
          show V = _
          rw [HV.out]; unfold fndV; rw [HFT.out hq]; rfl
        have hxr := HX2.out
        clear HFN HFT HV HR HF HX
        go_wp2_with (first
          | refine wpList_store_row rfl 25 (.tmp 4) (.tmp 19) rfl gx #[.int .i64 x1, .int .u32 x2, .int .u32 x3, .int .u32 x4, .int .i64 x5, .int .i64 x6, .string x7] rfl rfl 25 _ HX2.out info_nodeT rfl (by simp [Value.oneCell']) ?_
          | fail)
        have HX3 := Lib.hid (setRow_heap _ _ _ #[.int .i64 x1, .int .u32 x2, .int .u32 x3, .int .u32 x4, .int .i64 x5, .int .i64 x6, .string x7] _ _ HX2.out)
        rw [HVV.out]
        exact bodyPost_ret (results_ct_rowT rfl _ _ gx 25 _ (0, 0) _ rfl HX3.out Tryz.underlying25 rfl info_nodeT) rfl ⟨rfl, by rw [hgg]; exact below_setRow (HB1.out.trans (HB2.out.mono (by have := HS.out; omega))) (Nat.le_refl _) _⟩
      · have hq := Bool.eq_false_iff.2 hq
        have HF2 := Lib.hid (HFN.out hq)
        clear HFN HFT HV HR HF HX
        go_wp2_with fail
        go_roundw
        case rel => exact ⟨k + 1, by omega, by go_num, HF2, HB2⟩
        case measure => simp [intOf]; omega
    · obtain rfl : k = l.length := by omega
      have hd : decide ((l.length : Int) < (l.length : Int)) = false := decide_eq_false (by omega)
      have HVV : Hid (V = .tuple #[.agg #[.int .i64 0, .int .u32 0, .int .u32 0, .int .u32 0, .int .i64 0, .int .i64 0, .string ⟨#[]⟩], .bool false]) := by
        show V = _
        have h := HF.out
        rw [List.take_length] at h
        rw [HV.out]; unfold fndV; rw [h]
      have HXR := Lib.hid HXR.out
      have HX3 := Lib.hid (setRow_heap _ _ _ #[.int .i64 0, .int .u32 0, .int .u32 0, .int .u32 0, .int .i64 0, .int .i64 0, .string ⟨#[]⟩] _ _ HXR.out)
      go_wp2_with (first
        | refine wpList_store_row rfl 25 (.tmp 4) (.tmp 21) rfl gx #[.int .i64 0, .int .u32 0, .int .u32 0, .int .u32 0, .int .i64 0, .int .i64 0, .string ⟨#[]⟩] rfl rfl 25 _ HXR.out info_nodeT rfl (by simp [Value.oneCell']) ?_
        | fail)
      rw [HVV.out]
      exact bodyPost_ret (results_ct_rowT rfl _ _ gx 25 _ (0, 0) _ rfl HX3.out Tryz.underlying25 rfl info_nodeT) rfl ⟨rfl, by rw [hgg]; exact below_setRow (HB1.out.trans (HB.out.mono (by have := HS.out; omega))) (Nat.le_refl _) _⟩
/-- The Kind of a path in a tree. -/
def kndL (l : List Itm) (p : ByteArray) : Int := if p.toList.isEmpty = true then 1 else match l.find? (fun X => X.s.toList == p.toList) with
  | some x => x.k
  | none => 0
set_option maxHeartbeats 4000000 in
theorem rkind_any (A : Option Addr) (c : Nat) (l : List Itm) (p : ByteArray) (w : World) (hR : Itms w A l) (hl : l.length ≤ 1000000) :
    Calls Tryz.prog 55 #[.slice A l.length c, .string p] w fun e w' => e = .returned (.int .i64 (kndL l p)) ∧ Below w.heap.size w w' := by
  have HF := Lib.hid (rfind_any A c l p w hR hl)
  have HK : Hid (kndL l p = _) := rfl
  unfold kndL at HK ⊢
  unfold fndV at HF
  have hinod := info_nodeT
  clear hR
  by_cases h0 : p.toList.isEmpty = true
  · rw [if_pos h0]
    have hpe : (p.toList == []) = true := by cases h : p.toList <;> simp_all
    go_enter Tryz.func55, Tryz.ntmps55
    go_wp2_with fail
    go_ret
    exact ⟨rfl, Below.refl _ _⟩
  · rw [if_neg h0]
    have hpe : (p.toList == []) = false := by cases h : p.toList <;> simp_all
    cases hf : l.find? (fun X => X.s.toList == p.toList) with
    | none =>
      rw [hf] at HF
      dsimp only at HF
      clear hf HK
      go_enter Tryz.func55, Tryz.ntmps55
      go_wp2_with fail
      refine HF.out.mono ?_; rintro e w1 ⟨rfl, hb⟩
      have HB := Lib.hid (hb.trans ((Below.refl _ w1).alloc (Nat.le_refl _) (.cells #[.int .i64 0, .int .u32 0, .int .u32 0, .int .u32 0, .int .i64 0, .int .i64 0, .string ⟨#[]⟩] 25) |>.mono hb.size))
      clear hb HF
      go_wp2_with fail
      go_ret
      exact ⟨rfl, HB.out⟩
    | some x =>
      rw [hf] at HF
      dsimp only at HF
      clear hf HK
      obtain ⟨x0, x1, x2, x3, x4, x5, x6, x7⟩ := x
      simp only [Itm.node] at HF ⊢
      go_enter Tryz.func55, Tryz.ntmps55
      go_wp2_with fail
      refine HF.out.mono ?_; rintro e w1 ⟨rfl, hb⟩
      have HB := Lib.hid (hb.trans ((Below.refl _ w1).alloc (Nat.le_refl _) (.cells #[.int .i64 x1, .int .u32 x2, .int .u32 x3, .int .u32 x4, .int .i64 x5, .int .i64 x6, .string x7] 25) |>.mono hb.size))
      clear hb HF
      go_wp2_with fail
      go_ret
      exact ⟨rfl, HB.out⟩
end Go.Proofs.YtmeapijckncoeaaGreatDoor

namespace Go.Proofs.YtmeapijckncoeaaGreatDoor
set_option maxRecDepth 100000
open Go.RowKit Go.Deep Go.Joins

def bad2 : ByteArray := ⟨#[0, 92]⟩
theorem enc_high (r : Nat) (hv : Utf8.valid (r : Int) = true) (h128 : 128 ≤ r) : ∃ m x, (Utf8.encode (r : Int)).size = m ∧ 2 ≤ m ∧ m ≤ 4 ∧ (Utf8.encode (r : Int))[m - 1]? = some x ∧ 128 ≤ x.toNat := by
  obtain ⟨h1, h2, h3⟩ := encode_facts (r : Int) hv (by omega)
  refine ⟨_, (Utf8.encode (r : Int))[(Utf8.encode (r : Int)).size - 1]'(by omega), rfl, h1, h2, ?_, h3 (by omega)⟩
  rw [getElem?_pos]

theorem lib_valid (r : Int) : Utf8.valid r = Lib.validRune r := by
  rw [validRune_eq]
  rfl
set_option maxHeartbeats 8000000 in
set_option maxRecDepth 1000000 in
theorem indexRune_high (r : Nat) (h0 : 128 ≤ r) (h1 : r ≤ 2147483647) (w : World) :
    Calls Tryz.prog 112 #[.string ⟨#[0, 92]⟩, .int .i32 (r : Nat)] w fun e w' => e = .returned (.int .i64 (-1)) ∧ Below w.heap.size w w' := by
  have hd1 : decide ((r : Int) < 128) = false := decide_eq_false (by omega)
  by_cases hr : r = 65533
  · subst hr
    have e0 : ((65533 : Nat) : Int) = 65533 := rfl
    have hn0 : ∀ ty, (Instr.next (.pointer (some ⟨w.heap.size, 0, none⟩)) true ty).run Tryz.prog (w.iter ⟨#[0, 92]⟩ 0) = .ok (.tuple #[.bool true, .int .i64 0, .int .i32 0]) (w.iter ⟨#[0, 92]⟩ 1) := fun ty => run_next_any w ⟨#[0, 92]⟩ 0 ty (by decide)
    have hn1 : ∀ ty, (Instr.next (.pointer (some ⟨w.heap.size, 0, none⟩)) true ty).run Tryz.prog (w.iter ⟨#[0, 92]⟩ 1) = .ok (.tuple #[.bool true, .int .i64 1, .int .i32 92]) (w.iter ⟨#[0, 92]⟩ 2) := fun ty => run_next_any w ⟨#[0, 92]⟩ 1 ty (by decide)
    have hn2 : ∀ ty, (Instr.next (.pointer (some ⟨w.heap.size, 0, none⟩)) true ty).run Tryz.prog (w.iter ⟨#[0, 92]⟩ 2) = _ := fun ty => run_next_end w ⟨#[0, 92]⟩ 2 ty (by decide)
    go_enter Tryz.func112, Tryz.ntmps112
    go_wp2_with fail
    refine wp_loop_rounds 3 ?_
    rw [rounds_succ]
    go_wp2_with fail
    rw [rounds_succ]
    go_wp2_with fail
    rw [rounds_succ]
    go_wp2_with fail
    go_ret
    exact ⟨rfl, below_iter _ _ _⟩
  · have hr2 : ((r : Int) == 65533) = false := by rw [beq_eq_false_iff_ne]; omega
    cases hv : Utf8.valid (r : Int) with
    | false =>
      have hvr : Lib.validRune (r : Int) = false := by rw [← lib_valid]; exact hv
      go_enter Tryz.func112, Tryz.ntmps112
      go_wp2_with fail
      refine (sh_utf8_ValidRune _ _).mono ?_
      rintro e w1 ⟨rfl, rfl⟩
      rw [hvr]
      go_wp2
      go_ret
      exact ⟨rfl, Below.refl _ _⟩
    | true =>
      have hvr : Lib.validRune (r : Int) = true := by rw [← lib_valid]; exact hv
      obtain ⟨m, x, hm, hm2, hm4, hx, hx8⟩ := enc_high r hv h0
      go_enter Tryz.func112, Tryz.ntmps112
      go_wp2_with fail
      refine (sh_utf8_ValidRune _ _).mono ?_
      rintro e w1 ⟨rfl, rfl⟩
      rw [hvr]
      have hcv : ∀ w, (convert 21 9 (.int .i32 (r : Int))).run Tryz.prog w = .ok (.string (Utf8.encode (r : Int))) w := fun w => run_convert_int_string w _ _ _ _ (by kernel_rfl) Tryz.underlying9
      generalize Utf8.encode (r : Int) = rs at *
      have HX := Lib.hid hx
      clear hx
      by_cases h2 : m = 2
      · subst h2
        have hi1 : (2 : Int) - 1 = 1 := rfl
        have hsz1 : 1 < rs.size := by omega
        have hrx : rs[1] = x := by
          have h := HX.out
          rw [show 2 - 1 = 1 from rfl, getElem?_pos rs 1 hsz1] at h
          exact Option.some.inj h
        have hneq : (((((⟨#[0, 92]⟩ : ByteArray)[1]'(by decide)).toNat : Nat) : Int) != (x.toNat : Int)) = true := by
          rw [bne_iff_ne]
          show ((92 : Nat) : Int) ≠ _
          omega
        go_wp2_with fail
        go_step3
        go_wp2_with fail
        refine wp_loop_rounds 1 ?_
        rw [rounds_succ]
        go_wp2_with fail
        go_step3
        go_wp2_with fail
        go_quiet (fail)
        have HD2 : Hid (Below w1.heap.size w1 (w1.drewN nq)) := below_drewN (Below.refl _ _) nq
        have hw2 : IntKind.i64.wrap 2 = 2 := rfl
        generalize w1.drewN nq = w2 at *
        go_wp2_with fail
        go_quiet (first | (go_at_call 119; exact Calls.quiet_of_same (sh_strings_IndexByte _ _ _)))
        have hib : Lib.indexByte ByteArray.empty.data.toList ((x.toNat : Int)).toNat.toUInt8 = -1 := rfl
        rw [hib]
        go_wp2_with fail
        go_simp
        go_ret
        exact ⟨rfl, below_drewN HD2.out _⟩
      · have hm3 : (2 : Int) ≤ (m : Int) - 1 := by omega
        go_wp2_with fail
        go_step3
        go_wp2_with fail
        refine wp_loop_rounds 1 ?_
        rw [rounds_succ]
        go_wp2_with fail
        rw [Exit.noGoto_ret]
        go_ret
        exact ⟨rfl, Below.refl _ _⟩
end Go.Proofs.YtmeapijckncoeaaGreatDoor
