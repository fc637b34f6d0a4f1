/-
  The walk of PrefixBack, where there is a code of one length and more.
-/
import Derived.Test.YtmmcolfeboammaaPreE
import Derived.Test.YtmmcolfeboammaaPreP
import Derived.Test.YtmmcolfeboammaaBitsWritesWalk
import Derived.Maps.AppendAt
namespace Go.Proofs.Ytmmcolfeboammaa
open Go.RowKit Go.Joins

theorem put_apart {w : World} {B C gw M L m : Nat} {r : Option Nat} {v : Value} {xs : List Value} (hw : Wr w C gw r M L) (ho : w.ownsRow B 3 1 v m xs) : ∀ j, v.ownBlock = some j → j ≠ gw ∧ some j ≠ r := by
  intro j hj
  rcases ho.2 with ⟨rfl, _⟩ | ⟨g, cap, cur, rfl, _, hb, _⟩
  · simp [Value.ownBlock] at hj
  · have e : g = j := by simpa [Value.ownBlock] using hj
    subst e
    refine ⟨?_, fun e => hw.row_ne (by decide) hb e.symm⟩
    rintro rfl
    obtain ⟨_, v0, hb0, _⟩ := hw
    rw [hb0] at hb
    simp at hb
/-- The cells of the signs that were put. -/
def pc (q : Nat → Nat) (m : Nat) : List Value := (List.range m).map fun i => Value.int .i64 (q i : Nat)
theorem pc_at (q : Nat → Nat) (m i : Nat) (hi : i < m) : (pc q m)[i]? = some (.int .i64 (q i : Nat)) := by
  rw [pc, List.getElem?_map, List.getElem?_range hi]
  rfl
def qs (q : Nat → Nat) (m p : Nat) (i : Nat) : Nat := if i = m then p else q i
theorem pc_step (q : Nat → Nat) (m p : Nat) : pc (qs q m p) (m + 1) = pc q m ++ [.int .i64 (p : Nat)] := by
  rw [pc, List.range_succ, List.map_append]
  congr 1
  · apply List.map_congr_left
    intro i hi
    have := List.mem_range.1 hi
    rw [qs, if_neg (by omega)]
  · show [Value.int .i64 ((qs q m p m : Nat) : Int)] = _
    rw [qs, if_pos rfl]
theorem bt_step (ls W q : Nat → Nat) (m p : Nat) : bt ls W (qs q m p) (m + 1) = ((bt ls W q m).1 + rev (W p) (ls p) * 2 ^ (bt ls W q m).2, (bt ls W q m).2 + ls p) := by
  rw [bt, bt_ext ls W (qs q m p) q m (fun i hi => by rw [qs, if_neg (by omega)]), show qs q m p m = p from if_pos rfl]
theorem info64 : (Try.prog.info? 3).map (fun i => (i.zero, i.size, i.bytes)) = some (some (.int .i64 0), 1, 8) := by kernel_rfl
def Sgs (w : World) (S : Option Addr) (len : Nat) (f : Nat → Nat) : Prop := 0 < len → ∃ b off, S = some ⟨b, off, none⟩ ∧ b < w.heap.size ∧ ∀ i, i < len → w.cell? ⟨b, off + i, none⟩ = some (.int .u16 (f i : Nat)) ∧ f i < 65536

set_option maxRecDepth 100000 in
set_option maxHeartbeats 8000000 in
theorem back_ok (A S : Option Addr) (n cap len scap : Nat) (ls f : Nat → Nat) (hn0 : 0 < n) (hn : n ≤ 400) (hlen : len ≤ 100) (w : World) (hL : Lens w A n ls) (hS : Sgs w S len f) (h15 : ∀ i, i < n → ls i ≤ 15) (hf : fillN ls n ≤ 32768) (hacc : fillN ls n = 32768 ∨ sumN ls n ≤ 1) :
    Calls Try.prog 9 #[.slice A n cap, .slice S len scap] w fun e w' => e = .returned (.bool true) ∧ Below w.heap.size w w' := by
  have HN := Lib.hid (fun w1 (h : Below w.heap.size w w1) => new_ok A n cap true ls (by omega) w1 (hL.below (Nat.le_refl _) h) h15 hf (hacc.imp id fun h => ⟨rfl, h⟩))
  have HW : Hid (∀ i, i < n → ls i < 256 ∧ wordN ls n i < 4294967296) := fun i hi => ⟨by have := h15 i hi; omega, by have := wordN_le ls n h15 (by omega) i hi; omega⟩
  have hmx := max_le ls n h15
  have HLM := Lib.hid (fun i (hi : i < n) => le_max ls n i hi)
  have H15 := Lib.hid h15
  have HL := Lib.hid hL
  have HS := Lib.hid hS
  have HBK := Lib.hid (fun q j m mx many N l e x (hj : j < m) hp h1 hmx hmany hN hs => back_sign ls q n j m mx many N l e x h15 hf hj hp h1 hmx hmany hN hs)
  clear hL h15 hf hS hacc
  generalize (if n = 0 then 0 else maxN ls (n - 1)) = mx at *
  generalize hWW : wordN ls n = W at *
  clear hWW
  go_enter Try.func9, Try.ntmps9
  go_wp2_with (go_at_call 37; refine (awake4_any _).mono ?_; rintro e w1 ⟨rfl, hb1⟩)
  have HB1 := Lib.hid hb1
  clear hb1
  go_wp2_with (go_at_call 38; refine (HN.out _ HB1.out).mono ?_; rintro e w2 ⟨g, rfl, ⟨bm, hcd⟩, hb2⟩)
  have HCD := Lib.hid hcd
  have HB2 := Lib.hid (below_then HB1.out hb2)
  clear hcd hb2 HN
  generalize w1.heap.size = B1 at *
  have hw3 := wr_new w2 w2.heap.size (Nat.le_refl _)
  have hb3 : Below w2.heap.size w2 (w2.alloc (.cells #[.slice none 0 0, .int .u64 0, .int .i64 0] 45)) := (Below.refl _ _).alloc (Nat.le_refl _) _
  go_wp2_with fail
  generalize w2.alloc (.cells #[.slice none 0 0, .int .u64 0, .int .i64 0] 45) = W3 at *
  obtain ⟨C, hC⟩ : ∃ C, C = w2.heap.size := ⟨_, rfl⟩
  rw [← hC] at hw3 hb3 ⊢
  have HI : Hid (W3.ownsRow C 3 1 (.slice none 0 0) 0 (pc (fun _ => 0) 0) ∧ Wr W3 C C none 0 0 ∧ Below C w2 W3) := ⟨World.ownsRow_nil _ _ _ _, hw3, hb3⟩
  have HC := Lib.hid hC
  clear hw3 hb3 HB1 hC
  go_loopw [41, 8] (fun i v wr => ∃ (k m : Nat) (q : Nat → Nat) (r : Option Nat), k ≤ len ∧ m ≤ k ∧ i = .int .i64 k ∧ (bt ls W q m).2 ≤ 15 * m ∧ (∀ i, i < m → q i < n ∧ 1 ≤ ls (q i)) ∧ wr.ownsRow C 3 1 v m (pc q m) ∧ Wr wr C C r (bt ls W q m).1 (bt ls W q m).2 ∧ Below C w2 wr) (fun i _ _ => len - (intOf i).toNat)
  case atStart => exact ⟨0, 0, fun _ => 0, none, Nat.zero_le _, Nat.le_refl _, rfl, Nat.le_refl _, fun i hi => by omega, HI.out.1, HI.out.2.1, HI.out.2.2⟩
  case round =>
    obtain ⟨k, m, q, r, hk, hmk, rfl, hL5, hq, ho, hw, hb⟩ := hrel
    have HO := Lib.hid ho
    have HWR := Lib.hid hw
    have HB := Lib.hid hb
    have HQ := Lib.hid hq
    have hcs : C ≤ wr.heap.size := HC.out ▸ hb.size
    have HCS := Lib.hid hcs
    have hbw : Below w.heap.size w wr := HB2.out.trans (hb.mono (HC.out ▸ HB2.out.size))
    have HBW := Lib.hid hbw
    clear hb hq hw ho
    by_cases hlt : k < len
    · obtain ⟨b2, off2, rfl, hb2l, hcl⟩ := HS.out (by omega)
      have hcell := (hbw.cell (p := ⟨b2, off2 + k, none⟩) hb2l).trans (hcl k hlt).1
      have hfk := (hcl k hlt).2
      have hn0' : ((n : Int) == 0) = false := by rw [beq_eq_false_iff_ne]; omega
      have hmod : ((f k : Nat) : Int).tmod (n : Int) = ((f k % n : Nat) : Int) := by rw [Int.tmod_eq_emod_of_nonneg (by omega)]; rfl
      have hp : f k % n < n := Nat.mod_lt _ hn0
      clear hcl hbw
      generalize f k = fk at *
      generalize fk % n = p at *
      have hcd := HCD.out.below (HC.out ▸ HB.out)
      obtain ⟨bl, offl, rfl, hbll, hcl2⟩ := HL.out hn0
      have hlc := (hcl2 p hp)
      clear hcl2
      go_wp2_with fail
      by_cases hl0 : ls p = 0
      · refine (put_no B1 g bm n mx p C ls W hp hl0 wr hcd).mono ?_; rintro e1 w5 ⟨rfl, rfl⟩
        have hcl5 := (HBW.out.cell (p := ⟨bl, offl + p, none⟩) hbll).trans hlc.1
        rw [hl0] at hcl5
        clear hcd hlc
        go_wp2_with fail
        go_roundw
        case rel => exact ⟨k + 1, m, q, r, by omega, by omega, by go_num, hL5, HQ.out, HO.out, HWR.out, HB.out⟩
        case measure => simp [intOf]; omega
      · have hl15 := H15.out p hp
        refine (put_ok B1 g bm n mx p C C (bt ls W q m).1 (bt ls W q m).2 r ls W hp (by omega) hl15 (HW.out p hp).2 (by omega) wr hcs hcd HWR.out).mono ?_; rintro e1 w5 ⟨rfl, r5, hw5, hu5⟩
        have hb5 : Below C w2 w5 := Kept.below0 hcs HB.out hu5.1 HWR.out.ge
        have ho5 : w5.ownsRow C 3 1 u8 m (pc q m) := row_kept' HO.out fun j hj => hu5.1.block j (HO.out.lt j hj).2 (fun e => by
          obtain ⟨a1, a2⟩ := put_apart HWR.out HO.out j hj
          rcases e with e | e
          · exact a1 e
          · exact a2 e)
        have hbw5 : Below w.heap.size w w5 := HB2.out.trans (hb5.mono (HC.out ▸ HB2.out.size))
        have hcl5 := (hbw5.cell (p := ⟨bl, offl + p, none⟩) hbll).trans hlc.1
        have hlp : 0 < ls p := by omega
        have HO5 := Lib.hid ho5
        have HW5 := Lib.hid hw5
        have HB5 := Lib.hid hb5
        have HCS5 : Hid (C ≤ w5.heap.size) := HC.out ▸ hb5.size
        obtain ⟨i0, hi, hz0, hz1, hz2⟩ := info_parts info64
        clear hcd hlc hw5 hb5 ho5 hbw5 hu5 HBW HB HWR HO
        go_wp2_with (at_builtin; refine wpList_append_own_at _ rfl (.tmp 67) (.tmp 69) _ rfl C 3 i0 (.int .i64 0) 1 8 Try.underlying57 hi hz0 hz1 hz2 rfl (by decide) _ m (pc q m) rfl (HO5.out.alloc _) ⟨w5.heap.size, 0, none⟩ 1 1 [.int .i64 (p : Nat)] rfl rfl ?c1 ?c2 ?c3 ?c4 ?c5 ?_)
        case c1 => exact cell_one_new _ _ _
        case c2 => intro u hu; simp at hu; subst hu; rfl
        case c3 => unfold maxLen; omega
        case c4 => omega
        case c5 => have := HCS5.out; simp; omega
        intro v' w6 hown hgrow _ hat
        have HB6 : Hid (Below C w2 w6) := (HB5.out.alloc HCS5.out _).grown hgrow (by have := HCS5.out; simp; omega) (fun b hb => (HO5.out.lt b hb).1)
        have HW6 : Hid (Wr w6 C C r5 _ _) := (HW5.out.alloc _).stay fun i hi e => hgrow.block i hi (fun e2 => by
          obtain ⟨a1, a2⟩ := put_apart HW5.out HO5.out i e2.symm
          rcases e with e | e
          · exact a1 e
          · exact a2 e)
        have HO6 := Lib.hid hown
        clear hown hgrow hat HO5 HW5 HB5
        go_wp2_with fail
        go_roundw
        case rel =>
          refine ⟨k + 1, m + 1, qs q m p, r5, by omega, by omega, by go_num, ?_, ?_, ?_, ?_, HB6.out⟩
          · rw [bt_step]
            show _ + _ ≤ _
            omega
          · intro i hi
            by_cases e : i = m
            · rw [qs, if_pos e]
              exact ⟨hp, by omega⟩
            · rw [qs, if_neg e]
              exact HQ.out i (by omega)
          · rw [pc_step]
            exact HO6.out
          · rw [bt_step]
            exact HW6.out
        case measure => simp [intOf]; omega
    · obtain rfl : k = len := by omega
      obtain ⟨A8, c8, rfl⟩ := row_slice HO.out
      have hLb : (bt ls W q m).2 ≤ 1500 := by omega
      have hML := bt_lt ls W q m
      obtain ⟨T, hT⟩ : ∃ T, text (le (bt ls W q m).1 (((bt ls W q m).2 + 7) / 8)) = T := ⟨_, rfl⟩
      have hTs : T.size = ((bt ls W q m).2 + 7) / 8 := by rw [← hT, text_size, le_len]
      have hTn : num T = (bt ls W q m).1 := by
        rw [← hT, num_text]
        exact Nat.mod_eq_of_lt (Nat.lt_of_lt_of_le hML (Nat.pow_le_pow_right (by omega) (by omega)))
      have hd := wdone_any C C r _ _ (by omega) wr HWR.out
      rw [hT] at hd
      have HD := Lib.hid hd
      have HTN := Lib.hid hTn
      have hTs2 : T.size ≤ 1000 := by omega
      have hTs8 : (bt ls W q m).2 ≤ 8 * T.size := by omega
      clear hd hT hTs hTn hML hbw
      go_wp2_with fail
      refine (HD.out).mono ?_; rintro e1 w5 ⟨rfl, hb5⟩
      have HW5 := Lib.hid (HWR.out.stay fun i hi _ => hb5.block i hi)
      have HO5 := Lib.hid (row_kept' HO.out fun j hj => hb5.block j (HO.out.lt j hj).2)
      have HB5 : Hid (Below C w2 w5) := HB.out.trans (hb5.mono HCS.out)
      clear hb5 HO HWR HB HD HBW
      go_wp2_with fail
      refine (over_any _ _).mono ?_; rintro e2 w6 ⟨rfl, rfl⟩
      have hr6 : Rd 77 (w5.alloc (.cells #[.string T, .int .i64 0, .int .i64 0] 77)) w5.heap.size T 0 0 := heap_alloc_new w5 _
      have hw6 := HW5.out.alloc (.cells #[.string T, .int .i64 0, .int .i64 0] 77)
      have ho6 := HO5.out.alloc (.cells #[.string T, .int .i64 0, .int .i64 0] 77)
      have hC5 : C ≤ w5.heap.size := HC.out ▸ HB5.out.size
      have hb6 : Below C w2 (w5.alloc (.cells #[.string T, .int .i64 0, .int .i64 0] 77)) := HB5.out.alloc hC5 _
      have HRL := Lib.hid HW5.out.row_lt
      have HGL := Lib.hid HW5.out.lt
      have HOL := Lib.hid (fun j hj => (HO5.out.lt j hj).2)
      generalize w5.alloc (.cells #[.string T, .int .i64 0, .int .i64 0] 77) = W6 at *
      generalize w5.heap.size = gr at *
      have HI2 : Hid (Rd 77 W6 gr T 0 0 ∧ Wr W6 C C r (bt ls W q m).1 (bt ls W q m).2 ∧ W6.ownsRow C 3 1 (.slice A8 m c8) m (pc q m) ∧ Below C w2 W6) := ⟨hr6, hw6, ho6, hb6⟩
      clear hr6 hw6 ho6 hb6 HW5 HO5 HB5
      go_wp2_with fail
      go_loopw [77] (fun i wx => ∃ j : Nat, j ≤ m ∧ i = .int .i64 j ∧ Rd 77 wx gr T (bt ls W q j).2 0 ∧ Wr wx C C r (bt ls W q m).1 (bt ls W q m).2 ∧ wx.ownsRow C 3 1 (.slice A8 m c8) m (pc q m) ∧ Below C w2 wx) (fun i _ => m - (intOf i).toNat)
      case atStart => exact ⟨0, Nat.zero_le _, rfl, HI2.out⟩
      case round =>
        obtain ⟨j, hj, rfl, hrx, hwx, hox, hbx⟩ := hrel
        have HRX := Lib.hid hrx
        have HWX := Lib.hid hwx
        have HOX := Lib.hid hox
        have HBX := Lib.hid hbx
        have HCX : Hid (C ≤ wr.heap.size) := HC.out ▸ hbx.size
        clear hrx hwx hbx
        by_cases hjl : j < m
        · have hqj := HQ.out j hjl
          have hbt := (bt_at ls W q j m hjl).2
          have hl15 := H15.out (q j) hqj.1
          have hlm := HLM.out (q j) hqj.1
          have hpk : peekM T (bt ls W q j).2 0 15 = min 15 (8 * T.size - (bt ls W q j).2) := if_pos ⟨rfl, by omega, by omega⟩
          have hsg := sign_any B1 g bm n mx gr (bt ls W q j).2 ls W T (by omega) (by omega) hmx HW.out wr (HCD.out.below (HC.out ▸ HBX.out)) HRX.out
          have HSG := Lib.hid hsg
          have hmany : ls (q j) ≤ peekM T (bt ls W q j).2 0 15 := by omega
          rcases hox.2 with ⟨h0, _⟩ | ⟨gp, cap8, cur8, h0, _, hcur, _, _, _, htk⟩
          · injection h0 with _ e _
            omega
          · injection h0 with h0 _ h2
            subst h0
            have k8 : wr.cell? ⟨gp, j, none⟩ = some (.int .i64 (q j : Nat)) := by
              rw [cell_of_row wr gp j _ _ _ hcur, ← pc_at q m j hjl, ← htk, List.getElem?_take_of_lt (by omega), Array.getElem?_toList]
            clear hcur htk hox hsg hpk h2
            go_wp2_with fail
            refine (HSG.out).mono ?_; rintro e w7 ⟨x, y, l, rfl, hsi, hr7, hg7⟩
            obtain ⟨rfl, rfl, rfl⟩ := HBK.out q j m mx _ _ l y x hjl hqj.1 hqj.2 hlm hmany HTN.out hsi
            have HX : Hid (Rd 77 w7 gr T (bt ls W q (j + 1)).2 0 ∧ Wr w7 C C r (bt ls W q m).1 (bt ls W q m).2 ∧ w7.ownsRow C 3 1 (.slice (some ⟨gp, 0, none⟩) m c8) m (pc q m) ∧ Below C w2 w7) := by
              refine ⟨hr7, HWX.out.stay fun i hi e => hg7.block i hi ?_, row_kept' HOX.out fun i hi => hg7.block i (HOX.out.lt i hi).2 ?_, HBX.out.grown hg7 HCX.out (by intro i hi; injection hi with hi; rw [← hi]; omega)⟩
              · intro h
                injection h with h
                subst h
                rcases e with e | e
                · have := HGL.out
                  omega
                · have := HRL.out _ e
                  omega
              · intro h
                injection h with h
                subst h
                have := HOL.out _ hi
                omega
            clear hsi hr7 hg7 k8
            go_wp2_with fail
            go_roundw
            case rel => exact ⟨j + 1, by omega, by go_num, HX.out.1, HX.out.2.1, HX.out.2.2.1, HX.out.2.2.2⟩
            case measure => simp [intOf]; omega
        · obtain rfl : j = m := by omega
          clear hox
          have hLj : (bt ls W q j).2 ≤ 1000000000 := by omega
          have KA := Lib.hid (at_any gr T _ 0 wr HRX.out)
          have KL := Lib.hid (wlen_any _ C r _ _ hLj wr HWX.out)
          have HF : Hid (Below w.heap.size w wr) := HB2.out.trans (HBX.out.mono (HC.out ▸ HB2.out.size))
          go_wp2_with (first | (go_at_call 24; refine (KA.out).mono ?_; rintro e3 w3 ⟨rfl, rfl⟩) | (go_at_call 32; refine (KL.out).mono ?_; rintro e3 w3 ⟨rfl, d3, rfl⟩))
          go_ret
          exact ⟨rfl, below_drewN HF.out d3⟩
end Go.Proofs.Ytmmcolfeboammaa
