/-
  The walk of PrefixBack: it returns true, whatever the lengths and the signs.
-/
import Derived.Test.YtmmcolfeboammaaPreQ
import Derived.Test.YtmmcolfeboammaaPrefixWholeWalk
namespace Go.Proofs.Ytmmcolfeboammaa
open Go.RowKit Go.Joins

theorem u16_wf {z : Int} (h : (Lit.int .u16 z).wf = true) : 0 ≤ z ∧ z < 65536 := by
  simp [Lit.wf, IntKind.min, IntKind.max, IntKind.signed, IntKind.bits] at h
  omega
theorem sgs_row {w : World} {a : Option Addr} {len cap : Nat} {zs : List Int} (h : (a = none ∧ len = 0 ∧ cap = 0 ∧ zs = []) ∨ ∃ x, a = some x ∧ len ≤ cap ∧ cap ≤ maxLen ∧ zs.length = cap ∧ (∀ i, i < zs.length → w.cell? (x.add i) = some (.int .u16 (zs.getD i 0))) ∧ ∀ n ∈ zs, (Lit.int .u16 n).wf = true) :
    Sgs w a len (fun i => (zs.getD i 0).toNat) := by
  intro hn
  rcases h with ⟨_, h0, _⟩ | ⟨x, rfl, h1, h2, h3, h4, h5⟩
  · omega
  · have hc := h4 0 (by omega)
    obtain ⟨b, off, spot⟩ := x
    have hs : spot = none := by
      cases spot with
      | none => rfl
      | some _ =>
        exfalso
        rw [show (⟨b, off, some _⟩ : Addr).add 0 = ⟨b, off, some _⟩ from rfl, World.cell?] at hc
        split at hc <;> simp at hc
    subst hs
    refine ⟨b, off, rfl, block_lt_of_cell hc, fun i hi => ?_⟩
    have hz := u16_wf (h5 (zs.getD i 0) (by rw [List.getD_eq_getElem?_getD, List.getElem?_eq_getElem (by omega), Option.getD_some]; exact List.getElem_mem _))
    have hc' := h4 i (by omega)
    have e : (⟨b, off, none⟩ : Addr).add i = ⟨b, off + i, none⟩ := by
      unfold Addr.add
      split
      · rename_i e
        subst e
        rfl
      · rfl
    rw [e] at hc'
    exact ⟨by rw [hc', Int.toNat_of_nonneg hz.1], show (zs.getD i 0).toNat < 65536 by omega⟩

theorem back_big (A S : Option Addr) (n cap len scap : Nat) (hn : 400 < n ∨ 100 < len) (w : World) :
    Calls Try.prog 9 #[.slice A n cap, .slice S len scap] w fun e w' => e = .returned (.bool true) ∧ Below w.heap.size w w' := by
  by_cases h : 400 < n
  · clear hn
    go_enter Try.func9, Try.ntmps9
    go_wp2_with (go_at_call 37; refine (awake4_any _).mono ?_; rintro e w1 ⟨rfl, hb1⟩)
    go_ret
    exact ⟨rfl, hb1⟩
  · have h2 : 100 < len := by omega
    clear hn
    go_enter Try.func9, Try.ntmps9
    go_wp2_with (go_at_call 37; refine (awake4_any _).mono ?_; rintro e w1 ⟨rfl, hb1⟩)
    go_ret
    exact ⟨rfl, hb1⟩

set_option maxRecDepth 100000 in
set_option maxHeartbeats 4000000 in
theorem back_err (A S : Option Addr) (n cap len scap : Nat) (x : Int) (hx : x ≠ 0) (hn : n ≤ 400) (hs : len ≤ 100) (w : World) (hN : ∀ w1, Below w.heap.size w w1 → Calls Try.prog 38 #[.slice A n cap, .bool true] w1 fun e w' => e = .returned (.tuple #[.pointer none, .int .i64 x]) ∧ Below w1.heap.size w1 w') :
    Calls Try.prog 9 #[.slice A n cap, .slice S len scap] w fun e w' => e = .returned (.bool true) ∧ Below w.heap.size w w' := by
  have HN := Lib.hid hN
  have hx' : (x == 0) = false := by rw [beq_eq_false_iff_ne]; exact hx
  clear hN hx
  go_enter Try.func9, Try.ntmps9
  go_wp2_with (go_at_call 37; refine (awake4_any _).mono ?_; rintro e w1 ⟨rfl, hb1⟩)
  have HB1 := Lib.hid hb1
  clear hb1
  go_wp2_with (go_at_call 38; refine (HN.out _ HB1.out).mono ?_; rintro e w2 ⟨rfl, hb2⟩)
  have HB2 := Lib.hid (below_then HB1.out hb2)
  clear hb2
  go_wp2
  go_ret
  exact ⟨rfl, HB2.out⟩

set_option maxRecDepth 100000 in
set_option maxHeartbeats 8000000 in
theorem back_zero (A S : Option Addr) (cap len scap : Nat) (f : Nat → Nat) (hlen : len ≤ 100) (w : World) (hS : Sgs w S len f) :
    Calls Try.prog 9 #[.slice A 0 cap, .slice S len scap] w fun e w' => e = .returned (.bool true) ∧ Below w.heap.size w w' := by
  have HN := Lib.hid (fun w1 (_ : Below w.heap.size w w1) => new_ok A 0 cap true (fun _ => 0) (by omega) w1 (fun h => by omega) (fun i h => by omega) (by decide) (.inr ⟨rfl, by decide⟩))
  have HS := Lib.hid hS
  clear hS
  go_enter Try.func9, Try.ntmps9
  go_wp2_with (go_at_call 37; refine (awake4_any _).mono ?_; rintro e w1 ⟨rfl, hb1⟩)
  have HB1 := Lib.hid hb1
  clear hb1
  go_wp2_with (go_at_call 38; refine (HN.out _ HB1.out).mono ?_; rintro e w2 ⟨g, rfl, _, hb2⟩)
  have HB2 := Lib.hid (below_then HB1.out hb2)
  clear hb2 HN
  have hw3 := wr_new w2 w2.heap.size (Nat.le_refl _)
  have hb3 : Below w2.heap.size w2 (w2.alloc (.cells #[.slice none 0 0, .int .u64 0, .int .i64 0] 45)) := (Below.refl _ _).alloc (Nat.le_refl _) _
  go_wp2_with fail
  generalize w2.alloc (.cells #[.slice none 0 0, .int .u64 0, .int .i64 0] 45) = W3 at *
  obtain ⟨C, hC⟩ : ∃ C, C = w2.heap.size := ⟨_, rfl⟩
  rw [← hC] at hw3 hb3 ⊢
  have HI : Hid (Wr W3 C C none 0 0 ∧ Below C w2 W3) := ⟨hw3, hb3⟩
  have HC := Lib.hid hC
  clear hw3 hb3 HB1 hC
  go_loopw [41, 8] (fun i v wr => i = .int .i64 0 ∧ v = .slice none 0 0 ∧ Wr wr C C none 0 0 ∧ Below C w2 wr) (fun _ _ _ => 0)
  case atStart => exact ⟨rfl, rfl, HI.out⟩
  case round =>
    obtain ⟨rfl, rfl, hw, hb⟩ := hrel
    have HWR := Lib.hid hw
    have HB := Lib.hid hb
    have hcs : C ≤ wr.heap.size := HC.out ▸ hb.size
    have HCS := Lib.hid hcs
    have hbw : Below w.heap.size w wr := HB2.out.trans (hb.mono (HC.out ▸ HB2.out.size))
    clear hb hw
    by_cases hlt : 0 < len
    · obtain ⟨b2, off2, rfl, hb2l, hcl⟩ := HS.out hlt
      have hcell := (hbw.cell (p := ⟨b2, off2 + 0, none⟩) hb2l).trans (hcl 0 hlt).1
      rw [Nat.add_zero] at hcell
      clear hcl hbw
      obtain ⟨T, hT⟩ : ∃ T, text (le 0 ((0 + 7) / 8)) = T := ⟨_, rfl⟩
      have hd := wdone_any C C none 0 0 (by omega) wr HWR.out
      rw [hT] at hd
      have HD := Lib.hid hd
      clear hd hT
      go_wp2_with fail
      refine (HD.out).mono ?_; rintro e1 w5 ⟨rfl, hb5⟩
      have HW5 := Lib.hid (HWR.out.stay fun i hi _ => hb5.block i hi)
      have HB5 : Hid (Below C w2 w5) := HB.out.trans (hb5.mono HCS.out)
      clear hb5 HWR HB HD
      go_wp2_with fail
      refine (over_any _ _).mono ?_; rintro e2 w6 ⟨rfl, rfl⟩
      have hr6 : Rd 77 (w5.alloc (.cells #[.string T, .int .i64 0, .int .i64 0] 77)) w5.heap.size T 0 0 := heap_alloc_new w5 _
      have hw6 := HW5.out.alloc (.cells #[.string T, .int .i64 0, .int .i64 0] 77)
      have hC5 : C ≤ w5.heap.size := HC.out ▸ HB5.out.size
      have hb6 : Below C w2 (w5.alloc (.cells #[.string T, .int .i64 0, .int .i64 0] 77)) := HB5.out.alloc hC5 _
      generalize w5.alloc (.cells #[.string T, .int .i64 0, .int .i64 0] 77) = W6 at *
      generalize w5.heap.size = gr at *
      have HI2 : Hid (Rd 77 W6 gr T 0 0 ∧ Wr W6 C C none 0 0 ∧ Below C w2 W6) := ⟨hr6, hw6, hb6⟩
      clear hr6 hw6 hb6 HW5 HB5
      go_wp2_with fail
      go_loopw [77] (fun i wx => i = .int .i64 0 ∧ Rd 77 wx gr T 0 0 ∧ Wr wx C C none 0 0 ∧ Below C w2 wx) (fun _ _ => 0)
      case atStart => exact ⟨rfl, HI2.out⟩
      case round =>
        obtain ⟨rfl, hrx, hwx, hbx⟩ := hrel
        have KA := Lib.hid (at_any gr T _ 0 wr hrx)
        have KL := Lib.hid (wlen_any _ C none _ _ (by omega) wr hwx)
        have HF : Hid (Below w.heap.size w wr) := HB2.out.trans (hbx.mono (HC.out ▸ HB2.out.size))
        clear hrx hwx hbx
        go_wp2_with (first | (go_at_call 24; refine (KA.out).mono ?_; rintro e3 w3 ⟨rfl, rfl⟩) | (go_at_call 32; refine (KL.out).mono ?_; rintro e3 w3 ⟨rfl, d3, rfl⟩))
        go_ret
        exact ⟨rfl, below_drewN HF.out d3⟩
    · obtain rfl : len = 0 := by omega
      clear hbw
      obtain ⟨T, hT⟩ : ∃ T, text (le 0 ((0 + 7) / 8)) = T := ⟨_, rfl⟩
      have hd := wdone_any C C none 0 0 (by omega) wr HWR.out
      rw [hT] at hd
      have HD := Lib.hid hd
      clear hd hT
      go_wp2_with fail
      refine (HD.out).mono ?_; rintro e1 w5 ⟨rfl, hb5⟩
      have HW5 := Lib.hid (HWR.out.stay fun i hi _ => hb5.block i hi)
      have HB5 : Hid (Below C w2 w5) := HB.out.trans (hb5.mono HCS.out)
      clear hb5 HWR HB HD
      go_wp2_with fail
      refine (over_any _ _).mono ?_; rintro e2 w6 ⟨rfl, rfl⟩
      have hr6 : Rd 77 (w5.alloc (.cells #[.string T, .int .i64 0, .int .i64 0] 77)) w5.heap.size T 0 0 := heap_alloc_new w5 _
      have hw6 := HW5.out.alloc (.cells #[.string T, .int .i64 0, .int .i64 0] 77)
      have hC5 : C ≤ w5.heap.size := HC.out ▸ HB5.out.size
      have hb6 : Below C w2 (w5.alloc (.cells #[.string T, .int .i64 0, .int .i64 0] 77)) := HB5.out.alloc hC5 _
      generalize w5.alloc (.cells #[.string T, .int .i64 0, .int .i64 0] 77) = W6 at *
      generalize w5.heap.size = gr at *
      have HI2 : Hid (Rd 77 W6 gr T 0 0 ∧ Wr W6 C C none 0 0 ∧ Below C w2 W6) := ⟨hr6, hw6, hb6⟩
      clear hr6 hw6 hb6 HW5 HB5
      go_wp2_with fail
      go_loopw [77] (fun i wx => i = .int .i64 0 ∧ Rd 77 wx gr T 0 0 ∧ Wr wx C C none 0 0 ∧ Below C w2 wx) (fun _ _ => 0)
      case atStart => exact ⟨rfl, HI2.out⟩
      case round =>
        obtain ⟨rfl, hrx, hwx, hbx⟩ := hrel
        have KA := Lib.hid (at_any gr T _ 0 wr hrx)
        have KL := Lib.hid (wlen_any _ C none _ _ (by omega) wr hwx)
        have HF : Hid (Below w.heap.size w wr) := HB2.out.trans (hbx.mono (HC.out ▸ HB2.out.size))
        clear hrx hwx hbx
        go_wp2_with (first | (go_at_call 24; refine (KA.out).mono ?_; rintro e3 w3 ⟨rfl, rfl⟩) | (go_at_call 32; refine (KL.out).mono ?_; rintro e3 w3 ⟨rfl, d3, rfl⟩))
        go_ret
        exact ⟨rfl, below_drewN HF.out d3⟩
theorem prefixBack_walk (a0 : Option Addr) (len0 cap0 : Nat) (z0 : List Int) (a1 : Option Addr) (len1 cap1 : Nat) (z1 : List Int) (w : World) (w0 : (a0 = none ∧ len0 = 0 ∧ cap0 = 0 ∧ z0 = []) ∨ ∃ x, a0 = some x ∧ len0 ≤ cap0 ∧ cap0 ≤ maxLen ∧ z0.length = cap0 ∧ (∀ i, i < z0.length → w.cell? (x.add i) = some (.int .u8 (z0.getD i 0))) ∧ ∀ n ∈ z0, (Lit.int .u8 n).wf = true)
    (w1 : (a1 = none ∧ len1 = 0 ∧ cap1 = 0 ∧ z1 = []) ∨ ∃ x, a1 = some x ∧ len1 ≤ cap1 ∧ cap1 ≤ maxLen ∧ z1.length = cap1 ∧ (∀ i, i < z1.length → w.cell? (x.add i) = some (.int .u16 (z1.getD i 0))) ∧ ∀ n ∈ z1, (Lit.int .u16 n).wf = true) :
    Calls Try.prog 9 #[.slice a0 len0 cap0, .slice a1 len1 cap1] w fun e w' => e = .returned (.bool true) ∧ Below w.heap.size w w' := by
  have hL := lens_row w0
  have hS := sgs_row w1
  generalize (fun i => (z0.getD i 0).toNat) = ls at hL
  generalize (fun i => (z1.getD i 0).toNat) = f at hS
  by_cases hbig : 400 < len0 ∨ 100 < len1
  · exact back_big _ _ _ _ _ _ hbig w
  · have hn : len0 ≤ 400 := by omega
    have hs : len1 ≤ 100 := by omega
    by_cases hz : len0 = 0
    · subst hz
      exact back_zero _ _ _ _ _ f hs w hS
    · by_cases h15 : ∀ i, i < len0 → ls i ≤ 15
      · by_cases h1 : 32768 < fillN ls len0
        · exact back_err _ _ _ _ _ _ 10 (by omega) hn hs w fun w1 h => (new_err a0 len0 cap0 true 10 (by omega) w1 (words_over a0 len0 cap0 ls (by omega) w1 (hL.below (Nat.le_refl _) h) h15 h1)).mono fun e w' ⟨h1, h2⟩ => ⟨h1, h2 ▸ Below.refl _ _⟩
        · by_cases h2 : fillN ls len0 = 32768
          · exact back_ok _ _ _ _ _ _ ls f (by omega) hn hs w hL hS h15 (by omega) (.inl h2)
          · by_cases h3 : sumN ls len0 ≤ 1
            · exact back_ok _ _ _ _ _ _ ls f (by omega) hn hs w hL hS h15 (by omega) (.inr h3)
            · exact back_err _ _ _ _ _ _ 10 (by omega) hn hs w fun w1 h => new_open_no a0 len0 cap0 ls (by omega) w1 (hL.below (Nat.le_refl _) h) h15 (by omega) (by omega)
      · exact back_err _ _ _ _ _ _ 8 (by omega) hn hs w fun w1 h => (new_err a0 len0 cap0 true 8 (by omega) w1 (words_bad a0 len0 cap0 ls (by omega) w1 (hL.below (Nat.le_refl _) h) h15)).mono fun e w' ⟨h1, h2⟩ => ⟨h1, h2 ▸ Below.refl _ _⟩
end Go.Proofs.Ytmmcolfeboammaa
