/-
  The walk of PrefixReads: it returns true, whatever the lengths, the bits and the signs.
-/
import Derived.Test.YtabpcipfijakjaaPreZ
import Derived.Test.YtabpcipfijakjaaPreX
import Derived.Test.YtabpcipfijakjaaPair
import Derived.Deep.RegionHeld3
import Derived.Deep.DeepMust
import Derived.Deep.CutBlock
import Derived.Deep.DeepCutAuto
namespace Go.Proofs.Ytabpcipfijakjaa
set_option maxRecDepth 100000
open Go.RowKit Go.Joins

/-- A slice of any ints. -/
def Its (w : World) (S : Option Addr) (len : Nat) (f : Nat → Int) : Prop := 0 < len → ∃ b off, S = some ⟨b, off, none⟩ ∧ b < w.heap.size ∧ ∀ i, i < len → w.cell? ⟨b, off + i, none⟩ = some (.int .i64 (f i))

set_option maxHeartbeats 8000000 in
theorem reads_ok (A S : Option Addr) (n cap len scap : Nat) (op : Bool) (ls : Nat → Nat) (f : Nat → Int) (s : ByteArray) (hn : n ≤ 400) (hs : s.size ≤ 300) (hlen : len ≤ 100) (w : World) (hL : Lens w A n ls) (hS : Its w S len f) (h15 : ∀ i, i < n → ls i ≤ 15) (hf : fillN ls n ≤ 32768)
    (hacc : fillN ls n = 32768 ∨ op = true ∧ sumN ls n ≤ 1)
    (hRN : ∀ w1, Below w.heap.size w w1 → Calls Try.prog 11 #[.slice A n cap, .bool op] w1 fun e w' => e = .returned (.tuple #[.slice (some ⟨w1.heap.size, 0, none⟩) n n, .int .i64 0]) ∧ IsRowS w' w1.heap.size n (fun i => tx (wordN ls n i) (ls i)) ∧ Below w1.heap.size w1 w') :
    Calls Try.prog 3 #[.slice A n cap, .bool op, .string s, .slice S len scap] w fun e w' => e = .returned (.bool true) ∧ Below w.heap.size w w' := by
  have HN := Lib.hid (fun w1 (h : Below w.heap.size w w1) => new_ok A n cap op ls (by omega) w1 (hL.below (Nat.le_refl _) h) h15 hf hacc)
  have HRN := Lib.hid hRN
  have HW : Hid (∀ i, i < n → ls i < 256 ∧ wordN ls n i < 4294967296) := fun i hi => ⟨by have := h15 i hi; omega, by have := wordN_le ls n h15 (by omega) i hi; omega⟩
  have HW2 := Lib.hid (word_lt0 ls n h15 hf)
  have hmx := max_le ls n h15
  have HLM := Lib.hid (fun i (hi : i < n) => le_max ls n i hi)
  have HFEW : Hid (∀ v q, q < (if n = 0 then 0 else maxN ls (n - 1)) → NoWord ls (wordN ls n) n v q → Begins ls (wordN ls n) n v q) := fun v q hq hno => by
    rcases hacc with h | ⟨_, h⟩
    · exact begins_whole ls n v _ q h15 h (fun i hi => le_max ls n i hi) hmx hno
    · exact begins_open ls n v q h15 h hf hq
  have H15 := Lib.hid h15
  have HS := Lib.hid hS
  have HAL := Lib.hid (fun v many x y e l f k hs hd => signs_alike ls n _ v many x y e l f k h15 HLM.out hmx (HFEW.out v) hs hd)
  clear hL h15 hf hS hacc hRN HFEW
  generalize (if n = 0 then 0 else maxN ls (n - 1)) = mx at *
  generalize hWW : wordN ls n = W at *
  clear hWW
  go_enter Try.func3, Try.ntmps3
  go_wp2_with fail
  refine (awake4_any _).mono ?_; rintro e w1 ⟨rfl, hb1⟩
  have HB1 := Lib.hid hb1
  clear hb1
  go_wp2_with fail
  refine (HN.out _ HB1.out).mono ?_; rintro e w2 ⟨g, rfl, ⟨bm, hcd⟩, hb2⟩
  have HCD := Lib.hid hcd
  have HB2 := Lib.hid (below_then HB1.out hb2)
  have HB12 := Lib.hid hb2
  clear hcd hb2 HN
  go_wp2_with fail
  refine (HRN.out _ HB2.out).mono ?_; rintro e w3 ⟨rfl, hr, hb3⟩
  have HR := Lib.hid hr
  have HCD3 := Lib.hid (HCD.out.below hb3)
  have HB3 := Lib.hid (below_then HB2.out hb3)
  clear hr hb3 HRN HCD HB12 HB1
  generalize w1.heap.size = B1 at *
  obtain ⟨gW, hgW⟩ : ∃ gW, gW = w2.heap.size := ⟨_, rfl⟩
  rw [← hgW] at HR ⊢
  clear hgW HB2
  go_wp2_with fail
  refine (over_any _ _).mono ?_; rintro e w4 ⟨rfl, rfl⟩
  have hrd : Rd 97 ((w3.alloc (.cells #[.string s, .int .i64 0, .int .i64 0] 97)).alloc (.cells #[.string s, .int .i64 0, .int .i64 0] 36)) w3.heap.size s 0 0 :=
    Rd.alloc (heap_alloc_new w3 _) _
  have hrq : Rd 36 ((w3.alloc (.cells #[.string s, .int .i64 0, .int .i64 0] 97)).alloc (.cells #[.string s, .int .i64 0, .int .i64 0] 36)) (w3.heap.size + 1) s 0 0 := by
    have h := heap_alloc_new (w3.alloc (.cells #[.string s, .int .i64 0, .int .i64 0] 97)) (.cells #[.string s, .int .i64 0, .int .i64 0] 36)
    simpa [Rd] using h
  have hb4 : Below w3.heap.size w3 ((w3.alloc (.cells #[.string s, .int .i64 0, .int .i64 0] 97)).alloc (.cells #[.string s, .int .i64 0, .int .i64 0] 36)) :=
    ((Below.refl _ _).alloc (Nat.le_refl _) _).alloc (by simp) _
  have HI : Hid (Rd 97 ((w3.alloc (.cells #[.string s, .int .i64 0, .int .i64 0] 97)).alloc (.cells #[.string s, .int .i64 0, .int .i64 0] 36)) w3.heap.size s 0 0 ∧
    Rd 36 ((w3.alloc (.cells #[.string s, .int .i64 0, .int .i64 0] 97)).alloc (.cells #[.string s, .int .i64 0, .int .i64 0] 36)) (w3.heap.size + 1) s 0 0 ∧
    Below w3.heap.size w3 ((w3.alloc (.cells #[.string s, .int .i64 0, .int .i64 0] 97)).alloc (.cells #[.string s, .int .i64 0, .int .i64 0] 36))) := ⟨hrd, hrq, hb4⟩
  clear hrd hrq hb4
  go_upto_block 0 with fail
  obtain ⟨C, hC⟩ : ∃ C, C = w3.heap.size := ⟨_, rfl⟩
  rw [← hC] at HI ⊢
  have HC := Lib.hid hC
  clear hC
  generalize (w3.alloc (.cells #[.string s, .int .i64 0, .int .i64 0] 97)).alloc (.cells #[.string s, .int .i64 0, .int .i64 0] 36) = W4 at *
  go_cut [] (fun wx => Below C w3 wx)
  case first =>
    go_wp2_with fail
    go_loopw [69] (fun i wr => ∃ k a : Nat, k ≤ a ∧ a ≤ 8 * s.size ∧ i = .int .i64 k ∧ Rd 97 wr C s a 0 ∧ Rd 36 wr (C + 1) s a 0 ∧ Below C w3 wr) (fun i _ => 8 * s.size + 1 - (intOf i).toNat)
    case atStart => exact ⟨0, 0, Nat.le_refl _, Nat.zero_le _, rfl, HI.out⟩
    case round =>
      obtain ⟨k, a, hka, ha, rfl, hrd, hrq, hb⟩ := hrel
      have HRD := Lib.hid hrd
      have HRQ := Lib.hid hrq
      have HB := Lib.hid hb
      clear hrd hrq hb HI
      have hlt : k < 8 * s.size + 1 := by omega
      have hbc : Below w3.heap.size w3 wr := HC.out ▸ HB.out
      have HSG := Lib.hid (sign_any B1 g bm n mx C a ls W s (by omega) ha hmx HW.out wr (HCD3.out.below hbc) HRD.out)
      have hpk : peekM s a 0 15 = min 15 (8 * s.size - a) := if_pos ⟨rfl, by omega, by omega⟩
      rw [hpk] at HSG
      go_wp2_with fail
      refine (HSG.out).mono ?_; rintro e w5 ⟨x, y, l, rfl, hsi, hr5, hg5⟩
      have hrq5 := HRQ.out.grown hg5 (by intro h; injection h with h; omega)
      have hb5 : Below C w3 w5 := HB.out.grown hg5 (HC.out ▸ HB.out.size) (by intro k hk; injection hk with hk; omega)
      have hr5W : IsRowS w5 gW n (fun i => tx (W i) (ls i)) := HR.out.below hb5 (HC.out ▸ HR.out.lt)
      have HRS := Lib.hid (rsign gW n (C + 1) ls W s a (by omega) ha (by omega) w5 hr5W H15.out HW2.out hrq5)
      have HR5 := Lib.hid hr5
      have HB5 := Lib.hid hb5
      have HSI := Lib.hid (signIs_low ls W n mx _ _ x y l hsi)
      clear hrq5 hb5 hr5W hr5 hg5 hsi hbc HSG HRD HB
      go_wp2_with fail
      refine (HRS.out).mono ?_; rintro e w6 ⟨x2, y2, l2, rfl, hd, hrq6, hg6⟩
      obtain ⟨rfl, rfl, rfl⟩ := HAL.out _ _ _ _ _ _ _ _ HSI.out hd
      have hsz6 : C ≤ w5.heap.size := HC.out ▸ HB5.out.size
      have HR6 := Lib.hid (HR5.out.grown hg6 (by intro h; injection h with h; omega))
      have HB6 : Hid (Below C w3 w6) := HB5.out.grown hg6 hsz6 (by intro k hk; injection hk with hk; omega)
      have HAT6 := Lib.hid (fun d => at_any C s (a + l) 0 (w6.drewN d) (HR6.out.drewN d))
      have HRQ6 := Lib.hid hrq6
      have d1 := hrq6.c1
      clear hd hrq6 hg6 HR5 HB5 HRS HRQ
      rcases HSI.out with ⟨i, rfl, rfl, hl1, hl2, hl3, _, _⟩ | ⟨rfl, rfl, rfl, _, _⟩ | ⟨rfl, rfl, rfl, _, _⟩
      · go_wp2_with fail
        go_quiet (first | (go_at_call 15; exact Calls.quiet_of_same ((HAT6.out _).mono fun e w' h => ⟨h.1, h.2.symm⟩)))
        go_wp2_with fail
        go_roundw
        case rel => exact ⟨k + 1, a + l, by omega, by omega, by go_num, HR6.out.drewN _, HRQ6.out.drewN _, below_drewN HB6.out _⟩
        case measure => simp [intOf]; omega
      · go_wp2_with fail
        go_quiet (first | (go_at_call 15; exact Calls.quiet_of_same ((HAT6.out _).mono fun e w' h => ⟨h.1, h.2.symm⟩)))
        go_wp2_with fail
        go_meet
        exact below_drewN HB6.out _
      · go_wp2_with fail
        go_quiet (first | (go_at_call 15; exact Calls.quiet_of_same ((HAT6.out _).mono fun e w' h => ⟨h.1, h.2.symm⟩)))
        go_wp2_with fail
        go_meet
        exact below_drewN HB6.out _
  case rest =>
    have HBC := Lib.hid hcut
    clear hcut HI HAL
    have hsC : C ≤ wc.heap.size := HC.out ▸ HBC.out.size
    obtain ⟨D, hD⟩ : ∃ D, D = wc.heap.size := ⟨_, rfl⟩
    have hgWD : gW < D := by have := HR.out.lt; have := HC.out; omega
    have hRc : IsRowS wc gW n (fun i => tx (W i) (ls i)) := HR.out.below HBC.out (HC.out ▸ HR.out.lt)
    have hCc : Cd0 wc B1 g bm ls W n mx := HCD3.out.below (HC.out ▸ HBC.out)
    have HRC := Lib.hid hRc
    have HCC := Lib.hid hCc
    have HBW := Lib.hid (HB3.out.trans (HBC.out.mono (HC.out ▸ HB3.out.size)))
    clear hRc hCc HBC HB3 HR HCD3
    have hw5 : Wr ((wc.alloc (.cells #[.slice none 0 0, .int .u64 0, .int .i64 0] 45)).alloc (.cells #[.slice none 0 0] 48)) D D none 0 0 := by
      have h := (wr_new wc D (by omega)).alloc (.cells #[.slice none 0 0] 48)
      rwa [← hD] at h
    have hq5 : Qr ((wc.alloc (.cells #[.slice none 0 0, .int .u64 0, .int .i64 0] 45)).alloc (.cells #[.slice none 0 0] 48)) D (D + 1) none 0 0 := by
      have h := qr_new (wc.alloc (.cells #[.slice none 0 0, .int .u64 0, .int .i64 0] 45)) D (by simp; omega)
      rw [hD]
      simpa [← hD] using h
    have hb5 : Below D wc ((wc.alloc (.cells #[.slice none 0 0, .int .u64 0, .int .i64 0] 45)).alloc (.cells #[.slice none 0 0] 48)) :=
      ((Below.refl _ _).alloc (by omega) _).alloc (by simp; omega) _
    have HI : Hid (Wr ((wc.alloc (.cells #[.slice none 0 0, .int .u64 0, .int .i64 0] 45)).alloc (.cells #[.slice none 0 0] 48)) D D none 0 0 ∧
      Qr ((wc.alloc (.cells #[.slice none 0 0, .int .u64 0, .int .i64 0] 45)).alloc (.cells #[.slice none 0 0] 48)) D (D + 1) none 0 0 ∧
      Below D wc ((wc.alloc (.cells #[.slice none 0 0, .int .u64 0, .int .i64 0] 45)).alloc (.cells #[.slice none 0 0] 48))) := ⟨hw5, hq5, hb5⟩
    clear hw5 hq5 hb5
    go_wp2_with fail
    generalize (wc.alloc (.cells #[.slice none 0 0, .int .u64 0, .int .i64 0] 45)).alloc (.cells #[.slice none 0 0] 48) = W5 at *
    rw [← hD]
    have HD := Lib.hid hD
    clear hD
    go_loopw [109] (fun i wr => ∃ (k M L : Nat) (r q : Option Nat), k ≤ len ∧ i = .int .i64 k ∧ L ≤ 15 * k ∧ Wr wr D D r M L ∧ Qr wr D (D + 1) q M L ∧ Apart r q ∧ Below D wc wr) (fun i _ => len - (intOf i).toNat)
    case atStart => exact ⟨0, 0, 0, none, none, Nat.zero_le _, rfl, Nat.le_refl _, HI.out.1, HI.out.2.1, (fun b hb => by cases hb), HI.out.2.2⟩
    case round =>
      obtain ⟨k, M, L, r, q, hk, rfl, hL5, hw, hq, hap, hb⟩ := hrel
      have HWR := Lib.hid hw
      have HQR := Lib.hid hq
      have HAP := Lib.hid hap
      have HB := Lib.hid hb
      have hsz : D ≤ wr.heap.size := HD.out ▸ hb.size
      clear hw hq hap hb
      by_cases hlt : k < len
      · obtain ⟨b2, off2, rfl, hb2l, hcl⟩ := HS.out (by omega)
        have hcell := ((HBW.out.trans (HB.out.mono (HD.out ▸ HBW.out.size))).cell (p := ⟨b2, off2 + k, none⟩) hb2l).trans (hcl k hlt)
        clear hcl
        generalize f k = x at *
        by_cases hx : ∃ p : Nat, x = (p : Nat) ∧ p < n ∧ 1 ≤ ls p
        · obtain ⟨p, rfl, hp, hl1⟩ := hx
          have hl15 := H15.out p hp
          have hcr : ∀ wx, Below D wc wx → Cd0 wx B1 g bm ls W n mx := fun wx h => HCC.out.below (HD.out ▸ h)
          have hrr : ∀ wx, Below D wc wx → IsRowS wx gW n (fun i => tx (W i) (ls i)) := fun wx h => HRC.out.below h hgWD
          have hs1 := tx_size (W p) (ls p)
          have hfar : ∀ wx, Below D wc wx → wx.cell? ⟨gW, p, none⟩ = some (.string (tx (W p) (ls p))) := fun wx h => (hrr wx h).cell p hp
          have hln : ∀ wx, Below D wc wx → Calls Try.prog 18 #[.pointer (some ⟨g, 0, none⟩), .int .i64 (p : Nat)] wx fun e w' => e = .returned (.int .i64 ((tx (W p) (ls p)).size : Nat)) ∧ wx = w' := fun wx h => by
            rw [hs1]
            exact length_any B1 g bm n mx p ls W hp (HW.out p hp).1 wx (hcr wx h)
          have hT0 : 0 < (tx (W p) (ls p)).size := by omega
          generalize tx (W p) (ls p) = T1 at *
          have hT1 : (0 : Int) < (T1.size : Int) := by omega
          have HS1 := Lib.hid hs1
          have HLN := Lib.hid hln
          have HCRR := Lib.hid hcr
          have HRRR := Lib.hid hrr
          have HFAR := Lib.hid hfar
          clear hs1 hln hcr hrr hfar
          have hn2 := HFAR.out wr HB.out
          have hL9 : L ≤ 900000000 := by omega
          have hWp := (HW.out p hp).2
          have hpn : (p : Int) < (n : Int) := by omega
          go_wp2_with fail
          go_region_held3 (fun w' => w'.cell? ⟨gW, p, none⟩ = some (.string T1)) (first | exact hn2 | exact hn3 | exact hn4) (first | (go_at_call 16; go_must (refine (put_ok B1 g bm n mx p D D M L r ls W hp hl1 hl15 hWp hL9 _ ?_ ?_ ?_).mono ?_; exact hsz; exact HCRR.out wr HB.out; exact HWR.out; rintro e1 x1 ⟨rfl, r1, hw1, hu1⟩; have hb1 : Below D wc x1 := Kept.below0 (by exact hsz) (by exact (below_drewN HB.out 1)) hu1.1 HWR.out.ge; have hn3 : x1.cell? ⟨gW, p, none⟩ = some (.string T1) := HFAR.out x1 hb1; have hq1 := pair_first (show D + 1 ≠ D by omega) (by exact HWR.out) (by exact HQR.out) HAP.out hu1)) | (go_at_call 17; go_must (refine (rput_ok D (D + 1) gW n p q M L ls W hp hl1 hl15 hL9 _ ?_ hgWD ?_ ?_).mono ?_; exact (HD.out ▸ hb1.size); exact HRRR.out x1 hb1; exact hq1.1; rintro e2 x2 ⟨rfl, q2, hq2, hu2⟩; have hb2 : Below D wc x2 := Kept.below0 (by exact (HD.out ▸ hb1.size)) (by exact hb1) hu2.1 hq1.1.ge; have hn4 : x2.cell? ⟨gW, p, none⟩ = some (.string T1) := HFAR.out x2 hb2; have hw2 := pair_second (show D + 1 ≠ D by omega) (by exact hw1) (by exact hq1.1) hq1.2 hu2)) | (go_at_call 18; refine (HLN.out _ ?_).mono ?_; exact hb2; rintro e3 x3 ⟨rfl, rfl⟩))
          go_wp2_with fail
          go_roundw
          case rel => exact ⟨k + 1, _, _, r1, q2, by omega, by go_num, by omega, hw2.1, hq2, hw2.2, hb2⟩
          case measure => simp [intOf]; omega
        · have hx' : x < 0 ∨ (n : Int) ≤ x ∨ ∃ k : Nat, x = (k : Nat) ∧ k < n ∧ ls k = 0 := by
            by_cases h0 : x < 0
            · exact .inl h0
            · by_cases h1 : (n : Int) ≤ x
              · exact .inr (.inl h1)
              · obtain ⟨p, rfl⟩ := Int.eq_ofNat_of_zero_le (show 0 ≤ x by omega)
                refine .inr (.inr ⟨p, rfl, by omega, ?_⟩)
                apply Classical.byContradiction
                intro h2
                exact hx ⟨p, rfl, by omega, by omega⟩
          have e0 : (if 0 ≤ x ∧ x < n then (ls x.toNat : Int) else 0) = 0 := by
            by_cases h : 0 ≤ x ∧ x < n
            · rw [if_pos h]
              rcases hx' with h1 | h1 | ⟨k, rfl, _, h1⟩
              · omega
              · omega
              · rw [Int.toNat_natCast, h1]
                rfl
            · rw [if_neg h]
          have hcr := HCC.out.below (HD.out ▸ HB.out)
          have HP1 := Lib.hid (fun d => put_no_int B1 g bm n mx D x ls W (fun i hi => (HW.out i hi).1) hx' (wr.drewN d) (hcr.below (below_drewN (Below.refl _ _) d)))
          have HP2 := Lib.hid (fun d => rput_no gW n (D + 1) x ls W (wr.drewN d) ((HRC.out.below HB.out hgWD).below (below_drewN (Below.refl _ _) d) (by have := (HRC.out.below HB.out hgWD).lt; exact this)) hx')
          have HLN := Lib.hid (fun d => length_int B1 g bm n mx x ls W (fun i hi => (HW.out i hi).1) (wr.drewN d) (hcr.below (below_drewN (Below.refl _ _) d)))
          rw [e0] at HLN
          clear e0 hx' hx hcr
          go_wp2_with fail
          go_quiet (first | (go_at_call 16; exact Calls.quiet_of_same ((HP1.out _).mono fun e w' h => ⟨h.1, h.2.symm⟩)) | (go_at_call 17; exact Calls.quiet_of_same ((HP2.out _).mono fun e w' h => ⟨h.1, h.2.symm⟩)) | (go_at_call 18; exact Calls.quiet_of_same ((HLN.out _).mono fun e w' h => ⟨h.1, h.2.symm⟩)))
          go_wp2_with fail
          go_roundw
          case rel => exact ⟨k + 1, M, L, r, q, by omega, by go_num, by omega, HWR.out.below (below_drewN (Below.refl _ _) _), HQR.out.below (below_drewN (Below.refl _ _) _), HAP.out, below_drewN HB.out _⟩
          case measure => simp [intOf]; omega
      · obtain rfl : k = len := by omega
        have HDW := Lib.hid (wdone_any D D r M L (by omega) wr HWR.out)
        have HDQ := Lib.hid (fun w' (h : Below wr.heap.size wr w') => rdone_any D (D + 1) q M L (by omega) w' (HQR.out.below h))
        generalize text (le M ((L + 7) / 8)) = T at *
        go_wp2_with fail
        refine (HDW.out).mono ?_; rintro e w6 ⟨rfl, hb6⟩
        have HB6 := Lib.hid hb6
        clear hb6
        go_wp2_with fail
        refine (HDQ.out _ HB6.out).mono ?_; rintro e w7 ⟨rfl, hb7⟩
        have HB7 : Hid (Below w.heap.size w w7) := (HBW.out.trans (HB.out.mono (HD.out ▸ HBW.out.size))).trans ((HB6.out.trans (hb7.mono HB6.out.size)).mono (HBW.out.trans (HB.out.mono (HD.out ▸ HBW.out.size))).size)
        clear hb7
        go_wp2_with fail
        go_ret
        exact ⟨by simp, HB7.out⟩

set_option maxHeartbeats 4000000 in
theorem reads_err (A S : Option Addr) (n cap len scap : Nat) (op : Bool) (s : ByteArray) (x : Int) (hx : x ≠ 0) (hn : n ≤ 400) (hs : s.size ≤ 300) (hlen : len ≤ 100) (w : World)
    (hN : ∀ w1, Below w.heap.size w w1 → Calls Try.prog 10 #[.slice A n cap, .bool op] w1 fun e w' => e = .returned (.tuple #[.pointer none, .int .i64 x]) ∧ Below w1.heap.size w1 w')
    (hRN : ∀ w1, Below w.heap.size w w1 → Calls Try.prog 11 #[.slice A n cap, .bool op] w1 fun e w' => e = .returned (.tuple #[.slice none 0 0, .int .i64 x]) ∧ Below w1.heap.size w1 w') :
    Calls Try.prog 3 #[.slice A n cap, .bool op, .string s, .slice S len scap] w fun e w' => e = .returned (.bool true) ∧ Below w.heap.size w w' := by
  have HN := Lib.hid hN
  have HRN := Lib.hid hRN
  have hx' : (x == 0) = false := by rw [beq_eq_false_iff_ne]; exact hx
  clear hN hRN
  go_enter Try.func3, Try.ntmps3
  go_wp2_with fail
  refine (awake4_any _).mono ?_; rintro e w1 ⟨rfl, hb1⟩
  have HB1 := Lib.hid hb1
  clear hb1
  go_wp2_with fail
  refine (HN.out _ HB1.out).mono ?_; rintro e w2 ⟨rfl, hb2⟩
  have HB2 := Lib.hid (below_then HB1.out hb2)
  clear hb2 HN
  go_wp2_with fail
  refine (HRN.out _ HB2.out).mono ?_; rintro e w3 ⟨rfl, hb3⟩
  have HB3 := Lib.hid (below_then HB2.out hb3)
  clear hb3 HRN
  go_wp2_with fail
  go_ret
  exact ⟨rfl, HB3.out⟩
theorem reads_big (A S : Option Addr) (n cap len scap : Nat) (op : Bool) (s : ByteArray) (hn : 400 < n ∨ 300 < s.size ∨ 100 < len) (w : World) :
    Calls Try.prog 3 #[.slice A n cap, .bool op, .string s, .slice S len scap] w fun e w' => e = .returned (.bool true) ∧ Below w.heap.size w w' := by
  by_cases h : 400 < n
  · clear hn
    go_enter Try.func3, Try.ntmps3
    go_wp2_with (go_at_call 9; refine (awake4_any _).mono ?_; rintro e w1 ⟨rfl, hb1⟩)
    go_ret
    exact ⟨rfl, hb1⟩
  · by_cases h2 : 300 < s.size
    · clear hn
      go_enter Try.func3, Try.ntmps3
      go_wp2_with (go_at_call 9; refine (awake4_any _).mono ?_; rintro e w1 ⟨rfl, hb1⟩)
      go_ret
      exact ⟨rfl, hb1⟩
    · have h3 : 100 < len := by omega
      clear hn
      go_enter Try.func3, Try.ntmps3
      go_wp2_with (go_at_call 9; refine (awake4_any _).mono ?_; rintro e w1 ⟨rfl, hb1⟩)
      go_ret
      exact ⟨rfl, hb1⟩
theorem reads_all (A S : Option Addr) (n cap len scap : Nat) (op : Bool) (ls : Nat → Nat) (f : Nat → Int) (s : ByteArray) (w : World) (hL : Lens w A n ls) (hS : Its w S len f) :
    Calls Try.prog 3 #[.slice A n cap, .bool op, .string s, .slice S len scap] w fun e w' => e = .returned (.bool true) ∧ Below w.heap.size w w' := by
  by_cases hbig : 400 < n ∨ 300 < s.size ∨ 100 < len
  · exact reads_big A S n cap len scap op s hbig w
  · have hn : n ≤ 400 := by omega
    have hs : s.size ≤ 300 := by omega
    have hlen : len ≤ 100 := by omega
    have hLb : ∀ w1, Below w.heap.size w w1 → Lens w1 A n ls := fun w1 h => hL.below (Nat.le_refl _) h
    by_cases h15 : ∀ i, i < n → ls i ≤ 15
    · by_cases h1 : 32768 < fillN ls n
      · exact reads_err A S n cap len scap op s 10 (by omega) hn hs hlen w
          (fun w1 h => (new_err A n cap op 10 (by omega) w1 (words_over A n cap ls (by omega) w1 (hLb w1 h) h15 h1)).mono fun e w' ⟨h1, h2⟩ => ⟨h1, h2 ▸ Below.refl _ _⟩)
          (fun w1 h => (rnew_err A n cap op 10 (by omega) w1 (rwords_over A n cap ls (by omega) w1 (hLb w1 h) h15 h1)).mono fun e w' ⟨h1, h2⟩ => ⟨h1, h2 ▸ Below.refl _ _⟩)
      · by_cases h2 : fillN ls n = 32768
        · exact reads_ok A S n cap len scap op ls f s hn hs hlen w hL hS h15 (by omega) (.inl h2) (fun w1 h => rnew_whole A n cap op ls (by omega) w1 (hLb w1 h) h15 h2)
        · cases op with
          | false => exact reads_err A S n cap len scap false s 10 (by omega) hn hs hlen w (fun w1 h => new_part A n cap ls (by omega) w1 (hLb w1 h) h15 (by omega)) (fun w1 h => rnew_part A n cap ls (by omega) w1 (hLb w1 h) h15 (by omega))
          | true =>
            by_cases h3 : sumN ls n ≤ 1
            · exact reads_ok A S n cap len scap true ls f s hn hs hlen w hL hS h15 (by omega) (.inr ⟨rfl, h3⟩) (fun w1 h => (rnew_open A n cap ls (by omega) w1 (hLb w1 h) h15 (by omega) _ _ (.inl ⟨h3, rfl, rfl⟩)).mono fun e w' ⟨g1, g2, g3⟩ => ⟨g1, g2.out h3, g3⟩)
            · exact reads_err A S n cap len scap true s 10 (by omega) hn hs hlen w (fun w1 h => new_open_no A n cap ls (by omega) w1 (hLb w1 h) h15 (by omega) (by omega))
                (fun w1 h => (rnew_open A n cap ls (by omega) w1 (hLb w1 h) h15 (by omega) _ _ (.inr ⟨h3, rfl, rfl⟩)).mono fun e w' ⟨g1, _, g3⟩ => ⟨g1, g3⟩)
    · exact reads_err A S n cap len scap op s 8 (by omega) hn hs hlen w
        (fun w1 h => (new_err A n cap op 8 (by omega) w1 (words_bad A n cap ls (by omega) w1 (hLb w1 h) h15)).mono fun e w' ⟨h1, h2⟩ => ⟨h1, h2 ▸ Below.refl _ _⟩)
        (fun w1 h => (rnew_err A n cap op 8 (by omega) w1 (rwords_bad A n cap ls (by omega) w1 (hLb w1 h) h15)).mono fun e w' ⟨h1, h2⟩ => ⟨h1, h2 ▸ Below.refl _ _⟩)
theorem u8_wf {z : Int} (h : (Lit.int .u8 z).wf = true) : 0 ≤ z ∧ z < 256 := by
  simp [Lit.wf, IntKind.min, IntKind.max, IntKind.signed, IntKind.bits] at h
  omega
theorem lens_row {w : World} {a : Option Addr} {len cap : Nat} {zs : List Int} (h : (a = none ∧ len = 0 ∧ cap = 0 ∧ zs = []) ∨ ∃ x, a = some x ∧ len ≤ cap ∧ cap ≤ maxLen ∧ zs.length = cap ∧ (∀ i, i < zs.length → w.cell? (x.add i) = some (.int .u8 (zs.getD i 0))) ∧ ∀ n ∈ zs, (Lit.int .u8 n).wf = true) :
    Lens w a len (fun i => (zs.getD i 0).toNat) := by
  intro hn
  rcases h with ⟨_, h0, _⟩ | ⟨x, rfl, h1, h2, h3, h4, h5⟩
  · omega
  · have hc := h4 0 (by omega)
    obtain ⟨b, off, spot⟩ := x
    have hs : spot = none := by
      cases spot with
      | none => rfl
      | some _ =>
        exfalso
        rw [show (⟨b, off, some _⟩ : Addr).add 0 = ⟨b, off, some _⟩ from rfl, World.cell?] at hc
        split at hc <;> simp at hc
    subst hs
    refine ⟨b, off, rfl, block_lt_of_cell hc, fun i hi => ?_⟩
    have hz := u8_wf (h5 (zs.getD i 0) (by rw [List.getD_eq_getElem?_getD, List.getElem?_eq_getElem (by omega), Option.getD_some]; exact List.getElem_mem _))
    have hc' := h4 i (by omega)
    have e : (⟨b, off, none⟩ : Addr).add i = ⟨b, off + i, none⟩ := by
      unfold Addr.add
      split
      · rename_i e
        subst e
        rfl
      · rfl
    rw [e] at hc'
    exact ⟨by rw [hc', Int.toNat_of_nonneg hz.1], show (zs.getD i 0).toNat < 256 by omega⟩

theorem its_row {w : World} {a : Option Addr} {len cap : Nat} {zs : List Int} (h : (a = none ∧ len = 0 ∧ cap = 0 ∧ zs = []) ∨ ∃ x, a = some x ∧ len ≤ cap ∧ cap ≤ maxLen ∧ zs.length = cap ∧ (∀ i, i < zs.length → w.cell? (x.add i) = some (.int .i64 (zs.getD i 0))) ∧ ∀ n ∈ zs, (Lit.int .i64 n).wf = true) :
    Its w a len (fun i => zs.getD i 0) := by
  intro hn
  rcases h with ⟨_, h0, _⟩ | ⟨x, rfl, h1, h2, h3, h4, h5⟩
  · omega
  · have hc := h4 0 (by omega)
    obtain ⟨b, off, spot⟩ := x
    have hs : spot = none := by
      cases spot with
      | none => rfl
      | some _ =>
        exfalso
        rw [show (⟨b, off, some _⟩ : Addr).add 0 = ⟨b, off, some _⟩ from rfl, World.cell?] at hc
        split at hc <;> simp at hc
    subst hs
    refine ⟨b, off, rfl, block_lt_of_cell hc, fun i hi => ?_⟩
    have hc' := h4 i (by omega)
    have e : (⟨b, off, none⟩ : Addr).add i = ⟨b, off + i, none⟩ := by
      unfold Addr.add
      split
      · rename_i e
        subst e
        rfl
      · rfl
    rw [e] at hc'
    exact hc'

theorem prefixReads_walk (a0 : Option Addr) (len0 cap0 : Nat) (z0 : List Int) (a1 : Bool) (a2 : ByteArray) (a3 : Option Addr) (len3 cap3 : Nat) (z3 : List Int) (w : World)
    (w0 : (a0 = none ∧ len0 = 0 ∧ cap0 = 0 ∧ z0 = []) ∨ ∃ x, a0 = some x ∧ len0 ≤ cap0 ∧ cap0 ≤ maxLen ∧ z0.length = cap0 ∧ (∀ i, i < z0.length → w.cell? (x.add i) = some (.int .u8 (z0.getD i 0))) ∧ ∀ n ∈ z0, (Lit.int .u8 n).wf = true)
    (_w2 : a2.size ≤ maxLen)
    (w3 : (a3 = none ∧ len3 = 0 ∧ cap3 = 0 ∧ z3 = []) ∨ ∃ x, a3 = some x ∧ len3 ≤ cap3 ∧ cap3 ≤ maxLen ∧ z3.length = cap3 ∧ (∀ i, i < z3.length → w.cell? (x.add i) = some (.int .i64 (z3.getD i 0))) ∧ ∀ n ∈ z3, (Lit.int .i64 n).wf = true) :
    Calls Try.prog 3 #[.slice a0 len0 cap0, .bool a1, .string a2, .slice a3 len3 cap3] w fun e w' => e = .returned (.bool true) ∧ Below w.heap.size w w' :=
  reads_all a0 a3 len0 cap0 len3 cap3 a1 _ _ a2 w (lens_row w0) (its_row w3)
end Go.Proofs.Ytabpcipfijakjaa
