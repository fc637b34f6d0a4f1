/-
  The walk of PrefixWhole: it returns true, whatever the lengths and the bytes.
-/
import Derived.Test.YtmmcolfeboammaaPreM
import Derived.Test.YtmmcolfeboammaaPreL
namespace Go.Proofs.Ytmmcolfeboammaa
open Go.RowKit Go.Joins

theorem u8_wf {z : Int} (h : (Lit.int .u8 z).wf = true) : 0 ≤ z ∧ z < 256 := by
  simp [Lit.wf, IntKind.min, IntKind.max, IntKind.signed, IntKind.bits] at h
  omega
theorem lens_row {w : World} {a : Option Addr} {len cap : Nat} {zs : List Int} (h : (a = none ∧ len = 0 ∧ cap = 0 ∧ zs = []) ∨ ∃ x, a = some x ∧ len ≤ cap ∧ cap ≤ maxLen ∧ zs.length = cap ∧ (∀ i, i < zs.length → w.cell? (x.add i) = some (.int .u8 (zs.getD i 0))) ∧ ∀ n ∈ zs, (Lit.int .u8 n).wf = true) :
    Lens w a len (fun i => (zs.getD i 0).toNat) := by
  intro hn
  rcases h with ⟨_, h0, _⟩ | ⟨x, rfl, h1, h2, h3, h4, h5⟩
  · omega
  · have hc := h4 0 (by omega)
    obtain ⟨b, off, spot⟩ := x
    have hs : spot = none := by
      cases spot with
      | none => rfl
      | some _ =>
        exfalso
        rw [show (⟨b, off, some _⟩ : Addr).add 0 = ⟨b, off, some _⟩ from rfl, World.cell?] at hc
        split at hc <;> simp at hc
    subst hs
    refine ⟨b, off, rfl, block_lt_of_cell hc, fun i hi => ?_⟩
    have hz := u8_wf (h5 (zs.getD i 0) (by rw [List.getD_eq_getElem?_getD, List.getElem?_eq_getElem (by omega), Option.getD_some]; exact List.getElem_mem _))
    have hc' := h4 i (by omega)
    have e : (⟨b, off, none⟩ : Addr).add i = ⟨b, off + i, none⟩ := by
      unfold Addr.add
      split
      · rename_i e
        subst e
        rfl
      · rfl
    rw [e] at hc'
    exact ⟨by rw [hc', Int.toNat_of_nonneg hz.1], show (zs.getD i 0).toNat < 256 by omega⟩

set_option maxRecDepth 100000 in
set_option maxHeartbeats 4000000 in
theorem whole_err (A : Option Addr) (n cap : Nat) (s : ByteArray) (x : Int) (hx : x ≠ 0) (hn : n ≤ 400) (hs : s.size ≤ 200) (w : World) (hN : ∀ w1, Below w.heap.size w w1 → Calls Try.prog 38 #[.slice A n cap, .bool false] w1 fun e w' => e = .returned (.tuple #[.pointer none, .int .i64 x]) ∧ Below w1.heap.size w1 w') :
    Calls Try.prog 10 #[.slice A n cap, .string s] w fun e w' => e = .returned (.bool true) ∧ Below w.heap.size w w' := by
  have HN := Lib.hid hN
  have hx' : (x == 0) = false := by rw [beq_eq_false_iff_ne]; exact hx
  clear hN hx
  go_enter Try.func10, Try.ntmps10
  go_wp2_with (go_at_call 37; refine (awake4_any _).mono ?_; rintro e w1 ⟨rfl, hb1⟩)
  have HB1 := Lib.hid hb1
  clear hb1
  go_wp2_with (go_at_call 38; refine (HN.out _ HB1.out).mono ?_; rintro e w2 ⟨rfl, hb2⟩)
  have HB2 := Lib.hid (below_then HB1.out hb2)
  clear hb2
  go_wp2
  go_ret
  exact ⟨rfl, HB2.out⟩

theorem whole_big (A : Option Addr) (n cap : Nat) (s : ByteArray) (hn : 400 < n ∨ 200 < s.size) (w : World) :
    Calls Try.prog 10 #[.slice A n cap, .string s] w fun e w' => e = .returned (.bool true) ∧ Below w.heap.size w w' := by
  by_cases h : 400 < n
  · clear hn
    go_enter Try.func10, Try.ntmps10
    go_wp2_with (go_at_call 37; refine (awake4_any _).mono ?_; rintro e w1 ⟨rfl, hb1⟩)
    go_ret
    exact ⟨rfl, hb1⟩
  · have h2 : 200 < s.size := by omega
    clear hn
    go_enter Try.func10, Try.ntmps10
    go_wp2_with (go_at_call 37; refine (awake4_any _).mono ?_; rintro e w1 ⟨rfl, hb1⟩)
    go_ret
    exact ⟨rfl, hb1⟩

set_option maxRecDepth 100000 in
set_option maxHeartbeats 8000000 in
theorem whole_ok (A : Option Addr) (n cap : Nat) (ls : Nat → Nat) (s : ByteArray) (hn : n ≤ 400) (hs : s.size ≤ 200) (w : World) (hL : Lens w A n ls) (h15 : ∀ i, i < n → ls i ≤ 15) (hf : fillN ls n = 32768) :
    Calls Try.prog 10 #[.slice A n cap, .string s] w fun e w' => e = .returned (.bool true) ∧ Below w.heap.size w w' := by
  have HN := Lib.hid (fun w1 (h : Below w.heap.size w w1) => new_ok A n cap false ls (by omega) w1 (hL.below (Nat.le_refl _) h) h15 (by omega) (.inl hf))
  have HW : Hid (∀ i, i < n → ls i < 256 ∧ wordN ls n i < 4294967296) := fun i hi => ⟨by have := h15 i hi; omega, by have := wordN_le ls n h15 (by omega) i hi; omega⟩
  have hmx := max_le ls n h15
  have HNO := Lib.hid (fun v => whole_any ls n v _ h15 hf (fun i hi => le_max ls n i hi) hmx)
  have HL15 := Lib.hid h15
  clear hL h15 hf
  generalize (if n = 0 then 0 else maxN ls (n - 1)) = mx at *
  generalize wordN ls n = W at *
  go_enter Try.func10, Try.ntmps10
  go_wp2_with (go_at_call 37; refine (awake4_any _).mono ?_; rintro e w1 ⟨rfl, hb1⟩)
  have HB1 := Lib.hid hb1
  clear hb1
  go_wp2_with (go_at_call 38; refine (HN.out _ HB1.out).mono ?_; rintro e w2 ⟨g, rfl, ⟨bm, hcd⟩, hb2⟩)
  have HCD := Lib.hid hcd
  have HB2 := Lib.hid (below_then HB1.out hb2)
  clear hcd hb2 HN
  go_wp2_with (go_at_call 13; refine (over_any _ _).mono ?_; rintro e w3 ⟨rfl, rfl⟩)
  have hrd : Rd 77 (w2.alloc (.cells #[.string s, .int .i64 0, .int .i64 0] 77)) w2.heap.size s 0 0 := heap_alloc_new _ _
  have hcd3 : Cd0 (w2.alloc (.cells #[.string s, .int .i64 0, .int .i64 0] 77)) w1.heap.size g bm ls W n mx := HCD.out.below ((Below.refl _ _).alloc (Nat.le_refl _) _)
  have hb3 : Below w.heap.size w (w2.alloc (.cells #[.string s, .int .i64 0, .int .i64 0] 77)) := HB2.out.alloc HB2.out.size _
  have HGR := Lib.hid HB2.out.size
  have HG := Lib.hid HCD.out.lt.1
  generalize w2.alloc (.cells #[.string s, .int .i64 0, .int .i64 0] 77) = W3 at *
  generalize w2.heap.size = gr at *
  generalize w1.heap.size = B1 at *
  have HI : Hid (Rd 77 W3 gr s 0 0 ∧ Cd0 W3 B1 g bm ls W n mx ∧ Below w.heap.size w W3) := ⟨hrd, hcd3, hb3⟩
  clear hrd hcd3 hb3 HB1 HB2 HCD
  go_loopw [36] (fun i wr => ∃ k a : Nat, k ≤ a ∧ a ≤ 8 * s.size ∧ i = .int .i64 k ∧ Rd 77 wr gr s a 0 ∧ Cd0 wr B1 g bm ls W n mx ∧ Below w.heap.size w wr) (fun i _ => 8 * s.size + 1 - (intOf i).toNat)
  case atStart => exact ⟨0, 0, Nat.le_refl _, Nat.zero_le _, rfl, HI.out⟩
  case round =>
    obtain ⟨k, a, hka, ha, rfl, hrd, hcd, hb⟩ := hrel
    have HRD := Lib.hid hrd
    have HCD := Lib.hid hcd
    have HB := Lib.hid hb
    clear hrd hcd hb HI
    have hlt : k < 8 * s.size + 1 := by omega
    have HAT := Lib.hid (at_any gr s a 0 wr HRD.out)
    have HSG := Lib.hid (sign_any B1 g bm n mx gr a ls W s (by omega) ha hmx HW.out wr HCD.out HRD.out)
    have hpk : peekM s a 0 15 = min 15 (8 * s.size - a) := if_pos ⟨rfl, by omega, by omega⟩
    rw [hpk] at HSG
    generalize hmm : min 15 (8 * s.size - a) = many at *
    generalize bitsAt (num s) a many = v at *
    go_wp2_with fail
    refine (HAT.out).mono ?_; rintro e w4 ⟨rfl, rfl⟩
    go_wp2_with fail
    refine (HSG.out).mono ?_; rintro e w5 ⟨x, y, l, rfl, hsi, hr5, hg5⟩
    have HB5 : Hid (Below w.heap.size w w5) := HB.out.grown hg5 HB.out.size (by intro k hk; injection hk with hk; rw [← hk]; exact HGR.out)
    have hcd5 : Cd0 w5 B1 g bm ls W n mx := HCD.out.grown (by decide) (by decide) HRD.out hg5
    have HR5 := Lib.hid hr5
    have HC5 := Lib.hid hcd5
    clear hg5 hcd5 hr5 HAT HSG
    rcases hsi with ⟨i, rfl, rfl, hl1, hl2, hl3, hfi, _⟩ | ⟨rfl, rfl, rfl, h1, _⟩ | ⟨rfl, rfl, rfl, _, hno⟩
    · obtain ⟨hi, hli, _⟩ := find_is ls W l _ n i hfi
      have hal : a + l ≤ 8 * s.size := by omega
      have HLN := Lib.hid (length_any B1 g bm n mx i ls W hi (HW.out i hi).1 w5 HC5.out)
      have HAT5 := Lib.hid (at_any gr s (a + l) 0 w5 HR5.out)
      rw [hli] at HLN
      have hkb : k + 1 ≤ a + l := by omega
      have HR5b := HR5
      generalize hab : a + l = b at *
      have hsub : (b : Int) - (a : Int) = (l : Int) := by omega
      have hl0 : ¬ (i : Int) < 0 := by omega
      have hl9 : ¬ (n : Int) ≤ (i : Int) := by omega
      clear hfi hli hmm hab HR5
      go_wp2_with (first | (go_at_call 44; refine (HLN.out).mono ?_; rintro e w6 ⟨rfl, rfl⟩) | (go_at_call 24; refine (HAT5.out).mono ?_; rintro e w6 ⟨rfl, rfl⟩))
      go_roundw
      case rel => exact ⟨k + 1, b, hkb, hal, by go_num, HR5b.out, HC5.out, HB5.out⟩
      case measure => simp [intOf]; omega
    · have HAT5 := Lib.hid (at_any gr s (a + 0) 0 w5 HR5.out)
      have hms : 8 * (s.size : Int) - (a : Int) < 15 := by omega
      clear hmm
      go_wp2_with (go_at_call 24; refine (HAT5.out).mono ?_; rintro e w6 ⟨rfl, rfl⟩)
      go_ret
      exact ⟨rfl, HB5.out⟩
    · exact absurd hno (HNO.out _)
theorem prefixWhole_walk (a0 : Option Addr) (len0 cap0 : Nat) (z0 : List Int) (a1 : ByteArray) (w : World) (w0 : (a0 = none ∧ len0 = 0 ∧ cap0 = 0 ∧ z0 = []) ∨ ∃ x, a0 = some x ∧ len0 ≤ cap0 ∧ cap0 ≤ maxLen ∧ z0.length = cap0 ∧ (∀ i, i < z0.length → w.cell? (x.add i) = some (.int .u8 (z0.getD i 0))) ∧ ∀ n ∈ z0, (Lit.int .u8 n).wf = true) (_w1 : a1.size ≤ maxLen) :
    Calls Try.prog 10 #[.slice a0 len0 cap0, .string a1] w fun e w' => e = .returned (.bool true) ∧ Below w.heap.size w w' := by
  have hL := lens_row w0
  generalize (fun i => (z0.getD i 0).toNat) = ls at hL
  by_cases hbig : 400 < len0 ∨ 200 < a1.size
  · exact whole_big _ _ _ _ hbig w
  · have hn : len0 ≤ 400 := by omega
    have hs : a1.size ≤ 200 := by omega
    by_cases h15 : ∀ i, i < len0 → ls i ≤ 15
    · by_cases h1 : 32768 < fillN ls len0
      · exact whole_err _ _ _ _ 10 (by omega) hn hs w fun w1 h => (new_err a0 len0 cap0 false 10 (by omega) w1 (words_over a0 len0 cap0 ls (by omega) w1 (hL.below (Nat.le_refl _) h) h15 h1)).mono fun e w' ⟨h1, h2⟩ => ⟨h1, h2 ▸ Below.refl _ _⟩
      · by_cases h2 : fillN ls len0 = 32768
        · exact whole_ok _ _ _ ls _ hn hs w hL h15 h2
        · exact whole_err _ _ _ _ 10 (by omega) hn hs w fun w1 h => new_part a0 len0 cap0 ls (by omega) w1 (hL.below (Nat.le_refl _) h) h15 (by omega)
    · exact whole_err _ _ _ _ 8 (by omega) hn hs w fun w1 h => (new_err a0 len0 cap0 false 8 (by omega) w1 (words_bad a0 len0 cap0 ls (by omega) w1 (hL.below (Nat.le_refl _) h) h15)).mono fun e w' ⟨h1, h2⟩ => ⟨h1, h2 ▸ Below.refl _ _⟩
end Go.Proofs.Ytmmcolfeboammaa
