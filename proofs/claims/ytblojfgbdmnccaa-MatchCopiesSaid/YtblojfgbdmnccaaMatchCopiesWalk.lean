/-
  The walk of MatchCopies: it returns true, whatever the bytes, the text and the level.
-/
import Derived.Test.YtblojfgbdmnccaaMatV
namespace Go.Proofs.Ytblojfgbdmnccaa
set_option maxRecDepth 100000
open Go.Joins Go.RowKit Go.Deep

theorem conv3 (w : World) (a b c : Nat) (ha : a < 256) (hb : b < 256) (hc : c < 256) : (convert 22 9 (.slice (some ⟨w.heap.size, 0, none⟩) 3 3)).run Try.prog (w.alloc (.cells #[.int .u8 (a : Nat), .int .u8 (b : Nat), .int .u8 (c : Nat)] 5)) = .ok (.string (tri a b c)) (w.alloc (.cells #[.int .u8 (a : Nat), .int .u8 (b : Nat), .int .u8 (c : Nat)] 5)) :=
  run_convert_bytes_back (P := Try.prog) _ 22 9 5 ⟨w.heap.size, 0, none⟩ 3 [UInt8.ofNat a, UInt8.ofNat b, UInt8.ofNat c] Try.underlying22 Try.underlying5 Try.underlying9 (fun j hj => by
    have hj3 : j < 3 := by simpa using hj
    rw [Addr.add_lit, cell_of_row _ _ _ _ _ _ (heap_alloc_new w _)]
    match j, hj3 with
    | 0, _ => simp [show (UInt8.ofNat a).toNat = a from Nat.mod_eq_of_lt ha]
    | 1, _ => simp [show (UInt8.ofNat b).toNat = b from Nat.mod_eq_of_lt hb]
    | 2, _ => simp [show (UInt8.ofNat c).toNat = c from Nat.mod_eq_of_lt hc])
set_option maxHeartbeats 8000000 in
theorem matchCopies_walk (a1 a2 a3 : Int) (b : ByteArray) (a4 : Int) (w1 : (Lit.int .u8 a1).wf = true) (w2 : (Lit.int .u8 a2).wf = true) (w3 : (Lit.int .u8 a3).wf = true) (_w0 : b.size ≤ maxLen) (w4 : (Lit.int .u8 a4).wf = true) (w : World) :
    Calls Try.prog 6 #[.int .u8 a1, .int .u8 a2, .int .u8 a3, .string b, .int .u8 a4] w fun e w' => e = .returned (.bool true) ∧ Below w.heap.size w w' := by
  have u8of : ∀ z : Int, (Lit.int .u8 z).wf = true → ∃ x : Nat, z = (x : Nat) ∧ x < 256 := fun z h => by
    have h2 : IntKind.u8.min ≤ z ∧ z ≤ IntKind.u8.max := by simpa [Lit.wf] using h
    have e1 : IntKind.u8.min = 0 := by decide
    have e2 : IntKind.u8.max = 255 := by decide
    rw [e1, e2] at h2
    exact ⟨z.toNat, by omega, by omega⟩
  obtain ⟨x, rfl, hx⟩ := u8of a1 w1
  obtain ⟨y, rfl, hy⟩ := u8of a2 w2
  obtain ⟨z, rfl, hz⟩ := u8of a3 w3
  obtain ⟨l, rfl, hl⟩ := u8of a4 w4
  unfold maxLen at *
  clear w1 w2 w3 w4 u8of
  by_cases h1 : 2000 < b.size
  · have g1 : decide ((2000 : Int) < (b.size : Int)) = true := decide_eq_true (by omega)
    have g2 : decide (2000 < b.size) = true := decide_eq_true h1
    go_enter Try.func6, Try.ntmps6
    go_wp2_with fail
    refine (awake7_any _).mono ?_; rintro e w1 ⟨rfl, hb1⟩
    go_wp2
    go_ret
    exact ⟨rfl, hb1⟩
  · have g1 : decide ((2000 : Int) < (b.size : Int)) = false := decide_eq_false (by omega)
    have g2 : decide (2000 < b.size) = false := decide_eq_false h1
    have HXYZ : Hid (x < 256 ∧ y < 256 ∧ z < 256) := ⟨hx, hy, hz⟩
    have hsz3 := tri_size x y z
    go_enter Try.func6, Try.ntmps6
    go_wp2_with fail
    refine (awake7_any _).mono ?_; rintro e w1 ⟨rfl, hb1⟩
    have HB1 := Lib.hid hb1
    clear hb1
    obtain ⟨lv, e1, hlv1, hlv2⟩ : ∃ n : Nat, ((1 : Int) + (l : Int) % 9) = (n : Int) ∧ 1 ≤ n ∧ n ≤ 9 := ⟨1 + l % 9, by omega, by omega, by omega⟩
    have ht1 : 1 ≤ triesOf lv := by
      unfold triesOf
      rw [if_neg (by omega)]
      have := Nat.one_le_two_pow (n := lv)
      omega
    have HP3 := Lib.hid (per3 x y z hx hy hz b)
    have HP9 := Lib.hid (per9 x y z hx hy hz)
    have h9s := nine_size x y z
    have HF1 := Lib.hid (fun W => find_any (tri x y z ++ tri x y z ++ tri x y z ++ b) lv (by simp only [ByteArray.size_append, tri_size]; omega) hlv2 W)
    have HF2 := Lib.hid (fun W => find_any (nine (tri x y z)) lv (by rw [nine_size]; omega) hlv2 W)
    have HC1 := Lib.hid (fun k h => has_copy (tri x y z ++ tri x y z ++ tri x y z ++ b) (triesOf lv) k (by simp only [ByteArray.size_append, tri_size]; omega) (by simp only [ByteArray.size_append, tri_size]; omega) ht1 HP3.out h)
    have HK1 := Lib.hid (fun k h => (found_ok (tri x y z ++ tri x y z ++ tri x y z ++ b) (triesOf lv) k (by simp only [ByteArray.size_append, tri_size]; omega) h).2.2)
    have HC2 := Lib.hid (fun k h => few_tokens (nine (tri x y z)) (triesOf lv) k (nine_size x y z) ht1 HP9.out h)
    clear HP3 HP9 h9s
    go_wp2_with fail
    rw [conv3 w1 x y z hx hy hz]
    have HB2 : Hid (Below w.heap.size w (w1.alloc (.cells #[.int .u8 (x : Nat), .int .u8 (y : Nat), .int .u8 (z : Nat)] 5))) := HB1.out.alloc HB1.out.size _
    generalize w1.alloc (.cells #[.int .u8 (x : Nat), .int .u8 (y : Nat), .int .u8 (z : Nat)] 5) = w2 at *
    clear hx hy hz HXYZ
    unfold nine at *
    generalize tri x y z = T at *
    have z2 : (T ++ T).size = 6 := by simp only [ByteArray.size_append, hsz3]
    have z3 : (T ++ T ++ T).size = 9 := by simp only [ByteArray.size_append, hsz3]
    have z4 : (T ++ T ++ T ++ T).size = 12 := by simp only [ByteArray.size_append, hsz3]
    have z5 : (T ++ T ++ T ++ T ++ T).size = 15 := by simp only [ByteArray.size_append, hsz3]
    have z6 : (T ++ T ++ T ++ T ++ T ++ T).size = 18 := by simp only [ByteArray.size_append, hsz3]
    have z7 : (T ++ T ++ T ++ T ++ T ++ T ++ T).size = 21 := by simp only [ByteArray.size_append, hsz3]
    have z8 : (T ++ T ++ T ++ T ++ T ++ T ++ T ++ T).size = 24 := by simp only [ByteArray.size_append, hsz3]
    have z9 : (T ++ T ++ T ++ T ++ T ++ T ++ T ++ T ++ T).size = 27 := by simp only [ByteArray.size_append, hsz3]
    have zb : (T ++ T ++ T ++ b).size = 9 + b.size := by simp only [ByteArray.size_append, hsz3]
    have hbb : b.size ≤ 2000 := by omega
    rw [zb] at HK1
    generalize befT (bt (T ++ T ++ T ++ b)) (T ++ T ++ T ++ b).size = E1 at *
    generalize befT (bt (T ++ T ++ T ++ T ++ T ++ T ++ T ++ T ++ T)) (T ++ T ++ T ++ T ++ T ++ T ++ T ++ T ++ T).size = E2 at *
    go_wp2_with fail
    refine (HF1.out _).mono ?_; rintro e w3 ⟨k, A, c, rfl, hfd, hT, hb3⟩
    have hex := HC1.out k hfd
    have hkb : k ≤ 2009 := by have := HK1.out k hfd; omega
    have HEX := Lib.hid hex
    have HB3 := Lib.hid (HB2.out.trans (hb3.mono HB2.out.size))
    have HT := Lib.hid hT
    clear hfd hT hb3 hex HF1 HC1 HK1
    generalize tkT (bt (T ++ T ++ T ++ b)) (T ++ T ++ T ++ b).size E1 (triesOf lv) = f at *
    have hit := info_tok
    go_wp2_with fail
    go_loopw [15, 48] (fun cp i wr => ∃ j q : Nat, j ≤ k ∧ q ≤ j ∧ cp = .int .i64 (q : Nat) ∧ i = .int .i64 (j : Nat) ∧ Hid (∀ i, i < j → 0 < (f i).l → 0 < q) ∧ Hid (Toks wr A k f) ∧ Hid (Below w.heap.size w wr)) (fun _ i _ => k - (intOf i).toNat)
    case atStart => exact ⟨0, 0, Nat.zero_le _, Nat.le_refl _, rfl, rfl, fun i h => by omega, HT, HB3⟩
    case round =>
      obtain ⟨j, q, hj, hq, rfl, rfl, HQ, HTJ, HBJ⟩ := hrel
      by_cases hjk : j < k
      · obtain ⟨b0, off, rfl, hbl, hc⟩ := HTJ.out (by omega)
        obtain ⟨hok, c0, c1, c2⟩ := hc j hjk
        have HBN := Lib.hid (HBJ.out.alloc HBJ.out.size (.cells #[.int .u8 ((f j).b : Nat), .int .i64 (f j).l, .int .i64 (f j).d] 56))
        have HTN := Lib.hid (HTJ.out.below (Nat.le_refl _) ((Below.refl _ _).alloc (Nat.le_refl _) (.cells #[.int .u8 ((f j).b : Nat), .int .i64 (f j).l, .int .i64 (f j).d] 56)))
        by_cases hl0 : 0 < (f j).l
        · have HQ1 : Hid (∀ i, i < j + 1 → 0 < (f i).l → 0 < q + 1) := fun i _ _ => by omega
          have g : decide (0 < (f j).l) = true := decide_eq_true hl0
          clear hc hok hl0
          generalize hfj : f j = U at *
          clear hfj
          obtain ⟨tb, tl, td⟩ := U
          dsimp only at *
          go_wp2_with fail
          go_roundw
          case rel => exact ⟨j + 1, q + 1, by omega, by omega, by go_num, by go_num, HQ1, HTN, HBN⟩
          case measure => simp [intOf]; omega
        · have HQ1 : Hid (∀ i, i < j + 1 → 0 < (f i).l → 0 < q) := fun i h1 h2 => by
            by_cases e : i = j
            · subst e; exact absurd h2 hl0
            · exact HQ.out i (by omega) h2
          have g : decide (0 < (f j).l) = false := decide_eq_false hl0
          clear hc hok hl0
          generalize hfj : f j = U at *
          clear hfj
          obtain ⟨tb, tl, td⟩ := U
          dsimp only at *
          go_wp2_with fail
          go_roundw
          case rel => exact ⟨j + 1, q, by omega, by omega, rfl, by go_num, HQ1, HTN, HBN⟩
          case measure => simp [intOf]; omega
      · obtain rfl : j = k := by omega
        have hq0 : 0 < q := by
          obtain ⟨i, h1, h2⟩ := HEX.out
          exact HQ.out i h1 h2
        have g3 : decide ((0 : Int) < (q : Int)) = true := decide_eq_true (by omega)
        go_wp2_with fail
        refine (HF2.out _).mono ?_; rintro e w5 ⟨k5, A5, c5, rfl, hfd5, _, hb5⟩
        have h8 := HC2.out k5 hfd5
        have g4 : decide ((k5 : Int) ≤ 8) = true := decide_eq_true (by omega)
        have HB5 := Lib.hid (HBJ.out.trans (hb5.mono HBJ.out.size))
        clear hb5 hfd5
        go_wp2
        go_ret
        exact ⟨rfl, HB5.out⟩
end Go.Proofs.Ytblojfgbdmnccaa
