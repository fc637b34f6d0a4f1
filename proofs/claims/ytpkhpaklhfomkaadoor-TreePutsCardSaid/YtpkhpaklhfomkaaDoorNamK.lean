/-
  Contracts: the document's less, Order, Parent, Base, Under.
-/
import Derived.Test.YtpkhpaklhfomkaaDoorNamJ
namespace Go.Proofs.YtpkhpaklhfomkaaDoor
set_option maxRecDepth 100000
open Go.RowKit Go.Deep Go.Joins Go.Lib

set_option maxHeartbeats 4000000 in
theorem rless_any (a b : ByteArray) (w : World) (ha : a.size ≤ 1000000) :
    Calls Tryd.prog 51 #[.string a, .string b] w fun e w' => e = .returned (.int .i64 (lessL (nums a) (nums b))) ∧ ∃ n, w' = w.drewN n := by
  go_enter Tryd.func51, Tryd.ntmps51
  go_wp2_with fail
  go_loopw [5] (fun i wr => ∃ k : Nat, k ≤ a.size ∧ k ≤ b.size ∧ i = .int .i64 (k : Nat) ∧ Hid (lessL ((nums a).drop k) ((nums b).drop k) = lessL (nums a) (nums b)) ∧ Hid (∃ n, wr = w.drewN n)) (fun i _ => a.size - (intOf i).toNat)
  case atStart => exact ⟨0, Nat.zero_le _, Nat.zero_le _, rfl, rfl, 0, rfl⟩
  case round =>
    obtain ⟨k, hka, hkb, rfl, HO, HD⟩ := hrel
    by_cases h1 : k < a.size
    · by_cases h2 : k < b.size
      · have HS : Hid (lessL ((nums a).drop k) ((nums b).drop k) = if a[k].toNat = b[k].toNat then lessL ((nums a).drop (k + 1)) ((nums b).drop (k + 1)) else if a[k].toNat < b[k].toNat then -1 else 1) := by
          show _ = _
          rw [nums_drop a k h1, nums_drop b k h2, lessL]
        have g1 : decide ((k : Int) < (a.size : Int)) = true := decide_eq_true (by omega)
        have g2 : decide ((k : Int) < (b.size : Int)) = true := decide_eq_true (by omega)
        rcases Nat.lt_trichotomy a[k].toNat b[k].toNat with hx | hx | hx
        · have g3 : decide (a[k].toNat < b[k].toNat) = true := decide_eq_true (by omega)
          have HE : Hid (lessL (nums a) (nums b) = -1) := by show _ = _; rw [← HO.out, HS.out, if_neg (by omega), if_pos hx]
          clear hx
          go_wp2_with fail
          go_quiet (fail)
          go_wp2_with fail
          go_ret
          rw [HE.out]
          obtain ⟨n, hn⟩ := HD.out
          exact ⟨rfl, n + nq, by rw [hn, World.drewN_drewN]⟩
        · have g3 : decide (a[k].toNat < b[k].toNat) = false := decide_eq_false (by omega)
          have g4 : decide (b[k].toNat < a[k].toNat) = false := decide_eq_false (by omega)
          have HE : Hid (lessL ((nums a).drop (k + 1)) ((nums b).drop (k + 1)) = lessL (nums a) (nums b)) := by show _ = _; rw [← HO.out, HS.out, if_pos hx]
          clear hx
          go_wp2_with fail
          go_quiet (fail)
          have HD2 : Hid (∃ n, wr.drewN nq = w.drewN n) := by
            obtain ⟨nd, hd⟩ := HD.out
            exact ⟨nd + nq, by rw [hd, World.drewN_drewN]⟩
          generalize wr.drewN nq = w2 at *
          go_wp2_with fail
          go_quiet (fail)
          go_wp2_with fail
          go_roundw
          case rel =>
            obtain ⟨nd, hd⟩ := HD2.out
            exact ⟨k + 1, by omega, by omega, by go_num, HE, nd + _, by rw [hd, World.drewN_drewN]⟩
          case measure => simp [intOf]; omega
        · have g3 : decide (a[k].toNat < b[k].toNat) = false := decide_eq_false (by omega)
          have g4 : decide (b[k].toNat < a[k].toNat) = true := decide_eq_true (by omega)
          have HE : Hid (lessL (nums a) (nums b) = 1) := by show _ = _; rw [← HO.out, HS.out, if_neg (by omega), if_neg (by omega)]
          clear hx
          go_wp2_with fail
          go_quiet (fail)
          have HD2 : Hid (∃ n, wr.drewN nq = w.drewN n) := by
            obtain ⟨nd, hd⟩ := HD.out
            exact ⟨nd + nq, by rw [hd, World.drewN_drewN]⟩
          generalize wr.drewN nq = w2 at *
          go_wp2_with fail
          go_quiet (fail)
          go_wp2_with fail
          go_ret
          rw [HE.out]
          obtain ⟨n, hn⟩ := HD2.out
          exact ⟨rfl, n + _, by rw [hn, World.drewN_drewN]⟩
      · obtain rfl : k = b.size := by omega
        have g1 : decide ((b.size : Int) < (a.size : Int)) = true := decide_eq_true (by omega)
        have g2 : decide ((a.size : Int) < (b.size : Int)) = false := decide_eq_false (by omega)
        have HE : Hid (lessL (nums a) (nums b) = 1) := by
          show _ = _
          rw [← HO.out, show (nums b).drop b.size = [] from List.drop_eq_nil_of_le (by rw [nums_len]; exact Nat.le_refl _), nums_drop a _ h1]
          rfl
        go_wp2_with fail
        go_ret
        rw [HE.out]
        exact ⟨rfl, HD.out⟩
    · obtain rfl : k = a.size := by omega
      have hn : (nums a).drop a.size = [] := List.drop_eq_nil_of_le (by rw [nums_len]; exact Nat.le_refl _)
      have g3 : decide ((b.size : Int) < (a.size : Int)) = false := decide_eq_false (by omega)
      by_cases h2 : a.size < b.size
      · have g2 : decide ((a.size : Int) < (b.size : Int)) = true := decide_eq_true (by omega)
        have HE : Hid (lessL (nums a) (nums b) = -1) := by
          show _ = _
          rw [← HO.out, hn, nums_drop b _ h2]
          rfl
        clear hn
        go_wp2_with fail
        go_ret
        rw [HE.out]
        exact ⟨rfl, HD.out⟩
      · have g2 : decide ((a.size : Int) < (b.size : Int)) = false := decide_eq_false (by omega)
        have HE : Hid (lessL (nums a) (nums b) = 0) := by
          show _ = _
          rw [← HO.out, hn, show (nums b).drop a.size = [] from List.drop_eq_nil_of_le (by rw [nums_len]; omega)]
          rfl
        clear hn
        go_wp2_with fail
        go_ret
        rw [HE.out]
        exact ⟨rfl, HD.out⟩

theorem splitL_mem : ∀ (l p : List Nat), p ∈ splitL l → ∀ x ∈ p, x ∈ l
  | [], p, hp, x, hx => by
    simp [splitL] at hp
    subst hp
    cases hx
  | c :: r, p, hp, x, hx => by
    obtain ⟨h, t, e⟩ := splitL_form r
    by_cases hc : c = 47
    · subst hc
      rw [splitL_slash] at hp
      rcases List.mem_cons.1 hp with rfl | hp
      · cases hx
      · exact .tail _ (splitL_mem r p hp x hx)
    · rw [splitL_other hc e] at hp
      rcases List.mem_cons.1 hp with rfl | hp
      · rcases List.mem_cons.1 hx with rfl | hx
        · exact .head _
        · exact .tail _ (splitL_mem r h (by rw [e]; exact .head _) x hx)
      · exact .tail _ (splitL_mem r p (by rw [e]; exact .tail _ hp) x hx)
theorem parts_lt (s : ByteArray) (p : List Nat) (hp : p ∈ partsL (nums s)) : ∀ x ∈ p, x < 256 := fun x hx => by
  unfold partsL at hp
  by_cases h : nums s = []
  · rw [if_pos h] at hp; cases hp
  · rw [if_neg h] at hp
    exact nums_lt s x (splitL_mem _ p hp x hx)
theorem parts_len (s : ByteArray) : (partsL (nums s)).length ≤ s.size + 1 := by
  unfold partsL
  split
  · simp
  · rw [splitL_count]
    have := List.count_le_length (a := 47) (l := nums s)
    rw [nums_len] at this
    omega
theorem splitL_size : ∀ (l p : List Nat), p ∈ splitL l → p.length ≤ l.length
  | [], p, hp => by
    simp [splitL] at hp
    subst hp
    simp
  | c :: r, p, hp => by
    obtain ⟨h, t, e⟩ := splitL_form r
    rw [List.length_cons]
    by_cases hc : c = 47
    · subst hc
      rw [splitL_slash] at hp
      rcases List.mem_cons.1 hp with rfl | hp
      · simp
      · have := splitL_size r p hp; omega
    · rw [splitL_other hc e] at hp
      rcases List.mem_cons.1 hp with rfl | hp
      · have := splitL_size r h (by rw [e]; exact .head _)
        rw [List.length_cons]; omega
      · have := splitL_size r p (by rw [e]; exact .tail _ hp); omega
theorem part_size (s : ByteArray) (p : List Nat) (hp : p ∈ partsL (nums s)) : p.length ≤ s.size := by
  unfold partsL at hp
  by_cases h : nums s = []
  · rw [if_pos h] at hp; cases hp
  · rw [if_neg h] at hp
    have := splitL_size _ p hp
    rw [nums_len] at this
    exact this
theorem own_str {w : World} {B c : Nat} {A : Option Addr} {ss : List (List Nat)} (h : w.ownsRow B 9 1 (.slice A ss.length c) ss.length (strC ss)) (h0 : 0 < ss.length) :
    ∃ g, A = some ⟨g, 0, none⟩ ∧ B ≤ g ∧ g < w.heap.size ∧ ∀ i (hi : i < ss.length), w.cell? ⟨g, i, none⟩ = some (.string (text ss[i])) := by
  have hl := h.lt
  rcases ownsRow_forms h with ⟨hv, hn⟩ | ⟨g2, cap, hv⟩
  · omega
  · injection hv with hA _ _
    subst hA
    refine ⟨g2, rfl, (hl g2 rfl).1, (hl g2 rfl).2, fun i hi => ?_⟩
    have := h.cellAt i (by omega)
    rw [this]
    simp only [strC, List.getElem?_map, List.getElem?_eq_getElem hi, Option.map_some]

theorem cmpL_drop {xs ys : List (List Nat)} {k : Nat} (h1 : k < xs.length) (h2 : k < ys.length) : cmpL (xs.drop k) (ys.drop k) = if lessL xs[k] ys[k] = 0 then cmpL (xs.drop (k + 1)) (ys.drop (k + 1)) else lessL xs[k] ys[k] := by
  rw [List.drop_eq_getElem_cons h1, List.drop_eq_getElem_cons h2, cmpL]
set_option maxHeartbeats 8000000 in
theorem rorder_any (a b : ByteArray) (w : World) (ha : a.size ≤ 100000) (hb : b.size ≤ 100000) :
    Calls Tryd.prog 38 #[.string a, .string b] w fun e w' => e = .returned (.int .i64 (ordT a b)) ∧ Below w.heap.size w w' := by
  have HPA := Lib.hid (fun w => rparts_any a w ha)
  have HPB := Lib.hid (fun w => rparts_any b w hb)
  have HC : Hid (cmpL (partsL (nums a)) (partsL (nums b)) = ordT a b) := cmp_parts _ _
  have hla := parts_len a
  have hlb := parts_len b
  have HMA : Hid (∀ p ∈ partsL (nums a), (text p).size ≤ 1000000 ∧ nums (text p) = p) := fun p hp => ⟨by rw [text_size]; have := part_size a p hp; omega, nums_text p (parts_lt a p hp)⟩
  have HMB : Hid (∀ p ∈ partsL (nums b), nums (text p) = p) := fun p hp => nums_text p (parts_lt b p hp)
  generalize partsL (nums a) = xs at *
  generalize partsL (nums b) = ys at *
  generalize ordT a b = O at *
  go_enter Tryd.func38, Tryd.ntmps38
  go_wp2_with fail
  refine (HPA.out _).mono ?_
  rintro e w1 ⟨v1, rfl, ho1, hb1⟩
  obtain ⟨A1, c1, rfl⟩ := row_slice ho1
  have HO1 := Lib.hid ho1
  have HB1 := Lib.hid hb1
  clear ho1 hb1
  go_wp2_with fail
  refine (HPB.out _).mono ?_
  rintro e w2 ⟨v2, rfl, ho2, hb2⟩
  obtain ⟨A2, c2, rfl⟩ := row_slice ho2
  have HO1' := Lib.hid (own_below HO1.out hb2)
  have HO2 := Lib.hid ho2
  have HB2 := Lib.hid (below_then HB1.out hb2)
  clear ho2 hb2 HO1 HB1
  go_wp2_with fail
  go_loopw [7] (fun i wr => ∃ k : Nat, k ≤ xs.length ∧ k ≤ ys.length ∧ i = .int .i64 (k : Nat) ∧ Hid (cmpL (xs.drop k) (ys.drop k) = O) ∧ Hid (∃ n, wr = w2.drewN n)) (fun i _ => xs.length - (intOf i).toNat)
  case atStart => exact ⟨0, Nat.zero_le _, Nat.zero_le _, rfl, HC.out, 0, rfl⟩
  case round =>
    obtain ⟨k, hka, hkb, rfl, HO, HD⟩ := hrel
    by_cases h1 : k < xs.length
    · by_cases h2 : k < ys.length
      · have HS := Lib.hid (cmpL_drop h1 h2)
        have g1 : decide ((k : Int) < (xs.length : Int)) = true := decide_eq_true (by omega)
        have g2 : decide ((k : Int) < (ys.length : Int)) = true := decide_eq_true (by omega)
        obtain ⟨g3, rfl, _, _, hc1⟩ := own_str HO1'.out (by omega)
        obtain ⟨g4, rfl, _, _, hc2⟩ := own_str HO2.out (by omega)
        have k1 : wr.cell? ⟨g3, k, none⟩ = some (.string (text xs[k])) := by
          obtain ⟨n, hn⟩ := HD.out
          rw [hn, World.cell?_drewN]
          exact hc1 k h1
        have k2 : wr.cell? ⟨g4, k, none⟩ = some (.string (text ys[k])) := by
          obtain ⟨n, hn⟩ := HD.out
          rw [hn, World.cell?_drewN]
          exact hc2 k h2
        obtain ⟨hm1, hm2⟩ := HMA.out xs[k] (List.getElem_mem h1)
        have hm3 := HMB.out ys[k] (List.getElem_mem h2)
        have HL := Lib.hid (fun w => rless_any (text xs[k]) (text ys[k]) w hm1)
        rw [hm2, hm3] at HL
        clear hc1 hc2 hm1 hm2 hm3
        generalize xs[k] = x at *
        generalize ys[k] = y at *
        by_cases hz : lessL x y = 0
        · have HE : Hid (cmpL (xs.drop (k + 1)) (ys.drop (k + 1)) = O) := by show _ = _; rw [← HO.out, HS.out, if_pos hz]
          rw [hz] at HL
          clear hz
          go_wp2_with fail
          go_quiet (first | (go_at_call 51; exact Calls.quiet_of (HL.out _)))
          go_wp2_with fail
          go_roundw
          case rel =>
            obtain ⟨nd, hd⟩ := HD.out
            exact ⟨k + 1, by omega, by omega, by go_num, HE, nd + _, by rw [hd, World.drewN_drewN]⟩
          case measure => simp [intOf]; omega
        · have HE : Hid (lessL x y = O) := by show _ = _; rw [← HO.out, HS.out, if_neg hz]
          have g3 : (lessL x y != 0) = true := by rw [bne_iff_ne]; exact hz
          clear hz
          go_wp2_with fail
          go_quiet (first | (go_at_call 51; exact Calls.quiet_of (HL.out _)))
          go_wp2_with fail
          go_ret
          obtain ⟨nd, hd⟩ := HD.out
          rw [HE.out, hd]
          exact ⟨rfl, below_drewN (below_drewN HB2.out _) _⟩
      · obtain rfl : k = ys.length := by omega
        have g1 : decide ((ys.length : Int) < (xs.length : Int)) = true := decide_eq_true (by omega)
        have g2 : decide ((xs.length : Int) < (ys.length : Int)) = false := decide_eq_false (by omega)
        have HE : Hid (O = 1) := by
          show _ = _
          rw [← HO.out, show ys.drop ys.length = [] from List.drop_length, List.drop_eq_getElem_cons h1]
          rfl
        go_wp2_with fail
        go_ret
        obtain ⟨nd, hd⟩ := HD.out
        rw [HE.out, hd]
        exact ⟨rfl, below_drewN HB2.out _⟩
    · obtain rfl : k = xs.length := by omega
      have hn : xs.drop xs.length = [] := List.drop_length
      have g3 : decide ((ys.length : Int) < (xs.length : Int)) = false := decide_eq_false (by omega)
      by_cases h2 : xs.length < ys.length
      · have g2 : decide ((xs.length : Int) < (ys.length : Int)) = true := decide_eq_true (by omega)
        have HE : Hid (O = -1) := by
          show _ = _
          rw [← HO.out, hn, List.drop_eq_getElem_cons h2]
          rfl
        clear hn
        go_wp2_with fail
        go_ret
        obtain ⟨nd, hd⟩ := HD.out
        rw [HE.out, hd]
        exact ⟨rfl, below_drewN HB2.out _⟩
      · have g2 : decide ((xs.length : Int) < (ys.length : Int)) = false := decide_eq_false (by omega)
        have HE : Hid (O = 0) := by
          show _ = _
          rw [← HO.out, hn, show ys.drop xs.length = [] from List.drop_eq_nil_of_le (by omega)]
          rfl
        clear hn
        go_wp2_with fail
        go_ret
        obtain ⟨nd, hd⟩ := HD.out
        rw [HE.out, hd]
        exact ⟨rfl, below_drewN HB2.out _⟩
end Go.Proofs.YtpkhpaklhfomkaaDoor
