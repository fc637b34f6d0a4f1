/-
  Contracts: the document's less, Order, Parent, Base, Under.
  The walk of NameOrders: it returns true, whatever the paths.
  Contracts: the document's Parent, Base, Under.
  Contracts: the document's Strays, Check.
  Contract: the document's Check.
  Trees: the document's Right.
  Trees: the document's Right, of layer 16.
-/
import Derived.Test.YtpkhpaklhfomkaaGreatDoorPkI
import Derived.Test.YtpkhpaklhfomkaaGreatDoorNamO
import Derived.Test.YtpkhpaklhfomkaaGreatDoorTpG
import Derived.Deep.RegionHeld3

namespace Go.Proofs.YtpkhpaklhfomkaaGreatDoor
set_option maxRecDepth 100000
open Go.RowKit Go.Deep Go.Joins Go.Lib

set_option maxHeartbeats 4000000 in
theorem rless_any (a b : ByteArray) (w : World) (ha : a.size ≤ 1000000) :
    Calls Tryz.prog 87 #[.string a, .string b] w fun e w' => e = .returned (.int .i64 (lessL (nums a) (nums b))) ∧ ∃ n, w' = w.drewN n := by
  go_enter Tryz.func87, Tryz.ntmps87
  go_wp2_with fail
  go_loopw [5] (fun i wr => ∃ k : Nat, k ≤ a.size ∧ k ≤ b.size ∧ i = .int .i64 (k : Nat) ∧ Hid (lessL ((nums a).drop k) ((nums b).drop k) = lessL (nums a) (nums b)) ∧ Hid (∃ n, wr = w.drewN n)) (fun i _ => a.size - (intOf i).toNat)
  case atStart => exact ⟨0, Nat.zero_le _, Nat.zero_le _, rfl, rfl, 0, rfl⟩
  case round =>
    obtain ⟨k, hka, hkb, rfl, HO, HD⟩ := hrel
    by_cases h1 : k < a.size
    · by_cases h2 : k < b.size
      · have HS : Hid (lessL ((nums a).drop k) ((nums b).drop k) = if a[k].toNat = b[k].toNat then lessL ((nums a).drop (k + 1)) ((nums b).drop (k + 1)) else if a[k].toNat < b[k].toNat then -1 else 1) := by
          show _ = _
          rw [nums_drop a k h1, nums_drop b k h2, lessL]
        have g1 : decide ((k : Int) < (a.size : Int)) = true := decide_eq_true (by omega)
        have g2 : decide ((k : Int) < (b.size : Int)) = true := decide_eq_true (by omega)
        rcases Nat.lt_trichotomy a[k].toNat b[k].toNat with hx | hx | hx
        · have g3 : decide (a[k].toNat < b[k].toNat) = true := decide_eq_true (by omega)
          have HE : Hid (lessL (nums a) (nums b) = -1) := by show _ = _; rw [← HO.out, HS.out, if_neg (by omega), if_pos hx]
          clear hx
          go_wp2_with fail
          go_quiet (fail)
          go_wp2_with fail
          go_ret
          rw [HE.out]
          obtain ⟨n, hn⟩ := HD.out
          exact ⟨rfl, n + nq, by rw [hn, World.drewN_drewN]⟩
        · have g3 : decide (a[k].toNat < b[k].toNat) = false := decide_eq_false (by omega)
          have g4 : decide (b[k].toNat < a[k].toNat) = false := decide_eq_false (by omega)
          have HE : Hid (lessL ((nums a).drop (k + 1)) ((nums b).drop (k + 1)) = lessL (nums a) (nums b)) := by show _ = _; rw [← HO.out, HS.out, if_pos hx]
          clear hx
          go_wp2_with fail
          go_quiet (fail)
          have HD2 : Hid (∃ n, wr.drewN nq = w.drewN n) := by
            obtain ⟨nd, hd⟩ := HD.out
            exact ⟨nd + nq, by rw [hd, World.drewN_drewN]⟩
          generalize wr.drewN nq = w2 at *
          go_wp2_with fail
          go_quiet (fail)
          go_wp2_with fail
          go_roundw
          case rel =>
            obtain ⟨nd, hd⟩ := HD2.out
            exact ⟨k + 1, by omega, by omega, by go_num, HE, nd + _, by rw [hd, World.drewN_drewN]⟩
          case measure => simp [intOf]; omega
        · have g3 : decide (a[k].toNat < b[k].toNat) = false := decide_eq_false (by omega)
          have g4 : decide (b[k].toNat < a[k].toNat) = true := decide_eq_true (by omega)
          have HE : Hid (lessL (nums a) (nums b) = 1) := by show _ = _; rw [← HO.out, HS.out, if_neg (by omega), if_neg (by omega)]
          clear hx
          go_wp2_with fail
          go_quiet (fail)
          have HD2 : Hid (∃ n, wr.drewN nq = w.drewN n) := by
            obtain ⟨nd, hd⟩ := HD.out
            exact ⟨nd + nq, by rw [hd, World.drewN_drewN]⟩
          generalize wr.drewN nq = w2 at *
          go_wp2_with fail
          go_quiet (fail)
          go_wp2_with fail
          go_ret
          rw [HE.out]
          obtain ⟨n, hn⟩ := HD2.out
          exact ⟨rfl, n + _, by rw [hn, World.drewN_drewN]⟩
      · obtain rfl : k = b.size := by omega
        have g1 : decide ((b.size : Int) < (a.size : Int)) = true := decide_eq_true (by omega)
        have g2 : decide ((a.size : Int) < (b.size : Int)) = false := decide_eq_false (by omega)
        have HE : Hid (lessL (nums a) (nums b) = 1) := by
          show _ = _
          rw [← HO.out, show (nums b).drop b.size = [] from List.drop_eq_nil_of_le (by rw [nums_len]; exact Nat.le_refl _), nums_drop a _ h1]
          rfl
        go_wp2_with fail
        go_ret
        rw [HE.out]
        exact ⟨rfl, HD.out⟩
    · obtain rfl : k = a.size := by omega
      have hn : (nums a).drop a.size = [] := List.drop_eq_nil_of_le (by rw [nums_len]; exact Nat.le_refl _)
      have g3 : decide ((b.size : Int) < (a.size : Int)) = false := decide_eq_false (by omega)
      by_cases h2 : a.size < b.size
      · have g2 : decide ((a.size : Int) < (b.size : Int)) = true := decide_eq_true (by omega)
        have HE : Hid (lessL (nums a) (nums b) = -1) := by
          show _ = _
          rw [← HO.out, hn, nums_drop b _ h2]
          rfl
        clear hn
        go_wp2_with fail
        go_ret
        rw [HE.out]
        exact ⟨rfl, HD.out⟩
      · have g2 : decide ((a.size : Int) < (b.size : Int)) = false := decide_eq_false (by omega)
        have HE : Hid (lessL (nums a) (nums b) = 0) := by
          show _ = _
          rw [← HO.out, hn, show (nums b).drop a.size = [] from List.drop_eq_nil_of_le (by rw [nums_len]; omega)]
          rfl
        clear hn
        go_wp2_with fail
        go_ret
        rw [HE.out]
        exact ⟨rfl, HD.out⟩

theorem splitL_mem : ∀ (l p : List Nat), p ∈ splitL l → ∀ x ∈ p, x ∈ l
  | [], p, hp, x, hx => by
    simp [splitL] at hp
    subst hp
    cases hx
  | c :: r, p, hp, x, hx => by
    obtain ⟨h, t, e⟩ := splitL_form r
    by_cases hc : c = 47
    · subst hc
      rw [splitL_slash] at hp
      rcases List.mem_cons.1 hp with rfl | hp
      · cases hx
      · exact .tail _ (splitL_mem r p hp x hx)
    · rw [splitL_other hc e] at hp
      rcases List.mem_cons.1 hp with rfl | hp
      · rcases List.mem_cons.1 hx with rfl | hx
        · exact .head _
        · exact .tail _ (splitL_mem r h (by rw [e]; exact .head _) x hx)
      · exact .tail _ (splitL_mem r p (by rw [e]; exact .tail _ hp) x hx)
theorem parts_lt (s : ByteArray) (p : List Nat) (hp : p ∈ partsL (nums s)) : ∀ x ∈ p, x < 256 := fun x hx => by
  unfold partsL at hp
  by_cases h : nums s = []
  · rw [if_pos h] at hp; cases hp
  · rw [if_neg h] at hp
    exact nums_lt s x (splitL_mem _ p hp x hx)
theorem parts_len (s : ByteArray) : (partsL (nums s)).length ≤ s.size + 1 := by
  unfold partsL
  split
  · simp
  · rw [splitL_count]
    have := List.count_le_length (a := 47) (l := nums s)
    rw [nums_len] at this
    omega
theorem splitL_size : ∀ (l p : List Nat), p ∈ splitL l → p.length ≤ l.length
  | [], p, hp => by
    simp [splitL] at hp
    subst hp
    simp
  | c :: r, p, hp => by
    obtain ⟨h, t, e⟩ := splitL_form r
    rw [List.length_cons]
    by_cases hc : c = 47
    · subst hc
      rw [splitL_slash] at hp
      rcases List.mem_cons.1 hp with rfl | hp
      · simp
      · have := splitL_size r p hp; omega
    · rw [splitL_other hc e] at hp
      rcases List.mem_cons.1 hp with rfl | hp
      · have := splitL_size r h (by rw [e]; exact .head _)
        rw [List.length_cons]; omega
      · have := splitL_size r p (by rw [e]; exact .tail _ hp); omega
theorem part_size (s : ByteArray) (p : List Nat) (hp : p ∈ partsL (nums s)) : p.length ≤ s.size := by
  unfold partsL at hp
  by_cases h : nums s = []
  · rw [if_pos h] at hp; cases hp
  · rw [if_neg h] at hp
    have := splitL_size _ p hp
    rw [nums_len] at this
    exact this
theorem own_str {w : World} {B c : Nat} {A : Option Addr} {ss : List (List Nat)} (h : w.ownsRow B 9 1 (.slice A ss.length c) ss.length (strC ss)) (h0 : 0 < ss.length) :
    ∃ g, A = some ⟨g, 0, none⟩ ∧ B ≤ g ∧ g < w.heap.size ∧ ∀ i (hi : i < ss.length), w.cell? ⟨g, i, none⟩ = some (.string (text ss[i])) := by
  have hl := h.lt
  rcases ownsRow_forms h with ⟨hv, hn⟩ | ⟨g2, cap, hv⟩
  · omega
  · injection hv with hA _ _
    subst hA
    refine ⟨g2, rfl, (hl g2 rfl).1, (hl g2 rfl).2, fun i hi => ?_⟩
    have := h.cellAt i (by omega)
    rw [this]
    simp only [strC, List.getElem?_map, List.getElem?_eq_getElem hi, Option.map_some]

theorem cmpL_drop {xs ys : List (List Nat)} {k : Nat} (h1 : k < xs.length) (h2 : k < ys.length) : cmpL (xs.drop k) (ys.drop k) = if lessL xs[k] ys[k] = 0 then cmpL (xs.drop (k + 1)) (ys.drop (k + 1)) else lessL xs[k] ys[k] := by
  rw [List.drop_eq_getElem_cons h1, List.drop_eq_getElem_cons h2, cmpL]
set_option maxHeartbeats 8000000 in
theorem rorder_any (a b : ByteArray) (w : World) (ha : a.size ≤ 100000) (hb : b.size ≤ 100000) :
    Calls Tryz.prog 54 #[.string a, .string b] w fun e w' => e = .returned (.int .i64 (ordT a b)) ∧ Below w.heap.size w w' := by
  have HPA := Lib.hid (fun w => rparts_any a w ha)
  have HPB := Lib.hid (fun w => rparts_any b w hb)
  have HC : Hid (cmpL (partsL (nums a)) (partsL (nums b)) = ordT a b) := cmp_parts _ _
  have hla := parts_len a
  have hlb := parts_len b
  have HMA : Hid (∀ p ∈ partsL (nums a), (text p).size ≤ 1000000 ∧ nums (text p) = p) := fun p hp => ⟨by rw [text_size]; have := part_size a p hp; omega, nums_text p (parts_lt a p hp)⟩
  have HMB : Hid (∀ p ∈ partsL (nums b), nums (text p) = p) := fun p hp => nums_text p (parts_lt b p hp)
  generalize partsL (nums a) = xs at *
  generalize partsL (nums b) = ys at *
  generalize ordT a b = O at *
  go_enter Tryz.func54, Tryz.ntmps54
  go_wp2_with fail
  refine (HPA.out _).mono ?_
  rintro e w1 ⟨v1, rfl, ho1, hb1⟩
  obtain ⟨A1, c1, rfl⟩ := row_slice ho1
  have HO1 := Lib.hid ho1
  have HB1 := Lib.hid hb1
  clear ho1 hb1
  go_wp2_with fail
  refine (HPB.out _).mono ?_
  rintro e w2 ⟨v2, rfl, ho2, hb2⟩
  obtain ⟨A2, c2, rfl⟩ := row_slice ho2
  have HO1' := Lib.hid (own_below HO1.out hb2)
  have HO2 := Lib.hid ho2
  have HB2 := Lib.hid (below_then HB1.out hb2)
  clear ho2 hb2 HO1 HB1
  go_wp2_with fail
  go_loopw [7] (fun i wr => ∃ k : Nat, k ≤ xs.length ∧ k ≤ ys.length ∧ i = .int .i64 (k : Nat) ∧ Hid (cmpL (xs.drop k) (ys.drop k) = O) ∧ Hid (∃ n, wr = w2.drewN n)) (fun i _ => xs.length - (intOf i).toNat)
  case atStart => exact ⟨0, Nat.zero_le _, Nat.zero_le _, rfl, HC.out, 0, rfl⟩
  case round =>
    obtain ⟨k, hka, hkb, rfl, HO, HD⟩ := hrel
    by_cases h1 : k < xs.length
    · by_cases h2 : k < ys.length
      · have HS := Lib.hid (cmpL_drop h1 h2)
        have g1 : decide ((k : Int) < (xs.length : Int)) = true := decide_eq_true (by omega)
        have g2 : decide ((k : Int) < (ys.length : Int)) = true := decide_eq_true (by omega)
        obtain ⟨g3, rfl, _, _, hc1⟩ := own_str HO1'.out (by omega)
        obtain ⟨g4, rfl, _, _, hc2⟩ := own_str HO2.out (by omega)
        have k1 : wr.cell? ⟨g3, k, none⟩ = some (.string (text xs[k])) := by
          obtain ⟨n, hn⟩ := HD.out
          rw [hn, World.cell?_drewN]
          exact hc1 k h1
        have k2 : wr.cell? ⟨g4, k, none⟩ = some (.string (text ys[k])) := by
          obtain ⟨n, hn⟩ := HD.out
          rw [hn, World.cell?_drewN]
          exact hc2 k h2
        obtain ⟨hm1, hm2⟩ := HMA.out xs[k] (List.getElem_mem h1)
        have hm3 := HMB.out ys[k] (List.getElem_mem h2)
        have HL := Lib.hid (fun w => rless_any (text xs[k]) (text ys[k]) w hm1)
        rw [hm2, hm3] at HL
        clear hc1 hc2 hm1 hm2 hm3
        generalize xs[k] = x at *
        generalize ys[k] = y at *
        by_cases hz : lessL x y = 0
        · have HE : Hid (cmpL (xs.drop (k + 1)) (ys.drop (k + 1)) = O) := by show _ = _; rw [← HO.out, HS.out, if_pos hz]
          rw [hz] at HL
          clear hz
          go_wp2_with fail
          go_quiet (first | (go_at_call 87; exact Calls.quiet_of (HL.out _)))
          go_wp2_with fail
          go_roundw
          case rel =>
            obtain ⟨nd, hd⟩ := HD.out
            exact ⟨k + 1, by omega, by omega, by go_num, HE, nd + _, by rw [hd, World.drewN_drewN]⟩
          case measure => simp [intOf]; omega
        · have HE : Hid (lessL x y = O) := by show _ = _; rw [← HO.out, HS.out, if_neg hz]
          have g3 : (lessL x y != 0) = true := by rw [bne_iff_ne]; exact hz
          clear hz
          go_wp2_with fail
          go_quiet (first | (go_at_call 87; exact Calls.quiet_of (HL.out _)))
          go_wp2_with fail
          go_ret
          obtain ⟨nd, hd⟩ := HD.out
          rw [HE.out, hd]
          exact ⟨rfl, below_drewN (below_drewN HB2.out _) _⟩
      · obtain rfl : k = ys.length := by omega
        have g1 : decide ((ys.length : Int) < (xs.length : Int)) = true := decide_eq_true (by omega)
        have g2 : decide ((xs.length : Int) < (ys.length : Int)) = false := decide_eq_false (by omega)
        have HE : Hid (O = 1) := by
          show _ = _
          rw [← HO.out, show ys.drop ys.length = [] from List.drop_length, List.drop_eq_getElem_cons h1]
          rfl
        go_wp2_with fail
        go_ret
        obtain ⟨nd, hd⟩ := HD.out
        rw [HE.out, hd]
        exact ⟨rfl, below_drewN HB2.out _⟩
    · obtain rfl : k = xs.length := by omega
      have hn : xs.drop xs.length = [] := List.drop_length
      have g3 : decide ((ys.length : Int) < (xs.length : Int)) = false := decide_eq_false (by omega)
      by_cases h2 : xs.length < ys.length
      · have g2 : decide ((xs.length : Int) < (ys.length : Int)) = true := decide_eq_true (by omega)
        have HE : Hid (O = -1) := by
          show _ = _
          rw [← HO.out, hn, List.drop_eq_getElem_cons h2]
          rfl
        clear hn
        go_wp2_with fail
        go_ret
        obtain ⟨nd, hd⟩ := HD.out
        rw [HE.out, hd]
        exact ⟨rfl, below_drewN HB2.out _⟩
      · have g2 : decide ((xs.length : Int) < (ys.length : Int)) = false := decide_eq_false (by omega)
        have HE : Hid (O = 0) := by
          show _ = _
          rw [← HO.out, hn, show ys.drop xs.length = [] from List.drop_eq_nil_of_le (by omega)]
          rfl
        clear hn
        go_wp2_with fail
        go_ret
        obtain ⟨nd, hd⟩ := HD.out
        rw [HE.out, hd]
        exact ⟨rfl, below_drewN HB2.out _⟩
end Go.Proofs.YtpkhpaklhfomkaaGreatDoor

namespace Go.Proofs.YtpkhpaklhfomkaaGreatDoor
set_option maxRecDepth 100000
open Go.RowKit Go.Deep Go.Joins Go.Lib

theorem ordT_neg (a b : ByteArray) : ordT b a = - ordT a b := ordL_neg _ _
theorem ordT_three (a b : ByteArray) : ordT a b = -1 ∨ ordT a b = 0 ∨ ordT a b = 1 := ordL_three _ _
theorem nums_inj {a b : ByteArray} (h : nums a = nums b) : a = b := by rw [← text_nums a, ← text_nums b, h]
theorem ordT_zero (a b : ByteArray) : ordT a b = 0 ↔ a = b := ⟨fun h => nums_inj ((ordL_zero _ _).1 h), fun h => by rw [h]; exact ordL_self _⟩
theorem eq_texts (a b : ByteArray) : (a.toList == b.toList) = decide (a = b) := by
  by_cases h : a = b
  · subst h; simp
  · rw [decide_eq_false h, beq_eq_false_iff_ne, Lib.toList_data, Lib.toList_data]
    intro e
    exact h (ByteArray.ext (Array.toList_inj.1 e))
theorem und_le (a b : ByteArray) (h : undB a b = true) : ordT b a ≤ 0 := by
  unfold undB at h
  have h1 : Lib.hasPrefix a.data.toList b.data.toList = true := by
    cases e : Lib.hasPrefix a.data.toList b.data.toList with
    | true => rfl
    | false => rw [e] at h; exact absurd h (by simp)
  unfold Lib.hasPrefix at h1
  rw [List.isPrefixOf_iff_prefix] at h1
  obtain ⟨t, ht⟩ := h1
  unfold ordT
  have e : nums a = nums b ++ t.map UInt8.toNat := by unfold nums; rw [← ht, List.map_append]
  rw [e]
  exact ordL_prefix _ _

end Go.Proofs.YtpkhpaklhfomkaaGreatDoor

namespace Go.Proofs.YtpkhpaklhfomkaaGreatDoor
set_option maxRecDepth 100000
open Go.RowKit Go.Deep Go.Joins Go.Lib

theorem last_facts (s : ByteArray) : -1 ≤ lastIndexByte s 47 ∧ lastIndexByte s 47 < s.size ∧ (∀ j (h : j < s.size), lastIndexByte s 47 < (j : Int) → s[j].toNat ≠ 47) ∧ (∀ j (h : j < s.size), lastIndexByte s 47 = (j : Int) → s[j].toNat = 47) := by
  rcases Lib.lastIdx_spec s 47 s.size with ⟨h, hn⟩ | ⟨i, hi, h, hc, hn⟩
  · have e : lastIndexByte s 47 = -1 := h
    rw [e]
    refine ⟨by omega, by omega, fun j hj _ => ?_, fun j hj h2 => by omega⟩
    have := hn j hj
    rw [data_bang s j hj] at this
    omega
  · have e : lastIndexByte s 47 = (i : Int) := h
    rw [e]
    refine ⟨by omega, by omega, fun j hj h2 => ?_, fun j hj h2 => ?_⟩
    · have := hn j (by omega) hj
      rw [data_bang s j hj] at this
      omega
    · obtain rfl : i = j := by omega
      rw [data_bang s i hj] at hc
      omega
theorem par_hit (s : ByteArray) (j : Nat) (h : lastIndexByte s 47 = (j : Int)) : parB s = s.extract 0 j := by
  unfold parB parN spl
  rw [h]
  congr 1
  omega
theorem par_none (s : ByteArray) (h : lastIndexByte s 47 = -1) : parB s = ByteArray.empty := by
  unfold parB parN spl
  rw [h]
  apply ByteArray.ext
  apply Array.toList_inj.1
  rw [Lib.extract_from_zero]
  rfl
theorem base_hit (s : ByteArray) (j : Nat) (h : lastIndexByte s 47 = (j : Int)) : baseB s = s.extract (j + 1) s.size := by
  unfold baseB spl
  rw [h]
  rfl
theorem base_none (s : ByteArray) (h : lastIndexByte s 47 = -1) : baseB s = s := by
  unfold baseB spl
  rw [h]
  apply ByteArray.ext
  apply Array.toList_inj.1
  rw [Lib.extract_to_end]
  rfl
set_option maxHeartbeats 4000000 in
theorem rparent_any (s : ByteArray) (w : World) (hs : s.size ≤ 1000000) :
    Calls Tryz.prog 17 #[.string s] w fun e w' => e = .returned (.string (parB s)) ∧ w' = w := by
  obtain ⟨l1, l2, l3, l4⟩ := last_facts s
  have HF := Lib.hid l3
  have HG := Lib.hid l4
  have HL : Hid (-1 ≤ lastIndexByte s 47 ∧ lastIndexByte s 47 < s.size) := ⟨l1, l2⟩
  have HH := Lib.hid (fun j h => par_hit s j h)
  have HN := Lib.hid (fun h => par_none s h)
  clear l1 l2 l3 l4
  generalize lastIndexByte s 47 = L at *
  generalize parB s = p at *
  go_enter Tryz.func17, Tryz.ntmps17
  go_wp2_with fail
  go_loopw [3] (fun i wr => ∃ q : Int, i = .int .i64 q ∧ -1 ≤ q ∧ q < s.size ∧ Hid (L ≤ q) ∧ wr = w) (fun i _ => (intOf i + 1).toNat)
  case atStart => exact ⟨(s.size : Int) - 1, rfl, by omega, by omega, by have := HL.out; show _ ≤ _; omega, rfl⟩
  case round =>
    obtain ⟨q, rfl, h1, h2, HQ, rfl⟩ := hrel
    by_cases hq : q = -1
    · subst hq
      have HE := Lib.hid (HN.out (by have := HQ.out; have := HL.out; omega))
      go_wp2_with fail
      go_ret
      rw [HE.out]
      exact ⟨rfl, rfl⟩
    · obtain ⟨j, rfl⟩ : ∃ j : Nat, q = j := ⟨q.toNat, by omega⟩
      have hj : j < s.size := by omega
      by_cases h47 : s[j].toNat = 47
      · have g1 : ((s[j].toNat : Int) == 47) = true := by rw [h47]; rfl
        have HE : Hid (p = s.extract 0 j) := HH.out j (by
          have h3 := HQ.out
          by_cases e : L = (j : Int)
          · exact e
          · exact absurd h47 (HF.out j hj (by omega)))
        have hjs : j ≤ s.size := by omega
        clear h47 hq h1 h2
        go_wp2_with fail
        go_ret
        rw [HE.out]
        exact ⟨rfl, rfl⟩
      · have g1 : ((s[j].toNat : Int) == 47) = false := by rw [beq_eq_false_iff_ne]; omega
        have HE : Hid (L ≤ (j : Int) - 1) := by
          have h3 := HQ.out
          by_cases e : L = (j : Int)
          · exact absurd (HG.out j hj e) h47
          · show _ ≤ _; omega
        clear h47 hq h1 h2
        go_wp2_with fail
        go_roundw
        case rel => exact ⟨(j : Int) - 1, rfl, by omega, by omega, HE, trivial⟩
        case measure => simp [intOf]
/-! ### Under -/
theorem prefix_iff (a r : ByteArray) : hasPrefix a.data.toList r.data.toList = true ↔ r.size ≤ a.size ∧ a.extract 0 r.size = r := by
  unfold hasPrefix
  rw [List.isPrefixOf_iff_prefix]
  constructor
  · rintro ⟨t, ht⟩
    have hl := congrArg List.length ht
    rw [List.length_append, ← Lib.size_eq, ← Lib.size_eq] at hl
    refine ⟨by omega, ?_⟩
    apply ByteArray.ext
    apply Array.toList_inj.1
    rw [Lib.extract_from_zero, ← ht]
    rw [show r.size = r.data.toList.length by rw [Array.length_toList]; rfl, List.take_left]
  · rintro ⟨_, h⟩
    refine ⟨a.data.toList.drop r.size, ?_⟩
    have := congrArg (fun b : ByteArray => b.data.toList) h
    simp only [Lib.extract_from_zero] at this
    conv => lhs; lhs; rw [← this]
    exact List.take_append_drop _ _
theorem und_nil (a r : ByteArray) (h : r.toList.isEmpty = true) : undB a r = true := by
  rw [Lib.toList_data] at h
  have hr : r.data.toList = [] := List.isEmpty_iff.1 h
  unfold undB hasPrefix
  rw [hr]
  simp
theorem und_self (a : ByteArray) : undB a a = true := by
  have h : hasPrefix a.data.toList a.data.toList = true := by unfold hasPrefix; rw [List.isPrefixOf_iff_prefix]; exact ⟨[], List.append_nil _⟩
  unfold undB trimPrefix
  rw [h]
  simp
theorem und_no (a r : ByteArray) (h : ¬ (r.size ≤ a.size ∧ a.extract 0 r.size = r)) : undB a r = false := by
  have h2 : hasPrefix a.data.toList r.data.toList = false := by
    cases e : hasPrefix a.data.toList r.data.toList with
    | false => rfl
    | true => exact absurd ((prefix_iff a r).1 e) h
  unfold undB
  rw [h2]
  rfl
theorem und_at (a r : ByteArray) (hr : r.toList.isEmpty = false) (hs : r.size < a.size) (he : a.extract 0 r.size = r) : undB a r = decide (a[r.size].toNat = 47) := by
  have h := (prefix_iff a r).2 ⟨by omega, he⟩
  rw [Lib.toList_data] at hr
  unfold undB trimPrefix
  rw [h, if_pos rfl, hr]
  have hl : r.data.toList.length = r.size := by rw [Array.length_toList]; rfl
  rw [hl]
  have hd : a.data.toList.drop r.size = a[r.size] :: a.data.toList.drop (r.size + 1) := by
    have hla : r.size < a.data.toList.length := by rw [Array.length_toList]; exact hs
    rw [List.drop_eq_getElem_cons hla]
    rfl
  rw [hd]
  unfold hasPrefix
  by_cases h47 : a[r.size].toNat = 47
  · rw [decide_eq_true h47, show a[r.size] = 47 from UInt8.toNat_inj.1 h47]
    rfl
  · rw [decide_eq_false h47]
    have : ((47 : UInt8) == a[r.size]) = false := by
      rw [beq_eq_false_iff_ne]
      exact fun e => h47 (by rw [← e]; rfl)
    simp [List.isPrefixOf, this]
set_option maxHeartbeats 4000000 in
theorem runder_any (a r : ByteArray) (w : World) :
    Calls Tryz.prog 23 #[.string a, .string r] w fun e w' => e = .returned (.bool (undB a r)) ∧ w' = w := by
  cases hr : r.toList.isEmpty with
  | true =>
    have HU := Lib.hid (und_nil a r hr)
    go_enter Tryz.func23, Tryz.ntmps23
    go_wp2_with fail
    go_ret
    rw [HU.out]
    exact ⟨rfl, rfl⟩
  | false =>
    cases hq : (a.toList == r.toList) with
    | true =>
      have HU : Hid (undB a r = true) := by
        rw [eq_texts] at hq
        have := of_decide_eq_true hq
        subst this
        exact und_self a
      go_enter Tryz.func23, Tryz.ntmps23
      go_wp2_with fail
      go_ret
      rw [HU.out]
      exact ⟨rfl, rfl⟩
    | false =>
      by_cases hs : r.size < a.size
      · have g1 : decide ((r.size : Int) < (a.size : Int)) = true := decide_eq_true (by omega)
        have hle : r.size ≤ a.size := by omega
        cases he : ((a.extract 0 r.size).toList == r.toList) with
        | true =>
          have hee : a.extract 0 r.size = r := by rw [eq_texts] at he; exact of_decide_eq_true he
          have HU := Lib.hid (und_at a r hr hs hee)
          clear hee
          by_cases h47 : a[r.size].toNat = 47
          · have g2 : ((a[r.size].toNat : Int) == 47) = true := by rw [h47]; rfl
            have HU2 : Hid (undB a r = true) := by show _ = _; rw [HU.out, decide_eq_true h47]
            clear h47
            go_enter Tryz.func23, Tryz.ntmps23
            go_wp2_with fail
            go_ret
            rw [HU2.out]
            exact ⟨rfl, rfl⟩
          · have g2 : ((a[r.size].toNat : Int) == 47) = false := by rw [beq_eq_false_iff_ne]; omega
            have HU2 : Hid (undB a r = false) := by show _ = _; rw [HU.out, decide_eq_false h47]
            clear h47
            go_enter Tryz.func23, Tryz.ntmps23
            go_wp2_with fail
            go_ret
            rw [HU2.out]
            exact ⟨rfl, rfl⟩
        | false =>
          have HU2 : Hid (undB a r = false) := und_no a r (fun h => by rw [eq_texts, decide_eq_true h.2] at he; cases he)
          go_enter Tryz.func23, Tryz.ntmps23
          go_wp2_with fail
          go_ret
          rw [HU2.out]
          exact ⟨rfl, rfl⟩
      · have g1 : decide ((r.size : Int) < (a.size : Int)) = false := decide_eq_false (by omega)
        have HU2 : Hid (undB a r = false) := und_no a r (fun h => by
          have e : r.size = a.size := by omega
          have h2 := h.2
          rw [e] at h2
          have h3 : a = r := by
            rw [← h2]
            apply ByteArray.ext
            apply Array.toList_inj.1
            rw [Lib.extract_from_zero, show a.size = a.data.toList.length by rw [Array.length_toList]; rfl, List.take_length]
          rw [eq_texts, decide_eq_true h3] at hq
          cases hq)
        go_enter Tryz.func23, Tryz.ntmps23
        go_wp2_with fail
        go_ret
        rw [HU2.out]
        exact ⟨rfl, rfl⟩
end Go.Proofs.YtpkhpaklhfomkaaGreatDoor

namespace Go.Proofs.YtpkhpaklhfomkaaGreatDoor
set_option maxRecDepth 100000
open Go.RowKit Go.Deep Go.Joins Go.Lib

/-- What the document's Check answers is what the program's does. -/
theorem chk_long {s : ByteArray} (h : 65535 < s.size) : chkV s = (.empty, false, 5) := by
  have : readN s = 5 := by unfold readN; rw [decide_eq_true h]; rfl
  unfold chkV
  rw [this]
  rfl
theorem chk_read {s : ByteArray} (h : s.size ≤ 65535) (h2 : s.size = 0 ∨ straysB s = true) : chkV s = (.empty, false, 20) := by
  have : readN s = 20 := by
    unfold readN
    rw [decide_eq_false (by omega), if_neg (by decide), isEmpty_nums2]
    rcases h2 with h2 | h2
    · rw [empty_of_size h2]; rfl
    · rw [h2]; cases (nums s).isEmpty <;> rfl
  unfold chkV
  rw [this]
  rfl
theorem chk_rest {s : ByteArray} (h : s.size ≤ 65535) (h0 : s.size ≠ 0) (h2 : straysB s = false) : chkV s = if harmL (nums (pathB s)) = 0 then (pathB s, dirB s, 0) else (.empty, false, harmL (nums (pathB s))) := by
  have : readN s = 0 := (read_zero s).2 ⟨h, fun e => h0 (by rw [← nums_len, e]; rfl), h2⟩
  unfold chkV
  rw [this, if_neg (by decide), harm_L]
  by_cases e : harmL (nums (pathB s)) = 0
  · rw [if_neg (by rw [e]; decide), if_pos e]
  · rw [if_pos e, if_neg e]
theorem path_last (s : ByteArray) (h0 : 0 < s.size) : (s[s.size - 1].toNat = 47 ∧ pathB s = s.extract 0 (s.size - 1) ∧ dirB s = true) ∨ (s[s.size - 1].toNat ≠ 47 ∧ pathB s = s ∧ dirB s = false) := by
  cases hd : dirB s with
  | true =>
    obtain ⟨k, hk, h47, hks, hp⟩ := path_true hd
    obtain rfl : k = s.size - 1 := by omega
    exact .inl ⟨h47, hp, rfl⟩
  | false =>
    refine .inr ⟨fun h47 => ?_, path_false hd, rfl⟩
    have hx : dirB s = true := (suffix_nums s).2 ⟨(nums s).take (s.size - 1), by
      have h1 := nums_snoc s (s.size - 1) (by omega)
      rw [h47, show s.size - 1 + 1 = s.size by omega] at h1
      rw [← h1, ← nums_len, List.take_length]⟩
    rw [hd] at hx
    cases hx
theorem bad_path (s : ByteArray) (h0 : 0 < s.size) : badL (nums (pathB s)) = badL (nums s) := by
  rcases path_last s h0 with ⟨h47, hp, _⟩ | ⟨_, hp, _⟩
  · rw [hp, nums_take]
    have h1 := nums_snoc s (s.size - 1) (by omega)
    rw [h47, show s.size - 1 + 1 = s.size by omega, show (nums s).take s.size = nums s by rw [← nums_len, List.take_length]] at h1
    conv => rhs; rw [h1]
    unfold badL
    rw [List.any_append]
    simp
  · rw [hp]
/-- The answer by what is found: bad bytes, no parts, parts that mislead, parts that are too long or too many. -/
theorem harm_bad {l : List Nat} (h : badL l = true) : harmL l = 21 := by unfold harmL; rw [h]; rfl
theorem harm_none {l : List Nat} (h : partsL l = []) : harmL l = 21 := by unfold harmL; rw [h]; cases badL l <;> rfl
theorem harm_mis {l : List Nat} (h : (partsL l).any misL = true) : harmL l = 21 := by unfold harmL; rw [h]; cases badL l <;> cases ((partsL l).length == 0) <;> rfl
theorem harm_long {l : List Nat} (h1 : badL l = false) (h2 : partsL l ≠ []) (h3 : (partsL l).any misL = false) (h : 32 < (partsL l).length ∨ (partsL l).any longL = true) : harmL l = 5 := by
  unfold harmL
  have hn : ((partsL l).length == 0) = false := by rw [beq_eq_false_iff_ne]; exact fun e => h2 (List.length_eq_zero_iff.1 e)
  rw [h1, hn, h3]
  rcases h with h | h
  · rw [decide_eq_true h]; rfl
  · rw [h]; cases decide (32 < (partsL l).length) <;> rfl
theorem harm_fine {l : List Nat} (h1 : badL l = false) (h2 : partsL l ≠ []) (h3 : (partsL l).any misL = false) (h4 : ¬ 32 < (partsL l).length) (h5 : (partsL l).any longL = false) : harmL l = 0 := by
  unfold harmL
  have hn : ((partsL l).length == 0) = false := by rw [beq_eq_false_iff_ne]; exact fun e => h2 (List.length_eq_zero_iff.1 e)
  rw [h1, hn, h3, decide_eq_false h4, h5]
  rfl
end Go.Proofs.YtpkhpaklhfomkaaGreatDoor

namespace Go.Proofs.YtpkhpaklhfomkaaGreatDoor
set_option maxRecDepth 100000
open Go.RowKit Go.Deep Go.Joins Go.Lib

end Go.Proofs.YtpkhpaklhfomkaaGreatDoor

namespace Go.Proofs.YtpkhpaklhfomkaaGreatDoor
set_option maxRecDepth 100000
set_option linter.unusedSimpArgs false
set_option linter.unusedVariables false
open Go.RowKit Go.Joins Go.Deep
open Go.Lib hiding intOf
/-- The item at a place. -/
def atI (l : List Itm) (i : Nat) : Itm := l[i]?.getD default
/-- May an item be one of a tree? -/
def sndL (x : Itm) : Bool := (chkV x.s).2.2 == 0 && !(chkV x.s).2.1 && ((chkV x.s).1.toList == x.s.toList) && !(decide (x.k < 1)) && !(decide (3 < x.k))
/-- Does an item stand behind the one ahead of it? -/
def ordI (l : List Itm) (k : Nat) : Bool := decide (k = 0) || decide (ordT (atI l (k - 1)).s (atI l k).s < 0)
/-- Is all of it right there? -/
def rowI (l : List Itm) (k : Nat) : Bool := sndL (atI l k) && ordI l k && (kndL l (parB (atI l k).s) == 1)
def rgtI (l : List Itm) : Bool := (List.range l.length).all (rowI l)
theorem rng_all (q : Nat → Bool) (n k : Nat) (h : (List.range k).all q = true) (hk : k < n) (hq : q k = false) : (List.range n).all q = false := by
  rw [List.all_eq_false]
  exact ⟨k, List.mem_range.2 hk, by simp [hq]⟩
theorem rng_more (q : Nat → Bool) (k : Nat) (h : (List.range k).all q = true) (hq : q k = true) : (List.range (k + 1)).all q = true := by
  rw [List.range_succ, List.all_append, h]
  simp [hq]

end Go.Proofs.YtpkhpaklhfomkaaGreatDoor

namespace Go.Proofs.YtpkhpaklhfomkaaGreatDoor
set_option maxRecDepth 100000
set_option linter.unusedSimpArgs false
set_option linter.unusedVariables false
open Go.RowKit Go.Joins Go.Deep
open Go.Lib hiding intOf
/-- Has a directory Data? -/
def datL (x : Itm) : Bool := (x.k == 1) && decide (0 < x.d.size)
end Go.Proofs.YtpkhpaklhfomkaaGreatDoor
