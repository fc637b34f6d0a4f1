/-
  Contract: the document's Check.
-/
import Derived.Test.YtjnoapbddifcpaaGreatDoorPkDB
namespace Go.Proofs.YtjnoapbddifcpaaGreatDoor
set_option maxRecDepth 100000
open Go.RowKit Go.Deep Go.Joins Go.Lib

set_option maxHeartbeats 8000000 in
theorem rcheck_dir (s : ByteArray) (w : World) (hs : s.size ≤ 65535) (h0 : 0 < s.size) (hst : straysB s = false) (h47 : s[s.size - 1].toNat = 47) (hp : pathB s = s.extract 0 (s.size - 1)) (hd : dirB s = true) :
    Calls Tryz.prog 80 #[.string s] w fun e w' => e = .returned (.tuple #[.string (chkV s).1, .bool (chkV s).2.1, .int .i64 (chkV s).2.2]) ∧ Below w.heap.size w w' := by
      have HST := Lib.hid (fun w => rstraysN_any s w (by omega))
      rw [hst] at HST
      have HBP := bad_path s h0
      have HREST := chk_rest (s := s) (by omega) (by omega) hst
      rw [hd] at HREST
      have HPT := Lib.hid (fun w => rparts_any (pathB s) w (by have := path_le s; omega))
      have H21 : Hid (badL (nums s) = true → chkV s = (.empty, false, 21)) := fun h => by rw [HREST, harm_bad (by rw [HBP]; exact h)]; rfl
      have HNO : Hid ((partsL (nums (pathB s))).length = 0 → chkV s = (.empty, false, 21)) := fun h => by rw [HREST, harm_none (List.length_eq_zero_iff.1 h)]; rfl
      have HMI : Hid ((partsL (nums (pathB s))).any misL = true → chkV s = (.empty, false, 21)) := fun h => by rw [HREST, harm_mis h]; rfl
      have HLO : Hid (badL (nums s) = false → (partsL (nums (pathB s))).length ≠ 0 → (partsL (nums (pathB s))).any misL = false → (32 < (partsL (nums (pathB s))).length ∨ (partsL (nums (pathB s))).any longL = true) → chkV s = (.empty, false, 5)) := fun a b c d => by rw [HREST, harm_long (by rw [HBP]; exact a) (fun e => b (by rw [e]; rfl)) c d]; rfl
      have HOK : Hid (badL (nums s) = false → (partsL (nums (pathB s))).length ≠ 0 → (partsL (nums (pathB s))).any misL = false → ¬ 32 < (partsL (nums (pathB s))).length → (partsL (nums (pathB s))).any longL = false → chkV s = (pathB s, true, 0)) := fun a b c d e => by rw [HREST, harm_fine (by rw [HBP]; exact a) (fun e => b (by rw [e]; rfl)) c d e]; rfl
      have HMX : Hid (∀ x ∈ partsL (nums (pathB s)), nums (text x) = x) := fun x hx => nums_text x (parts_lt _ x hx)
      have HSX : Hid (∀ x ∈ partsL (nums (pathB s)), x.length ≤ 65535) := fun x hx => by have := part_size _ x hx; have := path_le s; omega
      have hxl : (partsL (nums (pathB s))).length ≤ 100000 := by have := parts_len (pathB s); have := path_le s; omega
      clear HBP HREST hst hd
      generalize partsL (nums (pathB s)) = xs at *
      obtain ⟨l, hl, hli⟩ : ∃ l : Nat, s.size - 1 = l ∧ ((s.size : Int) - 1) = (l : Int) := ⟨s.size - 1, rfl, by omega⟩
      have hls : l < s.size := by omega
      have hls2 : l ≤ s.size := by omega
      have g47 : ((s[l].toNat : Int) == 47) = true := by
        subst hl
        rw [h47]; rfl
      rw [hl] at hp
      have gsz : ((s.size : Int) == 0) = false := by rw [beq_eq_false_iff_ne]; omega
      rw [hp] at HPT HOK
      have hpe : Hid (s.extract 0 l = s.extract 0 l) := rfl
      generalize hpp : s.extract 0 l = p at HPT HOK
      clear h47 hl hp hpe
      go_enter Tryz.func80, Tryz.ntmps80
      go_wp2_with fail
      refine (HST.out _).mono ?_
      rintro e w0 ⟨rfl, rfl⟩
      go_wp2_with fail
      go_loopw [7] (fun i wr => ∃ k : Nat, k ≤ s.size ∧ i = .int .i64 (k : Nat) ∧ wr = w0 ∧ Hid (badL ((nums s).take k) = false)) (fun i _ => s.size - (intOf i).toNat)
      case atStart => exact ⟨0, Nat.zero_le _, rfl, rfl, rfl⟩
      case round =>
        obtain ⟨k, hk, rfl, rfl, HBD⟩ := hrel
        by_cases hks : k < s.size
        · have HSN : Hid (badL ((nums s).take (k + 1)) = (badL ((nums s).take k) || (decide (s[k].toNat = 0) || decide (s[k].toNat = 92)))) := by
            show _ = _
            rw [nums_snoc s k hks]
            unfold badL
            rw [List.any_append]
            simp
          have HALL : Hid (badL ((nums s).take (k + 1)) = true → badL (nums s) = true) := fun h => by
            have e := List.take_append_drop (k + 1) (nums s)
            rw [← e]
            unfold badL at h ⊢
            rw [List.any_append, h]
            rfl
          by_cases h0 : s[k].toNat = 0
          · have HB : Hid (chkV s = (.empty, false, 21)) := H21.out (HALL.out (by rw [HSN.out, decide_eq_true h0]; simp))
            have g0 : ((s[k].toNat : Int) == 0) = true := by rw [h0]; rfl
            clear h0
            go_wp2_with fail
            go_ret3
            rw [HB.out]
            exact ⟨rfl, Below.refl _ _⟩
          · have g0 : ((s[k].toNat : Int) == 0) = false := by rw [beq_eq_false_iff_ne]; omega
            by_cases h92 : s[k].toNat = 92
            · have HB : Hid (chkV s = (.empty, false, 21)) := H21.out (HALL.out (by rw [HSN.out, decide_eq_true h92]; simp))
              have g1 : ((s[k].toNat : Int) == 92) = true := by rw [h92]; rfl
              clear h0 h92
              go_wp2_with fail
              go_ret3
              rw [HB.out]
              exact ⟨rfl, Below.refl _ _⟩
            · have g1 : ((s[k].toNat : Int) == 92) = false := by rw [beq_eq_false_iff_ne]; omega
              have HB : Hid (badL ((nums s).take (k + 1)) = false) := by show _ = _; rw [HSN.out, HBD.out, decide_eq_false h0, decide_eq_false h92]; rfl
              clear h0 h92
              go_wp2_with fail
              go_roundw
              case rel => exact ⟨k + 1, by omega, by go_num, by first | rfl | trivial, HB⟩
              case measure => simp [intOf]; omega
        · obtain rfl : k = s.size := by omega
          have HBF : Hid (badL (nums s) = false) := by
            have := HBD.out
            rw [show (nums s).take s.size = nums s by rw [← nums_len, List.take_length]] at this
            exact this
          clear HBD
          go_wp2_with fail
          refine (HPT.out _).mono ?_
          rintro e w1 ⟨v1, rfl, ho1, hb1⟩
          obtain ⟨A1, c1, rfl⟩ := row_slice ho1
          have HO1 := Lib.hid ho1
          have HB1 := Lib.hid hb1
          clear ho1 hb1
          by_cases hn : xs.length = 0
          · have g0 : ((xs.length : Int) == 0) = true := by rw [beq_iff_eq]; omega
            have HB : Hid (chkV s = (.empty, false, 21)) := HNO.out hn
            clear hn
            go_wp2_with fail
            go_ret3
            rw [HB.out]
            exact ⟨rfl, HB1.out⟩
          · have g0 : ((xs.length : Int) == 0) = false := by rw [beq_eq_false_iff_ne]; omega
            have HNE : Hid (xs.length ≠ 0) := hn
            clear hn
            go_wp2_with fail
            go_loopw [58] (fun i wr => ∃ k : Nat, k ≤ xs.length ∧ i = .int .i64 (k : Nat) ∧ wr = w1 ∧ Hid ((xs.take k).any misL = false)) (fun i _ => xs.length - (intOf i).toNat)
            case atStart => exact ⟨0, Nat.zero_le _, rfl, rfl, rfl⟩
            case round =>
              obtain ⟨k, hk, rfl, rfl, HM⟩ := hrel
              by_cases hkn : k < xs.length
              · obtain ⟨g, rfl, _, _, hc⟩ := own_str HO1.out (by omega)
                have k1 := hc k hkn
                have HT : Hid (xs.take (k + 1) = xs.take k ++ [xs[k]]) := List.take_succ_eq_append_getElem hkn
                have HX : Hid (misL xs[k] = ((text xs[k]).toList.isEmpty || ((text xs[k]).toList == [46]) || ((text xs[k]).toList == [46, 46]))) := by
                  have e : misB (text xs[k]) = misL xs[k] := by rw [misB_L, HMX.out xs[k] (List.getElem_mem hkn)]
                  show _ = _
                  rw [← e]
                  rfl
                have HIN : Hid (misL xs[k] = true → xs.any misL = true) := fun h => List.any_eq_true.2 ⟨xs[k], List.getElem_mem hkn, h⟩
                clear hc
                generalize xs[k] = x at *
                cases b1 : (text x).toList.isEmpty with
                | true =>
                  have HB : Hid (chkV s = (.empty, false, 21)) := HMI.out (HIN.out (by rw [HX.out, b1]; rfl))
                  go_wp2_with fail
                  go_ret3
                  rw [HB.out]
                  exact ⟨rfl, HB1.out⟩
                | false =>
                  cases b2 : ((text x).toList == [46]) with
                  | true =>
                    have HB : Hid (chkV s = (.empty, false, 21)) := HMI.out (HIN.out (by rw [HX.out, b1, b2]; rfl))
                    go_wp2_with fail
                    go_ret3
                    rw [HB.out]
                    exact ⟨rfl, HB1.out⟩
                  | false =>
                    cases b3 : ((text x).toList == [46, 46]) with
                    | true =>
                      have HB : Hid (chkV s = (.empty, false, 21)) := HMI.out (HIN.out (by rw [HX.out, b1, b2, b3]; rfl))
                      go_wp2_with fail
                      go_ret3
                      rw [HB.out]
                      exact ⟨rfl, HB1.out⟩
                    | false =>
                      have HM2 : Hid ((xs.take (k + 1)).any misL = false) := by
                        show _ = _
                        rw [HT.out, List.any_append, HM.out, List.any_cons, HX.out, b1, b2, b3]
                        rfl
                      go_wp2_with fail
                      go_roundw
                      case rel => exact ⟨k + 1, by omega, by go_num, by first | rfl | trivial, HM2⟩
                      case measure => simp [intOf]; omega
              · obtain rfl : k = xs.length := by omega
                have HMF : Hid (xs.any misL = false) := by
                  have := HM.out
                  rw [List.take_length] at this
                  exact this
                clear HM
                go_wp2_with fail
                obtain ⟨wo, rfl⟩ : ∃ wo : World, wo = wr := ⟨_, rfl⟩
                go_loopw [75] (fun i wr => ∃ k : Nat, k ≤ xs.length ∧ i = .int .i64 (k : Nat) ∧ wr = wo ∧ Hid ((xs.take k).any longL = false) ∧ Hid (0 < k → xs.length ≤ 32)) (fun i _ => xs.length - (intOf i).toNat)
                case atStart => exact ⟨0, Nat.zero_le _, rfl, rfl, rfl, fun h => absurd h (Nat.lt_irrefl _)⟩
                case round =>
                  obtain ⟨k, hk, rfl, rfl, HM, H32⟩ := hrel
                  by_cases hkn : k < xs.length
                  · obtain ⟨g, rfl, _, _, hc⟩ := own_str HO1.out (by omega)
                    have k1 := hc k hkn
                    have HT : Hid (xs.take (k + 1) = xs.take k ++ [xs[k]]) := List.take_succ_eq_append_getElem hkn
                    have HIN : Hid (longL xs[k] = true → xs.any longL = true) := fun h => List.any_eq_true.2 ⟨xs[k], List.getElem_mem hkn, h⟩
                    have HSZ : Hid ((text xs[k]).size = xs[k].length) := text_size _
                    have hszb : (text xs[k]).size ≤ 65535 := by rw [text_size]; exact HSX.out xs[k] (List.getElem_mem hkn)
                    clear hc
                    generalize xs[k] = x at *
                    by_cases hlg : 255 < (text x).size
                    · have g1 : decide ((255 : Int) < ((text x).size : Int)) = true := decide_eq_true (by omega)
                      have HB : Hid (chkV s = (.empty, false, 5)) := HLO.out HBF.out HNE.out HMF.out (.inr (HIN.out (by unfold longL; rw [← HSZ.out]; exact decide_eq_true hlg)))
                      go_wp2_with fail
                      go_ret3
                      rw [HB.out]
                      exact ⟨rfl, HB1.out⟩
                    · have g1 : decide ((255 : Int) < ((text x).size : Int)) = false := decide_eq_false (by omega)
                      by_cases h32 : 32 < xs.length
                      · have g2 : decide ((32 : Int) < (xs.length : Int)) = true := decide_eq_true (by omega)
                        have HB : Hid (chkV s = (.empty, false, 5)) := HLO.out HBF.out HNE.out HMF.out (.inl h32)
                        go_wp2_with fail
                        go_ret3
                        rw [HB.out]
                        exact ⟨rfl, HB1.out⟩
                      · have g2 : decide ((32 : Int) < (xs.length : Int)) = false := decide_eq_false (by omega)
                        have HM2 : Hid ((xs.take (k + 1)).any longL = false) := by
                          show _ = _
                          rw [HT.out, List.any_append, HM.out, List.any_cons]
                          unfold longL
                          rw [← HSZ.out, decide_eq_false hlg]
                          rfl
                        have H33 : Hid (0 < k + 1 → xs.length ≤ 32) := fun _ => by omega
                        go_wp2_with fail
                        go_roundw
                        case rel => exact ⟨k + 1, by omega, by go_num, by first | rfl | trivial, HM2, H33⟩
                        case measure => simp [intOf]; omega
                  · obtain rfl : k = xs.length := by omega
                    have HLF : Hid (xs.any longL = false) := by
                      have := HM.out
                      rw [List.take_length] at this
                      exact this
                    have HB : Hid (chkV s = (p, true, 0)) := HOK.out HBF.out HNE.out HMF.out (by have := H32.out (by have := HNE.out; omega); omega) HLF.out
                    clear HM H32
                    go_wp2_with fail
                    go_ret3
                    rw [HB.out]
                    exact ⟨rfl, HB1.out⟩
set_option maxHeartbeats 8000000 in
theorem rcheck_file (s : ByteArray) (w : World) (hs : s.size ≤ 65535) (h0 : 0 < s.size) (hst : straysB s = false) (h47 : s[s.size - 1].toNat ≠ 47) (hp : pathB s = s) (hd : dirB s = false) :
    Calls Tryz.prog 80 #[.string s] w fun e w' => e = .returned (.tuple #[.string (chkV s).1, .bool (chkV s).2.1, .int .i64 (chkV s).2.2]) ∧ Below w.heap.size w w' := by
      have HST := Lib.hid (fun w => rstraysN_any s w (by omega))
      rw [hst] at HST
      have HBP := bad_path s h0
      have HREST := chk_rest (s := s) (by omega) (by omega) hst
      rw [hd] at HREST
      have HPT := Lib.hid (fun w => rparts_any (pathB s) w (by have := path_le s; omega))
      have H21 : Hid (badL (nums s) = true → chkV s = (.empty, false, 21)) := fun h => by rw [HREST, harm_bad (by rw [HBP]; exact h)]; rfl
      have HNO : Hid ((partsL (nums (pathB s))).length = 0 → chkV s = (.empty, false, 21)) := fun h => by rw [HREST, harm_none (List.length_eq_zero_iff.1 h)]; rfl
      have HMI : Hid ((partsL (nums (pathB s))).any misL = true → chkV s = (.empty, false, 21)) := fun h => by rw [HREST, harm_mis h]; rfl
      have HLO : Hid (badL (nums s) = false → (partsL (nums (pathB s))).length ≠ 0 → (partsL (nums (pathB s))).any misL = false → (32 < (partsL (nums (pathB s))).length ∨ (partsL (nums (pathB s))).any longL = true) → chkV s = (.empty, false, 5)) := fun a b c d => by rw [HREST, harm_long (by rw [HBP]; exact a) (fun e => b (by rw [e]; rfl)) c d]; rfl
      have HOK : Hid (badL (nums s) = false → (partsL (nums (pathB s))).length ≠ 0 → (partsL (nums (pathB s))).any misL = false → ¬ 32 < (partsL (nums (pathB s))).length → (partsL (nums (pathB s))).any longL = false → chkV s = (pathB s, false, 0)) := fun a b c d e => by rw [HREST, harm_fine (by rw [HBP]; exact a) (fun e => b (by rw [e]; rfl)) c d e]; rfl
      have HMX : Hid (∀ x ∈ partsL (nums (pathB s)), nums (text x) = x) := fun x hx => nums_text x (parts_lt _ x hx)
      have HSX : Hid (∀ x ∈ partsL (nums (pathB s)), x.length ≤ 65535) := fun x hx => by have := part_size _ x hx; have := path_le s; omega
      have hxl : (partsL (nums (pathB s))).length ≤ 100000 := by have := parts_len (pathB s); have := path_le s; omega
      clear HBP HREST hst hd
      generalize partsL (nums (pathB s)) = xs at *
      obtain ⟨l, hl, hli⟩ : ∃ l : Nat, s.size - 1 = l ∧ ((s.size : Int) - 1) = (l : Int) := ⟨s.size - 1, rfl, by omega⟩
      have hls : l < s.size := by omega
      have g47 : ((s[l].toNat : Int) == 47) = false := by
        subst hl
        rw [beq_eq_false_iff_ne]; omega
      have gsz : ((s.size : Int) == 0) = false := by rw [beq_eq_false_iff_ne]; omega
      rw [hp] at HPT HOK
      clear h47 hl hp
      go_enter Tryz.func80, Tryz.ntmps80
      go_wp2_with fail
      refine (HST.out _).mono ?_
      rintro e w0 ⟨rfl, rfl⟩
      go_wp2_with fail
      go_loopw [7] (fun i wr => ∃ k : Nat, k ≤ s.size ∧ i = .int .i64 (k : Nat) ∧ wr = w0 ∧ Hid (badL ((nums s).take k) = false)) (fun i _ => s.size - (intOf i).toNat)
      case atStart => exact ⟨0, Nat.zero_le _, rfl, rfl, rfl⟩
      case round =>
        obtain ⟨k, hk, rfl, rfl, HBD⟩ := hrel
        by_cases hks : k < s.size
        · have HSN : Hid (badL ((nums s).take (k + 1)) = (badL ((nums s).take k) || (decide (s[k].toNat = 0) || decide (s[k].toNat = 92)))) := by
            show _ = _
            rw [nums_snoc s k hks]
            unfold badL
            rw [List.any_append]
            simp
          have HALL : Hid (badL ((nums s).take (k + 1)) = true → badL (nums s) = true) := fun h => by
            have e := List.take_append_drop (k + 1) (nums s)
            rw [← e]
            unfold badL at h ⊢
            rw [List.any_append, h]
            rfl
          by_cases h0 : s[k].toNat = 0
          · have HB : Hid (chkV s = (.empty, false, 21)) := H21.out (HALL.out (by rw [HSN.out, decide_eq_true h0]; simp))
            have g0 : ((s[k].toNat : Int) == 0) = true := by rw [h0]; rfl
            clear h0
            go_wp2_with fail
            go_ret3
            rw [HB.out]
            exact ⟨rfl, Below.refl _ _⟩
          · have g0 : ((s[k].toNat : Int) == 0) = false := by rw [beq_eq_false_iff_ne]; omega
            by_cases h92 : s[k].toNat = 92
            · have HB : Hid (chkV s = (.empty, false, 21)) := H21.out (HALL.out (by rw [HSN.out, decide_eq_true h92]; simp))
              have g1 : ((s[k].toNat : Int) == 92) = true := by rw [h92]; rfl
              clear h0 h92
              go_wp2_with fail
              go_ret3
              rw [HB.out]
              exact ⟨rfl, Below.refl _ _⟩
            · have g1 : ((s[k].toNat : Int) == 92) = false := by rw [beq_eq_false_iff_ne]; omega
              have HB : Hid (badL ((nums s).take (k + 1)) = false) := by show _ = _; rw [HSN.out, HBD.out, decide_eq_false h0, decide_eq_false h92]; rfl
              clear h0 h92
              go_wp2_with fail
              go_roundw
              case rel => exact ⟨k + 1, by omega, by go_num, by first | rfl | trivial, HB⟩
              case measure => simp [intOf]; omega
        · obtain rfl : k = s.size := by omega
          have HBF : Hid (badL (nums s) = false) := by
            have := HBD.out
            rw [show (nums s).take s.size = nums s by rw [← nums_len, List.take_length]] at this
            exact this
          clear HBD
          go_wp2_with fail
          refine (HPT.out _).mono ?_
          rintro e w1 ⟨v1, rfl, ho1, hb1⟩
          obtain ⟨A1, c1, rfl⟩ := row_slice ho1
          have HO1 := Lib.hid ho1
          have HB1 := Lib.hid hb1
          clear ho1 hb1
          by_cases hn : xs.length = 0
          · have g0 : ((xs.length : Int) == 0) = true := by rw [beq_iff_eq]; omega
            have HB : Hid (chkV s = (.empty, false, 21)) := HNO.out hn
            clear hn
            go_wp2_with fail
            go_ret3
            rw [HB.out]
            exact ⟨rfl, HB1.out⟩
          · have g0 : ((xs.length : Int) == 0) = false := by rw [beq_eq_false_iff_ne]; omega
            have HNE : Hid (xs.length ≠ 0) := hn
            clear hn
            go_wp2_with fail
            go_loopw [58] (fun i wr => ∃ k : Nat, k ≤ xs.length ∧ i = .int .i64 (k : Nat) ∧ wr = w1 ∧ Hid ((xs.take k).any misL = false)) (fun i _ => xs.length - (intOf i).toNat)
            case atStart => exact ⟨0, Nat.zero_le _, rfl, rfl, rfl⟩
            case round =>
              obtain ⟨k, hk, rfl, rfl, HM⟩ := hrel
              by_cases hkn : k < xs.length
              · obtain ⟨g, rfl, _, _, hc⟩ := own_str HO1.out (by omega)
                have k1 := hc k hkn
                have HT : Hid (xs.take (k + 1) = xs.take k ++ [xs[k]]) := List.take_succ_eq_append_getElem hkn
                have HX : Hid (misL xs[k] = ((text xs[k]).toList.isEmpty || ((text xs[k]).toList == [46]) || ((text xs[k]).toList == [46, 46]))) := by
                  have e : misB (text xs[k]) = misL xs[k] := by rw [misB_L, HMX.out xs[k] (List.getElem_mem hkn)]
                  show _ = _
                  rw [← e]
                  rfl
                have HIN : Hid (misL xs[k] = true → xs.any misL = true) := fun h => List.any_eq_true.2 ⟨xs[k], List.getElem_mem hkn, h⟩
                clear hc
                generalize xs[k] = x at *
                cases b1 : (text x).toList.isEmpty with
                | true =>
                  have HB : Hid (chkV s = (.empty, false, 21)) := HMI.out (HIN.out (by rw [HX.out, b1]; rfl))
                  go_wp2_with fail
                  go_ret3
                  rw [HB.out]
                  exact ⟨rfl, HB1.out⟩
                | false =>
                  cases b2 : ((text x).toList == [46]) with
                  | true =>
                    have HB : Hid (chkV s = (.empty, false, 21)) := HMI.out (HIN.out (by rw [HX.out, b1, b2]; rfl))
                    go_wp2_with fail
                    go_ret3
                    rw [HB.out]
                    exact ⟨rfl, HB1.out⟩
                  | false =>
                    cases b3 : ((text x).toList == [46, 46]) with
                    | true =>
                      have HB : Hid (chkV s = (.empty, false, 21)) := HMI.out (HIN.out (by rw [HX.out, b1, b2, b3]; rfl))
                      go_wp2_with fail
                      go_ret3
                      rw [HB.out]
                      exact ⟨rfl, HB1.out⟩
                    | false =>
                      have HM2 : Hid ((xs.take (k + 1)).any misL = false) := by
                        show _ = _
                        rw [HT.out, List.any_append, HM.out, List.any_cons, HX.out, b1, b2, b3]
                        rfl
                      go_wp2_with fail
                      go_roundw
                      case rel => exact ⟨k + 1, by omega, by go_num, by first | rfl | trivial, HM2⟩
                      case measure => simp [intOf]; omega
              · obtain rfl : k = xs.length := by omega
                have HMF : Hid (xs.any misL = false) := by
                  have := HM.out
                  rw [List.take_length] at this
                  exact this
                clear HM
                go_wp2_with fail
                obtain ⟨wo, rfl⟩ : ∃ wo : World, wo = wr := ⟨_, rfl⟩
                go_loopw [75] (fun i wr => ∃ k : Nat, k ≤ xs.length ∧ i = .int .i64 (k : Nat) ∧ wr = wo ∧ Hid ((xs.take k).any longL = false) ∧ Hid (0 < k → xs.length ≤ 32)) (fun i _ => xs.length - (intOf i).toNat)
                case atStart => exact ⟨0, Nat.zero_le _, rfl, rfl, rfl, fun h => absurd h (Nat.lt_irrefl _)⟩
                case round =>
                  obtain ⟨k, hk, rfl, rfl, HM, H32⟩ := hrel
                  by_cases hkn : k < xs.length
                  · obtain ⟨g, rfl, _, _, hc⟩ := own_str HO1.out (by omega)
                    have k1 := hc k hkn
                    have HT : Hid (xs.take (k + 1) = xs.take k ++ [xs[k]]) := List.take_succ_eq_append_getElem hkn
                    have HIN : Hid (longL xs[k] = true → xs.any longL = true) := fun h => List.any_eq_true.2 ⟨xs[k], List.getElem_mem hkn, h⟩
                    have HSZ : Hid ((text xs[k]).size = xs[k].length) := text_size _
                    have hszb : (text xs[k]).size ≤ 65535 := by rw [text_size]; exact HSX.out xs[k] (List.getElem_mem hkn)
                    clear hc
                    generalize xs[k] = x at *
                    by_cases hlg : 255 < (text x).size
                    · have g1 : decide ((255 : Int) < ((text x).size : Int)) = true := decide_eq_true (by omega)
                      have HB : Hid (chkV s = (.empty, false, 5)) := HLO.out HBF.out HNE.out HMF.out (.inr (HIN.out (by unfold longL; rw [← HSZ.out]; exact decide_eq_true hlg)))
                      go_wp2_with fail
                      go_ret3
                      rw [HB.out]
                      exact ⟨rfl, HB1.out⟩
                    · have g1 : decide ((255 : Int) < ((text x).size : Int)) = false := decide_eq_false (by omega)
                      by_cases h32 : 32 < xs.length
                      · have g2 : decide ((32 : Int) < (xs.length : Int)) = true := decide_eq_true (by omega)
                        have HB : Hid (chkV s = (.empty, false, 5)) := HLO.out HBF.out HNE.out HMF.out (.inl h32)
                        go_wp2_with fail
                        go_ret3
                        rw [HB.out]
                        exact ⟨rfl, HB1.out⟩
                      · have g2 : decide ((32 : Int) < (xs.length : Int)) = false := decide_eq_false (by omega)
                        have HM2 : Hid ((xs.take (k + 1)).any longL = false) := by
                          show _ = _
                          rw [HT.out, List.any_append, HM.out, List.any_cons]
                          unfold longL
                          rw [← HSZ.out, decide_eq_false hlg]
                          rfl
                        have H33 : Hid (0 < k + 1 → xs.length ≤ 32) := fun _ => by omega
                        go_wp2_with fail
                        go_roundw
                        case rel => exact ⟨k + 1, by omega, by go_num, by first | rfl | trivial, HM2, H33⟩
                        case measure => simp [intOf]; omega
                  · obtain rfl : k = xs.length := by omega
                    have HLF : Hid (xs.any longL = false) := by
                      have := HM.out
                      rw [List.take_length] at this
                      exact this
                    have HB : Hid (chkV s = (s, false, 0)) := HOK.out HBF.out HNE.out HMF.out (by have := H32.out (by have := HNE.out; omega); omega) HLF.out
                    clear HM H32
                    go_wp2_with fail
                    go_ret3
                    rw [HB.out]
                    exact ⟨rfl, HB1.out⟩
theorem rcheck_any (s : ByteArray) (w : World) :
    Calls Tryz.prog 80 #[.string s] w fun e w' => e = .returned (.tuple #[.string (chkV s).1, .bool (chkV s).2.1, .int .i64 (chkV s).2.2]) ∧ Below w.heap.size w w' := by
  by_cases hs : 65535 < s.size
  · have g1 : decide ((65535 : Int) < (s.size : Int)) = true := decide_eq_true (by omega)
    have HV := Lib.hid (chk_long hs)
    clear hs
    go_enter Tryz.func80, Tryz.ntmps80
    go_wp2_with fail
    go_ret3
    rw [HV.out]
    exact ⟨rfl, Below.refl _ _⟩
  · by_cases h0 : s.size = 0
    · have g1 : ((s.size : Int) == 0) = true := by rw [h0]; rfl
      have HV := Lib.hid (chk_read (s := s) (by omega) (.inl h0))
      clear h0
      go_enter Tryz.func80, Tryz.ntmps80
      go_wp2_with fail
      go_ret3
      rw [HV.out]
      exact ⟨rfl, Below.refl _ _⟩
    · cases hst : straysB s with
      | true =>
        have g1 : ((s.size : Int) == 0) = false := by rw [beq_eq_false_iff_ne]; omega
        have HV := Lib.hid (chk_read (s := s) (by omega) (.inr hst))
        have HST := Lib.hid (fun w => rstraysN_any s w (by omega))
        rw [hst] at HST
        clear h0 hst
        go_enter Tryz.func80, Tryz.ntmps80
        go_wp2_with fail
        refine (HST.out _).mono ?_
        rintro e w0 ⟨rfl, rfl⟩
        go_wp2_with fail
        go_ret3
        rw [HV.out]
        exact ⟨rfl, Below.refl _ _⟩
      | false =>
        rcases path_last s (by omega) with ⟨h47, hp, hd⟩ | ⟨h47, hp, hd⟩
        · exact rcheck_dir s w (by omega) (by omega) hst h47 hp hd
        · exact rcheck_file s w (by omega) (by omega) hst h47 hp hd
end Go.Proofs.YtjnoapbddifcpaaGreatDoor
