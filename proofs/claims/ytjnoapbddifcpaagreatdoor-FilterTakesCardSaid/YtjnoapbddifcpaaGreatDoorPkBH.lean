/-
  Contracts: the document's ParseOwner.
  Contracts: ParseOld on both sides, the document's PrintOwner, the chapter's example.
-/
import Derived.Test.YtjnoapbddifcpaaGreatDoorPkBG

namespace Go.Proofs.YtjnoapbddifcpaaGreatDoor
set_option maxRecDepth 100000
open Go.RowKit Go.Joins

theorem nums_ext (t : ByteArray) (a b : Nat) : nums (t.extract a b) = ((nums t).drop a).take (b - a) := by
  unfold nums
  rw [ByteArray.data_extract]
  simp
theorem nums_at (t : ByteArray) (k : Nat) (h : k < t.size) : t[k].toNat = (nums t).getD k 0 := by
  rw [List.getD_eq_getElem?_getD, nums_get t k h]
  rfl

/-- The document's loop: where it stands. -/
def oSt (s : ByteArray) (B : Nat) (k : Nat) (t : ByteArray) (w : World) : Prop :=
  (k = 0 ∧ nums t = (nums s).drop 1 ∧ w.heap[B]? = some (.cells #[.int .u64 0, .int .u64 0] 181 (0, 0))) ∨
  (k = 1 ∧ oN1 s ≤ 8 ∧ 2 + oN1 s ≤ s.size ∧ nums t = (nums s).drop (2 + oN1 s) ∧ w.heap[B]? = some (.cells #[.int .u64 (oU s : Nat), .int .u64 0] 181 (0, 0))) ∨
  (k = 2 ∧ oN1 s ≤ 8 ∧ oN2 s ≤ 8 ∧ 3 + oN1 s + oN2 s ≤ s.size ∧ nums t = (nums s).drop (3 + oN1 s + oN2 s) ∧ w.heap[B]? = some (.cells #[.int .u64 (oU s : Nat), .int .u64 (oG s : Nat)] 181 (0, 0)))

theorem oRes_no {s : ByteArray} (h : ¬ (s.size = 3 + oN1 s + oN2 s ∧ (nums s).getD 0 0 = 1 ∧ oN1 s ≤ 8 ∧ oN2 s ≤ 8)) : oRes s = .tuple #[.int .u32 0, .int .u32 0, .int .i64 24] :=
  if_neg (by unfold oOk; rw [decide_eq_true_iff]; exact h)

set_option maxHeartbeats 2000000 in
theorem rparseOwner_any (s : ByteArray) (hs : s.size ≤ maxLen) (w : World) :
    Calls Tryz.prog 56 #[.string s] w fun e w' => e = .returned (oRes s) ∧ Below w.heap.size w w' := by
  unfold maxLen at hs
  by_cases h2 : s.size < 2
  · have HO := Lib.hid (oRes_no (s := s) (by omega))
    go_enter Tryz.func56, Tryz.ntmps56
    go_wp2
    go_ret3
    exact ⟨by rw [HO.out]; rfl, Below.refl _ _⟩
  · have hx := nums_at s 0 (by omega)
    by_cases h1 : (nums s).getD 0 0 = 1
    · have hb : ((s[0]'(by omega)).toNat : Int) = 1 := by rw [hx, h1]; rfl
      have HX := Lib.hid hx
      have H1 := Lib.hid h1
      clear hx h1
      have HT : Hid (nums (s.extract 1 s.size) = (nums s).drop 1) := by
        show _ = _
        rw [nums_ext, List.take_of_length_le (by rw [List.length_drop, nums_len]; omega)]
      go_enter Tryz.func56, Tryz.ntmps56
      go_wp2
      have HB := Lib.hid ((Below.refl w.heap.size w).alloc (Nat.le_refl _) (.cells #[.int .u64 0, .int .u64 0] 181))
      have HA : Hid ((w.alloc (.cells #[.int .u64 0, .int .u64 0] 181)).heap[w.heap.size]? = some (.cells #[.int .u64 0, .int .u64 0] 181 (0, 0))) := heap_alloc_new _ _
      generalize s.extract 1 s.size = t0 at *
      generalize hB : w.heap.size = B at *
      have HBB := Lib.hid hB
      clear hB hb
      generalize w.alloc (.cells #[.int .u64 0, .int .u64 0] 181) = w0 at *
      go_loopw [0, 6] (fun t i wr => ∃ (k : Nat) (t' : ByteArray), t = .string t' ∧ i = .int .i64 (k : Nat) ∧ oSt s B k t' wr ∧ Below B w wr) (fun _ i _ => 2 - (intOf i).toNat)
      case atStart => exact ⟨0, t0, rfl, rfl, .inl ⟨rfl, HT.out, HA.out⟩, HB.out⟩
      case round =>
        clear HT HA HB
        obtain ⟨k, t, rfl, rfl, hst, hbw⟩ := hrel
        have HBW := Lib.hid hbw
        clear hbw
        have hn1 := getD_lt s 1
        rcases hst with ⟨rfl, ht, hh⟩ | ⟨rfl, g1, g2, ht, hh⟩ | ⟨rfl, g1, g2, g3, ht, hh⟩
        · have hts : t.size = s.size - 1 := by rw [← nums_len, ht, List.length_drop, nums_len]
          have hpos : 0 < t.size := by omega
          have hx : (t[0]'hpos).toNat = oN1 s := by
            rw [nums_at, ht, List.getD_eq_getElem?_getD, List.getElem?_drop]
            unfold oN1
            rw [List.getD_eq_getElem?_getD]
          have c0 : wr.cell? ⟨B, 0, none⟩ = some (.int .u64 0) := by rw [cell_of_row wr B 0 _ _ _ hh]; rfl
          have f0 := frozen_of_row wr B 0 _ _ hh
          have HX := Lib.hid hx
          have HH := Lib.hid hh
          have HT := Lib.hid ht
          have HTS := Lib.hid hts
          clear hx hh ht
          by_cases g1 : oN1 s ≤ 8
          · by_cases g2 : 2 + oN1 s ≤ s.size
            · have hx8 : (t[0]'hpos).toNat ≤ 8 := by rw [HX.out]; exact g1
              have hle : 1 + (t[0]'hpos).toNat ≤ t.size := by rw [HX.out]; omega
              have hn2 : nums (t.extract 1 (1 + (t[0]'hpos).toNat)) = ((nums s).drop 2).take (oN1 s) := by
                rw [nums_ext, HT.out, HX.out, List.drop_drop, Nat.add_sub_cancel_left]
              have hz : (t.extract 1 (1 + (t[0]'hpos).toNat)).size ≤ 8 := by rw [ByteArray.size_extract]; omega
              have hn3 : nums (t.extract (1 + (t[0]'hpos).toNat) t.size) = (nums s).drop (2 + oN1 s) := by
                rw [nums_ext, HT.out, HX.out, List.drop_drop, List.take_of_length_le (by rw [List.length_drop, nums_len]; omega)]
                congr 1
                omega
              have HNN := Lib.hid (fun w => rnumber_any _ hz w)
              rw [show numL (nums (t.extract 1 (1 + (t[0]'hpos).toNat))) = oU s by rw [hn2]; rfl] at HNN
              have HN3 := Lib.hid hn3
              clear hts hn2 hn3
              go_wp2_with fail
              refine (HNN.out _).mono ?_; rintro r w1 ⟨rfl, rfl⟩
              go_wp2_with fail
              go_roundw
              case rel =>
                refine ⟨1, _, by rfl, by rfl, .inr (.inl ⟨rfl, g1, g2, HN3.out, ?_⟩), HBW.out.setCell (Nat.le_refl _) _⟩
                exact heap_setCell_same wr B 0 _ _ _ HH.out
              case measure => simp [intOf]
            · have HO := Lib.hid (oRes_no (s := s) (by omega))
              have hx8 : (t[0]'hpos).toNat ≤ 8 := by rw [HX.out]; exact g1
              have hle : t.size < 1 + (t[0]'hpos).toNat := by rw [HX.out]; omega
              clear hts
              go_wp2_with fail
              go_ret3
              exact ⟨by rw [HO.out]; rfl, by rw [HBB.out]; exact HBW.out⟩
          · have HO := Lib.hid (oRes_no (s := s) (by omega))
            have hx8 : 8 < (t[0]'hpos).toNat := by rw [HX.out]; omega
            have hx256 : (t[0]'hpos).toNat ≤ 255 := by rw [HX.out]; unfold oN1; omega
            clear hts
            go_wp2_with fail
            go_ret3
            exact ⟨by rw [HO.out]; rfl, by rw [HBB.out]; exact HBW.out⟩
        · have hts : t.size = s.size - (2 + oN1 s) := by rw [← nums_len, ht, List.length_drop, nums_len]
          have c0 : wr.cell? ⟨B, 1, none⟩ = some (.int .u64 0) := by rw [cell_of_row wr B 1 _ _ _ hh]; rfl
          have f0 := frozen_of_row wr B 1 _ _ hh
          have HH := Lib.hid hh
          have HT := Lib.hid ht
          have HTS := Lib.hid hts
          clear hh ht
          by_cases hpos : 0 < t.size
          · have hx : (t[0]'hpos).toNat = oN2 s := by
              rw [nums_at, HT.out, List.getD_eq_getElem?_getD, List.getElem?_drop]
              unfold oN2
              rw [List.getD_eq_getElem?_getD]
              rfl
            have HX := Lib.hid hx
            clear hx
            have hx256 : (t[0]'hpos).toNat ≤ 255 := by have := t[0].toNat_lt; omega
            by_cases g3 : oN2 s ≤ 8
            · have hx8 : (t[0]'hpos).toNat ≤ 8 := by rw [HX.out]; exact g3
              by_cases g4 : 3 + oN1 s + oN2 s ≤ s.size
              · have hle : 1 + (t[0]'hpos).toNat ≤ t.size := by rw [HX.out]; omega
                have hn2 : nums (t.extract 1 (1 + (t[0]'hpos).toNat)) = ((nums s).drop (3 + oN1 s)).take (oN2 s) := by
                  rw [nums_ext, HT.out, HX.out, List.drop_drop, Nat.add_sub_cancel_left]
                  congr 2
                  omega
                have hz : (t.extract 1 (1 + (t[0]'hpos).toNat)).size ≤ 8 := by rw [ByteArray.size_extract]; omega
                have hn3 : nums (t.extract (1 + (t[0]'hpos).toNat) t.size) = (nums s).drop (3 + oN1 s + oN2 s) := by
                  rw [nums_ext, HT.out, HX.out, List.drop_drop, List.take_of_length_le (by rw [List.length_drop, nums_len]; omega)]
                  congr 1
                  omega
                have HNN := Lib.hid (fun w => rnumber_any _ hz w)
                rw [show numL (nums (t.extract 1 (1 + (t[0]'hpos).toNat))) = oG s by rw [hn2]; rfl] at HNN
                have HN3 := Lib.hid hn3
                clear hts hn2 hn3
                go_wp2_with fail
                refine (HNN.out _).mono ?_; rintro r w1 ⟨rfl, rfl⟩
                go_wp2_with fail
                go_roundw
                case rel =>
                  refine ⟨2, _, by rfl, by rfl, .inr (.inr ⟨rfl, g1, g3, g4, HN3.out, ?_⟩), HBW.out.setCell (Nat.le_refl _) _⟩
                  exact heap_setCell_same wr B 1 _ _ _ HH.out
                case measure => simp [intOf]
              · have HO := Lib.hid (oRes_no (s := s) (by omega))
                have hle : t.size < 1 + (t[0]'hpos).toNat := by rw [HX.out]; omega
                clear hts
                go_wp2_with fail
                go_ret3
                exact ⟨by rw [HO.out]; rfl, by rw [HBB.out]; exact HBW.out⟩
            · have HO := Lib.hid (oRes_no (s := s) (by omega))
              have hx8 : 8 < (t[0]'hpos).toNat := by rw [HX.out]; omega
              clear hts
              go_wp2_with fail
              go_ret3
              exact ⟨by rw [HO.out]; rfl, by rw [HBB.out]; exact HBW.out⟩
          · have hz : t.size = 0 := by omega
            have HO := Lib.hid (oRes_no (s := s) (by omega))
            have hzb : ((t.size : Int) == 0) = true := by rw [hz]; rfl
            clear hz hts hpos
            go_wp2_with fail
            go_ret3
            exact ⟨by rw [HO.out]; rfl, by rw [HBB.out]; exact HBW.out⟩
        · have hts : t.size = s.size - (3 + oN1 s + oN2 s) := by rw [← nums_len, ht, List.length_drop, nums_len]
          have c0 : wr.cell? ⟨B, 0, none⟩ = some (.int .u64 (oU s : Nat)) := by rw [cell_of_row wr B 0 _ _ _ hh]; rfl
          have c1 : wr.cell? ⟨B, 1, none⟩ = some (.int .u64 (oG s : Nat)) := by rw [cell_of_row wr B 1 _ _ _ hh]; rfl
          by_cases hz : 0 < t.size
          · have HO := Lib.hid (oRes_no (s := s) (by omega))
            clear hts
            go_wp2_with fail
            go_ret3
            exact ⟨by rw [HO.out]; rfl, by rw [HBB.out]; exact HBW.out⟩
          · have HO : Hid (oOk s = true) := decide_eq_true ⟨by omega, H1.out, g1, g2⟩
            clear hts
            by_cases g4 : oU s ≤ 4294967295
            · by_cases g5 : oG s ≤ 4294967295
              · have HR : Hid (oRes s = .tuple #[.int .u32 (oU s : Nat), .int .u32 (oG s : Nat), .int .i64 0]) := by
                  show _ = _
                  unfold oRes
                  rw [HO.out, show oFit s = true from decide_eq_true ⟨g4, g5⟩]
                  rfl
                generalize oU s = u at *
                generalize oG s = v at *
                go_wp2_with fail
                go_quiet (fail)
                go_wp2_with fail
                go_ret3
                exact ⟨by rw [HR.out]; rfl, by rw [HBB.out]; exact below_drewN HBW.out _⟩
              · have HR : Hid (oRes s = .tuple #[.int .u32 0, .int .u32 0, .int .i64 8]) := by
                  show _ = _
                  unfold oRes
                  rw [HO.out, show oFit s = false from decide_eq_false fun h => g5 h.2]
                  rfl
                have g6 : 4294967295 < oG s := by omega
                generalize oU s = u at *
                generalize oG s = v at *
                go_wp2_with fail
                go_ret3
                exact ⟨by rw [HR.out]; rfl, by rw [HBB.out]; exact HBW.out⟩
            · have HR : Hid (oRes s = .tuple #[.int .u32 0, .int .u32 0, .int .i64 8]) := by
                show _ = _
                unfold oRes
                rw [HO.out, show oFit s = false from decide_eq_false fun h => g4 h.1]
                rfl
              have g6 : 4294967295 < oU s := by omega
              generalize oU s = u at *
              generalize oG s = v at *
              go_wp2_with fail
              go_ret3
              exact ⟨by rw [HR.out]; rfl, by rw [HBB.out]; exact HBW.out⟩
    · have HO := Lib.hid (oRes_no (s := s) (fun h => h1 h.2.1))
      have hb : (((s[0]'(by omega)).toNat : Int) != 1) = true := by rw [bne_iff_ne, hx]; omega
      clear hx h1
      go_enter Tryz.func56, Tryz.ntmps56
      go_wp2
      go_ret3
      exact ⟨by rw [HO.out]; rfl, Below.refl _ _⟩
end Go.Proofs.YtjnoapbddifcpaaGreatDoor

namespace Go.Proofs.YtjnoapbddifcpaaGreatDoor
set_option maxRecDepth 100000
open Go.RowKit Go.Joins

def oldRes (s : ByteArray) : Value := if s.size = 0 then .tuple #[.int .u32 0, .int .u32 0, .int .i64 0] else if s.size = 4 then .tuple #[.int .u32 (numL ((nums s).take 2) : Nat), .int .u32 (numL ((nums s).drop 2) : Nat), .int .i64 0] else .tuple #[.int .u32 0, .int .u32 0, .int .i64 24]
theorem size_zero {s : ByteArray} (h : s.size = 0) : s = ⟨#[]⟩ := by
  apply nums_inj
  rw [List.eq_nil_of_length_eq_zero (l := nums s) (by rw [nums_len]; exact h)]
  rfl
theorem size_pos {s : ByteArray} (h : ¬ s.size = 0) : s.toList = [] ↔ False := by
  rw [Lib.toList_data]
  refine ⟨fun e => h ?_, fun e => e.elim⟩
  rw [← nums_len]
  unfold nums
  rw [e]
  rfl

theorem parseOld_any (s : ByteArray) (hs : s.size ≤ maxLen) (w : World) :
    Calls Tryz.prog 77 #[.string s] w fun e w' => e = .returned (oldRes s) ∧ Below w.heap.size w w' := by
  have HL := Lib.hid hs
  by_cases h0 : s.size = 0
  · obtain rfl := size_zero h0
    clear h0
    go_enter Tryz.func77, Tryz.ntmps77
    go_wp2_with fail
    go_ret3
    exact ⟨rfl, Below.refl _ _⟩
  · have hb : s.toList.isEmpty = false := by
      have := size_pos h0
      cases hc : s.toList with
      | nil => exact (this.1 hc).elim
      | cons _ _ => rfl
    have hb2 := size_pos h0
    have H0 := Lib.hid h0
    clear h0
    go_enter Tryz.func77, Tryz.ntmps77
    go_wp2_with fail
    refine (over_ci s _).mono ?_; rintro r wF ⟨rfl, C0⟩
    go_wp2_with fail
    refine (two_ci HL.out (Nat.zero_le _) C0).mono ?_; rintro r x1 ⟨rfl, C1⟩
    have hle1 := atB_le s 0 0 (2 : Nat) (Nat.zero_le _)
    have hm1 := numB_lt s 0 0 2
    generalize hA1 : atB s 0 0 (2 : Nat) = a1 at *
    generalize hE1 : errB s 0 0 (2 : Nat) = e1 at *
    generalize hM1 : numB s 0 0 2 = m1 at *
    have A1 := Lib.hid hA1; have E1 := Lib.hid hE1; have M1 := Lib.hid hM1
    clear hA1 hE1 hM1
    go_wp2_with fail
    refine (two_ci HL.out hle1 C1).mono ?_; rintro r x2 ⟨rfl, C2⟩
    have hle2 := atB_le s a1 e1 (2 : Nat) hle1
    have hm2 := numB_lt s a1 e1 2
    generalize hA2 : atB s a1 e1 (2 : Nat) = a2 at *
    generalize hE2 : errB s a1 e1 (2 : Nat) = e2 at *
    generalize hM2 : numB s a1 e1 2 = m2 at *
    have A2 := Lib.hid hA2; have E2 := Lib.hid hE2; have M2 := Lib.hid hM2
    clear hA2 hE2 hM2
    go_wp2_with fail
    refine (through_ci HL.out hle2 C2).mono ?_; rintro r x3 ⟨rfl, d, rfl⟩
    have B := Lib.hid (below_drewN C2.bel d)
    by_cases h4 : s.size = 4
    · have a1' : a1 = 2 := by rw [← A1.out]; exact atB_yes s 0 2 (by omega)
      have e1' : e1 = 0 := by rw [← E1.out]; exact errB_yes s 0 2 (by omega)
      subst a1' e1'
      have a2' : a2 = 4 := by rw [← A2.out]; exact atB_yes s 2 2 (by omega)
      have e2' : e2 = 0 := by rw [← E2.out]; exact errB_yes s 2 2 (by omega)
      subst a2' e2'
      have hm1 : m1 = numL ((nums s).take 2) := by
        rw [← M1.out]
        unfold numB
        rw [nums_piece s 0 2 (by omega)]
        rfl
      have hm2 : m2 = numL ((nums s).drop 2) := by
        rw [← M2.out]
        unfold numB
        rw [nums_piece s 2 2 (by omega), List.take_of_length_le (by rw [List.length_drop, nums_len]; omega)]
      have HR : Hid (oldRes s = .tuple #[.int .u32 (m1 : Nat), .int .u32 (m2 : Nat), .int .i64 0]) := by
        show _ = _
        unfold oldRes
        rw [if_neg H0.out, if_pos h4, hm1, hm2]
      have ht : thrB s 4 0 = true := decide_eq_true ⟨rfl, h4.symm⟩
      rw [ht]
      clear ht h4 hm1 hm2 A1 A2 E1 E2 M1 M2
      go_wp2_with fail
      go_ret3
      exact ⟨by rw [HR.out]; rfl, B.out⟩
    · have HR : Hid (oldRes s = .tuple #[.int .u32 0, .int .u32 0, .int .i64 24]) := by
        show _ = _
        unfold oldRes
        rw [if_neg H0.out, if_neg h4]
      have ht : thrB s a2 e2 = false := decide_eq_false fun h => h4 (by
        obtain ⟨he, ha⟩ := h
        have E2' := E2.out
        rw [he] at E2'
        obtain ⟨he1, _, k2, j2⟩ := errB_zero E2'
        have E1' := E1.out
        rw [he1] at E1'
        obtain ⟨_, _, k1, j1⟩ := errB_zero E1'
        have A2' := A2.out
        rw [he1] at A2' j2
        rw [A2'] at j2
        rw [A1.out] at j1
        rw [Int.toNat_natCast] at *
        omega)
      rw [ht]
      clear ht h4 A1 A2 E1 E2 M1 M2
      go_wp2_with fail
      go_ret3
      exact ⟨by rw [HR.out]; rfl, B.out⟩

theorem rnumber_q (s : ByteArray) (h8 : s.size ≤ 8) (w : World) :
    Calls Tryz.prog 78 #[.string s] w fun e w' => e = .returned (.int .u64 (numL (nums s) : Nat)) ∧ w' = w :=
  (rnumber_any s h8 w).mono fun _ _ h => ⟨h.1, h.2.symm⟩
theorem rparseOld_any (s : ByteArray) (hs : s.size ≤ maxLen) (w : World) :
    Calls Tryz.prog 57 #[.string s] w fun e w' => e = .returned (oldRes s) ∧ Below w.heap.size w w' := by
  unfold maxLen at hs
  by_cases h0 : s.size = 0
  · obtain rfl := size_zero h0
    clear h0
    go_enter Tryz.func57, Tryz.ntmps57
    go_wp2_with fail
    go_ret3
    exact ⟨rfl, Below.refl _ _⟩
  · have h0b : ((s.size : Int) == 0) = false := by rw [beq_eq_false_iff_ne]; omega
    by_cases h4 : s.size = 4
    · have h4b : ((s.size : Int) != 4) = false := by rw [h4]; rfl
      have z1 : (s.extract 0 2).size ≤ 8 := by rw [ByteArray.size_extract]; omega
      have z2 : (s.extract 2 s.size).size ≤ 8 := by rw [ByteArray.size_extract]; omega
      have y1 : numL (nums (s.extract 0 2)) = numL ((nums s).take 2) := by rw [nums_ext]; rfl
      have y2 : numL (nums (s.extract 2 s.size)) = numL ((nums s).drop 2) := by rw [nums_ext, List.take_of_length_le (by rw [List.length_drop, nums_len]; omega)]
      have q1 : numL ((nums s).take 2) < 65536 := by
        have := numL_lt ((nums s).take 2) (fun x hx => nums_lt s x (List.mem_of_mem_take hx))
        rw [List.length_take, nums_len, h4] at this
        exact this
      have q2 : numL ((nums s).drop 2) < 65536 := by
        have := numL_lt ((nums s).drop 2) (fun x hx => nums_lt s x (List.mem_of_mem_drop hx))
        rw [List.length_drop, nums_len, h4] at this
        exact this
      have HR : Hid (oldRes s = .tuple #[.int .u32 (numL ((nums s).take 2) : Nat), .int .u32 (numL ((nums s).drop 2) : Nat), .int .i64 0]) := by
        show _ = _
        unfold oldRes
        rw [if_neg h0, if_pos h4]
      have hle : 2 ≤ s.size := by omega
      rw [← y1] at q1 HR
      rw [← y2] at q2 HR
      clear h0 h4 y1 y2
      go_enter Tryz.func57, Tryz.ntmps57
      go_wp2_with fail
      go_quiet ((go_at_call 78; exact Calls.quiet_of_same (rnumber_q _ (by assumption) _)))
      go_wp2_with fail
      go_ret3
      exact ⟨by rw [HR.out]; rfl, below_drewN (Below.refl _ _) _⟩
    · have h4b : ((s.size : Int) != 4) = true := by rw [bne_iff_ne]; omega
      have HR : Hid (oldRes s = .tuple #[.int .u32 0, .int .u32 0, .int .i64 24]) := by
        show _ = _
        unfold oldRes
        rw [if_neg h0, if_neg h4]
      clear h0 h4
      go_enter Tryz.func57, Tryz.ntmps57
      go_wp2_with fail
      go_ret3
      exact ⟨by rw [HR.out]; rfl, Below.refl _ _⟩

end Go.Proofs.YtjnoapbddifcpaaGreatDoor
