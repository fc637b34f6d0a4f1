/-
  The document's ParseStamp, of longer texts.
  An entry by the document: its times, its owner, its kind (mathematics).
-/
import Derived.Test.YtjnoapbddifcpaaGreatDoorPkBI
import Derived.Test.YtjnoapbddifcpaaGreatDoorPkDC
import Derived.Test.YtjnoapbddifcpaaGreatDoorPkCH
import Derived.Maps.OwnOps

namespace Go.Proofs.YtjnoapbddifcpaaGreatDoor
set_option maxRecDepth 100000
open Go.RowKit Go.Joins
set_option maxHeartbeats 2000000 in
theorem rparseStampN_any (s : ByteArray) (c : Bool) (hs : s.size ≤ 1000000) (w : World) :
    Calls Tryz.prog 54 #[.string s, .bool c] w fun e w' => e = .returned (stRes s c) ∧ Below w.heap.size w w' := by
  have HZ := zero_rstamp
  have hb := ((Below.refl w.heap.size w).alloc (Nat.le_refl _) (.cells #[.int .u8 0, .int .i32 0, .int .i32 0, .int .i32 0] 130)).alloc (by simp) (.cells #[.int .u8 0, .int .i32 0, .int .i32 0, .int .i32 0] 130)
  have hr1 : ((w.alloc (.cells #[.int .u8 0, .int .i32 0, .int .i32 0, .int .i32 0] 130)).alloc (.cells #[.int .u8 0, .int .i32 0, .int .i32 0, .int .i32 0] 130)).heap[w.heap.size]? = some (.cells #[.int .u8 0, .int .i32 0, .int .i32 0, .int .i32 0] 130 (0, 0)) := (Below.heap_alloc _ _ _ (by simp)).trans (heap_alloc_new _ _)
  have hr2 := heap_alloc2_new w (.cells #[.int .u8 0, .int .i32 0, .int .i32 0, .int .i32 0] 130) (.cells #[.int .u8 0, .int .i32 0, .int .i32 0, .int .i32 0] 130)
  have HB := Lib.hid hb
  have HR1 := Lib.hid hr1
  have HR2 := Lib.hid hr2
  clear hb hr1 hr2
  by_cases h0 : s.size = 0
  · have HO := Lib.hid (stRes_no (s := s) (c := c) rfl (by omega))
    have hb : ((s.size : Int) == 0) = true := by rw [h0]; rfl
    clear h0
    go_enter Tryz.func54, Tryz.ntmps54
    go_wp2_with (first | (refine wpList_load_row rfl 130 (.tmp 6) rfl (w.heap.size + 1) rfl 130 #[.int .u8 0, .int .i32 0, .int .i32 0, .int .i32 0] (0, 0) _ HR2.out Tryz.underlying130 rfl info_rstamp ?_) | (refine wpList_store_row rfl 130 (.tmp 4) (.tmp 18) rfl w.heap.size #[.int .u8 0, .int .i32 0, .int .i32 0, .int .i32 0] rfl rfl 130 #[.int .u8 0, .int .i32 0, .int .i32 0, .int .i32 0] HR1.out info_rstamp rfl (four_one _ _ _ _) ?_))
    exact bodyPost_ret (results_ct_row rfl _ _ w.heap.size 130 #[.int .u8 0, .int .i32 0, .int .i32 0, .int .i32 0] (0, 0) _ rfl (setRow_heap _ _ _ _ _ _ HR1.out) Tryz.underlying130 rfl info_rstamp) rfl ⟨by rw [HO.out]; rfl, below_setRow HB.out (Nat.le_refl _) _⟩
  · have hpos : 0 < s.size := by omega
    have hx := nums_at s 0 hpos
    have hF := getD_lt s 0
    generalize hFF : (nums s).getD 0 0 = F at *
    have HFF := Lib.hid hFF
    have HX := Lib.hid hx
    have hb0 : ((s.size : Int) == 0) = false := by rw [beq_eq_false_iff_ne]; omega
    by_cases h7 : F ≤ 7
    · have hx7 : (s[0]'hpos).toNat ≤ 7 := by omega
      have HT : Hid (nums (s.extract 1 s.size) = (nums s).drop 1) := by
        show _ = _
        rw [nums_ext, List.take_of_length_le (by rw [List.length_drop, nums_len]; omega)]
      clear hx h0 hFF
      go_enter Tryz.func54, Tryz.ntmps54
      go_wp2_with fail
      rw [HX.out]
      have HST : Hid (RX w s F c 0 (s.extract 1 s.size) ((w.alloc (.cells #[.int .u8 0, .int .i32 0, .int .i32 0, .int .i32 0] 130)).alloc (.cells #[.int .u8 F, .int .i32 0, .int .i32 0, .int .i32 0] 130))) :=
        ⟨HT.out, hpos, (Below.heap_alloc _ _ _ (by simp)).trans (heap_alloc_new _ _), heap_alloc2_new w _ _, ((Below.refl _ _).alloc (Nat.le_refl _) _).alloc (by simp) _⟩
      generalize (w.alloc (.cells #[.int .u8 0, .int .i32 0, .int .i32 0, .int .i32 0] 130)).alloc (.cells #[.int .u8 F, .int .i32 0, .int .i32 0, .int .i32 0] 130) = w0 at *
      clear HB HR1 HR2 HT hb0 hx7
      generalize s.extract 1 s.size = st at *
      go_loopw [0, 7, 8] (fun t f i wr => ∃ (k : Nat) (t' : ByteArray), k ≤ 3 ∧ t = .string t' ∧ f = .int .u8 ((2 ^ k : Nat) : Int) ∧ i = .int .i64 (k : Nat) ∧ RX w s F c k t' wr) (fun _ _ i _ => 3 - (intOf i).toNat)
      case atStart => exact ⟨0, st, by omega, rfl, rfl, rfl, HST.out⟩
      case round =>
        clear HST
        obtain ⟨k, t, hk, rfl, rfl, rfl, hrx⟩ := hrel
        have hts : t.size = s.size - pk F c k := by rw [← nums_len, hrx.txt, List.length_drop, nums_len]
        have hfit := hrx.fit
        have hpk := pk_bd F c k
        have hpm := pk_mono F c k 3 hk
        have HRX := Lib.hid hrx
        clear hrx
        by_cases hk3 : k < 3
        · have hfl : 1 ≤ 2 ^ k ∧ 2 ^ k ≤ 4 := by
            have : k = 0 ∨ k = 1 ∨ k = 2 := by omega
            rcases this with rfl | rfl | rfl <;> decide
          have hbit : (((F : Nat) : Int) / ((2 ^ k : Nat) : Int) % 2 == 1) = decide (F / 2 ^ k % 2 = 1) := by
            rw [Bool.eq_iff_iff, beq_iff_eq, decide_eq_true_iff]
            omega
          have hz : (((k : Nat) : Int) == 0) = decide (k = 0) := by
            rw [Bool.eq_iff_iff, beq_iff_eq, decide_eq_true_iff]
            omega
          have HTK : Hid (tk F c k = (decide (F / 2 ^ k % 2 = 1) && (decide (k = 0) || !c))) := rfl
          have HPK : Hid (pk F c (k + 1) = pk F c k + if tk F c k = true then 4 else 0) := rfl
          have HPW : Hid (2 ^ (k + 1) = 2 ^ k * 2) := Nat.pow_succ 2 k
          have hc0 : wr.cell? ⟨w.heap.size + 1, 0, none⟩ = some (.int .u8 F) := by rw [cell_of_row wr _ 0 _ _ _ HRX.out.row]; rfl
          generalize decide (F / 2 ^ k % 2 = 1) = b1 at *
          generalize decide (k = 0) = b2 at *
          generalize 2 ^ k = fl at *
          obtain ⟨hfl1, hfl2⟩ := hfl
          clear hfit hpk hpm
          have hcase : (tk F c k = false ∧ (b1 = false ∨ (b1 = true ∧ b2 = false ∧ c = true))) ∨ (tk F c k = true ∧ b1 = true ∧ (b2 = true ∨ (b2 = false ∧ c = false))) := by
            rw [HTK.out]
            cases b1 <;> cases b2 <;> cases c <;> simp
          have HTS := Lib.hid hts
          clear hts
          rcases hcase with ⟨ht, hbb⟩ | ⟨ht, rfl, hbb⟩
          · have HN : Hid (RX w s F c (k + 1) t wr) := by
              have h := HRX.out
              have e : pk F c (k + 1) = pk F c k := by rw [HPK.out, ht]; rfl
              exact ⟨by rw [e]; exact h.txt, by rw [e]; exact h.fit, h.res, by rw [lk_same s F c k 0 ht, lk_same s F c k 1 ht, lk_same s F c k 2 ht]; exact h.row, h.bel⟩
            clear ht HTK
            rcases hbb with rfl | ⟨rfl, rfl, rfl⟩
            all_goals
              go_wp2_with fail
              go_roundw
              case rel => exact ⟨k + 1, t, by omega, rfl, by rw [HPW.out]; go_num, by go_num, HN.out⟩
              case measure => simp [intOf]; omega
          · have ht4 : pk F c (k + 1) = pk F c k + 4 := by rw [HPK.out, ht]; rfl
            by_cases h4 : pk F c k + 4 ≤ s.size
            · have hsz : (t.extract 0 4).size ≤ 4 := by rw [ByteArray.size_extract]; omega
              have HSG := Lib.hid (fun w => signed_any _ hsz w)
              have hv : sgn (numL (nums (t.extract 0 4))) = vk s F c k := by
                unfold vk
                rw [if_pos ht, nums_ext, HRX.out.txt]
                rfl
              rw [hv] at HSG
              have hnt : nums (t.extract 4 t.size) = (nums s).drop (pk F c (k + 1)) := by
                rw [nums_ext, HRX.out.txt, List.drop_drop, List.take_of_length_le (by rw [List.length_drop, nums_len]; have := HTS.out; omega), ht4]
              have HNT := Lib.hid hnt
              have HFT : Hid (pk F c (k + 1) ≤ s.size) := by show _ ≤ _; omega
              have hle : 4 ≤ t.size := by have := HTS.out; omega
              have c1 : wr.cell? ⟨w.heap.size + 1, 1 + k, none⟩ = some (.int .i32 0) := by
                rw [cell_of_row wr _ (1 + k) _ _ _ HRX.out.row]
                have : k = 0 ∨ k = 1 ∨ k = 2 := by omega
                rcases this with rfl | rfl | rfl <;> simp [lk]
              have f1 := frozen_of_row wr (w.heap.size + 1) (1 + k) _ _ HRX.out.row
              clear ht HTK hv hnt h4 ht4
              rcases hbb with rfl | ⟨rfl, rfl⟩
              all_goals
                go_wp2_with fail
                refine (HSG.out _).mono ?_; rintro r y1 ⟨rfl, rfl⟩
                go_wp2_with fail
                go_roundw
                case rel =>
                  refine ⟨k + 1, _, by omega, by rfl, by rw [HPW.out]; go_num, by go_num, HNT.out, HFT.out, ?_, ?_, HRX.out.bel.setCell (Nat.le_succ _) _⟩
                  · rw [Below.heap_setCell _ _ _ _ (Nat.ne_of_lt (Nat.lt_succ_self _))]; exact HRX.out.res
                  · rw [← lk_set s F _ k hk3]
                    exact heap_setCell_same wr _ (1 + k) _ _ _ HRX.out.row
                case measure => simp [intOf]; omega
            · have HO := Lib.hid (stRes_no (s := s) (c := c) HFF.out (by
                have := pk_mono F c (k + 1) 3 (by omega)
                omega))
              have hlt : t.size < 4 := by have := HTS.out; omega
              clear ht HTK h4 ht4
              rcases hbb with rfl | ⟨rfl, rfl⟩
              all_goals
                go_wp2_with (refine wpList_store_row rfl 130 (.tmp 4) (.tmp 49) rfl w.heap.size #[.int .u8 0, .int .i32 0, .int .i32 0, .int .i32 0] rfl rfl 130 #[.int .u8 0, .int .i32 0, .int .i32 0, .int .i32 0] HRX.out.res info_rstamp rfl (four_one _ _ _ _) ?_)
                exact bodyPost_ret (results_ct_row rfl _ _ w.heap.size 130 #[.int .u8 0, .int .i32 0, .int .i32 0, .int .i32 0] (0, 0) _ rfl (setRow_heap _ _ _ _ _ _ HRX.out.res) Tryz.underlying130 rfl info_rstamp) rfl ⟨by rw [HO.out]; rfl, below_setRow HRX.out.bel (Nat.le_refl _) _⟩
        · obtain rfl : k = 3 := by omega
          by_cases hend : c = true ∨ pk F c 3 = s.size
          · have HO := Lib.hid (stRes_yes (s := s) (c := c) HFF.out ⟨hpos, h7, hfit, hend⟩)
            have e0 : lk s F c 3 0 = vk s F c 0 := rfl
            have e1 : lk s F c 3 1 = vk s F c 1 := rfl
            have e2 : lk s F c 3 2 = vk s F c 2 := rfl
            have hrow := HRX.out.row
            rw [e0, e1, e2] at hrow
            have HROW := Lib.hid hrow
            clear hrow e0 e1 e2
            generalize vk s F c 0 = v0 at *
            generalize vk s F c 1 = v1 at *
            generalize vk s F c 2 = v2 at *
            have hcase : c = true ∨ (c = false ∧ t.size = 0) := by
              cases c with
              | true => exact .inl rfl
              | false => exact .inr ⟨rfl, by have : pk F false 3 = s.size := by simpa using hend
                                             omega⟩
            clear hend hts hfit hpk hpm
            rcases hcase with rfl | ⟨rfl, hz⟩
            · go_wp2_with (first | (refine wpList_load_row rfl 130 (.tmp 6) rfl (w.heap.size + 1) rfl 130 #[.int .u8 F, .int .i32 v0, .int .i32 v1, .int .i32 v2] (0, 0) _ HROW.out Tryz.underlying130 rfl info_rstamp ?_) | (refine wpList_store_row rfl 130 (.tmp 4) (.tmp 66) rfl w.heap.size #[.int .u8 F, .int .i32 v0, .int .i32 v1, .int .i32 v2] rfl rfl 130 #[.int .u8 0, .int .i32 0, .int .i32 0, .int .i32 0] HRX.out.res info_rstamp rfl (four_one _ _ _ _) ?_))
              all_goals exact bodyPost_ret (results_ct_row rfl _ _ w.heap.size 130 #[.int .u8 F, .int .i32 v0, .int .i32 v1, .int .i32 v2] (0, 0) _ rfl (setRow_heap _ _ _ _ _ _ HRX.out.res) Tryz.underlying130 rfl info_rstamp) rfl ⟨by rw [HO.out]; rfl, below_setRow HRX.out.bel (Nat.le_refl _) _⟩
            · have hz2 : decide ((0 : Int) < (t.size : Int)) = false := decide_eq_false (by omega)
              have hz3 : ¬ 0 < t.size := by omega
              clear hz
              go_wp2_with (first | (refine wpList_load_row rfl 130 (.tmp 6) rfl (w.heap.size + 1) rfl 130 #[.int .u8 F, .int .i32 v0, .int .i32 v1, .int .i32 v2] (0, 0) _ HROW.out Tryz.underlying130 rfl info_rstamp ?_) | (refine wpList_store_row rfl 130 (.tmp 4) (.tmp 66) rfl w.heap.size #[.int .u8 F, .int .i32 v0, .int .i32 v1, .int .i32 v2] rfl rfl 130 #[.int .u8 0, .int .i32 0, .int .i32 0, .int .i32 0] HRX.out.res info_rstamp rfl (four_one _ _ _ _) ?_))
              exact bodyPost_ret (results_ct_row rfl _ _ w.heap.size 130 #[.int .u8 F, .int .i32 v0, .int .i32 v1, .int .i32 v2] (0, 0) _ rfl (setRow_heap _ _ _ _ _ _ HRX.out.res) Tryz.underlying130 rfl info_rstamp) rfl ⟨by rw [HO.out]; rfl, below_setRow HRX.out.bel (Nat.le_refl _) _⟩
          · have HO := Lib.hid (stRes_no (s := s) (c := c) HFF.out (fun h => hend h.2.2.2))
            have hcf : c = false := by cases c with
              | true => exact (hend (.inl rfl)).elim
              | false => rfl
            have hpp : ¬ pk F c 3 = s.size := fun h => hend (.inr h)
            have hgt : 0 < t.size := by omega
            subst hcf
            clear hend hts hfit hpk hpm hpp
            go_wp2_with (refine wpList_store_row rfl 130 (.tmp 4) (.tmp 65) rfl w.heap.size #[.int .u8 0, .int .i32 0, .int .i32 0, .int .i32 0] rfl rfl 130 #[.int .u8 0, .int .i32 0, .int .i32 0, .int .i32 0] HRX.out.res info_rstamp rfl (four_one _ _ _ _) ?_)
            exact bodyPost_ret (results_ct_row rfl _ _ w.heap.size 130 #[.int .u8 0, .int .i32 0, .int .i32 0, .int .i32 0] (0, 0) _ rfl (setRow_heap _ _ _ _ _ _ HRX.out.res) Tryz.underlying130 rfl info_rstamp) rfl ⟨by rw [HO.out]; rfl, below_setRow HRX.out.bel (Nat.le_refl _) _⟩
    · have HO := Lib.hid (stRes_no (s := s) (c := c) HFF.out (by omega))
      have hx7 : 7 < (s[0]'hpos).toNat := by omega
      clear hx h0 h7 hFF
      go_enter Tryz.func54, Tryz.ntmps54
      go_wp2_with (first | (refine wpList_load_row rfl 130 (.tmp 6) rfl (w.heap.size + 1) rfl 130 #[.int .u8 0, .int .i32 0, .int .i32 0, .int .i32 0] (0, 0) _ HR2.out Tryz.underlying130 rfl info_rstamp ?_) | (refine wpList_store_row rfl 130 (.tmp 4) (.tmp 18) rfl w.heap.size #[.int .u8 0, .int .i32 0, .int .i32 0, .int .i32 0] rfl rfl 130 #[.int .u8 0, .int .i32 0, .int .i32 0, .int .i32 0] HR1.out info_rstamp rfl (four_one _ _ _ _) ?_))
      exact bodyPost_ret (results_ct_row rfl _ _ w.heap.size 130 #[.int .u8 0, .int .i32 0, .int .i32 0, .int .i32 0] (0, 0) _ rfl (setRow_heap _ _ _ _ _ _ HR1.out) Tryz.underlying130 rfl info_rstamp) rfl ⟨by rw [HO.out]; rfl, below_setRow HB.out (Nat.le_refl _) _⟩
end Go.Proofs.YtjnoapbddifcpaaGreatDoor

namespace Go.Proofs.YtjnoapbddifcpaaGreatDoor
set_option maxRecDepth 100000
set_option linter.unusedSimpArgs false
set_option linter.unusedVariables false
open Go.RowKit Go.Joins Go.Deep
/-- The kind of a sort, as a map tells it. -/
theorem kin_at (s : Int) : ((((DataW.map [] : DataW Unit).put (.int .u32 4) (.lit (.int .i64 1))).put (.int .u32 8) (.lit (.int .i64 2))).put (.int .u32 10) (.lit (.int .i64 3))).atKey (.int .u32 s) (.lit (.int .i64 0)) = .lit (.int .i64 (kinI s)) := by
  have e : (((DataW.map [] : DataW Unit).put (.int .u32 4) (.lit (.int .i64 1))).put (.int .u32 8) (.lit (.int .i64 2))).put (.int .u32 10) (.lit (.int .i64 3)) = .map [(.int .u32 4, .lit (.int .i64 1)), (.int .u32 8, .lit (.int .i64 2)), (.int .u32 10, .lit (.int .i64 3))] := rfl
  rw [e]
  unfold kinI
  by_cases h4 : s = 4
  · subst h4; rfl
  by_cases h8 : s = 8
  · subst h8; rfl
  by_cases h10 : s = 10
  · subst h10; rfl
  rw [if_neg h4, if_neg h8, if_neg h10]
  have a : ¬ (4 : Int) = s := fun k => h4 k.symm
  have b : ¬ (8 : Int) = s := fun k => h8 k.symm
  have c : ¬ (10 : Int) = s := fun k => h10 k.symm
  simp [DataW.atKey, Lit.sameKey, a, b, c]
/-- The stamp that the document goes by. -/
def stD (sw : Int) (d : ByteArray) : StT := if sw = 0 then ⟨0, 0, 0, 0, 0⟩ else stT d (sw == 2)
noncomputable def mtD (X : StT) (n : Nat) : Int × Int := if X.f % 2 = 1 then (X.a, 0) else ((dosT n).1, ((dosT n).2 : Nat))
def atD (sw : Int) (X : StT) (m : Int) : Int := if sw = 1 ∧ X.f / 2 % 2 = 1 then X.b else m
theorem vk_bd (s : ByteArray) (F : Nat) (c : Bool) (k : Nat) : -2147483648 ≤ vk s F c k ∧ vk s F c k ≤ 2147483647 := by
  unfold vk
  split
  · refine sgn_bd _ ?_
    have h := numL_lt (((nums s).drop (pk F c k)).take 4) (fun x hx => nums_lt s x (List.mem_of_mem_drop (List.mem_of_mem_take hx)))
    exact Nat.lt_of_lt_of_le h (Nat.pow_le_pow_right (n := 256) (by omega) (show (((nums s).drop (pk F c k)).take 4).length ≤ 4 by rw [List.length_take]; omega))
  · omega
theorem stT_ok (s : ByteArray) (c : Bool) : (∃ k : Nat, k < 256 ∧ (stT s c).f = (k : Nat)) ∧ (-2147483648 ≤ (stT s c).a ∧ (stT s c).a ≤ 2147483647) ∧ (-2147483648 ≤ (stT s c).b ∧ (stT s c).b ≤ 2147483647) := by
  unfold stT
  split
  · exact ⟨⟨_, getD_lt s 0, rfl⟩, vk_bd _ _ _ _, vk_bd _ _ _ _⟩
  · exact ⟨⟨0, by omega, rfl⟩, by decide, by decide⟩
theorem stD_ok (sw : Int) (s : ByteArray) : (∃ k : Nat, k < 256 ∧ (stD sw s).f = (k : Nat)) ∧ (-2147483648 ≤ (stD sw s).a ∧ (stD sw s).a ≤ 2147483647) ∧ (-2147483648 ≤ (stD sw s).b ∧ (stD sw s).b ≤ 2147483647) := by
  unfold stD
  split
  · exact ⟨⟨0, by omega, rfl⟩, by decide, by decide⟩
  · exact stT_ok _ _
theorem w64_id {x : Int} (h : -2147483648 ≤ x ∧ x ≤ 2147483647) : wrap64 x = x := by
  unfold wrap64
  omega
theorem flag_one {f : Int} (h : ∃ k : Nat, k < 256 ∧ f = (k : Nat)) : bits .and .u8 f 1 = f % 2 := by
  obtain ⟨k, hk, rfl⟩ := h
  rw [and_one k hk]
  omega
theorem flag_two {f : Int} (h : ∃ k : Nat, k < 256 ∧ f = (k : Nat)) : (bits .and .u8 f 2 = 0) ↔ ¬ f / 2 % 2 = 1 := by
  obtain ⟨k, hk, rfl⟩ := h
  have e := flag_u8 k 1 hk (by omega)
  rw [show ((2 ^ 1 : Nat) : Int) = 2 from rfl] at e
  constructor
  · intro z j
    rw [z, j] at e
    cases e
  · intro j
    rw [beq_eq_false_iff_ne.2 j] at e
    exact eq_of_beq e
theorem acV_of {X : StT} {m : Int} (hX : (∃ k : Nat, k < 256 ∧ X.f = (k : Nat)) ∧ (-2147483648 ≤ X.a ∧ X.a ≤ 2147483647) ∧ (-2147483648 ≤ X.b ∧ X.b ≤ 2147483647)) : acV X m = (m, atD 1 X m, 0) := by
  unfold acV atD
  by_cases h : X.f / 2 % 2 = 1
  · rw [if_neg (fun k => (flag_two hX.1).1 k h), if_pos ⟨rfl, h⟩, w64_id hX.2.2]
  · rw [if_pos ((flag_two hX.1).2 h), if_neg (fun k => h k.2)]
theorem cut_flags {X : StT} (hX : ∃ k : Nat, k < 256 ∧ X.f = (k : Nat)) : X.cut.f = X.f % 2 ∧ (∃ k : Nat, k < 256 ∧ X.cut.f = (k : Nat)) ∧ ¬ X.cut.f / 2 % 2 = 1 := by
  have e : X.cut.f = X.f % 2 := flag_one hX
  rw [e]
  obtain ⟨k, hk, h⟩ := hX
  refine ⟨rfl, ⟨k % 2, by omega, by rw [h]; omega⟩, by omega⟩
/-- The times, as the document tells them. -/
theorem tim_doc (l1 l2 : List Fd) (n : Nat) (sd : ByteArray) (sw : Int) (h : fndP l1 l2 21589 = (sd, sw)) :
    timV (tolV l1 l2) n = if (stD sw sd).z = 0 then (if (mtD (stD sw sd) n).2 = 0 then ((mtD (stD sw sd) n).1, atD sw (stD sw sd) (mtD (stD sw sd) n).1, 0) else (0, 0, (mtD (stD sw sd) n).2)) else (0, 0, (stD sw sd).z) := by
  unfold fndP at h
  have hX := stD_ok sw sd
  unfold tolV
  by_cases h1 : fndB l1 21589 = true
  · rw [if_pos h1] at h
    injection h with e1 e2
    subst e1 e2
    rw [if_pos h1]
    have eS : stD 1 (fndD l1 21589) = stT (fndD l1 21589) false := rfl
    rw [eS] at hX ⊢
    generalize stT (fndD l1 21589) false = X at *
    unfold timV
    by_cases hz : X.z = 0
    · rw [if_pos hz, if_pos hz, flag_one hX.1]
      unfold mtD
      by_cases hf : X.f % 2 = 1
      · rw [if_neg (by omega), if_pos hf, acV_of hX, w64_id hX.2.1]
        rfl
      · rw [if_pos (by omega), if_neg hf]
        by_cases hd : (dosT n).2 = 0
        · rw [if_pos hd, hd, acV_of hX]
          rfl
        · rw [if_neg hd, if_neg (fun k => hd (by simpa using k))]
    · rw [if_neg hz, if_neg hz]
  rw [if_neg h1] at h ⊢
  by_cases h2 : fndB l2 21589 = true
  · rw [if_pos h2] at h
    injection h with e1 e2
    subst e1 e2
    rw [if_pos h2]
    have eS : stD 2 (fndD l2 21589) = stT (fndD l2 21589) true := rfl
    rw [eS] at hX ⊢
    generalize stT (fndD l2 21589) true = X at *
    obtain ⟨c1, c2, c3⟩ := cut_flags hX.1
    have ca : ∀ m, acV X.cut m = (m, m, 0) := fun m => by
      unfold acV
      rw [if_pos ((flag_two c2).2 c3)]
    have cz : X.cut.z = X.z := rfl
    have cA : X.cut.a = X.a := rfl
    have at2 : ∀ m, atD 2 X m = m := fun m => if_neg (fun k => by cases k.1)
    unfold timV
    by_cases hz : X.z = 0
    · rw [cz, if_pos hz, if_pos hz, flag_one c2, c1]
      unfold mtD
      by_cases hf : X.f % 2 = 1
      · rw [if_neg (by omega), if_pos hf, ca, cA, w64_id hX.2.1, if_pos rfl]
        simp only [at2]
      · rw [if_pos (by omega), if_neg hf]
        by_cases hd : (dosT n).2 = 0
        · rw [if_pos hd, hd, ca, if_pos (by rfl)]
          simp only [at2]
        · rw [if_neg hd, if_neg (fun k => hd (by simpa using k))]
    · rw [cz, if_neg hz, if_neg hz]
  rw [if_neg h2] at h ⊢
  injection h with e1 e2
  subst e1 e2
  have eS : stD 0 ⟨#[]⟩ = ⟨0, 0, 0, 0, 0⟩ := rfl
  rw [eS] at hX ⊢
  have ca : ∀ m, acV ⟨0, 0, 0, 0, 0⟩ m = (m, m, 0) := fun m => by
    rw [acV_of hX]
    rfl
  have at2 : ∀ m, atD 0 ⟨0, 0, 0, 0, 0⟩ m = m := fun m => if_neg (fun k => by cases k.1)
  have em : mtD ⟨0, 0, 0, 0, 0⟩ n = (((dosT n).1, (((dosT n).2 : Nat) : Int)) : Int × Int) := if_neg (show ¬ (0 : Int) % 2 = 1 by decide)
  have ef : bits .and .u8 (⟨0, 0, 0, 0, 0⟩ : StT).f 1 = 0 := (flag_one hX.1).trans (show (0 : Int) % 2 = 0 by decide)
  rw [em]
  unfold timV
  rw [ef, if_pos (show (⟨0, 0, 0, 0, 0⟩ : StT).z = 0 from rfl), if_pos (show (⟨0, 0, 0, 0, 0⟩ : StT).z = 0 from rfl), if_pos (show (0 : Int) = 0 from rfl)]
  by_cases hd : (dosT n).2 = 0
  · rw [if_pos hd, hd, ca, if_pos (by rfl)]
    simp only [at2]
  · rw [if_neg hd, if_neg (fun k => hd (by simpa using k))]
/-- The owner, as the document tells it. -/
def owD (od nd : ByteArray) (ow nw : Int) : Int × Int × Int := if 0 < ow then oTri od else if 0 < nw then oldTri nd else (0, 0, 0)
theorem own_doc (l1 l2 : List Fd) (od nd : ByteArray) (ow nw : Int) (h : fndP l1 l2 30837 = (od, ow)) (h2 : fndP l1 l2 30805 = (nd, nw)) : ownTri (l1 ++ l2) = owD od nd ow nw := by
  unfold ownTri owD
  by_cases hb : fndB (l1 ++ l2) 30837 = true
  · obtain ⟨e1, e2⟩ := fndP_at l1 l2 30837 hb
    rw [h] at e1 e2
    have e1 : od = fndD (l1 ++ l2) 30837 := e1
    have e2 : 0 < ow := e2
    rw [if_pos hb, if_pos e2, e1]
  · have e := fndP_no l1 l2 30837 (Bool.eq_false_iff.2 hb)
    rw [h] at e
    injection e with e1 e2
    have e2' : ¬ 0 < ow := by omega
    rw [if_neg hb, if_neg e2']
    by_cases hb2 : fndB (l1 ++ l2) 30805 = true
    · obtain ⟨e3, e4⟩ := fndP_at l1 l2 30805 hb2
      rw [h2] at e3 e4
      have e3 : nd = fndD (l1 ++ l2) 30805 := e3
      have e4 : 0 < nw := e4
      rw [if_pos e4, e3]
    · have e := fndP_no l1 l2 30805 (Bool.eq_false_iff.2 hb2)
      rw [h2] at e
      injection e with e3 e4
      have e5 : fndD (l1 ++ l2) 30805 = ⟨#[]⟩ := by
        have hbf := Bool.eq_false_iff.2 hb2
        rw [fndB_app, Bool.or_eq_false_iff] at hbf
        rw [fndD_app, hbf.1, if_neg (by decide)]
        have hl := hbf.2
        unfold fndB at hl
        rw [decide_eq_false_iff_not] at hl
        unfold fndD
        rw [List.getElem?_eq_none (by omega)]
        rfl
      have e4' : ¬ 0 < nw := by omega
      rw [if_neg e4', e5]
      rfl
theorem fndP_w (l1 l2 : List Fd) (id : Nat) : (fndP l1 l2 id).2 = 0 ∨ (fndP l1 l2 id).2 = 1 ∨ (fndP l1 l2 id).2 = 2 := by
  unfold fndP
  split
  · exact .inr (.inl rfl)
  · split
    · exact .inr (.inr rfl)
    · exact .inl rfl
theorem fndP_sz (l1 l2 : List Fd) (id m : Nat) (h1 : ∀ x ∈ l1, x.d.size ≤ m) (h2 : ∀ x ∈ l2, x.d.size ≤ m) : (fndP l1 l2 id).1.size ≤ m := by
  unfold fndP
  split
  · exact fndD_sz _ _ _ h1
  · split
    · exact fndD_sz _ _ _ h2
    · exact Nat.zero_le _
theorem bar_rights (E : Ent) (h : E.outer < 4294967296) : bits .and .u32 ((E.outer : Int) / 65536) 4095 = (E.outer : Int) / 65536 % 4096 := by
  have e := u32_and_nat (E.outer / 65536) (2 ^ 12 - 1) (by omega) (by omega)
  rw [Nat.and_two_pow_sub_one_eq_mod] at e
  have a : ((E.outer / 65536 : Nat) : Int) = (E.outer : Int) / 65536 := by omega
  rw [a] at e
  rw [show ((2 ^ 12 - 1 : Nat) : Int) = 4095 from rfl] at e
  rw [e]
  omega
end Go.Proofs.YtjnoapbddifcpaaGreatDoor
