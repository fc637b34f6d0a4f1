/-
  Contracts: the document's ParseStamp; the two are one.
-/
import Derived.Test.YtmbifoockenniaaFlE
namespace Go.Proofs.Ytmbifoockenniaa
set_option maxRecDepth 100000
open Go.RowKit Go.Joins

theorem sgn_bd (n : Nat) (h : n < 4294967296) : -2147483648 ≤ sgn n ∧ sgn n ≤ 2147483647 := by
  unfold sgn
  split <;> omega
def sgnI (m : Int) : Int := if m < 2147483648 then m else m - 4294967296
theorem sgn_int (n : Nat) : sgn n = sgnI n := by
  unfold sgn sgnI
  split <;> split <;> omega
theorem signed_any (p : ByteArray) (h : p.size ≤ 4) (w : World) :
    Calls Try.prog 60 #[.string p] w fun e w' => e = .returned (.int .i32 (sgn (numL (nums p)))) ∧ w = w' := by
  have HN := Lib.hid (fun w => rnumber_any p (by omega) w)
  have hl := numL_lt _ (nums_lt p)
  rw [nums_len] at hl
  have hl2 : numL (nums p) < 4294967296 := Nat.lt_of_lt_of_le hl (Nat.pow_le_pow_right (n := 256) (by omega) h)
  rw [sgn_int]
  clear hl
  have h1 : 0 ≤ ((numL (nums p) : Nat) : Int) := by omega
  have h2 : ((numL (nums p) : Nat) : Int) ≤ 4294967295 := by omega
  clear hl2
  generalize ((numL (nums p) : Nat) : Int) = m at *
  by_cases hn : m < 2147483648
  · have HS : Hid (sgnI m = m) := if_pos hn
    go_enter Try.func60, Try.ntmps60
    go_wp2_with fail
    refine (HN.out _).mono ?_; rintro r w1 ⟨rfl, rfl⟩
    go_wp2_with fail
    go_ret
    exact ⟨ret_eq (by rw [HS.out]), rfl⟩
  · have HS : Hid (sgnI m = m - 4294967296) := if_neg hn
    go_enter Try.func60, Try.ntmps60
    go_wp2_with fail
    refine (HN.out _).mono ?_; rintro r w1 ⟨rfl, rfl⟩
    go_wp2_with fail
    go_ret
    exact ⟨ret_eq (by rw [HS.out]), rfl⟩

/-- Which times are told. -/
def tk (F : Nat) (c : Bool) (k : Nat) : Bool := decide (F / 2 ^ k % 2 = 1) && (decide (k = 0) || !c)
/-- Where a time stands. -/
def pk (F : Nat) (c : Bool) : Nat → Nat
  | 0 => 1
  | k + 1 => pk F c k + if tk F c k = true then 4 else 0
theorem pk_mono (F : Nat) (c : Bool) (j k : Nat) (h : j ≤ k) : pk F c j ≤ pk F c k := by
  induction k with
  | zero => obtain rfl : j = 0 := by omega
            exact Nat.le_refl _
  | succ k ih =>
    by_cases e : j = k + 1
    · rw [e]; exact Nat.le_refl _
    · have := ih (by omega)
      rw [pk]
      omega
theorem pk_bd (F : Nat) (c : Bool) (k : Nat) : 1 ≤ pk F c k ∧ pk F c k ≤ 1 + 4 * k := by
  induction k with
  | zero => exact ⟨Nat.le_refl _, Nat.le_refl _⟩
  | succ k ih =>
    rw [pk]
    split <;> omega
def vk (s : ByteArray) (F : Nat) (c : Bool) (k : Nat) : Int := if tk F c k = true then sgn (numL (((nums s).drop (pk F c k)).take 4)) else 0
def stOk (s : ByteArray) (F : Nat) (c : Bool) : Bool := decide (1 ≤ s.size ∧ F ≤ 7 ∧ pk F c 3 ≤ s.size ∧ (c = true ∨ pk F c 3 = s.size))
/-- What a stamp's bytes tell. -/
def stRes (s : ByteArray) (c : Bool) : Value :=
  let F := (nums s).getD 0 0
  if stOk s F c = true then .tuple #[.agg #[.int .u8 F, .int .i32 (vk s F c 0), .int .i32 (vk s F c 1), .int .i32 (vk s F c 2)], .int .i64 0] else .tuple #[.agg #[.int .u8 0, .int .i32 0, .int .i32 0, .int .i32 0], .int .i64 24]
theorem stRes_yes {s : ByteArray} {F : Nat} {c : Bool} (hF : (nums s).getD 0 0 = F) (h : 1 ≤ s.size ∧ F ≤ 7 ∧ pk F c 3 ≤ s.size ∧ (c = true ∨ pk F c 3 = s.size)) :
    stRes s c = .tuple #[.agg #[.int .u8 F, .int .i32 (vk s F c 0), .int .i32 (vk s F c 1), .int .i32 (vk s F c 2)], .int .i64 0] := by
  subst hF
  exact if_pos (decide_eq_true h)
theorem stRes_no {s : ByteArray} {F : Nat} {c : Bool} (hF : (nums s).getD 0 0 = F) (h : ¬ (1 ≤ s.size ∧ F ≤ 7 ∧ pk F c 3 ≤ s.size ∧ (c = true ∨ pk F c 3 = s.size))) :
    stRes s c = .tuple #[.agg #[.int .u8 0, .int .i32 0, .int .i32 0, .int .i32 0], .int .i64 24] := by
  subst hF
  exact if_neg (by unfold stOk; rw [decide_eq_true_iff]; exact h)

/-- The values that are laid behind k rounds. -/
def lk (s : ByteArray) (F : Nat) (c : Bool) (k j : Nat) : Int := if j < k then vk s F c j else 0
theorem lk_set (s : ByteArray) (F : Nat) (c : Bool) (k : Nat) (hk : k < 3) (T : Value) : (#[T, .int .i32 (lk s F c k 0), .int .i32 (lk s F c k 1), .int .i32 (lk s F c k 2)] : Array Value).setIfInBounds (1 + k) (.int .i32 (vk s F c k)) = #[T, .int .i32 (lk s F c (k + 1) 0), .int .i32 (lk s F c (k + 1) 1), .int .i32 (lk s F c (k + 1) 2)] := by
  have : k = 0 ∨ k = 1 ∨ k = 2 := by omega
  rcases this with rfl | rfl | rfl <;> simp [lk]
theorem lk_same (s : ByteArray) (F : Nat) (c : Bool) (k j : Nat) (h : tk F c k = false) : lk s F c (k + 1) j = lk s F c k j := by
  unfold lk
  by_cases h1 : j < k
  · rw [if_pos h1, if_pos (by omega)]
  · rw [if_neg h1]
    by_cases h2 : j = k
    · subst h2
      rw [if_pos (by omega)]
      unfold vk
      rw [h]
      rfl
    · rw [if_neg (by omega)]

theorem info_rstamp : (Try.prog.info? 71).map (·.size) = some 4 := by kernel_rfl
theorem zero_rstamp (w : World) : (zeroValue 71).run Try.prog w = .ok (.agg #[.int .u8 0, .int .i32 0, .int .i32 0, .int .i32 0]) w := by kernel_rfl
structure RX (w : World) (s : ByteArray) (F : Nat) (c : Bool) (k : Nat) (t : ByteArray) (wr : World) : Prop where
  txt : nums t = (nums s).drop (pk F c k)
  fit : pk F c k ≤ s.size
  res : wr.heap[w.heap.size]? = some (.cells #[.int .u8 0, .int .i32 0, .int .i32 0, .int .i32 0] 71 (0, 0))
  row : wr.heap[w.heap.size + 1]? = some (.cells #[.int .u8 F, .int .i32 (lk s F c k 0), .int .i32 (lk s F c k 1), .int .i32 (lk s F c k 2)] 71 (0, 0))
  bel : Below w.heap.size w wr

set_option maxHeartbeats 2000000 in
theorem rparseStamp_any (s : ByteArray) (c : Bool) (hs : s.size ≤ 1000) (w : World) :
    Calls Try.prog 30 #[.string s, .bool c] w fun e w' => e = .returned (stRes s c) ∧ Below w.heap.size w w' := by
  have HZ := zero_rstamp
  have hb := ((Below.refl w.heap.size w).alloc (Nat.le_refl _) (.cells #[.int .u8 0, .int .i32 0, .int .i32 0, .int .i32 0] 71)).alloc (by simp) (.cells #[.int .u8 0, .int .i32 0, .int .i32 0, .int .i32 0] 71)
  have hr1 : ((w.alloc (.cells #[.int .u8 0, .int .i32 0, .int .i32 0, .int .i32 0] 71)).alloc (.cells #[.int .u8 0, .int .i32 0, .int .i32 0, .int .i32 0] 71)).heap[w.heap.size]? = some (.cells #[.int .u8 0, .int .i32 0, .int .i32 0, .int .i32 0] 71 (0, 0)) := (Below.heap_alloc _ _ _ (by simp)).trans (heap_alloc_new _ _)
  have hr2 := heap_alloc2_new w (.cells #[.int .u8 0, .int .i32 0, .int .i32 0, .int .i32 0] 71) (.cells #[.int .u8 0, .int .i32 0, .int .i32 0, .int .i32 0] 71)
  have HB := Lib.hid hb
  have HR1 := Lib.hid hr1
  have HR2 := Lib.hid hr2
  clear hb hr1 hr2
  by_cases h0 : s.size = 0
  · have HO := Lib.hid (stRes_no (s := s) (c := c) rfl (by omega))
    have hb : ((s.size : Int) == 0) = true := by rw [h0]; rfl
    clear h0
    go_enter Try.func30, Try.ntmps30
    go_wp2_with (first | (refine wpList_load_row rfl 71 (.tmp 6) rfl (w.heap.size + 1) rfl 71 #[.int .u8 0, .int .i32 0, .int .i32 0, .int .i32 0] (0, 0) _ HR2.out Try.underlying71 rfl info_rstamp ?_) | (refine wpList_store_row rfl 71 (.tmp 4) (.tmp 18) rfl w.heap.size #[.int .u8 0, .int .i32 0, .int .i32 0, .int .i32 0] rfl rfl 71 #[.int .u8 0, .int .i32 0, .int .i32 0, .int .i32 0] HR1.out info_rstamp rfl (four_one _ _ _ _) ?_))
    exact bodyPost_ret (results_ct_row rfl _ _ w.heap.size 71 #[.int .u8 0, .int .i32 0, .int .i32 0, .int .i32 0] (0, 0) _ rfl (setRow_heap _ _ _ _ _ _ HR1.out) Try.underlying71 rfl info_rstamp) rfl ⟨by rw [HO.out]; rfl, below_setRow HB.out (Nat.le_refl _) _⟩
  · have hpos : 0 < s.size := by omega
    have hx := nums_at s 0 hpos
    have hF := getD_lt s 0
    generalize hFF : (nums s).getD 0 0 = F at *
    have HFF := Lib.hid hFF
    have HX := Lib.hid hx
    have hb0 : ((s.size : Int) == 0) = false := by rw [beq_eq_false_iff_ne]; omega
    by_cases h7 : F ≤ 7
    · have hx7 : (s[0]'hpos).toNat ≤ 7 := by omega
      have HT : Hid (nums (s.extract 1 s.size) = (nums s).drop 1) := by
        show _ = _
        rw [nums_ext, List.take_of_length_le (by rw [List.length_drop, nums_len]; omega)]
      clear hx h0 hFF
      go_enter Try.func30, Try.ntmps30
      go_wp2_with fail
      rw [HX.out]
      have HST : Hid (RX w s F c 0 (s.extract 1 s.size) ((w.alloc (.cells #[.int .u8 0, .int .i32 0, .int .i32 0, .int .i32 0] 71)).alloc (.cells #[.int .u8 F, .int .i32 0, .int .i32 0, .int .i32 0] 71))) :=
        ⟨HT.out, hpos, (Below.heap_alloc _ _ _ (by simp)).trans (heap_alloc_new _ _), heap_alloc2_new w _ _, ((Below.refl _ _).alloc (Nat.le_refl _) _).alloc (by simp) _⟩
      generalize (w.alloc (.cells #[.int .u8 0, .int .i32 0, .int .i32 0, .int .i32 0] 71)).alloc (.cells #[.int .u8 F, .int .i32 0, .int .i32 0, .int .i32 0] 71) = w0 at *
      clear HB HR1 HR2 HT hb0 hx7
      generalize s.extract 1 s.size = st at *
      go_loopw [0, 7, 8] (fun t f i wr => ∃ (k : Nat) (t' : ByteArray), k ≤ 3 ∧ t = .string t' ∧ f = .int .u8 ((2 ^ k : Nat) : Int) ∧ i = .int .i64 (k : Nat) ∧ RX w s F c k t' wr) (fun _ _ i _ => 3 - (intOf i).toNat)
      case atStart => exact ⟨0, st, by omega, rfl, rfl, rfl, HST.out⟩
      case round =>
        clear HST
        obtain ⟨k, t, hk, rfl, rfl, rfl, hrx⟩ := hrel
        have hts : t.size = s.size - pk F c k := by rw [← nums_len, hrx.txt, List.length_drop, nums_len]
        have hfit := hrx.fit
        have hpk := pk_bd F c k
        have hpm := pk_mono F c k 3 hk
        have HRX := Lib.hid hrx
        clear hrx
        by_cases hk3 : k < 3
        · have hfl : 1 ≤ 2 ^ k ∧ 2 ^ k ≤ 4 := by
            have : k = 0 ∨ k = 1 ∨ k = 2 := by omega
            rcases this with rfl | rfl | rfl <;> decide
          have hbit : (((F : Nat) : Int) / ((2 ^ k : Nat) : Int) % 2 == 1) = decide (F / 2 ^ k % 2 = 1) := by
            rw [Bool.eq_iff_iff, beq_iff_eq, decide_eq_true_iff]
            omega
          have hz : (((k : Nat) : Int) == 0) = decide (k = 0) := by
            rw [Bool.eq_iff_iff, beq_iff_eq, decide_eq_true_iff]
            omega
          have HTK : Hid (tk F c k = (decide (F / 2 ^ k % 2 = 1) && (decide (k = 0) || !c))) := rfl
          have HPK : Hid (pk F c (k + 1) = pk F c k + if tk F c k = true then 4 else 0) := rfl
          have HPW : Hid (2 ^ (k + 1) = 2 ^ k * 2) := Nat.pow_succ 2 k
          have hc0 : wr.cell? ⟨w.heap.size + 1, 0, none⟩ = some (.int .u8 F) := by rw [cell_of_row wr _ 0 _ _ _ HRX.out.row]; rfl
          generalize decide (F / 2 ^ k % 2 = 1) = b1 at *
          generalize decide (k = 0) = b2 at *
          generalize 2 ^ k = fl at *
          obtain ⟨hfl1, hfl2⟩ := hfl
          clear hfit hpk hpm
          have hcase : (tk F c k = false ∧ (b1 = false ∨ (b1 = true ∧ b2 = false ∧ c = true))) ∨ (tk F c k = true ∧ b1 = true ∧ (b2 = true ∨ (b2 = false ∧ c = false))) := by
            rw [HTK.out]
            cases b1 <;> cases b2 <;> cases c <;> simp
          have HTS := Lib.hid hts
          clear hts
          rcases hcase with ⟨ht, hbb⟩ | ⟨ht, rfl, hbb⟩
          · have HN : Hid (RX w s F c (k + 1) t wr) := by
              have h := HRX.out
              have e : pk F c (k + 1) = pk F c k := by rw [HPK.out, ht]; rfl
              exact ⟨by rw [e]; exact h.txt, by rw [e]; exact h.fit, h.res, by rw [lk_same s F c k 0 ht, lk_same s F c k 1 ht, lk_same s F c k 2 ht]; exact h.row, h.bel⟩
            clear ht HTK
            rcases hbb with rfl | ⟨rfl, rfl, rfl⟩
            all_goals
              go_wp2_with fail
              go_roundw
              case rel => exact ⟨k + 1, t, by omega, rfl, by rw [HPW.out]; go_num, by go_num, HN.out⟩
              case measure => simp [intOf]; omega
          · have ht4 : pk F c (k + 1) = pk F c k + 4 := by rw [HPK.out, ht]; rfl
            by_cases h4 : pk F c k + 4 ≤ s.size
            · have hsz : (t.extract 0 4).size ≤ 4 := by rw [ByteArray.size_extract]; omega
              have HSG := Lib.hid (fun w => signed_any _ hsz w)
              have hv : sgn (numL (nums (t.extract 0 4))) = vk s F c k := by
                unfold vk
                rw [if_pos ht, nums_ext, HRX.out.txt]
                rfl
              rw [hv] at HSG
              have hnt : nums (t.extract 4 t.size) = (nums s).drop (pk F c (k + 1)) := by
                rw [nums_ext, HRX.out.txt, List.drop_drop, List.take_of_length_le (by rw [List.length_drop, nums_len]; have := HTS.out; omega), ht4]
              have HNT := Lib.hid hnt
              have HFT : Hid (pk F c (k + 1) ≤ s.size) := by show _ ≤ _; omega
              have hle : 4 ≤ t.size := by have := HTS.out; omega
              have c1 : wr.cell? ⟨w.heap.size + 1, 1 + k, none⟩ = some (.int .i32 0) := by
                rw [cell_of_row wr _ (1 + k) _ _ _ HRX.out.row]
                have : k = 0 ∨ k = 1 ∨ k = 2 := by omega
                rcases this with rfl | rfl | rfl <;> simp [lk]
              have f1 := frozen_of_row wr (w.heap.size + 1) (1 + k) _ _ HRX.out.row
              clear ht HTK hv hnt h4 ht4
              rcases hbb with rfl | ⟨rfl, rfl⟩
              all_goals
                go_wp2_with fail
                refine (HSG.out _).mono ?_; rintro r y1 ⟨rfl, rfl⟩
                go_wp2_with fail
                go_roundw
                case rel =>
                  refine ⟨k + 1, _, by omega, by rfl, by rw [HPW.out]; go_num, by go_num, HNT.out, HFT.out, ?_, ?_, HRX.out.bel.setCell (Nat.le_succ _) _⟩
                  · rw [Below.heap_setCell _ _ _ _ (Nat.ne_of_lt (Nat.lt_succ_self _))]; exact HRX.out.res
                  · rw [← lk_set s F _ k hk3]
                    exact heap_setCell_same wr _ (1 + k) _ _ _ HRX.out.row
                case measure => simp [intOf]; omega
            · have HO := Lib.hid (stRes_no (s := s) (c := c) HFF.out (by
                have := pk_mono F c (k + 1) 3 (by omega)
                omega))
              have hlt : t.size < 4 := by have := HTS.out; omega
              clear ht HTK h4 ht4
              rcases hbb with rfl | ⟨rfl, rfl⟩
              all_goals
                go_wp2_with (refine wpList_store_row rfl 71 (.tmp 4) (.tmp 49) rfl w.heap.size #[.int .u8 0, .int .i32 0, .int .i32 0, .int .i32 0] rfl rfl 71 #[.int .u8 0, .int .i32 0, .int .i32 0, .int .i32 0] HRX.out.res info_rstamp rfl (four_one _ _ _ _) ?_)
                exact bodyPost_ret (results_ct_row rfl _ _ w.heap.size 71 #[.int .u8 0, .int .i32 0, .int .i32 0, .int .i32 0] (0, 0) _ rfl (setRow_heap _ _ _ _ _ _ HRX.out.res) Try.underlying71 rfl info_rstamp) rfl ⟨by rw [HO.out]; rfl, below_setRow HRX.out.bel (Nat.le_refl _) _⟩
        · obtain rfl : k = 3 := by omega
          by_cases hend : c = true ∨ pk F c 3 = s.size
          · have HO := Lib.hid (stRes_yes (s := s) (c := c) HFF.out ⟨hpos, h7, hfit, hend⟩)
            have e0 : lk s F c 3 0 = vk s F c 0 := rfl
            have e1 : lk s F c 3 1 = vk s F c 1 := rfl
            have e2 : lk s F c 3 2 = vk s F c 2 := rfl
            have hrow := HRX.out.row
            rw [e0, e1, e2] at hrow
            have HROW := Lib.hid hrow
            clear hrow e0 e1 e2
            generalize vk s F c 0 = v0 at *
            generalize vk s F c 1 = v1 at *
            generalize vk s F c 2 = v2 at *
            have hcase : c = true ∨ (c = false ∧ t.size = 0) := by
              cases c with
              | true => exact .inl rfl
              | false => exact .inr ⟨rfl, by have : pk F false 3 = s.size := by simpa using hend
                                             omega⟩
            clear hend hts hfit hpk hpm
            rcases hcase with rfl | ⟨rfl, hz⟩
            · go_wp2_with (first | (refine wpList_load_row rfl 71 (.tmp 6) rfl (w.heap.size + 1) rfl 71 #[.int .u8 F, .int .i32 v0, .int .i32 v1, .int .i32 v2] (0, 0) _ HROW.out Try.underlying71 rfl info_rstamp ?_) | (refine wpList_store_row rfl 71 (.tmp 4) (.tmp 66) rfl w.heap.size #[.int .u8 F, .int .i32 v0, .int .i32 v1, .int .i32 v2] rfl rfl 71 #[.int .u8 0, .int .i32 0, .int .i32 0, .int .i32 0] HRX.out.res info_rstamp rfl (four_one _ _ _ _) ?_))
              all_goals exact bodyPost_ret (results_ct_row rfl _ _ w.heap.size 71 #[.int .u8 F, .int .i32 v0, .int .i32 v1, .int .i32 v2] (0, 0) _ rfl (setRow_heap _ _ _ _ _ _ HRX.out.res) Try.underlying71 rfl info_rstamp) rfl ⟨by rw [HO.out]; rfl, below_setRow HRX.out.bel (Nat.le_refl _) _⟩
            · have hz2 : decide ((0 : Int) < (t.size : Int)) = false := decide_eq_false (by omega)
              have hz3 : ¬ 0 < t.size := by omega
              clear hz
              go_wp2_with (first | (refine wpList_load_row rfl 71 (.tmp 6) rfl (w.heap.size + 1) rfl 71 #[.int .u8 F, .int .i32 v0, .int .i32 v1, .int .i32 v2] (0, 0) _ HROW.out Try.underlying71 rfl info_rstamp ?_) | (refine wpList_store_row rfl 71 (.tmp 4) (.tmp 66) rfl w.heap.size #[.int .u8 F, .int .i32 v0, .int .i32 v1, .int .i32 v2] rfl rfl 71 #[.int .u8 0, .int .i32 0, .int .i32 0, .int .i32 0] HRX.out.res info_rstamp rfl (four_one _ _ _ _) ?_))
              exact bodyPost_ret (results_ct_row rfl _ _ w.heap.size 71 #[.int .u8 F, .int .i32 v0, .int .i32 v1, .int .i32 v2] (0, 0) _ rfl (setRow_heap _ _ _ _ _ _ HRX.out.res) Try.underlying71 rfl info_rstamp) rfl ⟨by rw [HO.out]; rfl, below_setRow HRX.out.bel (Nat.le_refl _) _⟩
          · have HO := Lib.hid (stRes_no (s := s) (c := c) HFF.out (fun h => hend h.2.2.2))
            have hcf : c = false := by cases c with
              | true => exact (hend (.inl rfl)).elim
              | false => rfl
            have hpp : ¬ pk F c 3 = s.size := fun h => hend (.inr h)
            have hgt : 0 < t.size := by omega
            subst hcf
            clear hend hts hfit hpk hpm hpp
            go_wp2_with (refine wpList_store_row rfl 71 (.tmp 4) (.tmp 65) rfl w.heap.size #[.int .u8 0, .int .i32 0, .int .i32 0, .int .i32 0] rfl rfl 71 #[.int .u8 0, .int .i32 0, .int .i32 0, .int .i32 0] HRX.out.res info_rstamp rfl (four_one _ _ _ _) ?_)
            exact bodyPost_ret (results_ct_row rfl _ _ w.heap.size 71 #[.int .u8 0, .int .i32 0, .int .i32 0, .int .i32 0] (0, 0) _ rfl (setRow_heap _ _ _ _ _ _ HRX.out.res) Try.underlying71 rfl info_rstamp) rfl ⟨by rw [HO.out]; rfl, below_setRow HRX.out.bel (Nat.le_refl _) _⟩
    · have HO := Lib.hid (stRes_no (s := s) (c := c) HFF.out (by omega))
      have hx7 : 7 < (s[0]'hpos).toNat := by omega
      clear hx h0 h7 hFF
      go_enter Try.func30, Try.ntmps30
      go_wp2_with (first | (refine wpList_load_row rfl 71 (.tmp 6) rfl (w.heap.size + 1) rfl 71 #[.int .u8 0, .int .i32 0, .int .i32 0, .int .i32 0] (0, 0) _ HR2.out Try.underlying71 rfl info_rstamp ?_) | (refine wpList_store_row rfl 71 (.tmp 4) (.tmp 18) rfl w.heap.size #[.int .u8 0, .int .i32 0, .int .i32 0, .int .i32 0] rfl rfl 71 #[.int .u8 0, .int .i32 0, .int .i32 0, .int .i32 0] HR1.out info_rstamp rfl (four_one _ _ _ _) ?_))
      exact bodyPost_ret (results_ct_row rfl _ _ w.heap.size 71 #[.int .u8 0, .int .i32 0, .int .i32 0, .int .i32 0] (0, 0) _ rfl (setRow_heap _ _ _ _ _ _ HR1.out) Try.underlying71 rfl info_rstamp) rfl ⟨by rw [HO.out]; rfl, below_setRow HB.out (Nat.le_refl _) _⟩
end Go.Proofs.Ytmbifoockenniaa
