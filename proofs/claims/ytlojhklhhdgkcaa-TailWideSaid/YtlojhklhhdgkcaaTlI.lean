/-
  Contracts of package tail: located.
-/
import Derived.Test.YtlojhklhhdgkcaaTlH
namespace Go.Proofs.Ytlojhklhhdgkcaa
set_option maxRecDepth 100000
set_option linter.unusedSimpArgs false
set_option linter.unusedVariables false
open Go.RowKit Go.Joins Go.Deep Go.Op
def fit20 (u : ByteArray) : Prop := 20 ≤ u.size
/-- What the locator says: is it one, and the record where it says? -/
def lcM (s : ByteArray) : Bool := decide (nAt s (s.size - 20) 4 = 117853008) && (decide (nAt s (s.size - 20 + 4) 4 = 0) && (decide (nAt s (s.size - 20 + 16) 4 = 1) && decide (nAt s (s.size - 20 + 8) 8 ≤ s.size - 20)))
def lcP (s : ByteArray) : Nat := nAt s (s.size - 20 + 8) 8
def lcT (s : ByteArray) : ByteArray := s.extract (lcP s) (s.size - 20)
def lcB (s : ByteArray) : Bool := decide (20 ≤ s.size) && (lcM s && wdB (lcT s))
def LcOk (s : ByteArray) (p v1 v2 v3 v4 v5 v6 : Nat) (b : Bool) : Prop := b = lcB s ∧ (b = true → p = lcP s ∧ v1 = nAt (lcT s) 16 4 ∧ v2 = nAt (lcT s) 20 4 ∧ v3 = nAt (lcT s) 24 8 ∧ v4 = nAt (lcT s) 32 8 ∧ v5 = nAt (lcT s) 40 8 ∧ v6 = nAt (lcT s) 48 8)
theorem results_tct_row {P : Program} {fn : Func} {p u v : Tmp} {ty : TypeId} (h : fn.results = #[.tmp u, .cell p ty, .tmp v]) (tmps : Array Value) (w : World) (g : Nat) (t : TypeId) (cs : Array Value) (fr : Nat × Nat) (d : TypeDesc)
    (hp : tmps.getD p undef = .pointer (some ⟨g, 0, none⟩)) (hg : w.heap[g]? = some (.cells cs t fr))
    (hu : P.underlying ty = some d) (hd : (match d with | .struct _ | .array _ _ => true | _ => false) = true) (hi : (P.info? ty).map (·.size) = some cs.size) :
    (results fn tmps).run P w = .ok (.tuple #[tmps.getD u undef, .agg cs, tmps.getD v undef]) w := by
  have hp' : tmps[p]?.getD undef = .pointer (some ⟨g, 0, none⟩) := by simpa using hp
  simp [results, h, hp', asAddr, run_loadVar_row w g t ty cs fr d hg hu hd hi]
theorem lc_short {s : ByteArray} (h : ¬ 20 ≤ s.size) : LcOk s 0 0 0 0 0 0 0 false := ⟨by unfold lcB; rw [decide_eq_false h]; rfl, fun h => by cases h⟩
theorem lc_mark {s : ByteArray} (h : lcM s = false) : LcOk s 0 0 0 0 0 0 0 false := ⟨by unfold lcB; rw [h, Bool.false_and, Bool.and_false], fun h => by cases h⟩
set_option maxHeartbeats 8000000 in
theorem located_any (s : ByteArray) (hs : s.size ≤ 1000000) (w : World) :
    Calls Try.prog 15 #[.string s] w fun e w' => ∃ p v1 v2 v3 v4 v5 v6 : Nat, ∃ b : Bool, e = .returned (.tuple #[.int .i64 (p : Nat), .agg #[.int .u32 (v1 : Nat), .int .u32 (v2 : Nat), .int .u64 (v3 : Nat), .int .u64 (v4 : Nat), .int .u64 (v5 : Nat), .int .u64 (v6 : Nat)], .bool b]) ∧ LcOk s p v1 v2 v3 v4 v5 v6 b ∧ Below w.heap.size w w' := by
  by_cases h20 : 20 ≤ s.size
  · have hsub : ¬ (s.size : Int) - 20 < 0 := by omega
    have hsd : decide ((s.size : Int) - 20 < 0) = false := decide_eq_false hsub
    obtain ⟨L, hL⟩ : ∃ L, L = s.size - 20 := ⟨_, rfl⟩
    have hLi : ((s.size : Int) - 20) = (L : Int) := by omega
    have hus : (s.extract L s.size).size = 20 := by rw [ByteArray.size_extract]; omega
    obtain ⟨u, hu⟩ : ∃ u, u = s.extract L s.size := ⟨_, rfl⟩
    rw [← hu] at hus
    have HF : Hid (fit20 u) := by show 20 ≤ u.size; omega
    have HL : Hid (u.size ≤ maxLen) := by show _ ≤ _; unfold maxLen; omega
    have HU := Lib.hid hu
    have hLs : L ≤ s.size := by omega
    have hLw : IntKind.u64.wrap (L : Int) = L := by rw [IntKind.wrap_u64]; omega
    have HLL := Lib.hid hL
    clear hL hu
    have hr0 := heap_alloc_new w (.cells #[.int .u32 0, .int .u32 0, .int .u64 0, .int .u64 0, .int .u64 0, .int .u64 0] 41)
    have HW0 : Hid (Below w.heap.size w (w.alloc (.cells #[.int .u32 0, .int .u32 0, .int .u64 0, .int .u64 0, .int .u64 0, .int .u64 0] 41))) := (Below.refl _ _).alloc (Nat.le_refl _) _
    have HSZ : Hid ((w.alloc (.cells #[.int .u32 0, .int .u32 0, .int .u64 0, .int .u64 0, .int .u64 0, .int .u64 0] 41)).heap.size = w.heap.size + 1) := alloc_size _ _
    have HR0 := Lib.hid hr0
    clear hr0
    go_enter Try.func15, Try.ntmps15
    go_wp2_with fail
    rw [← HU.out]
    generalize w.alloc (.cells #[.int .u32 0, .int .u32 0, .int .u64 0, .int .u64 0, .int .u64 0, .int .u64 0] 41) = w0 at *
    refine (over_ci u _).mono ?_; rintro r y0 ⟨rfl, C0⟩
    have hB0 := below_then' HW0.out HSZ.out C0.bel
    have hR0 : y0.heap[w.heap.size]? = some (.cells #[.int .u32 0, .int .u32 0, .int .u64 0, .int .u64 0, .int .u64 0, .int .u64 0] 41 (0, 0)) := (C0.bel.block _ (by rw [HSZ.out]; omega)).trans HR0.out
    have W0 : Wk w0 u (fit20 u) 0 True y0 := ⟨0, 0, C0, Nat.zero_le _, .inl ⟨rfl, rfl, trivial⟩⟩
    have HWK := Lib.hid W0
    have HB := Lib.hid hB0
    have HR := Lib.hid hR0
    have NLT : Hid (w0.heap.size < y0.heap.size) := W0.lt
    have N1 : Hid (w.heap.size ≠ w0.heap.size) := by show _ ≠ _; rw [HSZ.out]; omega
    have N5 : Hid (w.heap.size ≤ w0.heap.size) := by show _ ≤ _; rw [HSZ.out]; omega
    clear C0 hB0 hR0 HR0 HW0 W0
    go_wp2_with fail
    refine (take_wk 4 (by omega) HL.out HWK.out (fun f q => by unfold fit20 at f; omega)).mono ?_; rintro r ya ⟨mk, lmk, rfl, W, G⟩
    replace HWK := Lib.hid W
    replace HR := Lib.hid (stays G N1.out HR.out)
    replace HB := Lib.hid (HB.out.grown G HB.out.size (fun k hk => by injection hk with hk; subst hk; exact N5.out))
    clear W G
    go_wp2_with fail
    refine (four_wk HL.out HWK.out (fun f q => by unfold fit20 at f; omega)).mono ?_; rintro r yb ⟨dk, ldk, rfl, W, G⟩
    replace HWK := Lib.hid W
    replace HR := Lib.hid (stays G N1.out HR.out)
    replace HB := Lib.hid (HB.out.grown G HB.out.size (fun k hk => by injection hk with hk; subst hk; exact N5.out))
    clear W G
    go_wp2_with fail
    refine (eight_wk HL.out HWK.out (fun f q => by unfold fit20 at f; omega)).mono ?_; rintro r yc ⟨at0, lat0, rfl, W, G⟩
    replace HWK := Lib.hid W
    replace HR := Lib.hid (stays G N1.out HR.out)
    replace HB := Lib.hid (HB.out.grown G HB.out.size (fun k hk => by injection hk with hk; subst hk; exact N5.out))
    clear W G
    go_wp2_with fail
    refine (four_wk HL.out HWK.out (fun f q => by unfold fit20 at f; omega)).mono ?_; rintro r yd ⟨ds, lds, rfl, W, G⟩
    replace HR := Lib.hid (stays G N1.out HR.out)
    replace HB := Lib.hid (HB.out.grown G HB.out.size (fun k hk => by injection hk with hk; subst hk; exact N5.out))
    obtain ⟨a, e0, hc, ha, hcase⟩ := W
    rcases hcase with ⟨rfl, rfl, hq⟩ | ⟨_, hn⟩
    case inr => exact absurd HF.out hn
    obtain ⟨⟨⟨⟨_, _, em⟩, _, e1⟩, _, e2⟩, _, e3⟩ := hq
    clear G HWK hc ha
    have hbm : (mk.toList == (⟨#[80, 75, 6, 7]⟩ : ByteArray).toList) = decide (nAt s L 4 = 117853008) := by
      rw [em]
      exact (mark_beq (s := u) (M := ⟨#[80, 75, 6, 7]⟩) (k := 117853008) (by omega) rfl (by omega)).trans (by rw [HU.out, nAt_from, Nat.add_zero])
    have f1 : dk = nAt s (L + 4) 4 := by rw [e1, HU.out, nAt_from]
    have f2 : at0 = nAt s (L + 8) 8 := by rw [e2, HU.out, nAt_from]
    have f3 : ds = nAt s (L + 16) 4 := by rw [e3, HU.out, nAt_from]
    have hlit : (⟨#[80, 75, 6, 7]⟩ : ByteArray).toList = [80, 75, 6, 7] := Lib.toList_data _
    rw [hlit] at hbm
    have HM : Hid (lcM s = (decide (nAt s L 4 = 117853008) && (decide (dk = 0) && (decide (ds = 1) && decide (at0 ≤ L))))) := by
      show _ = _
      unfold lcM
      rw [← HLL.out, f1, f2, f3]
    have HP : Hid (lcP s = at0) := by show _ = _; unfold lcP; rw [← HLL.out, f2]
    have HT : Hid (lcT s = s.extract at0 L) := by show _ = _; unfold lcT; rw [HP.out, ← HLL.out]
    clear em e1 e2 e3 f1 f2 f3 hlit
    obtain ⟨bm, hbm2⟩ : ∃ x, x = decide (nAt s L 4 = 117853008) := ⟨_, rfl⟩
    rw [← hbm2] at hbm
    have HM2 : Hid (lcM s = (bm && (decide (dk = 0) && (decide (ds = 1) && decide (at0 ≤ L))))) := by show _ = _; rw [HM.out, hbm2]
    clear HM hbm2
    cases bm
    · have hM : lcM s = false := by rw [HM2.out]; rfl
      have hmk : ¬ mk.toList = [80, 75, 6, 7] := fun h => by rw [h] at hbm; exact absurd hbm (by decide)
      clear hbm
      go_wp2_with (refine wpList_store_row rfl 41 (.tmp 3) (.tmp 47) rfl w.heap.size #[.int .u32 0, .int .u32 0, .int .u64 0, .int .u64 0, .int .u64 0, .int .u64 0] rfl rfl 41 #[.int .u32 0, .int .u32 0, .int .u64 0, .int .u64 0, .int .u64 0, .int .u64 0] HR.out info_rec rfl (by simp [Value.oneCell']) ?_)
      exact bodyPost_ret (results_tct_row rfl _ _ w.heap.size 41 #[.int .u32 0, .int .u32 0, .int .u64 0, .int .u64 0, .int .u64 0, .int .u64 0] (0, 0) _ rfl (heap_setRow_same _ _ _ _ _ HR.out) Try.underlying41 rfl info_rec) rfl ⟨0, 0, 0, 0, 0, 0, 0, false, rfl, lc_mark hM, below_setRow HB.out (Nat.le_refl _) _⟩
    have hmk : mk.toList = [80, 75, 6, 7] := beq_iff_eq.1 hbm
    clear hbm
    by_cases hd0 : dk = 0
    case neg =>
      have t1 : (((dk : Nat) : Int) == 0) = false := by rw [beq_eq_false_iff_ne]; omega
      have hM : lcM s = false := by rw [HM2.out, decide_eq_false hd0]; rfl
      go_wp2_with (refine wpList_store_row rfl 41 (.tmp 3) (.tmp 47) rfl w.heap.size #[.int .u32 0, .int .u32 0, .int .u64 0, .int .u64 0, .int .u64 0, .int .u64 0] rfl rfl 41 #[.int .u32 0, .int .u32 0, .int .u64 0, .int .u64 0, .int .u64 0, .int .u64 0] HR.out info_rec rfl (by simp [Value.oneCell']) ?_)
      exact bodyPost_ret (results_tct_row rfl _ _ w.heap.size 41 #[.int .u32 0, .int .u32 0, .int .u64 0, .int .u64 0, .int .u64 0, .int .u64 0] (0, 0) _ rfl (heap_setRow_same _ _ _ _ _ HR.out) Try.underlying41 rfl info_rec) rfl ⟨0, 0, 0, 0, 0, 0, 0, false, rfl, lc_mark hM, below_setRow HB.out (Nat.le_refl _) _⟩
    by_cases hs1 : ds = 1
    case neg =>
      have t2 : (((ds : Nat) : Int) == 1) = false := by rw [beq_eq_false_iff_ne]; omega
      have t1 : (((dk : Nat) : Int) == 0) = true := by rw [beq_iff_eq]; omega
      have hM : lcM s = false := by rw [HM2.out, decide_eq_false hs1, Bool.false_and, Bool.and_false, Bool.and_false]
      go_wp2_with (refine wpList_store_row rfl 41 (.tmp 3) (.tmp 47) rfl w.heap.size #[.int .u32 0, .int .u32 0, .int .u64 0, .int .u64 0, .int .u64 0, .int .u64 0] rfl rfl 41 #[.int .u32 0, .int .u32 0, .int .u64 0, .int .u64 0, .int .u64 0, .int .u64 0] HR.out info_rec rfl (by simp [Value.oneCell']) ?_)
      exact bodyPost_ret (results_tct_row rfl _ _ w.heap.size 41 #[.int .u32 0, .int .u32 0, .int .u64 0, .int .u64 0, .int .u64 0, .int .u64 0] (0, 0) _ rfl (heap_setRow_same _ _ _ _ _ HR.out) Try.underlying41 rfl info_rec) rfl ⟨0, 0, 0, 0, 0, 0, 0, false, rfl, lc_mark hM, below_setRow HB.out (Nat.le_refl _) _⟩
    have t2 : (((ds : Nat) : Int) == 1) = true := by rw [beq_iff_eq]; omega
    have t1 : (((dk : Nat) : Int) == 0) = true := by rw [beq_iff_eq]; omega
    by_cases hal : at0 ≤ L
    · have hM : lcM s = true := by rw [HM2.out, decide_eq_true hal, decide_eq_true hd0, decide_eq_true hs1]; rfl
      have hgt : decide ((L : Int) < (at0 : Int)) = false := decide_eq_false (by omega)
      have hgn : ¬ L < at0 := by omega
      have HWD := Lib.hid (fun w => readWide_any (s.extract at0 L) (by rw [ByteArray.size_extract]; omega) w)
      have hai : IntKind.i64.wrap (at0 : Int) = at0 := by rw [IntKind.wrap_i64]; omega
      go_wp2_with fail
      refine (HWD.out _).mono ?_; rintro r ye ⟨v1, v2, v3, v4, v5, v6, b, rfl, hwd, hb⟩
      have HH : Hid ((ye.alloc (.cells #[.int .u32 (v1 : Nat), .int .u32 (v2 : Nat), .int .u64 (v3 : Nat), .int .u64 (v4 : Nat), .int .u64 (v5 : Nat), .int .u64 (v6 : Nat)] 41)).heap[ye.heap.size]? = some (.cells #[.int .u32 (v1 : Nat), .int .u32 (v2 : Nat), .int .u64 (v3 : Nat), .int .u64 (v4 : Nat), .int .u64 (v5 : Nat), .int .u64 (v6 : Nat)] 41 (0, 0))) := heap_alloc_new _ _
      have HR1 : Hid ((ye.alloc (.cells #[.int .u32 (v1 : Nat), .int .u32 (v2 : Nat), .int .u64 (v3 : Nat), .int .u64 (v4 : Nat), .int .u64 (v5 : Nat), .int .u64 (v6 : Nat)] 41)).heap[w.heap.size]? = some (.cells #[.int .u32 0, .int .u32 0, .int .u64 0, .int .u64 0, .int .u64 0, .int .u64 0] 41 (0, 0))) := (Below.heap_alloc ye _ _ (Nat.lt_of_lt_of_le (lt_of_some HR.out) hb.size)).trans ((hb.block _ (lt_of_some HR.out)).trans HR.out)
      have HB1 := Lib.hid ((HB.out.trans (hb.mono HB.out.size)).alloc (Nat.le_trans HB.out.size hb.size) (.cells #[.int .u32 (v1 : Nat), .int .u32 (v2 : Nat), .int .u64 (v3 : Nat), .int .u64 (v4 : Nat), .int .u64 (v5 : Nat), .int .u64 (v6 : Nat)] 41))
      have NG : Hid (ye.heap.size ≠ w.heap.size) := by
        show _ ≠ _
        have := Nat.lt_of_lt_of_le (lt_of_some HR.out) hb.size
        omega
      have hlc : LcOk s at0 v1 v2 v3 v4 v5 v6 b := by
        refine ⟨?_, fun h => ⟨HP.out.symm, ?_⟩⟩
        · unfold lcB
          rw [decide_eq_true h20, Bool.true_and, hM, Bool.true_and, HT.out]
          exact hwd.1
        · rw [HT.out]
          exact hwd.2 h
      have HLC := Lib.hid hlc
      clear hlc hwd hb HR HB HWD
      go_upto_region 9 with fail
      generalize ye.alloc (.cells #[.int .u32 (v1 : Nat), .int .u32 (v2 : Nat), .int .u64 (v3 : Nat), .int .u64 (v4 : Nat), .int .u64 (v5 : Nat), .int .u64 (v6 : Nat)] 41) = x3 at *
      generalize ye.heap.size = gh at *
      have hS0 : (fun ww => ww.heap[gh]? = some (.cells #[.int .u32 (v1 : Nat), .int .u32 (v2 : Nat), .int .u64 (v3 : Nat), .int .u64 (v4 : Nat), .int .u64 (v5 : Nat), .int .u64 (v6 : Nat)] 41 (0, 0)) ∧ Below w.heap.size w ww) x3.drew := ⟨HH.out, HB1.out.drew⟩
      have HR0 : Hid (x3.drew.heap[w.heap.size]? = some (.cells #[.int .u32 0, .int .u32 0, .int .u64 0, .int .u64 0, .int .u64 0, .int .u64 0] 41 (0, 0))) := HR1
      refine wp_region_held_drew (S := fun ww => ww.heap[gh]? = some (.cells #[.int .u32 (v1 : Nat), .int .u32 (v2 : Nat), .int .u64 (v3 : Nat), .int .u64 (v4 : Nat), .int .u64 (v5 : Nat), .int .u64 (v6 : Nat)] 41 (0, 0)) ∧ Below w.heap.size w ww) (by kernel_rfl) hS0 (fun hSA => ?_)
      clear hS0 HH HB1 HR1
      generalize x3.drew = x4 at *
      refine wpAnyH_take (i := 0) (v := .int .u64 (at0 : Nat)) rfl (by kernel_rfl) (by kernel_rfl) (by kernel_rfl) (fun _ _ _ h => h) (Or.inl ⟨by kernel_rfl, ?_⟩) (by assumption) ?_
      · intro ww hSw
        clear hSw
        go_simp
        all_goals (try omega)
        all_goals (try assumption)
        all_goals (try rfl)
      try simp only [Act.put, List.setIfInBounds_toArray, List.set_cons_zero, List.set_cons_succ, List.getElem_toArray, List.getElem_cons_succ, List.getElem_cons_zero]
      refine wpAnyH_take (i := 1) (v := .int .i64 (at0 : Nat)) rfl (by kernel_rfl) (by kernel_rfl) (by kernel_rfl) (fun _ _ _ h => h) (Or.inl ⟨by kernel_rfl, ?_⟩) (by assumption) ?_
      · intro ww hSw
        clear hSw
        go_simp
        all_goals (try omega)
        all_goals (try assumption)
        all_goals (try rfl)
      try simp only [Act.put, List.setIfInBounds_toArray, List.set_cons_zero, List.set_cons_succ, List.getElem_toArray, List.getElem_cons_succ, List.getElem_cons_zero]
      refine wpAnyH_take (i := 2) (v := .agg #[.int .u32 (v1 : Nat), .int .u32 (v2 : Nat), .int .u64 (v3 : Nat), .int .u64 (v4 : Nat), .int .u64 (v5 : Nat), .int .u64 (v6 : Nat)]) rfl (by kernel_rfl) (by kernel_rfl) (by kernel_rfl) (fun _ _ _ h => h) (Or.inl ⟨by kernel_rfl, ?_⟩) (by assumption) ?_
      · intro ww hSw
        have hc0 : ww.cell? ⟨gh, 0, none⟩ = some (.int .u32 (v1 : Nat)) := by rw [Lib.cell_of_heap hSw.1]; rfl
        have hc1 : ww.cell? ⟨gh, 1, none⟩ = some (.int .u32 (v2 : Nat)) := by rw [Lib.cell_of_heap hSw.1]; rfl
        have hc2 : ww.cell? ⟨gh, 2, none⟩ = some (.int .u64 (v3 : Nat)) := by rw [Lib.cell_of_heap hSw.1]; rfl
        have hc3 : ww.cell? ⟨gh, 3, none⟩ = some (.int .u64 (v4 : Nat)) := by rw [Lib.cell_of_heap hSw.1]; rfl
        have hc4 : ww.cell? ⟨gh, 4, none⟩ = some (.int .u64 (v5 : Nat)) := by rw [Lib.cell_of_heap hSw.1]; rfl
        have hc5 : ww.cell? ⟨gh, 5, none⟩ = some (.int .u64 (v6 : Nat)) := by rw [Lib.cell_of_heap hSw.1]; rfl
        clear hSw
        go_simp
        all_goals (try omega)
        all_goals (try assumption)
        all_goals (try rfl)
      try simp only [Act.put, List.setIfInBounds_toArray, List.set_cons_zero, List.set_cons_succ, List.getElem_toArray, List.getElem_cons_succ, List.getElem_cons_zero]
      refine wpAnyH_take (i := 3) (v := .bool b) rfl (by kernel_rfl) (by kernel_rfl) (by kernel_rfl) (fun _ _ _ h => h) (Or.inl ⟨by kernel_rfl, ?_⟩) (by assumption) ?_
      · intro ww hSw
        clear hSw
        go_simp
        all_goals (try omega)
        all_goals (try assumption)
        all_goals (try rfl)
      try simp only [Act.put, List.setIfInBounds_toArray, List.set_cons_zero, List.set_cons_succ, List.getElem_toArray, List.getElem_cons_succ, List.getElem_cons_zero]
      refine wpAnyH_take (i := 4) (v := .int .i64 (at0 : Nat)) rfl (by kernel_rfl) (by kernel_rfl) (by kernel_rfl) (fun _ _ _ h => h) (Or.inl ⟨by kernel_rfl, ?_⟩) (by assumption) ?_
      · intro ww hSw
        clear hSw
        go_simp
        all_goals (try omega)
        all_goals (try assumption)
        all_goals (try rfl)
      try simp only [Act.put, List.setIfInBounds_toArray, List.set_cons_zero, List.set_cons_succ, List.getElem_toArray, List.getElem_cons_succ, List.getElem_cons_zero]
      refine wpAnyH_ready (rs := [5]) (by kernel_rfl) (by simp) ?_
      refine AllReadyH.cons rfl (fun K hK => ?_) AllReadyH.nil
      rw [if_pos (by rfl)]
      refine wp_store_row 41 (.tmp 3) (.tmp 58) rfl w.heap.size #[.int .u32 (v1 : Nat), .int .u32 (v2 : Nat), .int .u64 (v3 : Nat), .int .u64 (v4 : Nat), .int .u64 (v5 : Nat), .int .u64 (v6 : Nat)] rfl rfl 41 #[.int .u32 0, .int .u32 0, .int .u64 0, .int .u64 0, .int .u64 0, .int .u64 0] HR0.out info_rec rfl (one_rec v1 v2 v3 v4 v5 v6) ?_
      have hST : (fun ww => ww.heap[gh]? = some (.cells #[.int .u32 (v1 : Nat), .int .u32 (v2 : Nat), .int .u64 (v3 : Nat), .int .u64 (v4 : Nat), .int .u64 (v5 : Nat), .int .u64 (v6 : Nat)] 41 (0, 0)) ∧ Below w.heap.size w ww) (x4.setRow w.heap.size #[.int .u32 (v1 : Nat), .int .u32 (v2 : Nat), .int .u64 (v3 : Nat), .int .u64 (v4 : Nat), .int .u64 (v5 : Nat), .int .u64 (v6 : Nat)]) := ⟨(setRow_other _ _ _ _ NG.out).trans hSA.1, below_setRow hSA.2 (Nat.le_refl _) _⟩
      refine hK.out _ _ hST (fun hS10 => ?_)
      clear hK K
      try simp only [Act.put, List.setIfInBounds_toArray, List.set_cons_zero, List.set_cons_succ, List.getElem_toArray, List.getElem_cons_succ, List.getElem_cons_zero]
      refine wpAnyH_take (i := 6) (v := .bool b) rfl (by kernel_rfl) (by kernel_rfl) (by kernel_rfl) (fun _ _ _ h => h) (Or.inl ⟨by kernel_rfl, ?_⟩) (by assumption) ?_
      · intro ww hSw
        clear hSw
        go_simp
        all_goals (try omega)
        all_goals (try assumption)
        all_goals (try rfl)
      try simp only [Act.put, List.setIfInBounds_toArray, List.set_cons_zero, List.set_cons_succ, List.getElem_toArray, List.getElem_cons_succ, List.getElem_cons_zero]
      have HFB := Lib.hid hS10.2
      refine wpAnyH_done (by kernel_rfl) ?_ _
      clear hSA hST hS10
      go_wp2_with fail
      exact bodyPost_ret (results_tct_row rfl _ _ w.heap.size 41 #[.int .u32 (v1 : Nat), .int .u32 (v2 : Nat), .int .u64 (v3 : Nat), .int .u64 (v4 : Nat), .int .u64 (v5 : Nat), .int .u64 (v6 : Nat)] (0, 0) _ rfl (heap_setRow_same _ _ _ _ _ HR0.out) Try.underlying41 rfl info_rec) rfl ⟨at0, v1, v2, v3, v4, v5, v6, b, rfl, HLC.out, HFB.out⟩
    have hM : lcM s = false := by rw [HM2.out, decide_eq_false hal, Bool.and_false, Bool.and_false, Bool.and_false]
    have hgt : decide ((L : Int) < (at0 : Int)) = true := decide_eq_true (by omega)
    have hgn : L < at0 := by omega
    go_wp2_with (refine wpList_store_row rfl 41 (.tmp 3) (.tmp 47) rfl w.heap.size #[.int .u32 0, .int .u32 0, .int .u64 0, .int .u64 0, .int .u64 0, .int .u64 0] rfl rfl 41 #[.int .u32 0, .int .u32 0, .int .u64 0, .int .u64 0, .int .u64 0, .int .u64 0] HR.out info_rec rfl (by simp [Value.oneCell']) ?_)
    exact bodyPost_ret (results_tct_row rfl _ _ w.heap.size 41 #[.int .u32 0, .int .u32 0, .int .u64 0, .int .u64 0, .int .u64 0, .int .u64 0] (0, 0) _ rfl (heap_setRow_same _ _ _ _ _ HR.out) Try.underlying41 rfl info_rec) rfl ⟨0, 0, 0, 0, 0, 0, 0, false, rfl, lc_mark hM, below_setRow HB.out (Nat.le_refl _) _⟩
  · have hsd : decide ((s.size : Int) - 20 < 0) = true := decide_eq_true (by omega)
    have hsub : (s.size : Int) - 20 < 0 := by omega
    have hr0 := heap_alloc_new w (.cells #[.int .u32 0, .int .u32 0, .int .u64 0, .int .u64 0, .int .u64 0, .int .u64 0] 41)
    have HB : Hid (Below w.heap.size w (w.alloc (.cells #[.int .u32 0, .int .u32 0, .int .u64 0, .int .u64 0, .int .u64 0, .int .u64 0] 41))) := (Below.refl _ _).alloc (Nat.le_refl _) _
    have HR := Lib.hid hr0
    clear hr0
    go_enter Try.func15, Try.ntmps15
    go_wp2_with (refine wpList_store_row rfl 41 (.tmp 3) (.tmp 18) rfl w.heap.size #[.int .u32 0, .int .u32 0, .int .u64 0, .int .u64 0, .int .u64 0, .int .u64 0] rfl rfl 41 #[.int .u32 0, .int .u32 0, .int .u64 0, .int .u64 0, .int .u64 0, .int .u64 0] HR.out info_rec rfl (by simp [Value.oneCell']) ?_)
    exact bodyPost_ret (results_tct_row rfl _ _ w.heap.size 41 #[.int .u32 0, .int .u32 0, .int .u64 0, .int .u64 0, .int .u64 0, .int .u64 0] (0, 0) _ rfl (heap_setRow_same _ _ _ _ _ HR.out) Try.underlying41 rfl info_rec) rfl ⟨0, 0, 0, 0, 0, 0, 0, false, rfl, lc_short h20, below_setRow HB.out (Nat.le_refl _) _⟩
end Go.Proofs.Ytlojhklhhdgkcaa
