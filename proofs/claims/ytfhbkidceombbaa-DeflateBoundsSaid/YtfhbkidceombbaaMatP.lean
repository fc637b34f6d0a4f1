/-
  Contract: longest.
-/
import Derived.Test.YtfhbkidceombbaaMatO
namespace Go.Proofs.Ytfhbkidceombbaa
set_option maxRecDepth 100000
open Go.Joins Go.RowKit Go.Deep

theorem info_tokf : (Try.prog.info? 43).map (·.size) = some 3 := by kernel_rfl
theorem zero_tok (w : World) : (zeroValue 43).run Try.prog w = .ok (.agg #[.int .u8 0, .int .i64 0, .int .i64 0]) w := by kernel_rfl
/-- What the search's loop keeps. -/
def LSt (w wr : World) (s : ByteArray) (v : Value) (t bl bd : Nat) : Prop :=
  wr.heap[w.heap.size]? = some (.cells #[.string s, v, .int .i64 (t : Nat)] 127 (0, 0)) ∧
  wr.heap[w.heap.size + 1]? = some (.cells #[.int .u8 0, .int .i64 0, .int .i64 0] 43 (0, 0)) ∧
  wr.heap[w.heap.size + 1 + 1]? = some (.cells #[.int .u8 0, .int .i64 (bl : Nat), .int .i64 (bd : Nat)] 43 (0, 0)) ∧ Below w.heap.size w wr ∧ w.heap.size + 3 ≤ wr.heap.size
theorem LSt.later {w wr w2 : World} {s : ByteArray} {v : Value} {t bl bd : Nat} (h : LSt w wr s v t bl bd) (hb : Below wr.heap.size wr w2) : LSt w w2 s v t bl bd := by
  obtain ⟨h1, h2, h3, h4, h5⟩ := h
  exact ⟨(hb.block _ (by omega)).trans h1, (hb.block _ (by omega)).trans h2, (hb.block _ (by omega)).trans h3, h4.trans (hb.mono h4.size), Nat.le_trans h5 hb.size⟩
theorem three_set {w : World} {g : Nat} {a b c x y z : Value} {T : TypeId} (h : w.heap[g]? = some (.cells #[a, b, c] T (0, 0))) : (((w.setCell ⟨g, 0, none⟩ x).setCell ⟨g, 1, none⟩ y).setCell ⟨g, 2, none⟩ z).heap[g]? = some (.cells #[x, y, z] T (0, 0)) := by
  have h1 := heap_setCell_same w g 0 _ _ x h
  have h2 := heap_setCell_same _ g 1 _ _ y h1
  have h3 := heap_setCell_same _ g 2 _ _ z h2
  simpa using h3
set_option maxHeartbeats 8000000 in
theorem longest_any (s : ByteArray) (A : Option Addr) (nA cA t p : Nat) (hs : s.size ≤ 10000) (hp : p ≤ s.size) (ht : t ≤ 2000) (w : World)
    (hA : 0 < t → ∃ g, A = some ⟨g, 0, none⟩ ∧ nA = s.size ∧ g < w.heap.size ∧ w.heap[g]? = some (.cells (rowF (befT (bt s) s.size) s.size) 3 (0, 0))) :
    Calls Try.prog 97 #[.agg #[.string s, .slice A nA cA, .int .i64 (t : Nat)], .int .i64 (p : Nat)] w fun e w' => e = .returned (.agg #[.int .u8 0, .int .i64 ((longT (bt s) s.size (befT (bt s) s.size) t p).1 : Nat), .int .i64 ((longT (bt s) s.size (befT (bt s) s.size) t p).2 : Nat)]) ∧ Below w.heap.size w w' := by
  have hzt := zero_tok
  obtain ⟨q, e1, f1⟩ : ∃ q : Nat, ((s.size : Int) - (p : Int)) = (q : Int) ∧ q = s.size - p := ⟨s.size - p, by omega, rfl⟩
  obtain ⟨M, hM⟩ : ∃ M : Nat, M = min (s.size - p) 258 := ⟨_, rfl⟩
  have hmn : (if 258 < q then (258 : Int) else (q : Int)) = (M : Int) := by split <;> omega
  have hwq : IntKind.i64.wrap (q : Int) = (q : Int) := by rw [IntKind.wrap_i64]; omega
  have hM2 : M ≤ 258 := by omega
  have HMP : Hid (M ≤ s.size - p) := by show M ≤ _; omega
  have HLN : Hid (longT (bt s) s.size (befT (bt s) s.size) t p = if M < 3 then (0, 0) else lgF (bt s) (befT (bt s) s.size) p M t ⟨p, 0, 0⟩) := by show _ = _; rw [hM]; rfl
  generalize longT (bt s) s.size (befT (bt s) s.size) t p = LG at *
  have hM258 : 258 < q → M = 258 := fun h => by omega
  have hMq : ¬ 258 < q → M = q := fun h => by omega
  clear hM f1
  go_enter Try.func97, Try.ntmps97
  have hx0 : LSt w (((w.alloc (.cells #[.string s, .slice A nA cA, .int .i64 (t : Nat)] 127)).alloc (.cells #[.int .u8 0, .int .i64 0, .int .i64 0] 43)).alloc (.cells #[.int .u8 0, .int .i64 0, .int .i64 0] 43)) s (.slice A nA cA) t 0 0 := by
    have b1 := heap_alloc_new w (.cells #[.string s, .slice A nA cA, .int .i64 (t : Nat)] 127)
    have s1 : (w.alloc (.cells #[.string s, .slice A nA cA, .int .i64 (t : Nat)] 127)).heap.size = w.heap.size + 1 := by simp
    have d1 : Below w.heap.size w (w.alloc (.cells #[.string s, .slice A nA cA, .int .i64 (t : Nat)] 127)) := (Below.refl _ _).alloc (Nat.le_refl _) _
    generalize w.alloc (.cells #[.string s, .slice A nA cA, .int .i64 (t : Nat)] 127) = w1 at *
    have b2 := heap_alloc_new w1 (.cells #[.int .u8 0, .int .i64 0, .int .i64 0] 43)
    have s2 : (w1.alloc (.cells #[.int .u8 0, .int .i64 0, .int .i64 0] 43)).heap.size = w1.heap.size + 1 := by simp
    have d2 : Below w1.heap.size w1 (w1.alloc (.cells #[.int .u8 0, .int .i64 0, .int .i64 0] 43)) := (Below.refl _ _).alloc (Nat.le_refl _) _
    generalize w1.alloc (.cells #[.int .u8 0, .int .i64 0, .int .i64 0] 43) = w2 at *
    have b3 := heap_alloc_new w2 (.cells #[.int .u8 0, .int .i64 0, .int .i64 0] 43)
    have s3 : (w2.alloc (.cells #[.int .u8 0, .int .i64 0, .int .i64 0] 43)).heap.size = w2.heap.size + 1 := by simp
    have d3 : Below w2.heap.size w2 (w2.alloc (.cells #[.int .u8 0, .int .i64 0, .int .i64 0] 43)) := (Below.refl _ _).alloc (Nat.le_refl _) _
    generalize w2.alloc (.cells #[.int .u8 0, .int .i64 0, .int .i64 0] 43) = w3 at *
    rw [s1] at b2
    rw [s2, s1] at b3
    exact ⟨(d3.block _ (by omega)).trans ((d2.block _ (by omega)).trans b1), (d3.block _ (by omega)).trans b2, b3, d1.trans ((d2.mono (by omega)).trans (d3.mono (by omega))), by omega⟩
  have HX := Lib.hid hx0
  by_cases h3 : M < 3
  · have HLZ := Lib.hid (HLN.out.trans (if_pos h3))
    go_wp2_with fail
    obtain ⟨_, m1, _, mb, _⟩ := HX.out
    exact bodyPost_ret (results_cell_row rfl _ _ (w.heap.size + 1) 43 #[.int .u8 0, .int .i64 0, .int .i64 0] (0, 0) _ rfl m1 Try.underlying43 rfl info_tokf) rfl ⟨by rw [HLZ.out]; rfl, mb⟩
  · have HLN2 := Lib.hid (HLN.out.trans (if_neg h3))
    have h3i : decide ((M : Int) < 3) = false := decide_eq_false (by omega)
    have HAA := Lib.hid hA
    clear hA
    go_wp2_with fail
    all_goals
      generalize hW3 : ((w.alloc (.cells #[.string s, .slice A nA cA, .int .i64 (t : Nat)] 127)).alloc (.cells #[.int .u8 0, .int .i64 0, .int .i64 0] 43)).alloc (.cells #[.int .u8 0, .int .i64 0, .int .i64 0] 43) = w3 at *
      clear hW3
      first
        | rw [show (258 : Int) = (M : Int) by omega]
        | rw [show (q : Int) = (M : Int) by omega]
    all_goals
      try rw [h3i]
      go_loopw [7, 21] (fun fr i wr => ∃ k f bl bd : Nat, k ≤ t ∧ f ≤ p ∧ bl ≤ M ∧ fr = .int .i64 (f : Nat) ∧ i = .int .i64 (k : Nat) ∧ Hid (LG = lgF (bt s) (befT (bt s) s.size) p M (t - k) ⟨f, bl, bd⟩) ∧ Hid (LSt w wr s (.slice A nA cA) t bl bd)) (fun _ i _ => t - (intOf i).toNat)
      case atStart => exact ⟨0, p, 0, 0, Nat.zero_le _, Nat.le_refl _, Nat.zero_le _, rfl, rfl, HLN2, HX⟩
      case round =>
        obtain ⟨k, f, bl, bd, hk, hfp, hblM, rfl, rfl, HLG, HST⟩ := hrel
        obtain ⟨hh0, hh1, hh2, hhb, hhs⟩ := HST.out
        have c0 := (cell_of_row _ _ 0 _ _ _ hh0).trans (show _ = some (Value.string s) from rfl)
        have c1 := (cell_of_row _ _ 1 _ _ _ hh0).trans (show _ = some (Value.slice A nA cA) from rfl)
        have c2 := (cell_of_row _ _ 2 _ _ _ hh0).trans (show _ = some (Value.int .i64 (t : Nat)) from rfl)
        have t0 := (cell_of_row _ _ 0 _ _ _ hh2).trans (show _ = some (Value.int .u8 0) from rfl)
        have t1 := (cell_of_row _ _ 1 _ _ _ hh2).trans (show _ = some (Value.int .i64 (bl : Nat)) from rfl)
        have t2 := (cell_of_row _ _ 2 _ _ _ hh2).trans (show _ = some (Value.int .i64 (bd : Nat)) from rfl)
        have r0 := (cell_of_row _ _ 0 _ _ _ hh1).trans (show _ = some (Value.int .u8 0) from rfl)
        have r1 := (cell_of_row _ _ 1 _ _ _ hh1).trans (show _ = some (Value.int .i64 0) from rfl)
        have r2 := (cell_of_row _ _ 2 _ _ _ hh1).trans (show _ = some (Value.int .i64 0) from rfl)
        have hfz := fun j => frozen_of_row _ _ j _ _ hh1
        by_cases hkt : k < t
        · obtain ⟨g, rfl, rfl, hgl, hgr⟩ := HAA.out (by omega)
          have hfn : f < s.size := by have := HMP.out; omega
          have hrow := (hhb.block g hgl).trans hgr
          have cE := (cell_of_row _ _ f _ _ _ hrow).trans (rowF_get (befT (bt s) s.size) s.size f hfn)
          have HLG1 : Hid (LG = lgF (bt s) (befT (bt s) s.size) p M ((t - k - 1) + 1) ⟨f, bl, bd⟩) := by rw [show t - k - 1 + 1 = t - k by omega]; exact HLG.out
          have hbs := bef_lt (bt s) s.size f
          have hbsp : Hid (0 ≤ befT (bt s) s.size f → (befT (bt s) s.size f).toNat < f ∧ befT (bt s) s.size f = ((befT (bt s) s.size f).toNat : Nat)) := fun h => ⟨(bef_spec h).2.1, (bef_spec h).1⟩
          have HLU : Hid (LG = if befT (bt s) s.size f < 0 ∨ 32768 < (p : Int) - befT (bt s) s.size f ∨ bl = M then (bl, bd) else if bt s ((befT (bt s) s.size f).toNat + bl) ≠ bt s (p + bl) then lgF (bt s) (befT (bt s) s.size) p M (t - k - 1) ⟨(befT (bt s) s.size f).toNat, bl, bd⟩ else if bl < alF (eqA (bt s) (befT (bt s) s.size f).toNat p) M then lgF (bt s) (befT (bt s) s.size) p M (t - k - 1) ⟨(befT (bt s) s.size f).toNat, alF (eqA (bt s) (befT (bt s) s.size f).toNat p) M, p - (befT (bt s) s.size f).toNat⟩ else lgF (bt s) (befT (bt s) s.size) p M (t - k - 1) ⟨(befT (bt s) s.size f).toNat, bl, bd⟩) := HLG1.out
          generalize befT (bt s) s.size f = E at *
          clear hh0 hh1 hh2 hhb hrow
          by_cases hE : E < 0
          · have HFIN := Lib.hid (HLU.out.trans (if_pos (.inl hE)))
            have g1 : decide (E < 0) = true := decide_eq_true hE
            have hw : IntKind.i64.wrap E = E := by rw [IntKind.wrap_i64]; omega
            go_wp2
            obtain ⟨_, m1, _, mb, _⟩ := HST.out
            exact bodyPost_ret (results_cell_row rfl _ _ (w.heap.size + 1) 43 #[.int .u8 0, .int .i64 (bl : Nat), .int .i64 (bd : Nat)] (0, 0) _ rfl (three_set m1) Try.underlying43 rfl info_tokf) rfl ⟨by rw [HFIN.out], ((mb.setCell (Nat.le_succ _) _).setCell (Nat.le_succ _) _).setCell (Nat.le_succ _) _⟩
          · obtain ⟨hEl, hEe⟩ := hbsp.out (by omega)
            generalize E.toNat = h at *
            subst hEe
            have g1 : decide (((h : Nat) : Int) < 0) = false := decide_eq_false (by omega)
            have hdist : decide ((32768 : Int) < (p : Int) - (h : Int)) = false := decide_eq_false (by omega)
            by_cases hblm : bl = M
            · have HFIN := Lib.hid (HLU.out.trans (if_pos (.inr (.inr hblm))))
              subst hblm
              go_wp2
              obtain ⟨_, m1, _, mb, _⟩ := HST.out
              exact bodyPost_ret (results_cell_row rfl _ _ (w.heap.size + 1) 43 #[.int .u8 0, .int .i64 (bl : Nat), .int .i64 (bd : Nat)] (0, 0) _ rfl (three_set m1) Try.underlying43 rfl info_tokf) rfl ⟨by rw [HFIN.out], ((mb.setCell (Nat.le_succ _) _).setCell (Nat.le_succ _) _).setCell (Nat.le_succ _) _⟩
            · have HLU2 := Lib.hid (HLU.out.trans (if_neg (by omega)))
              have hbm : ((bl : Int) == (M : Int)) = false := by rw [beq_eq_false_iff_ne]; omega
              have hMP := HMP.out
              obtain ⟨q1, x1, f1⟩ : ∃ q : Nat, ((h : Int) + (bl : Int)) = (q : Int) ∧ q = h + bl := ⟨h + bl, by omega, rfl⟩
              obtain ⟨q2, x2, f2⟩ : ∃ q : Nat, ((p : Int) + (bl : Int)) = (q : Int) ∧ q = p + bl := ⟨p + bl, by omega, rfl⟩
              have l1 : q1 < s.size := by omega
              have l2 : q2 < s.size := by omega
              have w1' : IntKind.i64.wrap (q1 : Int) = (q1 : Int) := by rw [IntKind.wrap_i64]; omega
              have w2' : IntKind.i64.wrap (q2 : Int) = (q2 : Int) := by rw [IntKind.wrap_i64]; omega
              have HAL := Lib.hid (fun W => alike_any s (some ⟨g, 0, none⟩) s.size cA t h p M (by omega) (by omega) (by omega) W)
              have hall := alF_le (eqA (bt s) h p) M
              have n1 : ((s[q1].toNat : Int) == (s[q2].toNat : Int)) = decide (bt s q1 = bt s q2) := by
                rw [bt_get s q1 l1, bt_get s q2 l2, Bool.eq_iff_iff]
                simp only [beq_iff_eq, decide_eq_true_eq]
                exact Int.natCast_inj
              rw [← f1, ← f2] at HLU2
              clear f1 f2 hMP hbs
              generalize alF (eqA (bt s) h p) M = m at *
              by_cases hq : bt s q1 = bt s q2
              · rw [decide_eq_true hq] at n1
                have HLU3 := Lib.hid (HLU2.out.trans (if_neg (by simp [hq])))
                clear hq
                go_wp2_with fail
                go_quiet (fail)
                by_cases hbl : bl < m
                · have HLU4 := Lib.hid (HLU3.out.trans (if_pos hbl))
                  obtain ⟨dd, y1, y2⟩ : ∃ dd : Nat, ((p : Int) - (h : Int)) = (dd : Int) ∧ dd = p - h := ⟨p - h, by omega, rfl⟩
                  rw [← y2] at HLU4
                  have wdd : IntKind.i64.wrap (dd : Int) = (dd : Int) := by rw [IntKind.wrap_i64]; omega
                  clear y2 hdist
                  go_wp2_with (go_at_call 115; go_must (refine (HAL.out _).mono ?_; rintro e w5 ⟨rfl, hb5⟩; have HS5 := Lib.hid ((HST.out.later (below_drewN (Below.refl _ _) _)).later hb5); have z0 := (cell_of_row _ _ 0 _ _ _ HS5.out.2.2.1).trans (show _ = some (Value.int .u8 0) from rfl); have z1 := (cell_of_row _ _ 1 _ _ _ HS5.out.2.2.1).trans (show _ = some (Value.int .i64 (bl : Nat)) from rfl); have z2 := (cell_of_row _ _ 2 _ _ _ HS5.out.2.2.1).trans (show _ = some (Value.int .i64 (bd : Nat)) from rfl); have hfz5 := fun j => frozen_of_row _ _ j _ _ HS5.out.2.2.1; clear hb5))
                  go_roundw
                  case rel =>
                    refine ⟨k + 1, h, m, dd, by omega, by omega, hall, rfl, by go_num, by rw [show t - (k + 1) = t - k - 1 by omega]; exact HLU4, ?_⟩
                    obtain ⟨m0, m1, m2, mb, ms⟩ := HS5.out
                    refine ⟨?_, ?_, three_set m2, ((mb.setCell (by show w.heap.size ≤ w.heap.size + 1 + 1; omega) _).setCell (by show w.heap.size ≤ w.heap.size + 1 + 1; omega) _).setCell (by show w.heap.size ≤ w.heap.size + 1 + 1; omega) _, by simpa using ms⟩
                    · rw [Below.heap_setCell _ _ _ _ (by show w.heap.size ≠ w.heap.size + 1 + 1; omega), Below.heap_setCell _ _ _ _ (by show w.heap.size ≠ w.heap.size + 1 + 1; omega), Below.heap_setCell _ _ _ _ (by show w.heap.size ≠ w.heap.size + 1 + 1; omega)]; exact m0
                    · rw [Below.heap_setCell _ _ _ _ (by show w.heap.size + 1 ≠ w.heap.size + 1 + 1; omega), Below.heap_setCell _ _ _ _ (by show w.heap.size + 1 ≠ w.heap.size + 1 + 1; omega), Below.heap_setCell _ _ _ _ (by show w.heap.size + 1 ≠ w.heap.size + 1 + 1; omega)]; exact m1
                  case measure => simp [intOf]; omega
                · have HLU4 := Lib.hid (HLU3.out.trans (if_neg hbl))
                  go_wp2_with (go_at_call 115; go_must (refine (HAL.out _).mono ?_; rintro e w5 ⟨rfl, hb5⟩; have HS5 := Lib.hid ((HST.out.later (below_drewN (Below.refl _ _) _)).later hb5); have z1 := (cell_of_row _ _ 1 _ _ _ HS5.out.2.2.1).trans (show _ = some (Value.int .i64 (bl : Nat)) from rfl); clear hb5))
                  go_roundw
                  case rel => exact ⟨k + 1, h, bl, bd, by omega, by omega, hblM, rfl, by go_num, by rw [show t - (k + 1) = t - k - 1 by omega]; exact HLU4, HS5⟩
                  case measure => simp [intOf]; omega
              · rw [decide_eq_false hq] at n1
                have HLU3 := Lib.hid (HLU2.out.trans (if_pos hq))
                clear hq
                go_wp2_with fail
                go_quiet (fail)
                go_wp2_with fail
                go_roundw
                case rel => exact ⟨k + 1, h, bl, bd, by omega, by omega, hblM, rfl, by go_num, by rw [show t - (k + 1) = t - k - 1 by omega]; exact HLU3, HST.out.later (below_drewN (Below.refl _ _) _)⟩
                case measure => simp [intOf]; omega
        · obtain rfl : k = t := by omega
          have HFIN : Hid (LG = (bl, bd)) := by
            have h := HLG.out
            rw [Nat.sub_self] at h
            exact h
          go_wp2
          obtain ⟨_, m1, _, mb, _⟩ := HST.out
          exact bodyPost_ret (results_cell_row rfl _ _ (w.heap.size + 1) 43 #[.int .u8 0, .int .i64 (bl : Nat), .int .i64 (bd : Nat)] (0, 0) _ rfl (three_set m1) Try.underlying43 rfl info_tokf) rfl ⟨by rw [HFIN.out], ((mb.setCell (Nat.le_succ _) _).setCell (Nat.le_succ _) _).setCell (Nat.le_succ _) _⟩
end Go.Proofs.Ytfhbkidceombbaa
