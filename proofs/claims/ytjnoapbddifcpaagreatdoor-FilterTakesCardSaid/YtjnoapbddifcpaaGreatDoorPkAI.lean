/-
  Glob, the document's side: Numbers, one, Takes.
  Glob, the document's side: Takes.
  Glob, the document's side: rows of bools; atoms.
-/
import Derived.Test.YtjnoapbddifcpaaGreatDoorPkAH
import Derived.Deep.OwnRows

namespace Go.Proofs.YtjnoapbddifcpaaGreatDoor
set_option maxRecDepth 100000
open Go.RowKit Go.Joins Go.Deep

/-- A slice of numbers. -/
def Ins (w : World) (A : Option Addr) (l : List Nat) : Prop := 0 < l.length → ∃ b off, A = some ⟨b, off, none⟩ ∧ b < w.heap.size ∧ ∀ i, i < l.length → w.cell? ⟨b, off + i, none⟩ = some (.int .i64 ((l.getD i 0 : Nat) : Int))
theorem Ins.below {w w' : World} {A : Option Addr} {l : List Nat} (h : Ins w A l) (hb : Below w.heap.size w w') : Ins w' A l := fun h0 => by
  obtain ⟨b, off, e, hlt, hc⟩ := h h0
  exact ⟨b, off, e, Nat.lt_of_lt_of_le hlt hb.size, fun i hi => (hb.cell (p := ⟨b, off + i, none⟩) hlt).trans (hc i hi)⟩
def cellsN (l : List Nat) : List Value := l.map fun x => .int .i64 ((x : Nat) : Int)
theorem ins_of_own {w : World} {B c : Nat} {T : TypeId} {A : Option Addr} {l : List Nat} (h : w.ownsRow B T 1 (.slice A l.length c) l.length (cellsN l)) : Ins w A l := fun h0 => by
  obtain ⟨b, e, hlt, hc⟩ := own_cells h h0
  refine ⟨b, 0, e, hlt, fun i hi => ?_⟩
  rw [Nat.zero_add]
  refine hc i _ ?_
  unfold cellsN
  rw [List.getElem?_map, List.getElem?_eq_getElem hi, List.getD_eq_getElem?_getD, List.getElem?_eq_getElem hi]
  rfl
theorem parts_int : (Tryz.prog.info? 3).map (fun i => (i.zero, i.size, i.bytes)) = some (some (.int .i64 0), 1, 8) := by kernel_rfl
theorem news1 {w : World} {g : Nat} {x : Value} {T : TypeId} (h : w.heap[g]? = some (.cells #[x] T (0, 0))) : ∀ j u, [x][j]? = some u → w.cell? ((⟨g, 0, none⟩ : Addr).add j) = some u := by
  intro j u hj
  rw [Addr.add_lit, Nat.zero_add, cell_of_row w g j _ _ _ h]
  simpa using hj
set_option maxHeartbeats 4000000 in
theorem numbers_any (s : ByteArray) (hs : s.size ≤ 100000) (w : World) :
    Calls Tryz.prog 44 #[.string s] w fun e w' => ∃ A c, e = .returned (.slice A (runesB s).length c) ∧ Ins w' A (runesB s) ∧ Below w.heap.size w w' := by
  obtain ⟨i0, hi, hz0, hz1, hz2⟩ := parts_of parts_int
  obtain ⟨R, hR⟩ : ∃ R, R = runesB s := ⟨_, rfl⟩
  rw [← hR]
  have hrl : R.length ≤ s.size := by rw [hR]; exact runeF_len s s.size 0
  have HR0 : Hid (([] : List Nat) ++ runeF s s.size 0 = R) := hR.symm
  clear hR
  go_enter Tryz.func44, Tryz.ntmps44
  go_wp2_with fail
  go_loopw [3, 4] (fun v i wr => ∃ (p f : Nat) (l : List Nat), i = .int .i64 (p : Nat) ∧ p ≤ s.size ∧ Hid (s.size ≤ p + f) ∧ Hid (l ++ runeF s f p = R) ∧ Hid (wr.ownsRow w.heap.size 3 1 v l.length (cellsN l)) ∧ Hid (Below w.heap.size w wr)) (fun _ i _ => s.size - (intOf i).toNat)
  case atStart => exact ⟨0, s.size, [], rfl, Nat.zero_le _, by show _ ≤ _; omega, HR0, World.ownsRow_nil _ _ _ _, Below.refl _ _⟩
  case round =>
    obtain ⟨p, f, l, rfl, hp, HF, HL, HO, HB⟩ := hrel
    obtain ⟨A2, c2, rfl⟩ := row_slice2 HO.out
    by_cases hlt : p < s.size
    · have HON := Lib.hid (fun w1 => rone_any s p hlt (by omega) w1)
      obtain ⟨d1, d2, d3⟩ := decode_fit s p hlt
      obtain ⟨f', rfl⟩ : ∃ f', f = f' + 1 := ⟨f - 1, by have := HF.out; omega⟩
      have hL := HL.out
      rw [runeF, if_pos hlt] at hL
      have hll : l.length < s.size := by
        have : (l ++ (Utf8.decode s p).1 :: runeF s f' (p + (Utf8.decode s p).2)).length = R.length := by rw [hL]
        rw [List.length_append, List.length_cons] at this
        omega
      have hst : strayAt s p = true → (Utf8.decode s p).1 = 65533 := fun h => by
        unfold strayAt at h
        rw [of_decide_eq_true h]
      have HOR : Hid (oneR s p = if strayAt s p = true then -1 else (((Utf8.decode s p).1 : Nat) : Int)) := rfl
      have HL2 := Lib.hid hL
      generalize (Utf8.decode s p).1 = r at *
      generalize (Utf8.decode s p).2 = k at *
      generalize strayAt s p = T at *
      generalize oneR s p = o at *
      clear hL HL
      have gp : decide ((p : Int) < (s.size : Int)) = true := decide_eq_true (by omega)
      cases T with
      | true =>
        have hr := hst rfl
        have ho := HOR.out
        rw [if_pos rfl] at ho
        subst ho
        subst hr
        have HX7 := Lib.hid (heap_alloc_new wr (.cells #[.int .i64 65533] 3))
        have HO7 := Lib.hid (HO.out.alloc (.cells #[.int .i64 65533] 3))
        have HB7 : Hid (Below w.heap.size w (wr.alloc (.cells #[.int .i64 65533] 3))) := HB.out.alloc HB.out.size _
        have HS7 : Hid (w.heap.size ≤ (wr.alloc (.cells #[.int .i64 65533] 3)).heap.size) := HB7.out.size
        have HLT := Lib.hid HO.out.lt
        clear hst HOR
        go_wp2_with fail
        refine (HON.out _).mono ?_; rintro e w5 ⟨rfl, rfl⟩
        go_wp2_with (at_builtin; go_must (refine wpList_append_own_at _ rfl (.tmp 19) (.tmp 21) _ rfl w.heap.size 3 i0 (.int .i64 0) 1 8 Tryz.underlying45 hi hz0 hz1 hz2 rfl (by decide) (.slice A2 l.length c2) l.length _ rfl HO7.out ⟨w5.heap.size, 0, none⟩ 1 1 [.int .i64 65533] rfl rfl (by exact news1 HX7.out) (by intro u hu; simp at hu; subst hu; rfl) (by unfold maxLen; omega) (by omega) (by exact HS7.out) ?_; intro v' w8 hown' hgrow hnil' hloc; have HO8 := Lib.hid hown'; have HB8 := Lib.hid (HB7.out.grown hgrow HS7.out (fun q hq => (HLT.out q hq).1)); clear hown' hgrow hnil' hloc))
        go_roundw
        case rel =>
          refine ⟨p + k, f', l ++ [65533], by go_num, by omega, by show _ ≤ _; have := HF.out; omega, by show _ = _; rw [← HL2.out]; simp, ?_, HB8⟩
          show World.ownsRow _ _ _ _ _ _ _
          rw [List.length_append]
          unfold cellsN
          rw [List.map_append]
          exact HO8.out
        case measure => simp [intOf]; omega
      | false =>
        have ho := HOR.out
        rw [if_neg (by simp)] at ho
        subst ho
        have HX7 := Lib.hid (heap_alloc_new wr (.cells #[.int .i64 (r : Nat)] 3))
        have HO7 := Lib.hid (HO.out.alloc (.cells #[.int .i64 (r : Nat)] 3))
        have HB7 : Hid (Below w.heap.size w (wr.alloc (.cells #[.int .i64 (r : Nat)] 3))) := HB.out.alloc HB.out.size _
        have HS7 : Hid (w.heap.size ≤ (wr.alloc (.cells #[.int .i64 (r : Nat)] 3)).heap.size) := HB7.out.size
        have HLT := Lib.hid HO.out.lt
        have g0 : decide ((r : Int) < 0) = false := decide_eq_false (by omega)
        clear hst HOR
        go_wp2_with fail
        refine (HON.out _).mono ?_; rintro e w5 ⟨rfl, rfl⟩
        go_wp2_with (at_builtin; go_must (refine wpList_append_own_at _ rfl (.tmp 19) (.tmp 21) _ rfl w.heap.size 3 i0 (.int .i64 0) 1 8 Tryz.underlying45 hi hz0 hz1 hz2 rfl (by decide) (.slice A2 l.length c2) l.length _ rfl HO7.out ⟨w5.heap.size, 0, none⟩ 1 1 [.int .i64 (r : Nat)] rfl rfl (by exact news1 HX7.out) (by intro u hu; simp at hu; subst hu; rfl) (by unfold maxLen; omega) (by omega) (by exact HS7.out) ?_; intro v' w8 hown' hgrow hnil' hloc; have HO8 := Lib.hid hown'; have HB8 := Lib.hid (HB7.out.grown hgrow HS7.out (fun q hq => (HLT.out q hq).1)); clear hown' hgrow hnil' hloc))
        go_roundw
        case rel =>
          refine ⟨p + k, f', l ++ [r], by go_num, by omega, by show _ ≤ _; have := HF.out; omega, by show _ = _; rw [← HL2.out]; simp, ?_, HB8⟩
          show World.ownsRow _ _ _ _ _ _ _
          rw [List.length_append]
          unfold cellsN
          rw [List.map_append]
          exact HO8.out
        case measure => simp [intOf]; omega
    · have hl : l = R := by
        have h := HL.out
        rw [runeF_end s f p hlt, List.append_nil] at h
        exact h
      subst hl
      have gp : decide ((p : Int) < (s.size : Int)) = false := decide_eq_false (by omega)
      go_wp2_with fail
      go_ret
      exact ⟨A2, c2, rfl, ins_of_own HO.out, HB.out⟩
/-! ### one -/
theorem plain_at (l : List Nat) (a : Nat) : (a < l.length ∧ l.getD a 0 = 92 → (a + 1 < l.length → plainF (l.drop a) = (l.getD (a + 1) 0, 2)) ∧ (¬ a + 1 < l.length → plainF (l.drop a) = (0, 0))) ∧ (a < l.length → l.getD a 0 ≠ 92 → plainF (l.drop a) = (l.getD a 0, 1)) ∧ (¬ a < l.length → plainF (l.drop a) = (0, 0)) := by
  have e : ∀ i, (l.drop a).getD i 0 = l.getD (a + i) 0 := fun i => by rw [List.getD_eq_getElem?_getD, List.getElem?_drop, ← List.getD_eq_getElem?_getD]
  have e0 := e 0
  have e1 := e 1
  have hl : (l.drop a).length = l.length - a := List.length_drop
  rw [Nat.add_zero] at e0
  rcases hx : l.drop a with _ | ⟨c, _ | ⟨r, t⟩⟩
  · rw [hx] at hl
    simp at hl
    exact ⟨fun h => by omega, fun h => by omega, fun _ => rfl⟩
  · rw [hx] at hl e0
    change c = _ at e0
    simp only [List.length_cons, List.length_nil] at hl
    refine ⟨fun h => ⟨fun h2 => by omega, fun _ => ?_⟩, fun _ h2 => ?_, fun h => by omega⟩
    · rw [plainF, if_pos (by omega)]
    · rw [plainF, if_neg (by omega), e0]
  · rw [hx] at hl e0 e1
    change c = _ at e0
    change r = _ at e1
    simp only [List.length_cons] at hl
    refine ⟨fun h => ⟨fun h2 => ?_, fun h2 => by omega⟩, fun _ h2 => ?_, fun h => by omega⟩
    · rw [plainF, if_pos (by omega), e1]
    · rw [plainF, if_neg (by omega), e0]
set_option maxHeartbeats 4000000 in
/-- A rune of a set from a place on: as the program reads it. -/
theorem one11_any (l : List Nat) (A : Option Addr) (c a : Nat) (w : World) (hA : Ins w A l) (hl : l.length ≤ 100000) (ha : a ≤ l.length + 1) :
    Calls Tryz.prog 45 #[.slice A l.length c, .int .i64 (a : Nat)] w fun e w' => (∃ x : Nat, e = .returned (.tuple #[.int .i64 ((plainF (l.drop a)).1 : Nat), .int .i64 (x : Nat), .bool (decide ((plainF (l.drop a)).2 ≠ 0))]) ∧ ((plainF (l.drop a)).2 ≠ 0 → x = a + (plainF (l.drop a)).2)) ∧ w = w' := by
  obtain ⟨p1, p2, p3⟩ := plain_at l a
  by_cases hal : a < l.length
  · obtain ⟨b, off, rfl, hlt, hc⟩ := hA (by omega)
    have c0 := hc a hal
    have gp : decide ((a : Int) < (l.length : Int)) = true := decide_eq_true (by omega)
    by_cases h92 : l.getD a 0 = 92
    · rw [h92] at c0
      by_cases h2 : a + 1 < l.length
      · have c1 := hc (a + 1) h2
        rw [(p1 ⟨hal, h92⟩).1 h2]
        generalize l.getD (a + 1) 0 = x at *
        obtain ⟨q, hq⟩ : ∃ q, q = a + 1 := ⟨_, rfl⟩
        have hqI : (a : Int) + 1 = (q : Int) := by omega
        have hq2 : q < l.length := by omega
        rw [← hq] at c1
        have gq : decide ((l.length : Int) ≤ (q : Int)) = false := decide_eq_false (by omega)
        have hqe : ((q + 1 : Nat) : Int) = ((a + 2 : Nat) : Int) := by omega
        have HQE := Lib.hid hqe
        have hqm : q ≤ 100001 := by omega
        clear p1 p2 p3 hc h92 hq hqe
        go_enter Tryz.func45, Tryz.ntmps45
        go_wp2
        go_ret3
        exact ⟨⟨a + 2, by rw [← HQE.out]; rfl, fun _ => rfl⟩, rfl⟩
      · rw [(p1 ⟨hal, h92⟩).2 h2]
        have gq : decide ((l.length : Int) ≤ (a : Int) + 1) = true := decide_eq_true (by omega)
        clear p1 p2 p3 hc h92
        go_enter Tryz.func45, Tryz.ntmps45
        go_wp2
        go_ret3
        exact ⟨⟨a + 1, rfl, fun h => absurd rfl h⟩, rfl⟩
    · rw [p2 hal h92]
      have g92 : ((l.getD a 0 : Int) == 92) = false := by rw [beq_eq_false_iff_ne]; omega
      generalize l.getD a 0 = x at *
      have gq : decide ((l.length : Int) ≤ (a : Int)) = false := decide_eq_false (by omega)
      clear p1 p2 p3 hc h92
      go_enter Tryz.func45, Tryz.ntmps45
      go_wp2
      go_ret3
      exact ⟨⟨a + 1, rfl, fun _ => rfl⟩, rfl⟩
  · rw [p3 hal]
    have gp : decide ((a : Int) < (l.length : Int)) = false := decide_eq_false (by omega)
    have gq : decide ((l.length : Int) ≤ (a : Int)) = true := decide_eq_true (by omega)
    clear p1 p2 p3 hA
    go_enter Tryz.func45, Tryz.ntmps45
    go_wp2
    go_ret3
    exact ⟨⟨a, rfl, fun h => absurd rfl h⟩, rfl⟩
end Go.Proofs.YtjnoapbddifcpaaGreatDoor

namespace Go.Proofs.YtjnoapbddifcpaaGreatDoor
set_option maxRecDepth 100000
open Go.RowKit Go.Joins Go.Deep

theorem info_pair : (Tryz.prog.info? 107).map (·.size) = some 2 := by kernel_rfl
theorem info_prs : (Tryz.prog.info? 102).map (·.size) = some 1 := by kernel_rfl
set_option maxHeartbeats 8000000 in
theorem rtakes_any (x : Atm) (m : Nat) (Ai : Option Addr) (ci : Nat) (w : World) (hR : Rgs w .i64 Ai x.rs) (hl : x.rs.length ≤ 1000000) :
    Calls Tryz.prog 88 #[.agg #[.int .i64 x.k, .int .i64 x.r, .bool x.n, .slice Ai x.rs.length ci], .int .i64 (m : Nat)] w fun e w' => e = .returned (.bool (takA x m)) ∧ Below w.heap.size w w' := by
  have hir := info_pair
  have hal := below_alG w (.cells #[.int .i64 x.k, .int .i64 x.r, .bool x.n, .slice Ai x.rs.length ci] 104)
  have hx0 := heap_alloc_new w (.cells #[.int .i64 x.k, .int .i64 x.r, .bool x.n, .slice Ai x.rs.length ci] 104)
  have hR1 := hR.below (Nat.le_refl _) hal
  have hT : takA x m = if x.k = 1 then decide (x.r = (m : Int)) else if x.k = 2 then true else decide (x.k = 4) && (hasA x.rs m != x.n) := rfl
  obtain ⟨k, xr, nt, rs⟩ := x
  dsimp only at *
  generalize takA ⟨k, xr, nt, rs⟩ m = T at *
  have HAL := Lib.hid hal
  have HX0 := Lib.hid hx0
  have HR1 := Lib.hid hR1
  clear hal hx0 hR1 hR
  by_cases h1 : k = 1
  · subst h1
    have hT' := hT.trans (if_pos rfl)
    subst hT'
    clear hT
    go_enter Tryz.func88, Tryz.ntmps88
    go_wp2_with fail
    go_ret
    exact ⟨rfl, HAL.out⟩
  · have g1 : (k == 1) = false := by rw [beq_eq_false_iff_ne]; exact h1
    rw [if_neg h1] at hT
    by_cases h2 : k = 2
    · subst h2
      rw [if_pos rfl] at hT
      subst hT
      clear h1
      go_enter Tryz.func88, Tryz.ntmps88
      go_wp2_with fail
      go_ret
      exact ⟨rfl, HAL.out⟩
    · have g2 : (k == 2) = false := by rw [beq_eq_false_iff_ne]; exact h2
      rw [if_neg h2] at hT
      have HT := Lib.hid hT
      clear hT h1 h2
      go_enter Tryz.func88, Tryz.ntmps88
      go_wp2_with fail
      generalize w.alloc (.cells #[.int .i64 k, .int .i64 xr, .bool nt, .slice Ai rs.length ci] 104) = w1 at *
      go_loopw [5, 21] (fun v i wr => ∃ j : Nat, j ≤ rs.length ∧ i = .int .i64 (j : Nat) ∧ v = .bool ((rs.take j).any fun p => decide (p.1 ≤ (m : Int)) && decide ((m : Int) ≤ p.2)) ∧ Hid (Below w1.heap.size w1 wr)) (fun _ i _ => rs.length - (intOf i).toNat)
      case atStart => exact ⟨0, Nat.zero_le _, rfl, rfl, Below.refl _ _⟩
      case round =>
        obtain ⟨j, hj, rfl, rfl, HB⟩ := hrel
        by_cases hlt : j < rs.length
        · obtain ⟨b, off, rfl, hb, hcc⟩ := (HR1.out.below (Nat.le_refl _) HB.out) (by omega)
          obtain ⟨c0, c1⟩ := hcc j hlt
          have HQ := Lib.hid (any_takeG rs (fun p => decide (p.1 ≤ (m : Int)) && decide ((m : Int) ≤ p.2)) j hlt)
          rw [show rs.getD j (0, 0) = rs[j] by rw [List.getD_eq_getElem?_getD, List.getElem?_eq_getElem hlt]; rfl] at c0 c1
          generalize rs[j] = pp at *
          generalize hu : (rs.take j).any (fun p => decide (p.1 ≤ (m : Int)) && decide ((m : Int) ≤ p.2)) = U at *
          clear hcc hu
          obtain ⟨lo, hiR⟩ := pp
          dsimp only at *
          have HB2 := Lib.hid (HB.out.alloc HB.out.size (.cells #[.int .i64 lo, .int .i64 hiR] 107))
          cases U with
          | true =>
            go_wp2_with fail
            go_roundw
            case rel => exact ⟨j + 1, by omega, by go_num, by rw [HQ.out]; rfl, HB2⟩
            case measure => simp [intOf]; omega
          | false =>
            by_cases h5 : lo ≤ (m : Int)
            · have d5 : decide (lo ≤ (m : Int)) = true := decide_eq_true h5
              have HQ2 : Hid (((rs.take (j + 1)).any fun p => decide (p.1 ≤ (m : Int)) && decide ((m : Int) ≤ p.2)) = decide ((m : Int) ≤ hiR)) := by show _ = _; rw [HQ.out, d5]; simp
              go_wp2_with fail
              go_roundw
              case rel => exact ⟨j + 1, by omega, by go_num, by rw [HQ2.out], HB2⟩
              case measure => simp [intOf]; omega
            · have d5 : decide (lo ≤ (m : Int)) = false := decide_eq_false h5
              have HQ2 : Hid (((rs.take (j + 1)).any fun p => decide (p.1 ≤ (m : Int)) && decide ((m : Int) ≤ p.2)) = false) := by show _ = _; rw [HQ.out, d5]; simp
              go_wp2_with fail
              go_roundw
              case rel => exact ⟨j + 1, by omega, by go_num, by rw [HQ2.out], HB2⟩
              case measure => simp [intOf]; omega
        · obtain rfl : j = rs.length := by omega
          have hxr := (HB.out.block w.heap.size (lt_of_block HX0.out)).trans HX0.out
          have y0 := (cell_of_row _ _ 0 _ _ _ hxr).trans (show _ = some (Value.int .i64 k) from rfl)
          have y2 := (cell_of_row _ _ 2 _ _ _ hxr).trans (show _ = some (Value.bool nt) from rfl)
          have HBB := Lib.hid (below_then HAL.out HB.out)
          clear hxr
          have HV : Hid (T = (decide (k = 4) && (((rs.take rs.length).any fun p => decide (p.1 ≤ (m : Int)) && decide ((m : Int) ≤ p.2)) != nt))) := by
            show _ = _
            rw [HT.out, List.take_length]
            rfl
          generalize (rs.take rs.length).any (fun p => decide (p.1 ≤ (m : Int)) && decide ((m : Int) ≤ p.2)) = U at *
          by_cases h4 : k = 4
          · subst h4
            go_wp2_with fail
            go_ret
            exact ⟨by rw [HV.out]; cases U <;> cases nt <;> rfl, HBB.out⟩
          · have g4 : (k == 4) = false := by rw [beq_eq_false_iff_ne]; exact h4
            have HV2 : Hid (T = false) := by show _ = _; rw [HV.out, decide_eq_false h4]; rfl
            clear h4
            go_wp2_with fail
            go_ret
            exact ⟨by rw [HV2.out]; rfl, HBB.out⟩
end Go.Proofs.YtjnoapbddifcpaaGreatDoor

namespace Go.Proofs.YtjnoapbddifcpaaGreatDoor
set_option maxRecDepth 100000
open Go.RowKit Go.Joins Go.Deep

theorem Ins.setI {w : World} {A : Option Addr} {l : List Nat} (h : Ins w A l) {g : Nat} {cs : Array Value} {f : Nat × Nat} (hg : w.heap[g]? = some (.cells cs 4 f)) (hcs : ∀ i : Nat, ∀ z : Int, cs[i]? ≠ some (.int .i64 z)) (i : Nat) (v : Value) : Ins (w.setCell ⟨g, i, none⟩ v) A l := fun h0 => by
  obtain ⟨b, off, e, hlt, hc⟩ := h h0
  have hne : b ≠ g := fun e2 => by
    subst e2
    have h1 := hc 0 h0
    rw [cell_of_row _ _ _ _ _ _ hg] at h1
    exact hcs _ _ h1
  exact ⟨b, off, e, by simpa [World.setCell] using hlt, fun j hj => (World.cell?_of_block (a := ⟨b, off + j, none⟩) (heap_setCell_other w ⟨g, i, none⟩ b v hne)).trans (hc j hj)⟩
def rowBo (F : Nat → Bool) (n : Nat) : Array Value := ((List.range n).map fun i => Value.bool (F i)).toArray
theorem rowBo_get (F : Nat → Bool) (n i : Nat) (h : i < n) : (rowBo F n)[i]? = some (.bool (F i)) := by simp [rowBo, h]
theorem rowBo_size (F : Nat → Bool) (n : Nat) : (rowBo F n).size = n := by simp [rowBo]
theorem rowBo_no (F : Nat → Bool) (n i : Nat) (z : Int) : (rowBo F n)[i]? ≠ some (.int .i64 z) := by
  by_cases h : i < n
  · rw [rowBo_get F n i h]; intro e; cases e
  · rw [Array.getElem?_eq_none (by rw [rowBo_size]; omega)]; intro e; cases e
theorem rowBo_ext {F G : Nat → Bool} {n : Nat} (h : ∀ i, i < n → F i = G i) : rowBo F n = rowBo G n := by
  unfold rowBo
  congr 1
  exact List.map_congr_left fun i hi => by rw [h i (List.mem_range.1 hi)]
theorem rowBo_set (F : Nat → Bool) (n i : Nat) (v : Bool) : (rowBo F n).setIfInBounds i (.bool v) = rowBo (fun p => if p = i then v else F p) n := by
  apply Array.ext_getElem?
  intro j
  rw [Array.getElem?_setIfInBounds]
  by_cases hj : j < n
  · rw [rowBo_get (fun p => if p = i then v else F p) n j hj, rowBo_size]
    by_cases e : i = j
    · rw [if_pos e, if_pos (by omega), if_pos e.symm]
    · rw [if_neg e, rowBo_get F n j hj, if_neg (fun h => e h.symm)]
  · have e1 : ∀ G, (rowBo G n)[j]? = none := fun G => Array.getElem?_eq_none (by rw [rowBo_size]; omega)
    rw [e1, e1]
    split
    · rw [rowBo_size, if_neg (by omega)]
    · rfl
theorem rowBo_made (n : Nat) : madeCells #[Value.bool false] n = rowBo (fun _ => false) n := by
  apply Array.ext'
  rw [toList_madeCells_one]
  unfold rowBo
  rw [List.toList_toArray, List.map_const', List.length_range]
theorem info_bool : (Tryz.prog.info? 4).map (fun i => (i.zero, i.size, i.bytes)) = some (some (.bool false), 1, 1) := by kernel_rfl
theorem make_bools (n : Nat) (hn : n ≤ 1000000) (w : World) : (Instr.makeSlice 185 (.int .i64 (n : Nat)) (.int .i64 (n : Nat))).run Tryz.prog w = .ok (.slice (some ⟨w.heap.size, 0, none⟩) n n) (w.alloc (.cells (rowBo (fun _ => false) n) 4)) := by
  rw [← rowBo_made]
  exact run_make_row' (P := Tryz.prog) 185 4 (.bool false) 1 Tryz.underlying185 info_bool rfl .i64 .i64 n (by omega) (by omega) w
/-- A slice of the document's atoms. -/
def RAts (w : World) (A : Option Addr) (ats : List Atm) : Prop := 0 < ats.length → ∃ b off, A = some ⟨b, off, none⟩ ∧ b < w.heap.size ∧ ∀ (i : Nat) (x : Atm), ats[i]? = some x → w.cell? ⟨b, off + i * 4, none⟩ = some (.int .i64 x.k) ∧ w.cell? ⟨b, off + i * 4 + 1, none⟩ = some (.int .i64 x.r) ∧ w.cell? ⟨b, off + i * 4 + 2, none⟩ = some (.bool x.n) ∧ ∃ Ai ci, w.cell? ⟨b, off + i * 4 + 3, none⟩ = some (.slice Ai x.rs.length ci) ∧ Rgs w .i64 Ai x.rs
theorem RAts.below {w w' : World} {A : Option Addr} {ats : List Atm} (h : RAts w A ats) (hb : Below w.heap.size w w') : RAts w' A ats := fun h0 => by
  obtain ⟨b, off, e, hlt, hc⟩ := h h0
  refine ⟨b, off, e, Nat.lt_of_lt_of_le hlt hb.size, fun i x hx => ?_⟩
  obtain ⟨c0, c1, c2, Ai, ci, c3, hr⟩ := hc i x hx
  exact ⟨(hb.cell (p := ⟨b, off + i * 4, none⟩) hlt).trans c0, (hb.cell (p := ⟨b, off + i * 4 + 1, none⟩) hlt).trans c1, (hb.cell (p := ⟨b, off + i * 4 + 2, none⟩) hlt).trans c2, Ai, ci, (hb.cell (p := ⟨b, off + i * 4 + 3, none⟩) hlt).trans c3, hr.below (Nat.le_refl _) hb⟩
theorem info_ratom : (Tryz.prog.info? 104).map (·.size) = some 4 := by kernel_rfl
/-- What the inner loop keeps: the row ahead, the row that is filled, the atom's copy. -/
structure InSt (w wr : World) (N g g2 ga : Nat) (F H : Nat → Bool) (x : Atm) (Ai : Option Addr) (ci : Nat) : Prop where
  c : wr.heap[g]? = some (.cells (rowBo F (N + 1)) 4 (0, 0))
  d : wr.heap[g2]? = some (.cells (rowBo H (N + 1)) 4 (0, 0))
  a : wr.heap[ga]? = some (.cells #[.int .i64 x.k, .int .i64 x.r, .bool x.n, .slice Ai x.rs.length ci] 104 (0, 0))
  r : Rgs wr .i64 Ai x.rs
  b : Below w.heap.size w wr
theorem InSt.next {w wr wx : World} {N g g2 ga : Nat} {F H : Nat → Bool} {x : Atm} {Ai : Option Addr} {ci : Nat} (h : InSt w wr N g g2 ga F H x Ai ci) (hb : Below wr.heap.size wr wx) : InSt w wx N g g2 ga F H x Ai ci :=
  ⟨(hb.block _ (lt_of_block h.c)).trans h.c, (hb.block _ (lt_of_block h.d)).trans h.d, (hb.block _ (lt_of_block h.a)).trans h.a, h.r.below (Nat.le_refl _) hb, below_then h.b hb⟩
theorem below_set {w wr : World} (h : Below w.heap.size w wr) {g : Nat} (hg : w.heap.size ≤ g) (i : Nat) (v : Value) : Below w.heap.size w (wr.setCell ⟨g, i, none⟩ v) := h.setCell (p := ⟨g, i, none⟩) hg v
theorem InSt.set {w wr : World} {N g g2 ga : Nat} {F H : Nat → Bool} {x : Atm} {Ai : Option Addr} {ci : Nat} (h : InSt w wr N g g2 ga F H x Ai ci) (h1 : g ≠ g2) (h2 : w.heap.size ≤ g2) (hr : 0 < x.rs.length → ∀ b off, Ai = some ⟨b, off, none⟩ → b < w.heap.size) (i : Nat) (v : Bool) : InSt w (wr.setCell ⟨g2, i, none⟩ (.bool v)) N g g2 ga F (fun p => if p = i then v else H p) x Ai ci := by
  have e := heap_setCell_same wr g2 i _ _ (.bool v) h.d
  rw [rowBo_set] at e
  have hga : ga ≠ g2 := fun e => by
    have h3 := h.a
    rw [e, h.d] at h3
    injection h3 with h3
    injection h3 with _ h3 _
    exact absurd h3 (by decide)
  refine ⟨(heap_setCell_other wr ⟨g2, i, none⟩ g (.bool v) h1).trans h.c, e, (heap_setCell_other wr ⟨g2, i, none⟩ ga (.bool v) hga).trans h.a, fun h0 => ?_, below_set h.b h2 i _⟩
  obtain ⟨b, off, e2, hlt, hc⟩ := h.r h0
  have hb := hr h0 b off e2
  refine ⟨b, off, e2, by simpa [World.setCell] using hlt, fun j hj => ?_⟩
  have key : ∀ q, (wr.setCell ⟨g2, i, none⟩ (.bool v)).cell? ⟨b, q, none⟩ = wr.cell? ⟨b, q, none⟩ := fun q => World.cell?_of_block (a := ⟨b, q, none⟩) (heap_setCell_other wr ⟨g2, i, none⟩ b (.bool v) (by show b ≠ g2; omega))
  exact ⟨(key _).trans (hc j hj).1, (key _).trans (hc j hj).2⟩
end Go.Proofs.YtjnoapbddifcpaaGreatDoor
