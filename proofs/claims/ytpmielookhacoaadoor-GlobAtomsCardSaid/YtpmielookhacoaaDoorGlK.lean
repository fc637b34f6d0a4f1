/-
  Glob, the document's side: Numbers, one, Takes.
-/
import Derived.Test.YtpmielookhacoaaDoorGlJ
namespace Go.Proofs.YtpmielookhacoaaDoor
set_option maxRecDepth 100000
open Go.RowKit Go.Joins Go.Deep

/-- A slice of numbers. -/
def Ins (w : World) (A : Option Addr) (l : List Nat) : Prop := 0 < l.length → ∃ b off, A = some ⟨b, off, none⟩ ∧ b < w.heap.size ∧ ∀ i, i < l.length → w.cell? ⟨b, off + i, none⟩ = some (.int .i64 ((l.getD i 0 : Nat) : Int))
theorem Ins.below {w w' : World} {A : Option Addr} {l : List Nat} (h : Ins w A l) (hb : Below w.heap.size w w') : Ins w' A l := fun h0 => by
  obtain ⟨b, off, e, hlt, hc⟩ := h h0
  exact ⟨b, off, e, Nat.lt_of_lt_of_le hlt hb.size, fun i hi => (hb.cell (p := ⟨b, off + i, none⟩) hlt).trans (hc i hi)⟩
def cellsN (l : List Nat) : List Value := l.map fun x => .int .i64 ((x : Nat) : Int)
theorem ins_of_own {w : World} {B c : Nat} {T : TypeId} {A : Option Addr} {l : List Nat} (h : w.ownsRow B T 1 (.slice A l.length c) l.length (cellsN l)) : Ins w A l := fun h0 => by
  obtain ⟨b, e, hlt, hc⟩ := own_cells h h0
  refine ⟨b, 0, e, hlt, fun i hi => ?_⟩
  rw [Nat.zero_add]
  refine hc i _ ?_
  unfold cellsN
  rw [List.getElem?_map, List.getElem?_eq_getElem hi, List.getD_eq_getElem?_getD, List.getElem?_eq_getElem hi]
  rfl
theorem parts_int : (Tryd.prog.info? 3).map (fun i => (i.zero, i.size, i.bytes)) = some (some (.int .i64 0), 1, 8) := by kernel_rfl
theorem news1 {w : World} {g : Nat} {x : Value} {T : TypeId} (h : w.heap[g]? = some (.cells #[x] T (0, 0))) : ∀ j u, [x][j]? = some u → w.cell? ((⟨g, 0, none⟩ : Addr).add j) = some u := by
  intro j u hj
  rw [Addr.add_lit, Nat.zero_add, cell_of_row w g j _ _ _ h]
  simpa using hj
set_option maxHeartbeats 4000000 in
theorem numbers_any (s : ByteArray) (hs : s.size ≤ 100000) (w : World) :
    Calls Tryd.prog 10 #[.string s] w fun e w' => ∃ A c, e = .returned (.slice A (runesB s).length c) ∧ Ins w' A (runesB s) ∧ Below w.heap.size w w' := by
  obtain ⟨i0, hi, hz0, hz1, hz2⟩ := parts_of parts_int
  obtain ⟨R, hR⟩ : ∃ R, R = runesB s := ⟨_, rfl⟩
  rw [← hR]
  have hrl : R.length ≤ s.size := by rw [hR]; exact runeF_len s s.size 0
  have HR0 : Hid (([] : List Nat) ++ runeF s s.size 0 = R) := hR.symm
  clear hR
  go_enter Tryd.func10, Tryd.ntmps10
  go_wp2_with fail
  go_loopw [3, 4] (fun v i wr => ∃ (p f : Nat) (l : List Nat), i = .int .i64 (p : Nat) ∧ p ≤ s.size ∧ Hid (s.size ≤ p + f) ∧ Hid (l ++ runeF s f p = R) ∧ Hid (wr.ownsRow w.heap.size 3 1 v l.length (cellsN l)) ∧ Hid (Below w.heap.size w wr)) (fun _ i _ => s.size - (intOf i).toNat)
  case atStart => exact ⟨0, s.size, [], rfl, Nat.zero_le _, by show _ ≤ _; omega, HR0, World.ownsRow_nil _ _ _ _, Below.refl _ _⟩
  case round =>
    obtain ⟨p, f, l, rfl, hp, HF, HL, HO, HB⟩ := hrel
    obtain ⟨A2, c2, rfl⟩ := row_slice2 HO.out
    by_cases hlt : p < s.size
    · have HON := Lib.hid (fun w1 => rone_any s p hlt (by omega) w1)
      obtain ⟨d1, d2, d3⟩ := decode_fit s p hlt
      obtain ⟨f', rfl⟩ : ∃ f', f = f' + 1 := ⟨f - 1, by have := HF.out; omega⟩
      have hL := HL.out
      rw [runeF, if_pos hlt] at hL
      have hll : l.length < s.size := by
        have : (l ++ (Utf8.decode s p).1 :: runeF s f' (p + (Utf8.decode s p).2)).length = R.length := by rw [hL]
        rw [List.length_append, List.length_cons] at this
        omega
      have hst : strayAt s p = true → (Utf8.decode s p).1 = 65533 := fun h => by
        unfold strayAt at h
        rw [of_decide_eq_true h]
      have HOR : Hid (oneR s p = if strayAt s p = true then -1 else (((Utf8.decode s p).1 : Nat) : Int)) := rfl
      have HL2 := Lib.hid hL
      generalize (Utf8.decode s p).1 = r at *
      generalize (Utf8.decode s p).2 = k at *
      generalize strayAt s p = T at *
      generalize oneR s p = o at *
      clear hL HL
      have gp : decide ((p : Int) < (s.size : Int)) = true := decide_eq_true (by omega)
      cases T with
      | true =>
        have hr := hst rfl
        have ho := HOR.out
        rw [if_pos rfl] at ho
        subst ho
        subst hr
        have HX7 := Lib.hid (heap_alloc_new wr (.cells #[.int .i64 65533] 3))
        have HO7 := Lib.hid (HO.out.alloc (.cells #[.int .i64 65533] 3))
        have HB7 : Hid (Below w.heap.size w (wr.alloc (.cells #[.int .i64 65533] 3))) := HB.out.alloc HB.out.size _
        have HS7 : Hid (w.heap.size ≤ (wr.alloc (.cells #[.int .i64 65533] 3)).heap.size) := HB7.out.size
        have HLT := Lib.hid HO.out.lt
        clear hst HOR
        go_wp2_with fail
        refine (HON.out _).mono ?_; rintro e w5 ⟨rfl, rfl⟩
        go_wp2_with (at_builtin; go_must (refine wpList_append_own_at _ rfl (.tmp 19) (.tmp 21) _ rfl w.heap.size 3 i0 (.int .i64 0) 1 8 Tryd.underlying39 hi hz0 hz1 hz2 rfl (by decide) (.slice A2 l.length c2) l.length _ rfl HO7.out ⟨w5.heap.size, 0, none⟩ 1 1 [.int .i64 65533] rfl rfl (by exact news1 HX7.out) (by intro u hu; simp at hu; subst hu; rfl) (by unfold maxLen; omega) (by omega) (by exact HS7.out) ?_; intro v' w8 hown' hgrow hnil' hloc; have HO8 := Lib.hid hown'; have HB8 := Lib.hid (HB7.out.grown hgrow HS7.out (fun q hq => (HLT.out q hq).1)); clear hown' hgrow hnil' hloc))
        go_roundw
        case rel =>
          refine ⟨p + k, f', l ++ [65533], by go_num, by omega, by show _ ≤ _; have := HF.out; omega, by show _ = _; rw [← HL2.out]; simp, ?_, HB8⟩
          show World.ownsRow _ _ _ _ _ _ _
          rw [List.length_append]
          unfold cellsN
          rw [List.map_append]
          exact HO8.out
        case measure => simp [intOf]; omega
      | false =>
        have ho := HOR.out
        rw [if_neg (by simp)] at ho
        subst ho
        have HX7 := Lib.hid (heap_alloc_new wr (.cells #[.int .i64 (r : Nat)] 3))
        have HO7 := Lib.hid (HO.out.alloc (.cells #[.int .i64 (r : Nat)] 3))
        have HB7 : Hid (Below w.heap.size w (wr.alloc (.cells #[.int .i64 (r : Nat)] 3))) := HB.out.alloc HB.out.size _
        have HS7 : Hid (w.heap.size ≤ (wr.alloc (.cells #[.int .i64 (r : Nat)] 3)).heap.size) := HB7.out.size
        have HLT := Lib.hid HO.out.lt
        have g0 : decide ((r : Int) < 0) = false := decide_eq_false (by omega)
        clear hst HOR
        go_wp2_with fail
        refine (HON.out _).mono ?_; rintro e w5 ⟨rfl, rfl⟩
        go_wp2_with (at_builtin; go_must (refine wpList_append_own_at _ rfl (.tmp 19) (.tmp 21) _ rfl w.heap.size 3 i0 (.int .i64 0) 1 8 Tryd.underlying39 hi hz0 hz1 hz2 rfl (by decide) (.slice A2 l.length c2) l.length _ rfl HO7.out ⟨w5.heap.size, 0, none⟩ 1 1 [.int .i64 (r : Nat)] rfl rfl (by exact news1 HX7.out) (by intro u hu; simp at hu; subst hu; rfl) (by unfold maxLen; omega) (by omega) (by exact HS7.out) ?_; intro v' w8 hown' hgrow hnil' hloc; have HO8 := Lib.hid hown'; have HB8 := Lib.hid (HB7.out.grown hgrow HS7.out (fun q hq => (HLT.out q hq).1)); clear hown' hgrow hnil' hloc))
        go_roundw
        case rel =>
          refine ⟨p + k, f', l ++ [r], by go_num, by omega, by show _ ≤ _; have := HF.out; omega, by show _ = _; rw [← HL2.out]; simp, ?_, HB8⟩
          show World.ownsRow _ _ _ _ _ _ _
          rw [List.length_append]
          unfold cellsN
          rw [List.map_append]
          exact HO8.out
        case measure => simp [intOf]; omega
    · have hl : l = R := by
        have h := HL.out
        rw [runeF_end s f p hlt, List.append_nil] at h
        exact h
      subst hl
      have gp : decide ((p : Int) < (s.size : Int)) = false := decide_eq_false (by omega)
      go_wp2_with fail
      go_ret
      exact ⟨A2, c2, rfl, ins_of_own HO.out, HB.out⟩
/-! ### one -/
theorem plain_at (l : List Nat) (a : Nat) : (a < l.length ∧ l.getD a 0 = 92 → (a + 1 < l.length → plainF (l.drop a) = (l.getD (a + 1) 0, 2)) ∧ (¬ a + 1 < l.length → plainF (l.drop a) = (0, 0))) ∧ (a < l.length → l.getD a 0 ≠ 92 → plainF (l.drop a) = (l.getD a 0, 1)) ∧ (¬ a < l.length → plainF (l.drop a) = (0, 0)) := by
  have e : ∀ i, (l.drop a).getD i 0 = l.getD (a + i) 0 := fun i => by rw [List.getD_eq_getElem?_getD, List.getElem?_drop, ← List.getD_eq_getElem?_getD]
  have e0 := e 0
  have e1 := e 1
  have hl : (l.drop a).length = l.length - a := List.length_drop
  rw [Nat.add_zero] at e0
  rcases hx : l.drop a with _ | ⟨c, _ | ⟨r, t⟩⟩
  · rw [hx] at hl
    simp at hl
    exact ⟨fun h => by omega, fun h => by omega, fun _ => rfl⟩
  · rw [hx] at hl e0
    change c = _ at e0
    simp only [List.length_cons, List.length_nil] at hl
    refine ⟨fun h => ⟨fun h2 => by omega, fun _ => ?_⟩, fun _ h2 => ?_, fun h => by omega⟩
    · rw [plainF, if_pos (by omega)]
    · rw [plainF, if_neg (by omega), e0]
  · rw [hx] at hl e0 e1
    change c = _ at e0
    change r = _ at e1
    simp only [List.length_cons] at hl
    refine ⟨fun h => ⟨fun h2 => ?_, fun h2 => by omega⟩, fun _ h2 => ?_, fun h => by omega⟩
    · rw [plainF, if_pos (by omega), e1]
    · rw [plainF, if_neg (by omega), e0]
end Go.Proofs.YtpmielookhacoaaDoor
