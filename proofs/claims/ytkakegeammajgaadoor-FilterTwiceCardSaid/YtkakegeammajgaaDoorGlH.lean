/-
  Glob: a text's first rune and the rest; width; is one of some atoms no star.
-/
import Derived.Test.YtkakegeammajgaaDoorGlG
import Derived.Test.YtkakegeammajgaaDoorShelf
namespace Go.Proofs.YtkakegeammajgaaDoor
set_option maxRecDepth 100000
open Go.RowKit Go.Joins Go.Deep

/-- What the two tables of unicode/utf8 hold. -/
def Tabs (w : World) : Prop := Lib.Utf8Tabs 0 1 w
theorem Tabs.below {w w' : World} (h : Tabs w) (hb : Below w.heap.size w w') : Tabs w' := by
  obtain ⟨h1, h2⟩ := h
  exact ⟨fun c hc => cell_below hb (h1 c hc), fun i hi => ⟨cell_below hb (h2 i hi).1, cell_below hb (h2 i hi).2⟩⟩
/-! ### A text's first rune -/
theorem get_drop (s : ByteArray) (k i : Nat) (hk : k ≤ s.size) : (s.extract k s.size).get! i = s.get! (k + i) := by
  have e1 : ∀ (t : ByteArray) (j : Nat), t.get! j = (t.data.toList[j]?).getD 0 := fun t j => by
    cases t with
    | mk d =>
      show d[j]! = _
      rw [getElem!_def, Array.getElem?_toList]
      rfl
  rw [e1, e1, Lib.extract_data, List.getElem?_take, List.getElem?_drop]
  split
  · rfl
  next h =>
    have : s.data.toList[k + i]? = none := List.getElem?_eq_none (by
      have : s.data.toList.length = s.size := rfl
      omega)
    rw [this]
theorem size_drop (s : ByteArray) (k : Nat) : (s.extract k s.size).size = s.size - k := by simp
theorem decode_drop (s : ByteArray) (k p : Nat) (hk : k ≤ s.size) : Utf8.decode (s.extract k s.size) p = Utf8.decode s (k + p) := by
  rw [Lib.decode_at, Lib.decode_at, size_drop, get_drop s k p hk, get_drop s k (p + 1) hk, get_drop s k (p + 2) hk, get_drop s k (p + 3) hk]
  rw [show s.size - k - p = s.size - (k + p) by omega, show k + (p + 1) = k + p + 1 by omega, show k + (p + 2) = k + p + 2 by omega, show k + (p + 3) = k + p + 3 by omega]
theorem runeF_fuel (s : ByteArray) : ∀ f g p, s.size ≤ p + f → s.size ≤ p + g → runeF s f p = runeF s g p
  | 0, g, p, h, _ => by rw [runeF_end s g p (by omega)]; rfl
  | f + 1, 0, p, _, h => by rw [runeF_end s (f + 1) p (by omega)]; rfl
  | f + 1, g + 1, p, h1, h2 => by
    rw [runeF, runeF]
    split
    next hp =>
      have := decode_pos s p hp
      rw [runeF_fuel s f g _ (by omega) (by omega)]
    · rfl
theorem runeF_drop (s : ByteArray) (k : Nat) (hk : k ≤ s.size) : ∀ f p, runeF (s.extract k s.size) f p = runeF s f (k + p)
  | 0, p => rfl
  | f + 1, p => by
    rw [runeF, runeF, size_drop, decode_drop s k p hk, runeF_drop s k hk f]
    by_cases h : p < s.size - k
    · rw [if_pos h, if_pos (by omega), Nat.add_assoc]
    · rw [if_neg h, if_neg (by omega)]
theorem decode_fit (s : ByteArray) (p : Nat) (h : p < s.size) : 1 ≤ (Utf8.decode s p).2 ∧ p + (Utf8.decode s p).2 ≤ s.size ∧ (Utf8.decode s p).1 ≤ 1114111 := by
  rcases decode_run s p h with ⟨h1, h2⟩ | ⟨_, _, h3, h4, h5, _⟩
  · rw [h2]; exact ⟨Nat.le_refl _, h, by show s[p].toNat ≤ _; omega⟩
  · exact ⟨h4, h5, h3⟩
theorem runesB_cons (s : ByteArray) (h : 0 < s.size) : runesB s = (Utf8.decode s 0).1 :: runesB (s.extract (Utf8.decode s 0).2 s.size) := by
  obtain ⟨h1, h2, _⟩ := decode_fit s 0 h
  rw [Nat.zero_add] at h2
  show runeF s s.size 0 = _ :: runeF _ _ 0
  rw [runeF_drop s _ h2, size_drop]
  obtain ⟨m, hm⟩ : ∃ m, s.size = m + 1 := ⟨s.size - 1, by omega⟩
  rw [hm, runeF, if_pos (by omega), Nat.zero_add, Nat.add_zero]
  rw [runeF_fuel s m (m + 1 - (Utf8.decode s 0).2) _ (by omega) (by omega)]
  rfl
theorem runesB_nil (s : ByteArray) (h : s.size = 0) : runesB s = [] := by
  show runeF s s.size 0 = []
  rw [h]
  rfl
theorem runesB_drop1 (s : ByteArray) (h : 0 < s.size) : (runesB s).drop 1 = runesB (s.extract (Utf8.decode s 0).2 s.size) := by
  rw [runesB_cons s h, List.drop_succ_cons, List.drop_zero]
theorem decodeGo_pos (s : ByteArray) (h : 0 < s.size) : Lib.decodeGo s = Utf8.decode s 0 := if_neg (by omega)
theorem width_any (s : ByteArray) (h : 0 < s.size) (w : World) (hT : Tabs w) :
    Calls Tryd.prog 29 #[.string s] w fun e w' => e = .returned (.int .i64 ((Utf8.decode s 0).2 : Nat)) ∧ Below w.heap.size w w' := by
  have HD := Lib.hid (sh_utf8_DecodeRuneInString s w hT)
  rw [decodeGo_pos s h] at HD
  generalize Utf8.decode s 0 = D at *
  clear hT h
  go_enter Tryd.func29, Tryd.ntmps29
  go_wp2_with fail
  refine HD.out.mono ?_; rintro e w1 ⟨rfl, hb⟩
  have HB := Lib.hid hb
  clear hb
  go_wp2_with fail
  go_ret
  exact ⟨rfl, HB.out⟩
theorem clo_atom (x : Atm) (V : Value) (w : World) (_hV : V.oneCell' = true) :
    Calls Tryd.prog 31 #[.agg #[.int .i64 x.k, .int .i32 x.r, .bool x.n, V]] w fun e w' => e = .returned (.bool (x.k != 3)) ∧ Below w.heap.size w w' := by
  go_enter Tryd.func31, Tryd.ntmps31
  go_wp2_with fail
  go_ret
  exact ⟨rfl, below_al w _⟩
set_option maxHeartbeats 4000000 in
theorem indexA_any (ats : List Atm) (A : Option Addr) (c : Nat) (w : World) (hR : Ats w A ats) (hl : ats.length ≤ 1000000) :
    Calls Tryd.prog 35 #[.slice A ats.length c, .func (.func 31) #[] #[]] w fun e w' => ∃ ix : Int, e = .returned (.int .i64 ix) ∧ decide (0 ≤ ix) = ats.any (fun x => x.k != 3) ∧ Below w.heap.size w w' := by
  have hia := info_atom
  have HR := Lib.hid hR
  clear hR
  go_enter Tryd.func35, Tryd.ntmps35
  go_wp2_with fail
  go_loopw [5, 8] (fun _ i wr => ∃ k : Nat, k ≤ ats.length ∧ i = .int .i64 (k : Nat) ∧ Hid ((ats.take k).any (fun x => x.k != 3) = false) ∧ Hid (Below w.heap.size w wr)) (fun _ i _ => ats.length - (intOf i).toNat)
  case atStart => exact ⟨0, Nat.zero_le _, rfl, by show List.any [] _ = _; rfl, Below.refl _ _⟩
  case round =>
    obtain ⟨k, hk, rfl, HF, HB⟩ := hrel
    by_cases hlt : k < ats.length
    · obtain ⟨b, off, rfl, hb, hcc⟩ := HR.out (by omega)
      obtain ⟨c0, c1, c2, Ai, ci, c3, _⟩ := hcc k ats[k] (List.getElem?_eq_getElem hlt)
      have HQ := Lib.hid (any_take ats (fun x => x.k != 3) k hlt)
      have HM := Lib.hid (List.getElem_mem hlt)
      have m : ∀ (i : Nat) (v : Value), w.cell? ⟨b, i, none⟩ = some v → wr.cell? ⟨b, i, none⟩ = some v := fun i v h => (HB.out.cell (p := ⟨b, i, none⟩) hb).trans h
      have d0 := m _ _ c0
      have d1 := m _ _ c1
      have d2 := m _ _ c2
      have d3 := m _ _ c3
      clear c0 c1 c2 c3 m hcc
      generalize ats[k] = x at *
      have HCL := Lib.hid (clo_atom x (.slice Ai x.rs.length ci) wr rfl)
      generalize hV : (x.k != 3) = V at *
      go_wp2_with fail
      refine HCL.out.mono ?_; rintro e w5 ⟨rfl, hb5⟩
      have HB5 := Lib.hid (below_then HB.out hb5)
      clear hb5
      have HVV := Lib.hid hV
      clear hV
      cases V with
      | true =>
        go_wp2_with fail
        go_ret
        refine ⟨(k : Nat), rfl, ?_, HB5.out⟩
        rw [decide_eq_true (by omega)]
        exact (List.any_eq_true.2 ⟨x, HM.out, HVV.out⟩).symm
      | false =>
        go_wp2_with fail
        go_roundw
        case rel => exact ⟨k + 1, by omega, by go_num, by show _ = _; rw [HQ.out, HF.out]; rfl, HB5⟩
        case measure => simp [intOf]; omega
    · obtain rfl : k = ats.length := by omega
      go_wp2_with fail
      go_ret
      refine ⟨-1, rfl, ?_, HB.out⟩
      have h := HF.out
      rw [List.take_length] at h
      exact h.symm
set_option maxHeartbeats 2000000 in
theorem containsA_any (ats : List Atm) (A : Option Addr) (c : Nat) (w : World) (hR : Ats w A ats) (hl : ats.length ≤ 1000000) :
    Calls Tryd.prog 30 #[.slice A ats.length c, .func (.func 31) #[] #[]] w fun e w' => e = .returned (.bool (ats.any (fun x => x.k != 3))) ∧ Below w.heap.size w w' := by
  have HI := Lib.hid (indexA_any ats A c w hR hl)
  clear hR
  go_enter Tryd.func30, Tryd.ntmps30
  go_wp2_with fail
  refine HI.out.mono ?_; rintro e w1 ⟨ix, rfl, hx, hb⟩
  have HX := Lib.hid hx
  have HB := Lib.hid hb
  clear hx hb
  go_wp2_with fail
  go_ret
  exact ⟨by rw [← HX.out]; rfl, HB.out⟩
end Go.Proofs.YtkakegeammajgaaDoor
