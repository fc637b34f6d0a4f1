/-
  A wide end whose end record has another number of entries: what is found of it; its bytes.
-/
import Derived.Test.YtlojhklhhdgkcaaTlP
namespace Go.Proofs.Ytlojhklhhdgkcaa
set_option maxRecDepth 100000
set_option linter.unusedSimpArgs false
set_option linter.unusedVariables false
open Go.RowKit Go.Joins Go.Deep Go.Op
/-- The end record alone, behind any bytes. -/
theorem alone_wide (p : ByteArray) : (fdE (p ++ endT 65535 4294967295 4294967295 ⟨#[]⟩)).2 = 31 ∨ ((fdE (p ++ endT 65535 4294967295 4294967295 ⟨#[]⟩)).2 = 0 ∧ 76 ≤ p.size) := by
  have he := end_row p ⟨#[]⟩ 65535 4294967295 4294967295 (by omega) (by omega) (by omega) (by show 0 < 65536; omega)
  have hi := isEnd_end p ⟨#[]⟩ 65535 4294967295 4294967295 (by omega) (by omega) (by omega) (by show 0 < 65536; omega)
  have hsz : (p ++ endT 65535 4294967295 4294967295 ⟨#[]⟩).size = p.size + 22 := by rw [ByteArray.size_append, endT_size]; rfl
  generalize p ++ endT 65535 4294967295 4294967295 ⟨#[]⟩ = T at *
  have hla := lastE_of (s := T) (k := p.size) (by omega) hi (fun j h1 h2 => absurd h2 (by omega))
  have hg : ∀ i, (rowN T p.size wsE).getD i 0 = [101010256, 0, 0, 65535, 65535, 4294967295, 4294967295, (⟨#[]⟩ : ByteArray).size].getD i 0 := fun i => by rw [he.1]
  have g1 : nAt T (p.size + 4) 2 = 0 := hg 1
  have g2 : nAt T (p.size + 6) 2 = 0 := hg 2
  have g3 : nAt T (p.size + 8) 2 = 65535 := hg 3
  have g4 : nAt T (p.size + 10) 2 = 65535 := hg 4
  have g5 : nAt T (p.size + 12) 4 = 4294967295 := hg 5
  have g6 : nAt T (p.size + 16) 4 = 4294967295 := hg 6
  have hd := fd_doc hla (by rw [g1, g2, g3, g4]; rfl) (by rw [g4, g5, g6]; rfl)
  by_cases h : WideOk T p.size
  · refine .inr ⟨by rw [hd.1 h], ?_⟩
    have h1 := h.1
    have h2 := h.2.2.1
    omega
  · exact .inl (by rw [hd.2 h])
/-- .. and behind a wide record, with a number of entries of its own. -/
theorem back_other (p : ByteArray) (n d : Nat) (hn : n < 18446744073709551616) (hd65 : d < 65536) (hs : p.size < 18446744073709551616) :
    ((d = 65535 ∨ d = n) → fdE (p ++ (wideT n 0 p.size ++ endT d 4294967295 4294967295 ⟨#[]⟩)) = ((p.size, n, 0, p.size, ⟨#[]⟩, true), 0)) ∧
    (¬ (d = 65535 ∨ d = n) → fdE (p ++ (wideT n 0 p.size ++ endT d 4294967295 4294967295 ⟨#[]⟩)) = ((0, 0, 0, 0, ⟨#[]⟩, false), 31)) := by
  have hw := wide_row p (endT d 4294967295 4294967295 ⟨#[]⟩) n 0 p.size hn (by omega) (by omega)
  have hq : (p ++ wideT n 0 p.size).size = p.size + 76 := by rw [ByteArray.size_append, wideT_size]
  have he := end_row (p ++ wideT n 0 p.size) ⟨#[]⟩ d 4294967295 4294967295 hd65 (by omega) (by omega) (by show 0 < 65536; omega)
  have hi := isEnd_end (p ++ wideT n 0 p.size) ⟨#[]⟩ d 4294967295 4294967295 hd65 (by omega) (by omega) (by show 0 < 65536; omega)
  rw [hq, ByteArray.append_assoc] at he hi
  have hsz : (p ++ (wideT n 0 p.size ++ endT d 4294967295 4294967295 ⟨#[]⟩)).size = p.size + 98 := by rw [ByteArray.size_append, ByteArray.size_append, endT_size, wideT_size]; rfl
  generalize hT : p ++ (wideT n 0 p.size ++ endT d 4294967295 4294967295 ⟨#[]⟩) = T at *
  have hla := lastE_of (s := T) (k := p.size + 76) (by omega) hi (fun j h1 h2 => absurd h2 (by omega))
  have hx : T.extract (p.size + 76 + 22) T.size = ⟨#[]⟩ := by
    have h := (tAt_of (s := T) (p := ⟨#[]⟩) (a := p.size + 76 + 22) (R := []) (by rw [he.2, List.append_nil])).1
    unfold tAt at h
    rw [show p.size + 76 + 22 + (⟨#[]⟩ : ByteArray).size = T.size by rw [hsz]; rfl] at h
    exact h
  have hg : ∀ i, (rowN T (p.size + 76) wsE).getD i 0 = [101010256, 0, 0, d, d, 4294967295, 4294967295, (⟨#[]⟩ : ByteArray).size].getD i 0 := fun i => by rw [he.1]
  have hv : ∀ i, (rowN T p.size wsW).getD i 0 = [101075792, 44, 45, 45, 0, 0, n, n, 0, p.size].getD i 0 := fun i => by rw [hw.1]
  have hu : ∀ i, (rowN T (p.size + 56) wsLo).getD i 0 = [117853008, 0, (p.size + 0) % 18446744073709551616, 1].getD i 0 := fun i => by rw [hw.2.1]
  have g1 : nAt T (p.size + 76 + 4) 2 = 0 := hg 1
  have g2 : nAt T (p.size + 76 + 6) 2 = 0 := hg 2
  have g3 : nAt T (p.size + 76 + 8) 2 = d := hg 3
  have g4 : nAt T (p.size + 76 + 10) 2 = d := hg 4
  have g5 : nAt T (p.size + 76 + 12) 4 = 4294967295 := hg 5
  have g6 : nAt T (p.size + 76 + 16) 4 = 4294967295 := hg 6
  have u0 : nAt T (p.size + 56) 4 = 117853008 := hu 0
  have u1 : nAt T (p.size + 56 + 4) 4 = 0 := hu 1
  have u2 : nAt T (p.size + 56 + 8) 8 = p.size := (hu 2).trans (by show (p.size + 0) % _ = _; rw [Nat.add_zero, Nat.mod_eq_of_lt hs])
  have u3 : nAt T (p.size + 56 + 16) 4 = 1 := hu 3
  have v0 : nAt T p.size 4 = 101075792 := hv 0
  have v1 : nAt T (p.size + 4) 8 = 44 := hv 1
  have v4 : nAt T (p.size + 16) 4 = 0 := hv 4
  have v5 : nAt T (p.size + 20) 4 = 0 := hv 5
  have v6 : nAt T (p.size + 24) 8 = n := hv 6
  have v7 : nAt T (p.size + 32) 8 = n := hv 7
  have v8 : nAt T (p.size + 40) 8 = 0 := hv 8
  have v9 : nAt T (p.size + 48) 8 = p.size := hv 9
  have ha : p.size + 76 - 20 = p.size + 56 := by omega
  have hd := fd_doc hla (by rw [g1, g2, g3, g4]; unfold alB; simp) (by rw [g4, g5, g6]; unfold asB; simp)
  rw [ha, u2, v7, v8, v9, hx] at hd
  have hiff : WideOk T (p.size + 76) ↔ (d = 65535 ∨ d = n) := by
    unfold WideOk
    rw [ha, u0, u1, u2, u3, v0, v1, v4, v5, v6, v7, v8, v9, g4, g5, g6]
    constructor
    · rintro ⟨_, _, _, _, _, h⟩
      unfold agB at h
      simpa using h
    · intro h
      refine ⟨by omega, ⟨rfl, rfl, rfl, by omega⟩, by omega, ⟨rfl, by omega⟩, ?_, ?_⟩
      · unfold alB; simp
      · unfold agB; simpa using h
  exact ⟨fun h => hd.1 (hiff.2 h), fun h => hd.2 (fun h2 => h (hiff.1 h2))⟩
/-- The text of both. -/
def wdX (p : ByteArray) (n d : Nat) : ByteArray := p ++ (wideT n 0 p.size ++ endT d 4294967295 4294967295 ⟨#[]⟩)
theorem wdX_size (p : ByteArray) (n d : Nat) : (wdX p n d).size = p.size + 98 := by
  unfold wdX
  rw [ByteArray.size_append, ByteArray.size_append, endT_size, wideT_size]; rfl
def byAt (s : ByteArray) (j : Nat) : Nat := (nums s).getD j 0
theorem end_nums (d : Nat) : nums (endT d 4294967295 4294967295 ⟨#[]⟩) = [80, 75, 5, 6, 0, 0, 0, 0, d % 256, d / 256 % 256, d % 256, d / 256 % 256, 255, 255, 255, 255, 255, 255, 255, 255, 0, 0] := by
  unfold endT
  rw [nums_app, nums_pr, show (⟨#[]⟩ : ByteArray).size = 0 from rfl]
  simp [prN, wsE, le, nums]
/-- The one is the other, but for four bytes. -/
theorem wdX_at (p : ByteArray) (n d j : Nat) : byAt (wdX p n d) j = if j = p.size + 84 then d % 256 else if j = p.size + 84 + 1 then d / 256 % 256 else if j = p.size + 84 + 2 then d % 256 else if j = p.size + 84 + 3 then d / 256 % 256 else byAt (wdX p n 65535) j := by
  have hq : (nums (p ++ wideT n 0 p.size)).length = p.size + 76 := by rw [nums_len, ByteArray.size_append, wideT_size]
  have hx : ∀ d, byAt (wdX p n d) j = if j < p.size + 76 then (nums (p ++ wideT n 0 p.size)).getD j 0 else ([80, 75, 5, 6, 0, 0, 0, 0, d % 256, d / 256 % 256, d % 256, d / 256 % 256, 255, 255, 255, 255, 255, 255, 255, 255, 0, 0] : List Nat).getD (j - (p.size + 76)) 0 := by
    intro d
    unfold byAt wdX
    rw [← ByteArray.append_assoc, nums_app, end_nums]
    by_cases h : j < p.size + 76
    · rw [if_pos h, List.getD_eq_getElem?_getD, List.getD_eq_getElem?_getD, List.getElem?_append_left (by omega)]
    · rw [if_neg h, List.getD_eq_getElem?_getD, List.getD_eq_getElem?_getD, List.getElem?_append_right (by omega), hq]
  rw [hx d, hx 65535]
  by_cases h : j < p.size + 76
  · rw [if_pos h, if_pos h, if_neg (by omega), if_neg (by omega), if_neg (by omega), if_neg (by omega)]
  · rw [if_neg h, if_neg h]
    obtain ⟨i, rfl⟩ : ∃ i, j = p.size + 76 + i := ⟨j - (p.size + 76), by omega⟩
    rw [show p.size + 76 + i - (p.size + 76) = i by omega]
    by_cases h8 : i = 8
    · subst h8; rw [if_pos (by omega)]; rfl
    · rw [if_neg (by omega)]
      by_cases h9 : i = 9
      · subst h9; rw [if_pos (by omega)]; rfl
      · rw [if_neg (by omega)]
        by_cases h10 : i = 10
        · subst h10; rw [if_pos (by omega)]; rfl
        · rw [if_neg (by omega)]
          by_cases h11 : i = 11
          · subst h11; rw [if_pos (by omega)]; rfl
          · rw [if_neg (by omega)]
            match i with
            | 0 => rfl
            | 1 => rfl
            | 2 => rfl
            | 3 => rfl
            | 4 => rfl
            | 5 => rfl
            | 6 => rfl
            | 7 => rfl
            | 8 => omega
            | 9 => omega
            | 10 => omega
            | 11 => omega
            | k + 12 => rfl
theorem byAt_toNat (s : ByteArray) (j : Nat) (h : j < s.size) : byAt s j = (s.data.toList[j]'(h)).toNat := by
  unfold byAt nums
  rw [List.getD_eq_getElem?_getD, List.getElem?_map, List.getElem?_eq_getElem (by exact h)]
  rfl
theorem byAt_lt (s : ByteArray) (j : Nat) : byAt s j < 256 := by
  unfold byAt
  rw [List.getD_eq_getElem?_getD]
  cases h : (nums s)[j]? with
  | none => simp
  | some x => exact nums_lt s x (List.mem_of_getElem? h)
end Go.Proofs.Ytlojhklhhdgkcaa
