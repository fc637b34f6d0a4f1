/-
  What stands behind any bytes: rows of a printed end, and the last end record there.
-/
import Derived.Test.YtlojhklhhdgkcaaTlO
import Derived.Test.YtlojhklhhdgkcaaHdW
namespace Go.Proofs.Ytlojhklhhdgkcaa
set_option maxRecDepth 100000
set_option linter.unusedSimpArgs false
set_option linter.unusedVariables false
open Go.RowKit Go.Joins Go.Deep Go.Op
theorem lastE_of {s : ByteArray} {k : Nat} (hk : k + 22 ≤ s.size) (he : isEnd s k = true) (hn : ∀ j, k < j → j + 22 ≤ s.size → isEnd s j = false) : lastE s = some k := by
  unfold lastE
  rw [if_pos (by omega)]
  have h : ∀ m, k < m → m ≤ s.size - 21 → seekE s m = some k := by
    intro m
    induction m with
    | zero => intro h; omega
    | succ m ih =>
      intro h1 h2
      unfold seekE
      by_cases e : m = k
      · subst e; rw [if_pos he]
      · rw [if_neg (by rw [hn m (by omega) (by omega)]; decide)]
        exact ih (by omega) (by omega)
  exact h _ (by omega) (Nat.le_refl _)
theorem drop_app (p t : ByteArray) : (nums (p ++ t)).drop p.size = nums t := by
  rw [nums_app, ← nums_len p, List.drop_left]
theorem end_row (p c : ByteArray) (n z o : Nat) (hn : n < 65536) (hz : z < 4294967296) (ho : o < 4294967296) (hc : c.size < 65536) :
    rowN (p ++ endT n z o c) p.size wsE = [101010256, 0, 0, n, n, z, o, c.size] ∧ (nums (p ++ endT n z o c)).drop (p.size + 22) = nums c := by
  have h := row_back (p ++ endT n z o c) wsE [101010256, 0, 0, n, n, z, o, c.size] p.size (nums c) rfl (by simp [inW, wsE]; omega) (by rw [drop_app]; unfold endT; rw [nums_app, nums_pr])
  exact h
theorem wide_row (p t : ByteArray) (n z o : Nat) (hn : n < 18446744073709551616) (hz : z < 18446744073709551616) (ho : o < 18446744073709551616) :
    rowN (p ++ (wideT n z o ++ t)) p.size wsW = [101075792, 44, 45, 45, 0, 0, n, n, z, o] ∧ rowN (p ++ (wideT n z o ++ t)) (p.size + 56) wsLo = [117853008, 0, (o + z) % 18446744073709551616, 1] ∧ (nums (p ++ (wideT n z o ++ t))).drop (p.size + 76) = nums t := by
  have h := row_back (p ++ (wideT n z o ++ t)) wsW [101075792, 44, 45, 45, 0, 0, n, n, z, o] p.size (prN [117853008, 0, (o + z) % 18446744073709551616, 1] wsLo ++ nums t) rfl (by simp [inW, wsW]; omega) (by rw [drop_app]; unfold wideT; rw [nums_app, nums_app, nums_pr, nums_pr, List.append_assoc])
  have h2 := row_back (p ++ (wideT n z o ++ t)) wsLo [117853008, 0, (o + z) % 18446744073709551616, 1] (p.size + 56) (nums t) rfl (by simp [inW, wsLo]; omega) h.2
  exact ⟨h.1, h2.1, h2.2⟩
theorem isEnd_end (p c : ByteArray) (n z o : Nat) (hn : n < 65536) (hz : z < 4294967296) (ho : o < 4294967296) (hc : c.size < 65536) : isEnd (p ++ endT n z o c) p.size = true := by
  have h := (end_row p c n z o hn hz ho hc).1
  have h0 : nAt (p ++ endT n z o c) p.size 4 = 101010256 := by injection h
  have h20 : nAt (p ++ endT n z o c) (p.size + 20) 2 = c.size := by
    have := congrArg (fun l => l.getD 7 0) h
    exact this
  unfold isEnd
  rw [h0, h20, ByteArray.size_append, endT_size, decide_eq_true rfl, Bool.true_and, decide_eq_true_iff]
  omega
theorem isEnd_no {s : ByteArray} {j : Nat} (h : nAt s j 4 ≠ 101010256) : isEnd s j = false := by
  unfold isEnd
  rw [decide_eq_false h, Bool.false_and]
/-- A printed end that isn't wide, behind any bytes, is found as it was. -/
theorem back_plain (p c : ByteArray) (n z o : Nat) (hn : n < 65535) (hz : z < 4294967295) (ho : o < 4294967295) (hc : c.size < 65536) (hl : ∀ j, p.size < j → j + 22 ≤ (p ++ endT n z o c).size → nAt (p ++ endT n z o c) j 4 ≠ 101010256) :
    fdE (p ++ endT n z o c) = ((p.size, n, z, o, c, false), 0) := by
  have hsz : (p ++ endT n z o c).size = p.size + (22 + c.size) := by rw [ByteArray.size_append, endT_size]
  have hr := end_row p c n z o (by omega) (by omega) (by omega) hc
  have hla := lastE_of (s := p ++ endT n z o c) (k := p.size) (by omega) (isEnd_end p c n z o (by omega) (by omega) (by omega) hc) (fun j h1 h2 => isEnd_no (hl j h1 h2))
  have hx : (p ++ endT n z o c).extract (p.size + 22) (p ++ endT n z o c).size = c := by
    have h := (tAt_of (s := p ++ endT n z o c) (p := c) (a := p.size + 22) (R := []) (by rw [hr.2, List.append_nil])).1
    unfold tAt at h
    rw [show p.size + 22 + c.size = (p ++ endT n z o c).size by omega] at h
    exact h
  have hg : ∀ i, (rowN (p ++ endT n z o c) p.size wsE).getD i 0 = [101010256, 0, 0, n, n, z, o, c.size].getD i 0 := fun i => by rw [hr.1]
  have g1 : nAt (p ++ endT n z o c) (p.size + 4) 2 = 0 := hg 1
  have g2 : nAt (p ++ endT n z o c) (p.size + 6) 2 = 0 := hg 2
  have g3 : nAt (p ++ endT n z o c) (p.size + 8) 2 = n := hg 3
  have g4 : nAt (p ++ endT n z o c) (p.size + 10) 2 = n := hg 4
  have g5 : nAt (p ++ endT n z o c) (p.size + 12) 4 = z := hg 5
  have g6 : nAt (p ++ endT n z o c) (p.size + 16) 4 = o := hg 6
  unfold fdE
  rw [hla]
  show (if _ then _ else _) = _
  rw [g1, g2, g3, g4, g5, g6, hx]
  rw [if_pos (by unfold alB; simp), if_neg (by unfold asB; simp; omega)]
/-- .. and a wide one. -/
theorem back_wide (p c : ByteArray) (n z o : Nat) (hn : n < 18446744073709551616) (hp : o + z = p.size) (hs : p.size < 18446744073709551616) (hc : c.size < 65536)
    (hl : ∀ j, p.size + 76 < j → j + 22 ≤ (p ++ (wideT n z o ++ endT 65535 4294967295 4294967295 c)).size → nAt (p ++ (wideT n z o ++ endT 65535 4294967295 4294967295 c)) j 4 ≠ 101010256) :
    fdE (p ++ (wideT n z o ++ endT 65535 4294967295 4294967295 c)) = ((p.size, n, z, o, c, true), 0) := by
  have hw := wide_row p (endT 65535 4294967295 4294967295 c) n z o hn (by omega) (by omega)
  have hq : (p ++ wideT n z o).size = p.size + 76 := by rw [ByteArray.size_append, wideT_size]
  have he := end_row (p ++ wideT n z o) c 65535 4294967295 4294967295 (by omega) (by omega) (by omega) hc
  have hi := isEnd_end (p ++ wideT n z o) c 65535 4294967295 4294967295 (by omega) (by omega) (by omega) hc
  rw [hq, ByteArray.append_assoc] at he hi
  have hsz : (p ++ (wideT n z o ++ endT 65535 4294967295 4294967295 c)).size = p.size + 76 + (22 + c.size) := by rw [ByteArray.size_append, ByteArray.size_append, endT_size, wideT_size]; omega
  generalize hT : p ++ (wideT n z o ++ endT 65535 4294967295 4294967295 c) = T at *
  have hla := lastE_of (s := T) (k := p.size + 76) (by omega) hi (fun j h1 h2 => isEnd_no (hl j h1 h2))
  have hx : T.extract (p.size + 76 + 22) T.size = c := by
    have h := (tAt_of (s := T) (p := c) (a := p.size + 76 + 22) (R := []) (by rw [he.2, List.append_nil])).1
    unfold tAt at h
    rw [show p.size + 76 + 22 + c.size = T.size by omega] at h
    exact h
  have hg : ∀ i, (rowN T (p.size + 76) wsE).getD i 0 = [101010256, 0, 0, 65535, 65535, 4294967295, 4294967295, c.size].getD i 0 := fun i => by rw [he.1]
  have hv : ∀ i, (rowN T p.size wsW).getD i 0 = [101075792, 44, 45, 45, 0, 0, n, n, z, o].getD i 0 := fun i => by rw [hw.1]
  have hu : ∀ i, (rowN T (p.size + 56) wsLo).getD i 0 = [117853008, 0, (o + z) % 18446744073709551616, 1].getD i 0 := fun i => by rw [hw.2.1]
  have g1 : nAt T (p.size + 76 + 4) 2 = 0 := hg 1
  have g2 : nAt T (p.size + 76 + 6) 2 = 0 := hg 2
  have g3 : nAt T (p.size + 76 + 8) 2 = 65535 := hg 3
  have g4 : nAt T (p.size + 76 + 10) 2 = 65535 := hg 4
  have g5 : nAt T (p.size + 76 + 12) 4 = 4294967295 := hg 5
  have g6 : nAt T (p.size + 76 + 16) 4 = 4294967295 := hg 6
  have u0 : nAt T (p.size + 56) 4 = 117853008 := hu 0
  have u1 : nAt T (p.size + 56 + 4) 4 = 0 := hu 1
  have u2 : nAt T (p.size + 56 + 8) 8 = p.size := (hu 2).trans (by show (o + z) % _ = _; rw [hp, Nat.mod_eq_of_lt hs])
  have u3 : nAt T (p.size + 56 + 16) 4 = 1 := hu 3
  have v0 : nAt T p.size 4 = 101075792 := hv 0
  have v1 : nAt T (p.size + 4) 8 = 44 := hv 1
  have v4 : nAt T (p.size + 16) 4 = 0 := hv 4
  have v5 : nAt T (p.size + 20) 4 = 0 := hv 5
  have v6 : nAt T (p.size + 24) 8 = n := hv 6
  have v7 : nAt T (p.size + 32) 8 = n := hv 7
  have v8 : nAt T (p.size + 40) 8 = z := hv 8
  have v9 : nAt T (p.size + 48) 8 = o := hv 9
  have ha : p.size + 76 - 20 = p.size + 56 := by omega
  have hd := (fd_doc hla (by rw [g1, g2, g3, g4]; rfl) (by rw [g4, g5, g6]; rfl)).1
  rw [ha, u2, v7, v8, v9, hx] at hd
  apply hd
  unfold WideOk
  rw [ha, u0, u1, u2, u3, v0, v1, v4, v5, v6, v7, v8, v9, g4, g5, g6]
  refine ⟨by omega, ⟨rfl, rfl, rfl, by omega⟩, by omega, ⟨rfl, by omega⟩, ?_, ?_⟩
  · unfold alB; simp
  · unfold agB; simp
end Go.Proofs.Ytlojhklhhdgkcaa
