/-
  Contracts: the signs of lengths and of distances.
  Tokens, what they expand to, and what comes again in a text: by mathematics.
-/
import Derived.Test.YtmkeicfklbepnaaGreatPkBC
import Derived.Test.YtmkeicfklbepnaaGreatPkAC

namespace Go.Proofs.YtmkeicfklbepnaaGreat
set_option maxRecDepth 100000
open Go.RowKit Go.Deep Go.Joins

/-- The last number, up to one, that is such. -/
def lastP (q : Nat → Bool) : Nat → Nat
  | 0 => 0
  | k + 1 => if q (k + 1) then k + 1 else lastP q k
theorem lastP_le (q : Nat → Bool) : ∀ m, lastP q m ≤ m
  | 0 => Nat.le_refl _
  | m + 1 => by rw [lastP]; split; exact Nat.le_refl _; have := lastP_le q m; omega
theorem lastP_no (q : Nat → Bool) : ∀ m j, lastP q m < j → j ≤ m → q j = false
  | 0, j, h, hj => by omega
  | m + 1, j, h, hj => by
    rw [lastP] at h
    split at h
    · omega
    · rename_i hq
      by_cases e : j = m + 1
      · subst e; simpa using hq
      · exact lastP_no q m j h (by omega)
theorem lastP_eq (q : Nat → Bool) (m k : Nat) (hk : k ≤ m) (hq : q k = true ∨ k = 0) (hn : ∀ j, k < j → j ≤ m → q j = false) : lastP q m = k := by
  induction m with
  | zero => rw [lastP]; omega
  | succ m ih =>
    rw [lastP]
    by_cases e : k = m + 1
    · subst e
      rcases hq with h | h
      · rw [if_pos h]
      · omega
    · rw [if_neg (by rw [hn (m + 1) (by omega) (by omega)]; decide)]
      exact ih (by omega) fun j h1 h2 => hn j h1 (by omega)
/-- The sign of a length that may be. -/
def lsg (n : Nat) : Nat := lastP (fun k => decide (257 ≤ k ∧ (lenOf k).1 ≤ n)) 285
def dsg (n : Nat) : Nat := lastP (fun k => decide ((distOf k).1 ≤ n)) 29
theorem lsg_ok : ∀ n, n < 259 → 3 ≤ n → 257 ≤ lsg n ∧ lsg n ≤ 285 ∧ (lenOf (lsg n)).1 ≤ n ∧ n < (lenOf (lsg n)).1 + 2 ^ (lenOf (lsg n)).2 ∧ ((lsg n = 285) = (n = 258)) := by decide +kernel
theorem dsg_ok (n : Nat) (h1 : 1 ≤ n) (h2 : n ≤ 32768) : dsg n ≤ 29 ∧ fbN (dsg n) ≤ n ∧ n < fbN (dsg n + 1) := by
  have hd : ∀ k, k < 30 → distOf k = (fbN k, fmN k) := fun k hk => (fb_step k hk).2.2.2.2.2
  have hle : dsg n ≤ 29 := lastP_le _ _
  have h30 : fbN 30 = 32769 := by decide +kernel
  have h0 : fbN 0 = 1 := by decide +kernel
  refine ⟨hle, ?_, ?_⟩
  · by_cases e : dsg n = 0
    · rw [e, h0]; exact h1
    · have : ∀ m, lastP (fun k => decide ((distOf k).1 ≤ n)) m ≠ 0 → (distOf (lastP (fun k => decide ((distOf k).1 ≤ n)) m)).1 ≤ n := fun m => by
        induction m with
        | zero => intro h; exact absurd rfl h
        | succ m ih =>
          intro h
          rw [lastP] at h ⊢
          split
          · rename_i hq; exact of_decide_eq_true hq
          · rename_i hq; rw [if_neg hq] at h; exact ih h
      have h3 := this 29 e
      rw [hd _ (by show dsg n < 30; omega)] at h3
      exact h3
  · by_cases e : dsg n = 29
    · rw [e, h30]; omega
    · have h3 := lastP_no (fun k => decide ((distOf k).1 ≤ n)) 29 (dsg n + 1) (Nat.lt_succ_self _) (by omega)
      have h4 := of_decide_eq_false h3
      rw [hd _ (by omega)] at h4
      simp only at h4
      omega

set_option maxHeartbeats 4000000 in
theorem within_len (n s0 k : Nat) (hk : k ≤ s0) (h1 : (lenOf k).1 ≤ n) (h2 : ∀ j, k < j → j ≤ s0 → n < (lenOf j).1) (hs : s0 ≤ 300) (hn : n ≤ 40000) (w : World) :
    Calls Tryz.prog 103 #[.int .i64 (n : Nat), .int .i64 (s0 : Nat), .func (.func 94) #[] #[]] w fun e w' => e = .returned (.tuple #[.int .i64 (k : Nat), .int .i64 ((lenOf k).2 : Nat), .int .u32 ((n - (lenOf k).1 : Nat) : Int)]) ∧ w = w' := by
  have HF : Hid (∀ x : Nat, ∀ W : World, Calls Tryz.prog 94 #[.int .i64 (x : Nat)] W fun e w' => e = .returned (.tuple #[.int .i64 ((lenOf x).1 : Nat), .int .i64 ((lenOf x).2 : Nat)]) ∧ W = w') := fun x W => by
    have h := lengths_any (x : Nat) W
    rw [Int.toNat_natCast] at h
    exact h
  have H2 := Lib.hid h2
  clear h2
  go_enter Tryz.func103, Tryz.ntmps103
  go_wp2_with fail
  refine (HF.out s0 _).mono ?_; rintro e w1 ⟨rfl, rfl⟩
  go_wp2_with fail
  go_loop [1, 9, 10] (fun sg l m => ∃ j : Nat, k ≤ j ∧ j ≤ s0 ∧ sg = .int .i64 (j : Nat) ∧ l = .int .i64 ((lenOf j).1 : Nat) ∧ m = .int .i64 ((lenOf j).2 : Nat)) (fun sg _ _ => (intOf sg).toNat)
  case atStart => exact ⟨s0, hk, Nat.le_refl _, rfl, rfl, rfl⟩
  case round =>
    obtain ⟨j, hkj, hjs, rfl, rfl, rfl⟩ := hrel
    by_cases e : j = k
    · subst e
      have g1 : decide ((n : Int) < ((lenOf j).1 : Int)) = false := decide_eq_false (by omega)
      have hsub : ((n : Int) - ((lenOf j).1 : Int)) = ((n - (lenOf j).1 : Nat) : Int) := by omega
      have hw : IntKind.u32.wrap ((n - (lenOf j).1 : Nat) : Int) = ((n - (lenOf j).1 : Nat) : Int) := by rw [IntKind.wrap_u32]; omega
      have hw2 : IntKind.i64.wrap ((n - (lenOf j).1 : Nat) : Int) = ((n - (lenOf j).1 : Nat) : Int) := by rw [IntKind.wrap_i64]; omega
      have HS := Lib.hid hsub
      go_wp2
      all_goals
        go_ret3
        rw [← HS.out]
        exact ⟨rfl, rfl⟩
    · have hlt := H2.out j (by omega) hjs
      have g1 : decide ((n : Int) < ((lenOf j).1 : Int)) = true := decide_eq_true (by omega)
      have g2 : decide (n < (lenOf j).1) = true := decide_eq_true hlt
      obtain ⟨i, hi, hi2⟩ : ∃ i : Nat, ((j : Int) - 1) = (i : Int) ∧ i = j - 1 := ⟨j - 1, by omega, rfl⟩
      have hwi : IntKind.i64.wrap (i : Int) = (i : Int) := by rw [IntKind.wrap_i64]; omega
      have hki : k ≤ i ∧ i ≤ s0 ∧ i < j := by omega
      clear hi2
      go_wp2_with fail
      refine (HF.out i _).mono ?_; rintro e w2 ⟨rfl, rfl⟩
      go_wp2_with fail
      go_round
      case rel => exact ⟨i, hki.1, hki.2.1, rfl, rfl, rfl⟩
      case measure => simp [intOf]; omega
set_option maxHeartbeats 4000000 in
theorem within_dist (n s0 k : Nat) (hk : k ≤ s0) (h1 : (distOf k).1 ≤ n) (h2 : ∀ j, k < j → j ≤ s0 → n < (distOf j).1) (hs : s0 ≤ 300) (hn : n ≤ 40000) (w : World) :
    Calls Tryz.prog 103 #[.int .i64 (n : Nat), .int .i64 (s0 : Nat), .func (.func 95) #[] #[]] w fun e w' => e = .returned (.tuple #[.int .i64 (k : Nat), .int .i64 ((distOf k).2 : Nat), .int .u32 ((n - (distOf k).1 : Nat) : Int)]) ∧ w = w' := by
  have HF : Hid (∀ x : Nat, ∀ W : World, Calls Tryz.prog 95 #[.int .i64 (x : Nat)] W fun e w' => e = .returned (.tuple #[.int .i64 ((distOf x).1 : Nat), .int .i64 ((distOf x).2 : Nat)]) ∧ W = w') := fun x W => by
    have h := distances_any (x : Nat) W
    rw [Int.toNat_natCast, if_neg (by omega), if_neg (by omega)] at h
    exact h
  have H2 := Lib.hid h2
  clear h2
  go_enter Tryz.func103, Tryz.ntmps103
  go_wp2_with fail
  refine (HF.out s0 _).mono ?_; rintro e w1 ⟨rfl, rfl⟩
  go_wp2_with fail
  go_loop [1, 9, 10] (fun sg l m => ∃ j : Nat, k ≤ j ∧ j ≤ s0 ∧ sg = .int .i64 (j : Nat) ∧ l = .int .i64 ((distOf j).1 : Nat) ∧ m = .int .i64 ((distOf j).2 : Nat)) (fun sg _ _ => (intOf sg).toNat)
  case atStart => exact ⟨s0, hk, Nat.le_refl _, rfl, rfl, rfl⟩
  case round =>
    obtain ⟨j, hkj, hjs, rfl, rfl, rfl⟩ := hrel
    by_cases e : j = k
    · subst e
      have g1 : decide ((n : Int) < ((distOf j).1 : Int)) = false := decide_eq_false (by omega)
      have hsub : ((n : Int) - ((distOf j).1 : Int)) = ((n - (distOf j).1 : Nat) : Int) := by omega
      have hw : IntKind.u32.wrap ((n - (distOf j).1 : Nat) : Int) = ((n - (distOf j).1 : Nat) : Int) := by rw [IntKind.wrap_u32]; omega
      have hw2 : IntKind.i64.wrap ((n - (distOf j).1 : Nat) : Int) = ((n - (distOf j).1 : Nat) : Int) := by rw [IntKind.wrap_i64]; omega
      have HS := Lib.hid hsub
      go_wp2
      all_goals
        go_ret3
        rw [← HS.out]
        exact ⟨rfl, rfl⟩
    · have hlt := H2.out j (by omega) hjs
      have g1 : decide ((n : Int) < ((distOf j).1 : Int)) = true := decide_eq_true (by omega)
      have g2 : decide (n < (distOf j).1) = true := decide_eq_true hlt
      obtain ⟨i, hi, hi2⟩ : ∃ i : Nat, ((j : Int) - 1) = (i : Int) ∧ i = j - 1 := ⟨j - 1, by omega, rfl⟩
      have hwi : IntKind.i64.wrap (i : Int) = (i : Int) := by rw [IntKind.wrap_i64]; omega
      have hki : k ≤ i ∧ i ≤ s0 ∧ i < j := by omega
      clear hi2
      go_wp2_with fail
      refine (HF.out i _).mono ?_; rintro e w2 ⟨rfl, rfl⟩
      go_wp2_with fail
      go_round
      case rel => exact ⟨i, hki.1, hki.2.1, rfl, rfl, rfl⟩
      case measure => simp [intOf]; omega

/-- What is told of a length, of a distance. -/
def lenT (n : Int) : Int × Int × Int := if 3 ≤ n ∧ n ≤ 258 then ((lsg n.toNat : Nat), ((lenOf (lsg n.toNat)).2 : Nat), ((n.toNat - (lenOf (lsg n.toNat)).1 : Nat) : Int)) else (0, 0, 0)
def dstT (n : Int) : Int × Int × Int := if 1 ≤ n ∧ n ≤ 32768 then ((dsg n.toNat : Nat), ((distOf (dsg n.toNat)).2 : Nat), ((n.toNat - (distOf (dsg n.toNat)).1 : Nat) : Int)) else (-1, 0, 0)
theorem lenT_in (n : Nat) (h : 3 ≤ n ∧ n ≤ 258) : lenT n = (((lsg n : Nat) : Int), (((lenOf (lsg n)).2 : Nat) : Int), ((n - (lenOf (lsg n)).1 : Nat) : Int)) := by
  unfold lenT; rw [if_pos (by omega), Int.toNat_natCast]
theorem dstT_in (n : Nat) (h : 1 ≤ n ∧ n ≤ 32768) : dstT n = (((dsg n : Nat) : Int), (((distOf (dsg n)).2 : Nat) : Int), ((n - (distOf (dsg n)).1 : Nat) : Int)) := by
  unfold dstT; rw [if_pos (by omega), Int.toNat_natCast]
theorem dist_of (k : Nat) (hk : k < 30) : distOf k = (fbN k, fmN k) := (fb_step k hk).2.2.2.2.2
set_option maxHeartbeats 4000000 in
theorem blen_any (n : Int) (w : World) : Calls Tryz.prog 84 #[.int .i64 n] w fun e w' => e = .returned (.tuple #[.int .i64 (lenT n).1, .int .i64 (lenT n).2.1, .int .u32 (lenT n).2.2]) ∧ w = w' := by
  by_cases h : 3 ≤ n ∧ n ≤ 258
  · obtain ⟨m, rfl⟩ : ∃ m : Nat, n = (m : Nat) := ⟨n.toNat, by omega⟩
    have hm : 3 ≤ m ∧ m ≤ 258 := by omega
    obtain ⟨q1, q2, q3, q4, _⟩ := lsg_ok m (by omega) hm.1
    have HW := Lib.hid (within_len m 285 (lsg m) q2 q3 (fun j h1 h2 => by
      have := of_decide_eq_false (lastP_no (fun k => decide (257 ≤ k ∧ (lenOf k).1 ≤ m)) 285 j h1 h2)
      omega) (by omega) (by omega) w)
    rw [lenT_in m hm]
    have g1 : decide ((m : Int) < 3) = false := decide_eq_false (by omega)
    have g2 : decide ((258 : Int) < (m : Int)) = false := decide_eq_false (by omega)
    have g3 : decide (258 < m) = false := decide_eq_false (by omega)
    generalize lsg m = sg at *
    generalize lenOf sg = le at *
    clear h hm
    go_enter Tryz.func84, Tryz.ntmps84
    go_wp2_with fail
    refine (HW.out).mono ?_; rintro e w1 ⟨rfl, rfl⟩
    go_wp2
    go_ret3
    exact ⟨rfl, rfl⟩
  · have hT : lenT n = (0, 0, 0) := if_neg h
    rw [hT]
    by_cases h3 : n < 3
    · have g1 : decide (n < 3) = true := decide_eq_true h3
      go_enter Tryz.func84, Tryz.ntmps84
      go_wp2
      go_ret3
      exact ⟨rfl, rfl⟩
    · have g1 : decide (n < 3) = false := decide_eq_false h3
      have g2 : decide (258 < n) = true := decide_eq_true (by omega)
      go_enter Tryz.func84, Tryz.ntmps84
      go_wp2
      go_ret3
      exact ⟨rfl, rfl⟩
set_option maxHeartbeats 4000000 in
theorem bdist_any (n : Int) (w : World) : Calls Tryz.prog 86 #[.int .i64 n] w fun e w' => e = .returned (.tuple #[.int .i64 (dstT n).1, .int .i64 (dstT n).2.1, .int .u32 (dstT n).2.2]) ∧ w = w' := by
  by_cases h : 1 ≤ n ∧ n ≤ 32768
  · obtain ⟨m, rfl⟩ : ∃ m : Nat, n = (m : Nat) := ⟨n.toNat, by omega⟩
    have hm : 1 ≤ m ∧ m ≤ 32768 := by omega
    obtain ⟨q1, q2, q3⟩ := dsg_ok m (by omega) (by omega)
    have HW := Lib.hid (within_dist m 29 (dsg m) q1 (by rw [dist_of _ (by omega)]; exact q2) (fun j h1 h2 => by
      have := of_decide_eq_false (lastP_no (fun k => decide ((distOf k).1 ≤ m)) 29 j h1 h2)
      omega) (by omega) (by omega) w)
    rw [dstT_in m hm]
    have g1 : decide ((m : Int) < 1) = false := decide_eq_false (by omega)
    have g2 : decide ((32768 : Int) < (m : Int)) = false := decide_eq_false (by omega)
    have g3 : decide (32768 < m) = false := decide_eq_false (by omega)
    have g4 : ¬ m = 0 := by omega
    generalize dsg m = sg at *
    generalize distOf sg = le at *
    clear h hm q2 q3
    go_enter Tryz.func86, Tryz.ntmps86
    go_wp2_with fail
    refine (HW.out).mono ?_; rintro e w1 ⟨rfl, rfl⟩
    go_wp2
    go_ret3
    exact ⟨rfl, rfl⟩
  · have hT : dstT n = (-1, 0, 0) := if_neg h
    rw [hT]
    by_cases h3 : n < 1
    · have g1 : decide (n < 1) = true := decide_eq_true h3
      go_enter Tryz.func86, Tryz.ntmps86
      go_wp2
      go_ret3
      exact ⟨rfl, rfl⟩
    · have g1 : decide (n < 1) = false := decide_eq_false h3
      have g2 : decide (32768 < n) = true := decide_eq_true (by omega)
      go_enter Tryz.func86, Tryz.ntmps86
      go_wp2
      go_ret3
      exact ⟨rfl, rfl⟩
end Go.Proofs.YtmkeicfklbepnaaGreat

namespace Go.Proofs.YtmkeicfklbepnaaGreat

/-- A token. -/
structure Tok where
  b : Nat
  l : Int
  d : Int
def rightT (t : Tok) : Bool := if t.l = 0 then decide (t.d = 0) else decide (t.b = 0 ∧ 3 ≤ t.l ∧ t.l ≤ 258 ∧ 1 ≤ t.d ∧ t.d ≤ 32768)
def widT (t : Tok) : Int := max t.l 1
/-- What is wrong with a token behind so many bytes. -/
def fitsT (t : Tok) (m : Nat) : Nat := if rightT t = false then 8 else if (m : Int) < t.d then 11 else if 1048576 - (m : Int) < widT t then 14 else 0
def copyT (o : List Nat) (d : Nat) : Nat → List Nat
  | 0 => o
  | k + 1 => copyT o d k ++ [(copyT o d k).getD ((copyT o d k).length - d) 0]
def stepT (o : List Nat) (t : Tok) : List Nat := if t.l = 0 then o ++ [t.b] else copyT o t.d.toNat t.l.toNat
/-- The text of the first so many tokens. -/
def expO (f : Nat → Tok) : Nat → List Nat
  | 0 => []
  | k + 1 => stepT (expO f k) (f k)
/-- What is wrong with them first. -/
def expE (f : Nat → Tok) : Nat → Nat
  | 0 => 0
  | k + 1 => if expE f k = 0 then fitsT (f k) (expO f k).length else expE f k

theorem copyT_len (o : List Nat) (d k : Nat) : (copyT o d k).length = o.length + k := by
  induction k with
  | zero => rfl
  | succ k ih => rw [copyT, List.length_append, ih]; simp; omega
theorem copyT_lt (o : List Nat) (d k : Nat) (h : ∀ x ∈ o, x < 256) : ∀ x ∈ copyT o d k, x < 256 := by
  induction k with
  | zero => exact h
  | succ k ih =>
    intro x hx
    rw [copyT, List.mem_append] at hx
    rcases hx with hx | hx
    · exact ih x hx
    · simp only [List.mem_singleton] at hx
      subst hx
      rw [List.getD_eq_getElem?_getD]
      by_cases hl : (copyT o d k).length - d < (copyT o d k).length
      · rw [List.getElem?_eq_getElem hl]; exact ih _ (List.getElem_mem hl)
      · rw [List.getElem?_eq_none (by omega)]; decide
theorem stepT_lt (o : List Nat) (t : Tok) (h : ∀ x ∈ o, x < 256) (hb : t.b < 256) : ∀ x ∈ stepT o t, x < 256 := by
  unfold stepT
  split
  · intro x hx
    rcases List.mem_append.1 hx with hx | hx
    · exact h x hx
    · simp only [List.mem_singleton] at hx; omega
  · exact copyT_lt o _ _ h
theorem stepT_len (o : List Nat) (t : Tok) (h : 0 ≤ t.l) : ((stepT o t).length : Int) = o.length + widT t := by
  unfold stepT widT
  split
  · rename_i h0; simp only [h0, List.length_append, List.length_singleton]; omega
  · rw [copyT_len]; omega
theorem expO_lt (f : Nat → Tok) (n : Nat) (h : ∀ i, i < n → (f i).b < 256) : ∀ x ∈ expO f n, x < 256 := by
  induction n with
  | zero => intro x hx; cases hx
  | succ k ih => exact stepT_lt _ _ (ih fun i hi => h i (by omega)) (h k (by omega))
theorem fits_zero {t : Tok} {m : Nat} (h : fitsT t m = 0) : rightT t = true ∧ t.d ≤ m ∧ m + widT t ≤ 1048576 := by
  unfold fitsT at h
  cases hr : rightT t with
  | false => simp [hr] at h
  | true =>
    simp only [hr, Bool.true_eq_false, if_false] at h
    split at h
    · omega
    · split at h
      · omega
      · exact ⟨rfl, by omega, by omega⟩
theorem right_pos {t : Tok} (h : rightT t = true) : 0 ≤ t.l ∧ t.l ≤ 258 := by
  unfold rightT at h
  split at h
  · rename_i h0; omega
  · have := of_decide_eq_true h; omega
theorem right_copy {t : Tok} (h : rightT t = true) (h0 : t.l ≠ 0) : t.b = 0 ∧ 3 ≤ t.l ∧ t.l ≤ 258 ∧ 1 ≤ t.d ∧ t.d ≤ 32768 := by
  unfold rightT at h
  rw [if_neg h0] at h
  exact of_decide_eq_true h
theorem right_byte {t : Tok} (h : rightT t = true) (h0 : t.l = 0) : t.d = 0 := by
  unfold rightT at h
  rw [if_pos h0] at h
  exact of_decide_eq_true h
theorem expE_pre (f : Nat → Tok) (n k : Nat) (hk : k ≤ n) (h : expE f n = 0) : expE f k = 0 := by
  induction n with
  | zero => obtain rfl : k = 0 := by omega
            exact h
  | succ n ih =>
    by_cases e : k = n + 1
    · subst e; exact h
    · refine ih (by omega) ?_
      rw [expE] at h
      by_cases h0 : expE f n = 0
      · exact h0
      · rw [if_neg h0] at h; exact h
/-- A text's byte. -/
def bt (s : ByteArray) (i : Nat) : Nat := (nums s).getD i 0
theorem bt_lt (s : ByteArray) (i : Nat) : bt s i < 256 := by
  unfold bt
  rw [List.getD_eq_getElem?_getD]
  by_cases h : i < (nums s).length
  · rw [List.getElem?_eq_getElem h]; exact nums_lt s _ (List.getElem_mem h)
  · rw [List.getElem?_eq_none (by omega)]; decide
theorem bt_get (s : ByteArray) (i : Nat) (h : i < s.size) : (s[i].toNat : Int) = (bt s i : Nat) := by
  unfold bt
  rw [List.getD_eq_getElem?_getD, nums_get s i h]
  rfl

/-- Where three bytes in a row begin, among the first places. -/
def places (a : Nat → Nat) (x y z : Nat) : Nat → List Nat
  | 0 => []
  | k + 1 => if a k = x ∧ a (k + 1) = y ∧ a (k + 2) = z then places a x y z k ++ [k] else places a x y z k
theorem places_mem (a : Nat → Nat) (x y z : Nat) : ∀ m i, i ∈ places a x y z m ↔ i < m ∧ a i = x ∧ a (i + 1) = y ∧ a (i + 2) = z
  | 0, i => by simp [places]
  | m + 1, i => by
    rw [places]
    have ih := places_mem a x y z m i
    split
    · rename_i h
      rw [List.mem_append, ih, List.mem_singleton]
      constructor
      · rintro (⟨h1, h2⟩ | rfl)
        · exact ⟨by omega, h2⟩
        · exact ⟨by omega, h⟩
      · rintro ⟨h1, h2⟩
        by_cases e : i = m
        · exact .inr e
        · exact .inl ⟨by omega, h2⟩
    · rename_i h
      rw [ih]
      constructor
      · rintro ⟨h1, h2⟩; exact ⟨by omega, h2⟩
      · rintro ⟨h1, h2⟩
        refine ⟨?_, h2⟩
        by_cases e : i = m
        · subst e; exact absurd h2 h
        · omega
theorem places_len (a : Nat → Nat) (x y z m : Nat) : (places a x y z m).length ≤ m := by
  induction m with
  | zero => simp [places]
  | succ m ih =>
    rw [places]
    split
    · rw [List.length_append, List.length_singleton]; omega
    · omega

/-- The last number below that is one of these. -/
def lastB (q : Nat → Bool) : Nat → Option Nat
  | 0 => none
  | k + 1 => if q k then some k else lastB q k
theorem lastB_some {q : Nat → Bool} {i : Nat} : ∀ {m : Nat}, lastB q m = some i → i < m ∧ q i = true
  | 0, h => by cases h
  | m + 1, h => by
    rw [lastB] at h
    split at h
    · rename_i hq; cases h; exact ⟨by omega, hq⟩
    · have := lastB_some h; exact ⟨by omega, this.2⟩
theorem lastB_congr {q r : Nat → Bool} : ∀ m, (∀ i, i < m → q i = r i) → lastB q m = lastB r m
  | 0, _ => rfl
  | m + 1, h => by rw [lastB, lastB, h m (by omega), lastB_congr m fun i hi => h i (by omega)]
def same3 (a : Nat → Nat) (i j : Nat) : Bool := decide (a i = a j ∧ a (i + 1) = a (j + 1) ∧ a (i + 2) = a (j + 2))
/-- The last place ahead at which the same triple begins. -/
def prevT (a : Nat → Nat) (p : Nat) : Option Nat := lastB (fun i => same3 a i p) p
def befT (a : Nat → Nat) (n p : Nat) : Int := if p + 2 < n then (match prevT a p with | some i => (i : Int) | none => -1) else -1
theorem places_last (a : Nat → Nat) (x y z : Nat) : ∀ m, (places a x y z m).getLast? = lastB (fun i => decide (a i = x ∧ a (i + 1) = y ∧ a (i + 2) = z)) m
  | 0 => rfl
  | m + 1 => by
    rw [places, lastB]
    by_cases h : a m = x ∧ a (m + 1) = y ∧ a (m + 2) = z
    · rw [if_pos h, if_pos (by simpa using h)]; simp
    · rw [if_neg h, if_neg (by simpa using h)]
      exact places_last a x y z m
/-- Behind each place of a triple stands the next one. -/
theorem places_prev (a : Nat → Nat) (x y z : Nat) : ∀ m i p, (places a x y z m)[i]? = some p → prevT a p = if i = 0 then none else (places a x y z m)[i - 1]?
  | 0, i, p, h => by simp [places] at h
  | m + 1, i, p, h => by
    rw [places] at h
    rw [places]
    by_cases hm : a m = x ∧ a (m + 1) = y ∧ a (m + 2) = z
    · rw [if_pos hm] at h ⊢
      by_cases hi : i < (places a x y z m).length
      · rw [List.getElem?_append_left hi] at h
        rw [places_prev a x y z m i p h]
        split
        · rfl
        · rw [List.getElem?_append_left (by omega)]
      · have hi2 : i < (places a x y z m ++ [m]).length := (List.getElem?_eq_some_iff.1 h).1
        have hil : i = (places a x y z m).length := by simp at hi2; omega
        subst hil
        rw [List.getElem?_append_right (by omega)] at h
        simp at h
        subst h
        have e1 : prevT a m = (places a x y z m).getLast? := by
          rw [places_last]
          unfold prevT
          refine lastB_congr m fun i _ => ?_
          unfold same3
          rw [hm.1, hm.2.1, hm.2.2]
        rw [e1]
        split
        · rename_i h0; rw [List.eq_nil_of_length_eq_zero h0]; rfl
        · rw [List.getElem?_append_left (by omega), List.getLast?_eq_getElem?]
    · rw [if_neg hm] at h ⊢
      exact places_prev a x y z m i p h
theorem prev_spec {a : Nat → Nat} {p i : Nat} (h : prevT a p = some i) : i < p ∧ a i = a p ∧ a (i + 1) = a (p + 1) ∧ a (i + 2) = a (p + 2) := by
  obtain ⟨h1, h2⟩ := lastB_some h
  exact ⟨h1, of_decide_eq_true h2⟩
theorem bef_spec {a : Nat → Nat} {n p : Nat} (h : 0 ≤ befT a n p) : befT a n p = ((befT a n p).toNat : Nat) ∧ (befT a n p).toNat < p ∧ p + 2 < n ∧ a (befT a n p).toNat = a p ∧ a ((befT a n p).toNat + 1) = a (p + 1) ∧ a ((befT a n p).toNat + 2) = a (p + 2) := by
  unfold befT at h ⊢
  split at h
  · rename_i hn
    rw [if_pos hn]
    cases hp : prevT a p with
    | none => rw [hp] at h; simp at h
    | some i =>
      obtain ⟨h1, h2⟩ := prev_spec hp
      simp only [Int.toNat_natCast]
      exact ⟨trivial, h1, hn, h2⟩
  · omega
theorem bef_lt (a : Nat → Nat) (n p : Nat) : -1 ≤ befT a n p ∧ befT a n p < p ∨ befT a n p = -1 := by
  by_cases h : 0 ≤ befT a n p
  · have := bef_spec h; omega
  · right
    unfold befT at h ⊢
    split
    · rename_i hn
      rw [if_pos hn] at h
      cases hp : prevT a p with
      | none => rfl
      | some i => rw [hp] at h; exact absurd (Int.natCast_nonneg i) h
    · rfl

/-- How many numbers from 0 on are such, of so many. -/
def alF (q : Nat → Bool) : Nat → Nat
  | 0 => 0
  | m + 1 => if alF q m = m ∧ q m = true then m + 1 else alF q m
theorem alF_le (q : Nat → Bool) (m : Nat) : alF q m ≤ m := by
  induction m with
  | zero => exact Nat.le_refl _
  | succ m ih => rw [alF]; split <;> omega
theorem alF_all (q : Nat → Bool) (m i : Nat) (h : i < alF q m) : q i = true := by
  induction m with
  | zero => simp [alF] at h
  | succ m ih =>
    rw [alF] at h
    split at h
    · rename_i hm
      by_cases e : i = m
      · subst e; exact hm.2
      · exact ih (by omega)
    · exact ih h
theorem alF_eq (q : Nat → Bool) (m k : Nat) (h : ∀ i, i < k → q i = true) (hk : k ≤ m) (hs : k = m ∨ q k = false) : alF q m = k := by
  induction m with
  | zero => rw [alF]; omega
  | succ m ih =>
    rw [alF]
    by_cases e : k = m + 1
    · subst e
      have e1 : alF q m = m := by
        have h1 := alF_le q m
        by_cases h2 : alF q m = m
        · exact h2
        · exfalso
          have : ∀ j, j ≤ m → alF q j = j := fun j hj => by
            induction j with
            | zero => rfl
            | succ j ihj => rw [alF, if_pos ⟨ihj (by omega), h j (by omega)⟩]
          exact h2 (this m (Nat.le_refl _))
      rw [if_pos ⟨e1, h m (by omega)⟩]
    · have hq : q k = false := by rcases hs with hs | hs; exact absurd hs e; exact hs
      have h1 : alF q m = k := ih (by omega) (.inr hq)
      rw [h1, if_neg]
      rintro ⟨h2, h3⟩
      subst h2
      rw [hq] at h3; cases h3

structure Lg where
  fr : Nat
  bl : Nat
  bd : Nat
/-- The longest copy that so many tries find. -/
def lgF (a : Nat → Nat) (E : Nat → Int) (p most : Nat) : Nat → Lg → Nat × Nat
  | 0, s => (s.bl, s.bd)
  | t + 1, s =>
    if E s.fr < 0 ∨ 32768 < (p : Int) - E s.fr ∨ s.bl = most then (s.bl, s.bd)
    else if a ((E s.fr).toNat + s.bl) ≠ a (p + s.bl) then lgF a E p most t ⟨(E s.fr).toNat, s.bl, s.bd⟩
    else if s.bl < alF (fun i => decide (a ((E s.fr).toNat + i) = a (p + i))) most then lgF a E p most t ⟨(E s.fr).toNat, alF (fun i => decide (a ((E s.fr).toNat + i) = a (p + i))) most, p - (E s.fr).toNat⟩
    else lgF a E p most t ⟨(E s.fr).toNat, s.bl, s.bd⟩
def longT (a : Nat → Nat) (n : Nat) (E : Nat → Int) (tries p : Nat) : Nat × Nat := if min (n - p) 258 < 3 then (0, 0) else lgF a E p (min (n - p) 258) tries ⟨p, 0, 0⟩
def tokT (a : Nat → Nat) (n : Nat) (E : Nat → Int) (tries p : Nat) : Tok :=
  if (longT a n E tries p).1 = 0 ∨ (longT a n E tries p).1 < (longT a n E tries (p + 1)).1 then ⟨a p, 0, 0⟩ else ⟨0, ((longT a n E tries p).1 : Nat), ((longT a n E tries p).2 : Nat)⟩
def posT (a : Nat → Nat) (n : Nat) (E : Nat → Int) (tries : Nat) : Nat → Nat
  | 0 => 0
  | k + 1 => posT a n E tries k + (widT (tokT a n E tries (posT a n E tries k))).toNat
/-- The tokens that are found, one by one. -/
def tkT (a : Nat → Nat) (n : Nat) (E : Nat → Int) (tries k : Nat) : Tok := tokT a n E tries (posT a n E tries k)

/-- A copy of so many bytes may stand here. -/
def CopyOk (a : Nat → Nat) (p most l d : Nat) : Prop := l = 0 ∧ d = 0 ∨ 3 ≤ l ∧ l ≤ most ∧ 1 ≤ d ∧ d ≤ 32768 ∧ d ≤ p ∧ ∀ i, i < l → a (p - d + i) = a (p + i)
theorem lg_ok (a : Nat → Nat) (n p most : Nat) (hm : 3 ≤ most) : ∀ (t : Nat) (s : Lg), s.fr ≤ p → a s.fr = a p → a (s.fr + 1) = a (p + 1) → a (s.fr + 2) = a (p + 2) → CopyOk a p most s.bl s.bd →
    CopyOk a p most (lgF a (befT a n) p most t s).1 (lgF a (befT a n) p most t s).2
  | 0, s, _, _, _, _, h => h
  | t + 1, s, hf, h0, h1, h2, h => by
    rw [lgF]
    split
    · exact h
    · rename_i hc
      have hE : 0 ≤ befT a n s.fr := by omega
      obtain ⟨e1, e2, e3, e4, e5, e6⟩ := bef_spec hE
      generalize (befT a n s.fr).toNat = f at *
      have g0 : a f = a p := e4.trans h0
      have g1 : a (f + 1) = a (p + 1) := e5.trans h1
      have g2 : a (f + 2) = a (p + 2) := e6.trans h2
      split
      · exact lg_ok a n p most hm t _ (by show f ≤ p; omega) g0 g1 g2 h
      · split
        · rename_i hl
          refine lg_ok a n p most hm t _ (by show f ≤ p; omega) g0 g1 g2 (.inr ⟨?_, alF_le _ _, by show 1 ≤ p - f; omega, by show p - f ≤ 32768; omega, Nat.sub_le _ _, fun i hi => ?_⟩)
          · show 3 ≤ alF _ most
            by_cases hh : alF (fun i => decide (a (f + i) = a (p + i))) most < 3
            · exfalso
              have hall : ∀ i, i < 3 → decide (a (f + i) = a (p + i)) = true := fun i hi => by
                match i, hi with
                | 0, _ => simpa using g0
                | 1, _ => simpa using g1
                | 2, _ => simpa using g2
              have h3 : ∀ j, j ≤ 3 → alF (fun i => decide (a (f + i) = a (p + i))) j = j := fun j hj => by
                induction j with
                | zero => rfl
                | succ j ihj => rw [alF, if_pos ⟨ihj (by omega), hall j (by omega)⟩]
              have hmono : ∀ m, 3 ≤ m → 3 ≤ alF (fun i => decide (a (f + i) = a (p + i))) m := fun m hm => by
                induction m with
                | zero => omega
                | succ m ihm =>
                  by_cases e : m + 1 = 3
                  · rw [e, h3 3 (Nat.le_refl _)]; exact Nat.le_refl _
                  · have := ihm (by omega)
                    rw [alF]
                    split <;> omega
              exact absurd (hmono most hm) (by omega)
            · omega
          · have := of_decide_eq_true (alF_all _ _ _ hi)
            rw [show p - (p - f) + i = f + i by omega]
            exact this
        · exact lg_ok a n p most hm t _ (by show f ≤ p; omega) g0 g1 g2 h
theorem long_ok (a : Nat → Nat) (n tries p : Nat) : CopyOk a p (min (n - p) 258) (longT a n (befT a n) tries p).1 (longT a n (befT a n) tries p).2 := by
  unfold longT
  split
  · exact .inl ⟨rfl, rfl⟩
  · exact lg_ok a n p _ (by omega) tries _ (Nat.le_refl _) rfl rfl rfl (.inl ⟨rfl, rfl⟩)
/-- The first bytes of a text. -/
def preT (a : Nat → Nat) (p : Nat) : List Nat := (List.range p).map a
theorem preT_len (a : Nat → Nat) (p : Nat) : (preT a p).length = p := by simp [preT]
theorem preT_succ (a : Nat → Nat) (p : Nat) : preT a (p + 1) = preT a p ++ [a p] := by simp [preT, List.range_succ]
theorem preT_get (a : Nat → Nat) (p i : Nat) (h : i < p) : (preT a p).getD i 0 = a i := by simp [preT, h, List.getD_eq_getElem?_getD]
theorem copy_pre (a : Nat → Nat) (p d : Nat) (hd : 1 ≤ d) (hdp : d ≤ p) : ∀ l, (∀ i, i < l → a (p - d + i) = a (p + i)) → copyT (preT a p) d l = preT a (p + l)
  | 0, _ => rfl
  | l + 1, h => by
    rw [copyT, copy_pre a p d hd hdp l fun i hi => h i (by omega), preT_len, preT_get a _ _ (by omega), show p + l - d = p - d + l by omega, h l (by omega), ← Nat.add_assoc, preT_succ]
theorem tok_ok (a : Nat → Nat) (n tries p : Nat) (hp : p < n) (hn : n ≤ 1048576) : fitsT (tokT a n (befT a n) tries p) p = 0 ∧ stepT (preT a p) (tokT a n (befT a n) tries p) = preT a (p + (widT (tokT a n (befT a n) tries p)).toNat) ∧ 1 ≤ (widT (tokT a n (befT a n) tries p)).toNat ∧ p + (widT (tokT a n (befT a n) tries p)).toNat ≤ n ∧
    ((tokT a n (befT a n) tries p).l = 0 → (tokT a n (befT a n) tries p).b = a p) := by
  have hl := long_ok a n tries p
  unfold tokT
  split
  · refine ⟨?_, ?_, Nat.le_refl 1, ?_, fun _ => rfl⟩
    · have hw : widT ⟨a p, 0, 0⟩ = 1 := rfl
      unfold fitsT
      rw [show rightT ⟨a p, 0, 0⟩ = true from rfl, hw]
      simp only [Bool.true_eq_false, if_false]
      rw [if_neg (by omega), if_neg (by omega)]
    · show preT a p ++ [a p] = _
      rw [← preT_succ]; rfl
    · show p + 1 ≤ n; omega
  · rename_i hc
    generalize longT a n (befT a n) tries p = c at *
    obtain ⟨l, d⟩ := c
    simp only at hl hc ⊢
    rcases hl with ⟨h1, h2⟩ | ⟨h1, h2, h3, h4, h5, h6⟩
    · exact absurd (.inl h1) hc
    · have hw : widT ⟨0, (l : Nat), (d : Nat)⟩ = l := by unfold widT; simp only; omega
      have hr : rightT ⟨0, (l : Nat), (d : Nat)⟩ = true := by
        unfold rightT
        rw [if_neg (by simp only; omega)]
        exact decide_eq_true ⟨rfl, by simp only; omega, by simp only; omega, by simp only; omega, by simp only; omega⟩
      rw [hw]
      refine ⟨?_, ?_, by omega, by omega, fun h => by have h : ((l : Nat) : Int) = 0 := h; omega⟩
      · unfold fitsT
        rw [hr, hw]
        simp only [Bool.true_eq_false, if_false]
        rw [if_neg (by omega), if_neg (by omega)]
      · unfold stepT
        rw [if_neg (by simp only; omega)]
        simp only [Int.toNat_natCast]
        exact copy_pre a p d h3 h5 l h6
/-- What is found expands to the text, as far as it goes. -/
theorem run_ok (a : Nat → Nat) (n tries : Nat) (hn : n ≤ 1048576) : ∀ k, (∀ j, j < k → posT a n (befT a n) tries j < n) →
    expE (tkT a n (befT a n) tries) k = 0 ∧ expO (tkT a n (befT a n) tries) k = preT a (posT a n (befT a n) tries k) ∧ k ≤ posT a n (befT a n) tries k ∧ posT a n (befT a n) tries k ≤ n
  | 0, _ => ⟨rfl, rfl, Nat.le_refl _, Nat.zero_le _⟩
  | k + 1, h => by
    obtain ⟨h1, h2, h3, h4⟩ := run_ok a n tries hn k fun j hj => h j (by omega)
    obtain ⟨g1, g2, g3, g4, _⟩ := tok_ok a n tries (posT a n (befT a n) tries k) (h k (by omega)) hn
    refine ⟨?_, ?_, ?_, ?_⟩
    · rw [expE, if_pos h1, h2, preT_len]; exact g1
    · rw [expO, h2]; exact g2
    · rw [posT]; omega
    · rw [posT]; exact g4
end Go.Proofs.YtmkeicfklbepnaaGreat
