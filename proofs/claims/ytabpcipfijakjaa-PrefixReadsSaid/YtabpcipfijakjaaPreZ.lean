/-
  The program's Sign and the document's answer alike, by any code that New lets be; Length and Put of any int.
-/
import Derived.Test.YtabpcipfijakjaaPreY
import Derived.Test.YtabpcipfijakjaaPreF
import Derived.Test.YtabpcipfijakjaaPreE
import Derived.Test.YtabpcipfijakjaaPreM
namespace Go.Proofs.Ytabpcipfijakjaa
open Go.RowKit Go.Joins

theorem word_lt0 (ls : Nat → Nat) (n : Nat) (h15 : ∀ i, i < n → ls i ≤ 15) (hf : fillN ls n ≤ 32768) (i : Nat) (hi : i < n) : wordN ls n i < 2 ^ ls i := by
  by_cases h : 1 ≤ ls i
  · exact word_lt ls n i h15 hf hi h
  · have h0 : ls i = 0 := by omega
    rw [wordN, if_pos h0, h0]
    decide
theorem rev_low (v m l : Nat) (h : l ≤ m) : rev (v % 2 ^ m) l = rev v l := by
  rw [rev_mod v l, rev_mod (v % 2 ^ m) l, Nat.mod_mod_of_dvd _ (Nat.pow_dvd_pow 2 h)]
theorem noWord_low (ls W : Nat → Nat) (n v m k : Nat) (h : k ≤ m) (hn : NoWord ls W n (v % 2 ^ m) k) : NoWord ls W n v k := fun l h1 h2 => by
  have := hn l h1 h2
  rwa [rev_low v m l (by omega)] at this
theorem signIs_low (ls W : Nat → Nat) (n mx v m : Nat) (x : Int) (e l : Nat) (h : SignIs ls W n mx (v % 2 ^ m) m x e l) : SignIs ls W n mx v m x e l := by
  rcases h with ⟨i, h1, h2, h3, h4, h5, h6, h7⟩ | ⟨h1, h2, h3, h4, h5⟩ | ⟨h1, h2, h3, h4, h5⟩
  · rw [rev_low v m l h5] at h6
    exact .inl ⟨i, h1, h2, h3, h4, h5, h6, noWord_low ls W n v m _ (by omega) h7⟩
  · exact .inr (.inl ⟨h1, h2, h3, h4, noWord_low ls W n v m _ (Nat.le_refl _) h5⟩)
  · exact .inr (.inr ⟨h1, h2, h3, h4, noWord_low ls W n v m _ h4 h5⟩)
theorem noWord_of (ls W : Nat → Nat) (n v k : Nat) (h : NoW ls W n v k) : NoWord ls W n v k := fun l h1 h2 => by
  cases he : findW ls W l (rev v l) n with
  | none => rfl
  | some i =>
    obtain ⟨a, b, c⟩ := find_is ls W l _ n i he
    subst b
    exact absurd c (h i a h1 h2)
theorem noW_of (ls W : Nat → Nat) (n v k : Nat) (h : NoWord ls W n v k) : NoW ls W n v k := fun i hi h1 h2 e =>
  absurd (h (ls i) h1 h2) (find_some ls W (ls i) _ (by omega) n i hi rfl e)
/-- Of a whole code, bits that are fewer than the longest word's and begin with no word begin one. -/
theorem begins_whole (ls : Nat → Nat) (n v mx q : Nat) (h15 : ∀ i, i < n → ls i ≤ 15) (hf : fillN ls n = 32768) (hm : ∀ i, i < n → ls i ≤ mx) (hmx : mx ≤ 15) (hno : NoWord ls (wordN ls n) n v q) : Begins ls (wordN ls n) n v q := by
  have h := whole_any ls n v mx h15 hf hm hmx
  have : ∃ l, 1 ≤ l ∧ l ≤ mx ∧ findW ls (wordN ls n) l (rev v l) n ≠ none := by
    apply Classical.byContradiction
    intro hc
    exact h fun l h1 h2 => Classical.byContradiction fun h3 => hc ⟨l, h1, h2, h3⟩
  obtain ⟨l, h1, h2, h3⟩ := this
  cases he : findW ls (wordN ls n) l (rev v l) n with
  | none => exact absurd he h3
  | some i =>
    obtain ⟨a, b, c⟩ := find_is ls _ l _ n i he
    by_cases hl : l ≤ q
    · rw [hno l h1 hl] at he
      cases he
    · subst b
      refine ⟨i, a, by omega, ?_⟩
      obtain ⟨d, hd⟩ : ∃ d, ls i = q + d := ⟨ls i - q, by omega⟩
      rw [c, hd, show q + d - q = d by omega, rev_div]
theorem begins_open (ls : Nat → Nat) (n v q : Nat) (h15 : ∀ i, i < n → ls i ≤ 15) (hs : sumN ls n ≤ 1) (hf : fillN ls n ≤ 32768) (hq : q < (if n = 0 then 0 else maxN ls (n - 1))) : Begins ls (wordN ls n) n v q := by
  by_cases h0 : n = 0
  · rw [if_pos h0] at hq
    omega
  rw [if_neg h0] at hq
  obtain ⟨i, h1, h2⟩ := maxN_mem ls (n - 1)
  have h3 := sumN_ge ls i n (by omega)
  have h4 := word_lt0 ls n h15 hf i (by omega)
  have h5 : ls i = 1 := by omega
  have h6 : q = 0 := by omega
  subst h6
  rw [h5] at h4
  exact ⟨i, by omega, by omega, by rw [h5]; show wordN ls n i / 2 = 0; omega⟩
theorem signs_alike (ls : Nat → Nat) (n mx v many : Nat) (x y : Int) (e l f k : Nat) (h15 : ∀ i, i < n → ls i ≤ 15) (hm : ∀ i, i < n → ls i ≤ mx) (hmx : mx ≤ 15)
    (hfew : ∀ q, q < mx → NoWord ls (wordN ls n) n v q → Begins ls (wordN ls n) n v q)
    (hs : SignIs ls (wordN ls n) n mx v (min 15 many) x e l) (hd : DSign ls (wordN ls n) n v many y f k) : x = y ∧ e = f ∧ l = k := by
  have hit : ∀ i, findW ls (wordN ls n) l (rev v l) n = some i → 1 ≤ l → ∀ q, l ≤ q → ¬ NoW ls (wordN ls n) n v q := fun i h1 h2 q hq hno => by
    obtain ⟨a, b, c⟩ := find_is ls _ l _ n i h1
    subst b
    exact hno i a h2 hq c
  rcases hd with ⟨i, rfl, rfl, hi, hli, h1, hlm, hw, hno⟩ | ⟨rfl, rfl, rfl, hm15, hno, hb⟩ | ⟨rfl, rfl, rfl, h⟩
  · subst hli
    have := h15 i hi
    exact sign_right ls n v i mx (min 15 many) l e x hi h1 hw.symm (hm i hi) (by omega) hs
  · rcases hs with ⟨i, _, _, h3, _, h5, h6, _⟩ | ⟨h1, h2, h3, _⟩ | ⟨h1, h2, h3, h4, h5⟩
    · exact absurd hno (hit i h6 h3 many (by omega))
    · exact ⟨h1, h2, h3⟩
    · obtain ⟨i, hi, hq, _⟩ := hb
      have := hm i hi
      omega
  · rcases hs with ⟨i, _, _, h3, _, h5, h6, _⟩ | ⟨h1, h2, h3, h4, h5⟩ | ⟨h1, h2, h3, h4, h5⟩
    · rcases h with ⟨_, hno, _⟩ | ⟨_, hno⟩
      · exact absurd hno (hit i h6 h3 many (by omega))
      · exact absurd hno (hit i h6 h3 15 (by omega))
    · rcases h with ⟨hm15, hno, hb⟩ | ⟨h15', _⟩
      · rw [show min 15 many = many by omega] at h4 h5
        exact absurd (hfew many h4 h5) hb
      · omega
    · exact ⟨h1, h2, h3⟩

theorem length_int (B g bm n mx : Nat) (x : Int) (ls W : Nat → Nat) (hls : ∀ i, i < n → ls i < 256) (w : World) (hcd : Cd0 w B g bm ls W n mx) :
    Calls Try.prog 18 #[.pointer (some ⟨g, 0, none⟩), .int .i64 x] w fun e w' => e = .returned (.int .i64 (if 0 ≤ x ∧ x < n then (ls x.toNat : Int) else 0)) ∧ w = w' := by
  by_cases h : 0 ≤ x ∧ x < n
  · obtain ⟨k, rfl⟩ := Int.eq_ofNat_of_zero_le h.1
    rw [if_pos h, Int.toNat_natCast]
    exact length_any B g bm n mx k ls W (by omega) (hls k (by omega)) w hcd
  · rw [if_neg h]
    have HS := Lib.hid (signs_any B g bm n mx ls W w hcd)
    by_cases h0 : x < 0
    · clear h hcd
      go_enter Try.func18, Try.ntmps18
      go_wp2_with (go_at_call 52; refine (HS.out).mono ?_; rintro e w' ⟨rfl, rfl⟩)
      go_ret
      exact ⟨rfl, rfl⟩
    · have h1 : (n : Int) ≤ x := by omega
      clear h hcd
      go_enter Try.func18, Try.ntmps18
      go_wp2_with (go_at_call 52; refine (HS.out).mono ?_; rintro e w' ⟨rfl, rfl⟩)
      go_ret
      exact ⟨rfl, rfl⟩
theorem put_no_int (B g bm n mx gw : Nat) (x : Int) (ls W : Nat → Nat) (hls : ∀ i, i < n → ls i < 256) (hx : x < 0 ∨ (n : Int) ≤ x ∨ ∃ k : Nat, x = (k : Nat) ∧ k < n ∧ ls k = 0) (w : World) (hcd : Cd0 w B g bm ls W n mx) :
    Calls Try.prog 16 #[.pointer (some ⟨g, 0, none⟩), .pointer (some ⟨gw, 0, none⟩), .int .i64 x] w fun e w' => e = .returned (.int .i64 2) ∧ w = w' := by
  have HL := Lib.hid (length_int B g bm n mx x ls W hls w hcd)
  have e0 : (if 0 ≤ x ∧ x < n then (ls x.toNat : Int) else 0) = 0 := by
    by_cases h : 0 ≤ x ∧ x < n
    · rw [if_pos h]
      rcases hx with h1 | h1 | ⟨k, rfl, _, h1⟩
      · omega
      · omega
      · rw [Int.toNat_natCast, h1]
        rfl
    · rw [if_neg h]
  rw [e0] at HL
  clear hcd hx e0
  go_enter Try.func16, Try.ntmps16
  go_wp2_with (go_at_call 18; refine (HL.out).mono ?_; rintro e w1 ⟨rfl, rfl⟩)
  go_ret
  exact ⟨rfl, rfl⟩
end Go.Proofs.Ytabpcipfijakjaa
