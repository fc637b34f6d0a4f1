/-
  Contracts of package field: through, owners.
-/
import Derived.Test.YtlojhklhhdgkcaaCurF
namespace Go.Proofs.Ytlojhklhhdgkcaa
set_option maxRecDepth 100000
open Go.RowKit Go.Joins

def nvB (p : ByteArray) : Nat := if p.size ≤ 8 then numL (nums p) else 0
def neB (p : ByteArray) : Nat := if p.size ≤ 8 then 0 else 5
theorem numL_64 (p : ByteArray) (h : p.size ≤ 8) : numL (nums p) < 18446744073709551616 := by
  have h1 := numL_lt _ (nums_lt p)
  rw [nums_len] at h1
  exact Nat.lt_of_lt_of_le h1 (Nat.pow_le_pow_right (n := 256) (by omega) (show p.size ≤ 8 by omega))
theorem nvB_lt (p : ByteArray) : nvB p < 18446744073709551616 := by
  unfold nvB
  split
  · rename_i h; exact numL_64 p h
  · omega
theorem number_gen (p : ByteArray) (hs : p.size ≤ maxLen) (w : World) :
    Calls Try.prog 25 #[.string p] w fun e w' => e = .returned (.tuple #[.int .u64 (nvB p : Nat), .int .i64 (neB p : Nat)]) ∧ w = w' := by
  by_cases h : p.size ≤ 8
  · rw [show nvB p = numL (nums p) from if_pos h, show neB p = 0 from if_pos h]
    exact number_any p h w
  · rw [show nvB p = 0 from if_neg h, show neB p = 5 from if_neg h]
    exact number_long p hs (by omega) w

def thrB (s : ByteArray) (a e : Nat) : Bool := decide (e = 0 ∧ a = s.size)
/-- A cursor that the call itself has made: its place, its error; what was there stays. -/
structure CI (w0 : World) (s : ByteArray) (a e : Nat) (w : World) : Prop where
  cur : Cur w w0.heap.size s a e
  bel : Below w0.heap.size w0 w
theorem CI.lt {w0 w : World} {s : ByteArray} {a e : Nat} (h : CI w0 s a e w) : w0.heap.size < w.heap.size := h.cur.lt
theorem CI.drewN {w0 w : World} {s : ByteArray} {a e : Nat} (h : CI w0 s a e w) (n : Nat) : CI w0 s a e (w.drewN n) := ⟨h.cur.drewN n, below_drewN h.bel n⟩
theorem CI.below {w0 w w' : World} {s : ByteArray} {a e : Nat} (h : CI w0 s a e w) (hb : Below w.heap.size w w') : CI w0 s a e w' := ⟨h.cur.below hb h.lt, below_then h.bel hb⟩
theorem CI.grown {w0 w w' : World} {s : ByteArray} {a e a' e' : Nat} (h : CI w0 s a e w) (hc : Cur w' w0.heap.size s a' e') (hg : w.grownBy w' (some w0.heap.size)) : CI w0 s a' e' w' :=
  ⟨hc, h.bel.grown hg h.bel.size (fun k hk => by injection hk with hk; subst hk; exact Nat.le_refl _)⟩
theorem over_ci (s : ByteArray) (w : World) :
    Calls Try.prog 26 #[.string s] w fun e w' => e = .returned (.pointer (some ⟨w.heap.size, 0, none⟩)) ∧ CI w s 0 0 w' :=
  (over_any s w).mono fun _ _ ⟨he, hw⟩ => ⟨he, by subst hw; exact ⟨heap_alloc_new _ _, (Below.refl _ _).alloc (Nat.le_refl _) _⟩⟩
theorem take_ci {w0 w : World} {s : ByteArray} {a e : Nat} (n : Int) (hs : s.size ≤ maxLen) (ha : a ≤ s.size) (hn : (Lit.int .i64 n).wf = true) (h : CI w0 s a e w) :
    Calls Try.prog 29 #[.pointer (some ⟨w0.heap.size, 0, none⟩), .int .i64 n] w fun r w' => r = .returned (.string (piece s a e n)) ∧ CI w0 s (atB s a e n) (errB s a e n) w' :=
  (take_any _ s a e n hs ha hn w h.cur).mono fun _ _ ⟨he, hc, hg⟩ => ⟨he, h.grown hc hg⟩
theorem two_ci {w0 w : World} {s : ByteArray} {a e : Nat} (hs : s.size ≤ maxLen) (ha : a ≤ s.size) (h : CI w0 s a e w) :
    Calls Try.prog 27 #[.pointer (some ⟨w0.heap.size, 0, none⟩)] w fun r w' => r = .returned (.int .u16 (numB s a e 2 : Nat)) ∧ CI w0 s (atB s a e (2 : Nat)) (errB s a e (2 : Nat)) w' :=
  (two_of _ s a e hs ha w h.cur).mono fun _ _ ⟨he, hc, hg⟩ => ⟨he, h.grown hc hg⟩
theorem four_ci {w0 w : World} {s : ByteArray} {a e : Nat} (hs : s.size ≤ maxLen) (ha : a ≤ s.size) (h : CI w0 s a e w) :
    Calls Try.prog 28 #[.pointer (some ⟨w0.heap.size, 0, none⟩)] w fun r w' => r = .returned (.int .u32 (numB s a e 4 : Nat)) ∧ CI w0 s (atB s a e (4 : Nat)) (errB s a e (4 : Nat)) w' :=
  (four_of _ s a e hs ha w h.cur).mono fun _ _ ⟨he, hc, hg⟩ => ⟨he, h.grown hc hg⟩
theorem eight_ci {w0 w : World} {s : ByteArray} {a e : Nat} (hs : s.size ≤ maxLen) (ha : a ≤ s.size) (h : CI w0 s a e w) :
    Calls Try.prog 30 #[.pointer (some ⟨w0.heap.size, 0, none⟩)] w fun r w' => r = .returned (.int .u64 (numB s a e 8 : Nat)) ∧ CI w0 s (atB s a e (8 : Nat)) (errB s a e (8 : Nat)) w' :=
  (eight_of _ s a e hs ha w h.cur).mono fun _ _ ⟨he, hc, hg⟩ => ⟨he, h.grown hc hg⟩
theorem err_ci {w0 w : World} {s : ByteArray} {a e : Nat} (h : CI w0 s a e w) :
    Calls Try.prog 39 #[.pointer (some ⟨w0.heap.size, 0, none⟩)] w fun r w' => r = .returned (.int .i64 (e : Nat)) ∧ w = w' := err_any _ s a e w h.cur
theorem errB_zero {s : ByteArray} {a e : Nat} {n : Int} (h : errB s a e n = 0) : e = 0 ∧ 0 ≤ n ∧ a + n.toNat ≤ s.size ∧ atB s a e n = a + n.toNat := by
  unfold errB at h
  split at h
  · rename_i hm
    have hm' := hm
    unfold mayB at hm
    have := of_decide_eq_true hm
    refine ⟨this.1, by omega, by omega, ?_⟩
    unfold atB
    rw [if_pos hm']
  · cases h
theorem numB_one (s : ByteArray) (a : Nat) (h : a + 1 ≤ s.size) : numB s a 0 1 = (nums s).getD a 0 := by
  unfold numB
  rw [nums_piece s a 1 h]
  have hl : a < (nums s).length := by rw [nums_len]; omega
  rw [List.drop_eq_getElem_cons hl]
  simp only [List.take_succ_cons, List.take_zero, numL, List.getD_eq_getElem?_getD, List.getElem?_eq_getElem hl, Option.getD_some]
  omega

/-! ### PrintOwner -/
def ownT (u g : Nat) : ByteArray := (⟨#[1, 4]⟩ : ByteArray) ++ text (le u 4) ++ ⟨#[4]⟩ ++ text (le g 4)
end Go.Proofs.Ytlojhklhhdgkcaa
