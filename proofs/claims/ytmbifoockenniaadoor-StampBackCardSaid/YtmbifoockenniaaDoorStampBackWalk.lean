/-
  The walk of StampBack.
-/
import Derived.Test.YtmbifoockenniaaDoorStSno
import Derived.Test.YtmbifoockenniaaDoorStSin
import Derived.Test.YtmbifoockenniaaDoorStSbelow
import Derived.Test.YtmbifoockenniaaDoorStSabove
namespace Go.Proofs.YtmbifoockenniaaDoor
set_option maxRecDepth 100000
open Go.RowKit Go.Joins Go.Deep

theorem stampBack_walk (a0 b0 b1 b2 b3 b4 b5 a2 : Int) (_ : (Lit.int .i64 a0).wf = true) (_ : (Lit.int .i64 b0).wf = true) (_ : (Lit.int .i64 b1).wf = true) (_ : (Lit.int .i64 b2).wf = true) (_ : (Lit.int .i64 b3).wf = true) (_ : (Lit.int .i64 b4).wf = true) (_ : (Lit.int .i64 b5).wf = true) (wn : (Lit.int .u32 a2).wf = true) (w : World) (hp : Pow w) :
    Calls Tryd.prog 5 #[.int .i64 a0, .agg #[.int .i64 b0, .int .i64 b1, .int .i64 b2, .int .i64 b3, .int .i64 b4, .int .i64 b5], .int .u32 a2] w fun e w' => e = .returned (.bool true) ∧ Below w.heap.size w w' := by
  obtain ⟨n, rfl, hn⟩ : ∃ n : Nat, a2 = (n : Nat) ∧ n < 4294967296 := by
    have := bounds_u32 wn
    exact ⟨a2.toNat, by omega, by omega⟩
  obtain ⟨x, z, HF⟩ := sec_ex (fY n : Nat) (fM n : Nat) (fD n : Nat) (fh n : Nat) (fm n : Nat) (fs n : Nat)
  have HF' : FdIs n x z := HF
  obtain ⟨x2, z2, HS⟩ := sec_ex b0 b1 b2 b3 b4 b5
  obtain ⟨y, m, d, h, mi, sc, zo, HO⟩ := of_ex a0
  have hz : z = 0 ∨ z = 23 := by
    rcases HF with ⟨_, _, _, _, _, _, _, _, _, _, _, _, h⟩ | ⟨_, _, h⟩
    · exact .inl h
    · exact .inr h
  clear HF wn
  rcases HS with ⟨y', m', d', s', hd', rfl, rfl, rfl, rfl, rfl, rfl, rfl, rfl⟩ | ⟨hr, rfl, rfl⟩
  · cases HO with
    | yes y m d s hd ht =>
      by_cases r1 : 1980 ≤ y
      · by_cases r2 : y ≤ 2107
        · rcases hz with rfl | rfl
          · exact back_in_yes_yes a0 n hn y m d s hd ht r1 r2 y' m' d' s' hd' x HF' w hp
          · exact back_in_yes_no a0 n hn y m d s hd ht r1 r2 y' m' d' s' hd' x HF' w hp
        · rcases hz with rfl | rfl
          · exact back_above_yes_yes a0 n hn y m d s hd ht (by omega) y' m' d' s' hd' x HF' w hp
          · exact back_above_yes_no a0 n hn y m d s hd ht (by omega) y' m' d' s' hd' x HF' w hp
      · rcases hz with rfl | rfl
        · exact back_below_yes_yes a0 n hn y m d s hd ht (by omega) y' m' d' s' hd' x HF' w hp
        · exact back_below_yes_no a0 n hn y m d s hd ht (by omega) y' m' d' s' hd' x HF' w hp
    | no h =>
      rcases hz with rfl | rfl
      · exact back_no_yes_yes a0 n hn h y' m' d' s' hd' x HF' w hp
      · exact back_no_yes_no a0 n hn h y' m' d' s' hd' x HF' w hp
  · have HS : SecIs b0 b1 b2 b3 b4 b5 0 23 := .inr ⟨hr, rfl, rfl⟩
    cases HO with
    | yes y m d s hd ht =>
      by_cases r1 : 1980 ≤ y
      · by_cases r2 : y ≤ 2107
        · rcases hz with rfl | rfl
          · exact back_in_no_yes a0 b0 b1 b2 b3 b4 b5 n hn y m d s hd ht r1 r2 HS x HF' w hp
          · exact back_in_no_no a0 b0 b1 b2 b3 b4 b5 n hn y m d s hd ht r1 r2 HS x HF' w hp
        · rcases hz with rfl | rfl
          · exact back_above_no_yes a0 b0 b1 b2 b3 b4 b5 n hn y m d s hd ht (by omega) HS x HF' w hp
          · exact back_above_no_no a0 b0 b1 b2 b3 b4 b5 n hn y m d s hd ht (by omega) HS x HF' w hp
      · rcases hz with rfl | rfl
        · exact back_below_no_yes a0 b0 b1 b2 b3 b4 b5 n hn y m d s hd ht (by omega) HS x HF' w hp
        · exact back_below_no_no a0 b0 b1 b2 b3 b4 b5 n hn y m d s hd ht (by omega) HS x HF' w hp
    | no h =>
      rcases hz with rfl | rfl
      · exact back_no_no_yes a0 b0 b1 b2 b3 b4 b5 n hn h HS x HF' w hp
      · exact back_no_no_no a0 b0 b1 b2 b3 b4 b5 n hn h HS x HF' w hp
end Go.Proofs.YtmbifoockenniaaDoor
