/-
 What was deflated is inflated: by mathematics; Deflate of a level that there isn't.
-/
import Derived.Test.YtmkeicfklbepnaaGreatPkCH
import Derived.Test.YtmkeicfklbepnaaGreatDefH
namespace Go.Proofs.YtmkeicfklbepnaaGreat
set_option maxRecDepth 100000
set_option linter.unusedVariables false
open Go.RowKit Go.Joins Go.Deep
theorem db_done {P : Bs} (hw : WfB P) (lim : Int) : Has (srcR (text (le P.1 ((P.2 + 7) / 8))) lim) 0 P := by
 have hsz : (text (le P.1 ((P.2 + 7) / 8))).size = (P.2 + 7) / 8 := by rw [text_size, le_len]
 have hp : P.2 ≤ 8 * ((P.2 + 7) / 8) := by omega
 have hlt : P.1 < 2 ^ (8 * ((P.2 + 7) / 8)) := Nat.lt_of_lt_of_le hw (Nat.pow_le_pow_right (by omega) hp)
 refine ⟨?_, ?_⟩
 ·show num (text (le P.1 ((P.2 + 7) / 8))) / 2 ^ 0 % 2 ^ P.2 = P.1
  rw [num_text, Nat.mod_eq_of_lt hlt, Nat.pow_zero, Nat.div_one, Nat.mod_eq_of_lt hw]
 ·show 0 + P.2 ≤ 8 * (text (le P.1 ((P.2 + 7) / 8))).size
  rw [hsz]
  omega
theorem tk_b (s : ByteArray) (t i : Nat) : (tkT (bt s) s.size (befT (bt s) s.size) t i).b < 256 := by
 unfold tkT tokT
 split
 ·exact bt_lt s _
 ·show 0 < 256
  omega
/-- The stream of a text. -/
theorem dfl_infl (s : ByteArray) (level k : Nat) (hs : s.size ≤ 10000) (hf : Found s (triesOf level) k) :
  inflM (srcR (dflT s level) (s.size : Nat)) 0 [] = .ok ((), (dflB s level).2, nums s) ∧ (dflT s level).size = ((dflB s level).2 + 7) / 8 ∧ (dflT s level).size ≤ s.size + 5 := by
 have hr := found_right s (triesOf level) k hs hf
 obtain ⟨he, ht, hk⟩ := found_ok s (triesOf level) k hs hf
 have hb : ∀ i, i < k → (tkT (bt s) s.size (befT (bt s) s.size) (triesOf level) i).b < 256 := fun i _ => tk_b s _ i
 have hD : dflB s level = blkB (kindF level (tkT (bt s) s.size (befT (bt s) s.size) (triesOf level)) k s 0) (tkT (bt s) s.size (befT (bt s) s.size) (triesOf level)) k s true (0, 0) := by unfold dflB; rw [kT_eq hf]
 generalize tkT (bt s) s.size (befT (bt s) s.size) (triesOf level) = f at *
 obtain ⟨hc, hk2⟩ := kind_ok level f k s 0 hr (by omega)
 have hx : expO f k = nums s := by
  rw [expT_ok he] at ht
  rw [← ht, nums_text _ (expO_lt f k hb)]
 have hT : blkT (kindF level f k s 0) f k s = nums s := by
  unfold blkT
  split
  ·rfl
  ·exact hx
 have hsz : (dflT s level).size = ((dflB s level).2 + 7) / 8 := by unfold dflT; rw [text_size, le_len]
 have hw : WfB (dflB s level) := by rw [hD]; exact wf_blkB _ _ _ _ _ wf_nil
 refine ⟨?_, hsz, ?_⟩
 ·have hh : Has (srcR (dflT s level) (s.size : Nat)) 0 (dflB s level) := db_done hw _
  rw [hD] at hh ⊢
  obtain ⟨_, g⟩ := has_block (o := []) wf_nil hk2 (fun _ => by omega) (fun _ i hi => ⟨hr i hi, hb i hi⟩) (fun _ => he) (by rw [hT, nums_len]; show 0 + s.size ≤ ((s.size : Nat) : Int).toNat; omega) hh
  rw [hT] at g
  exact infl_one g
 ·rw [hsz, hD, blk_last]
  have hc0 : chkE ((0 : Nat) : Int) f k s = 0 := by rw [chk_right hr 0 (by omega), if_neg (by omega)]
  have hz : ∀ j, chkE (j : Nat) f k s = 0 → sizeV (j : Nat) f k s ((0 : Nat) : Int) = (((blkB j f k s false (0, 0)).2 : Nat) : Int) := fun j hj => by
   unfold sizeV
   rw [if_pos hj, Int.toNat_natCast]
   rfl
  have hle : (blkB (kindF level f k s 0) f k s false (0, 0)).2 ≤ (blkB 0 f k s false (0, 0)).2 := by
   unfold kindF
   by_cases h0 : level = 0
   ·rw [if_pos h0]
    exact Nat.le_refl _
   ·rw [if_neg h0]
    rcases bst_ok (f := f) (n := k) (s := s) ((0 : Nat) : Int) 3 (by omega) with ⟨_, h2⟩ | ⟨h1, h2, _, h4⟩
    ·exact absurd hc0 (h2 0 (by omega))
    ·have h6 := (h4 0 (by omega) hc0).1
     rw [hz _ h2, hz 0 hc0] at h6
     omega
  have e0 : (blkB 0 f k s false (0, 0)).2 = up8 (0 + 1 + 2) + 16 + 16 + 8 * s.size := by
   unfold blkB
   rw [if_pos rfl, stB_len]
   rfl
  have e1 : up8 (0 + 1 + 2) = 8 := rfl
  omega
theorem deflate_arg (s : ByteArray) (level : Int) (hl : level < 0 ∨ 9 < level) (w : World) :
  Calls Tryz.prog 5 #[.string s, .int .i64 level] w fun e w' => e = .returned (.tuple #[.string ⟨#[]⟩, .int .i64 2]) ∧ Below w.heap.size w w' := by
 have HF := Lib.hid (find_arg s level hl w)
 clear hl
 go_enter Tryz.func5, Tryz.ntmps5
 go_wp2_with fail
 refine HF.out.mono ?_; rintro e w1 ⟨rfl, rfl⟩
 go_wp2_with fail
 go_ret2
 exact ⟨rfl, Below.refl _ _⟩
end Go.Proofs.YtmkeicfklbepnaaGreat
