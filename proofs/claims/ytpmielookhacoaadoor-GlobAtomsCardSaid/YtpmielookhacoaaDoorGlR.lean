/-
  Glob: the chapter's examples (awake); the law of matches, walked.
-/
import Derived.Test.YtpmielookhacoaaDoorGlQ
namespace Go.Proofs.YtpmielookhacoaaDoor
set_option maxRecDepth 100000
open Go.RowKit Go.Joins Go.Deep

theorem match_val (p s : ByteArray) (hp : p.size ≤ 65535) (hs : s.size ≤ 1000000) {ats : List Atm} {v : Bool} (hc : compF (runesB p) 0 [] = some ats) (hm : mtB ats (runesB s) = v) (w : World) (hT : Tabs w) :
    Calls Tryd.prog 9 #[.string p, .string s] w fun e w' => e = .returned (.tuple #[.bool v, .int .i64 0]) ∧ Below w.heap.size w w' := by
  refine (match_any p s hp hs w hT).mono ?_
  rintro e w' ⟨h | ⟨ats', h1, h2⟩, hb⟩
  · rw [hc] at h
    cases h.1
  · rw [hc] at h1
    injection h1 with h1
    subst h1
    rw [hm] at h2
    exact ⟨h2, hb⟩
theorem ex1 : compF (runesB ⟨#[97, 42, 99]⟩) 0 [] = some [⟨1, 97, false, []⟩, ⟨3, 0, false, []⟩, ⟨1, 99, false, []⟩] := by
  rw [show runesB ⟨#[97, 42, 99]⟩ = [97, 42, 99] by kernel_rfl, compF_more (by decide) (x := ⟨1, 97, false, []⟩) (k := 1) (by kernel_rfl), compF_more (by decide) (x := ⟨3, 0, false, []⟩) (k := 1) (by kernel_rfl), compF_more (by decide) (x := ⟨1, 99, false, []⟩) (k := 1) (by kernel_rfl), compF_end (by decide)]
  rfl
theorem ex2 : compF (runesB ⟨#[91, 97, 45, 99, 93, 63]⟩) 0 [] = some [⟨4, 0, false, [(97, 99)]⟩, ⟨2, 0, false, []⟩] := by
  have h1 : atomF (List.drop 0 [91, 97, 45, 99, 93, 63]) = some (⟨4, 0, false, [(97, 99)]⟩, 5) := by
    rw [atom_set (by decide)]
    show Option.map _ (setF [97, 45, 99, 93, 63] 0 []) = _
    have hs : spanF (List.drop 0 [97, 45, 99, 93, 63]) = ((97, 99), 3) := by kernel_rfl
    rw [setF_more (by decide) (by rw [hs]; decide), hs, setF_done (by decide)]
    rfl
  rw [show runesB ⟨#[91, 97, 45, 99, 93, 63]⟩ = [91, 97, 45, 99, 93, 63] by kernel_rfl, compF_more (by decide) h1, compF_more (by decide) (x := ⟨2, 0, false, []⟩) (k := 1) (by kernel_rfl), compF_end (by decide)]
  rfl
theorem ex3 : compF (runesB ⟨#[91, 33, 97, 93]⟩) 0 [] = some [⟨4, 0, true, [(97, 97)]⟩] := by
  have h1 : atomF (List.drop 0 [91, 33, 97, 93]) = some (⟨4, 0, true, [(97, 97)]⟩, 4) := by
    rw [atom_set (by decide)]
    show Option.map _ (setF [33, 97, 93] 1 []) = _
    have hs : spanF (List.drop 1 [33, 97, 93]) = ((97, 97), 1) := by kernel_rfl
    rw [setF_more (by decide) (by rw [hs]; decide), hs, setF_done (by decide)]
    rfl
  rw [show runesB ⟨#[91, 33, 97, 93]⟩ = [91, 33, 97, 93] by kernel_rfl, compF_more (by decide) h1, compF_end (by decide)]
  rfl
theorem ex4 : compF (runesB ⟨#[91, 93, 93]⟩) 0 [] = some [⟨4, 0, false, [(93, 93)]⟩] := by
  have h1 : atomF (List.drop 0 [91, 93, 93]) = some (⟨4, 0, false, [(93, 93)]⟩, 3) := by
    rw [atom_set (by decide)]
    show Option.map _ (setF [93, 93] 0 []) = _
    have hs : spanF (List.drop 0 [93, 93]) = ((93, 93), 1) := by kernel_rfl
    rw [setF_more (by decide) (by rw [hs]; decide), hs, setF_done (by decide)]
    rfl
  rw [show runesB ⟨#[91, 93, 93]⟩ = [91, 93, 93] by kernel_rfl, compF_more (by decide) h1, compF_end (by decide)]
  rfl
theorem mt1 : mtB [⟨1, 97, false, []⟩, ⟨3, 0, false, []⟩, ⟨1, 99, false, []⟩] (runesB ⟨#[97, 47, 98, 47, 99]⟩) = true := by
  rw [show runesB ⟨#[97, 47, 98, 47, 99]⟩ = [97, 47, 98, 47, 99] by kernel_rfl]
  refine (mtB_iff _ _).2 ((Mt_one (by decide) _ _).2 ⟨97, _, rfl, by decide, (Mt_star rfl _ _).2 ⟨[47, 98, 47], [99], rfl, (Mt_one (by decide) _ _).2 ⟨99, [], rfl, by decide, rfl⟩⟩⟩)
theorem mt2 : mtB [⟨4, 0, false, [(97, 99)]⟩, ⟨2, 0, false, []⟩] (runesB ⟨#[98, 122]⟩) = true := by
  rw [show runesB ⟨#[98, 122]⟩ = [98, 122] by kernel_rfl]
  exact (mtB_iff _ _).2 ((Mt_one (by decide) _ _).2 ⟨98, _, rfl, by decide, (Mt_one (by decide) _ _).2 ⟨122, [], rfl, by decide, rfl⟩⟩)
theorem mt3 : mtB [⟨4, 0, true, [(97, 97)]⟩] (runesB ⟨#[97]⟩) = false := by
  rw [show runesB ⟨#[97]⟩ = [97] by kernel_rfl, Bool.eq_false_iff]
  intro h
  obtain ⟨x, t, e, h1, _⟩ := (Mt_one (by decide) _ _).1 ((mtB_iff _ _).1 h)
  injection e with e _
  subst e
  exact absurd h1 (by decide)
theorem mt4 : mtB [⟨4, 0, false, [(93, 93)]⟩] (runesB ⟨#[93]⟩) = true := by
  rw [show runesB ⟨#[93]⟩ = [93] by kernel_rfl]
  exact (mtB_iff _ _).2 ((Mt_one (by decide) _ _).2 ⟨93, [], rfl, by decide, rfl⟩)
set_option maxHeartbeats 4000000 in
theorem awake11_any (w : World) (hT : Tabs w) :
    Calls Tryd.prog 4 #[] w fun e w' => e = .returned (.bool true) ∧ Below w.heap.size w w' := by
  have H1 := Lib.hid (fun w1 h => match_val ⟨#[97, 42, 99]⟩ ⟨#[97, 47, 98, 47, 99]⟩ (by decide) (by decide) ex1 mt1 w1 h)
  have H2 := Lib.hid (fun w1 h => match_val ⟨#[91, 97, 45, 99, 93, 63]⟩ ⟨#[98, 122]⟩ (by decide) (by decide) ex2 mt2 w1 h)
  have H3 := Lib.hid (fun w1 h => match_val ⟨#[91, 33, 97, 93]⟩ ⟨#[97]⟩ (by decide) (by decide) ex3 mt3 w1 h)
  have H4 := Lib.hid (fun w1 h => match_val ⟨#[91, 93, 93]⟩ ⟨#[93]⟩ (by decide) (by decide) ex4 mt4 w1 h)
  have HT := Lib.hid hT
  clear hT
  go_enter Tryd.func4, Tryd.ntmps4
  go_wp2_with fail
  refine (H1.out _ HT.out).mono ?_; rintro e w1 ⟨rfl, hb1⟩
  have HT1 := Lib.hid (HT.out.below hb1)
  have HB1 := Lib.hid hb1
  clear hb1
  go_wp2_with fail
  refine (H2.out _ HT1.out).mono ?_; rintro e w2 ⟨rfl, hb2⟩
  have HT2 := Lib.hid (HT1.out.below hb2)
  have HB2 := Lib.hid (below_then HB1.out hb2)
  clear hb2
  go_wp2_with fail
  refine (H3.out _ HT2.out).mono ?_; rintro e w3 ⟨rfl, hb3⟩
  have HT3 := Lib.hid (HT2.out.below hb3)
  have HB3 := Lib.hid (below_then HB2.out hb3)
  clear hb3
  go_wp2_with fail
  refine (H4.out _ HT3.out).mono ?_; rintro e w4 ⟨rfl, hb4⟩
  have HB4 := Lib.hid (below_then HB3.out hb4)
  clear hb4
  go_wp2_with fail
  go_ret
  exact ⟨rfl, HB4.out⟩
end Go.Proofs.YtpmielookhacoaaDoor
