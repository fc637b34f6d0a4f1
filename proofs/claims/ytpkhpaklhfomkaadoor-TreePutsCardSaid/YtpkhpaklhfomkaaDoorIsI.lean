/-
  A stable sort of items: what compares; slices.SortStableFunc; tree.Sort.
-/
import Derived.Test.YtpkhpaklhfomkaaDoorIsH
namespace Go.Proofs.YtpkhpaklhfomkaaDoor.Is
set_option maxRecDepth 100000
set_option linter.unusedSimpArgs false
set_option linter.unusedVariables false
open Go.RowKit Go.Joins Go.Deep
theorem fix_perm : ∀ (g : Nat → Nat) (S T : List Nat), (∀ x ∈ S, ∀ y ∈ S, g x = g y → x = y) → S.Pairwise (fun a b => g a ≤ g b) → T.Pairwise (fun a b => g a ≤ g b) → S.Perm T → S = T
  | g, [], T, _, _, _, hp => (List.nil_perm.1 hp).symm
  | g, x :: S, T, hi, hs, ht, hp => by
    match T, ht, hp with
    | [], _, hp => exact absurd hp.length_eq (by simp)
    | y :: T, ht, hp =>
      rw [List.pairwise_cons] at hs ht
      have hxm : x ∈ y :: T := hp.mem_iff.1 (by simp)
      have hym : y ∈ x :: S := hp.mem_iff.2 (by simp)
      have h1 : g y ≤ g x := by
        rcases List.mem_cons.1 hxm with h | h
        · rw [h]; exact Nat.le_refl _
        · exact ht.1 x h
      have h2 : g x ≤ g y := by
        rcases List.mem_cons.1 hym with h | h
        · rw [h]; exact Nat.le_refl _
        · exact hs.1 y h
      have h3 : x = y := hi x (by simp) y hym (by omega)
      subst h3
      rw [fix_perm g S T (fun a ha b hb => hi a (by simp [ha]) b (by simp [hb])) hs.2 ht.2 (List.Perm.cons_inv hp)]
theorem srt_pw (g : Nat → Nat) (S : List Nat) (hs : SrtOn g 0 S.length S) : S.Pairwise (fun a b => g a ≤ g b) := by
  rw [List.pairwise_iff_getElem]
  intro i j hi hj hij
  have := hs i j (Nat.zero_le _) (by omega) hj
  rw [at0, at0, List.getElem?_eq_getElem hi, List.getElem?_eq_getElem hj] at this
  simpa using this

theorem idx_get (l : List Itm) : (List.range l.length).map (atL l) = l := by
  apply List.ext_getElem?
  intro i
  by_cases h : i < l.length
  · rw [List.getElem?_map, List.getElem?_range h, List.getElem?_eq_getElem h]
    simp [atL, List.getElem?_eq_getElem h]
  · rw [List.getElem?_eq_none (by simp; omega), List.getElem?_eq_none (by omega)]
theorem at0_range (m p : Nat) (h : p < m) : at0 (List.range m) p = p := by simp [at0, List.getElem?_range h]
/-- Whatever is sorted by the ranks is the list in order. -/
theorem srt_unique (l : List Itm) (S : List Nat) (hp : S.Perm (List.range l.length)) (hs : SrtOn (rnk l) 0 l.length S) : S.map (atL l) = sortI l := by
  unfold sortI
  congr 1
  have hl : S.length = l.length := by rw [hp.length_eq, List.length_range]
  refine fix_perm (rnk l) S (idxI l) (fun x hx y hy h => ?_) (srt_pw _ _ (by rw [hl]; exact hs)) (idxI_pw l) (hp.trans (idxI_perm l).symm)
  have h1 := List.mem_range.1 (hp.mem_iff.1 hx)
  have h2 := List.mem_range.1 (hp.mem_iff.1 hy)
  exact rnk_inj h1 h2 h
set_option maxHeartbeats 4000000 in
theorem sortC_any (X Y : Itm) (w : World) (hX : X.s.size ≤ 4611686018427387904) : Calls Tryd.prog 25 #[.agg X.cells, .agg Y.cells] w fun e w' => e = .returned (.int .i64 (ordT X.s Y.s)) ∧ Below w.heap.size w w' := by
  have hir := info_item
  have hb1 := (Below.refl w.heap.size w).alloc (Nat.le_refl _) (.cells X.cells 38)
  have hx1 := heap_alloc_new w (.cells X.cells 38)
  have hb2 := (Below.refl _ (w.alloc (.cells X.cells 38))).alloc (Nat.le_refl _) (.cells Y.cells 38)
  have hx2 := heap_alloc_new (w.alloc (.cells X.cells 38)) (.cells Y.cells 38)
  rw [show (w.alloc (.cells X.cells 38)).heap.size = w.heap.size + 1 from by simp only [World.alloc, Array.size_push]] at hx2 hb2
  have hy1 := (hb2.block _ (Nat.lt_succ_self _)).trans hx1
  have HB := Lib.hid (hb1.trans (hb2.mono (Nat.le_succ _)))
  have HO := Lib.hid (fun w => order_any X.s Y.s w hX)
  obtain ⟨x0, x1, x2, x3, x4, x5, x6, x7⟩ := X
  obtain ⟨y0, y1, y2, y3, y4, y5, y6, y7⟩ := Y
  simp only [Itm.cells] at hx2 hy1 HB
  dsimp only at HO
  have z0 := (cell_of_row _ _ 0 _ _ _ hy1).trans (show _ = some (Value.string x0) from rfl)
  have z1 := (cell_of_row _ _ 0 _ _ _ hx2).trans (show _ = some (Value.string y0) from rfl)
  simp only [Itm.cells]
  clear hb1 hx1 hb2 hx2 hy1 hX
  go_enter Tryd.func25, Tryd.ntmps25
  go_upto_region 1 with fail
  generalize hgg : w.heap.size = g at *
  generalize (w.alloc (.cells #[.string x0, .int .i64 x1, .int .u32 x2, .int .u32 x3, .int .u32 x4, .int .i64 x5, .int .i64 x6, .string x7] 38)).alloc (.cells #[.string y0, .int .i64 y1, .int .u32 y2, .int .u32 y3, .int .u32 y4, .int .i64 y5, .int .i64 y6, .string y7] 38) = w2 at *
  go_wp2_with fail
  refine (HO.out w2).mono ?_; rintro e w3 ⟨rfl, d, rfl⟩
  go_wp2_with fail
  go_ret
  exact ⟨rfl, by subst hgg; exact below_drewN HB.out d⟩
theorem cmp_ok (l : List Itm) (w : World) (gd : Nat) (hs : ∀ x ∈ l, x.s.size ≤ 1000000) : CmpOk (atL l) w gd 0 l.length (rnk l) := by
  refine ⟨fun a b => ordT (atL l a).s (atL l b).s, fun a b ha hb hba => ?_, fun w1 _ a b ha hb => sortC_any _ _ w1 ?_⟩
  · rw [rnk_iff ha hb]
    constructor
    · intro h; exact decide_eq_true (.inl h)
    · intro h
      rcases of_decide_eq_true h with h | ⟨_, h⟩
      · exact h
      · omega
  · have := hs (atL l a) (by unfold atL; rw [List.getElem?_eq_getElem ha]; exact List.getElem_mem ha)
    omega
theorem insI_nil (A : Option Addr) (c : Nat) (w : World) :
    Calls Tryd.prog 53 #[.slice A 0 c, .int .i64 0, .int .i64 0, .func (.func 25) #[] #[]] w fun e w' => e = .returned (.tuple #[]) ∧ w' = w := by
  go_enter Tryd.func53, Tryd.ntmps53
  go_wp2_with fail
  refine wp_loop_rounds 1 ?_
  rw [rounds_succ]
  go_wp2_with fail
  go_end0
  exact ⟨rfl, rfl⟩
theorem stabI_nil (A : Option Addr) (c : Nat) (w : World) :
    Calls Tryd.prog 41 #[.slice A 0 c, .int .i64 0, .func (.func 25) #[] #[]] w fun e w' => e = .returned (.tuple #[]) ∧ w' = w := by
  have H := Lib.hid (insI_nil A c w)
  go_enter Tryd.func41, Tryd.ntmps41
  go_wp2_with fail
  refine wp_loop_rounds 1 ?_
  rw [rounds_succ]
  go_wp2_with fail
  refine H.out.mono ?_; rintro e w1 ⟨rfl, rfl⟩
  go_wp2_with fail
  refine wp_loop_rounds 1 ?_
  rw [rounds_succ]
  go_wp2_with fail
  go_end0
  exact ⟨rfl, rfl⟩
theorem sortN_nil (A : Option Addr) (c : Nat) (w : World) :
    Calls Tryd.prog 24 #[.slice A 0 c, .func (.func 25) #[] #[]] w fun e w' => e = .returned (.tuple #[]) ∧ w' = w := by
  have H := Lib.hid (stabI_nil A c w)
  go_enter Tryd.func24, Tryd.ntmps24
  go_wp2_with fail
  refine H.out.mono ?_; rintro e w1 ⟨rfl, rfl⟩
  go_wp2_with fail
  go_end0
  exact ⟨rfl, rfl⟩
end Go.Proofs.YtpkhpaklhfomkaaDoor.Is
namespace Go.Proofs.YtpkhpaklhfomkaaDoor
open Go.RowKit Go.Joins Go.Deep
theorem sortI_nil : sortI [] = [] := List.eq_nil_of_length_eq_zero (by
  unfold sortI
  rw [List.length_map, (idxI_perm []).length_eq]
  rfl)
theorem sortI_len (l : List Itm) : (sortI l).length = l.length := by
  unfold sortI
  rw [List.length_map, (idxI_perm l).length_eq, List.length_range]
set_option maxHeartbeats 4000000 in
theorem tsort_any (A : Option Addr) (c : Nat) (l : List Itm) (w : World) (hR : Itms w A l) (hl : l.length ≤ 1000) (hs : ∀ x ∈ l, x.s.size ≤ 1000000) :
    Calls Tryd.prog 11 #[.slice A l.length c] w fun e w' => ∃ A' c', e = .returned (.slice A' l.length c') ∧ NewI w' w.heap.size A' (sortI l) ∧ Below w.heap.size w w' := by
  have HC := Lib.hid (cloneI_any A c l w hR (by omega))
  have HS := Lib.hid hs
  clear hR hs
  go_enter Tryd.func11, Tryd.ntmps11
  go_wp2_with fail
  refine HC.out.mono ?_; rintro e w1 ⟨A1, c1, rfl, hc1, hN, hb1⟩
  have HB1 := Lib.hid hb1
  clear hb1 HC
  rcases hN with rfl | ⟨g, rfl, hgB, hIO⟩
  · have H := Lib.hid (Is.sortN_nil A1 c1 w1)
    go_wp2_with fail
    refine H.out.mono ?_; rintro e w2 ⟨rfl, rfl⟩
    go_wp2_with fail
    go_ret
    exact ⟨A1, c1, rfl, .inl sortI_nil, HB1.out⟩
  · have H := Lib.hid (Is.sort_any (atL l) 0 g l.length c1 0 l.length (rnk l) (List.range l.length) w1 ⟨List.length_range, by rw [Is.idx_get]; exact hIO⟩ (fun x hx => List.mem_range.1 hx) (Is.cmp_ok l w1 g HS.out) hl (fun p q h1 h2 => by rw [Is.at0_range _ _ (by omega), Is.at0_range _ _ h2]; exact h1) (fun _ => Is.sym_ok (atL l) 0 g l.length c1 0 l.length (rnk l) hl))
    clear hIO
    go_wp2_with fail
    refine H.out.mono ?_; rintro e w2 ⟨rfl, S', ⟨hsl, hio⟩, hmv, hsr, hg⟩
    have HB2 := Lib.hid (HB1.out.grown hg HB1.out.size (fun k hk => by injection hk with hk; subst hk; exact hgB))
    have HIO := Lib.hid hio
    have HEQ : Hid (S'.map (atL l) = sortI l) := Is.srt_unique l S' hmv.perm hsr
    clear hio hg hmv hsr H
    go_wp2_with fail
    go_ret
    exact ⟨_, c1, rfl, .inr ⟨g, rfl, hgB, by rw [← HEQ.out]; exact HIO.out⟩, HB2.out⟩
end Go.Proofs.YtpkhpaklhfomkaaDoor
