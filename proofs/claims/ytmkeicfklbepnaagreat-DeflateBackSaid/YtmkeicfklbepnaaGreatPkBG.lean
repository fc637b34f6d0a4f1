/-
 Contracts: rows put together.
 Contracts: codes made of lengths, two of them, the fixed ones.
 Contracts: the fixed codes.
-/
import Derived.Test.YtmkeicfklbepnaaGreatPkBF
import Derived.Lib.AppendZerosOnto
import Derived.Maps.AppendAt

namespace Go.Proofs.YtmkeicfklbepnaaGreat
set_option maxRecDepth 100000
open Go.RowKit Go.Deep Go.Joins

set_option maxHeartbeats 2000000 in
theorem grow_any (B n : Nat) (h1 : 1 ≤ n) (hn : n ≤ 1000000) (w : World) (hB : B ≤ w.heap.size) :
  Calls Tryz.prog 97 #[.slice none 0 0, .int .i64 n] w fun e w' => ∃ G, e = .returned (.slice (some ⟨w.heap.size, 0, none⟩) 0 G) ∧ w'.ownsRow B 5 1 (.slice (some ⟨w.heap.size, 0, none⟩) 0 G) 0 [] ∧ Below w.heap.size w w' := by
 obtain ⟨i0, hi, hz0, hz1, hz2⟩ := info_parts info8
 have h3 : ¬ ((n : Int) < 0) := by omega
 have h4 : (n : Int) > 0 := by omega
 have hold : (Builtin.firstCells i0.size 0 (.slice none 0 0)).run Tryz.prog w.drew = .ok (#[] : Array Value) w.drew := run_firstCells_none w.drew i0.size 0 0 0
 have hrz : ∀ ty, (Builtin.append_ #[37, 3] ty #[.slice none 0 0, .int .i64 (n : Int)]).run Tryz.prog w =
   .ok (.slice (some ⟨w.heap.size, 0, none⟩) n (grownCap w n 0 5)) (w.drew.alloc (.cells (#[] ++ Builtin.zeroCells (Value.int .u8 0).cells n ++ Builtin.zeroCells (Value.int .u8 0).cells (grownCap w n 0 5 - n)) 5)) := fun ty => by
  have h := Lib.run_append_grow_zeros w 37 3 ty 5 i0 (.int .u8 0) .i64 .i64 Tryz.underlying37 Tryz.underlying3 hi hz0 none 0 0 [] (by simpa using hold) n (by omega) (by omega) (by omega) (by omega) (by rw [hz2]; omega) (by rw [Nat.zero_add]; exact growslice_fits (by omega) (by rw [hz2]; omega))
  rw [Nat.zero_add] at h
  exact h
 have hGn : n ≤ grownCap w n 0 5 := grownCap_ge w _ _ _
 have hGm := grownCap_le_maxLen w n 0 5 (by unfold maxLen; omega)
 obtain ⟨G, hG⟩ : ∃ G, G = grownCap w n 0 5 := ⟨_, rfl⟩
 rw [← hG] at hrz hGn hGm
 have HGM := Lib.hid hGm
 have hG63 : G ≤ 9223372036854775807 := by unfold maxLen at hGm; omega
 have HW : Hid ((w.alloc (.cells (Builtin.zeroCells #[Value.int .u8 0] n ++ Builtin.zeroCells #[Value.int .u8 0] (G - n)) 5)).drew.ownsRow B 5 1 (.slice (some ⟨w.heap.size, 0, none⟩) 0 G) 0 []) := by
  refine ⟨rfl, .inr ⟨w.heap.size, G, _, rfl, hB, heap_alloc_new w _, Nat.zero_le _, hGm, ?_, rfl⟩⟩
  simp [Builtin.zeroCells]
  omega
 have HBW : Hid (Below w.heap.size w (w.alloc (.cells (Builtin.zeroCells #[Value.int .u8 0] n ++ Builtin.zeroCells #[Value.int .u8 0] (G - n)) 5)).drew) := ((Below.refl _ _).alloc (Nat.le_refl _) _).drew
 clear hold hG hGm
 go_enter Tryz.func97, Tryz.ntmps97
 go_wp2_with (at_builtin; refine Lib.wpList_append_run _ rfl _ _ _ _ rfl _ _ rfl rfl _ _ (hrz _) ?_)
 go_ret
 exact ⟨G, rfl, HW.out, HBW.out⟩

/-- The first k rows, one behind the other. -/
def joinR (rs : Nat → List Nat) : Nat → List Nat
 | 0 => []
 | k + 1 => joinR rs k ++ rs k
theorem joinR_mono (rs : Nat → List Nat) (k : Nat) : ∀ d, (joinR rs k).length ≤ (joinR rs (k + d)).length
 | 0 => Nat.le_refl _
 | d + 1 => by
  rw [← Nat.add_assoc, joinR, List.length_append]
  have := joinR_mono rs k d
  omega
set_option maxHeartbeats 4000000 in
theorem concat_any (gc n : Nat) (gi : Nat → Nat) (rs : Nat → List Nat) (h0 : 1 ≤ n) (hn : n ≤ 10) (hlen : ∀ i, i < n → 1 ≤ (rs i).length) (htot : (joinR rs n).length ≤ 100000) (w : World) (hgc : gc < w.heap.size)
  (hc : ∀ i, i < n → w.cell? ⟨gc, i, none⟩ = some (.slice (some ⟨gi i, 0, none⟩) (rs i).length (rs i).length)) (hr : ∀ i, i < n → w.heap[gi i]? = some (.cells (cells8 (rs i)).toArray 5 (0, 0))) :
  Calls Tryz.prog 67 #[.slice (some ⟨gc, 0, none⟩) n n] w fun e w' => ∃ g cap, e = .returned (.slice (some ⟨g, 0, none⟩) (joinR rs n).length cap) ∧ w'.ownsRow w.heap.size 5 1 (.slice (some ⟨g, 0, none⟩) (joinR rs n).length cap) (joinR rs n).length (cells8 (joinR rs n)) ∧ Below w.heap.size w w' := by
 have HC := Lib.hid hc
 have HR := Lib.hid hr
 have HL := Lib.hid hlen
 have hmono : ∀ k, k ≤ n → (joinR rs k).length ≤ (joinR rs n).length := fun k hk => by
  have := joinR_mono rs k (n - k)
  rwa [show k + (n - k) = n by omega] at this
 have HMO := Lib.hid hmono
 have HTOT := Lib.hid htot
 have hpos : 1 ≤ (joinR rs n).length := by
  have h1 := hmono 1 h0
  have h2 := hlen 0 (by omega)
  have h3 : (joinR rs 1).length = (rs 0).length := by rw [joinR, joinR, List.nil_append]
  omega
 have HPOS := Lib.hid hpos
 have HJ := Lib.hid (fun k => show joinR rs (k + 1) = joinR rs k ++ rs k from rfl)
 have HG := Lib.hid (grow_any w.heap.size (joinR rs n).length hpos (by omega) w (Nat.le_refl _))
 clear hc hr hlen hmono htot hpos
 go_enter Tryz.func67, Tryz.ntmps67
 go_wp2_with fail
 go_loop [3, 11] (fun t i => ∃ k : Nat, k ≤ n ∧ i = .int .i64 (k : Nat) ∧ t = .int .i64 ((joinR rs k).length : Nat)) (fun _ i => n - (intOf i).toNat)
 case atStart => exact ⟨0, Nat.zero_le _, rfl, rfl⟩
 case round =>
  obtain ⟨k, hk, rfl, rfl⟩ := hrel
  by_cases hlt : k < n
  ·have hcell := HC.out k hlt
   have hm1 := HMO.out (k + 1) (by omega)
   have hm2 := HMO.out k hk
   have hj := congrArg List.length (HJ.out k)
   rw [List.length_append] at hj
   have HJL := Lib.hid hj
   have htt := HTOT.out
   have hll : (rs k).length ≤ 100000 := by omega
   have hkk : (joinR rs k).length ≤ 100000 := by omega
   clear hm1 hm2 hj htt
   generalize (joinR rs k).length = a at *
   generalize (rs k).length = b at *
   go_wp2_with fail
   go_round
   case rel => exact ⟨k + 1, by omega, by go_num, by rw [HJL.out]; go_num⟩
   case measure => simp [intOf]; omega
  ·obtain rfl : k = n := by omega
   have htt := HTOT.out
   go_wp2_with fail
   refine (HG.out).mono ?_; rintro e w1 ⟨G, rfl, hown, hb⟩
   have HO1 := Lib.hid hown
   have HB1 := Lib.hid hb
   clear hown hb HG
   obtain ⟨i0, hi, hz0, hz1, hz2⟩ := info_parts info8
   go_wp2_with fail
   go_loopw [6, 27] (fun v i wr => ∃ j g cap, j ≤ k ∧ i = .int .i64 (j : Nat) ∧ v = .slice (some ⟨g, 0, none⟩) (joinR rs j).length cap ∧ wr.ownsRow w.heap.size 5 1 v (joinR rs j).length (cells8 (joinR rs j)) ∧ Below w.heap.size w wr) (fun _ i _ => k - (intOf i).toNat)
   case atStart => exact ⟨0, w.heap.size, G, Nat.zero_le _, rfl, rfl, HO1.out, HB1.out⟩
   case round =>
    obtain ⟨j, g, cap, hj, rfl, rfl, ho, hb⟩ := hrel
    have HO := Lib.hid ho
    have HB := Lib.hid hb
    by_cases hjk : j < k
    ·have hcell : wr.cell? ⟨gc, j, none⟩ = some (.slice (some ⟨gi j, 0, none⟩) (rs j).length (rs j).length) := (hb.cell (p := ⟨gc, j, none⟩) hgc).trans (HC.out j hjk)
     have hgi := lt_of_heap (HR.out j hjk)
     have HRJ : Hid (wr.heap[gi j]? = some (.cells (cells8 (rs j)).toArray 5 (0, 0))) := (hb.block _ hgi).trans (HR.out j hjk)
     have hm1 := HMO.out (j + 1) (by omega)
     have hJ := congrArg List.length (HJ.out j)
     rw [List.length_append] at hJ
     have HJL := Lib.hid hJ
     have HJJ := Lib.hid (HJ.out j)
     have hll := HL.out j hjk
     have hsum : (joinR rs j).length + (rs j).length ≤ 100000 := by omega
     have hbase : w.heap.size ≤ wr.heap.size := hb.size
     have HCL : Hid ((cells8 (rs j)).length = (rs j).length) := by show _ = _; simp [cells8]
     have HON : Hid (∀ u ∈ cells8 (rs j), u.oneCell' = true) := by
      intro u hu
      unfold cells8 at hu
      rw [List.mem_map] at hu
      obtain ⟨_, _, rfl⟩ := hu
      rfl
     have HNW : Hid (∀ q u, (cells8 (rs j))[q]? = some u → wr.cell? ((⟨gi j, 0, none⟩ : Addr).add q) = some u) := by
      intro q u hu
      rw [Addr.add_lit, Nat.zero_add, cell_of_row wr (gi j) q _ _ _ HRJ.out, List.getElem?_toArray]
      exact hu
     clear ho hb hm1 hJ
     generalize hNE : cells8 (rs j) = news at *
     generalize hLE : (rs j).length = b at *
     generalize hLA : (joinR rs j).length = a at *
     have HNE := Lib.hid hNE
     clear hNE hLE hLA
     go_wp2_with (at_builtin; refine wpList_append_own_at _ rfl (.tmp 31) (.tmp 32) _ rfl w.heap.size 5 i0 (.int .u8 0) 1 1 Tryz.underlying37 hi hz0 hz1 hz2 rfl (by decide) _ a (cells8 (joinR rs j)) rfl HO.out ⟨gi j, 0, none⟩ b b news rfl ?c1 ?c2 ?c3 ?c4 ?c5 hbase ?_)
     case c1 => rw [HCL.out, Nat.mul_one]
     case c2 => exact HNW.out
     case c3 => exact HON.out
     case c4 => unfold maxLen; omega
     case c5 => omega
     intro v2 w2 hown hgrow _ hat
     have HB2 := Lib.hid (HB.out.grown hgrow hbase (by
      intro q hq
      have := HO.out.lt q hq
      exact this.1))
     obtain ⟨g2, cap2, hv2⟩ : ∃ g2 cap2, v2 = .slice (some ⟨g2, 0, none⟩) (a + b) cap2 := by
      rcases ownsRow_forms hown with ⟨rfl, h⟩ | ⟨g2, cap2, h⟩
      ·omega
      ·exact ⟨g2, cap2, h⟩
     subst hv2
     have HO2 : Hid (w2.ownsRow w.heap.size 5 1 (.slice (some ⟨g2, 0, none⟩) (a + b) cap2) (a + b) (cells8 (joinR rs (j + 1)))) := by
      show World.ownsRow _ _ _ _ _ _ _
      rw [HJJ.out, cells8_app, HNE.out]
      exact hown
     clear hown hgrow hat
     go_wp2
     go_roundw
     case rel => exact ⟨j + 1, g2, cap2, by omega, by go_num, by rw [HJL.out], by rw [HJL.out]; exact HO2.out, HB2.out⟩
     case measure => simp [intOf]; omega
    ·obtain rfl : j = k := by omega
     clear ho hb
     go_wp2_with fail
     go_ret
     exact ⟨g, cap, rfl, HO.out, HB.out⟩
end Go.Proofs.YtmkeicfklbepnaaGreat

namespace Go.Proofs.YtmkeicfklbepnaaGreat
set_option maxRecDepth 100000
open Go.RowKit Go.Deep Go.Joins

theorem newC_ok (A : Option Addr) (cap : Nat) (op : Bool) (c : Cod) (hn : c.n ≤ 4096) (h15 : ∀ i, i < c.n → c.ls i ≤ 15) (hm : may c op) (w : World) (hL : Lens w A c.n c.ls) :
  Calls Tryz.prog 96 #[.slice A c.n cap, .bool op] w fun e w' => ∃ g, e = .returned (.tuple #[.pointer (some ⟨g, 0, none⟩), .int .i64 0]) ∧ CdC w' g c ∧ Below w.heap.size w w' :=
 (new_ok A c.n cap op c.ls hn w hL h15 hm.1 hm.2).mono fun _ _ ⟨g, h1, ⟨bm, h2⟩, h3⟩ => ⟨g, h1, ⟨⟨_, bm, h2⟩, max_le c.ls c.n h15, hn, fun i hi => ⟨by have := h15 i hi; omega, by have : c.W i ≤ 32768 := wordN_le c.ls c.n h15 hm.1 i hi; omega⟩⟩, h3⟩
theorem newC_no (A : Option Addr) (cap : Nat) (op : Bool) (c : Cod) (hn : c.n ≤ 4096) (h15 : ∀ i, i < c.n → c.ls i ≤ 15) (hm : ¬ may c op) (w : World) (hL : Lens w A c.n c.ls) :
  Calls Tryz.prog 96 #[.slice A c.n cap, .bool op] w fun e w' => e = .returned (.tuple #[.pointer none, .int .i64 10]) ∧ Below w.heap.size w w' := by
 by_cases h1 : 32768 < fillN c.ls c.n
 ·refine (new_err A c.n cap op 10 (by decide) w (words_over A c.n cap c.ls hn w hL h15 h1)).mono ?_
  rintro e w' ⟨h, rfl⟩
  exact ⟨h, Below.refl _ _⟩
 ·have h2 : fillN c.ls c.n < 32768 := by
   rcases Nat.lt_or_ge (fillN c.ls c.n) 32768 with h | h
   ·exact h
   ·exact absurd ⟨by omega, .inl (by omega)⟩ hm
  cases op with
  | false => exact new_part A c.n cap c.ls hn w hL h15 h2
  | true =>
   refine new_open_no A c.n cap c.ls hn w hL h15 h2 ?_
   rcases Nat.lt_or_ge 1 (sumN c.ls c.n) with h | h
   ·exact h
   ·exact absurd ⟨by omega, .inr ⟨rfl, h⟩⟩ hm
theorem two_cells {w : World} {g : Nat} {a b x y : Value} {T : TypeId} (h : w.heap[g]? = some (.cells #[a, b] T (0, 0))) : ((w.setCell ⟨g, 0, none⟩ x).setCell ⟨g, 1, none⟩ y).heap[g]? = some (.cells #[x, y] T (0, 0)) := by
 have h1 := heap_setCell_same w g 0 _ _ x h
 have h2 := heap_setCell_same _ g 1 _ _ y h1
 simpa using h2
/-- Blocks of codes and of words, and maps, stay. -/
def Near (w w' : World) : Prop := ∀ (i : Nat) (o : Obj), w.heap[i]? = some o → ((∃ cs f, o = .cells cs 155 f) ∨ (∃ cs f, o = .cells cs 151 f) ∨ (∀ cs T f, o ≠ .cells cs T f)) → w'.heap[i]? = some o
theorem Near.then {w w1 w2 : World} (h : Near w w1) (k : Near w1 w2) : Near w w2 := fun i o h0 h1 => k i o (h i o h0 h1) h1
theorem near_set {w : World} {g i : Nat} {v : Value} {cs : Array Value} {f : Nat × Nat} {T : TypeId} (hb : w.heap[g]? = some (.cells cs T f)) (h1 : T ≠ 155) (h2 : T ≠ 151) : Near w (w.setCell ⟨g, i, none⟩ v) := fun j o h0 h => by
 by_cases e : j = g
 ·subst e
  rw [hb] at h0
  injection h0 with h0
  subst h0
  rcases h with ⟨cs', f', h⟩ | ⟨cs', f', h⟩ | h
  ·simp at h
   exact absurd h.2.1 h1
  ·simp at h
   exact absurd h.2.1 h2
  ·exact absurd rfl (h _ _ _)
 ·exact (Below.heap_setCell _ _ _ _ e).trans h0
theorem CdC.near {w w' : World} {g : Nat} {c : Cod} (h : CdC w g c) (hf : Near w w') : CdC w' g c := by
 obtain ⟨⟨B, bm, A, cp, hb0, ho, hm, h1, h2⟩, h3⟩ := h
 refine ⟨⟨B, bm, A, cp, hf _ _ hb0 (.inl ⟨_, _, rfl⟩), row_kept' ho (fun b e => ?_), map_stay hm ?_, h1, h2⟩, h3⟩
 ·rcases ho.2 with ⟨h0, _⟩ | ⟨g2, cap2, cur, h0, _, hb2, _⟩
  ·rw [h0] at e
   cases e
  ·rw [h0] at e
   injection e with e
   subst e
   rw [hb2, hf _ _ hb2 (.inr (.inl ⟨_, _, rfl⟩))]
 ·obtain ⟨es, clock, hm0, r⟩ := hm
  rw [hm0, hf _ _ hm0 (.inr (.inr (fun cs T f e => by cases e)))]
/-- What pair answers with. -/
def prOk (c d : Cod) (e : Ending) (w' : World) : Prop := ∃ gs gd, e = .returned (.tuple #[CsV gs gd, .int .i64 0]) ∧ CdC w' gs c ∧ CdC w' gd d
def prBad (e : Ending) : Prop := ∃ p q, e = .returned (.tuple #[.agg #[.pointer p, .pointer q], .int .i64 10])
set_option maxHeartbeats 2000000 in
theorem pair_ok (A1 A2 : Option Addr) (cap1 cap2 : Nat) (c d : Cod) (hnc : c.n ≤ 4096) (hnd : d.n ≤ 4096) (h15c : ∀ i, i < c.n → c.ls i ≤ 15) (h15d : ∀ i, i < d.n → d.ls i ≤ 15) (hmc : may c true) (hmd : may d true) (w : World) (hLc : Lens w A1 c.n c.ls) (hLd : Lens w A2 d.n d.ls) :
  Calls Tryz.prog 66 #[.slice A1 c.n cap1, .slice A2 d.n cap2] w fun e w' => prOk c d e w' ∧ Below w.heap.size w w' := by
 have hb0 : Below w.heap.size w (w.alloc (.cells #[.pointer none, .pointer none] 90)) := (Below.refl _ _).alloc (Nat.le_refl _) _
 have HRB : Hid ((w.alloc (.cells #[.pointer none, .pointer none] 90)).heap[w.heap.size]? = some (.cells #[.pointer none, .pointer none] 90 (0, 0))) := heap_alloc_new w _
 have HN1 := Lib.hid (newC_ok A1 cap1 true c hnc h15c hmc _ (hLc.below (Nat.le_refl _) hb0))
 have HN2 := Lib.hid (fun w1 (h : Below w.heap.size w w1) => newC_ok A2 cap2 true d hnd h15d hmd w1 (hLd.below (Nat.le_refl _) h))
 have HB0 := Lib.hid hb0
 clear hb0 hLc hLd hmc hmd h15c h15d
 go_enter Tryz.func66, Tryz.ntmps66
 go_wp2_with fail
 refine (HN1.out).mono ?_; rintro e w1 ⟨gs, rfl, hc1, hb1⟩
 have HB1 := Lib.hid (HB0.out.trans (hb1.mono (by simp)))
 have HR1 : Hid (w1.heap[w.heap.size]? = some (.cells #[.pointer none, .pointer none] 90 (0, 0))) := (hb1.block _ (by simp)).trans HRB.out
 have HC1 := Lib.hid hc1
 clear hc1 hb1 HRB
 go_wp2_with fail
 refine (HN2.out w1 HB1.out).mono ?_; rintro e w2 ⟨gd, rfl, hd2, hb2⟩
 have HB2 := Lib.hid (HB1.out.trans (hb2.mono HB1.out.size))
 have hr2 : w2.heap[w.heap.size]? = some (.cells #[.pointer none, .pointer none] 90 (0, 0)) := (hb2.block _ (lt_of_heap HR1.out)).trans HR1.out
 have HC2 := Lib.hid (HC1.out.far (far_below hb2))
 have HD2 := Lib.hid hd2
 have f0 := frozen_of_row w2 _ 0 _ _ hr2
 have f1 := frozen_of_row w2 _ 1 _ _ hr2
 have e0 : w2.cell? ⟨w.heap.size, 0, none⟩ = some (.pointer none) := by rw [cell_of_row w2 _ 0 _ _ _ hr2]; rfl
 have e1 : w2.cell? ⟨w.heap.size, 1, none⟩ = some (.pointer none) := by rw [cell_of_row w2 _ 1 _ _ _ hr2]; rfl
 have HR2 := Lib.hid hr2
 clear hd2 hb2 hr2
 go_wp2
 have hr3 := two_cells (x := .pointer (some ⟨gs, 0, none⟩)) (y := .pointer (some ⟨gd, 0, none⟩)) HR2.out
 have hb3 : Below w.heap.size w ((w2.setCell ⟨w.heap.size, 0, none⟩ (.pointer (some ⟨gs, 0, none⟩))).setCell ⟨w.heap.size, 1, none⟩ (.pointer (some ⟨gd, 0, none⟩))) := (HB2.out.setCell (Nat.le_refl _) _).setCell (Nat.le_refl _) _
 have hn3 := (near_set (i := 0) (v := .pointer (some ⟨gs, 0, none⟩)) HR2.out (by decide) (by decide)).then (near_set (i := 1) (v := .pointer (some ⟨gd, 0, none⟩)) (heap_setCell_same w2 w.heap.size 0 _ _ (.pointer (some ⟨gs, 0, none⟩)) HR2.out) (by decide) (by decide))
 generalize hw3 : (w2.setCell ⟨w.heap.size, 0, none⟩ (.pointer (some ⟨gs, 0, none⟩))).setCell ⟨w.heap.size, 1, none⟩ (.pointer (some ⟨gd, 0, none⟩)) = w3 at *
 have e0' : w3.cell? ⟨w.heap.size, 0, none⟩ = some (.pointer (some ⟨gs, 0, none⟩)) := by rw [cell_of_row w3 _ 0 _ _ _ hr3]; rfl
 have e1' : w3.cell? ⟨w.heap.size, 1, none⟩ = some (.pointer (some ⟨gd, 0, none⟩)) := by rw [cell_of_row w3 _ 1 _ _ _ hr3]; rfl
 refine bodyPost_ret (v := .tuple #[.agg #[.pointer (some ⟨gs, 0, none⟩), .pointer (some ⟨gd, 0, none⟩)], .int .i64 0]) (by simp [results, Tryz.results66, go_sem, e0', e1']) rfl ⟨⟨gs, gd, rfl, HC2.out.near hn3, HD2.out.near hn3⟩, hb3⟩

set_option maxHeartbeats 2000000 in
theorem pair_no1 (A1 A2 : Option Addr) (cap1 cap2 n2 : Nat) (c : Cod) (hnc : c.n ≤ 4096) (h15c : ∀ i, i < c.n → c.ls i ≤ 15) (hmc : ¬ may c true) (w : World) (hLc : Lens w A1 c.n c.ls) :
  Calls Tryz.prog 66 #[.slice A1 c.n cap1, .slice A2 n2 cap2] w fun e w' => prBad e ∧ Below w.heap.size w w' := by
 have hb0 : Below w.heap.size w (w.alloc (.cells #[.pointer none, .pointer none] 90)) := (Below.refl _ _).alloc (Nat.le_refl _) _
 have HRB : Hid ((w.alloc (.cells #[.pointer none, .pointer none] 90)).heap[w.heap.size]? = some (.cells #[.pointer none, .pointer none] 90 (0, 0))) := heap_alloc_new w _
 have HN1 := Lib.hid (newC_no A1 cap1 true c hnc h15c hmc _ (hLc.below (Nat.le_refl _) hb0))
 have HB0 := Lib.hid hb0
 clear hb0 hLc hmc h15c
 go_enter Tryz.func66, Tryz.ntmps66
 go_wp2_with fail
 refine (HN1.out).mono ?_; rintro e w2 ⟨rfl, hb1⟩
 have HB2 := Lib.hid (HB0.out.trans (hb1.mono (by simp)))
 have hr2 : w2.heap[w.heap.size]? = some (.cells #[.pointer none, .pointer none] 90 (0, 0)) := (hb1.block _ (by simp)).trans HRB.out
 have f0 := frozen_of_row w2 _ 0 _ _ hr2
 have f1 := frozen_of_row w2 _ 1 _ _ hr2
 have e0 : w2.cell? ⟨w.heap.size, 0, none⟩ = some (.pointer none) := by rw [cell_of_row w2 _ 0 _ _ _ hr2]; rfl
 have e1 : w2.cell? ⟨w.heap.size, 1, none⟩ = some (.pointer none) := by rw [cell_of_row w2 _ 1 _ _ _ hr2]; rfl
 have HR2 := Lib.hid hr2
 clear hb1 hr2 HRB
 go_wp2
 have hr3 := two_cells (x := .pointer none) (y := .pointer none) HR2.out
 have hb3 : Below w.heap.size w ((w2.setCell ⟨w.heap.size, 0, none⟩ (.pointer none)).setCell ⟨w.heap.size, 1, none⟩ (.pointer none)) := (HB2.out.setCell (Nat.le_refl _) _).setCell (Nat.le_refl _) _
 generalize hw3 : (w2.setCell ⟨w.heap.size, 0, none⟩ (.pointer none)).setCell ⟨w.heap.size, 1, none⟩ (.pointer none) = w3 at *
 have e0' : w3.cell? ⟨w.heap.size, 0, none⟩ = some (.pointer none) := by rw [cell_of_row w3 _ 0 _ _ _ hr3]; rfl
 have e1' : w3.cell? ⟨w.heap.size, 1, none⟩ = some (.pointer none) := by rw [cell_of_row w3 _ 1 _ _ _ hr3]; rfl
 exact bodyPost_ret (v := .tuple #[.agg #[.pointer none, .pointer none], .int .i64 10]) (by simp [results, Tryz.results66, go_sem, e0', e1']) rfl ⟨⟨none, none, rfl⟩, hb3⟩
set_option maxHeartbeats 2000000 in
theorem pair_no2 (A1 A2 : Option Addr) (cap1 cap2 : Nat) (c d : Cod) (hnc : c.n ≤ 4096) (hnd : d.n ≤ 4096) (h15c : ∀ i, i < c.n → c.ls i ≤ 15) (h15d : ∀ i, i < d.n → d.ls i ≤ 15) (hmc : may c true) (hmd : ¬ may d true) (w : World) (hLc : Lens w A1 c.n c.ls) (hLd : Lens w A2 d.n d.ls) :
  Calls Tryz.prog 66 #[.slice A1 c.n cap1, .slice A2 d.n cap2] w fun e w' => prBad e ∧ Below w.heap.size w w' := by
 have hb0 : Below w.heap.size w (w.alloc (.cells #[.pointer none, .pointer none] 90)) := (Below.refl _ _).alloc (Nat.le_refl _) _
 have HRB : Hid ((w.alloc (.cells #[.pointer none, .pointer none] 90)).heap[w.heap.size]? = some (.cells #[.pointer none, .pointer none] 90 (0, 0))) := heap_alloc_new w _
 have HN1 := Lib.hid (newC_ok A1 cap1 true c hnc h15c hmc _ (hLc.below (Nat.le_refl _) hb0))
 have HN2 := Lib.hid (fun w1 (h : Below w.heap.size w w1) => newC_no A2 cap2 true d hnd h15d hmd w1 (hLd.below (Nat.le_refl _) h))
 have HB0 := Lib.hid hb0
 clear hb0 hLc hLd hmc hmd h15c h15d
 go_enter Tryz.func66, Tryz.ntmps66
 go_wp2_with fail
 refine (HN1.out).mono ?_; rintro e w1 ⟨gs, rfl, hc1, hb1⟩
 have HB1 := Lib.hid (HB0.out.trans (hb1.mono (by simp)))
 have HR1 : Hid (w1.heap[w.heap.size]? = some (.cells #[.pointer none, .pointer none] 90 (0, 0))) := (hb1.block _ (by simp)).trans HRB.out
 clear hc1 hb1 HRB
 go_wp2_with fail
 refine (HN2.out w1 HB1.out).mono ?_; rintro e w2 ⟨rfl, hb2⟩
 have HB2 := Lib.hid (HB1.out.trans (hb2.mono HB1.out.size))
 have hr2 : w2.heap[w.heap.size]? = some (.cells #[.pointer none, .pointer none] 90 (0, 0)) := (hb2.block _ (lt_of_heap HR1.out)).trans HR1.out
 have f0 := frozen_of_row w2 _ 0 _ _ hr2
 have f1 := frozen_of_row w2 _ 1 _ _ hr2
 have e0 : w2.cell? ⟨w.heap.size, 0, none⟩ = some (.pointer none) := by rw [cell_of_row w2 _ 0 _ _ _ hr2]; rfl
 have e1 : w2.cell? ⟨w.heap.size, 1, none⟩ = some (.pointer none) := by rw [cell_of_row w2 _ 1 _ _ _ hr2]; rfl
 have HR2 := Lib.hid hr2
 clear hb2 hr2
 go_wp2
 have hr3 := two_cells (x := .pointer (some ⟨gs, 0, none⟩)) (y := .pointer none) HR2.out
 have hb3 : Below w.heap.size w ((w2.setCell ⟨w.heap.size, 0, none⟩ (.pointer (some ⟨gs, 0, none⟩))).setCell ⟨w.heap.size, 1, none⟩ (.pointer none)) := (HB2.out.setCell (Nat.le_refl _) _).setCell (Nat.le_refl _) _
 generalize hw3 : (w2.setCell ⟨w.heap.size, 0, none⟩ (.pointer (some ⟨gs, 0, none⟩))).setCell ⟨w.heap.size, 1, none⟩ (.pointer none) = w3 at *
 have e0' : w3.cell? ⟨w.heap.size, 0, none⟩ = some (.pointer (some ⟨gs, 0, none⟩)) := by rw [cell_of_row w3 _ 0 _ _ _ hr3]; rfl
 have e1' : w3.cell? ⟨w.heap.size, 1, none⟩ = some (.pointer none) := by rw [cell_of_row w3 _ 1 _ _ _ hr3]; rfl
 exact bodyPost_ret (v := .tuple #[.agg #[.pointer (some ⟨gs, 0, none⟩), .pointer none], .int .i64 10]) (by simp [results, Tryz.results66, go_sem, e0', e1']) rfl ⟨⟨_, none, rfl⟩, hb3⟩
end Go.Proofs.YtmkeicfklbepnaaGreat

namespace Go.Proofs.YtmkeicfklbepnaaGreat
set_option maxRecDepth 100000
open Go.RowKit Go.Deep Go.Joins

theorem lens_own {w : World} {B n cap : Nat} {A : Option Addr} {l : List Nat} (h : w.ownsRow B 5 1 (.slice A n cap) n (cells8 l)) (hn : l.length = n) (h256 : ∀ x ∈ l, x < 256) (ls : Nat → Nat) (hls : ∀ i, i < n → ls i = l.getD i 0) : Lens w A n ls := fun h0 => by
 rcases ownsRow_forms h with ⟨h1, h2⟩ | ⟨g2, cap2, h1⟩
 ·omega
 ·injection h1 with h1 _ _
  subst h1
  refine ⟨g2, 0, rfl, (h.lt g2 rfl).2, fun i hi => ?_⟩
  have hil : i < l.length := by omega
  have h3 := h.cellAt i (by omega)
  rw [hls i hi, Nat.zero_add, h3]
  refine ⟨?_, bytes_get h256 hil⟩
  simp only [cells8, List.getElem?_map, List.getElem?_eq_getElem hil, Option.map_some, List.getD_eq_getElem?_getD, Option.getD_some]
theorem lens_row {w : World} {g n : Nat} {l : List Nat} (h : w.heap[g]? = some (.cells (cells8 l).toArray 5 (0, 0))) (hn : l.length = n) (h256 : ∀ x ∈ l, x < 256) (ls : Nat → Nat) (hls : ∀ i, i < n → ls i = l.getD i 0) : Lens w (some ⟨g, 0, none⟩) n ls := fun _ => by
 refine ⟨g, 0, rfl, lt_of_heap h, fun i hi => ?_⟩
 have hil : i < l.length := by omega
 rw [hls i hi, Nat.zero_add, cell_of_row w g i _ _ _ h, List.getElem?_toArray]
 refine ⟨?_, bytes_get h256 hil⟩
 simp only [cells8, List.getElem?_map, List.getElem?_eq_getElem hil, Option.map_some, List.getD_eq_getElem?_getD, Option.getD_some]

def fxR (i : Nat) : List Nat := if i = 0 then List.replicate 144 8 else if i = 1 then List.replicate 112 9 else if i = 2 then List.replicate 24 7 else List.replicate 8 8
theorem fx_len : (joinR fxR 4).length = 288 := by decide +kernel
theorem fx_256 : ∀ x ∈ joinR fxR 4, x < 256 := by decide +kernel
theorem fx_ls : ∀ i, i < 288 → fixS.ls i = (joinR fxR 4).getD i 0 := by decide +kernel
theorem fx_15 : ∀ i, i < fixS.n → fixS.ls i ≤ 15 := by decide +kernel
theorem fx_may : may fixS true := ⟨by decide +kernel, .inl (by decide +kernel)⟩
theorem fd_ls : ∀ i, i < 32 → fixD.ls i = (List.replicate 32 5).getD i 0 := by decide +kernel
theorem fd_15 : ∀ i, i < fixD.n → fixD.ls i ≤ 15 := by decide +kernel
theorem fd_may : may fixD true := ⟨by decide +kernel, .inl (by decide +kernel)⟩

theorem info_codes : (Tryz.prog.info? 90).map (·.size) = some 2 := by kernel_rfl
/-- What fixedCodes answers with. -/
def fxOk (e : Ending) (w' : World) : Prop := ∃ gs gd, e = .returned (CsV gs gd) ∧ CdC w' gs fixS ∧ CdC w' gd fixD
set_option maxHeartbeats 4000000 in
theorem fixed_any (B g gr a lim : Nat) (r : Option Nat) (s : ByteArray) (o : List Nat) (w : World) (hS : Sm w B g gr r s a lim o) :
  Calls Tryz.prog 39 #[.pointer (some ⟨g, 0, none⟩)] w fun e w' => fxOk e w' ∧ Sm w' B g gr r s a lim o ∧ UpS g gr r r w w' := by
 have HS := Lib.hid hS
 have hb0 : Below w.heap.size w (w.alloc (.cells #[.pointer none, .pointer none] 90)) := (Below.refl _ _).alloc (Nat.le_refl _) _
 have HRB : Hid ((w.alloc (.cells #[.pointer none, .pointer none] 90)).heap[w.heap.size]? = some (.cells #[.pointer none, .pointer none] 90 (0, 0))) := heap_alloc_new w _
 obtain ⟨v, p, hb, ho, hv, hR, hx, hrest⟩ := hS
 have hgs := lt_of_heap hb
 have hb1 := (hb0.block g hgs).trans hb
 have c3 : (w.alloc (.cells #[.pointer none, .pointer none] 90)).cell? ⟨g, 3, none⟩ = some p := by rw [cell_of_row _ g 3 _ _ _ hb1]; rfl
 have HB0 := Lib.hid hb0
 have HGB := Lib.hid hb1
 clear hb0 hb ho hv hR hrest hb1
 rcases hx with rfl | ⟨gf, gs, gd, rfl, hgf, hcs, hcd⟩
 ·have HSA := Lib.hid (fun (x k : Nat) (hk : 1 ≤ k) (hk2 : k ≤ 1000) w1 => same_any k x hk hk2 w1)
  have hHS1 := HS.out.below HB0.out
  go_enter Tryz.func39, Tryz.ntmps39
  go_wp2_with fail
  have HZ0 : Hid ((w.alloc (.cells #[.pointer none, .pointer none] 90)).heap.size = w.heap.size + 1) := by show _ = _; simp
  generalize w.alloc (.cells #[.pointer none, .pointer none] 90) = w0 at *
  have HS1 := Lib.hid hHS1
  clear hHS1 c3
  refine (HSA.out 8 144 (by omega) (by omega) w0).mono ?_; rintro e w1 ⟨g1, rfl, hg, hge, hb⟩
  have HG1 : Hid (w1.heap[g1]? = some (.cells (cells8 (List.replicate 144 8)).toArray 5 (0, 0))) := hg
  have HBL1 := Lib.hid hb
  have HGE1 := Lib.hid hge
  clear hg hge hb
  go_wp2_with fail
  refine (HSA.out 9 112 (by omega) (by omega) w1).mono ?_; rintro e w2 ⟨g2, rfl, hg, hge, hb⟩
  have HG2 : Hid (w2.heap[g2]? = some (.cells (cells8 (List.replicate 112 9)).toArray 5 (0, 0))) := hg
  have HBL2 := Lib.hid hb
  have HGE2 := Lib.hid hge
  clear hg hge hb
  go_wp2_with fail
  refine (HSA.out 7 24 (by omega) (by omega) w2).mono ?_; rintro e w3 ⟨g3, rfl, hg, hge, hb⟩
  have HG3 : Hid (w3.heap[g3]? = some (.cells (cells8 (List.replicate 24 7)).toArray 5 (0, 0))) := hg
  have HBL3 := Lib.hid hb
  have HGE3 := Lib.hid hge
  clear hg hge hb
  go_wp2_with fail
  refine (HSA.out 8 8 (by omega) (by omega) w3).mono ?_; rintro e w4 ⟨g4, rfl, hg, hge, hb⟩
  have HG4 : Hid (w4.heap[g4]? = some (.cells (cells8 (List.replicate 8 8)).toArray 5 (0, 0))) := hg
  have HBL4 := Lib.hid hb
  have HGE4 := Lib.hid hge
  clear hg hge hb
  go_wp2_with fail
  have hb04 : Below w0.heap.size w0 w4 := ((HBL1.out.trans (HBL2.out.mono HBL1.out.size)).trans (HBL3.out.mono (Nat.le_trans HBL1.out.size HBL2.out.size))).trans (HBL4.out.mono (Nat.le_trans (Nat.le_trans HBL1.out.size HBL2.out.size) HBL3.out.size))
  have hb4a : Below w4.heap.size w4 (w4.alloc (.cells #[.slice (some ⟨g1, 0, none⟩) 144 144, .slice (some ⟨g2, 0, none⟩) 112 112, .slice (some ⟨g3, 0, none⟩) 24 24, .slice (some ⟨g4, 0, none⟩) 8 8] 37)) := (Below.refl _ _).alloc (Nat.le_refl _) _
  have hk1 := (hb4a.block g1 (lt_of_heap ((HBL4.out.block g1 (Nat.lt_of_lt_of_le (Nat.lt_of_lt_of_le (lt_of_heap HG1.out) HBL2.out.size) HBL3.out.size)).trans ((HBL3.out.block g1 (Nat.lt_of_lt_of_le (lt_of_heap HG1.out) HBL2.out.size)).trans ((HBL2.out.block g1 (lt_of_heap HG1.out)).trans HG1.out))))).trans ((HBL4.out.block g1 (Nat.lt_of_lt_of_le (Nat.lt_of_lt_of_le (lt_of_heap HG1.out) HBL2.out.size) HBL3.out.size)).trans ((HBL3.out.block g1 (Nat.lt_of_lt_of_le (lt_of_heap HG1.out) HBL2.out.size)).trans ((HBL2.out.block g1 (lt_of_heap HG1.out)).trans HG1.out)))
  have hk2 := (hb4a.block g2 (lt_of_heap ((HBL4.out.block g2 (Nat.lt_of_lt_of_le (lt_of_heap HG2.out) HBL3.out.size)).trans ((HBL3.out.block g2 (lt_of_heap HG2.out)).trans HG2.out)))).trans ((HBL4.out.block g2 (Nat.lt_of_lt_of_le (lt_of_heap HG2.out) HBL3.out.size)).trans ((HBL3.out.block g2 (lt_of_heap HG2.out)).trans HG2.out))
  have hk3 := (hb4a.block g3 (lt_of_heap ((HBL4.out.block g3 (lt_of_heap HG3.out)).trans HG3.out))).trans ((HBL4.out.block g3 (lt_of_heap HG3.out)).trans HG3.out)
  have hk4 := (hb4a.block g4 (lt_of_heap HG4.out)).trans HG4.out
  have hnew : (w4.alloc (.cells #[.slice (some ⟨g1, 0, none⟩) 144 144, .slice (some ⟨g2, 0, none⟩) 112 112, .slice (some ⟨g3, 0, none⟩) 24 24, .slice (some ⟨g4, 0, none⟩) 8 8] 37)).heap[w4.heap.size]? = _ := heap_alloc_new w4 _
  have HCON := Lib.hid (concat_any w4.heap.size 4 (fun i => if i = 0 then g1 else if i = 1 then g2 else if i = 2 then g3 else g4) fxR (by omega) (by omega) (by decide) (by rw [fx_len]; omega) _ (lt_of_heap hnew)
   (fun i hi => by
    rw [cell_of_row _ _ i _ _ _ hnew]
    match i, hi with
    | 0, _ => rfl
    | 1, _ => rfl
    | 2, _ => rfl
    | 3, _ => rfl)
   (fun i hi => by
    match i, hi with
    | 0, _ => exact hk1
    | 1, _ => exact hk2
    | 2, _ => exact hk3
    | 3, _ => exact hk4))
  have HB5 := Lib.hid (hb04.trans (hb4a.mono hb04.size))
  clear hk1 hk2 hk3 hk4 hnew hb4a hb04 HG1 HG2 HG3 HG4 HBL1 HBL2 HBL3 HBL4 HGE1 HGE2 HGE3 HGE4
  rw [fx_len] at HCON
  generalize w4.alloc (.cells #[.slice (some ⟨g1, 0, none⟩) 144 144, .slice (some ⟨g2, 0, none⟩) 112 112, .slice (some ⟨g3, 0, none⟩) 24 24, .slice (some ⟨g4, 0, none⟩) 8 8] 37) = w5 at *
  refine (HCON.out).mono ?_; rintro e w6 ⟨gc, cap, rfl, hown, hb⟩
  have HO := Lib.hid hown
  have HB6 := Lib.hid (HB5.out.trans (hb.mono HB5.out.size))
  clear hown hb HCON
  go_wp2_with fail
  refine (HSA.out 5 32 (by omega) (by omega) w6).mono ?_; rintro e w7 ⟨g7, rfl, hg, hge, hb⟩
  have HO7 := Lib.hid (row_kept HO.out (fun q e => hb.block q (HO.out.lt q e).2))
  have HG7 := Lib.hid hg
  have HB7 := Lib.hid (HB6.out.trans (hb.mono HB6.out.size))
  clear hg hge hb
  have hL1 : Lens w7 (some ⟨gc, 0, none⟩) fixS.n fixS.ls := lens_own HO7.out fx_len fx_256 fixS.ls fx_ls
  have hL2 : Lens w7 (some ⟨g7, 0, none⟩) fixD.n fixD.ls := lens_row (l := List.replicate 32 5) HG7.out (by rfl) (by decide) fixD.ls fd_ls
  have HPR := Lib.hid (pair_ok (some ⟨gc, 0, none⟩) (some ⟨g7, 0, none⟩) cap 32 fixS fixD (by decide) (by decide) fx_15 fd_15 fx_may fd_may w7 hL1 hL2)
  clear hL1 hL2
  go_wp2_with fail
  refine (HPR.out).mono ?_; rintro e w8 ⟨⟨gs, gd, rfl, hcs, hcd⟩, hb⟩
  have HCS := Lib.hid hcs
  have HCD := Lib.hid hcd
  have HB8 := Lib.hid (HB7.out.trans (hb.mono HB7.out.size))
  clear hcs hcd hb HPR HO HO7 HG7 HB5 HB6 HB7 HSA
  unfold CsV
  have hgst := (HB8.out.block g (lt_of_heap HGB.out)).trans HGB.out
  have hrst := (HB8.out.block _ (lt_of_heap HRB.out)).trans HRB.out
  have HGST := Lib.hid hgst
  have HRST := Lib.hid hrst
  have c3 : w8.cell? ⟨g, 3, none⟩ = some (.pointer none) := by rw [cell_of_row w8 g 3 _ _ _ hgst]; rfl
  have f3 := frozen_of_row w8 g 3 _ _ hgst
  have e0 : w8.cell? ⟨w.heap.size, 0, none⟩ = some (.pointer none) := by rw [cell_of_row w8 _ 0 _ _ _ hrst]; rfl
  have e1 : w8.cell? ⟨w.heap.size, 1, none⟩ = some (.pointer none) := by rw [cell_of_row w8 _ 1 _ _ _ hrst]; rfl
  have ef0 := frozen_of_row w8 _ 0 _ _ hrst
  have ef1 := frozen_of_row w8 _ 1 _ _ hrst
  have hl8 := lt_of_heap hgst
  have hl9 := lt_of_heap hrst
  have hne : ¬ g = w8.heap.size := by omega
  have hne2 : ¬ w.heap.size = w8.heap.size := by omega
  have hne3 : ¬ g = w.heap.size := by omega
  clear hgst hrst
  go_wp2_with fail
  have hbw8 : Below w.heap.size w w8 := HB0.out.trans (HB8.out.mono HB0.out.size)
  have hS8 := HS1.out.below HB8.out
  obtain ⟨v', p', hb', ho', hv', hR', _, hrest'⟩ := hS8
  rw [HGST.out] at hb'
  simp at hb'
  obtain ⟨rfl, rfl⟩ := hb'
  have q1 := heap_setCell_same w8 g 3 _ _ (.pointer (some ⟨w8.heap.size, 0, none⟩)) HGST.out
  have r1 : (w8.setCell ⟨g, 3, none⟩ (.pointer (some ⟨w8.heap.size, 0, none⟩))).heap[w.heap.size]? = some (.cells #[.pointer none, .pointer none] 90 (0, 0)) := (Below.heap_setCell _ _ _ _ (Ne.symm hne3)).trans HRST.out
  have r2 := two_cells (x := .pointer (some ⟨gs, 0, none⟩)) (y := .pointer (some ⟨gd, 0, none⟩)) r1
  have n2 := ((near_set (i := 3) (v := .pointer (some ⟨w8.heap.size, 0, none⟩)) HGST.out (by decide) (by decide)).then (near_set (i := 0) (v := .pointer (some ⟨gs, 0, none⟩)) r1 (by decide) (by decide))).then (near_set (i := 1) (v := .pointer (some ⟨gd, 0, none⟩)) (heap_setCell_same _ w.heap.size 0 _ _ (.pointer (some ⟨gs, 0, none⟩)) r1) (by decide) (by decide))
  have hk : Kept (fun i => i = g ∨ i = gr ∨ some i = r) w (((w8.setCell ⟨g, 3, none⟩ (.pointer (some ⟨w8.heap.size, 0, none⟩))).setCell ⟨w.heap.size, 0, none⟩ (.pointer (some ⟨gs, 0, none⟩))).setCell ⟨w.heap.size, 1, none⟩ (.pointer (some ⟨gd, 0, none⟩))) :=
   (((kept_below hbw8).then (kept_set w8 g 3 _) (fun i _ e => .inl e)).then (kept_set _ w.heap.size 0 _) (fun i hi e => absurd e (by omega))).then (kept_set _ w.heap.size 1 _) (fun i hi e => absurd e (by omega))
  have ho3 : v.ownBlock ≠ some g := row_ne (by decide) ho' HGST.out
  have ho4 : v.ownBlock ≠ some w.heap.size := row_ne (by decide) ho' HRST.out
  have hg4 : gr ≠ g := Ne.symm (blk_ne HGST.out hR' (by decide))
  have hg5 : gr ≠ w.heap.size := Ne.symm (blk_ne HRST.out hR' (by decide))
  have q3 : (((w8.setCell ⟨g, 3, none⟩ (.pointer (some ⟨w8.heap.size, 0, none⟩))).setCell ⟨w.heap.size, 0, none⟩ (.pointer (some ⟨gs, 0, none⟩))).setCell ⟨w.heap.size, 1, none⟩ (.pointer (some ⟨gd, 0, none⟩))).heap[g]? = _ := (Below.heap_setCell _ _ _ _ hne3).trans ((Below.heap_setCell _ _ _ _ hne3).trans q1)
  have ho5 : (((w8.setCell ⟨g, 3, none⟩ (.pointer (some ⟨w8.heap.size, 0, none⟩))).setCell ⟨w.heap.size, 0, none⟩ (.pointer (some ⟨gs, 0, none⟩))).setCell ⟨w.heap.size, 1, none⟩ (.pointer (some ⟨gd, 0, none⟩))).ownsRow B 5 1 v o.length (cells8 o) :=
   row_kept ho' fun b hb => by
    have hbg : b ≠ g := fun e => ho3 (by rw [hb, e])
    have hbw : b ≠ w.heap.size := fun e => ho4 (by rw [hb, e])
    rw [Below.heap_setCell _ _ _ _ hbw, Below.heap_setCell _ _ _ _ hbw, Below.heap_setCell _ _ _ _ hbg]
  have hR5 : Rd 83 (((w8.setCell ⟨g, 3, none⟩ (.pointer (some ⟨w8.heap.size, 0, none⟩))).setCell ⟨w.heap.size, 0, none⟩ (.pointer (some ⟨gs, 0, none⟩))).setCell ⟨w.heap.size, 1, none⟩ (.pointer (some ⟨gd, 0, none⟩))) gr s a 0 :=
   (Below.heap_setCell _ _ _ _ hg5).trans ((Below.heap_setCell _ _ _ _ hg5).trans ((Below.heap_setCell _ _ _ _ hg4).trans hR'))
  have hsz : (((w8.setCell ⟨g, 3, none⟩ (.pointer (some ⟨w8.heap.size, 0, none⟩))).setCell ⟨w.heap.size, 0, none⟩ (.pointer (some ⟨gs, 0, none⟩))).setCell ⟨w.heap.size, 1, none⟩ (.pointer (some ⟨gd, 0, none⟩))).heap.size = w8.heap.size := by simp [World.setCell]
  have hcs5 := HCS.out.near n2
  have hcd5 := HCD.out.near n2
  generalize hw9 : ((w8.setCell ⟨g, 3, none⟩ (.pointer (some ⟨w8.heap.size, 0, none⟩))).setCell ⟨w.heap.size, 0, none⟩ (.pointer (some ⟨gs, 0, none⟩))).setCell ⟨w.heap.size, 1, none⟩ (.pointer (some ⟨gd, 0, none⟩)) = w9 at *
  have hb9 : Below w9.heap.size w9 (w9.alloc (.cells #[.pointer (some ⟨gs, 0, none⟩), .pointer (some ⟨gd, 0, none⟩)] 90)) := (Below.refl _ _).alloc (Nat.le_refl _) _
  have hnw : (w9.alloc (.cells #[.pointer (some ⟨gs, 0, none⟩), .pointer (some ⟨gd, 0, none⟩)] 90)).heap[w8.heap.size]? = some (.cells #[.pointer (some ⟨gs, 0, none⟩), .pointer (some ⟨gd, 0, none⟩)] 90 (0, 0)) := by rw [← hsz]; exact heap_alloc_new w9 _
  have r9 := (hb9.block _ (lt_of_heap r2)).trans r2
  refine bodyPost_ret (results_cell_row rfl _ _ w.heap.size 90 #[.pointer (some ⟨gs, 0, none⟩), .pointer (some ⟨gd, 0, none⟩)] (0, 0) _ rfl r9 Tryz.underlying90 rfl info_codes) rfl ⟨⟨gs, gd, rfl, hcs5.far (far_below hb9), hcd5.far (far_below hb9)⟩, ?_, hk.then (kept_alloc (fun _ => False) w9 _) (fun _ _ e => e.elim), .inl rfl⟩
  exact ⟨v, _, (hb9.block g (lt_of_heap q3)).trans q3, row_kept ho5 fun b e => hb9.block b (ho5.lt b e).2, hv', hR5.below hb9 hR5.lt, .inr ⟨w8.heap.size, gs, gd, rfl, hnw, hcs5.far (far_below hb9), hcd5.far (far_below hb9)⟩, hrest'⟩
 ·have HCS := Lib.hid hcs
  have HCD := Lib.hid hcd
  have hf1 := (HB0.out.block gf (lt_of_heap hgf)).trans hgf
  have k0 : (w.alloc (.cells #[.pointer none, .pointer none] 90)).cell? ⟨gf, 0, none⟩ = some (.pointer (some ⟨gs, 0, none⟩)) := by rw [cell_of_row _ gf 0 _ _ _ hf1]; rfl
  have k1 : (w.alloc (.cells #[.pointer none, .pointer none] 90)).cell? ⟨gf, 1, none⟩ = some (.pointer (some ⟨gd, 0, none⟩)) := by rw [cell_of_row _ gf 1 _ _ _ hf1]; rfl
  have f0 := frozen_of_row _ _ 0 _ _ HRB.out
  have f1 := frozen_of_row _ _ 1 _ _ HRB.out
  clear hgf hcs hcd hf1
  go_enter Tryz.func39, Tryz.ntmps39
  go_wp2
  have hb9 : Below w.heap.size w (w.alloc (.cells #[.pointer (some ⟨gs, 0, none⟩), .pointer (some ⟨gd, 0, none⟩)] 90)) := (Below.refl _ _).alloc (Nat.le_refl _) _
  have hr9 : (w.alloc (.cells #[.pointer (some ⟨gs, 0, none⟩), .pointer (some ⟨gd, 0, none⟩)] 90)).heap[w.heap.size]? = some (.cells #[.pointer (some ⟨gs, 0, none⟩), .pointer (some ⟨gd, 0, none⟩)] 90 (0, 0)) := heap_alloc_new w _
  exact bodyPost_ret (results_cell_row rfl _ _ w.heap.size 90 #[.pointer (some ⟨gs, 0, none⟩), .pointer (some ⟨gd, 0, none⟩)] (0, 0) _ rfl hr9 Tryz.underlying90 rfl info_codes) rfl ⟨⟨gs, gd, rfl, HCS.out.far (far_below hb9), HCD.out.far (far_below hb9)⟩, HS.out.below hb9, ups_below hb9⟩
end Go.Proofs.YtmkeicfklbepnaaGreat
