/-
  Contracts: the fixed codes.
-/
import Derived.Test.YtbgclbnbnpnolaaInfK
namespace Go.Proofs.Ytbgclbnbnpnolaa
set_option maxRecDepth 100000
open Go.RowKit Go.Deep Go.Joins

theorem lens_own {w : World} {B n cap : Nat} {A : Option Addr} {l : List Nat} (h : w.ownsRow B 5 1 (.slice A n cap) n (cells8 l)) (hn : l.length = n) (h256 : ∀ x ∈ l, x < 256) (ls : Nat → Nat) (hls : ∀ i, i < n → ls i = l.getD i 0) : Lens w A n ls := fun h0 => by
  rcases ownsRow_forms h with ⟨h1, h2⟩ | ⟨g2, cap2, h1⟩
  · omega
  · injection h1 with h1 _ _
    subst h1
    refine ⟨g2, 0, rfl, (h.lt g2 rfl).2, fun i hi => ?_⟩
    have hil : i < l.length := by omega
    have h3 := h.cellAt i (by omega)
    rw [hls i hi, Nat.zero_add, h3]
    refine ⟨?_, bytes_get h256 hil⟩
    simp only [cells8, List.getElem?_map, List.getElem?_eq_getElem hil, Option.map_some, List.getD_eq_getElem?_getD, Option.getD_some]
theorem lens_row {w : World} {g n : Nat} {l : List Nat} (h : w.heap[g]? = some (.cells (cells8 l).toArray 5 (0, 0))) (hn : l.length = n) (h256 : ∀ x ∈ l, x < 256) (ls : Nat → Nat) (hls : ∀ i, i < n → ls i = l.getD i 0) : Lens w (some ⟨g, 0, none⟩) n ls := fun _ => by
  refine ⟨g, 0, rfl, lt_of_heap h, fun i hi => ?_⟩
  have hil : i < l.length := by omega
  rw [hls i hi, Nat.zero_add, cell_of_row w g i _ _ _ h, List.getElem?_toArray]
  refine ⟨?_, bytes_get h256 hil⟩
  simp only [cells8, List.getElem?_map, List.getElem?_eq_getElem hil, Option.map_some, List.getD_eq_getElem?_getD, Option.getD_some]

def fxR (i : Nat) : List Nat := if i = 0 then List.replicate 144 8 else if i = 1 then List.replicate 112 9 else if i = 2 then List.replicate 24 7 else List.replicate 8 8
theorem fx_len : (joinR fxR 4).length = 288 := by decide +kernel
theorem fx_256 : ∀ x ∈ joinR fxR 4, x < 256 := by decide +kernel
theorem fx_ls : ∀ i, i < 288 → fixS.ls i = (joinR fxR 4).getD i 0 := by decide +kernel
theorem fx_15 : ∀ i, i < fixS.n → fixS.ls i ≤ 15 := by decide +kernel
theorem fx_may : may fixS true := ⟨by decide +kernel, .inl (by decide +kernel)⟩
theorem fd_ls : ∀ i, i < 32 → fixD.ls i = (List.replicate 32 5).getD i 0 := by decide +kernel
theorem fd_15 : ∀ i, i < fixD.n → fixD.ls i ≤ 15 := by decide +kernel
theorem fd_may : may fixD true := ⟨by decide +kernel, .inl (by decide +kernel)⟩

theorem info_codes : (Try.prog.info? 112).map (·.size) = some 2 := by kernel_rfl
/-- What fixedCodes answers with. -/
def fxOk (e : Ending) (w' : World) : Prop := ∃ gs gd, e = .returned (CsV gs gd) ∧ CdC w' gs fixS ∧ CdC w' gd fixD
set_option maxHeartbeats 4000000 in
theorem fixed_any (B g gr a lim : Nat) (r : Option Nat) (s : ByteArray) (o : List Nat) (w : World) (hS : Sm w B g gr r s a lim o) :
    Calls Try.prog 56 #[.pointer (some ⟨g, 0, none⟩)] w fun e w' => fxOk e w' ∧ Sm w' B g gr r s a lim o ∧ UpS g gr r r w w' := by
  have HS := Lib.hid hS
  have hb0 : Below w.heap.size w (w.alloc (.cells #[.pointer none, .pointer none] 112)) := (Below.refl _ _).alloc (Nat.le_refl _) _
  have HRB : Hid ((w.alloc (.cells #[.pointer none, .pointer none] 112)).heap[w.heap.size]? = some (.cells #[.pointer none, .pointer none] 112 (0, 0))) := heap_alloc_new w _
  obtain ⟨v, p, hb, ho, hv, hR, hx, hrest⟩ := hS
  have hgs := lt_of_heap hb
  have hb1 := (hb0.block g hgs).trans hb
  have c3 : (w.alloc (.cells #[.pointer none, .pointer none] 112)).cell? ⟨g, 3, none⟩ = some p := by rw [cell_of_row _ g 3 _ _ _ hb1]; rfl
  have HB0 := Lib.hid hb0
  have HGB := Lib.hid hb1
  clear hb0 hb ho hv hR hrest hb1
  rcases hx with rfl | ⟨gf, gs, gd, rfl, hgf, hcs, hcd⟩
  · have HSA := Lib.hid (fun (x k : Nat) (hk : 1 ≤ k) (hk2 : k ≤ 1000) w1 => same_any k x hk hk2 w1)
    have hHS1 := HS.out.below HB0.out
    go_enter Try.func56, Try.ntmps56
    go_wp2_with fail
    have HZ0 : Hid ((w.alloc (.cells #[.pointer none, .pointer none] 112)).heap.size = w.heap.size + 1) := by show _ = _; simp
    generalize w.alloc (.cells #[.pointer none, .pointer none] 112) = w0 at *
    have HS1 := Lib.hid hHS1
    clear hHS1 c3
    refine (HSA.out 8 144 (by omega) (by omega) w0).mono ?_; rintro e w1 ⟨g1, rfl, hg, hge, hb⟩
    have HG1 : Hid (w1.heap[g1]? = some (.cells (cells8 (List.replicate 144 8)).toArray 5 (0, 0))) := hg
    have HBL1 := Lib.hid hb
    have HGE1 := Lib.hid hge
    clear hg hge hb
    go_wp2_with fail
    refine (HSA.out 9 112 (by omega) (by omega) w1).mono ?_; rintro e w2 ⟨g2, rfl, hg, hge, hb⟩
    have HG2 : Hid (w2.heap[g2]? = some (.cells (cells8 (List.replicate 112 9)).toArray 5 (0, 0))) := hg
    have HBL2 := Lib.hid hb
    have HGE2 := Lib.hid hge
    clear hg hge hb
    go_wp2_with fail
    refine (HSA.out 7 24 (by omega) (by omega) w2).mono ?_; rintro e w3 ⟨g3, rfl, hg, hge, hb⟩
    have HG3 : Hid (w3.heap[g3]? = some (.cells (cells8 (List.replicate 24 7)).toArray 5 (0, 0))) := hg
    have HBL3 := Lib.hid hb
    have HGE3 := Lib.hid hge
    clear hg hge hb
    go_wp2_with fail
    refine (HSA.out 8 8 (by omega) (by omega) w3).mono ?_; rintro e w4 ⟨g4, rfl, hg, hge, hb⟩
    have HG4 : Hid (w4.heap[g4]? = some (.cells (cells8 (List.replicate 8 8)).toArray 5 (0, 0))) := hg
    have HBL4 := Lib.hid hb
    have HGE4 := Lib.hid hge
    clear hg hge hb
    go_wp2_with fail
    have hb04 : Below w0.heap.size w0 w4 := ((HBL1.out.trans (HBL2.out.mono HBL1.out.size)).trans (HBL3.out.mono (Nat.le_trans HBL1.out.size HBL2.out.size))).trans (HBL4.out.mono (Nat.le_trans (Nat.le_trans HBL1.out.size HBL2.out.size) HBL3.out.size))
    have hb4a : Below w4.heap.size w4 (w4.alloc (.cells #[.slice (some ⟨g1, 0, none⟩) 144 144, .slice (some ⟨g2, 0, none⟩) 112 112, .slice (some ⟨g3, 0, none⟩) 24 24, .slice (some ⟨g4, 0, none⟩) 8 8] 22)) := (Below.refl _ _).alloc (Nat.le_refl _) _
    have hk1 := (hb4a.block g1 (lt_of_heap ((HBL4.out.block g1 (Nat.lt_of_lt_of_le (Nat.lt_of_lt_of_le (lt_of_heap HG1.out) HBL2.out.size) HBL3.out.size)).trans ((HBL3.out.block g1 (Nat.lt_of_lt_of_le (lt_of_heap HG1.out) HBL2.out.size)).trans ((HBL2.out.block g1 (lt_of_heap HG1.out)).trans HG1.out))))).trans ((HBL4.out.block g1 (Nat.lt_of_lt_of_le (Nat.lt_of_lt_of_le (lt_of_heap HG1.out) HBL2.out.size) HBL3.out.size)).trans ((HBL3.out.block g1 (Nat.lt_of_lt_of_le (lt_of_heap HG1.out) HBL2.out.size)).trans ((HBL2.out.block g1 (lt_of_heap HG1.out)).trans HG1.out)))
    have hk2 := (hb4a.block g2 (lt_of_heap ((HBL4.out.block g2 (Nat.lt_of_lt_of_le (lt_of_heap HG2.out) HBL3.out.size)).trans ((HBL3.out.block g2 (lt_of_heap HG2.out)).trans HG2.out)))).trans ((HBL4.out.block g2 (Nat.lt_of_lt_of_le (lt_of_heap HG2.out) HBL3.out.size)).trans ((HBL3.out.block g2 (lt_of_heap HG2.out)).trans HG2.out))
    have hk3 := (hb4a.block g3 (lt_of_heap ((HBL4.out.block g3 (lt_of_heap HG3.out)).trans HG3.out))).trans ((HBL4.out.block g3 (lt_of_heap HG3.out)).trans HG3.out)
    have hk4 := (hb4a.block g4 (lt_of_heap HG4.out)).trans HG4.out
    have hnew : (w4.alloc (.cells #[.slice (some ⟨g1, 0, none⟩) 144 144, .slice (some ⟨g2, 0, none⟩) 112 112, .slice (some ⟨g3, 0, none⟩) 24 24, .slice (some ⟨g4, 0, none⟩) 8 8] 22)).heap[w4.heap.size]? = _ := heap_alloc_new w4 _
    have HCON := Lib.hid (concat_any w4.heap.size 4 (fun i => if i = 0 then g1 else if i = 1 then g2 else if i = 2 then g3 else g4) fxR (by omega) (by omega) (by decide) (by rw [fx_len]; omega) _ (lt_of_heap hnew)
      (fun i hi => by
        rw [cell_of_row _ _ i _ _ _ hnew]
        match i, hi with
        | 0, _ => rfl
        | 1, _ => rfl
        | 2, _ => rfl
        | 3, _ => rfl)
      (fun i hi => by
        match i, hi with
        | 0, _ => exact hk1
        | 1, _ => exact hk2
        | 2, _ => exact hk3
        | 3, _ => exact hk4))
    have HB5 := Lib.hid (hb04.trans (hb4a.mono hb04.size))
    clear hk1 hk2 hk3 hk4 hnew hb4a hb04 HG1 HG2 HG3 HG4 HBL1 HBL2 HBL3 HBL4 HGE1 HGE2 HGE3 HGE4
    rw [fx_len] at HCON
    generalize w4.alloc (.cells #[.slice (some ⟨g1, 0, none⟩) 144 144, .slice (some ⟨g2, 0, none⟩) 112 112, .slice (some ⟨g3, 0, none⟩) 24 24, .slice (some ⟨g4, 0, none⟩) 8 8] 22) = w5 at *
    refine (HCON.out).mono ?_; rintro e w6 ⟨gc, cap, rfl, hown, hb⟩
    have HO := Lib.hid hown
    have HB6 := Lib.hid (HB5.out.trans (hb.mono HB5.out.size))
    clear hown hb HCON
    go_wp2_with fail
    refine (HSA.out 5 32 (by omega) (by omega) w6).mono ?_; rintro e w7 ⟨g7, rfl, hg, hge, hb⟩
    have HO7 := Lib.hid (row_kept HO.out (fun q e => hb.block q (HO.out.lt q e).2))
    have HG7 := Lib.hid hg
    have HB7 := Lib.hid (HB6.out.trans (hb.mono HB6.out.size))
    clear hg hge hb
    have hL1 : Lens w7 (some ⟨gc, 0, none⟩) fixS.n fixS.ls := lens_own HO7.out fx_len fx_256 fixS.ls fx_ls
    have hL2 : Lens w7 (some ⟨g7, 0, none⟩) fixD.n fixD.ls := lens_row (l := List.replicate 32 5) HG7.out (by rfl) (by decide) fixD.ls fd_ls
    have HPR := Lib.hid (pair_ok (some ⟨gc, 0, none⟩) (some ⟨g7, 0, none⟩) cap 32 fixS fixD (by decide) (by decide) fx_15 fd_15 fx_may fd_may w7 hL1 hL2)
    clear hL1 hL2
    go_wp2_with fail
    refine (HPR.out).mono ?_; rintro e w8 ⟨⟨gs, gd, rfl, hcs, hcd⟩, hb⟩
    have HCS := Lib.hid hcs
    have HCD := Lib.hid hcd
    have HB8 := Lib.hid (HB7.out.trans (hb.mono HB7.out.size))
    clear hcs hcd hb HPR HO HO7 HG7 HB5 HB6 HB7 HSA
    unfold CsV
    have hgst := (HB8.out.block g (lt_of_heap HGB.out)).trans HGB.out
    have hrst := (HB8.out.block _ (lt_of_heap HRB.out)).trans HRB.out
    have HGST := Lib.hid hgst
    have HRST := Lib.hid hrst
    have c3 : w8.cell? ⟨g, 3, none⟩ = some (.pointer none) := by rw [cell_of_row w8 g 3 _ _ _ hgst]; rfl
    have f3 := frozen_of_row w8 g 3 _ _ hgst
    have e0 : w8.cell? ⟨w.heap.size, 0, none⟩ = some (.pointer none) := by rw [cell_of_row w8 _ 0 _ _ _ hrst]; rfl
    have e1 : w8.cell? ⟨w.heap.size, 1, none⟩ = some (.pointer none) := by rw [cell_of_row w8 _ 1 _ _ _ hrst]; rfl
    have ef0 := frozen_of_row w8 _ 0 _ _ hrst
    have ef1 := frozen_of_row w8 _ 1 _ _ hrst
    have hl8 := lt_of_heap hgst
    have hl9 := lt_of_heap hrst
    have hne : ¬ g = w8.heap.size := by omega
    have hne2 : ¬ w.heap.size = w8.heap.size := by omega
    have hne3 : ¬ g = w.heap.size := by omega
    clear hgst hrst
    go_wp2_with fail
    have hbw8 : Below w.heap.size w w8 := HB0.out.trans (HB8.out.mono HB0.out.size)
    have hS8 := HS1.out.below HB8.out
    obtain ⟨v', p', hb', ho', hv', hR', _, hrest'⟩ := hS8
    rw [HGST.out] at hb'
    simp at hb'
    obtain ⟨rfl, rfl⟩ := hb'
    have q1 := heap_setCell_same w8 g 3 _ _ (.pointer (some ⟨w8.heap.size, 0, none⟩)) HGST.out
    have r1 : (w8.setCell ⟨g, 3, none⟩ (.pointer (some ⟨w8.heap.size, 0, none⟩))).heap[w.heap.size]? = some (.cells #[.pointer none, .pointer none] 112 (0, 0)) := (Below.heap_setCell _ _ _ _ (Ne.symm hne3)).trans HRST.out
    have r2 := two_cells (x := .pointer (some ⟨gs, 0, none⟩)) (y := .pointer (some ⟨gd, 0, none⟩)) r1
    have n2 := ((near_set (i := 3) (v := .pointer (some ⟨w8.heap.size, 0, none⟩)) HGST.out (by decide) (by decide)).then (near_set (i := 0) (v := .pointer (some ⟨gs, 0, none⟩)) r1 (by decide) (by decide))).then (near_set (i := 1) (v := .pointer (some ⟨gd, 0, none⟩)) (heap_setCell_same _ w.heap.size 0 _ _ (.pointer (some ⟨gs, 0, none⟩)) r1) (by decide) (by decide))
    have hk : Kept (fun i => i = g ∨ i = gr ∨ some i = r) w (((w8.setCell ⟨g, 3, none⟩ (.pointer (some ⟨w8.heap.size, 0, none⟩))).setCell ⟨w.heap.size, 0, none⟩ (.pointer (some ⟨gs, 0, none⟩))).setCell ⟨w.heap.size, 1, none⟩ (.pointer (some ⟨gd, 0, none⟩))) :=
      (((kept_below hbw8).then (kept_set w8 g 3 _) (fun i _ e => .inl e)).then (kept_set _ w.heap.size 0 _) (fun i hi e => absurd e (by omega))).then (kept_set _ w.heap.size 1 _) (fun i hi e => absurd e (by omega))
    have ho3 : v.ownBlock ≠ some g := row_ne (by decide) ho' HGST.out
    have ho4 : v.ownBlock ≠ some w.heap.size := row_ne (by decide) ho' HRST.out
    have hg4 : gr ≠ g := Ne.symm (blk_ne HGST.out hR' (by decide))
    have hg5 : gr ≠ w.heap.size := Ne.symm (blk_ne HRST.out hR' (by decide))
    have q3 : (((w8.setCell ⟨g, 3, none⟩ (.pointer (some ⟨w8.heap.size, 0, none⟩))).setCell ⟨w.heap.size, 0, none⟩ (.pointer (some ⟨gs, 0, none⟩))).setCell ⟨w.heap.size, 1, none⟩ (.pointer (some ⟨gd, 0, none⟩))).heap[g]? = _ := (Below.heap_setCell _ _ _ _ hne3).trans ((Below.heap_setCell _ _ _ _ hne3).trans q1)
    have ho5 : (((w8.setCell ⟨g, 3, none⟩ (.pointer (some ⟨w8.heap.size, 0, none⟩))).setCell ⟨w.heap.size, 0, none⟩ (.pointer (some ⟨gs, 0, none⟩))).setCell ⟨w.heap.size, 1, none⟩ (.pointer (some ⟨gd, 0, none⟩))).ownsRow B 5 1 v o.length (cells8 o) :=
      row_kept ho' fun b hb => by
        have hbg : b ≠ g := fun e => ho3 (by rw [hb, e])
        have hbw : b ≠ w.heap.size := fun e => ho4 (by rw [hb, e])
        rw [Below.heap_setCell _ _ _ _ hbw, Below.heap_setCell _ _ _ _ hbw, Below.heap_setCell _ _ _ _ hbg]
    have hR5 : Rd 81 (((w8.setCell ⟨g, 3, none⟩ (.pointer (some ⟨w8.heap.size, 0, none⟩))).setCell ⟨w.heap.size, 0, none⟩ (.pointer (some ⟨gs, 0, none⟩))).setCell ⟨w.heap.size, 1, none⟩ (.pointer (some ⟨gd, 0, none⟩))) gr s a 0 :=
      (Below.heap_setCell _ _ _ _ hg5).trans ((Below.heap_setCell _ _ _ _ hg5).trans ((Below.heap_setCell _ _ _ _ hg4).trans hR'))
    have hsz : (((w8.setCell ⟨g, 3, none⟩ (.pointer (some ⟨w8.heap.size, 0, none⟩))).setCell ⟨w.heap.size, 0, none⟩ (.pointer (some ⟨gs, 0, none⟩))).setCell ⟨w.heap.size, 1, none⟩ (.pointer (some ⟨gd, 0, none⟩))).heap.size = w8.heap.size := by simp [World.setCell]
    have hcs5 := HCS.out.near n2
    have hcd5 := HCD.out.near n2
    generalize hw9 : ((w8.setCell ⟨g, 3, none⟩ (.pointer (some ⟨w8.heap.size, 0, none⟩))).setCell ⟨w.heap.size, 0, none⟩ (.pointer (some ⟨gs, 0, none⟩))).setCell ⟨w.heap.size, 1, none⟩ (.pointer (some ⟨gd, 0, none⟩)) = w9 at *
    have hb9 : Below w9.heap.size w9 (w9.alloc (.cells #[.pointer (some ⟨gs, 0, none⟩), .pointer (some ⟨gd, 0, none⟩)] 112)) := (Below.refl _ _).alloc (Nat.le_refl _) _
    have hnw : (w9.alloc (.cells #[.pointer (some ⟨gs, 0, none⟩), .pointer (some ⟨gd, 0, none⟩)] 112)).heap[w8.heap.size]? = some (.cells #[.pointer (some ⟨gs, 0, none⟩), .pointer (some ⟨gd, 0, none⟩)] 112 (0, 0)) := by rw [← hsz]; exact heap_alloc_new w9 _
    have r9 := (hb9.block _ (lt_of_heap r2)).trans r2
    refine bodyPost_ret (results_cell_row rfl _ _ w.heap.size 112 #[.pointer (some ⟨gs, 0, none⟩), .pointer (some ⟨gd, 0, none⟩)] (0, 0) _ rfl r9 Try.underlying112 rfl info_codes) rfl ⟨⟨gs, gd, rfl, hcs5.far (far_below hb9), hcd5.far (far_below hb9)⟩, ?_, hk.then (kept_alloc (fun _ => False) w9 _) (fun _ _ e => e.elim), .inl rfl⟩
    exact ⟨v, _, (hb9.block g (lt_of_heap q3)).trans q3, row_kept ho5 fun b e => hb9.block b (ho5.lt b e).2, hv', hR5.below hb9 hR5.lt, .inr ⟨w8.heap.size, gs, gd, rfl, hnw, hcs5.far (far_below hb9), hcd5.far (far_below hb9)⟩, hrest'⟩
  · have HCS := Lib.hid hcs
    have HCD := Lib.hid hcd
    have hf1 := (HB0.out.block gf (lt_of_heap hgf)).trans hgf
    have k0 : (w.alloc (.cells #[.pointer none, .pointer none] 112)).cell? ⟨gf, 0, none⟩ = some (.pointer (some ⟨gs, 0, none⟩)) := by rw [cell_of_row _ gf 0 _ _ _ hf1]; rfl
    have k1 : (w.alloc (.cells #[.pointer none, .pointer none] 112)).cell? ⟨gf, 1, none⟩ = some (.pointer (some ⟨gd, 0, none⟩)) := by rw [cell_of_row _ gf 1 _ _ _ hf1]; rfl
    have f0 := frozen_of_row _ _ 0 _ _ HRB.out
    have f1 := frozen_of_row _ _ 1 _ _ HRB.out
    clear hgf hcs hcd hf1
    go_enter Try.func56, Try.ntmps56
    go_wp2
    have hb9 : Below w.heap.size w (w.alloc (.cells #[.pointer (some ⟨gs, 0, none⟩), .pointer (some ⟨gd, 0, none⟩)] 112)) := (Below.refl _ _).alloc (Nat.le_refl _) _
    have hr9 : (w.alloc (.cells #[.pointer (some ⟨gs, 0, none⟩), .pointer (some ⟨gd, 0, none⟩)] 112)).heap[w.heap.size]? = some (.cells #[.pointer (some ⟨gs, 0, none⟩), .pointer (some ⟨gd, 0, none⟩)] 112 (0, 0)) := heap_alloc_new w _
    exact bodyPost_ret (results_cell_row rfl _ _ w.heap.size 112 #[.pointer (some ⟨gs, 0, none⟩), .pointer (some ⟨gd, 0, none⟩)] (0, 0) _ rfl hr9 Try.underlying112 rfl info_codes) rfl ⟨⟨gs, gd, rfl, HCS.out.far (far_below hb9), HCD.out.far (far_below hb9)⟩, HS.out.below hb9, ups_below hb9⟩
end Go.Proofs.Ytbgclbnbnpnolaa
