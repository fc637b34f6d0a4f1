/-
  Contracts: the document's counts; tokens as the document's; the chapter's examples.
-/
import Derived.Test.YtblojfgbdmnccaaBlkD
namespace Go.Proofs.Ytblojfgbdmnccaa
set_option maxRecDepth 100000
open Go.Joins Go.RowKit Go.Deep

set_option maxHeartbeats 8000000 in
theorem rcounts_any (A : Option Addr) (n cap : Nat) (f : Nat → Tok) (w : World) (hT : Toks w A n f) (hn : n ≤ 1000) :
    Calls Try.prog 41 #[.slice A n cap] w fun e w' => e = .returned (.tuple #[.agg (arrU (cA f n) 286), .agg (arrU (cB f n) 30)]) ∧ Below w.heap.size w w' := by
  have hz1 := zeroA286
  have hz2 := zeroA30
  have hit := info_rtok
  have HT := Lib.hid hT
  have HSTA := Lib.hid (CSt.start w (fun _ => 0))
  have HST1 := Lib.hid (CSt.start w (fun p => if p = 256 then 1 else 0))
  clear hT
  go_enter Try.func41, Try.ntmps41
  have c256 := (cell_of_row _ _ 256 _ _ _ HSTA.out.2.2.1).trans (arrU_get (fun _ => 0) 286 256 (by omega))
  have f256 := frozen_of_row _ _ 256 _ _ HSTA.out.2.2.1
  go_wp2_with fail
  rw [show (arrU (fun _ => 0) 286).setIfInBounds 256 (Value.int .u32 1) = arrU (fun p => if p = 256 then 1 else 0) 286 from arrU_set (fun _ => 0) 286 256 1]
  clear c256 f256 HSTA hz1 hz2
  generalize (((w.alloc (.cells (arrU (fun _ => 0) 286) 81)).alloc (.cells (arrU (fun _ => 0) 30) 82)).alloc (.cells (arrU (fun p => if p = 256 then 1 else 0) 286) 81)).alloc (.cells (arrU (fun _ => 0) 30) 82) = w5 at *
  go_loopw [17] (fun i wr => ∃ k : Nat, k ≤ n ∧ i = .int .i64 (k : Nat) ∧ Hid (CSt w wr (cA f k) (cB f k))) (fun i _ => n - (intOf i).toNat)
  case atStart => exact ⟨0, Nat.zero_le _, rfl, HST1⟩
  case round =>
    obtain ⟨k, hk, rfl, HC⟩ := hrel
    by_cases hkn : k < n
    · obtain ⟨b, off, rfl, hbl, hc⟩ := (HT.out.below (Nat.le_refl _) HC.out.2.2.2.2.1) (by omega)
      obtain ⟨hok, c0, c1, c2⟩ := hc k hkn
      have HRT := Lib.hid (rright_any (f k))
      have HCA := Lib.hid (show cA f (k + 1) = if rightT (f k) = true then (if (f k).l = 0 then bump (cA f k) (f k).b else bump (cA f k) (lsg (f k).l.toNat)) else cA f k from rfl)
      have HCB := Lib.hid (show cB f (k + 1) = if rightT (f k) = true then (if (f k).l = 0 then cB f k else bump (cB f k) (dsg (f k).d.toNat)) else cB f k from rfl)
      have hAle := cA_le f k
      have hBle := cB_le f k
      have hbx := heap_alloc_new wr (.cells #[.int .u8 ((f k).b : Nat), .int .i64 (f k).l, .int .i64 (f k).d] 59)
      have HBX := Lib.hid hbx
      have HC4 := Lib.hid (HC.out.later ((Below.refl _ _).alloc (Nat.le_refl _) (.cells #[.int .u8 ((f k).b : Nat), .int .i64 (f k).l, .int .i64 (f k).d] 59)))
      have HSZ : Hid ((wr.alloc (.cells #[.int .u8 ((f k).b : Nat), .int .i64 (f k).l, .int .i64 (f k).d] 59)).heap.size = wr.heap.size + 1) := by show _ = _; simp
      have HWS : Hid (w.heap.size + 4 ≤ wr.heap.size) := HC.out.2.2.2.2.2
      have hrc := fun h => right_copy (t := f k) h
      clear hc hbx
      generalize hA1 : cA f (k + 1) = A1 at *
      generalize hB1 : cB f (k + 1) = B1 at *
      have HA1 := Lib.hid hA1
      have HB1 := Lib.hid hB1
      clear hA1 hB1
      generalize cA f k = A0 at *
      generalize cB f k = B0 at *
      generalize f k = U at *
      generalize hrt : rightT U = r at *
      have HRTT := Lib.hid hrt
      clear hrt
      obtain ⟨tb, tl, td⟩ := U
      unfold valT at HRT
      dsimp only at *
      have htb := hok.1
      clear hok
      go_wp2_with fail
      generalize wr.alloc (.cells #[.int .u8 (tb : Nat), .int .i64 tl, .int .i64 td] 59) = w6 at *
      refine (HRT.out _).mono ?_; rintro e w7 ⟨rfl, hb7⟩
      have HC7 := Lib.hid (HC4.out.later hb7)
      have hx7 := (hb7.block wr.heap.size (by have := HSZ.out; omega)).trans HBX.out
      have k0 := (cell_of_row _ _ 0 _ _ _ hx7).trans (show _ = some (Value.int .u8 (tb : Nat)) from rfl)
      have k1 := (cell_of_row _ _ 1 _ _ _ hx7).trans (show _ = some (Value.int .i64 tl) from rfl)
      have k2 := (cell_of_row _ _ 2 _ _ _ hx7).trans (show _ = some (Value.int .i64 td) from rfl)
      have HSW : Hid (wr.heap.size + 1 ≤ w7.heap.size) := by show _ ≤ _; have h1 := HSZ.out; have h2 := hb7.size; omega
      clear hb7 hx7 HBX
      cases r with
      | false =>
        have HA2 : Hid (A1 = A0) := HCA.out.trans (if_neg (by simp))
        have HB2 : Hid (B1 = B0) := HCB.out.trans (if_neg (by simp))
        go_wp2_with fail
        go_roundw
        case rel => exact ⟨k + 1, by omega, by go_num, by rw [HA1.out, HB1.out, HA2.out, HB2.out]; exact HC7⟩
        case measure => simp [intOf]; omega
      | true =>
        have hA3 := HCA.out.trans (if_pos rfl)
        have hB3 := HCB.out.trans (if_pos rfl)
        by_cases hl0 : tl = 0
        · subst hl0
          have HA4 : Hid (A1 = bump A0 tb) := hA3.trans (if_pos rfl)
          have HB4 : Hid (B1 = B0) := hB3.trans (if_pos rfl)
          have a1 := (cell_of_row _ _ tb _ _ _ HC7.out.2.2.1).trans (arrU_get A0 286 tb (by omega))
          have af := frozen_of_row _ _ tb _ _ HC7.out.2.2.1
          have hsum : ((A0 tb : Nat) : Int) + 1 = ((A0 tb + 1 : Nat) : Int) := by omega
          have ha0 := hAle tb
          have HNX : Hid (CSt w (w7.setCell ⟨w.heap.size + 1 + 1, tb, none⟩ (.int .u32 ((A0 tb + 1 : Nat) : Int))) (bump A0 tb) B0) := HC7.out.setA tb (A0 tb + 1)
          have hwu : IntKind.u32.wrap ((A0 tb + 1 : Nat) : Int) = ((A0 tb + 1 : Nat) : Int) := by rw [IntKind.wrap_u32]; omega
          have hin : tb < 286 := by omega
          clear hA3 hB3 hrc
          generalize A0 tb + 1 = v1 at *
          generalize A0 tb = v0 at *
          go_wp2_with fail
          go_roundw
          case rel =>
            refine ⟨k + 1, by omega, by go_num, ?_⟩
            rw [HA1.out, HB1.out, HA4.out, HB4.out]
            exact HNX
          case measure => simp [intOf]; omega
        · obtain ⟨_, h3, h4, h5, h6⟩ := hrc rfl hl0
          obtain ⟨l, rfl⟩ : ∃ m : Nat, tl = (m : Nat) := ⟨tl.toNat, by omega⟩
          obtain ⟨d, rfl⟩ : ∃ m : Nat, td = (m : Nat) := ⟨td.toNat, by omega⟩
          have HA4 : Hid (A1 = bump A0 (lsg l)) := hA3.trans (if_neg hl0)
          have HB4 : Hid (B1 = bump B0 (dsg d)) := hB3.trans (if_neg hl0)
          have hlb := (lsg_ok l (by omega) (by omega)).2.1
          have hdb := (dsg_ok d (by omega) (by omega)).1
          have hLL := rlen_any (l : Int) w7
          rw [lenT_in l (by omega)] at hLL
          have hDD := fun W => rdist_any (d : Int) ⟨by omega, by omega⟩ W
          simp only [dstT_in d (by omega)] at hDD
          have HLL := Lib.hid hLL
          have HDD := Lib.hid hDD
          generalize lsg l = x at *
          generalize dsg d = y at *
          have hz : ((l : Int) == 0) = false := by rw [beq_eq_false_iff_ne]; omega
          have hxl : x < 286 := by omega
          have hyl : y < 30 := by omega
          have a1 := (cell_of_row _ _ x _ _ _ HC7.out.2.2.1).trans (arrU_get A0 286 x hxl)
          have af := frozen_of_row _ _ x _ _ HC7.out.2.2.1
          have b1 := (cell_of_row _ _ y _ _ _ HC7.out.2.2.2.1).trans (arrU_get B0 30 y hyl)
          have bf := frozen_of_row _ _ y _ _ HC7.out.2.2.2.1
          have ha0 := hAle x
          have hb0 := hBle y
          have hwu : IntKind.u32.wrap ((A0 x + 1 : Nat) : Int) = ((A0 x + 1 : Nat) : Int) := by rw [IntKind.wrap_u32]; omega
          have hwv : IntKind.u32.wrap ((B0 y + 1 : Nat) : Int) = ((B0 y + 1 : Nat) : Int) := by rw [IntKind.wrap_u32]; omega
          have HNX : Hid (CSt w ((w7.setCell ⟨w.heap.size + 1 + 1, x, none⟩ (.int .u32 ((A0 x + 1 : Nat) : Int))).setCell ⟨w.heap.size + 1 + 1 + 1, y, none⟩ (.int .u32 ((B0 y + 1 : Nat) : Int))) (bump A0 x) (bump B0 y)) := (HC7.out.setA x (A0 x + 1)).setB y (B0 y + 1)
          clear hA3 hB3 hrc h3 h4 h5 h6 hLL hDD hl0
          go_wp2_with fail
          refine (HLL.out).mono ?_; rintro e w8 ⟨rfl, rfl⟩
          go_wp2_with fail
          refine (HDD.out _).mono ?_; rintro e w8 ⟨rfl, rfl⟩
          go_wp2_with fail
          go_roundw
          case rel =>
            refine ⟨k + 1, by omega, by go_num, ?_⟩
            rw [HA1.out, HB1.out, HA4.out, HB4.out]
            exact HNX
          case measure => simp [intOf]; omega
    · obtain rfl : k = n := by omega
      go_wp2_with fail
      refine wp_region_any (by kernel_rfl) ?_
      change wpAny _ _ _ _ _ _ _ wr.drew
      have HA0 : Hid (wr.drew.heap[w.heap.size + 1 + 1]? = some (.cells (arrU (cA f k) 286) 81 (0, 0))) := HC.out.2.2.1
      have HB0 : Hid (wr.drew.heap[w.heap.size + 1 + 1 + 1]? = some (.cells (arrU (cB f k) 30) 82 (0, 0))) := HC.out.2.2.2.1
      have HZ0 : Hid (wr.drew.heap[w.heap.size]? = some (.cells (arrU (fun _ => 0) 286) 81 (0, 0))) := HC.out.1
      have HZ1 : Hid (wr.drew.heap[w.heap.size + 1]? = some (.cells (arrU (fun _ => 0) 30) 82 (0, 0))) := HC.out.2.1
      have HSB : Hid ((wr.drew.setRow w.heap.size (arrU (cA f k) 286)).heap[w.heap.size + 1 + 1 + 1]? = some (.cells (arrU (cB f k) 30) 82 (0, 0))) := (setRow_other _ _ _ _ (by omega)).trans HB0.out
      have HSZ : Hid ((wr.drew.setRow w.heap.size (arrU (cA f k) 286)).heap[w.heap.size + 1]? = some (.cells (arrU (fun _ => 0) 30) 82 (0, 0))) := (setRow_other _ _ _ _ (by omega)).trans HZ1.out
      have HR1 : Hid (((wr.drew.setRow w.heap.size (arrU (cA f k) 286)).setRow (w.heap.size + 1) (arrU (cB f k) 30)).heap[w.heap.size]? = some (.cells (arrU (cA f k) 286) 81 (0, 0))) := (setRow_other _ _ _ _ (by omega)).trans (setRow_heap _ _ _ _ _ _ HZ0.out)
      have HR2 : Hid (((wr.drew.setRow w.heap.size (arrU (cA f k) 286)).setRow (w.heap.size + 1) (arrU (cB f k) 30)).heap[w.heap.size + 1]? = some (.cells (arrU (cB f k) 30) 82 (0, 0))) := setRow_heap _ _ _ _ _ _ HSZ.out
      have HRB : Hid (Below w.heap.size w ((wr.drew.setRow w.heap.size (arrU (cA f k) 286)).setRow (w.heap.size + 1) (arrU (cB f k) 30))) := below_setRow (below_setRow HC.out.2.2.2.2.1.drew (Nat.le_refl _) _) (Nat.le_succ _) _
      refine wpAny_ready (rs := [0, 1]) (by kernel_rfl) (by simp) ?_
      refine AllReady.cons rfl (fun K hK => ?_) (AllReady.cons rfl (fun K hK => ?_) AllReady.nil)
      · refine step_load_row rfl 81 (.tmp 4) rfl (w.heap.size + 1 + 1) rfl 81 (arrU (cA f k) 286) (0, 0) _ HA0.out Try.underlying81 rfl (infoA286 _) ?_
        refine hK _ _ ?_; clear hK K
        refine wpAny_ready (rs := [1, 2]) (by kernel_rfl) (by simp) ?_
        refine AllReady.cons rfl (fun K hK => ?_) (AllReady.cons rfl (fun K hK => ?_) AllReady.nil)
        · refine step_load_row rfl 82 (.tmp 5) rfl (w.heap.size + 1 + 1 + 1) rfl 82 (arrU (cB f k) 30) (0, 0) _ HB0.out Try.underlying82 rfl (infoA30 _) ?_
          refine hK _ _ ?_; clear hK K
          refine wpAny_ready (rs := [2]) (by kernel_rfl) (by simp) ?_
          refine AllReady.cons rfl (fun K hK => ?_) AllReady.nil
          refine step_store_row rfl 81 (.tmp 2) (.tmp 59) rfl w.heap.size (arrU (cA f k) 286) rfl rfl 81 (arrU (fun _ => 0) 286) HZ0.out (infoA286 _) (by rw [arrU_size, arrU_size]) (arrU_one _ _) ?_
          refine hK _ _ ?_; clear hK K
          refine wpAny_ready (rs := [3]) (by kernel_rfl) (by simp) ?_
          refine AllReady.cons rfl (fun K hK => ?_) AllReady.nil
          refine step_store_row rfl 82 (.tmp 3) (.tmp 60) rfl (w.heap.size + 1) (arrU (cB f k) 30) rfl rfl 82 (arrU (fun _ => 0) 30) HSZ.out (infoA30 _) (by rw [arrU_size, arrU_size]) (arrU_one _ _) ?_
          refine hK _ _ ?_; clear hK K
          refine wpAny_done (by kernel_rfl) ?_ _
          go_wp2
          exact bodyPost_ret (results_cells2 rfl _ _ w.heap.size (w.heap.size + 1) 81 82 (arrU (cA f k) 286) (arrU (cB f k) 30) (0, 0) (0, 0) _ _ rfl HR1.out Try.underlying81 rfl (infoA286 _) rfl HR2.out Try.underlying82 rfl (infoA30 _)) rfl ⟨rfl, HRB.out⟩
        · refine step_store_row rfl 81 (.tmp 2) (.tmp 59) rfl w.heap.size (arrU (cA f k) 286) rfl rfl 81 (arrU (fun _ => 0) 286) HZ0.out (infoA286 _) (by rw [arrU_size, arrU_size]) (arrU_one _ _) ?_
          refine hK _ _ ?_; clear hK K
          refine wpAny_ready (rs := [1]) (by kernel_rfl) (by simp) ?_
          refine AllReady.cons rfl (fun K hK => ?_) AllReady.nil
          refine step_load_row rfl 82 (.tmp 5) rfl (w.heap.size + 1 + 1 + 1) rfl 82 (arrU (cB f k) 30) (0, 0) _ HSB.out Try.underlying82 rfl (infoA30 _) ?_
          refine hK _ _ ?_; clear hK K
          refine wpAny_ready (rs := [3]) (by kernel_rfl) (by simp) ?_
          refine AllReady.cons rfl (fun K hK => ?_) AllReady.nil
          refine step_store_row rfl 82 (.tmp 3) (.tmp 60) rfl (w.heap.size + 1) (arrU (cB f k) 30) rfl rfl 82 (arrU (fun _ => 0) 30) HSZ.out (infoA30 _) (by rw [arrU_size, arrU_size]) (arrU_one _ _) ?_
          refine hK _ _ ?_; clear hK K
          refine wpAny_done (by kernel_rfl) ?_ _
          go_wp2
          exact bodyPost_ret (results_cells2 rfl _ _ w.heap.size (w.heap.size + 1) 81 82 (arrU (cA f k) 286) (arrU (cB f k) 30) (0, 0) (0, 0) _ _ rfl HR1.out Try.underlying81 rfl (infoA286 _) rfl HR2.out Try.underlying82 rfl (infoA30 _)) rfl ⟨rfl, HRB.out⟩
      · refine step_load_row rfl 82 (.tmp 5) rfl (w.heap.size + 1 + 1 + 1) rfl 82 (arrU (cB f k) 30) (0, 0) _ HB0.out Try.underlying82 rfl (infoA30 _) ?_
        refine hK _ _ ?_; clear hK K
        refine wpAny_ready (rs := [0]) (by kernel_rfl) (by simp) ?_
        refine AllReady.cons rfl (fun K hK => ?_) AllReady.nil
        refine step_load_row rfl 81 (.tmp 4) rfl (w.heap.size + 1 + 1) rfl 81 (arrU (cA f k) 286) (0, 0) _ HA0.out Try.underlying81 rfl (infoA286 _) ?_
        refine hK _ _ ?_; clear hK K
        refine wpAny_ready (rs := [2]) (by kernel_rfl) (by simp) ?_
        refine AllReady.cons rfl (fun K hK => ?_) AllReady.nil
        refine step_store_row rfl 81 (.tmp 2) (.tmp 59) rfl w.heap.size (arrU (cA f k) 286) rfl rfl 81 (arrU (fun _ => 0) 286) HZ0.out (infoA286 _) (by rw [arrU_size, arrU_size]) (arrU_one _ _) ?_
        refine hK _ _ ?_; clear hK K
        refine wpAny_ready (rs := [3]) (by kernel_rfl) (by simp) ?_
        refine AllReady.cons rfl (fun K hK => ?_) AllReady.nil
        refine step_store_row rfl 82 (.tmp 3) (.tmp 60) rfl (w.heap.size + 1) (arrU (cB f k) 30) rfl rfl 82 (arrU (fun _ => 0) 30) HSZ.out (infoA30 _) (by rw [arrU_size, arrU_size]) (arrU_one _ _) ?_
        refine hK _ _ ?_; clear hK K
        refine wpAny_done (by kernel_rfl) ?_ _
        go_wp2
        exact bodyPost_ret (results_cells2 rfl _ _ w.heap.size (w.heap.size + 1) 81 82 (arrU (cA f k) 286) (arrU (cB f k) 30) (0, 0) (0, 0) _ _ rfl HR1.out Try.underlying81 rfl (infoA286 _) rfl HR2.out Try.underlying82 rfl (infoA30 _)) rfl ⟨rfl, HRB.out⟩
set_option maxHeartbeats 8000000 in
theorem to8_any (A : Option Addr) (n cap : Nat) (f : Nat → Tok) (w : World) (hT : Toks w A n f) (hn : n ≤ 100000) :
    Calls Try.prog 42 #[.slice A n cap] w fun e w' => ∃ A2 c2, e = .returned (.slice A2 n c2) ∧ Toks w' A2 n f ∧ Below w.heap.size w w' := by
  obtain ⟨i0, hi, hz0, hz1, hz2⟩ := info_parts info_rtok3
  have hit := info_tok
  have HT := Lib.hid hT
  clear hT
  go_enter Try.func42, Try.ntmps42
  go_wp2_with fail
  go_loopw [3, 8] (fun v i wr => ∃ k : Nat, k ≤ n ∧ i = .int .i64 (k : Nat) ∧ Hid (wr.ownsRow w.heap.size 59 3 v k (tokCells f k)) ∧ Hid (Below w.heap.size w wr)) (fun _ i _ => n - (intOf i).toNat)
  case atStart => exact ⟨0, Nat.zero_le _, rfl, World.ownsRow_nil _ _ _ _, Below.refl _ _⟩
  case round =>
    obtain ⟨k, hk, rfl, HO, HB⟩ := hrel
    have HTS : Hid (tokCells f (k + 1) = tokCells f k ++ cellT (f k)) := rfl
    obtain ⟨A2, cp2, rfl⟩ := row_slice' HO.out
    by_cases hkn : k < n
    · obtain ⟨b, off, rfl, hbl, hc⟩ := (HT.out.below (Nat.le_refl _) HB.out) (by omega)
      obtain ⟨hok, c0, c1, c2⟩ := hc k hkn
      clear hc hok
      generalize f k = T at *
      obtain ⟨tb, tl, td⟩ := T
      dsimp only at c0 c1 c2
      have hx5 := heap_alloc_new (wr.alloc (.cells #[.int .u8 (tb : Nat), .int .i64 tl, .int .i64 td] 56)) (.cells #[.int .u8 (tb : Nat), .int .i64 tl, .int .i64 td] 59)
      have hs4 : (wr.alloc (.cells #[.int .u8 (tb : Nat), .int .i64 tl, .int .i64 td] 56)).heap.size = wr.heap.size + 1 := by simp
      have hs5 : ((wr.alloc (.cells #[.int .u8 (tb : Nat), .int .i64 tl, .int .i64 td] 56)).alloc (.cells #[.int .u8 (tb : Nat), .int .i64 tl, .int .i64 td] 59)).heap.size = wr.heap.size + 2 := by simp
      have hb5 : Below w.heap.size w ((wr.alloc (.cells #[.int .u8 (tb : Nat), .int .i64 tl, .int .i64 td] 56)).alloc (.cells #[.int .u8 (tb : Nat), .int .i64 tl, .int .i64 td] 59)) := (HB.out.alloc HB.out.size _).alloc (by have := HB.out.size; simp; omega) _
      have ho5 := (HO.out.alloc (.cells #[.int .u8 (tb : Nat), .int .i64 tl, .int .i64 td] 56)).alloc (.cells #[.int .u8 (tb : Nat), .int .i64 tl, .int .i64 td] 59)
      rw [hs4] at hx5
      have HX5 := Lib.hid hx5
      have HS5 := Lib.hid hs5
      have HB5 := Lib.hid hb5
      have HO5 := Lib.hid ho5
      clear hx5 hs5 hs4 hb5 ho5
      go_wp2_with (at_builtin; go_must (refine wpList_append_own_at _ rfl (.tmp 12) (.tmp 14) _ rfl w.heap.size 59 i0 (.agg #[.int .u8 0, .int .i64 0, .int .i64 0]) 3 24 Try.underlying64 hi hz0 hz1 hz2 rfl (by decide) (.slice A2 k cp2) k _ rfl HO5.out ⟨wr.heap.size + 1, 0, none⟩ 1 1 [.int .u8 (tb : Nat), .int .i64 tl, .int .i64 td] rfl rfl (cells3 HX5.out) (cellT_one ⟨tb, tl, td⟩) (by unfold maxLen; omega) (by omega) (by have h1 := HB.out.size; have h3 := HS5.out; omega) ?_; intro v' w6 hown' hgrow hnil hloc; have HO6 := Lib.hid hown'; have HB6 := Lib.hid (HB5.out.grown hgrow (by have h1 := HB.out.size; have h3 := HS5.out; omega) (fun j hj => (HO.out.lt j hj).1)); clear hown' hgrow hnil hloc))
      go_roundw
      case rel =>
        refine ⟨k + 1, by omega, by go_num, ?_, HB6⟩
        show World.ownsRow _ _ _ _ _ _ _
        rw [HTS.out]
        exact HO6.out
      case measure => simp [intOf]; omega
    · obtain rfl : k = n := by omega
      have HTT := Lib.hid (toks_of_own HO.out (fun i hi => by
        obtain ⟨_, _, _, _, hc⟩ := HT.out (by omega)
        exact (hc i hi).1))
      go_wp2
      go_ret
      exact ⟨A2, cp2, rfl, HTT.out, HB.out⟩
theorem ex_len : lenT 11 = (265, 1, 0) := by decide +kernel
theorem ex_dst : dstT 5 = (4, 1, 0) := by decide +kernel
set_option maxHeartbeats 4000000 in
theorem awake8_any (w : World) : Calls Try.prog 35 #[] w fun e w' => e = .returned (.bool true) ∧ w = w' := by
  have h1 := blen_any 11 w
  have h2 := bdist_any 5 w
  rw [ex_len] at h1
  rw [ex_dst] at h2
  have H1 := Lib.hid h1
  have H2 := Lib.hid h2
  clear h1 h2
  go_enter Try.func35, Try.ntmps35
  go_wp2_with fail
  refine (H1.out).mono ?_; rintro e w1 ⟨rfl, rfl⟩
  go_wp2_with fail
  refine (H2.out).mono ?_; rintro e w1 ⟨rfl, rfl⟩
  go_wp2
  go_ret
  exact ⟨rfl, rfl⟩
end Go.Proofs.Ytblojfgbdmnccaa
