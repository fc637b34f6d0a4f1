/-
 block: the codes of a dynamic block; a writer is told them first.
 block: Put, Size, Best.
-/
import Derived.Test.YtmkeicfklbepnaaGreatBlkN

namespace Go.Proofs.YtmkeicfklbepnaaGreat
set_option maxRecDepth 100000
open Go.RowKit Go.Joins Go.Deep

theorem fill_shr (ls : Nat → Nat) (l : Nat) : ∀ n, fillN ls (shrN ls l n) = fillN ls n
 | 0 => rfl
 | n + 1 => by
  rw [shrN]
  split
  ·rename_i h
   rw [fill_shr ls l n, fillN, if_pos h.2, Nat.add_zero]
  ·rfl
theorem sum_shr (ls : Nat → Nat) (l : Nat) : ∀ n, sumN ls (shrN ls l n) = sumN ls n
 | 0 => rfl
 | n + 1 => by
  rw [shrN]
  split
  ·rename_i h
   rw [sum_shr ls l n, sumN, h.2, Nat.add_zero]
  ·rfl
theorem fill_one (ls : Nat → Nat) : ∀ n, (∀ i, i < n → ls i ≤ 1) → fillN ls n = 16384 * sumN ls n
 | 0, _ => rfl
 | n + 1, h => by
  have h1 := h n (by omega)
  rw [fillN, sumN, fill_one ls n fun i hi => h i (by omega)]
  by_cases h0 : ls n = 0
  ·rw [if_pos h0, h0]; omega
  ·rw [if_neg h0, show ls n = 1 by omega]
   show _ + 16384 = _
   omega
theorem may_shr (f : Nat → Nat) (n l : Nat) (hn : n ≤ 400) : may ⟨shrN (We.lensF f n 15) l n, We.lensF f n 15⟩ true := by
 have hp : (We.comeL f n).length ≤ 2 ^ 15 := by have := We.comeL_le f n; omega
 unfold may
 dsimp only
 rw [fill_shr, sum_shr]
 by_cases h2 : 2 ≤ (We.comeL f n).length
 ·have h := We.lensF_fill f n 15 (by omega) (by omega) (by omega) hp h2
  exact ⟨Nat.le_of_eq h, .inl h⟩
 ·have h1 : ∀ i, i < n → (0 < We.lensF f n 15 i ↔ 0 < f i) ∧ We.lensF f n 15 i ≤ 1 := fun i hi => by
   obtain ⟨a, _, c⟩ := We.lensF_iff f n 15 (by omega) (by omega) hp i hi
   exact ⟨a, c (by omega)⟩
  have hs := We.sum_come f (We.lensF f n 15) n h1
  have hf := fill_one (We.lensF f n 15) n fun i hi => (h1 i hi).2
  refine ⟨by omega, .inr ⟨rfl, by omega⟩⟩
theorem cA_256 (f : Nat → Tok) : ∀ k, 0 < cA f k 256
 | 0 => by unfold cA; decide
 | k + 1 => by
  have ih := cA_256 f k
  rw [cA]
  split
  ·split <;> (unfold bump; split <;> omega)
  ·exact ih
noncomputable def dLS (f : Nat → Tok) (n : Nat) : Nat → Nat := We.lensF (cA f n) 286 15
noncomputable def dLD (f : Nat → Tok) (n : Nat) : Nat → Nat := We.lensF (cB f n) 30 15
noncomputable def dHS (f : Nat → Tok) (n : Nat) : Nat := shrN (dLS f n) 257 286
noncomputable def dHD (f : Nat → Tok) (n : Nat) : Nat := shrN (dLD f n) 1 30
noncomputable def dynS (f : Nat → Tok) (n : Nat) : Cod := ⟨dHS f n, dLS f n⟩
noncomputable def dynD (f : Nat → Tok) (n : Nat) : Cod := ⟨dHD f n, dLD f n⟩
noncomputable def dRow (f : Nat → Tok) (n i : Nat) : Nat := if i < dHS f n then dLS f n i else dLD f n (i - dHS f n)
noncomputable def dynB (f : Nat → Tok) (n : Nat) : Bs := ((wB (dHS f n - 257) 5).app (wB (dHD f n - 1) 5)).app (rowBs (dRow f n) (dHS f n + dHD f n))
theorem dHS_bd (f : Nat → Tok) (n : Nat) : 257 ≤ dHS f n ∧ dHS f n ≤ 286 := ⟨shrN_ge _ _ _ (by omega), shrN_le _ _ _⟩
theorem dHD_bd (f : Nat → Tok) (n : Nat) : 1 ≤ dHD f n ∧ dHD f n ≤ 30 := ⟨shrN_ge _ _ _ (by omega), shrN_le _ _ _⟩
theorem pow286 (f : Nat → Nat) (n : Nat) (hn : n ≤ 400) : (We.comeL f n).length ≤ 2 ^ 15 := by have := We.comeL_le f n; omega
theorem dLS_le (f : Nat → Tok) (n i : Nat) (hi : i < 286) : dLS f n i ≤ 15 := (We.lensF_iff _ 286 15 (by omega) (by omega) (pow286 _ _ (by omega)) i hi).2.1
theorem dLD_le (f : Nat → Tok) (n i : Nat) (hi : i < 30) : dLD f n i ≤ 15 := (We.lensF_iff _ 30 15 (by omega) (by omega) (pow286 _ _ (by omega)) i hi).2.1
theorem dLS_pos (f : Nat → Tok) (n i : Nat) (hi : i < 286) : 0 < dLS f n i ↔ 0 < cA f n i := (We.lensF_iff _ 286 15 (by omega) (by omega) (pow286 _ _ (by omega)) i hi).1
theorem dLD_pos (f : Nat → Tok) (n i : Nat) (hi : i < 30) : 0 < dLD f n i ↔ 0 < cB f n i := (We.lensF_iff _ 30 15 (by omega) (by omega) (pow286 _ _ (by omega)) i hi).1
theorem dRow_le (f : Nat → Tok) (n i : Nat) (hi : i < dHS f n + dHD f n) : dRow f n i ≤ 15 := by
 have h1 := dHS_bd f n
 have h2 := dHD_bd f n
 unfold dRow
 split
 ·exact dLS_le f n i (by omega)
 ·exact dLD_le f n _ (by omega)
theorem dRow_nz (f : Nat → Tok) (n : Nat) : ∃ i, i < dHS f n + dHD f n ∧ dRow f n i ≠ 0 := by
 have h1 := dHS_bd f n
 refine ⟨256, by omega, ?_⟩
 have h2 := (dLS_pos f n 256 (by omega)).2 (cA_256 f n)
 rw [dRow, if_pos (by omega)]
 omega
/-- The first so many of a function. -/
def lstF (L : Nat → Nat) (m : Nat) : List Nat := (List.range m).map L
theorem lstF_len (L : Nat → Nat) (m : Nat) : (lstF L m).length = m := by simp [lstF]
theorem lstF_get (L : Nat → Nat) (m i : Nat) (hi : i < m) : (lstF L m).getD i 0 = L i := by
 rw [List.getD_eq_getElem?_getD, lstF, List.getElem?_map, List.getElem?_range hi]
 rfl
theorem lstF_at (L : Nat → Nat) (m q : Nat) (u : Value) (h : (cells8 (lstF L m))[q]? = some u) : q < m ∧ u = .int .u8 (L q : Nat) := by
 have hq : q < m := by
  have := (List.getElem?_eq_some_iff.1 h).1
  rwa [cells8, List.length_map, lstF_len] at this
 refine ⟨hq, ?_⟩
 rw [cells8_at _ q (by rw [lstF_len]; exact hq), lstF_get L m q hq] at h
 injection h with h
 exact h.symm

theorem setRow_far (w : World) (g j : Nat) (cs : Array Value) (h : j ≠ g) : (w.setRow g cs).heap[j]? = w.heap[j]? := setRow_other w g j cs h
theorem Wr.row_ne' {w : World} {B g g' M L : Nat} {r : Option Nat} {cs : Array Value} {T : TypeId} (h : Wr w B g r M L) (hh : w.heap[g']? = some (.cells cs T (0, 0))) (hT : T ≠ 5) (e : some g' = r) : False := by
 obtain ⟨_, v, _, ho, hr, _⟩ := h
 exact row_ne hT ho hh (hr.trans e.symm)
set_option maxHeartbeats 4000000 in
theorem dynamic_any (Bw gw n cap : Nat) (A : Option Addr) (f : Nat → Tok) (r : Option Nat) (P : Bs) (hn : n ≤ 100000) (hL : P.2 ≤ 90000000) (w : World) (hB : Bw ≤ w.heap.size) (hT : Toks w A n f) (hw : WrB w Bw gw r P) :
  Calls Tryz.prog 56 #[.pointer (some ⟨gw, 0, none⟩), .slice A n cap] w fun e w' => CodsOk (dynS f n) (dynD f n) e w' ∧ Emits w Bw gw r (P.app (dynB f n)) w' := by
 have hb0 : Below w.heap.size w (w.alloc (.cells #[.pointer none, .pointer none] 107)) := (Below.refl _ _).alloc (Nat.le_refl _) _
 have HRB : Hid ((w.alloc (.cells #[.pointer none, .pointer none] 107)).heap[w.heap.size]? = some (.cells #[.pointer none, .pointer none] 107 (0, 0))) := heap_alloc_new w _
 have HCT := Lib.hid (counts_any A n cap f _ (hT.below (Nat.le_refl _) hb0) hn)
 have HB0 := Lib.hid hb0
 have HW := Lib.hid hw
 have hbs := dHS_bd f n
 have hbd := dHD_bd f n
 have hAle := cA_le f n
 have hBle := cB_le f n
 have hz1 := zeroA286
 have hz2 := zeroA30
 clear hb0 hT hw
 go_enter Tryz.func56, Tryz.ntmps56
 go_wp2_with fail
 generalize w.alloc (.cells #[.pointer none, .pointer none] 107) = w0 at *
 refine (HCT.out).mono ?_; rintro e w1 ⟨rfl, hb1⟩
 have HB1 := Lib.hid (HB0.out.trans (hb1.mono HB0.out.size))
 have HRB1 : Hid (w1.heap[w.heap.size]? = some (.cells #[.pointer none, .pointer none] 107 (0, 0))) := (hb1.block _ (lt_of_heap HRB.out)).trans HRB.out
 clear hb1 HCT HRB HB0
 generalize hFA : cA f n = FA at *
 generalize hFB : cB f n = FB at *
 have hx1 := heap_alloc_new w1 (.cells (arrU (fun _ => 0) 286) 142)
 have hx2 := heap_alloc_new (w1.alloc (.cells (arrU (fun _ => 0) 286) 142)) (.cells (arrU (fun _ => 0) 30) 143)
 have hx12 := (Below.heap_alloc (w1.alloc (.cells (arrU (fun _ => 0) 286) 142)) (.cells (arrU (fun _ => 0) 30) 143) w1.heap.size (by simp)).trans hx1
 have hsz1 : (w1.alloc (.cells (arrU (fun _ => 0) 286) 142)).heap.size = w1.heap.size + 1 := by simp
 rw [hsz1] at hx2
 have hx22 : (((w1.alloc (.cells (arrU (fun _ => 0) 286) 142)).alloc (.cells (arrU (fun _ => 0) 30) 143)).setRow w1.heap.size (arrU FA 286)).heap[w1.heap.size + 1]? = some (.cells (arrU (fun _ => 0) 30) 143 (0, 0)) :=
  (setRow_far _ _ _ _ (by omega)).trans hx2
 have HB2 : Hid (Below w1.heap.size w1 (((w1.alloc (.cells (arrU (fun _ => 0) 286) 142)).alloc (.cells (arrU (fun _ => 0) 30) 143)).setRow w1.heap.size (arrU FA 286))) := below_setRow (((Below.refl _ _).alloc (Nat.le_refl _) _).alloc (by simp) _) (Nat.le_refl _) _
 have HA2 : Hid ((((w1.alloc (.cells (arrU (fun _ => 0) 286) 142)).alloc (.cells (arrU (fun _ => 0) 30) 143)).setRow w1.heap.size (arrU FA 286)).heap[w1.heap.size]? = some (.cells (arrU FA 286) 142 (0, 0))) := setRow_heap _ _ _ (arrU FA 286) _ _ hx12
 have HX22 := Lib.hid hx22
 go_wp2_with (first
  | (refine wpList_store_row rfl 142 (.tmp 5) (.tmp 14) rfl w1.heap.size (arrU FA 286) rfl rfl 142 (arrU (fun _ => 0) 286) hx12 (infoA286 FA) (by rw [arrU_size, arrU_size]) (arrU_one FA 286) ?_)
  | (refine wpList_store_row rfl 143 (.tmp 6) (.tmp 15) rfl (w1.heap.size + 1) (arrU FB 30) rfl rfl 143 (arrU (fun _ => 0) 30) HX22.out (infoA30 FB) (by rw [arrU_size, arrU_size]) (arrU_one FB 30) ?_))
 have hb3 : Below w1.heap.size w1 ((((w1.alloc (.cells (arrU (fun _ => 0) 286) 142)).alloc (.cells (arrU (fun _ => 0) 30) 143)).setRow w1.heap.size (arrU FA 286)).setRow (w1.heap.size + 1) (arrU FB 30)) := below_setRow HB2.out (by omega) _
 have hA3 : ((((w1.alloc (.cells (arrU (fun _ => 0) 286) 142)).alloc (.cells (arrU (fun _ => 0) 30) 143)).setRow w1.heap.size (arrU FA 286)).setRow (w1.heap.size + 1) (arrU FB 30)).heap[w1.heap.size]? = some (.cells (arrU FA 286) 142 (0, 0)) := (setRow_far _ _ _ _ (by omega)).trans HA2.out
 have hB3' : ((((w1.alloc (.cells (arrU (fun _ => 0) 286) 142)).alloc (.cells (arrU (fun _ => 0) 30) 143)).setRow w1.heap.size (arrU FA 286)).setRow (w1.heap.size + 1) (arrU FB 30)).heap[w1.heap.size + 1]? = some (.cells (arrU FB 30) 143 (0, 0)) := setRow_heap _ _ _ (arrU FB 30) _ _ HX22.out
 have HA3 := Lib.hid hA3
 have HBB3 := Lib.hid hB3'
 have HB3 := Lib.hid (HB1.out.trans (hb3.mono HB1.out.size))
 have HRB3 := Lib.hid ((hb3.block _ (lt_of_heap HRB1.out)).trans HRB1.out)
 clear hb3 hA3 hB3' hx1 hx2 hx12 hx22 hsz1 HB2 HA2 HX22 HB1 HRB1 hz1 hz2
 generalize (((w1.alloc (.cells (arrU (fun _ => 0) 286) 142)).alloc (.cells (arrU (fun _ => 0) 30) 143)).setRow w1.heap.size (arrU FA 286)).setRow (w1.heap.size + 1) (arrU FB 30) = w3 at *
 generalize w1.heap.size = gA at *
 have hctA : We.Cts w3 (some ⟨gA, 0, none⟩) 286 FA := fun _ => ⟨gA, 0, rfl, lt_of_heap HA3.out, fun i hi => ⟨by rw [Nat.zero_add, cell_of_row w3 gA i _ _ _ HA3.out, arrU_get FA 286 i hi], by have := hAle i; omega⟩⟩
 have hctB : We.Cts w3 (some ⟨gA + 1, 0, none⟩) 30 FB := fun _ => ⟨gA + 1, 0, rfl, lt_of_heap HBB3.out, fun i hi => ⟨by rw [Nat.zero_add, cell_of_row w3 (gA + 1) i _ _ _ HBB3.out, arrU_get FB 30 i hi], by have := hBle i; omega⟩⟩
 have HWA := Lib.hid (We.weigh_any (some ⟨gA, 0, none⟩) 286 286 15 FA w3 hctA (by omega) (by omega) (by omega) (pow286 _ _ (by omega)))
 have HWB := Lib.hid (fun w4 (h : Below w3.heap.size w3 w4) => We.weigh_any (some ⟨gA + 1, 0, none⟩) 30 30 15 FB w4 (hctB.below (Nat.le_refl _) h) (by omega) (by omega) (by omega) (pow286 _ _ (by omega)))
 rw [show ((15 : Nat) : Int) = 15 from rfl] at HWA HWB
 have HLA := Lib.hid (fun i (hi : i < 286) => dLS_le f n i hi)
 have HLB := Lib.hid (fun i (hi : i < 30) => dLD_le f n i hi)
 have hEA : We.lensF FA 286 15 = dLS f n := by rw [← hFA]; rfl
 have hEB : We.lensF FB 30 15 = dLD f n := by rw [← hFB]; rfl
 rw [hEA] at HWA
 rw [hEB] at HWB
 clear hctA hctB hEA hEB hFA hFB hAle hBle HA3 HBB3
 (with_reducible refine (HWA.out).mono ?_); rintro e w4 ⟨gs, rfl, hlen, hgs, hb4⟩
 have HRS4 := Lib.hid (isLen_row hlen (fun i hi => Nat.lt_of_le_of_lt (HLA.out i hi) (by decide)))
 have HB4' := Lib.hid hb4
 have HB4 := Lib.hid (HB3.out.trans (hb4.mono HB3.out.size))
 have HGS : Hid (w.heap.size ≤ gs) := Nat.le_trans HB3.out.size hgs
 have HRB4 := Lib.hid ((hb4.block _ (lt_of_heap HRB3.out)).trans HRB3.out)
 clear hlen hgs hb4 HWA HRB3
 go_wp2_with fail
 (with_reducible refine (HWB.out w4 HB4'.out).mono ?_); rintro e w5 ⟨gd, rfl, hlen, hgd, hb5⟩
 have HRD5 := Lib.hid (isLen_row hlen (fun i hi => Nat.lt_of_le_of_lt (HLB.out i hi) (by decide)))
 have HRS5 := Lib.hid (HRS4.out.below hb5)
 have HB5 := Lib.hid (HB4.out.trans (hb5.mono HB4.out.size))
 have HGD : Hid (w.heap.size ≤ gd) := Nat.le_trans HB4.out.size hgd
 have HRB5 := Lib.hid ((hb5.block _ (lt_of_heap HRB4.out)).trans HRB4.out)
 clear hlen hgd hb5 HWB HRS4 HB4 HB4' HRB4
 have HSS := Lib.hid (short_any (some ⟨gs, 0, none⟩) 286 286 257 (dLS f n) (by omega) (by omega) (Nat.le_refl _) w5 (HRS5.out.lens 286 (Nat.le_refl _)))
 have HSD := Lib.hid (short_any (some ⟨gd, 0, none⟩) 30 30 1 (dLD f n) (by omega) (by omega) (Nat.le_refl _) w5 (HRD5.out.lens 30 (Nat.le_refl _)))
 rw [show shrN (dLS f n) 257 286 = dHS f n from rfl, show ((257 : Nat) : Int) = 257 from rfl] at HSS
 rw [show shrN (dLD f n) 1 30 = dHD f n from rfl, show ((1 : Nat) : Int) = 1 from rfl] at HSD
 have HROW := Lib.hid (fun i (hi : i < dHS f n + dHD f n) => dRow_le f n i hi)
 have HRNZ := Lib.hid (dRow_nz f n)
 have HRW := Lib.hid (fun i => show dRow f n i = if i < dHS f n then dLS f n i else dLD f n (i - dHS f n) from rfl)
 have HMS : Hid (may (dynS f n) true) := may_shr (cA f n) 286 257 (by omega)
 have HMD : Hid (may (dynD f n) true) := may_shr (cB f n) 30 1 (by omega)
 have HDB : Hid (dynB f n = ((wB (dHS f n - 257) 5).app (wB (dHD f n - 1) 5)).app (rowBs (dRow f n) (dHS f n + dHD f n))) := rfl
 have HDS : Hid (dynS f n = ⟨dHS f n, dLS f n⟩) := rfl
 have HDD : Hid (dynD f n = ⟨dHD f n, dLD f n⟩) := rfl
 generalize dHS f n = hs at *
 generalize dHD f n = hd at *
 generalize dLS f n = LS at *
 generalize dLD f n = LD at *
 generalize dRow f n = RW at *
 have hws : WrB w5 Bw gw r P := HW.out.below HB5.out
 have HWS := Lib.hid hws
 have HBW5 : Hid (Bw ≤ w5.heap.size) := Nat.le_trans hB HB5.out.size
 have HW1 := Lib.hid (write_b Bw gw (hs - 257) 5 r P (by omega) (by omega) (by omega) w5 HBW5.out hws)
 rw [show ((5 : Nat) : Int) = 5 from rfl] at HW1
 have e1 : (hs : Int) - 257 = ((hs - 257 : Nat) : Int) := by omega
 have e2 : IntKind.u32.wrap ((hs - 257 : Nat) : Int) = ((hs - 257 : Nat) : Int) := by rw [IntKind.wrap_u32]; omega
 have e3 : (hd : Int) - 1 = ((hd - 1 : Nat) : Int) := by omega
 have e4 : IntKind.u32.wrap ((hd - 1 : Nat) : Int) = ((hd - 1 : Nat) : Int) := by rw [IntKind.wrap_u32]; omega
 clear hws
 go_wp2_with fail
 (with_reducible refine (HSS.out).mono ?_); rintro e w6 ⟨rfl, rfl⟩
 go_wp2_with fail
 (with_reducible refine (HSD.out).mono ?_); rintro e w6 ⟨rfl, rfl⟩
 go_wp2_with fail
 (with_reducible refine (HW1.out).mono ?_); rintro e w6 ⟨rfl, r6, hw6, hu6⟩
 have HNS := Lib.hid (wr_new_ne HW.out HGS.out)
 have HND := Lib.hid (wr_new_ne HW.out HGD.out)
 have HNS6 := Lib.hid (wr_since HW.out HGS.out HRS5.out.1 HNS.out.2 hu6)
 have HND6 := Lib.hid (wr_since HW.out HGD.out HRD5.out.1 HND.out.2 hu6)
 have HRS6 := Lib.hid (HRS5.out.upd hu6 HNS.out.1 HNS.out.2)
 have HRD6 := Lib.hid (HRD5.out.upd hu6 HND.out.1 HND.out.2)
 have HBW6 : Hid (Bw ≤ w6.heap.size) := Nat.le_trans HBW5.out hu6.1.size
 have HU6 := Lib.hid ((upd_below (g := gw) (r := r) HB5.out).then hu6)
 have HRB6 := Lib.hid ((farW_upd HWS.out hu6).cells HRB5.out (by decide) (by decide))
 have HW6 := Lib.hid hw6
 have HW2 := Lib.hid (write_b Bw gw (hd - 1) 5 r6 _ (by show P.2 + 5 ≤ _; omega) (by omega) (by omega) w6 HBW6.out hw6)
 rw [show ((5 : Nat) : Int) = 5 from rfl] at HW2
 clear hw6 hu6 HSS HSD HW1 HWS HRS5 HRD5 HB5 HRB5
 go_wp2_with fail
 (with_reducible refine (HW2.out).mono ?_); rintro e w7 ⟨rfl, r7, hw7, hu7⟩
 have HNS7 := Lib.hid (wr_since HW.out HGS.out HRS6.out.1 HNS6.out.2 hu7)
 have HND7 := Lib.hid (wr_since HW.out HGD.out HRD6.out.1 HND6.out.2 hu7)
 have HRS7 := Lib.hid (HRS6.out.upd hu7 HNS6.out.1 HNS6.out.2)
 have HRD7 := Lib.hid (HRD6.out.upd hu7 HND6.out.1 HND6.out.2)
 have HBW7 : Hid (Bw ≤ w7.heap.size) := Nat.le_trans HBW6.out hu7.1.size
 have HU7 := Lib.hid (HU6.out.then hu7)
 have HRB7 := Lib.hid ((farW_upd HW6.out hu7).cells HRB6.out (by decide) (by decide))
 have HW7 := Lib.hid hw7
 clear hw7 hu7 HW2 HW6 HRB6 HRS6 HRD6 HU6
 go_wp2_with fail
 have hb8 : Below w7.heap.size w7 (w7.alloc (.cells #[.slice (some ⟨gs, 0, none⟩) hs 286, .slice (some ⟨gd, 0, none⟩) hd 30] 37)) := (Below.refl _ _).alloc (Nat.le_refl _) _
 have hnew : (w7.alloc (.cells #[.slice (some ⟨gs, 0, none⟩) hs 286, .slice (some ⟨gd, 0, none⟩) hd 30] 37)).heap[w7.heap.size]? = _ := heap_alloc_new w7 _
 have HRS8 := Lib.hid (HRS7.out.below hb8)
 have HRD8 := Lib.hid (HRD7.out.below hb8)
 obtain ⟨rs, hrs⟩ : ∃ rs : Nat → List Nat, rs = fun i => if i = 0 then lstF LS hs else lstF LD hd := ⟨_, rfl⟩
 have hr0 : rs 0 = lstF LS hs := by rw [hrs]; rfl
 have hr1 : rs 1 = lstF LD hd := by rw [hrs]; rfl
 have hjl : (Ij.joinR rs 2).length = hs + hd := by
  show ((([] : List Nat) ++ rs 0) ++ rs 1).length = _
  rw [hr0, hr1, List.nil_append, List.length_append, lstF_len, lstF_len]
 have HJG : Hid (∀ i, i < hs + hd → (Ij.joinR rs 2).getD i 0 = RW i) := fun i hi => by
  show ((([] : List Nat) ++ rs 0) ++ rs 1).getD i 0 = _
  rw [hr0, hr1, List.nil_append, HRW.out i, List.getD_eq_getElem?_getD]
  by_cases hih : i < hs
  ·rw [List.getElem?_append_left (by rw [lstF_len]; exact hih), ← List.getD_eq_getElem?_getD, lstF_get LS hs i hih, if_pos hih]
  ·rw [List.getElem?_append_right (by rw [lstF_len]; omega), lstF_len, ← List.getD_eq_getElem?_getD, lstF_get LD hd _ (by omega), if_neg hih]
 have HCON := Lib.hid (Ij.concat_any w7.heap.size 2 (fun i => if i = 0 then gs else gd) (fun i => if i = 0 then 286 else 30) rs (by omega) (by omega) (fun i hi => by
   match i, hi with
   | 0, _ => rw [hr0, lstF_len]; omega
   | 1, _ => rw [hr1, lstF_len]; omega) (by rw [hjl]; omega) _ (lt_of_heap hnew)
  (fun i hi => by
   rw [cell_of_row _ _ i _ _ _ hnew]
   match i, hi with
   | 0, _ => rw [hr0, lstF_len]; rfl
   | 1, _ => rw [hr1, lstF_len]; rfl)
  (fun i hi => by
   match i, hi with
   | 0, _ => exact ⟨HRS8.out.1, fun q u hu => by rw [hr0] at hu; obtain ⟨h1, rfl⟩ := lstF_at LS hs q u hu; exact (HRS8.out.2 q (by omega)).1⟩
   | 1, _ => exact ⟨HRD8.out.1, fun q u hu => by rw [hr1] at hu; obtain ⟨h1, rfl⟩ := lstF_at LD hd q u hu; exact (HRD8.out.2 q (by omega)).1⟩))
 rw [hjl] at HCON
 have HB8 := Lib.hid hb8
 have HJL := Lib.hid hjl
 clear hnew hb8 hrs hr0 hr1 hjl
 generalize w7.alloc (.cells #[.slice (some ⟨gs, 0, none⟩) hs 286, .slice (some ⟨gd, 0, none⟩) hd 30] 37) = w8 at *
 refine (HCON.out).mono ?_; rintro e w9 ⟨gc, cap2, rfl, hown, hb9⟩
 have ho9 := own_cells8 hown HJL.out
 have HL9 : Hid (Lens w9 (some ⟨gc, 0, none⟩) (hs + hd) RW) := fun _ => ⟨gc, 0, rfl, ho9.1, fun i hi => ⟨by rw [Nat.zero_add, ho9.2 i hi, HJG.out i hi], by have := HROW.out i hi; omega⟩⟩
 have HB79 := Lib.hid (HB8.out.trans (hb9.mono HB8.out.size))
 have HRS9 := Lib.hid (HRS8.out.below hb9)
 have HRD9 := Lib.hid (HRD8.out.below hb9)
 have HW9 := Lib.hid (HW7.out.below HB79.out)
 have HU9 := Lib.hid (HU7.out.then (upd_below (g := gw) (r := r7) HB79.out))
 have HRB9 := Lib.hid ((HB79.out.block _ (lt_of_heap HRB7.out)).trans HRB7.out)
 have HBW9 : Hid (Bw ≤ w9.heap.size) := Nat.le_trans HBW7.out HB79.out.size
 have HPR := Lib.hid (putRow_any Bw gw (hs + hd) cap2 (some ⟨gc, 0, none⟩) RW r7 _ (by omega) (by omega) HROW.out HRNZ.out (by show P.2 + 5 + 5 ≤ _; omega) w9 HBW9.out HL9.out HW9.out)
 clear ho9 hown hb9 HCON HB8 HJL HJG HRS8 HRD8 HB79 HRB7 HU7 HW7 HRS7 HRD7
 go_wp2_with fail
 (refine (HPR.out).mono ?_); rintro e w10 ⟨rfl, r10, hw10, hu10⟩
 have HNS10 := Lib.hid (HRS9.out.upd hu10 HNS7.out.1 HNS7.out.2)
 have HND10 := Lib.hid (HRD9.out.upd hu10 HND7.out.1 HND7.out.2)
 have HRB10 := Lib.hid ((farW_upd HW9.out hu10).cells HRB9.out (by decide) (by decide))
 have HU10 := Lib.hid (HU9.out.then hu10)
 have HW10 := Lib.hid hw10
 have HPAIR := Lib.hid (bpair_ok (some ⟨gs, 0, none⟩) (some ⟨gd, 0, none⟩) 286 30 (dynS f n) (dynD f n) (by rw [HDS.out]; show hs ≤ 4096; omega) (by rw [HDD.out]; show hd ≤ 4096; omega)
  (by rw [HDS.out]; intro i hi; exact HLA.out i (by have : i < hs := hi; omega)) (by rw [HDD.out]; intro i hi; exact HLB.out i (by have : i < hd := hi; omega)) HMS.out HMD.out w10
  (by rw [HDS.out]; exact HNS10.out.lens hs (by omega)) (by rw [HDD.out]; exact HND10.out.lens hd (by omega)))
 rw [show (dynS f n).n = hs by rw [HDS.out], show (dynD f n).n = hd by rw [HDD.out]] at HPAIR
 clear hw10 hu10 HPR HW9 HU9 HRB9 HRS9 HRD9 HL9 HNS10 HND10
 go_wp2_with fail
 (refine (HPAIR.out).mono ?_); rintro e w11 ⟨⟨cs, cd, rfl, hcs, hcd⟩, hb11⟩
 have HCS := Lib.hid hcs
 have HCD := Lib.hid hcd
 have HU11 := Lib.hid (HU10.out.then (upd_below (g := gw) (r := r10) hb11))
 have HW11 := Lib.hid (HW10.out.below hb11)
 have hr2 := (hb11.block _ (lt_of_heap HRB10.out)).trans HRB10.out
 have HR2 := Lib.hid hr2
 unfold CodV
 have f0 := frozen_of_row w11 _ 0 _ _ hr2
 have f1 := frozen_of_row w11 _ 1 _ _ hr2
 have e0' : w11.cell? ⟨w.heap.size, 0, none⟩ = some (.pointer none) := by rw [cell_of_row w11 _ 0 _ _ _ hr2]; rfl
 have e1' : w11.cell? ⟨w.heap.size, 1, none⟩ = some (.pointer none) := by rw [cell_of_row w11 _ 1 _ _ _ hr2]; rfl
 clear hr2 hcs hcd hb11 HPAIR HU10 HW10 HRB10
 go_wp2_with fail
 have hr3 := two_cellsB (x := .pointer (some ⟨cs, 0, none⟩)) (y := .pointer (some ⟨cd, 0, none⟩)) HR2.out
 have hq := heap_setCell_same w11 w.heap.size 0 _ _ (.pointer (some ⟨cs, 0, none⟩)) HR2.out
 have hc3 := code_set (i := 1) (v := .pointer (some ⟨cd, 0, none⟩)) (code_set (i := 0) (v := .pointer (some ⟨cs, 0, none⟩)) HCS.out HR2.out) hq
 have hd3 := code_set (i := 1) (v := .pointer (some ⟨cd, 0, none⟩)) (code_set (i := 0) (v := .pointer (some ⟨cs, 0, none⟩)) HCD.out HR2.out) hq
 have hnw := wr_new_ne HW.out (Nat.le_refl w.heap.size)
 have hk3 : Upd gw r r10 w ((w11.setCell ⟨w.heap.size, 0, none⟩ (.pointer (some ⟨cs, 0, none⟩))).setCell ⟨w.heap.size, 1, none⟩ (.pointer (some ⟨cd, 0, none⟩))) :=
  ⟨(HU11.out.1.then (kept_set w11 w.heap.size 0 _) (fun i hi e => absurd e (by omega))).then (kept_set _ w.heap.size 1 _) (fun i hi e => absurd e (by omega)), HU11.out.2⟩
 have hw3 : WrB ((w11.setCell ⟨w.heap.size, 0, none⟩ (.pointer (some ⟨cs, 0, none⟩))).setCell ⟨w.heap.size, 1, none⟩ (.pointer (some ⟨cd, 0, none⟩))) Bw gw r10 (P.app (dynB f n)) := by
  have h := HW11.out
  rw [HDB.out]
  rw [bs_assoc, bs_assoc] at h
  rw [← bs_assoc (wB (hs - 257) 5)] at h
  refine Wr.stay h fun i hi e => ?_
  have hne : i ≠ w.heap.size := fun e2 => by
   subst e2
   rcases e with e | e
   ·obtain ⟨_, v, hb, ho, hr, _⟩ := h
    have h5 := HR2.out
    rw [e, hb] at h5
    injection h5 with h5
    injection h5 with _ h5 _
    revert h5
    decide
   ·exact Wr.row_ne' h HR2.out (by decide) e
  rw [Below.heap_setCell _ _ _ _ hne, Below.heap_setCell _ _ _ _ hne]
 generalize hw9 : (w11.setCell ⟨w.heap.size, 0, none⟩ (.pointer (some ⟨cs, 0, none⟩))).setCell ⟨w.heap.size, 1, none⟩ (.pointer (some ⟨cd, 0, none⟩)) = w12 at *
 refine bodyPost_ret (results_cell_row rfl _ _ w.heap.size 107 #[.pointer (some ⟨cs, 0, none⟩), .pointer (some ⟨cd, 0, none⟩)] (0, 0) _ rfl hr3 Tryz.underlying107 rfl info_bcodes) rfl ⟨⟨cs, cd, rfl, hc3, hd3⟩, r10, hw3, hk3⟩
end Go.Proofs.YtmkeicfklbepnaaGreat

namespace Go.Proofs.YtmkeicfklbepnaaGreat
set_option maxRecDepth 100000
open Go.RowKit Go.Joins Go.Deep

theorem dynB_le (f : Nat → Tok) (n : Nat) : (dynB f n).2 ≤ 5000 := by
 have h1 := dHS_bd f n
 have h2 := dHD_bd f n
 have h3 := threeB_len (rowL (dRow f n) (dHS f n + dHD f n)) (rowH (dRow f n) (dHS f n + dHD f n))
 have h4 : rowH (dRow f n) (dHS f n + dHD f n) ≤ 19 := shrN_le _ _ _
 have hsp := split_ex (dRow f n) (dHS f n + dHD f n)
 have hk : kN (dRow f n) (dHS f n + dHD f n) ≤ dHS f n + dHD f n := by
  have key : ∀ k, k ≤ kN (dRow f n) (dHS f n + dHD f n) → k ≤ pzN (dRow f n) (dHS f n + dHD f n) k := by
   intro k
   induction k with
   | zero => exact fun _ => Nat.zero_le _
   | succ k ih =>
    intro hk
    have h5 := ih (by omega)
    have h6 := pc_mn (dRow f n) (dHS f n + dHD f n) _ (hsp.2 k (by omega))
    show k + 1 ≤ pzN (dRow f n) (dHS f n + dHD f n) k + _
    omega
  have := key _ (Nat.le_refl _)
  rw [hsp.1] at this
  exact this
 have h5 := pcB_le (rowC (dRow f n) (dHS f n + dHD f n)) (dRow f n) (dHS f n + dHD f n) (fun i hi => rowL_le _ _ i hi) (kN (dRow f n) (dHS f n + dHD f n)) (fun i hi => (pc_bd _ _ _ (by have := dRow_le f n _ (hsp.2 i hi); omega)).2.1)
 show 5 + 5 + (4 + (threeB _ _).2 + (pcB _ _ _ _).2) ≤ 5000
 omega
/-- A block's bits behind bits. -/
noncomputable def blkB (k : Nat) (f : Nat → Tok) (n : Nat) (s : ByteArray) (last : Bool) (P : Bs) : Bs :=
 if k = 0 then stB s ((P.app (wB (if last = true then 1 else 0) 1)).app (wB k 2))
 else if k = 1 then (((P.app (wB (if last = true then 1 else 0) 1)).app (wB k 2)).app (toksB fixS fixD f n)).app (sgB fixS 256)
 else ((((P.app (wB (if last = true then 1 else 0) 1)).app (wB k 2)).app (dynB f n)).app (toksB (dynS f n) (dynD f n) f n)).app (sgB (dynS f n) 256)
set_option maxHeartbeats 2000000 in
theorem bput_bad (gw : Nat) (kind : Int) (A : Option Addr) (n cap : Nat) (f : Nat → Tok) (s : ByteArray) (last : Bool) (x : Int) (hx : x ≠ 0) (hn : n ≤ 1000000) (w : World) (hT : Toks w A n f) (hc : chkE kind f n s = x) :
  Calls Tryz.prog 34 #[.pointer (some ⟨gw, 0, none⟩), .int .i64 kind, .slice A n cap, .string s, .bool last] w fun e w' => e = .returned (.int .i64 x) ∧ Below w.heap.size w w' := by
 have HC := Lib.hid (check_any kind A n cap f s w hT hn)
 rw [hc] at HC
 have hx' : (x == 0) = false := by rw [beq_eq_false_iff_ne]; exact hx
 clear hc hT
 go_enter Tryz.func34, Tryz.ntmps34
 go_wp2_with fail
 (with_reducible refine (HC.out).mono ?_); rintro e w1 ⟨rfl, hb1⟩
 have HB1 := Lib.hid hb1
 clear hb1
 go_wp2_with fail
 go_ret
 exact ⟨rfl, HB1.out⟩
set_option maxHeartbeats 4000000 in
theorem bput_00 (Bw gw : Nat) (A : Option Addr) (n cap : Nat) (f : Nat → Tok) (s : ByteArray) (r : Option Nat) (P : Bs) (hn : n ≤ 100000) (hL : P.2 ≤ 80000000) (w : World) (hB : Bw ≤ w.heap.size) (hT : TokB w Bw A n f) (hw : WrB w Bw gw r P) (hc : chkE 0 f n s = 0) (hR : ∀ i, i < n → rightT (f i) = true) (hs : s.size ≤ 65535) :
  Calls Tryz.prog 34 #[.pointer (some ⟨gw, 0, none⟩), .int .i64 0, .slice A n cap, .string s, .bool false] w fun e w' => e = .returned (.int .i64 0) ∧ Emits w Bw gw r (blkB 0 f n s false P) w' := by
 have HC := Lib.hid (check_any 0 A n cap f s w hT.toks (by omega))
 rw [hc] at HC
 have HT := Lib.hid hT
 have HW := Lib.hid hw
 have HR := Lib.hid hR
 clear hc hT hw hR
 go_enter Tryz.func34, Tryz.ntmps34
 go_wp2_with fail
 (with_reducible refine (HC.out).mono ?_); rintro e w1 ⟨rfl, hb1⟩
 have HB1 := Lib.hid hb1
 have HT1 := Lib.hid (HT.out.later hb1 (Nat.le_refl _))
 have HW1 := Lib.hid (HW.out.below hb1)
 have HBW1 : Hid (Bw ≤ w1.heap.size) := Nat.le_trans hB hb1.size
 have H1 := Lib.hid (write_b Bw gw 0 1 r P (by omega) (by omega) (by omega) w1 HBW1.out HW1.out)
 rw [show ((0 : Nat) : Int) = 0 from rfl, show ((1 : Nat) : Int) = 1 from rfl] at H1
 clear hb1 HC
 go_wp2_with fail
 (with_reducible refine (H1.out).mono ?_); rintro e w2 ⟨rfl, r2, hw2, hu2⟩
 have HU2 := Lib.hid ((upd_below (g := gw) (r := r) HB1.out).then hu2)
 have HT2 := Lib.hid (HT1.out.upd HW1.out hu2)
 have HBW2 : Hid (Bw ≤ w2.heap.size) := Nat.le_trans HBW1.out hu2.1.size
 have H2 := Lib.hid (write_b Bw gw 0 2 r2 _ (by show P.2 + 1 ≤ _; omega) (by omega) (by omega) w2 HBW2.out hw2)
 rw [show ((0 : Nat) : Int) = 0 from rfl, show ((2 : Nat) : Int) = 2 from rfl] at H2
 have HW2 := Lib.hid hw2
 clear hw2 hu2 H1
 go_wp2_with fail
 (with_reducible refine (H2.out).mono ?_); rintro e w3 ⟨rfl, r3, hw3, hu3⟩
 have HU3 := Lib.hid (HU2.out.then hu3)
 have HT3 := Lib.hid (HT2.out.upd HW2.out hu3)
 have HBW3 : Hid (Bw ≤ w3.heap.size) := Nat.le_trans HBW2.out hu3.1.size
 have HW3 := Lib.hid hw3
 clear hw3 hu3 H2
 have HS := Lib.hid (stored_put Bw gw s r3 _ hs (by show P.2 + 1 + 2 ≤ _; omega) w3 HBW3.out HW3.out)
 go_wp2_with fail
 (with_reducible refine (HS.out).mono ?_); rintro e w4 ⟨rfl, hem⟩
 have HE := Lib.hid (Emits.then HU3.out hem)
 clear hem
 go_wp2_with fail
 go_ret
 exact ⟨rfl, HE.out⟩
set_option maxHeartbeats 4000000 in
theorem bput_01 (Bw gw : Nat) (A : Option Addr) (n cap : Nat) (f : Nat → Tok) (s : ByteArray) (r : Option Nat) (P : Bs) (hn : n ≤ 100000) (hL : P.2 ≤ 80000000) (w : World) (hB : Bw ≤ w.heap.size) (hT : TokB w Bw A n f) (hw : WrB w Bw gw r P) (hc : chkE 0 f n s = 0) (hR : ∀ i, i < n → rightT (f i) = true) (hs : s.size ≤ 65535) :
  Calls Tryz.prog 34 #[.pointer (some ⟨gw, 0, none⟩), .int .i64 0, .slice A n cap, .string s, .bool true] w fun e w' => e = .returned (.int .i64 0) ∧ Emits w Bw gw r (blkB 0 f n s true P) w' := by
 have HC := Lib.hid (check_any 0 A n cap f s w hT.toks (by omega))
 rw [hc] at HC
 have HT := Lib.hid hT
 have HW := Lib.hid hw
 have HR := Lib.hid hR
 clear hc hT hw hR
 go_enter Tryz.func34, Tryz.ntmps34
 go_wp2_with fail
 (with_reducible refine (HC.out).mono ?_); rintro e w1 ⟨rfl, hb1⟩
 have HB1 := Lib.hid hb1
 have HT1 := Lib.hid (HT.out.later hb1 (Nat.le_refl _))
 have HW1 := Lib.hid (HW.out.below hb1)
 have HBW1 : Hid (Bw ≤ w1.heap.size) := Nat.le_trans hB hb1.size
 have H1 := Lib.hid (write_b Bw gw 1 1 r P (by omega) (by omega) (by omega) w1 HBW1.out HW1.out)
 rw [show ((1 : Nat) : Int) = 1 from rfl] at H1
 clear hb1 HC
 go_wp2_with fail
 (with_reducible refine (H1.out).mono ?_); rintro e w2 ⟨rfl, r2, hw2, hu2⟩
 have HU2 := Lib.hid ((upd_below (g := gw) (r := r) HB1.out).then hu2)
 have HT2 := Lib.hid (HT1.out.upd HW1.out hu2)
 have HBW2 : Hid (Bw ≤ w2.heap.size) := Nat.le_trans HBW1.out hu2.1.size
 have H2 := Lib.hid (write_b Bw gw 0 2 r2 _ (by show P.2 + 1 ≤ _; omega) (by omega) (by omega) w2 HBW2.out hw2)
 rw [show ((0 : Nat) : Int) = 0 from rfl, show ((2 : Nat) : Int) = 2 from rfl] at H2
 have HW2 := Lib.hid hw2
 clear hw2 hu2 H1
 go_wp2_with fail
 (with_reducible refine (H2.out).mono ?_); rintro e w3 ⟨rfl, r3, hw3, hu3⟩
 have HU3 := Lib.hid (HU2.out.then hu3)
 have HT3 := Lib.hid (HT2.out.upd HW2.out hu3)
 have HBW3 : Hid (Bw ≤ w3.heap.size) := Nat.le_trans HBW2.out hu3.1.size
 have HW3 := Lib.hid hw3
 clear hw3 hu3 H2
 have HS := Lib.hid (stored_put Bw gw s r3 _ hs (by show P.2 + 1 + 2 ≤ _; omega) w3 HBW3.out HW3.out)
 go_wp2_with fail
 (with_reducible refine (HS.out).mono ?_); rintro e w4 ⟨rfl, hem⟩
 have HE := Lib.hid (Emits.then HU3.out hem)
 clear hem
 go_wp2_with fail
 go_ret
 exact ⟨rfl, HE.out⟩
set_option maxHeartbeats 4000000 in
theorem bput_10 (Bw gw : Nat) (A : Option Addr) (n cap : Nat) (f : Nat → Tok) (s : ByteArray) (r : Option Nat) (P : Bs) (hn : n ≤ 100000) (hL : P.2 ≤ 80000000) (w : World) (hB : Bw ≤ w.heap.size) (hT : TokB w Bw A n f) (hw : WrB w Bw gw r P) (hc : chkE 1 f n s = 0) (hR : ∀ i, i < n → rightT (f i) = true) :
  Calls Tryz.prog 34 #[.pointer (some ⟨gw, 0, none⟩), .int .i64 1, .slice A n cap, .string s, .bool false] w fun e w' => e = .returned (.int .i64 0) ∧ Emits w Bw gw r (blkB 1 f n s false P) w' := by
 have HC := Lib.hid (check_any 1 A n cap f s w hT.toks (by omega))
 rw [hc] at HC
 have HT := Lib.hid hT
 have HW := Lib.hid hw
 have HR := Lib.hid hR
 clear hc hT hw hR
 go_enter Tryz.func34, Tryz.ntmps34
 go_wp2_with fail
 (with_reducible refine (HC.out).mono ?_); rintro e w1 ⟨rfl, hb1⟩
 have HB1 := Lib.hid hb1
 have HT1 := Lib.hid (HT.out.later hb1 (Nat.le_refl _))
 have HW1 := Lib.hid (HW.out.below hb1)
 have HBW1 : Hid (Bw ≤ w1.heap.size) := Nat.le_trans hB hb1.size
 have H1 := Lib.hid (write_b Bw gw 0 1 r P (by omega) (by omega) (by omega) w1 HBW1.out HW1.out)
 rw [show ((0 : Nat) : Int) = 0 from rfl, show ((1 : Nat) : Int) = 1 from rfl] at H1
 clear hb1 HC
 go_wp2_with fail
 (with_reducible refine (H1.out).mono ?_); rintro e w2 ⟨rfl, r2, hw2, hu2⟩
 have HU2 := Lib.hid ((upd_below (g := gw) (r := r) HB1.out).then hu2)
 have HT2 := Lib.hid (HT1.out.upd HW1.out hu2)
 have HBW2 : Hid (Bw ≤ w2.heap.size) := Nat.le_trans HBW1.out hu2.1.size
 have H2 := Lib.hid (write_b Bw gw 1 2 r2 _ (by show P.2 + 1 ≤ _; omega) (by omega) (by omega) w2 HBW2.out hw2)
 rw [show ((1 : Nat) : Int) = 1 from rfl, show ((2 : Nat) : Int) = 2 from rfl] at H2
 have HW2 := Lib.hid hw2
 clear hw2 hu2 H1
 go_wp2_with fail
 (with_reducible refine (H2.out).mono ?_); rintro e w3 ⟨rfl, r3, hw3, hu3⟩
 have HU3 := Lib.hid (HU2.out.then hu3)
 have HT3 := Lib.hid (HT2.out.upd HW2.out hu3)
 have HBW3 : Hid (Bw ≤ w3.heap.size) := Nat.le_trans HBW2.out hu3.1.size
 have HW3 := Lib.hid hw3
 clear hw3 hu3 H2
 have HF := Lib.hid (bfixed_any w3)
 go_wp2_with fail
 (refine (HF.out).mono ?_); rintro e w4 ⟨⟨gs, gd, rfl, hcs, hcd⟩, hb4⟩
 have HW4 := Lib.hid (HW3.out.below hb4)
 have HU4 := Lib.hid (HU3.out.then (upd_below (g := gw) (r := r3) hb4))
 have HPT := Lib.hid (codes_put gs gd Bw gw n cap A f r3 _ fixS fixD hn (by show P.2 + 1 + 2 ≤ _; omega) HR.out w4 (Nat.le_trans HBW3.out hb4.size) hcs hcd (HT3.out.later hb4 (Nat.le_refl _)) HW4.out)
 clear hcs hcd hb4 HF
 go_wp2_with fail
 (refine (HPT.out).mono ?_); rintro e w5 ⟨rfl, hem⟩
 have HE := Lib.hid (Emits.then HU4.out hem)
 clear hem
 go_wp2_with fail
 go_ret
 exact ⟨rfl, HE.out⟩
set_option maxHeartbeats 4000000 in
theorem bput_11 (Bw gw : Nat) (A : Option Addr) (n cap : Nat) (f : Nat → Tok) (s : ByteArray) (r : Option Nat) (P : Bs) (hn : n ≤ 100000) (hL : P.2 ≤ 80000000) (w : World) (hB : Bw ≤ w.heap.size) (hT : TokB w Bw A n f) (hw : WrB w Bw gw r P) (hc : chkE 1 f n s = 0) (hR : ∀ i, i < n → rightT (f i) = true) :
  Calls Tryz.prog 34 #[.pointer (some ⟨gw, 0, none⟩), .int .i64 1, .slice A n cap, .string s, .bool true] w fun e w' => e = .returned (.int .i64 0) ∧ Emits w Bw gw r (blkB 1 f n s true P) w' := by
 have HC := Lib.hid (check_any 1 A n cap f s w hT.toks (by omega))
 rw [hc] at HC
 have HT := Lib.hid hT
 have HW := Lib.hid hw
 have HR := Lib.hid hR
 clear hc hT hw hR
 go_enter Tryz.func34, Tryz.ntmps34
 go_wp2_with fail
 (with_reducible refine (HC.out).mono ?_); rintro e w1 ⟨rfl, hb1⟩
 have HB1 := Lib.hid hb1
 have HT1 := Lib.hid (HT.out.later hb1 (Nat.le_refl _))
 have HW1 := Lib.hid (HW.out.below hb1)
 have HBW1 : Hid (Bw ≤ w1.heap.size) := Nat.le_trans hB hb1.size
 have H1 := Lib.hid (write_b Bw gw 1 1 r P (by omega) (by omega) (by omega) w1 HBW1.out HW1.out)
 rw [show ((1 : Nat) : Int) = 1 from rfl] at H1
 clear hb1 HC
 go_wp2_with fail
 (with_reducible refine (H1.out).mono ?_); rintro e w2 ⟨rfl, r2, hw2, hu2⟩
 have HU2 := Lib.hid ((upd_below (g := gw) (r := r) HB1.out).then hu2)
 have HT2 := Lib.hid (HT1.out.upd HW1.out hu2)
 have HBW2 : Hid (Bw ≤ w2.heap.size) := Nat.le_trans HBW1.out hu2.1.size
 have H2 := Lib.hid (write_b Bw gw 1 2 r2 _ (by show P.2 + 1 ≤ _; omega) (by omega) (by omega) w2 HBW2.out hw2)
 rw [show ((1 : Nat) : Int) = 1 from rfl, show ((2 : Nat) : Int) = 2 from rfl] at H2
 have HW2 := Lib.hid hw2
 clear hw2 hu2 H1
 go_wp2_with fail
 (with_reducible refine (H2.out).mono ?_); rintro e w3 ⟨rfl, r3, hw3, hu3⟩
 have HU3 := Lib.hid (HU2.out.then hu3)
 have HT3 := Lib.hid (HT2.out.upd HW2.out hu3)
 have HBW3 : Hid (Bw ≤ w3.heap.size) := Nat.le_trans HBW2.out hu3.1.size
 have HW3 := Lib.hid hw3
 clear hw3 hu3 H2
 have HF := Lib.hid (bfixed_any w3)
 go_wp2_with fail
 (refine (HF.out).mono ?_); rintro e w4 ⟨⟨gs, gd, rfl, hcs, hcd⟩, hb4⟩
 have HW4 := Lib.hid (HW3.out.below hb4)
 have HU4 := Lib.hid (HU3.out.then (upd_below (g := gw) (r := r3) hb4))
 have HPT := Lib.hid (codes_put gs gd Bw gw n cap A f r3 _ fixS fixD hn (by show P.2 + 1 + 2 ≤ _; omega) HR.out w4 (Nat.le_trans HBW3.out hb4.size) hcs hcd (HT3.out.later hb4 (Nat.le_refl _)) HW4.out)
 clear hcs hcd hb4 HF
 go_wp2_with fail
 (refine (HPT.out).mono ?_); rintro e w5 ⟨rfl, hem⟩
 have HE := Lib.hid (Emits.then HU4.out hem)
 clear hem
 go_wp2_with fail
 go_ret
 exact ⟨rfl, HE.out⟩
set_option maxHeartbeats 4000000 in
theorem bput_20 (Bw gw : Nat) (A : Option Addr) (n cap : Nat) (f : Nat → Tok) (s : ByteArray) (r : Option Nat) (P : Bs) (hn : n ≤ 100000) (hL : P.2 ≤ 80000000) (w : World) (hB : Bw ≤ w.heap.size) (hT : TokB w Bw A n f) (hw : WrB w Bw gw r P) (hc : chkE 2 f n s = 0) (hR : ∀ i, i < n → rightT (f i) = true) :
  Calls Tryz.prog 34 #[.pointer (some ⟨gw, 0, none⟩), .int .i64 2, .slice A n cap, .string s, .bool false] w fun e w' => e = .returned (.int .i64 0) ∧ Emits w Bw gw r (blkB 2 f n s false P) w' := by
 have HC := Lib.hid (check_any 2 A n cap f s w hT.toks (by omega))
 rw [hc] at HC
 have HT := Lib.hid hT
 have HW := Lib.hid hw
 have HR := Lib.hid hR
 clear hc hT hw hR
 go_enter Tryz.func34, Tryz.ntmps34
 go_wp2_with fail
 (with_reducible refine (HC.out).mono ?_); rintro e w1 ⟨rfl, hb1⟩
 have HB1 := Lib.hid hb1
 have HT1 := Lib.hid (HT.out.later hb1 (Nat.le_refl _))
 have HW1 := Lib.hid (HW.out.below hb1)
 have HBW1 : Hid (Bw ≤ w1.heap.size) := Nat.le_trans hB hb1.size
 have H1 := Lib.hid (write_b Bw gw 0 1 r P (by omega) (by omega) (by omega) w1 HBW1.out HW1.out)
 rw [show ((0 : Nat) : Int) = 0 from rfl, show ((1 : Nat) : Int) = 1 from rfl] at H1
 clear hb1 HC
 go_wp2_with fail
 (with_reducible refine (H1.out).mono ?_); rintro e w2 ⟨rfl, r2, hw2, hu2⟩
 have HU2 := Lib.hid ((upd_below (g := gw) (r := r) HB1.out).then hu2)
 have HT2 := Lib.hid (HT1.out.upd HW1.out hu2)
 have HBW2 : Hid (Bw ≤ w2.heap.size) := Nat.le_trans HBW1.out hu2.1.size
 have H2 := Lib.hid (write_b Bw gw 2 2 r2 _ (by show P.2 + 1 ≤ _; omega) (by omega) (by omega) w2 HBW2.out hw2)
 rw [show ((2 : Nat) : Int) = 2 from rfl] at H2
 have HW2 := Lib.hid hw2
 clear hw2 hu2 H1
 go_wp2_with fail
 (with_reducible refine (H2.out).mono ?_); rintro e w3 ⟨rfl, r3, hw3, hu3⟩
 have HU3 := Lib.hid (HU2.out.then hu3)
 have HT3 := Lib.hid (HT2.out.upd HW2.out hu3)
 have HBW3 : Hid (Bw ≤ w3.heap.size) := Nat.le_trans HBW2.out hu3.1.size
 have HW3 := Lib.hid hw3
 clear hw3 hu3 H2
 have HF := Lib.hid (dynamic_any Bw gw n cap A f r3 _ hn (by show P.2 + 1 + 2 ≤ _; omega) w3 HBW3.out HT3.out.toks HW3.out)
 have hdl := dynB_le f n
 go_wp2_with fail
 (refine (HF.out).mono ?_); rintro e w4 ⟨⟨gs, gd, rfl, hcs, hcd⟩, r4, hw4, hu4⟩
 have HU4 := Lib.hid (HU3.out.then hu4)
 have HPT := Lib.hid (codes_put gs gd Bw gw n cap A f r4 _ (dynS f n) (dynD f n) hn (by show P.2 + 1 + 2 + (dynB f n).2 ≤ _; omega) HR.out w4 (Nat.le_trans HBW3.out hu4.1.size) hcs hcd (HT3.out.upd HW3.out hu4) hw4)
 clear hcs hcd hw4 hu4 HF hdl
 go_wp2_with fail
 (refine (HPT.out).mono ?_); rintro e w5 ⟨rfl, hem⟩
 have HE := Lib.hid (Emits.then HU4.out hem)
 clear hem
 go_wp2_with fail
 go_ret
 exact ⟨rfl, HE.out⟩
set_option maxHeartbeats 4000000 in
theorem bput_21 (Bw gw : Nat) (A : Option Addr) (n cap : Nat) (f : Nat → Tok) (s : ByteArray) (r : Option Nat) (P : Bs) (hn : n ≤ 100000) (hL : P.2 ≤ 80000000) (w : World) (hB : Bw ≤ w.heap.size) (hT : TokB w Bw A n f) (hw : WrB w Bw gw r P) (hc : chkE 2 f n s = 0) (hR : ∀ i, i < n → rightT (f i) = true) :
  Calls Tryz.prog 34 #[.pointer (some ⟨gw, 0, none⟩), .int .i64 2, .slice A n cap, .string s, .bool true] w fun e w' => e = .returned (.int .i64 0) ∧ Emits w Bw gw r (blkB 2 f n s true P) w' := by
 have HC := Lib.hid (check_any 2 A n cap f s w hT.toks (by omega))
 rw [hc] at HC
 have HT := Lib.hid hT
 have HW := Lib.hid hw
 have HR := Lib.hid hR
 clear hc hT hw hR
 go_enter Tryz.func34, Tryz.ntmps34
 go_wp2_with fail
 (with_reducible refine (HC.out).mono ?_); rintro e w1 ⟨rfl, hb1⟩
 have HB1 := Lib.hid hb1
 have HT1 := Lib.hid (HT.out.later hb1 (Nat.le_refl _))
 have HW1 := Lib.hid (HW.out.below hb1)
 have HBW1 : Hid (Bw ≤ w1.heap.size) := Nat.le_trans hB hb1.size
 have H1 := Lib.hid (write_b Bw gw 1 1 r P (by omega) (by omega) (by omega) w1 HBW1.out HW1.out)
 rw [show ((1 : Nat) : Int) = 1 from rfl] at H1
 clear hb1 HC
 go_wp2_with fail
 (with_reducible refine (H1.out).mono ?_); rintro e w2 ⟨rfl, r2, hw2, hu2⟩
 have HU2 := Lib.hid ((upd_below (g := gw) (r := r) HB1.out).then hu2)
 have HT2 := Lib.hid (HT1.out.upd HW1.out hu2)
 have HBW2 : Hid (Bw ≤ w2.heap.size) := Nat.le_trans HBW1.out hu2.1.size
 have H2 := Lib.hid (write_b Bw gw 2 2 r2 _ (by show P.2 + 1 ≤ _; omega) (by omega) (by omega) w2 HBW2.out hw2)
 rw [show ((2 : Nat) : Int) = 2 from rfl] at H2
 have HW2 := Lib.hid hw2
 clear hw2 hu2 H1
 go_wp2_with fail
 (with_reducible refine (H2.out).mono ?_); rintro e w3 ⟨rfl, r3, hw3, hu3⟩
 have HU3 := Lib.hid (HU2.out.then hu3)
 have HT3 := Lib.hid (HT2.out.upd HW2.out hu3)
 have HBW3 : Hid (Bw ≤ w3.heap.size) := Nat.le_trans HBW2.out hu3.1.size
 have HW3 := Lib.hid hw3
 clear hw3 hu3 H2
 have HF := Lib.hid (dynamic_any Bw gw n cap A f r3 _ hn (by show P.2 + 1 + 2 ≤ _; omega) w3 HBW3.out HT3.out.toks HW3.out)
 have hdl := dynB_le f n
 go_wp2_with fail
 (refine (HF.out).mono ?_); rintro e w4 ⟨⟨gs, gd, rfl, hcs, hcd⟩, r4, hw4, hu4⟩
 have HU4 := Lib.hid (HU3.out.then hu4)
 have HPT := Lib.hid (codes_put gs gd Bw gw n cap A f r4 _ (dynS f n) (dynD f n) hn (by show P.2 + 1 + 2 + (dynB f n).2 ≤ _; omega) HR.out w4 (Nat.le_trans HBW3.out hu4.1.size) hcs hcd (HT3.out.upd HW3.out hu4) hw4)
 clear hcs hcd hw4 hu4 HF hdl
 go_wp2_with fail
 (refine (HPT.out).mono ?_); rintro e w5 ⟨rfl, hem⟩
 have HE := Lib.hid (Emits.then HU4.out hem)
 clear hem
 go_wp2_with fail
 go_ret
 exact ⟨rfl, HE.out⟩
theorem chk_zero {kind : Int} {f : Nat → Tok} {n : Nat} {s : ByteArray} (h : chkE kind f n s = 0) : ∃ k : Nat, kind = (k : Nat) ∧ k ≤ 2 ∧ (∀ i, i < n → rightT (f i) = true) ∧ (k = 0 → s.size ≤ 65535) := by
 unfold chkE at h
 split at h
 ·cases h
 ·rename_i hk
  split at h
  ·rename_i hr
   split at h
   ·cases h
   ·rename_i h0
    obtain ⟨k, rfl⟩ := Int.eq_ofNat_of_zero_le (show 0 ≤ kind by omega)
    exact ⟨k, rfl, by omega, hr, fun e => by omega⟩
  ·cases h
/-- Put, where nothing is wrong. -/
theorem bput_any (Bw gw k : Nat) (A : Option Addr) (n cap : Nat) (f : Nat → Tok) (s : ByteArray) (last : Bool) (r : Option Nat) (P : Bs) (hn : n ≤ 100000) (hL : P.2 ≤ 80000000) (w : World) (hB : Bw ≤ w.heap.size) (hT : TokB w Bw A n f) (hw : WrB w Bw gw r P) (hc : chkE (k : Nat) f n s = 0) :
  Calls Tryz.prog 34 #[.pointer (some ⟨gw, 0, none⟩), .int .i64 (k : Nat), .slice A n cap, .string s, .bool last] w fun e w' => e = .returned (.int .i64 0) ∧ Emits w Bw gw r (blkB k f n s last P) w' := by
 obtain ⟨k', hk, hk2, hr, hs⟩ := chk_zero hc
 obtain rfl : k = k' := by omega
 match k, hk2, last with
 | 0, _, false => exact bput_00 Bw gw A n cap f s r P hn hL w hB hT hw hc hr (hs rfl)
 | 0, _, true => exact bput_01 Bw gw A n cap f s r P hn hL w hB hT hw hc hr (hs rfl)
 | 1, _, false => exact bput_10 Bw gw A n cap f s r P hn hL w hB hT hw hc hr
 | 1, _, true => exact bput_11 Bw gw A n cap f s r P hn hL w hB hT hw hc hr
 | 2, _, false => exact bput_20 Bw gw A n cap f s r P hn hL w hB hT hw hc hr
 | 2, _, true => exact bput_21 Bw gw A n cap f s r P hn hL w hB hT hw hc hr
end Go.Proofs.YtmkeicfklbepnaaGreat
