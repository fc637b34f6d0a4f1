/-
 The document's dynamic.
-/
import Derived.Test.YtmkeicfklbepnaaGreatRfM
namespace Go.Proofs.YtmkeicfklbepnaaGreat
set_option maxRecDepth 100000
set_option linter.unusedVariables false
set_option linter.unusedSimpArgs false
set_option linter.constructorNameAsVariable false
open Go.RowKit Go.Deep Go.Joins
def DynOut (w : World) (B g gr : Nat) (r : Option Nat) (s : ByteArray) (lim : Int) (ans : Ans (List Nat × List Nat)) (e : Ending) (w' : World) : Prop := match ans with
 | .ok (p, a1, o1) => ∃ r' A1 c1 A2 c2, UpR g gr r r' w w' ∧ RS w' B g gr r' s lim a1 o1 ∧ e = .returned (.tuple #[.slice A1 p.1.length c1, .slice A2 p.2.length c2]) ∧ Lens w' A1 p.1.length (fun i => p.1.getD i 0) ∧ Lens w' A2 p.2.length (fun i => p.2.getD i 0) ∧ (∀ y ∈ p.1, y ≤ 15) ∧ (∀ y ∈ p.2, y ≤ 15)
 | .error k => ∃ r', UpR g gr r r' w w' ∧ (∃ v1 v2, e = .returned (.tuple #[v1, v2])) ∧ RB w' g k
theorem DynOut.err {w w' : World} {B g gr k : Nat} {r r' : Option Nat} {s : ByteArray} {lim : Int} {ans : Ans (List Nat × List Nat)} {v1 v2 : Value} (h : ans = .error k) (hu : UpR g gr r r' w w') (hb : RB w' g k) : DynOut w B g gr r s lim ans (.returned (.tuple #[v1, v2])) w' := by
 subst h
 exact ⟨r', hu, ⟨v1, v2, rfl⟩, hb⟩
theorem mk19 (w : World) : (Instr.makeSlice 37 (.int .i64 19) (.int .i64 19)).run Tryz.prog w = .ok (.slice (some ⟨w.heap.size, 0, none⟩) 19 19) (w.alloc (.cells (rowB 19 fun _ => 0) 5)) := by
 rw [← rowB_made]
 exact run_make_row' (P := Tryz.prog) 37 5 (.int .u8 0) 1 Tryz.underlying37 (by kernel_rfl) rfl .i64 .i64 19 (by omega) (by omega) w
set_option maxHeartbeats 16000000 in
theorem rdynamic_any (B g gr a : Nat) (r : Option Nat) (s : ByteArray) (lim : Int) (o : List Nat) (hs : s.size ≤ 1000000) (w : World) (hB : B ≤ w.heap.size) (hS : RS w B g gr r s lim a o) :
  Calls Tryz.prog 23 #[.pointer (some ⟨g, 0, none⟩)] w fun e w' => DynOut w B g gr r s lim (dynLM (srcR s lim) a o) e w' := by
 obtain ⟨A, hA⟩ : ∃ A : Nat → Prop, A = fun q => dynLM (srcR s lim) a o = .error q := ⟨_, rfl⟩
 have HA := Lib.hid hA
 have HL : Hid ((srcR s lim).L = 8 * s.size) := rfl
 have HN0 : Hid ((srcR s lim).N = num s) := rfl
 have HD1 : Hid (True → 8 * s.size < a + 5 → A 3) := fun _ h => by rw [HA.out]; exact dyn_1 h
 have h0 : DS w B g gr r s lim o True A a w := .inl ⟨trivial, hS.le, r, UpR.refl _ _ _ _, hS⟩
 have H1 := Lib.hid (rnum_ds w B g gr a 5 r s lim o True A (by omega) hs HD1.out w h0)
 clear hA h0 hS HD1
 have hmk := mk19
 go_enter Tryz.func23, Tryz.ntmps23
 go_wp2_with fail
 refine H1.out.mono ?_; rintro e w1 ⟨x, rfl, hx32, hd1⟩
 have HX := Lib.hid hx32
 obtain ⟨hlit, HP1⟩ : ∃ h : Nat, Hid (257 + x = h) := ⟨_, rfl⟩
 have hw1 : IntKind.i64.wrap ((257 : Int) + ((x : Nat) : Int)) = (hlit : Int) := by rw [IntWalk.i64_in _ (by omega)]; have := HP1.out; omega
 have H2 := Lib.hid (rnum_ds w B g gr (a + 5) 5 r s lim o (True ∧ x = bitsAt (num s) a 5) A (by omega) hs (fun hp h => by rw [HA.out]; exact Classical.byCases (fun h1 : a + 5 ≤ 8 * s.size => dyn_2 h1 h) (fun h1 => dyn_1 (show 8 * s.size < a + 5 by omega))) w1 hd1)
 clear hx32 hd1 H1
 go_wp2_with fail
 refine H2.out.mono ?_; rintro e w2 ⟨y, rfl, hy32, hd2⟩
 have HY := Lib.hid hy32
 obtain ⟨hdist, HP2⟩ : ∃ h : Nat, Hid (1 + y = h) := ⟨_, rfl⟩
 have hw2 : IntKind.i64.wrap ((1 : Int) + ((y : Nat) : Int)) = (hdist : Int) := by rw [IntWalk.i64_in _ (by omega)]; have := HP2.out; omega
 have H3 := Lib.hid (rnum_ds w B g gr (a + 5 + 5) 4 r s lim o ((True ∧ x = bitsAt (num s) a 5) ∧ y = bitsAt (num s) (a + 5) 5) A (by omega) hs (fun hp h => by
  rw [HA.out]
  by_cases h1 : a + 5 ≤ 8 * s.size
  ·by_cases h2 : a + 5 + 5 ≤ 8 * s.size
   ·exact dyn_3 h2 h
   ·exact dyn_2 h1 (show 8 * s.size < _ by omega)
  ·exact dyn_1 (show 8 * s.size < _ by omega)) w2 hd2)
 clear hy32 hd2 H2
 go_wp2_with fail
 refine H3.out.mono ?_; rintro e w3 ⟨z, rfl, hz16, hd3⟩
 have HZ := Lib.hid hz16
 obtain ⟨hclen, HP3⟩ : ∃ h : Nat, Hid (4 + z = h) := ⟨_, rfl⟩
 have hw3 : IntKind.i64.wrap ((4 : Int) + ((z : Nat) : Int)) = (hclen : Int) := by rw [IntWalk.i64_in _ (by omega)]; have := HP3.out; omega
 have HD3 := Lib.hid hd3
 clear H3 hd3 hz16
 go_upto_region 4 with fail
 have HX4 : Hid (x < 32 ∧ y < 32 ∧ z < 16) := ⟨HX.out, HY.out, HZ.out⟩
 clear HX HY HZ
 clear hw1 hw2 hw3
 go_cut [39] from 27 to 39 (fun v wx => (∃ F : Bool, v = .bool F ∧ (F = true → (∃ r', UpR g gr r r' w wx ∧ RS wx B g gr r' s lim (a + 5 + 5 + 4) o) ∧ A 10) ∧ (F = false → DS w B g gr r s lim o ((((True ∧ x = bitsAt (num s) a 5) ∧ y = bitsAt (num s) (a + 5) 5) ∧ z = bitsAt (num s) (a + 5 + 5) 4) ∧ hlit ≤ 286 ∧ hdist ≤ 30) A (a + 5 + 5 + 4) wx)) ∧ wx = w3)
 case first =>
  rcases HD3.out with ⟨hp, hb, r', hu, hS⟩ | ⟨q, hq, r', hu, hBd⟩
  ·obtain ⟨v, hb4, _⟩ := hS.blk
   unfold stC at hb4
   have c3 := (cell_of_row _ g 3 _ _ _ hb4).trans (show _ = some (Value.int .i64 0) from rfl)
   have HS4 := Lib.hid hS
   have HU4 := Lib.hid hu
   have HPP := Lib.hid hp
   have HBL := Lib.hid hb
   have HDY : Hid (286 < hlit ∨ 30 < hdist → A 10) := fun h => by
    rw [HA.out]
    show dynLM (srcR s lim) a o = _
    rw [dyn_4 (x := x) (y := y) (z := z) hb HPP.out.1.1.2 HPP.out.1.2 HPP.out.2, if_pos (by rw [HP1.out, HP2.out]; exact h)]
    rfl
   clear hb4 hS hu hp hb
   by_cases h1 : 286 < hlit
   ·have d1 : decide ((286 : Int) < (hlit : Int)) = true := decide_eq_true (by omega)
    go_wp2_with fail
    go_meet
    case rel => exact ⟨⟨true, rfl, fun _ => ⟨⟨r', HU4.out, HS4.out⟩, HDY.out (.inl h1)⟩, fun h => by cases h⟩, rfl⟩
   ·have d1 : decide ((286 : Int) < (hlit : Int)) = false := decide_eq_false (by omega)
    by_cases h2 : 30 < hdist
    ·have d2 : decide ((30 : Int) < (hdist : Int)) = true := decide_eq_true (by omega)
     go_wp2_with fail
     go_meet
     case rel => exact ⟨⟨true, rfl, fun _ => ⟨⟨r', HU4.out, HS4.out⟩, HDY.out (.inr h2)⟩, fun h => by cases h⟩, rfl⟩
    ·have d2 : decide ((30 : Int) < (hdist : Int)) = false := decide_eq_false (by omega)
     go_wp2_with fail
     go_meet
     case rel => exact ⟨⟨false, rfl, (fun h => by cases h), fun _ => .inl ⟨⟨HPP.out, by omega, by omega⟩, HBL.out, r', HU4.out, HS4.out⟩⟩, rfl⟩
  ·obtain ⟨gr', v, l, hb4, hq0, h9⟩ := hBd
   have HBD : Hid (RB w3 g q) := ⟨gr', v, l, hb4, hq0, h9⟩
   unfold stC at hb4
   have c3 := (cell_of_row _ g 3 _ _ _ hb4).trans (show _ = some (Value.int .i64 (q : Nat)) from rfl)
   have hq2 : (((q : Nat) : Int) == 0) = false := by rw [beq_eq_false_iff_ne]; omega
   have HU4 := Lib.hid hu
   have HQ := Lib.hid hq
   clear hb4 hu hq
   go_wp2_with fail
   go_meet
   case rel => exact ⟨⟨false, rfl, (fun h => by cases h), fun _ => .inr ⟨q, HQ.out, r', HU4.out, HBD.out⟩⟩, rfl⟩
 case rest =>
  obtain ⟨⟨F, rfl, hF1, hF2⟩, rfl⟩ := hcut
  have HF1 := Lib.hid hF1
  have HF2 := Lib.hid hF2
  clear hF1 hF2 HD3
  go_upto_if 39 with fail
  go_cut [40] from 40 to 41 (fun v wx => Hid (DS w B g gr r s lim o ((((True ∧ x = bitsAt (num s) a 5) ∧ y = bitsAt (num s) (a + 5) 5) ∧ z = bitsAt (num s) (a + 5 + 5) 4) ∧ hlit ≤ 286 ∧ hdist ≤ 30) A (a + 5 + 5 + 4) wx))
  case first =>
   cases F with
   | false =>
    go_wp2_with fail
    go_meet
    case rel => first | exact HF2.out rfl | exact HF2.out trivial
   | true =>
    obtain ⟨⟨r', hu, hS⟩, h10⟩ := HF1.out rfl
    obtain ⟨v, hb4, _⟩ := hS.blk
    have HF := Lib.hid (rfail_ok g gr v lim 10 _ hb4)
    have HDS : Hid (DS w B g gr r s lim o ((((True ∧ x = bitsAt (num s) a 5) ∧ y = bitsAt (num s) (a + 5) 5) ∧ z = bitsAt (num s) (a + 5 + 5) 4) ∧ hlit ≤ 286 ∧ hdist ≤ 30) A (a + 5 + 5 + 4) (wc.setCell ⟨g, 3, none⟩ (.int .i64 10))) := .inr ⟨10, h10, r', hu.then (upr_set wc 3 _), rb_set 10 (by decide) (by decide) hb4⟩
    clear hb4 hS hu h10
    go_wp2_with fail
    refine HF.out.mono ?_; rintro e wz ⟨rfl, rfl⟩
    go_wp2_with fail
    go_meet
    case rel => exact HDS.out
  case rest =>
   obtain ⟨PP, HPP, HDS⟩ : ∃ PP : Prop, Hid (PP → ((((True ∧ x = bitsAt (num s) a 5) ∧ y = bitsAt (num s) (a + 5) 5) ∧ z = bitsAt (num s) (a + 5 + 5) 4) ∧ hlit ≤ 286 ∧ hdist ≤ 30) ∧ a + 5 + 5 + 4 ≤ 8 * s.size) ∧ Hid (DS w B g gr r s lim o PP A (a + 5 + 5 + 4) wc) := by
    refine ⟨_, fun h => h, ?_⟩
    rcases hcut.out with ⟨h1, h2, h3⟩ | h
    ·exact .inl ⟨⟨h1, h2⟩, h2, h3⟩
    ·exact .inr h
   have HDYN : Hid (PP → dynLM (srcR s lim) a o = bindM (outerM hclen) (fun c => bindM (rowM c (hlit + hdist)) fun l => if l.getD 256 0 = 0 then failM 10 else retM (l.take hlit, l.drop hlit)) (srcR s lim) (a + 5 + 5 + 4) o) := fun hp => by
    obtain ⟨⟨⟨⟨⟨_, e1⟩, e2⟩, e3⟩, e4, e5⟩, e6⟩ := HPP.out hp
    rw [dyn_4 (x := x) (y := y) (z := z) e6 e1 e2 e3, if_neg (by rw [HP1.out, HP2.out]; omega), HP1.out, HP2.out, HP3.out]
   have HHC : Hid (hclen ≤ 19) := by have h1 := HP3.out; have h2 := HX4.out; show _ ≤ _; omega
   generalize a + 5 + 5 + 4 = b at *
   have HA3 : Hid (∀ k, k < hclen → PP → 8 * s.size < b + 3 * (k + 1) → A 3) := fun k hk hp h => by
    rw [HA.out]
    show dynLM (srcR s lim) a o = _
    rw [HDYN.out hp]
    refine bindR_err (bindR_err ?_)
    rw [threes_eq (srcR s lim) b o hclen (HPP.out hp).2, if_neg (show ¬ b + 3 * hclen ≤ (srcR s lim).L from fun h9 => by have h8 : b + 3 * hclen ≤ 8 * s.size := h9; omega)]
   clear hcut HF1 HF2
   have hs1 : (wc.alloc (.cells ordW 3)).heap.size = wc.heap.size + 1 := by simp
   have hb1 : Below wc.heap.size wc (wc.alloc (.cells ordW 3)) := (Below.refl _ _).alloc (Nat.le_refl _) _
   have hb2 : Below wc.heap.size wc ((wc.alloc (.cells ordW 3)).alloc (.cells (rowB 19 fun _ => 0) 5)) := hb1.alloc hb1.size _
   have hy1 : ((wc.alloc (.cells ordW 3)).alloc (.cells (rowB 19 fun _ => 0) 5)).heap[wc.heap.size]? = some (.cells ordW 3 (0, 0)) := (Below.heap_alloc _ _ wc.heap.size (by rw [hs1]; omega)).trans (heap_alloc_new wc _)
   have hy2 := heap_alloc_new (wc.alloc (.cells ordW 3)) (.cells (rowB 19 fun _ => 0) 5)
   rw [hs1] at hy2
   have HW0 : Hid (w.heap.size ≤ wc.heap.size) := by
    rcases HDS.out with ⟨_, _, r', hu, _⟩ | ⟨_, _, r', hu, _⟩
    ·exact hu.1.size
    ·exact hu.1.size
   have HDL : Hid (DL w B g gr r s lim o (wc.heap.size + 1) wc.heap.size PP A b 0 ((wc.alloc (.cells ordW 3)).alloc (.cells (rowB 19 fun _ => 0) 5))) := by
    refine ⟨hy1, ?_⟩
    have hup : ∀ r', UpR g gr r' r' wc ((wc.alloc (.cells ordW 3)).alloc (.cells (rowB 19 fun _ => 0) 5)) := fun r' => upr_below hb2
    rcases HDS.out with ⟨hp, hb, r', hu, hS⟩ | ⟨q, hq, r', hu, hBd⟩
    ·refine .inl ⟨hp, by omega, ⟨r', ?_, hu.then (hup r'), hS.below hb2⟩, IsRowB.ext hy2 fun i _ => rfl⟩
     intro e
     obtain ⟨v, _, how, hv⟩ := hS.blk
     have := own_lt how (hv.trans e)
     omega
    ·exact .inr ⟨q, hq, ⟨r', hu.then (hup r'), hBd.below hb2⟩, _, hy2⟩
   clear hs1 hb1 hb2 hy1 hy2 HDS
   have HGO : Hid (wc.heap.size = wc.heap.size) := rfl
   go_wp2_with fail
   change Code.wp _ _ _ _ ((wc.alloc (.cells ordW 3)).alloc (.cells (rowB 19 fun _ => 0) 5))
   generalize (wc.alloc (.cells ordW 3)).alloc (.cells (rowB 19 fun _ => 0) 5) = w5 at *
   obtain ⟨go, hgo⟩ : ∃ n, n = wc.heap.size := ⟨_, rfl⟩
   rw [← hgo] at HDL HW0 ⊢
   clear hgo HGO
   go_loopw [9] (fun v9 wr => ∃ k : Nat, v9 = .int .i64 (k : Nat) ∧ k ≤ hclen ∧ Hid (DL w B g gr r s lim o (go + 1) go PP A b k wr)) (fun v _ => hclen - (intOf v).toNat)
   case atStart => exact ⟨0, rfl, Nat.zero_le _, HDL.out⟩
   case round =>
    obtain ⟨k, rfl, hk, HK⟩ := hrel
    by_cases hlt : k < hclen
    ·have hd : decide ((k : Int) < (hclen : Int)) = true := decide_eq_true (by omega)
     have hk19 : k < 19 := by have := HHC.out; omega
     have k0 : wr.cell? ⟨go, k, none⟩ = some (.int .i64 (orderL.getD k 0 : Nat)) := by rw [cell_of_row wr go k _ _ _ HK.out.1]; exact ord_at k hk19
     have HIN := Lib.hid (rnum_dl w B g gr b k r s lim o (go + 1) go PP A hs (HA3.out k hlt) wr HK.out)
     have HIND := Lib.hid (rnum_dl w B g gr b k r s lim o (go + 1) go PP A hs (HA3.out k hlt) wr.drew HK.out.drew)
     have hx19 := ord_lt k hk19
     have HPUT : Hid (∀ (wx : World) (v : Nat), DI w B g gr r s lim o (go + 1) go PP A b k v wx → DL w B g gr r s lim o (go + 1) go PP A b (k + 1) (wx.setCell ⟨go + 1, orderL.getD k 0, none⟩ (.int .u8 (v : Nat)))) := fun wx v h => h.put hk19 (Nat.le_succ_of_le HW0.out) (by omega)
     have HCX : Hid (∀ (wx : World) (v : Nat), DI w B g gr r s lim o (go + 1) go PP A b k v wx → wx.cell? ⟨go, k, none⟩ = some (.int .i64 (orderL.getD k 0 : Nat))) := fun wx v h => by rw [cell_of_row wx go k _ _ _ h.1]; exact ord_at k hk19
     have HORD : Hid (ordW[k]? = some (.int .i64 (orderL.getD k 0 : Nat))) := ord_at k hk19
     generalize orderL.getD k 0 = xo at *
     have hx19i : (xo : Int) < 19 := by omega
     have hk19i : (k : Int) < 19 := by omega
     go_upto_region 11 with fail
     go_region_held3 (fun w' => w'.cell? ⟨go, k, none⟩ = some (.int .i64 (xo : Nat))) (first | exact k0 | exact k1 | exact k2) ((go_at_call 17; (with_reducible refine (HIND.out).mono ?_); rintro e w6 ⟨v, rfl, hv8, hin⟩; have k1 := HCX.out _ _ hin; have k2 := (cell_of_row _ go k _ _ _ (HPUT.out _ _ hin).1).trans HORD.out; obtain ⟨f6, hf6⟩ := hin.row; have kc := hf6.cell xo hx19; have kf := hf6.frozen xo; have hvw : IntKind.u8.wrap (v : Int) = (v : Int) := (by rw [IntKind.wrap_u8]; omega)))
     have HIN6 := Lib.hid (HPUT.out _ _ hin)
     clear hin
     go_wp2_with fail
     go_roundw
     case rel => exact ⟨k + 1, by go_num, by omega, HIN6.out⟩
     case measure => simp [intOf]; omega
    ·obtain rfl : k = hclen := by omega
     have hdn : decide ((k : Int) < (k : Int)) = false := decide_eq_false (by omega)
     rcases HK.out.2 with ⟨hp, hbk, ⟨r', hne, hu, hS⟩, hRow⟩ | ⟨q, hq, ⟨r', hu, hBd⟩, _⟩
     ·have HTH : Hid (threesM k (srcR s lim) b o = .ok (t3 (num s) b k, b + 3 * k, o)) := (threes_eq (srcR s lim) b o k (HPP.out hp).2).trans (if_pos (show b + 3 * k ≤ 8 * s.size from hbk))
      have hlt8 := fun i (_ : i < 19) => outer_lt (t3 (num s) b k) (t3_lt (num s) b k) i
      have hL : Lens wr (some ⟨go + 1, 0, none⟩) 19 (outerC (t3 (num s) b k)).ls := hRow.lens (fun i hi => by have := hlt8 i hi; omega)
      have h15 : ∀ i, i < 19 → (outerC (t3 (num s) b k)).ls i ≤ 15 := fun i hi => by have := hlt8 i hi; omega
      have HN := Lib.hid (rnew_may (some ⟨go + 1, 0, none⟩) 19 19 false (outerC (t3 (num s) b k)).ls (by omega) wr hL h15)
      have HOU : Hid (outerM k (srcR s lim) b o = bindM (makeM (outerC (t3 (num s) b k)) false) (fun _ => retM (outerC (t3 (num s) b k))) (srcR s lim) (b + 3 * k) o) := bind_ok HTH.out
      have HDY := Lib.hid (HDYN.out hp)
      have H15 := Lib.hid h15
      have HCE : Hid (outerC (t3 (num s) b k) = ⟨19, (outerC (t3 (num s) b k)).ls⟩) := rfl
      obtain ⟨v, hb4, _⟩ := hS.blk
      have HSr := Lib.hid hS
      have HUr := Lib.hid hu
      have HHL := Lib.hid (HPP.out hp).1.2
      unfold stC at hb4
      have c3 := (cell_of_row _ g 3 _ _ _ hb4).trans (show _ = some (Value.int .i64 0) from rfl)
      generalize (outerC (t3 (num s) b k)).ls = ls at *
      rw [HCE.out] at HOU
      clear hL h15 hlt8 HTH hRow hb4 hS hu hne hp HK HA3 HDL HPP HDYN HCE hmk HX4 hbk
      go_wp2_with fail
      refine (HN.out).mono ?_; rintro e w6 ⟨hb6, hcase⟩
      have HU6 := Lib.hid (HUr.out.then (upr_below (g := g) (gr := gr) (r := r') hb6))
      have HS6 := Lib.hid (HSr.out.below hb6)
      rcases hcase with ⟨hm, rfl, hr6⟩ | ⟨hm, rfl⟩
      ·have HRW := Lib.hid (rmake_cd wr.heap.size 19 19 ls false (by omega) H15.out hm w6 hr6)
       have HOK : Hid (outerM k (srcR s lim) b o = .ok (⟨19, ls⟩, b + 3 * k, o)) := HOU.out.trans (bind_ok (show makeM _ _ _ _ _ = .ok ((), b + 3 * k, o) from by unfold makeM; rw [if_pos hm]; rfl))
       clear hb6 hr6 hm HN HOU
       go_wp2_with fail
       refine (HRW.out).mono ?_; rintro e w7 ⟨X, rfl, hx1, hcd, hb7⟩
       have HU7 := Lib.hid (HU6.out.then (upr_below (g := g) (gr := gr) (r := r') hb7))
       have HS7 := Lib.hid (HS6.out.below hb7)
       have HCD7 := Lib.hid hcd
       have hip : (Tryz.prog.info? 70).map (·.size) = some 1 := by kernel_rfl
       obtain ⟨A9, n9, c9, rfl⟩ := HCD7.out.form
       clear HRW hb7 hcd
       go_wp2_with fail
       have hbt : Below w7.heap.size w7 (w7.alloc (.cells #[.slice A9 n9 c9] 70)) := (Below.refl _ _).alloc (Nat.le_refl _) _
       have HT : Hid ((w7.alloc (.cells #[.slice A9 n9 c9] 70)).heap[w7.heap.size]? = some (.cells #[.slice A9 n9 c9] 70 (0, 0))) := heap_alloc_new w7 _
       have HU8 := Lib.hid (HU7.out.then (upr_below (g := g) (gr := gr) (r := r') hbt))
       have HS8 := Lib.hid (HS7.out.below hbt)
       have HCD8 := Lib.hid (HCD7.out.below hbt)
       clear hbt HU7 HS7 HCD7 HU6 HS6 HUr HSr c3 hip
       generalize w7.heap.size = gt at *
       generalize w7.alloc (.cells #[.slice A9 n9 c9] 70) = w8 at *
       obtain ⟨many, HMY⟩ : ∃ m : Nat, Hid (hlit + hdist = m) := ⟨_, rfl⟩
       have HRD : Hid (dynLM (srcR s lim) a o = bindM (rowM ⟨19, ls⟩ many) (fun l => if l.getD 256 0 = 0 then failM 10 else retM (l.take hlit, l.drop hlit)) (srcR s lim) (b + 3 * k) o) := by
        show dynLM (srcR s lim) a o = _
        rw [HDY.out, HMY.out]
        exact bindR_ok HOK.out
       have HMB : Hid (many ≤ 316 ∧ hlit ≤ 286 ∧ 257 ≤ hlit ∧ 1 ≤ hdist) := by
        have h1 := HHL.out; have h2 := HMY.out; have h3 := HP1.out; have h4 := HP2.out
        refine ⟨?_, ?_, ?_, ?_⟩ <;> omega
       have HG8 : Hid (g < w8.heap.size ∧ gr < w8.heap.size) := by
        obtain ⟨u8, hb8, _⟩ := HS8.out.blk
        exact ⟨lt_of_block hb8, HS8.out.rd.lt⟩
       have HBW8 : Hid (B ≤ w8.heap.size) := Nat.le_trans hB HU8.out.1.size
       clear HDY HOK HHL H15
       generalize hb2 : b + 3 * k = b2 at *
       clear hb2
       go_loopw [13, 14, 15, 16, 17] (fun v13 _ _ _ _ wr => ∃ Ar n cp, v13 = .slice Ar n cp ∧ n ≤ 1000 ∧ Hid ((∃ row a1, row.length = n ∧ n ≤ many ∧ wr.ownsRow w8.heap.size 5 1 (.slice Ar n cp) n (cells8 row) ∧ (∀ y ∈ row, y ≤ 15) ∧ SX w8 B g gr r' s lim o (.slice Ar n cp) none a1 wr ∧ ∀ ans, Runs (rowStep ⟨19, ls⟩ many) (srcR s lim) row a1 o ans → Runs (rowStep ⟨19, ls⟩ many) (srcR s lim) [] b2 o ans) ∨ (∃ q, dynLM (srcR s lim) a o = .error q ∧ SX w8 B g gr r' s lim o (.slice Ar n cp) (some q) 0 wr))) (fun _ _ _ _ _ wr => msB g gr s wr)
       case atStart => exact ⟨none, 0, 0, rfl, by omega, .inl ⟨[], b2, rfl, Nat.zero_le _, World.ownsRow_nil _ _ _ _, (fun y hy => by cases hy), ⟨r', (fun k hk e => by simp [Value.ownBlock] at e), UpR.refl _ _ _ _, HS8.out⟩, fun _ h => h⟩⟩
       case round =>
        obtain ⟨Ar, n, cp, rfl, hn1000, HR⟩ := hrel
        have hwm : IntKind.i64.wrap ((hlit : Int) + (hdist : Int)) = (many : Int) := by have := HMY.out; have := HMB.out; rw [IntWalk.i64_in _ (by omega)]; omega
        rcases HR.out with ⟨row, a1, hlen, hnm, how, h15, hsx, hru⟩ | ⟨q, hq, hsx⟩
        ·have c3 := hsx.cell.1
         by_cases hlt : n < many
         ·have hd : decide ((n : Int) < (many : Int)) = true := decide_eq_true (by omega)
          obtain ⟨r2, hap, hu2, hS2⟩ := hsx
          have k12 := (cell_of_row _ _ 0 _ _ _ (hu2.cells HS8.out HT.out (by decide) (by decide) (by decide))).trans (show _ = some (Value.slice A9 n9 c9) from rfl)
          have HSG := Lib.hid (rsign_cd B g gr a1 r2 s lim o ⟨19, ls⟩ (.slice A9 n9 c9) hs wr (Nat.le_trans HBW8.out hu2.1.size) hS2 (HCD8.out.up HS8.out hu2))
          have HMS := Lib.hid (msB_good hS2)
          have HAP := Lib.hid hap
          have HU2 := Lib.hid hu2
          have HS2 := Lib.hid hS2
          have HRU := Lib.hid hru
          have HOW := Lib.hid how
          have HLN := Lib.hid hlen
          have H15 := Lib.hid h15
          have HST : Hid (rowStep ⟨19, ls⟩ many row (srcR s lim) a1 o = bindM (signM ⟨19, ls⟩) (fun x => bindM (runM x row) fun p => retM (.inl (row ++ List.replicate p.2 p.1))) (srcR s lim) a1 o) := by
           show rowStep ⟨19, ls⟩ many row (srcR s lim) a1 o = _
           unfold rowStep
           rw [if_pos (by omega)]
          have HER : Hid (∀ q, Runs (rowStep ⟨19, ls⟩ many) (srcR s lim) [] b2 o (.error q) → dynLM (srcR s lim) a o = .error q) := fun q h => HRD.out.trans (bindR_err (loop_of h))
          change wr.cell? ⟨g, 3, none⟩ = some (.int .i64 0) at c3
          clear hap hu2 hS2 hru how hlen h15 HR
          go_wp2_with fail
          refine (HSG.out).mono ?_; rintro e w9 hout
          clear c3 k12 HSG
          cases hsg : signM ⟨19, ls⟩ (srcR s lim) a1 o with
          | error q =>
           rw [hsg] at hout
           obtain ⟨r3, hu3, rfl, hbad⟩ := hout
           have HE := Lib.hid (HER.out q (HRU.out _ (.err (HST.out.trans (bindR_err hsg)))))
           have HU3 := Lib.hid (HU2.out.then hu3)
           have HBD := Lib.hid hbad
           obtain ⟨gr', v, lim', hb, hk0, hk1⟩ := hbad
           unfold stC at hb
           have c3 := (cell_of_row _ g 3 _ _ _ hb).trans (show _ = some (Value.int .i64 (q : Nat)) from rfl)
           have hk2 : (((q : Nat) : Int) != 0) = true := by rw [bne_iff_ne]; omega
           clear hb hu3 hsg
           go_wp2_with fail
           go_ret2
           exact DynOut.err HE.out (HU8.out.then HU3.out) HBD.out
          | ok p =>
           obtain ⟨x9, a2, o9⟩ := p
           rw [hsg] at hout
           obtain ⟨r3, hu3, rfl, hS3⟩ := hout
           obtain ⟨sl, hsl1, rfl, hsl2, hsl3, hsl4, hsl5⟩ := sign_ok ⟨19, ls⟩ (srcR s lim) a1 o x9 a2 o9 hsg
           have hx19 : x9 < 19 := srch_ltR _ _ _ _ _ _ hsl5
           have hlt12 : a1 < a2 := by omega
           have HSX : Hid (SX w8 B g gr r' s lim o9 (.slice Ar n cp) none a2 w9) := ⟨r3, up_apart HOW.out hu3 HAP.out, HU2.out.then hu3, hS3⟩
           have HOW9 := Lib.hid (own_up HOW.out hu3 HG8.out.1 HG8.out.2 HAP.out)
           have HSG := Lib.hid hsg
           have c3 := HSX.out.cell.1
           change w9.cell? ⟨g, 3, none⟩ = some (.int .i64 0) at c3
           clear hu3 hS3 hsg hsl1 hsl2 hsl3 hsl4 hsl5
           have HA2 : Hid (a2 ≤ 8 * s.size) := HSX.out.elim (fun _ h => h.2.2.le)
           obtain ⟨y0, HY0⟩ : ∃ y : Nat, Hid (y = if x9 < 16 then x9 else 0) := ⟨_, rfl⟩
           go_upto_if 96 with fail
           go_cut [15] from 74 to 150 (fun v wx => v = .int .u8 (y0 : Nat) ∧ wx = w9)
           case first =>
            by_cases h16 : x9 < 16
            ·have d16 : decide ((x9 : Int) < 16) = true := decide_eq_true (by omega)
             have hw8 : IntKind.u8.wrap (x9 : Int) = (x9 : Int) := by rw [IntKind.wrap_u8]; omega
             obtain rfl : y0 = x9 := by rw [HY0.out, if_pos h16]
             clear HRD HST HER HRU HSG HMS HAP HU2 HS2 HOW HLN H15 HSX HOW9 HA2 HY0 HMB HG8 HBW8 HCD8 HS8 HU8 HT hx19 hlt12 hwm hnm
             go_wp2_with fail
             go_meet
             case rel => exact ⟨rfl, rfl⟩
            ·have d16 : decide ((x9 : Int) < 16) = false := decide_eq_false (by omega)
             have HY9 : Hid (y0 = 0) := by show y0 = 0; rw [HY0.out, if_neg h16]
             clear HRD HST HER HRU HSG HMS HAP HU2 HS2 HOW HLN H15 HSX HOW9 HA2 HY0 HMB HG8 HBW8 HCD8 HS8 HU8 HT hx19 hlt12 hwm hnm
             go_wp2_with fail
             go_meet
             case rel => exact ⟨by rw [HY9.out]; rfl, rfl⟩
           case rest =>
            obtain ⟨rfl, hwc⟩ := hcut
            have hwc := hwc.symm
            subst hwc
            go_upto_if 100 with fail
            go_cut [15, 16] from 74 to 150 (fun v15 v16 wx => ∃ y t : Nat, v15 = .int .u8 (y : Nat) ∧ v16 = .int .i64 (t : Nat) ∧ ((x9 = 16 ∧ Hid (RunO w8 B g gr w8.heap.size a2 n x9 r' s lim o9 row (.slice Ar n cp) y t wx)) ∨ (¬ (x9 = 16) ∧ y = y0 ∧ t = 1 ∧ wx = w9)))
            case first =>
             by_cases h16 : x9 = 16
             ·have d16 : (((x9 : Nat) : Int) == 16) = true := by rw [beq_iff_eq]; omega
              by_cases hn0 : n = 0
              ·have dn0 : (((n : Nat) : Int) == 0) = true := by rw [beq_iff_eq]; omega
               have HF := Lib.hid (rfail_sx w8 B g gr w8.heap.size a2 n 10 r' s lim o9 (.slice Ar n cp) (cells8 row) (by decide) (by decide) w9 HOW9.out HG8.out.1 HSX.out)
               have HE := Lib.hid (HER.out 10 (HRU.out _ (.err (HST.out.trans ((bindR_ok HSG.out).trans (bindR_err (show runM x9 row (srcR s lim) a2 o9 = .error 10 from by unfold runM; rw [if_pos ⟨h16, HLN.out.trans hn0⟩]; rfl)))))))
               have H16 := Lib.hid h16
               have HN0 := Lib.hid hn0
               clear h16 hn0
               clear HSX HSG HA2
               go_wp2_with fail
               refine (HF.out).mono ?_; rintro e wz ⟨rfl, _, hsz⟩
               have HSZ := Lib.hid hsz
               clear hsz HF
               go_wp2_with fail
               go_ret2
               obtain ⟨rr, h1, h2⟩ := HSZ.out
               exact DynOut.err HE.out (HU8.out.then h1) h2
              ·have dn0 : (((n : Nat) : Int) == 0) = false := by rw [beq_eq_false_iff_ne]; omega
               have HX16 : Hid (¬ (row.length = 0)) := by have := HLN.out; show ¬ _; omega
               obtain ⟨gq, cap, hv, hgq, hgl, hcs⟩ := own_form8 HOW9.out (by omega)
               injection hv with e1 _ e3
               subst e1
               subst e3
               have kl := hcs (n - 1) _ (cells8_get row (n - 1) (by have := HLN.out; omega))
               have HY15 : Hid (row.getD (n - 1) 0 ≤ 15) := by
                show _ ≤ _
                rw [List.getD_eq_getElem?_getD]
                cases hg : row[n - 1]? with
                | none => simp
                | some y => exact H15.out y (List.mem_of_getElem? hg)
               have HROW : Hid (runOf x9 row = (row.getD (n - 1) 0, 3, 2)) := by
                show runOf x9 row = _
                unfold runOf
                rw [if_pos h16, HLN.out]
               have hwn : IntKind.i64.wrap ((n : Int) - 1) = ((n - 1 : Nat) : Int) := by rw [IntWalk.i64_in _ (by omega)]; omega
               obtain ⟨n1, hn1⟩ : ∃ q, q = n - 1 := ⟨_, rfl⟩
               rw [← hn1] at kl HY15 HROW hwn
               have hn1i : (n1 : Int) < n := by omega
               have H16 := Lib.hid h16
               clear hn1 hcs h16 hgl
               generalize row.getD n1 0 = yl at *
               have hy15 := HY15.out
               have HNU := Lib.hid (rnum_sx w8 B g gr w8.heap.size a2 n 2 r' s lim o9 (.slice (some ⟨gq, 0, none⟩) n cp) (cells8 row) (by omega) hs w9 HOW9.out HG8.out.1 HG8.out.2 HSX.out)
               clear HSX HSG HA2
               go_wp2_with fail
               refine (HNU.out).mono ?_; rintro e wn ⟨v0, rfl, hv0, hown, hcs⟩
               have hwl : IntKind.i64.wrap ((3 : Int) + ((v0 : Nat) : Int)) = ((3 + v0 : Nat) : Int) := by rw [IntWalk.i64_in _ (by omega)]; omega
               have HRO : Hid (RunO w8 B g gr w8.heap.size a2 n x9 r' s lim o9 row (.slice (some ⟨gq, 0, none⟩) n cp) yl (3 + v0) wn) := runO_num (low := 3) (m := 2) (HROW.out) (fun h => HX16.out h.2) (by omega) (by omega) (by omega) hv0 hown hcs
               obtain ⟨tt, htt⟩ : ∃ q, q = 3 + v0 := ⟨_, rfl⟩
               rw [← htt] at hwl HRO
               clear htt hown hcs HNU hv0
               go_wp2_with fail
               go_meet
               case rel => exact ⟨yl, tt, rfl, rfl, .inl ⟨H16.out, HRO⟩⟩
             ·have d16 : (((x9 : Nat) : Int) == 16) = false := by rw [beq_eq_false_iff_ne]; omega
              have H16 := Lib.hid h16
              clear h16
              clear HSX HSG HA2
              go_wp2_with fail
              go_meet
              case rel => exact ⟨y0, 1, rfl, rfl, .inr ⟨H16.out, rfl, rfl, rfl⟩⟩
            case rest =>
             obtain ⟨y16, t16, rfl, rfl, hrr⟩ := hcut
             have HRR := Lib.hid hrr
             clear hrr
             go_upto_if 116 with fail
             go_cut [15, 16] from 74 to 150 (fun v15 v16 wx => ∃ y t : Nat, v15 = .int .u8 (y : Nat) ∧ v16 = .int .i64 (t : Nat) ∧ (((x9 = 16 ∨ x9 = 17) ∧ Hid (RunO w8 B g gr w8.heap.size a2 n x9 r' s lim o9 row (.slice Ar n cp) y t wx)) ∨ (¬ (x9 = 16 ∨ x9 = 17) ∧ y = y0 ∧ t = 1 ∧ wx = w9)))
             case first =>
              by_cases h17 : x9 = 17
              ·have d17 : (((x9 : Nat) : Int) == 17) = true := by rw [beq_iff_eq]; omega
               rcases HRR.out with ⟨h, _⟩ | ⟨_, rfl, rfl, hwx⟩
               ·omega
               ·subst hwx
                have HX16 : Hid (x9 ≠ 16) := by show _ ≠ _; omega
                obtain rfl : y16 = 0 := by rw [HY0.out, if_neg (by omega)]
                have HROW : Hid (runOf x9 row = (0, 3, 3)) := by
                 show runOf x9 row = _
                 unfold runOf
                 rw [if_neg (by omega), if_pos h17]
                have H17 := Lib.hid h17
                clear h17
                have HNU := Lib.hid (rnum_sx w8 B g gr w8.heap.size a2 n 3 r' s lim o9 (.slice Ar n cp) (cells8 row) (by omega) hs _ HOW9.out HG8.out.1 HG8.out.2 HSX.out)
                clear HSX HSG HA2
                go_wp2_with fail
                refine (HNU.out).mono ?_; rintro e wn ⟨v0, rfl, hv0, hown, hcs⟩
                have hwl : IntKind.i64.wrap ((3 : Int) + ((v0 : Nat) : Int)) = ((3 + v0 : Nat) : Int) := by rw [IntWalk.i64_in _ (by omega)]; omega
                have HRO : Hid (RunO w8 B g gr w8.heap.size a2 n x9 r' s lim o9 row (.slice Ar n cp) 0 (3 + v0) wn) := runO_num (low := 3) (m := 3) (HROW.out) (fun h => by have := HX16.out; omega) (by omega) (by omega) (by omega) hv0 hown hcs
                obtain ⟨tt, htt⟩ : ∃ q, q = 3 + v0 := ⟨_, rfl⟩
                rw [← htt] at hwl HRO
                clear htt hown hcs HNU hv0
                go_wp2_with fail
                go_meet
                case rel => exact ⟨0, tt, rfl, rfl, .inl ⟨.inr H17.out, HRO⟩⟩
              ·have d17 : (((x9 : Nat) : Int) == 17) = false := by rw [beq_eq_false_iff_ne]; omega
               have H17 := Lib.hid h17
               clear h17
               clear HSX HSG HA2
               go_wp2_with fail
               go_meet
               case rel =>
                rcases HRR.out with ⟨h, h2⟩ | ⟨h, h2, h3, h4⟩
                ·exact ⟨y16, t16, rfl, rfl, .inl ⟨.inl h, h2⟩⟩
                ·exact ⟨y16, t16, rfl, rfl, .inr ⟨fun hh => hh.elim h H17.out, h2, h3, h4⟩⟩
             case rest =>
              obtain ⟨y17, t17, rfl, rfl, hrr⟩ := hcut
              clear HRR
              have HRR := Lib.hid hrr
              clear hrr
              go_upto_if 121 with fail
              go_cut [15, 16] from 74 to 150 (fun v15 v16 wx => ∃ y t : Nat, v15 = .int .u8 (y : Nat) ∧ v16 = .int .i64 (t : Nat) ∧ (((x9 = 16 ∨ x9 = 17 ∨ x9 = 18) ∧ Hid (RunO w8 B g gr w8.heap.size a2 n x9 r' s lim o9 row (.slice Ar n cp) y t wx)) ∨ (¬ (x9 = 16 ∨ x9 = 17 ∨ x9 = 18) ∧ y = y0 ∧ t = 1 ∧ wx = w9)))
              case first =>
               by_cases h18 : x9 = 18
               ·have d18 : (((x9 : Nat) : Int) == 18) = true := by rw [beq_iff_eq]; omega
                rcases HRR.out with ⟨h, _⟩ | ⟨_, rfl, rfl, hwx⟩
                ·omega
                ·subst hwx
                 have HX16 : Hid (x9 ≠ 16) := by show _ ≠ _; omega
                 obtain rfl : y17 = 0 := by rw [HY0.out, if_neg (by omega)]
                 have HROW : Hid (runOf x9 row = (0, 11, 7)) := by
                  show runOf x9 row = _
                  unfold runOf
                  rw [if_neg (by omega), if_neg (by omega), if_pos h18]
                 have H18 := Lib.hid h18
                 clear h18
                 have HNU := Lib.hid (rnum_sx w8 B g gr w8.heap.size a2 n 7 r' s lim o9 (.slice Ar n cp) (cells8 row) (by omega) hs _ HOW9.out HG8.out.1 HG8.out.2 HSX.out)
                 clear HSX HSG HA2
                 go_wp2_with fail
                 refine (HNU.out).mono ?_; rintro e wn ⟨v0, rfl, hv0, hown, hcs⟩
                 have hwl : IntKind.i64.wrap ((11 : Int) + ((v0 : Nat) : Int)) = ((11 + v0 : Nat) : Int) := by rw [IntWalk.i64_in _ (by omega)]; omega
                 have HRO : Hid (RunO w8 B g gr w8.heap.size a2 n x9 r' s lim o9 row (.slice Ar n cp) 0 (11 + v0) wn) := runO_num (low := 11) (m := 7) (HROW.out) (fun h => by have := HX16.out; omega) (by omega) (by omega) (by omega) hv0 hown hcs
                 obtain ⟨tt, htt⟩ : ∃ q, q = 11 + v0 := ⟨_, rfl⟩
                 rw [← htt] at hwl HRO
                 clear htt hown hcs HNU hv0
                 go_wp2_with fail
                 go_meet
                 case rel => exact ⟨0, tt, rfl, rfl, .inl ⟨.inr (.inr H18.out), HRO⟩⟩
               ·have d18 : (((x9 : Nat) : Int) == 18) = false := by rw [beq_eq_false_iff_ne]; omega
                have H18 := Lib.hid h18
                clear h18
                clear HSX HSG HA2
                go_wp2_with fail
                go_meet
                case rel =>
                 rcases HRR.out with ⟨h, h2⟩ | ⟨h, h2, h3, h4⟩
                 ·exact ⟨y17, t17, rfl, rfl, .inl ⟨h.elim .inl (fun h => .inr (.inl h)), h2⟩⟩
                 ·exact ⟨y17, t17, rfl, rfl, .inr ⟨fun hh => hh.elim (fun e => h (.inl e)) (fun hh => hh.elim (fun e => h (.inr e)) H18.out), h2, h3, h4⟩⟩
              case rest =>
               obtain ⟨yv, tv, rfl, rfl, hrr⟩ := hcut
               have HRO : Hid (RunO w8 B g gr w8.heap.size a2 n x9 r' s lim o9 row (.slice Ar n cp) yv tv wc) := by
                rcases hrr with ⟨_, h⟩ | ⟨h, rfl, rfl, rfl⟩
                ·exact h
                ·have hx16 : x9 < 16 := by omega
                 obtain rfl : yv = x9 := by rw [HY0.out, if_pos hx16]
                 exact runO_num (low := 1) (m := 0) (v0 := 0) (by unfold runOf; rw [if_neg (by omega), if_neg (by omega), if_neg (by omega)]) (fun h => by omega) (by omega) (by omega) (by decide) (by decide) HOW9.out (.inl ⟨HA2.out, (bitsAt_zero _ _).symm, HSX.out⟩)
               clear hrr HRR
               obtain ⟨hy15, ht1, ht138, howc, X, a3, hsx, hle, hX0, hXq⟩ := HRO.out
               have c3 := hsx.cell.1
               obtain ⟨nt, hnt⟩ : ∃ q : Nat, q = n + tv := ⟨_, rfl⟩
               have hws : IntKind.i64.wrap ((n : Int) + (tv : Int)) = (nt : Int) := by rw [IntWalk.i64_in _ (by omega)]; omega
               obtain ⟨OV, HOV⟩ : ∃ q : Bool, Hid (q = decide (X = none ∧ many < nt)) := ⟨_, rfl⟩
               have HXF := Lib.hid hsx.cell.2
               have HNT := Lib.hid hnt
               have HSC := Lib.hid hsx
               have HOC := Lib.hid howc
               have HX0 := Lib.hid hX0
               have HXQ := Lib.hid hXq
               have HLE := Lib.hid hle
               have HSX2 := HSX
               have HSG2 := HSG
               clear hnt hsx howc hX0 hXq hle HSX HSG HA2 HRO
               go_upto_region 37 with fail
               go_cut [139] from 74 to 150 (fun v wx => v = .bool OV ∧ wx = wc)
               case first =>
                cases X with
                | none =>
                 change wc.cell? ⟨g, 3, none⟩ = some (.int .i64 0) at c3
                 by_cases hov : many < nt
                 ·have dov : decide ((many : Int) < (nt : Int)) = true := decide_eq_true (by omega)
                  have HOV2 : Hid (OV = true) := by show OV = true; rw [HOV.out]; simp [hov]
                  clear HSX2 HSG2 HSC HOC HX0 HXQ HXF HLE
                  go_wp2_with fail
                  go_meet
                  case rel => exact ⟨by rw [HOV2.out], rfl⟩
                 ·have dov : decide ((many : Int) < (nt : Int)) = false := decide_eq_false (by omega)
                  have HOV2 : Hid (OV = false) := by show OV = false; rw [HOV.out]; simp [hov]
                  clear HSX2 HSG2 HSC HOC HX0 HXQ HXF HLE
                  go_wp2_with fail
                  go_meet
                  case rel => exact ⟨by rw [HOV2.out], rfl⟩
                | some q =>
                 change wc.cell? ⟨g, 3, none⟩ = some (.int .i64 (q : Nat)) at c3
                 have hq0 := HXF.out q rfl
                 have hq2 : (((q : Nat) : Int) == 0) = false := by rw [beq_eq_false_iff_ne]; omega
                 have HOV2 : Hid (OV = false) := by show OV = false; rw [HOV.out]; simp
                 clear HSX2 HSG2 HSC HOC HX0 HXQ HXF HLE
                 go_wp2_with fail
                 go_meet
                 case rel => exact ⟨by rw [HOV2.out], rfl⟩
               case rest =>
                obtain ⟨rfl, hwc⟩ := hcut
                have hwc := hwc.symm
                subst hwc
                have HSTO : Hid (∀ y t a', runM x9 row (srcR s lim) a2 o9 = .ok ((y, t), a', o9) → rowStep ⟨19, ls⟩ many row (srcR s lim) a1 o9 = .ok (.inl (row ++ List.replicate t y), a', o9)) := fun y t a' h => HST.out.trans ((bindR_ok HSG2.out).trans ((bindR_ok h).trans rfl))
                have HSTE : Hid (∀ q, runM x9 row (srcR s lim) a2 o9 = .error q → rowStep ⟨19, ls⟩ many row (srcR s lim) a1 o9 = .error q) := fun q h => HST.out.trans ((bindR_ok HSG2.out).trans (bindR_err h))
                have HOVR : Hid (X = none → many < nt → Runs (rowStep ⟨19, ls⟩ many) (srcR s lim) [] b2 o9 (.error 10)) := fun e hov => HRU.out _ (.more (HSTO.out _ _ _ (HX0.out e).2) (.err (by
                 have h1 := HNT.out
                 have h2 := HLN.out
                 unfold rowStep
                 rw [if_neg (by rw [List.length_append, List.length_replicate]; omega), if_pos (by rw [List.length_append, List.length_replicate]; omega)]
                 rfl)))
                clear HSX2 HSG2 HST HOW HAP HOW9 c3
                go_upto_if 139 with fail
                go_cut [15] from 74 to 150 (fun v wx => v = .int .u8 (yv : Nat) ∧ ∃ X' a4, Hid (SX w8 B g gr r' s lim o9 (.slice Ar n cp) X' a4 wx) ∧ Hid (wx.ownsRow w8.heap.size 5 1 (.slice Ar n cp) n (cells8 row)) ∧ Hid (X' = none → n + tv ≤ many ∧ a2 ≤ a4 ∧ ∀ ans, Runs (rowStep ⟨19, ls⟩ many) (srcR s lim) (row ++ List.replicate tv yv) a4 o9 ans → Runs (rowStep ⟨19, ls⟩ many) (srcR s lim) [] b2 o9 ans) ∧ Hid (∀ q, X' = some q → dynLM (srcR s lim) a o9 = .error q))
                case first =>
                 cases hOV : OV with
                 | false =>
                  have HNO : Hid (¬ (X = none ∧ many < nt)) := by
                   intro h
                   have h1 := HOV.out
                   rw [hOV] at h1
                   simp [h.1, h.2] at h1
                  have HREL : Hid (X = none → n + tv ≤ many ∧ a2 ≤ a3 ∧ ∀ ans, Runs (rowStep ⟨19, ls⟩ many) (srcR s lim) (row ++ List.replicate tv yv) a3 o9 ans → Runs (rowStep ⟨19, ls⟩ many) (srcR s lim) [] b2 o9 ans) := fun e => by
                   refine ⟨?_, ?_, fun ans h => HRU.out ans (.more (HSTO.out _ _ _ (HX0.out e).2) h)⟩
                   ·have h1 := HNT.out
                    have h2 : ¬ many < nt := fun h => HNO.out ⟨e, h⟩
                    omega
                   ·have h1 := HLE.out
                    rw [if_pos e] at h1
                    omega
                  have HREE : Hid (∀ q, X = some q → dynLM (srcR s lim) a o9 = .error q) := fun q e => HER.out q (HRU.out _ (.err (HSTE.out q (HXQ.out q e))))
                  clear hOV HNO HSTO HSTE HOVR HX0 HXQ HXF HLE HRU HER
                  go_wp2_with fail
                  go_meet
                  case rel => exact ⟨rfl, X, a3, HSC, HOC, HREL, HREE⟩
                 | true =>
                  have HX : Hid (X = none ∧ many < nt) := by
                   have h1 := HOV.out
                   rw [hOV] at h1
                   show X = none ∧ many < nt
                   simpa using h1
                  obtain rfl := HX.out.1
                  have HREE := Lib.hid (HER.out 10 (HOVR.out rfl HX.out.2))
                  have HF := Lib.hid (rfail_sx w8 B g gr w8.heap.size a3 n 10 r' s lim o9 (.slice Ar n cp) (cells8 row) (by decide) (by decide) wc HOC.out HG8.out.1 HSC.out)
                  clear hOV HSTO HSTE HOVR HX0 HXQ HXF HLE HRU HER HSC HOC HX HOV
                  go_wp2_with fail
                  refine (HF.out).mono ?_; rintro e wz ⟨rfl, how, hsz⟩
                  have HO3 := Lib.hid how
                  have HS3 := Lib.hid hsz
                  clear how hsz HF
                  go_wp2_with fail
                  go_meet
                  case rel => exact ⟨rfl, some 10, 0, HS3, HO3, (fun e => by cases e), fun q e => by injection e with e; subst e; exact HREE.out⟩
                case rest =>
                 obtain ⟨rfl, X', a4, HS3, HO3, HG3, HE3⟩ := hcut
                 clear HSTO HSTE HOVR HX0 HXQ HXF HLE HRU HER HSC HOC HOV
                 go_wp2_with fail
                 obtain ⟨i0, hi0, iz0, iz1, iz2⟩ := partsR (P := Tryz.prog) (T := 5) (z := .int .u8 0) (s := 1) (b := 1) (by kernel_rfl)
                 have hn316 : n + 138 ≤ 2000 := by omega
                 go_loopw [13, 17] (fun v13 v17 wq => ∃ (i m : Nat) (A5 : Option Addr) (c5 : Nat), v17 = .int .i64 (i : Nat) ∧ i ≤ tv ∧ v13 = .slice A5 m c5 ∧ Hid (m = n + i) ∧ Hid (wq.ownsRow w8.heap.size 5 1 (.slice A5 m c5) m (cells8 (row ++ List.replicate i yv))) ∧ Hid (SX w8 B g gr r' s lim o9 (.slice A5 m c5) X' a4 wq)) (fun _ v _ => tv - (intOf v).toNat)
                 case atStart => exact ⟨0, n, Ar, cp, rfl, Nat.zero_le _, rfl, rfl, by simpa using HO3, HS3⟩
                 case round =>
                  obtain ⟨i, m, A5, c5, rfl, hi, rfl, HM, HO5, HS5⟩ := hrel
                  by_cases hlti : i < tv
                  ·have hdi : decide ((i : Int) < (tv : Int)) = true := decide_eq_true (by omega)
                   have hm := HM.out
                   have HSZ : Hid (w8.heap.size ≤ wr.heap.size) := by
                    cases X' with
                    | none => obtain ⟨_, _, h, _⟩ := HS5.out; exact h.1.size
                    | some q => obtain ⟨_, h, _⟩ := HS5.out; exact h.1.size
                   have hsz := HSZ.out
                   have HRP : Hid (cells8 (row ++ List.replicate (i + 1) yv) = cells8 (row ++ List.replicate i yv) ++ [.int .u8 (yv : Nat)]) := by
                    show _ = _
                    rw [List.replicate_succ', ← List.append_assoc, cells8_app]
                    rfl
                   have hm9 : m + 1 ≤ 3000 := by omega
                   clear hm
                   go_wp2_with (at_builtin; (refine wpList_append_own_at _ rfl (.tmp 147) (.tmp 149) _ rfl w8.heap.size 5 i0 (.int .u8 0) 1 1 Tryz.underlying37 hi0 iz0 iz1 iz2 rfl (by decide) _ m (cells8 (row ++ List.replicate i yv)) rfl (HO5.out.alloc _) ⟨wr.heap.size, 0, none⟩ 1 1 [.int .u8 (yv : Nat)] rfl rfl ?c1 ?c2 ?c3 ?c4 ?c5 ?_))
                   case c1 => exact cell_one_new _ _ _
                   case c2 => intro u hu; simp at hu; subst hu; rfl
                   case c3 => unfold maxLen; omega
                   case c4 => omega
                   case c5 => simp; omega
                   intro v9 w6 hown hgrow _ hat
                   have HO6 : Hid (w6.ownsRow w8.heap.size 5 1 v9 (m + 1) (cells8 (row ++ List.replicate (i + 1) yv))) := by show World.ownsRow _ _ _ _ _ _ _; rw [HRP.out]; exact hown
                   have HS6 : Hid (SX w8 B g gr r' s lim o9 v9 X' a4 w6) := HS5.out.append HO5.out (Nat.le_refl _) HG8.out.1 HG8.out.2 ((Below.refl _ _).alloc (Nat.le_refl _) _) hgrow (by simpa using hat)
                   obtain ⟨A6, c6, rfl⟩ := row8_slice HO6.out
                   have HM6 : Hid (m + 1 = n + (i + 1)) := by have := HM.out; show _ = _; omega
                   clear hown hgrow hat HRP HSZ HG3 HE3 HO5 HS5 HS3 HO3 HM
                   go_wp2_with fail
                   go_roundw
                   case rel => exact ⟨i + 1, m + 1, A6, c6, by go_num, by omega, rfl, HM6, HO6, HS6⟩
                   case measure => simp [intOf]; omega
                  ·obtain rfl : i = tv := by omega
                   have hdi : decide ((i : Int) < (i : Int)) = false := decide_eq_false (by omega)
                   have HREL : Hid ((∃ row1 a1', row1.length = m ∧ m ≤ many ∧ wr.ownsRow w8.heap.size 5 1 (.slice A5 m c5) m (cells8 row1) ∧ (∀ y ∈ row1, y ≤ 15) ∧ SX w8 B g gr r' s lim o9 (.slice A5 m c5) none a1' wr ∧ ∀ ans, Runs (rowStep ⟨19, ls⟩ many) (srcR s lim) row1 a1' o9 ans → Runs (rowStep ⟨19, ls⟩ many) (srcR s lim) [] b2 o9 ans) ∨ (∃ q, dynLM (srcR s lim) a o9 = .error q ∧ SX w8 B g gr r' s lim o9 (.slice A5 m c5) (some q) 0 wr)) := by
                    cases X' with
                    | none =>
                     obtain ⟨g1, g2, g3⟩ := HG3.out rfl
                     refine .inl ⟨row ++ List.replicate i yv, a4, by rw [List.length_append, List.length_replicate, HLN.out, HM.out], by rw [HM.out]; exact g1, HO5.out, ?_, HS5.out, g3⟩
                     intro y hy
                     rw [List.mem_append] at hy
                     rcases hy with hy | hy
                     ·exact H15.out y hy
                     ·rw [List.eq_of_mem_replicate hy]; exact hy15
                    | some q => exact .inr ⟨q, HE3.out q rfl, HS5.out⟩
                   have HMEAS : Hid (msB g gr s wr < 8 * s.size - a1 + 1) := by
                    show msB g gr s wr < _
                    have h1 := HS5.out.ms
                    cases X' with
                    | none =>
                     obtain ⟨g1, g2, g3⟩ := HG3.out rfl
                     obtain ⟨_, _, _, hS5⟩ := HS5.out
                     have h2 := hS5.le
                     omega
                    | some q =>
                     have h2 := h1.2 q rfl
                     omega
                   have hm1000 : m ≤ 1000 := by
                    have h1 := HM.out
                    have h2 := HMB.out.1
                    omega
                   clear HG3 HE3 HS3 HO3 HM HO5 HS5
                   go_wp2_with fail
                   go_roundw
                   case rel => exact ⟨A5, m, c5, rfl, hm1000, HREL⟩
                   case measure => rw [HMS.out]; exact HMEAS.out
         ·obtain rfl : n = many := by omega
          have hd : decide ((n : Int) < (n : Int)) = false := decide_eq_false (by omega)
          obtain ⟨hm1, hm2, hm3, hm4⟩ := HMB.out
          have hlm : hlit < n := by have := HMY.out; omega
          have HRO : Hid (rowM ⟨19, ls⟩ n (srcR s lim) b2 o = .ok (row, a1, o)) := loop_of (hru _ (.done (by
           unfold rowStep
           rw [if_neg (by omega), if_neg (by omega)]
           rfl)))
          obtain ⟨gq, cap, hv, hgq, hgl, hcs⟩ := own_form8 how (by omega)
          have hcap : n ≤ cp := by
           rcases how.2 with ⟨_, h0⟩ | ⟨g2, cap2, cur, hv2, _, _, h1, h2, _⟩
           ·omega
           ·injection hv2 with _ _ e3
            first | omega | (rw [e3]; omega)
          injection hv with e1 _ e3
          subst e1
          subst e3
          have hz15 : row.getD 256 0 ≤ 15 := by
           rw [List.getD_eq_getElem?_getD]
           cases hg : row[256]? with
           | none => simp
           | some y => exact h15 y (List.mem_of_getElem? hg)
          have k256 := hcs 256 _ (cells8_get row 256 (by omega))
          have HCS : Hid (∀ i, i < n → wr.cell? ⟨gq, i, none⟩ = some (.int .u8 (row.getD i 0 : Nat))) := fun i hi => hcs i _ (cells8_get row i (by omega))
          have HLN := Lib.hid hlen
          have HGL := Lib.hid hgl
          have HOW := Lib.hid how
          have H15 := Lib.hid h15
          have HSX := Lib.hid hsx
          have HDE : Hid (dynLM (srcR s lim) a o = (if row.getD 256 0 = 0 then failM 10 else retM (row.take hlit, row.drop hlit)) (srcR s lim) a1 o) := HRD.out.trans (bindR_ok HRO.out)
          change wr.cell? ⟨g, 3, none⟩ = some (.int .i64 0) at c3
          clear hcs hlen how h15 hsx hru HR hgl HRO
          generalize hz : row.getD 256 0 = z0 at *
          have hn256 : (256 : Int) < n := by omega
          have hlc : (hlit : Int) ≤ (cp : Int) := by omega
          have hln : (hlit : Int) ≤ (n : Int) := by omega
          by_cases hz0 : z0 = 0
          ·have hzz : (((z0 : Nat) : Int) == 0) = true := by rw [beq_iff_eq]; omega
           have HF := Lib.hid (rfail_sx w8 B g gr w8.heap.size a1 n 10 r' s lim o _ _ (by decide) (by decide) wr HOW.out HG8.out.1 HSX.out)
           have HE : Hid (dynLM (srcR s lim) a o = .error 10) := HDE.out.trans (by rw [if_pos hz0]; rfl)
           clear hz HDE
           subst hz0
           go_wp2_with fail
           refine (HF.out).mono ?_; rintro e wz ⟨rfl, _, hsz⟩
           have c4 := hsz.cell.1
           change wz.cell? ⟨g, 3, none⟩ = some (.int .i64 10) at c4
           have HSZ := Lib.hid hsz
           clear hsz c3 HF
           go_wp2_with fail
           go_ret2
           obtain ⟨rr, h1, h2⟩ := HSZ.out
           exact DynOut.err HE.out (HU8.out.then h1) h2
          ·have hzz : (((z0 : Nat) : Int) == 0) = false := by rw [beq_eq_false_iff_ne]; omega
           have HE : Hid (dynLM (srcR s lim) a o = .ok ((row.take hlit, row.drop hlit), a1, o)) := HDE.out.trans (by rw [if_neg hz0]; rfl)
           clear hz HDE
           go_wp2_with fail
           have hcn : ((n : Int) ≤ (cp : Int)) := by omega
           have h0l : (0 : Int) ≤ (hlit : Int) := by omega
           have HCN : Hid (hlit < n) := hlm
           go_region
           go_wp2_with fail
           go_ret2
           obtain ⟨rr, _, hu, hS⟩ := HSX.out
           have hln0 := HLN.out
           have hcn0 := HCN.out
           rw [HE.out]
           have h15' : ∀ j, row.getD j 0 < 256 := fun j => by
            rw [List.getD_eq_getElem?_getD]
            cases hg : row[j]? with
            | none => simp
            | some y => have := H15.out y (List.mem_of_getElem? hg); simp; omega
           refine ⟨rr, some ⟨gq, 0, none⟩, cp, some ⟨gq, hlit, none⟩, cp - hlit, HU8.out.then hu.drew, hS.drew, ?_, ?_, ?_, fun y hy => H15.out y (List.mem_of_mem_take hy), fun y hy => H15.out y (List.mem_of_mem_drop hy)⟩
           ·rw [List.length_take, List.length_drop, HLN.out, Nat.min_eq_left (Nat.le_of_lt HCN.out)]
            rfl
           ·intro _
            refine ⟨gq, 0, rfl, HGL.out, fun i hi => ?_⟩
            rw [List.length_take] at hi
            have hi2 : i < hlit := by omega
            have he : (row.take hlit).getD i 0 = row.getD i 0 := by rw [List.getD_eq_getElem?_getD, List.getD_eq_getElem?_getD, List.getElem?_take_of_lt hi2]
            show wr.cell? _ = some (.int .u8 (((row.take hlit).getD i 0 : Nat) : Int)) ∧ (row.take hlit).getD i 0 < 256
            rw [he, Nat.zero_add]
            exact ⟨HCS.out i (by omega), h15' i⟩
           ·intro _
            refine ⟨gq, hlit, rfl, HGL.out, fun i hi => ?_⟩
            rw [List.length_drop] at hi
            have he : (row.drop hlit).getD i 0 = row.getD (hlit + i) 0 := by rw [List.getD_eq_getElem?_getD, List.getD_eq_getElem?_getD, List.getElem?_drop]
            show wr.cell? _ = some (.int .u8 (((row.drop hlit).getD i 0 : Nat) : Int)) ∧ (row.drop hlit).getD i 0 < 256
            rw [he]
            exact ⟨HCS.out (hlit + i) (by omega), h15' _⟩
        ·have c3 := hsx.cell.1
         have hq1 := hsx.cell.2 q rfl
         have hq2 : (((q : Nat) : Int) == 0) = false := by rw [beq_eq_false_iff_ne]; omega
         have hq3 : (((q : Nat) : Int) != 0) = true := by rw [bne_iff_ne]; omega
         have HE := Lib.hid hq
         have HSX := Lib.hid hsx
         clear hq hsx
         have HFIN : Hid (∃ rr, UpR g gr r rr w wr ∧ RB wr g q) := by
          obtain ⟨rr, h1, h2⟩ := HSX.out
          exact ⟨rr, HU8.out.then h1, h2⟩
         obtain ⟨rr, hfu, hfb⟩ := HFIN.out
         have HFU := Lib.hid hfu
         have HFB := Lib.hid hfb
         clear hfu hfb HR
         change wr.cell? ⟨g, 3, none⟩ = some (.int .i64 (q : Nat)) at c3
         by_cases hlt : n < many
         ·have hd : decide ((n : Int) < (many : Int)) = true := decide_eq_true (by omega)
          go_wp2_with fail
          go_ret2
          exact DynOut.err HE.out HFU.out HFB.out
         ·have hd : decide ((n : Int) < (many : Int)) = false := decide_eq_false (by omega)
          go_wp2_with fail
          go_ret2
          exact DynOut.err HE.out HFU.out HFB.out
      ·obtain ⟨u6, hb8, _⟩ := HS6.out.blk
       have HF := Lib.hid (rfail_ok g gr u6 lim 10 w6 hb8)
       have HE : Hid (dynLM (srcR s lim) a o = .error 10) := by
        show dynLM (srcR s lim) a o = _
        rw [HDY.out]
        refine bindR_err ?_
        rw [HOU.out]
        exact bindR_err (show makeM _ _ _ _ _ = .error 10 from by unfold makeM; rw [if_neg hm]; rfl)
       have HBD := Lib.hid (rb_set 10 (by decide) (by decide) hb8)
       clear hb6 hm HN HOU hb8 c3
       go_wp2_with fail
       refine (HF.out).mono ?_; rintro e wz ⟨rfl, rfl⟩
       go_wp2_with fail
       go_ret2
       exact DynOut.err HE.out (HU6.out.then (upr_set w6 3 _)) HBD.out
     ·obtain ⟨gr', v, l, hb4, hq0, h9⟩ := hBd
      have HBD : Hid (RB wr g q) := ⟨gr', v, l, hb4, hq0, h9⟩
      unfold stC at hb4
      have c3 := (cell_of_row _ g 3 _ _ _ hb4).trans (show _ = some (Value.int .i64 (q : Nat)) from rfl)
      have hq2 : (((q : Nat) : Int) != 0) = true := by rw [bne_iff_ne]; omega
      have HU4 := Lib.hid hu
      have HE : Hid (dynLM (srcR s lim) a o = .error q) := by rw [HA.out] at hq; exact hq
      clear hb4 hu hq HK HDL hmk
      go_wp2_with fail
      go_ret2
      exact DynOut.err HE.out HU4.out HBD.out
end Go.Proofs.YtmkeicfklbepnaaGreat
