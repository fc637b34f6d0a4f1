/-
 Contract of Sign.
 Signs, Length of a code; New where a code is not whole.
 The document's Fill.
-/
import Derived.Test.YtmkeicfklbepnaaGreatPkAE

namespace Go.Proofs.YtmkeicfklbepnaaGreat
set_option maxRecDepth 100000
open Go.RowKit Go.Deep Go.Joins Go.ChangeMaps
open Go.Maps (Keyed IsMap has)

/-- A code whole: what its blocks hold. -/
def Cd (w : World) (g bm : Nat) (ls W : Nat → Nat) (n mx : Nat) : Prop := ∃ B, Cd0 w B g bm ls W n mx
theorem Cd0.lt {w : World} {B g bm n mx : Nat} {ls W : Nat → Nat} (h : Cd0 w B g bm ls W n mx) : g < w.heap.size ∧ bm < w.heap.size := by
 obtain ⟨A, c, hb, _, hm, _⟩ := h
 exact ⟨lt_of_heap hb, map_lt hm⟩
/-- A code stays, where only blocks turn that are none of its own. -/
theorem Cd0.below {w w' : World} {B g bm n mx : Nat} {ls W : Nat → Nat} (h : Cd0 w B g bm ls W n mx) (hb : Below w.heap.size w w') : Cd0 w' B g bm ls W n mx := by
 obtain ⟨A, c, hb0, ho, hm, h1, h2⟩ := h
 exact ⟨A, c, (hb.block g (lt_of_heap hb0)).trans hb0, row_kept' ho (fun b e => hb.block b (ho.lt b e).2), map_stay hm (hb.block bm (map_lt hm)), h1, h2⟩
theorem Cd0.grown {w w' : World} {B g bm n mx gr : Nat} {ls W : Nat → Nat} {T : TypeId} {cs : Array Value} (h : Cd0 w B g bm ls W n mx) (hT : T ≠ 151) (hT2 : T ≠ 155) (hr : w.heap[gr]? = some (.cells cs T (0, 0))) (hg : w.grownBy w' (some gr)) : Cd0 w' B g bm ls W n mx := by
 obtain ⟨A, c, hb0, ho, hm, h1, h2⟩ := h
 have hne := row_ne' hT ho hr
 have hgg : g ≠ gr := by
  rintro rfl
  rw [hb0] at hr
  simp at hr
  exact hT2 hr.2.symm
 have hbm : bm ≠ gr := fun e => map_ne hm hr e.symm
 exact ⟨A, c, (hg.block g (lt_of_heap hb0) (by intro h; injection h with h; exact hgg h)).trans hb0, row_kept' ho (fun b e => hg.block b (ho.lt b e).2 (fun h => hne (e.trans h))), map_stay hm (hg.block bm (map_lt hm) (by intro h; injection h with h; exact hbm h)), h1, h2⟩

theorem zero_int (w : World) : (zeroValue 3).run Tryz.prog w = .ok (.int .i64 0) w := by kernel_rfl

theorem grown_of_below {w w' : World} {row : Option Nat} (h : Below w.heap.size w w') : w.grownBy w' row := ⟨h.os, h.tape, h.output, h.size, fun i hi _ => h.block i hi⟩

/-- What the bits ahead are, the first one the highest. -/
theorem rev_small (v k : Nat) (hk : k ≤ 15) : rev v k < 32768 := Nat.lt_of_lt_of_le (rev_lt v k) (Nat.pow_le_pow_right (n := 2) (by omega) (show k ≤ 15 by omega))

/-- No word of at most k bits stands next. -/
def NoWord (ls W : Nat → Nat) (n v k : Nat) : Prop := ∀ l, 1 ≤ l → l ≤ k → findW ls W l (rev v l) n = none

/-- What Sign answers, at the bits v (as many as 'many'). -/
def SignIs (ls W : Nat → Nat) (n mx v many : Nat) (x : Int) (e l : Nat) : Prop :=
 (∃ i, x = (i : Nat) ∧ e = 0 ∧ 1 ≤ l ∧ l ≤ mx ∧ l ≤ many ∧ findW ls W l (rev v l) n = some i ∧ NoWord ls W n v (l - 1)) ∨
 (x = -1 ∧ e = 3 ∧ l = 0 ∧ many < mx ∧ NoWord ls W n v many) ∨ (x = -1 ∧ e = 10 ∧ l = 0 ∧ mx ≤ many ∧ NoWord ls W n v mx)

theorem or_bit (x b : Nat) (hx : x < 32768) (hb : b < 2) : bits .or .u32 ((x : Int) * 2) (b : Int) = ((x * 2 + b : Nat) : Int) := by
 rw [show ((x : Int) * 2) = ((x * 2 : Nat) : Int) by simp, u32_or_nat _ _ (by omega) (by omega)]
 have h := Nat.shiftLeft_add_eq_or_of_lt (i := 1) (b := b) (by omega) x
 rw [Nat.shiftLeft_eq] at h
 rw [← h]
theorem and_bit (y : Nat) (hy : y < 4294967296) : bits .and .u32 (y : Int) 1 = ((y % 2 : Nat) : Int) := by
 have := u32_and_nat y 1 hy (by omega)
 rw [Nat.and_one_is_mod] at this
 exact this

/-- The map asked: what is told. -/
theorem look_word {w : World} {B g bm n mx : Nat} {ls W : Nat → Nat} (h : Cd0 w B g bm ls W n mx) (hW : ∀ i, i < n → ls i < 256 ∧ W i < 4294967296) (l x : Nat) (hl : l < 256) (hx : x < 4294967296) (d : Nat) :
  (Instr.lookup 153 (.map (some bm)) (.agg #[.int .u8 (l : Nat), .int .u32 (x : Nat)]) true).run Tryz.prog (w.drewN d) = .ok (.tuple #[.int .i64 ((findW ls W l x n).getD 0 : Nat), .bool (findW ls W l x n).isSome]) (w.drewN d) := by
 obtain ⟨A, c, _, _, hm, _⟩ := h
 have hm' : (w.drewN d).ownsMap Tryz.prog 151 (plainElem Tryz.prog 3) bm n (codeMap ls W n) := hm
 obtain ⟨v, ps, hrun, hv⟩ := hm'.look_ok word_law Tryz.underlying153 (zero_int _) (plainElem_int Tryz.underlying3 (by decide)) (kk_of l x hl hx)
 obtain ⟨h1, h2⟩ := codeMap_has ls W l x hl hx n hW
 obtain ⟨c, rfl, hc, _⟩ := plainElem_int_inv Tryz.underlying3 hv
 rw [h2] at hc
 have e : c = ((findW ls W l x n).getD 0 : Nat) := by
  cases hf : findW ls W l x n with
  | none =>
   rw [hf] at hc
   simp at hc
   exact hc.1.symm
  | some i =>
   rw [hf] at hc
   simp at hc
   exact hc.1.symm
 rw [h1, e] at hrun
 exact hrun

set_option maxRecDepth 100000 in
set_option maxHeartbeats 8000000 in
theorem sign_any (B g bm n mx gr a : Nat) (ls W : Nat → Nat) (s : ByteArray) (hs : s.size ≤ 1000000) (ha : a ≤ 8 * s.size) (hmx : mx ≤ 15) (hW : ∀ i, i < n → ls i < 256 ∧ W i < 4294967296) (w : World) (hcd : Cd0 w B g bm ls W n mx) (hr : Rd 83 w gr s a 0) :
  Calls Tryz.prog 63 #[.pointer (some ⟨g, 0, none⟩), .pointer (some ⟨gr, 0, none⟩)] w fun r w' => ∃ x e l, r = .returned (.tuple #[.int .i64 x, .int .i64 (e : Nat)]) ∧ SignIs ls W n mx (bitsAt (num s) a (peekM s a 0 15)) (peekM s a 0 15) x e l ∧ Rd 83 w' gr s (a + l) 0 ∧ w.grownBy w' (some gr) := by
 have HE := Lib.hid (err_any gr s a 0 w hr)
 have HP := Lib.hid (peek_any gr s a 0 15 hs ha w hr)
 have hmany : peekM s a 0 15 ≤ 15 := by unfold peekM; split <;> omega
 have hmany2 : a + peekM s a 0 15 ≤ 8 * s.size := by unfold peekM; split <;> omega
 have hv32 := bitsAt_lt32 (num s) a _ (peekM_le s a 0 15)
 generalize bitsAt (num s) a (peekM s a 0 15) = v at *
 generalize peekM s a 0 15 = many at *
 have HCD := Lib.hid hcd
 have HR := Lib.hid hr
 have HWW := Lib.hid hW
 clear hcd hr hW
 go_enter Tryz.func63, Tryz.ntmps63
 go_wp2_with fail
 refine (HE.out).mono ?_; rintro e w1 ⟨rfl, rfl⟩
 go_wp2_with fail
 refine (HP.out).mono ?_; rintro e w2 ⟨rfl, d, rfl⟩
 go_wp2_with fail
 have hgw : ((w.drewN d).alloc (.cells #[.int .u8 0, .int .u32 0] 151)).heap[w.heap.size]? = some (.cells #[.int .u8 (0 : Nat), .int .u32 (rev v 0 : Nat)] 151 (0, 0)) := heap_alloc_new (w.drewN d) _
 have hbl : Below w.heap.size w ((w.drewN d).alloc (.cells #[.int .u8 0, .int .u32 0] 151)) := (below_drewN (Below.refl _ _) d).alloc (Nat.le_refl _) _
 generalize (w.drewN d).alloc (.cells #[.int .u8 0, .int .u32 0] 151) = W2 at *
 have HGW := Lib.hid hgw
 have HBL := Lib.hid hbl
 clear hgw hbl HE HP
 go_loopw [24] (fun _ wr => ∃ l, l ≤ mx ∧ l ≤ many ∧ wr.heap[w.heap.size]? = some (.cells #[.int .u8 (l : Nat), .int .u32 (rev v l : Nat)] 151 (0, 0)) ∧ NoWord ls W n v l ∧ Below w.heap.size w wr) (fun _ wr => match wr.cell? ⟨w.heap.size, 0, none⟩ with | some (.int _ z) => 15 - z.toNat | _ => 0)
 case atStart => exact ⟨0, Nat.zero_le _, Nat.zero_le _, HGW.out, fun l h1 h2 => by omega, HBL.out⟩
 case round =>
  obtain ⟨l, hl, hlm, hgw, hno, hbl⟩ := hrel
  have HNO := Lib.hid hno
  have HBL2 := Lib.hid hbl
  have hcd := HCD.out.below hbl
  obtain ⟨hg1, hg2⟩ := HCD.out.lt
  have hcd' := hcd
  obtain ⟨A, c, hb0, _⟩ := hcd'
  have x0 : wr.cell? ⟨w.heap.size, 0, none⟩ = some (.int .u8 (l : Nat)) := by rw [cell_of_row wr _ 0 _ _ _ hgw]; rfl
  have x1 : wr.cell? ⟨w.heap.size, 1, none⟩ = some (.int .u32 (rev v l : Nat)) := by rw [cell_of_row wr _ 1 _ _ _ hgw]; rfl
  have xf0 : wr.frozen? ⟨w.heap.size, 0, none⟩ = false := frozen_of_row wr _ 0 _ _ hgw
  have xf1 : wr.frozen? ⟨w.heap.size, 1, none⟩ = false := frozen_of_row wr _ 1 _ _ hgw
  have k2 : wr.cell? ⟨g, 2, none⟩ = some (.int .u8 (mx : Nat)) := by rw [cell_of_row wr g 2 _ _ _ hb0]; rfl
  have HGW2 := Lib.hid hgw
  have HX0 := Lib.hid x0
  have HC2 := Lib.hid hcd
  clear hno hbl hcd hb0 hgw
  by_cases hlt : l < mx
  ·by_cases heq : l = many
   ·have HNM : Hid (NoWord ls W n v many) := heq ▸ HNO.out
    have hlM : l < 15 := by omega
    subst heq
    go_wp2
    go_quiet (fail)
    go_wp2
    go_ret2
    exact ⟨-1, 3, 0, rfl, .inr (.inl ⟨rfl, rfl, rfl, hlt, HNM.out⟩), (HR.out.below HBL2.out HR.out.lt).drewN nq, grown_of_below (below_drewN HBL2.out nq)⟩
   ·have hl15 : l < 15 := by omega
    have hlm1 : l < many := by omega
    have hne : ((l : Int) == (many : Int)) = false := by rw [beq_eq_false_iff_ne]; omega
    have hrs := rev_small v l (by omega)
    have hrs2 := rev_small v (l + 1) (by omega)
    have hbit : v / 2 ^ l % 2 < 2 := Nat.mod_lt _ (by omega)
    have hand : bits .and .u32 ((v : Int) / 2 ^ l) 1 = ((v / 2 ^ l % 2 : Nat) : Int) := by
     rw [show ((v : Int) / 2 ^ l) = ((v / 2 ^ l : Nat) : Int) by simp]
     exact and_bit _ (Nat.lt_of_le_of_lt (Nat.div_le_self _ _) hv32)
    have hor := or_bit (rev v l) (v / 2 ^ l % 2) hrs hbit
    have HRV : Hid (rev v (l + 1) = rev v l * 2 + v / 2 ^ l % 2) := rfl
    rw [← HRV.out] at hor
    have HF1 : Hid (NoWord ls W n v l → findW ls W (l + 1) (rev v (l + 1)) n = none → NoWord ls W n v (l + 1)) := fun h1 h2 l' h3 h4 => by
     by_cases e : l' = l + 1
     ·subst e
      exact h2
     ·exact h1 l' h3 (by omega)
    have HLK := Lib.hid (fun (w3 : World) (h : Cd0 w3 B g bm ls W n mx) d => look_word h HWW.out (l + 1) (rev v (l + 1)) (by omega) (by omega) d)
    have HSK := Lib.hid (fun (w3 : World) (h : Rd 83 w3 gr s a 0) => skip_any gr s a 0 ((l + 1 : Nat) : Int) hs ha w3 h)
    have hsa : skipA s a 0 ((l + 1 : Nat) : Int) = a + (l + 1) := if_pos ⟨rfl, by omega, by omega⟩
    have hse : skipE s a 0 ((l + 1 : Nat) : Int) = 0 := by
     unfold skipE
     rw [if_neg (by omega), if_neg (by omega), if_pos (by omega)]
    rw [hsa, hse] at HSK
    clear HRV hsa hse
    generalize v / 2 ^ l % 2 = bt at *
    generalize hxx : rev v (l + 1) = x at *
    generalize rev v l = r at *
    have HXX := Lib.hid hxx
    clear hxx
    go_wp2
    go_quiet (fail)
    replace x0 : (wr.drewN nq).cell? ⟨w.heap.size, 0, none⟩ = some (.int .u8 (l : Nat)) := x0
    replace x1 : (wr.drewN nq).cell? ⟨w.heap.size, 1, none⟩ = some (.int .u32 (r : Nat)) := x1
    replace xf0 : (wr.drewN nq).frozen? ⟨w.heap.size, 0, none⟩ = false := xf0
    replace xf1 : (wr.drewN nq).frozen? ⟨w.heap.size, 1, none⟩ = false := xf1
    replace HGW2 : Hid ((wr.drewN nq).heap[w.heap.size]? = some (.cells #[.int .u8 (l : Nat), .int .u32 (r : Nat)] 151 (0, 0))) := HGW2
    replace HBL2 : Hid (Below w.heap.size w (wr.drewN nq)) := below_drewN HBL2.out nq
    replace k2 : (wr.drewN nq).cell? ⟨g, 2, none⟩ = some (.int .u8 (mx : Nat)) := k2
    generalize wr.drewN nq = w2 at *
    go_wp2
    have hgw3 := heap_setCell_same (w2.setCell ⟨w.heap.size, 1, none⟩ (.int .u32 (x : Nat))) w.heap.size 0 _ _ (.int .u8 ((l : Int) + 1)) (heap_setCell_same w2 w.heap.size 1 _ _ (.int .u32 (x : Nat)) HGW2.out)
    have hbl3 : Below w.heap.size w ((w2.setCell ⟨w.heap.size, 1, none⟩ (.int .u32 (x : Nat))).setCell ⟨w.heap.size, 0, none⟩ (.int .u8 ((l : Int) + 1))) := (HBL2.out.setCell (Nat.le_refl _) _).setCell (Nat.le_refl _) _
    generalize (w2.setCell ⟨w.heap.size, 1, none⟩ (.int .u32 (x : Nat))).setCell ⟨w.heap.size, 0, none⟩ (.int .u8 ((l : Int) + 1)) = w3 at *
    have HGW3 : Hid (w3.heap[w.heap.size]? = some (.cells #[.int .u8 ((l : Int) + 1), .int .u32 (x : Nat)] 151 (0, 0))) := hgw3
    have HBL3 := Lib.hid hbl3
    clear hgw3 hbl3 x0 x1 xf0 xf1 k2 HGW2
    have hcd3 := HCD.out.below HBL3.out
    have hlk : ∀ d, (Instr.lookup 153 (.map (some bm)) (.agg #[.int .u8 ((l : Int) + 1), .int .u32 (x : Nat)]) true).run Tryz.prog (w3.drewN d) = .ok (.tuple #[.int .i64 ((findW ls W (l + 1) x n).getD 0 : Nat), .bool (findW ls W (l + 1) x n).isSome]) (w3.drewN d) := HLK.out w3 hcd3
    obtain ⟨A3, c3, hb3, _⟩ := hcd3
    have m1 : w3.cell? ⟨g, 1, none⟩ = some (.map (some bm)) := by rw [cell_of_row w3 g 1 _ _ _ hb3]; rfl
    have x0 : w3.cell? ⟨w.heap.size, 0, none⟩ = some (.int .u8 ((l : Int) + 1)) := by rw [cell_of_row w3 _ 0 _ _ _ HGW3.out]; rfl
    have x1 : w3.cell? ⟨w.heap.size, 1, none⟩ = some (.int .u32 (x : Nat)) := by rw [cell_of_row w3 _ 1 _ _ _ HGW3.out]; rfl
    clear hb3
    have HRD3 : Hid (Rd 83 w3 gr s a 0) := HR.out.below HBL3.out HR.out.lt
    have HSK3 := Lib.hid (fun d => HSK.out (w3.drewN d) (HRD3.out.drewN d))
    clear HLK HSK
    cases hf : findW ls W (l + 1) x n with
    | none =>
     rw [hf] at hlk
     have HF2 := Lib.hid (HF1.out HNO.out hf)
     go_quiet (fail)
     go_wp2
     go_roundw
     case rel =>
      refine ⟨l + 1, by omega, by omega, ?_, HF2.out, below_drewN HBL3.out nq⟩
      rw [HXX.out]
      exact HGW3.out
     case measure =>
      have e1 : (w3.drewN nq).cell? ⟨w.heap.size, 0, none⟩ = some (.int .u8 ((l : Int) + 1)) := x0
      rw [e1, HX0.out]
      show 15 - ((l : Int) + 1).toNat < 15 - ((l : Int)).toNat
      omega
    | some i =>
     rw [hf] at hlk
     go_quiet (fail)
     have hsk := HSK3.out nq
     have HB4 : Hid (Below w.heap.size w (w3.drewN nq)) := below_drewN HBL3.out nq
     replace x0 : (w3.drewN nq).cell? ⟨w.heap.size, 0, none⟩ = some (.int .u8 ((l : Int) + 1)) := x0
     clear hlk HSK3 x1 m1
     generalize w3.drewN nq = w4 at *
     have HSK4 := Lib.hid hsk
     clear hsk
     go_wp2_with (go_at_call 59; refine (HSK4.out).mono ?_; rintro e w5 ⟨rfl, hrd, hgr⟩)
     go_ret2
     exact ⟨i, 0, l + 1, rfl, .inl ⟨i, rfl, rfl, by omega, by omega, by omega, by rw [HXX.out]; exact hf, HNO.out⟩, hrd, (grown_of_below HB4.out).trans hgr⟩
  ·obtain rfl : l = mx := by omega
   have hlt' : ¬ (l : Int) < (l : Int) := by omega
   go_wp2
   go_quiet (fail)
   go_wp2
   go_ret2
   exact ⟨-1, 10, 0, rfl, .inr (.inr ⟨rfl, rfl, rfl, hlm, HNO.out⟩), (HR.out.below HBL2.out HR.out.lt).drewN nq, grown_of_below (below_drewN HBL2.out nq)⟩
end Go.Proofs.YtmkeicfklbepnaaGreat

namespace Go.Proofs.YtmkeicfklbepnaaGreat
set_option maxRecDepth 100000
open Go.RowKit Go.Joins

set_option maxRecDepth 100000 in
set_option maxHeartbeats 4000000 in
theorem new_part (A : Option Addr) (n cap : Nat) (ls : Nat → Nat) (hn : n ≤ 4096) (w : World) (hL : Lens w A n ls) (h15 : ∀ i, i < n → ls i ≤ 15) (hf : fillN ls n < 32768) :
  Calls Tryz.prog 96 #[.slice A n cap, .bool false] w fun e w' => e = .returned (.tuple #[.pointer none, .int .i64 10]) ∧ Below w.heap.size w w' := by
 have HW := Lib.hid (words_ok A n cap ls hn w hL h15 (by omega))
 have HF := Lib.hid (fun w' (h : Below w.heap.size w w') => fill_ok A n cap ls hn w' (hL.below (Nat.le_refl _) h) h15)
 clear hL h15
 go_enter Tryz.func96, Tryz.ntmps96
 go_wp2_with fail
 refine (HW.out).mono ?_; rintro e w1 ⟨rfl, hr1, hb1⟩
 have HB1 := Lib.hid hb1
 have hd2 : decide ((fillN ls n : Int) < 32768) = true := decide_eq_true (by omega)
 clear hr1 hb1 HW
 generalize fillN ls n = F at *
 go_wp2_with (first | (go_at_call 110; refine (HF.out _ HB1.out).mono ?_; rintro e w' ⟨rfl, rfl⟩))
 go_ret2
 exact ⟨rfl, HB1.out⟩

theorem signs_any (B g bm n mx : Nat) (ls W : Nat → Nat) (w : World) (hcd : Cd0 w B g bm ls W n mx) :
  Calls Tryz.prog 115 #[.pointer (some ⟨g, 0, none⟩)] w fun e w' => e = .returned (.int .i64 (n : Nat)) ∧ w = w' := by
 obtain ⟨A, c, hb0, _⟩ := hcd
 have k0 : w.cell? ⟨g, 0, none⟩ = some (.slice A n c) := by rw [cell_of_row w g 0 _ _ _ hb0]; rfl
 clear hb0
 go_enter Tryz.func115, Tryz.ntmps115
 go_wp2
 go_ret
 exact ⟨rfl, rfl⟩

theorem length_any (B g bm n mx i : Nat) (ls W : Nat → Nat) (hi : i < n) (hls : ls i < 256) (w : World) (hcd : Cd0 w B g bm ls W n mx) :
  Calls Tryz.prog 101 #[.pointer (some ⟨g, 0, none⟩), .int .i64 (i : Nat)] w fun e w' => e = .returned (.int .i64 (ls i : Nat)) ∧ w = w' := by
 have HS := Lib.hid (signs_any B g bm n mx ls W w hcd)
 obtain ⟨A, c, hb0, ho, _⟩ := hcd
 have k0 : w.cell? ⟨g, 0, none⟩ = some (.slice A n c) := by rw [cell_of_row w g 0 _ _ _ hb0]; rfl
 clear hb0
 rcases ho.2 with ⟨h0, _⟩ | ⟨g2, cap2, cur, h0, hg2, hb2, h3⟩
 ·injection h0 with _ e _
  omega
 ·have k1 : w.cell? ⟨g2, i * 2, none⟩ = some (.int .u8 (ls i : Nat)) := by
   rw [cell_of_row w g2 (i * 2) _ _ _ hb2, ← (wcells_at ls W n i hi).1, ← h3.2.2.2, List.getElem?_take_of_lt (by omega), Array.getElem?_toList]
  clear hb2 h3
  go_enter Tryz.func101, Tryz.ntmps101
  go_wp2_with (go_at_call 115; refine (HS.out).mono ?_; rintro e w' ⟨rfl, rfl⟩)
  go_ret
  exact ⟨rfl, rfl⟩
end Go.Proofs.YtmkeicfklbepnaaGreat

namespace Go.Proofs.YtmkeicfklbepnaaGreat
set_option maxRecDepth 100000
open Go.RowKit Go.Joins

theorem rfill_many (A : Option Addr) (n cap : Nat) (h : 4096 < n) (w : World) :
  Calls Tryz.prog 44 #[.slice A n cap] w fun e w' => e = .returned (.tuple #[.int .i64 0, .int .i64 6]) ∧ w = w' := by
 go_enter Tryz.func44, Tryz.ntmps44
 go_wp2
 go_ret2
 exact ⟨rfl, rfl⟩
theorem rfill_ok (A : Option Addr) (n cap : Nat) (ls : Nat → Nat) (hn : n ≤ 4096) (w : World) (hL : Lens w A n ls) (h15 : ∀ i, i < n → ls i ≤ 15) :
  Calls Tryz.prog 44 #[.slice A n cap] w fun e w' => e = .returned (.tuple #[.int .i64 (fillN ls n : Nat), .int .i64 0]) ∧ w = w' := by
 have HL := Lib.hid hL
 have H15 := Lib.hid h15
 clear hL h15
 go_enter Tryz.func44, Tryz.ntmps44
 go_wp2
 go_loop [4, 14] (fun x i => ∃ k, k ≤ n ∧ i = .int .i64 k ∧ x = .int .i64 (fillN ls k : Nat)) (fun _ i => n - (intOf i).toNat)
 case atStart => exact ⟨0, Nat.zero_le _, rfl, rfl⟩
 case round =>
  obtain ⟨k, hk, rfl, rfl⟩ := hrel
  by_cases hlt : k < n
  ·obtain ⟨b, off, rfl, hb, hc⟩ := HL.out (by omega)
   obtain ⟨hcell, _⟩ := hc k hlt
   have hl := H15.out k hlt
   have hfl := fillN_le ls k
   have HS : Hid (fillN ls (k + 1) = fillN ls k + (if ls k = 0 then 0 else 2 ^ (15 - ls k))) := rfl
   generalize ls k = l at *
   generalize fillN ls k = F at *
   clear hc
   by_cases h0 : l = 0
   ·subst h0
    go_wp2
    go_round
    case rel => exact ⟨k + 1, by omega, by go_num, by rw [HS.out]; simp⟩
    case measure => simp [intOf]; omega
   ·have h0' : 0 < l := by omega
    go_wp2
    go_loop [7, 8] (fun y j => ∃ i : Nat, i ≤ l ∧ j = .int .i64 i ∧ y = .int .i64 (2 ^ (15 - i) : Nat)) (fun _ j => l - (intOf j).toNat)
    case atStart => exact ⟨0, Nat.zero_le _, rfl, rfl⟩
    case round =>
     obtain ⟨i, hi, rfl, rfl⟩ := hrel
     by_cases hil : i < l
     ·have hp : 2 ^ (15 - i) = 2 * 2 ^ (15 - (i + 1)) := by rw [show 15 - i = (15 - (i + 1)) + 1 by omega, Nat.pow_succ]; omega
      have hp2 : 2 ^ (15 - (i + 1)) ≤ 32768 := Nat.pow_le_pow_right (n := 2) (by omega) (show 15 - (i + 1) ≤ 15 by omega)
      have HP : Hid (2 ^ (15 - (i + 1)) = 2 ^ (15 - (i + 1))) := rfl
      generalize 2 ^ (15 - i) = p at *
      generalize hpp : 2 ^ (15 - (i + 1)) = p2 at *
      have hd1 : (p : Int).tdiv 2 = (p2 : Int) := by rw [Int.tdiv_eq_ediv_of_nonneg (by omega)]; omega
      have hd2 : (p : Int) / 2 = (p2 : Int) := by omega
      have HPP := Lib.hid hpp
      clear hpp hp HP
      go_wp2
      go_round
      case rel => exact ⟨i + 1, by omega, by go_num, by rw [HPP.out]⟩
      case measure => simp [intOf]; omega
     ·obtain rfl : i = l := by omega
      have hp2 : 2 ^ (15 - i) ≤ 32768 := Nat.pow_le_pow_right (n := 2) (by omega) (show 15 - i ≤ 15 by omega)
      generalize 2 ^ (15 - i) = p at *
      go_wp2
      go_round
      case rel => exact ⟨k + 1, by omega, by go_num, by rw [HS.out, if_neg h0]; simp⟩
      case measure => simp [intOf]; omega
  ·obtain rfl : k = n := by omega
   go_wp2
   go_ret2
   exact ⟨rfl, rfl⟩
end Go.Proofs.YtmkeicfklbepnaaGreat
