/-
  The document's stream: num, room.
  The document's stream: room.
  The document's stream: leads, sign.
-/
import Derived.Test.YtopjmagbcnglhaaPkAJ
import Derived.Deep.RegionHeld3
import Derived.BigQuiet

namespace Go.Proofs.Ytopjmagbcnglhaa
set_option maxRecDepth 100000
set_option linter.unusedVariables false
set_option linter.unusedSimpArgs false
open Go.RowKit Go.Deep Go.Joins
def srcR (s : ByteArray) (lim : Int) : Src := ⟨num s, 8 * s.size, lim.toNat⟩
theorem RS.room {w : World} {B g gr a : Nat} {r : Option Nat} {s : ByteArray} {lim : Int} {o : List Nat} (h : RS w B g gr r s lim a o) : o.length ≤ lim.toNat := by
  obtain ⟨v, _, _, _, _, h⟩ := h
  exact h.2.2.2.2
theorem RS.small {w : World} {B g gr a : Nat} {r : Option Nat} {s : ByteArray} {lim : Int} {o : List Nat} (h : RS w B g gr r s lim a o) : ∀ x ∈ o, x < 256 := by
  obtain ⟨v, _, _, _, _, h⟩ := h
  exact h.2.2.2.1
/-- The wrong stream, behind a fault. -/
theorem RS.bad {w : World} {B g gr a : Nat} {r : Option Nat} {s : ByteArray} {lim : Int} {o : List Nat} (h : RS w B g gr r s lim a o) (k : Nat) (hk : k ≠ 0) (hk2 : k < 100) : RB (w.setCell ⟨g, 3, none⟩ (.int .i64 (k : Nat))) g k ∧ UpR g gr r r w (w.setCell ⟨g, 3, none⟩ (.int .i64 (k : Nat))) := by
  obtain ⟨v, h1, _⟩ := h
  exact ⟨rb_set k hk hk2 h1, upr_set w 3 _⟩
set_option maxHeartbeats 4000000 in
theorem rnum_any (B g gr a n : Nat) (r : Option Nat) (s : ByteArray) (lim : Int) (o : List Nat) (hn : n ≤ 16) (hs : s.size ≤ 1000000) (w : World) (hS : RS w B g gr r s lim a o) :
    Calls Try.prog 21 #[.pointer (some ⟨g, 0, none⟩), .int .i64 (n : Nat)] w fun e w' => OutR w B g gr r s lim (fun x e => e = .returned (.int .i64 (x : Nat))) (fun e => e = .returned (.int .i64 0)) (readM1 n (srcR s lim) a o) e w' := by
  obtain ⟨v, hb, _⟩ := hS.blk
  have hle := hS.le
  have hrd := hS.rd
  have hne := hS.ne
  have HS := Lib.hid hS
  have HB := Lib.hid hb
  unfold stC at hb
  have c0 := (cell_of_row w g 0 _ _ _ hb).trans (show _ = some (Value.pointer (some ⟨gr, 0, none⟩)) from rfl)
  have c3 := (cell_of_row w g 3 _ _ _ hb).trans (show _ = some (Value.int .i64 0) from rfl)
  have HR := Lib.hid (rread_any gr s a 0 (n : Nat) hs hle w hrd)
  have hgl := lt_of_block hb
  have HRD := Lib.hid hrd
  clear hb hS hrd
  go_enter Try.func21, Try.ntmps21
  go_wp2_with fail
  refine HR.out.mono ?_; rintro e w1 ⟨rfl, hr1, hg1⟩
  have hk : w1.heap[g]? = w.heap[g]? := hg1.block g hgl (fun e => by injection e with e; exact hne e)
  have hb1 := hk.trans HB.out
  have HB1 := Lib.hid hb1
  have HG1 := Lib.hid hg1
  unfold stC at hb1
  have k0 := (cell_of_row w1 g 0 _ _ _ hb1).trans (show _ = some (Value.pointer (some ⟨gr, 0, none⟩)) from rfl)
  have r2 := hr1.c2
  have HR1 := Lib.hid hr1
  clear hb1 hg1 hk hr1 c0 c3 HR
  by_cases hfit : a + n ≤ 8 * s.size
  · have hE : readE s a 0 (n : Nat) = 0 := by unfold readE; rw [if_neg (by omega), if_neg (by omega), if_pos (by omega)]
    have hM : readM s a 0 (n : Nat) = n := by unfold readM; rw [if_pos ⟨rfl, by omega, by omega, by omega⟩]; rfl
    generalize readE s a 0 (n : Nat) = ee at *
    generalize readM s a 0 (n : Nat) = mm at *
    subst ee
    subst mm
    have hlt : bitsAt (num s) a n < 65536 := Nat.lt_of_lt_of_le (Nat.mod_lt _ (Nat.two_pow_pos n)) (Nat.pow_le_pow_right (by omega) (show n ≤ 16 by omega))
    have hw : IntKind.i64.wrap ((bitsAt (num s) a n : Nat) : Int) = ((bitsAt (num s) a n : Nat) : Int) := IntWalk.i64_in _ (by omega)
    have HF := Lib.hid (rfail_ok g gr v lim 0 w1 HB1.out)
    have HANS : Hid (readM1 n (srcR s lim) a o = .ok (bitsAt (num s) a n, a + n, o)) := if_pos (show a + n ≤ 8 * s.size from hfit)
    generalize bitsAt (num s) a n = X at *
    clear hlt
    go_wp2_with fail
    refine HF.out.mono ?_; rintro e w2 ⟨rfl, rfl⟩
    have hset : w1.setCell ⟨g, 3, none⟩ (.int .i64 0) = w1 ∨ True := .inr trivial
    have HB2 : Hid ((w1.setCell ⟨g, 3, none⟩ (.int .i64 0)).heap[g]? = some (stC gr v lim 0)) := heap_setCell_same w1 g 3 _ _ _ HB1.out
    go_wp2_with fail
    go_ret
    rw [HANS.out]
    refine ⟨r, (upr_read HG1.out).then (upr_set w1 3 _), rfl, ?_⟩
    have h1 := HS.out.read HG1.out HR1.out (show a + n ≤ 8 * s.size from hfit)
    obtain ⟨v1, q1, q2, q3, q4, q5⟩ := h1
    rw [HB1.out] at q1
    injection q1 with q1
    unfold stC at q1
    injection q1 with q1
    have hv : v = v1 := by simpa using q1
    subst hv
    refine ⟨v, HB2.out, own_keep (i := 0) q2 (fun b hb => Below.heap_setCell _ _ _ _ (fun e => ?_)) (by simp [World.setCell]), q3, ?_, q5⟩
    · subst e
      exact own_ne (cs := []) q2 HB1.out (by decide) hb
    · exact (Below.heap_setCell _ _ _ _ (fun e => hne e.symm)).trans q4
  · have hE : readE s a 0 (n : Nat) = 3 := by unfold readE; rw [if_neg (by omega), if_neg (by omega), if_neg (by omega)]
    have hM : readM s a 0 (n : Nat) = 0 := by unfold readM; rw [if_neg (by omega)]
    generalize readE s a 0 (n : Nat) = ee at *
    generalize readM s a 0 (n : Nat) = mm at *
    subst ee
    subst mm
    rw [bitsAt_zero]
    have HF := Lib.hid (rfail_ok g gr v lim 3 w1 HB1.out)
    have HANS : Hid (readM1 n (srcR s lim) a o = .error 3) := if_neg (show ¬ a + n ≤ 8 * s.size from hfit)
    go_wp2_with fail
    refine HF.out.mono ?_; rintro e w2 ⟨rfl, rfl⟩
    go_wp2_with fail
    go_ret
    rw [HANS.out]
    exact ⟨r, (upr_read HG1.out).then (upr_set w1 3 _), rfl, rb_set 3 (by decide) (by decide) HB1.out⟩
set_option maxHeartbeats 2000000 in
theorem rnum_no (g k : Nat) (n : Int) (w : World) (hb : RB w g k) :
    Calls Try.prog 21 #[.pointer (some ⟨g, 0, none⟩), .int .i64 n] w fun e w' => e = .returned (.int .i64 0) ∧ w' = w := by
  obtain ⟨gr, v, lim, hb, h1, h2⟩ := hb
  unfold stC at hb
  have c3 := (cell_of_row w g 3 _ _ _ hb).trans (show _ = some (Value.int .i64 (k : Nat)) from rfl)
  have hk : (((k : Nat) : Int) != 0) = true := by rw [bne_iff_ne]; omega
  clear hb
  go_enter Try.func21, Try.ntmps21
  go_wp2
  go_ret
  exact ⟨rfl, rfl⟩
end Go.Proofs.Ytopjmagbcnglhaa

namespace Go.Proofs.Ytopjmagbcnglhaa
set_option maxRecDepth 100000
set_option linter.unusedVariables false
set_option linter.unusedSimpArgs false
open Go.RowKit Go.Deep Go.Joins
theorem row8_slice {w : World} {B n z : Nat} {e : TypeId} {v : Value} {l : List Value} (h : w.ownsRow B e z v n l) : ∃ A c, v = .slice A n c := by
  rcases h.2 with ⟨h1, h2⟩ | ⟨g, cap, cur, h1, _⟩
  · exact ⟨none, 0, by rw [h1, h2]⟩
  · exact ⟨some ⟨g, 0, none⟩, cap, h1⟩
def roomM (n : Nat) : Mm Unit := fun s a o => if o.length + n ≤ s.lim then .ok ((), a, o) else .error 14
set_option maxHeartbeats 4000000 in
theorem rroom_any (B g gr a n : Nat) (r : Option Nat) (s : ByteArray) (lim : Int) (o : List Nat) (hn : n ≤ 1000000) (hl : lim ≤ 1000000000) (w : World) (hS : RS w B g gr r s lim a o) :
    Calls Try.prog 24 #[.pointer (some ⟨g, 0, none⟩), .int .i64 (n : Nat)] w fun e w' => OutR w B g gr r s lim (fun _ e => e = .returned (.tuple #[])) (fun e => e = .returned (.tuple #[])) (roomM n (srcR s lim) a o) e w' := by
  obtain ⟨v, hb, how, _⟩ := hS.blk
  have hro := hS.room
  have HS := Lib.hid hS
  have HB := Lib.hid hb
  obtain ⟨A, cc, rfl⟩ := row8_slice how
  unfold stC at hb
  have c1 := (cell_of_row w g 1 _ _ _ hb).trans (show _ = some (Value.slice A o.length cc) from rfl)
  have c2 := (cell_of_row w g 2 _ _ _ hb).trans (show _ = some (Value.int .i64 lim) from rfl)
  have c3 := (cell_of_row w g 3 _ _ _ hb).trans (show _ = some (Value.int .i64 0) from rfl)
  clear hb hS how
  by_cases h0 : n = 0
  · subst h0
    go_enter Try.func24, Try.ntmps24
    go_wp2_with fail
    first | go_end0 | refine bodyPost_ret (results_none rfl _ _ _) rfl ?_
    unfold roomM
    rw [if_pos (show o.length + 0 ≤ (srcR s lim).lim by show _ ≤ lim.toNat; omega)]
    exact ⟨r, UpR.refl _ _ _ _, rfl, HS.out⟩
  have h0f : (((n : Nat) : Int) == 0) = false := by rw [beq_eq_false_iff_ne]; omega
  by_cases hbad : lim.toNat < o.length + n
  · have HANS : Hid (roomM n (srcR s lim) a o = .error 14) := if_neg (show ¬ o.length + n ≤ lim.toNat by omega)
    have HF := Lib.hid (fun d => rfail_ok g gr (.slice A o.length cc) lim 14 (w.drewN d) HB.out)
    by_cases hneg : lim < 0
    · have hn1 : decide (lim < 0) = true := decide_eq_true hneg
      go_enter Try.func24, Try.ntmps24
      go_wp2_with fail
      go_quiet (fail)
      go_wp2_with fail
      refine (HF.out _).mono ?_; rintro e w2 ⟨rfl, rfl⟩
      go_wp2_with fail
      first | go_end0 | refine bodyPost_ret (results_none rfl _ _ _) rfl ?_
      rw [HANS.out]
      have hb2 := (HS.out.drewN nq).bad 14 (by decide) (by decide)
      exact ⟨r, (upr_drewN w nq).then hb2.2, rfl, hb2.1⟩
    · have hn1 : decide (lim < 0) = false := decide_eq_false hneg
      have hw : IntKind.i64.wrap ((o.length : Int) + (n : Nat)) = (o.length : Int) + (n : Nat) := IntWalk.i64_in _ (by omega)
      have hn2 : decide (lim < (o.length : Int) + (n : Nat)) = true := decide_eq_true (by omega)
      go_enter Try.func24, Try.ntmps24
      go_wp2_with fail
      go_quiet (fail)
      go_wp2_with fail
      refine (HF.out _).mono ?_; rintro e w2 ⟨rfl, rfl⟩
      go_wp2_with fail
      first | go_end0 | refine bodyPost_ret (results_none rfl _ _ _) rfl ?_
      rw [HANS.out]
      have hb2 := (HS.out.drewN nq).bad 14 (by decide) (by decide)
      exact ⟨r, (upr_drewN w nq).then hb2.2, rfl, hb2.1⟩
  · have HANS : Hid (roomM n (srcR s lim) a o = .ok ((), a, o)) := if_pos (show o.length + n ≤ lim.toNat by omega)
    have hn1 : decide (lim < 0) = false := decide_eq_false (by omega)
    have hw : IntKind.i64.wrap ((o.length : Int) + (n : Nat)) = (o.length : Int) + (n : Nat) := IntWalk.i64_in _ (by omega)
    have hn2 : decide (lim < (o.length : Int) + (n : Nat)) = false := decide_eq_false (by omega)
    go_enter Try.func24, Try.ntmps24
    go_wp2_with fail
    go_quiet (fail)
    go_wp2_with fail
    first | go_end0 | refine bodyPost_ret (results_none rfl _ _ _) rfl ?_
    rw [HANS.out]
    exact ⟨r, upr_drewN w nq, rfl, HS.out.drewN nq⟩
set_option maxHeartbeats 2000000 in
theorem rroom_no (g k : Nat) (n : Int) (w : World) (hb : RB w g k) :
    Calls Try.prog 24 #[.pointer (some ⟨g, 0, none⟩), .int .i64 n] w fun e w' => e = .returned (.tuple #[]) ∧ w' = w := by
  obtain ⟨gr, v, lim, hb, h1, h2⟩ := hb
  unfold stC at hb
  have c3 := (cell_of_row w g 3 _ _ _ hb).trans (show _ = some (Value.int .i64 (k : Nat)) from rfl)
  have hk : (((k : Nat) : Int) != 0) = true := by rw [bne_iff_ne]; omega
  clear hb
  go_enter Try.func24, Try.ntmps24
  go_wp2_with fail
  first | go_end0 | refine bodyPost_ret (results_none rfl _ _ _) rfl ?_
  exact ⟨rfl, rfl⟩
end Go.Proofs.Ytopjmagbcnglhaa

namespace Go.Proofs.Ytopjmagbcnglhaa
set_option maxRecDepth 100000
set_option linter.unusedVariables false
set_option linter.unusedSimpArgs false
open Go.RowKit Go.Deep Go.Joins
/-- A tree where it lies. -/
def TabR (w : World) (A : Option Addr) (T : List Int) : Prop := ∃ b cs, A = some ⟨b, 0, none⟩ ∧ w.heap[b]? = some (.cells cs 3 (0, 0)) ∧ ∀ i, i < T.length → cs[i]? = some (.int .i64 (T.getD i 0))
theorem TabR.kept {w w' : World} {S : Nat → Prop} {A : Option Addr} {T : List Int} (h : TabR w A T) (hk : Kept S w w') (hs : ∀ i c, S i → w.heap[i]? ≠ some (.cells c 3 (0, 0))) : TabR w' A T := by
  obtain ⟨b, cs, e, hb, hc⟩ := h
  exact ⟨b, cs, e, (hk.block b (lt_of_block hb) (fun hi => hs b cs hi hb)).trans hb, hc⟩
theorem TabR.below {w w' : World} {A : Option Addr} {T : List Int} (h : TabR w A T) (hb : Below w.heap.size w w') : TabR w' A T := h.kept (S := fun _ => False) (kept_below hb) (fun _ _ h => h.elim)
/-- No block of the stream is a row of numbers. -/
theorem RS.far {w : World} {B g gr a : Nat} {r : Option Nat} {s : ByteArray} {lim : Int} {o : List Nat} (h : RS w B g gr r s lim a o) (i : Nat) (c : Array Value) (hi : i = g ∨ i = gr ∨ some i = r) : w.heap[i]? ≠ some (.cells c 3 (0, 0)) := by
  obtain ⟨v, h1, h2, h3, h4, _⟩ := h
  intro he
  rcases hi with rfl | rfl | hi
  · rw [h1] at he
    unfold stC at he
    injection he with he
    injection he with _ he
    exact absurd he (by decide)
  · unfold Rd at h4
    rw [h4] at he
    injection he with he
    injection he with _ he
    exact absurd he (by decide)
  · exact own_ne (cs := []) h2 he (by decide) (by rw [h3, ← hi])
theorem TabR.up {w w' : World} {B g gr a : Nat} {r r' : Option Nat} {s : ByteArray} {lim : Int} {o : List Nat} {A : Option Addr} {T : List Int} (h : TabR w A T) (hS : RS w B g gr r s lim a o) (hu : UpR g gr r r' w w') : TabR w' A T := h.kept hu.1 (fun i c hi => hS.far i c hi)
set_option maxHeartbeats 2000000 in
theorem rleads_any (A : Option Addr) (c m at_ : Nat) (T : List Int) (hT : T.length = 2 * m) (hat : at_ < m) (hm : m ≤ 1000000) (w : World) (hA : TabR w A T) :
    Calls Try.prog 66 #[.agg #[.slice A T.length c], .int .i64 (at_ : Nat)] w fun e w' => e = .returned (.bool (nx T at_ 0 != 0 || nx T at_ 1 != 0)) ∧ Below w.heap.size w w' := by
  have hip : (Try.prog.info? 75).map (·.size) = some 1 := by kernel_rfl
  obtain ⟨b, cs, rfl, hb, hc⟩ := hA
  have hb0 : Below w.heap.size w (w.alloc (.cells #[.slice (some ⟨b, 0, none⟩) T.length c] 75)) := (Below.refl _ _).alloc (Nat.le_refl _) _
  have hx := heap_alloc_new w (.cells #[.slice (some ⟨b, 0, none⟩) T.length c] 75)
  have hb1 := (hb0.block b (lt_of_block hb)).trans hb
  have e0 : cs[2 * at_]? = some (.int .i64 (nx T at_ 0)) := hc (2 * at_) (by omega)
  have e1 : cs[2 * at_ + 1]? = some (.int .i64 (nx T at_ 1)) := hc (2 * at_ + 1) (by omega)
  have k0 := (cell_of_row _ b (2 * at_) _ _ _ hb1).trans e0
  have k1 := (cell_of_row _ b (2 * at_ + 1) _ _ _ hb1).trans e1
  have d0 := (cell_of_row _ _ 0 _ _ _ hx).trans (show _ = some (Value.slice (some ⟨b, 0, none⟩) T.length c) from rfl)
  have w1 : IntKind.i64.wrap (2 * (at_ : Int)) = ((2 * at_ : Nat) : Int) := by rw [IntWalk.i64_in _ (by omega)]; omega
  have w2 : IntKind.i64.wrap (2 * (at_ : Int) + 1) = ((2 * at_ + 1 : Nat) : Int) := by rw [IntWalk.i64_in _ (by omega)]; omega
  have HB := Lib.hid hb0
  have hl1 : 2 * at_ + 1 < T.length := by omega
  clear hb hb0 hx hb1 e0 e1 hc hT hat hm
  go_enter Try.func66, Try.ntmps66
  go_upto_region 1 with fail
  generalize w.alloc (.cells #[.slice (some ⟨b, 0, none⟩) T.length c] 75) = wa at *
  generalize hgb : w.heap.size = gb at *
  by_cases h0 : nx T at_ 0 = 0
  · have t0 : (nx T at_ 0 != 0) = false := by rw [bne_eq_false_iff_eq]; exact h0
    go_wp2_with fail
    go_ret
    exact ⟨by rw [t0]; rfl, by rw [hgb]; exact HB.out⟩
  · have t0 : (nx T at_ 0 != 0) = true := bne_iff_ne.2 h0
    go_wp2_with fail
    go_ret
    exact ⟨by rw [t0]; rfl, by rw [hgb]; exact HB.out⟩
def rdP (gr : Nat) (w : World) : Nat := match w.cell? ⟨gr, 1, none⟩ with | some (.int _ z) => z.toNat | _ => 0
theorem rdP_of {w : World} {gr a e : Nat} {s : ByteArray} (h : Rd 61 w gr s a e) : rdP gr w = a := by
  unfold rdP
  rw [h.c1]
  rfl
theorem bit_of (s : ByteArray) (a q : Nat) : bitsAt (num s) (a + q) 1 = num s / 2 ^ a / 2 ^ q % 2 := by
  unfold bitsAt
  rw [Nat.pow_add, ← Nat.div_div_eq_div_mul, Nat.pow_one]
theorem TabR.cells {w : World} {A : Option Addr} {T : List Int} (h : TabR w A T) : ∃ b, A = some ⟨b, 0, none⟩ ∧ ∀ n k, k < 2 → 2 * n + k < T.length → w.cell? ⟨b, 2 * n + k, none⟩ = some (.int .i64 (nx T n k)) := by
  obtain ⟨b, cs, e, hb, hc⟩ := h
  exact ⟨b, e, fun n k _ hl => (cell_of_row _ b (2 * n + k) _ _ _ hb).trans (hc _ hl)⟩
set_option maxHeartbeats 8000000 in
theorem rsign_no (g k : Nat) (V : Value) (w : World) (hb : RB w g k) (A : Option Addr) (n c : Nat) (hV : V = .agg #[.slice A n c]) :
    Calls Try.prog 49 #[.pointer (some ⟨g, 0, none⟩), V] w fun e w' => e = .returned (.int .i64 (-1)) ∧ Below w.heap.size w w' := by
  have hip : (Try.prog.info? 75).map (·.size) = some 1 := by kernel_rfl
  subst hV
  obtain ⟨gr, v, lim, hb, h1, h2⟩ := hb
  have hb0 : Below w.heap.size w (w.alloc (.cells #[.slice A n c] 75)) := (Below.refl _ _).alloc (Nat.le_refl _) _
  have hb1 := (hb0.block g (lt_of_block hb)).trans hb
  unfold stC at hb1
  have c3 := (cell_of_row _ g 3 _ _ _ hb1).trans (show _ = some (Value.int .i64 (k : Nat)) from rfl)
  have hk : (((k : Nat) : Int) != 0) = true := by rw [bne_iff_ne]; omega
  have HB := Lib.hid hb0
  clear hb hb1 hb0
  go_enter Try.func49, Try.ntmps49
  go_upto_region 1 with fail
  generalize w.alloc (.cells #[.slice A n c] 75) = wa at *
  generalize hgb : w.heap.size = gb at *
  go_wp2_with fail
  go_ret
  exact ⟨rfl, by rw [hgb]; exact HB.out⟩
set_option maxHeartbeats 8000000 in
theorem rsign_st (B g gr a m : Nat) (r : Option Nat) (s : ByteArray) (lim : Int) (o : List Nat) (c : Cod) (T : List Int) (A : Option Addr) (cap : Nat) (hs : s.size ≤ 1000000) (hcn : c.n ≤ 4096) (h15 : ∀ i, i < c.n → c.ls i ≤ 15) (hmay : may c true) (hT : TW c.ls c.W c.n T m) (hm : m ≤ 1000000) (w : World) (hB : B ≤ w.heap.size) (hS : RS w B g gr r s lim a o) (hA : TabR w A T) :
    Calls Try.prog 49 #[.pointer (some ⟨g, 0, none⟩), .agg #[.slice A T.length cap]] w fun e w' => OutR w B g gr r s lim (fun x e => e = .returned (.int .i64 (x : Nat))) (fun e => e = .returned (.int .i64 (-1))) (signM c (srcR s lim) a o) e w' := by
  have hip : (Try.prog.info? 75).map (·.size) = some 1 := by kernel_rfl
  have hb0 : Below w.heap.size w (w.alloc (.cells #[.slice A T.length cap] 75)) := (Below.refl _ _).alloc (Nat.le_refl _) _
  have HX := Lib.hid (heap_alloc_new w (.cells #[.slice A T.length cap] 75))
  have HS := Lib.hid (hS.below hb0)
  have HA := Lib.hid (hA.below hb0)
  have HU := Lib.hid (upr_below (g := g) (gr := gr) (r := r) hb0)
  have HT := Lib.hid hT
  have H15 := Lib.hid h15
  have HMY := Lib.hid hmay
  have hszA : (w.alloc (.cells #[.slice A T.length cap] 75)).heap.size = w.heap.size + 1 := by simp
  have HSA : Hid (w.heap.size + 1 ≤ (w.alloc (.cells #[.slice A T.length cap] 75)).heap.size) := by show _ ≤ _; omega
  clear hb0 hS hA hT h15 hmay hszA
  go_enter Try.func49, Try.ntmps49
  go_upto_region 1 with fail
  generalize w.alloc (.cells #[.slice A T.length cap] 75) = wa at *
  have hle := HS.out.le
  obtain ⟨v, hb, _⟩ := HS.out.blk
  unfold stC at hb
  have c0 := (cell_of_row _ g 0 _ _ _ hb).trans (show _ = some (Value.pointer (some ⟨gr, 0, none⟩)) from rfl)
  have c3 := (cell_of_row _ g 3 _ _ _ hb).trans (show _ = some (Value.int .i64 0) from rfl)
  have r1 := HS.out.rd.c1
  clear hb
  go_upto_region 3 with fail
  go_quiet (fail)
  clear c0 c3 r1
  replace HS := Lib.hid (HS.out.drewN nq)
  replace HA : Hid (TabR (wa.drewN nq) A T) := HA
  replace HU := Lib.hid (HU.out.then (upr_drewN wa nq))
  replace HX : Hid ((wa.drewN nq).heap[w.heap.size]? = some (.cells #[.slice A T.length cap] 75 (0, 0))) := HX
  go_wp2_with fail
  have HRS := Lib.hid (RS.le (w := wa) (B := B) (g := g) (gr := gr) (a := a) (r := r) (s := s) (lim := lim) (o := o))
  obtain ⟨X, hX⟩ : ∃ X, X = num s / 2 ^ a := ⟨_, rfl⟩
  have HX0 := Lib.hid hX
  clear hX
  go_loopw [5] (fun v5 wr => ∃ q at_ : Nat, v5 = .int .i64 (at_ : Nat) ∧ a + q ≤ 8 * s.size ∧ Hid (node T (rev X q) q = some at_) ∧ Hid (NoW c.ls c.W c.n X q) ∧ Hid (RS wr B g gr r s lim (a + q) o) ∧ Hid (TabR wr A T) ∧ Hid (UpR g gr r r w wr) ∧ Hid (wr.heap[w.heap.size]? = some (.cells #[.slice A T.length cap] 75 (0, 0)))) (fun _ wr => 8 * s.size - rdP gr wr)
  case atStart => exact ⟨0, 0, rfl, hle, rfl, (fun i hi h1 h2 => by omega), HS, HA, HU, HX⟩
  case round =>
    obtain ⟨q, at_, rfl, hq, HN, HNW, HSr, HAr, HUr, HXr⟩ := hrel
    obtain ⟨v, hb, how, hvr⟩ := HSr.out.blk
    have hrd := HSr.out.rd
    have HBr := Lib.hid hb
    have HRr := Lib.hid hrd
    have HOW := Lib.hid (And.intro how hvr)
    unfold stC at hb
    have c0 := (cell_of_row _ g 0 _ _ _ hb).trans (show _ = some (Value.pointer (some ⟨gr, 0, none⟩)) from rfl)
    have c3 := (cell_of_row _ g 3 _ _ _ hb).trans (show _ = some (Value.int .i64 0) from rfl)
    have r0 := hrd.c0
    have r1 := hrd.c1
    have rf := hrd.fr 1
    have t0 := (cell_of_row _ _ 0 _ _ _ HXr.out).trans (show _ = some (Value.slice A T.length cap) from rfl)
    have w8 : IntKind.i64.wrap (8 * (s.size : Int)) = ((8 * s.size : Nat) : Int) := by rw [IntWalk.i64_in _ (by omega)]; omega
    clear hb hrd how hvr
    go_wp2_with fail
    by_cases hend : a + q = 8 * s.size
    · have hd : decide (((8 * s.size : Nat) : Int) ≤ ((a + q : Nat) : Int)) = true := decide_eq_true (by omega)
      have hd2 : decide (8 * (s.size : Int) ≤ (a : Int) + (q : Int)) = true := decide_eq_true (by omega)
      go_quiet (fail)
      go_wp2_with fail
      have hn := HN.out
      have hnw := HNW.out
      rw [HX0.out] at hn hnw
      obtain ⟨k1, k2, k3⟩ := sign_end (s := srcR s lim) (o := o) H15.out HMY.out HT.out hn hnw (show 8 * s.size - a = q by omega)
      have HANS := Lib.hid k3
      have hkept : Kept (fun i => i = g ∨ i = gr ∨ some i = r) wr ((wr.drewN nq).setCell ⟨gr, 1, none⟩ (.int .i64 (a : Nat))) := ((upr_drewN (g := g) (gr := gr) (r := r) wr nq).then (upr_setR (wr.drewN nq) 1 _)).1
      have HL := Lib.hid (rleads_any A cap m at_ T k2 k1 hm _ (HAr.out.kept hkept (fun i c hi => HSr.out.far i c hi)))
      have HB1 : Hid (((wr.drewN nq).setCell ⟨gr, 1, none⟩ (.int .i64 (a : Nat))).heap[g]? = some (stC gr v lim 0)) := (Below.heap_setCell _ _ _ _ (HSr.out.ne)).trans HBr.out
      have HU1 := Lib.hid (HUr.out.then ((upr_drewN (g := g) (gr := gr) (r := r) wr nq).then (upr_setR (wr.drewN nq) 1 (.int .i64 (a : Nat)))))
      clear k1 k2 k3 hkept hn hnw c0 c3 r0 r1 rf t0
      generalize (wr.drewN nq).setCell ⟨gr, 1, none⟩ (.int .i64 (a : Nat)) = wS at *
      refine HL.out.mono ?_; rintro e w2 ⟨rfl, hb2⟩
      have HB2 := Lib.hid ((hb2.block g (lt_of_block HB1.out)).trans HB1.out)
      have HU2 := Lib.hid (HU1.out.then (upr_below hb2))
      clear hb2 HL
      by_cases hc : nx T at_ 0 ≠ 0 ∨ nx T at_ 1 ≠ 0
      · have t1 : (nx T at_ 0 != 0 || nx T at_ 1 != 0) = true := by rw [Bool.or_eq_true, bne_iff_ne, bne_iff_ne]; exact hc
        go_wp2_with fail
        refine (rfail_ok g gr v lim 3 w2 HB2.out).mono ?_; rintro e w3 ⟨rfl, rfl⟩
        go_wp2_with fail
        go_ret
        have ha := HANS.out
        rw [if_pos hc] at ha
        rw [ha]
        exact ⟨r, HU2.out.then (upr_set w2 3 _), rfl, rb_set 3 (by decide) (by decide) HB2.out⟩
      · have t1 : (nx T at_ 0 != 0 || nx T at_ 1 != 0) = false := by
          rw [Bool.eq_false_iff, ne_eq, Bool.or_eq_true, bne_iff_ne, bne_iff_ne]; exact hc
        go_wp2_with fail
        refine (rfail_ok g gr v lim 10 w2 HB2.out).mono ?_; rintro e w3 ⟨rfl, rfl⟩
        go_wp2_with fail
        go_ret
        have ha := HANS.out
        rw [if_neg hc] at ha
        rw [ha]
        exact ⟨r, HU2.out.then (upr_set w2 3 _), rfl, rb_set 10 (by decide) (by decide) HB2.out⟩
    · have hd : decide (((8 * s.size : Nat) : Int) ≤ ((a + q : Nat) : Int)) = false := decide_eq_false (by omega)
      have hd2 : decide (8 * (s.size : Int) ≤ (a : Int) + (q : Int)) = false := decide_eq_false (by omega)
      have hn := HN.out
      have hnw := HNW.out
      rw [HX0.out] at hn hnw
      have haq : a + q < 8 * s.size := Nat.lt_of_le_of_ne hq hend
      obtain ⟨k1, k2, k3, k4, k5⟩ := sign_bit (s := srcR s lim) (o := o) H15.out HMY.out HT.out hn hnw (show a + q < 8 * s.size from Nat.lt_of_le_of_ne hq hend)
      have hbt := bit_of s a q
      have HBT0 : Hid (∀ w : World, Calls Try.prog 67 #[.string s, .int .i64 ((a : Int) + (q : Int))] w fun r w' => r = .returned (.int .u32 (bitsAt (num s) (a + q) 1 : Nat)) ∧ w = w') := fun w => by
        have h := rbit_any s (a + q) hs haq w
        rw [Int.natCast_add] at h
        exact h
      have hlt2 : bitsAt (num s) (a + q) 1 < 2 := by rw [hbt]; exact Nat.mod_lt _ (by omega)
      change _ → _ at k3
      rw [show (srcR s lim).N / 2 ^ a / 2 ^ q % 2 = bitsAt (num s) (a + q) 1 from hbt.symm] at k3 k4 k5
      rw [show (srcR s lim).N / 2 ^ a = X from HX0.out.symm] at k5
      have HK3 := Lib.hid k3
      have HK4 := Lib.hid k4
      have HK5 := Lib.hid k5
      clear k3 k4 k5 hbt hn hnw
      generalize bitsAt (num s) (a + q) 1 = bt at *
      obtain ⟨b, hAb, hcells⟩ := HAr.out.cells
      have kc := hcells at_ bt hlt2 (by omega)
      have hbl : 2 * at_ + bt < T.length := by omega
      subst hAb
      have HHA := Lib.hid hcells
      have hz1 : IntKind.i64.wrap (2 * (at_ : Int)) = ((2 * at_ : Nat) : Int) := by rw [IntWalk.i64_in _ (by omega)]; omega
      have hz2 : IntKind.i64.wrap ((bt : Nat) : Int) = (bt : Nat) := IntWalk.i64_in _ (by omega)
      have hz3 : IntKind.i64.wrap (2 * (at_ : Int) + (bt : Int)) = ((2 * at_ + bt : Nat) : Int) := by rw [IntWalk.i64_in _ (by omega)]; omega
      have HM2 := Lib.hid (And.intro k1 k2)
      clear k1 k2 hcells
      go_quiet (fail)
      generalize nq = n1 at *
      go_wp2_with fail
      go_quiet ((go_at_call 67; exact ((HBT0.out _).mono fun _ _ h => ⟨h.1, _, h.2.symm⟩)))
      go_wp2_with fail
      have HSq := Lib.hid ((HSr.out.drewN n1).drewN nq)
      have HUq := Lib.hid ((HUr.out.then (upr_drewN wr n1)).then (upr_drewN (wr.drewN n1) nq))
      have HAq : Hid (TabR ((wr.drewN n1).drewN nq) (some ⟨b, 0, none⟩) T) := HAr
      have HXq : Hid (((wr.drewN n1).drewN nq).heap[w.heap.size]? = some (.cells #[.slice (some ⟨b, 0, none⟩) T.length cap] 75 (0, 0))) := HXr
      have HBq : Hid (((wr.drewN n1).drewN nq).heap[g]? = some (stC gr v lim 0)) := HBr
      have HRq : Hid (Rd 61 ((wr.drewN n1).drewN nq) gr s (a + q) 0) := HRr
      have hzq : IntKind.i64.wrap ((a : Int) + (q : Int) + 1) = ((a + q + 1 : Nat) : Int) := by rw [IntWalk.i64_in _ (by omega)]; omega
      have hzq2 : IntKind.i64.wrap (((a + q : Nat) : Int) + 1) = ((a + q + 1 : Nat) : Int) := by rw [IntWalk.i64_in _ (by omega)]; omega
      clear c0 c3 r0 r1 rf t0 kc HBT0 hz1 hz2 hz3 hd hd2
      generalize (wr.drewN n1).drewN nq = wq at *
      have hbq := HBq.out
      unfold stC at hbq
      have c0 := (cell_of_row _ g 0 _ _ _ hbq).trans (show _ = some (Value.pointer (some ⟨gr, 0, none⟩)) from rfl)
      have r1 := HRq.out.c1
      have rf := HRq.out.fr 1
      clear hbq
      go_region
      have hval : (Value.int .i64 ((a : Int) + (q : Int) + 1)) = .int .i64 ((a + (q + 1) : Nat) : Int) := by congr 1
      rw [hval]
      have hg := grown_set wq gr 1 (.int .i64 ((a + (q + 1) : Nat) : Int))
      have hgd : wq.grownBy (wq.setCell ⟨gr, 1, none⟩ (.int .i64 ((a + (q + 1) : Nat) : Int))).drew (some gr) := ⟨hg.os, hg.tape, hg.output, hg.size, hg.block⟩
      have hrd2 : Rd 61 (wq.setCell ⟨gr, 1, none⟩ (.int .i64 ((a + (q + 1) : Nat) : Int))).drew gr s (a + (q + 1)) 0 := HRq.out.setAt (a + (q + 1))
      have HS2 := Lib.hid (HSq.out.read hgd hrd2 (show a + (q + 1) ≤ 8 * s.size by omega))
      have HU2 := Lib.hid (HUq.out.then (upr_read (g := g) (r := r) hgd))
      have HA2 := Lib.hid (HAq.out.up HSq.out (upr_read (g := g) (r := r) hgd))
      have hxg : (wq.setCell ⟨gr, 1, none⟩ (.int .i64 ((a + (q + 1) : Nat) : Int))).drew.heap[w.heap.size]? = wq.heap[w.heap.size]? := hgd.block _ (lt_of_block HXq.out) (fun e => by
        injection e with e
        have h1 := HXq.out
        rw [e] at h1
        have h2 := HRq.out
        unfold Rd at h2
        rw [h2] at h1
        injection h1 with h1
        injection h1 with _ h1
        exact absurd h1 (by decide))
      have HX2 := Lib.hid (hxg.trans HXq.out)
      have HRP := Lib.hid (rdP_of hrd2)
      have HRPr := Lib.hid (rdP_of HRr.out)
      clear hval hg hgd hrd2 hxg c0 r1 rf HSq HUq HAq HXq HBq HRq hzq hzq2
      generalize (wq.setCell ⟨gr, 1, none⟩ (.int .i64 ((a + (q + 1) : Nat) : Int))).drew = w2 at *
      obtain ⟨v2, hb2, _⟩ := HS2.out.blk
      have HB2 := Lib.hid hb2
      clear hb2
      by_cases hneg : nx T at_ bt < 0
      · obtain ⟨i, i1, i2, i3⟩ := HK3.out hneg
        have hd3 : decide (nx T at_ bt < 0) = true := decide_eq_true hneg
        have hwi : wrap64 (-1 - nx T at_ bt) = ((i : Nat) : Int) := by rw [i2, show (-1 : Int) - (-1 - (i : Int)) = (i : Int) by omega]; unfold wrap64; omega
        have HANS := Lib.hid i3
        have HWI := Lib.hid hwi
        clear i3 i2 hwi
        go_wp2_with fail
        go_ret
        rw [HANS.out]
        refine ⟨r, HU2.out, ?_, HS2.out⟩
        show Ending.returned (.int .i64 (wrap64 (-1 - nx T at_ bt))) = Ending.returned (.int .i64 ((i : Nat) : Int))
        rw [HWI.out]
      · have hd3 : decide (nx T at_ bt < 0) = false := decide_eq_false hneg
        by_cases hz : nx T at_ bt = 0
        · have hd4 : (nx T at_ bt == 0) = true := by rw [hz]; rfl
          have HANS := Lib.hid (HK4.out hz)
          clear hz hneg
          go_wp2_with fail
          refine (rfail_ok g gr v2 lim 10 w2 HB2.out).mono ?_; rintro e w3 ⟨rfl, rfl⟩
          go_wp2_with fail
          go_ret
          rw [HANS.out]
          exact ⟨r, HU2.out.then (upr_set w2 3 _), rfl, rb_set 10 (by decide) (by decide) HB2.out⟩
        · have hd4 : (nx T at_ bt == 0) = false := beq_eq_false_iff_ne.2 hz
          have hpos : 0 < nx T at_ bt := by omega
          obtain ⟨hn2, hnw2⟩ := HK5.out hpos
          have HN2 := Lib.hid hn2
          have HNW2 := Lib.hid hnw2
          obtain ⟨k, hk⟩ : ∃ k : Nat, nx T at_ bt = (k : Int) := ⟨(nx T at_ bt).toNat, by omega⟩
          have HKK := Lib.hid hk
          clear hn2 hnw2 hk hz hneg hpos
          go_wp2_with fail
          go_roundw
          case rel => exact ⟨q + 1, k, by rw [HKK.out], by omega, by show _ = _; rw [HN2.out, HKK.out]; rfl, HNW2, HS2, HA2, HU2, HX2⟩
          case measure =>
            rw [HRP.out, HRPr.out]
            omega
end Go.Proofs.Ytopjmagbcnglhaa
