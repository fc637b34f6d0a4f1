/-
  block: Put, Size, Best.
-/
import Derived.Test.YtopjmagbcnglhaaBlkO
namespace Go.Proofs.Ytopjmagbcnglhaa
set_option maxRecDepth 100000
open Go.RowKit Go.Joins Go.Deep

theorem dynB_le (f : Nat → Tok) (n : Nat) : (dynB f n).2 ≤ 5000 := by
  have h1 := dHS_bd f n
  have h2 := dHD_bd f n
  have h3 := threeB_len (rowL (dRow f n) (dHS f n + dHD f n)) (rowH (dRow f n) (dHS f n + dHD f n))
  have h4 : rowH (dRow f n) (dHS f n + dHD f n) ≤ 19 := shrN_le _ _ _
  have hsp := split_ex (dRow f n) (dHS f n + dHD f n)
  have hk : kN (dRow f n) (dHS f n + dHD f n) ≤ dHS f n + dHD f n := by
    have key : ∀ k, k ≤ kN (dRow f n) (dHS f n + dHD f n) → k ≤ pzN (dRow f n) (dHS f n + dHD f n) k := by
      intro k
      induction k with
      | zero => exact fun _ => Nat.zero_le _
      | succ k ih =>
        intro hk
        have h5 := ih (by omega)
        have h6 := pc_mn (dRow f n) (dHS f n + dHD f n) _ (hsp.2 k (by omega))
        show k + 1 ≤ pzN (dRow f n) (dHS f n + dHD f n) k + _
        omega
    have := key _ (Nat.le_refl _)
    rw [hsp.1] at this
    exact this
  have h5 := pcB_le (rowC (dRow f n) (dHS f n + dHD f n)) (dRow f n) (dHS f n + dHD f n) (fun i hi => rowL_le _ _ i hi) (kN (dRow f n) (dHS f n + dHD f n)) (fun i hi => (pc_bd _ _ _ (by have := dRow_le f n _ (hsp.2 i hi); omega)).2.1)
  show 5 + 5 + (4 + (threeB _ _).2 + (pcB _ _ _ _).2) ≤ 5000
  omega
/-- A block's bits behind bits. -/
noncomputable def blkB (k : Nat) (f : Nat → Tok) (n : Nat) (s : ByteArray) (last : Bool) (P : Bs) : Bs :=
  if k = 0 then stB s ((P.app (wB (if last = true then 1 else 0) 1)).app (wB k 2))
  else if k = 1 then (((P.app (wB (if last = true then 1 else 0) 1)).app (wB k 2)).app (toksB fixS fixD f n)).app (sgB fixS 256)
  else ((((P.app (wB (if last = true then 1 else 0) 1)).app (wB k 2)).app (dynB f n)).app (toksB (dynS f n) (dynD f n) f n)).app (sgB (dynS f n) 256)
theorem bput_nil (kind : Int) (A : Option Addr) (n cap : Nat) (s : ByteArray) (last : Bool) (w : World) :
    Calls Try.prog 7 #[.pointer none, .int .i64 kind, .slice A n cap, .string s, .bool last] w fun e w' => e = .returned (.int .i64 1) ∧ w' = w := by
  go_enter Try.func7, Try.ntmps7
  go_wp2
  go_ret
  exact ⟨rfl, rfl⟩
set_option maxHeartbeats 2000000 in
theorem bput_bad (gw : Nat) (kind : Int) (A : Option Addr) (n cap : Nat) (f : Nat → Tok) (s : ByteArray) (last : Bool) (x : Int) (hx : x ≠ 0) (hn : n ≤ 1000000) (w : World) (hT : Toks w A n f) (hc : chkE kind f n s = x) :
    Calls Try.prog 7 #[.pointer (some ⟨gw, 0, none⟩), .int .i64 kind, .slice A n cap, .string s, .bool last] w fun e w' => e = .returned (.int .i64 x) ∧ Below w.heap.size w w' := by
  have HC := Lib.hid (check_any kind A n cap f s w hT hn)
  rw [hc] at HC
  have hx' : (x == 0) = false := by rw [beq_eq_false_iff_ne]; exact hx
  clear hc hT
  go_enter Try.func7, Try.ntmps7
  go_wp2_with fail
  (with_reducible refine (HC.out).mono ?_); rintro e w1 ⟨rfl, hb1⟩
  have HB1 := Lib.hid hb1
  clear hb1
  go_wp2_with fail
  go_ret
  exact ⟨rfl, HB1.out⟩
set_option maxHeartbeats 4000000 in
theorem bput_00 (Bw gw : Nat) (A : Option Addr) (n cap : Nat) (f : Nat → Tok) (s : ByteArray) (r : Option Nat) (P : Bs) (hn : n ≤ 100000) (hL : P.2 ≤ 80000000) (w : World) (hB : Bw ≤ w.heap.size) (hT : TokB w Bw A n f) (hw : WrB w Bw gw r P) (hc : chkE 0 f n s = 0) (hR : ∀ i, i < n → rightT (f i) = true) (hs : s.size ≤ 65535) :
    Calls Try.prog 7 #[.pointer (some ⟨gw, 0, none⟩), .int .i64 0, .slice A n cap, .string s, .bool false] w fun e w' => e = .returned (.int .i64 0) ∧ Emits w Bw gw r (blkB 0 f n s false P) w' := by
  have HC := Lib.hid (check_any 0 A n cap f s w hT.toks (by omega))
  rw [hc] at HC
  have HT := Lib.hid hT
  have HW := Lib.hid hw
  have HR := Lib.hid hR
  clear hc hT hw hR
  go_enter Try.func7, Try.ntmps7
  go_wp2_with fail
  (with_reducible refine (HC.out).mono ?_); rintro e w1 ⟨rfl, hb1⟩
  have HB1 := Lib.hid hb1
  have HT1 := Lib.hid (HT.out.later hb1 (Nat.le_refl _))
  have HW1 := Lib.hid (HW.out.below hb1)
  have HBW1 : Hid (Bw ≤ w1.heap.size) := Nat.le_trans hB hb1.size
  have H1 := Lib.hid (write_b Bw gw 0 1 r P (by omega) (by omega) (by omega) w1 HBW1.out HW1.out)
  rw [show ((0 : Nat) : Int) = 0 from rfl, show ((1 : Nat) : Int) = 1 from rfl] at H1
  clear hb1 HC
  go_wp2_with fail
  (with_reducible refine (H1.out).mono ?_); rintro e w2 ⟨rfl, r2, hw2, hu2⟩
  have HU2 := Lib.hid ((upd_below (g := gw) (r := r) HB1.out).then hu2)
  have HT2 := Lib.hid (HT1.out.upd HW1.out hu2)
  have HBW2 : Hid (Bw ≤ w2.heap.size) := Nat.le_trans HBW1.out hu2.1.size
  have H2 := Lib.hid (write_b Bw gw 0 2 r2 _ (by show P.2 + 1 ≤ _; omega) (by omega) (by omega) w2 HBW2.out hw2)
  rw [show ((0 : Nat) : Int) = 0 from rfl, show ((2 : Nat) : Int) = 2 from rfl] at H2
  have HW2 := Lib.hid hw2
  clear hw2 hu2 H1
  go_wp2_with fail
  (with_reducible refine (H2.out).mono ?_); rintro e w3 ⟨rfl, r3, hw3, hu3⟩
  have HU3 := Lib.hid (HU2.out.then hu3)
  have HT3 := Lib.hid (HT2.out.upd HW2.out hu3)
  have HBW3 : Hid (Bw ≤ w3.heap.size) := Nat.le_trans HBW2.out hu3.1.size
  have HW3 := Lib.hid hw3
  clear hw3 hu3 H2
  have HS := Lib.hid (stored_put Bw gw s r3 _ hs (by show P.2 + 1 + 2 ≤ _; omega) w3 HBW3.out HW3.out)
  go_wp2_with fail
  (with_reducible refine (HS.out).mono ?_); rintro e w4 ⟨rfl, hem⟩
  have HE := Lib.hid (Emits.then HU3.out hem)
  clear hem
  go_wp2_with fail
  go_ret
  exact ⟨rfl, HE.out⟩
set_option maxHeartbeats 4000000 in
theorem bput_01 (Bw gw : Nat) (A : Option Addr) (n cap : Nat) (f : Nat → Tok) (s : ByteArray) (r : Option Nat) (P : Bs) (hn : n ≤ 100000) (hL : P.2 ≤ 80000000) (w : World) (hB : Bw ≤ w.heap.size) (hT : TokB w Bw A n f) (hw : WrB w Bw gw r P) (hc : chkE 0 f n s = 0) (hR : ∀ i, i < n → rightT (f i) = true) (hs : s.size ≤ 65535) :
    Calls Try.prog 7 #[.pointer (some ⟨gw, 0, none⟩), .int .i64 0, .slice A n cap, .string s, .bool true] w fun e w' => e = .returned (.int .i64 0) ∧ Emits w Bw gw r (blkB 0 f n s true P) w' := by
  have HC := Lib.hid (check_any 0 A n cap f s w hT.toks (by omega))
  rw [hc] at HC
  have HT := Lib.hid hT
  have HW := Lib.hid hw
  have HR := Lib.hid hR
  clear hc hT hw hR
  go_enter Try.func7, Try.ntmps7
  go_wp2_with fail
  (with_reducible refine (HC.out).mono ?_); rintro e w1 ⟨rfl, hb1⟩
  have HB1 := Lib.hid hb1
  have HT1 := Lib.hid (HT.out.later hb1 (Nat.le_refl _))
  have HW1 := Lib.hid (HW.out.below hb1)
  have HBW1 : Hid (Bw ≤ w1.heap.size) := Nat.le_trans hB hb1.size
  have H1 := Lib.hid (write_b Bw gw 1 1 r P (by omega) (by omega) (by omega) w1 HBW1.out HW1.out)
  rw [show ((1 : Nat) : Int) = 1 from rfl] at H1
  clear hb1 HC
  go_wp2_with fail
  (with_reducible refine (H1.out).mono ?_); rintro e w2 ⟨rfl, r2, hw2, hu2⟩
  have HU2 := Lib.hid ((upd_below (g := gw) (r := r) HB1.out).then hu2)
  have HT2 := Lib.hid (HT1.out.upd HW1.out hu2)
  have HBW2 : Hid (Bw ≤ w2.heap.size) := Nat.le_trans HBW1.out hu2.1.size
  have H2 := Lib.hid (write_b Bw gw 0 2 r2 _ (by show P.2 + 1 ≤ _; omega) (by omega) (by omega) w2 HBW2.out hw2)
  rw [show ((0 : Nat) : Int) = 0 from rfl, show ((2 : Nat) : Int) = 2 from rfl] at H2
  have HW2 := Lib.hid hw2
  clear hw2 hu2 H1
  go_wp2_with fail
  (with_reducible refine (H2.out).mono ?_); rintro e w3 ⟨rfl, r3, hw3, hu3⟩
  have HU3 := Lib.hid (HU2.out.then hu3)
  have HT3 := Lib.hid (HT2.out.upd HW2.out hu3)
  have HBW3 : Hid (Bw ≤ w3.heap.size) := Nat.le_trans HBW2.out hu3.1.size
  have HW3 := Lib.hid hw3
  clear hw3 hu3 H2
  have HS := Lib.hid (stored_put Bw gw s r3 _ hs (by show P.2 + 1 + 2 ≤ _; omega) w3 HBW3.out HW3.out)
  go_wp2_with fail
  (with_reducible refine (HS.out).mono ?_); rintro e w4 ⟨rfl, hem⟩
  have HE := Lib.hid (Emits.then HU3.out hem)
  clear hem
  go_wp2_with fail
  go_ret
  exact ⟨rfl, HE.out⟩
set_option maxHeartbeats 4000000 in
theorem bput_10 (Bw gw : Nat) (A : Option Addr) (n cap : Nat) (f : Nat → Tok) (s : ByteArray) (r : Option Nat) (P : Bs) (hn : n ≤ 100000) (hL : P.2 ≤ 80000000) (w : World) (hB : Bw ≤ w.heap.size) (hT : TokB w Bw A n f) (hw : WrB w Bw gw r P) (hc : chkE 1 f n s = 0) (hR : ∀ i, i < n → rightT (f i) = true) :
    Calls Try.prog 7 #[.pointer (some ⟨gw, 0, none⟩), .int .i64 1, .slice A n cap, .string s, .bool false] w fun e w' => e = .returned (.int .i64 0) ∧ Emits w Bw gw r (blkB 1 f n s false P) w' := by
  have HC := Lib.hid (check_any 1 A n cap f s w hT.toks (by omega))
  rw [hc] at HC
  have HT := Lib.hid hT
  have HW := Lib.hid hw
  have HR := Lib.hid hR
  clear hc hT hw hR
  go_enter Try.func7, Try.ntmps7
  go_wp2_with fail
  (with_reducible refine (HC.out).mono ?_); rintro e w1 ⟨rfl, hb1⟩
  have HB1 := Lib.hid hb1
  have HT1 := Lib.hid (HT.out.later hb1 (Nat.le_refl _))
  have HW1 := Lib.hid (HW.out.below hb1)
  have HBW1 : Hid (Bw ≤ w1.heap.size) := Nat.le_trans hB hb1.size
  have H1 := Lib.hid (write_b Bw gw 0 1 r P (by omega) (by omega) (by omega) w1 HBW1.out HW1.out)
  rw [show ((0 : Nat) : Int) = 0 from rfl, show ((1 : Nat) : Int) = 1 from rfl] at H1
  clear hb1 HC
  go_wp2_with fail
  (with_reducible refine (H1.out).mono ?_); rintro e w2 ⟨rfl, r2, hw2, hu2⟩
  have HU2 := Lib.hid ((upd_below (g := gw) (r := r) HB1.out).then hu2)
  have HT2 := Lib.hid (HT1.out.upd HW1.out hu2)
  have HBW2 : Hid (Bw ≤ w2.heap.size) := Nat.le_trans HBW1.out hu2.1.size
  have H2 := Lib.hid (write_b Bw gw 1 2 r2 _ (by show P.2 + 1 ≤ _; omega) (by omega) (by omega) w2 HBW2.out hw2)
  rw [show ((1 : Nat) : Int) = 1 from rfl, show ((2 : Nat) : Int) = 2 from rfl] at H2
  have HW2 := Lib.hid hw2
  clear hw2 hu2 H1
  go_wp2_with fail
  (with_reducible refine (H2.out).mono ?_); rintro e w3 ⟨rfl, r3, hw3, hu3⟩
  have HU3 := Lib.hid (HU2.out.then hu3)
  have HT3 := Lib.hid (HT2.out.upd HW2.out hu3)
  have HBW3 : Hid (Bw ≤ w3.heap.size) := Nat.le_trans HBW2.out hu3.1.size
  have HW3 := Lib.hid hw3
  clear hw3 hu3 H2
  have HF := Lib.hid (bfixed_any w3)
  go_wp2_with fail
  (refine (HF.out).mono ?_); rintro e w4 ⟨⟨gs, gd, rfl, hcs, hcd⟩, hb4⟩
  have HW4 := Lib.hid (HW3.out.below hb4)
  have HU4 := Lib.hid (HU3.out.then (upd_below (g := gw) (r := r3) hb4))
  have HPT := Lib.hid (codes_put gs gd Bw gw n cap A f r3 _ fixS fixD hn (by show P.2 + 1 + 2 ≤ _; omega) HR.out w4 (Nat.le_trans HBW3.out hb4.size) hcs hcd (HT3.out.later hb4 (Nat.le_refl _)) HW4.out)
  clear hcs hcd hb4 HF
  go_wp2_with fail
  (refine (HPT.out).mono ?_); rintro e w5 ⟨rfl, hem⟩
  have HE := Lib.hid (Emits.then HU4.out hem)
  clear hem
  go_wp2_with fail
  go_ret
  exact ⟨rfl, HE.out⟩
set_option maxHeartbeats 4000000 in
theorem bput_11 (Bw gw : Nat) (A : Option Addr) (n cap : Nat) (f : Nat → Tok) (s : ByteArray) (r : Option Nat) (P : Bs) (hn : n ≤ 100000) (hL : P.2 ≤ 80000000) (w : World) (hB : Bw ≤ w.heap.size) (hT : TokB w Bw A n f) (hw : WrB w Bw gw r P) (hc : chkE 1 f n s = 0) (hR : ∀ i, i < n → rightT (f i) = true) :
    Calls Try.prog 7 #[.pointer (some ⟨gw, 0, none⟩), .int .i64 1, .slice A n cap, .string s, .bool true] w fun e w' => e = .returned (.int .i64 0) ∧ Emits w Bw gw r (blkB 1 f n s true P) w' := by
  have HC := Lib.hid (check_any 1 A n cap f s w hT.toks (by omega))
  rw [hc] at HC
  have HT := Lib.hid hT
  have HW := Lib.hid hw
  have HR := Lib.hid hR
  clear hc hT hw hR
  go_enter Try.func7, Try.ntmps7
  go_wp2_with fail
  (with_reducible refine (HC.out).mono ?_); rintro e w1 ⟨rfl, hb1⟩
  have HB1 := Lib.hid hb1
  have HT1 := Lib.hid (HT.out.later hb1 (Nat.le_refl _))
  have HW1 := Lib.hid (HW.out.below hb1)
  have HBW1 : Hid (Bw ≤ w1.heap.size) := Nat.le_trans hB hb1.size
  have H1 := Lib.hid (write_b Bw gw 1 1 r P (by omega) (by omega) (by omega) w1 HBW1.out HW1.out)
  rw [show ((1 : Nat) : Int) = 1 from rfl] at H1
  clear hb1 HC
  go_wp2_with fail
  (with_reducible refine (H1.out).mono ?_); rintro e w2 ⟨rfl, r2, hw2, hu2⟩
  have HU2 := Lib.hid ((upd_below (g := gw) (r := r) HB1.out).then hu2)
  have HT2 := Lib.hid (HT1.out.upd HW1.out hu2)
  have HBW2 : Hid (Bw ≤ w2.heap.size) := Nat.le_trans HBW1.out hu2.1.size
  have H2 := Lib.hid (write_b Bw gw 1 2 r2 _ (by show P.2 + 1 ≤ _; omega) (by omega) (by omega) w2 HBW2.out hw2)
  rw [show ((1 : Nat) : Int) = 1 from rfl, show ((2 : Nat) : Int) = 2 from rfl] at H2
  have HW2 := Lib.hid hw2
  clear hw2 hu2 H1
  go_wp2_with fail
  (with_reducible refine (H2.out).mono ?_); rintro e w3 ⟨rfl, r3, hw3, hu3⟩
  have HU3 := Lib.hid (HU2.out.then hu3)
  have HT3 := Lib.hid (HT2.out.upd HW2.out hu3)
  have HBW3 : Hid (Bw ≤ w3.heap.size) := Nat.le_trans HBW2.out hu3.1.size
  have HW3 := Lib.hid hw3
  clear hw3 hu3 H2
  have HF := Lib.hid (bfixed_any w3)
  go_wp2_with fail
  (refine (HF.out).mono ?_); rintro e w4 ⟨⟨gs, gd, rfl, hcs, hcd⟩, hb4⟩
  have HW4 := Lib.hid (HW3.out.below hb4)
  have HU4 := Lib.hid (HU3.out.then (upd_below (g := gw) (r := r3) hb4))
  have HPT := Lib.hid (codes_put gs gd Bw gw n cap A f r3 _ fixS fixD hn (by show P.2 + 1 + 2 ≤ _; omega) HR.out w4 (Nat.le_trans HBW3.out hb4.size) hcs hcd (HT3.out.later hb4 (Nat.le_refl _)) HW4.out)
  clear hcs hcd hb4 HF
  go_wp2_with fail
  (refine (HPT.out).mono ?_); rintro e w5 ⟨rfl, hem⟩
  have HE := Lib.hid (Emits.then HU4.out hem)
  clear hem
  go_wp2_with fail
  go_ret
  exact ⟨rfl, HE.out⟩
set_option maxHeartbeats 4000000 in
theorem bput_20 (Bw gw : Nat) (A : Option Addr) (n cap : Nat) (f : Nat → Tok) (s : ByteArray) (r : Option Nat) (P : Bs) (hn : n ≤ 100000) (hL : P.2 ≤ 80000000) (w : World) (hB : Bw ≤ w.heap.size) (hT : TokB w Bw A n f) (hw : WrB w Bw gw r P) (hc : chkE 2 f n s = 0) (hR : ∀ i, i < n → rightT (f i) = true) :
    Calls Try.prog 7 #[.pointer (some ⟨gw, 0, none⟩), .int .i64 2, .slice A n cap, .string s, .bool false] w fun e w' => e = .returned (.int .i64 0) ∧ Emits w Bw gw r (blkB 2 f n s false P) w' := by
  have HC := Lib.hid (check_any 2 A n cap f s w hT.toks (by omega))
  rw [hc] at HC
  have HT := Lib.hid hT
  have HW := Lib.hid hw
  have HR := Lib.hid hR
  clear hc hT hw hR
  go_enter Try.func7, Try.ntmps7
  go_wp2_with fail
  (with_reducible refine (HC.out).mono ?_); rintro e w1 ⟨rfl, hb1⟩
  have HB1 := Lib.hid hb1
  have HT1 := Lib.hid (HT.out.later hb1 (Nat.le_refl _))
  have HW1 := Lib.hid (HW.out.below hb1)
  have HBW1 : Hid (Bw ≤ w1.heap.size) := Nat.le_trans hB hb1.size
  have H1 := Lib.hid (write_b Bw gw 0 1 r P (by omega) (by omega) (by omega) w1 HBW1.out HW1.out)
  rw [show ((0 : Nat) : Int) = 0 from rfl, show ((1 : Nat) : Int) = 1 from rfl] at H1
  clear hb1 HC
  go_wp2_with fail
  (with_reducible refine (H1.out).mono ?_); rintro e w2 ⟨rfl, r2, hw2, hu2⟩
  have HU2 := Lib.hid ((upd_below (g := gw) (r := r) HB1.out).then hu2)
  have HT2 := Lib.hid (HT1.out.upd HW1.out hu2)
  have HBW2 : Hid (Bw ≤ w2.heap.size) := Nat.le_trans HBW1.out hu2.1.size
  have H2 := Lib.hid (write_b Bw gw 2 2 r2 _ (by show P.2 + 1 ≤ _; omega) (by omega) (by omega) w2 HBW2.out hw2)
  rw [show ((2 : Nat) : Int) = 2 from rfl] at H2
  have HW2 := Lib.hid hw2
  clear hw2 hu2 H1
  go_wp2_with fail
  (with_reducible refine (H2.out).mono ?_); rintro e w3 ⟨rfl, r3, hw3, hu3⟩
  have HU3 := Lib.hid (HU2.out.then hu3)
  have HT3 := Lib.hid (HT2.out.upd HW2.out hu3)
  have HBW3 : Hid (Bw ≤ w3.heap.size) := Nat.le_trans HBW2.out hu3.1.size
  have HW3 := Lib.hid hw3
  clear hw3 hu3 H2
  have HF := Lib.hid (dynamic_any Bw gw n cap A f r3 _ hn (by show P.2 + 1 + 2 ≤ _; omega) w3 HBW3.out HT3.out.toks HW3.out)
  have hdl := dynB_le f n
  go_wp2_with fail
  (refine (HF.out).mono ?_); rintro e w4 ⟨⟨gs, gd, rfl, hcs, hcd⟩, r4, hw4, hu4⟩
  have HU4 := Lib.hid (HU3.out.then hu4)
  have HPT := Lib.hid (codes_put gs gd Bw gw n cap A f r4 _ (dynS f n) (dynD f n) hn (by show P.2 + 1 + 2 + (dynB f n).2 ≤ _; omega) HR.out w4 (Nat.le_trans HBW3.out hu4.1.size) hcs hcd (HT3.out.upd HW3.out hu4) hw4)
  clear hcs hcd hw4 hu4 HF hdl
  go_wp2_with fail
  (refine (HPT.out).mono ?_); rintro e w5 ⟨rfl, hem⟩
  have HE := Lib.hid (Emits.then HU4.out hem)
  clear hem
  go_wp2_with fail
  go_ret
  exact ⟨rfl, HE.out⟩
set_option maxHeartbeats 4000000 in
theorem bput_21 (Bw gw : Nat) (A : Option Addr) (n cap : Nat) (f : Nat → Tok) (s : ByteArray) (r : Option Nat) (P : Bs) (hn : n ≤ 100000) (hL : P.2 ≤ 80000000) (w : World) (hB : Bw ≤ w.heap.size) (hT : TokB w Bw A n f) (hw : WrB w Bw gw r P) (hc : chkE 2 f n s = 0) (hR : ∀ i, i < n → rightT (f i) = true) :
    Calls Try.prog 7 #[.pointer (some ⟨gw, 0, none⟩), .int .i64 2, .slice A n cap, .string s, .bool true] w fun e w' => e = .returned (.int .i64 0) ∧ Emits w Bw gw r (blkB 2 f n s true P) w' := by
  have HC := Lib.hid (check_any 2 A n cap f s w hT.toks (by omega))
  rw [hc] at HC
  have HT := Lib.hid hT
  have HW := Lib.hid hw
  have HR := Lib.hid hR
  clear hc hT hw hR
  go_enter Try.func7, Try.ntmps7
  go_wp2_with fail
  (with_reducible refine (HC.out).mono ?_); rintro e w1 ⟨rfl, hb1⟩
  have HB1 := Lib.hid hb1
  have HT1 := Lib.hid (HT.out.later hb1 (Nat.le_refl _))
  have HW1 := Lib.hid (HW.out.below hb1)
  have HBW1 : Hid (Bw ≤ w1.heap.size) := Nat.le_trans hB hb1.size
  have H1 := Lib.hid (write_b Bw gw 1 1 r P (by omega) (by omega) (by omega) w1 HBW1.out HW1.out)
  rw [show ((1 : Nat) : Int) = 1 from rfl] at H1
  clear hb1 HC
  go_wp2_with fail
  (with_reducible refine (H1.out).mono ?_); rintro e w2 ⟨rfl, r2, hw2, hu2⟩
  have HU2 := Lib.hid ((upd_below (g := gw) (r := r) HB1.out).then hu2)
  have HT2 := Lib.hid (HT1.out.upd HW1.out hu2)
  have HBW2 : Hid (Bw ≤ w2.heap.size) := Nat.le_trans HBW1.out hu2.1.size
  have H2 := Lib.hid (write_b Bw gw 2 2 r2 _ (by show P.2 + 1 ≤ _; omega) (by omega) (by omega) w2 HBW2.out hw2)
  rw [show ((2 : Nat) : Int) = 2 from rfl] at H2
  have HW2 := Lib.hid hw2
  clear hw2 hu2 H1
  go_wp2_with fail
  (with_reducible refine (H2.out).mono ?_); rintro e w3 ⟨rfl, r3, hw3, hu3⟩
  have HU3 := Lib.hid (HU2.out.then hu3)
  have HT3 := Lib.hid (HT2.out.upd HW2.out hu3)
  have HBW3 : Hid (Bw ≤ w3.heap.size) := Nat.le_trans HBW2.out hu3.1.size
  have HW3 := Lib.hid hw3
  clear hw3 hu3 H2
  have HF := Lib.hid (dynamic_any Bw gw n cap A f r3 _ hn (by show P.2 + 1 + 2 ≤ _; omega) w3 HBW3.out HT3.out.toks HW3.out)
  have hdl := dynB_le f n
  go_wp2_with fail
  (refine (HF.out).mono ?_); rintro e w4 ⟨⟨gs, gd, rfl, hcs, hcd⟩, r4, hw4, hu4⟩
  have HU4 := Lib.hid (HU3.out.then hu4)
  have HPT := Lib.hid (codes_put gs gd Bw gw n cap A f r4 _ (dynS f n) (dynD f n) hn (by show P.2 + 1 + 2 + (dynB f n).2 ≤ _; omega) HR.out w4 (Nat.le_trans HBW3.out hu4.1.size) hcs hcd (HT3.out.upd HW3.out hu4) hw4)
  clear hcs hcd hw4 hu4 HF hdl
  go_wp2_with fail
  (refine (HPT.out).mono ?_); rintro e w5 ⟨rfl, hem⟩
  have HE := Lib.hid (Emits.then HU4.out hem)
  clear hem
  go_wp2_with fail
  go_ret
  exact ⟨rfl, HE.out⟩
theorem chk_zero {kind : Int} {f : Nat → Tok} {n : Nat} {s : ByteArray} (h : chkE kind f n s = 0) : ∃ k : Nat, kind = (k : Nat) ∧ k ≤ 2 ∧ (∀ i, i < n → rightT (f i) = true) ∧ (k = 0 → s.size ≤ 65535) := by
  unfold chkE at h
  split at h
  · cases h
  · rename_i hk
    split at h
    · rename_i hr
      split at h
      · cases h
      · rename_i h0
        obtain ⟨k, rfl⟩ := Int.eq_ofNat_of_zero_le (show 0 ≤ kind by omega)
        exact ⟨k, rfl, by omega, hr, fun e => by omega⟩
    · cases h
/-- Put, where nothing is wrong. -/
theorem bput_any (Bw gw k : Nat) (A : Option Addr) (n cap : Nat) (f : Nat → Tok) (s : ByteArray) (last : Bool) (r : Option Nat) (P : Bs) (hn : n ≤ 100000) (hL : P.2 ≤ 80000000) (w : World) (hB : Bw ≤ w.heap.size) (hT : TokB w Bw A n f) (hw : WrB w Bw gw r P) (hc : chkE (k : Nat) f n s = 0) :
    Calls Try.prog 7 #[.pointer (some ⟨gw, 0, none⟩), .int .i64 (k : Nat), .slice A n cap, .string s, .bool last] w fun e w' => e = .returned (.int .i64 0) ∧ Emits w Bw gw r (blkB k f n s last P) w' := by
  obtain ⟨k', hk, hk2, hr, hs⟩ := chk_zero hc
  obtain rfl : k = k' := by omega
  match k, hk2, last with
  | 0, _, false => exact bput_00 Bw gw A n cap f s r P hn hL w hB hT hw hc hr (hs rfl)
  | 0, _, true => exact bput_01 Bw gw A n cap f s r P hn hL w hB hT hw hc hr (hs rfl)
  | 1, _, false => exact bput_10 Bw gw A n cap f s r P hn hL w hB hT hw hc hr
  | 1, _, true => exact bput_11 Bw gw A n cap f s r P hn hL w hB hT hw hc hr
  | 2, _, false => exact bput_20 Bw gw A n cap f s r P hn hL w hB hT hw hc hr
  | 2, _, true => exact bput_21 Bw gw A n cap f s r P hn hL w hB hT hw hc hr
end Go.Proofs.Ytopjmagbcnglhaa
