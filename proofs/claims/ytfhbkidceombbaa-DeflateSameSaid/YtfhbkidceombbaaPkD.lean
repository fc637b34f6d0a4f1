/-
  block: Put, Size, Best.
  block: Size and Best.
  BlockSizes: the statement's own right, the document's StoredBits and Fixed; the sizes of stored and fixed blocks; which kind is best.
-/
import Derived.Test.YtfhbkidceombbaaPkC
import Derived.Test.YtfhbkidceombbaaPkE

namespace Go.Proofs.Ytfhbkidceombbaa
set_option maxRecDepth 100000
open Go.RowKit Go.Joins Go.Deep

theorem dynB_le (f : Nat → Tok) (n : Nat) : (dynB f n).2 ≤ 5000 := by
  have h1 := dHS_bd f n
  have h2 := dHD_bd f n
  have h3 := threeB_len (rowL (dRow f n) (dHS f n + dHD f n)) (rowH (dRow f n) (dHS f n + dHD f n))
  have h4 : rowH (dRow f n) (dHS f n + dHD f n) ≤ 19 := shrN_le _ _ _
  have hsp := split_ex (dRow f n) (dHS f n + dHD f n)
  have hk : kN (dRow f n) (dHS f n + dHD f n) ≤ dHS f n + dHD f n := by
    have key : ∀ k, k ≤ kN (dRow f n) (dHS f n + dHD f n) → k ≤ pzN (dRow f n) (dHS f n + dHD f n) k := by
      intro k
      induction k with
      | zero => exact fun _ => Nat.zero_le _
      | succ k ih =>
        intro hk
        have h5 := ih (by omega)
        have h6 := pc_mn (dRow f n) (dHS f n + dHD f n) _ (hsp.2 k (by omega))
        show k + 1 ≤ pzN (dRow f n) (dHS f n + dHD f n) k + _
        omega
    have := key _ (Nat.le_refl _)
    rw [hsp.1] at this
    exact this
  have h5 := pcB_le (rowC (dRow f n) (dHS f n + dHD f n)) (dRow f n) (dHS f n + dHD f n) (fun i hi => rowL_le _ _ i hi) (kN (dRow f n) (dHS f n + dHD f n)) (fun i hi => (pc_bd _ _ _ (by have := dRow_le f n _ (hsp.2 i hi); omega)).2.1)
  show 5 + 5 + (4 + (threeB _ _).2 + (pcB _ _ _ _).2) ≤ 5000
  omega
/-- A block's bits behind bits. -/
noncomputable def blkB (k : Nat) (f : Nat → Tok) (n : Nat) (s : ByteArray) (last : Bool) (P : Bs) : Bs :=
  if k = 0 then stB s ((P.app (wB (if last = true then 1 else 0) 1)).app (wB k 2))
  else if k = 1 then (((P.app (wB (if last = true then 1 else 0) 1)).app (wB k 2)).app (toksB fixS fixD f n)).app (sgB fixS 256)
  else ((((P.app (wB (if last = true then 1 else 0) 1)).app (wB k 2)).app (dynB f n)).app (toksB (dynS f n) (dynD f n) f n)).app (sgB (dynS f n) 256)
theorem bput_nil (kind : Int) (A : Option Addr) (n cap : Nat) (s : ByteArray) (last : Bool) (w : World) :
    Calls Try.prog 9 #[.pointer none, .int .i64 kind, .slice A n cap, .string s, .bool last] w fun e w' => e = .returned (.int .i64 1) ∧ w' = w := by
  go_enter Try.func9, Try.ntmps9
  go_wp2
  go_ret
  exact ⟨rfl, rfl⟩
set_option maxHeartbeats 2000000 in
theorem bput_bad (gw : Nat) (kind : Int) (A : Option Addr) (n cap : Nat) (f : Nat → Tok) (s : ByteArray) (last : Bool) (x : Int) (hx : x ≠ 0) (hn : n ≤ 1000000) (w : World) (hT : Toks w A n f) (hc : chkE kind f n s = x) :
    Calls Try.prog 9 #[.pointer (some ⟨gw, 0, none⟩), .int .i64 kind, .slice A n cap, .string s, .bool last] w fun e w' => e = .returned (.int .i64 x) ∧ Below w.heap.size w w' := by
  have HC := Lib.hid (check_any kind A n cap f s w hT hn)
  rw [hc] at HC
  have hx' : (x == 0) = false := by rw [beq_eq_false_iff_ne]; exact hx
  clear hc hT
  go_enter Try.func9, Try.ntmps9
  go_wp2_with fail
  (with_reducible refine (HC.out).mono ?_); rintro e w1 ⟨rfl, hb1⟩
  have HB1 := Lib.hid hb1
  clear hb1
  go_wp2_with fail
  go_ret
  exact ⟨rfl, HB1.out⟩
set_option maxHeartbeats 4000000 in
theorem bput_00 (Bw gw : Nat) (A : Option Addr) (n cap : Nat) (f : Nat → Tok) (s : ByteArray) (r : Option Nat) (P : Bs) (hn : n ≤ 100000) (hL : P.2 ≤ 80000000) (w : World) (hB : Bw ≤ w.heap.size) (hT : TokB w Bw A n f) (hw : WrB w Bw gw r P) (hc : chkE 0 f n s = 0) (hR : ∀ i, i < n → rightT (f i) = true) (hs : s.size ≤ 65535) :
    Calls Try.prog 9 #[.pointer (some ⟨gw, 0, none⟩), .int .i64 0, .slice A n cap, .string s, .bool false] w fun e w' => e = .returned (.int .i64 0) ∧ Emits w Bw gw r (blkB 0 f n s false P) w' := by
  have HC := Lib.hid (check_any 0 A n cap f s w hT.toks (by omega))
  rw [hc] at HC
  have HT := Lib.hid hT
  have HW := Lib.hid hw
  have HR := Lib.hid hR
  clear hc hT hw hR
  go_enter Try.func9, Try.ntmps9
  go_wp2_with fail
  (with_reducible refine (HC.out).mono ?_); rintro e w1 ⟨rfl, hb1⟩
  have HB1 := Lib.hid hb1
  have HT1 := Lib.hid (HT.out.later hb1 (Nat.le_refl _))
  have HW1 := Lib.hid (HW.out.below hb1)
  have HBW1 : Hid (Bw ≤ w1.heap.size) := Nat.le_trans hB hb1.size
  have H1 := Lib.hid (write_b Bw gw 0 1 r P (by omega) (by omega) (by omega) w1 HBW1.out HW1.out)
  rw [show ((0 : Nat) : Int) = 0 from rfl, show ((1 : Nat) : Int) = 1 from rfl] at H1
  clear hb1 HC
  go_wp2_with fail
  (with_reducible refine (H1.out).mono ?_); rintro e w2 ⟨rfl, r2, hw2, hu2⟩
  have HU2 := Lib.hid ((upd_below (g := gw) (r := r) HB1.out).then hu2)
  have HT2 := Lib.hid (HT1.out.upd HW1.out hu2)
  have HBW2 : Hid (Bw ≤ w2.heap.size) := Nat.le_trans HBW1.out hu2.1.size
  have H2 := Lib.hid (write_b Bw gw 0 2 r2 _ (by show P.2 + 1 ≤ _; omega) (by omega) (by omega) w2 HBW2.out hw2)
  rw [show ((0 : Nat) : Int) = 0 from rfl, show ((2 : Nat) : Int) = 2 from rfl] at H2
  have HW2 := Lib.hid hw2
  clear hw2 hu2 H1
  go_wp2_with fail
  (with_reducible refine (H2.out).mono ?_); rintro e w3 ⟨rfl, r3, hw3, hu3⟩
  have HU3 := Lib.hid (HU2.out.then hu3)
  have HT3 := Lib.hid (HT2.out.upd HW2.out hu3)
  have HBW3 : Hid (Bw ≤ w3.heap.size) := Nat.le_trans HBW2.out hu3.1.size
  have HW3 := Lib.hid hw3
  clear hw3 hu3 H2
  have HS := Lib.hid (stored_put Bw gw s r3 _ hs (by show P.2 + 1 + 2 ≤ _; omega) w3 HBW3.out HW3.out)
  go_wp2_with fail
  (with_reducible refine (HS.out).mono ?_); rintro e w4 ⟨rfl, hem⟩
  have HE := Lib.hid (Emits.then HU3.out hem)
  clear hem
  go_wp2_with fail
  go_ret
  exact ⟨rfl, HE.out⟩
set_option maxHeartbeats 4000000 in
theorem bput_01 (Bw gw : Nat) (A : Option Addr) (n cap : Nat) (f : Nat → Tok) (s : ByteArray) (r : Option Nat) (P : Bs) (hn : n ≤ 100000) (hL : P.2 ≤ 80000000) (w : World) (hB : Bw ≤ w.heap.size) (hT : TokB w Bw A n f) (hw : WrB w Bw gw r P) (hc : chkE 0 f n s = 0) (hR : ∀ i, i < n → rightT (f i) = true) (hs : s.size ≤ 65535) :
    Calls Try.prog 9 #[.pointer (some ⟨gw, 0, none⟩), .int .i64 0, .slice A n cap, .string s, .bool true] w fun e w' => e = .returned (.int .i64 0) ∧ Emits w Bw gw r (blkB 0 f n s true P) w' := by
  have HC := Lib.hid (check_any 0 A n cap f s w hT.toks (by omega))
  rw [hc] at HC
  have HT := Lib.hid hT
  have HW := Lib.hid hw
  have HR := Lib.hid hR
  clear hc hT hw hR
  go_enter Try.func9, Try.ntmps9
  go_wp2_with fail
  (with_reducible refine (HC.out).mono ?_); rintro e w1 ⟨rfl, hb1⟩
  have HB1 := Lib.hid hb1
  have HT1 := Lib.hid (HT.out.later hb1 (Nat.le_refl _))
  have HW1 := Lib.hid (HW.out.below hb1)
  have HBW1 : Hid (Bw ≤ w1.heap.size) := Nat.le_trans hB hb1.size
  have H1 := Lib.hid (write_b Bw gw 1 1 r P (by omega) (by omega) (by omega) w1 HBW1.out HW1.out)
  rw [show ((1 : Nat) : Int) = 1 from rfl] at H1
  clear hb1 HC
  go_wp2_with fail
  (with_reducible refine (H1.out).mono ?_); rintro e w2 ⟨rfl, r2, hw2, hu2⟩
  have HU2 := Lib.hid ((upd_below (g := gw) (r := r) HB1.out).then hu2)
  have HT2 := Lib.hid (HT1.out.upd HW1.out hu2)
  have HBW2 : Hid (Bw ≤ w2.heap.size) := Nat.le_trans HBW1.out hu2.1.size
  have H2 := Lib.hid (write_b Bw gw 0 2 r2 _ (by show P.2 + 1 ≤ _; omega) (by omega) (by omega) w2 HBW2.out hw2)
  rw [show ((0 : Nat) : Int) = 0 from rfl, show ((2 : Nat) : Int) = 2 from rfl] at H2
  have HW2 := Lib.hid hw2
  clear hw2 hu2 H1
  go_wp2_with fail
  (with_reducible refine (H2.out).mono ?_); rintro e w3 ⟨rfl, r3, hw3, hu3⟩
  have HU3 := Lib.hid (HU2.out.then hu3)
  have HT3 := Lib.hid (HT2.out.upd HW2.out hu3)
  have HBW3 : Hid (Bw ≤ w3.heap.size) := Nat.le_trans HBW2.out hu3.1.size
  have HW3 := Lib.hid hw3
  clear hw3 hu3 H2
  have HS := Lib.hid (stored_put Bw gw s r3 _ hs (by show P.2 + 1 + 2 ≤ _; omega) w3 HBW3.out HW3.out)
  go_wp2_with fail
  (with_reducible refine (HS.out).mono ?_); rintro e w4 ⟨rfl, hem⟩
  have HE := Lib.hid (Emits.then HU3.out hem)
  clear hem
  go_wp2_with fail
  go_ret
  exact ⟨rfl, HE.out⟩
set_option maxHeartbeats 4000000 in
theorem bput_10 (Bw gw : Nat) (A : Option Addr) (n cap : Nat) (f : Nat → Tok) (s : ByteArray) (r : Option Nat) (P : Bs) (hn : n ≤ 100000) (hL : P.2 ≤ 80000000) (w : World) (hB : Bw ≤ w.heap.size) (hT : TokB w Bw A n f) (hw : WrB w Bw gw r P) (hc : chkE 1 f n s = 0) (hR : ∀ i, i < n → rightT (f i) = true) :
    Calls Try.prog 9 #[.pointer (some ⟨gw, 0, none⟩), .int .i64 1, .slice A n cap, .string s, .bool false] w fun e w' => e = .returned (.int .i64 0) ∧ Emits w Bw gw r (blkB 1 f n s false P) w' := by
  have HC := Lib.hid (check_any 1 A n cap f s w hT.toks (by omega))
  rw [hc] at HC
  have HT := Lib.hid hT
  have HW := Lib.hid hw
  have HR := Lib.hid hR
  clear hc hT hw hR
  go_enter Try.func9, Try.ntmps9
  go_wp2_with fail
  (with_reducible refine (HC.out).mono ?_); rintro e w1 ⟨rfl, hb1⟩
  have HB1 := Lib.hid hb1
  have HT1 := Lib.hid (HT.out.later hb1 (Nat.le_refl _))
  have HW1 := Lib.hid (HW.out.below hb1)
  have HBW1 : Hid (Bw ≤ w1.heap.size) := Nat.le_trans hB hb1.size
  have H1 := Lib.hid (write_b Bw gw 0 1 r P (by omega) (by omega) (by omega) w1 HBW1.out HW1.out)
  rw [show ((0 : Nat) : Int) = 0 from rfl, show ((1 : Nat) : Int) = 1 from rfl] at H1
  clear hb1 HC
  go_wp2_with fail
  (with_reducible refine (H1.out).mono ?_); rintro e w2 ⟨rfl, r2, hw2, hu2⟩
  have HU2 := Lib.hid ((upd_below (g := gw) (r := r) HB1.out).then hu2)
  have HT2 := Lib.hid (HT1.out.upd HW1.out hu2)
  have HBW2 : Hid (Bw ≤ w2.heap.size) := Nat.le_trans HBW1.out hu2.1.size
  have H2 := Lib.hid (write_b Bw gw 1 2 r2 _ (by show P.2 + 1 ≤ _; omega) (by omega) (by omega) w2 HBW2.out hw2)
  rw [show ((1 : Nat) : Int) = 1 from rfl, show ((2 : Nat) : Int) = 2 from rfl] at H2
  have HW2 := Lib.hid hw2
  clear hw2 hu2 H1
  go_wp2_with fail
  (with_reducible refine (H2.out).mono ?_); rintro e w3 ⟨rfl, r3, hw3, hu3⟩
  have HU3 := Lib.hid (HU2.out.then hu3)
  have HT3 := Lib.hid (HT2.out.upd HW2.out hu3)
  have HBW3 : Hid (Bw ≤ w3.heap.size) := Nat.le_trans HBW2.out hu3.1.size
  have HW3 := Lib.hid hw3
  clear hw3 hu3 H2
  have HF := Lib.hid (bfixed_any w3)
  go_wp2_with fail
  (refine (HF.out).mono ?_); rintro e w4 ⟨⟨gs, gd, rfl, hcs, hcd⟩, hb4⟩
  have HW4 := Lib.hid (HW3.out.below hb4)
  have HU4 := Lib.hid (HU3.out.then (upd_below (g := gw) (r := r3) hb4))
  have HPT := Lib.hid (codes_put gs gd Bw gw n cap A f r3 _ fixS fixD hn (by show P.2 + 1 + 2 ≤ _; omega) HR.out w4 (Nat.le_trans HBW3.out hb4.size) hcs hcd (HT3.out.later hb4 (Nat.le_refl _)) HW4.out)
  clear hcs hcd hb4 HF
  go_wp2_with fail
  (refine (HPT.out).mono ?_); rintro e w5 ⟨rfl, hem⟩
  have HE := Lib.hid (Emits.then HU4.out hem)
  clear hem
  go_wp2_with fail
  go_ret
  exact ⟨rfl, HE.out⟩
set_option maxHeartbeats 4000000 in
theorem bput_11 (Bw gw : Nat) (A : Option Addr) (n cap : Nat) (f : Nat → Tok) (s : ByteArray) (r : Option Nat) (P : Bs) (hn : n ≤ 100000) (hL : P.2 ≤ 80000000) (w : World) (hB : Bw ≤ w.heap.size) (hT : TokB w Bw A n f) (hw : WrB w Bw gw r P) (hc : chkE 1 f n s = 0) (hR : ∀ i, i < n → rightT (f i) = true) :
    Calls Try.prog 9 #[.pointer (some ⟨gw, 0, none⟩), .int .i64 1, .slice A n cap, .string s, .bool true] w fun e w' => e = .returned (.int .i64 0) ∧ Emits w Bw gw r (blkB 1 f n s true P) w' := by
  have HC := Lib.hid (check_any 1 A n cap f s w hT.toks (by omega))
  rw [hc] at HC
  have HT := Lib.hid hT
  have HW := Lib.hid hw
  have HR := Lib.hid hR
  clear hc hT hw hR
  go_enter Try.func9, Try.ntmps9
  go_wp2_with fail
  (with_reducible refine (HC.out).mono ?_); rintro e w1 ⟨rfl, hb1⟩
  have HB1 := Lib.hid hb1
  have HT1 := Lib.hid (HT.out.later hb1 (Nat.le_refl _))
  have HW1 := Lib.hid (HW.out.below hb1)
  have HBW1 : Hid (Bw ≤ w1.heap.size) := Nat.le_trans hB hb1.size
  have H1 := Lib.hid (write_b Bw gw 1 1 r P (by omega) (by omega) (by omega) w1 HBW1.out HW1.out)
  rw [show ((1 : Nat) : Int) = 1 from rfl] at H1
  clear hb1 HC
  go_wp2_with fail
  (with_reducible refine (H1.out).mono ?_); rintro e w2 ⟨rfl, r2, hw2, hu2⟩
  have HU2 := Lib.hid ((upd_below (g := gw) (r := r) HB1.out).then hu2)
  have HT2 := Lib.hid (HT1.out.upd HW1.out hu2)
  have HBW2 : Hid (Bw ≤ w2.heap.size) := Nat.le_trans HBW1.out hu2.1.size
  have H2 := Lib.hid (write_b Bw gw 1 2 r2 _ (by show P.2 + 1 ≤ _; omega) (by omega) (by omega) w2 HBW2.out hw2)
  rw [show ((1 : Nat) : Int) = 1 from rfl, show ((2 : Nat) : Int) = 2 from rfl] at H2
  have HW2 := Lib.hid hw2
  clear hw2 hu2 H1
  go_wp2_with fail
  (with_reducible refine (H2.out).mono ?_); rintro e w3 ⟨rfl, r3, hw3, hu3⟩
  have HU3 := Lib.hid (HU2.out.then hu3)
  have HT3 := Lib.hid (HT2.out.upd HW2.out hu3)
  have HBW3 : Hid (Bw ≤ w3.heap.size) := Nat.le_trans HBW2.out hu3.1.size
  have HW3 := Lib.hid hw3
  clear hw3 hu3 H2
  have HF := Lib.hid (bfixed_any w3)
  go_wp2_with fail
  (refine (HF.out).mono ?_); rintro e w4 ⟨⟨gs, gd, rfl, hcs, hcd⟩, hb4⟩
  have HW4 := Lib.hid (HW3.out.below hb4)
  have HU4 := Lib.hid (HU3.out.then (upd_below (g := gw) (r := r3) hb4))
  have HPT := Lib.hid (codes_put gs gd Bw gw n cap A f r3 _ fixS fixD hn (by show P.2 + 1 + 2 ≤ _; omega) HR.out w4 (Nat.le_trans HBW3.out hb4.size) hcs hcd (HT3.out.later hb4 (Nat.le_refl _)) HW4.out)
  clear hcs hcd hb4 HF
  go_wp2_with fail
  (refine (HPT.out).mono ?_); rintro e w5 ⟨rfl, hem⟩
  have HE := Lib.hid (Emits.then HU4.out hem)
  clear hem
  go_wp2_with fail
  go_ret
  exact ⟨rfl, HE.out⟩
set_option maxHeartbeats 4000000 in
theorem bput_20 (Bw gw : Nat) (A : Option Addr) (n cap : Nat) (f : Nat → Tok) (s : ByteArray) (r : Option Nat) (P : Bs) (hn : n ≤ 100000) (hL : P.2 ≤ 80000000) (w : World) (hB : Bw ≤ w.heap.size) (hT : TokB w Bw A n f) (hw : WrB w Bw gw r P) (hc : chkE 2 f n s = 0) (hR : ∀ i, i < n → rightT (f i) = true) :
    Calls Try.prog 9 #[.pointer (some ⟨gw, 0, none⟩), .int .i64 2, .slice A n cap, .string s, .bool false] w fun e w' => e = .returned (.int .i64 0) ∧ Emits w Bw gw r (blkB 2 f n s false P) w' := by
  have HC := Lib.hid (check_any 2 A n cap f s w hT.toks (by omega))
  rw [hc] at HC
  have HT := Lib.hid hT
  have HW := Lib.hid hw
  have HR := Lib.hid hR
  clear hc hT hw hR
  go_enter Try.func9, Try.ntmps9
  go_wp2_with fail
  (with_reducible refine (HC.out).mono ?_); rintro e w1 ⟨rfl, hb1⟩
  have HB1 := Lib.hid hb1
  have HT1 := Lib.hid (HT.out.later hb1 (Nat.le_refl _))
  have HW1 := Lib.hid (HW.out.below hb1)
  have HBW1 : Hid (Bw ≤ w1.heap.size) := Nat.le_trans hB hb1.size
  have H1 := Lib.hid (write_b Bw gw 0 1 r P (by omega) (by omega) (by omega) w1 HBW1.out HW1.out)
  rw [show ((0 : Nat) : Int) = 0 from rfl, show ((1 : Nat) : Int) = 1 from rfl] at H1
  clear hb1 HC
  go_wp2_with fail
  (with_reducible refine (H1.out).mono ?_); rintro e w2 ⟨rfl, r2, hw2, hu2⟩
  have HU2 := Lib.hid ((upd_below (g := gw) (r := r) HB1.out).then hu2)
  have HT2 := Lib.hid (HT1.out.upd HW1.out hu2)
  have HBW2 : Hid (Bw ≤ w2.heap.size) := Nat.le_trans HBW1.out hu2.1.size
  have H2 := Lib.hid (write_b Bw gw 2 2 r2 _ (by show P.2 + 1 ≤ _; omega) (by omega) (by omega) w2 HBW2.out hw2)
  rw [show ((2 : Nat) : Int) = 2 from rfl] at H2
  have HW2 := Lib.hid hw2
  clear hw2 hu2 H1
  go_wp2_with fail
  (with_reducible refine (H2.out).mono ?_); rintro e w3 ⟨rfl, r3, hw3, hu3⟩
  have HU3 := Lib.hid (HU2.out.then hu3)
  have HT3 := Lib.hid (HT2.out.upd HW2.out hu3)
  have HBW3 : Hid (Bw ≤ w3.heap.size) := Nat.le_trans HBW2.out hu3.1.size
  have HW3 := Lib.hid hw3
  clear hw3 hu3 H2
  have HF := Lib.hid (dynamic_any Bw gw n cap A f r3 _ hn (by show P.2 + 1 + 2 ≤ _; omega) w3 HBW3.out HT3.out.toks HW3.out)
  have hdl := dynB_le f n
  go_wp2_with fail
  (refine (HF.out).mono ?_); rintro e w4 ⟨⟨gs, gd, rfl, hcs, hcd⟩, r4, hw4, hu4⟩
  have HU4 := Lib.hid (HU3.out.then hu4)
  have HPT := Lib.hid (codes_put gs gd Bw gw n cap A f r4 _ (dynS f n) (dynD f n) hn (by show P.2 + 1 + 2 + (dynB f n).2 ≤ _; omega) HR.out w4 (Nat.le_trans HBW3.out hu4.1.size) hcs hcd (HT3.out.upd HW3.out hu4) hw4)
  clear hcs hcd hw4 hu4 HF hdl
  go_wp2_with fail
  (refine (HPT.out).mono ?_); rintro e w5 ⟨rfl, hem⟩
  have HE := Lib.hid (Emits.then HU4.out hem)
  clear hem
  go_wp2_with fail
  go_ret
  exact ⟨rfl, HE.out⟩
set_option maxHeartbeats 4000000 in
theorem bput_21 (Bw gw : Nat) (A : Option Addr) (n cap : Nat) (f : Nat → Tok) (s : ByteArray) (r : Option Nat) (P : Bs) (hn : n ≤ 100000) (hL : P.2 ≤ 80000000) (w : World) (hB : Bw ≤ w.heap.size) (hT : TokB w Bw A n f) (hw : WrB w Bw gw r P) (hc : chkE 2 f n s = 0) (hR : ∀ i, i < n → rightT (f i) = true) :
    Calls Try.prog 9 #[.pointer (some ⟨gw, 0, none⟩), .int .i64 2, .slice A n cap, .string s, .bool true] w fun e w' => e = .returned (.int .i64 0) ∧ Emits w Bw gw r (blkB 2 f n s true P) w' := by
  have HC := Lib.hid (check_any 2 A n cap f s w hT.toks (by omega))
  rw [hc] at HC
  have HT := Lib.hid hT
  have HW := Lib.hid hw
  have HR := Lib.hid hR
  clear hc hT hw hR
  go_enter Try.func9, Try.ntmps9
  go_wp2_with fail
  (with_reducible refine (HC.out).mono ?_); rintro e w1 ⟨rfl, hb1⟩
  have HB1 := Lib.hid hb1
  have HT1 := Lib.hid (HT.out.later hb1 (Nat.le_refl _))
  have HW1 := Lib.hid (HW.out.below hb1)
  have HBW1 : Hid (Bw ≤ w1.heap.size) := Nat.le_trans hB hb1.size
  have H1 := Lib.hid (write_b Bw gw 1 1 r P (by omega) (by omega) (by omega) w1 HBW1.out HW1.out)
  rw [show ((1 : Nat) : Int) = 1 from rfl] at H1
  clear hb1 HC
  go_wp2_with fail
  (with_reducible refine (H1.out).mono ?_); rintro e w2 ⟨rfl, r2, hw2, hu2⟩
  have HU2 := Lib.hid ((upd_below (g := gw) (r := r) HB1.out).then hu2)
  have HT2 := Lib.hid (HT1.out.upd HW1.out hu2)
  have HBW2 : Hid (Bw ≤ w2.heap.size) := Nat.le_trans HBW1.out hu2.1.size
  have H2 := Lib.hid (write_b Bw gw 2 2 r2 _ (by show P.2 + 1 ≤ _; omega) (by omega) (by omega) w2 HBW2.out hw2)
  rw [show ((2 : Nat) : Int) = 2 from rfl] at H2
  have HW2 := Lib.hid hw2
  clear hw2 hu2 H1
  go_wp2_with fail
  (with_reducible refine (H2.out).mono ?_); rintro e w3 ⟨rfl, r3, hw3, hu3⟩
  have HU3 := Lib.hid (HU2.out.then hu3)
  have HT3 := Lib.hid (HT2.out.upd HW2.out hu3)
  have HBW3 : Hid (Bw ≤ w3.heap.size) := Nat.le_trans HBW2.out hu3.1.size
  have HW3 := Lib.hid hw3
  clear hw3 hu3 H2
  have HF := Lib.hid (dynamic_any Bw gw n cap A f r3 _ hn (by show P.2 + 1 + 2 ≤ _; omega) w3 HBW3.out HT3.out.toks HW3.out)
  have hdl := dynB_le f n
  go_wp2_with fail
  (refine (HF.out).mono ?_); rintro e w4 ⟨⟨gs, gd, rfl, hcs, hcd⟩, r4, hw4, hu4⟩
  have HU4 := Lib.hid (HU3.out.then hu4)
  have HPT := Lib.hid (codes_put gs gd Bw gw n cap A f r4 _ (dynS f n) (dynD f n) hn (by show P.2 + 1 + 2 + (dynB f n).2 ≤ _; omega) HR.out w4 (Nat.le_trans HBW3.out hu4.1.size) hcs hcd (HT3.out.upd HW3.out hu4) hw4)
  clear hcs hcd hw4 hu4 HF hdl
  go_wp2_with fail
  (refine (HPT.out).mono ?_); rintro e w5 ⟨rfl, hem⟩
  have HE := Lib.hid (Emits.then HU4.out hem)
  clear hem
  go_wp2_with fail
  go_ret
  exact ⟨rfl, HE.out⟩
theorem chk_zero {kind : Int} {f : Nat → Tok} {n : Nat} {s : ByteArray} (h : chkE kind f n s = 0) : ∃ k : Nat, kind = (k : Nat) ∧ k ≤ 2 ∧ (∀ i, i < n → rightT (f i) = true) ∧ (k = 0 → s.size ≤ 65535) := by
  unfold chkE at h
  split at h
  · cases h
  · rename_i hk
    split at h
    · rename_i hr
      split at h
      · cases h
      · rename_i h0
        obtain ⟨k, rfl⟩ := Int.eq_ofNat_of_zero_le (show 0 ≤ kind by omega)
        exact ⟨k, rfl, by omega, hr, fun e => by omega⟩
    · cases h
/-- Put, where nothing is wrong. -/
theorem bput_any (Bw gw k : Nat) (A : Option Addr) (n cap : Nat) (f : Nat → Tok) (s : ByteArray) (last : Bool) (r : Option Nat) (P : Bs) (hn : n ≤ 100000) (hL : P.2 ≤ 80000000) (w : World) (hB : Bw ≤ w.heap.size) (hT : TokB w Bw A n f) (hw : WrB w Bw gw r P) (hc : chkE (k : Nat) f n s = 0) :
    Calls Try.prog 9 #[.pointer (some ⟨gw, 0, none⟩), .int .i64 (k : Nat), .slice A n cap, .string s, .bool last] w fun e w' => e = .returned (.int .i64 0) ∧ Emits w Bw gw r (blkB k f n s last P) w' := by
  obtain ⟨k', hk, hk2, hr, hs⟩ := chk_zero hc
  obtain rfl : k = k' := by omega
  match k, hk2, last with
  | 0, _, false => exact bput_00 Bw gw A n cap f s r P hn hL w hB hT hw hc hr (hs rfl)
  | 0, _, true => exact bput_01 Bw gw A n cap f s r P hn hL w hB hT hw hc hr (hs rfl)
  | 1, _, false => exact bput_10 Bw gw A n cap f s r P hn hL w hB hT hw hc hr
  | 1, _, true => exact bput_11 Bw gw A n cap f s r P hn hL w hB hT hw hc hr
  | 2, _, false => exact bput_20 Bw gw A n cap f s r P hn hL w hB hT hw hc hr
  | 2, _, true => exact bput_21 Bw gw A n cap f s r P hn hL w hB hT hw hc hr
end Go.Proofs.Ytfhbkidceombbaa

namespace Go.Proofs.Ytfhbkidceombbaa
set_option maxRecDepth 100000
open Go.RowKit Go.Joins Go.Deep

theorem fix15 : (∀ i, i < fixS.n → fixS.ls i ≤ 15) ∧ (∀ i, i < fixD.n → fixD.ls i ≤ 15) := ⟨bx_15, bd_15⟩
theorem dyn15 (f : Nat → Tok) (n : Nat) : (∀ i, i < (dynS f n).n → (dynS f n).ls i ≤ 15) ∧ (∀ i, i < (dynD f n).n → (dynD f n).ls i ≤ 15) :=
  ⟨fun i hi => dLS_le f n i (by have h1 : i < dHS f n := hi; have := dHS_bd f n; omega), fun i hi => dLD_le f n i (by have h1 : i < dHD f n := hi; have := dHD_bd f n; omega)⟩
theorem stB_len (s : ByteArray) (P : Bs) : (stB s P).2 = up8 P.2 + 16 + 16 + 8 * s.size := rfl
theorem blkB_le {k : Nat} {f : Nat → Tok} {n : Nat} {s : ByteArray} {last : Bool} {P : Bs} (hc : chkE (k : Nat) f n s = 0) (hn : n ≤ 100000) : (blkB k f n s last P).2 ≤ P.2 + 6000000 := by
  obtain ⟨k', hk, hk2, hr, hs⟩ := chk_zero hc
  obtain rfl : k = k' := by omega
  unfold blkB
  split
  · have := hs (by assumption)
    have h8 := up8_le ((P.app (wB (if last = true then 1 else 0) 1)).app (wB k 2)).2
    have e : ((P.app (wB (if last = true then 1 else 0) 1)).app (wB k 2)).2 = P.2 + 1 + 2 := rfl
    rw [stB_len]
    omega
  · split
    · have h1 := toksB_le fixS fixD f fix15.1 fix15.2 n
      have h2 := sgB_le fixS 256 fix15.1
      show P.2 + 1 + 2 + (toksB fixS fixD f n).2 + (sgB fixS 256).2 ≤ _
      omega
    · have h1 := toksB_le (dynS f n) (dynD f n) f (dyn15 f n).1 (dyn15 f n).2 n
      have h2 := sgB_le (dynS f n) 256 (dyn15 f n).1
      have h3 := dynB_le f n
      show P.2 + 1 + 2 + (dynB f n).2 + (toksB (dynS f n) (dynD f n) f n).2 + (sgB (dynS f n) 256).2 ≤ _
      omega
/-- How far the bits ahead reach into a byte. -/
def ahN (at_ : Int) : Nat := (at_.tmod 8).natAbs
theorem ahN_lt (x : Int) : ahN x ≤ 7 := by
  unfold ahN
  have h1 := Int.tmod_lt_of_pos x (show (0 : Int) < 8 by decide)
  have h2 := Int.lt_tmod_of_pos x (show (0 : Int) < 8 by decide)
  omega
noncomputable def sizeN (k : Nat) (f : Nat → Tok) (n : Nat) (s : ByteArray) (a : Nat) : Nat := (blkB k f n s false (Bs.app (0, 0) (wB 0 a))).2 - a
noncomputable def sizeV (kind : Int) (f : Nat → Tok) (n : Nat) (s : ByteArray) (x : Int) : Int := if chkE kind f n s = 0 then ((sizeN kind.toNat f n s (ahN x) : Nat) : Int) else 0
set_option maxHeartbeats 2000000 in
theorem size_any (kind : Int) (A : Option Addr) (n cap : Nat) (f : Nat → Tok) (s : ByteArray) (x : Int) (hn : n ≤ 100000) (w : World) (hT : Toks w A n f) :
    Calls Try.prog 11 #[.int .i64 kind, .slice A n cap, .string s, .int .i64 x] w fun e w' => e = .returned (.tuple #[.int .i64 (sizeV kind f n s x), .int .i64 (chkE kind f n s)]) ∧ Below w.heap.size w w' := by
  obtain ⟨a, ha⟩ : ∃ a, a = ahN x := ⟨_, rfl⟩
  have ha7 := ahN_lt x
  rw [← ha] at ha7
  obtain ⟨V, hV⟩ : ∃ V, V = sizeV kind f n s x := ⟨_, rfl⟩
  rw [← hV]
  obtain ⟨X, hX⟩ : ∃ X, X = chkE kind f n s := ⟨_, rfl⟩
  rw [← hX]
  unfold sizeV at hV
  rw [← ha, ← hX] at hV
  unfold ahN at ha
  have hzw : ∀ W : World, (zeroValue 32).run Try.prog W = .ok (.agg #[.slice none 0 0, .int .u64 0, .int .i64 0]) W := fun W => by kernel_rfl
  have hw0 : WrB (w.alloc (.cells #[.slice none 0 0, .int .u64 0, .int .i64 0] 32)) w.heap.size w.heap.size none (0, 0) := wr_new w w.heap.size (Nat.le_refl _)
  have hb0 : Below w.heap.size w (w.alloc (.cells #[.slice none 0 0, .int .u64 0, .int .i64 0] 32)) := (Below.refl _ _).alloc (Nat.le_refl _) _
  have hs0 : w.heap.size ≤ (w.alloc (.cells #[.slice none 0 0, .int .u64 0, .int .i64 0] 32)).heap.size := by simp
  have HWR := Lib.hid (write_b w.heap.size w.heap.size 0 a none (0, 0) (by show (0 : Nat) ≤ _; omega) (by omega) (by omega) _ hs0 hw0)
  rw [show ((0 : Nat) : Int) = 0 from rfl] at HWR
  have HT0 := Lib.hid ((hT.tokB (Nat.le_refl w.heap.size)).later hb0 (Nat.le_refl _))
  have HW0 := Lib.hid hw0
  have HB0 := Lib.hid hb0
  have HS0 := Lib.hid hs0
  have HV := Lib.hid hV
  have HX := Lib.hid hX
  have hr1 := Int.tmod_lt_of_pos x (show (0 : Int) < 8 by decide)
  have hr2 := Int.lt_tmod_of_pos x (show (0 : Int) < 8 by decide)
  clear hw0 hb0 hs0 hV hX hT
  have hmx : (if x.tmod 8 < wrap64 (-x.tmod 8) then wrap64 (-x.tmod 8) else x.tmod 8) = (a : Int) := by
    unfold wrap64
    split <;> omega
  clear hr1 hr2 ha
  go_enter Try.func11, Try.ntmps11
  go_upto_region 3 with fail
  try rw [hmx]
  clear hmx
  generalize w.alloc (.cells #[.slice none 0 0, .int .u64 0, .int .i64 0] 32) = w0 at *
  go_wp2_with fail
  (with_reducible refine (HWR.out).mono ?_); rintro e w1 ⟨rfl, r1, hw1, hu1⟩
  have HB1 : Hid (Below w.heap.size w w1) := Kept.below0 HS0.out HB0.out hu1.1 (Wr.ge HW0.out)
  have HT1 := Lib.hid (HT0.out.upd HW0.out hu1)
  have HS1 : Hid (w.heap.size ≤ w1.heap.size) := Nat.le_trans HS0.out hu1.1.size
  have HW1 := Lib.hid hw1
  clear hw1 hu1 HWR
  by_cases h0 : X = 0
  · subst h0
    obtain ⟨k, hk, hk2, _, _⟩ := chk_zero HX.out.symm
    subst hk
    have hV2 : V = ((sizeN k f n s a : Nat) : Int) := by
      have h := HV.out
      rw [if_pos rfl, Int.toNat_natCast] at h
      exact h
    have HP := Lib.hid (bput_any w.heap.size w.heap.size k A n cap f s false r1 _ hn (by show 0 + a ≤ _; omega) w1 HS1.out HT1.out HW1.out HX.out.symm)
    have hle := blkB_le (last := false) (P := Bs.app (0, 0) (wB 0 a)) HX.out.symm hn
    have hle2 : (blkB k f n s false (Bs.app (0, 0) (wB 0 a))).2 ≤ 7000000 := by
      have : (Bs.app (0, 0) (wB 0 a)).2 = 0 + a := rfl
      omega
    have hge : a ≤ (blkB k f n s false (Bs.app (0, 0) (wB 0 a))).2 := by
      have h9 : (Bs.app (0, 0) (wB 0 a)).2 = 0 + a := rfl
      unfold blkB
      split
      · rw [stB_len]
        have h8 := up8_ge (((Bs.app (0, 0) (wB 0 a)).app (wB (if false = true then 1 else 0) 1)).app (wB k 2)).2
        have e : (((Bs.app (0, 0) (wB 0 a)).app (wB (if false = true then 1 else 0) 1)).app (wB k 2)).2 = 0 + a + 1 + 2 := rfl
        omega
      · split
        · show a ≤ 0 + a + 1 + 2 + _ + _
          omega
        · show a ≤ 0 + a + 1 + 2 + _ + _ + _
          omega
    unfold sizeN at hV2
    generalize blkB k f n s false (Bs.app (0, 0) (wB 0 a)) = Q at *
    have HV2 := Lib.hid hV2
    clear hV2 hle
    go_wp2_with fail
    (with_reducible refine (HP.out).mono ?_); rintro e w2 ⟨rfl, r2, hw2, hu2⟩
    have HB2 : Hid (Below w.heap.size w w2) := Kept.below0 HS1.out HB1.out hu2.1 (Wr.ge HW1.out)
    have HLN := Lib.hid (wlen_any w.heap.size w.heap.size r2 Q.1 Q.2 (by omega) w2 hw2)
    clear hw2 hu2 HP
    have hsub : (Q.2 : Int) - (a : Int) = ((Q.2 - a : Nat) : Int) := by omega
    have hsw : IntKind.i64.wrap ((Q.2 : Int) - (a : Int)) = ((Q.2 - a : Nat) : Int) := by rw [IntKind.wrap_i64]; omega
    go_wp2_with fail
    (refine (HLN.out).mono ?_); rintro e w3 ⟨rfl, d3, rfl⟩
    have HB3 := Lib.hid (below_drewN HB2.out d3)
    go_wp2_with fail
    go_ret2
    exact ⟨by rw [HV2.out]; rfl, HB3.out⟩
  · have hV0 : V = 0 := by
      have h := HV.out
      rwa [if_neg h0] at h
    subst hV0
    have HP := Lib.hid (bput_bad w.heap.size kind A n cap f s false X h0 (by omega) w1 HT1.out.toks HX.out.symm)
    have hx' : (X == 0) = false := by rw [beq_eq_false_iff_ne]; exact h0
    clear h0
    go_wp2_with fail
    (with_reducible refine (HP.out).mono ?_); rintro e w2 ⟨rfl, hb2⟩
    have HB2 := Lib.hid (HB1.out.trans (hb2.mono HB1.out.size))
    clear hb2
    go_wp2_with fail
    go_ret2
    exact ⟨rfl, HB2.out⟩

/-- The best kind so far, and its size (-1: none). -/
noncomputable def bstN (f : Nat → Tok) (n : Nat) (s : ByteArray) (x : Int) : Nat → Nat × Int
  | 0 => (0, -1)
  | k + 1 => if chkE (k : Nat) f n s = 0 ∧ ((bstN f n s x k).2 < 0 ∨ sizeV (k : Nat) f n s x < (bstN f n s x k).2) then (k, sizeV (k : Nat) f n s x) else bstN f n s x k
set_option maxHeartbeats 2000000 in
theorem best_any (A : Option Addr) (n cap : Nat) (f : Nat → Tok) (s : ByteArray) (x : Int) (hn : n ≤ 100000) (w : World) (hT : Toks w A n f) :
    Calls Try.prog 77 #[.slice A n cap, .string s, .int .i64 x] w fun e w' => e = .returned (.int .i64 ((bstN f n s x 3).1 : Nat)) ∧ Below w.heap.size w w' := by
  have HSZ := Lib.hid (fun k w1 (h : Below w.heap.size w w1) => size_any k A n cap f s x hn w1 (hT.below (Nat.le_refl _) h))
  clear hT
  go_enter Try.func77, Try.ntmps77
  go_wp2_with fail
  go_loopw [7, 8, 9] (fun vb vl vk wr => ∃ k : Nat, k ≤ 3 ∧ vb = .int .i64 ((bstN f n s x k).1 : Nat) ∧ vl = .int .i64 (bstN f n s x k).2 ∧ vk = .int .i64 (k : Nat) ∧ Hid (Below w.heap.size w wr)) (fun _ _ vk _ => 3 - (intOf vk).toNat)
  case atStart => exact ⟨0, Nat.zero_le _, rfl, rfl, rfl, Below.refl _ _⟩
  case round =>
    obtain ⟨k, hk, rfl, rfl, rfl, HB⟩ := hrel
    by_cases hk3 : k < 3
    · have hkI : (k : Int) ≤ 2 := by omega
      have HS := Lib.hid (HSZ.out (k : Nat) wr HB.out)
      have HST := Lib.hid (show bstN f n s x (k + 1) = if chkE (k : Nat) f n s = 0 ∧ ((bstN f n s x k).2 < 0 ∨ sizeV (k : Nat) f n s x < (bstN f n s x k).2) then (k, sizeV (k : Nat) f n s x) else bstN f n s x k from rfl)
      generalize bstN f n s x k = N0 at *
      generalize sizeV (k : Nat) f n s x = V at *
      generalize chkE (k : Nat) f n s = X at *
      obtain ⟨b0, l0⟩ := N0
      dsimp only at *
      go_wp2_with fail
      (with_reducible refine (HS.out).mono ?_); rintro e w2 ⟨rfl, hb2⟩
      have HB2 := Lib.hid (HB.out.trans (hb2.mono HB.out.size))
      clear hb2 HS
      by_cases hX : X = 0
      · by_cases hl : l0 < 0
        · have HN : Hid (bstN f n s x (k + 1) = (k, V)) := HST.out.trans (if_pos ⟨hX, .inl hl⟩)
          subst hX
          go_wp2_with fail
          go_roundw
          case rel => exact ⟨k + 1, by omega, by rw [HN.out], by rw [HN.out], by go_num, HB2⟩
          case measure => simp [intOf]; omega
        · by_cases hv : V < l0
          · have HN : Hid (bstN f n s x (k + 1) = (k, V)) := HST.out.trans (if_pos ⟨hX, .inr hv⟩)
            subst hX
            go_wp2_with fail
            go_roundw
            case rel => exact ⟨k + 1, by omega, by rw [HN.out], by rw [HN.out], by go_num, HB2⟩
            case measure => simp [intOf]; omega
          · have HN : Hid (bstN f n s x (k + 1) = (b0, l0)) := HST.out.trans (if_neg (by omega))
            subst hX
            go_wp2_with fail
            go_roundw
            case rel => exact ⟨k + 1, by omega, by rw [HN.out], by rw [HN.out], by go_num, HB2⟩
            case measure => simp [intOf]; omega
      · have HN : Hid (bstN f n s x (k + 1) = (b0, l0)) := HST.out.trans (if_neg (by omega))
        have hx' : (X == 0) = false := by rw [beq_eq_false_iff_ne]; exact hX
        clear hX
        go_wp2_with fail
        go_roundw
        case rel => exact ⟨k + 1, by omega, by rw [HN.out], by rw [HN.out], by go_num, HB2⟩
        case measure => simp [intOf]; omega
    · obtain rfl : k = 3 := by omega
      go_wp2_with fail
      go_ret
      exact ⟨rfl, HB.out⟩
end Go.Proofs.Ytfhbkidceombbaa

namespace Go.Proofs.Ytfhbkidceombbaa
set_option maxRecDepth 100000
open Go.RowKit Go.Joins Go.Deep

def allR (f : Nat → Tok) (n : Nat) : Prop := ∀ i, i < n → rightT (f i) = true
/-! ## Sizes -/
theorem size_stored (f : Nat → Tok) (n : Nat) (s : ByteArray) (a : Nat) : sizeN 0 f n s a = up8 (a + 3) + 32 + 8 * s.size - a := by
  have e : sizeN 0 f n s a = up8 (0 + a + 1 + 2) + 16 + 16 + 8 * s.size - a := rfl
  rw [e, show 0 + a + 1 + 2 = a + 3 by omega]
def fxT (t : Tok) : Nat := if t.l = 0 then (if 144 ≤ t.b then 9 else 8) else (if 280 ≤ lsg t.l.toNat then 8 else 7) + (lenOf (lsg t.l.toNat)).2 + 5 + (distOf (dsg t.d.toNat)).2
def fxN (f : Nat → Tok) : Nat → Nat
  | 0 => 10
  | k + 1 => fxN f k + fxT (f k)
theorem fixS_len : ∀ i, i < 288 → (sgB fixS i).2 = if i < 144 then 8 else if i < 256 then 9 else if i < 280 then 7 else 8 := fun i hi => by
  unfold sgB
  rw [if_pos (show i < fixS.n from hi)]
  show (if i < 144 then 8 else if i < 256 then 9 else if i < 280 then 7 else if i < 288 then 8 else 0) = _
  (repeat' split) <;> omega
theorem fixD_len (i : Nat) (hi : i < 32) : (sgB fixD i).2 = 5 := by
  unfold sgB
  rw [if_pos (show i < fixD.n from hi)]
  show (if i < 32 then 5 else 0) = 5
  rw [if_pos hi]
theorem tok_fixed (t : Tok) (hb : t.b < 256) (hr : rightT t = true) : (tokB fixS fixD t).2 = fxT t := by
  unfold tokB fxT
  by_cases h0 : t.l = 0
  · rw [if_pos h0, if_pos h0, fixS_len _ (by omega)]
    (repeat' split) <;> omega
  · obtain ⟨_, h1, h2, h3, h4⟩ := right_copy hr h0
    have hl := lsg_ok t.l.toNat (by omega) (by omega)
    have hd := dsg_ok t.d.toNat (by omega) (by omega)
    rw [if_neg h0, if_neg h0]
    show (sgB fixS (lsg t.l.toNat)).2 + (lenOf (lsg t.l.toNat)).2 + (sgB fixD (dsg t.d.toNat)).2 + (distOf (dsg t.d.toNat)).2 = _
    rw [fixS_len _ (by omega), fixD_len _ (by omega)]
    (repeat' split) <;> omega
theorem toks_fixed (f : Nat → Tok) : ∀ k, (∀ i, i < k → (f i).b < 256 ∧ rightT (f i) = true) → 10 + (toksB fixS fixD f k).2 = fxN f k
  | 0, _ => rfl
  | k + 1, h => by
    have ih := toks_fixed f k fun i hi => h i (by omega)
    have h1 := tok_fixed (f k) (h k (by omega)).1 (h k (by omega)).2
    show 10 + ((toksB fixS fixD f k).2 + (tokB fixS fixD (f k)).2) = fxN f k + fxT (f k)
    omega
theorem size_fixed (f : Nat → Tok) (n : Nat) (s : ByteArray) (a : Nat) (h : ∀ i, i < n → (f i).b < 256 ∧ rightT (f i) = true) : sizeN 1 f n s a = fxN f n := by
  have e : sizeN 1 f n s a = 0 + a + 1 + 2 + (toksB fixS fixD f n).2 + (sgB fixS 256).2 - a := rfl
  have h1 := toks_fixed f n h
  have h2 := fixS_len 256 (by omega)
  rw [if_neg (by omega), if_neg (by omega), if_pos (by omega)] at h2
  omega

/-! ## The best kind -/
theorem chk_right {f : Nat → Tok} {n : Nat} {s : ByteArray} (hr : allR f n) (k : Nat) (hk : k ≤ 2) : chkE (k : Nat) f n s = if k = 0 ∧ 65535 < s.size then 5 else 0 := by
  unfold chkE
  rw [if_neg (by omega), if_pos (show ∀ i, i < n → rightT (f i) = true from hr)]
  by_cases h : k = 0 ∧ 65535 < s.size
  · rw [if_pos h, if_pos ⟨by omega, h.2⟩]
  · rw [if_neg h, if_neg (by omega)]
theorem chk_wrong {f : Nat → Tok} {n : Nat} {s : ByteArray} (hr : ¬ allR f n) (k : Nat) (hk : k ≤ 2) : chkE (k : Nat) f n s = 8 := by
  unfold chkE
  rw [if_neg (by omega), if_neg (show ¬ ∀ i, i < n → rightT (f i) = true from hr)]
theorem bst_wrong {f : Nat → Tok} {n : Nat} {s : ByteArray} (x : Int) (hr : ¬ allR f n) : ∀ k, k ≤ 3 → bstN f n s x k = (0, -1)
  | 0, _ => rfl
  | k + 1, hk => by
    rw [bstN, chk_wrong hr k (by omega), if_neg (by omega)]
    exact bst_wrong x hr k (by omega)
/-- What is known of the best so far. -/
theorem bst_ok {f : Nat → Tok} {n : Nat} {s : ByteArray} (x : Int) : ∀ k, k ≤ 3 →
    (bstN f n s x k = (0, -1) ∧ ∀ j : Nat, j < k → chkE (j : Nat) f n s ≠ 0) ∨
    ((bstN f n s x k).1 < k ∧ chkE ((bstN f n s x k).1 : Nat) f n s = 0 ∧ (bstN f n s x k).2 = sizeV ((bstN f n s x k).1 : Nat) f n s x ∧
      ∀ j : Nat, j < k → chkE (j : Nat) f n s = 0 → sizeV ((bstN f n s x k).1 : Nat) f n s x ≤ sizeV (j : Nat) f n s x ∧ (sizeV ((bstN f n s x k).1 : Nat) f n s x < sizeV (j : Nat) f n s x ∨ (bstN f n s x k).1 ≤ j))
  | 0, _ => .inl ⟨rfl, fun j h => by omega⟩
  | k + 1, hk => by
    have ih := bst_ok (f := f) (n := n) (s := s) x k (by omega)
    have hpos : ∀ j : Nat, 0 ≤ sizeV (j : Nat) f n s x := fun j => by unfold sizeV; split <;> omega
    rw [bstN]
    by_cases hc : chkE (k : Nat) f n s = 0 ∧ ((bstN f n s x k).2 < 0 ∨ sizeV (k : Nat) f n s x < (bstN f n s x k).2)
    · rw [if_pos hc]
      refine .inr ⟨by show k < k + 1; omega, hc.1, rfl, fun j hj hcj => ?_⟩
      dsimp only
      by_cases e : j = k
      · subst e; exact ⟨by omega, .inr (Nat.le_refl _)⟩
      · rcases ih with ⟨h1, h2⟩ | ⟨h1, h2, h3, h4⟩
        · exact absurd hcj (h2 j (by omega))
        · have h5 := h4 j (by omega) hcj
          have h6 := hpos (bstN f n s x k).1
          rw [h3] at hc
          exact ⟨by omega, .inl (by omega)⟩
    · rw [if_neg hc]
      rcases ih with ⟨h1, h2⟩ | ⟨h1, h2, h3, h4⟩
      · refine .inl ⟨h1, fun j hj hcj => ?_⟩
        by_cases e : j = k
        · subst e; rw [h1] at hc; exact hc ⟨hcj, .inl (by show (-1 : Int) < 0; omega)⟩
        · exact h2 j (by omega) hcj
      · refine .inr ⟨by omega, h2, h3, fun j hj hcj => ?_⟩
        by_cases e : j = k
        · subst e
          have h6 := hpos (bstN f n s x j).1
          rw [h3] at hc
          exact ⟨by omega, .inr (by omega)⟩
        · exact h4 j (by omega) hcj
end Go.Proofs.Ytfhbkidceombbaa
