/-
  The walk of StampBack.
-/
import Derived.Test.YtmbifoockenniaaDoorStR
namespace Go.Proofs.YtmbifoockenniaaDoor
set_option maxRecDepth 100000
open Go.RowKit Go.Joins Go.Deep

set_option maxHeartbeats 4000000 in
theorem back_no_yes_yes (a0 : Int) (n : Nat) (hn : n < 4294967296) (HO : a0 < -62135596800 ∨ 253402300799 < a0) (y' m' d' s' : Nat) (hd' : IsDate y' m' d' s') (x : Int) (HF : FdIs n x 0) (w : World) (hp : Pow w) :
    Calls Tryd.prog 5 #[.int .i64 a0, .agg #[.int .i64 (y' : Nat), .int .i64 (m' : Nat), .int .i64 (d' : Nat), .int .i64 (s' / 3600 : Nat), .int .i64 (s' / 60 % 60 : Nat), .int .i64 (s' % 60 : Nat)], .int .u32 (n : Nat)] w fun e w' => e = .returned (.bool true) ∧ Below w.heap.size w w' := by
  have H1 := Lib.hid (fun w => of_n a0 HO w)
  clear HO
  have H5 := Lib.hid (fun w => seconds_y y' m' d' s' hd' w)
  have H6 := Lib.hid (fun w => of_y y' m' d' s' hd' w)
  generalize tI y' m' d' s' = x2 at *
  clear hd'
  generalize s' / 3600 = h' at *
  generalize s' / 60 % 60 = mi' at *
  generalize s' % 60 = sc' at *
  have H7 := Lib.hid (fun w => fromDOS_any hn HF w)
  obtain ⟨y3, m3, d3, s3, HD3, e3⟩ := fwd_dos hn HF
  have H8 := Lib.hid (fun w => toDOS_any x y3 m3 d3 s3 HD3 w)
  rw [e3] at H8
  clear HD3 e3
  clear HF
  have hb := (Below.refl w.heap.size w).alloc (Nat.le_refl _) (.cells #[.int .i64 (y' : Nat), .int .i64 (m' : Nat), .int .i64 (d' : Nat), .int .i64 (h' : Nat), .int .i64 (mi' : Nat), .int .i64 (sc' : Nat)] 23)
  have hx := heap_alloc_new w (.cells #[.int .i64 (y' : Nat), .int .i64 (m' : Nat), .int .i64 (d' : Nat), .int .i64 (h' : Nat), .int .i64 (mi' : Nat), .int .i64 (sc' : Nat)] 23)
  have HP := Lib.hid (hp.below hb)
  clear hp
  go_enter Tryd.func5, Tryd.ntmps5
  go_wp2_with fail
  generalize w.alloc (.cells #[.int .i64 (y' : Nat), .int .i64 (m' : Nat), .int .i64 (d' : Nat), .int .i64 (h' : Nat), .int .i64 (mi' : Nat), .int .i64 (sc' : Nat)] 23) = wa at *
  refine (awake12_any _ HP.out).mono ?_; rintro e w0 ⟨rfl, hk⟩
  have HB0 := Lib.hid (below_then hb hk)
  have X0 := Lib.hid ((hk.block _ (lt_of_heap hx)).trans hx)
  clear hb hx hk HP
  go_wp2_with fail
  refine (H1.out _).mono ?_; rintro e w1 ⟨rfl, hk⟩
  have hb1 := below_then HB0.out hk
  have hb2 := hb1.alloc hb1.size (.cells #[.int .i64 0, .int .i64 0, .int .i64 0, .int .i64 0, .int .i64 0, .int .i64 0] 23)
  have hx0 := (hk.block _ (lt_of_heap X0.out)).trans X0.out
  have hx1 := (Below.heap_alloc w1 (.cells #[.int .i64 0, .int .i64 0, .int .i64 0, .int .i64 0, .int .i64 0, .int .i64 0] 23) _ (lt_of_heap hx0)).trans hx0
  have HBa := Lib.hid hb2
  obtain ⟨x0, x1, x2', x3, x4, x5⟩ := cells6 hx1
  have XA := Lib.hid hx1
  clear hk hb1 hx0 HB0 X0 H1 hx1 hb2
  go_wp2_with fail
  refine (H5.out _).mono ?_; rintro e w5 ⟨rfl, hk⟩
  have HB5 := Lib.hid (below_then HBa.out hk)
  have X5 := Lib.hid ((hk.block _ (lt_of_heap XA.out)).trans XA.out)
  clear hk HBa XA H5
  go_wp2_with fail
  refine (H6.out _).mono ?_; rintro e w6 ⟨rfl, hk⟩
  have hb6 := below_then HB5.out hk
  have hb7 := hb6.alloc hb6.size (.cells #[.int .i64 (y' : Nat), .int .i64 (m' : Nat), .int .i64 (d' : Nat), .int .i64 (h' : Nat), .int .i64 (mi' : Nat), .int .i64 (sc' : Nat)] 23)
  have hx6 := (hk.block _ (lt_of_heap X5.out)).trans X5.out
  have hx7 := (Below.heap_alloc w6 (.cells #[.int .i64 (y' : Nat), .int .i64 (m' : Nat), .int .i64 (d' : Nat), .int .i64 (h' : Nat), .int .i64 (mi' : Nat), .int .i64 (sc' : Nat)] 23) _ (lt_of_heap hx6)).trans hx6
  have hv := heap_alloc_new w6 (.cells #[.int .i64 (y' : Nat), .int .i64 (m' : Nat), .int .i64 (d' : Nat), .int .i64 (h' : Nat), .int .i64 (mi' : Nat), .int .i64 (sc' : Nat)] 23)
  obtain ⟨v0, v1, v2, v3, v4, v5⟩ := cells6 hv
  obtain ⟨u0, u1, u2, u3, u4, u5⟩ := cells6 hx7
  have HB6 := Lib.hid hb7
  clear hk hb6 hx6 hx7 hv hb7 H6 HB5 X5
  go_wp2_with fail
  refine (H7.out _).mono ?_; rintro e w7 ⟨rfl, hk⟩
  have HB7 := Lib.hid (below_then HB6.out hk)
  clear hk HB6 H7
  go_wp2_with fail
  refine (H8.out _).mono ?_; rintro e w8 ⟨rfl, hk⟩
  have HB8 := Lib.hid (below_then HB7.out hk)
  clear hk H8
  go_wp2_with fail
  go_ret
  exact ⟨rfl, HB8.out⟩

set_option maxHeartbeats 4000000 in
theorem back_no_yes_no (a0 : Int) (n : Nat) (hn : n < 4294967296) (HO : a0 < -62135596800 ∨ 253402300799 < a0) (y' m' d' s' : Nat) (hd' : IsDate y' m' d' s') (x : Int) (HF : FdIs n x 23) (w : World) (hp : Pow w) :
    Calls Tryd.prog 5 #[.int .i64 a0, .agg #[.int .i64 (y' : Nat), .int .i64 (m' : Nat), .int .i64 (d' : Nat), .int .i64 (s' / 3600 : Nat), .int .i64 (s' / 60 % 60 : Nat), .int .i64 (s' % 60 : Nat)], .int .u32 (n : Nat)] w fun e w' => e = .returned (.bool true) ∧ Below w.heap.size w w' := by
  have H1 := Lib.hid (fun w => of_n a0 HO w)
  clear HO
  have H5 := Lib.hid (fun w => seconds_y y' m' d' s' hd' w)
  have H6 := Lib.hid (fun w => of_y y' m' d' s' hd' w)
  generalize tI y' m' d' s' = x2 at *
  clear hd'
  generalize s' / 3600 = h' at *
  generalize s' / 60 % 60 = mi' at *
  generalize s' % 60 = sc' at *
  have H7 := Lib.hid (fun w => fromDOS_any hn HF w)
  clear HF
  have hb := (Below.refl w.heap.size w).alloc (Nat.le_refl _) (.cells #[.int .i64 (y' : Nat), .int .i64 (m' : Nat), .int .i64 (d' : Nat), .int .i64 (h' : Nat), .int .i64 (mi' : Nat), .int .i64 (sc' : Nat)] 23)
  have hx := heap_alloc_new w (.cells #[.int .i64 (y' : Nat), .int .i64 (m' : Nat), .int .i64 (d' : Nat), .int .i64 (h' : Nat), .int .i64 (mi' : Nat), .int .i64 (sc' : Nat)] 23)
  have HP := Lib.hid (hp.below hb)
  clear hp
  go_enter Tryd.func5, Tryd.ntmps5
  go_wp2_with fail
  generalize w.alloc (.cells #[.int .i64 (y' : Nat), .int .i64 (m' : Nat), .int .i64 (d' : Nat), .int .i64 (h' : Nat), .int .i64 (mi' : Nat), .int .i64 (sc' : Nat)] 23) = wa at *
  refine (awake12_any _ HP.out).mono ?_; rintro e w0 ⟨rfl, hk⟩
  have HB0 := Lib.hid (below_then hb hk)
  have X0 := Lib.hid ((hk.block _ (lt_of_heap hx)).trans hx)
  clear hb hx hk HP
  go_wp2_with fail
  refine (H1.out _).mono ?_; rintro e w1 ⟨rfl, hk⟩
  have hb1 := below_then HB0.out hk
  have hb2 := hb1.alloc hb1.size (.cells #[.int .i64 0, .int .i64 0, .int .i64 0, .int .i64 0, .int .i64 0, .int .i64 0] 23)
  have hx0 := (hk.block _ (lt_of_heap X0.out)).trans X0.out
  have hx1 := (Below.heap_alloc w1 (.cells #[.int .i64 0, .int .i64 0, .int .i64 0, .int .i64 0, .int .i64 0, .int .i64 0] 23) _ (lt_of_heap hx0)).trans hx0
  have HBa := Lib.hid hb2
  obtain ⟨x0, x1, x2', x3, x4, x5⟩ := cells6 hx1
  have XA := Lib.hid hx1
  clear hk hb1 hx0 HB0 X0 H1 hx1 hb2
  go_wp2_with fail
  refine (H5.out _).mono ?_; rintro e w5 ⟨rfl, hk⟩
  have HB5 := Lib.hid (below_then HBa.out hk)
  have X5 := Lib.hid ((hk.block _ (lt_of_heap XA.out)).trans XA.out)
  clear hk HBa XA H5
  go_wp2_with fail
  refine (H6.out _).mono ?_; rintro e w6 ⟨rfl, hk⟩
  have hb6 := below_then HB5.out hk
  have hb7 := hb6.alloc hb6.size (.cells #[.int .i64 (y' : Nat), .int .i64 (m' : Nat), .int .i64 (d' : Nat), .int .i64 (h' : Nat), .int .i64 (mi' : Nat), .int .i64 (sc' : Nat)] 23)
  have hx6 := (hk.block _ (lt_of_heap X5.out)).trans X5.out
  have hx7 := (Below.heap_alloc w6 (.cells #[.int .i64 (y' : Nat), .int .i64 (m' : Nat), .int .i64 (d' : Nat), .int .i64 (h' : Nat), .int .i64 (mi' : Nat), .int .i64 (sc' : Nat)] 23) _ (lt_of_heap hx6)).trans hx6
  have hv := heap_alloc_new w6 (.cells #[.int .i64 (y' : Nat), .int .i64 (m' : Nat), .int .i64 (d' : Nat), .int .i64 (h' : Nat), .int .i64 (mi' : Nat), .int .i64 (sc' : Nat)] 23)
  obtain ⟨v0, v1, v2, v3, v4, v5⟩ := cells6 hv
  obtain ⟨u0, u1, u2, u3, u4, u5⟩ := cells6 hx7
  have HB6 := Lib.hid hb7
  clear hk hb6 hx6 hx7 hv hb7 H6 HB5 X5
  go_wp2_with fail
  refine (H7.out _).mono ?_; rintro e w7 ⟨rfl, hk⟩
  have HB7 := Lib.hid (below_then HB6.out hk)
  clear hk HB6 H7
  go_wp2_with fail
  go_ret
  exact ⟨rfl, HB7.out⟩

set_option maxHeartbeats 4000000 in
theorem back_no_no_yes (a0 b0 b1 b2 b3 b4 b5 : Int) (n : Nat) (hn : n < 4294967296) (HO : a0 < -62135596800 ∨ 253402300799 < a0) (HS : SecIs b0 b1 b2 b3 b4 b5 0 23) (x : Int) (HF : FdIs n x 0) (w : World) (hp : Pow w) :
    Calls Tryd.prog 5 #[.int .i64 a0, .agg #[.int .i64 b0, .int .i64 b1, .int .i64 b2, .int .i64 b3, .int .i64 b4, .int .i64 b5], .int .u32 (n : Nat)] w fun e w' => e = .returned (.bool true) ∧ Below w.heap.size w w' := by
  have H1 := Lib.hid (fun w => of_n a0 HO w)
  clear HO
  have H5 := Lib.hid (fun w => sec_any HS w)
  clear HS
  have H7 := Lib.hid (fun w => fromDOS_any hn HF w)
  obtain ⟨y3, m3, d3, s3, HD3, e3⟩ := fwd_dos hn HF
  have H8 := Lib.hid (fun w => toDOS_any x y3 m3 d3 s3 HD3 w)
  rw [e3] at H8
  clear HD3 e3
  clear HF
  have hb := (Below.refl w.heap.size w).alloc (Nat.le_refl _) (.cells #[.int .i64 b0, .int .i64 b1, .int .i64 b2, .int .i64 b3, .int .i64 b4, .int .i64 b5] 23)
  have hx := heap_alloc_new w (.cells #[.int .i64 b0, .int .i64 b1, .int .i64 b2, .int .i64 b3, .int .i64 b4, .int .i64 b5] 23)
  have HP := Lib.hid (hp.below hb)
  clear hp
  go_enter Tryd.func5, Tryd.ntmps5
  go_wp2_with fail
  generalize w.alloc (.cells #[.int .i64 b0, .int .i64 b1, .int .i64 b2, .int .i64 b3, .int .i64 b4, .int .i64 b5] 23) = wa at *
  refine (awake12_any _ HP.out).mono ?_; rintro e w0 ⟨rfl, hk⟩
  have HB0 := Lib.hid (below_then hb hk)
  have X0 := Lib.hid ((hk.block _ (lt_of_heap hx)).trans hx)
  clear hb hx hk HP
  go_wp2_with fail
  refine (H1.out _).mono ?_; rintro e w1 ⟨rfl, hk⟩
  have hb1 := below_then HB0.out hk
  have hb2 := hb1.alloc hb1.size (.cells #[.int .i64 0, .int .i64 0, .int .i64 0, .int .i64 0, .int .i64 0, .int .i64 0] 23)
  have hx0 := (hk.block _ (lt_of_heap X0.out)).trans X0.out
  have hx1 := (Below.heap_alloc w1 (.cells #[.int .i64 0, .int .i64 0, .int .i64 0, .int .i64 0, .int .i64 0, .int .i64 0] 23) _ (lt_of_heap hx0)).trans hx0
  have HBa := Lib.hid hb2
  obtain ⟨x0, x1, x2', x3, x4, x5⟩ := cells6 hx1
  have XA := Lib.hid hx1
  clear hk hb1 hx0 HB0 X0 H1 hx1 hb2
  go_wp2_with fail
  refine (H5.out _).mono ?_; rintro e w5 ⟨rfl, hk⟩
  have HB5 := Lib.hid (below_then HBa.out hk)
  have X5 := Lib.hid ((hk.block _ (lt_of_heap XA.out)).trans XA.out)
  clear hk HBa XA H5
  go_wp2_with fail
  have HB6 := Lib.hid HB5.out
  refine (H7.out _).mono ?_; rintro e w7 ⟨rfl, hk⟩
  have HB7 := Lib.hid (below_then HB6.out hk)
  clear hk HB6 H7
  go_wp2_with fail
  refine (H8.out _).mono ?_; rintro e w8 ⟨rfl, hk⟩
  have HB8 := Lib.hid (below_then HB7.out hk)
  clear hk H8
  go_wp2_with fail
  go_ret
  exact ⟨rfl, HB8.out⟩

set_option maxHeartbeats 4000000 in
theorem back_no_no_no (a0 b0 b1 b2 b3 b4 b5 : Int) (n : Nat) (hn : n < 4294967296) (HO : a0 < -62135596800 ∨ 253402300799 < a0) (HS : SecIs b0 b1 b2 b3 b4 b5 0 23) (x : Int) (HF : FdIs n x 23) (w : World) (hp : Pow w) :
    Calls Tryd.prog 5 #[.int .i64 a0, .agg #[.int .i64 b0, .int .i64 b1, .int .i64 b2, .int .i64 b3, .int .i64 b4, .int .i64 b5], .int .u32 (n : Nat)] w fun e w' => e = .returned (.bool true) ∧ Below w.heap.size w w' := by
  have H1 := Lib.hid (fun w => of_n a0 HO w)
  clear HO
  have H5 := Lib.hid (fun w => sec_any HS w)
  clear HS
  have H7 := Lib.hid (fun w => fromDOS_any hn HF w)
  clear HF
  have hb := (Below.refl w.heap.size w).alloc (Nat.le_refl _) (.cells #[.int .i64 b0, .int .i64 b1, .int .i64 b2, .int .i64 b3, .int .i64 b4, .int .i64 b5] 23)
  have hx := heap_alloc_new w (.cells #[.int .i64 b0, .int .i64 b1, .int .i64 b2, .int .i64 b3, .int .i64 b4, .int .i64 b5] 23)
  have HP := Lib.hid (hp.below hb)
  clear hp
  go_enter Tryd.func5, Tryd.ntmps5
  go_wp2_with fail
  generalize w.alloc (.cells #[.int .i64 b0, .int .i64 b1, .int .i64 b2, .int .i64 b3, .int .i64 b4, .int .i64 b5] 23) = wa at *
  refine (awake12_any _ HP.out).mono ?_; rintro e w0 ⟨rfl, hk⟩
  have HB0 := Lib.hid (below_then hb hk)
  have X0 := Lib.hid ((hk.block _ (lt_of_heap hx)).trans hx)
  clear hb hx hk HP
  go_wp2_with fail
  refine (H1.out _).mono ?_; rintro e w1 ⟨rfl, hk⟩
  have hb1 := below_then HB0.out hk
  have hb2 := hb1.alloc hb1.size (.cells #[.int .i64 0, .int .i64 0, .int .i64 0, .int .i64 0, .int .i64 0, .int .i64 0] 23)
  have hx0 := (hk.block _ (lt_of_heap X0.out)).trans X0.out
  have hx1 := (Below.heap_alloc w1 (.cells #[.int .i64 0, .int .i64 0, .int .i64 0, .int .i64 0, .int .i64 0, .int .i64 0] 23) _ (lt_of_heap hx0)).trans hx0
  have HBa := Lib.hid hb2
  obtain ⟨x0, x1, x2', x3, x4, x5⟩ := cells6 hx1
  have XA := Lib.hid hx1
  clear hk hb1 hx0 HB0 X0 H1 hx1 hb2
  go_wp2_with fail
  refine (H5.out _).mono ?_; rintro e w5 ⟨rfl, hk⟩
  have HB5 := Lib.hid (below_then HBa.out hk)
  have X5 := Lib.hid ((hk.block _ (lt_of_heap XA.out)).trans XA.out)
  clear hk HBa XA H5
  go_wp2_with fail
  have HB6 := Lib.hid HB5.out
  refine (H7.out _).mono ?_; rintro e w7 ⟨rfl, hk⟩
  have HB7 := Lib.hid (below_then HB6.out hk)
  clear hk HB6 H7
  go_wp2_with fail
  go_ret
  exact ⟨rfl, HB7.out⟩
end Go.Proofs.YtmbifoockenniaaDoor
