/-
  Contracts of package header: PrintDescriptor.
-/
import Derived.Test.YtklmfncljebgnaaHdL
namespace Go.Proofs.Ytklmfncljebgnaa
set_option maxRecDepth 100000
set_option linter.unusedSimpArgs false
set_option linter.unusedVariables false
open Go.RowKit Go.Joins Go.Deep Go.Op
def szD (x1 x2 : Nat) (wide : Bool) : ByteArray := if wide = true then text (lesL 8 [x1, x2]) else text (lesL 4 [x1 % 4294967296, x2 % 4294967296])
def txD (x0 x1 x2 : Nat) (wide : Bool) : ByteArray := (⟨#[80, 75, 7, 8]⟩ : ByteArray) ++ text (le x0 4) ++ szD x1 x2 wide
theorem four2 (g a b : Nat) (ha : a < 4294967296) (hb : b < 4294967296) (w : World) (hr : RdI w .u32 (some ⟨g, 0, none⟩) [a, b]) :
    Calls Try.prog 48 #[.func (.func 49) #[] #[], .slice (some ⟨g, 0, none⟩) 2 2] w fun e w' => e = .returned (.string (text (lesL 4 [a, b]))) ∧ Below w.heap.size w w' :=
  row4_any _ 2 [a, b] (by simp) (by intro x hx; simp at hx; rcases hx with rfl | rfl <;> assumption) w hr
theorem eight2 (g a b : Nat) (ha : a < 18446744073709551616) (hb : b < 18446744073709551616) (w : World) (hr : RdI w .u64 (some ⟨g, 0, none⟩) [a, b]) :
    Calls Try.prog 51 #[.func (.func 52) #[] #[], .slice (some ⟨g, 0, none⟩) 2 2] w fun e w' => e = .returned (.string (text (lesL 8 [a, b]))) ∧ Below w.heap.size w w' :=
  row8_any _ 2 [a, b] (by simp) (by intro x hx; simp at hx; rcases hx with rfl | rfl <;> assumption) w hr
set_option maxHeartbeats 4000000 in
theorem printD_any (x0 x1 x2 : Nat) (b0 : x0 < 4294967296) (b1 : x1 < 18446744073709551616) (b2 : x2 < 18446744073709551616) (wide : Bool) (w : World) :
    Calls Try.prog 25 #[.agg #[.int .u32 (x0 : Nat), .int .u64 (x1 : Nat), .int .u64 (x2 : Nat)], .bool wide] w fun e w' => e = .returned (.string (txD x0 x1 x2 wide)) ∧ Below w.heap.size w w' := by
  have hh0 := heap_alloc_new w (.cells #[.int .u32 (x0 : Nat), .int .u64 (x1 : Nat), .int .u64 (x2 : Nat)] 45)
  obtain ⟨y1, hy1⟩ : ∃ y, y = x1 % 4294967296 := ⟨_, rfl⟩
  obtain ⟨y2, hy2⟩ : ∃ y, y = x2 % 4294967296 := ⟨_, rfl⟩
  have hw1 : IntKind.u32.wrap (x1 : Int) = y1 := by rw [IntKind.wrap_u32]; omega
  have hw2 : IntKind.u32.wrap (x2 : Int) = y2 := by rw [IntKind.wrap_u32]; omega
  have c1 : (w.alloc (.cells #[.int .u32 (x0 : Nat), .int .u64 (x1 : Nat), .int .u64 (x2 : Nat)] 45)).cell? ⟨w.heap.size, 1, none⟩ = some (.int .u64 (x1 : Nat)) := by rw [Lib.cell_of_heap hh0]; rfl
  have c2 : (w.alloc (.cells #[.int .u32 (x0 : Nat), .int .u64 (x1 : Nat), .int .u64 (x2 : Nat)] 45)).cell? ⟨w.heap.size, 2, none⟩ = some (.int .u64 (x2 : Nat)) := by rw [Lib.cell_of_heap hh0]; rfl
  have HR0 : Hid (RdI ((w.alloc (.cells #[.int .u32 (x0 : Nat), .int .u64 (x1 : Nat), .int .u64 (x2 : Nat)] 45)).alloc (.cells #[.int .u32 (y1 : Nat), .int .u32 (y2 : Nat)] 24)) .u32 (some ⟨w.heap.size + 1, 0, none⟩) [y1, y2]) := RdI.of_heap (heap_alloc_at (alloc_size _ _).symm) rfl
  have HH0 : Hid (((w.alloc (.cells #[.int .u32 (x0 : Nat), .int .u64 (x1 : Nat), .int .u64 (x2 : Nat)] 45)).alloc (.cells #[.int .u32 (y1 : Nat), .int .u32 (y2 : Nat)] 24)).heap[w.heap.size]? = some (.cells #[.int .u32 (x0 : Nat), .int .u64 (x1 : Nat), .int .u64 (x2 : Nat)] 45 (0, 0))) := (Below.heap_alloc _ _ _ (by simp)).trans hh0
  have HB0 : Hid (Below w.heap.size w ((w.alloc (.cells #[.int .u32 (x0 : Nat), .int .u64 (x1 : Nat), .int .u64 (x2 : Nat)] 45)).alloc (.cells #[.int .u32 (y1 : Nat), .int .u32 (y2 : Nat)] 24))) := ((Below.refl _ _).alloc (Nat.le_refl _) _).alloc (by simp) _
  have HC0 := Lib.hid (four2 (w.heap.size + 1) y1 y2 (by omega) (by omega) _ HR0.out)
  have HE := Lib.hid (fun g w hr => eight2 g x1 x2 b1 b2 w hr)
  have HF := Lib.hid (fun w => four_any x0 b0 w)
  have HY1 := Lib.hid hy1
  have HY2 := Lib.hid hy2
  have z0 : (text (le x0 4)).size ≤ 1000 := by rw [text_size, le_len]; omega
  have z1 : (text (lesL 8 [x1, x2])).size ≤ 1000 := by rw [text_size, lesL_len]; simp
  have z2 : (text (lesL 4 [y1, y2])).size ≤ 1000 := by rw [text_size, lesL_len]; simp
  have HT : Hid (txD x0 x1 x2 true = (⟨#[80, 75, 7, 8]⟩ : ByteArray) ++ text (le x0 4) ++ text (lesL 8 [x1, x2])) := rfl
  have HN : Hid (txD x0 x1 x2 false = (⟨#[80, 75, 7, 8]⟩ : ByteArray) ++ text (le x0 4) ++ text (lesL 4 [y1, y2])) := by show _ = _; rw [hy1, hy2]; rfl
  generalize text (lesL 8 [x1, x2]) = U8 at *
  generalize text (lesL 4 [y1, y2]) = U4 at *
  generalize text (le x0 4) = U0 at *
  clear hh0 HR0 hy1 hy2
  go_enter Try.func25, Try.ntmps25
  go_wp2_with fail
  generalize (w.alloc (.cells #[.int .u32 (x0 : Nat), .int .u64 (x1 : Nat), .int .u64 (x2 : Nat)] 45)).alloc (.cells #[.int .u32 (y1 : Nat), .int .u32 (y2 : Nat)] 24) = w0 at *
  refine (HC0.out).mono ?_; rintro e w1 ⟨rfl, hb1⟩
  have hh1 : w1.heap[w.heap.size]? = some (.cells #[.int .u32 (x0 : Nat), .int .u64 (x1 : Nat), .int .u64 (x2 : Nat)] 45 (0, 0)) := (hb1.block _ (lt_of_some HH0.out)).trans HH0.out
  have HB1 := Lib.hid (HB0.out.trans (hb1.mono HB0.out.size))
  have d0 : w1.cell? ⟨w.heap.size, 0, none⟩ = some (.int .u32 (x0 : Nat)) := by rw [Lib.cell_of_heap hh1]; rfl
  have d1 : w1.cell? ⟨w.heap.size, 1, none⟩ = some (.int .u64 (x1 : Nat)) := by rw [Lib.cell_of_heap hh1]; rfl
  have d2 : w1.cell? ⟨w.heap.size, 2, none⟩ = some (.int .u64 (x2 : Nat)) := by rw [Lib.cell_of_heap hh1]; rfl
  have HH1 := Lib.hid hh1
  clear hb1 hh1 HB0 HH0 HC0
  cases wide with
  | true =>
    have HR1 : Hid (RdI (w1.alloc (.cells #[.int .u64 (x1 : Nat), .int .u64 (x2 : Nat)] 36)) .u64 (some ⟨w1.heap.size, 0, none⟩) [x1, x2]) := RdI.of_heap (heap_alloc_new _ _) rfl
    have HB2 := Lib.hid (HB1.out.alloc HB1.out.size (.cells #[.int .u64 (x1 : Nat), .int .u64 (x2 : Nat)] 36))
    have HH2 : Hid ((w1.alloc (.cells #[.int .u64 (x1 : Nat), .int .u64 (x2 : Nat)] 36)).heap[w.heap.size]? = _) := (Below.heap_alloc _ _ _ (lt_of_some HH1.out)).trans HH1.out
    go_wp2_with fail
    refine (HE.out _ _ HR1.out).mono ?_; rintro e w2 ⟨rfl, hb2⟩
    have hh3 := (hb2.block _ (lt_of_some HH2.out)).trans HH2.out
    have e0 : w2.cell? ⟨w.heap.size, 0, none⟩ = some (.int .u32 (x0 : Nat)) := by rw [Lib.cell_of_heap hh3]; rfl
    have HB3 := Lib.hid (HB2.out.trans (hb2.mono HB2.out.size))
    clear hb2 hh3 HR1 HB2 HH2
    go_wp2_with fail
    refine (HF.out _).mono ?_; rintro e w3 ⟨rfl, hb3⟩
    have HB4 := Lib.hid (HB3.out.trans (hb3.mono HB3.out.size))
    clear hb3
    go_wp2_with fail
    go_ret
    rw [HT.out]
    exact ⟨rfl, HB4.out⟩
  | false =>
    go_wp2_with fail
    refine (HF.out _).mono ?_; rintro e w3 ⟨rfl, hb3⟩
    have HB4 := Lib.hid (HB1.out.trans (hb3.mono HB1.out.size))
    clear hb3
    go_wp2_with fail
    go_ret
    rw [HN.out]
    exact ⟨rfl, HB4.out⟩
end Go.Proofs.Ytklmfncljebgnaa
