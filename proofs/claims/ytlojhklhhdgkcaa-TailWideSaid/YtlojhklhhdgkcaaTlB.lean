/-
  Contracts of package tail: printEnd.
-/
import Derived.Test.YtlojhklhhdgkcaaTlA
import Derived.Test.YtlojhklhhdgkcaaHdL
namespace Go.Proofs.Ytlojhklhhdgkcaa
set_option maxRecDepth 100000
set_option linter.unusedSimpArgs false
set_option linter.unusedVariables false
open Go.RowKit Go.Joins Go.Deep Go.Op
def wsE : List Nat := [4, 2, 2, 2, 2, 4, 4, 2]
def wsW : List Nat := [4, 8, 2, 2, 4, 4, 8, 8, 8, 8]
def wsLo : List Nat := [4, 4, 8, 4]
/-- An end record's bytes. -/
def endT (n z o : Nat) (c : ByteArray) : ByteArray := text (prN [101010256, 0, 0, n, n, z, o, c.size] wsE) ++ c
/-- A wide record's bytes, and its locator's. -/
def wideT (n z o : Nat) : ByteArray := text (prN [101075792, 44, 45, 45, 0, 0, n, n, z, o] wsW) ++ text (prN [117853008, 0, (o + z) % 18446744073709551616, 1] wsLo)
theorem end_eq (n z o : Nat) (c : ByteArray) : (⟨#[80, 75, 5, 6]⟩ : ByteArray) ++ text (lesL 2 [0, 0, n, n]) ++ text (lesL 4 [z, o]) ++ text (le c.size 2) ++ c = endT n z o c := by
  unfold endT
  rw [show (⟨#[80, 75, 5, 6]⟩ : ByteArray) = text (le 101010256 4) by rfl, text_app, text_app, text_app]
  congr 2
theorem wide_eq (n z o : Nat) : (⟨#[80, 75, 6, 6]⟩ : ByteArray) ++ text (le 44 8) ++ text (lesL 2 [45, 45]) ++ text (lesL 4 [0, 0]) ++ text (lesL 8 [n, n, z, o]) ++ (⟨#[80, 75, 6, 7]⟩ : ByteArray) ++ text (le 0 4) ++ text (le ((o + z) % 18446744073709551616) 8) ++ text (le 1 4) = wideT n z o := by
  unfold wideT
  rw [show (⟨#[80, 75, 6, 6]⟩ : ByteArray) = text (le 101075792 4) by rfl, show (⟨#[80, 75, 6, 7]⟩ : ByteArray) = text (le 117853008 4) by rfl]
  simp only [text_app]
  congr 1
theorem two4 (g a b c d : Nat) (ha : a < 65536) (hb : b < 65536) (hc : c < 65536) (hd : d < 65536) (w : World) (hr : RdI w .u16 (some ⟨g, 0, none⟩) [a, b, c, d]) :
    Calls Try.prog 19 #[.func (.func 20) #[] #[], .slice (some ⟨g, 0, none⟩) 4 4] w fun e w' => e = .returned (.string (text (lesL 2 [a, b, c, d]))) ∧ Below w.heap.size w w' :=
  row2_tail _ 4 [a, b, c, d] (by simp) (by intro x hx; simp at hx; rcases hx with rfl | rfl | rfl | rfl <;> assumption) w hr
theorem four2t (g a b : Nat) (ha : a < 4294967296) (hb : b < 4294967296) (w : World) (hr : RdI w .u32 (some ⟨g, 0, none⟩) [a, b]) :
    Calls Try.prog 21 #[.func (.func 22) #[] #[], .slice (some ⟨g, 0, none⟩) 2 2] w fun e w' => e = .returned (.string (text (lesL 4 [a, b]))) ∧ Below w.heap.size w w' :=
  row4_tail _ 2 [a, b] (by simp) (by intro x hx; simp at hx; rcases hx with rfl | rfl <;> assumption) w hr
set_option maxHeartbeats 4000000 in
theorem printEnd_any (n z o : Nat) (hn : n < 65536) (hz : z < 4294967296) (ho : o < 4294967296) (c : ByteArray) (hc : c.size ≤ 65535) (w : World) :
    Calls Try.prog 9 #[.int .u16 (n : Nat), .int .u32 (z : Nat), .int .u32 (o : Nat), .string c] w fun e w' => e = .returned (.string (endT n z o c)) ∧ Below w.heap.size w w' := by
  have HR0 : Hid (RdI (w.alloc (.cells #[.int .u16 0, .int .u16 0, .int .u16 (n : Nat), .int .u16 (n : Nat)] 23)) .u16 (some ⟨w.heap.size, 0, none⟩) [0, 0, n, n]) := RdI.of_heap (heap_alloc_new _ _) rfl
  have HB0 : Hid (Below w.heap.size w (w.alloc (.cells #[.int .u16 0, .int .u16 0, .int .u16 (n : Nat), .int .u16 (n : Nat)] 23))) := (Below.refl _ _).alloc (Nat.le_refl _) _
  have HC1 := Lib.hid (two4 w.heap.size 0 0 n n (by omega) (by omega) hn hn _ HR0.out)
  have HC2 := Lib.hid (fun g w hr => four2t g z o hz ho w hr)
  have hcw : IntKind.u16.wrap (c.size : Int) = c.size := by rw [IntKind.wrap_u16]; omega
  have HC3 := Lib.hid (fun w => two_any c.size (by omega) w)
  have HE := Lib.hid (end_eq n z o c)
  have z1 : (text (lesL 2 [0, 0, n, n])).size ≤ 1000 := by rw [text_size, lesL_len]; simp
  have z2 : (text (lesL 4 [z, o])).size ≤ 1000 := by rw [text_size, lesL_len]; simp
  have z3 : (text (le c.size 2)).size ≤ 1000 := by rw [text_size, le_len]; omega
  generalize text (lesL 2 [0, 0, n, n]) = U1 at *
  generalize text (lesL 4 [z, o]) = U2 at *
  generalize text (le c.size 2) = U3 at *
  clear HR0
  go_enter Try.func9, Try.ntmps9
  go_wp2_with fail
  generalize w.alloc (.cells #[.int .u16 0, .int .u16 0, .int .u16 (n : Nat), .int .u16 (n : Nat)] 23) = w0 at *
  refine (HC1.out).mono ?_; rintro e w1 ⟨rfl, hb1⟩
  have HR1 : Hid (RdI (w1.alloc (.cells #[.int .u32 (z : Nat), .int .u32 (o : Nat)] 38)) .u32 (some ⟨w1.heap.size, 0, none⟩) [z, o]) := RdI.of_heap (heap_alloc_new _ _) rfl
  have HB1 := Lib.hid ((HB0.out.trans (hb1.mono HB0.out.size)).alloc (Nat.le_trans HB0.out.size hb1.size) (.cells #[.int .u32 (z : Nat), .int .u32 (o : Nat)] 38))
  clear hb1 HB0 HC1
  go_wp2_with fail
  refine (HC2.out _ _ HR1.out).mono ?_; rintro e w2 ⟨rfl, hb2⟩
  have HB2 := Lib.hid (HB1.out.trans (hb2.mono HB1.out.size))
  clear hb2 HB1 HR1 HC2
  go_wp2_with fail
  refine (HC3.out _).mono ?_; rintro e w3 ⟨rfl, hb3⟩
  have HB3 := Lib.hid (HB2.out.trans (hb3.mono HB2.out.size))
  clear hb3 HB2 HC3
  go_wp2_with fail
  go_ret
  rw [← HE.out]
  exact ⟨rfl, HB3.out⟩
end Go.Proofs.Ytlojhklhhdgkcaa
