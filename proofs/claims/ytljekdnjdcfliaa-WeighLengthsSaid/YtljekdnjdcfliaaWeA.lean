/-
  weigh: slices of counts, signs, loads; contracts of next's two functions.
-/
import Derived.Test.YtljekdnjdcfliaaPreB
import Derived.Test.YtljekdnjdcfliaaWMath
import Derived.StillTailTactics
namespace Go.Proofs.Ytljekdnjdcfliaa
open Go.RowKit

/-- A slice of counts. -/
def Cts (w : World) (A : Option Addr) (n : Nat) (f : Nat → Nat) : Prop := 0 < n → ∃ b off, A = some ⟨b, off, none⟩ ∧ b < w.heap.size ∧ ∀ i, i < n → w.cell? ⟨b, off + i, none⟩ = some (.int .u32 (f i : Nat)) ∧ f i < 4294967296
theorem Cts.below {w w' : World} {B n : Nat} {A : Option Addr} {f : Nat → Nat} (h : Cts w A n f) (hB : w.heap.size ≤ B) (hb : Below B w w') : Cts w' A n f := fun hn => by
  obtain ⟨b, off, e, hlt, hc⟩ := h hn
  exact ⟨b, off, e, Nat.lt_of_lt_of_le hlt hb.size, fun i hi => ⟨(hb.cell (p := ⟨b, off + i, none⟩) (Nat.lt_of_lt_of_le hlt hB)).trans (hc i hi).1, (hc i hi).2⟩⟩
/-- A slice of signs. -/
def Sns (w : World) (A : Option Addr) (n : Nat) (f : Nat → Nat) : Prop := 0 < n → ∃ b off, A = some ⟨b, off, none⟩ ∧ b < w.heap.size ∧ ∀ i, i < n → w.cell? ⟨b, off + i, none⟩ = some (.int .i64 (f i : Nat))
theorem Sns.below {w w' : World} {B n : Nat} {A : Option Addr} {f : Nat → Nat} (h : Sns w A n f) (hB : w.heap.size ≤ B) (hb : Below B w w') : Sns w' A n f := fun hn => by
  obtain ⟨b, off, e, hlt, hc⟩ := h hn
  exact ⟨b, off, e, Nat.lt_of_lt_of_le hlt hb.size, fun i hi => (hb.cell (p := ⟨b, off + i, none⟩) (Nat.lt_of_lt_of_le hlt hB)).trans (hc i hi)⟩
/-- A slice of loads. -/
def Row (w : World) (A : Option Addr) (l : List Ld) : Prop := 0 < l.length → ∃ b off, A = some ⟨b, off, none⟩ ∧ b < w.heap.size ∧ (∃ cs, w.heap[b]? = some (.cells cs 127 (0, 0))) ∧ ∀ i x, l[i]? = some x → w.cell? ⟨b, off + i * 2, none⟩ = some (.int .u64 (x.1 : Nat)) ∧ w.cell? ⟨b, off + i * 2 + 1, none⟩ = some (.bool x.2)
theorem Row.below {w w' : World} {B : Nat} {A : Option Addr} {l : List Ld} (h : Row w A l) (hB : w.heap.size ≤ B) (hb : Below B w w') : Row w' A l := fun hn => by
  obtain ⟨b, off, e, hlt, ⟨cs, ht⟩, hc⟩ := h hn
  exact ⟨b, off, e, Nat.lt_of_lt_of_le hlt hb.size, ⟨cs, (hb.block b (Nat.lt_of_lt_of_le hlt hB)).trans ht⟩, fun i x hx => ⟨(hb.cell (p := ⟨b, off + i * 2, none⟩) (Nat.lt_of_lt_of_le hlt hB)).trans (hc i x hx).1, (hb.cell (p := ⟨b, off + i * 2 + 1, none⟩) (Nat.lt_of_lt_of_le hlt hB)).trans (hc i x hx).2⟩⟩

theorem info_load : (Try.prog.info? 127).map (·.size) = some 2 := by kernel_rfl
/-- Two cells set. -/
theorem two_set {w : World} {g : Nat} {a b x y : Value} {T : TypeId} (h : w.heap[g]? = some (.cells #[a, b] T (0, 0))) : ((w.setCell ⟨g, 0, none⟩ x).setCell ⟨g, 1, none⟩ y).heap[g]? = some (.cells #[x, y] T (0, 0)) := by
  have h1 := heap_setCell_same w g 0 _ _ x h
  have h2 := heap_setCell_same _ g 1 _ _ y h1
  simpa using h2

set_option maxRecDepth 100000 in
set_option maxHeartbeats 2000000 in
theorem bit_any (p1 p2 : Nat) (A S : Option Addr) (n capA m capS : Nat) (f g : Nat → Nat) (i : Nat) (w : World) (hC : Cts w A n f) (hS : Sns w S m g) (hi : i < m) (hg : g i < n) (hm : m ≤ 1000) (hn : n ≤ 1000)
    (h1 : w.cell? ⟨p1, 0, none⟩ = some (.slice A n capA)) (h2 : w.cell? ⟨p2, 0, none⟩ = some (.slice S m capS)) (hp : p1 < w.heap.size ∧ p2 < w.heap.size) :
    Calls Try.prog 72 #[.int .i64 i, .pointer (some ⟨p1, 0, none⟩), .pointer (some ⟨p2, 0, none⟩)] w fun e w' => e = .returned (.agg #[.int .u64 (f (g i) : Nat), .bool false]) ∧ Below w.heap.size w w' := by
  obtain ⟨b, off, rfl, hbl, hc⟩ := hC (by omega)
  obtain ⟨b2, off2, rfl, hbl2, hc2⟩ := hS (by omega)
  have hbx : Below w.heap.size w (w.alloc (.cells #[.int .u64 0, .bool false] 127)) := below_alloc (Below.refl _ _) _
  have c1 := (hbx.cell (p := ⟨p1, 0, none⟩) hp.1).trans h1
  have c2 := (hbx.cell (p := ⟨p2, 0, none⟩) hp.2).trans h2
  have c3 := (hbx.cell (p := ⟨b2, off2 + i, none⟩) hbl2).trans (hc2 i hi)
  have c4 := (hbx.cell (p := ⟨b, off + g i, none⟩) hbl).trans (hc (g i) hg).1
  have hlt := (hc (g i) hg).2
  have hnew := heap_alloc_new w (.cells #[.int .u64 0, .bool false] 127)
  clear hc hc2 h1 h2
  generalize f (g i) = x at *
  generalize g i = s at *
  have hw1 : IntKind.u64.wrap (x : Int) = x := by rw [IntKind.wrap_u64]; omega
  go_enter Try.func72, Try.ntmps72
  go_wp2
  generalize w.alloc (.cells #[.int .u64 0, .bool false] 127) = W2 at *
  have HB := Lib.hid hbx
  have HN := Lib.hid hnew
  clear hbx hnew
  go_still_tail 9, (by kernel_rfl)
  change wpList _ _ _ _ _ W2.drew
  have hn2 : W2.drew.heap[w.heap.size]? = some (.cells #[.int .u64 0, .bool false] 127 (0, 0)) := HN.out
  have hb2 : Below w.heap.size w W2.drew := HB.out.drew
  generalize W2.drew = W3 at *
  have f0 := frozen_of_row W3 _ 0 _ _ hn2
  have f1 := frozen_of_row W3 _ 1 _ _ hn2
  have e0 := cell_of_row W3 _ 0 _ _ _ hn2
  have e1 := cell_of_row W3 _ 1 _ _ _ hn2
  go_wp2
  exact bodyPost_ret (results_cell_row rfl _ _ w.heap.size 127 #[.int .u64 (x : Nat), .bool false] (0, 0) _ rfl (two_set hn2) Try.underlying127 rfl info_load) rfl ⟨rfl, (hb2.setCell (Nat.le_refl _) _).setCell (Nat.le_refl _) _⟩

set_option maxRecDepth 100000 in
set_option maxHeartbeats 2000000 in
theorem pair_any (p1 : Nat) (A : Option Addr) (cap : Nat) (l : List Ld) (i : Nat) (w : World) (hR : Row w A l) (hi : 2 * i + 1 < l.length) (hn : l.length ≤ 1000)
    (h1 : w.cell? ⟨p1, 0, none⟩ = some (.slice A l.length cap)) (hp : p1 < w.heap.size) (x y : Ld) (hx : l[2 * i]? = some x) (hy : l[2 * i + 1]? = some y) (hxy : x.1 + y.1 < 18446744073709551616) :
    Calls Try.prog 73 #[.int .i64 i, .pointer (some ⟨p1, 0, none⟩)] w fun e w' => e = .returned (.agg #[.int .u64 (x.1 + y.1 : Nat), .bool true]) ∧ Below w.heap.size w w' := by
  obtain ⟨b, off, rfl, hbl, _, hc⟩ := hR (by omega)
  have hbx : Below w.heap.size w (w.alloc (.cells #[.int .u64 0, .bool false] 127)) := below_alloc (Below.refl _ _) _
  have c1 := (hbx.cell (p := ⟨p1, 0, none⟩) hp).trans h1
  have c3 := (hbx.cell (p := ⟨b, off + 2 * i * 2, none⟩) hbl).trans (hc _ _ hx).1
  have c4 := (hbx.cell (p := ⟨b, off + (2 * i + 1) * 2, none⟩) hbl).trans (hc _ _ hy).1
  have hnew := heap_alloc_new w (.cells #[.int .u64 0, .bool false] 127)
  clear hc h1 hx hy
  obtain ⟨x, xb⟩ := x
  obtain ⟨y, yb⟩ := y
  generalize l.length = n at *
  simp only at *
  have hw1 : IntKind.i64.wrap (2 * (i : Int)) = 2 * (i : Int) := by rw [IntKind.wrap_i64]; omega
  have hw2 : IntKind.i64.wrap (2 * (i : Int) + 1) = 2 * (i : Int) + 1 := by rw [IntKind.wrap_i64]; omega
  have hb1 : 2 * (i : Int) < n := by omega
  have hb2 : 2 * (i : Int) + 1 < n := by omega
  have hb3 : 0 ≤ 2 * (i : Int) := by omega
  have hb4 : 0 ≤ 2 * (i : Int) + 1 := by omega
  have ht1 : (2 * (i : Int)).toNat = 2 * i := by omega
  have ht2 : (2 * (i : Int) + 1).toNat = 2 * i + 1 := by omega
  have hw3 : IntKind.u64.wrap ((x : Int) + (y : Int)) = ((x + y : Nat) : Int) := by rw [IntKind.wrap_u64]; omega
  go_enter Try.func73, Try.ntmps73
  go_wp2
  generalize w.alloc (.cells #[.int .u64 0, .bool false] 127) = W2 at *
  have HB := Lib.hid hbx
  have HN := Lib.hid hnew
  clear hbx hnew
  go_still_tail 15, (by kernel_rfl)
  change wpList _ _ _ _ _ W2.drew
  have hn2 : W2.drew.heap[w.heap.size]? = some (.cells #[.int .u64 0, .bool false] 127 (0, 0)) := HN.out
  have hb2 : Below w.heap.size w W2.drew := HB.out.drew
  generalize W2.drew = W3 at *
  have f0 := frozen_of_row W3 _ 0 _ _ hn2
  have f1 := frozen_of_row W3 _ 1 _ _ hn2
  have e0 := cell_of_row W3 _ 0 _ _ _ hn2
  have e1 := cell_of_row W3 _ 1 _ _ _ hn2
  go_wp2
  exact bodyPost_ret (results_cell_row rfl _ _ w.heap.size 127 #[.int .u64 (x + y : Nat), .bool true] (0, 0) _ rfl (two_set hn2) Try.underlying127 rfl info_load) rfl ⟨rfl, (hb2.setCell (Nat.le_refl _) _).setCell (Nat.le_refl _) _⟩

set_option maxRecDepth 100000 in
set_option maxHeartbeats 2000000 in
theorem pairs_any (A : Option Addr) (n cap : Nat) (l : List Ld) (w : World) (hR : Row w A l) (hn : n ≤ l.length) (hl : l.length ≤ 1000) :
    Calls Try.prog 66 #[.slice A n cap] w fun e w' => e = .returned (.int .i64 (npair (l.take n) : Nat)) ∧ Below w.heap.size w w' := by
  have HR := Lib.hid hR
  clear hR
  go_enter Try.func66, Try.ntmps66
  go_wp2
  go_loopw [3, 8] (fun m i wr => ∃ k : Nat, k ≤ n ∧ i = .int .i64 k ∧ m = .int .i64 (npair (l.take k) : Nat) ∧ Below w.heap.size w wr) (fun _ i _ => n - (intOf i).toNat)
  case atStart => exact ⟨0, Nat.zero_le _, rfl, rfl, Below.refl _ _⟩
  case round =>
    obtain ⟨k, hk, rfl, rfl, hb⟩ := hrel
    by_cases hlt : k < n
    · obtain ⟨b, off, rfl, hbl, _, hc⟩ := HR.out (by omega)
      have hx := List.getElem?_eq_getElem (show k < l.length by omega)
      have c1 := (hb.cell (p := ⟨b, off + k * 2, none⟩) hbl).trans (hc _ _ hx).1
      have c2 := (hb.cell (p := ⟨b, off + k * 2 + 1, none⟩) hbl).trans (hc _ _ hx).2
      have hstep : npair (l.take (k + 1)) = npair (l.take k) + if l[k].2 then 1 else 0 := by
        rw [List.take_succ_eq_append_getElem (by omega)]
        simp only [npair, List.countP_append, List.countP_cons, List.countP_nil]
        split <;> simp_all
      have hple : npair (l.take k) ≤ k := by
        have := List.countP_le_length (p := fun x : Ld => x.2) (l := l.take k)
        rw [List.length_take] at this
        unfold npair
        omega
      have HST := Lib.hid hstep
      have HB := Lib.hid hb
      clear hc hb hx hstep
      generalize l[k].1 = x at *
      generalize l[k].2 = y at *
      generalize npair (l.take k) = q at *
      cases y
      · go_wp2
        go_roundw
        case rel => exact ⟨k + 1, by omega, by go_num, by rw [HST.out]; rfl, below_alloc HB.out _⟩
        case measure => simp [intOf]; omega
      · go_wp2
        go_roundw
        case rel => exact ⟨k + 1, by omega, by go_num, by rw [HST.out]; go_num, below_alloc HB.out _⟩
        case measure => simp [intOf]; omega
    · obtain rfl : k = n := by omega
      go_wp2
      go_ret
      exact ⟨rfl, hb⟩
end Go.Proofs.Ytljekdnjdcfliaa
