/-
 weigh: slices of counts, signs, loads; contracts of next's two functions.
 weigh: contract of merge.
 weigh: contracts of next and rows.
 A range over an iterator whose k-th value is known: what a caller's loop comes to; slices.Backward over the rows.
 weigh: contract of share.
-/
import Derived.Test.YtmkeicfklbepnaaGreatPkAA
import Derived.Test.YtmkeicfklbepnaaGreatWm0
import Derived.StillTailTactics
import Derived.RangeFuncNested
import Derived.RangeFuncBound
import Derived.RangeFuncCalls
import Derived.RangeFuncLeaves
import Derived.OwnWalkIn
import Derived.TacticsInMore
import Derived.LoopNIn
import Derived.LoopIn
import Derived.Shelf.Abstract

namespace Go.Proofs.YtmkeicfklbepnaaGreat.We
open Go.RowKit

/-- A slice of counts. -/
def Cts (w : World) (A : Option Addr) (n : Nat) (f : Nat → Nat) : Prop := 0 < n → ∃ b off, A = some ⟨b, off, none⟩ ∧ b < w.heap.size ∧ ∀ i, i < n → w.cell? ⟨b, off + i, none⟩ = some (.int .u32 (f i : Nat)) ∧ f i < 4294967296
theorem Cts.below {w w' : World} {B n : Nat} {A : Option Addr} {f : Nat → Nat} (h : Cts w A n f) (hB : w.heap.size ≤ B) (hb : Below B w w') : Cts w' A n f := fun hn => by
 obtain ⟨b, off, e, hlt, hc⟩ := h hn
 exact ⟨b, off, e, Nat.lt_of_lt_of_le hlt hb.size, fun i hi => ⟨(hb.cell (p := ⟨b, off + i, none⟩) (Nat.lt_of_lt_of_le hlt hB)).trans (hc i hi).1, (hc i hi).2⟩⟩
/-- A slice of signs. -/
def Sns (w : World) (A : Option Addr) (n : Nat) (f : Nat → Nat) : Prop := 0 < n → ∃ b off, A = some ⟨b, off, none⟩ ∧ b < w.heap.size ∧ ∀ i, i < n → w.cell? ⟨b, off + i, none⟩ = some (.int .i64 (f i : Nat))
theorem Sns.below {w w' : World} {B n : Nat} {A : Option Addr} {f : Nat → Nat} (h : Sns w A n f) (hB : w.heap.size ≤ B) (hb : Below B w w') : Sns w' A n f := fun hn => by
 obtain ⟨b, off, e, hlt, hc⟩ := h hn
 exact ⟨b, off, e, Nat.lt_of_lt_of_le hlt hb.size, fun i hi => (hb.cell (p := ⟨b, off + i, none⟩) (Nat.lt_of_lt_of_le hlt hB)).trans (hc i hi)⟩
/-- A slice of loads. -/
def Row (w : World) (A : Option Addr) (l : List Ld) : Prop := 0 < l.length → ∃ b off, A = some ⟨b, off, none⟩ ∧ b < w.heap.size ∧ (∃ cs, w.heap[b]? = some (.cells cs 204 (0, 0))) ∧ ∀ i x, l[i]? = some x → w.cell? ⟨b, off + i * 2, none⟩ = some (.int .u64 (x.1 : Nat)) ∧ w.cell? ⟨b, off + i * 2 + 1, none⟩ = some (.bool x.2)
theorem Row.below {w w' : World} {B : Nat} {A : Option Addr} {l : List Ld} (h : Row w A l) (hB : w.heap.size ≤ B) (hb : Below B w w') : Row w' A l := fun hn => by
 obtain ⟨b, off, e, hlt, ⟨cs, ht⟩, hc⟩ := h hn
 exact ⟨b, off, e, Nat.lt_of_lt_of_le hlt hb.size, ⟨cs, (hb.block b (Nat.lt_of_lt_of_le hlt hB)).trans ht⟩, fun i x hx => ⟨(hb.cell (p := ⟨b, off + i * 2, none⟩) (Nat.lt_of_lt_of_le hlt hB)).trans (hc i x hx).1, (hb.cell (p := ⟨b, off + i * 2 + 1, none⟩) (Nat.lt_of_lt_of_le hlt hB)).trans (hc i x hx).2⟩⟩

theorem info_load : (Tryz.prog.info? 204).map (·.size) = some 2 := by kernel_rfl
/-- Two cells set. -/
theorem two_set {w : World} {g : Nat} {a b x y : Value} {T : TypeId} (h : w.heap[g]? = some (.cells #[a, b] T (0, 0))) : ((w.setCell ⟨g, 0, none⟩ x).setCell ⟨g, 1, none⟩ y).heap[g]? = some (.cells #[x, y] T (0, 0)) := by
 have h1 := heap_setCell_same w g 0 _ _ x h
 have h2 := heap_setCell_same _ g 1 _ _ y h1
 simpa using h2

set_option maxRecDepth 100000 in
set_option maxHeartbeats 2000000 in
theorem bit_any (p1 p2 : Nat) (A S : Option Addr) (n capA m capS : Nat) (f g : Nat → Nat) (i : Nat) (w : World) (hC : Cts w A n f) (hS : Sns w S m g) (hi : i < m) (hg : g i < n) (hm : m ≤ 1000) (hn : n ≤ 1000)
  (h1 : w.cell? ⟨p1, 0, none⟩ = some (.slice A n capA)) (h2 : w.cell? ⟨p2, 0, none⟩ = some (.slice S m capS)) (hp : p1 < w.heap.size ∧ p2 < w.heap.size) :
  Calls Tryz.prog 129 #[.int .i64 i, .pointer (some ⟨p1, 0, none⟩), .pointer (some ⟨p2, 0, none⟩)] w fun e w' => e = .returned (.agg #[.int .u64 (f (g i) : Nat), .bool false]) ∧ Below w.heap.size w w' := by
 obtain ⟨b, off, rfl, hbl, hc⟩ := hC (by omega)
 obtain ⟨b2, off2, rfl, hbl2, hc2⟩ := hS (by omega)
 have hbx : Below w.heap.size w (w.alloc (.cells #[.int .u64 0, .bool false] 204)) := below_alloc (Below.refl _ _) _
 have c1 := (hbx.cell (p := ⟨p1, 0, none⟩) hp.1).trans h1
 have c2 := (hbx.cell (p := ⟨p2, 0, none⟩) hp.2).trans h2
 have c3 := (hbx.cell (p := ⟨b2, off2 + i, none⟩) hbl2).trans (hc2 i hi)
 have c4 := (hbx.cell (p := ⟨b, off + g i, none⟩) hbl).trans (hc (g i) hg).1
 have hlt := (hc (g i) hg).2
 have hnew := heap_alloc_new w (.cells #[.int .u64 0, .bool false] 204)
 clear hc hc2 h1 h2
 generalize f (g i) = x at *
 generalize g i = s at *
 have hw1 : IntKind.u64.wrap (x : Int) = x := by rw [IntKind.wrap_u64]; omega
 go_enter Tryz.func129, Tryz.ntmps129
 go_wp2
 generalize w.alloc (.cells #[.int .u64 0, .bool false] 204) = W2 at *
 have HB := Lib.hid hbx
 have HN := Lib.hid hnew
 clear hbx hnew
 go_still_tail 9, (by kernel_rfl)
 change wpList _ _ _ _ _ W2.drew
 have hn2 : W2.drew.heap[w.heap.size]? = some (.cells #[.int .u64 0, .bool false] 204 (0, 0)) := HN.out
 have hb2 : Below w.heap.size w W2.drew := HB.out.drew
 generalize W2.drew = W3 at *
 have f0 := frozen_of_row W3 _ 0 _ _ hn2
 have f1 := frozen_of_row W3 _ 1 _ _ hn2
 have e0 := cell_of_row W3 _ 0 _ _ _ hn2
 have e1 := cell_of_row W3 _ 1 _ _ _ hn2
 go_wp2
 exact bodyPost_ret (results_cell_row rfl _ _ w.heap.size 204 #[.int .u64 (x : Nat), .bool false] (0, 0) _ rfl (two_set hn2) Tryz.underlying204 rfl info_load) rfl ⟨rfl, (hb2.setCell (Nat.le_refl _) _).setCell (Nat.le_refl _) _⟩

set_option maxRecDepth 100000 in
set_option maxHeartbeats 2000000 in
theorem pair_any (p1 : Nat) (A : Option Addr) (cap : Nat) (l : List Ld) (i : Nat) (w : World) (hR : Row w A l) (hi : 2 * i + 1 < l.length) (hn : l.length ≤ 1000)
  (h1 : w.cell? ⟨p1, 0, none⟩ = some (.slice A l.length cap)) (hp : p1 < w.heap.size) (x y : Ld) (hx : l[2 * i]? = some x) (hy : l[2 * i + 1]? = some y) (hxy : x.1 + y.1 < 18446744073709551616) :
  Calls Tryz.prog 130 #[.int .i64 i, .pointer (some ⟨p1, 0, none⟩)] w fun e w' => e = .returned (.agg #[.int .u64 (x.1 + y.1 : Nat), .bool true]) ∧ Below w.heap.size w w' := by
 obtain ⟨b, off, rfl, hbl, _, hc⟩ := hR (by omega)
 have hbx : Below w.heap.size w (w.alloc (.cells #[.int .u64 0, .bool false] 204)) := below_alloc (Below.refl _ _) _
 have c1 := (hbx.cell (p := ⟨p1, 0, none⟩) hp).trans h1
 have c3 := (hbx.cell (p := ⟨b, off + 2 * i * 2, none⟩) hbl).trans (hc _ _ hx).1
 have c4 := (hbx.cell (p := ⟨b, off + (2 * i + 1) * 2, none⟩) hbl).trans (hc _ _ hy).1
 have hnew := heap_alloc_new w (.cells #[.int .u64 0, .bool false] 204)
 clear hc h1 hx hy
 obtain ⟨x, xb⟩ := x
 obtain ⟨y, yb⟩ := y
 generalize l.length = n at *
 simp only at *
 have hw1 : IntKind.i64.wrap (2 * (i : Int)) = 2 * (i : Int) := by rw [IntKind.wrap_i64]; omega
 have hw2 : IntKind.i64.wrap (2 * (i : Int) + 1) = 2 * (i : Int) + 1 := by rw [IntKind.wrap_i64]; omega
 have hb1 : 2 * (i : Int) < n := by omega
 have hb2 : 2 * (i : Int) + 1 < n := by omega
 have hb3 : 0 ≤ 2 * (i : Int) := by omega
 have hb4 : 0 ≤ 2 * (i : Int) + 1 := by omega
 have ht1 : (2 * (i : Int)).toNat = 2 * i := by omega
 have ht2 : (2 * (i : Int) + 1).toNat = 2 * i + 1 := by omega
 have hw3 : IntKind.u64.wrap ((x : Int) + (y : Int)) = ((x + y : Nat) : Int) := by rw [IntKind.wrap_u64]; omega
 go_enter Tryz.func130, Tryz.ntmps130
 go_wp2
 generalize w.alloc (.cells #[.int .u64 0, .bool false] 204) = W2 at *
 have HB := Lib.hid hbx
 have HN := Lib.hid hnew
 clear hbx hnew
 go_still_tail 15, (by kernel_rfl)
 change wpList _ _ _ _ _ W2.drew
 have hn2 : W2.drew.heap[w.heap.size]? = some (.cells #[.int .u64 0, .bool false] 204 (0, 0)) := HN.out
 have hb2 : Below w.heap.size w W2.drew := HB.out.drew
 generalize W2.drew = W3 at *
 have f0 := frozen_of_row W3 _ 0 _ _ hn2
 have f1 := frozen_of_row W3 _ 1 _ _ hn2
 have e0 := cell_of_row W3 _ 0 _ _ _ hn2
 have e1 := cell_of_row W3 _ 1 _ _ _ hn2
 go_wp2
 exact bodyPost_ret (results_cell_row rfl _ _ w.heap.size 204 #[.int .u64 (x + y : Nat), .bool true] (0, 0) _ rfl (two_set hn2) Tryz.underlying204 rfl info_load) rfl ⟨rfl, (hb2.setCell (Nat.le_refl _) _).setCell (Nat.le_refl _) _⟩

set_option maxRecDepth 100000 in
set_option maxHeartbeats 2000000 in
theorem pairs_any (A : Option Addr) (n cap : Nat) (l : List Ld) (w : World) (hR : Row w A l) (hn : n ≤ l.length) (hl : l.length ≤ 1000) :
  Calls Tryz.prog 121 #[.slice A n cap] w fun e w' => e = .returned (.int .i64 (npair (l.take n) : Nat)) ∧ Below w.heap.size w w' := by
 have HR := Lib.hid hR
 clear hR
 go_enter Tryz.func121, Tryz.ntmps121
 go_wp2
 go_loopw [3, 8] (fun m i wr => ∃ k : Nat, k ≤ n ∧ i = .int .i64 k ∧ m = .int .i64 (npair (l.take k) : Nat) ∧ Below w.heap.size w wr) (fun _ i _ => n - (intOf i).toNat)
 case atStart => exact ⟨0, Nat.zero_le _, rfl, rfl, Below.refl _ _⟩
 case round =>
  obtain ⟨k, hk, rfl, rfl, hb⟩ := hrel
  by_cases hlt : k < n
  ·obtain ⟨b, off, rfl, hbl, _, hc⟩ := HR.out (by omega)
   have hx := List.getElem?_eq_getElem (show k < l.length by omega)
   have c1 := (hb.cell (p := ⟨b, off + k * 2, none⟩) hbl).trans (hc _ _ hx).1
   have c2 := (hb.cell (p := ⟨b, off + k * 2 + 1, none⟩) hbl).trans (hc _ _ hx).2
   have hstep : npair (l.take (k + 1)) = npair (l.take k) + if l[k].2 then 1 else 0 := by
    rw [List.take_succ_eq_append_getElem (by omega)]
    simp only [npair, List.countP_append, List.countP_cons, List.countP_nil]
    split <;> simp_all
   have hple : npair (l.take k) ≤ k := by
    have := List.countP_le_length (p := fun x : Ld => x.2) (l := l.take k)
    rw [List.length_take] at this
    unfold npair
    omega
   have HST := Lib.hid hstep
   have HB := Lib.hid hb
   clear hc hb hx hstep
   generalize l[k].1 = x at *
   generalize l[k].2 = y at *
   generalize npair (l.take k) = q at *
   cases y
   ·go_wp2
    go_roundw
    case rel => exact ⟨k + 1, by omega, by go_num, by rw [HST.out]; rfl, below_alloc HB.out _⟩
    case measure => simp [intOf]; omega
   ·go_wp2
    go_roundw
    case rel => exact ⟨k + 1, by omega, by go_num, by rw [HST.out]; go_num, below_alloc HB.out _⟩
    case measure => simp [intOf]; omega
  ·obtain rfl : k = n := by omega
   go_wp2
   go_ret
   exact ⟨rfl, hb⟩
end Go.Proofs.YtmkeicfklbepnaaGreat.We

namespace Go.Proofs.YtmkeicfklbepnaaGreat.We
open Go.RowKit

/-- The cells of loads. -/
def ldC (l : List Ld) : List Value := l.flatMap fun x => [.int .u64 (x.1 : Nat), .bool x.2]
theorem ldC_append (a b : List Ld) : ldC (a ++ b) = ldC a ++ ldC b := by simp [ldC]
theorem ldC_get (l : List Ld) (i : Nat) (x : Ld) (h : l[i]? = some x) : (ldC l)[i * 2]? = some (.int .u64 (x.1 : Nat)) ∧ (ldC l)[i * 2 + 1]? = some (.bool x.2) := by
 induction l generalizing i with
 | nil => simp at h
 | cons y l ih =>
  cases i with
  | zero => simp at h; subst h; simp [ldC]
  | succ i =>
   have := ih i (by simpa using h)
   rw [show (i + 1) * 2 = i * 2 + 1 + 1 by omega]
   simpa [ldC] using this
theorem row_of_owns {w : World} {base g cap n : Nat} {l : List Ld} (h : w.ownsRow base 204 2 (.slice (some ⟨g, 0, none⟩) n cap) n (ldC l)) (hl : l.length = n) (hb : g < w.heap.size) : Row w (some ⟨g, 0, none⟩) l := fun _ =>
 ⟨g, 0, rfl, hb, by obtain ⟨_, h | ⟨g', _, cur, e, _, h2, _⟩⟩ := h; exact absurd h.1 (by simp); injection e with e; injection e with e; injection e with e; subst e; exact ⟨cur, h2⟩, fun i x hx => by
  obtain ⟨hlt, _⟩ := List.getElem?_eq_some_iff.1 hx
  obtain ⟨h1, h2⟩ := ldC_get l i x hx
  rw [← h1, ← h2, Nat.zero_add]
  exact ⟨h.cellAt _ (by omega), h.cellAt _ (by omega)⟩⟩

theorem mg_one {A B : List Ld} {i j : Nat} {a : Ld} (ha : A[i]? = some a) (h : B[j]? = none ∨ ∃ b, B[j]? = some b ∧ a.1 ≤ b.1) : mg (A.drop i) (B.drop j) = a :: mg (A.drop (i + 1)) (B.drop j) := by
 obtain ⟨hi, e⟩ := List.getElem?_eq_some_iff.1 ha
 rw [List.drop_eq_getElem_cons hi, e]
 rcases h with h | ⟨b, hb, hle⟩
 ·rw [List.getElem?_eq_none_iff] at h
  rw [List.drop_eq_nil_of_le h, mg_nil_r, mg_nil_r]
 ·obtain ⟨hj, e2⟩ := List.getElem?_eq_some_iff.1 hb
  rw [List.drop_eq_getElem_cons hj, e2, mg_cons, if_pos hle]
theorem mg_two {A B : List Ld} {i j : Nat} {b : Ld} (hb : B[j]? = some b) (h : A[i]? = none ∨ ∃ a, A[i]? = some a ∧ b.1 < a.1) : mg (A.drop i) (B.drop j) = b :: mg (A.drop i) (B.drop (j + 1)) := by
 obtain ⟨hj, e⟩ := List.getElem?_eq_some_iff.1 hb
 rw [List.drop_eq_getElem_cons hj, e]
 rcases h with h | ⟨a, ha, hle⟩
 ·rw [List.getElem?_eq_none_iff] at h
  rw [List.drop_eq_nil_of_le h, mg_nil, mg_nil]
 ·obtain ⟨hi, e2⟩ := List.getElem?_eq_some_iff.1 ha
  rw [List.drop_eq_getElem_cons hi, e2, mg_cons, if_neg (by omega)]
theorem info_ld : (Tryz.prog.info? 204).map (fun i => (i.zero, i.size, i.bytes)) = some (some (.agg #[.int .u64 0, .bool false]), 2, 16) := by kernel_rfl
theorem two_cells {w : World} {g : Nat} {a b : Value} {T : TypeId} {f : Nat × Nat} (h : w.heap[g]? = some (.cells #[a, b] T f)) : ∀ j u, ([a, b] : List Value)[j]? = some u → w.cell? ((⟨g, 0, none⟩ : Addr).add j) = some u := by
 intro j u hu
 rw [Addr.add_lit, cell_of_row w g (0 + j) _ _ _ h]
 match j, hu with
 | 0, hu => simpa using hu
 | 1, hu => simpa using hu
 | j + 2, hu => simp at hu
theorem two_one (x : Nat) (b : Bool) : ∀ u ∈ ([.int .u64 (x : Nat), .bool b] : List Value), u.oneCell' = true := by
 intro u hu
 simp at hu
 rcases hu with rfl | rfl <;> rfl

theorem gob {w w' : World} {row : Option Nat} (h : Below w.heap.size w w') : w.grownBy w' row := ⟨h.os, h.tape, h.output, h.size, fun i hi _ => h.block i hi⟩
theorem below_then' {W w w' : World} (h : Below W.heap.size W w) (k : Below w.heap.size w w') : Below W.heap.size W w' := below_then h k
/-- What one of the two functions answers, wherever memory has grown. -/
def Gives (f : Nat) (ps : Array Value) (l : List Ld) (w : World) : Prop := ∀ (i : Nat) (x : Ld), l[i]? = some x → ∀ w1, Below w.heap.size w w1 → Calls Tryz.prog f (#[.int .i64 i] ++ ps) w1 fun e w' => e = .returned (.agg #[.int .u64 (x.1 : Nat), .bool x.2]) ∧ Below w1.heap.size w1 w'

set_option maxRecDepth 100000 in
set_option maxHeartbeats 8000000 in
theorem merge_any (p1 p2 p3 : Nat) (a b : List Ld) (ha : a.length ≤ 1000) (hb : b.length ≤ 1000) (w : World)
  (hone : Gives 129 #[.pointer (some ⟨p1, 0, none⟩), .pointer (some ⟨p2, 0, none⟩)] a w) (htwo : Gives 130 #[.pointer (some ⟨p3, 0, none⟩)] b w) :
  Calls Tryz.prog 131 #[.int .i64 (a.length : Nat), .func (.func 129) #[] #[.pointer (some ⟨p1, 0, none⟩), .pointer (some ⟨p2, 0, none⟩)], .int .i64 (b.length : Nat), .func (.func 130) #[] #[.pointer (some ⟨p3, 0, none⟩)]] w
   fun e w' => ∃ A, e = .returned (.slice A (a.length + b.length) (a.length + b.length)) ∧ Row w' A (mg a b) ∧ Below w.heap.size w w' := by
 have H1 := Lib.hid hone
 have H2 := Lib.hid htwo
 clear hone htwo
 obtain ⟨i0, hi, hz0, hz1, hz2⟩ := info_parts info_ld
 have hfld : ∀ (x : Int) (b : Bool) (w : World), (Instr.field 204 (.agg #[.int .u64 x, .bool b]) 0).run Tryz.prog w = .ok (.int .u64 x) w := fun _ _ _ => by kernel_rfl
 generalize hm : a.length = m at *
 generalize hk : b.length = k at *
 have hw : IntKind.i64.wrap ((m : Int) + (k : Int)) = (m : Int) + k := by rw [IntKind.wrap_i64]; omega
 go_enter Tryz.func131, Tryz.ntmps131
 go_wp2_with (at_make; refine wpList_make_own _ rfl _ _ 193 rfl w.heap.size 204 i0 _ 2 Tryz.underlying193 hi hz0 hz1 _ _ _ (m + k) rfl rfl (by simp) ?b2 ?b3 (Nat.le_refl _) ?_)
 case b2 => rw [hz2]; omega
 case b3 => unfold maxLen; omega
 intro w0 hown0 hgrow0
 go_wp2
 have hb0 : Below w.heap.size w w0 := (Below.refl _ _).grown hgrow0 (Nat.le_refl _) (fun k h => by cases h)
 have HI0 : Hid (w0.ownsRow w.heap.size 204 2 (.slice (some ⟨w.heap.size, 0, none⟩) 0 (m + k)) 0 (ldC []) ∧ Below w.heap.size w w0) := ⟨hown0, hb0⟩
 clear hown0 hgrow0 hb0
 go_loopw [9, 10, 11] (fun out si sj wr => ∃ i j : Nat, i ≤ m ∧ j ≤ k ∧ si = .int .i64 i ∧ sj = .int .i64 j ∧ out = .slice (some ⟨w.heap.size, 0, none⟩) (i + j) (m + k) ∧ ∃ done,
   wr.ownsRow w.heap.size 204 2 (.slice (some ⟨w.heap.size, 0, none⟩) (i + j) (m + k)) (i + j) (ldC done) ∧ done ++ mg (a.drop i) (b.drop j) = mg a b ∧ Below w.heap.size w wr)
  (fun _ si sj _ => (m - (intOf si).toNat) + (k - (intOf sj).toNat))
 case atStart => exact ⟨0, 0, Nat.zero_le _, Nat.zero_le _, rfl, rfl, rfl, [], HI0.out.1, rfl, HI0.out.2⟩
 case round =>
  obtain ⟨i, j, hil, hjl, rfl, rfl, rfl, done, hown, hT, hbr⟩ := hrel
  have HO := Lib.hid hown
  have HT := Lib.hid hT
  have HBR := Lib.hid hbr
  have HBX : Hid (Below wr.heap.size wr wr) := Below.refl _ _
  clear hown hT hbr HI0
  by_cases hik : i < m
  ·obtain ⟨x, hx⟩ : ∃ x, a[i]? = some x := ⟨_, List.getElem?_eq_getElem (by omega)⟩
   by_cases hjk : j < k
   ·obtain ⟨y, hy⟩ : ∃ y, b[j]? = some y := ⟨_, List.getElem?_eq_getElem (by omega)⟩
    have hne : ¬ j = k := by omega
    have hneI : ¬ (j : Int) = (k : Int) := by omega
    have hdec : decide ((j : Int) = (k : Int)) = false := decide_eq_false (by omega)
    go_wp2_with fail
    refine (H1.out i x hx _ HBR.out).mono ?_
    rintro e w1 ⟨rfl, hb1⟩
    replace HBX := Lib.hid hb1
    clear hb1
    go_wp2_with fail
    refine (H2.out j y hy _ (below_then HBR.out HBX.out)).mono ?_
    rintro e w2 ⟨rfl, hb2⟩
    replace HBX := Lib.hid (below_then' HBX.out hb2)
    clear hb2
    by_cases hxy : x.1 ≤ y.1
    ·have HST := Lib.hid (mg_one (j := j) hx (.inr ⟨y, hy, hxy⟩))
     go_wp2_with fail
     refine (H1.out i x hx _ (below_then HBR.out HBX.out)).mono ?_
     rintro e w3 ⟨rfl, hb3⟩
     have HO3 := Lib.hid (HO.out.kept (gob (row := none) (below_then' HBX.out hb3)) (.inr (by simp [Value.ownBlock])))
     have HB3 := Lib.hid (below_then HBR.out (below_then' HBX.out hb3))
     clear hb3 HO HBX HBR
     go_wp2_with (at_builtin; refine wpList_append_fits _ rfl (.tmp 43) (.tmp 47) 193 rfl w.heap.size 204 i0 2 Tryz.underlying193 hi hz1 w.heap.size (i + j) (m + k) _ rfl (HO3.out.alloc _) ⟨w3.heap.size, 0, none⟩ 1 1 [.int .u64 (x.1 : Nat), .bool x.2] rfl rfl (two_cells (heap_alloc_new _ _)) (two_one _ _) (by omega) ?_; intro w4 hown4 hgrow4)
     go_wp2
     go_roundw
     case rel => exact ⟨i + 1, j, by omega, by omega, by first | rfl | go_num, by first | rfl | go_num, by first | rfl | go_num, done ++ [x], by simpa [ldC_append, ldC, Nat.add_assoc, Nat.add_comm, Nat.add_left_comm] using hown4, by rw [List.append_assoc, List.singleton_append, ← HST.out]; exact HT.out, (below_alloc HB3.out _).grown hgrow4 (by have := HB3.out.size; simp; omega) (fun k hk => by cases hk; exact Nat.le_refl _)⟩
     case measure => simp [intOf]; omega
    ·have HST := Lib.hid (mg_two (i := i) hy (.inr ⟨x, hx, by omega⟩))
     go_wp2_with fail
     refine (H2.out j y hy _ (below_then HBR.out HBX.out)).mono ?_
     rintro e w3 ⟨rfl, hb3⟩
     have HO3 := Lib.hid (HO.out.kept (gob (row := none) (below_then' HBX.out hb3)) (.inr (by simp [Value.ownBlock])))
     have HB3 := Lib.hid (below_then HBR.out (below_then' HBX.out hb3))
     clear hb3 HO HBX HBR
     go_wp2_with (at_builtin; refine wpList_append_fits _ rfl (.tmp 51) (.tmp 55) 193 rfl w.heap.size 204 i0 2 Tryz.underlying193 hi hz1 w.heap.size (i + j) (m + k) _ rfl (HO3.out.alloc _) ⟨w3.heap.size, 0, none⟩ 1 1 [.int .u64 (y.1 : Nat), .bool y.2] rfl rfl (two_cells (heap_alloc_new _ _)) (two_one _ _) (by omega) ?_; intro w4 hown4 hgrow4)
     go_wp2
     go_roundw
     case rel => exact ⟨i, j + 1, by omega, by omega, by first | rfl | go_num, by first | rfl | go_num, by first | rfl | go_num, done ++ [y], by simpa [ldC_append, ldC, Nat.add_assoc, Nat.add_comm, Nat.add_left_comm] using hown4, by rw [List.append_assoc, List.singleton_append, ← HST.out]; exact HT.out, (below_alloc HB3.out _).grown hgrow4 (by have := HB3.out.size; simp; omega) (fun k hk => by cases hk; exact Nat.le_refl _)⟩
     case measure => simp [intOf]; omega
   ·obtain rfl : j = k := by omega
    have HST := Lib.hid (mg_one (B := b) (j := j) hx (.inl (by rw [List.getElem?_eq_none_iff]; omega)))
    go_wp2_with fail
    refine (H1.out i x hx _ (below_then HBR.out HBX.out)).mono ?_
    rintro e w3 ⟨rfl, hb3⟩
    have HO3 := Lib.hid (HO.out.kept (gob (row := none) (below_then' HBX.out hb3)) (.inr (by simp [Value.ownBlock])))
    have HB3 := Lib.hid (below_then HBR.out (below_then' HBX.out hb3))
    clear hb3 HO HBX HBR
    go_wp2_with (at_builtin; refine wpList_append_fits _ rfl (.tmp 43) (.tmp 47) 193 rfl w.heap.size 204 i0 2 Tryz.underlying193 hi hz1 w.heap.size (i + j) (m + j) _ rfl (HO3.out.alloc _) ⟨w3.heap.size, 0, none⟩ 1 1 [.int .u64 (x.1 : Nat), .bool x.2] rfl rfl (two_cells (heap_alloc_new _ _)) (two_one _ _) (by omega) ?_; intro w4 hown4 hgrow4)
    go_wp2
    go_roundw
    case rel => exact ⟨i + 1, j, by omega, by omega, by first | rfl | go_num, by first | rfl | go_num, by first | rfl | go_num, done ++ [x], by simpa [ldC_append, ldC, Nat.add_assoc, Nat.add_comm, Nat.add_left_comm] using hown4, by rw [List.append_assoc, List.singleton_append, ← HST.out]; exact HT.out, (below_alloc HB3.out _).grown hgrow4 (by have := HB3.out.size; simp; omega) (fun k hk => by cases hk; exact Nat.le_refl _)⟩
    case measure => simp [intOf]; omega
  ·obtain rfl : i = m := by omega
   by_cases hjk : j < k
   ·obtain ⟨y, hy⟩ : ∃ y, b[j]? = some y := ⟨_, List.getElem?_eq_getElem (by omega)⟩
    have hneI : ¬ (j : Int) = (k : Int) := by omega
    have HST := Lib.hid (mg_two (A := a) (i := i) hy (.inl (by rw [List.getElem?_eq_none_iff]; omega)))
    go_wp2_with fail
    refine (H2.out j y hy _ (below_then HBR.out HBX.out)).mono ?_
    rintro e w3 ⟨rfl, hb3⟩
    have HO3 := Lib.hid (HO.out.kept (gob (row := none) (below_then' HBX.out hb3)) (.inr (by simp [Value.ownBlock])))
    have HB3 := Lib.hid (below_then HBR.out (below_then' HBX.out hb3))
    clear hb3 HO HBX HBR
    go_wp2_with (at_builtin; refine wpList_append_fits _ rfl (.tmp 51) (.tmp 55) 193 rfl w.heap.size 204 i0 2 Tryz.underlying193 hi hz1 w.heap.size (i + j) (i + k) _ rfl (HO3.out.alloc _) ⟨w3.heap.size, 0, none⟩ 1 1 [.int .u64 (y.1 : Nat), .bool y.2] rfl rfl (two_cells (heap_alloc_new _ _)) (two_one _ _) (by omega) ?_; intro w4 hown4 hgrow4)
    go_wp2
    go_roundw
    case rel => exact ⟨i, j + 1, by omega, by omega, by first | rfl | go_num, by first | rfl | go_num, by first | rfl | go_num, done ++ [y], by simpa [ldC_append, ldC, Nat.add_assoc, Nat.add_comm, Nat.add_left_comm] using hown4, by rw [List.append_assoc, List.singleton_append, ← HST.out]; exact HT.out, (below_alloc HB3.out _).grown hgrow4 (by have := HB3.out.size; simp; omega) (fun k hk => by cases hk; exact Nat.le_refl _)⟩
    case measure => simp [intOf]; omega
   ·obtain rfl : j = k := by omega
    go_wp2
    go_ret
    have hd : done = mg a b := by
     have := HT.out
     rw [List.drop_eq_nil_of_le (by omega), List.drop_eq_nil_of_le (by omega)] at this
     simpa [mg_nil] using this
    subst hd
    exact ⟨_, rfl, row_of_owns HO.out (by rw [mg_length, hm, hk]) (HO.out.lt _ rfl).2, HBR.out⟩
end Go.Proofs.YtmkeicfklbepnaaGreat.We

namespace Go.Proofs.YtmkeicfklbepnaaGreat.We
open Go.RowKit

theorem cell_new (w : World) (v : Value) (T : TypeId) : (w.alloc (.cells #[v] T)).cell? ⟨w.heap.size, 0, none⟩ = some v := by
 rw [cell_of_row _ _ 0 _ _ _ (heap_alloc_new w _)]; rfl
theorem sum_le_big {x y : Nat} (hx : x < 4611686018427387904) (hy : y < 4611686018427387904) : x + y < 18446744073709551616 := by omega

set_option maxRecDepth 100000 in
set_option maxHeartbeats 8000000 in
theorem next_any (R A S : Option Addr) (l : List Ld) (capR n capA m capS : Nat) (f g : Nat → Nat) (W : List Nat) (w : World) (hR : Row w R l) (hC : Cts w A n f) (hS : Sns w S m g)
  (hn : n ≤ 400) (hm : W.length = m) (hmn : m ≤ 400) (hg : ∀ i, i < m → g i < n ∧ W[i]? = some (f (g i))) (hl : l.length ≤ 800) (hlx : ∀ x ∈ l, x.1 < 4611686018427387904) :
  Calls Tryz.prog 122 #[.slice R l.length capR, .slice A n capA, .slice S m capS] w fun e w' => ∃ B, e = .returned (.slice B (m + l.length / 2) (m + l.length / 2)) ∧ Row w' B (nxt W l) ∧ Below w.heap.size w w' := by
 have hmf : ∀ (fn : Fn) (first cap : Array Value) (w : World), (Instr.makeFunc fn first cap).run Tryz.prog w = .ok (.func fn first cap) w := fun _ _ _ _ => rfl
 have hq : ((l.length : Nat) : Int).tdiv 2 = ((l.length / 2 : Nat) : Int) := by rw [Int.tdiv_eq_ediv_of_nonneg (by omega)]; omega
 -- the world behind the three boxes
 have hb1 := below_alloc (Below.refl w.heap.size w) (.cells #[.slice R l.length capR] 193)
 have c0 := cell_new w (.slice R l.length capR) 193
 have hs1 : (w.alloc (.cells #[.slice R l.length capR] 193)).heap.size = w.heap.size + 1 := by simp
 generalize hw1 : w.alloc (.cells #[.slice R l.length capR] 193) = w1 at *
 have hb2 := below_alloc (Below.refl w1.heap.size w1) (.cells #[.slice A n capA] 147)
 have c1 := cell_new w1 (.slice A n capA) 147
 have hs2 : (w1.alloc (.cells #[.slice A n capA] 147)).heap.size = w1.heap.size + 1 := by simp
 generalize hw2 : w1.alloc (.cells #[.slice A n capA] 147) = w2 at *
 have hb3 := below_alloc (Below.refl w2.heap.size w2) (.cells #[.slice S m capS] 68)
 have c2 := cell_new w2 (.slice S m capS) 68
 have hs3 : (w2.alloc (.cells #[.slice S m capS] 68)).heap.size = w2.heap.size + 1 := by simp
 generalize hw3 : w2.alloc (.cells #[.slice S m capS] 68) = w3 at *
 rw [hs1] at c1 hb2
 rw [hs2, hs1] at c2 hb3
 have hbw : Below w.heap.size w w3 := (hb1.trans (hb2.mono (by omega))).trans (hb3.mono (by omega))
 have d0 : w3.cell? ⟨w.heap.size, 0, none⟩ = some (.slice R l.length capR) := (hb3.cell (p := ⟨w.heap.size, 0, none⟩) (by show w.heap.size < _; omega)).trans ((hb2.cell (p := ⟨w.heap.size, 0, none⟩) (by show w.heap.size < _; omega)).trans c0)
 have d1 : w3.cell? ⟨w.heap.size + 1, 0, none⟩ = some (.slice A n capA) := (hb3.cell (p := ⟨w.heap.size + 1, 0, none⟩) (by show w.heap.size + 1 < _; omega)).trans c1
 have d2 : w3.cell? ⟨w.heap.size + 2, 0, none⟩ = some (.slice S m capS) := c2
 have hR3 := hR.below (Nat.le_refl _) hbw
 have hC3 := hC.below (Nat.le_refl _) hbw
 have hS3 := hS.below (Nat.le_refl _) hbw
 have hsz : w3.heap.size = w.heap.size + 3 := by omega
 have G1 : Gives 129 #[.pointer (some ⟨w.heap.size + 1, 0, none⟩), .pointer (some ⟨w.heap.size + 2, 0, none⟩)] (bts W) w3 := by
  intro i x hx w4 hb4
  obtain ⟨hi, _⟩ := List.getElem?_eq_some_iff.1 hx
  rw [bts_length] at hi
  have hx2 : x = (f (g i), false) := by
   have h2 := (hg i (by omega)).2
   simp [bts, h2] at hx
   exact hx.symm
  subst hx2
  exact bit_any _ _ A S n capA m capS f g i w4 (hC3.below (Nat.le_refl _) hb4) (hS3.below (Nat.le_refl _) hb4) (by omega) (hg i (by omega)).1 (by omega) (by omega)
   ((hb4.cell (p := ⟨w.heap.size + 1, 0, none⟩) (by show w.heap.size + 1 < _; omega)).trans d1) ((hb4.cell (p := ⟨w.heap.size + 2, 0, none⟩) (by show w.heap.size + 2 < _; omega)).trans d2) (by have := hb4.size; omega)
 have G2 : Gives 130 #[.pointer (some ⟨w.heap.size, 0, none⟩)] (prs l) w3 := by
  intro i x hx w4 hb4
  obtain ⟨hi, _⟩ := List.getElem?_eq_some_iff.1 hx
  rw [prs_length] at hi
  have e1 := List.getElem?_eq_getElem (show 2 * i < l.length by omega)
  have e2 := List.getElem?_eq_getElem (show 2 * i + 1 < l.length by omega)
  rw [prs_get l i (by omega), e1, e2] at hx
  simp only [Option.getD_some, Option.some.injEq] at hx
  subst hx
  exact pair_any _ R capR l i w4 (hR3.below (Nat.le_refl _) hb4) (by omega) (by omega) ((hb4.cell (p := ⟨w.heap.size, 0, none⟩) (by show w.heap.size < _; omega)).trans d0) (by have := hb4.size; omega) _ _ e1 e2 (sum_le_big (hlx _ (List.getElem_mem _)) (hlx _ (List.getElem_mem _)))
 have hM := merge_any (w.heap.size + 1) (w.heap.size + 2) w.heap.size (bts W) (prs l) (by rw [bts_length]; omega) (by rw [prs_length]; omega) w3 G1 G2
 rw [bts_length, prs_length, hm, show (((l.length / 2 : Nat)) : Int) = (l.length : Int) / 2 by omega] at hM
 have HM := Lib.hid hM
 have HB := Lib.hid hbw
 clear hM G1 G2 hR3 hC3 hS3 hb1 hb2 hb3 hbw c0 c1 c2 hR hC hS
 go_enter Tryz.func122, Tryz.ntmps122
 go_wp2_with fail
 refine (HM.out).mono ?_
 rintro e w4 ⟨B, rfl, hrow, hb4⟩
 go_wp2
 go_ret
 exact ⟨B, rfl, hrow, below_then' HB.out hb4⟩

/-- No load is heavier than all signs together, so often. -/
theorem row_small (W : List Nat) (hW : ∀ x ∈ W, x < 4294967296) (k : Nat) (hk : k ≤ 30) : ∀ x ∈ rowN W k, x.1 < 4294967296 * 2 ^ k := by
 induction k with
 | zero => simp [rowN]
 | succ k ih =>
  have ih := ih (by omega)
  intro x hx
  have hp := Nat.two_pow_pos k
  have hpp : (2 : Nat) ^ (k + 1) = 2 * 2 ^ k := by rw [Nat.pow_succ]; omega
  rcases (mg_mem _ _ _).1 hx with hx | hx
  ·simp only [bts, List.mem_map] at hx
   obtain ⟨y, hy, rfl⟩ := hx
   have := hW y hy
   have : 4294967296 * 1 ≤ 4294967296 * 2 ^ (k + 1) := Nat.mul_le_mul_left _ (Nat.one_le_two_pow)
   simp only
   omega
  ·have key : ∀ r : List Ld, (∀ x ∈ r, x.1 < 4294967296 * 2 ^ k) → ∀ x ∈ prs r, x.1 < 4294967296 * 2 ^ (k + 1) := by
    intro r
    induction r using prs.induct with
    | case1 a b r ih2 =>
     intro h x hx
     simp only [prs, List.mem_cons] at hx
     rcases hx with rfl | hx
     ·have := h a (by simp); have := h b (by simp)
      rw [hpp]; simp only; omega
     ·exact ih2 (fun y hy => h y (by simp [hy])) x hx
    | case2 l hl =>
     match l, hl with
     | [], _ => simp [prs]
     | [_], _ => simp [prs]
     | a :: b :: r, hl => exact absurd rfl (hl a b r)
   exact key _ ih x hx
theorem row_small15 (W : List Nat) (hW : ∀ x ∈ W, x < 4294967296) (k : Nat) (hk : k ≤ 15) : ∀ x ∈ rowN W k, x.1 < 4611686018427387904 := fun x hx => by
 have h := row_small W hW k (by omega) x hx
 have : (2 : Nat) ^ k ≤ 2 ^ 15 := Nat.pow_le_pow_right (by omega) hk
 have : 4294967296 * 2 ^ k ≤ 4294967296 * 32768 := Nat.mul_le_mul_left _ this
 omega

/-- The rows, from the words' last bits on. -/
def RowsIs (w : World) (vals : List Value) (W : List Nat) (k : Nat) : Prop := ∀ j, j < k → ∃ A, vals[j]? = some (.slice A (rowN W (j + 1)).length (rowN W (j + 1)).length) ∧ Row w A (rowN W (j + 1))
theorem RowsIs.below {w w' : World} {vals : List Value} {W : List Nat} {k B : Nat} (h : RowsIs w vals W k) (hB : w.heap.size ≤ B) (hb : Below B w w') : RowsIs w' vals W k := fun j hj => by
 obtain ⟨A, h1, h2⟩ := h j hj
 exact ⟨A, h1, h2.below hB hb⟩
theorem lt_of_cells {w : World} {g : Nat} {o : Obj} (h : w.heap[g]? = some o) : g < w.heap.size := (Array.getElem?_eq_some_iff.1 h).1
/-- What an append to the list of rows leaves: all that is no row of the list stays. -/
theorem grown_rows {w w1 w1' w2 : World} {v : Value} {n : Nat} {vals : List Value} (hO : w1.ownsRow w.heap.size 193 1 v n vals) (hB : Below w.heap.size w w1) (hbb : Below w1.heap.size w1 w1') (hg : w1'.grownBy w2 v.ownBlock) :
  Below w.heap.size w w2 ∧ ∀ A l, Row w1 A l → Row w2 A l := by
 refine ⟨(below_then' hB hbb).grown hg (below_then' hB hbb).size (fun k hk => (hO.lt k hk).1), ?_⟩
 intro A l hr hn
 obtain ⟨b, off, e, hlt, ⟨cs, ht⟩, hc⟩ := (hr.below (Nat.le_refl _) hbb) hn
 have hne : some b ≠ v.ownBlock := by
  intro he
  obtain ⟨_, ⟨rfl, _⟩ | ⟨g, cap, cur, rfl, _, h2, _⟩⟩ := hO
  ·simp [Value.ownBlock] at he
  ·simp [Value.ownBlock] at he
   subst he
   have h3 := (hbb.block b (lt_of_cells h2)).trans h2
   rw [ht] at h3
   injection h3 with h3
   injection h3 with _ h3 _
   revert h3
   decide
 exact ⟨b, off, e, Nat.lt_of_lt_of_le hlt hg.size, ⟨cs, (hg.block b hlt hne).trans ht⟩, fun i x hx => ⟨hg.cell (hc i x hx).1 hne, hg.cell (hc i x hx).2 hne⟩⟩
theorem info_row : (Tryz.prog.info? 193).map (fun i => (i.zero, i.size, i.bytes)) = some (some (.slice none 0 0), 1, 24) := by kernel_rfl

set_option maxRecDepth 100000 in
set_option maxHeartbeats 8000000 in
theorem rows_any (A S : Option Addr) (n capA m capS most : Nat) (f g : Nat → Nat) (W : List Nat) (w : World) (hC : Cts w A n f) (hS : Sns w S m g)
  (hn : n ≤ 400) (hm : W.length = m) (hmn : m ≤ 400) (hg : ∀ i, i < m → g i < n ∧ W[i]? = some (f (g i))) (hW : ∀ x ∈ W, x < 4294967296) (hmo : most ≤ 15) :
  Calls Tryz.prog 106 #[.slice A n capA, .slice S m capS, .int .i64 most] w fun e w' => ∃ v vals, e = .returned v ∧ w'.ownsRow w.heap.size 193 1 v most vals ∧ RowsIs w' vals W most ∧ Below w.heap.size w w' := by
 have HN := Lib.hid (fun (R : Option Addr) (l : List Ld) (capR : Nat) (w1 : World) (hb : Below w.heap.size w w1) (hR : Row w1 R l) (hl : l.length ≤ 800) (hlx : ∀ x ∈ l, x.1 < 4611686018427387904) =>
  next_any R A S l capR n capA m capS f g W w1 hR (hC.below (Nat.le_refl _) hb) (hS.below (Nat.le_refl _) hb) hn hm hmn hg hl hlx)
 have HW := Lib.hid hW
 obtain ⟨i0, hi, hz0, hz1, hz2⟩ := info_parts info_row
 clear hC hS hW hg
 go_enter Tryz.func106, Tryz.ntmps106
 go_wp2
 go_loopw [7, 8, 10] (fun v r i wr => ∃ k : Nat, k ≤ most ∧ i = .int .i64 k ∧ ∃ R vals, r = .slice R (rowN W k).length (rowN W k).length ∧ Row wr R (rowN W k) ∧ wr.ownsRow w.heap.size 193 1 v k vals ∧ RowsIs wr vals W k ∧ Below w.heap.size w wr) (fun _ _ i _ => most - (intOf i).toNat)
 case atStart => exact ⟨0, Nat.zero_le _, rfl, none, [], rfl, fun h => by simp [rowN] at h, World.ownsRow_nil _ _ _ _, fun j hj => by omega, Below.refl _ _⟩
 case round =>
  obtain ⟨k, hk, rfl, R, vals, rfl, hrow, hown, hvals, hb⟩ := hrel
  have HR := Lib.hid hrow
  have HO := Lib.hid hown
  have HV := Lib.hid hvals
  have HB := Lib.hid hb
  clear hrow hown hvals hb
  by_cases hlt : k < most
  ·have hrl := row_le W k
   have hsm := row_small15 W HW.out k (by omega)
   have hlen := row_len W k
   have HNX := Lib.hid (HN.out R (rowN W k) (rowN W k).length wr HB.out HR.out (by omega) hsm)
   clear hsm
   go_wp2_with fail
   refine (HNX.out).mono ?_
   rintro e w1 ⟨B, rfl, hr1, hb1⟩
   have hO1 := HO.out.kept (row := none) (gob hb1) (Classical.em _)
   have HV1 := Lib.hid (HV.out.below (Nat.le_refl _) hb1)
   have HR1 := Lib.hid hr1
   have HB1 := Lib.hid (below_then' HB.out hb1)
   clear hb1 hr1 HO HV HR HB HNX
   have HO1 := Lib.hid hO1
   have hvl : vals.length = k := by have := hO1.1; omega
   go_wp2_with (at_builtin; refine wpList_append_own _ rfl _ _ 170 rfl w.heap.size 193 i0 (.slice none 0 0) 1 24 Tryz.underlying170 hi hz0 hz1 hz2 rfl (by decide) _ _ _ rfl (hO1.alloc _) ⟨w1.heap.size, 0, none⟩ 1 1 [.slice B (m + (rowN W k).length / 2) (m + (rowN W k).length / 2)] rfl rfl ?c1 ?c2 ?c3 ?c4 ?c5 ?_)
   case c1 =>
    intro j u hj
    match j, hj with
    | 0, hj => simp at hj; subst hj; simp [Addr.add]
   case c2 => intro u hu; simp at hu; subst hu; rfl
   case c3 => unfold maxLen; omega
   case c4 => omega
   case c5 => have := HB1.out.size; simp; omega
   intro v' w2 hown2 hgrow2 _
   go_wp2
   go_roundw
   case rel =>
    have hbb : Below w1.heap.size w1 (w1.alloc (.cells #[.slice B (m + (rowN W k).length / 2) (m + (rowN W k).length / 2)] 193)) := below_alloc (Below.refl _ _) _
    have hg2 := grown_rows HO1.out HB1.out hbb hgrow2
    refine ⟨k + 1, by omega, by go_num, B, _, by rw [hlen, hm], hg2.2 _ _ HR1.out, hown2, ?_, hg2.1⟩
    intro j hj
    rcases Nat.lt_or_ge j k with hj' | hj'
    ·obtain ⟨A', e1, e2⟩ := HV1.out j hj'
     exact ⟨A', by rw [List.getElem?_append_left (by omega)]; exact e1, hg2.2 _ _ e2⟩
    ·obtain rfl : j = k := by omega
     exact ⟨B, by rw [List.getElem?_append_right (by omega), hvl]; simp [hlen, hm], hg2.2 _ _ HR1.out⟩
   case measure => simp [intOf]; omega
  ·obtain rfl : k = most := by omega
   go_wp2
   go_ret
   exact ⟨_, vals, rfl, HO.out, HV.out, HB.out⟩
end Go.Proofs.YtmkeicfklbepnaaGreat.We

namespace Go.Proofs.YtmkeicfklbepnaaGreat.We
open Go.RowKit
attribute [local go_sem] Oper.semAt_some

/-- The rounds are numbered: the k-th is handed 'en k'; the body goes through. -/
theorem range_counted {F : Fence} {n : Nat} {P : Program} {g : Operand} {ps : Array Tmp} {assign body : Code} {Q : Exit → Act → World → Prop} {a : Act} {w : World}
  (hro : F.round = none) (h1 : 1 ≤ n) {gf : Nat} {lb : Array Value} (hg : a.eval g = .func (.func gf) #[] lb) (hFg : F.fn gf) (eg : ∀ args w, (callFunc gf args).run P w = .ok (.enter gf args) w)
  (N : Nat) (en : Nat → Array Value) (hps : ∀ k, (en k).size = ps.size) (I : Nat → World → Prop) (hI : OwnFrom w.heap.size I) (h0 : I 0 w)
  (hit : ∀ (l : Nat) (J : Nat → World → Prop) (W : World), (∀ k W, J k W → I k W) →
   (∀ k W, J k W → k < N → YieldAt F (n - 1 - 1) P l (en k) W fun e W' => e = .returned (.bool true) ∧ J (k + 1) W') → J 0 W →
   CallsIn F (n - 1) P gf (#[.func (.yield l) #[] #[]] ++ lb) W fun e W' => (∃ v, e = .returned v) ∧ J N W')
  (a₁ : Nat → Act)
  (hassign : ∀ (l k : Nat) (W : World) (K : Act → World → Prop), K (a₁ k) W →
   assign.wpIn (F.inRound l) (n - 1 - 1) P (Exit.then K (fun _ _ _ => False)) { tmps := (ps.zip (en k)).foldl (fun t (p, v) => t.setIfInBounds p v) a.tmps, defers := [] } W)
  (hbody : ∀ (l k : Nat) (W : World), I k W → k < N → body.wpIn (F.inRound l) (n - 1 - 1) P (fun e _ W' => e = .normal ∧ KeepsOthers W W' ∧ I (k + 1) W') (a₁ k) W)
  (hdone : ∀ (D : Nat) (W : World), w.heap.size ≤ D → I N W → W.heap[D]? = some (.deferred (some [])) → Q .normal { a with defers := { target := .collected D, args := #[] } :: a.defers } W) :
  (Code.rangeFunc g ps assign body).wpIn F n P Q a w := by
 refine wpIn_rangeFunc ?_
 intro fn hfn
 rw [hro]
 -- the two blocks that the statement lays: the rounds' deferred calls, the loop's record
 generalize hrd : (fun (st : LoopState) => ({ state := st, pending := none, fn, tmps := a.tmps, params := ps, assign, body, defers := w.heap.size } : Loop)) = rd
 have rst : ∀ st, (rd st).state = st := fun st => by rw [← hrd]
 have rpe : ∀ st, (rd st).pending = none := fun st => by rw [← hrd]
 generalize hV : (w.alloc (.deferred (some []))).alloc (.loop (rd .ready)) = V
 have hVl : V.heap[w.heap.size + 1]? = some (.loop (rd .ready)) := by
  have := World.alloc_heap_new (w.alloc (.deferred (some []))) (.loop (rd .ready))
  rw [hV, World.size_alloc] at this
  exact this
 have hVd : V.heap[w.heap.size]? = some (.deferred (some [])) := by
  rw [← hV]
  exact (Below.heap_alloc _ _ _ (by simp)).trans (World.alloc_heap_new w _)
 have hVI : I 0 V := by rw [← hV]; exact hI.alloc _ (hI.alloc _ h0)
 refine ⟨w.heap.size + 1, [{ target := .collected w.heap.size, args := #[] }], V, { target := .fn (.func gf) lb, args := #[.func (.yield (w.heap.size + 1)) #[] #[]] }, V, gf,
  #[.func (.yield (w.heap.size + 1)) #[] #[]] ++ lb, V, ?_, ?_, ?_, ?_, fun _ => h1, ?_⟩
 ·rw [← hV, ← hrd]; exact run_enterLoop_outer _ _ _ _ _
 ·simp only [resolve, hg]; simp [go_sem]
 ·intro f' hf'; simp [Target.leads] at hf'; subst hf'; exact hFg
 ·simp [invoke, go_sem, eg]
 ·refine (hit (w.heap.size + 1) (fun k W => I k W ∧ W.heap[w.heap.size + 1]? = some (.loop (rd .ready)) ∧ W.heap[w.heap.size]? = some (.deferred (some []))) V (fun _ _ h => h.1) ?_ ⟨hVI, hVl, hVd⟩).mono ?_
  ·rintro k W ⟨hi, hl, hd⟩ hk
   have hlt : w.heap.size + 1 < W.heap.size := (Array.getElem?_eq_some_iff.1 hl).1
   have hy := run_yield (P := P) (args := en k) hl (by rw [← hrd]; exact hps k)
   rw [← hrd] at hy
   refine ⟨fn, _, assign, body, hy, roundIn_of_wpIn hfn (hassign _ k W _ ⟨_, run_beginRound hl (rst _), ?_⟩)⟩
   have hb : ({ rd .ready with state := .busy } : Loop) = rd .busy := by rw [← hrd]
   rw [hb]
   have hl2 : (W.putObj (w.heap.size + 1) (.loop (rd .busy))).heap[w.heap.size + 1]? = some (.loop (rd .busy)) := World.putObj_heap_same hlt
   have hd2 : (W.putObj (w.heap.size + 1) (.loop (rd .busy))).heap[w.heap.size]? = some (.deferred (some [])) := (World.putObj_heap_other (by omega)).trans hd
   refine wpIn_mono (hbody _ k _ (hI.putObj _ hi (by omega) hl rfl) hk) ?_
   rintro e a3 W3 ⟨rfl, hk3, hi3⟩
   have hl3 := hk3.same _ _ hl2 rfl
   have hd3 := hk3.same _ _ hd2 rfl
   have hr : ({ rd .busy with state := .ready, pending := none } : Loop) = rd .ready := by rw [← hrd]
   have he := run_endRound (P := P) none hl3
   simp only [Option.isNone_none, if_true] at he
   rw [hr] at he
   exact ⟨_, _, he, rfl, hI.putObj _ hi3 (by omega) hl3 rfl, World.putObj_heap_same (Array.getElem?_eq_some_iff.1 hl3).1, (World.putObj_heap_other (by omega)).trans hd3⟩
  ·rintro e W2 ⟨⟨v, rfl⟩, hi, hl, hd⟩
   have he := run_endLoop (P := P) hl (by rw [rst]; simp)
   rw [rpe] at he
   exact ⟨none, _, he, hdone _ _ (Nat.le_refl _) (hI.putObj _ hi (by omega) hl rfl) ((World.putObj_heap_other (by omega)).trans hd)⟩

set_option maxRecDepth 100000 in
set_option maxHeartbeats 4000000 in
/-- slices.Backward's function: the last row first. -/
theorem back1_in (n : Nat) (h2 : 1 ≤ n) (l p g N cap : Nat) (hN : N ≤ 1000) (vals : Nat → Value) (J : Nat → World → Prop)
  (hJ : ∀ k W, J k W → W.cell? ⟨p, 0, none⟩ = some (.slice (some ⟨g, 0, none⟩) N cap) ∧ ∀ j, j < N → W.cell? ⟨g, j, none⟩ = some (vals j))
  (hone : ∀ j, j < N → ∃ A len cp, vals j = .slice A len cp)
  (hY : ∀ k W, J k W → k < N → YieldAt Fence.wide (n - 1) Tryz.prog l #[.int .i64 ((N - 1 - k : Nat) : Int), vals (N - 1 - k)] W fun e W' => e = .returned (.bool true) ∧ J (k + 1) W')
  (W : World) (h0 : J 0 W) :
  CallsIn Fence.wide n Tryz.prog 128 (#[.func (.yield l) #[] #[]] ++ #[.pointer (some ⟨p, 0, none⟩)]) W fun e W' => (∃ v, e = .returned v) ∧ J N W' := by
 refine callsIn_of_wp Tryz.func128 rfl trivial ?_ rfl
 simp only [Tryz.ntmps128, List.size_toArray, List.length_cons, List.length_nil, Nat.reduceAdd, Nat.reduceSub, Array.replicate_succ, Array.replicate_zero, List.push_toArray, List.append_toArray, List.nil_append, List.cons_append]
 have c0 := (hJ 0 W h0).1
 gi_wp2
 gi_loopw [3] (fun i wr => ∃ k : Nat, k ≤ N ∧ i = .int .i64 ((N : Int) - 1 - k) ∧ J k wr) (fun i _ => (intOf i + 1).toNat)
 case atStart => exact ⟨0, Nat.zero_le _, by go_num, h0⟩
 case round =>
  obtain ⟨k, hk, rfl, hj⟩ := hrel
  by_cases hlt : k < N
  ·obtain ⟨c0, c1⟩ := hJ k wr hj
   have c2 := c1 (N - 1 - k) (by omega)
   obtain ⟨A, len, cp, hv⟩ := hone (N - 1 - k) (by omega)
   obtain ⟨fn, tmps, assign, body, hy, hR⟩ := hY k wr hj hlt
   rw [hv] at c2 hy
   have ei : ((N - 1 - k : Nat) : Int) = (N : Int) - 1 - k := by omega
   rw [ei] at hy
   have hge : (0 : Int) ≤ (N : Int) - 1 - k := by omega
   have hlt2 : (N : Int) - 1 - k < N := by omega
   have ht : ((N : Int) - 1 - k).toNat = N - 1 - k := by omega
   gi_wp2
   refine hR.mono ?_
   rintro e W3 ⟨rfl, hJ3⟩
   gi_wp2
   go_roundw
   case rel => exact ⟨k + 1, by omega, by go_num, hJ3⟩
   case measure => simp [intOf]; omega
  ·obtain rfl : k = N := by omega
   gi_wp2
   go_end0
   exact ⟨⟨_, rfl⟩, hj⟩
theorem back_any (v : Value) (w : World) (hv : ∃ A len cp, v = .slice A len cp) :
  Calls Tryz.prog 120 #[v] w fun e w' => e = .returned (.func (.func 128) #[] #[.pointer (some ⟨w.heap.size, 0, none⟩)]) ∧ w' = w.alloc (.cells #[v] 170) := by
 obtain ⟨A, len, cp, rfl⟩ := hv
 have hmf : ∀ (fn : Fn) (first cap : Array Value) (w : World), (Instr.makeFunc fn first cap).run Tryz.prog w = .ok (.func fn first cap) w := fun _ _ _ _ => rfl
 go_enter Tryz.func120, Tryz.ntmps120
 go_wp2
 go_ret
 exact ⟨rfl, rfl⟩
end Go.Proofs.YtmkeicfklbepnaaGreat.We

namespace Go.Proofs.YtmkeicfklbepnaaGreat.We
open Go.RowKit Go.Shelf
attribute [local go_sem] Oper.semAt_some

/-- How many of the first c signs are s. -/
def cntS (sg : Nat → Nat) : Nat → Nat → Nat
 | 0, _ => 0
 | c + 1, s => cntS sg c s + if sg c = s then 1 else 0
def tot (sg : Nat → Nat) (L : List Nat) (s : Nat) : Nat := (L.map fun c => cntS sg c s).sum
theorem tot_snoc (sg : Nat → Nat) (L : List Nat) (c s : Nat) : tot sg (L ++ [c]) s = tot sg L s + cntS sg c s := by simp [tot, List.sum_append]
theorem cntS_zero (sg : Nat → Nat) (c s : Nat) (h : ∀ i, i < c → sg i ≠ s) : cntS sg c s = 0 := by
 induction c with
 | zero => rfl
 | succ c ih => rw [cntS, ih fun i hi => h i (by omega), if_neg (h c (by omega))]
theorem cntS_at (sg : Nat → Nat) (m : Nat) (hinj : ∀ i j, i < m → j < m → sg i = sg j → i = j) (c : Nat) (hc : c ≤ m) (i : Nat) (hi : i < m) : cntS sg c (sg i) = if i < c then 1 else 0 := by
 induction c with
 | zero => simp [cntS]
 | succ c ih =>
  rw [cntS, ih (by omega)]
  by_cases h : c = i
  ·subst h; simp
  ·have : ¬ sg c = sg i := fun e => h (hinj c i (by omega) hi e)
   rw [if_neg this]
   by_cases h2 : i < c
   ·rw [if_pos h2, if_pos (by omega)]
   ·rw [if_neg h2, if_neg (by omega)]
theorem cntS_le (sg : Nat → Nat) (m : Nat) (hinj : ∀ i j, i < m → j < m → sg i = sg j → i = j) (c : Nat) (hc : c ≤ m) (s : Nat) : cntS sg c s ≤ 1 := by
 by_cases h : ∃ i, i < m ∧ sg i = s
 ·obtain ⟨i, hi, rfl⟩ := h
  rw [cntS_at sg m hinj c hc i hi]; split <;> omega
 ·rw [cntS_zero sg c s fun i hi e => h ⟨i, by omega, e⟩]; omega
theorem tot_le (sg : Nat → Nat) (m : Nat) (hinj : ∀ i j, i < m → j < m → sg i = sg j → i = j) (L : List Nat) (hL : ∀ c ∈ L, c ≤ m) (s : Nat) : tot sg L s ≤ L.length := by
 induction L with
 | nil => simp [tot]
 | cons c L ih =>
  have := ih fun x hx => hL x (by simp [hx])
  have := cntS_le sg m hinj c (hL c (by simp)) s
  simp only [tot, List.map_cons, List.sum_cons, List.length_cons] at *
  omega
theorem tot_at (sg : Nat → Nat) (m : Nat) (hinj : ∀ i j, i < m → j < m → sg i = sg j → i = j) (L : List Nat) (hL : ∀ c ∈ L, c ≤ m) (i : Nat) (hi : i < m) : tot sg L (sg i) = lenR L i := by
 induction L with
 | nil => simp [tot, lenR]
 | cons c L ih =>
  have := ih fun x hx => hL x (by simp [hx])
  have := cntS_at sg m hinj c (hL c (by simp)) i hi
  simp only [tot, lenR, List.map_cons, List.sum_cons, List.countP_cons] at *
  by_cases h : i < c <;> simp_all <;> omega
theorem tot_zero (sg : Nat → Nat) (L : List Nat) (m s : Nat) (hL : ∀ c ∈ L, c ≤ m) (h : ∀ i, i < m → sg i ≠ s) : tot sg L s = 0 := by
 induction L with
 | nil => rfl
 | cons c L ih =>
  have := ih fun x hx => hL x (by simp [hx])
  have := cntS_zero sg c s fun i hi => h i (by have := hL c (by simp); omega)
  simp only [tot, List.map_cons, List.sum_cons] at *
  omega

/-- So many bytes. -/
def lenA (n : Nat) (f : Nat → Nat) : Array Value := ((List.range n).map fun i => Value.int .u8 (f i : Nat)).toArray
theorem lenA_size (n : Nat) (f : Nat → Nat) : (lenA n f).size = n := by simp [lenA]
theorem lenA_at (n : Nat) (f : Nat → Nat) (i : Nat) (hi : i < n) : (lenA n f)[i]? = some (.int .u8 (f i : Nat)) := by simp [lenA, List.getElem?_range hi]
theorem lenA_ext (n : Nat) (f g : Nat → Nat) (h : ∀ i, i < n → f i = g i) : lenA n f = lenA n g := by
 unfold lenA
 congr 1
 apply List.map_congr_left
 intro i hi
 rw [h i (by simpa using hi)]
theorem lenA_set (n : Nat) (f : Nat → Nat) (k x : Nat) : (lenA n f).setIfInBounds k (.int .u8 (x : Nat)) = lenA n (fun i => if i = k then x else f i) := by
 apply Array.ext_getElem?
 intro i
 rw [Array.getElem?_setIfInBounds, lenA_size]
 by_cases hi : i < n
 ·by_cases h : k = i
  ·subst h
   rw [if_pos rfl, if_pos hi, lenA_at _ _ _ hi, if_pos rfl]
  ·rw [if_neg h, lenA_at _ _ _ hi, lenA_at _ _ _ hi, if_neg (fun e => h e.symm)]
 ·have hn : ∀ g : Nat → Nat, (lenA n g)[i]? = none := fun g => by rw [Array.getElem?_eq_none_iff, lenA_size]; omega
  rw [hn, hn]
  by_cases h : k = i
  ·rw [if_pos h, if_neg (by omega)]
  ·rw [if_neg h]
def IsLen (w : World) (g n : Nat) (f : Nat → Nat) : Prop := w.heap[g]? = some (.cells (lenA n f) 5 (0, 0))
theorem IsLen.cell {w : World} {g n : Nat} {f : Nat → Nat} (h : IsLen w g n f) (i : Nat) (hi : i < n) : w.cell? ⟨g, i, none⟩ = some (.int .u8 (f i : Nat)) := by
 rw [cell_of_row w g i _ _ _ h, lenA_at n f i hi]
theorem IsLen.frozen {w : World} {g n : Nat} {f : Nat → Nat} (h : IsLen w g n f) (i : Nat) : w.frozen? ⟨g, i, none⟩ = false := frozen_of_row w g i _ _ h
theorem IsLen.set {w : World} {g n : Nat} {f : Nat → Nat} (h : IsLen w g n f) (k x : Nat) : IsLen (w.setCell ⟨g, k, none⟩ (.int .u8 (x : Nat))) g n (fun i => if i = k then x else f i) := by
 have e := heap_setCell_same w g k _ _ (.int .u8 (x : Nat)) h
 rw [lenA_set n f k x] at e
 exact e
theorem IsLen.ext {w : World} {g n : Nat} {f f' : Nat → Nat} (h : IsLen w g n f) (e : ∀ i, i < n → f i = f' i) : IsLen w g n f' := by
 unfold IsLen at *
 rw [← lenA_ext n f f' e]
 exact h

theorem gset {a w : World} {b : Nat} (h : a.grownBy w (some b)) (i : Nat) (v : Value) : a.grownBy (w.setCell ⟨b, i, none⟩ v) (some b) :=
 ⟨h.os, h.tape, h.output, by simp; exact h.size, fun k hk hne => (Below.heap_setCell w _ v k (fun e => hne (by rw [e]))).trans (h.block k hk hne)⟩
/-- All but two blocks stay. -/
structure Kp2 (V W : World) (g p : Nat) : Prop where
 os : W.os = V.os
 tape : W.tape = V.tape
 output : W.output = V.output
 size : V.heap.size ≤ W.heap.size
 block : ∀ k, k < V.heap.size → k ≠ g → k ≠ p → W.heap[k]? = V.heap[k]?
theorem Kp2.refl (V : World) (g p : Nat) : Kp2 V V g p := ⟨rfl, rfl, rfl, Nat.le_refl _, fun _ _ _ _ => rfl⟩
theorem Kp2.grown {V A B : World} {g p : Nat} {row : Option Nat} (h : Kp2 V A g p) (hg : A.grownBy B row) (hr : ∀ k, row = some k → k = g ∨ k = p ∨ V.heap.size ≤ k) : Kp2 V B g p :=
 ⟨hg.os.trans h.os, hg.tape.trans h.tape, hg.output.trans h.output, Nat.le_trans h.size hg.size, fun k hk h1 h2 => (hg.block k (Nat.lt_of_lt_of_le hk h.size) (fun e => by rcases hr k e.symm with h | h | h <;> omega)).trans (h.block k hk h1 h2)⟩
section
variable (w : World) (a b c d : Value) {T1 T2 T3 T4 : TypeId}
theorem four_0 : ((((w.alloc (.cells #[a] T1)).alloc (.cells #[b] T2)).alloc (.cells #[c] T3)).alloc (.cells #[d] T4)).heap[w.heap.size]? = some (.cells #[a] T1 (0, 0)) :=
 (Below.heap_alloc _ _ _ (by simp; omega)).trans ((Below.heap_alloc _ _ _ (by simp; omega)).trans ((Below.heap_alloc _ _ _ (by simp)).trans (heap_alloc_new _ _)))
theorem four_1 : ((((w.alloc (.cells #[a] T1)).alloc (.cells #[b] T2)).alloc (.cells #[c] T3)).alloc (.cells #[d] T4)).heap[w.heap.size + 1]? = some (.cells #[b] T2 (0, 0)) := by
 have h := heap_alloc_new (w.alloc (.cells #[a] T1)) (.cells #[b] T2)
 rw [World.size_alloc] at h
 exact (Below.heap_alloc _ _ _ (by simp)).trans ((Below.heap_alloc _ _ _ (by simp)).trans h)
theorem four_2 : ((((w.alloc (.cells #[a] T1)).alloc (.cells #[b] T2)).alloc (.cells #[c] T3)).alloc (.cells #[d] T4)).heap[w.heap.size + 2]? = some (.cells #[c] T3 (0, 0)) := by
 have h := heap_alloc_new ((w.alloc (.cells #[a] T1)).alloc (.cells #[b] T2)) (.cells #[c] T3)
 rw [World.size_alloc, World.size_alloc] at h
 exact (Below.heap_alloc _ _ _ (by simp)).trans h
theorem four_3 : ((((w.alloc (.cells #[a] T1)).alloc (.cells #[b] T2)).alloc (.cells #[c] T3)).alloc (.cells #[d] T4)).heap[w.heap.size + 3]? = some (.cells #[d] T4 (0, 0)) := by
 have h := heap_alloc_new (((w.alloc (.cells #[a] T1)).alloc (.cells #[b] T2)).alloc (.cells #[c] T3)) (.cells #[d] T4)
 rw [World.size_alloc, World.size_alloc, World.size_alloc] at h
 exact h
end

set_option maxRecDepth 100000 in
set_option maxHeartbeats 8000000 in
theorem share_any (gv capv most m capS n gl base : Nat) (S : Option Addr) (vals : List Value) (W : List Nat) (sg : Nat → Nat) (w : World) (hW : W.Pairwise (· ≤ ·)) (hm : W.length = m) (h2 : 2 ≤ m) (hm4 : m ≤ 400)
  (hmo : 1 ≤ most) (hmo5 : most ≤ 15) (hpow : m ≤ 2 ^ most) (hV : w.ownsRow base 193 1 (.slice (some ⟨gv, 0, none⟩) most capv) most vals) (hR : RowsIs w vals W most) (hS : Sns w S m sg) (hcap : m ≤ capS)
  (hSne : ∀ b off sp, S = some ⟨b, off, sp⟩ → b ≠ gl) (hsg : ∀ i, i < m → sg i < n) (hinj : ∀ i j, i < m → j < m → sg i = sg j → i = j) (hL : IsLen w gl n fun _ => 0) :
  Calls Tryz.prog 105 #[.slice (some ⟨gv, 0, none⟩) most capv, .slice S m capS, .slice (some ⟨gl, 0, none⟩) n n] w fun e w' => e = .returned (.tuple #[]) ∧ IsLen w' gl n (tot sg (shs W most (2 * m - 2))) ∧ w.grownBy w' (some gl) := by
 have hmf : ∀ (fn : Fn) (first cap : Array Value) (w : World), (Instr.makeFunc fn first cap).run Tryz.prog w = .ok (.func fn first cap) w := fun _ _ _ _ => rfl
 have hw1 : IntKind.i64.wrap (2 * (m : Int)) = 2 * m := by rw [IntKind.wrap_i64]; omega
 have hw2 : IntKind.i64.wrap (2 * (m : Int) - 2) = ((2 * m - 2 : Nat) : Int) := by rw [IntKind.wrap_i64]; omega
 refine (callsIn_wide (n := 4)).1 ?_
 refine callsIn_of_wp_marks Tryz.func105 rfl trivial ?_ rfl
 simp only [Tryz.ntmps105, List.size_toArray, List.length_cons, List.length_nil, Nat.reduceAdd, Nat.reduceSub, Array.replicate_succ, Array.replicate_zero, List.push_toArray, List.append_toArray, List.nil_append, List.cons_append]
 gi_wp2_with fail
 refine ⟨trivial, (callsIn_wide.2 (back_any _ _ ⟨_, _, _, rfl⟩)).mono ?_⟩
 rintro e w' ⟨rfl, rfl⟩
 gi_wp2
 have hmS : 0 < m := by omega
 obtain ⟨bs, offs, rfl, hbs, hcs⟩ := hS hmS
 have hsne := hSne _ _ _ rfl
 -- the world that the loop begins in
 have hVB : Below w.heap.size w ((((w.alloc (.cells #[.slice (some ⟨bs, offs, none⟩) m capS] 68)).alloc (.cells #[.slice (some ⟨gl, 0, none⟩) n n] 37)).alloc (.cells #[.int .i64 ((2 * m - 2 : Nat) : Int)] 3)).alloc (.cells #[.slice (some ⟨gv, 0, none⟩) most capv] 170)) := below_alloc (below_alloc (below_alloc (below_alloc (Below.refl _ _) _) _) _) _
 have e0 : ((((w.alloc (.cells #[.slice (some ⟨bs, offs, none⟩) m capS] 68)).alloc (.cells #[.slice (some ⟨gl, 0, none⟩) n n] 37)).alloc (.cells #[.int .i64 ((2 * m - 2 : Nat) : Int)] 3)).alloc (.cells #[.slice (some ⟨gv, 0, none⟩) most capv] 170)).heap[w.heap.size]? = some (.cells #[.slice (some ⟨bs, offs, none⟩) m capS] 68 (0, 0)) := four_0 w _ _ _ _
 have e1 : ((((w.alloc (.cells #[.slice (some ⟨bs, offs, none⟩) m capS] 68)).alloc (.cells #[.slice (some ⟨gl, 0, none⟩) n n] 37)).alloc (.cells #[.int .i64 ((2 * m - 2 : Nat) : Int)] 3)).alloc (.cells #[.slice (some ⟨gv, 0, none⟩) most capv] 170)).heap[w.heap.size + 1]? = some (.cells #[.slice (some ⟨gl, 0, none⟩) n n] 37 (0, 0)) := four_1 w _ _ _ _
 have e2 : ((((w.alloc (.cells #[.slice (some ⟨bs, offs, none⟩) m capS] 68)).alloc (.cells #[.slice (some ⟨gl, 0, none⟩) n n] 37)).alloc (.cells #[.int .i64 ((2 * m - 2 : Nat) : Int)] 3)).alloc (.cells #[.slice (some ⟨gv, 0, none⟩) most capv] 170)).heap[w.heap.size + 2]? = some (.cells #[.int .i64 ((2 * m - 2 : Nat) : Int)] 3 (0, 0)) := four_2 w _ _ _ _
 have e3 : ((((w.alloc (.cells #[.slice (some ⟨bs, offs, none⟩) m capS] 68)).alloc (.cells #[.slice (some ⟨gl, 0, none⟩) n n] 37)).alloc (.cells #[.int .i64 ((2 * m - 2 : Nat) : Int)] 3)).alloc (.cells #[.slice (some ⟨gv, 0, none⟩) most capv] 170)).heap[w.heap.size + 3]? = some (.cells #[.slice (some ⟨gv, 0, none⟩) most capv] 170 (0, 0)) := four_3 w _ _ _ _
 have hsz : ((((w.alloc (.cells #[.slice (some ⟨bs, offs, none⟩) m capS] 68)).alloc (.cells #[.slice (some ⟨gl, 0, none⟩) n n] 37)).alloc (.cells #[.int .i64 ((2 * m - 2 : Nat) : Int)] 3)).alloc (.cells #[.slice (some ⟨gv, 0, none⟩) most capv] 170)).heap.size = w.heap.size + 4 := by simp
 generalize (((w.alloc (.cells #[.slice (some ⟨bs, offs, none⟩) m capS] 68)).alloc (.cells #[.slice (some ⟨gl, 0, none⟩) n n] 37)).alloc (.cells #[.int .i64 ((2 * m - 2 : Nat) : Int)] 3)).alloc (.cells #[.slice (some ⟨gv, 0, none⟩) most capv] 170) = V at *
 have hglt : gl < w.heap.size := lt_of_cells hL
 have hVV := hV
 obtain ⟨hvl, h | ⟨g', capv', cur, hve, hbg, hvh, _⟩⟩ := hVV
 ·exact absurd h.1 (by simp)
 simp only [Value.slice.injEq, Option.some.injEq, Addr.mk.injEq, and_true, true_and] at hve
 obtain ⟨hv1, hv2⟩ := hve
 subst hv1
 subst hv2
 have hgvl : gv < w.heap.size := lt_of_cells hvh
 have hgvne : gv ≠ gl := by
  rintro rfl
  rw [hL] at hvh
  injection hvh with hvh
  injection hvh with _ hvh _
  revert hvh; decide
 have hvn : vals.length = most := by omega
 have he := row_enough W most hmo (by omega) (by omega)
 rw [hm] at he
 have hLV : IsLen V gl n fun _ => 0 := (hVB.block gl hglt).trans hL
 have hRV := hR.below (Nat.le_refl _) hVB
 -- cells of V that no round turns
 have kV : ∀ {W' : World} (_ : Kp2 V W' gl (w.heap.size + 2)), W'.cell? ⟨w.heap.size, 0, none⟩ = some (.slice (some ⟨bs, offs, none⟩) m capS) ∧ W'.cell? ⟨w.heap.size + 1, 0, none⟩ = some (.slice (some ⟨gl, 0, none⟩) n n) ∧
   W'.cell? ⟨w.heap.size + 3, 0, none⟩ = some (.slice (some ⟨gv, 0, none⟩) most capv) ∧ (∀ j, j < most → W'.cell? ⟨gv, j, none⟩ = some (vals[j]?.getD undef)) ∧ (∀ i, i < m → W'.cell? ⟨bs, offs + i, none⟩ = some (.int .i64 (sg i : Nat))) ∧ RowsIs W' vals W most := by
  intro W' hk
  refine ⟨?_, ?_, ?_, ?_, ?_, ?_⟩
  ·exact (World.cell?_of_block (hk.block w.heap.size (by omega) (by omega) (by omega))).trans (by rw [cell_of_row _ _ 0 _ _ _ e0]; rfl)
  ·exact (World.cell?_of_block (hk.block (w.heap.size + 1) (by omega) (by omega) (by omega))).trans (by rw [cell_of_row _ _ 0 _ _ _ e1]; rfl)
  ·exact (World.cell?_of_block (hk.block (w.heap.size + 3) (by omega) (by omega) (by omega))).trans (by rw [cell_of_row _ _ 0 _ _ _ e3]; rfl)
  ·intro j hj
   refine (World.cell?_of_block (a := ⟨gv, j, none⟩) ((hk.block gv (by omega) hgvne (by omega)).trans (hVB.block gv hgvl))).trans ?_
   rw [hV.cellAt j (by omega), List.getElem?_eq_getElem (by omega)]
   rfl
  ·intro i hi
   exact (World.cell?_of_block (a := ⟨bs, offs + i, none⟩) ((hk.block bs (by omega) hsne (by omega)).trans (hVB.block bs hbs))).trans (hcs i hi)
  ·intro j hj
   obtain ⟨A, h1, h2⟩ := hR j hj
   refine ⟨A, h1, fun h0 => ?_⟩
   obtain ⟨b, off, ea, hb, ⟨cs, hh⟩, hc⟩ := h2 h0
   have hne : b ≠ gl := by
    rintro rfl
    rw [hL] at hh
    injection hh with hh
    injection hh with _ hh _
    revert hh; decide
   have eb := (hk.block b (by omega) hne (by omega)).trans (hVB.block b hb)
   exact ⟨b, off, ea, Nat.lt_of_lt_of_le (by omega) hk.size, ⟨cs, eb.trans hh⟩, fun i x hx => ⟨(World.cell?_of_block (a := ⟨b, off + i * 2, none⟩) eb).trans (hc i x hx).1, (World.cell?_of_block (a := ⟨b, off + i * 2 + 1, none⟩) eb).trans (hc i x hx).2⟩⟩
 have hone : ∀ j, j < most → ∃ A len cp, vals[j]?.getD undef = .slice A len cp := fun j hj => by
  obtain ⟨A, h1, _⟩ := hR j hj
  exact ⟨A, _, _, by rw [h1]; rfl⟩
 refine range_counted rfl (by omega) (gf := 128) (lb := #[.pointer (some ⟨w.heap.size + 1 + 1 + 1, 0, none⟩)]) rfl trivial (enters_of Tryz.func128 (by kernel_rfl) rfl)
  most (fun k => #[.int .i64 ((most - 1 - k : Nat) : Int), vals[most - 1 - k]?.getD undef]) (fun _ => rfl)
  (fun k W' => ∃ done t, done.length = k ∧ shs W most (2 * m - 2) = done ++ shs W (most - k) t ∧ t ≤ (rowN W (most - k)).length ∧ W'.heap[w.heap.size + 2]? = some (.cells #[.int .i64 (t : Nat)] 3 (0, 0)) ∧ IsLen W' gl n (tot sg done) ∧ Kp2 V W' gl (w.heap.size + 2))
  ?own ⟨[], 2 * m - 2, rfl, rfl, he, e2, hLV, Kp2.refl _ _ _⟩ ?hit
  (fun k => { tmps := #[.slice (some ⟨gv, 0, none⟩) most capv, .slice (some ⟨bs, offs, none⟩) m capS, .slice (some ⟨gl, 0, none⟩) n n, undef, .pointer (some ⟨w.heap.size, 0, none⟩), .pointer (some ⟨w.heap.size + 1, 0, none⟩), .pointer (some ⟨w.heap.size + 1 + 1, 0, none⟩), undef, vals[most - 1 - k]?.getD undef, undef, undef, undef,
   .slice (some ⟨bs, offs, none⟩) m capS, .int .i64 m, .int .i64 (2 * m), .int .i64 ((2 * m - 2 : Nat) : Int), .slice (some ⟨gv, 0, none⟩) most capv, .func (.func 128) #[] #[.pointer (some ⟨w.heap.size + 1 + 1 + 1, 0, none⟩)], .int .i64 ((most - 1 - k : Nat) : Int), vals[most - 1 - k]?.getD undef,
   undef, undef, undef, undef, undef, undef, undef, undef, undef, undef, undef, undef, undef, undef, undef, undef, undef, undef, undef, undef, undef, undef, undef], defers := [] }) ?assign ?body ?done
 case own =>
  rintro k A B row ⟨done, t, h1, h2, h3, h4, h5, h6⟩ hg hr
  have hlt : ∀ b, b < V.heap.size → B.heap[b]? = A.heap[b]? := fun b hb => hg.block b (by have := h6.size; omega) (fun e => by have := (hr b e.symm).1; omega)
  exact ⟨done, t, h1, h2, h3, (hlt _ (by omega)).trans h4, (hlt _ (by omega)).trans h5, h6.grown hg (fun k e => .inr (.inr (hr k e).1))⟩
 case hit =>
  intro l J W' hJI hJY hJ0
  refine back1_in 3 (by omega) l (w.heap.size + 3) gv most capv (by omega) (fun j => vals[j]?.getD undef) J (fun k W3 hj => ?_) hone hJY W' hJ0
  obtain ⟨done, t, _, _, _, _, _, h6⟩ := hJI k W3 hj
  exact ⟨(kV h6).2.2.1, (kV h6).2.2.2.1⟩
 case assign =>
  intro l k W' K hK
  gi_wp2
  exact hK
 case done =>
  rintro D W' hD ⟨done, t, h1, h2, h3, h4, h5, h6⟩ hK
  rw [Nat.sub_self] at h2
  have hd : done = shs W most (2 * m - 2) := by rw [h2]; simp [shs]
  subst hd
  have hgw : w.grownBy (W'.putObj D (.deferred none)) (some gl) := by
   have h7 := h6.grown (grownBy_putObj' W' D (.deferred none)) (fun k e => by cases e; exact .inr (.inr hD))
   exact ⟨h7.os.trans hVB.os, h7.tape.trans hVB.tape, h7.output.trans hVB.output, Nat.le_trans hVB.size h7.size, fun b hb hne => (h7.block b (by omega) (fun e => hne (by rw [e])) (by omega)).trans (hVB.block b hb)⟩
  have hlw : IsLen (W'.putObj D (.deferred none)) gl n (tot sg (shs W most (2 * m - 2))) := (World.putObj_heap_other (by omega)).trans h5
  gi_wp2
  refine ⟨by simp, .inl ⟨_, _, rfl, run_takeDeferred hK, ?_⟩⟩
  exact ⟨_, results_none rfl _ _ _, rfl, hlw, hgw⟩
 case body =>
  rintro l k W' ⟨done, t, h1, h2, h3, h4, h5, h6⟩ hk
  obtain ⟨c0, c1, _, _, c4, hrows⟩ := kV h6
  obtain ⟨r, hr⟩ : ∃ r, most - k = r + 1 := ⟨most - k - 1, by omega⟩
  have hr' : most - 1 - k = r := by omega
  have hr2 : most - (k + 1) = r := by omega
  rw [hr] at h2 h3
  obtain ⟨A, hv, hrow⟩ := hrows r (by omega)
  obtain ⟨q1, q2, q3, _⟩ := pk_facts W hW r t h3
  have hrl := row_le W (r + 1)
  have hP := pairs_any A t (rowN W (r + 1)).length (rowN W (r + 1)) W' hrow h3 (by omega)
  have hshs : shs W most (2 * m - 2) = (done ++ [t - pk W (r + 1) t]) ++ shs W r (2 * pk W (r + 1) t) := by rw [h2, List.append_assoc]; rfl
  have hdl : ∀ c ∈ done ++ [t - pk W (r + 1) t], c ≤ m := fun c hc => by
   have := shs_le W hW most _ (by rw [← hm] at he; exact he) c (by rw [hm, hshs]; exact List.mem_append_left _ hc)
   omega
  have htl := tot_le sg m hinj (done ++ [t - pk W (r + 1) t]) hdl
  have hcl := cntS_le sg m hinj
  have hrl2 : 0 < (rowN W (r + 1)).length := by rw [row_len]; omega
  obtain ⟨b, off, rfl, _⟩ := hrow hrl2
  rw [hr', hv]
  have epk : npair ((rowN W (r + 1)).take t) = pk W (r + 1) t := rfl
  rw [epk] at hP
  have HDEF : Hid (∀ s, tot sg done s + cntS sg (t - pk W (r + 1) t) s = tot sg (done ++ [t - pk W (r + 1) t]) s) := fun s => (tot_snoc sg done _ s).symm
  have HSH := Lib.hid hshs
  have HTL := Lib.hid htl
  clear hshs htl epk
  generalize pk W (r + 1) t = p at *
  have hw3 : IntKind.i64.wrap ((t : Int) - (p : Int)) = ((t - p : Nat) : Int) := by rw [IntKind.wrap_i64]; omega
  have hw4 : IntKind.i64.wrap (2 * (p : Int)) = 2 * (p : Int) := by rw [IntKind.wrap_i64]; omega
  have c2 : W'.cell? ⟨w.heap.size + 1 + 1, 0, none⟩ = some (.int .i64 (t : Nat)) := by rw [cell_of_row _ (w.heap.size + 2) 0 _ _ _ h4]; rfl
  have HP := Lib.hid hP
  have HK := Lib.hid h6
  have H4 := Lib.hid h4
  have H5 := Lib.hid h5
  have HKV : Hid (∀ {W' : World} (_ : Kp2 V W' gl (w.heap.size + 2)), W'.cell? ⟨w.heap.size, 0, none⟩ = some (.slice (some ⟨bs, offs, none⟩) m capS) ∧ W'.cell? ⟨w.heap.size + 1, 0, none⟩ = some (.slice (some ⟨gl, 0, none⟩) n n) ∧
   W'.cell? ⟨w.heap.size + 3, 0, none⟩ = some (.slice (some ⟨gv, 0, none⟩) most capv) ∧ (∀ j, j < most → W'.cell? ⟨gv, j, none⟩ = some (vals[j]?.getD undef)) ∧ (∀ i, i < m → W'.cell? ⟨bs, offs + i, none⟩ = some (.int .i64 (sg i : Nat))) ∧ RowsIs W' vals W most) := kV
  clear hP h6 h4 h5 kV hrows hrow hv hRV hLV hone hcs hS hSne hVB e0 e1 e2 e3 hL hV hR hvh h2 he hW
  gi_wp2_with fail
  refine ⟨trivial, (CallsIn.inRound l (callsIn_wide.2 HP.out)).mono ?_⟩
  rintro e W2 ⟨rfl, hb2⟩
  have HK2 := Lib.hid (HK.out.grown (gob (row := none) hb2) (fun k e => by cases e))
  have HB2 := Lib.hid hb2
  have H42 := Lib.hid ((hb2.block (w.heap.size + 2) (by have := HK.out.size; omega)).trans H4.out)
  have H52 : Hid (IsLen W2 gl n (tot sg done)) := (hb2.block gl (by have := HK.out.size; omega)).trans H5.out
  have d0 := (HKV.out HK2.out).1
  have d2 : W2.cell? ⟨w.heap.size + 1 + 1, 0, none⟩ = some (.int .i64 (t : Nat)) := by rw [cell_of_row _ (w.heap.size + 2) 0 _ _ _ H42.out]; rfl
  clear hb2 c0 c1 c2 c4
  gi_wp2
  gi_loopw [30] (fun i wr => ∃ j, j ≤ t - p ∧ i = .int .i64 (j : Nat) ∧ IsLen wr gl n (fun s => tot sg done s + cntS sg j s) ∧ W2.grownBy wr (some gl)) (fun i _ => (t - p) - (intOf i).toNat)
  case atStart => exact ⟨0, Nat.zero_le _, rfl, H52.out.ext fun s _ => by simp [cntS], World.grownBy.refl _ _⟩
  case round =>
   obtain ⟨j, hj, rfl, hl, hg⟩ := hrel
   have hk3 := HK2.out.grown hg (fun k e => by cases e; exact .inl rfl)
   obtain ⟨f0, f1, _, _, f4, _⟩ := HKV.out hk3
   by_cases hlt : j < t - p
   ·have f5 := f4 j (by omega)
    have hsj := hsg j (by omega)
    have f6 := hl.cell (sg j) hsj
    have f7 := hl.frozen (sg j)
    have hbd : tot sg done (sg j) + cntS sg j (sg j) ≤ 17 := by
     have h8 := HTL.out (sg j)
     rw [tot_snoc] at h8
     have h9 := hcl j (by omega) (sg j)
     simp only [List.length_append, List.length_cons, List.length_nil] at h8
     omega
    have HL2 := Lib.hid hl
    have HG2 := Lib.hid hg
    have HST : Hid (∀ s, (if s = sg j then tot sg done (sg j) + cntS sg j (sg j) + 1 else tot sg done s + cntS sg j s) = tot sg done s + cntS sg (j + 1) s) := fun s => by
     by_cases e : s = sg j
     ·subst e; rw [if_pos rfl, cntS, if_pos rfl]; omega
     ·rw [if_neg e, cntS, if_neg (fun h => e h.symm)]; rfl
    have HSET := Lib.hid (fun x => hl.set (sg j) x)
    clear hl hg hk3 f4
    generalize hqq : tot sg done (sg j) + cntS sg j (sg j) = q at *
    clear hqq
    generalize hss : sg j = sj at *
    clear hss
    gi_wp2
    go_roundw
    case rel => exact ⟨j + 1, by omega, by go_num, (HSET.out (q + 1)).ext (fun s _ => HST.out s), gset HG2.out _ _⟩
    case measure => simp [intOf]; omega
   ·obtain rfl : j = t - p := by omega
    have H43 : Hid (wr.heap[w.heap.size + 2]? = some (.cells #[.int .i64 (t : Nat)] 3 (0, 0))) := (hg.block (w.heap.size + 2) (by have := HK2.out.size; omega) (by intro e; injection e with e; omega)).trans H42.out
    have g0 : wr.cell? ⟨w.heap.size + 1 + 1, 0, none⟩ = some (.int .i64 (t : Nat)) := by rw [cell_of_row _ (w.heap.size + 2) 0 _ _ _ H43.out]; rfl
    have g1 : wr.frozen? ⟨w.heap.size + 1 + 1, 0, none⟩ = false := frozen_of_row wr (w.heap.size + 2) 0 _ _ H43.out
    have HL2 := Lib.hid hl
    have HG2 := Lib.hid hg
    have HK3 := Lib.hid hk3
    clear hl hg hk3 f4
    gi_wp2
    refine ⟨?_, done ++ [t - p], by simp [h1], 2 * p, HSH.out, q3, ?_, ?_, ?_⟩
    ·exact ((KeepsOthers.of_grownBy (gob (row := none) HB2.out) (fun _ _ e => by cases e)).trans (KeepsOthers.of_grownBy HG2.out (fun k o e ho => by cases e; rw [H52.out] at ho; cases ho; rfl))).trans (KeepsOthers.setCell _ _ _)
    ·have h := heap_setCell_same wr (w.heap.size + 2) 0 _ _ (.int .i64 ((2 * p : Nat) : Int)) H43.out
     simpa using h
    ·exact ((Below.heap_setCell wr _ _ gl (by simp; omega)).trans HL2.out : _).trans (by rw [lenA_ext n _ _ (fun s _ => HDEF.out s)])
    ·exact HK3.out.grown (gset (World.grownBy.refl _ _) _ _) (fun k e => by cases e; exact .inr (.inl rfl))
end Go.Proofs.YtmkeicfklbepnaaGreat.We
