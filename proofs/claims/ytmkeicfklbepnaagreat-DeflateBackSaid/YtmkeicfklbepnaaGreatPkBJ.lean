/-
 block: how many lengths are alike; the first piece of a row; a row without noughts at its end.
 Tokens as values: may one be; what is wrong with one.
 Contract: Expand.
 Contract: the document's Expand.
-/
import Derived.Test.YtmkeicfklbepnaaGreatPkBI
import Derived.BigQuiet
import Derived.Deep.DeepMust
import Derived.Test.YtmkeicfklbepnaaGreatPkAB
import Derived.Test.YtmkeicfklbepnaaGreatPkAE
import Derived.Maps.AppendAt

namespace Go.Proofs.YtmkeicfklbepnaaGreat
set_option maxRecDepth 100000
open Go.RowKit Go.Joins Go.Deep

def alkN (row : Nat → Nat) (n a : Nat) : Nat := alF (fun i => decide (row (a + i) = row a)) (n - a)
theorem alk_ge (row : Nat → Nat) (n a : Nat) (h : a < n) : 1 ≤ alkN row n a ∧ a + alkN row n a ≤ n ∧ ∀ i, i < alkN row n a → row (a + i) = row a := by
 have h1 : ∀ m, 1 ≤ m → 1 ≤ alF (fun i => decide (row (a + i) = row a)) m := fun m hm => by
  induction m with
  | zero => omega
  | succ m ih =>
   rw [alF]
   by_cases hm0 : m = 0
   ·subst hm0
    rw [if_pos ⟨rfl, by simp⟩]
    omega
   ·split
    ·omega
    ·exact ih (by omega)
 refine ⟨h1 (n - a) (by omega), ?_, fun i hi => ?_⟩
 ·have := alF_le (fun i => decide (row (a + i) = row a)) (n - a)
  unfold alkN
  omega
 ·simpa using alF_all _ _ i hi
set_option maxHeartbeats 2000000 in
theorem balike_any (A : Option Addr) (n cap a : Nat) (row : Nat → Nat) (ha : a < n) (hn : n ≤ 1000) (w : World) (hL : Lens w A n row) :
  Calls Tryz.prog 132 #[.slice A n cap, .int .i64 (a : Nat)] w fun e w' => e = .returned (.int .i64 (alkN row n a : Nat)) ∧ ∃ d, w' = w.drewN d := by
 obtain ⟨b, off, rfl, hbl, hc⟩ := hL (by omega)
 have HC := Lib.hid hc
 have HE := Lib.hid (fun k h hk hs => alF_eq (fun i => decide (row (a + i) = row a)) (n - a) k h hk hs)
 clear hc hL
 go_enter Tryz.func132, Tryz.ntmps132
 go_wp2_with fail
 go_loopw [5] (fun v wr => ∃ m d : Nat, 1 ≤ m ∧ a + m ≤ n ∧ v = .int .i64 (m : Nat) ∧ wr = w.drewN d ∧ Hid (∀ i, i < m → row (a + i) = row a)) (fun v _ => n - (intOf v).toNat)
 case atStart => exact ⟨1, 0, Nat.le_refl _, by omega, rfl, rfl, fun i hi => by rw [show i = 0 by omega]; rfl⟩
 case round =>
  obtain ⟨m, d, hm1, hmn, rfl, rfl, HM⟩ := hrel
  have hWW : Hid (∀ q, (w.drewN d).drewN q = w.drewN (d + q)) := fun q => World.drewN_drewN w d q
  have hcell : ∀ i, i < n → (w.drewN d).cell? ⟨b, off + i, none⟩ = some (.int .u8 (row i : Nat)) := fun i hi => (HC.out i hi).1
  generalize w.drewN d = w2 at *
  by_cases hlt : a + m < n
  ·obtain ⟨q, hq⟩ : ∃ q, q = a + m := ⟨_, rfl⟩
   have c1 := hcell q (by omega)
   have c2 := hcell a ha
   have hsum : (a : Int) + (m : Int) = (q : Int) := by omega
   have hwr : IntKind.i64.wrap ((a : Int) + (m : Int)) = (q : Int) := by rw [IntKind.wrap_i64]; omega
   have hqn : q < n := by omega
   have hqI : (q : Int) < n := by omega
   have haI : (a : Int) < n := by omega
   have HQ := Lib.hid hq
   have hg : decide ((q : Int) < (n : Int)) = true := decide_eq_true hqI
   clear hcell hq
   by_cases hxy : row q = row a
   ·have HN : Hid (∀ i, i < m + 1 → row (a + i) = row a) := fun i hi => by
     by_cases e : i = m
     ·subst e; rw [← HQ.out]; exact hxy
     ·exact HM.out i (by omega)
    rw [hxy] at c1
    generalize row a = y at *
    clear hxy
    go_wp2_with fail
    go_quiet (fail)
    go_wp2_with fail
    go_roundw
    case rel => exact ⟨m + 1, d + nq, by omega, by have := HQ.out; omega, by go_num, hWW.out _, HN⟩
    case measure => simp [intOf]; omega
   ·have HX : Hid (alkN row n a = m) := HE.out m (fun i hi => by simpa using HM.out i hi) (by omega) (.inr (by rw [← HQ.out]; simpa using hxy))
    have hd : (((row q : Nat) : Int) == ((row a : Nat) : Int)) = false := by rw [beq_eq_false_iff_ne]; omega
    clear hxy
    generalize row q = x at *
    generalize row a = y at *
    go_wp2_with fail
    go_quiet (fail)
    go_wp2_with fail
    go_ret
    exact ⟨by rw [HX.out]; rfl, _, hWW.out _⟩
  ·have HX : Hid (alkN row n a = m) := HE.out m (fun i hi => by simpa using HM.out i hi) (by omega) (.inl (by omega))
   have hsum : (a : Int) + (m : Int) = (n : Int) := by omega
   clear hcell
   go_wp2_with fail
   go_quiet (fail)
   go_wp2_with fail
   go_ret
   exact ⟨by rw [HX.out]; rfl, _, hWW.out _⟩

/-- The first piece of a row at a place: its sign, how many bits more, and these; how many lengths it tells. -/
structure Pc where
 sg : Nat
 mo : Nat
 re : Nat
 mn : Nat
def pcN (row : Nat → Nat) (n a : Nat) : Pc :=
 if row a = 0 ∧ 11 ≤ alkN row n a then ⟨18, 7, min (alkN row n a) 138 - 11, min (alkN row n a) 138⟩
 else if row a = 0 ∧ 3 ≤ alkN row n a then ⟨17, 3, alkN row n a - 3, alkN row n a⟩
 else if 0 < a ∧ row (a - 1) = row a ∧ 3 ≤ alkN row n a then ⟨16, 2, min (alkN row n a) 6 - 3, min (alkN row n a) 6⟩
 else ⟨row a, 0, 0, 1⟩
def PcV (p : Pc) : Value := .agg #[.int .i64 (p.sg : Nat), .int .i64 (p.mo : Nat), .int .u32 (p.re : Nat)]
theorem info_pc : (Tryz.prog.info? 175).map (·.size) = some 3 := by kernel_rfl
theorem zero_pc (w : World) : (zeroValue 175).run Tryz.prog w = .ok (.agg #[.int .i64 0, .int .i64 0, .int .u32 0]) w := by kernel_rfl
theorem bthree_set {w : World} {g : Nat} {a b c x y z : Value} {T : TypeId} (h : w.heap[g]? = some (.cells #[a, b, c] T (0, 0))) : (((w.setCell ⟨g, 0, none⟩ x).setCell ⟨g, 1, none⟩ y).setCell ⟨g, 2, none⟩ z).heap[g]? = some (.cells #[x, y, z] T (0, 0)) := by
 have h1 := heap_setCell_same w g 0 _ _ x h
 have h2 := heap_setCell_same _ g 1 _ _ y h1
 have h3 := heap_setCell_same _ g 2 _ _ z h2
 simpa using h3
set_option maxHeartbeats 4000000 in
theorem first_any (A : Option Addr) (n cap a : Nat) (row : Nat → Nat) (ha : a < n) (hn : n ≤ 1000) (w : World) (hL : Lens w A n row) :
  Calls Tryz.prog 123 #[.slice A n cap, .int .i64 (a : Nat)] w fun e w' => e = .returned (.tuple #[PcV (pcN row n a), .int .i64 ((pcN row n a).mn : Nat)]) ∧ Below w.heap.size w w' := by
 have hb0 : Below w.heap.size w (w.alloc (.cells #[.int .i64 0, .int .i64 0, .int .u32 0] 175)) := (Below.refl _ _).alloc (Nat.le_refl _) _
 have hr0 : (w.alloc (.cells #[.int .i64 0, .int .i64 0, .int .u32 0] 175)).heap[w.heap.size]? = some (.cells #[.int .i64 0, .int .i64 0, .int .u32 0] 175 (0, 0)) := heap_alloc_new w _
 have hL1 := hL.below (Nat.le_refl _) hb0
 have HAK := Lib.hid (balike_any A n cap a row ha hn _ hL1)
 obtain ⟨b, off, rfl, hbl, hc⟩ := hL1 (by omega)
 have HC := Lib.hid hc
 have HB0 := Lib.hid hb0
 have HR0 := Lib.hid hr0
 obtain ⟨hm1, hmn, _⟩ := alk_ge row n a ha
 obtain ⟨p, hp⟩ : ∃ p, p = pcN row n a := ⟨_, rfl⟩
 rw [← hp]
 unfold pcN at hp
 have HPC := Lib.hid hp
 clear hp
 generalize hM : alkN row n a = m at *
 clear hM hc hL1 hL hb0 hr0
 have hzp := zero_pc
 have hip := info_pc
 go_enter Tryz.func123, Tryz.ntmps123
 go_wp2_with fail
 generalize w.alloc (.cells #[.int .i64 0, .int .i64 0, .int .u32 0] 175) = w1 at *
 refine (HAK.out).mono ?_; rintro e w2 ⟨rfl, d, hw2⟩
 have HBW0 : Hid (Below w.heap.size w w2) := by rw [Hid, hw2]; exact below_drewN HB0.out d
 have HR1 : Hid (w2.heap[w.heap.size]? = some (.cells #[.int .i64 0, .int .i64 0, .int .u32 0] 175 (0, 0))) := by rw [Hid, hw2]; exact HR0.out
 have HC2 : Hid (∀ i, i < n → w2.cell? ⟨b, off + i, none⟩ = some (.int .u8 (row i : Nat)) ∧ row i < 256) := by rw [Hid, hw2]; exact HC.out
 have c0 := (HC2.out a ha).1
 have hra := (HC2.out a ha).2
 have haI : (a : Int) < n := by omega
 clear hw2 HC HR0 HB0 HAK
 by_cases hz : row a = 0
 ·have c0z := c0
  rw [hz] at c0z
  by_cases h11 : 11 ≤ m
  ·have hg : decide ((11 : Int) ≤ (m : Int)) = true := decide_eq_true (by omega)
   by_cases h138 : m ≤ 138
   ·have hp : p = ⟨18, 7, m - 11, m⟩ := by rw [HPC.out, if_pos ⟨hz, h11⟩, Nat.min_eq_left h138]
    subst hp
    have hI1 : (m : Int) ≤ 138 := by omega
    have hI2 : ¬ (138 : Int) < (m : Int) := by omega
    have hqs : (m : Int) - 11 = ((m - 11 : Nat) : Int) := by omega
    have hqw : IntKind.u32.wrap ((m - 11 : Nat) : Int) = ((m - 11 : Nat) : Int) := by rw [IntKind.wrap_u32]; omega
    clear c0 HPC
    have HR := HR1
    have HBW := HBW0
    generalize w2 = ww at *
    have hr := HR.out
    have f0 := frozen_of_row ww _ 0 _ _ hr
    have f1 := frozen_of_row ww _ 1 _ _ hr
    have f2 := frozen_of_row ww _ 2 _ _ hr
    have k0 : ww.cell? ⟨w.heap.size, 0, none⟩ = some (.int .i64 0) := by rw [cell_of_row ww _ 0 _ _ _ hr]; rfl
    have k1 : ww.cell? ⟨w.heap.size, 1, none⟩ = some (.int .i64 0) := by rw [cell_of_row ww _ 1 _ _ _ hr]; rfl
    have k2 : ww.cell? ⟨w.heap.size, 2, none⟩ = some (.int .u32 0) := by rw [cell_of_row ww _ 2 _ _ _ hr]; rfl
    clear hr
    go_wp2_with fail
    have hr3 := bthree_set (x := .int .i64 18) (y := .int .i64 7) (z := .int .u32 ((m - 11 : Nat) : Int)) HR.out
    have hb3 : Below w.heap.size w (((ww.setCell ⟨w.heap.size, 0, none⟩ (.int .i64 18)).setCell ⟨w.heap.size, 1, none⟩ (.int .i64 7)).setCell ⟨w.heap.size, 2, none⟩ (.int .u32 ((m - 11 : Nat) : Int))) := ((HBW.out.setCell (Nat.le_refl _) _).setCell (Nat.le_refl _) _).setCell (Nat.le_refl _) _
    generalize hw3 : ((ww.setCell ⟨w.heap.size, 0, none⟩ (.int .i64 18)).setCell ⟨w.heap.size, 1, none⟩ (.int .i64 7)).setCell ⟨w.heap.size, 2, none⟩ (.int .u32 ((m - 11 : Nat) : Int)) = w9 at *
    have e0' : w9.cell? ⟨w.heap.size, 0, none⟩ = some (.int .i64 18) := by rw [cell_of_row w9 _ 0 _ _ _ hr3]; rfl
    have e1' : w9.cell? ⟨w.heap.size, 1, none⟩ = some (.int .i64 7) := by rw [cell_of_row w9 _ 1 _ _ _ hr3]; rfl
    have e2' : w9.cell? ⟨w.heap.size, 2, none⟩ = some (.int .u32 ((m - 11 : Nat) : Int)) := by rw [cell_of_row w9 _ 2 _ _ _ hr3]; rfl
    exact bodyPost_ret (v := .tuple #[.agg #[.int .i64 18, .int .i64 7, .int .u32 ((m - 11 : Nat) : Int)], .int .i64 (m : Nat)]) (by simp [results, Tryz.results123, go_sem, e0', e1', e2']) rfl ⟨rfl, hb3⟩
   ·have hp : p = ⟨18, 7, 127, 138⟩ := by rw [HPC.out, if_pos ⟨hz, h11⟩, Nat.min_eq_right (by omega)]
    subst hp
    have hI1 : ¬ (m : Int) ≤ 138 := by omega
    have hI2 : (138 : Int) < (m : Int) := by omega
    clear c0 HPC
    have HR := HR1
    have HBW := HBW0
    generalize w2 = ww at *
    have hr := HR.out
    have f0 := frozen_of_row ww _ 0 _ _ hr
    have f1 := frozen_of_row ww _ 1 _ _ hr
    have f2 := frozen_of_row ww _ 2 _ _ hr
    have k0 : ww.cell? ⟨w.heap.size, 0, none⟩ = some (.int .i64 0) := by rw [cell_of_row ww _ 0 _ _ _ hr]; rfl
    have k1 : ww.cell? ⟨w.heap.size, 1, none⟩ = some (.int .i64 0) := by rw [cell_of_row ww _ 1 _ _ _ hr]; rfl
    have k2 : ww.cell? ⟨w.heap.size, 2, none⟩ = some (.int .u32 0) := by rw [cell_of_row ww _ 2 _ _ _ hr]; rfl
    clear hr
    go_wp2_with fail
    have hr3 := bthree_set (x := .int .i64 18) (y := .int .i64 7) (z := .int .u32 127) HR.out
    have hb3 : Below w.heap.size w (((ww.setCell ⟨w.heap.size, 0, none⟩ (.int .i64 18)).setCell ⟨w.heap.size, 1, none⟩ (.int .i64 7)).setCell ⟨w.heap.size, 2, none⟩ (.int .u32 127)) := ((HBW.out.setCell (Nat.le_refl _) _).setCell (Nat.le_refl _) _).setCell (Nat.le_refl _) _
    generalize hw3 : ((ww.setCell ⟨w.heap.size, 0, none⟩ (.int .i64 18)).setCell ⟨w.heap.size, 1, none⟩ (.int .i64 7)).setCell ⟨w.heap.size, 2, none⟩ (.int .u32 127) = w9 at *
    have e0' : w9.cell? ⟨w.heap.size, 0, none⟩ = some (.int .i64 18) := by rw [cell_of_row w9 _ 0 _ _ _ hr3]; rfl
    have e1' : w9.cell? ⟨w.heap.size, 1, none⟩ = some (.int .i64 7) := by rw [cell_of_row w9 _ 1 _ _ _ hr3]; rfl
    have e2' : w9.cell? ⟨w.heap.size, 2, none⟩ = some (.int .u32 127) := by rw [cell_of_row w9 _ 2 _ _ _ hr3]; rfl
    exact bodyPost_ret (v := .tuple #[.agg #[.int .i64 18, .int .i64 7, .int .u32 127], .int .i64 138]) (by simp [results, Tryz.results123, go_sem, e0', e1', e2']) rfl ⟨rfl, hb3⟩
  ·by_cases h3 : 3 ≤ m
   ·have hp : p = ⟨17, 3, m - 3, m⟩ := by rw [HPC.out, if_neg (by omega), if_pos ⟨hz, h3⟩]
    subst hp
    have hg : decide ((11 : Int) ≤ (m : Int)) = false := decide_eq_false (by omega)
    have hg2 : decide ((3 : Int) ≤ (m : Int)) = true := decide_eq_true (by omega)
    have hqs : (m : Int) - 3 = ((m - 3 : Nat) : Int) := by omega
    have hqw : IntKind.u32.wrap ((m - 3 : Nat) : Int) = ((m - 3 : Nat) : Int) := by rw [IntKind.wrap_u32]; omega
    clear c0 HPC
    have HR := HR1
    have HBW := HBW0
    generalize w2 = ww at *
    have hr := HR.out
    have f0 := frozen_of_row ww _ 0 _ _ hr
    have f1 := frozen_of_row ww _ 1 _ _ hr
    have f2 := frozen_of_row ww _ 2 _ _ hr
    have k0 : ww.cell? ⟨w.heap.size, 0, none⟩ = some (.int .i64 0) := by rw [cell_of_row ww _ 0 _ _ _ hr]; rfl
    have k1 : ww.cell? ⟨w.heap.size, 1, none⟩ = some (.int .i64 0) := by rw [cell_of_row ww _ 1 _ _ _ hr]; rfl
    have k2 : ww.cell? ⟨w.heap.size, 2, none⟩ = some (.int .u32 0) := by rw [cell_of_row ww _ 2 _ _ _ hr]; rfl
    clear hr
    go_wp2_with fail
    have hr3 := bthree_set (x := .int .i64 17) (y := .int .i64 3) (z := .int .u32 ((m - 3 : Nat) : Int)) HR.out
    have hb3 : Below w.heap.size w (((ww.setCell ⟨w.heap.size, 0, none⟩ (.int .i64 17)).setCell ⟨w.heap.size, 1, none⟩ (.int .i64 3)).setCell ⟨w.heap.size, 2, none⟩ (.int .u32 ((m - 3 : Nat) : Int))) := ((HBW.out.setCell (Nat.le_refl _) _).setCell (Nat.le_refl _) _).setCell (Nat.le_refl _) _
    generalize hw3 : ((ww.setCell ⟨w.heap.size, 0, none⟩ (.int .i64 17)).setCell ⟨w.heap.size, 1, none⟩ (.int .i64 3)).setCell ⟨w.heap.size, 2, none⟩ (.int .u32 ((m - 3 : Nat) : Int)) = w9 at *
    have e0' : w9.cell? ⟨w.heap.size, 0, none⟩ = some (.int .i64 17) := by rw [cell_of_row w9 _ 0 _ _ _ hr3]; rfl
    have e1' : w9.cell? ⟨w.heap.size, 1, none⟩ = some (.int .i64 3) := by rw [cell_of_row w9 _ 1 _ _ _ hr3]; rfl
    have e2' : w9.cell? ⟨w.heap.size, 2, none⟩ = some (.int .u32 ((m - 3 : Nat) : Int)) := by rw [cell_of_row w9 _ 2 _ _ _ hr3]; rfl
    exact bodyPost_ret (v := .tuple #[.agg #[.int .i64 17, .int .i64 3, .int .u32 ((m - 3 : Nat) : Int)], .int .i64 (m : Nat)]) (by simp [results, Tryz.results123, go_sem, e0', e1', e2']) rfl ⟨rfl, hb3⟩
   ·have hg : decide ((11 : Int) ≤ (m : Int)) = false := decide_eq_false (by omega)
    have hg2 : decide ((3 : Int) ≤ (m : Int)) = false := decide_eq_false (by omega)
    have hd0 : (((row a : Nat) : Int) == 0) = true := by rw [hz]; rfl
    clear c0z
    have hwb : wrap64 ((row a : Nat) : Int) = ((row a : Nat) : Int) := by unfold wrap64; omega
    by_cases ha0 : 0 < a
    ·obtain ⟨q, rfl⟩ : ∃ q, a = q + 1 := ⟨a - 1, by omega⟩
     have cq := (HC2.out q (by omega)).1
     have hs1 : IntKind.i64.wrap (((q + 1 : Nat) : Int) - 1) = (q : Int) := by rw [IntKind.wrap_i64]; omega
     have hs2 : ((q + 1 : Nat) : Int) - 1 = (q : Int) := by omega
     have hs3 : ((q : Int) + 1 - 1) = (q : Int) := by omega
     have hs4 : IntKind.i64.wrap ((q : Int) + 1 - 1) = (q : Int) := by rw [IntKind.wrap_i64]; omega
     have hs5 : IntKind.i64.wrap (q : Int) = (q : Int) := by rw [IntKind.wrap_i64]; omega
     have hqI : (q : Int) < n := by omega
     have hgt : decide ((0 : Int) < ((q + 1 : Nat) : Int)) = true := decide_eq_true (by omega)
     have hgt2 : decide ((0 : Int) < (q : Int) + 1) = true := decide_eq_true (by omega)
     rw [Nat.add_sub_cancel] at HPC
     by_cases hxy : row q = row (q + 1)
     ·by_cases h3' : 3 ≤ m
      ·omega
      ·have hp : p = ⟨0, 0, 0, 1⟩ := by rw [HPC.out, if_neg (by omega), if_neg (by omega), if_neg (by omega), hz]
       subst hp
       have hg3 : decide ((3 : Int) ≤ (m : Int)) = false := decide_eq_false (by omega)
       rw [hxy, hz] at cq
       clear HPC hxy HC2
       rw [hz] at c0
       go_wp2_with fail
       go_quiet (fail)
       have HR : Hid ((w2.drewN nq).heap[w.heap.size]? = some (.cells #[.int .i64 0, .int .i64 0, .int .u32 0] 175 (0, 0))) := HR1.out
       have HBW : Hid (Below w.heap.size w (w2.drewN nq)) := below_drewN HBW0.out nq
       have c0q : (w2.drewN nq).cell? ⟨b, off + (q + 1), none⟩ = some (.int .u8 0) := c0
       clear HR1 HBW0 c0
       generalize w2.drewN nq = ww at *
       have hr := HR.out
       have f0 := frozen_of_row ww _ 0 _ _ hr
       have f1 := frozen_of_row ww _ 1 _ _ hr
       have f2 := frozen_of_row ww _ 2 _ _ hr
       have k0 : ww.cell? ⟨w.heap.size, 0, none⟩ = some (.int .i64 0) := by rw [cell_of_row ww _ 0 _ _ _ hr]; rfl
       have k1 : ww.cell? ⟨w.heap.size, 1, none⟩ = some (.int .i64 0) := by rw [cell_of_row ww _ 1 _ _ _ hr]; rfl
       have k2 : ww.cell? ⟨w.heap.size, 2, none⟩ = some (.int .u32 0) := by rw [cell_of_row ww _ 2 _ _ _ hr]; rfl
       clear hr
       go_wp2_with fail
       have hr3 := bthree_set (x := .int .i64 0) (y := .int .i64 0) (z := .int .u32 0) HR.out
       have hb3 : Below w.heap.size w (((ww.setCell ⟨w.heap.size, 0, none⟩ (.int .i64 0)).setCell ⟨w.heap.size, 1, none⟩ (.int .i64 0)).setCell ⟨w.heap.size, 2, none⟩ (.int .u32 0)) := ((HBW.out.setCell (Nat.le_refl _) _).setCell (Nat.le_refl _) _).setCell (Nat.le_refl _) _
       generalize hw3 : ((ww.setCell ⟨w.heap.size, 0, none⟩ (.int .i64 0)).setCell ⟨w.heap.size, 1, none⟩ (.int .i64 0)).setCell ⟨w.heap.size, 2, none⟩ (.int .u32 0) = w9 at *
       have e0' : w9.cell? ⟨w.heap.size, 0, none⟩ = some (.int .i64 0) := by rw [cell_of_row w9 _ 0 _ _ _ hr3]; rfl
       have e1' : w9.cell? ⟨w.heap.size, 1, none⟩ = some (.int .i64 0) := by rw [cell_of_row w9 _ 1 _ _ _ hr3]; rfl
       have e2' : w9.cell? ⟨w.heap.size, 2, none⟩ = some (.int .u32 0) := by rw [cell_of_row w9 _ 2 _ _ _ hr3]; rfl
       exact bodyPost_ret (v := .tuple #[.agg #[.int .i64 0, .int .i64 0, .int .u32 0], .int .i64 1]) (by simp [results, Tryz.results123, go_sem, e0', e1', e2']) rfl ⟨rfl, hb3⟩
     ·have hp : p = ⟨0, 0, 0, 1⟩ := by rw [HPC.out, if_neg (by omega), if_neg (by omega), if_neg (by omega), hz]
      subst hp
      have hdx : (((row q : Nat) : Int) == 0) = false := by rw [beq_eq_false_iff_ne]; omega
      clear HPC hxy HC2
      generalize row q = x at *
      rw [hz] at c0
      go_wp2_with fail
      go_quiet (fail)
      have HR : Hid ((w2.drewN nq).heap[w.heap.size]? = some (.cells #[.int .i64 0, .int .i64 0, .int .u32 0] 175 (0, 0))) := HR1.out
      have HBW : Hid (Below w.heap.size w (w2.drewN nq)) := below_drewN HBW0.out nq
      have c0q : (w2.drewN nq).cell? ⟨b, off + (q + 1), none⟩ = some (.int .u8 0) := c0
      clear HR1 HBW0 c0
      generalize w2.drewN nq = ww at *
      have hr := HR.out
      have f0 := frozen_of_row ww _ 0 _ _ hr
      have f1 := frozen_of_row ww _ 1 _ _ hr
      have f2 := frozen_of_row ww _ 2 _ _ hr
      have k0 : ww.cell? ⟨w.heap.size, 0, none⟩ = some (.int .i64 0) := by rw [cell_of_row ww _ 0 _ _ _ hr]; rfl
      have k1 : ww.cell? ⟨w.heap.size, 1, none⟩ = some (.int .i64 0) := by rw [cell_of_row ww _ 1 _ _ _ hr]; rfl
      have k2 : ww.cell? ⟨w.heap.size, 2, none⟩ = some (.int .u32 0) := by rw [cell_of_row ww _ 2 _ _ _ hr]; rfl
      clear hr
      go_wp2_with fail
      have hr3 := bthree_set (x := .int .i64 0) (y := .int .i64 0) (z := .int .u32 0) HR.out
      have hb3 : Below w.heap.size w (((ww.setCell ⟨w.heap.size, 0, none⟩ (.int .i64 0)).setCell ⟨w.heap.size, 1, none⟩ (.int .i64 0)).setCell ⟨w.heap.size, 2, none⟩ (.int .u32 0)) := ((HBW.out.setCell (Nat.le_refl _) _).setCell (Nat.le_refl _) _).setCell (Nat.le_refl _) _
      generalize hw3 : ((ww.setCell ⟨w.heap.size, 0, none⟩ (.int .i64 0)).setCell ⟨w.heap.size, 1, none⟩ (.int .i64 0)).setCell ⟨w.heap.size, 2, none⟩ (.int .u32 0) = w9 at *
      have e0' : w9.cell? ⟨w.heap.size, 0, none⟩ = some (.int .i64 0) := by rw [cell_of_row w9 _ 0 _ _ _ hr3]; rfl
      have e1' : w9.cell? ⟨w.heap.size, 1, none⟩ = some (.int .i64 0) := by rw [cell_of_row w9 _ 1 _ _ _ hr3]; rfl
      have e2' : w9.cell? ⟨w.heap.size, 2, none⟩ = some (.int .u32 0) := by rw [cell_of_row w9 _ 2 _ _ _ hr3]; rfl
      exact bodyPost_ret (v := .tuple #[.agg #[.int .i64 0, .int .i64 0, .int .u32 0], .int .i64 1]) (by simp [results, Tryz.results123, go_sem, e0', e1', e2']) rfl ⟨rfl, hb3⟩
    ·obtain rfl : a = 0 := by omega
     have hp : p = ⟨0, 0, 0, 1⟩ := by rw [HPC.out, if_neg (by omega), if_neg (by omega), if_neg (by omega), hz]
     subst hp
     clear HPC HC2
     rw [hz] at c0
     have c00 : w2.cell? ⟨b, off, none⟩ = some (.int .u8 0) := by simpa using c0
     go_wp2_with fail
     go_quiet (fail)
     have HR : Hid ((w2.drewN nq).heap[w.heap.size]? = some (.cells #[.int .i64 0, .int .i64 0, .int .u32 0] 175 (0, 0))) := HR1.out
     have HBW : Hid (Below w.heap.size w (w2.drewN nq)) := below_drewN HBW0.out nq
     have c0q : (w2.drewN nq).cell? ⟨b, off, none⟩ = some (.int .u8 0) := c00
     clear HR1 HBW0 c0 c00
     generalize w2.drewN nq = ww at *
     have hr := HR.out
     have f0 := frozen_of_row ww _ 0 _ _ hr
     have f1 := frozen_of_row ww _ 1 _ _ hr
     have f2 := frozen_of_row ww _ 2 _ _ hr
     have k0 : ww.cell? ⟨w.heap.size, 0, none⟩ = some (.int .i64 0) := by rw [cell_of_row ww _ 0 _ _ _ hr]; rfl
     have k1 : ww.cell? ⟨w.heap.size, 1, none⟩ = some (.int .i64 0) := by rw [cell_of_row ww _ 1 _ _ _ hr]; rfl
     have k2 : ww.cell? ⟨w.heap.size, 2, none⟩ = some (.int .u32 0) := by rw [cell_of_row ww _ 2 _ _ _ hr]; rfl
     clear hr
     go_wp2_with fail
     have hr3 := bthree_set (x := .int .i64 0) (y := .int .i64 0) (z := .int .u32 0) HR.out
     have hb3 : Below w.heap.size w (((ww.setCell ⟨w.heap.size, 0, none⟩ (.int .i64 0)).setCell ⟨w.heap.size, 1, none⟩ (.int .i64 0)).setCell ⟨w.heap.size, 2, none⟩ (.int .u32 0)) := ((HBW.out.setCell (Nat.le_refl _) _).setCell (Nat.le_refl _) _).setCell (Nat.le_refl _) _
     generalize hw3 : ((ww.setCell ⟨w.heap.size, 0, none⟩ (.int .i64 0)).setCell ⟨w.heap.size, 1, none⟩ (.int .i64 0)).setCell ⟨w.heap.size, 2, none⟩ (.int .u32 0) = w9 at *
     have e0' : w9.cell? ⟨w.heap.size, 0, none⟩ = some (.int .i64 0) := by rw [cell_of_row w9 _ 0 _ _ _ hr3]; rfl
     have e1' : w9.cell? ⟨w.heap.size, 1, none⟩ = some (.int .i64 0) := by rw [cell_of_row w9 _ 1 _ _ _ hr3]; rfl
     have e2' : w9.cell? ⟨w.heap.size, 2, none⟩ = some (.int .u32 0) := by rw [cell_of_row w9 _ 2 _ _ _ hr3]; rfl
     exact bodyPost_ret (v := .tuple #[.agg #[.int .i64 0, .int .i64 0, .int .u32 0], .int .i64 1]) (by simp [results, Tryz.results123, go_sem, e0', e1', e2']) rfl ⟨rfl, hb3⟩
 ·have hd0 : (((row a : Nat) : Int) == 0) = false := by rw [beq_eq_false_iff_ne]; omega
  have hwb : wrap64 ((row a : Nat) : Int) = ((row a : Nat) : Int) := by unfold wrap64; omega
  by_cases ha0 : 0 < a
  ·obtain ⟨q, rfl⟩ : ∃ q, a = q + 1 := ⟨a - 1, by omega⟩
   have cq := (HC2.out q (by omega)).1
   have hs1 : IntKind.i64.wrap (((q + 1 : Nat) : Int) - 1) = (q : Int) := by rw [IntKind.wrap_i64]; omega
   have hs2 : ((q + 1 : Nat) : Int) - 1 = (q : Int) := by omega
   have hs3 : ((q : Int) + 1 - 1) = (q : Int) := by omega
   have hs4 : IntKind.i64.wrap ((q : Int) + 1 - 1) = (q : Int) := by rw [IntKind.wrap_i64]; omega
   have hs5 : IntKind.i64.wrap (q : Int) = (q : Int) := by rw [IntKind.wrap_i64]; omega
   have hqI : (q : Int) < n := by omega
   have hgt : decide ((0 : Int) < ((q + 1 : Nat) : Int)) = true := decide_eq_true (by omega)
   have hgt2 : decide ((0 : Int) < (q : Int) + 1) = true := decide_eq_true (by omega)
   rw [Nat.add_sub_cancel] at HPC
   by_cases hxy : row q = row (q + 1)
   ·by_cases h3' : 3 ≤ m
    ·have hg3 : decide ((3 : Int) ≤ (m : Int)) = true := decide_eq_true (by omega)
     by_cases h6 : m ≤ 6
     ·have hp : p = ⟨16, 2, m - 3, m⟩ := by rw [HPC.out, if_neg (by omega), if_neg (by omega), if_pos ⟨by omega, hxy, h3'⟩, Nat.min_eq_left h6]
      subst hp
      have hI1 : (m : Int) ≤ 6 := by omega
      have hI2 : ¬ (6 : Int) < (m : Int) := by omega
      have hqs : (m : Int) - 3 = ((m - 3 : Nat) : Int) := by omega
      have hqw : IntKind.u32.wrap ((m - 3 : Nat) : Int) = ((m - 3 : Nat) : Int) := by rw [IntKind.wrap_u32]; omega
      rw [hxy] at cq
      clear HPC hxy HC2
      generalize row (q + 1) = y at *
      go_wp2_with fail
      go_quiet (fail)
      have HR : Hid ((w2.drewN nq).heap[w.heap.size]? = some (.cells #[.int .i64 0, .int .i64 0, .int .u32 0] 175 (0, 0))) := HR1.out
      have HBW : Hid (Below w.heap.size w (w2.drewN nq)) := below_drewN HBW0.out nq
      have c0q : (w2.drewN nq).cell? ⟨b, off + (q + 1), none⟩ = some (.int .u8 (y : Nat)) := c0
      clear HR1 HBW0 c0
      generalize w2.drewN nq = ww at *
      have hr := HR.out
      have f0 := frozen_of_row ww _ 0 _ _ hr
      have f1 := frozen_of_row ww _ 1 _ _ hr
      have f2 := frozen_of_row ww _ 2 _ _ hr
      have k0 : ww.cell? ⟨w.heap.size, 0, none⟩ = some (.int .i64 0) := by rw [cell_of_row ww _ 0 _ _ _ hr]; rfl
      have k1 : ww.cell? ⟨w.heap.size, 1, none⟩ = some (.int .i64 0) := by rw [cell_of_row ww _ 1 _ _ _ hr]; rfl
      have k2 : ww.cell? ⟨w.heap.size, 2, none⟩ = some (.int .u32 0) := by rw [cell_of_row ww _ 2 _ _ _ hr]; rfl
      clear hr
      go_wp2_with fail
      have hr3 := bthree_set (x := .int .i64 16) (y := .int .i64 2) (z := .int .u32 ((m - 3 : Nat) : Int)) HR.out
      have hb3 : Below w.heap.size w (((ww.setCell ⟨w.heap.size, 0, none⟩ (.int .i64 16)).setCell ⟨w.heap.size, 1, none⟩ (.int .i64 2)).setCell ⟨w.heap.size, 2, none⟩ (.int .u32 ((m - 3 : Nat) : Int))) := ((HBW.out.setCell (Nat.le_refl _) _).setCell (Nat.le_refl _) _).setCell (Nat.le_refl _) _
      generalize hw3 : ((ww.setCell ⟨w.heap.size, 0, none⟩ (.int .i64 16)).setCell ⟨w.heap.size, 1, none⟩ (.int .i64 2)).setCell ⟨w.heap.size, 2, none⟩ (.int .u32 ((m - 3 : Nat) : Int)) = w9 at *
      have e0' : w9.cell? ⟨w.heap.size, 0, none⟩ = some (.int .i64 16) := by rw [cell_of_row w9 _ 0 _ _ _ hr3]; rfl
      have e1' : w9.cell? ⟨w.heap.size, 1, none⟩ = some (.int .i64 2) := by rw [cell_of_row w9 _ 1 _ _ _ hr3]; rfl
      have e2' : w9.cell? ⟨w.heap.size, 2, none⟩ = some (.int .u32 ((m - 3 : Nat) : Int)) := by rw [cell_of_row w9 _ 2 _ _ _ hr3]; rfl
      exact bodyPost_ret (v := .tuple #[.agg #[.int .i64 16, .int .i64 2, .int .u32 ((m - 3 : Nat) : Int)], .int .i64 (m : Nat)]) (by simp [results, Tryz.results123, go_sem, e0', e1', e2']) rfl ⟨rfl, hb3⟩
     ·have hp : p = ⟨16, 2, 3, 6⟩ := by rw [HPC.out, if_neg (by omega), if_neg (by omega), if_pos ⟨by omega, hxy, h3'⟩, Nat.min_eq_right (by omega)]
      subst hp
      have hI1 : ¬ (m : Int) ≤ 6 := by omega
      have hI2 : (6 : Int) < (m : Int) := by omega
      rw [hxy] at cq
      clear HPC hxy HC2
      generalize row (q + 1) = y at *
      go_wp2_with fail
      go_quiet (fail)
      have HR : Hid ((w2.drewN nq).heap[w.heap.size]? = some (.cells #[.int .i64 0, .int .i64 0, .int .u32 0] 175 (0, 0))) := HR1.out
      have HBW : Hid (Below w.heap.size w (w2.drewN nq)) := below_drewN HBW0.out nq
      have c0q : (w2.drewN nq).cell? ⟨b, off + (q + 1), none⟩ = some (.int .u8 (y : Nat)) := c0
      clear HR1 HBW0 c0
      generalize w2.drewN nq = ww at *
      have hr := HR.out
      have f0 := frozen_of_row ww _ 0 _ _ hr
      have f1 := frozen_of_row ww _ 1 _ _ hr
      have f2 := frozen_of_row ww _ 2 _ _ hr
      have k0 : ww.cell? ⟨w.heap.size, 0, none⟩ = some (.int .i64 0) := by rw [cell_of_row ww _ 0 _ _ _ hr]; rfl
      have k1 : ww.cell? ⟨w.heap.size, 1, none⟩ = some (.int .i64 0) := by rw [cell_of_row ww _ 1 _ _ _ hr]; rfl
      have k2 : ww.cell? ⟨w.heap.size, 2, none⟩ = some (.int .u32 0) := by rw [cell_of_row ww _ 2 _ _ _ hr]; rfl
      clear hr
      go_wp2_with fail
      have hr3 := bthree_set (x := .int .i64 16) (y := .int .i64 2) (z := .int .u32 3) HR.out
      have hb3 : Below w.heap.size w (((ww.setCell ⟨w.heap.size, 0, none⟩ (.int .i64 16)).setCell ⟨w.heap.size, 1, none⟩ (.int .i64 2)).setCell ⟨w.heap.size, 2, none⟩ (.int .u32 3)) := ((HBW.out.setCell (Nat.le_refl _) _).setCell (Nat.le_refl _) _).setCell (Nat.le_refl _) _
      generalize hw3 : ((ww.setCell ⟨w.heap.size, 0, none⟩ (.int .i64 16)).setCell ⟨w.heap.size, 1, none⟩ (.int .i64 2)).setCell ⟨w.heap.size, 2, none⟩ (.int .u32 3) = w9 at *
      have e0' : w9.cell? ⟨w.heap.size, 0, none⟩ = some (.int .i64 16) := by rw [cell_of_row w9 _ 0 _ _ _ hr3]; rfl
      have e1' : w9.cell? ⟨w.heap.size, 1, none⟩ = some (.int .i64 2) := by rw [cell_of_row w9 _ 1 _ _ _ hr3]; rfl
      have e2' : w9.cell? ⟨w.heap.size, 2, none⟩ = some (.int .u32 3) := by rw [cell_of_row w9 _ 2 _ _ _ hr3]; rfl
      exact bodyPost_ret (v := .tuple #[.agg #[.int .i64 16, .int .i64 2, .int .u32 3], .int .i64 6]) (by simp [results, Tryz.results123, go_sem, e0', e1', e2']) rfl ⟨rfl, hb3⟩
    ·have hp : p = ⟨row (q + 1), 0, 0, 1⟩ := by rw [HPC.out, if_neg (by omega), if_neg (by omega), if_neg (by omega)]
     have HP := Lib.hid hp
     clear hp
     have hg3 : decide ((3 : Int) ≤ (m : Int)) = false := decide_eq_false (by omega)
     rw [hxy] at cq
     clear HPC hxy HC2
     generalize row (q + 1) = y at *
     go_wp2_with fail
     go_quiet (fail)
     have HR : Hid ((w2.drewN nq).heap[w.heap.size]? = some (.cells #[.int .i64 0, .int .i64 0, .int .u32 0] 175 (0, 0))) := HR1.out
     have HBW : Hid (Below w.heap.size w (w2.drewN nq)) := below_drewN HBW0.out nq
     have c0q : (w2.drewN nq).cell? ⟨b, off + (q + 1), none⟩ = some (.int .u8 (y : Nat)) := c0
     clear HR1 HBW0 c0
     generalize w2.drewN nq = ww at *
     have hr := HR.out
     have f0 := frozen_of_row ww _ 0 _ _ hr
     have f1 := frozen_of_row ww _ 1 _ _ hr
     have f2 := frozen_of_row ww _ 2 _ _ hr
     have k0 : ww.cell? ⟨w.heap.size, 0, none⟩ = some (.int .i64 0) := by rw [cell_of_row ww _ 0 _ _ _ hr]; rfl
     have k1 : ww.cell? ⟨w.heap.size, 1, none⟩ = some (.int .i64 0) := by rw [cell_of_row ww _ 1 _ _ _ hr]; rfl
     have k2 : ww.cell? ⟨w.heap.size, 2, none⟩ = some (.int .u32 0) := by rw [cell_of_row ww _ 2 _ _ _ hr]; rfl
     clear hr
     go_wp2_with fail
     have hr3 := bthree_set (x := .int .i64 (y : Nat)) (y := .int .i64 0) (z := .int .u32 0) HR.out
     have hb3 : Below w.heap.size w (((ww.setCell ⟨w.heap.size, 0, none⟩ (.int .i64 (y : Nat))).setCell ⟨w.heap.size, 1, none⟩ (.int .i64 0)).setCell ⟨w.heap.size, 2, none⟩ (.int .u32 0)) := ((HBW.out.setCell (Nat.le_refl _) _).setCell (Nat.le_refl _) _).setCell (Nat.le_refl _) _
     generalize hw3 : ((ww.setCell ⟨w.heap.size, 0, none⟩ (.int .i64 (y : Nat))).setCell ⟨w.heap.size, 1, none⟩ (.int .i64 0)).setCell ⟨w.heap.size, 2, none⟩ (.int .u32 0) = w9 at *
     have e0' : w9.cell? ⟨w.heap.size, 0, none⟩ = some (.int .i64 (y : Nat)) := by rw [cell_of_row w9 _ 0 _ _ _ hr3]; rfl
     have e1' : w9.cell? ⟨w.heap.size, 1, none⟩ = some (.int .i64 0) := by rw [cell_of_row w9 _ 1 _ _ _ hr3]; rfl
     have e2' : w9.cell? ⟨w.heap.size, 2, none⟩ = some (.int .u32 0) := by rw [cell_of_row w9 _ 2 _ _ _ hr3]; rfl
     exact bodyPost_ret (v := .tuple #[.agg #[.int .i64 (y : Nat), .int .i64 0, .int .u32 0], .int .i64 1]) (by simp [results, Tryz.results123, go_sem, e0', e1', e2']) rfl ⟨by rw [HP.out]; rfl, hb3⟩
   ·have hp : p = ⟨row (q + 1), 0, 0, 1⟩ := by rw [HPC.out, if_neg (by omega), if_neg (by omega), if_neg (by omega)]
    have HP := Lib.hid hp
    clear hp
    have hdx : (((row q : Nat) : Int) == ((row (q + 1) : Nat) : Int)) = false := by rw [beq_eq_false_iff_ne]; omega
    clear HPC hxy HC2
    generalize row q = x at *
    generalize row (q + 1) = y at *
    go_wp2_with fail
    go_quiet (fail)
    have HR : Hid ((w2.drewN nq).heap[w.heap.size]? = some (.cells #[.int .i64 0, .int .i64 0, .int .u32 0] 175 (0, 0))) := HR1.out
    have HBW : Hid (Below w.heap.size w (w2.drewN nq)) := below_drewN HBW0.out nq
    have c0q : (w2.drewN nq).cell? ⟨b, off + (q + 1), none⟩ = some (.int .u8 (y : Nat)) := c0
    clear HR1 HBW0 c0
    generalize w2.drewN nq = ww at *
    have hr := HR.out
    have f0 := frozen_of_row ww _ 0 _ _ hr
    have f1 := frozen_of_row ww _ 1 _ _ hr
    have f2 := frozen_of_row ww _ 2 _ _ hr
    have k0 : ww.cell? ⟨w.heap.size, 0, none⟩ = some (.int .i64 0) := by rw [cell_of_row ww _ 0 _ _ _ hr]; rfl
    have k1 : ww.cell? ⟨w.heap.size, 1, none⟩ = some (.int .i64 0) := by rw [cell_of_row ww _ 1 _ _ _ hr]; rfl
    have k2 : ww.cell? ⟨w.heap.size, 2, none⟩ = some (.int .u32 0) := by rw [cell_of_row ww _ 2 _ _ _ hr]; rfl
    clear hr
    go_wp2_with fail
    have hr3 := bthree_set (x := .int .i64 (y : Nat)) (y := .int .i64 0) (z := .int .u32 0) HR.out
    have hb3 : Below w.heap.size w (((ww.setCell ⟨w.heap.size, 0, none⟩ (.int .i64 (y : Nat))).setCell ⟨w.heap.size, 1, none⟩ (.int .i64 0)).setCell ⟨w.heap.size, 2, none⟩ (.int .u32 0)) := ((HBW.out.setCell (Nat.le_refl _) _).setCell (Nat.le_refl _) _).setCell (Nat.le_refl _) _
    generalize hw3 : ((ww.setCell ⟨w.heap.size, 0, none⟩ (.int .i64 (y : Nat))).setCell ⟨w.heap.size, 1, none⟩ (.int .i64 0)).setCell ⟨w.heap.size, 2, none⟩ (.int .u32 0) = w9 at *
    have e0' : w9.cell? ⟨w.heap.size, 0, none⟩ = some (.int .i64 (y : Nat)) := by rw [cell_of_row w9 _ 0 _ _ _ hr3]; rfl
    have e1' : w9.cell? ⟨w.heap.size, 1, none⟩ = some (.int .i64 0) := by rw [cell_of_row w9 _ 1 _ _ _ hr3]; rfl
    have e2' : w9.cell? ⟨w.heap.size, 2, none⟩ = some (.int .u32 0) := by rw [cell_of_row w9 _ 2 _ _ _ hr3]; rfl
    exact bodyPost_ret (v := .tuple #[.agg #[.int .i64 (y : Nat), .int .i64 0, .int .u32 0], .int .i64 1]) (by simp [results, Tryz.results123, go_sem, e0', e1', e2']) rfl ⟨by rw [HP.out]; rfl, hb3⟩
  ·obtain rfl : a = 0 := by omega
   have hp : p = ⟨row 0, 0, 0, 1⟩ := by rw [HPC.out, if_neg (by omega), if_neg (by omega), if_neg (by omega)]
   have HP := Lib.hid hp
   clear hp
   clear HPC HC2
   generalize row 0 = y at *
   have c00 : w2.cell? ⟨b, off, none⟩ = some (.int .u8 (y : Nat)) := by simpa using c0
   go_wp2_with fail
   go_quiet (fail)
   have HR : Hid ((w2.drewN nq).heap[w.heap.size]? = some (.cells #[.int .i64 0, .int .i64 0, .int .u32 0] 175 (0, 0))) := HR1.out
   have HBW : Hid (Below w.heap.size w (w2.drewN nq)) := below_drewN HBW0.out nq
   have c0q : (w2.drewN nq).cell? ⟨b, off, none⟩ = some (.int .u8 (y : Nat)) := c00
   clear HR1 HBW0 c0 c00
   generalize w2.drewN nq = ww at *
   have hr := HR.out
   have f0 := frozen_of_row ww _ 0 _ _ hr
   have f1 := frozen_of_row ww _ 1 _ _ hr
   have f2 := frozen_of_row ww _ 2 _ _ hr
   have k0 : ww.cell? ⟨w.heap.size, 0, none⟩ = some (.int .i64 0) := by rw [cell_of_row ww _ 0 _ _ _ hr]; rfl
   have k1 : ww.cell? ⟨w.heap.size, 1, none⟩ = some (.int .i64 0) := by rw [cell_of_row ww _ 1 _ _ _ hr]; rfl
   have k2 : ww.cell? ⟨w.heap.size, 2, none⟩ = some (.int .u32 0) := by rw [cell_of_row ww _ 2 _ _ _ hr]; rfl
   clear hr
   go_wp2_with fail
   have hr3 := bthree_set (x := .int .i64 (y : Nat)) (y := .int .i64 0) (z := .int .u32 0) HR.out
   have hb3 : Below w.heap.size w (((ww.setCell ⟨w.heap.size, 0, none⟩ (.int .i64 (y : Nat))).setCell ⟨w.heap.size, 1, none⟩ (.int .i64 0)).setCell ⟨w.heap.size, 2, none⟩ (.int .u32 0)) := ((HBW.out.setCell (Nat.le_refl _) _).setCell (Nat.le_refl _) _).setCell (Nat.le_refl _) _
   generalize hw3 : ((ww.setCell ⟨w.heap.size, 0, none⟩ (.int .i64 (y : Nat))).setCell ⟨w.heap.size, 1, none⟩ (.int .i64 0)).setCell ⟨w.heap.size, 2, none⟩ (.int .u32 0) = w9 at *
   have e0' : w9.cell? ⟨w.heap.size, 0, none⟩ = some (.int .i64 (y : Nat)) := by rw [cell_of_row w9 _ 0 _ _ _ hr3]; rfl
   have e1' : w9.cell? ⟨w.heap.size, 1, none⟩ = some (.int .i64 0) := by rw [cell_of_row w9 _ 1 _ _ _ hr3]; rfl
   have e2' : w9.cell? ⟨w.heap.size, 2, none⟩ = some (.int .u32 0) := by rw [cell_of_row w9 _ 2 _ _ _ hr3]; rfl
   exact bodyPost_ret (v := .tuple #[.agg #[.int .i64 (y : Nat), .int .i64 0, .int .u32 0], .int .i64 1]) (by simp [results, Tryz.results123, go_sem, e0', e1', e2']) rfl ⟨by rw [HP.out]; rfl, hb3⟩
end Go.Proofs.YtmkeicfklbepnaaGreat

namespace Go.Proofs.YtmkeicfklbepnaaGreat
set_option maxRecDepth 100000
open Go.RowKit Go.Deep Go.Joins

/-- A token's cells. -/
def cellT (t : Tok) : List Value := [.int .u8 (t.b : Nat), .int .i64 t.l, .int .i64 t.d]
/-- A token as a value. -/
def valT (t : Tok) : Value := .agg #[.int .u8 (t.b : Nat), .int .i64 t.l, .int .i64 t.d]
/-- A token that Go holds. -/
def TokOk (t : Tok) : Prop := t.b < 256 ∧ -9223372036854775808 ≤ t.l ∧ t.l ≤ 9223372036854775807 ∧ -9223372036854775808 ≤ t.d ∧ t.d ≤ 9223372036854775807

theorem right_any (t : Tok) (w : World) : Calls Tryz.prog 49 #[valT t] w fun e w' => e = .returned (.bool (rightT t)) ∧ Below w.heap.size w w' := by
 obtain ⟨b, l, d⟩ := t
 unfold valT rightT
 go_enter Tryz.func49, Tryz.ntmps49
 by_cases h0 : l = 0
 ·simp only [h0, if_true]
  go_wp2
  go_ret
  exact ⟨rfl, (Below.refl _ _).alloc (Nat.le_refl _) _⟩
 ·simp only [h0, if_false]
  by_cases h1 : b = 0
  ·go_wp2 <;> (go_ret; refine ⟨congrArg (fun x => Ending.returned (.bool x)) ?_, (Below.refl _ _).alloc (Nat.le_refl _) _⟩; rw [Bool.eq_iff_iff]; simp; try omega)
  ·go_wp2 <;> (go_ret; refine ⟨congrArg (fun x => Ending.returned (.bool x)) ?_, (Below.refl _ _).alloc (Nat.le_refl _) _⟩; rw [Bool.eq_iff_iff]; simp; try omega)
theorem wide_any (t : Tok) (w : World) : Calls Tryz.prog 29 #[valT t] w fun e w' => e = .returned (.int .i64 (widT t)) ∧ Below w.heap.size w w' := by
 obtain ⟨b, l, d⟩ := t
 unfold valT widT
 go_enter Tryz.func29, Tryz.ntmps29
 go_wp2 <;> (go_ret; refine ⟨congrArg (fun x => Ending.returned (.int .i64 x)) ?_, (Below.refl _ _).alloc (Nat.le_refl _) _⟩; show _ = max l 1; omega)
end Go.Proofs.YtmkeicfklbepnaaGreat

namespace Go.Proofs.YtmkeicfklbepnaaGreat
set_option maxRecDepth 100000
open Go.RowKit Go.Deep Go.Joins

/-- A slice of tokens. -/
def Toks (w : World) (A : Option Addr) (n : Nat) (f : Nat → Tok) : Prop := 0 < n → ∃ b off, A = some ⟨b, off, none⟩ ∧ b < w.heap.size ∧ ∀ i, i < n → TokOk (f i) ∧ w.cell? ⟨b, off + i * 3, none⟩ = some (.int .u8 ((f i).b : Nat)) ∧ w.cell? ⟨b, off + i * 3 + 1, none⟩ = some (.int .i64 (f i).l) ∧ w.cell? ⟨b, off + i * 3 + 2, none⟩ = some (.int .i64 (f i).d)
theorem Toks.below {w w' : World} {B n : Nat} {A : Option Addr} {f : Nat → Tok} (h : Toks w A n f) (hB : w.heap.size ≤ B) (hb : Below B w w') : Toks w' A n f := fun hn => by
 obtain ⟨b, off, e, hlt, hc⟩ := h hn
 have hl := Nat.lt_of_lt_of_le hlt hB
 exact ⟨b, off, e, Nat.lt_of_lt_of_le hlt hb.size, fun i hi => ⟨(hc i hi).1, (hb.cell (p := ⟨b, off + i * 3, none⟩) hl).trans (hc i hi).2.1, (hb.cell (p := ⟨b, off + i * 3 + 1, none⟩) hl).trans (hc i hi).2.2.1, (hb.cell (p := ⟨b, off + i * 3 + 2, none⟩) hl).trans (hc i hi).2.2.2⟩⟩

theorem info_tok : (Tryz.prog.info? 76).map (·.size) = some 3 := by kernel_rfl
/-- What a copy's loop keeps. -/
def CopySt (w w1 wr : World) (T : TypeId) (B0 : Nat) (t : Tok) (o : List Nat) (d : Nat) (j : Nat) (v : Value) : Prop :=
 wr.ownsRow w.heap.size 5 1 v (copyT o d j).length (cells8 (copyT o d j)) ∧ wr.heap[B0]? = some (.cells #[.int .u8 (t.b : Nat), .int .i64 t.l, .int .i64 t.d] T (0, 0)) ∧ Below w.heap.size w wr ∧ w1.heap.size ≤ wr.heap.size
/-- The text that tokens are: none where something is wrong. -/
def expT (f : Nat → Tok) (n : Nat) : List Nat := if expE f n = 0 then expO f n else []
theorem expT_ok {f : Nat → Tok} {n : Nat} (h : expE f n = 0) : expT f n = expO f n := if_pos h
end Go.Proofs.YtmkeicfklbepnaaGreat

namespace Go.Proofs.YtmkeicfklbepnaaGreat
set_option maxRecDepth 100000
open Go.RowKit Go.Deep Go.Joins

end Go.Proofs.YtmkeicfklbepnaaGreat
