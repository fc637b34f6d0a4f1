/-
  weigh: contracts of next and rows.
-/
import Derived.Test.YtljekdnjdcfliaaWeB
namespace Go.Proofs.Ytljekdnjdcfliaa
open Go.RowKit

theorem cell_new (w : World) (v : Value) (T : TypeId) : (w.alloc (.cells #[v] T)).cell? ⟨w.heap.size, 0, none⟩ = some v := by
  rw [cell_of_row _ _ 0 _ _ _ (heap_alloc_new w _)]; rfl
theorem sum_le_big {x y : Nat} (hx : x < 4611686018427387904) (hy : y < 4611686018427387904) : x + y < 18446744073709551616 := by omega

set_option maxRecDepth 100000 in
set_option maxHeartbeats 8000000 in
theorem next_any (R A S : Option Addr) (l : List Ld) (capR n capA m capS : Nat) (f g : Nat → Nat) (W : List Nat) (w : World) (hR : Row w R l) (hC : Cts w A n f) (hS : Sns w S m g)
    (hn : n ≤ 400) (hm : W.length = m) (hmn : m ≤ 400) (hg : ∀ i, i < m → g i < n ∧ W[i]? = some (f (g i))) (hl : l.length ≤ 800) (hlx : ∀ x ∈ l, x.1 < 4611686018427387904) :
    Calls Try.prog 67 #[.slice R l.length capR, .slice A n capA, .slice S m capS] w fun e w' => ∃ B, e = .returned (.slice B (m + l.length / 2) (m + l.length / 2)) ∧ Row w' B (nxt W l) ∧ Below w.heap.size w w' := by
  have hmf : ∀ (fn : Fn) (first cap : Array Value) (w : World), (Instr.makeFunc fn first cap).run Try.prog w = .ok (.func fn first cap) w := fun _ _ _ _ => rfl
  have hq : ((l.length : Nat) : Int).tdiv 2 = ((l.length / 2 : Nat) : Int) := by rw [Int.tdiv_eq_ediv_of_nonneg (by omega)]; omega
  -- the world behind the three boxes
  have hb1 := below_alloc (Below.refl w.heap.size w) (.cells #[.slice R l.length capR] 120)
  have c0 := cell_new w (.slice R l.length capR) 120
  have hs1 : (w.alloc (.cells #[.slice R l.length capR] 120)).heap.size = w.heap.size + 1 := by simp
  generalize hw1 : w.alloc (.cells #[.slice R l.length capR] 120) = w1 at *
  have hb2 := below_alloc (Below.refl w1.heap.size w1) (.cells #[.slice A n capA] 65)
  have c1 := cell_new w1 (.slice A n capA) 65
  have hs2 : (w1.alloc (.cells #[.slice A n capA] 65)).heap.size = w1.heap.size + 1 := by simp
  generalize hw2 : w1.alloc (.cells #[.slice A n capA] 65) = w2 at *
  have hb3 := below_alloc (Below.refl w2.heap.size w2) (.cells #[.slice S m capS] 44)
  have c2 := cell_new w2 (.slice S m capS) 44
  have hs3 : (w2.alloc (.cells #[.slice S m capS] 44)).heap.size = w2.heap.size + 1 := by simp
  generalize hw3 : w2.alloc (.cells #[.slice S m capS] 44) = w3 at *
  rw [hs1] at c1 hb2
  rw [hs2, hs1] at c2 hb3
  have hbw : Below w.heap.size w w3 := (hb1.trans (hb2.mono (by omega))).trans (hb3.mono (by omega))
  have d0 : w3.cell? ⟨w.heap.size, 0, none⟩ = some (.slice R l.length capR) := (hb3.cell (p := ⟨w.heap.size, 0, none⟩) (by show w.heap.size < _; omega)).trans ((hb2.cell (p := ⟨w.heap.size, 0, none⟩) (by show w.heap.size < _; omega)).trans c0)
  have d1 : w3.cell? ⟨w.heap.size + 1, 0, none⟩ = some (.slice A n capA) := (hb3.cell (p := ⟨w.heap.size + 1, 0, none⟩) (by show w.heap.size + 1 < _; omega)).trans c1
  have d2 : w3.cell? ⟨w.heap.size + 2, 0, none⟩ = some (.slice S m capS) := c2
  have hR3 := hR.below (Nat.le_refl _) hbw
  have hC3 := hC.below (Nat.le_refl _) hbw
  have hS3 := hS.below (Nat.le_refl _) hbw
  have hsz : w3.heap.size = w.heap.size + 3 := by omega
  have G1 : Gives 72 #[.pointer (some ⟨w.heap.size + 1, 0, none⟩), .pointer (some ⟨w.heap.size + 2, 0, none⟩)] (bts W) w3 := by
    intro i x hx w4 hb4
    obtain ⟨hi, _⟩ := List.getElem?_eq_some_iff.1 hx
    rw [bts_length] at hi
    have hx2 : x = (f (g i), false) := by
      have h2 := (hg i (by omega)).2
      simp [bts, h2] at hx
      exact hx.symm
    subst hx2
    exact bit_any _ _ A S n capA m capS f g i w4 (hC3.below (Nat.le_refl _) hb4) (hS3.below (Nat.le_refl _) hb4) (by omega) (hg i (by omega)).1 (by omega) (by omega)
      ((hb4.cell (p := ⟨w.heap.size + 1, 0, none⟩) (by show w.heap.size + 1 < _; omega)).trans d1) ((hb4.cell (p := ⟨w.heap.size + 2, 0, none⟩) (by show w.heap.size + 2 < _; omega)).trans d2) (by have := hb4.size; omega)
  have G2 : Gives 73 #[.pointer (some ⟨w.heap.size, 0, none⟩)] (prs l) w3 := by
    intro i x hx w4 hb4
    obtain ⟨hi, _⟩ := List.getElem?_eq_some_iff.1 hx
    rw [prs_length] at hi
    have e1 := List.getElem?_eq_getElem (show 2 * i < l.length by omega)
    have e2 := List.getElem?_eq_getElem (show 2 * i + 1 < l.length by omega)
    rw [prs_get l i (by omega), e1, e2] at hx
    simp only [Option.getD_some, Option.some.injEq] at hx
    subst hx
    exact pair_any _ R capR l i w4 (hR3.below (Nat.le_refl _) hb4) (by omega) (by omega) ((hb4.cell (p := ⟨w.heap.size, 0, none⟩) (by show w.heap.size < _; omega)).trans d0) (by have := hb4.size; omega) _ _ e1 e2 (sum_le_big (hlx _ (List.getElem_mem _)) (hlx _ (List.getElem_mem _)))
  have hM := merge_any (w.heap.size + 1) (w.heap.size + 2) w.heap.size (bts W) (prs l) (by rw [bts_length]; omega) (by rw [prs_length]; omega) w3 G1 G2
  rw [bts_length, prs_length, hm, show (((l.length / 2 : Nat)) : Int) = (l.length : Int) / 2 by omega] at hM
  have HM := Lib.hid hM
  have HB := Lib.hid hbw
  clear hM G1 G2 hR3 hC3 hS3 hb1 hb2 hb3 hbw c0 c1 c2 hR hC hS
  go_enter Try.func67, Try.ntmps67
  go_wp2_with fail
  refine (HM.out).mono ?_
  rintro e w4 ⟨B, rfl, hrow, hb4⟩
  go_wp2
  go_ret
  exact ⟨B, rfl, hrow, below_then' HB.out hb4⟩

/-- No load is heavier than all signs together, so often. -/
theorem row_small (W : List Nat) (hW : ∀ x ∈ W, x < 4294967296) (k : Nat) (hk : k ≤ 30) : ∀ x ∈ rowN W k, x.1 < 4294967296 * 2 ^ k := by
  induction k with
  | zero => simp [rowN]
  | succ k ih =>
    have ih := ih (by omega)
    intro x hx
    have hp := Nat.two_pow_pos k
    have hpp : (2 : Nat) ^ (k + 1) = 2 * 2 ^ k := by rw [Nat.pow_succ]; omega
    rcases (mg_mem _ _ _).1 hx with hx | hx
    · simp only [bts, List.mem_map] at hx
      obtain ⟨y, hy, rfl⟩ := hx
      have := hW y hy
      have : 4294967296 * 1 ≤ 4294967296 * 2 ^ (k + 1) := Nat.mul_le_mul_left _ (Nat.one_le_two_pow)
      simp only
      omega
    · have key : ∀ r : List Ld, (∀ x ∈ r, x.1 < 4294967296 * 2 ^ k) → ∀ x ∈ prs r, x.1 < 4294967296 * 2 ^ (k + 1) := by
        intro r
        induction r using prs.induct with
        | case1 a b r ih2 =>
          intro h x hx
          simp only [prs, List.mem_cons] at hx
          rcases hx with rfl | hx
          · have := h a (by simp); have := h b (by simp)
            rw [hpp]; simp only; omega
          · exact ih2 (fun y hy => h y (by simp [hy])) x hx
        | case2 l hl =>
          match l, hl with
          | [], _ => simp [prs]
          | [_], _ => simp [prs]
          | a :: b :: r, hl => exact absurd rfl (hl a b r)
      exact key _ ih x hx
theorem row_small15 (W : List Nat) (hW : ∀ x ∈ W, x < 4294967296) (k : Nat) (hk : k ≤ 15) : ∀ x ∈ rowN W k, x.1 < 4611686018427387904 := fun x hx => by
  have h := row_small W hW k (by omega) x hx
  have : (2 : Nat) ^ k ≤ 2 ^ 15 := Nat.pow_le_pow_right (by omega) hk
  have : 4294967296 * 2 ^ k ≤ 4294967296 * 32768 := Nat.mul_le_mul_left _ this
  omega

/-- The rows, from the words' last bits on. -/
def RowsIs (w : World) (vals : List Value) (W : List Nat) (k : Nat) : Prop := ∀ j, j < k → ∃ A, vals[j]? = some (.slice A (rowN W (j + 1)).length (rowN W (j + 1)).length) ∧ Row w A (rowN W (j + 1))
theorem RowsIs.below {w w' : World} {vals : List Value} {W : List Nat} {k B : Nat} (h : RowsIs w vals W k) (hB : w.heap.size ≤ B) (hb : Below B w w') : RowsIs w' vals W k := fun j hj => by
  obtain ⟨A, h1, h2⟩ := h j hj
  exact ⟨A, h1, h2.below hB hb⟩
theorem lt_of_cells {w : World} {g : Nat} {o : Obj} (h : w.heap[g]? = some o) : g < w.heap.size := (Array.getElem?_eq_some_iff.1 h).1
/-- What an append to the list of rows leaves: all that is no row of the list stays. -/
theorem grown_rows {w w1 w1' w2 : World} {v : Value} {n : Nat} {vals : List Value} (hO : w1.ownsRow w.heap.size 120 1 v n vals) (hB : Below w.heap.size w w1) (hbb : Below w1.heap.size w1 w1') (hg : w1'.grownBy w2 v.ownBlock) :
    Below w.heap.size w w2 ∧ ∀ A l, Row w1 A l → Row w2 A l := by
  refine ⟨(below_then' hB hbb).grown hg (below_then' hB hbb).size (fun k hk => (hO.lt k hk).1), ?_⟩
  intro A l hr hn
  obtain ⟨b, off, e, hlt, ⟨cs, ht⟩, hc⟩ := (hr.below (Nat.le_refl _) hbb) hn
  have hne : some b ≠ v.ownBlock := by
    intro he
    obtain ⟨_, ⟨rfl, _⟩ | ⟨g, cap, cur, rfl, _, h2, _⟩⟩ := hO
    · simp [Value.ownBlock] at he
    · simp [Value.ownBlock] at he
      subst he
      have h3 := (hbb.block b (lt_of_cells h2)).trans h2
      rw [ht] at h3
      injection h3 with h3
      injection h3 with _ h3 _
      revert h3
      decide
  exact ⟨b, off, e, Nat.lt_of_lt_of_le hlt hg.size, ⟨cs, (hg.block b hlt hne).trans ht⟩, fun i x hx => ⟨hg.cell (hc i x hx).1 hne, hg.cell (hc i x hx).2 hne⟩⟩
theorem info_row : (Try.prog.info? 120).map (fun i => (i.zero, i.size, i.bytes)) = some (some (.slice none 0 0), 1, 24) := by kernel_rfl

set_option maxRecDepth 100000 in
set_option maxHeartbeats 8000000 in
theorem rows_any (A S : Option Addr) (n capA m capS most : Nat) (f g : Nat → Nat) (W : List Nat) (w : World) (hC : Cts w A n f) (hS : Sns w S m g)
    (hn : n ≤ 400) (hm : W.length = m) (hmn : m ≤ 400) (hg : ∀ i, i < m → g i < n ∧ W[i]? = some (f (g i))) (hW : ∀ x ∈ W, x < 4294967296) (hmo : most ≤ 15) :
    Calls Try.prog 55 #[.slice A n capA, .slice S m capS, .int .i64 most] w fun e w' => ∃ v vals, e = .returned v ∧ w'.ownsRow w.heap.size 120 1 v most vals ∧ RowsIs w' vals W most ∧ Below w.heap.size w w' := by
  have HN := Lib.hid (fun (R : Option Addr) (l : List Ld) (capR : Nat) (w1 : World) (hb : Below w.heap.size w w1) (hR : Row w1 R l) (hl : l.length ≤ 800) (hlx : ∀ x ∈ l, x.1 < 4611686018427387904) =>
    next_any R A S l capR n capA m capS f g W w1 hR (hC.below (Nat.le_refl _) hb) (hS.below (Nat.le_refl _) hb) hn hm hmn hg hl hlx)
  have HW := Lib.hid hW
  obtain ⟨i0, hi, hz0, hz1, hz2⟩ := info_parts info_row
  clear hC hS hW hg
  go_enter Try.func55, Try.ntmps55
  go_wp2
  go_loopw [7, 8, 10] (fun v r i wr => ∃ k : Nat, k ≤ most ∧ i = .int .i64 k ∧ ∃ R vals, r = .slice R (rowN W k).length (rowN W k).length ∧ Row wr R (rowN W k) ∧ wr.ownsRow w.heap.size 120 1 v k vals ∧ RowsIs wr vals W k ∧ Below w.heap.size w wr) (fun _ _ i _ => most - (intOf i).toNat)
  case atStart => exact ⟨0, Nat.zero_le _, rfl, none, [], rfl, fun h => by simp [rowN] at h, World.ownsRow_nil _ _ _ _, fun j hj => by omega, Below.refl _ _⟩
  case round =>
    obtain ⟨k, hk, rfl, R, vals, rfl, hrow, hown, hvals, hb⟩ := hrel
    have HR := Lib.hid hrow
    have HO := Lib.hid hown
    have HV := Lib.hid hvals
    have HB := Lib.hid hb
    clear hrow hown hvals hb
    by_cases hlt : k < most
    · have hrl := row_le W k
      have hsm := row_small15 W HW.out k (by omega)
      have hlen := row_len W k
      have HNX := Lib.hid (HN.out R (rowN W k) (rowN W k).length wr HB.out HR.out (by omega) hsm)
      clear hsm
      go_wp2_with fail
      refine (HNX.out).mono ?_
      rintro e w1 ⟨B, rfl, hr1, hb1⟩
      have hO1 := HO.out.kept (row := none) (gob hb1) (Classical.em _)
      have HV1 := Lib.hid (HV.out.below (Nat.le_refl _) hb1)
      have HR1 := Lib.hid hr1
      have HB1 := Lib.hid (below_then' HB.out hb1)
      clear hb1 hr1 HO HV HR HB HNX
      have HO1 := Lib.hid hO1
      have hvl : vals.length = k := by have := hO1.1; omega
      go_wp2_with (at_builtin; refine wpList_append_own _ rfl _ _ 103 rfl w.heap.size 120 i0 (.slice none 0 0) 1 24 Try.underlying103 hi hz0 hz1 hz2 rfl (by decide) _ _ _ rfl (hO1.alloc _) ⟨w1.heap.size, 0, none⟩ 1 1 [.slice B (m + (rowN W k).length / 2) (m + (rowN W k).length / 2)] rfl rfl ?c1 ?c2 ?c3 ?c4 ?c5 ?_)
      case c1 =>
        intro j u hj
        match j, hj with
        | 0, hj => simp at hj; subst hj; simp [Addr.add]
      case c2 => intro u hu; simp at hu; subst hu; rfl
      case c3 => unfold maxLen; omega
      case c4 => omega
      case c5 => have := HB1.out.size; simp; omega
      intro v' w2 hown2 hgrow2 _
      go_wp2
      go_roundw
      case rel =>
        have hbb : Below w1.heap.size w1 (w1.alloc (.cells #[.slice B (m + (rowN W k).length / 2) (m + (rowN W k).length / 2)] 120)) := below_alloc (Below.refl _ _) _
        have hg2 := grown_rows HO1.out HB1.out hbb hgrow2
        refine ⟨k + 1, by omega, by go_num, B, _, by rw [hlen, hm], hg2.2 _ _ HR1.out, hown2, ?_, hg2.1⟩
        intro j hj
        rcases Nat.lt_or_ge j k with hj' | hj'
        · obtain ⟨A', e1, e2⟩ := HV1.out j hj'
          exact ⟨A', by rw [List.getElem?_append_left (by omega)]; exact e1, hg2.2 _ _ e2⟩
        · obtain rfl : j = k := by omega
          exact ⟨B, by rw [List.getElem?_append_right (by omega), hvl]; simp [hlen, hm], hg2.2 _ _ HR1.out⟩
      case measure => simp [intOf]; omega
    · obtain rfl : k = most := by omega
      go_wp2
      go_ret
      exact ⟨_, vals, rfl, HO.out, HV.out, HB.out⟩
end Go.Proofs.Ytljekdnjdcfliaa
