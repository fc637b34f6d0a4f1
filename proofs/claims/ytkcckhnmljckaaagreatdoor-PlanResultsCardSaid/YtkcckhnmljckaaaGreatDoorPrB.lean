/-
  Plan: actions as the document's; how many there are of each kind, on both sides.
-/
import Derived.Test.YtkcckhnmljckaaaGreatDoorPrA
import Derived.Lib.LazyBuf
namespace Go.Proofs.YtkcckhnmljckaaaGreatDoor
set_option maxRecDepth 100000
set_option linter.unusedSimpArgs false
set_option linter.unusedVariables false
open Go.RowKit Go.Joins Go.Deep
theorem parts_ract : (Tryz.prog.info? 48).map (fun i => (i.zero, i.size, i.bytes)) = some (some (.agg #[.int .i64 0, .int .i64 0, .int .i64 0]), 3, 24) := by kernel_rfl
theorem partsA : ∃ i0, Tryz.prog.info? 48 = some i0 ∧ i0.zero = some (.agg #[.int .i64 0, .int .i64 0, .int .i64 0]) ∧ i0.size = 3 ∧ i0.bytes = 24 := by
  have h := parts_ract
  cases hq : Tryz.prog.info? 48 with
  | none => rw [hq] at h; cases h
  | some i =>
    rw [hq] at h
    simp only [Option.map_some, Option.some.injEq, Prod.mk.injEq] at h
    exact ⟨i, rfl, h.1, h.2.1, h.2.2⟩
def RowA (w wr : World) (v : Value) (o : List Act3) : Prop := wr.ownsRow w.heap.size 48 3 v o.length (cellsA o) ∧ Below w.heap.size w wr
theorem RowA.below {w wr w' : World} {v : Value} {o : List Act3} (h : RowA w wr v o) (hb : Below wr.heap.size wr w') : RowA w w' v o := by
  refine ⟨h.1.kept (row := none) ⟨hb.os, hb.tape, hb.output, hb.size, fun i hi _ => hb.block i hi⟩ ?_, below_then h.2 hb⟩
  cases v.ownBlock with
  | none => exact .inl rfl
  | some g => exact .inr (by simp)
theorem row_sliceA {w : World} {B n : Nat} {v : Value} {T : TypeId} {xs : List Value} (h : w.ownsRow B T 3 v n xs) : ∃ A c, v = .slice A n c := by
  rcases h.2 with ⟨he, h0⟩ | ⟨g2, cap2, cur, he, _⟩
  · exact ⟨none, 0, by rw [he, h0]⟩
  · exact ⟨_, cap2, he⟩
theorem act_news (w : World) (x : Act3) (T : TypeId) : ∀ j u, x.cellsL[j]? = some u → (w.alloc (.cells x.cells T)).cell? ((⟨w.heap.size, 0, none⟩ : Addr).add j) = some u := by
  intro j u hj
  rw [Addr.add_mid, Nat.zero_add]
  have hx := heap_alloc_new w (.cells x.cells T)
  rw [cell_of_row _ _ _ _ _ _ hx, ← Array.getElem?_toList]
  exact hj
theorem act_ones (x : Act3) : ∀ u ∈ x.cellsL, u.oneCell' = true := fun u hu => by
  simp only [Act3.cellsL, List.mem_cons, List.not_mem_nil, or_false] at hu
  rcases hu with rfl | rfl | rfl <;> rfl
set_option maxHeartbeats 8000000 in
theorem to24_any (A : Option Addr) (c : Nat) (l : List Act3) (w : World) (hl : l.length ≤ 1000) (hA : Acts3 w A l) :
    Calls Tryz.prog 9 #[.slice A l.length c] w fun e w' => ∃ A' c', e = .returned (.slice A' l.length c') ∧ Acts3 w' A' l ∧ Below w.heap.size w w' := by
  have hia := info_act
  obtain ⟨i0, hi, hz0, hz1, hz2⟩ := partsA
  have HA := Lib.hid hA
  clear hA
  go_enter Tryz.func9, Tryz.ntmps9
  go_wp2_with fail
  go_loopw [3, 5, 8] (fun v3 _ v8 wr => ∃ (k : Nat) (A7 : Option Addr) (c7 : Nat), k ≤ l.length ∧ v8 = .int .i64 (k : Nat) ∧ v3 = .slice A7 k c7 ∧ Hid ((l.take k).length = k) ∧ Hid (RowA w wr (.slice A7 k c7) (l.take k))) (fun _ _ v _ => l.length - (intOf v).toNat)
  case atStart => exact ⟨0, none, 0, Nat.zero_le _, rfl, rfl, rfl, World.ownsRow_nil _ _ _ _, Below.refl _ _⟩
  case round =>
    obtain ⟨k, A7, c7, hk, rfl, rfl, HOL, HRO⟩ := hrel
    by_cases hlt : k < l.length
    · have hd : decide ((k : Int) < (l.length : Int)) = true := decide_eq_true (by omega)
      obtain ⟨b, off, rfl, hbl, hcc⟩ := (HA.out.below HRO.out.2) (by omega)
      obtain ⟨c0, c1, c2⟩ := hcc k l[k] (List.getElem?_eq_getElem hlt)
      have HTK : Hid (l.take (k + 1) = l.take k ++ [l[k]]) := List.take_succ_eq_append_getElem hlt
      have hbx := below_alP wr (.cells l[k].cells 47)
      have hx0 := heap_alloc_new wr (.cells l[k].cells 47)
      have HR1 := Lib.hid (HRO.out.below hbx)
      clear hcc hbx
      obtain ⟨ac, hac⟩ : ∃ ac, ac = l[k] := ⟨_, rfl⟩
      rw [← hac] at c0 c1 c2 HTK hx0 HR1
      clear hac
      have HAC : Hid (∀ w1, RowA w w1 (.slice A7 k c7) (l.take k) → RowA w (w1.alloc (.cells ac.cells 48)) (.slice A7 k c7) (l.take k)) := fun w1 h => h.below (below_alP w1 _)
      have HNW : Hid (∀ w1 : World, ∀ j u, ac.cellsL[j]? = some u → (w1.alloc (.cells ac.cells 48)).cell? ((⟨w1.heap.size, 0, none⟩ : Addr).add j) = some u) := fun w1 => act_news w1 ac _
      have HON := Lib.hid (act_ones ac)
      obtain ⟨x0, x1, x2⟩ := ac
      simp only [Act3.cells, Act3.cellsL] at hx0 HR1 HAC HNW HON
      dsimp only at c0 c1 c2
      have z0 := (cell_of_row _ _ 0 _ _ _ hx0).trans (show _ = some (Value.int .i64 x0) from rfl)
      have z1 := (cell_of_row _ _ 1 _ _ _ hx0).trans (show _ = some (Value.int .i64 x1) from rfl)
      have z2 := (cell_of_row _ _ 2 _ _ _ hx0).trans (show _ = some (Value.int .i64 x2) from rfl)
      obtain ⟨o, ho⟩ : ∃ o, o = l.take k := ⟨_, rfl⟩
      rw [← ho] at HTK HR1 HOL HAC
      have hk62 : (k : Int) + 1 < 9223372036854775807 := by omega
      clear ho hx0 HRO
      go_upto_region 5 with fail
      generalize hg : wr.heap.size = g at *
      clear hg
      generalize wr.alloc (.cells #[.int .i64 x0, .int .i64 x1, .int .i64 x2] 47) = w1 at *
      have HRW := Lib.hid (HAC.out w1 HR1.out)
      have HNW := Lib.hid (HNW.out w1)
      clear HAC
      go_wp2_with (at_builtin; refine wpList_append_own_at _ rfl (.tmp 12) (.tmp 14) _ rfl w.heap.size 48 i0 (.agg #[.int .i64 0, .int .i64 0, .int .i64 0]) 3 24 Tryz.underlying29 hi hz0 hz1 hz2 rfl (by decide) (.slice A7 k c7) k (cellsA o) rfl (by have h := HRW.out.1; rw [HOL.out] at h; exact h) ⟨w1.heap.size, 0, none⟩ 1 1 [.int .i64 x0, .int .i64 x1, .int .i64 x2] rfl rfl ?c1 ?c2 ?c3 ?c4 ?c5 ?_)
      case c1 => exact HNW.out
      case c2 => exact HON.out
      case c3 => unfold maxLen; omega
      case c4 => omega
      case c5 => exact HRW.out.2.size
      intro v8 w8 hown hgrow _ _
      obtain ⟨A8, c8, rfl⟩ := row_sliceA hown
      have HR9 : Hid ((l.take (k + 1)).length = k + 1 ∧ RowA w w8 (.slice A8 (k + 1) c8) (l.take (k + 1))) := by
        show _ ∧ _
        rw [HTK.out, List.length_append, HOL.out]
        refine ⟨rfl, ?_, HRW.out.2.grown hgrow HRW.out.2.size (fun j hj => (HRW.out.1.lt j hj).1)⟩
        rw [List.length_append, cellsA_app, HOL.out]
        exact hown
      clear hown hgrow HRW HNW HON HTK HR1
      go_wp2_with fail
      go_roundw
      case rel => exact ⟨k + 1, A8, c8, by omega, by go_num, rfl, HR9.out.1, HR9.out.2⟩
      case measure => simp [intOf]; omega
    · obtain rfl : k = l.length := by omega
      have hd : decide ((l.length : Int) < (l.length : Int)) = false := decide_eq_false (by omega)
      rw [List.take_length] at HRO
      have HIT : Hid (Acts3 wr A7 l) := acts_of_own (cap := c7) HRO.out.1
      have HB := Lib.hid HRO.out.2
      clear HRO
      go_wp2_with fail
      go_ret
      exact ⟨A7, c7, rfl, HIT.out, HB.out⟩
/-- Five numbers, the first 0. -/
def cv5 (a b c d : Nat) : Array Value := #[.int .i64 0, .int .i64 (a : Nat), .int .i64 (b : Nat), .int .i64 (c : Nat), .int .i64 (d : Nat)]
theorem cv5_one (a b c d : Nat) : (cv5 a b c d).all (·.oneCell') = true := by simp [cv5, Value.oneCell']
theorem info_five : (Tryz.prog.info? 31).map (·.size) = some 5 := by kernel_rfl
theorem zero_five : ∀ w : World, (zeroValue 31).run Tryz.prog w = .ok (.agg (cv5 0 0 0 0)) w := fun w => by kernel_rfl
/-- The counts of the first k actions. -/
def CntIs (l : List Act3) (k a b c d : Nat) : Prop := cntK (l.take k) 1 = a ∧ cntK (l.take k) 2 = b ∧ cntK (l.take k) 3 = c ∧ cntK (l.take k) 4 = d ∧ a ≤ k ∧ b ≤ k ∧ c ≤ k ∧ d ≤ k
theorem cntIs_step {l : List Act3} {k a b c d : Nat} (h : CntIs l k a b c d) (hk : k < l.length) : CntIs l (k + 1) (a + (if l[k].k = 1 then 1 else 0)) (b + (if l[k].k = 2 then 1 else 0)) (c + (if l[k].k = 3 then 1 else 0)) (d + (if l[k].k = 4 then 1 else 0)) := by
  obtain ⟨h1, h2, h3, h4, h5, h6, h7, h8⟩ := h
  refine ⟨by rw [cntK_snoc l k hk, h1], by rw [cntK_snoc l k hk, h2], by rw [cntK_snoc l k hk, h3], by rw [cntK_snoc l k hk, h4], ?_, ?_, ?_, ?_⟩ <;> split <;> omega
theorem cntIs_end {l : List Act3} {a b c d : Nat} (h : CntIs l l.length a b c d) : cv5 a b c d = cntV l := by
  obtain ⟨h1, h2, h3, h4, _⟩ := h
  rw [List.take_length] at h1 h2 h3 h4
  unfold cntV cv5
  rw [h1, h2, h3, h4]
theorem cv5_set {w : World} {g a b c d : Nat} (h : w.heap[g]? = some (.cells (cv5 a b c d) 31 (0, 0))) :
    (w.setCell ⟨g, 1, none⟩ (.int .i64 ((a + 1 : Nat) : Int))).heap[g]? = some (.cells (cv5 (a + 1) b c d) 31 (0, 0)) ∧ (w.setCell ⟨g, 2, none⟩ (.int .i64 ((b + 1 : Nat) : Int))).heap[g]? = some (.cells (cv5 a (b + 1) c d) 31 (0, 0)) ∧
    (w.setCell ⟨g, 3, none⟩ (.int .i64 ((c + 1 : Nat) : Int))).heap[g]? = some (.cells (cv5 a b (c + 1) d) 31 (0, 0)) ∧ (w.setCell ⟨g, 4, none⟩ (.int .i64 ((d + 1 : Nat) : Int))).heap[g]? = some (.cells (cv5 a b c (d + 1)) 31 (0, 0)) :=
  ⟨(heap_setCell_same w g 1 _ _ _ h).trans rfl, (heap_setCell_same w g 2 _ _ _ h).trans rfl, (heap_setCell_same w g 3 _ _ _ h).trans rfl, (heap_setCell_same w g 4 _ _ _ h).trans rfl⟩
set_option maxHeartbeats 16000000 in
theorem count24_any (A : Option Addr) (c0 : Nat) (l : List Act3) (w : World) (hl : l.length ≤ 1000) (hA : Acts3 w A l) :
    Calls Tryz.prog 10 #[.slice A l.length c0] w fun e w' => e = .returned (.agg (cntV l)) ∧ Below w.heap.size w w' := by
  have hia := info_act
  have hz5 := zero_five
  have HA := Lib.hid hA
  clear hA
  have hx0 := heap_alloc_new w (.cells (cv5 0 0 0 0) 31)
  have hb0 := below_alP w (.cells (cv5 0 0 0 0) 31)
  have hx1 := heap_alloc_new (w.alloc (.cells (cv5 0 0 0 0) 31)) (.cells (cv5 0 0 0 0) 31)
  have hb1 := below_alP (w.alloc (.cells (cv5 0 0 0 0) 31)) (.cells (cv5 0 0 0 0) 31)
  rw [show (w.alloc (.cells (cv5 0 0 0 0) 31)).heap.size = w.heap.size + 1 from by simp only [World.alloc, Array.size_push]] at hx1
  have HX0 := Lib.hid ((hb1.block _ (lt_of_heapP hx0)).trans hx0)
  have HX1 := Lib.hid hx1
  have HB0 := Lib.hid (below_then hb0 hb1)
  clear hx0 hx1 hb0 hb1
  go_enter Tryz.func10, Tryz.ntmps10
  go_upto_region 2 with fail
  generalize hw1 : (w.alloc (.cells (cv5 0 0 0 0) 31)).alloc (.cells (cv5 0 0 0 0) 31) = w1 at *
  have HG : Hid (w.heap.size = w.heap.size) := rfl
  go_wp2_with fail
  go_loopw [5, 8] (fun _ v wr => ∃ (k a b c d : Nat), k ≤ l.length ∧ v = .int .i64 (k : Nat) ∧ Hid (CntIs l k a b c d) ∧ Hid (wr.heap[w.heap.size]? = some (.cells (cv5 0 0 0 0) 31 (0, 0))) ∧ Hid (wr.heap[w.heap.size + 1]? = some (.cells (cv5 a b c d) 31 (0, 0))) ∧ Hid (Below w.heap.size w wr)) (fun _ v _ => l.length - (intOf v).toNat)
  case atStart => exact ⟨0, 0, 0, 0, 0, Nat.zero_le _, rfl, ⟨rfl, rfl, rfl, rfl, Nat.le_refl _, Nat.le_refl _, Nat.le_refl _, Nat.le_refl _⟩, HX0.out, HX1.out, HB0.out⟩
  case round =>
    obtain ⟨k, a, b, c, d, hk, rfl, HC, HY0, HY1, HB⟩ := hrel
    clear HX0 HX1 HB0 hz5
    by_cases hlt : k < l.length
    · have hd : decide ((k : Int) < (l.length : Int)) = true := decide_eq_true (by omega)
      obtain ⟨bl, off, rfl, hbl, hcc⟩ := (HA.out.below HB.out) (by omega)
      obtain ⟨c0, c1, c2⟩ := hcc k l[k] (List.getElem?_eq_getElem hlt)
      have HST := Lib.hid (cntIs_step HC.out hlt)
      have HCB : Hid (a ≤ 1000 ∧ b ≤ 1000 ∧ c ≤ 1000 ∧ d ≤ 1000) := by
        obtain ⟨_, _, _, _, h5, h6, h7, h8⟩ := HC.out
        exact ⟨by omega, by omega, by omega, by omega⟩
      have hbx := below_alP wr (.cells l[k].cells 47)
      have hx0 := heap_alloc_new wr (.cells l[k].cells 47)
      have HB2 := Lib.hid (below_then HB.out hbx)
      have HZ0 := Lib.hid ((hbx.block _ (lt_of_heapP HY0.out)).trans HY0.out)
      have HZ1 := Lib.hid ((hbx.block _ (lt_of_heapP HY1.out)).trans HY1.out)
      clear hcc hbx HY0 HY1 HB HC
      obtain ⟨ac, hac⟩ : ∃ ac, ac = l[k] := ⟨_, rfl⟩
      rw [← hac] at c0 c1 c2 hx0 HST HB2 HZ0 HZ1
      clear hac
      obtain ⟨x0, x1, x2⟩ := ac
      simp only [Act3.cells] at hx0 HB2 HZ0 HZ1
      dsimp only at c0 c1 c2 HST
      have z0 := (cell_of_row _ _ 0 _ _ _ hx0).trans (show _ = some (Value.int .i64 x0) from rfl)
      have hk62 : (k : Int) + 1 < 9223372036854775807 := by omega
      clear hx0
      go_upto_region 5 with fail
      generalize hg : wr.heap.size = g at *
      clear hg
      generalize wr.alloc (.cells #[.int .i64 x0, .int .i64 x1, .int .i64 x2] 47) = w2 at *
      have q1 := (cell_of_row _ _ 1 _ _ _ HZ1.out).trans (show _ = some (Value.int .i64 (a : Nat)) from rfl)
      have q2 := (cell_of_row _ _ 2 _ _ _ HZ1.out).trans (show _ = some (Value.int .i64 (b : Nat)) from rfl)
      have q3 := (cell_of_row _ _ 3 _ _ _ HZ1.out).trans (show _ = some (Value.int .i64 (c : Nat)) from rfl)
      have q4 := (cell_of_row _ _ 4 _ _ _ HZ1.out).trans (show _ = some (Value.int .i64 (d : Nat)) from rfl)
      have f1 := frozen_of_row _ _ 1 _ _ HZ1.out
      have f2 := frozen_of_row _ _ 2 _ _ HZ1.out
      have f3 := frozen_of_row _ _ 3 _ _ HZ1.out
      have f4 := frozen_of_row _ _ 4 _ _ HZ1.out
      have HSET := Lib.hid (cv5_set HZ1.out)
      have a62 : (a : Int) + 1 < 9223372036854775807 := by have := HCB.out.1; omega
      have b62 : (b : Int) + 1 < 9223372036854775807 := by have := HCB.out.2.1; omega
      have c62 : (c : Int) + 1 < 9223372036854775807 := by have := HCB.out.2.2.1; omega
      have d62 : (d : Int) + 1 < 9223372036854775807 := by have := HCB.out.2.2.2; omega
      clear HCB
      by_cases h1 : x0 = 1
      · subst h1
        have HS2 : Hid (CntIs l (k + 1) (a + 1) b c d) := HST.out
        have HW : Hid ((w2.setCell ⟨w.heap.size + 1, 1, none⟩ (.int .i64 ((a + 1 : Nat) : Int))).heap[w.heap.size + 1]? = some (.cells (cv5 (a + 1) b c d) 31 (0, 0))) := HSET.out.1
        have HW0 : Hid ((w2.setCell ⟨w.heap.size + 1, 1, none⟩ (.int .i64 ((a + 1 : Nat) : Int))).heap[w.heap.size]? = some (.cells (cv5 0 0 0 0) 31 (0, 0))) := (Below.heap_setCell _ _ _ _ (by show w.heap.size ≠ w.heap.size + 1; omega)).trans HZ0.out
        have HWB := Lib.hid (HB2.out.setCell (p := ⟨w.heap.size + 1, 1, none⟩) (Nat.le_succ _) (.int .i64 ((a + 1 : Nat) : Int)))
        have hv : IntKind.i64.wrap ((a : Int) + 1) = ((a + 1 : Nat) : Int) := by rw [IntKind.wrap_i64]; omega
        clear HST HSET HZ0 HZ1 HB2
        go_wp2_with fail
        go_roundw
        case rel => exact ⟨k + 1, a + 1, b, c, d, by omega, by go_num, HS2, HW0, HW, HWB⟩
        case measure => simp [intOf]; omega
      have n1 : (x0 == 1) = false := beq_eq_false_iff_ne.2 h1
      by_cases h2 : x0 = 2
      · subst h2
        have HS2 : Hid (CntIs l (k + 1) a (b + 1) c d) := HST.out
        have HW : Hid ((w2.setCell ⟨w.heap.size + 1, 2, none⟩ (.int .i64 ((b + 1 : Nat) : Int))).heap[w.heap.size + 1]? = some (.cells (cv5 a (b + 1) c d) 31 (0, 0))) := HSET.out.2.1
        have HW0 : Hid ((w2.setCell ⟨w.heap.size + 1, 2, none⟩ (.int .i64 ((b + 1 : Nat) : Int))).heap[w.heap.size]? = some (.cells (cv5 0 0 0 0) 31 (0, 0))) := (Below.heap_setCell _ _ _ _ (by show w.heap.size ≠ w.heap.size + 1; omega)).trans HZ0.out
        have HWB := Lib.hid (HB2.out.setCell (p := ⟨w.heap.size + 1, 2, none⟩) (Nat.le_succ _) (.int .i64 ((b + 1 : Nat) : Int)))
        have hv : IntKind.i64.wrap ((b : Int) + 1) = ((b + 1 : Nat) : Int) := by rw [IntKind.wrap_i64]; omega
        clear HST HSET HZ0 HZ1 HB2
        go_wp2_with fail
        go_roundw
        case rel => exact ⟨k + 1, a, b + 1, c, d, by omega, by go_num, HS2, HW0, HW, HWB⟩
        case measure => simp [intOf]; omega
      have n2 : (x0 == 2) = false := beq_eq_false_iff_ne.2 h2
      by_cases h3 : x0 = 3
      · subst h3
        have HS2 : Hid (CntIs l (k + 1) a b (c + 1) d) := HST.out
        have HW : Hid ((w2.setCell ⟨w.heap.size + 1, 3, none⟩ (.int .i64 ((c + 1 : Nat) : Int))).heap[w.heap.size + 1]? = some (.cells (cv5 a b (c + 1) d) 31 (0, 0))) := HSET.out.2.2.1
        have HW0 : Hid ((w2.setCell ⟨w.heap.size + 1, 3, none⟩ (.int .i64 ((c + 1 : Nat) : Int))).heap[w.heap.size]? = some (.cells (cv5 0 0 0 0) 31 (0, 0))) := (Below.heap_setCell _ _ _ _ (by show w.heap.size ≠ w.heap.size + 1; omega)).trans HZ0.out
        have HWB := Lib.hid (HB2.out.setCell (p := ⟨w.heap.size + 1, 3, none⟩) (Nat.le_succ _) (.int .i64 ((c + 1 : Nat) : Int)))
        have hv : IntKind.i64.wrap ((c : Int) + 1) = ((c + 1 : Nat) : Int) := by rw [IntKind.wrap_i64]; omega
        clear HST HSET HZ0 HZ1 HB2
        go_wp2_with fail
        go_roundw
        case rel => exact ⟨k + 1, a, b, c + 1, d, by omega, by go_num, HS2, HW0, HW, HWB⟩
        case measure => simp [intOf]; omega
      have n3 : (x0 == 3) = false := beq_eq_false_iff_ne.2 h3
      by_cases h4 : x0 = 4
      · subst h4
        have HS2 : Hid (CntIs l (k + 1) a b c (d + 1)) := HST.out
        have HW : Hid ((w2.setCell ⟨w.heap.size + 1, 4, none⟩ (.int .i64 ((d + 1 : Nat) : Int))).heap[w.heap.size + 1]? = some (.cells (cv5 a b c (d + 1)) 31 (0, 0))) := HSET.out.2.2.2
        have HW0 : Hid ((w2.setCell ⟨w.heap.size + 1, 4, none⟩ (.int .i64 ((d + 1 : Nat) : Int))).heap[w.heap.size]? = some (.cells (cv5 0 0 0 0) 31 (0, 0))) := (Below.heap_setCell _ _ _ _ (by show w.heap.size ≠ w.heap.size + 1; omega)).trans HZ0.out
        have HWB := Lib.hid (HB2.out.setCell (p := ⟨w.heap.size + 1, 4, none⟩) (Nat.le_succ _) (.int .i64 ((d + 1 : Nat) : Int)))
        have hv : IntKind.i64.wrap ((d : Int) + 1) = ((d + 1 : Nat) : Int) := by rw [IntKind.wrap_i64]; omega
        clear HST HSET HZ0 HZ1 HB2
        go_wp2_with fail
        go_roundw
        case rel => exact ⟨k + 1, a, b, c, d + 1, by omega, by go_num, HS2, HW0, HW, HWB⟩
        case measure => simp [intOf]; omega
      have n4 : (x0 == 4) = false := beq_eq_false_iff_ne.2 h4
      have HS2 : Hid (CntIs l (k + 1) a b c d) := by have h := HST.out; rw [if_neg h1, if_neg h2, if_neg h3, if_neg h4] at h; exact h
      clear HST HSET
      by_cases hlo : (1 : Int) ≤ x0
      · have g1 : decide ((1 : Int) ≤ x0) = true := decide_eq_true hlo
        have g2 : decide (x0 ≤ (4 : Int)) = false := decide_eq_false (by omega)
        clear hlo
        go_wp2_with fail
        go_roundw
        case rel => exact ⟨k + 1, a, b, c, d, by omega, by go_num, HS2, HZ0, HZ1, HB2⟩
        case measure => simp [intOf]; omega
      · have g1 : decide ((1 : Int) ≤ x0) = false := decide_eq_false hlo
        clear hlo
        go_wp2_with fail
        go_roundw
        case rel => exact ⟨k + 1, a, b, c, d, by omega, by go_num, HS2, HZ0, HZ1, HB2⟩
        case measure => simp [intOf]; omega
    · obtain rfl : k = l.length := by omega
      have hd : decide ((l.length : Int) < (l.length : Int)) = false := decide_eq_false (by omega)
      have HE := Lib.hid (cntIs_end HC.out)
      clear HC HA
      rw [HE.out] at HY1
      go_wp2_with (first | (refine wpList_load_row rfl 31 (.tmp 3) rfl (w.heap.size + 1) rfl 31 _ (0, 0) _ HY1.out Tryz.underlying31 rfl info_five ?_) | (refine wpList_store_row rfl 31 (.tmp 2) (.tmp 27) rfl w.heap.size (cntV l) rfl rfl 31 (cv5 0 0 0 0) HY0.out info_five rfl (cv5_one _ _ _ _) ?_))
      exact bodyPost_ret (results_cell_row rfl _ _ w.heap.size 31 (cntV l) (0, 0) _ rfl (setRow_heap wr w.heap.size _ (cntV l) _ _ HY0.out) Tryz.underlying31 rfl info_five) rfl ⟨rfl, below_setRow HB.out (Nat.le_refl _) _⟩
set_option maxHeartbeats 16000000 in
theorem rcount24_any (A : Option Addr) (c0 : Nat) (l : List Act3) (w : World) (hl : l.length ≤ 1000) (hA : Acts3 w A l) :
    Calls Tryz.prog 11 #[.slice A l.length c0] w fun e w' => e = .returned (.agg (cntV l)) ∧ Below w.heap.size w w' := by
  have hia := info_ract
  have hz5 := zero_five
  have HA := Lib.hid hA
  clear hA
  have hx0 := heap_alloc_new w (.cells (cv5 0 0 0 0) 31)
  have hb0 := below_alP w (.cells (cv5 0 0 0 0) 31)
  have hx1 := heap_alloc_new (w.alloc (.cells (cv5 0 0 0 0) 31)) (.cells (cv5 0 0 0 0) 31)
  have hb1 := below_alP (w.alloc (.cells (cv5 0 0 0 0) 31)) (.cells (cv5 0 0 0 0) 31)
  rw [show (w.alloc (.cells (cv5 0 0 0 0) 31)).heap.size = w.heap.size + 1 from by simp only [World.alloc, Array.size_push]] at hx1
  have HX0 := Lib.hid ((hb1.block _ (lt_of_heapP hx0)).trans hx0)
  have HX1 := Lib.hid hx1
  have HB0 := Lib.hid (below_then hb0 hb1)
  clear hx0 hx1 hb0 hb1
  go_enter Tryz.func11, Tryz.ntmps11
  go_upto_region 2 with fail
  generalize hw1 : (w.alloc (.cells (cv5 0 0 0 0) 31)).alloc (.cells (cv5 0 0 0 0) 31) = w1 at *
  have HG : Hid (w.heap.size = w.heap.size) := rfl
  go_wp2_with fail
  go_loopw [5, 6, 9] (fun _ _ v wr => ∃ (k a b c d : Nat), k ≤ l.length ∧ v = .int .i64 (k : Nat) ∧ Hid (CntIs l k a b c d) ∧ Hid (wr.heap[w.heap.size]? = some (.cells (cv5 0 0 0 0) 31 (0, 0))) ∧ Hid (wr.heap[w.heap.size + 1]? = some (.cells (cv5 a b c d) 31 (0, 0))) ∧ Hid (Below w.heap.size w wr)) (fun _ _ v _ => l.length - (intOf v).toNat)
  case atStart => exact ⟨0, 0, 0, 0, 0, Nat.zero_le _, rfl, ⟨rfl, rfl, rfl, rfl, Nat.le_refl _, Nat.le_refl _, Nat.le_refl _, Nat.le_refl _⟩, HX0.out, HX1.out, HB0.out⟩
  case round =>
    obtain ⟨k, a, b, c, d, hk, rfl, HC, HY0, HY1, HB⟩ := hrel
    clear HX0 HX1 HB0 hz5
    by_cases hlt : k < l.length
    · have hd : decide ((k : Int) < (l.length : Int)) = true := decide_eq_true (by omega)
      obtain ⟨bl, off, rfl, hbl, hcc⟩ := (HA.out.below HB.out) (by omega)
      obtain ⟨c0, c1, c2⟩ := hcc k l[k] (List.getElem?_eq_getElem hlt)
      have HST := Lib.hid (cntIs_step HC.out hlt)
      have HCB : Hid (a ≤ 1000 ∧ b ≤ 1000 ∧ c ≤ 1000 ∧ d ≤ 1000) := by
        obtain ⟨_, _, _, _, h5, h6, h7, h8⟩ := HC.out
        exact ⟨by omega, by omega, by omega, by omega⟩
      have hbx := below_alP wr (.cells l[k].cells 48)
      have hx0 := heap_alloc_new wr (.cells l[k].cells 48)
      have HB2 := Lib.hid (below_then HB.out hbx)
      have HZ0 := Lib.hid ((hbx.block _ (lt_of_heapP HY0.out)).trans HY0.out)
      have HZ1 := Lib.hid ((hbx.block _ (lt_of_heapP HY1.out)).trans HY1.out)
      clear hcc hbx HY0 HY1 HB HC
      obtain ⟨ac, hac⟩ : ∃ ac, ac = l[k] := ⟨_, rfl⟩
      rw [← hac] at c0 c1 c2 hx0 HST HB2 HZ0 HZ1
      clear hac
      obtain ⟨x0, x1, x2⟩ := ac
      simp only [Act3.cells] at hx0 HB2 HZ0 HZ1
      dsimp only at c0 c1 c2 HST
      have z0 := (cell_of_row _ _ 0 _ _ _ hx0).trans (show _ = some (Value.int .i64 x0) from rfl)
      have hk62 : (k : Int) + 1 < 9223372036854775807 := by omega
      clear hx0
      go_upto_region 5 with fail
      generalize hg : wr.heap.size = g at *
      clear hg
      generalize wr.alloc (.cells #[.int .i64 x0, .int .i64 x1, .int .i64 x2] 48) = w2 at *
      have q1 := (cell_of_row _ _ 1 _ _ _ HZ1.out).trans (show _ = some (Value.int .i64 (a : Nat)) from rfl)
      have q2 := (cell_of_row _ _ 2 _ _ _ HZ1.out).trans (show _ = some (Value.int .i64 (b : Nat)) from rfl)
      have q3 := (cell_of_row _ _ 3 _ _ _ HZ1.out).trans (show _ = some (Value.int .i64 (c : Nat)) from rfl)
      have q4 := (cell_of_row _ _ 4 _ _ _ HZ1.out).trans (show _ = some (Value.int .i64 (d : Nat)) from rfl)
      have f1 := frozen_of_row _ _ 1 _ _ HZ1.out
      have f2 := frozen_of_row _ _ 2 _ _ HZ1.out
      have f3 := frozen_of_row _ _ 3 _ _ HZ1.out
      have f4 := frozen_of_row _ _ 4 _ _ HZ1.out
      have HSET := Lib.hid (cv5_set HZ1.out)
      have a62 : (a : Int) + 1 < 9223372036854775807 := by have := HCB.out.1; omega
      have b62 : (b : Int) + 1 < 9223372036854775807 := by have := HCB.out.2.1; omega
      have c62 : (c : Int) + 1 < 9223372036854775807 := by have := HCB.out.2.2.1; omega
      have d62 : (d : Int) + 1 < 9223372036854775807 := by have := HCB.out.2.2.2; omega
      clear HCB
      by_cases h1 : x0 = 1
      · subst h1
        have HS2 : Hid (CntIs l (k + 1) (a + 1) b c d) := HST.out
        have HW : Hid ((w2.setCell ⟨w.heap.size + 1, 1, none⟩ (.int .i64 ((a + 1 : Nat) : Int))).heap[w.heap.size + 1]? = some (.cells (cv5 (a + 1) b c d) 31 (0, 0))) := HSET.out.1
        have HW0 : Hid ((w2.setCell ⟨w.heap.size + 1, 1, none⟩ (.int .i64 ((a + 1 : Nat) : Int))).heap[w.heap.size]? = some (.cells (cv5 0 0 0 0) 31 (0, 0))) := (Below.heap_setCell _ _ _ _ (by show w.heap.size ≠ w.heap.size + 1; omega)).trans HZ0.out
        have HWB := Lib.hid (HB2.out.setCell (p := ⟨w.heap.size + 1, 1, none⟩) (Nat.le_succ _) (.int .i64 ((a + 1 : Nat) : Int)))
        have hv : IntKind.i64.wrap ((a : Int) + 1) = ((a + 1 : Nat) : Int) := by rw [IntKind.wrap_i64]; omega
        clear HST HSET HZ0 HZ1 HB2
        go_wp2_with fail
        refine wp_loop_rounds 5 ?_
        rw [rounds_succ]
        go_wp2_with fail
        rw [rounds_succ]
        go_wp2_with fail
        rw [rounds_succ]
        go_wp2_with fail
        rw [rounds_succ]
        go_wp2_with fail
        rw [rounds_succ]
        go_wp2_with fail
        go_roundw
        case rel => exact ⟨k + 1, a + 1, b, c, d, by omega, by go_num, HS2, HW0, HW, HWB⟩
        case measure => simp [intOf]; omega
      have n1 : (x0 == 1) = false := beq_eq_false_iff_ne.2 h1
      by_cases h2 : x0 = 2
      · subst h2
        have HS2 : Hid (CntIs l (k + 1) a (b + 1) c d) := HST.out
        have HW : Hid ((w2.setCell ⟨w.heap.size + 1, 2, none⟩ (.int .i64 ((b + 1 : Nat) : Int))).heap[w.heap.size + 1]? = some (.cells (cv5 a (b + 1) c d) 31 (0, 0))) := HSET.out.2.1
        have HW0 : Hid ((w2.setCell ⟨w.heap.size + 1, 2, none⟩ (.int .i64 ((b + 1 : Nat) : Int))).heap[w.heap.size]? = some (.cells (cv5 0 0 0 0) 31 (0, 0))) := (Below.heap_setCell _ _ _ _ (by show w.heap.size ≠ w.heap.size + 1; omega)).trans HZ0.out
        have HWB := Lib.hid (HB2.out.setCell (p := ⟨w.heap.size + 1, 2, none⟩) (Nat.le_succ _) (.int .i64 ((b + 1 : Nat) : Int)))
        have hv : IntKind.i64.wrap ((b : Int) + 1) = ((b + 1 : Nat) : Int) := by rw [IntKind.wrap_i64]; omega
        clear HST HSET HZ0 HZ1 HB2
        go_wp2_with fail
        refine wp_loop_rounds 5 ?_
        rw [rounds_succ]
        go_wp2_with fail
        rw [rounds_succ]
        go_wp2_with fail
        rw [rounds_succ]
        go_wp2_with fail
        rw [rounds_succ]
        go_wp2_with fail
        rw [rounds_succ]
        go_wp2_with fail
        go_roundw
        case rel => exact ⟨k + 1, a, b + 1, c, d, by omega, by go_num, HS2, HW0, HW, HWB⟩
        case measure => simp [intOf]; omega
      have n2 : (x0 == 2) = false := beq_eq_false_iff_ne.2 h2
      by_cases h3 : x0 = 3
      · subst h3
        have HS2 : Hid (CntIs l (k + 1) a b (c + 1) d) := HST.out
        have HW : Hid ((w2.setCell ⟨w.heap.size + 1, 3, none⟩ (.int .i64 ((c + 1 : Nat) : Int))).heap[w.heap.size + 1]? = some (.cells (cv5 a b (c + 1) d) 31 (0, 0))) := HSET.out.2.2.1
        have HW0 : Hid ((w2.setCell ⟨w.heap.size + 1, 3, none⟩ (.int .i64 ((c + 1 : Nat) : Int))).heap[w.heap.size]? = some (.cells (cv5 0 0 0 0) 31 (0, 0))) := (Below.heap_setCell _ _ _ _ (by show w.heap.size ≠ w.heap.size + 1; omega)).trans HZ0.out
        have HWB := Lib.hid (HB2.out.setCell (p := ⟨w.heap.size + 1, 3, none⟩) (Nat.le_succ _) (.int .i64 ((c + 1 : Nat) : Int)))
        have hv : IntKind.i64.wrap ((c : Int) + 1) = ((c + 1 : Nat) : Int) := by rw [IntKind.wrap_i64]; omega
        clear HST HSET HZ0 HZ1 HB2
        go_wp2_with fail
        refine wp_loop_rounds 5 ?_
        rw [rounds_succ]
        go_wp2_with fail
        rw [rounds_succ]
        go_wp2_with fail
        rw [rounds_succ]
        go_wp2_with fail
        rw [rounds_succ]
        go_wp2_with fail
        rw [rounds_succ]
        go_wp2_with fail
        go_roundw
        case rel => exact ⟨k + 1, a, b, c + 1, d, by omega, by go_num, HS2, HW0, HW, HWB⟩
        case measure => simp [intOf]; omega
      have n3 : (x0 == 3) = false := beq_eq_false_iff_ne.2 h3
      by_cases h4 : x0 = 4
      · subst h4
        have HS2 : Hid (CntIs l (k + 1) a b c (d + 1)) := HST.out
        have HW : Hid ((w2.setCell ⟨w.heap.size + 1, 4, none⟩ (.int .i64 ((d + 1 : Nat) : Int))).heap[w.heap.size + 1]? = some (.cells (cv5 a b c (d + 1)) 31 (0, 0))) := HSET.out.2.2.2
        have HW0 : Hid ((w2.setCell ⟨w.heap.size + 1, 4, none⟩ (.int .i64 ((d + 1 : Nat) : Int))).heap[w.heap.size]? = some (.cells (cv5 0 0 0 0) 31 (0, 0))) := (Below.heap_setCell _ _ _ _ (by show w.heap.size ≠ w.heap.size + 1; omega)).trans HZ0.out
        have HWB := Lib.hid (HB2.out.setCell (p := ⟨w.heap.size + 1, 4, none⟩) (Nat.le_succ _) (.int .i64 ((d + 1 : Nat) : Int)))
        have hv : IntKind.i64.wrap ((d : Int) + 1) = ((d + 1 : Nat) : Int) := by rw [IntKind.wrap_i64]; omega
        clear HST HSET HZ0 HZ1 HB2
        go_wp2_with fail
        refine wp_loop_rounds 5 ?_
        rw [rounds_succ]
        go_wp2_with fail
        rw [rounds_succ]
        go_wp2_with fail
        rw [rounds_succ]
        go_wp2_with fail
        rw [rounds_succ]
        go_wp2_with fail
        rw [rounds_succ]
        go_wp2_with fail
        go_roundw
        case rel => exact ⟨k + 1, a, b, c, d + 1, by omega, by go_num, HS2, HW0, HW, HWB⟩
        case measure => simp [intOf]; omega
      have n4 : (x0 == 4) = false := beq_eq_false_iff_ne.2 h4
      have HS2 : Hid (CntIs l (k + 1) a b c d) := by have h := HST.out; rw [if_neg h1, if_neg h2, if_neg h3, if_neg h4] at h; exact h
      clear HST HSET
      go_wp2_with fail
      refine wp_loop_rounds 5 ?_
      rw [rounds_succ]
      go_wp2_with fail
      rw [rounds_succ]
      go_wp2_with fail
      rw [rounds_succ]
      go_wp2_with fail
      rw [rounds_succ]
      go_wp2_with fail
      rw [rounds_succ]
      go_wp2_with fail
      go_roundw
      case rel => exact ⟨k + 1, a, b, c, d, by omega, by go_num, HS2, HZ0, HZ1, HB2⟩
      case measure => simp [intOf]; omega
    · obtain rfl : k = l.length := by omega
      have hd : decide ((l.length : Int) < (l.length : Int)) = false := decide_eq_false (by omega)
      have HE := Lib.hid (cntIs_end HC.out)
      clear HC HA
      rw [HE.out] at HY1
      go_wp2_with (first | (refine wpList_load_row rfl 31 (.tmp 3) rfl (w.heap.size + 1) rfl 31 _ (0, 0) _ HY1.out Tryz.underlying31 rfl info_five ?_) | (refine wpList_store_row rfl 31 (.tmp 2) (.tmp 27) rfl w.heap.size (cntV l) rfl rfl 31 (cv5 0 0 0 0) HY0.out info_five rfl (cv5_one _ _ _ _) ?_))
      exact bodyPost_ret (results_cell_row rfl _ _ w.heap.size 31 (cntV l) (0, 0) _ rfl (setRow_heap wr w.heap.size _ (cntV l) _ _ HY0.out) Tryz.underlying31 rfl info_five) rfl ⟨rfl, below_setRow HB.out (Nat.le_refl _) _⟩
end Go.Proofs.YtkcckhnmljckaaaGreatDoor
