/-
  weigh: contract of share.
-/
import Derived.Test.YtljekdnjdcfliaaWeD
import Derived.Shelf.Abstract
namespace Go.Proofs.Ytljekdnjdcfliaa
open Go.RowKit Go.Shelf
attribute [local go_sem] Oper.semAt_some

/-- How many of the first c signs are s. -/
def cntS (sg : Nat → Nat) : Nat → Nat → Nat
  | 0, _ => 0
  | c + 1, s => cntS sg c s + if sg c = s then 1 else 0
def tot (sg : Nat → Nat) (L : List Nat) (s : Nat) : Nat := (L.map fun c => cntS sg c s).sum
theorem tot_snoc (sg : Nat → Nat) (L : List Nat) (c s : Nat) : tot sg (L ++ [c]) s = tot sg L s + cntS sg c s := by simp [tot, List.sum_append]
theorem cntS_zero (sg : Nat → Nat) (c s : Nat) (h : ∀ i, i < c → sg i ≠ s) : cntS sg c s = 0 := by
  induction c with
  | zero => rfl
  | succ c ih => rw [cntS, ih fun i hi => h i (by omega), if_neg (h c (by omega))]
theorem cntS_at (sg : Nat → Nat) (m : Nat) (hinj : ∀ i j, i < m → j < m → sg i = sg j → i = j) (c : Nat) (hc : c ≤ m) (i : Nat) (hi : i < m) : cntS sg c (sg i) = if i < c then 1 else 0 := by
  induction c with
  | zero => simp [cntS]
  | succ c ih =>
    rw [cntS, ih (by omega)]
    by_cases h : c = i
    · subst h; simp
    · have : ¬ sg c = sg i := fun e => h (hinj c i (by omega) hi e)
      rw [if_neg this]
      by_cases h2 : i < c
      · rw [if_pos h2, if_pos (by omega)]
      · rw [if_neg h2, if_neg (by omega)]
theorem cntS_le (sg : Nat → Nat) (m : Nat) (hinj : ∀ i j, i < m → j < m → sg i = sg j → i = j) (c : Nat) (hc : c ≤ m) (s : Nat) : cntS sg c s ≤ 1 := by
  by_cases h : ∃ i, i < m ∧ sg i = s
  · obtain ⟨i, hi, rfl⟩ := h
    rw [cntS_at sg m hinj c hc i hi]; split <;> omega
  · rw [cntS_zero sg c s fun i hi e => h ⟨i, by omega, e⟩]; omega
theorem tot_le (sg : Nat → Nat) (m : Nat) (hinj : ∀ i j, i < m → j < m → sg i = sg j → i = j) (L : List Nat) (hL : ∀ c ∈ L, c ≤ m) (s : Nat) : tot sg L s ≤ L.length := by
  induction L with
  | nil => simp [tot]
  | cons c L ih =>
    have := ih fun x hx => hL x (by simp [hx])
    have := cntS_le sg m hinj c (hL c (by simp)) s
    simp only [tot, List.map_cons, List.sum_cons, List.length_cons] at *
    omega
theorem tot_at (sg : Nat → Nat) (m : Nat) (hinj : ∀ i j, i < m → j < m → sg i = sg j → i = j) (L : List Nat) (hL : ∀ c ∈ L, c ≤ m) (i : Nat) (hi : i < m) : tot sg L (sg i) = lenR L i := by
  induction L with
  | nil => simp [tot, lenR]
  | cons c L ih =>
    have := ih fun x hx => hL x (by simp [hx])
    have := cntS_at sg m hinj c (hL c (by simp)) i hi
    simp only [tot, lenR, List.map_cons, List.sum_cons, List.countP_cons] at *
    by_cases h : i < c <;> simp_all <;> omega
theorem tot_zero (sg : Nat → Nat) (L : List Nat) (m s : Nat) (hL : ∀ c ∈ L, c ≤ m) (h : ∀ i, i < m → sg i ≠ s) : tot sg L s = 0 := by
  induction L with
  | nil => rfl
  | cons c L ih =>
    have := ih fun x hx => hL x (by simp [hx])
    have := cntS_zero sg c s fun i hi => h i (by have := hL c (by simp); omega)
    simp only [tot, List.map_cons, List.sum_cons] at *
    omega

/-- So many bytes. -/
def lenA (n : Nat) (f : Nat → Nat) : Array Value := ((List.range n).map fun i => Value.int .u8 (f i : Nat)).toArray
theorem lenA_size (n : Nat) (f : Nat → Nat) : (lenA n f).size = n := by simp [lenA]
theorem lenA_at (n : Nat) (f : Nat → Nat) (i : Nat) (hi : i < n) : (lenA n f)[i]? = some (.int .u8 (f i : Nat)) := by simp [lenA, List.getElem?_range hi]
theorem lenA_ext (n : Nat) (f g : Nat → Nat) (h : ∀ i, i < n → f i = g i) : lenA n f = lenA n g := by
  unfold lenA
  congr 1
  apply List.map_congr_left
  intro i hi
  rw [h i (by simpa using hi)]
theorem lenA_set (n : Nat) (f : Nat → Nat) (k x : Nat) : (lenA n f).setIfInBounds k (.int .u8 (x : Nat)) = lenA n (fun i => if i = k then x else f i) := by
  apply Array.ext_getElem?
  intro i
  rw [Array.getElem?_setIfInBounds, lenA_size]
  by_cases hi : i < n
  · by_cases h : k = i
    · subst h
      rw [if_pos rfl, if_pos hi, lenA_at _ _ _ hi, if_pos rfl]
    · rw [if_neg h, lenA_at _ _ _ hi, lenA_at _ _ _ hi, if_neg (fun e => h e.symm)]
  · have hn : ∀ g : Nat → Nat, (lenA n g)[i]? = none := fun g => by rw [Array.getElem?_eq_none_iff, lenA_size]; omega
    rw [hn, hn]
    by_cases h : k = i
    · rw [if_pos h, if_neg (by omega)]
    · rw [if_neg h]
def IsLen (w : World) (g n : Nat) (f : Nat → Nat) : Prop := w.heap[g]? = some (.cells (lenA n f) 5 (0, 0))
theorem IsLen.cell {w : World} {g n : Nat} {f : Nat → Nat} (h : IsLen w g n f) (i : Nat) (hi : i < n) : w.cell? ⟨g, i, none⟩ = some (.int .u8 (f i : Nat)) := by
  rw [cell_of_row w g i _ _ _ h, lenA_at n f i hi]
theorem IsLen.frozen {w : World} {g n : Nat} {f : Nat → Nat} (h : IsLen w g n f) (i : Nat) : w.frozen? ⟨g, i, none⟩ = false := frozen_of_row w g i _ _ h
theorem IsLen.set {w : World} {g n : Nat} {f : Nat → Nat} (h : IsLen w g n f) (k x : Nat) : IsLen (w.setCell ⟨g, k, none⟩ (.int .u8 (x : Nat))) g n (fun i => if i = k then x else f i) := by
  have e := heap_setCell_same w g k _ _ (.int .u8 (x : Nat)) h
  rw [lenA_set n f k x] at e
  exact e
theorem IsLen.ext {w : World} {g n : Nat} {f f' : Nat → Nat} (h : IsLen w g n f) (e : ∀ i, i < n → f i = f' i) : IsLen w g n f' := by
  unfold IsLen at *
  rw [← lenA_ext n f f' e]
  exact h

theorem gset {a w : World} {b : Nat} (h : a.grownBy w (some b)) (i : Nat) (v : Value) : a.grownBy (w.setCell ⟨b, i, none⟩ v) (some b) :=
  ⟨h.os, h.tape, h.output, by simp; exact h.size, fun k hk hne => (Below.heap_setCell w _ v k (fun e => hne (by rw [e]))).trans (h.block k hk hne)⟩
/-- All but two blocks stay. -/
structure Kp2 (V W : World) (g p : Nat) : Prop where
  os : W.os = V.os
  tape : W.tape = V.tape
  output : W.output = V.output
  size : V.heap.size ≤ W.heap.size
  block : ∀ k, k < V.heap.size → k ≠ g → k ≠ p → W.heap[k]? = V.heap[k]?
theorem Kp2.refl (V : World) (g p : Nat) : Kp2 V V g p := ⟨rfl, rfl, rfl, Nat.le_refl _, fun _ _ _ _ => rfl⟩
theorem Kp2.grown {V A B : World} {g p : Nat} {row : Option Nat} (h : Kp2 V A g p) (hg : A.grownBy B row) (hr : ∀ k, row = some k → k = g ∨ k = p ∨ V.heap.size ≤ k) : Kp2 V B g p :=
  ⟨hg.os.trans h.os, hg.tape.trans h.tape, hg.output.trans h.output, Nat.le_trans h.size hg.size, fun k hk h1 h2 => (hg.block k (Nat.lt_of_lt_of_le hk h.size) (fun e => by rcases hr k e.symm with h | h | h <;> omega)).trans (h.block k hk h1 h2)⟩
section
variable (w : World) (a b c d : Value) {T1 T2 T3 T4 : TypeId}
theorem four_0 : ((((w.alloc (.cells #[a] T1)).alloc (.cells #[b] T2)).alloc (.cells #[c] T3)).alloc (.cells #[d] T4)).heap[w.heap.size]? = some (.cells #[a] T1 (0, 0)) :=
  (Below.heap_alloc _ _ _ (by simp; omega)).trans ((Below.heap_alloc _ _ _ (by simp; omega)).trans ((Below.heap_alloc _ _ _ (by simp)).trans (heap_alloc_new _ _)))
theorem four_1 : ((((w.alloc (.cells #[a] T1)).alloc (.cells #[b] T2)).alloc (.cells #[c] T3)).alloc (.cells #[d] T4)).heap[w.heap.size + 1]? = some (.cells #[b] T2 (0, 0)) := by
  have h := heap_alloc_new (w.alloc (.cells #[a] T1)) (.cells #[b] T2)
  rw [World.size_alloc] at h
  exact (Below.heap_alloc _ _ _ (by simp)).trans ((Below.heap_alloc _ _ _ (by simp)).trans h)
theorem four_2 : ((((w.alloc (.cells #[a] T1)).alloc (.cells #[b] T2)).alloc (.cells #[c] T3)).alloc (.cells #[d] T4)).heap[w.heap.size + 2]? = some (.cells #[c] T3 (0, 0)) := by
  have h := heap_alloc_new ((w.alloc (.cells #[a] T1)).alloc (.cells #[b] T2)) (.cells #[c] T3)
  rw [World.size_alloc, World.size_alloc] at h
  exact (Below.heap_alloc _ _ _ (by simp)).trans h
theorem four_3 : ((((w.alloc (.cells #[a] T1)).alloc (.cells #[b] T2)).alloc (.cells #[c] T3)).alloc (.cells #[d] T4)).heap[w.heap.size + 3]? = some (.cells #[d] T4 (0, 0)) := by
  have h := heap_alloc_new (((w.alloc (.cells #[a] T1)).alloc (.cells #[b] T2)).alloc (.cells #[c] T3)) (.cells #[d] T4)
  rw [World.size_alloc, World.size_alloc, World.size_alloc] at h
  exact h
end

set_option maxRecDepth 100000 in
set_option maxHeartbeats 8000000 in
theorem share_any (gv capv most m capS n gl base : Nat) (S : Option Addr) (vals : List Value) (W : List Nat) (sg : Nat → Nat) (w : World) (hW : W.Pairwise (· ≤ ·)) (hm : W.length = m) (h2 : 2 ≤ m) (hm4 : m ≤ 400)
    (hmo : 1 ≤ most) (hmo5 : most ≤ 15) (hpow : m ≤ 2 ^ most) (hV : w.ownsRow base 120 1 (.slice (some ⟨gv, 0, none⟩) most capv) most vals) (hR : RowsIs w vals W most) (hS : Sns w S m sg) (hcap : m ≤ capS)
    (hSne : ∀ b off sp, S = some ⟨b, off, sp⟩ → b ≠ gl) (hsg : ∀ i, i < m → sg i < n) (hinj : ∀ i j, i < m → j < m → sg i = sg j → i = j) (hL : IsLen w gl n fun _ => 0) :
    Calls Try.prog 54 #[.slice (some ⟨gv, 0, none⟩) most capv, .slice S m capS, .slice (some ⟨gl, 0, none⟩) n n] w fun e w' => e = .returned (.tuple #[]) ∧ IsLen w' gl n (tot sg (shs W most (2 * m - 2))) ∧ w.grownBy w' (some gl) := by
  have hmf : ∀ (fn : Fn) (first cap : Array Value) (w : World), (Instr.makeFunc fn first cap).run Try.prog w = .ok (.func fn first cap) w := fun _ _ _ _ => rfl
  have hw1 : IntKind.i64.wrap (2 * (m : Int)) = 2 * m := by rw [IntKind.wrap_i64]; omega
  have hw2 : IntKind.i64.wrap (2 * (m : Int) - 2) = ((2 * m - 2 : Nat) : Int) := by rw [IntKind.wrap_i64]; omega
  refine (callsIn_wide (n := 4)).1 ?_
  refine callsIn_of_wp_marks Try.func54 rfl trivial ?_ rfl
  simp only [Try.ntmps54, List.size_toArray, List.length_cons, List.length_nil, Nat.reduceAdd, Nat.reduceSub, Array.replicate_succ, Array.replicate_zero, List.push_toArray, List.append_toArray, List.nil_append, List.cons_append]
  gi_wp2_with fail
  refine ⟨trivial, (callsIn_wide.2 (back_any _ _ ⟨_, _, _, rfl⟩)).mono ?_⟩
  rintro e w' ⟨rfl, rfl⟩
  gi_wp2
  have hmS : 0 < m := by omega
  obtain ⟨bs, offs, rfl, hbs, hcs⟩ := hS hmS
  have hsne := hSne _ _ _ rfl
  -- the world that the loop begins in
  have hVB : Below w.heap.size w ((((w.alloc (.cells #[.slice (some ⟨bs, offs, none⟩) m capS] 44)).alloc (.cells #[.slice (some ⟨gl, 0, none⟩) n n] 25)).alloc (.cells #[.int .i64 ((2 * m - 2 : Nat) : Int)] 3)).alloc (.cells #[.slice (some ⟨gv, 0, none⟩) most capv] 103)) := below_alloc (below_alloc (below_alloc (below_alloc (Below.refl _ _) _) _) _) _
  have e0 : ((((w.alloc (.cells #[.slice (some ⟨bs, offs, none⟩) m capS] 44)).alloc (.cells #[.slice (some ⟨gl, 0, none⟩) n n] 25)).alloc (.cells #[.int .i64 ((2 * m - 2 : Nat) : Int)] 3)).alloc (.cells #[.slice (some ⟨gv, 0, none⟩) most capv] 103)).heap[w.heap.size]? = some (.cells #[.slice (some ⟨bs, offs, none⟩) m capS] 44 (0, 0)) := four_0 w _ _ _ _
  have e1 : ((((w.alloc (.cells #[.slice (some ⟨bs, offs, none⟩) m capS] 44)).alloc (.cells #[.slice (some ⟨gl, 0, none⟩) n n] 25)).alloc (.cells #[.int .i64 ((2 * m - 2 : Nat) : Int)] 3)).alloc (.cells #[.slice (some ⟨gv, 0, none⟩) most capv] 103)).heap[w.heap.size + 1]? = some (.cells #[.slice (some ⟨gl, 0, none⟩) n n] 25 (0, 0)) := four_1 w _ _ _ _
  have e2 : ((((w.alloc (.cells #[.slice (some ⟨bs, offs, none⟩) m capS] 44)).alloc (.cells #[.slice (some ⟨gl, 0, none⟩) n n] 25)).alloc (.cells #[.int .i64 ((2 * m - 2 : Nat) : Int)] 3)).alloc (.cells #[.slice (some ⟨gv, 0, none⟩) most capv] 103)).heap[w.heap.size + 2]? = some (.cells #[.int .i64 ((2 * m - 2 : Nat) : Int)] 3 (0, 0)) := four_2 w _ _ _ _
  have e3 : ((((w.alloc (.cells #[.slice (some ⟨bs, offs, none⟩) m capS] 44)).alloc (.cells #[.slice (some ⟨gl, 0, none⟩) n n] 25)).alloc (.cells #[.int .i64 ((2 * m - 2 : Nat) : Int)] 3)).alloc (.cells #[.slice (some ⟨gv, 0, none⟩) most capv] 103)).heap[w.heap.size + 3]? = some (.cells #[.slice (some ⟨gv, 0, none⟩) most capv] 103 (0, 0)) := four_3 w _ _ _ _
  have hsz : ((((w.alloc (.cells #[.slice (some ⟨bs, offs, none⟩) m capS] 44)).alloc (.cells #[.slice (some ⟨gl, 0, none⟩) n n] 25)).alloc (.cells #[.int .i64 ((2 * m - 2 : Nat) : Int)] 3)).alloc (.cells #[.slice (some ⟨gv, 0, none⟩) most capv] 103)).heap.size = w.heap.size + 4 := by simp
  generalize (((w.alloc (.cells #[.slice (some ⟨bs, offs, none⟩) m capS] 44)).alloc (.cells #[.slice (some ⟨gl, 0, none⟩) n n] 25)).alloc (.cells #[.int .i64 ((2 * m - 2 : Nat) : Int)] 3)).alloc (.cells #[.slice (some ⟨gv, 0, none⟩) most capv] 103) = V at *
  have hglt : gl < w.heap.size := lt_of_cells hL
  have hVV := hV
  obtain ⟨hvl, h | ⟨g', capv', cur, hve, hbg, hvh, _⟩⟩ := hVV
  · exact absurd h.1 (by simp)
  simp only [Value.slice.injEq, Option.some.injEq, Addr.mk.injEq, and_true, true_and] at hve
  obtain ⟨hv1, hv2⟩ := hve
  subst hv1
  subst hv2
  have hgvl : gv < w.heap.size := lt_of_cells hvh
  have hgvne : gv ≠ gl := by
    rintro rfl
    rw [hL] at hvh
    injection hvh with hvh
    injection hvh with _ hvh _
    revert hvh; decide
  have hvn : vals.length = most := by omega
  have he := row_enough W most hmo (by omega) (by omega)
  rw [hm] at he
  have hLV : IsLen V gl n fun _ => 0 := (hVB.block gl hglt).trans hL
  have hRV := hR.below (Nat.le_refl _) hVB
  -- cells of V that no round turns
  have kV : ∀ {W' : World} (_ : Kp2 V W' gl (w.heap.size + 2)), W'.cell? ⟨w.heap.size, 0, none⟩ = some (.slice (some ⟨bs, offs, none⟩) m capS) ∧ W'.cell? ⟨w.heap.size + 1, 0, none⟩ = some (.slice (some ⟨gl, 0, none⟩) n n) ∧
      W'.cell? ⟨w.heap.size + 3, 0, none⟩ = some (.slice (some ⟨gv, 0, none⟩) most capv) ∧ (∀ j, j < most → W'.cell? ⟨gv, j, none⟩ = some (vals[j]?.getD undef)) ∧ (∀ i, i < m → W'.cell? ⟨bs, offs + i, none⟩ = some (.int .i64 (sg i : Nat))) ∧ RowsIs W' vals W most := by
    intro W' hk
    refine ⟨?_, ?_, ?_, ?_, ?_, ?_⟩
    · exact (World.cell?_of_block (hk.block w.heap.size (by omega) (by omega) (by omega))).trans (by rw [cell_of_row _ _ 0 _ _ _ e0]; rfl)
    · exact (World.cell?_of_block (hk.block (w.heap.size + 1) (by omega) (by omega) (by omega))).trans (by rw [cell_of_row _ _ 0 _ _ _ e1]; rfl)
    · exact (World.cell?_of_block (hk.block (w.heap.size + 3) (by omega) (by omega) (by omega))).trans (by rw [cell_of_row _ _ 0 _ _ _ e3]; rfl)
    · intro j hj
      refine (World.cell?_of_block (a := ⟨gv, j, none⟩) ((hk.block gv (by omega) hgvne (by omega)).trans (hVB.block gv hgvl))).trans ?_
      rw [hV.cellAt j (by omega), List.getElem?_eq_getElem (by omega)]
      rfl
    · intro i hi
      exact (World.cell?_of_block (a := ⟨bs, offs + i, none⟩) ((hk.block bs (by omega) hsne (by omega)).trans (hVB.block bs hbs))).trans (hcs i hi)
    · intro j hj
      obtain ⟨A, h1, h2⟩ := hR j hj
      refine ⟨A, h1, fun h0 => ?_⟩
      obtain ⟨b, off, ea, hb, ⟨cs, hh⟩, hc⟩ := h2 h0
      have hne : b ≠ gl := by
        rintro rfl
        rw [hL] at hh
        injection hh with hh
        injection hh with _ hh _
        revert hh; decide
      have eb := (hk.block b (by omega) hne (by omega)).trans (hVB.block b hb)
      exact ⟨b, off, ea, Nat.lt_of_lt_of_le (by omega) hk.size, ⟨cs, eb.trans hh⟩, fun i x hx => ⟨(World.cell?_of_block (a := ⟨b, off + i * 2, none⟩) eb).trans (hc i x hx).1, (World.cell?_of_block (a := ⟨b, off + i * 2 + 1, none⟩) eb).trans (hc i x hx).2⟩⟩
  have hone : ∀ j, j < most → ∃ A len cp, vals[j]?.getD undef = .slice A len cp := fun j hj => by
    obtain ⟨A, h1, _⟩ := hR j hj
    exact ⟨A, _, _, by rw [h1]; rfl⟩
  refine range_counted rfl (by omega) (gf := 71) (lb := #[.pointer (some ⟨w.heap.size + 1 + 1 + 1, 0, none⟩)]) rfl trivial (enters_of Try.func71 (by kernel_rfl) rfl)
    most (fun k => #[.int .i64 ((most - 1 - k : Nat) : Int), vals[most - 1 - k]?.getD undef]) (fun _ => rfl)
    (fun k W' => ∃ done t, done.length = k ∧ shs W most (2 * m - 2) = done ++ shs W (most - k) t ∧ t ≤ (rowN W (most - k)).length ∧ W'.heap[w.heap.size + 2]? = some (.cells #[.int .i64 (t : Nat)] 3 (0, 0)) ∧ IsLen W' gl n (tot sg done) ∧ Kp2 V W' gl (w.heap.size + 2))
    ?own ⟨[], 2 * m - 2, rfl, rfl, he, e2, hLV, Kp2.refl _ _ _⟩ ?hit
    (fun k => { tmps := #[.slice (some ⟨gv, 0, none⟩) most capv, .slice (some ⟨bs, offs, none⟩) m capS, .slice (some ⟨gl, 0, none⟩) n n, undef, .pointer (some ⟨w.heap.size, 0, none⟩), .pointer (some ⟨w.heap.size + 1, 0, none⟩), .pointer (some ⟨w.heap.size + 1 + 1, 0, none⟩), undef, vals[most - 1 - k]?.getD undef, undef, undef, undef,
      .slice (some ⟨bs, offs, none⟩) m capS, .int .i64 m, .int .i64 (2 * m), .int .i64 ((2 * m - 2 : Nat) : Int), .slice (some ⟨gv, 0, none⟩) most capv, .func (.func 71) #[] #[.pointer (some ⟨w.heap.size + 1 + 1 + 1, 0, none⟩)], .int .i64 ((most - 1 - k : Nat) : Int), vals[most - 1 - k]?.getD undef,
      undef, undef, undef, undef, undef, undef, undef, undef, undef, undef, undef, undef, undef, undef, undef, undef, undef, undef, undef, undef, undef, undef, undef], defers := [] }) ?assign ?body ?done
  case own =>
    rintro k A B row ⟨done, t, h1, h2, h3, h4, h5, h6⟩ hg hr
    have hlt : ∀ b, b < V.heap.size → B.heap[b]? = A.heap[b]? := fun b hb => hg.block b (by have := h6.size; omega) (fun e => by have := (hr b e.symm).1; omega)
    exact ⟨done, t, h1, h2, h3, (hlt _ (by omega)).trans h4, (hlt _ (by omega)).trans h5, h6.grown hg (fun k e => .inr (.inr (hr k e).1))⟩
  case hit =>
    intro l J W' hJI hJY hJ0
    refine back1_in 3 (by omega) l (w.heap.size + 3) gv most capv (by omega) (fun j => vals[j]?.getD undef) J (fun k W3 hj => ?_) hone hJY W' hJ0
    obtain ⟨done, t, _, _, _, _, _, h6⟩ := hJI k W3 hj
    exact ⟨(kV h6).2.2.1, (kV h6).2.2.2.1⟩
  case assign =>
    intro l k W' K hK
    gi_wp2
    exact hK
  case done =>
    rintro D W' hD ⟨done, t, h1, h2, h3, h4, h5, h6⟩ hK
    rw [Nat.sub_self] at h2
    have hd : done = shs W most (2 * m - 2) := by rw [h2]; simp [shs]
    subst hd
    have hgw : w.grownBy (W'.putObj D (.deferred none)) (some gl) := by
      have h7 := h6.grown (grownBy_putObj' W' D (.deferred none)) (fun k e => by cases e; exact .inr (.inr hD))
      exact ⟨h7.os.trans hVB.os, h7.tape.trans hVB.tape, h7.output.trans hVB.output, Nat.le_trans hVB.size h7.size, fun b hb hne => (h7.block b (by omega) (fun e => hne (by rw [e])) (by omega)).trans (hVB.block b hb)⟩
    have hlw : IsLen (W'.putObj D (.deferred none)) gl n (tot sg (shs W most (2 * m - 2))) := (World.putObj_heap_other (by omega)).trans h5
    gi_wp2
    refine ⟨by simp, .inl ⟨_, _, rfl, run_takeDeferred hK, ?_⟩⟩
    exact ⟨_, results_none rfl _ _ _, rfl, hlw, hgw⟩
  case body =>
    rintro l k W' ⟨done, t, h1, h2, h3, h4, h5, h6⟩ hk
    obtain ⟨c0, c1, _, _, c4, hrows⟩ := kV h6
    obtain ⟨r, hr⟩ : ∃ r, most - k = r + 1 := ⟨most - k - 1, by omega⟩
    have hr' : most - 1 - k = r := by omega
    have hr2 : most - (k + 1) = r := by omega
    rw [hr] at h2 h3
    obtain ⟨A, hv, hrow⟩ := hrows r (by omega)
    obtain ⟨q1, q2, q3, _⟩ := pk_facts W hW r t h3
    have hrl := row_le W (r + 1)
    have hP := pairs_any A t (rowN W (r + 1)).length (rowN W (r + 1)) W' hrow h3 (by omega)
    have hshs : shs W most (2 * m - 2) = (done ++ [t - pk W (r + 1) t]) ++ shs W r (2 * pk W (r + 1) t) := by rw [h2, List.append_assoc]; rfl
    have hdl : ∀ c ∈ done ++ [t - pk W (r + 1) t], c ≤ m := fun c hc => by
      have := shs_le W hW most _ (by rw [← hm] at he; exact he) c (by rw [hm, hshs]; exact List.mem_append_left _ hc)
      omega
    have htl := tot_le sg m hinj (done ++ [t - pk W (r + 1) t]) hdl
    have hcl := cntS_le sg m hinj
    have hrl2 : 0 < (rowN W (r + 1)).length := by rw [row_len]; omega
    obtain ⟨b, off, rfl, _⟩ := hrow hrl2
    rw [hr', hv]
    have epk : npair ((rowN W (r + 1)).take t) = pk W (r + 1) t := rfl
    rw [epk] at hP
    have HDEF : Hid (∀ s, tot sg done s + cntS sg (t - pk W (r + 1) t) s = tot sg (done ++ [t - pk W (r + 1) t]) s) := fun s => (tot_snoc sg done _ s).symm
    have HSH := Lib.hid hshs
    have HTL := Lib.hid htl
    clear hshs htl epk
    generalize pk W (r + 1) t = p at *
    have hw3 : IntKind.i64.wrap ((t : Int) - (p : Int)) = ((t - p : Nat) : Int) := by rw [IntKind.wrap_i64]; omega
    have hw4 : IntKind.i64.wrap (2 * (p : Int)) = 2 * (p : Int) := by rw [IntKind.wrap_i64]; omega
    have c2 : W'.cell? ⟨w.heap.size + 1 + 1, 0, none⟩ = some (.int .i64 (t : Nat)) := by rw [cell_of_row _ (w.heap.size + 2) 0 _ _ _ h4]; rfl
    have HP := Lib.hid hP
    have HK := Lib.hid h6
    have H4 := Lib.hid h4
    have H5 := Lib.hid h5
    have HKV : Hid (∀ {W' : World} (_ : Kp2 V W' gl (w.heap.size + 2)), W'.cell? ⟨w.heap.size, 0, none⟩ = some (.slice (some ⟨bs, offs, none⟩) m capS) ∧ W'.cell? ⟨w.heap.size + 1, 0, none⟩ = some (.slice (some ⟨gl, 0, none⟩) n n) ∧
      W'.cell? ⟨w.heap.size + 3, 0, none⟩ = some (.slice (some ⟨gv, 0, none⟩) most capv) ∧ (∀ j, j < most → W'.cell? ⟨gv, j, none⟩ = some (vals[j]?.getD undef)) ∧ (∀ i, i < m → W'.cell? ⟨bs, offs + i, none⟩ = some (.int .i64 (sg i : Nat))) ∧ RowsIs W' vals W most) := kV
    clear hP h6 h4 h5 kV hrows hrow hv hRV hLV hone hcs hS hSne hVB e0 e1 e2 e3 hL hV hR hvh h2 he hW
    gi_wp2_with fail
    refine ⟨trivial, (CallsIn.inRound l (callsIn_wide.2 HP.out)).mono ?_⟩
    rintro e W2 ⟨rfl, hb2⟩
    have HK2 := Lib.hid (HK.out.grown (gob (row := none) hb2) (fun k e => by cases e))
    have HB2 := Lib.hid hb2
    have H42 := Lib.hid ((hb2.block (w.heap.size + 2) (by have := HK.out.size; omega)).trans H4.out)
    have H52 : Hid (IsLen W2 gl n (tot sg done)) := (hb2.block gl (by have := HK.out.size; omega)).trans H5.out
    have d0 := (HKV.out HK2.out).1
    have d2 : W2.cell? ⟨w.heap.size + 1 + 1, 0, none⟩ = some (.int .i64 (t : Nat)) := by rw [cell_of_row _ (w.heap.size + 2) 0 _ _ _ H42.out]; rfl
    clear hb2 c0 c1 c2 c4
    gi_wp2
    gi_loopw [30] (fun i wr => ∃ j, j ≤ t - p ∧ i = .int .i64 (j : Nat) ∧ IsLen wr gl n (fun s => tot sg done s + cntS sg j s) ∧ W2.grownBy wr (some gl)) (fun i _ => (t - p) - (intOf i).toNat)
    case atStart => exact ⟨0, Nat.zero_le _, rfl, H52.out.ext fun s _ => by simp [cntS], World.grownBy.refl _ _⟩
    case round =>
      obtain ⟨j, hj, rfl, hl, hg⟩ := hrel
      have hk3 := HK2.out.grown hg (fun k e => by cases e; exact .inl rfl)
      obtain ⟨f0, f1, _, _, f4, _⟩ := HKV.out hk3
      by_cases hlt : j < t - p
      · have f5 := f4 j (by omega)
        have hsj := hsg j (by omega)
        have f6 := hl.cell (sg j) hsj
        have f7 := hl.frozen (sg j)
        have hbd : tot sg done (sg j) + cntS sg j (sg j) ≤ 17 := by
          have h8 := HTL.out (sg j)
          rw [tot_snoc] at h8
          have h9 := hcl j (by omega) (sg j)
          simp only [List.length_append, List.length_cons, List.length_nil] at h8
          omega
        have HL2 := Lib.hid hl
        have HG2 := Lib.hid hg
        have HST : Hid (∀ s, (if s = sg j then tot sg done (sg j) + cntS sg j (sg j) + 1 else tot sg done s + cntS sg j s) = tot sg done s + cntS sg (j + 1) s) := fun s => by
          by_cases e : s = sg j
          · subst e; rw [if_pos rfl, cntS, if_pos rfl]; omega
          · rw [if_neg e, cntS, if_neg (fun h => e h.symm)]; rfl
        have HSET := Lib.hid (fun x => hl.set (sg j) x)
        clear hl hg hk3 f4
        generalize hqq : tot sg done (sg j) + cntS sg j (sg j) = q at *
        clear hqq
        generalize hss : sg j = sj at *
        clear hss
        gi_wp2
        go_roundw
        case rel => exact ⟨j + 1, by omega, by go_num, (HSET.out (q + 1)).ext (fun s _ => HST.out s), gset HG2.out _ _⟩
        case measure => simp [intOf]; omega
      · obtain rfl : j = t - p := by omega
        have H43 : Hid (wr.heap[w.heap.size + 2]? = some (.cells #[.int .i64 (t : Nat)] 3 (0, 0))) := (hg.block (w.heap.size + 2) (by have := HK2.out.size; omega) (by intro e; injection e with e; omega)).trans H42.out
        have g0 : wr.cell? ⟨w.heap.size + 1 + 1, 0, none⟩ = some (.int .i64 (t : Nat)) := by rw [cell_of_row _ (w.heap.size + 2) 0 _ _ _ H43.out]; rfl
        have g1 : wr.frozen? ⟨w.heap.size + 1 + 1, 0, none⟩ = false := frozen_of_row wr (w.heap.size + 2) 0 _ _ H43.out
        have HL2 := Lib.hid hl
        have HG2 := Lib.hid hg
        have HK3 := Lib.hid hk3
        clear hl hg hk3 f4
        gi_wp2
        refine ⟨?_, done ++ [t - p], by simp [h1], 2 * p, HSH.out, q3, ?_, ?_, ?_⟩
        · exact ((KeepsOthers.of_grownBy (gob (row := none) HB2.out) (fun _ _ e => by cases e)).trans (KeepsOthers.of_grownBy HG2.out (fun k o e ho => by cases e; rw [H52.out] at ho; cases ho; rfl))).trans (KeepsOthers.setCell _ _ _)
        · have h := heap_setCell_same wr (w.heap.size + 2) 0 _ _ (.int .i64 ((2 * p : Nat) : Int)) H43.out
          simpa using h
        · exact ((Below.heap_setCell wr _ _ gl (by simp; omega)).trans HL2.out : _).trans (by rw [lenA_ext n _ _ (fun s _ => HDEF.out s)])
        · exact HK3.out.grown (gset (World.grownBy.refl _ _) _ _) (fun k e => by cases e; exact .inr (.inl rfl))
end Go.Proofs.Ytljekdnjdcfliaa
