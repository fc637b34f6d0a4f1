/-
  block, by mathematics: the pieces of a row have two unlike signs; the bits that a row is told by.
  block: a row of lengths put.
  block: the codes of a dynamic block; a writer is told them first.
-/
import Derived.Test.YtfhbkidceombbaaPkB
import Derived.Test.YtfhbkidceombbaaPkA
import Derived.Test.YtfhbkidceombbaaPkE
import Derived.Test.YtfhbkidceombbaaWg
import Derived.Deep.DeepCutAuto

namespace Go.Proofs.Ytfhbkidceombbaa
set_option maxRecDepth 100000
open Go.RowKit Go.Joins Go.Deep

theorem pc_cases (row : Nat → Nat) (n a : Nat) (ha : a < n) : (((pcN row n a).sg = 18 ∨ (pcN row n a).sg = 17) ∧ ∀ j, j < (pcN row n a).mn → row (a + j) = 0) ∨
    ((pcN row n a).sg = 16 ∧ 0 < a ∧ row (a - 1) = row a ∧ ∀ j, j < (pcN row n a).mn → row (a + j) = row a) ∨ ((pcN row n a).sg = row a ∧ (pcN row n a).mn = 1) := by
  obtain ⟨_, _, h3⟩ := alk_ge row n a ha
  unfold pcN
  split
  · rename_i h
    exact .inl ⟨.inl rfl, fun j hj => by dsimp only at hj; rw [h3 j (by omega), h.1]⟩
  · split
    · rename_i h
      exact .inl ⟨.inr rfl, fun j hj => by dsimp only at hj; rw [h3 j hj, h.1]⟩
    · split
      · rename_i h
        exact .inr (.inl ⟨rfl, h.1, h.2.1, fun j hj => by dsimp only at hj; rw [h3 j (by omega)]⟩)
      · exact .inr (.inr ⟨rfl, rfl⟩)
theorem split_uniq {row : Nat → Nat} {n K K' : Nat} (h : Split1 row n K) (h' : Split1 row n K') : K = K' := by
  rcases Nat.lt_trichotomy K K' with e | e | e
  · have := h'.2 K e; have := h.1; omega
  · exact e
  · have := h.2 K' e; have := h'.1; omega
open Classical in
noncomputable def kN (row : Nat → Nat) (n : Nat) : Nat := if h : ∃ K, Split1 row n K then Classical.choose h else 0
theorem kN_of {row : Nat → Nat} {n K : Nat} (h : Split1 row n K) : kN row n = K := by
  unfold kN
  rw [dif_pos ⟨K, h⟩]
  exact split_uniq (Classical.choose_spec (⟨K, h⟩ : ∃ K, Split1 row n K)) h
theorem split_ex (row : Nat → Nat) (n : Nat) : Split1 row n (kN row n) := by
  have key : ∀ d k, n - pzN row n k ≤ d → pzN row n k ≤ n → (∀ j, j < k → pzN row n j < n) → ∃ K, Split1 row n K := by
    intro d
    induction d with
    | zero => intro k h1 h2 h3; exact ⟨k, by omega, h3⟩
    | succ d ih =>
      intro k h1 h2 h3
      by_cases e : pzN row n k = n
      · exact ⟨k, e, h3⟩
      · have hlt : pzN row n k < n := by omega
        have := pc_mn row n _ hlt
        refine ih (k + 1) ?_ ?_ fun j hj => ?_
        · show n - (pzN row n k + _) ≤ d; omega
        · show pzN row n k + _ ≤ n; omega
        · by_cases e2 : j = k
          · subst e2; exact hlt
          · exact h3 j (by omega)
  obtain ⟨K, h⟩ := key n 0 (by omega) (Nat.zero_le _) (fun j hj => by omega)
  rw [kN_of h]
  exact h
/-- How often each sign comes among the first pieces. -/
def cntP (row : Nat → Nat) (n : Nat) : Nat → Nat → Nat
  | 0 => fun _ => 0
  | k + 1 => bump (cntP row n k) (pkN row n k).sg
theorem cntP_le (row : Nat → Nat) (n : Nat) : ∀ k i, cntP row n k i ≤ k
  | 0, _ => Nat.le_refl _
  | k + 1, i => bump_le _ _ k (cntP_le row n k) i
theorem cntP_pos (row : Nat → Nat) (n : Nat) : ∀ k i, i < k → 0 < cntP row n k (pkN row n i).sg
  | 0, i, h => by omega
  | k + 1, i, h => by
    rw [cntP, bump]
    by_cases e : i = k
    · subst e
      rw [if_pos rfl]
      omega
    · have := cntP_pos row n k i (by omega)
      split <;> omega
theorem cntP_zero (row : Nat → Nat) (n : Nat) (j : Nat) : ∀ k, (∀ i, i < k → (pkN row n i).sg ≠ j) → cntP row n k j = 0
  | 0, _ => rfl
  | k + 1, h => by
    rw [cntP, bump, if_neg (fun e => h k (by omega) e.symm)]
    exact cntP_zero row n j k fun i hi => h i (by omega)
theorem two_signs {row : Nat → Nat} {n K : Nat} (h : Split1 row n K) (hn : 258 ≤ n) (h15 : ∀ i, i < n → row i ≤ 15) (hz : ∃ i, i < n ∧ row i ≠ 0) : 2 ≤ (We.comeL (cntP row n K) 19).length := by
  have hK : 0 < K := by
    rcases Nat.eq_zero_or_pos K with e | e
    · subst e; have h1 : pzN row n 0 = n := h.1; rw [pzN] at h1; omega
    · exact e
  by_cases hs : ∃ i, i < K ∧ (pkN row n i).sg ≠ (pkN row n 0).sg
  · obtain ⟨i, hi, hne⟩ := hs
    have b0 := (pc_bd row n (pzN row n 0) (by have := h15 _ (h.2 0 hK); omega)).1
    have bi := (pc_bd row n (pzN row n i) (by have := h15 _ (h.2 i hi); omega)).1
    exact We.come_two bi b0 (cntP_pos row n K i hi) (cntP_pos row n K 0 hK) hne
  · exfalso
    have hall : ∀ i, i < K → (pkN row n i).sg = (pkN row n 0).sg := fun i hi => Classical.byContradiction fun hc => hs ⟨i, hi, hc⟩
    have hlt : ∀ i, i < K → pzN row n i < n := h.2
    obtain ⟨iz, hiz, hnz⟩ := hz
    rcases pc_cases row n (pzN row n 0) (hlt 0 hK) with ⟨h1, _⟩ | ⟨_, h1, _⟩ | ⟨h1, h2⟩
    · -- noughts alone
      have cov : ∀ k, k ≤ K → ∀ j, j < pzN row n k → row j = 0 := by
        intro k
        induction k with
        | zero => intro _ j hj; rw [pzN] at hj; omega
        | succ k ih =>
          intro hk j hj
          by_cases hjk : j < pzN row n k
          · exact ih (by omega) j hjk
          · have he := hall k (by omega)
            rcases pc_cases row n (pzN row n k) (hlt k (by omega)) with ⟨_, g⟩ | ⟨g, _⟩ | ⟨g, _⟩
            · have := g (j - pzN row n k) (by have : pzN row n (k + 1) = pzN row n k + (pcN row n (pzN row n k)).mn := rfl; omega)
              rwa [show pzN row n k + (j - pzN row n k) = j by omega] at this
            · unfold pkN at he; omega
            · have := h15 _ (hlt k (by omega)); unfold pkN at he; omega
      exact hnz (cov K (Nat.le_refl _) iz (by rw [h.1]; exact hiz))
    · rw [pzN] at h1; omega
    · have hs15 : (pkN row n 0).sg ≤ 15 := by have := h15 _ (hlt 0 hK); unfold pkN; omega
      have cov : ∀ k, k ≤ K → pzN row n k = k ∧ ∀ j, j < k → row j = (pkN row n 0).sg := by
        intro k
        induction k with
        | zero => exact fun _ => ⟨rfl, fun j hj => by omega⟩
        | succ k ih =>
          intro hk
          obtain ⟨g1, g2⟩ := ih (by omega)
          have he := hall k (by omega)
          rcases pc_cases row n (pzN row n k) (hlt k (by omega)) with ⟨g, _⟩ | ⟨g, _⟩ | ⟨g, g3⟩
          · unfold pkN at he hs15; omega
          · unfold pkN at he hs15; omega
          · have e1 : pzN row n (k + 1) = pzN row n k + (pcN row n (pzN row n k)).mn := rfl
            refine ⟨by omega, fun j hj => ?_⟩
            by_cases e : j = k
            · subst e
              rw [← he]
              unfold pkN
              rw [g, g1]
            · exact g2 j (by omega)
      obtain ⟨hKn, hrow⟩ := cov K (Nat.le_refl _)
      have hKn2 : K = n := by rw [← hKn, h.1]
      subst hKn2
      have hsz : (pkN row K 0).sg ≠ 0 := by rw [← hrow iz hiz]; exact hnz
      have hak : alkN row K 1 = K - 1 := alF_eq _ _ _ (fun i hi => by simp [hrow (1 + i) (by omega), hrow 1 (by omega)]) (Nat.le_refl _) (.inl rfl)
      have h16 : (pkN row K 1).sg = 16 := by
        unfold pkN
        rw [(cov 1 (by omega)).1]
        unfold pcN
        rw [hrow 1 (by omega), if_neg (fun e => hsz e.1), if_neg (fun e => hsz e.1), if_pos ⟨by omega, hrow 0 (by omega), by omega⟩]
      have := hall 1 (by omega)
      omega

/-! ## The bits -/
def ordF (L : Nat → Nat) (i : Nat) : Nat := L (orderL.getD i 0)
def threeB (L : Nat → Nat) : Nat → Bs
  | 0 => (0, 0)
  | k + 1 => (threeB L k).app (wB (ordF L k) 3)
def pcB (c : Cod) (row : Nat → Nat) (n : Nat) : Nat → Bs
  | 0 => (0, 0)
  | k + 1 => (pcB c row n k).app ((sgB c (pkN row n k).sg).app (wB (pkN row n k).re (pkN row n k).mo))
/-- The lengths of lengths of a row. -/
noncomputable def rowL (row : Nat → Nat) (n : Nat) : Nat → Nat := We.lensF (cntP row n (kN row n)) 19 7
noncomputable def rowH (row : Nat → Nat) (n : Nat) : Nat := shrN (ordF (rowL row n)) 4 19
noncomputable def rowC (row : Nat → Nat) (n : Nat) : Cod := ⟨19, rowL row n⟩
/-- A row's bits. -/
noncomputable def rowBs (row : Nat → Nat) (n : Nat) : Bs := ((wB (rowH row n - 4) 4).app (threeB (rowL row n) (rowH row n))).app (pcB (rowC row n) row n (kN row n))
theorem rowL_pow (row : Nat → Nat) (n : Nat) : (We.comeL (cntP row n (kN row n)) 19).length ≤ 2 ^ 7 := by
  have := We.comeL_le (cntP row n (kN row n)) 19
  omega
theorem rowL_le (row : Nat → Nat) (n i : Nat) (hi : i < 19) : rowL row n i ≤ 7 := (We.lensF_iff _ 19 7 (by omega) (by omega) (rowL_pow row n) i hi).2.1
theorem rowC_may {row : Nat → Nat} {n : Nat} (hn : 258 ≤ n) (h15 : ∀ i, i < n → row i ≤ 15) (hz : ∃ i, i < n ∧ row i ≠ 0) : may (rowC row n) false := by
  have h := We.lensF_fill (cntP row n (kN row n)) 19 7 (by omega) (by omega) (by omega) (rowL_pow row n) (two_signs (split_ex row n) hn h15 hz)
  exact ⟨Nat.le_of_eq h, .inl h⟩
theorem ord_lt19 : ∀ i, i < 19 → orderL.getD i 0 < 19 := by decide
theorem threeB_len (L : Nat → Nat) : ∀ k, (threeB L k).2 = 3 * k
  | 0 => rfl
  | k + 1 => by show (threeB L k).2 + 3 = _; rw [threeB_len L k]; omega
theorem pcB_le (c : Cod) (row : Nat → Nat) (n : Nat) (hc : ∀ i, i < c.n → c.ls i ≤ 7) : ∀ k, (∀ i, i < k → (pkN row n i).mo ≤ 7) → (pcB c row n k).2 ≤ 14 * k
  | 0, _ => Nat.le_refl _
  | k + 1, h => by
    have h1 := pcB_le c row n hc k fun i hi => h i (by omega)
    have h2 := h k (by omega)
    have h3 : (sgB c (pkN row n k).sg).2 ≤ 7 := by
      unfold sgB
      split
      · rename_i h; exact hc _ h
      · exact Nat.zero_le _
    show (pcB c row n k).2 + ((sgB c (pkN row n k).sg).2 + (pkN row n k).mo) ≤ _
    omega
end Go.Proofs.Ytfhbkidceombbaa

namespace Go.Proofs.Ytfhbkidceombbaa.Ij
set_option maxRecDepth 100000
open Go.RowKit Go.Deep Go.Joins

def ordV : Array Value := (orderL.map fun x => Value.int .i64 (x : Nat)).toArray
theorem info_ord : (Try.prog.info? 153).map (·.size) = some 19 := by kernel_rfl
theorem ord_one : ordV.all (·.oneCell') = true := by kernel_rfl
def zeroA : Array Value := (List.replicate 19 (Value.int .i64 0)).toArray
theorem zero_arr (w : World) : (zeroValue 153).run Try.prog w = .ok (.agg zeroA) w := by kernel_rfl
theorem order_any (w : World) : Calls Try.prog 92 #[] w fun e w' => e = .returned (.agg ordV) ∧ Below w.heap.size w w' := by
  have hz := zero_arr
  go_enter Try.func92, Try.ntmps92
  go_wp2_with (refine wpList_store_row rfl 153 (.tmp 0) (.tmp 1) rfl w.heap.size ordV rfl rfl 153 zeroA (heap_alloc_new w _) info_ord rfl ord_one ?_)
  exact bodyPost_ret (results_cell_row rfl _ _ w.heap.size 153 ordV (0, 0) _ rfl (setRow_heap _ _ _ ordV _ _ (heap_alloc_new w _)) Try.underlying153 rfl info_ord) rfl ⟨rfl, below_setRow ((Below.refl _ _).alloc (Nat.le_refl _) _) (Nat.le_refl _) _⟩
end Go.Proofs.Ytfhbkidceombbaa.Ij

namespace Go.Proofs.Ytfhbkidceombbaa
set_option maxRecDepth 100000
open Go.RowKit Go.Joins Go.Deep

/-- A row of bytes that lies in a block. -/
def RowAt (w : World) (g n : Nat) (ls : Nat → Nat) : Prop := g < w.heap.size ∧ ∀ i, i < n → w.cell? ⟨g, i, none⟩ = some (.int .u8 (ls i : Nat)) ∧ ls i < 256
theorem RowAt.lens {w : World} {g n : Nat} {ls : Nat → Nat} (h : RowAt w g n ls) (m : Nat) (hm : m ≤ n) : Lens w (some ⟨g, 0, none⟩) m ls := fun _ =>
  ⟨g, 0, rfl, h.1, fun i hi => by rw [Nat.zero_add]; exact h.2 i (by omega)⟩
theorem RowAt.stay {w w' : World} {g n : Nat} {ls : Nat → Nat} (h : RowAt w g n ls) (hb : w'.heap[g]? = w.heap[g]?) (hs : w.heap.size ≤ w'.heap.size) : RowAt w' g n ls :=
  ⟨Nat.lt_of_lt_of_le h.1 hs, fun i hi => ⟨(World.cell?_of_block (a := ⟨g, i, none⟩) hb).trans (h.2 i hi).1, (h.2 i hi).2⟩⟩
theorem RowAt.below {w w' : World} {g n : Nat} {ls : Nat → Nat} (h : RowAt w g n ls) (hb : Below w.heap.size w w') : RowAt w' g n ls := h.stay (hb.block g h.1) hb.size
theorem RowAt.upd {w w' : World} {g n gw : Nat} {r r' : Option Nat} {ls : Nat → Nat} (h : RowAt w g n ls) (hu : Upd gw r r' w w') (h1 : g ≠ gw) (h2 : some g ≠ r) : RowAt w' g n ls :=
  h.stay (hu.1.block g h.1 (fun e => e.elim h1 h2)) hu.1.size
theorem RowAt.ext {w : World} {g n : Nat} {ls ls' : Nat → Nat} (h : RowAt w g n ls) (he : ∀ i, i < n → ls i = ls' i) : RowAt w g n ls' :=
  ⟨h.1, fun i hi => by rw [← he i hi]; exact h.2 i hi⟩
theorem isLen_row {w : World} {g n : Nat} {f : Nat → Nat} (h : We.IsLen w g n f) (h256 : ∀ i, i < n → f i < 256) : RowAt w g n f := ⟨We.lt_of_cells h, fun i hi => ⟨h.cell i hi, h256 i hi⟩⟩
theorem upd_below {w w' : World} {g : Nat} {r : Option Nat} (h : Below w.heap.size w w') : Upd g r r w w' := ⟨kept_below h, .inl rfl⟩
theorem WrB.below {w w' : World} {B g : Nat} {r : Option Nat} {P : Bs} (h : WrB w B g r P) (hb : Below w.heap.size w w') : WrB w' B g r P := Wr.stay h fun i hi _ => hb.block i hi
theorem Pcs.upd {w w' : World} {A : Option Addr} {K n B g : Nat} {r r' : Option Nat} {P : Bs} {row : Nat → Nat} (h : Pcs w A K row n) (hw : WrB w B g r P) (hu : Upd g r r' w w') : Pcs w' A K row n :=
  h.stay fun _ _ hb => (farW_upd hw hu).cells hb (by decide) (by decide)
/-- What was written since a world. -/
theorem wr_since {w wS wr : World} {B gw g : Nat} {r rS r1 : Option Nat} {P : Bs} (hw : WrB w B gw r P) (hg : w.heap.size ≤ g) (hgS : g < wS.heap.size) (hS : some g ≠ rS) (h2 : Upd gw rS r1 wS wr) : g ≠ gw ∧ some g ≠ r1 := by
  refine ⟨fun e => ?_, fun e => ?_⟩
  · have := Wr.lt hw
    omega
  · rcases h2.2 with h | ⟨j, h, hj⟩
    · exact hS (e.trans h)
    · rw [h] at e
      injection e with e
      omega
theorem wr_new_ne {w : World} {B gw g : Nat} {r : Option Nat} {P : Bs} (hw : WrB w B gw r P) (hg : w.heap.size ≤ g) : g ≠ gw ∧ some g ≠ r := by
  refine ⟨fun e => ?_, fun e => ?_⟩
  · have := Wr.lt hw
    omega
  · have := Wr.row_lt hw g e
    omega
/-- The rows of lengths in their order. -/
def ordList (L : Nat → Nat) : Nat → List Nat
  | 0 => []
  | k + 1 => ordList L k ++ [ordF L k]
theorem ordList_len (L : Nat → Nat) : ∀ k, (ordList L k).length = k
  | 0 => rfl
  | k + 1 => by rw [ordList, List.length_append, ordList_len L k]; rfl
theorem ordList_get (L : Nat → Nat) : ∀ k i, i < k → (ordList L k).getD i 0 = ordF L i
  | 0, i, h => by omega
  | k + 1, i, h => by
    rw [ordList, List.getD_eq_getElem?_getD]
    by_cases e : i < k
    · rw [List.getElem?_append_left (by rw [ordList_len]; exact e), ← List.getD_eq_getElem?_getD, ordList_get L k i e]
    · obtain rfl : i = k := by omega
      rw [List.getElem?_append_right (by rw [ordList_len]; exact Nat.le_refl _), ordList_len, Nat.sub_self]
      rfl
theorem info8r : (Try.prog.info? 5).map (fun i => (i.zero, i.size, i.bytes)) = some (some (.int .u8 0), 1, 1) := by kernel_rfl

theorem run_index_ord (W : World) : ∀ k : Nat, k < 19 → (Instr.index 153 (.agg Ij.ordV) (.int .i64 (k : Nat))).run Try.prog W = .ok (.int .i64 ((orderL.getD k 0 : Nat) : Int)) W
  | 0, _ => by kernel_rfl
  | 1, _ => by kernel_rfl
  | 2, _ => by kernel_rfl
  | 3, _ => by kernel_rfl
  | 4, _ => by kernel_rfl
  | 5, _ => by kernel_rfl
  | 6, _ => by kernel_rfl
  | 7, _ => by kernel_rfl
  | 8, _ => by kernel_rfl
  | 9, _ => by kernel_rfl
  | 10, _ => by kernel_rfl
  | 11, _ => by kernel_rfl
  | 12, _ => by kernel_rfl
  | 13, _ => by kernel_rfl
  | 14, _ => by kernel_rfl
  | 15, _ => by kernel_rfl
  | 16, _ => by kernel_rfl
  | 17, _ => by kernel_rfl
  | 18, _ => by kernel_rfl
  | k + 19, h => by omega

set_option maxHeartbeats 1000000 in
theorem putRow_any (Bw gw n cap : Nat) (A : Option Addr) (row : Nat → Nat) (r : Option Nat) (P : Bs) (hn : n ≤ 400) (h258 : 258 ≤ n) (h15 : ∀ i, i < n → row i ≤ 15) (hz : ∃ i, i < n ∧ row i ≠ 0) (hL : P.2 ≤ 100000000) (w : World) (hB : Bw ≤ w.heap.size) (hR : Lens w A n row) (hw : WrB w Bw gw r P) :
    Calls Try.prog 67 #[.pointer (some ⟨gw, 0, none⟩), .slice A n cap] w fun e w' => e = .returned (.tuple #[]) ∧ Emits w Bw gw r (P.app (rowBs row n)) w' := by
  have HP := Lib.hid (pieces_any A n cap row (by omega) w hR)
  have hsp := split_ex row n
  have HSP := Lib.hid hsp
  have hmay := rowC_may h258 h15 hz
  have HMAY := Lib.hid hmay
  have HPB := Lib.hid (fun i (hi : i < kN row n) => pc_bd row n (pzN row n i) (by have := h15 _ (hsp.2 i hi); omega))
  have HPR := Lib.hid (fun i (hi : i < kN row n) => (pc_bd row n (pzN row n i) (by have := h15 _ (hsp.2 i hi); omega)).2.2.1)
  have HL7 := Lib.hid (rowL_le row n)
  have HOR := Lib.hid (fun W => Ij.order_any W)
  have hza := Ij.zero_arr
  have hmk : ∀ W : World, (Instr.makeSlice 119 (.int .i64 19) (.int .i64 19)).run Try.prog W = .ok (.slice (some ⟨W.heap.size, 0, none⟩) 19 19) (W.alloc (.cells (madeCells #[.int .u32 0] 19) 54)) := fun W => run_make_row' (P := Try.prog) 119 54 (.int .u32 0) 4 Try.underlying119 info32 rfl .i64 .i64 19 (by omega) (by omega) W
  have HW := Lib.hid hw
  have hzp := zero_pc
  have hip := info_pc
  clear hR hw hsp hmay h15 hz h258
  go_enter Try.func67, Try.ntmps67
  go_wp2_with fail
  refine (HP.out).mono ?_; rintro e w1 ⟨K, A1, c1, rfl, hKn, hsp1, hpc, hb1⟩
  obtain rfl := kN_of hsp1
  have HPC1 := Lib.hid hpc
  have HB1 := Lib.hid hb1
  clear hpc hb1 hsp1 HP
  go_wp2_with fail
  refine (HOR.out _).mono ?_; rintro e w2 ⟨rfl, hb2⟩
  have HB2 := Lib.hid (HB1.out.trans (hb2.mono HB1.out.size))
  have HPC2 := Lib.hid (HPC1.out.stay (w' := w2) (fun i cs h => (hb2.block i (lt_of_heap h)).trans h))
  clear hb2
  go_wp2_with (refine wpList_store_row rfl 153 (.tmp 5) (.tmp 22) rfl w2.heap.size Ij.ordV rfl rfl 153 Ij.zeroA (heap_alloc_new w2 _) Ij.info_ord rfl Ij.ord_one ?_)
  have hbx : Below w2.heap.size w2 ((w2.alloc (.cells Ij.zeroA 153)).setRow w2.heap.size Ij.ordV) := below_setRow ((Below.refl _ _).alloc (Nat.le_refl _) _) (Nat.le_refl _) _
  have HO3 : Hid (((w2.alloc (.cells Ij.zeroA 153)).setRow w2.heap.size Ij.ordV).heap[w2.heap.size]? = some (.cells Ij.ordV 153 (0, 0))) := setRow_heap _ _ _ Ij.ordV _ _ (heap_alloc_new w2 _)
  have HPC3 := Lib.hid (HPC2.out.stay (fun i cs h => (hbx.block i (lt_of_heap h)).trans h))
  have HB3 := Lib.hid (HB2.out.trans (hbx.mono HB2.out.size))
  have hs3 : ((w2.alloc (.cells Ij.zeroA 153)).setRow w2.heap.size Ij.ordV).heap.size = w2.heap.size + 1 := by simp
  generalize (w2.alloc (.cells Ij.zeroA 153)).setRow w2.heap.size Ij.ordV = w3 at *
  generalize w2.heap.size = gO at *
  have HS3 := Lib.hid hs3
  clear hs3
  clear hbx HPC1 HPC2 HB1 HB2 HOR hza
  have hby : Below w3.heap.size w3 (w3.alloc (.cells (madeCells #[.int .u32 0] 19) 54)) := (Below.refl _ _).alloc (Nat.le_refl _) _
  have hr4 : IsRowU (w3.alloc (.cells (madeCells #[.int .u32 0] 19) 54)) w3.heap.size 19 (fun _ => 0) := by
    show _ = _
    rw [← rowU_made]
    exact heap_alloc_new w3 _
  have HR4 := Lib.hid hr4
  have HO4 := Lib.hid ((hby.block gO (lt_of_heap HO3.out)).trans HO3.out)
  have HPC4 := Lib.hid (HPC3.out.stay (fun i cs h => (hby.block i (lt_of_heap h)).trans h))
  have HB4 := Lib.hid (HB3.out.trans (hby.mono HB3.out.size))
  have HGC : Hid (w.heap.size ≤ w3.heap.size) := HB3.out.size
  clear hby hr4 HO3 HPC3 HB3
  go_wp2_with fail
  generalize w3.alloc (.cells (madeCells #[.int .u32 0] 19) 54) = w4 at *
  have hgC := HS3.out
  generalize w3.heap.size = gC at *
  rw [← hgC]
  have HGO := Lib.hid hgC
  clear hgC HS3
  go_loopw [26] (fun i wr => ∃ k : Nat, k ≤ kN row n ∧ i = .int .i64 (k : Nat) ∧ Hid (IsRowU wr gC 19 (cntP row n k)) ∧ Hid (Kept (fun j => j = gC) w4 wr)) (fun i _ => kN row n - (intOf i).toNat)
  case atStart => exact ⟨0, Nat.zero_le _, rfl, HR4, Kept.refl _ _⟩
  case round =>
    obtain ⟨k, hk, rfl, HC, HK⟩ := hrel
    by_cases hkn : k < kN row n
    · obtain ⟨b, rfl, ⟨cs, hbb⟩, hpcs⟩ := HPC4.out (by omega)
      have hne : b ≠ gC := fun e => by
        subst e
        have h := HR4.out
        unfold IsRowU at h
        rw [hbb] at h
        injection h with h
        injection h with _ h _
        revert h
        decide
      have hce : ∀ j, wr.cell? ⟨b, j, none⟩ = w4.cell? ⟨b, j, none⟩ := fun j => World.cell?_of_block (a := ⟨b, j, none⟩) (HK.out.block b (lt_of_heap hbb) hne)
      obtain ⟨c0, c1, c2⟩ := hpcs k hkn
      rw [← hce] at c0 c1 c2
      have hsg := (HPB.out k hkn).1
      have hcl := cntP_le row n k (pkN row n k).sg
      have HST : Hid (cntP row n (k + 1) = bump (cntP row n k) (pkN row n k).sg) := rfl
      have hsg2 : (pkN row n k).sg < 19 := hsg
      clear hpcs hbb hce hne hsg
      generalize pkN row n k = T at *
      obtain ⟨ts, tm, tr, tn⟩ := T
      dsimp only at *
      have HC6 : Hid (IsRowU (wr.alloc (.cells #[.int .i64 (ts : Nat), .int .i64 (tm : Nat), .int .u32 (tr : Nat)] 156)) gC 19 (cntP row n k)) := HC.out.alloc _
      have HK6 : Hid (Kept (fun j => j = gC) w4 (wr.alloc (.cells #[.int .i64 (ts : Nat), .int .i64 (tm : Nat), .int .u32 (tr : Nat)] 156))) := HK.out.then (kept_alloc (fun _ => False) wr _) (fun _ _ e => e.elim)
      have HX6 : Hid ((wr.alloc (.cells #[.int .i64 (ts : Nat), .int .i64 (tm : Nat), .int .u32 (tr : Nat)] 156)).heap[wr.heap.size]? = some (.cells #[.int .i64 (ts : Nat), .int .i64 (tm : Nat), .int .u32 (tr : Nat)] 156 (0, 0))) := heap_alloc_new wr _
      go_upto_region 6 with fail
      generalize wr.alloc (.cells #[.int .i64 (ts : Nat), .int .i64 (tm : Nat), .int .u32 (tr : Nat)] 156) = w6 at *
      have k0 := (cell_of_row _ _ 0 _ _ _ HX6.out).trans (show _ = some (Value.int .i64 (ts : Nat)) from rfl)
      have u0 := HC6.out.cell ts hsg2
      have uf := HC6.out.frozen ts
      have hsum : ((cntP row n k ts : Nat) : Int) + 1 = ((cntP row n k ts + 1 : Nat) : Int) := by omega
      have hwu : IntKind.u32.wrap ((cntP row n k ts + 1 : Nat) : Int) = ((cntP row n k ts + 1 : Nat) : Int) := by rw [IntKind.wrap_u32]; omega
      have HN6 : Hid (IsRowU (w6.setCell ⟨gC, ts, none⟩ (.int .u32 ((cntP row n k ts + 1 : Nat) : Int))) gC 19 (bump (cntP row n k) ts)) := HC6.out.set ts _ hsg2
      have HKN := Lib.hid (HK6.out.then (kept_set w6 gC ts (.int .u32 ((cntP row n k ts + 1 : Nat) : Int))) (fun _ _ e => e))
      have htI : (ts : Int) < 19 := by omega
      generalize cntP row n k ts + 1 = v1 at *
      generalize cntP row n k ts = v0 at *
      go_wp2_with fail
      go_roundw
      case rel => exact ⟨k + 1, by omega, by go_num, by rw [HST.out]; exact HN6, HKN⟩
      case measure => simp [intOf]; omega
    · obtain rfl : k = kN row n := by omega
      have hB5 : Below w.heap.size w wr := HB4.out.trans (HK.out.below (fun i e => by rw [e]; exact HGC.out) HB4.out.size)
      have HB5 := Lib.hid hB5
      have HO5 : Hid (wr.heap[gO]? = some (.cells Ij.ordV 153 (0, 0))) := (HK.out.block gO (lt_of_heap HO4.out) (fun e => by
        have h := HR4.out
        unfold IsRowU at h
        rw [← e, HO4.out] at h
        injection h with h
        injection h with _ h _
        revert h
        decide)).trans HO4.out
      have HPC5 := Lib.hid (HPC4.out.stay (w' := wr) (fun i cs h => (HK.out.block i (lt_of_heap h) (fun e => by
        have h2 := HR4.out
        unfold IsRowU at h2
        rw [← e, h] at h2
        injection h2 with h2
        injection h2 with _ h2 _
        revert h2
        decide)).trans h))
      have hcts : We.Cts wr (some ⟨gC, 0, none⟩) 19 (cntP row n (kN row n)) := fun _ => ⟨gC, 0, rfl, HC.out.lt, fun i hi => ⟨by rw [Nat.zero_add]; exact HC.out.cell i hi, by have := cntP_le row n (kN row n) i; omega⟩⟩
      have HWG := Lib.hid (We.weigh_any (some ⟨gC, 0, none⟩) 19 19 7 (cntP row n (kN row n)) wr hcts (by omega) (by omega) (by omega) (rowL_pow row n))
      clear hcts hB5 HK HC
      rw [show ((7 : Nat) : Int) = 7 from rfl] at HWG
      go_wp2_with fail
      (with_reducible refine (HWG.out).mono ?_); rintro e w5 ⟨gl, rfl, hlen, hgl, hb5⟩
      have HROW : Hid (RowAt w5 gl 19 (rowL row n)) := isLen_row hlen (fun i hi => Nat.lt_of_le_of_lt (HL7.out i hi) (by decide))
      have HB6 := Lib.hid (HB5.out.trans (hb5.mono HB5.out.size))
      have HGL : Hid (w.heap.size ≤ gl) := Nat.le_trans HB5.out.size hgl
      have HO6 := Lib.hid ((hb5.block gO (lt_of_heap HO5.out)).trans HO5.out)
      have HPC6 := Lib.hid (HPC5.out.stay (fun i cs h => (hb5.block i (lt_of_heap h)).trans h))
      clear hlen hgl hb5 HWG HB5 HO5 HPC5 HR4 HO4 HPC4 HB4
      go_wp2_with (refine wpList_load_row rfl 153 (.tmp 5) rfl gO rfl 153 Ij.ordV (0, 0) _ HO6.out Try.underlying153 rfl Ij.info_ord ?_)
      have HB0 : Hid (w.heap.size ≤ w5.heap.size) := HB6.out.size
      obtain ⟨i8, hi8, h80, h81, h82⟩ := info_parts info8r
      go_loopw [11, 44] (fun v i wr => ∃ k : Nat, k ≤ 19 ∧ i = .int .i64 (k : Nat) ∧ Hid (wr.ownsRow w5.heap.size 5 1 v k (cells8 (ordList (rowL row n) k))) ∧ Hid (Below w5.heap.size w5 wr)) (fun _ i _ => 19 - (intOf i).toNat)
      case atStart => exact ⟨0, Nat.zero_le _, rfl, World.ownsRow_nil _ _ _ _, Below.refl _ _⟩
      case round =>
        obtain ⟨k, hk, rfl, HO, HB⟩ := hrel
        by_cases hkn : k < 19
        · have hix := run_index_ord wr k hkn
          have ho19 := ord_lt19 k hkn
          have HLS : Hid (cells8 (ordList (rowL row n) (k + 1)) = cells8 (ordList (rowL row n) k) ++ [.int .u8 (rowL row n (orderL.getD k 0) : Nat)]) := by
            show _ = _
            rw [ordList, cells8_app]
            rfl
          have cl := ((HROW.out.below HB.out).2 (orderL.getD k 0) ho19).1
          generalize orderL.getD k 0 = q at *
          generalize rowL row n q = x at *
          have hqI : (q : Int) < 19 := by omega
          obtain ⟨A2, cp2, rfl⟩ := row_slice' HO.out
          have HSZ : Hid (w5.heap.size ≤ wr.heap.size) := HB.out.size
          go_wp2_with (at_builtin; go_must (refine wpList_append_own _ rfl _ _ 29 rfl w5.heap.size 5 i8 (.int .u8 0) 1 1 Try.underlying29 hi8 h80 h81 h82 rfl (by decide) _ _ _ rfl (HO.out.alloc _) ⟨wr.heap.size, 0, none⟩ 1 1 [.int .u8 (x : Nat)] rfl rfl ?c1 ?c2 ?c3 ?c4 ?c5 ?_))
          case c1 =>
            intro j u hj
            match j, hj with
            | 0, hj => simp at hj; subst hj; simp [Addr.add]
          case c2 => intro u hu; simp at hu; subst hu; rfl
          case c3 => unfold maxLen; omega
          case c4 => omega
          case c5 => have := HSZ.out; simp; omega
          intro v' w6 hown6 hgrow6 _
          have HO6' := Lib.hid hown6
          have HB7 : Hid (Below w5.heap.size w5 w6) := (HB.out.alloc HSZ.out _).grown hgrow6 (by have := HSZ.out; simp; omega) (fun h e => (HO.out.lt h e).1)
          clear hown6 hgrow6
          go_wp2_with fail
          go_roundw
          case rel => exact ⟨k + 1, by omega, by go_num, by rw [HLS.out]; exact HO6', HB7⟩
          case measure => simp [intOf]; omega
        · obtain rfl : k = 19 := by omega
          obtain ⟨A2, cp2, rfl⟩ := row_slice' HO.out
          obtain ⟨g2, rfl⟩ : ∃ g2, A2 = some ⟨g2, 0, none⟩ := by
            rcases ownsRow_forms HO.out with ⟨h0, h1⟩ | ⟨g2, cap2, h1⟩
            · omega
            · injection h1 with h1 _ _
              exact ⟨g2, h1⟩
          have hcp : 19 ≤ cp2 := by
            rcases HO.out.2 with ⟨h0, _⟩ | ⟨g3, cap3, cur, hv, _, _, h1, _⟩
            · cases h0
            · injection hv with _ _ h3
              omega
          have ho2 := own_cells8 HO.out (ordList_len (rowL row n) 19)
          have HRO : Hid (RowAt wr g2 19 (ordF (rowL row n))) := ⟨ho2.1, fun i hi => ⟨by rw [ho2.2 i hi, ordList_get _ 19 i hi], by have := HL7.out _ (ord_lt19 i hi); show rowL row n (orderL.getD i 0) < 256; omega⟩⟩
          have HG2 : Hid (w.heap.size ≤ g2) := Nat.le_trans HB6.out.size (HO.out.lt g2 rfl).1
          have HRL := Lib.hid (HROW.out.below HB.out)
          have HPC7 := Lib.hid (HPC6.out.stay (w' := wr) (fun i cs h => (HB.out.block i (lt_of_heap h)).trans h))
          have HB7 := Lib.hid (HB6.out.trans (HB.out.mono HB6.out.size))
          have HSH := Lib.hid (short_any (some ⟨g2, 0, none⟩) 19 cp2 4 (ordF (rowL row n)) (by omega) (by omega) hcp wr (HRO.out.lens 19 (Nat.le_refl _)))
          have hh : shrN (ordF (rowL row n)) 4 19 = rowH row n := rfl
          have hh4 := shrN_ge (ordF (rowL row n)) 4 19 (by omega)
          have hh19 := shrN_le (ordF (rowL row n)) 4 19
          rw [hh] at HSH hh4 hh19
          rw [show ((4 : Nat) : Int) = 4 from rfl] at HSH
          have hcpl := HO.out
          clear hh hcpl ho2 hcp HPC6 HROW HB6
          generalize hHH : rowH row n = H at *
          have HH := Lib.hid hHH
          clear hHH
          have hws : WrB wr Bw gw r P := Wr.stay HW.out fun i hi _ => HB7.out.block i hi
          have HWR0 := Lib.hid (write_b Bw gw (H - 4) 4 r P (by omega) (by omega) (by omega) wr (Nat.le_trans hB HB7.out.size) hws)
          have HWS := Lib.hid hws
          have hq1 : ((H : Nat) : Int) - 4 = ((H - 4 : Nat) : Int) := by omega
          have hq2 : IntKind.u32.wrap ((H - 4 : Nat) : Int) = ((H - 4 : Nat) : Int) := by rw [IntKind.wrap_u32]; omega
          rw [show ((4 : Nat) : Int) = 4 from rfl] at HWR0
          clear hws
          go_wp2_with fail
          (with_reducible refine (HSH.out).mono ?_); rintro e w7 ⟨rfl, rfl⟩
          go_wp2_with fail
          (with_reducible refine (HWR0.out).mono ?_); rintro e w7 ⟨rfl, r7, hw7, hu7⟩
          have hne2 := wr_new_ne HW.out HG2.out
          have hne3 := wr_new_ne HW.out HGL.out
          have hn2 := wr_since HW.out HG2.out HRO.out.1 hne2.2 hu7
          have hn3 := wr_since HW.out HGL.out HRL.out.1 hne3.2 hu7
          have HN2 := Lib.hid hn2
          have HN3 := Lib.hid hn3
          have HRO7 := Lib.hid (HRO.out.upd hu7 hne2.1 hne2.2)
          have HRL7 := Lib.hid (HRL.out.upd hu7 hne3.1 hne3.2)
          have HPC8 := Lib.hid (HPC7.out.upd HWS.out hu7)
          have HU7 := Lib.hid ((upd_below (g := gw) (r := r) HB7.out).then hu7)
          have HW7 := Lib.hid hw7
          have HBW7 : Hid (Bw ≤ w7.heap.size) := Nat.le_trans (Nat.le_trans hB HB7.out.size) hu7.1.size
          clear hw7 hu7 hne2 hne3 hn2 hn3 HSH HWR0 HRO HRL HPC7 HWS HO HB HB7
          generalize hQ0 : P.app (wB (H - 4) 4) = Q0 at *
          have hQ0l : Q0.2 ≤ 100000004 := by rw [← hQ0]; show P.2 + 4 ≤ _; omega
          have HQ0 := Lib.hid hQ0
          clear hQ0
          go_wp2_with fail
          go_loopw [65] (fun i wr3 => ∃ (k : Nat) (r3 : Option Nat), k ≤ H ∧ i = .int .i64 (k : Nat) ∧ Hid (WrB wr3 Bw gw r3 (Q0.app (threeB (rowL row n) k))) ∧ Hid (Upd gw r7 r3 w7 wr3)) (fun i _ => H - (intOf i).toNat)
          case atStart => exact ⟨0, r7, Nat.zero_le _, rfl, by rw [Hid, threeB, bs_nil]; exact HW7.out, Upd.refl _ _ _⟩
          case round =>
            obtain ⟨k, r3, hk3, rfl, HWk, HUk⟩ := hrel
            have hlen3 := threeB_len (rowL row n) k
            by_cases hkh : k < H
            · have ck := ((HRO7.out.upd HUk.out HN2.out.1 HN2.out.2).2 k (by omega))
              have HST : Hid (threeB (rowL row n) (k + 1) = (threeB (rowL row n) k).app (wB (ordF (rowL row n) k) 3)) := rfl
              have hQk : (Q0.app (threeB (rowL row n) k)).2 ≤ 200000000 := by show Q0.2 + (threeB (rowL row n) k).2 ≤ _; omega
              have c1k := ck.1
              have hx256 := ck.2
              have HWR3 := Lib.hid (write_b Bw gw (ordF (rowL row n) k) 3 r3 _ (by omega) (by omega) (by omega) wr (Nat.le_trans HBW7.out HUk.out.1.size) HWk.out)
              rw [show ((3 : Nat) : Int) = 3 from rfl] at HWR3
              clear ck hlen3 hQk
              generalize ordF (rowL row n) k = x at *
              have hxw : IntKind.u32.wrap (x : Int) = (x : Int) := by rw [IntKind.wrap_u32]; omega
              go_wp2_with fail
              (with_reducible refine (HWR3.out).mono ?_); rintro e w8 ⟨rfl, r8, hw8, hu8⟩
              have HW8 := Lib.hid hw8
              have HU8 := Lib.hid (HUk.out.then hu8)
              clear hw8 hu8
              go_wp2_with fail
              go_roundw
              case rel => exact ⟨k + 1, r8, by omega, by go_num, by rw [Hid, HST.out, ← bs_assoc]; exact HW8.out, HU8⟩
              case measure => simp [intOf]; omega
            · obtain rfl : k = H := by omega
              have HRLk := Lib.hid (HRL7.out.upd HUk.out HN3.out.1 HN3.out.2)
              have HNEW := Lib.hid (code_new (some ⟨gl, 0, none⟩) 19 false (rowC row n) (show (19 : Nat) ≤ 4096 by omega) (fun i hi => Nat.le_trans (HL7.out i hi) (by omega)) HMAY.out wr (HRLk.out.lens 19 (Nat.le_refl _)))
              have HPC9 := Lib.hid (HPC8.out.upd HW7.out HUk.out)
              have hQk : (Q0.app (threeB (rowL row n) k)).2 ≤ 100000100 := by show Q0.2 + (threeB (rowL row n) k).2 ≤ _; omega
              have HBk : Hid (Bw ≤ wr.heap.size) := Nat.le_trans HBW7.out HUk.out.1.size
              generalize hQ1 : Q0.app (threeB (rowL row n) k) = Q1 at *
              have HQ1 := Lib.hid hQ1
              clear hlen3 hQ1
              go_wp2_with fail
              (refine (HNEW.out).mono ?_); rintro e w8 ⟨gc, rfl, hcd, hb8⟩
              have HCD := Lib.hid hcd
              have HW8 := Lib.hid (HWk.out.below hb8)
              have HU8 := Lib.hid (HU7.out.then (HUk.out.then (upd_below hb8)))
              have HPC10 := Lib.hid (HPC9.out.upd HWk.out (upd_below (g := gw) (r := r3) hb8))
              have HB8 : Hid (Bw ≤ w8.heap.size) := Nat.le_trans HBk.out hb8.size
              clear hcd hb8 HNEW HWk HUk HPC9 HPC8 HW7 HU7 HRLk
              go_wp2_with fail
              go_loopw [81] (fun i wr4 => ∃ (k4 : Nat) (r4 : Option Nat), k4 ≤ kN row n ∧ i = .int .i64 (k4 : Nat) ∧ Hid (WrB wr4 Bw gw r4 (Q1.app (pcB (rowC row n) row n k4))) ∧ Hid (Upd gw r r4 w wr4) ∧ Hid (CodeAt wr4 gc (rowC row n)) ∧ Hid (Pcs wr4 A1 (kN row n) row n) ∧ Hid (Bw ≤ wr4.heap.size)) (fun i _ => kN row n - (intOf i).toNat)
              case atStart => exact ⟨0, r3, Nat.zero_le _, rfl, by rw [Hid, pcB, bs_nil]; exact HW8.out, HU8, HCD, HPC10, HB8⟩
              case round =>
                obtain ⟨k4, r4, hk4, rfl, HWk, HUk, HCk, HPk, HBk4⟩ := hrel
                by_cases hkn4 : k4 < kN row n
                · obtain ⟨b, rfl, _, hpcs⟩ := HPk.out (by omega)
                  obtain ⟨c0, c1', c2'⟩ := hpcs k4 hkn4
                  have hpb := HPB.out k4 hkn4
                  have hmo : (pkN row n k4).mo ≤ 7 := hpb.2.1
                  have hre : (pkN row n k4).re < 128 := hpb.2.2.1
                  have hpl := pcB_le (rowC row n) row n (fun i hi => HL7.out i hi) k4 (fun i hi => (HPB.out i (by omega)).2.1)
                  have hQk4 : (Q1.app (pcB (rowC row n) row n k4)).2 ≤ 200000000 := by show Q1.2 + (pcB (rowC row n) row n k4).2 ≤ _; omega
                  have HST : Hid (pcB (rowC row n) row n (k4 + 1) = (pcB (rowC row n) row n k4).app ((sgB (rowC row n) (pkN row n k4).sg).app (wB (pkN row n k4).re (pkN row n k4).mo))) := rfl
                  clear hpcs hpb hpl
                  generalize pkN row n k4 = T at *
                  obtain ⟨ts, tm, tr, tn⟩ := T
                  dsimp only at *
                  have hba : Below wr.heap.size wr (wr.alloc (.cells #[.int .i64 (ts : Nat), .int .i64 (tm : Nat), .int .u32 (tr : Nat)] 156)) := (Below.refl _ _).alloc (Nat.le_refl _) _
                  have HX6 : Hid ((wr.alloc (.cells #[.int .i64 (ts : Nat), .int .i64 (tm : Nat), .int .u32 (tr : Nat)] 156)).heap[wr.heap.size]? = some (.cells #[.int .i64 (ts : Nat), .int .i64 (tm : Nat), .int .u32 (tr : Nat)] 156 (0, 0))) := heap_alloc_new wr _
                  have HW6 := Lib.hid (HWk.out.below hba)
                  have HU6 := Lib.hid (HUk.out.then (upd_below (g := gw) (r := r4) hba))
                  have HC6 := Lib.hid (HCk.out.far (farW_below hba))
                  have HP6 := Lib.hid (HPk.out.upd HWk.out (upd_below (g := gw) (r := r4) hba))
                  have HB6 : Hid (Bw ≤ (wr.alloc (.cells #[.int .i64 (ts : Nat), .int .i64 (tm : Nat), .int .u32 (tr : Nat)] 156)).heap.size) := Nat.le_trans HBk4.out hba.size
                  clear hba
                  go_upto_region 26 with fail
                  generalize wr.alloc (.cells #[.int .i64 (ts : Nat), .int .i64 (tm : Nat), .int .u32 (tr : Nat)] 156) = w6 at *
                  have k0 := (cell_of_row _ _ 0 _ _ _ HX6.out).trans (show _ = some (Value.int .i64 (ts : Nat)) from rfl)
                  have k1 := (cell_of_row _ _ 1 _ _ _ HX6.out).trans (show _ = some (Value.int .i64 (tm : Nat)) from rfl)
                  have k2 := (cell_of_row _ _ 2 _ _ _ HX6.out).trans (show _ = some (Value.int .u32 (tr : Nat)) from rfl)
                  have HNM := Lib.hid (bnumber_any gw gc ts tm tr Bw r4 _ (rowC row n) (by omega) (by omega) (by omega) w6 HB6.out HC6.out HW6.out)
                  clear hQk4
                  go_wp2_with fail
                  (with_reducible refine (HNM.out).mono ?_); rintro e w9 ⟨rfl, r9, hw9, hu9⟩
                  have HW9 := Lib.hid hw9
                  have HU9 := Lib.hid (HU6.out.then hu9)
                  have HC9 := Lib.hid (HC6.out.far (farW_upd HW6.out hu9))
                  have HP9 := Lib.hid (HP6.out.upd HW6.out hu9)
                  have HB9 : Hid (Bw ≤ w9.heap.size) := Nat.le_trans HB6.out hu9.1.size
                  clear hw9 hu9 k0 k1 k2
                  go_wp2_with fail
                  go_roundw
                  case rel => exact ⟨k4 + 1, r9, by omega, by go_num, by rw [Hid, HST.out, ← bs_assoc, ← bs_assoc]; exact HW9.out, HU9, HC9, HP9, HB9⟩
                  case measure => simp [intOf]; omega
                · obtain rfl : k4 = kN row n := by omega
                  have HFIN : Hid (Emits w Bw gw r (P.app (rowBs row n)) wr) := by
                    refine ⟨r4, ?_, HUk.out⟩
                    have h := HWk.out
                    rw [← HQ1.out, ← HQ0.out] at h
                    unfold rowBs
                    rw [HH.out, ← bs_assoc, ← bs_assoc]
                    exact h
                  go_wp2_with fail
                  go_end0
                  exact ⟨rfl, HFIN.out⟩
end Go.Proofs.Ytfhbkidceombbaa

namespace Go.Proofs.Ytfhbkidceombbaa
set_option maxRecDepth 100000
open Go.RowKit Go.Joins Go.Deep

theorem fill_shr (ls : Nat → Nat) (l : Nat) : ∀ n, fillN ls (shrN ls l n) = fillN ls n
  | 0 => rfl
  | n + 1 => by
    rw [shrN]
    split
    · rename_i h
      rw [fill_shr ls l n, fillN, if_pos h.2, Nat.add_zero]
    · rfl
theorem sum_shr (ls : Nat → Nat) (l : Nat) : ∀ n, sumN ls (shrN ls l n) = sumN ls n
  | 0 => rfl
  | n + 1 => by
    rw [shrN]
    split
    · rename_i h
      rw [sum_shr ls l n, sumN, h.2, Nat.add_zero]
    · rfl
theorem fill_one (ls : Nat → Nat) : ∀ n, (∀ i, i < n → ls i ≤ 1) → fillN ls n = 16384 * sumN ls n
  | 0, _ => rfl
  | n + 1, h => by
    have h1 := h n (by omega)
    rw [fillN, sumN, fill_one ls n fun i hi => h i (by omega)]
    by_cases h0 : ls n = 0
    · rw [if_pos h0, h0]; omega
    · rw [if_neg h0, show ls n = 1 by omega]
      show _ + 16384 = _
      omega
theorem may_shr (f : Nat → Nat) (n l : Nat) (hn : n ≤ 400) : may ⟨shrN (We.lensF f n 15) l n, We.lensF f n 15⟩ true := by
  have hp : (We.comeL f n).length ≤ 2 ^ 15 := by have := We.comeL_le f n; omega
  unfold may
  dsimp only
  rw [fill_shr, sum_shr]
  by_cases h2 : 2 ≤ (We.comeL f n).length
  · have h := We.lensF_fill f n 15 (by omega) (by omega) (by omega) hp h2
    exact ⟨Nat.le_of_eq h, .inl h⟩
  · have h1 : ∀ i, i < n → (0 < We.lensF f n 15 i ↔ 0 < f i) ∧ We.lensF f n 15 i ≤ 1 := fun i hi => by
      obtain ⟨a, _, c⟩ := We.lensF_iff f n 15 (by omega) (by omega) hp i hi
      exact ⟨a, c (by omega)⟩
    have hs := We.sum_come f (We.lensF f n 15) n h1
    have hf := fill_one (We.lensF f n 15) n fun i hi => (h1 i hi).2
    refine ⟨by omega, .inr ⟨rfl, by omega⟩⟩
theorem cA_256 (f : Nat → Tok) : ∀ k, 0 < cA f k 256
  | 0 => by unfold cA; decide
  | k + 1 => by
    have ih := cA_256 f k
    rw [cA]
    split
    · split <;> (unfold bump; split <;> omega)
    · exact ih
noncomputable def dLS (f : Nat → Tok) (n : Nat) : Nat → Nat := We.lensF (cA f n) 286 15
noncomputable def dLD (f : Nat → Tok) (n : Nat) : Nat → Nat := We.lensF (cB f n) 30 15
noncomputable def dHS (f : Nat → Tok) (n : Nat) : Nat := shrN (dLS f n) 257 286
noncomputable def dHD (f : Nat → Tok) (n : Nat) : Nat := shrN (dLD f n) 1 30
noncomputable def dynS (f : Nat → Tok) (n : Nat) : Cod := ⟨dHS f n, dLS f n⟩
noncomputable def dynD (f : Nat → Tok) (n : Nat) : Cod := ⟨dHD f n, dLD f n⟩
noncomputable def dRow (f : Nat → Tok) (n i : Nat) : Nat := if i < dHS f n then dLS f n i else dLD f n (i - dHS f n)
noncomputable def dynB (f : Nat → Tok) (n : Nat) : Bs := ((wB (dHS f n - 257) 5).app (wB (dHD f n - 1) 5)).app (rowBs (dRow f n) (dHS f n + dHD f n))
theorem dHS_bd (f : Nat → Tok) (n : Nat) : 257 ≤ dHS f n ∧ dHS f n ≤ 286 := ⟨shrN_ge _ _ _ (by omega), shrN_le _ _ _⟩
theorem dHD_bd (f : Nat → Tok) (n : Nat) : 1 ≤ dHD f n ∧ dHD f n ≤ 30 := ⟨shrN_ge _ _ _ (by omega), shrN_le _ _ _⟩
theorem pow286 (f : Nat → Nat) (n : Nat) (hn : n ≤ 400) : (We.comeL f n).length ≤ 2 ^ 15 := by have := We.comeL_le f n; omega
theorem dLS_le (f : Nat → Tok) (n i : Nat) (hi : i < 286) : dLS f n i ≤ 15 := (We.lensF_iff _ 286 15 (by omega) (by omega) (pow286 _ _ (by omega)) i hi).2.1
theorem dLD_le (f : Nat → Tok) (n i : Nat) (hi : i < 30) : dLD f n i ≤ 15 := (We.lensF_iff _ 30 15 (by omega) (by omega) (pow286 _ _ (by omega)) i hi).2.1
theorem dLS_pos (f : Nat → Tok) (n i : Nat) (hi : i < 286) : 0 < dLS f n i ↔ 0 < cA f n i := (We.lensF_iff _ 286 15 (by omega) (by omega) (pow286 _ _ (by omega)) i hi).1
theorem dLD_pos (f : Nat → Tok) (n i : Nat) (hi : i < 30) : 0 < dLD f n i ↔ 0 < cB f n i := (We.lensF_iff _ 30 15 (by omega) (by omega) (pow286 _ _ (by omega)) i hi).1
theorem dRow_le (f : Nat → Tok) (n i : Nat) (hi : i < dHS f n + dHD f n) : dRow f n i ≤ 15 := by
  have h1 := dHS_bd f n
  have h2 := dHD_bd f n
  unfold dRow
  split
  · exact dLS_le f n i (by omega)
  · exact dLD_le f n _ (by omega)
theorem dRow_nz (f : Nat → Tok) (n : Nat) : ∃ i, i < dHS f n + dHD f n ∧ dRow f n i ≠ 0 := by
  have h1 := dHS_bd f n
  refine ⟨256, by omega, ?_⟩
  have h2 := (dLS_pos f n 256 (by omega)).2 (cA_256 f n)
  rw [dRow, if_pos (by omega)]
  omega
/-- The first so many of a function. -/
def lstF (L : Nat → Nat) (m : Nat) : List Nat := (List.range m).map L
theorem lstF_len (L : Nat → Nat) (m : Nat) : (lstF L m).length = m := by simp [lstF]
theorem lstF_get (L : Nat → Nat) (m i : Nat) (hi : i < m) : (lstF L m).getD i 0 = L i := by
  rw [List.getD_eq_getElem?_getD, lstF, List.getElem?_map, List.getElem?_range hi]
  rfl
theorem lstF_at (L : Nat → Nat) (m q : Nat) (u : Value) (h : (cells8 (lstF L m))[q]? = some u) : q < m ∧ u = .int .u8 (L q : Nat) := by
  have hq : q < m := by
    have := (List.getElem?_eq_some_iff.1 h).1
    rwa [cells8, List.length_map, lstF_len] at this
  refine ⟨hq, ?_⟩
  rw [cells8_at _ q (by rw [lstF_len]; exact hq), lstF_get L m q hq] at h
  injection h with h
  exact h.symm

theorem setRow_far (w : World) (g j : Nat) (cs : Array Value) (h : j ≠ g) : (w.setRow g cs).heap[j]? = w.heap[j]? := setRow_other w g j cs h
theorem Wr.row_ne' {w : World} {B g g' M L : Nat} {r : Option Nat} {cs : Array Value} {T : TypeId} (h : Wr w B g r M L) (hh : w.heap[g']? = some (.cells cs T (0, 0))) (hT : T ≠ 5) (e : some g' = r) : False := by
  obtain ⟨_, v, _, ho, hr, _⟩ := h
  exact row_ne hT ho hh (hr.trans e.symm)
set_option maxHeartbeats 4000000 in
theorem dynamic_any (Bw gw n cap : Nat) (A : Option Addr) (f : Nat → Tok) (r : Option Nat) (P : Bs) (hn : n ≤ 100000) (hL : P.2 ≤ 90000000) (w : World) (hB : Bw ≤ w.heap.size) (hT : Toks w A n f) (hw : WrB w Bw gw r P) :
    Calls Try.prog 29 #[.pointer (some ⟨gw, 0, none⟩), .slice A n cap] w fun e w' => CodsOk (dynS f n) (dynD f n) e w' ∧ Emits w Bw gw r (P.app (dynB f n)) w' := by
  have hb0 : Below w.heap.size w (w.alloc (.cells #[.pointer none, .pointer none] 63)) := (Below.refl _ _).alloc (Nat.le_refl _) _
  have HRB : Hid ((w.alloc (.cells #[.pointer none, .pointer none] 63)).heap[w.heap.size]? = some (.cells #[.pointer none, .pointer none] 63 (0, 0))) := heap_alloc_new w _
  have HCT := Lib.hid (counts_any A n cap f _ (hT.below (Nat.le_refl _) hb0) hn)
  have HB0 := Lib.hid hb0
  have HW := Lib.hid hw
  have hbs := dHS_bd f n
  have hbd := dHD_bd f n
  have hAle := cA_le f n
  have hBle := cB_le f n
  have hz1 := zeroA286
  have hz2 := zeroA30
  clear hb0 hT hw
  go_enter Try.func29, Try.ntmps29
  go_wp2_with fail
  generalize w.alloc (.cells #[.pointer none, .pointer none] 63) = w0 at *
  refine (HCT.out).mono ?_; rintro e w1 ⟨rfl, hb1⟩
  have HB1 := Lib.hid (HB0.out.trans (hb1.mono HB0.out.size))
  have HRB1 : Hid (w1.heap[w.heap.size]? = some (.cells #[.pointer none, .pointer none] 63 (0, 0))) := (hb1.block _ (lt_of_heap HRB.out)).trans HRB.out
  clear hb1 HCT HRB HB0
  generalize hFA : cA f n = FA at *
  generalize hFB : cB f n = FB at *
  have hx1 := heap_alloc_new w1 (.cells (arrU (fun _ => 0) 286) 113)
  have hx2 := heap_alloc_new (w1.alloc (.cells (arrU (fun _ => 0) 286) 113)) (.cells (arrU (fun _ => 0) 30) 114)
  have hx12 := (Below.heap_alloc (w1.alloc (.cells (arrU (fun _ => 0) 286) 113)) (.cells (arrU (fun _ => 0) 30) 114) w1.heap.size (by simp)).trans hx1
  have hsz1 : (w1.alloc (.cells (arrU (fun _ => 0) 286) 113)).heap.size = w1.heap.size + 1 := by simp
  rw [hsz1] at hx2
  have hx22 : (((w1.alloc (.cells (arrU (fun _ => 0) 286) 113)).alloc (.cells (arrU (fun _ => 0) 30) 114)).setRow w1.heap.size (arrU FA 286)).heap[w1.heap.size + 1]? = some (.cells (arrU (fun _ => 0) 30) 114 (0, 0)) :=
    (setRow_far _ _ _ _ (by omega)).trans hx2
  have HB2 : Hid (Below w1.heap.size w1 (((w1.alloc (.cells (arrU (fun _ => 0) 286) 113)).alloc (.cells (arrU (fun _ => 0) 30) 114)).setRow w1.heap.size (arrU FA 286))) := below_setRow (((Below.refl _ _).alloc (Nat.le_refl _) _).alloc (by simp) _) (Nat.le_refl _) _
  have HA2 : Hid ((((w1.alloc (.cells (arrU (fun _ => 0) 286) 113)).alloc (.cells (arrU (fun _ => 0) 30) 114)).setRow w1.heap.size (arrU FA 286)).heap[w1.heap.size]? = some (.cells (arrU FA 286) 113 (0, 0))) := setRow_heap _ _ _ (arrU FA 286) _ _ hx12
  have HX22 := Lib.hid hx22
  go_wp2_with (first
    | (refine wpList_store_row rfl 113 (.tmp 5) (.tmp 14) rfl w1.heap.size (arrU FA 286) rfl rfl 113 (arrU (fun _ => 0) 286) hx12 (infoA286 FA) (by rw [arrU_size, arrU_size]) (arrU_one FA 286) ?_)
    | (refine wpList_store_row rfl 114 (.tmp 6) (.tmp 15) rfl (w1.heap.size + 1) (arrU FB 30) rfl rfl 114 (arrU (fun _ => 0) 30) HX22.out (infoA30 FB) (by rw [arrU_size, arrU_size]) (arrU_one FB 30) ?_))
  have hb3 : Below w1.heap.size w1 ((((w1.alloc (.cells (arrU (fun _ => 0) 286) 113)).alloc (.cells (arrU (fun _ => 0) 30) 114)).setRow w1.heap.size (arrU FA 286)).setRow (w1.heap.size + 1) (arrU FB 30)) := below_setRow HB2.out (by omega) _
  have hA3 : ((((w1.alloc (.cells (arrU (fun _ => 0) 286) 113)).alloc (.cells (arrU (fun _ => 0) 30) 114)).setRow w1.heap.size (arrU FA 286)).setRow (w1.heap.size + 1) (arrU FB 30)).heap[w1.heap.size]? = some (.cells (arrU FA 286) 113 (0, 0)) := (setRow_far _ _ _ _ (by omega)).trans HA2.out
  have hB3' : ((((w1.alloc (.cells (arrU (fun _ => 0) 286) 113)).alloc (.cells (arrU (fun _ => 0) 30) 114)).setRow w1.heap.size (arrU FA 286)).setRow (w1.heap.size + 1) (arrU FB 30)).heap[w1.heap.size + 1]? = some (.cells (arrU FB 30) 114 (0, 0)) := setRow_heap _ _ _ (arrU FB 30) _ _ HX22.out
  have HA3 := Lib.hid hA3
  have HBB3 := Lib.hid hB3'
  have HB3 := Lib.hid (HB1.out.trans (hb3.mono HB1.out.size))
  have HRB3 := Lib.hid ((hb3.block _ (lt_of_heap HRB1.out)).trans HRB1.out)
  clear hb3 hA3 hB3' hx1 hx2 hx12 hx22 hsz1 HB2 HA2 HX22 HB1 HRB1 hz1 hz2
  generalize (((w1.alloc (.cells (arrU (fun _ => 0) 286) 113)).alloc (.cells (arrU (fun _ => 0) 30) 114)).setRow w1.heap.size (arrU FA 286)).setRow (w1.heap.size + 1) (arrU FB 30) = w3 at *
  generalize w1.heap.size = gA at *
  have hctA : We.Cts w3 (some ⟨gA, 0, none⟩) 286 FA := fun _ => ⟨gA, 0, rfl, lt_of_heap HA3.out, fun i hi => ⟨by rw [Nat.zero_add, cell_of_row w3 gA i _ _ _ HA3.out, arrU_get FA 286 i hi], by have := hAle i; omega⟩⟩
  have hctB : We.Cts w3 (some ⟨gA + 1, 0, none⟩) 30 FB := fun _ => ⟨gA + 1, 0, rfl, lt_of_heap HBB3.out, fun i hi => ⟨by rw [Nat.zero_add, cell_of_row w3 (gA + 1) i _ _ _ HBB3.out, arrU_get FB 30 i hi], by have := hBle i; omega⟩⟩
  have HWA := Lib.hid (We.weigh_any (some ⟨gA, 0, none⟩) 286 286 15 FA w3 hctA (by omega) (by omega) (by omega) (pow286 _ _ (by omega)))
  have HWB := Lib.hid (fun w4 (h : Below w3.heap.size w3 w4) => We.weigh_any (some ⟨gA + 1, 0, none⟩) 30 30 15 FB w4 (hctB.below (Nat.le_refl _) h) (by omega) (by omega) (by omega) (pow286 _ _ (by omega)))
  rw [show ((15 : Nat) : Int) = 15 from rfl] at HWA HWB
  have HLA := Lib.hid (fun i (hi : i < 286) => dLS_le f n i hi)
  have HLB := Lib.hid (fun i (hi : i < 30) => dLD_le f n i hi)
  have hEA : We.lensF FA 286 15 = dLS f n := by rw [← hFA]; rfl
  have hEB : We.lensF FB 30 15 = dLD f n := by rw [← hFB]; rfl
  rw [hEA] at HWA
  rw [hEB] at HWB
  clear hctA hctB hEA hEB hFA hFB hAle hBle HA3 HBB3
  (with_reducible refine (HWA.out).mono ?_); rintro e w4 ⟨gs, rfl, hlen, hgs, hb4⟩
  have HRS4 := Lib.hid (isLen_row hlen (fun i hi => Nat.lt_of_le_of_lt (HLA.out i hi) (by decide)))
  have HB4' := Lib.hid hb4
  have HB4 := Lib.hid (HB3.out.trans (hb4.mono HB3.out.size))
  have HGS : Hid (w.heap.size ≤ gs) := Nat.le_trans HB3.out.size hgs
  have HRB4 := Lib.hid ((hb4.block _ (lt_of_heap HRB3.out)).trans HRB3.out)
  clear hlen hgs hb4 HWA HRB3
  go_wp2_with fail
  (with_reducible refine (HWB.out w4 HB4'.out).mono ?_); rintro e w5 ⟨gd, rfl, hlen, hgd, hb5⟩
  have HRD5 := Lib.hid (isLen_row hlen (fun i hi => Nat.lt_of_le_of_lt (HLB.out i hi) (by decide)))
  have HRS5 := Lib.hid (HRS4.out.below hb5)
  have HB5 := Lib.hid (HB4.out.trans (hb5.mono HB4.out.size))
  have HGD : Hid (w.heap.size ≤ gd) := Nat.le_trans HB4.out.size hgd
  have HRB5 := Lib.hid ((hb5.block _ (lt_of_heap HRB4.out)).trans HRB4.out)
  clear hlen hgd hb5 HWB HRS4 HB4 HB4' HRB4
  have HSS := Lib.hid (short_any (some ⟨gs, 0, none⟩) 286 286 257 (dLS f n) (by omega) (by omega) (Nat.le_refl _) w5 (HRS5.out.lens 286 (Nat.le_refl _)))
  have HSD := Lib.hid (short_any (some ⟨gd, 0, none⟩) 30 30 1 (dLD f n) (by omega) (by omega) (Nat.le_refl _) w5 (HRD5.out.lens 30 (Nat.le_refl _)))
  rw [show shrN (dLS f n) 257 286 = dHS f n from rfl, show ((257 : Nat) : Int) = 257 from rfl] at HSS
  rw [show shrN (dLD f n) 1 30 = dHD f n from rfl, show ((1 : Nat) : Int) = 1 from rfl] at HSD
  have HROW := Lib.hid (fun i (hi : i < dHS f n + dHD f n) => dRow_le f n i hi)
  have HRNZ := Lib.hid (dRow_nz f n)
  have HRW := Lib.hid (fun i => show dRow f n i = if i < dHS f n then dLS f n i else dLD f n (i - dHS f n) from rfl)
  have HMS : Hid (may (dynS f n) true) := may_shr (cA f n) 286 257 (by omega)
  have HMD : Hid (may (dynD f n) true) := may_shr (cB f n) 30 1 (by omega)
  have HDB : Hid (dynB f n = ((wB (dHS f n - 257) 5).app (wB (dHD f n - 1) 5)).app (rowBs (dRow f n) (dHS f n + dHD f n))) := rfl
  have HDS : Hid (dynS f n = ⟨dHS f n, dLS f n⟩) := rfl
  have HDD : Hid (dynD f n = ⟨dHD f n, dLD f n⟩) := rfl
  generalize dHS f n = hs at *
  generalize dHD f n = hd at *
  generalize dLS f n = LS at *
  generalize dLD f n = LD at *
  generalize dRow f n = RW at *
  have hws : WrB w5 Bw gw r P := HW.out.below HB5.out
  have HWS := Lib.hid hws
  have HBW5 : Hid (Bw ≤ w5.heap.size) := Nat.le_trans hB HB5.out.size
  have HW1 := Lib.hid (write_b Bw gw (hs - 257) 5 r P (by omega) (by omega) (by omega) w5 HBW5.out hws)
  rw [show ((5 : Nat) : Int) = 5 from rfl] at HW1
  have e1 : (hs : Int) - 257 = ((hs - 257 : Nat) : Int) := by omega
  have e2 : IntKind.u32.wrap ((hs - 257 : Nat) : Int) = ((hs - 257 : Nat) : Int) := by rw [IntKind.wrap_u32]; omega
  have e3 : (hd : Int) - 1 = ((hd - 1 : Nat) : Int) := by omega
  have e4 : IntKind.u32.wrap ((hd - 1 : Nat) : Int) = ((hd - 1 : Nat) : Int) := by rw [IntKind.wrap_u32]; omega
  clear hws
  go_wp2_with fail
  (with_reducible refine (HSS.out).mono ?_); rintro e w6 ⟨rfl, rfl⟩
  go_wp2_with fail
  (with_reducible refine (HSD.out).mono ?_); rintro e w6 ⟨rfl, rfl⟩
  go_wp2_with fail
  (with_reducible refine (HW1.out).mono ?_); rintro e w6 ⟨rfl, r6, hw6, hu6⟩
  have HNS := Lib.hid (wr_new_ne HW.out HGS.out)
  have HND := Lib.hid (wr_new_ne HW.out HGD.out)
  have HNS6 := Lib.hid (wr_since HW.out HGS.out HRS5.out.1 HNS.out.2 hu6)
  have HND6 := Lib.hid (wr_since HW.out HGD.out HRD5.out.1 HND.out.2 hu6)
  have HRS6 := Lib.hid (HRS5.out.upd hu6 HNS.out.1 HNS.out.2)
  have HRD6 := Lib.hid (HRD5.out.upd hu6 HND.out.1 HND.out.2)
  have HBW6 : Hid (Bw ≤ w6.heap.size) := Nat.le_trans HBW5.out hu6.1.size
  have HU6 := Lib.hid ((upd_below (g := gw) (r := r) HB5.out).then hu6)
  have HRB6 := Lib.hid ((farW_upd HWS.out hu6).cells HRB5.out (by decide) (by decide))
  have HW6 := Lib.hid hw6
  have HW2 := Lib.hid (write_b Bw gw (hd - 1) 5 r6 _ (by show P.2 + 5 ≤ _; omega) (by omega) (by omega) w6 HBW6.out hw6)
  rw [show ((5 : Nat) : Int) = 5 from rfl] at HW2
  clear hw6 hu6 HSS HSD HW1 HWS HRS5 HRD5 HB5 HRB5
  go_wp2_with fail
  (with_reducible refine (HW2.out).mono ?_); rintro e w7 ⟨rfl, r7, hw7, hu7⟩
  have HNS7 := Lib.hid (wr_since HW.out HGS.out HRS6.out.1 HNS6.out.2 hu7)
  have HND7 := Lib.hid (wr_since HW.out HGD.out HRD6.out.1 HND6.out.2 hu7)
  have HRS7 := Lib.hid (HRS6.out.upd hu7 HNS6.out.1 HNS6.out.2)
  have HRD7 := Lib.hid (HRD6.out.upd hu7 HND6.out.1 HND6.out.2)
  have HBW7 : Hid (Bw ≤ w7.heap.size) := Nat.le_trans HBW6.out hu7.1.size
  have HU7 := Lib.hid (HU6.out.then hu7)
  have HRB7 := Lib.hid ((farW_upd HW6.out hu7).cells HRB6.out (by decide) (by decide))
  have HW7 := Lib.hid hw7
  clear hw7 hu7 HW2 HW6 HRB6 HRS6 HRD6 HU6
  go_wp2_with fail
  have hb8 : Below w7.heap.size w7 (w7.alloc (.cells #[.slice (some ⟨gs, 0, none⟩) hs 286, .slice (some ⟨gd, 0, none⟩) hd 30] 29)) := (Below.refl _ _).alloc (Nat.le_refl _) _
  have hnew : (w7.alloc (.cells #[.slice (some ⟨gs, 0, none⟩) hs 286, .slice (some ⟨gd, 0, none⟩) hd 30] 29)).heap[w7.heap.size]? = _ := heap_alloc_new w7 _
  have HRS8 := Lib.hid (HRS7.out.below hb8)
  have HRD8 := Lib.hid (HRD7.out.below hb8)
  obtain ⟨rs, hrs⟩ : ∃ rs : Nat → List Nat, rs = fun i => if i = 0 then lstF LS hs else lstF LD hd := ⟨_, rfl⟩
  have hr0 : rs 0 = lstF LS hs := by rw [hrs]; rfl
  have hr1 : rs 1 = lstF LD hd := by rw [hrs]; rfl
  have hjl : (Ij.joinR rs 2).length = hs + hd := by
    show ((([] : List Nat) ++ rs 0) ++ rs 1).length = _
    rw [hr0, hr1, List.nil_append, List.length_append, lstF_len, lstF_len]
  have HJG : Hid (∀ i, i < hs + hd → (Ij.joinR rs 2).getD i 0 = RW i) := fun i hi => by
    show ((([] : List Nat) ++ rs 0) ++ rs 1).getD i 0 = _
    rw [hr0, hr1, List.nil_append, HRW.out i, List.getD_eq_getElem?_getD]
    by_cases hih : i < hs
    · rw [List.getElem?_append_left (by rw [lstF_len]; exact hih), ← List.getD_eq_getElem?_getD, lstF_get LS hs i hih, if_pos hih]
    · rw [List.getElem?_append_right (by rw [lstF_len]; omega), lstF_len, ← List.getD_eq_getElem?_getD, lstF_get LD hd _ (by omega), if_neg hih]
  have HCON := Lib.hid (Ij.concat_any w7.heap.size 2 (fun i => if i = 0 then gs else gd) (fun i => if i = 0 then 286 else 30) rs (by omega) (by omega) (fun i hi => by
      match i, hi with
      | 0, _ => rw [hr0, lstF_len]; omega
      | 1, _ => rw [hr1, lstF_len]; omega) (by rw [hjl]; omega) _ (lt_of_heap hnew)
    (fun i hi => by
      rw [cell_of_row _ _ i _ _ _ hnew]
      match i, hi with
      | 0, _ => rw [hr0, lstF_len]; rfl
      | 1, _ => rw [hr1, lstF_len]; rfl)
    (fun i hi => by
      match i, hi with
      | 0, _ => exact ⟨HRS8.out.1, fun q u hu => by rw [hr0] at hu; obtain ⟨h1, rfl⟩ := lstF_at LS hs q u hu; exact (HRS8.out.2 q (by omega)).1⟩
      | 1, _ => exact ⟨HRD8.out.1, fun q u hu => by rw [hr1] at hu; obtain ⟨h1, rfl⟩ := lstF_at LD hd q u hu; exact (HRD8.out.2 q (by omega)).1⟩))
  rw [hjl] at HCON
  have HB8 := Lib.hid hb8
  have HJL := Lib.hid hjl
  clear hnew hb8 hrs hr0 hr1 hjl
  generalize w7.alloc (.cells #[.slice (some ⟨gs, 0, none⟩) hs 286, .slice (some ⟨gd, 0, none⟩) hd 30] 29) = w8 at *
  refine (HCON.out).mono ?_; rintro e w9 ⟨gc, cap2, rfl, hown, hb9⟩
  have ho9 := own_cells8 hown HJL.out
  have HL9 : Hid (Lens w9 (some ⟨gc, 0, none⟩) (hs + hd) RW) := fun _ => ⟨gc, 0, rfl, ho9.1, fun i hi => ⟨by rw [Nat.zero_add, ho9.2 i hi, HJG.out i hi], by have := HROW.out i hi; omega⟩⟩
  have HB79 := Lib.hid (HB8.out.trans (hb9.mono HB8.out.size))
  have HRS9 := Lib.hid (HRS8.out.below hb9)
  have HRD9 := Lib.hid (HRD8.out.below hb9)
  have HW9 := Lib.hid (HW7.out.below HB79.out)
  have HU9 := Lib.hid (HU7.out.then (upd_below (g := gw) (r := r7) HB79.out))
  have HRB9 := Lib.hid ((HB79.out.block _ (lt_of_heap HRB7.out)).trans HRB7.out)
  have HBW9 : Hid (Bw ≤ w9.heap.size) := Nat.le_trans HBW7.out HB79.out.size
  have HPR := Lib.hid (putRow_any Bw gw (hs + hd) cap2 (some ⟨gc, 0, none⟩) RW r7 _ (by omega) (by omega) HROW.out HRNZ.out (by show P.2 + 5 + 5 ≤ _; omega) w9 HBW9.out HL9.out HW9.out)
  clear ho9 hown hb9 HCON HB8 HJL HJG HRS8 HRD8 HB79 HRB7 HU7 HW7 HRS7 HRD7
  go_wp2_with fail
  (refine (HPR.out).mono ?_); rintro e w10 ⟨rfl, r10, hw10, hu10⟩
  have HNS10 := Lib.hid (HRS9.out.upd hu10 HNS7.out.1 HNS7.out.2)
  have HND10 := Lib.hid (HRD9.out.upd hu10 HND7.out.1 HND7.out.2)
  have HRB10 := Lib.hid ((farW_upd HW9.out hu10).cells HRB9.out (by decide) (by decide))
  have HU10 := Lib.hid (HU9.out.then hu10)
  have HW10 := Lib.hid hw10
  have HPAIR := Lib.hid (bpair_ok (some ⟨gs, 0, none⟩) (some ⟨gd, 0, none⟩) 286 30 (dynS f n) (dynD f n) (by rw [HDS.out]; show hs ≤ 4096; omega) (by rw [HDD.out]; show hd ≤ 4096; omega)
    (by rw [HDS.out]; intro i hi; exact HLA.out i (by have : i < hs := hi; omega)) (by rw [HDD.out]; intro i hi; exact HLB.out i (by have : i < hd := hi; omega)) HMS.out HMD.out w10
    (by rw [HDS.out]; exact HNS10.out.lens hs (by omega)) (by rw [HDD.out]; exact HND10.out.lens hd (by omega)))
  rw [show (dynS f n).n = hs by rw [HDS.out], show (dynD f n).n = hd by rw [HDD.out]] at HPAIR
  clear hw10 hu10 HPR HW9 HU9 HRB9 HRS9 HRD9 HL9 HNS10 HND10
  go_wp2_with fail
  (refine (HPAIR.out).mono ?_); rintro e w11 ⟨⟨cs, cd, rfl, hcs, hcd⟩, hb11⟩
  have HCS := Lib.hid hcs
  have HCD := Lib.hid hcd
  have HU11 := Lib.hid (HU10.out.then (upd_below (g := gw) (r := r10) hb11))
  have HW11 := Lib.hid (HW10.out.below hb11)
  have hr2 := (hb11.block _ (lt_of_heap HRB10.out)).trans HRB10.out
  have HR2 := Lib.hid hr2
  unfold CodV
  have f0 := frozen_of_row w11 _ 0 _ _ hr2
  have f1 := frozen_of_row w11 _ 1 _ _ hr2
  have e0' : w11.cell? ⟨w.heap.size, 0, none⟩ = some (.pointer none) := by rw [cell_of_row w11 _ 0 _ _ _ hr2]; rfl
  have e1' : w11.cell? ⟨w.heap.size, 1, none⟩ = some (.pointer none) := by rw [cell_of_row w11 _ 1 _ _ _ hr2]; rfl
  clear hr2 hcs hcd hb11 HPAIR HU10 HW10 HRB10
  go_wp2_with fail
  have hr3 := two_cellsB (x := .pointer (some ⟨cs, 0, none⟩)) (y := .pointer (some ⟨cd, 0, none⟩)) HR2.out
  have hq := heap_setCell_same w11 w.heap.size 0 _ _ (.pointer (some ⟨cs, 0, none⟩)) HR2.out
  have hc3 := code_set (i := 1) (v := .pointer (some ⟨cd, 0, none⟩)) (code_set (i := 0) (v := .pointer (some ⟨cs, 0, none⟩)) HCS.out HR2.out) hq
  have hd3 := code_set (i := 1) (v := .pointer (some ⟨cd, 0, none⟩)) (code_set (i := 0) (v := .pointer (some ⟨cs, 0, none⟩)) HCD.out HR2.out) hq
  have hnw := wr_new_ne HW.out (Nat.le_refl w.heap.size)
  have hk3 : Upd gw r r10 w ((w11.setCell ⟨w.heap.size, 0, none⟩ (.pointer (some ⟨cs, 0, none⟩))).setCell ⟨w.heap.size, 1, none⟩ (.pointer (some ⟨cd, 0, none⟩))) :=
    ⟨(HU11.out.1.then (kept_set w11 w.heap.size 0 _) (fun i hi e => absurd e (by omega))).then (kept_set _ w.heap.size 1 _) (fun i hi e => absurd e (by omega)), HU11.out.2⟩
  have hw3 : WrB ((w11.setCell ⟨w.heap.size, 0, none⟩ (.pointer (some ⟨cs, 0, none⟩))).setCell ⟨w.heap.size, 1, none⟩ (.pointer (some ⟨cd, 0, none⟩))) Bw gw r10 (P.app (dynB f n)) := by
    have h := HW11.out
    rw [HDB.out]
    rw [bs_assoc, bs_assoc] at h
    rw [← bs_assoc (wB (hs - 257) 5)] at h
    refine Wr.stay h fun i hi e => ?_
    have hne : i ≠ w.heap.size := fun e2 => by
      subst e2
      rcases e with e | e
      · obtain ⟨_, v, hb, ho, hr, _⟩ := h
        have h5 := HR2.out
        rw [e, hb] at h5
        injection h5 with h5
        injection h5 with _ h5 _
        revert h5
        decide
      · exact Wr.row_ne' h HR2.out (by decide) e
    rw [Below.heap_setCell _ _ _ _ hne, Below.heap_setCell _ _ _ _ hne]
  generalize hw9 : (w11.setCell ⟨w.heap.size, 0, none⟩ (.pointer (some ⟨cs, 0, none⟩))).setCell ⟨w.heap.size, 1, none⟩ (.pointer (some ⟨cd, 0, none⟩)) = w12 at *
  refine bodyPost_ret (results_cell_row rfl _ _ w.heap.size 63 #[.pointer (some ⟨cs, 0, none⟩), .pointer (some ⟨cd, 0, none⟩)] (0, 0) _ rfl hr3 Try.underlying63 rfl info_bcodes) rfl ⟨⟨cs, cd, rfl, hc3, hd3⟩, r10, hw3, hk3⟩
end Go.Proofs.Ytfhbkidceombbaa
