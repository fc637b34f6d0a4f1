/-
  Glob: rows of ranges; a set (set).
-/
import Derived.Test.YtjnoapbddifcpaaGreatDoorGlB
import Derived.OneCell
import Derived.Maps.AppendAt
import Derived.Laws.OwnMore
import Derived.Deep.DeepMust
import Derived.Deep.CutBlock
namespace Go.Proofs.YtjnoapbddifcpaaGreatDoor
set_option maxRecDepth 100000
open Go.RowKit Go.Joins Go.Deep

/-- The cells of ranges. -/
def cellsP (k : IntKind) : List (Int × Int) → List Value
  | [] => []
  | p :: l => .int k p.1 :: .int k p.2 :: cellsP k l
theorem cellsP_app (k : IntKind) (l m : List (Int × Int)) : cellsP k (l ++ m) = cellsP k l ++ cellsP k m := by
  induction l with
  | nil => rfl
  | cons x l ih => simp only [List.cons_append, cellsP, ih]
theorem cellsP_get (k : IntKind) : ∀ (l : List (Int × Int)) (i : Nat), i < l.length → (cellsP k l)[i * 2]? = some (.int k (l.getD i (0, 0)).1) ∧ (cellsP k l)[i * 2 + 1]? = some (.int k (l.getD i (0, 0)).2)
  | x :: l, 0, _ => ⟨rfl, rfl⟩
  | x :: l, i + 1, h => by
    have := cellsP_get k l i (by simpa using h)
    rw [show (i + 1) * 2 = i * 2 + 2 by omega, show i * 2 + 2 + 1 = i * 2 + 1 + 2 by omega]
    simpa [cellsP] using this
/-- A slice of ranges. -/
def Rgs (w : World) (k : IntKind) (A : Option Addr) (l : List (Int × Int)) : Prop := 0 < l.length → ∃ b off, A = some ⟨b, off, none⟩ ∧ b < w.heap.size ∧ ∀ i, i < l.length → w.cell? ⟨b, off + i * 2, none⟩ = some (.int k (l.getD i (0, 0)).1) ∧ w.cell? ⟨b, off + i * 2 + 1, none⟩ = some (.int k (l.getD i (0, 0)).2)
theorem Rgs.below {w w' : World} {k : IntKind} {B : Nat} {A : Option Addr} {l : List (Int × Int)} (h : Rgs w k A l) (hB : w.heap.size ≤ B) (hb : Below B w w') : Rgs w' k A l := fun h0 => by
  obtain ⟨b, off, e, hlt, hc⟩ := h h0
  have hl := Nat.lt_of_lt_of_le hlt hB
  exact ⟨b, off, e, Nat.lt_of_lt_of_le hlt hb.size, fun i hi => ⟨(hb.cell (p := ⟨b, off + i * 2, none⟩) hl).trans (hc i hi).1, (hb.cell (p := ⟨b, off + i * 2 + 1, none⟩) hl).trans (hc i hi).2⟩⟩
theorem own_cells {w : World} {B n z c : Nat} {e : TypeId} {A : Option Addr} {xs : List Value} (h : w.ownsRow B e z (.slice A n c) n xs) (h0 : 0 < n) : ∃ b, A = some ⟨b, 0, none⟩ ∧ b < w.heap.size ∧ ∀ i u, xs[i]? = some u → w.cell? ⟨b, i, none⟩ = some u := by
  rcases h.2 with ⟨_, h1⟩ | ⟨g, cap, cur, h1, _, h3, _, _, _, h7⟩
  · omega
  · injection h1 with h1 _ _
    refine ⟨g, h1, lt_of_block h3, fun i u hu => ?_⟩
    rw [cell_of_row _ _ i _ _ _ h3]
    rw [← h7, List.getElem?_take] at hu
    split at hu
    · simpa using hu
    · cases hu
theorem row_slice2 {w : World} {B n z : Nat} {e : TypeId} {v : Value} {l : List Value} (h : w.ownsRow B e z v n l) : ∃ A c, v = .slice A n c := by
  rcases h.2 with ⟨h1, h2⟩ | ⟨g, cap, cur, h1, _⟩
  · exact ⟨none, 0, by rw [h1, h2]⟩
  · exact ⟨some ⟨g, 0, none⟩, cap, h1⟩
theorem cells_news2 {w : World} {g : Nat} {x y : Value} {T : TypeId} (h : w.heap[g]? = some (.cells #[x, y] T (0, 0))) : ∀ j u, [x, y][j]? = some u → w.cell? ((⟨g, 0, none⟩ : Addr).add j) = some u := by
  intro j u hj
  rw [Addr.add_lit, Nat.zero_add, cell_of_row w g j _ _ _ h]
  simpa using hj
theorem parts_of {P : Program} {T : TypeId} {z : Value} {s b : Nat} (h : (P.info? T).map (fun i => (i.zero, i.size, i.bytes)) = some (some z, s, b)) : ∃ i, P.info? T = some i ∧ i.zero = some z ∧ i.size = s ∧ i.bytes = b := by
  obtain ⟨i, hi, hx⟩ := Option.map_eq_some_iff.1 h
  injection hx with h1 h2
  injection h2 with h2 h3
  exact ⟨i, hi, h1, h2, h3⟩
theorem own_below' {w w' : World} {base size n : Nat} {e : TypeId} {v : Value} {xs : List Value} (h : w.ownsRow base e size v n xs) (hb : Below w.heap.size w w') : w'.ownsRow base e size v n xs :=
  h.kept (row := none) ⟨hb.os, hb.tape, hb.output, hb.size, fun i hi _ => hb.block i hi⟩ (by cases hv : v.ownBlock <;> simp)
theorem zero_atom (w : World) : (zeroValue 151).run Tryz.prog w = .ok (.agg #[.int .i64 0, .int .i32 0, .bool false, .slice none 0 0]) w := by kernel_rfl
theorem info_atom : (Tryz.prog.info? 151).map (·.size) = some 4 := by kernel_rfl
theorem parts_range : (Tryz.prog.info? 242).map (fun i => (i.zero, i.size, i.bytes)) = some (some (.agg #[.int .i32 0, .int .i32 0]), 2, 8) := by kernel_rfl
theorem info_rgs : (Tryz.prog.info? 149).map (·.size) = some 1 := by kernel_rfl
/-- A row of the program's ranges, with its block. -/
def RgB (w : World) (A : Option Addr) (l : List (Int × Int)) : Prop := 0 < l.length → ∃ (b : Nat) (cs : Array Value), A = some ⟨b, 0, none⟩ ∧ w.heap[b]? = some (.cells cs 242 (0, 0)) ∧ ∀ (i : Nat) (u : Value), (cellsP .i32 l)[i]? = some u → cs[i]? = some u
theorem RgB.keep {w w' : World} {A : Option Addr} {l : List (Int × Int)} (h : RgB w A l) (hk : ∀ (b : Nat) (cs : Array Value), w.heap[b]? = some (Obj.cells cs 242 (0, 0)) → w'.heap[b]? = w.heap[b]?) : RgB w' A l := fun h0 => by
  obtain ⟨b, cs, e, hb, hc⟩ := h h0
  exact ⟨b, cs, e, (hk b cs hb).trans hb, hc⟩
theorem RgB.below {w w' : World} {A : Option Addr} {l : List (Int × Int)} (h : RgB w A l) (hb : Below w.heap.size w w') : RgB w' A l := h.keep fun b _ hx => hb.block b (lt_of_block hx)
theorem RgB.set {w : World} {A : Option Addr} {l : List (Int × Int)} (h : RgB w A l) {g i : Nat} {cs : Array Value} {T : TypeId} (hg : w.heap[g]? = some (.cells cs T (0, 0))) (hT : T ≠ 242) (v : Value) : RgB (w.setCell ⟨g, i, none⟩ v) A l := h.keep fun b cs' hx => heap_setCell_other w ⟨g, i, none⟩ b v (fun e => by
  have e' : b = g := e
  subst e'
  rw [hg] at hx
  injection hx with hx
  injection hx with _ hx _
  exact hT hx)
theorem RgB.rgs {w : World} {A : Option Addr} {l : List (Int × Int)} (h : RgB w A l) : Rgs w .i32 A l := fun h0 => by
  obtain ⟨b, cs, e, hb, hc⟩ := h h0
  refine ⟨b, 0, e, lt_of_block hb, fun i hi => ?_⟩
  obtain ⟨g1, g2⟩ := cellsP_get .i32 l i hi
  rw [Nat.zero_add]
  exact ⟨(cell_of_row _ _ _ _ _ _ hb).trans (hc _ _ g1), (cell_of_row _ _ _ _ _ _ hb).trans (hc _ _ g2)⟩
theorem rgb_of_own {w : World} {B c : Nat} {A : Option Addr} {l : List (Int × Int)} (h : w.ownsRow B 242 2 (.slice A l.length c) l.length (cellsP .i32 l)) : RgB w A l := fun h0 => by
  rcases h.2 with ⟨_, h1⟩ | ⟨g, cap, cur, h1, _, h3, _, _, _, h7⟩
  · omega
  · injection h1 with h1 _ _
    refine ⟨g, cur, h1, h3, fun i u hu => ?_⟩
    rw [← h7, List.getElem?_take] at hu
    split at hu
    · simpa using hu
    · cases hu
/-- What set answers: nothing, or the ranges and where the set ends. -/
def SetR (w : World) (nt : Bool) (o : Option (List (Nat × Nat) × Nat)) (e : Ending) (w' : World) : Prop :=
  (o = none ∧ e = .returned (.tuple #[.agg #[.int .i64 0, .int .i32 0, .bool false, .slice none 0 0], .int .i64 0]) ∧ Below w.heap.size w w') ∨
  (∃ rs a A c, o = some (rs, a) ∧ e = .returned (.tuple #[.agg #[.int .i64 4, .int .i32 0, .bool nt, .slice A rs.length c], .int .i64 (a : Nat)]) ∧ RgB w' A (rgI rs) ∧ Below w.heap.size w w')
/-- What set's loop keeps. -/
structure SetSt (w wr : World) (nt : Bool) (V : Value) (rs : List (Nat × Nat)) : Prop where
  z : wr.heap[w.heap.size]? = some (.cells #[.int .i64 0, .int .i32 0, .bool false, .slice none 0 0] 151 (0, 0))
  a : wr.heap[w.heap.size + 1]? = some (.cells #[.int .i64 4, .int .i32 0, .bool nt, V] 151 (0, 0))
  o : wr.ownsRow (w.heap.size + 2) 242 2 V rs.length (cellsP .i32 (rgI rs))
  b : Below w.heap.size w wr
  s : w.heap.size + 2 ≤ wr.heap.size
theorem SetSt.next {w wr wx : World} {nt : Bool} {V : Value} {rs : List (Nat × Nat)} (h : SetSt w wr nt V rs) (hb : Below wr.heap.size wr wx) : SetSt w wx nt V rs :=
  ⟨(hb.block _ (lt_of_block h.z)).trans h.z, (hb.block _ (lt_of_block h.a)).trans h.a, own_below' h.o hb, below_then h.b hb, Nat.le_trans h.s hb.size⟩
theorem rgI_len (rs : List (Nat × Nat)) : (rgI rs).length = rs.length := by simp [rgI]
theorem spanF_max {l : List Nat} (hr : AllR l) : (spanF l).1.1 ≤ 1114111 ∧ (spanF l).1.2 ≤ 1114111 := by
  have key : ∀ z : List Nat, AllR z → (plainF z).1 ≤ 1114111 := fun z hz => by
    rcases z with _ | ⟨c, _ | ⟨r, t⟩⟩
    · show (0 : Nat) ≤ _; omega
    · have := hz 0
      rw [plainF]; split
      · show (0 : Nat) ≤ _; omega
      · exact this
    · have h1 := hz 0
      have h2 := hz 1
      rw [plainF]; split
      · exact h2
      · exact h1
  have h1 := key l hr
  have h2 := key _ (hr.drop ((plainF l).2 + 1))
  unfold spanF
  split
  · exact ⟨by show (0 : Nat) ≤ _; omega, by show (0 : Nat) ≤ _; omega⟩
  split
  · exact ⟨h1, h1⟩
  split
  · exact ⟨by show (0 : Nat) ≤ _; omega, by show (0 : Nat) ≤ _; omega⟩
  · exact ⟨h1, h2⟩
set_option maxHeartbeats 8000000 in
theorem set_any (A : Option Addr) (n cap : Nat) (l : List Nat) (hn : l.length = n) (hn5 : n ≤ 100000) (hcap : n ≤ cap) (hmx : cap ≤ maxLen) (hr : AllR l) (w : World) (hR : Rn w A l) :
    Calls Tryz.prog 98 #[.slice A n cap] w (SetR w (notF l 0) (setF l (if notF l 0 = true then 1 else 0) [])) := by
  have hza := zero_atom
  have hia := info_atom
  have hzr := zero_range
  have hir := info_range
  have hig := info_rgs
  obtain ⟨i0, hi, hz0, hz1, hz2⟩ := parts_of parts_range
  obtain ⟨N, hN⟩ : ∃ N, N = notF l 0 := ⟨_, rfl⟩
  have HN := Lib.hid hN
  rw [← hN]
  clear hN
  have hb2 : Below w.heap.size w ((w.alloc (.cells #[.int .i64 0, .int .i32 0, .bool false, .slice none 0 0] 151)).alloc (.cells #[.int .i64 4, .int .i32 0, .bool N, .slice none 0 0] 151)) := (below_alG w _).alloc (by simp) _
  have HS0 : Hid (SetSt w ((w.alloc (.cells #[.int .i64 0, .int .i32 0, .bool false, .slice none 0 0] 151)).alloc (.cells #[.int .i64 4, .int .i32 0, .bool N, .slice none 0 0] 151)) N (.slice none 0 0) []) :=
    ⟨(heap_alloc_old _ _ (by simp)).trans (heap_alloc_new w _), by
      have := heap_alloc_new (w.alloc (.cells #[.int .i64 0, .int .i32 0, .bool false, .slice none 0 0] 151)) (.cells #[.int .i64 4, .int .i32 0, .bool N, .slice none 0 0] 151)
      simpa using this, World.ownsRow_nil _ _ _ _, hb2, by simp⟩
  have HRW0 := Lib.hid hR
  have HRA : Hid (Rn ((w.alloc (.cells #[.int .i64 0, .int .i32 0, .bool false, .slice none 0 0] 151)).alloc (.cells #[.int .i64 4, .int .i32 0, .bool false, .slice none 0 0] 151)) A l) := hR.below (Nat.le_refl _) ((below_alG w _).alloc (by simp) _)
  clear hb2 hR
  have HNS : Hid (N = true → 0 < n) := by
    show _ → _
    rw [HN.out]
    intro h
    unfold notF at h
    rw [Bool.and_eq_true] at h
    have := of_decide_eq_true h.1
    omega
  obtain ⟨a0, ha0⟩ : ∃ a0, a0 = if N = true then 1 else 0 := ⟨_, rfl⟩
  rw [← ha0]
  obtain ⟨O, hO⟩ : ∃ O, O = setF l a0 [] := ⟨_, rfl⟩
  rw [← hO]
  have HO := Lib.hid hO.symm
  have HA0 : Hid (a0 ≤ n) := by
    show _ ≤ _
    rw [ha0]
    split
    · exact HNS.out (by assumption)
    · omega
  have HA := Lib.hid ha0
  clear ha0 hO
  have HT : Hid ((n = 0 ∧ N = false) ∨ (0 < n ∧ N = (decide (l.getD 0 0 = 33) || decide (l.getD 0 0 = 94)))) := by
    show _ ∨ _
    rw [HN.out]
    unfold notF
    rw [hn]
    by_cases h0 : n = 0
    · exact .inl ⟨h0, by rw [h0]; rfl⟩
    · exact .inr ⟨by omega, by rw [decide_eq_true (by omega : 0 < n)]; rfl⟩
  go_enter Tryz.func98, Tryz.ntmps98
  go_upto_region 2 with fail
  obtain ⟨W2, hW2⟩ : ∃ W2, W2 = (w.alloc (.cells #[.int .i64 0, .int .i32 0, .bool false, .slice none 0 0] 151)).alloc (.cells #[.int .i64 4, .int .i32 0, .bool false, .slice none 0 0] 151) := ⟨_, rfl⟩
  have HRW : Hid (Rn W2 A l) := by rw [hW2]; exact HRA.out
  rw [← hW2]
  have HW2 := Lib.hid hW2
  clear hW2
  go_cut [23] from 9 to 22 (fun v wx => v = .bool N ∧ wx = W2)
  case first => as_aux_lemma =>
    rcases HT.out with ⟨h0, hN⟩ | ⟨h0, hN⟩
    · subst h0
      subst hN
      go_wp2_with fail
      go_meet
      exact ⟨rfl, rfl⟩
    · obtain ⟨b, off, rfl, hlt, hc⟩ := HRW.out (by omega)
      have c0 := hc 0 (by omega)
      rw [Nat.add_zero] at c0
      generalize l.getD 0 0 = x at *
      have g0 : decide (0 < n) = true := decide_eq_true h0
      have g0' : decide ((0 : Int) < (n : Int)) = true := decide_eq_true (by omega)
      clear hc hlt
      by_cases h1 : x = 33
      · subst h1
        obtain rfl : N = true := by rw [hN]; rfl
        clear hN
        go_wp2_with fail
        go_meet
        exact ⟨rfl, rfl⟩
      · have g1 : ((x : Int) == 33) = false := by rw [beq_eq_false_iff_ne]; omega
        by_cases h2 : x = 94
        · subst h2
          obtain rfl : N = true := by rw [hN]; rfl
          clear hN h1
          go_wp2_with fail
          go_meet
          exact ⟨rfl, rfl⟩
        · have g2 : ((x : Int) == 94) = false := by rw [beq_eq_false_iff_ne]; omega
          obtain rfl : N = false := by rw [hN, decide_eq_false h1, decide_eq_false h2]; rfl
          clear hN h1 h2
          go_wp2_with fail
          go_meet
          exact ⟨rfl, rfl⟩
  case rest =>
    obtain ⟨rfl, rfl⟩ := hcut
    go_upto_if 23 with fail
    go_cut [5] from 24 to 24 (fun v wx => v = .int .i64 (a0 : Nat) ∧ Hid (SetSt w wx N (.slice none 0 0) []))
    case first => as_aux_lemma =>
      have hW := HW2.out
      subst hW
      have hA := HA.out
      cases N with
      | false =>
        rw [if_neg (by simp)] at hA
        subst hA
        go_wp2_with fail
        go_meet
        exact ⟨rfl, HS0⟩
      | true =>
        rw [if_pos rfl] at hA
        subst hA
        go_wp2_with fail
        go_meet
        exact ⟨rfl, HS0⟩
    case rest =>
      obtain ⟨rfl, HS1⟩ := hcut
      clear HS0 HRA HRW HW2
      generalize wc = w3 at *
      clear HT HNS HN HA
      go_wp2_with fail
      go_loopw [5] (fun v wr => ∃ (a : Nat) (V : Value) (rs : List (Nat × Nat)), a ≤ n ∧ v = .int .i64 (a : Nat) ∧ Hid (SetSt w wr N V rs) ∧ Hid (setF l a rs = O) ∧ rs.length ≤ a) (fun v _ => n - (intOf v).toNat)
      case atStart => exact ⟨a0, _, [], HA0.out, rfl, HS1, HO, Nat.zero_le _⟩
      case round =>
        obtain ⟨a, V, rs, ha, rfl, HS, HOr, hrs⟩ := hrel
        have HRr := Lib.hid (HRW0.out.below (Nat.le_refl _) HS.out.b)
        obtain ⟨A2, c2, rfl⟩ := row_slice2 HS.out.o
        have z0 := (cell_of_row _ _ 0 _ _ _ HS.out.z).trans (show _ = some (Value.int .i64 0) from rfl)
        have z1 := (cell_of_row _ _ 1 _ _ _ HS.out.z).trans (show _ = some (Value.int .i32 0) from rfl)
        have z2 := (cell_of_row _ _ 2 _ _ _ HS.out.z).trans (show _ = some (Value.bool false) from rfl)
        have z3 := (cell_of_row _ _ 3 _ _ _ HS.out.z).trans (show _ = some (Value.slice none 0 0) from rfl)
        have fz := fun j => frozen_of_row _ _ j _ _ HS.out.z
        have a3 := (cell_of_row _ _ 3 _ _ _ HS.out.a).trans (show _ = some (Value.slice A2 rs.length c2) from rfl)
        by_cases han : a < n
        · obtain ⟨b, off, rfl, hlt, hc⟩ := HRr.out (by omega)
          have ca := hc a (by omega)
          obtain ⟨x, hx⟩ : ∃ x, x = l.getD a 0 := ⟨_, rfl⟩
          rw [← hx] at ca
          clear hc hlt
          have gan : decide ((a : Int) < (n : Int)) = true := decide_eq_true (by omega)
          by_cases hend : x = 93 ∧ rs ≠ []
          · obtain ⟨h93, hne⟩ := hend
            have h2 : setF l a rs = some (rs, a + 1) := setF_done ⟨by omega, by rw [← hx]; exact h93, hne⟩
            have HOO : Hid (O = some (rs, a + 1)) := by show _ = _; rw [← HOr.out]; exact h2
            subst h93
            have hpos : 0 < rs.length := List.length_pos_iff.2 hne
            have g1 : ((rs.length : Int) == 0) = false := by rw [beq_eq_false_iff_ne]; omega
            have g2 : ((a : Int) == (n : Int)) = false := by rw [beq_eq_false_iff_ne]; omega
            have a0c := (cell_of_row _ _ 0 _ _ _ HS.out.a).trans (show _ = some (Value.int .i64 4) from rfl)
            have a1c := (cell_of_row _ _ 1 _ _ _ HS.out.a).trans (show _ = some (Value.int .i32 0) from rfl)
            have a2c := (cell_of_row _ _ 2 _ _ _ HS.out.a).trans (show _ = some (Value.bool N) from rfl)
            clear h2 hne hx
            go_wp2_with fail
            refine bodyPost_ret (v := .tuple #[.agg #[.int .i64 4, .int .i32 0, .bool N, .slice A2 rs.length c2], .int .i64 ((a : Int) + 1)]) (by simp [results, Tryz.results98, go_sem, z0, z1, z2, z3]) rfl ?_
            have HB9 := (((HS.out.b.setCell (p := ⟨w.heap.size, 0, none⟩) (Nat.le_refl _) (.int .i64 4)).setCell (p := ⟨w.heap.size, 1, none⟩) (Nat.le_refl _) (.int .i32 0)).setCell (p := ⟨w.heap.size, 2, none⟩) (Nat.le_refl _) (.bool N)).setCell (p := ⟨w.heap.size, 3, none⟩) (Nat.le_refl _) (.slice A2 rs.length c2)
            refine .inr ⟨rs, a + 1, A2, c2, HOO.out, by go_num, ?_, HB9⟩
            refine rgb_of_own (B := w.heap.size + 2) (l := rgI rs) (c := c2) ?_
            rw [rgI_len]
            exact ownsRow_setCell_below (ownsRow_setCell_below (ownsRow_setCell_below (ownsRow_setCell_below HS.out.o (a := ⟨w.heap.size, 0, none⟩) (by simp) _) (a := ⟨w.heap.size, 1, none⟩) (by simp) _) (a := ⟨w.heap.size, 2, none⟩) (by simp) _) (a := ⟨w.heap.size, 3, none⟩) (by simp) _
          · obtain ⟨A', hrun, hrn⟩ := rn_slice (some ⟨b, off, none⟩) n cap a (by omega) hcap
            have HRD : Hid (Rn wr A' (l.drop a)) := hrn _ l hn HRr.out
            have HSP := Lib.hid (fun w1 h => span_any A' (n - a) (cap - a) (l.drop a) (by rw [List.length_drop, hn]) (by omega) (by omega) (by unfold maxLen at *; omega) (hr.drop a) w1 h)
            have hsm := spanF_max (hr.drop a)
            have hsl := spanF_le (l.drop a)
            rw [List.length_drop, hn] at hsl
            have hnd : ¬ (a < l.length ∧ l.getD a 0 = 93 ∧ rs ≠ []) := fun h => hend ⟨by rw [hx]; exact h.2.1, h.2.2⟩
            have HNO := Lib.hid (fun h => setF_none hnd h)
            have HMO := Lib.hid (fun h => setF_more hnd h)
            generalize hsv : spanF (l.drop a) = sv at *
            obtain ⟨⟨lo, hiR⟩, j⟩ := sv
            dsimp only at hsm hsl
            have HTE : Hid ((x = 93 → rs.length = 0)) := fun h => by
              rcases Nat.eq_zero_or_pos rs.length with h0 | h0
              · exact h0
              · exact absurd ⟨h, fun e => by rw [e] at h0; simp at h0⟩ hend
            clear hend hnd hx hrn hsv
            go_upto_region 4 with fail
            go_cut [41] from 25 to 40 (fun v wx => v = .bool true ∧ wx = wr)
            case first => as_aux_lemma =>
              by_cases h93 : x = 93
              · have h0 := HTE.out h93
                subst h93
                have g1 : ((rs.length : Int) == 0) = true := by rw [beq_iff_eq]; omega
                clear HTE
                go_wp2_with fail
                go_meet
                exact ⟨rfl, rfl⟩
              · have g1 : ((x : Int) != 93) = true := by rw [bne_iff_ne]; omega
                clear HTE h93
                go_wp2_with fail
                go_meet
                exact ⟨rfl, rfl⟩
            case rest =>
              obtain ⟨rfl, rfl⟩ := hcut
              clear z0 z1 z2 z3 fz a3 ca HTE
              have hmx2 : cap ≤ 9223372036854775807 := by unfold maxLen at *; omega
              go_wp2_with fail
              refine (HSP.out _ HRD.out).mono ?_; rintro e w5 ⟨rfl, hb5⟩
              have HS5 := Lib.hid (HS.out.next hb5)
              have HX5 := Lib.hid (below_alG w5 (.cells #[.int .i32 (lo : Nat), .int .i32 (hiR : Nat)] 242))
              have HN5 := Lib.hid (heap_alloc_new w5 (.cells #[.int .i32 (lo : Nat), .int .i32 (hiR : Nat)] 242))
              have HZ5 : Hid ((w5.alloc (.cells #[.int .i32 (lo : Nat), .int .i32 (hiR : Nat)] 242)).heap.size = w5.heap.size + 1) := by show _ = _; simp
              clear hb5 HRD HSP hrun
              go_upto_if 50 with fail
              generalize w5.alloc (.cells #[.int .i32 (lo : Nat), .int .i32 (hiR : Nat)] 242) = w6 at *
              have HS6 := Lib.hid (HS5.out.next HX5.out)
              by_cases hj0 : j = 0
              · subst hj0
                have HOO : Hid (O = none) := by show _ = _; rw [← HOr.out]; exact HNO.out rfl
                have z0 := (cell_of_row _ _ 0 _ _ _ HS6.out.z).trans (show _ = some (Value.int .i64 0) from rfl)
                have z1 := (cell_of_row _ _ 1 _ _ _ HS6.out.z).trans (show _ = some (Value.int .i32 0) from rfl)
                have z2 := (cell_of_row _ _ 2 _ _ _ HS6.out.z).trans (show _ = some (Value.bool false) from rfl)
                have z3 := (cell_of_row _ _ 3 _ _ _ HS6.out.z).trans (show _ = some (Value.slice none 0 0) from rfl)
                have fz := fun j => frozen_of_row _ _ j _ _ HS6.out.z
                go_wp2_with fail
                refine bodyPost_ret (v := .tuple #[.agg #[.int .i64 0, .int .i32 0, .bool false, .slice none 0 0], .int .i64 0]) (by simp [results, Tryz.results98, go_sem, z0, z1, z2, z3]) rfl ?_
                exact .inl ⟨HOO.out, rfl, (((HS6.out.b.setCell (p := ⟨w.heap.size, 0, none⟩) (Nat.le_refl _) _).setCell (p := ⟨w.heap.size, 1, none⟩) (Nat.le_refl _) _).setCell (p := ⟨w.heap.size, 2, none⟩) (Nat.le_refl _) _).setCell (p := ⟨w.heap.size, 3, none⟩) (Nat.le_refl _) _⟩
              · have gj : ((j : Int) == 0) = false := by rw [beq_eq_false_iff_ne]; omega
                have HOO : Hid (setF l (a + j) (rs ++ [(lo, hiR)]) = O) := by show _ = _; rw [← HOr.out]; exact (HMO.out hj0).symm
                have a3 := (cell_of_row _ _ 3 _ _ _ HS6.out.a).trans (show _ = some (Value.slice A2 rs.length c2) from rfl)
                have r0 := (cell_of_row _ _ 0 _ _ _ HN5.out).trans (show _ = some (Value.int .i32 (lo : Nat)) from rfl)
                have r1 := (cell_of_row _ _ 1 _ _ _ HN5.out).trans (show _ = some (Value.int .i32 (hiR : Nat)) from rfl)
                have HX7 := Lib.hid (heap_alloc_new w6 (.cells #[.int .i32 (lo : Nat), .int .i32 (hiR : Nat)] 242))
                have HS7 := Lib.hid (HS6.out.next (below_alG w6 (.cells #[.int .i32 (lo : Nat), .int .i32 (hiR : Nat)] 242)))
                have HLT := Lib.hid HS6.out.o.lt
                have hrl : rs.length ≤ 100000 := by omega
                have hne5 : w.heap.size + 1 ≠ w5.heap.size := by have := HS5.out.s; omega
                have HSS := Lib.hid HS7.out.s
                have HS67 : Hid (w.heap.size + 2 ≤ w6.heap.size) := HS6.out.s
                clear HMO HNO HX5 HN5 hne5
                go_wp2_with (at_builtin; go_must (refine wpList_append_own_at _ rfl (.tmp 53) (.tmp 55) _ rfl (w.heap.size + 2) 242 i0 (.agg #[.int .i32 0, .int .i32 0]) 2 8 Tryz.underlying149 hi hz0 hz1 hz2 rfl (by decide) (.slice A2 rs.length c2) rs.length _ rfl HS7.out.o ⟨w6.heap.size, 0, none⟩ 1 1 [.int .i32 (lo : Nat), .int .i32 (hiR : Nat)] rfl rfl (by exact cells_news2 HX7.out) (by intro u hu; simp at hu; rcases hu with rfl | rfl <;> rfl) (by unfold maxLen; omega) (by omega) (by exact HSS.out) ?_; intro v' w8 hown' hgrow hnil' hloc; obtain ⟨A8, c8, rfl⟩ := row_slice2 hown'; have HO8 := Lib.hid hown'; have HB8 := Lib.hid (HS7.out.b.grown hgrow (by have := HSS.out; omega) (fun q hq => by have := (HLT.out q hq).1; omega)); have HZ8 := Lib.hid ((hgrow.block w.heap.size (by have := HSS.out; omega) (fun e => by have := (HLT.out _ e.symm).1; omega)).trans HS7.out.z); have HA8 := Lib.hid ((hgrow.block (w.heap.size + 1) (by have := HSS.out; omega) (fun e => by have := (HLT.out _ e.symm).1; omega)).trans HS7.out.a); have HG8 := Lib.hid hgrow.size; have a8 := (cell_of_row _ _ 3 _ _ _ HA8.out).trans (show _ = some (Value.slice A2 rs.length c2) from rfl); have f8 := frozen_of_row _ _ 3 _ _ HA8.out; clear hown' hgrow hnil' hloc))
                have HO9 := Lib.hid (ownsRow_setCell_below HO8.out (a := ⟨w.heap.size + 1, 3, none⟩) (by simp) (.slice A8 (rs.length + 1) c8))
                have HZ9 := Lib.hid ((heap_setCell_other w8 ⟨w.heap.size + 1, 3, none⟩ w.heap.size (.slice A8 (rs.length + 1) c8) (by simp)).trans HZ8.out)
                have HA9 := Lib.hid (heap_setCell_same w8 (w.heap.size + 1) 3 _ _ (.slice A8 (rs.length + 1) c8) HA8.out)
                have HB9 := Lib.hid (HB8.out.setCell (p := ⟨w.heap.size + 1, 3, none⟩) (by simp) (.slice A8 (rs.length + 1) c8))
                have HG9 : Hid (w.heap.size + 2 ≤ (w8.setCell ⟨w.heap.size + 1, 3, none⟩ (.slice A8 (rs.length + 1) c8)).heap.size) := by
                  have h1 := HG8.out
                  have h2 := HSS.out
                  show _ ≤ _
                  simp [World.setCell]
                  omega
                go_roundw
                case rel =>
                  refine ⟨a + j, _, rs ++ [(lo, hiR)], by omega, by go_num, ⟨HZ9.out, HA9.out, ?_, HB9.out, HG9.out⟩, HOO, by simp; omega⟩
                  have e : cellsP .i32 (rgI (rs ++ [(lo, hiR)])) = cellsP .i32 (rgI rs) ++ [.int .i32 (lo : Nat), .int .i32 (hiR : Nat)] := by
                    unfold rgI
                    rw [List.map_append, cellsP_app]
                    rfl
                  rw [e, List.length_append]
                  exact HO9.out
                case measure => simp [intOf]; omega
        · obtain rfl : a = n := by omega
          have HOO : Hid (O = none) := by show _ = _; rw [← HOr.out]; exact setF_out (by omega)
          have gan : decide ((a : Int) < (a : Int)) = false := decide_eq_false (by omega)
          go_wp2_with fail
          refine bodyPost_ret (v := .tuple #[.agg #[.int .i64 0, .int .i32 0, .bool false, .slice none 0 0], .int .i64 0]) (by simp [results, Tryz.results98, go_sem, z0, z1, z2, z3]) rfl ?_
          exact .inl ⟨HOO.out, rfl, (((HS.out.b.setCell (p := ⟨w.heap.size, 0, none⟩) (Nat.le_refl _) _).setCell (p := ⟨w.heap.size, 1, none⟩) (Nat.le_refl _) _).setCell (p := ⟨w.heap.size, 2, none⟩) (Nat.le_refl _) _).setCell (p := ⟨w.heap.size, 3, none⟩) (Nat.le_refl _) _⟩
end Go.Proofs.YtjnoapbddifcpaaGreatDoor
