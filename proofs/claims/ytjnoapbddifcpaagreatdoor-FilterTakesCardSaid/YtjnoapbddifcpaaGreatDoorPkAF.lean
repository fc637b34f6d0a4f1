/-
  Glob: an atom of any kind (atom).
  Glob: rows of atoms; Compile.
-/
import Derived.Test.YtjnoapbddifcpaaGreatDoorGlD

namespace Go.Proofs.YtjnoapbddifcpaaGreatDoor
set_option maxRecDepth 100000
open Go.RowKit Go.Joins Go.Deep

/-- A slice that holds an atom's ranges. -/
def AtmV (w : World) (x : Atm) (V : Value) : Prop := ∃ A c, V = .slice A x.rs.length c ∧ RgB w A x.rs
theorem AtmV.below {w w' : World} {x : Atm} {V : Value} (h : AtmV w x V) (hb : Below w.heap.size w w') : AtmV w' x V := by
  obtain ⟨A, c, e, hr⟩ := h
  exact ⟨A, c, e, hr.below hb⟩
theorem rgb_nil (w : World) (A : Option Addr) : RgB w A [] := fun h => absurd h (by decide)
/-- What atom answers. -/
def AtomR (w : World) (o : Option (Atm × Nat)) (e : Ending) (w' : World) : Prop :=
  (o = none ∧ (∃ k : Int, e = .returned (.tuple #[.agg #[.int .i64 k, .int .i32 0, .bool false, .slice none 0 0], .int .i64 0])) ∧ Below w.heap.size w w') ∨
  (∃ x m V, o = some (x, m) ∧ e = .returned (.tuple #[.agg #[.int .i64 x.k, .int .i32 x.r, .bool x.n, V], .int .i64 (m : Nat)]) ∧ AtmV w' x V ∧ Below w.heap.size w w')
theorem plainF_none : ∀ l : List Nat, (plainF l).2 = 0 → (plainF l).1 = 0
  | [], _ => rfl
  | [c], h => by rw [plainF] at h ⊢; split at h; rw [if_pos (by assumption)]; cases h
  | c :: r :: t, h => by rw [plainF] at h; split at h <;> cases h
set_option maxHeartbeats 8000000 in
theorem atom_any (A : Option Addr) (n cap : Nat) (l : List Nat) (hn : l.length = n) (h0 : 0 < n) (hn5 : n ≤ 100000) (hcap : n ≤ cap) (hmx : cap ≤ maxLen) (hr : AllR l) (w : World) (hR : Rn w A l) :
    Calls Tryz.prog 67 #[.slice A n cap] w (AtomR w (atomF l)) := by
  have hza := zero_atom
  have hia := info_atom
  have hR0 := hR.below (Nat.le_refl _) (below_alG w (.cells #[.int .i64 0, .int .i32 0, .bool false, .slice none 0 0] 151))
  have HR0 := Lib.hid hR0
  obtain ⟨b, off, hA, hlt, hc⟩ := hR0 (by omega)
  have c0 := hc 0 (by omega)
  rw [Nat.add_zero] at c0
  have HAO := Lib.hid (show atomF l = if l.getD 0 0 = 42 then some (⟨3, 0, false, []⟩, 1) else if l.getD 0 0 = 63 then some (⟨2, 0, false, []⟩, 1) else if l.getD 0 0 = 91 then (setF (l.drop 1) (if notF (l.drop 1) 0 = true then 1 else 0) []).map fun p => (⟨4, 0, notF (l.drop 1) 0, rgI p.1⟩, p.2 + 1) else if (plainF l).2 = 0 then none else some (⟨1, ((plainF l).1 : Nat), false, []⟩, (plainF l).2) from rfl)
  generalize hO : atomF l = O at *
  have HP := Lib.hid (fun w1 h => plain_any A n cap l hn h0 hr w1 h)
  obtain ⟨A', hrun, hrn⟩ := rn_slice A n cap 1 (by omega) hcap
  have hrun' : ∀ w : World, (Instr.slice 148 (.slice A n cap) (some (.int .i64 1)) none none).run Tryz.prog w = .ok (.slice A' (n - 1) (cap - 1)) w := hrun
  have HR1 : Hid (Rn (w.alloc (.cells #[.int .i64 0, .int .i32 0, .bool false, .slice none 0 0] 151)) A' (l.drop 1)) := hrn _ l hn HR0.out
  have HSE := Lib.hid (fun w1 h => set_any A' (n - 1) (cap - 1) (l.drop 1) (by rw [List.length_drop, hn]) (by omega) (by omega) (by unfold maxLen at *; omega) (hr.drop 1) w1 h)
  have hmx2 : cap ≤ 9223372036854775807 := by unfold maxLen at *; omega
  have HSL := Lib.hid (fun (rs : List (Nat × Nat)) (a : Nat) (h : setF (l.drop 1) (if notF (l.drop 1) 0 = true then 1 else 0) [] = some (rs, a)) => setF_le h)
  generalize hx : l.getD 0 0 = x at *
  have HZ := Lib.hid (heap_alloc_new w (.cells #[.int .i64 0, .int .i32 0, .bool false, .slice none 0 0] 151))
  have HB0 := Lib.hid (below_alG w (.cells #[.int .i64 0, .int .i32 0, .bool false, .slice none 0 0] 151))
  have HZ0 : Hid ((w.alloc (.cells #[.int .i64 0, .int .i32 0, .bool false, .slice none 0 0] 151)).heap.size = w.heap.size + 1) := by show _ = _; simp
  subst hA
  clear hO hc hlt hR hx hrn hrun
  by_cases h42 : x = 42
  · subst h42
    have hO := HAO.out.trans (if_pos rfl)
    subst hO
    clear HAO
    go_enter Tryz.func67, Tryz.ntmps67
    go_wp2_with fail
    refine bodyPost_ret (v := .tuple #[.agg #[.int .i64 3, .int .i32 0, .bool false, .slice none 0 0], .int .i64 1]) (by simp [results, Tryz.results67, go_sem]) rfl ?_
    exact .inr ⟨_, _, _, rfl, rfl, ⟨none, 0, rfl, rgb_nil _ _⟩, below_alG w _⟩
  · have g1 : ((x : Int) == 42) = false := by rw [beq_eq_false_iff_ne]; omega
    have hO := HAO.out.trans (if_neg h42)
    by_cases h63 : x = 63
    · subst h63
      rw [if_pos rfl] at hO
      subst hO
      clear HAO h42
      go_enter Tryz.func67, Tryz.ntmps67
      go_wp2_with fail
      refine bodyPost_ret (v := .tuple #[.agg #[.int .i64 2, .int .i32 0, .bool false, .slice none 0 0], .int .i64 1]) (by simp [results, Tryz.results67, go_sem]) rfl ?_
      exact .inr ⟨_, _, _, rfl, rfl, ⟨none, 0, rfl, rgb_nil _ _⟩, below_alG w _⟩
    · have g2 : ((x : Int) == 63) = false := by rw [beq_eq_false_iff_ne]; omega
      rw [if_neg h63] at hO
      by_cases h91 : x = 91
      · subst h91
        rw [if_pos rfl] at hO
        have HOO := Lib.hid hO
        clear HAO h42 h63 hO
        generalize hs : setF (l.drop 1) (if notF (l.drop 1) 0 = true then 1 else 0) [] = S at *
        generalize notF (l.drop 1) 0 = N at *
        clear hs
        go_enter Tryz.func67, Tryz.ntmps67
        go_wp2_with fail
        generalize w.alloc (.cells #[.int .i64 0, .int .i32 0, .bool false, .slice none 0 0] 151) = w1 at *
        refine (HSE.out _ HR1.out).mono ?_; rintro e w5 (⟨rfl, rfl, hb5⟩ | ⟨rs, a, A5, c5, rfl, rfl, hrg, hb5⟩)
        · have HB5 := Lib.hid (HB0.out.trans (hb5.mono HB0.out.size))
          have HZ5 := Lib.hid ((hb5.block w.heap.size (by have := HZ0.out; omega)).trans HZ.out)
          clear hb5
          have HN6 := Lib.hid (heap_alloc_old w5 (.cells #[.int .i64 0, .int .i32 0, .bool false, .slice none 0 0] 151) (lt_of_block HZ5.out) |>.trans HZ5.out)
          have HB6 := Lib.hid (HB5.out.alloc HB5.out.size (.cells #[.int .i64 0, .int .i32 0, .bool false, .slice none 0 0] 151))
          go_upto_if 26 with fail
          generalize w5.alloc (.cells #[.int .i64 0, .int .i32 0, .bool false, .slice none 0 0] 151) = w6 at *
          have z0 := (cell_of_row _ _ 0 _ _ _ HN6.out).trans (show _ = some (Value.int .i64 0) from rfl)
          have z1 := (cell_of_row _ _ 1 _ _ _ HN6.out).trans (show _ = some (Value.int .i32 0) from rfl)
          have z2 := (cell_of_row _ _ 2 _ _ _ HN6.out).trans (show _ = some (Value.bool false) from rfl)
          have z3 := (cell_of_row _ _ 3 _ _ _ HN6.out).trans (show _ = some (Value.slice none 0 0) from rfl)
          have fz := fun j => frozen_of_row _ _ j _ _ HN6.out
          go_wp2_with fail
          refine bodyPost_ret (v := .tuple #[.agg #[.int .i64 0, .int .i32 0, .bool false, .slice none 0 0], .int .i64 0]) (by simp [results, Tryz.results67, go_sem, z0, z1, z2, z3]) rfl ?_
          exact .inl ⟨HOO.out, ⟨0, rfl⟩, (((HB6.out.setCell (p := ⟨w.heap.size, 0, none⟩) (Nat.le_refl _) _).setCell (p := ⟨w.heap.size, 1, none⟩) (Nat.le_refl _) _).setCell (p := ⟨w.heap.size, 2, none⟩) (Nat.le_refl _) _).setCell (p := ⟨w.heap.size, 3, none⟩) (Nat.le_refl _) _⟩
        · have ha := HSL.out rs a rfl
          rw [List.length_drop, hn] at ha
          have HB5 := Lib.hid (HB0.out.trans (hb5.mono HB0.out.size))
          have HZ5 := Lib.hid ((hb5.block w.heap.size (by have := HZ0.out; omega)).trans HZ.out)
          have HR6 := Lib.hid (hrg.below (below_alG w5 (.cells #[.int .i64 4, .int .i32 0, .bool N, .slice A5 rs.length c5] 151)))
          clear hb5 hrg
          have HN6 := Lib.hid (heap_alloc_old w5 (.cells #[.int .i64 4, .int .i32 0, .bool N, .slice A5 rs.length c5] 151) (lt_of_block HZ5.out) |>.trans HZ5.out)
          have HB6 := Lib.hid (HB5.out.alloc HB5.out.size (.cells #[.int .i64 4, .int .i32 0, .bool N, .slice A5 rs.length c5] 151))
          have HX6 := Lib.hid (heap_alloc_new w5 (.cells #[.int .i64 4, .int .i32 0, .bool N, .slice A5 rs.length c5] 151))
          have gne : w.heap.size ≠ w5.heap.size := Nat.ne_of_lt (lt_of_block HZ5.out)
          have HMP : Hid (O = some (⟨4, 0, N, rgI rs⟩, a + 1)) := HOO.out
          have gaz : ((a : Int) == 0) = false := by rw [beq_eq_false_iff_ne]; omega
          clear HOO HSE HSL
          go_upto_if 26 with fail
          generalize w5.alloc (.cells #[.int .i64 4, .int .i32 0, .bool N, .slice A5 rs.length c5] 151) = w6 at *
          have z0 := (cell_of_row _ _ 0 _ _ _ HN6.out).trans (show _ = some (Value.int .i64 0) from rfl)
          have z1 := (cell_of_row _ _ 1 _ _ _ HN6.out).trans (show _ = some (Value.int .i32 0) from rfl)
          have z2 := (cell_of_row _ _ 2 _ _ _ HN6.out).trans (show _ = some (Value.bool false) from rfl)
          have z3 := (cell_of_row _ _ 3 _ _ _ HN6.out).trans (show _ = some (Value.slice none 0 0) from rfl)
          have fz := fun j => frozen_of_row _ _ j _ _ HN6.out
          have x0 := (cell_of_row _ _ 0 _ _ _ HX6.out).trans (show _ = some (Value.int .i64 4) from rfl)
          have x1 := (cell_of_row _ _ 1 _ _ _ HX6.out).trans (show _ = some (Value.int .i32 0) from rfl)
          have x2 := (cell_of_row _ _ 2 _ _ _ HX6.out).trans (show _ = some (Value.bool N) from rfl)
          have x3 := (cell_of_row _ _ 3 _ _ _ HX6.out).trans (show _ = some (Value.slice A5 rs.length c5) from rfl)
          go_wp2_with fail
          refine bodyPost_ret (v := .tuple #[.agg #[.int .i64 4, .int .i32 0, .bool N, .slice A5 rs.length c5], .int .i64 ((a : Int) + 1)]) (by simp [results, Tryz.results67, go_sem, z0, z1, z2, z3]) rfl ?_
          have hc1 : (w6.setCell ⟨w.heap.size, 0, none⟩ (.int .i64 4)).heap[w.heap.size]? = some (.cells #[.int .i64 4, .int .i32 0, .bool false, .slice none 0 0] 151 (0, 0)) := heap_setCell_same _ _ 0 _ _ _ HN6.out
          have hc2 : ((w6.setCell ⟨w.heap.size, 0, none⟩ (.int .i64 4)).setCell ⟨w.heap.size, 1, none⟩ (.int .i32 0)).heap[w.heap.size]? = some (.cells #[.int .i64 4, .int .i32 0, .bool false, .slice none 0 0] 151 (0, 0)) := heap_setCell_same _ _ 1 _ _ _ hc1
          have hc3 : (((w6.setCell ⟨w.heap.size, 0, none⟩ (.int .i64 4)).setCell ⟨w.heap.size, 1, none⟩ (.int .i32 0)).setCell ⟨w.heap.size, 2, none⟩ (.bool N)).heap[w.heap.size]? = some (.cells #[.int .i64 4, .int .i32 0, .bool N, .slice none 0 0] 151 (0, 0)) := heap_setCell_same _ _ 2 _ _ _ hc2
          refine .inr ⟨_, _, _, HMP.out, by go_num, ⟨A5, c5, by rw [rgI_len], ?_⟩, (((HB6.out.setCell (p := ⟨w.heap.size, 0, none⟩) (Nat.le_refl _) _).setCell (p := ⟨w.heap.size, 1, none⟩) (Nat.le_refl _) _).setCell (p := ⟨w.heap.size, 2, none⟩) (Nat.le_refl _) _).setCell (p := ⟨w.heap.size, 3, none⟩) (Nat.le_refl _) _⟩
          exact (((HR6.out.set HN6.out (by decide) _).set hc1 (by decide) _).set hc2 (by decide) _).set hc3 (by decide) _
      · have g3 : ((x : Int) == 91) = false := by rw [beq_eq_false_iff_ne]; omega
        rw [if_neg h91] at hO
        have hpn := plainF_none l
        have hlo : (plainF l).1 ≤ 1114111 := by
          rcases l with _ | ⟨c, _ | ⟨r, t⟩⟩
          · simp at hn; omega
          · have := hr 0
            rw [plainF]; split
            · show (0 : Nat) ≤ _; omega
            · exact this
          · have h1 := hr 0
            have h2 := hr 1
            rw [plainF]; split
            · exact h2
            · exact h1
        generalize (plainF l).1 = lo at *
        generalize (plainF l).2 = k at *
        have HOO := Lib.hid hO
        clear HAO h42 h63 h91 hO HSE HSL
        go_enter Tryz.func67, Tryz.ntmps67
        go_wp2_with fail
        refine (HP.out _ HR0.out).mono ?_; rintro e w5 ⟨rfl, rfl⟩
        go_wp2_with fail
        by_cases hk : k = 0
        · have h0' := hpn hk
          subst hk
          subst h0'
          refine bodyPost_ret (v := .tuple #[.agg #[.int .i64 1, .int .i32 0, .bool false, .slice none 0 0], .int .i64 0]) (by simp [results, Tryz.results67, go_sem]) rfl ?_
          exact .inl ⟨HOO.out.trans (if_pos rfl), ⟨1, rfl⟩, below_alG w _⟩
        · refine bodyPost_ret (v := .tuple #[.agg #[.int .i64 1, .int .i32 (lo : Nat), .bool false, .slice none 0 0], .int .i64 (k : Nat)]) (by simp [results, Tryz.results67, go_sem]) rfl ?_
          exact .inr ⟨_, _, _, HOO.out.trans (if_neg hk), rfl, ⟨none, 0, rfl, rgb_nil _ _⟩, below_alG w _⟩
end Go.Proofs.YtjnoapbddifcpaaGreatDoor

namespace Go.Proofs.YtjnoapbddifcpaaGreatDoor
set_option maxRecDepth 100000
open Go.RowKit Go.Joins Go.Deep

def cellsA : List (Atm × Value) → List Value
  | [] => []
  | q :: l => .int .i64 q.1.k :: .int .i32 q.1.r :: .bool q.1.n :: q.2 :: cellsA l
theorem cellsA_app (l m : List (Atm × Value)) : cellsA (l ++ m) = cellsA l ++ cellsA m := by
  induction l with
  | nil => rfl
  | cons x l ih => simp only [List.cons_append, cellsA, ih]
theorem cellsA_get : ∀ (l : List (Atm × Value)) (i : Nat) (q : Atm × Value), l[i]? = some q → (cellsA l)[i * 4]? = some (.int .i64 q.1.k) ∧ (cellsA l)[i * 4 + 1]? = some (.int .i32 q.1.r) ∧ (cellsA l)[i * 4 + 2]? = some (.bool q.1.n) ∧ (cellsA l)[i * 4 + 3]? = some q.2
  | x :: l, 0, q, h => by
    obtain rfl : x = q := by simpa using h
    exact ⟨rfl, rfl, rfl, rfl⟩
  | x :: l, i + 1, q, h => by
    have := cellsA_get l i q (by simpa using h)
    rw [show (i + 1) * 4 = i * 4 + 4 by omega, show i * 4 + 4 + 1 = i * 4 + 1 + 4 by omega, show i * 4 + 4 + 2 = i * 4 + 2 + 4 by omega, show i * 4 + 4 + 3 = i * 4 + 3 + 4 by omega]
    simpa [cellsA] using this
/-- A slice of atoms, as it is read. -/
def Ats (w : World) (A : Option Addr) (ats : List Atm) : Prop := 0 < ats.length → ∃ b off, A = some ⟨b, off, none⟩ ∧ b < w.heap.size ∧ ∀ (i : Nat) (x : Atm), ats[i]? = some x → w.cell? ⟨b, off + i * 4, none⟩ = some (.int .i64 x.k) ∧ w.cell? ⟨b, off + i * 4 + 1, none⟩ = some (.int .i32 x.r) ∧ w.cell? ⟨b, off + i * 4 + 2, none⟩ = some (.bool x.n) ∧ ∃ Ai ci, w.cell? ⟨b, off + i * 4 + 3, none⟩ = some (.slice Ai x.rs.length ci) ∧ Rgs w .i32 Ai x.rs
theorem Ats.below {w w' : World} {A : Option Addr} {ats : List Atm} (h : Ats w A ats) (hb : Below w.heap.size w w') : Ats w' A ats := fun h0 => by
  obtain ⟨b, off, e, hlt, hc⟩ := h h0
  refine ⟨b, off, e, Nat.lt_of_lt_of_le hlt hb.size, fun i x hx => ?_⟩
  obtain ⟨c0, c1, c2, Ai, ci, c3, hr⟩ := hc i x hx
  exact ⟨(hb.cell (p := ⟨b, off + i * 4, none⟩) hlt).trans c0, (hb.cell (p := ⟨b, off + i * 4 + 1, none⟩) hlt).trans c1, (hb.cell (p := ⟨b, off + i * 4 + 2, none⟩) hlt).trans c2, Ai, ci, (hb.cell (p := ⟨b, off + i * 4 + 3, none⟩) hlt).trans c3, hr.below (Nat.le_refl _) hb⟩
/-- What Compile's loop keeps. -/
structure CompSt (w wr : World) (RS : Array Value) (V : Value) (qs : List (Atm × Value)) : Prop where
  z : wr.heap[w.heap.size]? = some (.cells #[.slice none 0 0] 98 (0, 0))
  a : wr.heap[w.heap.size + 1]? = some (.cells #[V] 98 (0, 0))
  t : wr.heap[w.heap.size + 1 + 1]? = some (.cells RS 21 (0, 0))
  o : wr.ownsRow (w.heap.size + 1 + 1 + 1) 151 4 V qs.length (cellsA qs)
  r : ∀ q ∈ qs, AtmV wr q.1 q.2
  b : Below w.heap.size w wr
  s : w.heap.size + 1 + 1 + 1 ≤ wr.heap.size
theorem CompSt.next {w wr wx : World} {RS : Array Value} {V : Value} {qs : List (Atm × Value)} (h : CompSt w wr RS V qs) (hb : Below wr.heap.size wr wx) : CompSt w wx RS V qs :=
  ⟨(hb.block _ (lt_of_block h.z)).trans h.z, (hb.block _ (lt_of_block h.a)).trans h.a, (hb.block _ (lt_of_block h.t)).trans h.t, own_below' h.o hb, fun q hq => (h.r q hq).below hb, below_then h.b hb, Nat.le_trans h.s hb.size⟩
/-- A row of runes from a place on. -/
theorem rn_block {w : World} {b : Nat} {RS : Array Value} {l : List Nat} (hb : w.heap[b]? = some (.cells RS 21 (0, 0))) (hr : ∀ i, i < l.length → RS[i]? = some (.int .i32 ((l.getD i 0 : Nat) : Int))) (k : Nat) : Rn w (some ⟨b, k, none⟩) (l.drop k) := fun h0 => by
  rw [List.length_drop] at h0
  refine ⟨b, k, rfl, lt_of_block hb, fun i hi => ?_⟩
  rw [List.length_drop] at hi
  rw [cell_of_row _ _ _ _ _ _ hb, hr (k + i) (by omega), List.getD_eq_getElem?_getD, List.getD_eq_getElem?_getD, List.getElem?_drop]
theorem rn_slice' (A : Option Addr) (n cap k : Nat) (hk : k ≤ n) (hcap : n ≤ cap) :
    ∃ A', (∀ w : World, (Instr.slice 148 (.slice A n cap) (some (.int .i64 (k : Nat))) none none).run Tryz.prog w = .ok (.slice A' (n - k) (cap - k)) w) ∧ ∀ b off, k < n → A = some ⟨b, off, none⟩ → A' = some ⟨b, off + k, none⟩ := by
  have h1 : (0 : Int) ≤ (k : Int) := by omega
  have h2 : (k : Int) ≤ (n : Int) := by omega
  refine ⟨if cap = k then A else A.map (·.add (k * 1)), fun w => ?_, fun b off hlt e => ?_⟩
  · rw [run_slice_l (P := Tryz.prog) w 148 A n cap Tryz.underlying148 .i64 (k : Int) h1 h2]
    obtain ⟨i, hi, hs⟩ := Option.map_eq_some_iff.1 info_i32
    have hsz : (sizeOf (Tryz.prog.elem 148)).run Tryz.prog w = .ok 1 w := by
      show (sizeOf 21).run Tryz.prog w = .ok 1 w
      simp [sizeOf, typeInfo, hi, hs]
    rw [hsz]
    simp [Result.andThen, sliced]
  · rw [if_neg (by omega), e, Option.map_some, Addr.add_lit, Nat.mul_one]
theorem runes_from (s : ByteArray) : ∀ (f i : Nat) (acc : Array Value), (Conv.runesFrom s f i acc).toList = acc.toList ++ (runeF s f i).map fun r => Value.int .i32 ((r : Nat) : Int)
  | 0, i, acc => by simp [Conv.runesFrom, runeF]
  | f + 1, i, acc => by
    rw [Conv.runesFrom, runeF]
    split
    · rw [runes_from s f]
      simp
    · simp
theorem runeF_len (s : ByteArray) : ∀ (f i : Nat), (runeF s f i).length ≤ f
  | 0, _ => Nat.le_refl _
  | f + 1, i => by
    rw [runeF]
    split
    · have := runeF_len s f (i + (Utf8.decode s i).2)
      rw [List.length_cons]; omega
    · exact Nat.zero_le _
theorem runeF_max (s : ByteArray) : ∀ (f i : Nat), ∀ x ∈ runeF s f i, x ≤ 1114111
  | 0, _, x, h => by cases h
  | f + 1, i, x, h => by
    rw [runeF] at h
    split at h
    next hi =>
      rcases List.mem_cons.1 h with rfl | h
      · rcases decode_run s i hi with ⟨h1, h2⟩ | h1
        · rw [h2]; show s[i].toNat ≤ _; omega
        · exact h1.2.2.1
      · exact runeF_max s f _ x h
    · cases h
theorem allR_of {l : List Nat} (h : ∀ x ∈ l, x ≤ 1114111) : AllR l := fun i => by
  rw [List.getD_eq_getElem?_getD]
  by_cases hi : i < l.length
  · rw [List.getElem?_eq_getElem hi]
    exact h _ (List.getElem_mem hi)
  · rw [List.getElem?_eq_none (by omega)]
    show (0 : Nat) ≤ _; omega
theorem zero_pat (w : World) : (zeroValue 98).run Tryz.prog w = .ok (.agg #[.slice none 0 0]) w := by kernel_rfl
theorem info_pat : (Tryz.prog.info? 98).map (·.size) = some 1 := by kernel_rfl
theorem parts_atom : (Tryz.prog.info? 151).map (fun i => (i.zero, i.size, i.bytes)) = some (some (.agg #[.int .i64 0, .int .i32 0, .bool false, .slice none 0 0]), 4, 40) := by kernel_rfl
theorem info_ats : (Tryz.prog.info? 96).map (·.size) = some 1 := by kernel_rfl
theorem RgB.grow {w w' : World} {A : Option Addr} {l : List (Int × Int)} (h : RgB w A l) {B n z : Nat} {v : Value} {xs : List Value} {T : TypeId} (ho : w.ownsRow B T z v n xs) (hT : T ≠ 242) (hg : w.grownBy w' v.ownBlock) : RgB w' A l := h.keep fun b cs hx => hg.block b (lt_of_block hx) (fun e => by
  rcases ho.2 with ⟨h1, _⟩ | ⟨g, cap, cur, h1, _, h3, _⟩
  · rw [h1] at e; cases e
  · rw [h1] at e
    injection e with e
    have e' : b = g := e
    subst e'
    rw [h3] at hx
    injection hx with hx
    injection hx with _ hx _
    exact hT hx)
def lenOf : Value → Nat
  | .slice _ n _ => n
  | _ => 0
/-- What Compile answers. -/
def CompR (w : World) (o : Option (List Atm)) (e : Ending) (w' : World) : Prop :=
  (o = none ∧ e = .returned (.tuple #[.agg #[.slice none 0 0], .int .i64 22]) ∧ Below w.heap.size w w') ∨
  (∃ ats A c, o = some ats ∧ ats.length ≤ c ∧ e = .returned (.tuple #[.agg #[.slice A ats.length c], .int .i64 0]) ∧ Ats w' A ats ∧ Below w.heap.size w w')
end Go.Proofs.YtjnoapbddifcpaaGreatDoor
