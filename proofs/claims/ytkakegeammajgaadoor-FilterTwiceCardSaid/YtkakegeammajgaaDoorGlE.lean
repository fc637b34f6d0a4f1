/-
  Glob: an atom of any kind (atom).
-/
import Derived.Test.YtkakegeammajgaaDoorGlD
namespace Go.Proofs.YtkakegeammajgaaDoor
set_option maxRecDepth 100000
open Go.RowKit Go.Joins Go.Deep

/-- A slice that holds an atom's ranges. -/
def AtmV (w : World) (x : Atm) (V : Value) : Prop := ∃ A c, V = .slice A x.rs.length c ∧ RgB w A x.rs
theorem AtmV.below {w w' : World} {x : Atm} {V : Value} (h : AtmV w x V) (hb : Below w.heap.size w w') : AtmV w' x V := by
  obtain ⟨A, c, e, hr⟩ := h
  exact ⟨A, c, e, hr.below hb⟩
theorem rgb_nil (w : World) (A : Option Addr) : RgB w A [] := fun h => absurd h (by decide)
/-- What atom answers. -/
def AtomR (w : World) (o : Option (Atm × Nat)) (e : Ending) (w' : World) : Prop :=
  (o = none ∧ (∃ k : Int, e = .returned (.tuple #[.agg #[.int .i64 k, .int .i32 0, .bool false, .slice none 0 0], .int .i64 0])) ∧ Below w.heap.size w w') ∨
  (∃ x m V, o = some (x, m) ∧ e = .returned (.tuple #[.agg #[.int .i64 x.k, .int .i32 x.r, .bool x.n, V], .int .i64 (m : Nat)]) ∧ AtmV w' x V ∧ Below w.heap.size w w')
theorem plainF_none : ∀ l : List Nat, (plainF l).2 = 0 → (plainF l).1 = 0
  | [], _ => rfl
  | [c], h => by rw [plainF] at h ⊢; split at h; rw [if_pos (by assumption)]; cases h
  | c :: r :: t, h => by rw [plainF] at h; split at h <;> cases h
set_option maxHeartbeats 8000000 in
theorem atom_any (A : Option Addr) (n cap : Nat) (l : List Nat) (hn : l.length = n) (h0 : 0 < n) (hn5 : n ≤ 100000) (hcap : n ≤ cap) (hmx : cap ≤ maxLen) (hr : AllR l) (w : World) (hR : Rn w A l) :
    Calls Tryd.prog 20 #[.slice A n cap] w (AtomR w (atomF l)) := by
  have hza := zero_atom
  have hia := info_atom
  have hR0 := hR.below (Nat.le_refl _) (below_al w (.cells #[.int .i64 0, .int .i32 0, .bool false, .slice none 0 0] 58))
  have HR0 := Lib.hid hR0
  obtain ⟨b, off, hA, hlt, hc⟩ := hR0 (by omega)
  have c0 := hc 0 (by omega)
  rw [Nat.add_zero] at c0
  have HAO := Lib.hid (show atomF l = if l.getD 0 0 = 42 then some (⟨3, 0, false, []⟩, 1) else if l.getD 0 0 = 63 then some (⟨2, 0, false, []⟩, 1) else if l.getD 0 0 = 91 then (setF (l.drop 1) (if notF (l.drop 1) 0 = true then 1 else 0) []).map fun p => (⟨4, 0, notF (l.drop 1) 0, rgI p.1⟩, p.2 + 1) else if (plainF l).2 = 0 then none else some (⟨1, ((plainF l).1 : Nat), false, []⟩, (plainF l).2) from rfl)
  generalize hO : atomF l = O at *
  have HP := Lib.hid (fun w1 h => plain_any A n cap l hn h0 hr w1 h)
  obtain ⟨A', hrun, hrn⟩ := rn_slice A n cap 1 (by omega) hcap
  have hrun' : ∀ w : World, (Instr.slice 55 (.slice A n cap) (some (.int .i64 1)) none none).run Tryd.prog w = .ok (.slice A' (n - 1) (cap - 1)) w := hrun
  have HR1 : Hid (Rn (w.alloc (.cells #[.int .i64 0, .int .i32 0, .bool false, .slice none 0 0] 58)) A' (l.drop 1)) := hrn _ l hn HR0.out
  have HSE := Lib.hid (fun w1 h => set_any A' (n - 1) (cap - 1) (l.drop 1) (by rw [List.length_drop, hn]) (by omega) (by omega) (by unfold maxLen at *; omega) (hr.drop 1) w1 h)
  have hmx2 : cap ≤ 9223372036854775807 := by unfold maxLen at *; omega
  have HSL := Lib.hid (fun (rs : List (Nat × Nat)) (a : Nat) (h : setF (l.drop 1) (if notF (l.drop 1) 0 = true then 1 else 0) [] = some (rs, a)) => setF_le h)
  generalize hx : l.getD 0 0 = x at *
  have HZ := Lib.hid (heap_alloc_new w (.cells #[.int .i64 0, .int .i32 0, .bool false, .slice none 0 0] 58))
  have HB0 := Lib.hid (below_al w (.cells #[.int .i64 0, .int .i32 0, .bool false, .slice none 0 0] 58))
  have HZ0 : Hid ((w.alloc (.cells #[.int .i64 0, .int .i32 0, .bool false, .slice none 0 0] 58)).heap.size = w.heap.size + 1) := by show _ = _; simp
  subst hA
  clear hO hc hlt hR hx hrn hrun
  by_cases h42 : x = 42
  · subst h42
    have hO := HAO.out.trans (if_pos rfl)
    subst hO
    clear HAO
    go_enter Tryd.func20, Tryd.ntmps20
    go_wp2_with fail
    refine bodyPost_ret (v := .tuple #[.agg #[.int .i64 3, .int .i32 0, .bool false, .slice none 0 0], .int .i64 1]) (by simp [results, Tryd.results20, go_sem]) rfl ?_
    exact .inr ⟨_, _, _, rfl, rfl, ⟨none, 0, rfl, rgb_nil _ _⟩, below_al w _⟩
  · have g1 : ((x : Int) == 42) = false := by rw [beq_eq_false_iff_ne]; omega
    have hO := HAO.out.trans (if_neg h42)
    by_cases h63 : x = 63
    · subst h63
      rw [if_pos rfl] at hO
      subst hO
      clear HAO h42
      go_enter Tryd.func20, Tryd.ntmps20
      go_wp2_with fail
      refine bodyPost_ret (v := .tuple #[.agg #[.int .i64 2, .int .i32 0, .bool false, .slice none 0 0], .int .i64 1]) (by simp [results, Tryd.results20, go_sem]) rfl ?_
      exact .inr ⟨_, _, _, rfl, rfl, ⟨none, 0, rfl, rgb_nil _ _⟩, below_al w _⟩
    · have g2 : ((x : Int) == 63) = false := by rw [beq_eq_false_iff_ne]; omega
      rw [if_neg h63] at hO
      by_cases h91 : x = 91
      · subst h91
        rw [if_pos rfl] at hO
        have HOO := Lib.hid hO
        clear HAO h42 h63 hO
        generalize hs : setF (l.drop 1) (if notF (l.drop 1) 0 = true then 1 else 0) [] = S at *
        generalize notF (l.drop 1) 0 = N at *
        clear hs
        go_enter Tryd.func20, Tryd.ntmps20
        go_wp2_with fail
        generalize w.alloc (.cells #[.int .i64 0, .int .i32 0, .bool false, .slice none 0 0] 58) = w1 at *
        refine (HSE.out _ HR1.out).mono ?_; rintro e w5 (⟨rfl, rfl, hb5⟩ | ⟨rs, a, A5, c5, rfl, rfl, hrg, hb5⟩)
        · have HB5 := Lib.hid (HB0.out.trans (hb5.mono HB0.out.size))
          have HZ5 := Lib.hid ((hb5.block w.heap.size (by have := HZ0.out; omega)).trans HZ.out)
          clear hb5
          have HN6 := Lib.hid (heap_alloc_old w5 (.cells #[.int .i64 0, .int .i32 0, .bool false, .slice none 0 0] 58) (lt_of_block HZ5.out) |>.trans HZ5.out)
          have HB6 := Lib.hid (HB5.out.alloc HB5.out.size (.cells #[.int .i64 0, .int .i32 0, .bool false, .slice none 0 0] 58))
          go_upto_if 26 with fail
          generalize w5.alloc (.cells #[.int .i64 0, .int .i32 0, .bool false, .slice none 0 0] 58) = w6 at *
          have z0 := (cell_of_row _ _ 0 _ _ _ HN6.out).trans (show _ = some (Value.int .i64 0) from rfl)
          have z1 := (cell_of_row _ _ 1 _ _ _ HN6.out).trans (show _ = some (Value.int .i32 0) from rfl)
          have z2 := (cell_of_row _ _ 2 _ _ _ HN6.out).trans (show _ = some (Value.bool false) from rfl)
          have z3 := (cell_of_row _ _ 3 _ _ _ HN6.out).trans (show _ = some (Value.slice none 0 0) from rfl)
          have fz := fun j => frozen_of_row _ _ j _ _ HN6.out
          go_wp2_with fail
          refine bodyPost_ret (v := .tuple #[.agg #[.int .i64 0, .int .i32 0, .bool false, .slice none 0 0], .int .i64 0]) (by simp [results, Tryd.results20, go_sem, z0, z1, z2, z3]) rfl ?_
          exact .inl ⟨HOO.out, ⟨0, rfl⟩, (((HB6.out.setCell (p := ⟨w.heap.size, 0, none⟩) (Nat.le_refl _) _).setCell (p := ⟨w.heap.size, 1, none⟩) (Nat.le_refl _) _).setCell (p := ⟨w.heap.size, 2, none⟩) (Nat.le_refl _) _).setCell (p := ⟨w.heap.size, 3, none⟩) (Nat.le_refl _) _⟩
        · have ha := HSL.out rs a rfl
          rw [List.length_drop, hn] at ha
          have HB5 := Lib.hid (HB0.out.trans (hb5.mono HB0.out.size))
          have HZ5 := Lib.hid ((hb5.block w.heap.size (by have := HZ0.out; omega)).trans HZ.out)
          have HR6 := Lib.hid (hrg.below (below_al w5 (.cells #[.int .i64 4, .int .i32 0, .bool N, .slice A5 rs.length c5] 58)))
          clear hb5 hrg
          have HN6 := Lib.hid (heap_alloc_old w5 (.cells #[.int .i64 4, .int .i32 0, .bool N, .slice A5 rs.length c5] 58) (lt_of_block HZ5.out) |>.trans HZ5.out)
          have HB6 := Lib.hid (HB5.out.alloc HB5.out.size (.cells #[.int .i64 4, .int .i32 0, .bool N, .slice A5 rs.length c5] 58))
          have HX6 := Lib.hid (heap_alloc_new w5 (.cells #[.int .i64 4, .int .i32 0, .bool N, .slice A5 rs.length c5] 58))
          have gne : w.heap.size ≠ w5.heap.size := Nat.ne_of_lt (lt_of_block HZ5.out)
          have HMP : Hid (O = some (⟨4, 0, N, rgI rs⟩, a + 1)) := HOO.out
          have gaz : ((a : Int) == 0) = false := by rw [beq_eq_false_iff_ne]; omega
          clear HOO HSE HSL
          go_upto_if 26 with fail
          generalize w5.alloc (.cells #[.int .i64 4, .int .i32 0, .bool N, .slice A5 rs.length c5] 58) = w6 at *
          have z0 := (cell_of_row _ _ 0 _ _ _ HN6.out).trans (show _ = some (Value.int .i64 0) from rfl)
          have z1 := (cell_of_row _ _ 1 _ _ _ HN6.out).trans (show _ = some (Value.int .i32 0) from rfl)
          have z2 := (cell_of_row _ _ 2 _ _ _ HN6.out).trans (show _ = some (Value.bool false) from rfl)
          have z3 := (cell_of_row _ _ 3 _ _ _ HN6.out).trans (show _ = some (Value.slice none 0 0) from rfl)
          have fz := fun j => frozen_of_row _ _ j _ _ HN6.out
          have x0 := (cell_of_row _ _ 0 _ _ _ HX6.out).trans (show _ = some (Value.int .i64 4) from rfl)
          have x1 := (cell_of_row _ _ 1 _ _ _ HX6.out).trans (show _ = some (Value.int .i32 0) from rfl)
          have x2 := (cell_of_row _ _ 2 _ _ _ HX6.out).trans (show _ = some (Value.bool N) from rfl)
          have x3 := (cell_of_row _ _ 3 _ _ _ HX6.out).trans (show _ = some (Value.slice A5 rs.length c5) from rfl)
          go_wp2_with fail
          refine bodyPost_ret (v := .tuple #[.agg #[.int .i64 4, .int .i32 0, .bool N, .slice A5 rs.length c5], .int .i64 ((a : Int) + 1)]) (by simp [results, Tryd.results20, go_sem, z0, z1, z2, z3]) rfl ?_
          have hc1 : (w6.setCell ⟨w.heap.size, 0, none⟩ (.int .i64 4)).heap[w.heap.size]? = some (.cells #[.int .i64 4, .int .i32 0, .bool false, .slice none 0 0] 58 (0, 0)) := heap_setCell_same _ _ 0 _ _ _ HN6.out
          have hc2 : ((w6.setCell ⟨w.heap.size, 0, none⟩ (.int .i64 4)).setCell ⟨w.heap.size, 1, none⟩ (.int .i32 0)).heap[w.heap.size]? = some (.cells #[.int .i64 4, .int .i32 0, .bool false, .slice none 0 0] 58 (0, 0)) := heap_setCell_same _ _ 1 _ _ _ hc1
          have hc3 : (((w6.setCell ⟨w.heap.size, 0, none⟩ (.int .i64 4)).setCell ⟨w.heap.size, 1, none⟩ (.int .i32 0)).setCell ⟨w.heap.size, 2, none⟩ (.bool N)).heap[w.heap.size]? = some (.cells #[.int .i64 4, .int .i32 0, .bool N, .slice none 0 0] 58 (0, 0)) := heap_setCell_same _ _ 2 _ _ _ hc2
          refine .inr ⟨_, _, _, HMP.out, by go_num, ⟨A5, c5, by rw [rgI_len], ?_⟩, (((HB6.out.setCell (p := ⟨w.heap.size, 0, none⟩) (Nat.le_refl _) _).setCell (p := ⟨w.heap.size, 1, none⟩) (Nat.le_refl _) _).setCell (p := ⟨w.heap.size, 2, none⟩) (Nat.le_refl _) _).setCell (p := ⟨w.heap.size, 3, none⟩) (Nat.le_refl _) _⟩
          exact (((HR6.out.set HN6.out (by decide) _).set hc1 (by decide) _).set hc2 (by decide) _).set hc3 (by decide) _
      · have g3 : ((x : Int) == 91) = false := by rw [beq_eq_false_iff_ne]; omega
        rw [if_neg h91] at hO
        have hpn := plainF_none l
        have hlo : (plainF l).1 ≤ 1114111 := by
          rcases l with _ | ⟨c, _ | ⟨r, t⟩⟩
          · simp at hn; omega
          · have := hr 0
            rw [plainF]; split
            · show (0 : Nat) ≤ _; omega
            · exact this
          · have h1 := hr 0
            have h2 := hr 1
            rw [plainF]; split
            · exact h2
            · exact h1
        generalize (plainF l).1 = lo at *
        generalize (plainF l).2 = k at *
        have HOO := Lib.hid hO
        clear HAO h42 h63 h91 hO HSE HSL
        go_enter Tryd.func20, Tryd.ntmps20
        go_wp2_with fail
        refine (HP.out _ HR0.out).mono ?_; rintro e w5 ⟨rfl, rfl⟩
        go_wp2_with fail
        by_cases hk : k = 0
        · have h0' := hpn hk
          subst hk
          subst h0'
          refine bodyPost_ret (v := .tuple #[.agg #[.int .i64 1, .int .i32 0, .bool false, .slice none 0 0], .int .i64 0]) (by simp [results, Tryd.results20, go_sem]) rfl ?_
          exact .inl ⟨HOO.out.trans (if_pos rfl), ⟨1, rfl⟩, below_al w _⟩
        · refine bodyPost_ret (v := .tuple #[.agg #[.int .i64 1, .int .i32 (lo : Nat), .bool false, .slice none 0 0], .int .i64 (k : Nat)]) (by simp [results, Tryd.results20, go_sem]) rfl ?_
          exact .inr ⟨_, _, _, HOO.out.trans (if_neg hk), rfl, ⟨none, 0, rfl, rgb_nil _ _⟩, below_al w _⟩
end Go.Proofs.YtkakegeammajgaaDoor
