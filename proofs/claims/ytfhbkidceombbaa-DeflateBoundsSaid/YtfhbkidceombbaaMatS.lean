/-
  Contracts: begin; rows of tokens.
-/
import Derived.Test.YtfhbkidceombbaaMatQ
namespace Go.Proofs.Ytfhbkidceombbaa
set_option maxRecDepth 100000
open Go.Joins Go.RowKit Go.Deep

/-- How many places a level looks at. -/
def triesOf (level : Nat) : Nat := if level = 0 then 0 else 2 * 2 ^ level
theorem tries_le (level : Nat) (h : level ≤ 9) : triesOf level ≤ 2000 := by
  unfold triesOf
  split
  · omega
  · have : 2 ^ level ≤ 2 ^ 9 := Nat.pow_le_pow_right (by omega) h
    omega
theorem info_search : (Try.prog.info? 127).map (·.size) = some 3 := by kernel_rfl
theorem zero_search (w : World) : (zeroValue 127).run Try.prog w = .ok (.agg #[.string ⟨#[]⟩, .slice none 0 0, .int .i64 0]) w := by kernel_rfl
set_option maxHeartbeats 8000000 in
theorem begin_any (s : ByteArray) (level : Nat) (hs : s.size ≤ 10000) (hl : level ≤ 9) (w : World) :
    Calls Try.prog 74 #[.string s, .int .i64 (level : Nat)] w fun e w' => ∃ A nA cA, e = .returned (.agg #[.string s, .slice A nA cA, .int .i64 (triesOf level : Nat)]) ∧ Bef w' s A nA (triesOf level) ∧ Below w.heap.size w w' := by
  have hzs := zero_search
  have hb0 : Below w.heap.size w (w.alloc (.cells #[.string ⟨#[]⟩, .slice none 0 0, .int .i64 0] 127)) := (Below.refl _ _).alloc (Nat.le_refl _) _
  have hx0 := heap_alloc_new w (.cells #[.string ⟨#[]⟩, .slice none 0 0, .int .i64 0] 127)
  have hs0 : (w.alloc (.cells #[.string ⟨#[]⟩, .slice none 0 0, .int .i64 0] 127)).heap.size = w.heap.size + 1 := by simp
  have HB := Lib.hid hb0
  have HX := Lib.hid hx0
  have HS := Lib.hid hs0
  have HEA := Lib.hid (fun W => earlier_any s hs W)
  have h2 : (2 : Nat) ^ level ≤ 512 := Nat.pow_le_pow_right (n := 2) (by omega) hl
  clear hb0 hx0 hs0
  go_enter Try.func74, Try.ntmps74
  by_cases h0 : level = 0
  · subst h0
    have hx1 := heap_alloc_new w (.cells #[.string s, .slice none 0 0, .int .i64 0] 127)
    have hb1 : Below w.heap.size w (w.alloc (.cells #[.string s, .slice none 0 0, .int .i64 0] 127)) := (Below.refl _ _).alloc (Nat.le_refl _) _
    go_wp2_with fail
    exact bodyPost_ret (results_cell_row rfl _ _ w.heap.size 127 #[.string s, .slice none 0 0, .int .i64 0] (0, 0) _ rfl hx1 Try.underlying127 rfl info_search) rfl ⟨none, 0, 0, rfl, fun h => absurd h (by decide), hb1⟩
  · have hz : ((level : Int) == 0) = false := by rw [beq_eq_false_iff_ne]; omega
    go_wp2_with fail
    generalize w.alloc (.cells #[.string ⟨#[]⟩, .slice none 0 0, .int .i64 0] 127) = w1 at *
    have HE1 := Lib.hid (HEA.out w1.drew)
    go_region_law (first | (go_simp; go_at_call 96; go_must (refine (HE1.out).mono ?_; rintro e5 w5 ⟨g, rfl, hg5, hr5, hb5⟩; have HX5 := Lib.hid ((hb5.block w.heap.size (by have := HS.out; show w.heap.size < w1.heap.size; omega)).trans (by exact HX.out)); have r0 : w5.cell? ⟨w.heap.size, 0, none⟩ = some (.string ⟨#[]⟩) := ((cell_of_row _ _ 0 _ _ _ HX5.out).trans rfl); have r1 : w5.cell? ⟨w.heap.size, 1, none⟩ = some (.slice none 0 0) := ((cell_of_row _ _ 1 _ _ _ HX5.out).trans rfl); have r2 : w5.cell? ⟨w.heap.size, 2, none⟩ = some (.int .i64 0) := ((cell_of_row _ _ 2 _ _ _ HX5.out).trans rfl); have hfz := fun j => frozen_of_row _ _ j _ _ HX5.out)))
    all_goals
      have hsh : IntKind.i64.wrap (2 * 2 ^ level) = ((triesOf level : Nat) : Int) := by
        have e1 : ((2 : Int) * 2 ^ level) = ((2 * 2 ^ level : Nat) : Int) := by rw [Int.natCast_mul, Int.natCast_pow]; rfl
        rw [e1, IntKind.wrap_i64]
        unfold triesOf
        rw [if_neg h0]
        omega
      rw [hsh]
      have HR5 := Lib.hid hr5
      have HG5 : Hid (w.heap.size < g ∧ g < w5.heap.size) := by
        have h1 := HS.out; have h2 := (Array.getElem?_eq_some_iff.1 hr5).1
        exact ⟨by have h3 : w1.heap.size ≤ g := hg5; omega, h2⟩
      have HB5 : Hid (Below w.heap.size w w5) := HB.out.trans (Below.mono (w := w1) ⟨hb5.os, hb5.tape, hb5.output, hb5.size, hb5.block⟩ (by show w.heap.size ≤ w1.heap.size; have := HS.out; omega))
      clear hb5 hr5 hg5 r0 r1 r2 hfz
      go_wp2
      refine bodyPost_ret (results_cell_row rfl _ _ w.heap.size 127 #[.string s, .slice (some ⟨g, 0, none⟩) s.size s.size, .int .i64 (triesOf level : Nat)] (0, 0) _ rfl (three_set HX5.out) Try.underlying127 rfl info_search) rfl ⟨some ⟨g, 0, none⟩, s.size, s.size, rfl, fun _ => ⟨g, rfl, rfl, by have := HG5.out; simpa [World.setCell] using this.2, ?_⟩, ((HB5.out.setCell (Nat.le_refl _) _).setCell (Nat.le_refl _) _).setCell (Nat.le_refl _) _⟩
      have hne := HG5.out.1
      rw [Below.heap_setCell _ _ _ _ (by show g ≠ w.heap.size; omega), Below.heap_setCell _ _ _ _ (by show g ≠ w.heap.size; omega), Below.heap_setCell _ _ _ _ (by show g ≠ w.heap.size; omega)]
      exact HR5.out

/-- The cells of the first tokens. -/
def tokCells (f : Nat → Tok) : Nat → List Value
  | 0 => []
  | k + 1 => tokCells f k ++ cellT (f k)
theorem tokCells_len (f : Nat → Tok) (n : Nat) : (tokCells f n).length = n * 3 := by
  induction n with
  | zero => rfl
  | succ n ih => rw [tokCells, List.length_append, ih]; simp [cellT]; omega
theorem tokCells_get (f : Nat → Tok) (n i j : Nat) (hi : i < n) (hj : j < 3) : (tokCells f n)[i * 3 + j]? = (cellT (f i))[j]? := by
  induction n with
  | zero => omega
  | succ n ih =>
    rw [tokCells]
    by_cases e : i = n
    · subst e
      rw [List.getElem?_append_right (by rw [tokCells_len]; omega), tokCells_len, show i * 3 + j - i * 3 = j by omega]
    · rw [List.getElem?_append_left (by rw [tokCells_len]; omega)]
      exact ih (by omega)
theorem toks_of_own {w : World} {B n c : Nat} {e : TypeId} {A : Option Addr} {f : Nat → Tok} (h : w.ownsRow B e 3 (.slice A n c) n (tokCells f n)) (hok : ∀ i, i < n → TokOk (f i)) : Toks w A n f := fun hn => by
  have hlt := h.lt
  rcases h.2 with ⟨_, h0⟩ | ⟨g, cap, cur, hv, _, hg, _, _, _, htake⟩
  · omega
  · injection hv with hA _ _
    subst hA
    have hc : ∀ i j, i < n → j < 3 → w.cell? ⟨g, i * 3 + j, none⟩ = (cellT (f i))[j]? := fun i j hi hj => by
      rw [cell_of_row w g _ _ _ _ hg, ← tokCells_get f n i j hi hj, ← htake, List.getElem?_take, if_pos (by omega)]
      simp
    refine ⟨g, 0, rfl, (hlt g rfl).2, fun i hi => ⟨hok i hi, ?_, ?_, ?_⟩⟩
    · have := hc i 0 hi (by omega); simpa [cellT] using this
    · have := hc i 1 hi (by omega); simpa [cellT] using this
    · have := hc i 2 hi (by omega); simpa [cellT] using this
theorem info_tok3 : (Try.prog.info? 43).map (fun i => (i.zero, i.size, i.bytes)) = some (some (.agg #[.int .u8 0, .int .i64 0, .int .i64 0]), 3, 24) := by kernel_rfl
theorem cells3 {w : World} {g : Nat} {x y z : Value} {T : TypeId} (h : w.heap[g]? = some (.cells #[x, y, z] T (0, 0))) : ∀ j u, [x, y, z][j]? = some u → w.cell? ((⟨g, 0, none⟩ : Addr).add j) = some u := by
  intro j u hj
  rw [Addr.add_lit, Nat.zero_add, cell_of_row w g j _ _ _ h]
  simpa using hj
theorem cellT_one (t : Tok) : ∀ u ∈ cellT t, u.oneCell' = true := by
  intro u hu
  simp [cellT] at hu
  rcases hu with rfl | rfl | rfl <;> rfl
theorem row_slice' {w : World} {B n z : Nat} {e : TypeId} {v : Value} {l : List Value} (h : w.ownsRow B e z v n l) : ∃ A c, v = .slice A n c := by
  rcases h.2 with ⟨rfl, rfl⟩ | ⟨g, cap, cur, rfl, _⟩
  · exact ⟨_, _, rfl⟩
  · exact ⟨_, _, rfl⟩
end Go.Proofs.Ytfhbkidceombbaa
