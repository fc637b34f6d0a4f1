/-
  Contracts: codes that are none, readers that are none; the chapter's example of layer 4.
  Contract of Sign.
  Signs, Length of a code; New where a code is not whole.
  The document's Fill.
-/
import Derived.Test.YtopjmagbcnglhaaPreN
import Derived.Test.YtopjmagbcnglhaaPkAD

namespace Go.Proofs.Ytopjmagbcnglhaa
set_option maxRecDepth 100000
open Go.RowKit Go.Deep Go.Joins

theorem signs_nil (w : World) : Calls Try.prog 74 #[.pointer none] w fun e w' => e = .returned (.int .i64 0) ∧ w = w' := by
  go_enter Try.func74, Try.ntmps74
  go_wp2
  go_ret
  exact ⟨rfl, rfl⟩
theorem length_nil (w : World) : Calls Try.prog 58 #[.pointer none, .int .i64 0] w fun e w' => e = .returned (.int .i64 0) ∧ w = w' := by
  go_enter Try.func58, Try.ntmps58
  go_wp2_with (go_at_call 74; refine (signs_nil _).mono ?_; rintro e w' ⟨rfl, rfl⟩)
  go_ret
  exact ⟨rfl, rfl⟩
theorem put_nil (p : Value) (x : Int) (w : World) : Calls Try.prog 42 #[.pointer none, p, .int .i64 x] w fun e w' => e = .returned (.int .i64 1) ∧ w = w' := by
  go_enter Try.func42, Try.ntmps42
  go_wp2
  go_ret
  exact ⟨rfl, rfl⟩
theorem put_nil2 (g : Nat) (x : Int) (w : World) : Calls Try.prog 42 #[.pointer (some ⟨g, 0, none⟩), .pointer none, .int .i64 x] w fun e w' => e = .returned (.int .i64 1) ∧ w = w' := by
  go_enter Try.func42, Try.ntmps42
  go_wp2
  go_ret
  exact ⟨rfl, rfl⟩
/-- Lengths written out. -/
def lit (l : List Nat) (i : Nat) : Nat := l.getD i 0
theorem lens_lit (w : World) (l : List Nat) (n : Nat) (hn : l.length = n) (hl : ∀ x ∈ l, x < 256) :
    Lens (w.alloc (.cells (l.map fun x => Value.int .u8 (x : Nat)).toArray 5)) (some ⟨w.heap.size, 0, none⟩) n (lit l) := fun h0 =>
  ⟨w.heap.size, 0, rfl, by simp, fun i hi => by
    have hi' : i < l.length := by omega
    refine ⟨?_, ?_⟩
    · rw [Nat.zero_add, cell_of_row _ _ i _ _ _ (heap_alloc_new w _)]
      simp [lit, hi', List.getD]
    · unfold lit
      rw [List.getD_eq_getElem?_getD, List.getElem?_eq_getElem hi']
      exact hl _ (List.getElem_mem hi')⟩

theorem fill4 : fillN (lit [2, 1, 3, 3]) 4 = 32768 := by decide
theorem small4 : ∀ i, i < 4 → lit [2, 1, 3, 3] i ≤ 15 := by decide
theorem fill2 : fillN (lit [1, 1]) 2 = 32768 := by decide
theorem small2 : ∀ i, i < 2 → lit [1, 1] i ≤ 15 := by decide
theorem word4 : wordN (lit [2, 1, 3, 3]) 4 0 = 2 ∧ wordN (lit [2, 1, 3, 3]) 4 1 = 0 ∧ wordN (lit [2, 1, 3, 3]) 4 2 = 6 ∧ wordN (lit [2, 1, 3, 3]) 4 3 = 7 := by decide

theorem words_ex (w : World) :
    Calls Try.prog 70 #[.slice (some ⟨w.heap.size, 0, none⟩) 4 4] (w.alloc (.cells #[.int .u8 2, .int .u8 1, .int .u8 3, .int .u8 3] 5)) fun e w' => e = .returned (.tuple #[.slice (some ⟨w.heap.size + 1, 0, none⟩) 4 4, .int .i64 0]) ∧ IsRowU w' (w.heap.size + 1) 4 (wordN (lit [2, 1, 3, 3]) 4) ∧ Below (w.heap.size + 1) (w.alloc (.cells #[.int .u8 2, .int .u8 1, .int .u8 3, .int .u8 3] 5)) w' := by
  have h := words_ok (some ⟨w.heap.size, 0, none⟩) 4 4 (lit [2, 1, 3, 3]) (by omega) _ (lens_lit w [2, 1, 3, 3] 4 rfl (by decide)) small4 (by rw [fill4]; exact Nat.le_refl _)
  simp only [World.size_alloc] at h
  exact h
theorem new_ex4 (w : World) :
    Calls Try.prog 56 #[.slice (some ⟨w.heap.size, 0, none⟩) 4 4, .bool false] (w.alloc (.cells #[.int .u8 2, .int .u8 1, .int .u8 3, .int .u8 3] 5)) fun e w' => ∃ g, e = .returned (.tuple #[.pointer (some ⟨g, 0, none⟩), .int .i64 0]) ∧ Below (w.heap.size + 1) (w.alloc (.cells #[.int .u8 2, .int .u8 1, .int .u8 3, .int .u8 3] 5)) w' := by
  have h := new_ok (some ⟨w.heap.size, 0, none⟩) 4 4 false (lit [2, 1, 3, 3]) (by omega) _ (lens_lit w [2, 1, 3, 3] 4 rfl (by decide)) small4 (by rw [fill4]; exact Nat.le_refl _) (.inl fill4)
  simp only [World.size_alloc] at h
  exact h.mono fun e w' ⟨g, h1, _, h3⟩ => ⟨g, h1, h3⟩
theorem new_ex2 (w : World) :
    Calls Try.prog 56 #[.slice (some ⟨w.heap.size, 0, none⟩) 2 2, .bool false] (w.alloc (.cells #[.int .u8 1, .int .u8 1] 5)) fun e w' => ∃ g, e = .returned (.tuple #[.pointer (some ⟨g, 0, none⟩), .int .i64 0]) ∧ Below (w.heap.size + 1) (w.alloc (.cells #[.int .u8 1, .int .u8 1] 5)) w' := by
  have h := new_ok (some ⟨w.heap.size, 0, none⟩) 2 2 false (lit [1, 1]) (by omega) _ (lens_lit w [1, 1] 2 rfl (by decide)) small2 (by rw [fill2]; exact Nat.le_refl _) (.inl fill2)
  simp only [World.size_alloc] at h
  exact h.mono fun e w' ⟨g, h1, _, h3⟩ => ⟨g, h1, h3⟩

theorem below_lit {w0 w w1 : World} {o : Obj} (h : Below w0.heap.size w0 w) (k : Below (w.heap.size + 1) (w.alloc o) w1) : Below w0.heap.size w0 w1 := (h.alloc h.size o).trans (k.mono (by have := h.size; omega))

end Go.Proofs.Ytopjmagbcnglhaa

namespace Go.Proofs.Ytopjmagbcnglhaa
set_option maxRecDepth 100000
open Go.RowKit Go.Deep Go.Joins Go.ChangeMaps
open Go.Maps (Keyed IsMap has)

/-- A code whole: what its blocks hold. -/
def Cd (w : World) (g bm : Nat) (ls W : Nat → Nat) (n mx : Nat) : Prop := ∃ B, Cd0 w B g bm ls W n mx
theorem Cd0.lt {w : World} {B g bm n mx : Nat} {ls W : Nat → Nat} (h : Cd0 w B g bm ls W n mx) : g < w.heap.size ∧ bm < w.heap.size := by
  obtain ⟨A, c, hb, _, hm, _⟩ := h
  exact ⟨lt_of_heap hb, map_lt hm⟩
/-- A code stays, where only blocks turn that are none of its own. -/
theorem Cd0.below {w w' : World} {B g bm n mx : Nat} {ls W : Nat → Nat} (h : Cd0 w B g bm ls W n mx) (hb : Below w.heap.size w w') : Cd0 w' B g bm ls W n mx := by
  obtain ⟨A, c, hb0, ho, hm, h1, h2⟩ := h
  exact ⟨A, c, (hb.block g (lt_of_heap hb0)).trans hb0, row_kept' ho (fun b e => hb.block b (ho.lt b e).2), map_stay hm (hb.block bm (map_lt hm)), h1, h2⟩
theorem Cd0.grown {w w' : World} {B g bm n mx gr : Nat} {ls W : Nat → Nat} {T : TypeId} {cs : Array Value} (h : Cd0 w B g bm ls W n mx) (hT : T ≠ 110) (hT2 : T ≠ 114) (hr : w.heap[gr]? = some (.cells cs T (0, 0))) (hg : w.grownBy w' (some gr)) : Cd0 w' B g bm ls W n mx := by
  obtain ⟨A, c, hb0, ho, hm, h1, h2⟩ := h
  have hne := row_ne' hT ho hr
  have hgg : g ≠ gr := by
    rintro rfl
    rw [hb0] at hr
    simp at hr
    exact hT2 hr.2.symm
  have hbm : bm ≠ gr := fun e => map_ne hm hr e.symm
  exact ⟨A, c, (hg.block g (lt_of_heap hb0) (by intro h; injection h with h; exact hgg h)).trans hb0, row_kept' ho (fun b e => hg.block b (ho.lt b e).2 (fun h => hne (e.trans h))), map_stay hm (hg.block bm (map_lt hm) (by intro h; injection h with h; exact hbm h)), h1, h2⟩

theorem zero_int (w : World) : (zeroValue 3).run Try.prog w = .ok (.int .i64 0) w := by kernel_rfl

theorem grown_of_below {w w' : World} {row : Option Nat} (h : Below w.heap.size w w') : w.grownBy w' row := ⟨h.os, h.tape, h.output, h.size, fun i hi _ => h.block i hi⟩

/-- What the bits ahead are, the first one the highest. -/
theorem rev_small (v k : Nat) (hk : k ≤ 15) : rev v k < 32768 := Nat.lt_of_lt_of_le (rev_lt v k) (Nat.pow_le_pow_right (n := 2) (by omega) (show k ≤ 15 by omega))

/-- No word of at most k bits stands next. -/
def NoWord (ls W : Nat → Nat) (n v k : Nat) : Prop := ∀ l, 1 ≤ l → l ≤ k → findW ls W l (rev v l) n = none

/-- What Sign answers, at the bits v (as many as 'many'). -/
def SignIs (ls W : Nat → Nat) (n mx v many : Nat) (x : Int) (e l : Nat) : Prop :=
  (∃ i, x = (i : Nat) ∧ e = 0 ∧ 1 ≤ l ∧ l ≤ mx ∧ l ≤ many ∧ findW ls W l (rev v l) n = some i ∧ NoWord ls W n v (l - 1)) ∨
  (x = -1 ∧ e = 3 ∧ l = 0 ∧ many < mx ∧ NoWord ls W n v many) ∨ (x = -1 ∧ e = 10 ∧ l = 0 ∧ mx ≤ many ∧ NoWord ls W n v mx)

theorem or_bit (x b : Nat) (hx : x < 32768) (hb : b < 2) : bits .or .u32 ((x : Int) * 2) (b : Int) = ((x * 2 + b : Nat) : Int) := by
  rw [show ((x : Int) * 2) = ((x * 2 : Nat) : Int) by simp, u32_or_nat _ _ (by omega) (by omega)]
  have h := Nat.shiftLeft_add_eq_or_of_lt (i := 1) (b := b) (by omega) x
  rw [Nat.shiftLeft_eq] at h
  rw [← h]
theorem and_bit (y : Nat) (hy : y < 4294967296) : bits .and .u32 (y : Int) 1 = ((y % 2 : Nat) : Int) := by
  have := u32_and_nat y 1 hy (by omega)
  rw [Nat.and_one_is_mod] at this
  exact this

/-- The map asked: what is told. -/
theorem look_word {w : World} {B g bm n mx : Nat} {ls W : Nat → Nat} (h : Cd0 w B g bm ls W n mx) (hW : ∀ i, i < n → ls i < 256 ∧ W i < 4294967296) (l x : Nat) (hl : l < 256) (hx : x < 4294967296) (d : Nat) :
    (Instr.lookup 112 (.map (some bm)) (.agg #[.int .u8 (l : Nat), .int .u32 (x : Nat)]) true).run Try.prog (w.drewN d) = .ok (.tuple #[.int .i64 ((findW ls W l x n).getD 0 : Nat), .bool (findW ls W l x n).isSome]) (w.drewN d) := by
  obtain ⟨A, c, _, _, hm, _⟩ := h
  have hm' : (w.drewN d).ownsMap Try.prog 110 (plainElem Try.prog 3) bm n (codeMap ls W n) := hm
  obtain ⟨v, ps, hrun, hv⟩ := hm'.look_ok word_law Try.underlying112 (zero_int _) (plainElem_int Try.underlying3 (by decide)) (kk_of l x hl hx)
  obtain ⟨h1, h2⟩ := codeMap_has ls W l x hl hx n hW
  obtain ⟨c, rfl, hc, _⟩ := plainElem_int_inv Try.underlying3 hv
  rw [h2] at hc
  have e : c = ((findW ls W l x n).getD 0 : Nat) := by
    cases hf : findW ls W l x n with
    | none =>
      rw [hf] at hc
      simp at hc
      exact hc.1.symm
    | some i =>
      rw [hf] at hc
      simp at hc
      exact hc.1.symm
  rw [h1, e] at hrun
  exact hrun

end Go.Proofs.Ytopjmagbcnglhaa

namespace Go.Proofs.Ytopjmagbcnglhaa
set_option maxRecDepth 100000
open Go.RowKit Go.Joins

set_option maxRecDepth 100000 in
set_option maxHeartbeats 4000000 in
theorem new_part (A : Option Addr) (n cap : Nat) (ls : Nat → Nat) (hn : n ≤ 4096) (w : World) (hL : Lens w A n ls) (h15 : ∀ i, i < n → ls i ≤ 15) (hf : fillN ls n < 32768) :
    Calls Try.prog 56 #[.slice A n cap, .bool false] w fun e w' => e = .returned (.tuple #[.pointer none, .int .i64 10]) ∧ Below w.heap.size w w' := by
  have HW := Lib.hid (words_ok A n cap ls hn w hL h15 (by omega))
  have HF := Lib.hid (fun w' (h : Below w.heap.size w w') => fill_ok A n cap ls hn w' (hL.below (Nat.le_refl _) h) h15)
  clear hL h15
  go_enter Try.func56, Try.ntmps56
  go_wp2_with fail
  refine (HW.out).mono ?_; rintro e w1 ⟨rfl, hr1, hb1⟩
  have HB1 := Lib.hid hb1
  have hd2 : decide ((fillN ls n : Int) < 32768) = true := decide_eq_true (by omega)
  clear hr1 hb1 HW
  generalize fillN ls n = F at *
  go_wp2_with (first | (go_at_call 71; refine (HF.out _ HB1.out).mono ?_; rintro e w' ⟨rfl, rfl⟩))
  go_ret2
  exact ⟨rfl, HB1.out⟩

theorem signs_any (B g bm n mx : Nat) (ls W : Nat → Nat) (w : World) (hcd : Cd0 w B g bm ls W n mx) :
    Calls Try.prog 74 #[.pointer (some ⟨g, 0, none⟩)] w fun e w' => e = .returned (.int .i64 (n : Nat)) ∧ w = w' := by
  obtain ⟨A, c, hb0, _⟩ := hcd
  have k0 : w.cell? ⟨g, 0, none⟩ = some (.slice A n c) := by rw [cell_of_row w g 0 _ _ _ hb0]; rfl
  clear hb0
  go_enter Try.func74, Try.ntmps74
  go_wp2
  go_ret
  exact ⟨rfl, rfl⟩

theorem length_any (B g bm n mx i : Nat) (ls W : Nat → Nat) (hi : i < n) (hls : ls i < 256) (w : World) (hcd : Cd0 w B g bm ls W n mx) :
    Calls Try.prog 58 #[.pointer (some ⟨g, 0, none⟩), .int .i64 (i : Nat)] w fun e w' => e = .returned (.int .i64 (ls i : Nat)) ∧ w = w' := by
  have HS := Lib.hid (signs_any B g bm n mx ls W w hcd)
  obtain ⟨A, c, hb0, ho, _⟩ := hcd
  have k0 : w.cell? ⟨g, 0, none⟩ = some (.slice A n c) := by rw [cell_of_row w g 0 _ _ _ hb0]; rfl
  clear hb0
  rcases ho.2 with ⟨h0, _⟩ | ⟨g2, cap2, cur, h0, hg2, hb2, h3⟩
  · injection h0 with _ e _
    omega
  · have k1 : w.cell? ⟨g2, i * 2, none⟩ = some (.int .u8 (ls i : Nat)) := by
      rw [cell_of_row w g2 (i * 2) _ _ _ hb2, ← (wcells_at ls W n i hi).1, ← h3.2.2.2, List.getElem?_take_of_lt (by omega), Array.getElem?_toList]
    clear hb2 h3
    go_enter Try.func58, Try.ntmps58
    go_wp2_with (go_at_call 74; refine (HS.out).mono ?_; rintro e w' ⟨rfl, rfl⟩)
    go_ret
    exact ⟨rfl, rfl⟩
end Go.Proofs.Ytopjmagbcnglhaa

namespace Go.Proofs.Ytopjmagbcnglhaa
set_option maxRecDepth 100000
open Go.RowKit Go.Joins

theorem rfill_many (A : Option Addr) (n cap : Nat) (h : 4096 < n) (w : World) :
    Calls Try.prog 51 #[.slice A n cap] w fun e w' => e = .returned (.tuple #[.int .i64 0, .int .i64 6]) ∧ w = w' := by
  go_enter Try.func51, Try.ntmps51
  go_wp2
  go_ret2
  exact ⟨rfl, rfl⟩
theorem rfill_ok (A : Option Addr) (n cap : Nat) (ls : Nat → Nat) (hn : n ≤ 4096) (w : World) (hL : Lens w A n ls) (h15 : ∀ i, i < n → ls i ≤ 15) :
    Calls Try.prog 51 #[.slice A n cap] w fun e w' => e = .returned (.tuple #[.int .i64 (fillN ls n : Nat), .int .i64 0]) ∧ w = w' := by
  have HL := Lib.hid hL
  have H15 := Lib.hid h15
  clear hL h15
  go_enter Try.func51, Try.ntmps51
  go_wp2
  go_loop [4, 14] (fun x i => ∃ k, k ≤ n ∧ i = .int .i64 k ∧ x = .int .i64 (fillN ls k : Nat)) (fun _ i => n - (intOf i).toNat)
  case atStart => exact ⟨0, Nat.zero_le _, rfl, rfl⟩
  case round =>
    obtain ⟨k, hk, rfl, rfl⟩ := hrel
    by_cases hlt : k < n
    · obtain ⟨b, off, rfl, hb, hc⟩ := HL.out (by omega)
      obtain ⟨hcell, _⟩ := hc k hlt
      have hl := H15.out k hlt
      have hfl := fillN_le ls k
      have HS : Hid (fillN ls (k + 1) = fillN ls k + (if ls k = 0 then 0 else 2 ^ (15 - ls k))) := rfl
      generalize ls k = l at *
      generalize fillN ls k = F at *
      clear hc
      by_cases h0 : l = 0
      · subst h0
        go_wp2
        go_round
        case rel => exact ⟨k + 1, by omega, by go_num, by rw [HS.out]; simp⟩
        case measure => simp [intOf]; omega
      · have h0' : 0 < l := by omega
        go_wp2
        go_loop [7, 8] (fun y j => ∃ i : Nat, i ≤ l ∧ j = .int .i64 i ∧ y = .int .i64 (2 ^ (15 - i) : Nat)) (fun _ j => l - (intOf j).toNat)
        case atStart => exact ⟨0, Nat.zero_le _, rfl, rfl⟩
        case round =>
          obtain ⟨i, hi, rfl, rfl⟩ := hrel
          by_cases hil : i < l
          · have hp : 2 ^ (15 - i) = 2 * 2 ^ (15 - (i + 1)) := by rw [show 15 - i = (15 - (i + 1)) + 1 by omega, Nat.pow_succ]; omega
            have hp2 : 2 ^ (15 - (i + 1)) ≤ 32768 := Nat.pow_le_pow_right (n := 2) (by omega) (show 15 - (i + 1) ≤ 15 by omega)
            have HP : Hid (2 ^ (15 - (i + 1)) = 2 ^ (15 - (i + 1))) := rfl
            generalize 2 ^ (15 - i) = p at *
            generalize hpp : 2 ^ (15 - (i + 1)) = p2 at *
            have hd1 : (p : Int).tdiv 2 = (p2 : Int) := by rw [Int.tdiv_eq_ediv_of_nonneg (by omega)]; omega
            have hd2 : (p : Int) / 2 = (p2 : Int) := by omega
            have HPP := Lib.hid hpp
            clear hpp hp HP
            go_wp2
            go_round
            case rel => exact ⟨i + 1, by omega, by go_num, by rw [HPP.out]⟩
            case measure => simp [intOf]; omega
          · obtain rfl : i = l := by omega
            have hp2 : 2 ^ (15 - i) ≤ 32768 := Nat.pow_le_pow_right (n := 2) (by omega) (show 15 - i ≤ 15 by omega)
            generalize 2 ^ (15 - i) = p at *
            go_wp2
            go_round
            case rel => exact ⟨k + 1, by omega, by go_num, by rw [HS.out, if_neg h0]; simp⟩
            case measure => simp [intOf]; omega
    · obtain rfl : k = n := by omega
      go_wp2
      go_ret2
      exact ⟨rfl, rfl⟩
theorem rfill_bad (A : Option Addr) (n cap : Nat) (ls : Nat → Nat) (hn : n ≤ 4096) (w : World) (hL : Lens w A n ls) (h15 : ¬ ∀ i, i < n → ls i ≤ 15) :
    Calls Try.prog 51 #[.slice A n cap] w fun e w' => e = .returned (.tuple #[.int .i64 0, .int .i64 8]) ∧ w = w' := by
  obtain ⟨m, hm, hm15, hbef⟩ := first_bad ls n h15
  have HL := Lib.hid hL
  have H15 := Lib.hid hbef
  clear hL h15 hbef
  go_enter Try.func51, Try.ntmps51
  go_wp2
  go_loop [4, 14] (fun x i => ∃ k, k ≤ m ∧ i = .int .i64 k ∧ x = .int .i64 (fillN ls k : Nat)) (fun _ i => n - (intOf i).toNat)
  case atStart => exact ⟨0, Nat.zero_le _, rfl, rfl⟩
  case round =>
    obtain ⟨k, hk, rfl, rfl⟩ := hrel
    obtain ⟨b, off, rfl, hb, hc⟩ := HL.out (by omega)
    obtain ⟨hcell, h256⟩ := hc k (by omega)
    by_cases hlt : k < m
    · skip
      have hl := H15.out k hlt
      have hfl := fillN_le ls k
      have HS : Hid (fillN ls (k + 1) = fillN ls k + (if ls k = 0 then 0 else 2 ^ (15 - ls k))) := rfl
      generalize ls k = l at *
      generalize fillN ls k = F at *
      clear hc
      by_cases h0 : l = 0
      · subst h0
        go_wp2
        go_round
        case rel => exact ⟨k + 1, by omega, by go_num, by rw [HS.out]; simp⟩
        case measure => simp [intOf]; omega
      · have h0' : 0 < l := by omega
        go_wp2
        go_loop [7, 8] (fun y j => ∃ i : Nat, i ≤ l ∧ j = .int .i64 i ∧ y = .int .i64 (2 ^ (15 - i) : Nat)) (fun _ j => l - (intOf j).toNat)
        case atStart => exact ⟨0, Nat.zero_le _, rfl, rfl⟩
        case round =>
          obtain ⟨i, hi, rfl, rfl⟩ := hrel
          by_cases hil : i < l
          · have hp : 2 ^ (15 - i) = 2 * 2 ^ (15 - (i + 1)) := by rw [show 15 - i = (15 - (i + 1)) + 1 by omega, Nat.pow_succ]; omega
            have hp2 : 2 ^ (15 - (i + 1)) ≤ 32768 := Nat.pow_le_pow_right (n := 2) (by omega) (show 15 - (i + 1) ≤ 15 by omega)
            have HP : Hid (2 ^ (15 - (i + 1)) = 2 ^ (15 - (i + 1))) := rfl
            generalize 2 ^ (15 - i) = p at *
            generalize hpp : 2 ^ (15 - (i + 1)) = p2 at *
            have hd1 : (p : Int).tdiv 2 = (p2 : Int) := by rw [Int.tdiv_eq_ediv_of_nonneg (by omega)]; omega
            have hd2 : (p : Int) / 2 = (p2 : Int) := by omega
            have HPP := Lib.hid hpp
            clear hpp hp HP
            go_wp2
            go_round
            case rel => exact ⟨i + 1, by omega, by go_num, by rw [HPP.out]⟩
            case measure => simp [intOf]; omega
          · obtain rfl : i = l := by omega
            have hp2 : 2 ^ (15 - i) ≤ 32768 := Nat.pow_le_pow_right (n := 2) (by omega) (show 15 - i ≤ 15 by omega)
            generalize 2 ^ (15 - i) = p at *
            go_wp2
            go_round
            case rel => exact ⟨k + 1, by omega, by go_num, by rw [HS.out, if_neg h0]; simp⟩
            case measure => simp [intOf]; omega
    · obtain rfl : k = m := by omega
      generalize ls k = l at *
      clear hc
      go_wp2
      go_ret2
      exact ⟨rfl, rfl⟩
end Go.Proofs.Ytopjmagbcnglhaa
