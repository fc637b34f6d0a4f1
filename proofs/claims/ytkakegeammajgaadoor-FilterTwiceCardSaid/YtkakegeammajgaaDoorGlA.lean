/-
  Glob: a slice of runes; one rune, perhaps behind a \; a rune or a range.
-/
import Derived.Test.YtkakegeammajgaaDoorNamO
import Derived.Test.YtkakegeammajgaaDoorGlC
namespace Go.Proofs.YtkakegeammajgaaDoor
set_option maxRecDepth 100000
open Go.RowKit Go.Joins Go.Deep

/-- A slice of runes. -/
def Rn (w : World) (A : Option Addr) (l : List Nat) : Prop := 0 < l.length → ∃ b off, A = some ⟨b, off, none⟩ ∧ b < w.heap.size ∧ ∀ i, i < l.length → w.cell? ⟨b, off + i, none⟩ = some (.int .i32 ((l.getD i 0 : Nat) : Int))
/-- All are runes. -/
def AllR (l : List Nat) : Prop := ∀ i, l.getD i 0 ≤ 1114111
theorem AllR.drop {l : List Nat} (h : AllR l) (k : Nat) : AllR (l.drop k) := fun i => by
  have := h (k + i)
  rw [List.getD_eq_getElem?_getD, List.getElem?_drop, ← List.getD_eq_getElem?_getD]
  exact this
theorem Rn.below {w w' : World} {B : Nat} {A : Option Addr} {l : List Nat} (h : Rn w A l) (hB : w.heap.size ≤ B) (hb : Below B w w') : Rn w' A l := fun h0 => by
  obtain ⟨b, off, e, hlt, hc⟩ := h h0
  exact ⟨b, off, e, Nat.lt_of_lt_of_le hlt hb.size, fun i hi => (hb.cell (p := ⟨b, off + i, none⟩) (Nat.lt_of_lt_of_le hlt hB)).trans (hc i hi)⟩
theorem info_i32 : (Tryd.prog.info? 21).map (·.size) = some 1 := by kernel_rfl
/-- A slice's end from a place on. -/
theorem rn_slice (A : Option Addr) (n cap k : Nat) (hk : k ≤ n) (hcap : n ≤ cap) :
    ∃ A', (∀ w : World, (Instr.slice 55 (.slice A n cap) (some (.int .i64 (k : Nat))) none none).run Tryd.prog w = .ok (.slice A' (n - k) (cap - k)) w) ∧ ∀ (w : World) (l : List Nat), l.length = n → Rn w A l → Rn w A' (l.drop k) := by
  have h1 : (0 : Int) ≤ (k : Int) := by omega
  have h2 : (k : Int) ≤ (n : Int) := by omega
  refine ⟨if cap = k then A else A.map (·.add (k * 1)), fun w => ?_, fun w l hl h h0 => ?_⟩
  · rw [run_slice_l (P := Tryd.prog) w 55 A n cap Tryd.underlying55 .i64 (k : Int) h1 h2]
    obtain ⟨i, hi, hs⟩ := Option.map_eq_some_iff.1 info_i32
    have hsz : (sizeOf (Tryd.prog.elem 55)).run Tryd.prog w = .ok 1 w := by
      show (sizeOf 21).run Tryd.prog w = .ok 1 w
      simp [sizeOf, typeInfo, hi, hs]
    rw [hsz]
    simp [Result.andThen, sliced]
  · rw [List.length_drop] at h0
    rw [if_neg (by omega)]
    obtain ⟨b, off, rfl, hlt, hc⟩ := h (by omega)
    refine ⟨b, off + k * 1, by rw [Option.map_some, Addr.add_lit], hlt, fun i hi => ?_⟩
    rw [List.length_drop] at hi
    have := hc (k + i) (by omega)
    rw [List.getD_eq_getElem?_getD, List.getElem?_drop, ← List.getD_eq_getElem?_getD, ← this]
    congr 2
    omega

set_option maxHeartbeats 2000000 in
theorem plain_any (A : Option Addr) (n cap : Nat) (l : List Nat) (hn : l.length = n) (h0 : 0 < n) (hr : AllR l) (w : World) (hR : Rn w A l) :
    Calls Tryd.prog 25 #[.slice A n cap] w fun e w' => e = .returned (.tuple #[.int .i32 ((plainF l).1 : Nat), .int .i64 ((plainF l).2 : Nat)]) ∧ w = w' := by
  obtain ⟨b, off, rfl, hlt, hc⟩ := hR (by omega)
  rcases l with _ | ⟨c, _ | ⟨r, t⟩⟩
  · exact absurd hn (by simp; omega)
  · obtain rfl : n = 1 := by simpa using hn.symm
    have c0' : w.cell? ⟨b, off, none⟩ = some (.int .i32 (c : Nat)) := hc 0 (by simp)
    clear hc hn
    have HP := Lib.hid (show plainF [c] = if c = 92 then (0, 0) else (c, 1) from rfl)
    generalize plainF [c] = q at *
    by_cases h92 : c = 92
    · have hq := HP.out.trans (if_pos h92)
      subst hq
      subst h92
      clear HP
      go_enter Tryd.func25, Tryd.ntmps25
      go_wp2
      go_ret2
      exact ⟨rfl, rfl⟩
    · have hq := HP.out.trans (if_neg h92)
      subst hq
      clear HP
      have g1 : ((c : Int) != 92) = true := by rw [bne_iff_ne]; omega
      have g2 : ((c : Int) == 92) = false := by rw [beq_eq_false_iff_ne]; omega
      clear h92
      go_enter Tryd.func25, Tryd.ntmps25
      go_wp2
      go_ret2
      exact ⟨rfl, rfl⟩
  · have c0' : w.cell? ⟨b, off, none⟩ = some (.int .i32 (c : Nat)) := hc 0 (by simp)
    have c1' : w.cell? ⟨b, off + 1, none⟩ = some (.int .i32 (r : Nat)) := hc 1 (by simp)
    have hn2 : 2 ≤ n := by rw [← hn]; simp
    clear hc hn
    have HP := Lib.hid (show plainF (c :: r :: t) = if c = 92 then (r, 2) else (c, 1) from rfl)
    generalize plainF (c :: r :: t) = q at *
    by_cases h92 : c = 92
    · have hq := HP.out.trans (if_pos h92)
      subst hq
      subst h92
      clear HP
      have g3 : ((n : Int) == 1) = false := by rw [beq_eq_false_iff_ne]; omega
      go_enter Tryd.func25, Tryd.ntmps25
      go_wp2
      go_ret2
      exact ⟨rfl, rfl⟩
    · have hq := HP.out.trans (if_neg h92)
      subst hq
      clear HP
      have g1 : ((c : Int) != 92) = true := by rw [bne_iff_ne]; omega
      have g2 : ((c : Int) == 92) = false := by rw [beq_eq_false_iff_ne]; omega
      clear h92
      go_enter Tryd.func25, Tryd.ntmps25
      go_wp2
      go_ret2
      exact ⟨rfl, rfl⟩
end Go.Proofs.YtkakegeammajgaaDoor
