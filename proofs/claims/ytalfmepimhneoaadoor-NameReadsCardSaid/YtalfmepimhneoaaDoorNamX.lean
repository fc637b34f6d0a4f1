/-
  Contracts: Decode, Encode.
-/
import Derived.Test.YtalfmepimhneoaaDoorNamW
namespace Go.Proofs.YtalfmepimhneoaaDoor
set_option maxRecDepth 100000
open Go.RowKit Go.Deep Go.Joins Go.Lib

/-- A name's bytes by CP437 as a text's. -/
def decL (l : List Nat) : List Nat := l.flatMap fun b => encN (cpN b)
theorem decL_snoc (l : List Nat) (b : Nat) : decL (l ++ [b]) = decL l ++ encN (cpN b) := by simp [decL]
theorem decL_len (l : List Nat) : (decL l).length ≤ 4 * l.length := by
  induction l with
  | nil => simp [decL]
  | cons b r ih =>
    have := (enc_len (cpN b)).1
    simp only [decL, List.flatMap_cons, List.length_append, List.length_cons] at ih ⊢
    omega
theorem cpN_lt {b : Nat} (h : b < 256) : cpN b < 55296 := by
  unfold cpN
  split
  · omega
  · exact (cpL_facts _ (by omega)).2
theorem enc_lt (r : Nat) (hr : r ≤ 1114111) : ∀ x ∈ encN r, x < 256 := by
  unfold encN encodeRuneZ
  repeat' split
  all_goals
    intro x hx
    simp at hx
    omega
theorem decL_lt (s : ByteArray) : ∀ x ∈ decL (nums s), x < 256 := by
  intro x hx
  unfold decL at hx
  obtain ⟨b, hb, hx⟩ := List.mem_flatMap.1 hx
  exact enc_lt _ (by have := cpN_lt (nums_lt s b hb); omega) x hx
theorem zero_bd : ∀ w : World, (zeroValue 64).run Tryd.prog w = .ok (.agg #[.pointer none, .slice none 0 0]) w := fun _ => by kernel_rfl
theorem bd_fresh (w : World) : Bd (w.alloc (.cells #[.pointer none, .slice none 0 0] 64)) w.heap.size w.heap.size [] :=
  ⟨Nat.le_refl _, .pointer none, .slice none 0 0, heap_alloc_new w _, .inl rfl, World.ownsRow_nil _ _ _ _, by simp [Value.ownBlock]⟩
set_option maxHeartbeats 4000000 in
theorem decode_cp (s : ByteArray) (w : World) (hs : s.size ≤ 100000) (hU : Upper w) :
    Calls Tryd.prog 14 #[.string s, .bool false] w fun e w' => e = .returned (.tuple #[.string (text (decL (nums s))), .int .i64 0]) ∧ Below w.heap.size w w' := by
  have HU := Lib.hid hU
  have HRU := Lib.hid (fun b hb w h => runeOf_any b hb w h)
  have HWR := Lib.hid (fun B b r l w hr hl hBw h => writeRune_any B b r l w hr hl hBw h)
  have HF := Lib.hid (bd_fresh w)
  have hz := zero_bd
  clear hU
  go_enter Tryd.func14, Tryd.ntmps14
  go_wp2_with fail
  go_loopw [14] (fun i wr => ∃ k : Nat, k ≤ s.size ∧ i = .int .i64 (k : Nat) ∧ Hid (Bd wr w.heap.size w.heap.size (decL ((nums s).take k))) ∧ Hid (Below w.heap.size w wr) ∧ Hid (w.heap.size + 1 ≤ wr.heap.size)) (fun i _ => s.size - (intOf i).toNat)
  case atStart => exact ⟨0, Nat.zero_le _, rfl, HF.out, (Below.refl _ _).alloc (Nat.le_refl _) _, by show _ ≤ _; simp⟩
  case round =>
    obtain ⟨k, hk, rfl, HB, HW, HS⟩ := hrel
    by_cases hks : k < s.size
    · have hlt : s[k].toNat < 256 := s[k].toNat_lt
      have HSN : Hid (decL ((nums s).take (k + 1)) = decL ((nums s).take k) ++ encN (cpN s[k].toNat)) := by show _ = _; rw [nums_snoc s k hks, decL_snoc]
      have hdl : (decL ((nums s).take k)).length ≤ 1000000 := by
        have := decL_len ((nums s).take k)
        rw [List.length_take, nums_len] at this
        omega
      have hcp := cpN_lt hlt
      generalize decL ((nums s).take k) = d at *
      go_wp2_with fail
      refine (HRU.out _ hlt _ (HU.out.below HW.out)).mono ?_
      rintro e w1 ⟨rfl, rfl⟩
      generalize cpN s[k].toNat = r at *
      go_wp2_with fail
      refine (HWR.out w.heap.size w.heap.size r d _ (by omega) hdl HW.out.size HB.out).mono ?_
      rintro e w2 ⟨⟨x, rfl⟩, hbd, hbw, _⟩
      have HB2 : Hid (Bd w2 w.heap.size w.heap.size (decL ((nums s).take (k + 1)))) := by show Bd _ _ _ _; rw [HSN.out]; exact hbd
      have HW2 := Lib.hid (HW.out.trans hbw)
      have HS2 : Hid (w.heap.size + 1 ≤ w2.heap.size) := Nat.le_trans HS.out hbw.size
      clear hbd hbw
      go_wp2_with fail
      go_roundw
      case rel => exact ⟨k + 1, by omega, by go_num, HB2, HW2, HS2⟩
      case measure => simp [intOf]; omega
    · obtain rfl : k = s.size := by omega
      have hall : (nums s).take s.size = nums s := by rw [← nums_len]; exact List.take_length
      rw [hall] at HB
      have HST := Lib.hid (bdString_any w.heap.size w.heap.size (decL (nums s)) wr (decL_lt s) HW.out.size HB.out)
      go_wp2_with fail
      refine (HST.out).mono ?_
      rintro e w1 ⟨rfl, hbw⟩
      have HW2 := Lib.hid (HW.out.trans hbw)
      clear hbw
      go_wp2_with fail
      go_ret2
      exact ⟨rfl, HW2.out⟩
theorem decode_utf8 (s : ByteArray) (w : World) :
    Calls Tryd.prog 14 #[.string s, .bool true] w fun e w' => e = .returned (if straysB s = true then .tuple #[.string .empty, .int .i64 20] else .tuple #[.string s, .int .i64 0]) ∧ Below w.heap.size w w' := by
  have HS := Lib.hid (fun w => strays_any s w)
  cases hst : straysB s with
  | true =>
    rw [hst] at HS
    rw [if_pos rfl]
    go_enter Tryd.func14, Tryd.ntmps14
    go_wp2_with fail
    refine (HS.out _).mono ?_
    rintro e w1 ⟨rfl, hb⟩
    go_wp2_with fail
    go_ret2
    exact ⟨rfl, hb⟩
  | false =>
    rw [hst] at HS
    rw [if_neg (by decide)]
    go_enter Tryd.func14, Tryd.ntmps14
    go_wp2_with fail
    refine (HS.out _).mono ?_
    rintro e w1 ⟨rfl, hb⟩
    go_wp2_with fail
    go_ret2
    exact ⟨rfl, hb⟩
end Go.Proofs.YtalfmepimhneoaaDoor
