/-
  Contracts: digits.
-/
import Derived.Test.YtmbifoockenniaaDoorStJ
namespace Go.Proofs.YtmbifoockenniaaDoor
set_option maxRecDepth 100000
open Go.RowKit Go.Joins Go.Deep Go.Sort
attribute [local go_sem ↓] Go.wp_at_zero Go.wp_at_succ

def dgl (n k : Nat) : List UInt8 := (dgs n k).map UInt8.ofNat
def dgB (n k : Nat) : ByteArray := ⟨(dgl n k).toArray⟩
theorem dgl_len (n k : Nat) : (dgl n k).length = k := by rw [dgl, List.length_map, dgs_len]
theorem dgB_size (n k : Nat) : (dgB n k).size = k := by
  show (dgl n k).toArray.size = k
  rw [List.size_toArray, dgl_len]
theorem of_toNat (l : List UInt8) : (l.map UInt8.toNat).map UInt8.ofNat = l := by
  induction l with
  | nil => rfl
  | cons a l ih => rw [List.map_cons, List.map_cons, ih, UInt8.ofNat_toNat]
theorem repeat_one (x : UInt8) (c : Nat) : Lib.repeatL [x] c = List.replicate c x := by
  induction c with
  | zero => rfl
  | succ c ih => simp [Lib.repeatL, List.replicate_succ] at ih ⊢; try exact ih
theorem dig_parts (n k : Nat) (hk : 1 ≤ k) (hn : n < 10 ^ k) : (Lib.decDigits n).length ≤ k ∧ List.replicate (k - (Lib.decDigits n).length) (48 : UInt8) ++ Lib.decDigits n = dgl n k := by
  obtain ⟨j, rfl⟩ : ∃ j, k = j + 1 := ⟨k - 1, by omega⟩
  obtain ⟨h1, h2⟩ := dec_pad j n hn
  refine ⟨h1, ?_⟩
  rw [dgl, ← h2, List.map_append, of_toNat, List.map_replicate]
  rfl
theorem digits_any (n k : Nat) (hk : 1 ≤ k) (hk4 : k ≤ 4) (hn : n < 10 ^ k) (w : World) (hp : Pow w) :
    Calls Tryd.prog 41 #[.int .i64 (n : Nat), .int .i64 (k : Nat)] w fun e w' => e = .returned (.string (dgB n k)) ∧ Below w.heap.size w w' := by
  obtain ⟨hl, ha⟩ := dig_parts n k hk hn
  have hn4 : n < 10 ^ 4 := Nat.lt_of_lt_of_le hn (Nat.pow_le_pow_right (by omega) hk4)
  have hh := dec_head n
  have hs : ∃ T : ByteArray, T = ⟨(Lib.decDigits n).toArray⟩ ∧ T.data.toList = Lib.decDigits n ∧ T.size = (Lib.decDigits n).length := ⟨_, rfl, rfl, by rfl⟩
  obtain ⟨T, hT, hTl, hTs⟩ := hs
  have H1 : Hid (∀ w : World, Pow w → Calls Tryd.prog 65 #[.int .i64 (n : Nat)] w fun e w' => e = .returned (.string T) ∧ Below w.heap.size w w') := fun w hp => by
    refine (sh_strconv_Itoa (n : Nat) (by omega) (by omega) w hp).mono ?_
    rintro e w1 ⟨rfl, j, os, rfl⟩
    exact ⟨by rw [itoa_nat, hT], below_grow w j os⟩
  have H2 : Hid (∀ w : World, Calls Tryd.prog 64 #[.string T, .string ⟨#[45]⟩] w fun e w' => e = .returned (.tuple #[.string T, .bool false]) ∧ w' = w) := fun w => by
    refine (sh_strings_CutPrefix T ⟨#[45]⟩ w).mono ?_
    rintro e w1 ⟨rfl, rfl⟩
    have h0 : Lib.hasPrefix T.data.toList (ByteArray.mk #[45]).data.toList = false := by rw [hTl]; exact hh
    have h1 : Lib.trimPrefix T.data.toList (ByteArray.mk #[45]).data.toList = T.data.toList := by unfold Lib.trimPrefix; rw [h0]; rfl
    exact ⟨by rw [h0, h1], rfl⟩
  obtain ⟨c, hc⟩ : ∃ c, T.size + c = k := ⟨k - T.size, by omega⟩
  obtain ⟨R, hR⟩ : ∃ R : ByteArray, R = ⟨(List.replicate c (48 : UInt8)).toArray⟩ := ⟨_, rfl⟩
  have H3 : Hid (∀ w : World, Calls Tryd.prog 66 #[.string ⟨#[48]⟩, .int .i64 (c : Nat)] w fun e w' => e = .returned (.string R) ∧ Below w.heap.size w w') := fun w => by
    refine (sh_strings_Repeat ⟨#[48]⟩ c w (by omega) (by show 1 * c ≤ _; omega)).mono ?_
    rintro e w1 ⟨rfl, hb⟩
    exact ⟨by rw [hR, ← repeat_one], hb⟩
  have H4 : Hid (R ++ T = dgB n k) := by
    show R ++ T = _
    apply ByteArray.ext
    rw [ByteArray.data_append, hR, hT]
    show (List.replicate c (48 : UInt8)).toArray ++ (Lib.decDigits n).toArray = (dgl n k).toArray
    rw [List.append_toArray, ← ha, show k - (Lib.decDigits n).length = c by omega]
  have hm : Hid (max ((k : Int) - (T.size : Nat)) 0 = (c : Nat)) := by show _ = _; omega
  have hT4 : T.size ≤ 4 := by omega
  have hR4 : R.size = c := by rw [hR]; show (List.replicate c (48 : UInt8)).toArray.size = c; rw [List.size_toArray, List.length_replicate]
  have hsz : ¬ 9223372036854775807 < R.size + T.size := by omega
  clear hR4
  have HP := Lib.hid hp
  clear hR hT hTl hTs hh hl ha hn hn4 hc hp
  go_enter Tryd.func41, Tryd.ntmps41
  go_wp2_with fail
  refine (H1.out _ HP.out).mono ?_; rintro e w1 ⟨rfl, hb⟩
  have B := Lib.hid hb
  clear hb
  go_wp2_with fail
  refine (H2.out _).mono ?_; rintro e w2 ⟨rfl, rfl⟩
  go_wp2_with fail
  try rw [hm.out]
  refine (H3.out _).mono ?_; rintro e w3 ⟨rfl, hb⟩
  have B3 := Lib.hid (below_then B.out hb)
  clear hb
  go_wp2_with fail
  go_ret
  exact ⟨by rw [← H4.out]; rfl, B3.out⟩
end Go.Proofs.YtmbifoockenniaaDoor
