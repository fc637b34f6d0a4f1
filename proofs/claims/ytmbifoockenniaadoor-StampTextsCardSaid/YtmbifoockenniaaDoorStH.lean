/-
  Contracts: Seconds at anything, FromDOS, ToDOS on both sides, Fits.
-/
import Derived.Test.YtmbifoockenniaaDoorStG
namespace Go.Proofs.YtmbifoockenniaaDoor
set_option maxRecDepth 100000
open Go.RowKit Go.Joins Go.Deep

theorem rsec_y (y m d t : Nat) (hd : IsDate y m d t) (w : World) :
    Calls Tryd.prog 14 #[.agg #[.int .i64 (y : Nat), .int .i64 (m : Nat), .int .i64 (d : Nat), .int .i64 (t / 3600 : Nat), .int .i64 (t / 60 % 60 : Nat), .int .i64 (t % 60 : Nat)]] w fun e w' => e = .returned (.tuple #[.int .i64 (tI y m d t), .int .i64 0]) ∧ Below w.heap.size w w' := by
  have h1 := hd.d1; have h2 := hd.d2; have h3 := hd.s2
  refine rsec_mid y m (d : Nat) (t / 3600 : Nat) (t / 60 % 60 : Nat) (t % 60 : Nat) _ hd.y1 hd.y2 hd.m1 hd.m2 (by omega) (fun _ => ?_) (fun k => (k ⟨by omega, by omega, by omega, by omega⟩).elim) w
  rw [show (((dbf y : Nat) : Int) - 719162 + (mb y m : Nat) + (d : Nat) - 1) * 86400 + (t / 3600 : Nat) * 3600 + (t / 60 % 60 : Nat) * 60 + (t % 60 : Nat) = tI y m d t from by rw [← tI_eq hd]; generalize dbf y = a; generalize mb y m = b; omega]
theorem rsec_n (Y M D h mi s : Int) (hr : ¬ Right Y M D h mi s) (w : World) :
    Calls Tryd.prog 14 #[.agg #[.int .i64 Y, .int .i64 M, .int .i64 D, .int .i64 h, .int .i64 mi, .int .i64 s]] w fun e w' => e = .returned (.tuple #[.int .i64 0, .int .i64 23]) ∧ Below w.heap.size w w' := by
  by_cases hf : (Y < 1 ∨ 9999 < Y) ∨ (M < 1 ∨ 12 < M) ∨ D < 1
  · exact rsec_front Y M D h mi s hf w
  · obtain ⟨y, rfl⟩ := Int.eq_ofNat_of_zero_le (show 0 ≤ Y by omega)
    obtain ⟨m, rfl⟩ := Int.eq_ofNat_of_zero_le (show 0 ≤ M by omega)
    exact rsec_mid y m D h mi s _ (by omega) (by omega) (by omega) (by omega) (by omega) (fun k => (hr ⟨by omega, by omega, by rw [Int.toNat_natCast, Int.toNat_natCast]; omega, k.2⟩).elim) (fun _ => rfl) w

/-- What Seconds answers: the time, its error. -/
def SecIs (Y M D h mi s : Int) (x : Int) (z : Nat) : Prop :=
  (∃ y m d t : Nat, IsDate y m d t ∧ Y = (y : Nat) ∧ M = (m : Nat) ∧ D = (d : Nat) ∧ h = (t / 3600 : Nat) ∧ mi = (t / 60 % 60 : Nat) ∧ s = (t % 60 : Nat) ∧ x = tI y m d t ∧ z = 0) ∨ (¬ Right Y M D h mi s ∧ x = 0 ∧ z = 23)
theorem sec_ex (Y M D h mi s : Int) : ∃ x z, SecIs Y M D h mi s x z := by
  by_cases hr : Right Y M D h mi s
  · obtain ⟨y, m, d, t, h0, h1, h2, h3, h4, h5, h6⟩ := right_nat hr
    exact ⟨_, _, .inl ⟨y, m, d, t, h0, h1, h2, h3, h4, h5, h6, rfl, rfl⟩⟩
  · exact ⟨_, _, .inr ⟨hr, rfl, rfl⟩⟩
theorem sec_any {Y M D h mi s x : Int} {z : Nat} (H : SecIs Y M D h mi s x z) (w : World) :
    Calls Tryd.prog 13 #[.agg #[.int .i64 Y, .int .i64 M, .int .i64 D, .int .i64 h, .int .i64 mi, .int .i64 s]] w fun e w' => e = .returned (.tuple #[.int .i64 x, .int .i64 (z : Nat)]) ∧ Below w.heap.size w w' := by
  rcases H with ⟨y, m, d, t, hd, rfl, rfl, rfl, rfl, rfl, rfl, rfl, rfl⟩ | ⟨hr, rfl, rfl⟩
  · exact seconds_y y m d t hd w
  · exact seconds_n _ _ _ _ _ _ hr w
theorem rsec_any {Y M D h mi s x : Int} {z : Nat} (H : SecIs Y M D h mi s x z) (w : World) :
    Calls Tryd.prog 14 #[.agg #[.int .i64 Y, .int .i64 M, .int .i64 D, .int .i64 h, .int .i64 mi, .int .i64 s]] w fun e w' => e = .returned (.tuple #[.int .i64 x, .int .i64 (z : Nat)]) ∧ Below w.heap.size w w' := by
  rcases H with ⟨y, m, d, t, hd, rfl, rfl, rfl, rfl, rfl, rfl, rfl, rfl⟩ | ⟨hr, rfl, rfl⟩
  · exact rsec_y y m d t hd w
  · exact rsec_n _ _ _ _ _ _ hr w

/-! ### FromDOS -/
def fY (n : Nat) : Nat := 1980 + n / 33554432
def fM (n : Nat) : Nat := n / 2097152 % 16
def fD (n : Nat) : Nat := n / 65536 % 32
def fh (n : Nat) : Nat := n / 2048 % 32
def fm (n : Nat) : Nat := n / 32 % 64
def fs (n : Nat) : Nat := n % 32 * 2
def FdIs (n : Nat) (x : Int) (z : Nat) : Prop := SecIs (fY n : Nat) (fM n : Nat) (fD n : Nat) (fh n : Nat) (fm n : Nat) (fs n : Nat) x z
theorem mask (a k : Nat) (ha : a < 4294967296) (hk : k ≤ 8) : bits .and .u32 (a : Int) ((2 ^ k - 1 : Nat) : Int) = ((a % 2 ^ k : Nat) : Int) := by
  have : 2 ^ k ≤ 2 ^ 8 := Nat.pow_le_pow_right (by omega) hk
  rw [u32_and_nat a (2 ^ k - 1) ha (by omega), Nat.and_two_pow_sub_one_eq_mod]
theorem fromDOS_any {n : Nat} {x : Int} {z : Nat} (hn : n < 4294967296) (H : FdIs n x z) (w : World) :
    Calls Tryd.prog 15 #[.int .u32 (n : Nat)] w fun e w' => e = .returned (.tuple #[.int .i64 x, .int .i64 (z : Nat)]) ∧ Below w.heap.size w w' := by
  have HH := Lib.hid (fun w => sec_any H w)
  have e1 : bits .and .u32 (((n : Nat) : Int) / 2097152) 15 = ((fM n : Nat) : Int) := mask (n / 2097152) 4 (by omega) (by omega)
  have e2 : bits .and .u32 (((n : Nat) : Int) / 65536) 31 = ((fD n : Nat) : Int) := mask (n / 65536) 5 (by omega) (by omega)
  have e3 : bits .and .u32 (((n : Nat) : Int) / 2048) 31 = ((fh n : Nat) : Int) := mask (n / 2048) 5 (by omega) (by omega)
  have e4 : bits .and .u32 (((n : Nat) : Int) / 32) 63 = ((fm n : Nat) : Int) := mask (n / 32) 6 (by omega) (by omega)
  have e5 : bits .and .u32 ((n : Nat) : Int) 31 = ((n % 32 : Nat) : Int) := mask n 5 (by omega) (by omega)
  have EY : Hid ((1980 : Int) + ((n : Nat) : Int) / 33554432 = ((fY n : Nat) : Int)) := by show _ = _; unfold fY; omega
  have ES : Hid (((n % 32 : Nat) : Int) * 2 = ((fs n : Nat) : Int)) := by show _ = _; unfold fs; omega
  have l1 : fM n ≤ 15 := by unfold fM; omega
  have l2 : fD n ≤ 31 := by unfold fD; omega
  have l3 : fh n ≤ 31 := by unfold fh; omega
  have l4 : fm n ≤ 63 := by unfold fm; omega
  have l5 : n % 32 ≤ 31 := by omega
  clear H
  generalize fY n = F0 at *
  generalize fM n = F1 at *
  generalize fD n = F2 at *
  generalize fh n = F3 at *
  generalize fm n = F4 at *
  generalize fs n = F5 at *
  generalize n % 32 = r at *
  go_enter Tryd.func15, Tryd.ntmps15
  go_wp2_with fail
  rw [EY.out, ES.out]
  refine (HH.out _).mono ?_; rintro e w1 ⟨rfl, hb⟩
  go_wp2_with fail
  go_ret2
  exact ⟨rfl, hb⟩
theorem rfromDOS_any {n : Nat} {x : Int} {z : Nat} (hn : n < 4294967296) (H : FdIs n x z) (w : World) :
    Calls Tryd.prog 16 #[.int .u32 (n : Nat)] w fun e w' => e = .returned (.tuple #[.int .i64 x, .int .i64 (z : Nat)]) ∧ Below w.heap.size w w' := by
  have HH := Lib.hid (fun w => rsec_any H w)
  have E0 : Hid (((n : Nat) : Int) / 65536 / 512 + 1980 = ((fY n : Nat) : Int)) := by show _ = _; unfold fY; omega
  have E1 : Hid (((n : Nat) : Int) / 65536 / 32 % 16 = ((fM n : Nat) : Int)) := by show _ = _; unfold fM; omega
  have E2 : Hid (((n : Nat) : Int) / 65536 % 32 = ((fD n : Nat) : Int)) := by show _ = _; unfold fD; omega
  have E3 : Hid (((n : Nat) : Int) % 65536 / 2048 = ((fh n : Nat) : Int)) := by show _ = _; unfold fh; omega
  have E4 : Hid (((n : Nat) : Int) % 65536 / 32 % 64 = ((fm n : Nat) : Int)) := by show _ = _; unfold fm; omega
  have E5 : Hid (((n : Nat) : Int) % 32 * 2 = ((fs n : Nat) : Int)) := by show _ = _; unfold fs; omega
  clear H
  generalize fY n = F0 at *
  generalize fM n = F1 at *
  generalize fD n = F2 at *
  generalize fh n = F3 at *
  generalize fm n = F4 at *
  generalize fs n = F5 at *
  go_enter Tryd.func16, Tryd.ntmps16
  go_wp2_with fail
  rw [E0.out, E1.out, E2.out, E3.out, E4.out, E5.out]
  refine (HH.out _).mono ?_; rintro e w1 ⟨rfl, hb⟩
  go_wp2_with fail
  go_ret2
  exact ⟨rfl, hb⟩

/-! ### ToDOS -/
def dosN (y m d t : Nat) : Nat := (y - 1980) * 33554432 + m * 2097152 + d * 65536 + t / 3600 * 2048 + t / 60 % 60 * 32 + t % 60 / 2
theorem i64_or_nat (a b : Nat) (ha : a < 9223372036854775808) (hb : b < 9223372036854775808) : bits .or .i64 (a : Int) (b : Int) = ((a ||| b : Nat) : Int) := by
  have hx : a ||| b < 2 ^ 63 := Nat.or_lt_two_pow (by omega) (by omega)
  show IntKind.i64.wrap ((BitVec.ofInt 64 (a : Int) ||| BitVec.ofInt 64 (b : Int)).toNat : Int) = _
  have e : ∀ c : Nat, c < 9223372036854775808 → (BitVec.ofInt 64 (c : Int)).toNat = c := fun c hc => by
    rw [BitVec.ofInt_natCast, BitVec.toNat_ofNat]
    exact Nat.mod_eq_of_lt (by omega)
  rw [BitVec.toNat_or, e a ha, e b hb, IntKind.wrap_i64]
  omega
theorem or_add (a b k : Nat) (hb : b < 2 ^ k) : a * 2 ^ k ||| b = a * 2 ^ k + b := by
  have h := Nat.shiftLeft_add_eq_or_of_lt hb a
  rw [Nat.shiftLeft_eq] at h
  exact h.symm
theorem dos_or (Y m d h mi s : Nat) (hY : Y ≤ 127) (hm : m ≤ 12) (hd : d ≤ 31) (hh : h ≤ 23) (hmi : mi ≤ 59) (hs : s ≤ 59) :
    bits .or .i64 (bits .or .i64 (bits .or .i64 (bits .or .i64 (bits .or .i64 (((Y : Nat) : Int) * 33554432) ((m : Nat) * 2097152)) ((d : Nat) * 65536)) ((h : Nat) * 2048)) ((mi : Nat) * 32)) (((s : Nat) : Int) / 2) % 4294967296
      = ((Y * 33554432 + m * 2097152 + d * 65536 + h * 2048 + mi * 32 + s / 2 : Nat) : Int) := by
  have a1 : bits .or .i64 (((Y : Nat) : Int) * 33554432) ((m : Nat) * 2097152) = ((Y * 33554432 + m * 2097152 : Nat) : Int) := by
    rw [show ((Y : Nat) : Int) * 33554432 = ((Y * 33554432 : Nat) : Int) by omega, show ((m : Nat) : Int) * 2097152 = ((m * 2097152 : Nat) : Int) by omega, i64_or_nat _ _ (by omega) (by omega)]
    have := or_add Y (m * 2097152) 25 (by omega)
    rw [show (2 : Nat) ^ 25 = 33554432 from rfl] at this
    rw [this]
  have a2 : bits .or .i64 ((Y * 33554432 + m * 2097152 : Nat) : Int) ((d : Nat) * 65536) = ((Y * 33554432 + m * 2097152 + d * 65536 : Nat) : Int) := by
    rw [show ((d : Nat) : Int) * 65536 = ((d * 65536 : Nat) : Int) by omega, i64_or_nat _ _ (by omega) (by omega)]
    have := or_add (Y * 16 + m) (d * 65536) 21 (by omega)
    rw [show (2 : Nat) ^ 21 = 2097152 from rfl, show (Y * 16 + m) * 2097152 = Y * 33554432 + m * 2097152 by omega] at this
    rw [this]
  have a3 : bits .or .i64 ((Y * 33554432 + m * 2097152 + d * 65536 : Nat) : Int) ((h : Nat) * 2048) = ((Y * 33554432 + m * 2097152 + d * 65536 + h * 2048 : Nat) : Int) := by
    rw [show ((h : Nat) : Int) * 2048 = ((h * 2048 : Nat) : Int) by omega, i64_or_nat _ _ (by omega) (by omega)]
    have := or_add (Y * 512 + m * 32 + d) (h * 2048) 16 (by omega)
    rw [show (2 : Nat) ^ 16 = 65536 from rfl, show (Y * 512 + m * 32 + d) * 65536 = Y * 33554432 + m * 2097152 + d * 65536 by omega] at this
    rw [this]
  have a4 : bits .or .i64 ((Y * 33554432 + m * 2097152 + d * 65536 + h * 2048 : Nat) : Int) ((mi : Nat) * 32) = ((Y * 33554432 + m * 2097152 + d * 65536 + h * 2048 + mi * 32 : Nat) : Int) := by
    rw [show ((mi : Nat) : Int) * 32 = ((mi * 32 : Nat) : Int) by omega, i64_or_nat _ _ (by omega) (by omega)]
    have := or_add (Y * 16384 + m * 1024 + d * 32 + h) (mi * 32) 11 (by omega)
    rw [show (2 : Nat) ^ 11 = 2048 from rfl, show (Y * 16384 + m * 1024 + d * 32 + h) * 2048 = Y * 33554432 + m * 2097152 + d * 65536 + h * 2048 by omega] at this
    rw [this]
  have a5 : bits .or .i64 ((Y * 33554432 + m * 2097152 + d * 65536 + h * 2048 + mi * 32 : Nat) : Int) (((s : Nat) : Int) / 2) = ((Y * 33554432 + m * 2097152 + d * 65536 + h * 2048 + mi * 32 + s / 2 : Nat) : Int) := by
    rw [show ((s : Nat) : Int) / 2 = ((s / 2 : Nat) : Int) by omega, i64_or_nat _ _ (by omega) (by omega)]
    have := or_add (Y * 1048576 + m * 65536 + d * 2048 + h * 64 + mi) (s / 2) 5 (by omega)
    rw [show (2 : Nat) ^ 5 = 32 from rfl, show (Y * 1048576 + m * 65536 + d * 2048 + h * 64 + mi) * 32 = Y * 33554432 + m * 2097152 + d * 65536 + h * 2048 + mi * 32 by omega] at this
    rw [this]
  rw [a1, a2, a3, a4, a5]
  omega
end Go.Proofs.YtmbifoockenniaaDoor
