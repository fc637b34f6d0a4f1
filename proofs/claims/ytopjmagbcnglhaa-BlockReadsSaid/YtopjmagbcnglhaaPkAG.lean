/-
  The document's New, of codes.
  Texts of 0 and 1: what the document's Sign compares.
  Contracts: the document's writer: Write, Align, Bytes.
  Contracts: the document's writer: Bytes and Done.
  The document's Put.
  Contracts: the document's reader.
  The document's Sign.
-/
import Derived.Test.YtopjmagbcnglhaaPkAF
import Derived.Test.YtopjmagbcnglhaaPkAD
import Derived.Deep.CutBlock
import Derived.Deep.DeepCutAuto
import Derived.Test.YtopjmagbcnglhaaPkAC
import Derived.Deep.DeepMust

namespace Go.Proofs.Ytopjmagbcnglhaa
set_option maxRecDepth 100000
open Go.RowKit Go.Deep Go.Joins

theorem sumN_ge (ls : Nat → Nat) (k : Nat) : ∀ n, k < n → ls k ≤ sumN ls n
  | 0, h => by omega
  | n + 1, h => by
    rw [sumN]
    by_cases e : k = n
    · subst e
      omega
    · have := sumN_ge ls k n (by omega)
      omega
theorem sumN_le1 (ls : Nat → Nat) : ∀ n, (∀ j, j < n → ls j ≤ 1) → sumN ls n ≤ n
  | 0, _ => Nat.le_refl _
  | n + 1, h => by
    rw [sumN]
    have := sumN_le1 ls n (fun j hj => h j (by omega))
    have := h n (by omega)
    omega

theorem rnew_err (A : Option Addr) (n cap : Nat) (open_ : Bool) (x : Int) (hx : x ≠ 0) (w : World) (h : Calls Try.prog 50 #[.slice A n cap] w fun e w' => e = .returned (.tuple #[.slice none 0 0, .int .i64 x]) ∧ w = w') :
    Calls Try.prog 28 #[.slice A n cap, .bool open_] w fun e w' => e = .returned (.tuple #[.slice none 0 0, .int .i64 x]) ∧ w = w' := by
  have H := Lib.hid h
  have hx' : (x == 0) = false := by rw [beq_eq_false_iff_ne]; exact hx
  clear h
  go_enter Try.func28, Try.ntmps28
  go_wp2_with fail
  refine (H.out).mono ?_; rintro e w' ⟨rfl, rfl⟩
  go_wp2
  go_ret2
  exact ⟨rfl, rfl⟩

theorem rnew_whole (A : Option Addr) (n cap : Nat) (open_ : Bool) (ls : Nat → Nat) (hn : n ≤ 4096) (w : World) (hL : Lens w A n ls) (h15 : ∀ i, i < n → ls i ≤ 15) (hf : fillN ls n = 32768) :
    Calls Try.prog 28 #[.slice A n cap, .bool open_] w fun e w' => e = .returned (.tuple #[.slice (some ⟨w.heap.size, 0, none⟩) n n, .int .i64 0]) ∧ IsRowS w' w.heap.size n (fun i => tx (wordN ls n i) (ls i)) ∧ Below w.heap.size w w' := by
  have HW := Lib.hid (rwords_ok A n cap ls hn w hL h15 (by omega))
  have HF := Lib.hid (fun w' (h : Below w.heap.size w w') => rfill_ok A n cap ls hn w' (hL.below (Nat.le_refl _) h) h15)
  rw [hf] at HF
  clear hL h15 hf
  go_enter Try.func28, Try.ntmps28
  go_wp2_with fail
  refine (HW.out).mono ?_; rintro e w1 ⟨rfl, hr, hb⟩
  have HR := Lib.hid hr
  have HB := Lib.hid hb
  clear hr hb
  go_wp2_with fail
  refine (HF.out w1 HB.out).mono ?_; rintro e w' ⟨rfl, rfl⟩
  go_wp2
  go_ret2
  exact ⟨rfl, HR.out, HB.out⟩

theorem rnew_part (A : Option Addr) (n cap : Nat) (ls : Nat → Nat) (hn : n ≤ 4096) (w : World) (hL : Lens w A n ls) (h15 : ∀ i, i < n → ls i ≤ 15) (hf : fillN ls n < 32768) :
    Calls Try.prog 28 #[.slice A n cap, .bool false] w fun e w' => e = .returned (.tuple #[.slice none 0 0, .int .i64 10]) ∧ Below w.heap.size w w' := by
  have HW := Lib.hid (rwords_ok A n cap ls hn w hL h15 (by omega))
  have HF := Lib.hid (fun w' (h : Below w.heap.size w w') => rfill_ok A n cap ls hn w' (hL.below (Nat.le_refl _) h) h15)
  generalize fillN ls n = F at *
  have hne : ((F : Int) == 32768) = false := by rw [beq_eq_false_iff_ne]; omega
  clear hL h15
  go_enter Try.func28, Try.ntmps28
  go_wp2_with fail
  refine (HW.out).mono ?_; rintro e w1 ⟨rfl, hr, hb⟩
  have HB := Lib.hid hb
  clear hr hb
  go_wp2_with fail
  refine (HF.out w1 HB.out).mono ?_; rintro e w' ⟨rfl, rfl⟩
  go_wp2
  go_ret2
  exact ⟨rfl, HB.out⟩

set_option maxHeartbeats 2000000 in
theorem rnew_open (A : Option Addr) (n cap : Nat) (ls : Nat → Nat) (hn : n ≤ 4096) (w : World) (hL : Lens w A n ls) (h15 : ∀ i, i < n → ls i ≤ 15) (hf : fillN ls n < 32768)
    (V : Value) (E : Int) (hv : (sumN ls n ≤ 1 ∧ V = .slice (some ⟨w.heap.size, 0, none⟩) n n ∧ E = 0) ∨ (¬ sumN ls n ≤ 1 ∧ V = .slice none 0 0 ∧ E = 10)) :
    Calls Try.prog 28 #[.slice A n cap, .bool true] w fun e w' => e = .returned (.tuple #[V, .int .i64 E]) ∧ Hid (sumN ls n ≤ 1 → IsRowS w' w.heap.size n (fun i => tx (wordN ls n i) (ls i))) ∧ Below w.heap.size w w' := by
  have HW := Lib.hid (rwords_ok A n cap ls hn w hL h15 (by omega))
  have HF := Lib.hid (fun w' (h : Below w.heap.size w w') => rfill_ok A n cap ls hn w' (hL.below (Nat.le_refl _) h) h15)
  have HL := Lib.hid (fun w' (h : Below w.heap.size w w') => hL.below (Nat.le_refl _) h)
  have HG := Lib.hid (fun k (h : k < n) => sumN_ge ls k n h)
  have HS1 := Lib.hid (fun k => sumN_le1 ls k)
  have HV := Lib.hid hv
  clear hv
  generalize fillN ls n = F at *
  have hne : ((F : Int) == 32768) = false := by rw [beq_eq_false_iff_ne]; omega
  clear hL h15
  go_enter Try.func28, Try.ntmps28
  go_wp2_with fail
  refine (HW.out).mono ?_; rintro e w1 ⟨rfl, hr, hb⟩
  have HR := Lib.hid hr
  have HB := Lib.hid hb
  have HL1 := Lib.hid (HL.out w1 hb)
  clear hr hb
  go_wp2_with fail
  refine (HF.out w1 HB.out).mono ?_; rintro e w' ⟨rfl, rfl⟩
  go_wp2_with fail
  go_loop [10, 33] (fun x i => ∃ k : Nat, k ≤ n ∧ i = .int .i64 (k : Nat) ∧ x = .int .i64 (sumN ls k : Nat) ∧ ∀ j, j < k → ls j ≤ 1) (fun _ i => n - (intOf i).toNat)
  case atStart => exact ⟨0, Nat.zero_le _, rfl, rfl, fun j hj => by omega⟩
  case round =>
    obtain ⟨k, hk, rfl, rfl, hall⟩ := hrel
    have hsk := HS1.out k hall
    have HALL := Lib.hid hall
    clear hall
    by_cases hlt : k < n
    · obtain ⟨b, off, rfl, hbl, hc⟩ := HL1.out (by omega)
      have hcell := (hc k hlt).1
      have hge := HG.out k hlt
      have HSS : Hid (sumN ls (k + 1) = sumN ls k + ls k) := rfl
      clear hc
      by_cases h2 : 1 < ls k
      · have HN : Hid (¬ sumN ls n ≤ 1) := by show ¬ _; omega
        generalize ls k = l at *
        generalize sumN ls k = s at *
        go_wp2_with fail
        go_ret2
        rcases HV.out with ⟨h, _, _⟩ | ⟨_, rfl, rfl⟩
        · exact absurd h HN.out
        · exact ⟨rfl, Lib.hid (fun _ => HR.out), HB.out⟩
      · have HLK : Hid (ls k ≤ 1) := by show _ ≤ _; omega
        have HJ : Hid (∀ j, j < k + 1 → ls j ≤ 1) := fun j hj => by
          by_cases e : j = k
          · subst e; exact HLK.out
          · exact HALL.out j (by omega)
        by_cases h1 : ls k = 1
        · rw [h1] at hcell HSS
          generalize sumN ls k = s at *
          clear hge h2 h1
          go_wp2_with fail
          go_round
          case rel => exact ⟨k + 1, by omega, by go_num, by rw [HSS.out]; go_num, HJ.out⟩
          case measure => simp [intOf]; omega
        · have h0 : ls k = 0 := by omega
          rw [h0] at hcell HSS
          generalize sumN ls k = s at *
          clear hge h2 h1 h0
          go_wp2_with fail
          go_round
          case rel => exact ⟨k + 1, by omega, by go_num, by rw [HSS.out]; rfl, HJ.out⟩
          case measure => simp [intOf]; omega
    · obtain rfl : k = n := by omega
      by_cases h1 : sumN ls k ≤ 1
      · have HE : Hid (V = .slice (some ⟨w.heap.size, 0, none⟩) k k ∧ E = 0) := by
          rcases HV.out with ⟨_, h⟩ | ⟨h, _⟩
          · exact h
          · exact absurd h1 h
        obtain ⟨rfl, rfl⟩ := HE.out
        have g0 : ¬ 1 < sumN ls k := by omega
        generalize sumN ls k = s at *
        have g1 : decide (1 < s) = false := decide_eq_false g0
        have g2 : decide ((1 : Int) < (s : Int)) = false := decide_eq_false (by omega)
        clear HV h1
        go_wp2_with fail
        go_ret2
        exact ⟨rfl, Lib.hid (fun _ => HR.out), HB.out⟩
      · have HE : Hid (V = .slice none 0 0 ∧ E = 10) := by
          rcases HV.out with ⟨h, _⟩ | ⟨_, h⟩
          · exact absurd h h1
          · exact h
        obtain ⟨rfl, rfl⟩ := HE.out
        have g0 : 1 < sumN ls k := by omega
        generalize sumN ls k = s at *
        have g1 : (1 : Int) < (s : Int) := by omega
        have g2 : decide (1 < s) = true := decide_eq_true g0
        clear HV h1
        go_wp2_with fail
        go_ret2
        exact ⟨rfl, Lib.hid (fun _ => HR.out), HB.out⟩
end Go.Proofs.Ytopjmagbcnglhaa

namespace Go.Proofs.Ytopjmagbcnglhaa
set_option maxRecDepth 100000
open Go.RowKit Go.Deep Go.Joins

theorem nums_inj2 {s t : ByteArray} (h : nums s = nums t) : s = t := by rw [← text_nums s, ← text_nums t, h]
/-- One bit more, behind. -/
theorem tx_snoc (x b : Nat) (hb : b < 2) : ∀ q, tx (2 * x + b) (q + 1) = tx x q ++ text [48 + b]
  | 0 => by
    rw [tx, tx, Nat.pow_zero, Nat.div_one, show (2 * x + b) % 2 = b by omega, tx]
    apply ByteArray.ext
    simp [text]
  | q + 1 => by
    have ih := tx_snoc x b hb q
    have e : (2 * x + b) / 2 ^ (q + 1) = x / 2 ^ q := by
      rw [Nat.pow_succ, Nat.mul_comm (2 ^ q) 2, ← Nat.div_div_eq_div_mul, show (2 * x + b) / 2 = x by omega]
    rw [tx, ih, e, tx, ByteArray.append_assoc]
theorem nums_tx (v : Nat) : ∀ k, nums (tx v (k + 1)) = (48 + v / 2 ^ k % 2) :: nums (tx v k) := fun k => by
  have h : 48 + v / 2 ^ k % 2 < 256 := by omega
  rw [tx]
  unfold nums text
  simp
  omega
/-- Such texts are one and the same only where the numbers are. -/
theorem tx_inj (v v' : Nat) : ∀ k, tx v k = tx v' k → v % 2 ^ k = v' % 2 ^ k
  | 0, _ => by rw [Nat.pow_zero, Nat.mod_one, Nat.mod_one]
  | k + 1, h => by
    have h2 := congrArg nums h
    rw [nums_tx, nums_tx] at h2
    injection h2 with ha hb
    have ih := tx_inj v v' k (nums_inj2 hb)
    rw [Nat.mod_pow_succ, Nat.mod_pow_succ, ih, show v / 2 ^ k % 2 = v' / 2 ^ k % 2 by omega]
theorem tx_mod (v : Nat) : ∀ k m, k ≤ m → tx (v % 2 ^ m) k = tx v k
  | 0, _, _ => rfl
  | k + 1, m, h => by
    have e : v % 2 ^ m / 2 ^ k % 2 = v / 2 ^ k % 2 := by
      obtain ⟨d, rfl⟩ : ∃ d, m = k + 1 + d := ⟨m - (k + 1), by omega⟩
      rw [show 2 ^ (k + 1 + d) = 2 ^ k * (2 * 2 ^ d) by rw [Nat.pow_add, Nat.pow_succ, Nat.mul_assoc], Nat.mod_mul_right_div_self, Nat.mod_mul_right_mod]
    rw [tx, tx_mod v k m (by omega), e, tx]
/-- Two such texts. -/
theorem tx_eq (v v' l l' : Nat) (h : v < 2 ^ l) (h' : v' < 2 ^ l') : tx v l = tx v' l' ↔ l = l' ∧ v = v' := by
  constructor
  · intro e
    have hs := congrArg ByteArray.size e
    rw [tx_size, tx_size] at hs
    subst hs
    refine ⟨rfl, ?_⟩
    have := tx_inj v v' l e
    rwa [Nat.mod_eq_of_lt h, Nat.mod_eq_of_lt h'] at this
  · rintro ⟨rfl, rfl⟩
    rfl

/-- A text's beginning. -/
theorem tx_take_nums (v d : Nat) : ∀ q, (nums (tx v (q + d))).take q = nums (tx (v / 2 ^ d) q)
  | 0 => rfl
  | q + 1 => by
    rw [show q + 1 + d = (q + d) + 1 by omega, nums_tx, nums_tx, List.take_succ_cons, tx_take_nums v d q, Nat.div_div_eq_div_mul, ← Nat.pow_add, Nat.add_comm d q]
theorem nums_cut (T : ByteArray) (n : Nat) : nums (T.extract 0 n) = (nums T).take n := by
  unfold nums
  rw [ByteArray.data_extract, Array.toList_extract, List.extract_eq_take_drop, Nat.sub_zero, List.drop_zero, List.map_take]
theorem tx_cut (v l q : Nat) (h : q ≤ l) : (tx v l).extract 0 q = tx (v / 2 ^ (l - q)) q := by
  apply nums_inj2
  rw [nums_cut]
  have e := tx_take_nums v (l - q) q
  rwa [show q + (l - q) = l by omega] at e
/-- The words' texts: which of them is a given text. -/
theorem tx_word (ls W : Nat → Nat) (n q x : Nat) (hq : x < 2 ^ q) (hW : ∀ i, i < n → W i < 2 ^ ls i) (i : Nat) (hi : i < n) : tx (W i) (ls i) = tx x q ↔ ls i = q ∧ W i = x := tx_eq _ _ _ _ (hW i hi) hq
end Go.Proofs.Ytopjmagbcnglhaa

namespace Go.Proofs.Ytopjmagbcnglhaa
set_option maxRecDepth 100000
open Go.RowKit Go.Joins

/-- The lowest k bits of a number, one by one. -/
def bl (M : Nat) : Nat → List Nat
  | 0 => []
  | k + 1 => bl M k ++ [M / 2 ^ k % 2]
theorem bl_len (M k : Nat) : (bl M k).length = k := by
  induction k with
  | zero => rfl
  | succ k ih => simp [bl, ih]
theorem bl_get (M : Nat) : ∀ k i, i < k → (bl M k)[i]? = some (M / 2 ^ i % 2)
  | 0, i, h => by omega
  | k + 1, i, h => by
    rw [bl]
    by_cases hi : i < k
    · rw [List.getElem?_append_left (by rw [bl_len]; exact hi), bl_get M k i hi]
    · obtain rfl : i = k := by omega
      rw [List.getElem?_append_right (by rw [bl_len]; exact Nat.le_refl _), bl_len]
      simp
theorem bl_mod (M N k : Nat) (h : M % 2 ^ k = N % 2 ^ k) : bl M k = bl N k := by
  induction k with
  | zero => rfl
  | succ k ih =>
    have hk : M % 2 ^ k = N % 2 ^ k := by
      have h1 := congrArg (· % 2 ^ k) h
      simpa [Nat.mod_mod_of_dvd _ (Nat.pow_dvd_pow 2 (Nat.le_succ k))] using h1
    rw [bl, bl, ih hk]
    have h1 := congrArg (· / 2 ^ k) h
    simp only [Nat.pow_succ, Nat.mod_mul_right_div_self] at h1
    rw [h1]
theorem bl_put (M L x : Nat) (hM : M < 2 ^ L) : bl (M + x * 2 ^ L) (L + 1) = bl M L ++ [x % 2] := by
  rw [bl, bl_mod (M + x * 2 ^ L) M L (by rw [Nat.add_mul_mod_self_right]), Nat.add_mul_div_right _ _ (Nat.two_pow_pos L), Nat.div_eq_of_lt hM, Nat.zero_add]

theorem bit_mul (v i : Nat) : v % 2 ^ (i + 1) = v % 2 ^ i + v / 2 ^ i % 2 * 2 ^ i := by rw [Nat.mod_pow_succ, Nat.mul_comm]
theorem step_bits (M L v i : Nat) : M + v % 2 ^ (i + 1) * 2 ^ L = M + v % 2 ^ i * 2 ^ L + v / 2 ^ i % 2 * 2 ^ (L + i) := by
  rw [bit_mul, Nat.add_mul, Nat.add_assoc, Nat.mul_assoc, ← Nat.pow_add, Nat.add_comm i L]
theorem mod_lt_put (M L v i : Nat) (hM : M < 2 ^ L) : M + v % 2 ^ i * 2 ^ L < 2 ^ (L + i) := put_lt M L _ i hM (Nat.mod_lt _ (Nat.two_pow_pos i))

end Go.Proofs.Ytopjmagbcnglhaa

namespace Go.Proofs.Ytopjmagbcnglhaa
set_option maxRecDepth 100000
open Go.RowKit Go.Joins

theorem num_step (s : ByteArray) (k : Nat) (h : k < s.size) : num s % 256 ^ (k + 1) = num s % 256 ^ k + s[k].toNat * 256 ^ k := by
  have hg := numL_get _ (nums_lt s) k _ (nums_get s k h)
  unfold num
  rw [Nat.mod_pow_succ, hg, Nat.mul_comm]
theorem num_all (s : ByteArray) : num s % 256 ^ s.size = num s := Nat.mod_eq_of_lt (by rw [p256]; exact num_lt s)

/-- The bytes so far: one bit more, at a byte's beginning. -/
theorem le_new (M i : Nat) (h8 : i % 8 = 0) : le (M % 2 ^ i) ((i + 7) / 8 + 1) = le (M % 2 ^ i) ((i + 7) / 8) ++ [0] := by
  rw [le]
  have e : i = 8 * ((i + 7) / 8) := by omega
  have hl : M % 2 ^ i < 256 ^ ((i + 7) / 8) := by
    rw [p256, ← e]
    exact Nat.mod_lt _ (Nat.two_pow_pos i)
  rw [Nat.div_eq_of_lt hl]
/-- .. put into the last byte. -/
theorem le_bit (M i : Nat) : le (M % 2 ^ (i + 1)) (i / 8 + 1) = (le (M % 2 ^ i) (i / 8 + 1)).set (i / 8) (M % 2 ^ i / 256 ^ (i / 8) % 256 + M / 2 ^ i % 2 * 2 ^ (i % 8)) ∧
    M % 2 ^ i / 256 ^ (i / 8) % 256 + M / 2 ^ i % 2 * 2 ^ (i % 8) < 256 ∧ M % 2 ^ i / 256 ^ (i / 8) % 256 < 128 := by
  have hb := bit_mul M i
  have e2 : (2 : Nat) ^ i = 256 ^ (i / 8) * 2 ^ (i % 8) := by rw [p256, ← Nat.pow_add, show 8 * (i / 8) + i % 8 = i by omega]
  have hX : M % 2 ^ i < 2 ^ i := Nat.mod_lt _ (Nat.two_pow_pos i)
  have hxl : M % 2 ^ i / 256 ^ (i / 8) < 2 ^ (i % 8) := div_lt _ _ _ (by rw [show 8 * (i / 8) + i % 8 = i by omega]; exact hX)
  have hp : (2 : Nat) ^ (i % 8) ≤ 128 := Nat.pow_le_pow_right (n := 2) (by omega) (show i % 8 ≤ 7 by omega)
  have hbit : M / 2 ^ i % 2 < 2 := Nat.mod_lt _ (by omega)
  generalize M / 2 ^ i % 2 = bt at *
  generalize M % 2 ^ i = X at *
  have hsum : X / 256 ^ (i / 8) + bt * 2 ^ (i % 8) < 256 := by
    have : bt * 2 ^ (i % 8) ≤ 1 * 2 ^ (i % 8) := Nat.mul_le_mul_right _ (by omega)
    omega
  have e3 : bt * (256 ^ (i / 8) * 2 ^ (i % 8)) = 256 ^ (i / 8) * (bt * 2 ^ (i % 8)) := by ac_rfl
  have hd : M % 2 ^ (i + 1) / 256 ^ (i / 8) = X / 256 ^ (i / 8) + bt * 2 ^ (i % 8) := by
    rw [hb, e2, e3, Nat.add_mul_div_left _ _ (Nat.pow_pos (by omega))]
  have hm : X / 256 ^ (i / 8) % 256 = X / 256 ^ (i / 8) := Nat.mod_eq_of_lt (by omega)
  refine ⟨?_, by rw [hm]; exact hsum, by rw [hm]; omega⟩
  have hle : le (M % 2 ^ (i + 1)) (i / 8) = le X (i / 8) := by
    refine le_mod' _ _ _ ?_
    rw [hb, e2, e3, Nat.add_mul_mod_self_left]
  rw [le, le, hle, hd, hm, Nat.mod_eq_of_lt hsum]
  rw [List.set_append_right _ _ (by rw [le_len]; exact Nat.le_refl _), le_len]
  simp
theorem cells8_set (l : List Nat) (j x : Nat) : cells8 (l.set j x) = (cells8 l).set j (.int .u8 (x : Nat)) := by unfold cells8; rw [List.map_set]
theorem le_get (M k j : Nat) (h : j < k) : (le M k)[j]? = some (M / 256 ^ j % 256) := by
  have hg : (le M k)[j]? = some ((le M k)[j]'(by rw [le_len]; exact h)) := List.getElem?_eq_getElem (by rw [le_len]; exact h)
  rw [hg]
  have h1 := numL_get _ (le_lt M k) j _ hg
  rw [numL_le] at h1
  rw [← h1]
  congr 1
  have e : (256 : Nat) ^ k = 256 ^ j * 256 ^ (k - j - 1 + 1) := by rw [← Nat.pow_add, show j + (k - j - 1 + 1) = k by omega]
  rw [e, Nat.mod_mul_right_div_self, Nat.pow_succ', Nat.mod_mul_right_mod]

end Go.Proofs.Ytopjmagbcnglhaa

namespace Go.Proofs.Ytopjmagbcnglhaa
set_option maxRecDepth 100000
open Go.RowKit Go.Deep Go.Joins

theorem tx_get (v : Nat) : ∀ l i, i < l → (nums (tx v l))[i]? = some (48 + v / 2 ^ (l - 1 - i) % 2)
  | 0, i, h => by omega
  | l + 1, 0, _ => by rw [nums_tx]; rfl
  | l + 1, i + 1, h => by
    rw [nums_tx, List.getElem?_cons_succ, tx_get v l i (by omega), show l + 1 - 1 - (i + 1) = l - 1 - i by omega]
theorem tx_at (v l i : Nat) (h : i < (tx v l).size) : (tx v l)[i].toNat = 48 + v / 2 ^ (l - 1 - i) % 2 := by
  have h2 := h
  rw [tx_size] at h2
  have e := nums_get (tx v l) i h
  rw [tx_get v l i h2] at e
  injection e with e
  exact e.symm
theorem rev_at (v l i : Nat) (h : i < l) : rev v l / 2 ^ i % 2 = v / 2 ^ (l - 1 - i) % 2 := by
  have e := rev_bit v l i
  rw [decide_eq_true h, Bool.true_and, Nat.testBit_eq_decide_div_mod_eq, Nat.testBit_eq_decide_div_mod_eq] at e
  have e2 := decide_eq_decide.1 e
  omega

end Go.Proofs.Ytopjmagbcnglhaa

namespace Go.Proofs.Ytopjmagbcnglhaa
set_option maxRecDepth 100000
open Go.RowKit Go.Joins

theorem rbit_any (s : ByteArray) (a : Nat) (hs : s.size ≤ 1000000) (ha : a < 8 * s.size) (w : World) :
    Calls Try.prog 67 #[.string s, .int .i64 a] w fun r w' => r = .returned (.int .u32 (bitsAt (num s) a 1 : Nat)) ∧ w = w' := by
  have h8 : a / 8 < s.size := by omega
  have HB := Lib.hid (bit_of_byte s a h8)
  have hq : (a : Int).tdiv 8 = (a / 8 : Nat) := by rw [Int.tdiv_eq_ediv_of_nonneg (by omega)]; omega
  have hm : (a : Int).tmod 8 = (a % 8 : Nat) := by rw [Int.tmod_eq_emod_of_nonneg (by omega)]; omega
  have hr : a % 8 < 8 := Nat.mod_lt _ (by omega)
  have hx := s[a / 8].toNat_lt
  generalize hxx : s[a / 8].toNat = x at *
  have HX := Lib.hid hxx
  generalize a / 8 = q at *
  generalize a % 8 = r at *
  have hxx : s[q].toNat = x := HX.out
  go_enter Try.func67, Try.ntmps67
  go_wp2
  go_loop [5, 6] (fun b i => ∃ k : Nat, k ≤ r ∧ i = .int .i64 k ∧ b = .int .i64 (x / 2 ^ k : Nat)) (fun _ i => r - (intOf i).toNat)
  case atStart => exact ⟨0, Nat.zero_le _, rfl, by simp⟩
  case round =>
    obtain ⟨k, hk, rfl, rfl⟩ := hrel
    have hy : x / 2 ^ k < 256 := Nat.lt_of_le_of_lt (Nat.div_le_self _ _) hx
    have HS : Hid (x / 2 ^ k / 2 = x / 2 ^ (k + 1)) := by show _ = _; rw [Nat.div_div_eq_div_mul, Nat.pow_succ]
    by_cases hlt : k < r
    · generalize x / 2 ^ k = y at *
      have hd : (y : Int).tdiv 2 = (y / 2 : Nat) := by rw [Int.tdiv_eq_ediv_of_nonneg (by omega)]; omega
      go_wp2
      go_round
      case rel => exact ⟨k + 1, by omega, by go_num, by rw [← HS.out]; go_num⟩
      case measure => simp [intOf]; omega
    · obtain rfl : k = r := by omega
      generalize hyy : x / 2 ^ k = y at *
      have HY := Lib.hid hyy
      have hd : (y : Int).tmod 2 = (y % 2 : Nat) := by rw [Int.tmod_eq_emod_of_nonneg (by omega)]; omega
      clear hyy
      go_wp2
      go_ret
      exact ⟨ret_eq (by rw [← HB.out]; go_num), rfl⟩

theorem rnumber_any (g : Nat) (s : ByteArray) (a e m : Nat) (hs : s.size ≤ 1000000) (ha : a + m ≤ 8 * s.size) (hm : m ≤ 32) (w : World) (hc : Rd 61 w g s a e) :
    Calls Try.prog 65 #[.pointer (some ⟨g, 0, none⟩), .int .i64 m] w fun r w' => r = .returned (.int .u32 (bitsAt (num s) a m : Nat)) ∧ ∃ d, w' = w.drewN d := by
  have c0 := hc.c0
  have c1 := hc.c1
  clear hc
  have HBit := Lib.hid (fun k (hk : k < m) w => rbit_any s (a + k) hs (by omega) w)
  have HV := Lib.hid (fun k => bitsAt_succ (num s) a k)
  have HVl := Lib.hid (fun k (hk : k ≤ 32) => bitsAt_lt32 (num s) a k hk)
  have HVp := Lib.hid (fun k => bitsAt_lt (num s) a k)
  have HV0 := Lib.hid (bitsAt_zero (num s) a)
  have HB1 := Lib.hid (fun k => bitsAt_lt (num s) (a + k) 1)
  go_enter Try.func65, Try.ntmps65
  go_wp2
  go_loopw [5, 6, 7] (fun v x i wr => ∃ k d : Nat, k ≤ m ∧ i = .int .i64 k ∧ v = .int .u32 (bitsAt (num s) a k : Nat) ∧ x = .int .u32 (2 ^ k % 4294967296 : Nat) ∧ wr = w.drewN d) (fun _ _ i _ => m - (intOf i).toNat)
  case atStart => exact ⟨0, 0, Nat.zero_le _, rfl, by rw [HV0.out]; rfl, rfl, rfl⟩
  case round =>
    obtain ⟨k, d, hk, rfl, rfl, rfl, hwd⟩ := hrel
    have c0' : wr.cell? ⟨g, 0, none⟩ = some (.string s) := by rw [hwd]; exact c0
    have c1' : wr.cell? ⟨g, 1, none⟩ = some (.int .i64 a) := by rw [hwd]; exact c1
    have HWD := Lib.hid hwd
    clear hwd
    by_cases hlt : k < m
    · have hak : IntKind.i64.wrap ((a : Int) + (k : Int)) = (a : Int) + (k : Int) := by rw [IntKind.wrap_i64]; omega
      have hb := HBit.out k hlt
      have hv := HV.out k
      have hvl := HVl.out (k + 1) (by omega)
      have hvk := HVl.out k (by omega)
      have hb1 := HB1.out k
      have hp : 2 ^ k % 4294967296 = 2 ^ k := Nat.mod_eq_of_lt (Nat.lt_of_le_of_lt (Nat.pow_le_pow_right (n := 2) (by omega) (show k ≤ 31 by omega)) (by decide))
      have hp2 : 2 ^ k ≤ 2147483648 := Nat.pow_le_pow_right (n := 2) (by omega) (show k ≤ 31 by omega)
      have hn : 2 ^ (k + 1) % 4294967296 = 2 ^ k * 2 % 4294967296 := by rw [Nat.pow_succ]
      rw [hp]
      rw [hv] at hvl
      have HN := Lib.hid hn
      have HVK := Lib.hid hv
      clear hp hn hv
      generalize bitsAt (num s) a k = V at *
      generalize bitsAt (num s) (a + k) 1 = b at *
      generalize 2 ^ k = p at *
      have hbb : b = 0 ∨ b = 1 := by omega
      obtain ⟨t, htt, htl⟩ : ∃ t, p * b = t ∧ V + t < 4294967296 := ⟨p * b, rfl, hvl⟩
      have ht1 : ((p : Int) * (b : Int)) = (t : Int) := by rw [← htt]; simp
      have ht2 : (t : Int) % 4294967296 = t := by omega
      have ht3 : ((V : Int) + (t : Int)) % 4294967296 = (V : Int) + (t : Int) := by omega
      have HTT := Lib.hid htt
      have HBC := Lib.hid hb
      clear hb hbb hvl htt
      go_wp2
      go_quiet ((go_at_call 67; exact Calls.quiet_of_same ((HBC.out _).mono fun _ _ h => ⟨h.1, h.2.symm⟩)))
      go_wp2
      go_roundw
      case rel => exact ⟨k + 1, d + nq, by omega, by go_num, by rw [HVK.out, HTT.out]; rfl, by rw [HN.out]; rfl, by rw [HWD.out, World.drewN_drewN]⟩
      case measure => simp [intOf]; omega
    · obtain rfl : k = m := by omega
      go_wp2
      go_ret
      exact ⟨rfl, _, HWD.out⟩

theorem rread_any (g : Nat) (s : ByteArray) (a e : Nat) (n : Int) (hs : s.size ≤ 1000000) (ha : a ≤ 8 * s.size) (w : World) (hc : Rd 61 w g s a e) :
    Calls Try.prog 48 #[.pointer (some ⟨g, 0, none⟩), .int .i64 n] w fun r w' => r = .returned (.int .u32 (bitsAt (num s) a (readM s a e n) : Nat)) ∧ Rd 61 w' g s (a + readM s a e n) (readE s a e n) ∧ w.grownBy w' (some g) := by
  have HC := Lib.hid hc
  have c0 := hc.c0
  have c1 := hc.c1
  have c2 := hc.c2
  have f1 := hc.fr 1
  have f2 := hc.fr 2
  by_cases he : e = 0
  · subst he
    by_cases h0 : n < 0 ∨ 32 < n
    · have HM : Hid (readM s a 0 n = 0) := if_neg (by omega)
      have HE : Hid (readE s a 0 n = 2) := by
        show _ = _
        unfold readE
        rw [if_neg (by omega), if_pos h0]
      clear hc
      rcases h0 with h0 | h0
      · go_enter Try.func48, Try.ntmps48
        go_wp2
        go_ret
        rw [HM.out, HE.out, bitsAt_zero, Nat.add_zero]
        exact ⟨rfl, HC.out.setErr 2, grown_set _ g 2 _⟩
      · go_enter Try.func48, Try.ntmps48
        go_wp2
        go_ret
        rw [HM.out, HE.out, bitsAt_zero, Nat.add_zero]
        exact ⟨rfl, HC.out.setErr 2, grown_set _ g 2 _⟩
    · obtain ⟨m, rfl⟩ := Int.eq_ofNat_of_zero_le (show 0 ≤ n by omega)
      have h32 : m ≤ 32 := by omega
      have h0' : decide ((m : Int) < 0) = false := decide_eq_false (by omega)
      by_cases hl : m ≤ 8 * s.size - a
      · have HM : Hid (readM s a 0 (m : Nat) = m) := if_pos ⟨rfl, by omega, by omega, by omega⟩
        have HE : Hid (readE s a 0 (m : Nat) = 0) := by
          show _ = _
          unfold readE
          rw [if_neg (by omega), if_neg (by omega), if_pos (by omega)]
        have hd : decide ((8 : Int) * s.size - a < m) = false := decide_eq_false (by omega)
        have HN := Lib.hid (fun d => rnumber_any g s a 0 m hs (by omega) h32 (w.drewN d) (hc.drewN d))
        clear hc h0
        go_enter Try.func48, Try.ntmps48
        go_wp2
        go_quiet (fail)
        go_wp2_with (go_at_call 65; refine (HN.out _).mono ?_; rintro r w' ⟨rfl, d, rfl⟩)
        go_ret
        rw [HM.out, HE.out]
        refine ⟨rfl, ?_, grown_then (grown_drewN w (nq + d) _) (grown_set _ g 1 _)⟩
        exact (HC.out.drewN (nq + d)).setAt (a + m)
      · have HM : Hid (readM s a 0 (m : Nat) = 0) := if_neg (by omega)
        have HE : Hid (readE s a 0 (m : Nat) = 3) := by
          show _ = _
          unfold readE
          rw [if_neg (by omega), if_neg (by omega), if_neg (by omega)]
        have hd : decide ((8 : Int) * s.size - a < m) = true := decide_eq_true (by omega)
        clear hc h0
        go_enter Try.func48, Try.ntmps48
        go_wp2
        go_quiet (fail)
        go_wp2
        go_ret
        rw [HM.out, HE.out, bitsAt_zero, Nat.add_zero]
        refine ⟨rfl, ?_, grown_then (grown_drewN w nq _) (grown_set _ g 2 _)⟩
        exact (HC.out.drewN nq).setErr 3
  · have HM : Hid (readM s a e n = 0) := if_neg (by omega)
    have HE : Hid (readE s a e n = e) := if_pos he
    have he' : ((e : Int) == 0) = false := by rw [beq_eq_false_iff_ne]; omega
    clear hc he
    go_enter Try.func48, Try.ntmps48
    go_wp2
    go_ret
    rw [HM.out, HE.out, bitsAt_zero, Nat.add_zero]
    exact ⟨rfl, HC.out, World.grownBy.refl _ _⟩
end Go.Proofs.Ytopjmagbcnglhaa

namespace Go.Proofs.Ytopjmagbcnglhaa
set_option maxRecDepth 100000
open Go.RowKit Go.Deep Go.Joins

/-- No word of at most so many bits stands next. -/
def NoW (ls W : Nat → Nat) (n v k : Nat) : Prop := ∀ i, i < n → 1 ≤ ls i → ls i ≤ k → W i ≠ rev v (ls i)
/-- Some word begins with so many bits that stand next. -/
def Begins (ls W : Nat → Nat) (n v q : Nat) : Prop := ∃ i, i < n ∧ q < ls i ∧ W i / 2 ^ (ls i - q) = rev v q
/-- What the document's Sign answers. -/
def DSign (ls W : Nat → Nat) (n v many : Nat) (x : Int) (e l : Nat) : Prop :=
  (∃ i : Nat, x = (i : Nat) ∧ e = 0 ∧ i < n ∧ ls i = l ∧ 1 ≤ l ∧ l ≤ many ∧ W i = rev v l ∧ NoW ls W n v (l - 1)) ∨
  (x = -1 ∧ e = 3 ∧ l = 0 ∧ many ≤ 15 ∧ NoW ls W n v many ∧ Begins ls W n v many) ∨
  (x = -1 ∧ e = 10 ∧ l = 0 ∧ ((many ≤ 15 ∧ NoW ls W n v many ∧ ¬ Begins ls W n v many) ∨ (15 < many ∧ NoW ls W n v 15)))
theorem rev_next (v q b : Nat) (h : v / 2 ^ q % 2 = b) : rev v (q + 1) = 2 * rev v q + b := by
  have e1 : rev v (q + 1) = rev v q * 2 + v / 2 ^ q % 2 := rfl
  omega
theorem tx_next (v q b : Nat) (hb : b < 2) (h : v / 2 ^ q % 2 = b) : tx (rev v (q + 1)) (q + 1) = tx (rev v q) q ++ text [48 + b] := by
  rw [rev_next v q b h, tx_snoc _ _ hb]
/-- A text's length, behind a name (a match in a measure is taken apart by the walk). -/
def szOf (v : Value) : Nat := match v with | .string b => b.size | _ => 0
theorem szOf_str (b : ByteArray) : szOf (.string b) = b.size := rfl
theorem tx_ne {T1 T : ByteArray} (h : T1 ≠ T) : (T1.toList == T.toList) = false := by
  rw [beq_eq_false_iff_ne, Lib.toList_data, Lib.toList_data]
  intro e
  exact h (ByteArray.ext (Array.toList_inj.1 e))
theorem one_drew (w : World) (y : Nat) (hy : y < 256) (d : Nat) : (convert 29 9 (.slice (some ⟨w.heap.size, 0, none⟩) 1 1)).run Try.prog ((w.alloc (.cells #[.int .u8 (y : Nat)] 5)).drewN d) = .ok (.string (text [y])) ((w.alloc (.cells #[.int .u8 (y : Nat)] 5)).drewN d) :=
  run_convert_bytes_back (P := Try.prog) _ 29 9 5 ⟨w.heap.size, 0, none⟩ 1 [UInt8.ofNat y] Try.underlying29 Try.underlying5 Try.underlying9 (fun j hj => by
    obtain rfl : j = 0 := by simpa using hj
    rw [Addr.add_lit, World.cell?_drewN, cell_of_row _ _ _ _ _ _ (heap_alloc_new w _)]
    have : (UInt8.ofNat y).toNat = y := Nat.mod_eq_of_lt hy
    simp [this])

/-- What becomes of the document's Sign. -/
def SignOut (ls W : Nat → Nat) (n v many gr a : Nat) (s : ByteArray) (w : World) (e : Ending) (w' : World) : Prop :=
  ∃ (x : Int) (k l : Nat), e = .returned (.tuple #[.int .i64 x, .int .i64 k]) ∧ DSign ls W n v many x k l ∧ Rd 61 w' gr s (a + l) 0 ∧ w.grownBy w' (some gr)
end Go.Proofs.Ytopjmagbcnglhaa
