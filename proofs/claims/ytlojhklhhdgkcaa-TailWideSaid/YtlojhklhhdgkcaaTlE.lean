/-
  Contracts of package tail: last.
-/
import Derived.Test.YtlojhklhhdgkcaaTlB
import Derived.Test.YtlojhklhhdgkcaaHdF
import Derived.Test.YtlojhklhhdgkcaaShelf
import Derived.Lib.MinMax
namespace Go.Proofs.Ytlojhklhhdgkcaa
set_option maxRecDepth 100000
set_option linter.unusedSimpArgs false
set_option linter.unusedVariables false
open Go.RowKit Go.Joins Go.Deep Go.Op
/-- Does an end record stand there whose comment ends where the bytes do? -/
def isEnd (s : ByteArray) (a : Nat) : Bool := decide (nAt s a 4 = 101010256) && decide (nAt s (a + 20) 2 = s.size - 22 - a)
def seekE (s : ByteArray) : Nat → Option Nat
  | 0 => none
  | k + 1 => if isEnd s k = true then some k else seekE s k
theorem seekE_some (s : ByteArray) : ∀ (k a : Nat), seekE s k = some a → a < k ∧ isEnd s a = true
  | 0, a, h => by cases h
  | k + 1, a, h => by
    unfold seekE at h
    split at h
    · cases h
      rename_i hk
      exact ⟨Nat.lt_succ_self _, hk⟩
    · obtain ⟨h1, h2⟩ := seekE_some s k a h
      exact ⟨by omega, h2⟩
/-- Where the last one stands. -/
def lastE (s : ByteArray) : Option Nat := if 22 ≤ s.size then seekE s (s.size - 21) else none
def lastI (s : ByteArray) : Int := match lastE s with | some a => (a : Int) | none => -1
theorem nAt_ext (s : ByteArray) (a b k : Nat) (h : k ≤ b - a) : nAt (s.extract a b) 0 k = nAt s a k := by
  unfold nAt
  rw [nums_ext', List.drop_zero, List.take_take, Nat.min_eq_left h]
theorem nAt_from (s : ByteArray) (a c k : Nat) : nAt (s.extract a s.size) c k = nAt s (a + c) k := by
  unfold nAt
  rw [nums_ext', List.drop_take, List.drop_drop, List.take_take]
  by_cases h : k ≤ s.size - a - c
  · rw [Nat.min_eq_left h]
  · rw [Nat.min_eq_right (by omega), List.take_of_length_le (by rw [List.length_drop, nums_len]; omega), List.take_of_length_le (by rw [List.length_drop, nums_len]; omega)]
theorem pre_end (s : ByteArray) (a : Nat) (h : a + 4 ≤ s.size) : (([80, 75, 5, 6] : List UInt8).isPrefixOf (s.extract a s.size).data.toList) = decide (nAt s a 4 = 101010256) := by
  have hd : (s.extract a s.size).data.toList = s.data.toList.drop a := by
    rw [ByteArray.data_extract, Array.toList_extract, List.extract_eq_take_drop]
    exact List.take_of_length_le (by rw [List.length_drop]; show _ ≤ _; rw [show s.data.toList.length = s.size from rfl]; exact Nat.le_refl _)
  have hn : ((nums s).drop a).take 4 = ((s.data.toList.drop a).take 4).map UInt8.toNat := by unfold nums; rw [List.map_take, List.map_drop]
  have hl : 4 ≤ (s.data.toList.drop a).length := by rw [List.length_drop]; have : s.data.toList.length = s.size := rfl; omega
  rw [hd]
  unfold nAt
  rw [hn]
  match s.data.toList.drop a, hl with
  | x0 :: x1 :: x2 :: x3 :: r, _ =>
    have b0 := x0.toNat_lt; have b1 := x1.toNat_lt; have b2 := x2.toNat_lt; have b3 := x3.toNat_lt
    rw [Bool.eq_iff_iff, decide_eq_true_iff]
    simp only [List.isPrefixOf, Bool.and_eq_true, beq_iff_eq, List.take_succ_cons, List.take_zero, List.map_cons, List.map_nil, numL, and_true]
    constructor
    · rintro ⟨rfl, rfl, rfl, rfl⟩
      rfl
    · intro h
      refine ⟨UInt8.toNat_inj.1 ?_, UInt8.toNat_inj.1 ?_, UInt8.toNat_inj.1 ?_, UInt8.toNat_inj.1 ?_⟩ <;> simp <;> omega
theorem lastI_yes {s : ByteArray} (h : 22 ≤ s.size) : lastI s = match seekE s (s.size - 21) with | some a => (a : Int) | none => -1 := by
  unfold lastI lastE
  rw [if_pos h]
set_option maxHeartbeats 4000000 in
theorem last_any (s : ByteArray) (hs : s.size ≤ 60000) (w : World) :
    Calls Try.prog 10 #[.string s] w fun e w' => e = .returned (.int .i64 (lastI s)) ∧ w = w' := by
  have hmax : max (0 : Int) ((s.size : Int) - 22 - 65535) = 0 := by omega
  by_cases h22 : 22 ≤ s.size
  · have HL := Lib.hid (lastI_yes h22)
    have HPRE := Lib.hid (fun a h => pre_end s a h)
    have HNUM := Lib.hid (fun a => nAt_ext s (a + 20) (a + 22) 2 (by omega))
    have HSK := Lib.hid (fun k => show seekE s (k + 1) = if isEnd s k = true then some k else seekE s k from rfl)
    have HIE := Lib.hid (fun k => show isEnd s k = (decide (nAt s k 4 = 101010256) && decide (nAt s (k + 20) 2 = s.size - 22 - k)) from rfl)
    have HLT := Lib.hid (fun k => nAt_lt s (k + 20) 2)
    go_enter Try.func10, Try.ntmps10
    go_wp2
    go_loop [4] (fun v => ∃ k : Nat, k ≤ s.size - 21 ∧ v = .int .i64 ((k : Int) - 1) ∧ seekE s (s.size - 21) = seekE s k) (fun v => (intOf v + 1).toNat)
    case atStart => exact ⟨s.size - 21, Nat.le_refl _, by rw [show (((s.size - 21 : Nat) : Int) - 1) = (s.size : Int) - 22 by omega], rfl⟩
    case round =>
      obtain ⟨k, hk, rfl, hsk⟩ := hrel
      have HK := Lib.hid hsk
      clear hsk
      by_cases h0 : k = 0
      · subst h0
        rw [show (((0 : Nat) : Int) - 1) = -1 from rfl]
        go_wp2_with fail
        go_ret
        rw [HL.out, HK.out]
        exact ⟨rfl, rfl⟩
      · obtain ⟨a, rfl⟩ : ∃ a, k = a + 1 := ⟨k - 1, by omega⟩
        rw [show (((a + 1 : Nat) : Int) - 1) = (a : Int) from by omega]
        have hpre := HPRE.out a (by omega)
        have hie := HIE.out a
        have hlt := HLT.out a
        have hsk := HSK.out a
        have hnum := HNUM.out a
        have hsz : (s.extract (a + 20) (a + 22)).size ≤ 8 := by rw [ByteArray.size_extract]; omega
        have HN := Lib.hid (fun w => number_any _ hsz w)
        have hnn : numL (nums (s.extract (a + 20) (a + 22))) = nAt s (a + 20) 2 := by
          rw [nums_ext']
          show numL (((nums s).drop (a + 20)).take (a + 22 - (a + 20))) = _
          rw [show a + 22 - (a + 20) = 2 by omega]
          rfl
        rw [hnn] at HN
        have HPX := Lib.hid (fun w => sh_strings_HasPrefix (s.extract a s.size) ⟨#[80, 75, 5, 6]⟩ w)
        rw [show Lib.hasPrefix (s.extract a s.size).data.toList (⟨#[80, 75, 5, 6]⟩ : ByteArray).data.toList = decide (nAt s a 4 = 101010256) from hpre] at HPX
        generalize nAt s (a + 20) 2 = N at *
        generalize decide (nAt s a 4 = 101010256) = P at *
        have HIE1 := Lib.hid hie
        have HSK1 := Lib.hid hsk
        have HK1 := Lib.hid HK.out
        clear hie hsk hpre hnum hnn hsz HIE HSK HPRE HNUM HK HLT
        go_wp2_with fail
        refine (HPX.out _).mono ?_; rintro r w1 ⟨rfl, rfl⟩
        cases P with
        | false =>
          have hf : isEnd s a = false := by rw [HIE1.out]; rfl
          have HS2 : Hid (seekE s (s.size - 21) = seekE s a) := by show _ = _; rw [HK1.out, HSK1.out, if_neg (by rw [hf]; decide)]
          clear hf
          go_wp2_with fail
          go_round
          case rel => exact ⟨a, by omega, by go_num, HS2.out⟩
          case measure => (simp [intOf]) <;> omega
        | true =>
          have hq : IntKind.i64.wrap (N : Int) = N := by rw [IntKind.wrap_i64]; omega
          by_cases hn : N = s.size - 22 - a
          · have hnd : ((N : Int) == (s.size : Int) - 22 - (a : Int)) = true := by rw [beq_iff_eq]; omega
            have ht : isEnd s a = true := by rw [HIE1.out, decide_eq_true hn]; rfl
            have HA : Hid (lastI s = (a : Int)) := by show _ = _; rw [HL.out, HK1.out, HSK1.out, if_pos ht]
            have hnn : ((s.size : Int) - 22 - (a : Int)) = (N : Int) := by omega
            clear ht hn
            go_wp2_with fail
            refine (HN.out _).mono ?_; rintro r w1 ⟨rfl, rfl⟩
            go_wp2_with fail
            go_ret
            rw [HA.out]
            exact ⟨rfl, rfl⟩
          · have hnd : ((N : Int) == (s.size : Int) - 22 - (a : Int)) = false := by rw [beq_eq_false_iff_ne]; omega
            have hf : isEnd s a = false := by rw [HIE1.out, decide_eq_false hn]; rfl
            have HS2 : Hid (seekE s (s.size - 21) = seekE s a) := by show _ = _; rw [HK1.out, HSK1.out, if_neg (by rw [hf]; decide)]
            have hnn : ¬ (N : Int) = (s.size : Int) - 22 - (a : Int) := by omega
            clear hf
            go_wp2_with fail
            refine (HN.out _).mono ?_; rintro r w1 ⟨rfl, rfl⟩
            go_wp2_with fail
            go_round
            case rel => exact ⟨a, by omega, by go_num, HS2.out⟩
            case measure => (simp [intOf]) <;> omega
  · have HL : Hid (lastI s = -1) := by
      show _ = _
      unfold lastI lastE
      rw [if_neg h22]
    go_enter Try.func10, Try.ntmps10
    go_wp2
    go_loop [4] (fun v => v = .int .i64 ((s.size : Int) - 22)) (fun _ => 0)
    case atStart => rfl
    case round =>
      obtain rfl := hrel
      have hneg : (s.size : Int) - 22 < 0 := by omega
      have hnd : decide ((0 : Int) ≤ (s.size : Int) - 22) = false := decide_eq_false (by omega)
      go_wp2_with fail
      go_ret
      rw [HL.out]
      exact ⟨rfl, rfl⟩
end Go.Proofs.Ytlojhklhhdgkcaa
