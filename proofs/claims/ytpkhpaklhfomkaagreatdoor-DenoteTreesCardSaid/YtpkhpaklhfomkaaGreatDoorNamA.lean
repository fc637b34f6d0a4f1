/-
  Contract: strays.
-/
import Derived.Test.YtpkhpaklhfomkaaGreatDoorNamU
import Derived.Test.YtpkhpaklhfomkaaGreatDoorShelf
namespace Go.Proofs.YtpkhpaklhfomkaaGreatDoor
set_option maxRecDepth 100000
open Go.RowKit Go.Deep Go.Joins

/-- The text of U+FFFD ahead. -/
theorem prefix_fffd (s : ByteArray) (i : Nat) (h : i < s.size) (he : (Utf8.decode s i).1 = 65533) :
    Lib.hasPrefix (s.extract i s.size).data.toList [239, 191, 189] = !strayAt s i := by
  have hd := Lib.decode_at s i
  rw [hd] at he
  have hx := fffd _ _ _ _ _ (byte_lt s i) (byte_lt s (i + 1)) (byte_lt s (i + 2)) (byte_lt s (i + 3)) he
  unfold strayAt
  rw [hd]
  rw [Lib.extract_to_end]
  have g : ∀ k, i + k < s.size → s.data.toList[i + k]? = some (s.get! (i + k)) := fun k hk => by
    rw [Array.getElem?_toList, Array.getElem?_eq_getElem hk]
    exact congrArg some (get_at s (i + k) hk).symm
  generalize Lib.decodeN (s.size - i) (s.get! i).toNat (s.get! (i + 1)).toNat (s.get! (i + 2)).toNat (s.get! (i + 3)).toNat = D at *
  obtain ⟨r, k⟩ := D
  simp only at he hx
  subst he
  have hp : Lib.hasPrefix (s.data.toList.drop i) [239, 191, 189] = true ↔ 2 < s.size - i ∧ (s.get! i).toNat = 239 ∧ (s.get! (i + 1)).toNat = 191 ∧ (s.get! (i + 2)).toNat = 189 := by
    unfold Lib.hasPrefix
    rw [List.isPrefixOf_iff_prefix]
    have hlen : s.data.toList.length = s.size := by rw [Lib.size_eq]
    constructor
    · intro hpre
      obtain ⟨t, ht⟩ := hpre
      have hl := congrArg List.length ht
      simp only [List.length_append, List.length_cons, List.length_nil, List.length_drop, hlen] at hl
      have e : ∀ k, (s.data.toList.drop i)[k]? = s.data.toList[i + k]? := fun k => by rw [List.getElem?_drop]
      have e0 := e 0
      have e1 := e 1
      have e2 := e 2
      rw [← ht, g _ (by omega)] at e0 e1 e2
      simp at e0 e1 e2
      refine ⟨by omega, ?_, ?_, ?_⟩
      · rw [← e0]; rfl
      · rw [← e1]; rfl
      · rw [← e2]; rfl
    · rintro ⟨h2, a0, a1, a2⟩
      have b0 : s.get! i = 239 := UInt8.toNat_inj.1 a0
      have b1 : s.get! (i + 1) = 191 := UInt8.toNat_inj.1 a1
      have b2 : s.get! (i + 2) = 189 := UInt8.toNat_inj.1 a2
      refine ⟨s.data.toList.drop (i + 3), ?_⟩
      apply List.ext_getElem?
      intro k
      rw [List.getElem?_drop]
      rcases k with _ | _ | _ | k
      · rw [g 0 (by omega), show s.get! (i + 0) = 239 from b0]; rfl
      · rw [g 1 (by omega), b1]; rfl
      · rw [g 2 (by omega), b2]; rfl
      · rw [show i + (k + 1 + 1 + 1) = i + 3 + k by omega, ← List.getElem?_drop (i := i + 3)]; rfl
  rcases hx with ⟨hk, hn⟩ | ⟨hk, hy⟩
  · have hk1 : k = 1 := hk
    subst hk1
    have : Lib.hasPrefix (s.data.toList.drop i) [239, 191, 189] = false := by
      rw [Bool.eq_false_iff]
      exact fun h2 => hn (hp.1 h2)
    rw [this]
    simp
  · have hk3 : k = 3 := hk
    subst hk3
    rw [hp.2 hy]
    simp

theorem below_iter (w : World) (s : ByteArray) (pos : Nat) : Below w.heap.size w (w.iter s pos) := (Below.refl _ _).alloc (Nat.le_refl _) _
set_option maxHeartbeats 4000000 in
theorem strays_any (s : ByteArray) (w : World) :
    Calls Tryz.prog 175 #[.string s] w fun e w' => e = .returned (.bool (straysB s)) ∧ Below w.heap.size w w' := by
  go_enter Tryz.func175, Tryz.ntmps175
  go_wp2_with fail
  go_loopw [] (fun wr => ∃ (pos f : Nat), wr = w.iter s pos ∧ Hid (strayF s f pos = straysB s) ∧ s.size ≤ pos + f) (fun wr => s.size - wr.iterPos w.heap.size)
  case atStart => exact ⟨0, s.size, rfl, rfl, by omega⟩
  case round =>
    obtain ⟨pos, f, rfl, HC, hb⟩ := hrel
    by_cases hp : pos < s.size
    · have hnx : ∀ ty, (Instr.next (.pointer (some ⟨w.heap.size, 0, none⟩)) true ty).run Tryz.prog (w.iter s pos) = _ := fun ty => run_next_any w s pos ty hp
      have hwd := decode_pos s pos hp
      have HP := Lib.hid (fun he => prefix_fffd s pos hp he)
      have HN : Hid (∃ f', f = f' + 1 ∧ (strayAt s pos = true → straysB s = true) ∧ (strayAt s pos = false → strayF s f' (pos + (Utf8.decode s pos).2) = straysB s)) := by
        cases f with
        | zero => exact absurd hb (by omega)
        | succ f =>
          refine ⟨f, rfl, fun h => ?_, fun h => ?_⟩
          · have := HC.out; rw [strayF, if_pos hp, if_pos h] at this; exact this.symm
          · have := HC.out; rw [strayF, if_pos hp, if_neg (by rw [h]; decide)] at this; exact this
      have HST : Hid ((Utf8.decode s pos).1 ≠ 65533 → strayAt s pos = false) := fun h => by
        unfold strayAt
        exact decide_eq_false (fun e => h (by rw [e]))
      generalize hD : Utf8.decode s pos = D at *
      have HD := Lib.hid hD
      clear hD
      obtain ⟨r, k⟩ := D
      simp only at hwd hnx HP HN HST
      clear HC
      by_cases hr : r = 65533
      · subst hr
        have HPF := Lib.hid (HP.out rfl)
        have hr1 : ((65533 : Nat) : Int) = 65533 := rfl
        cases hst : strayAt s pos with
        | true =>
          rw [hst] at HPF HN
          have HX := Lib.hid (HN.out)
          clear HN hst
          go_wp2_with fail
          refine (sh_strings_HasPrefix _ _ _).mono ?_
          rintro e w1 ⟨rfl, rfl⟩
          rw [HPF.out]
          go_wp2
          go_ret
          obtain ⟨f', _, h1, _⟩ := HX.out
          rw [h1 (by simp)]
          exact ⟨rfl, below_iter _ _ _⟩
        | false =>
          rw [hst] at HPF HN
          have HX := Lib.hid (HN.out)
          clear HN hst
          go_wp2_with fail
          refine (sh_strings_HasPrefix _ _ _).mono ?_
          rintro e w1 ⟨rfl, rfl⟩
          rw [HPF.out]
          go_wp2
          go_roundw
          case rel =>
            obtain ⟨f', hf, _, h2⟩ := HX.out
            exact ⟨pos + k, f', rfl, h2 (by simp), by omega⟩
          case measure => simp; omega
      · have hr2 : ((r : Int) == 65533) = false := by rw [beq_eq_false_iff_ne]; omega
        have HX := Lib.hid (HN.out)
        have HS := Lib.hid (HST.out hr)
        clear HN hr
        go_wp2_with fail
        go_roundw
        case rel =>
          obtain ⟨f', hf, _, h2⟩ := HX.out
          exact ⟨pos + k, f', rfl, h2 HS.out, by omega⟩
        case measure => simp; omega
    · have hnx : ∀ ty, (Instr.next (.pointer (some ⟨w.heap.size, 0, none⟩)) true ty).run Tryz.prog (w.iter s pos) = _ := fun ty => run_next_end w s pos ty hp
      go_wp2
      go_ret
      have := HC.out
      rw [strayF_end s f pos hp] at this
      rw [← this]
      exact ⟨rfl, (Below.refl _ _).alloc (Nat.le_refl _) _⟩
end Go.Proofs.YtpkhpaklhfomkaaGreatDoor
