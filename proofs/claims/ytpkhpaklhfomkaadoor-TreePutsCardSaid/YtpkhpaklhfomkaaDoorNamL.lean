/-
  Contracts: the document's Parent, Base, Under.
-/
import Derived.Test.YtpkhpaklhfomkaaDoorNamK
import Derived.Test.YtpkhpaklhfomkaaDoorNameOrdersWalk
namespace Go.Proofs.YtpkhpaklhfomkaaDoor
set_option maxRecDepth 100000
open Go.RowKit Go.Deep Go.Joins Go.Lib

theorem last_facts (s : ByteArray) : -1 ≤ lastIndexByte s 47 ∧ lastIndexByte s 47 < s.size ∧ (∀ j (h : j < s.size), lastIndexByte s 47 < (j : Int) → s[j].toNat ≠ 47) ∧ (∀ j (h : j < s.size), lastIndexByte s 47 = (j : Int) → s[j].toNat = 47) := by
  rcases Lib.lastIdx_spec s 47 s.size with ⟨h, hn⟩ | ⟨i, hi, h, hc, hn⟩
  · have e : lastIndexByte s 47 = -1 := h
    rw [e]
    refine ⟨by omega, by omega, fun j hj _ => ?_, fun j hj h2 => by omega⟩
    have := hn j hj
    rw [data_bang s j hj] at this
    omega
  · have e : lastIndexByte s 47 = (i : Int) := h
    rw [e]
    refine ⟨by omega, by omega, fun j hj h2 => ?_, fun j hj h2 => ?_⟩
    · have := hn j (by omega) hj
      rw [data_bang s j hj] at this
      omega
    · obtain rfl : i = j := by omega
      rw [data_bang s i hj] at hc
      omega
theorem par_hit (s : ByteArray) (j : Nat) (h : lastIndexByte s 47 = (j : Int)) : parB s = s.extract 0 j := by
  unfold parB parN spl
  rw [h]
  congr 1
  omega
theorem par_none (s : ByteArray) (h : lastIndexByte s 47 = -1) : parB s = ByteArray.empty := by
  unfold parB parN spl
  rw [h]
  apply ByteArray.ext
  apply Array.toList_inj.1
  rw [Lib.extract_from_zero]
  rfl
theorem base_hit (s : ByteArray) (j : Nat) (h : lastIndexByte s 47 = (j : Int)) : baseB s = s.extract (j + 1) s.size := by
  unfold baseB spl
  rw [h]
  rfl
theorem base_none (s : ByteArray) (h : lastIndexByte s 47 = -1) : baseB s = s := by
  unfold baseB spl
  rw [h]
  apply ByteArray.ext
  apply Array.toList_inj.1
  rw [Lib.extract_to_end]
  rfl
set_option maxHeartbeats 4000000 in
theorem rparent_any (s : ByteArray) (w : World) (hs : s.size ≤ 1000000) :
    Calls Tryd.prog 40 #[.string s] w fun e w' => e = .returned (.string (parB s)) ∧ w' = w := by
  obtain ⟨l1, l2, l3, l4⟩ := last_facts s
  have HF := Lib.hid l3
  have HG := Lib.hid l4
  have HL : Hid (-1 ≤ lastIndexByte s 47 ∧ lastIndexByte s 47 < s.size) := ⟨l1, l2⟩
  have HH := Lib.hid (fun j h => par_hit s j h)
  have HN := Lib.hid (fun h => par_none s h)
  clear l1 l2 l3 l4
  generalize lastIndexByte s 47 = L at *
  generalize parB s = p at *
  go_enter Tryd.func40, Tryd.ntmps40
  go_wp2_with fail
  go_loopw [3] (fun i wr => ∃ q : Int, i = .int .i64 q ∧ -1 ≤ q ∧ q < s.size ∧ Hid (L ≤ q) ∧ wr = w) (fun i _ => (intOf i + 1).toNat)
  case atStart => exact ⟨(s.size : Int) - 1, rfl, by omega, by omega, by have := HL.out; show _ ≤ _; omega, rfl⟩
  case round =>
    obtain ⟨q, rfl, h1, h2, HQ, rfl⟩ := hrel
    by_cases hq : q = -1
    · subst hq
      have HE := Lib.hid (HN.out (by have := HQ.out; have := HL.out; omega))
      go_wp2_with fail
      go_ret
      rw [HE.out]
      exact ⟨rfl, rfl⟩
    · obtain ⟨j, rfl⟩ : ∃ j : Nat, q = j := ⟨q.toNat, by omega⟩
      have hj : j < s.size := by omega
      by_cases h47 : s[j].toNat = 47
      · have g1 : ((s[j].toNat : Int) == 47) = true := by rw [h47]; rfl
        have HE : Hid (p = s.extract 0 j) := HH.out j (by
          have h3 := HQ.out
          by_cases e : L = (j : Int)
          · exact e
          · exact absurd h47 (HF.out j hj (by omega)))
        have hjs : j ≤ s.size := by omega
        clear h47 hq h1 h2
        go_wp2_with fail
        go_ret
        rw [HE.out]
        exact ⟨rfl, rfl⟩
      · have g1 : ((s[j].toNat : Int) == 47) = false := by rw [beq_eq_false_iff_ne]; omega
        have HE : Hid (L ≤ (j : Int) - 1) := by
          have h3 := HQ.out
          by_cases e : L = (j : Int)
          · exact absurd (HG.out j hj e) h47
          · show _ ≤ _; omega
        clear h47 hq h1 h2
        go_wp2_with fail
        go_roundw
        case rel => exact ⟨(j : Int) - 1, rfl, by omega, by omega, HE, trivial⟩
        case measure => simp [intOf]
/-! ### Under -/
theorem prefix_iff (a r : ByteArray) : hasPrefix a.data.toList r.data.toList = true ↔ r.size ≤ a.size ∧ a.extract 0 r.size = r := by
  unfold hasPrefix
  rw [List.isPrefixOf_iff_prefix]
  constructor
  · rintro ⟨t, ht⟩
    have hl := congrArg List.length ht
    rw [List.length_append, ← Lib.size_eq, ← Lib.size_eq] at hl
    refine ⟨by omega, ?_⟩
    apply ByteArray.ext
    apply Array.toList_inj.1
    rw [Lib.extract_from_zero, ← ht]
    rw [show r.size = r.data.toList.length by rw [Array.length_toList]; rfl, List.take_left]
  · rintro ⟨_, h⟩
    refine ⟨a.data.toList.drop r.size, ?_⟩
    have := congrArg (fun b : ByteArray => b.data.toList) h
    simp only [Lib.extract_from_zero] at this
    conv => lhs; lhs; rw [← this]
    exact List.take_append_drop _ _
theorem und_nil (a r : ByteArray) (h : r.toList.isEmpty = true) : undB a r = true := by
  rw [Lib.toList_data] at h
  have hr : r.data.toList = [] := List.isEmpty_iff.1 h
  unfold undB hasPrefix
  rw [hr]
  simp
theorem und_self (a : ByteArray) : undB a a = true := by
  have h : hasPrefix a.data.toList a.data.toList = true := by unfold hasPrefix; rw [List.isPrefixOf_iff_prefix]; exact ⟨[], List.append_nil _⟩
  unfold undB trimPrefix
  rw [h]
  simp
theorem und_no (a r : ByteArray) (h : ¬ (r.size ≤ a.size ∧ a.extract 0 r.size = r)) : undB a r = false := by
  have h2 : hasPrefix a.data.toList r.data.toList = false := by
    cases e : hasPrefix a.data.toList r.data.toList with
    | false => rfl
    | true => exact absurd ((prefix_iff a r).1 e) h
  unfold undB
  rw [h2]
  rfl
theorem und_at (a r : ByteArray) (hr : r.toList.isEmpty = false) (hs : r.size < a.size) (he : a.extract 0 r.size = r) : undB a r = decide (a[r.size].toNat = 47) := by
  have h := (prefix_iff a r).2 ⟨by omega, he⟩
  rw [Lib.toList_data] at hr
  unfold undB trimPrefix
  rw [h, if_pos rfl, hr]
  have hl : r.data.toList.length = r.size := by rw [Array.length_toList]; rfl
  rw [hl]
  have hd : a.data.toList.drop r.size = a[r.size] :: a.data.toList.drop (r.size + 1) := by
    have hla : r.size < a.data.toList.length := by rw [Array.length_toList]; exact hs
    rw [List.drop_eq_getElem_cons hla]
    rfl
  rw [hd]
  unfold hasPrefix
  by_cases h47 : a[r.size].toNat = 47
  · rw [decide_eq_true h47, show a[r.size] = 47 from UInt8.toNat_inj.1 h47]
    rfl
  · rw [decide_eq_false h47]
    have : ((47 : UInt8) == a[r.size]) = false := by
      rw [beq_eq_false_iff_ne]
      exact fun e => h47 (by rw [← e]; rfl)
    simp [List.isPrefixOf, this]
end Go.Proofs.YtpkhpaklhfomkaaDoor
