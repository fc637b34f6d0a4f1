/-
  Contract: the document's Places.
-/
import Derived.Test.YtblojfgbdmnccaaMatF
namespace Go.Proofs.Ytblojfgbdmnccaa
set_option maxRecDepth 100000
open Go.RowKit Go.Deep Go.Joins

def cellsI (l : List Nat) : List Value := l.map fun i => Value.int .i64 (i : Nat)
theorem cellsI_zs (l : List Nat) : (zsOf l).map (Value.int .i64) = cellsI l := by unfold zsOf cellsI; rw [List.map_map]; rfl
theorem byte_eq (s : ByteArray) (k x : Nat) (h : k < s.size) : ((s[k].toNat : Int) == (x : Int)) = decide (bt s k = x) := by
  rw [bt_get s k h]
  rw [Bool.eq_iff_iff]
  simp only [beq_iff_eq, decide_eq_true_eq]
  exact Int.natCast_inj
set_option maxHeartbeats 4000000 in
theorem rplaces_any (s : ByteArray) (x y z : Nat) (hs : s.size ≤ 1048576) (w : World) : Calls Try.prog 34 #[.string s, .int .u8 (x : Nat), .int .u8 (y : Nat), .int .u8 (z : Nat)] w fun e w' => ∃ v, e = .returned v ∧ w'.ownsRow w.heap.size 3 1 v (places (bt s) x y z (s.size - 2)).length (cellsI (places (bt s) x y z (s.size - 2))) ∧ Below w.heap.size w w' := by
  obtain ⟨i0, hi, hz0, hz1, hz2⟩ := info_parts info_int
  go_enter Try.func34, Try.ntmps34
  go_wp2_with fail
  go_loopw [9, 10] (fun v i wr => ∃ k : Nat, k ≤ s.size - 2 ∧ i = .int .i64 (k : Nat) ∧ Hid (wr.ownsRow w.heap.size 3 1 v (places (bt s) x y z k).length (cellsI (places (bt s) x y z k))) ∧ Hid (Below w.heap.size w wr)) (fun _ i _ => (s.size - 2) - (intOf i).toNat)
  case atStart => exact ⟨0, Nat.zero_le _, rfl, World.ownsRow_nil _ _ _ _, Below.refl _ _⟩
  case round =>
    obtain ⟨k, hk, rfl, HO, HB⟩ := hrel
    obtain ⟨q2, e2, f2⟩ : ∃ q2 : Nat, ((k : Int) + 2) = (q2 : Int) ∧ q2 = k + 2 := ⟨k + 2, by omega, rfl⟩
    by_cases hkn : k + 2 < s.size
    · have l0 : k < s.size := by omega
      obtain ⟨q1, e1, f1⟩ : ∃ q1 : Nat, ((k : Int) + 1) = (q1 : Int) ∧ q1 = k + 1 := ⟨k + 1, by omega, rfl⟩
      have l1 : q1 < s.size := by omega
      have l2 : q2 < s.size := by omega
      have n0 := byte_eq s k x l0
      have n1 := byte_eq s q1 y l1
      have n2 := byte_eq s q2 z l2
      have HP : Hid (places (bt s) x y z (k + 1) = if bt s k = x ∧ bt s q1 = y ∧ bt s q2 = z then places (bt s) x y z k ++ [k] else places (bt s) x y z k) := by
        rw [f1, f2]; rfl
      have HL := Lib.hid (places_len (bt s) x y z k)
      have F1 := Lib.hid f1
      have F2 := Lib.hid f2
      clear f1 f2
      generalize places (bt s) x y z k = p at *
      obtain ⟨A2, cp2, rfl⟩ := row_slice HO.out
      by_cases c : bt s k = x ∧ bt s q1 = y ∧ bt s q2 = z
      · obtain ⟨c0, c1, c2⟩ := c
        have HP1 := Lib.hid (HP.out.trans (if_pos ⟨c0, c1, c2⟩))
        rw [decide_eq_true c0] at n0
        rw [decide_eq_true c1] at n1
        rw [decide_eq_true c2] at n2
        clear c0 c1 c2
        go_wp2_with (at_builtin; go_must (refine wpList_append_own_at _ rfl (.tmp 39) (.tmp 41) _ rfl w.heap.size 3 i0 (.int .i64 0) 1 8 Try.underlying23 hi hz0 hz1 hz2 rfl (by decide) (.slice A2 p.length cp2) p.length (cellsI p) rfl (HO.out.alloc _) ⟨wr.heap.size, 0, none⟩ 1 1 [.int .i64 (k : Nat)] rfl rfl (cell_one_new _ _ _) (ints_oneCell .i64 [((k : Nat) : Int)]) (by have := HL.out; unfold maxLen; omega) (by have := HL.out; omega) (by have := HB.out.size; simp; omega) ?_; intro v' w4 hown' hgrow hnil hloc))
        have HO4 := Lib.hid hown'
        have HB4 : Hid (Below w.heap.size w w4) := (HB.out.alloc HB.out.size _).grown hgrow (by have := HB.out.size; simp; omega) (fun j hj => (HO.out.lt j hj).1)
        clear hown' hgrow hnil hloc
        go_roundw
        case rel =>
          refine ⟨k + 1, by omega, by have := F1.out; rw [this], ?_, HB4⟩
          show World.ownsRow _ _ _ _ _ _ _
          rw [HP1.out, List.length_append]
          unfold cellsI
          rw [List.map_append]
          exact HO4.out
        case measure => have := F1.out; simp [intOf]; omega
      · have HP1 := Lib.hid (HP.out.trans (if_neg c))
        by_cases c0 : bt s k = x
        · by_cases c1 : bt s q1 = y
          · have c2 : bt s q2 ≠ z := fun e => c ⟨c0, c1, e⟩
            rw [decide_eq_true c0] at n0
            rw [decide_eq_true c1] at n1
            rw [decide_eq_false c2] at n2
            clear c0 c1 c2 c
            go_wp2_with fail
            go_roundw
            case rel =>
              refine ⟨k + 1, by omega, by have := F1.out; rw [this], ?_, HB⟩
              show World.ownsRow _ _ _ _ _ _ _
              rw [HP1.out]
              exact HO.out
            case measure => have := F1.out; simp [intOf]; omega
          · rw [decide_eq_true c0] at n0
            rw [decide_eq_false c1] at n1
            clear c0 c1 c n2
            go_wp2_with fail
            go_roundw
            case rel =>
              refine ⟨k + 1, by omega, by have := F1.out; rw [this], ?_, HB⟩
              show World.ownsRow _ _ _ _ _ _ _
              rw [HP1.out]
              exact HO.out
            case measure => have := F1.out; simp [intOf]; omega
        · rw [decide_eq_false c0] at n0
          clear c0 c n1 n2
          go_wp2_with fail
          go_roundw
          case rel =>
            refine ⟨k + 1, by omega, by have := F1.out; rw [this], ?_, HB⟩
            show World.ownsRow _ _ _ _ _ _ _
            rw [HP1.out]
            exact HO.out
          case measure => have := F1.out; simp [intOf]; omega
    · have : k = s.size - 2 := by omega
      subst this
      have hq : s.size ≤ q2 := by omega
      clear hkn f2
      go_wp2
      go_ret
      exact ⟨_, rfl, HO.out, HB.out⟩
end Go.Proofs.Ytblojfgbdmnccaa
