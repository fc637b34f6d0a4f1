/-
  Contracts: the document's Find, Without, Put.
-/
import Derived.Test.YtkiecgcjnlgbnaaExK
namespace Go.Proofs.Ytkiecgcjnlgbnaa
set_option maxRecDepth 100000
open Go.RowKit Go.Joins Go.Deep

theorem fnd_hit {l : List Fd} {id k : Nat} (hk : k < l.length) (h : fx id l = k) : fndD l id = l[k].d ∧ fndB l id = true := by
  subst h
  constructor
  · unfold fndD
    rw [List.getElem?_eq_getElem hk]
    rfl
  · exact decide_eq_true hk
theorem fnd_none {l : List Fd} {id : Nat} (h : fx id l = l.length) : fndD l id = ⟨#[]⟩ ∧ fndB l id = false := by
  constructor
  · unfold fndD
    rw [List.getElem?_eq_none (by omega)]
    rfl
  · exact decide_eq_false (by omega)
set_option maxHeartbeats 4000000 in
theorem rfind13_any (A : Option Addr) (cap : Nat) (l : List Fd) (id : Nat) (w : World) (hF : Fds w A l) (hl : l.length ≤ 1000000) :
    Calls Try.prog 14 #[.slice A l.length cap, .int .u16 (id : Nat)] w fun e w' => e = .returned (.tuple #[.string (fndD l id), .bool (fndB l id)]) ∧ Below w.heap.size w w' := by
  have hit := info_fd2
  have HF := Lib.hid hF
  have HHI := Lib.hid (fx_hit id l)
  have HNO := Lib.hid (fx_none id l)
  clear hF
  go_enter Try.func14, Try.ntmps14
  go_wp2_with fail
  go_loopw [10] (fun i wr => ∃ k : Nat, k ≤ l.length ∧ i = .int .i64 (k : Nat) ∧ Hid (∀ j (hj : j < l.length), j < k → l[j].id ≠ id) ∧ Hid (Below w.heap.size w wr)) (fun i _ => l.length - (intOf i).toNat)
  case atStart => exact ⟨0, Nat.zero_le _, rfl, fun j _ h => absurd h (by omega), Below.refl _ _⟩
  case round =>
    obtain ⟨k, hk, rfl, HP, HB⟩ := hrel
    by_cases hkn : k < l.length
    · obtain ⟨b, off, rfl, hbl, hcc⟩ := (HF.out.below (Nat.le_refl _) HB.out) (by omega)
      obtain ⟨c0, c1⟩ := hcc k hkn
      have HY : Hid (l[k].id = id → fndD l id = l[k].d ∧ fndB l id = true) := fun h => fnd_hit hkn (HHI.out k hkn h HP.out)
      have HP2 : Hid (l[k].id ≠ id → ∀ j (hj : j < l.length), j < k + 1 → l[j].id ≠ id) := fun h j hj hjk => by
        by_cases e : j = k
        · subst e; exact h
        · exact HP.out j hj (by omega)
      clear hcc
      have hbox := fd_box l[k] wr
      generalize l[k] = t at *
      obtain ⟨tid, td⟩ := t
      dsimp only at c0 c1 hbox HY HP2
      obtain ⟨d0, d1⟩ := hbox
      have HB1 := Lib.hid (HB.out.alloc HB.out.size (.cells #[.int .u16 (tid : Nat), .string td] 38))
      by_cases hid : tid = id
      · have he : ((tid : Int) == (id : Int)) = true := by rw [hid]; exact beq_self_eq_true _
        have HR := Lib.hid (HY.out hid)
        clear HY HP2 HP hid
        go_wp2_with fail
        go_ret2
        rw [HR.out.1, HR.out.2]
        exact ⟨rfl, HB1.out⟩
      · have he : ((tid : Int) == (id : Int)) = false := by rw [beq_eq_false_iff_ne]; omega
        have HP3 := Lib.hid (HP2.out hid)
        clear HY HP2 HP hid
        go_wp2_with fail
        go_roundw
        case rel => exact ⟨k + 1, by omega, by go_num, HP3.out, HB1.out⟩
        case measure => simp [intOf]; omega
    · obtain rfl : k = l.length := by omega
      have HR := Lib.hid (fnd_none (HNO.out fun j hj => HP.out j hj hj))
      go_wp2_with fail
      go_ret2
      rw [HR.out.1, HR.out.2]
      exact ⟨rfl, HB.out⟩

theorem mem_take {ids : List Nat} {id j : Nat} (hj : j < ids.length) : decide (id ∈ ids.take (j + 1)) = (decide (id ∈ ids.take j) || decide (ids[j] = id)) := by
  rw [List.take_succ_eq_append_getElem hj]
  rw [Bool.eq_iff_iff, decide_eq_true_iff, Bool.or_eq_true, decide_eq_true_iff, decide_eq_true_iff, List.mem_append, List.mem_singleton]
  exact or_congr Iff.rfl ⟨fun h => h.symm, fun h => h.symm⟩
set_option maxHeartbeats 8000000 in
theorem rwithout_any (A I : Option Addr) (cA cI : Nat) (l : List Fd) (ids : List Nat) (w : World) (hF : Fds w A l) (hI : Ids w I ids) (hl : l.length ≤ 100000) (hil : ids.length ≤ 1000000) :
    Calls Try.prog 18 #[.slice A l.length cA, .slice I ids.length cI] w fun e w' => ∃ A2 c2, e = .returned (.slice A2 (woL l ids).length c2) ∧ Fds w' A2 (woL l ids) ∧ Below w.heap.size w w' := by
  obtain ⟨i0, hi, hz0, hz1, hz2⟩ := info_parts parts_fd
  have hit := info_fd2
  have HF := Lib.hid hF
  have HI := Lib.hid hI
  have HWL : Hid (∀ k, k ≤ l.length → (woL (l.take k) ids).length ≤ 100000) := fun k hk => by
    have := List.length_filter_le (fun f : Fd => !ids.contains f.id) (l.take k)
    rw [List.length_take] at this
    unfold woL
    omega
  clear hF hI
  go_enter Try.func18, Try.ntmps18
  go_wp2_with fail
  go_loopw [5, 13] (fun v i wr => ∃ k : Nat, k ≤ l.length ∧ i = .int .i64 (k : Nat) ∧ Hid (wr.ownsRow w.heap.size 38 2 v (woL (l.take k) ids).length (cellsF (woL (l.take k) ids))) ∧ Hid (Below w.heap.size w wr)) (fun _ i _ => l.length - (intOf i).toNat)
  case atStart => exact ⟨0, Nat.zero_le _, rfl, World.ownsRow_nil _ _ _ _, Below.refl _ _⟩
  case round =>
    obtain ⟨k, hk, rfl, HO, HB⟩ := hrel
    by_cases hkn : k < l.length
    · obtain ⟨b, off, rfl, hbl, hc⟩ := (HF.out.below (Nat.le_refl _) HB.out) (by omega)
      obtain ⟨c0, c1⟩ := hc k hkn
      have HT := Lib.hid (wo_take (ids := ids) hkn)
      have hwl := HWL.out k hk
      clear hc
      have hbox := fd_box l[k] wr
      generalize l[k] = t at *
      generalize woL (l.take k) ids = m at *
      obtain ⟨tid, td⟩ := t
      dsimp only at c0 c1 hbox
      obtain ⟨d0, d1⟩ := hbox
      obtain ⟨A2, cp2, rfl⟩ := slice_of_own HO.out
      have HB1 := Lib.hid (HB.out.alloc HB.out.size (.cells #[.int .u16 (tid : Nat), .string td] 38))
      have HO1 := Lib.hid (HO.out.alloc (.cells #[.int .u16 (tid : Nat), .string td] 38))
      have HI1 := Lib.hid (HI.out.below (Nat.le_refl _) HB1.out)
      have HT2 : Hid (woL (l.take (k + 1)) ids = if decide (tid ∈ ids) = true then m else m ++ [⟨tid, td⟩]) := HT.out
      clear HT
      go_wp2_with fail
      generalize hw1 : wr.alloc (.cells #[.int .u16 (tid : Nat), .string td] 38) = w1 at *
      clear hw1
      go_loopw [8, 19] (fun fl i w2 => ∃ j : Nat, j ≤ ids.length ∧ i = .int .i64 (j : Nat) ∧ fl = .bool (decide (tid ∈ ids.take j)) ∧ w2 = w1) (fun _ i _ => ids.length - (intOf i).toNat)
      case atStart => exact ⟨0, Nat.zero_le _, rfl, by simp, rfl⟩
      case round =>
        obtain ⟨j, hj, rfl, rfl, rfl⟩ := hrel
        by_cases hjn : j < ids.length
        · obtain ⟨b2, off2, rfl, _, hci⟩ := HI1.out (by omega)
          have e0 := hci j hjn
          have HM := Lib.hid (mem_take (id := tid) hjn)
          clear hci
          generalize ids[j] = x at *
          have hx : ((x : Int) == (tid : Int)) = decide (x = tid) := eqb_nat x tid
          generalize decide (x = tid) = bx at *
          cases hd : decide (tid ∈ ids.take j) with
          | true =>
            rw [hd, Bool.true_or] at HM
            go_wp2_with fail
            go_roundw
            case rel => exact ⟨j + 1, by omega, by go_num, by rw [HM.out], by first | rfl | trivial⟩
            case measure => simp [intOf]; omega
          | false =>
            rw [hd, Bool.false_or] at HM
            go_wp2_with fail
            go_roundw
            case rel => exact ⟨j + 1, by omega, by go_num, by rw [HM.out], by first | rfl | trivial⟩
            case measure => simp [intOf]; omega
        · obtain rfl : j = ids.length := by omega
          rw [List.take_length]
          cases hd : decide (tid ∈ ids) with
          | true =>
            rw [hd, if_pos rfl] at HT2
            go_wp2_with fail
            go_roundw
            case rel => exact ⟨k + 1, by omega, by go_num, by rw [HT2.out]; exact HO1.out, HB1.out⟩
            case measure => simp [intOf]; omega
          | false =>
            rw [hd, if_neg (by decide)] at HT2
            have HX5 := Lib.hid (heap_alloc_new wr (.cells #[.int .u16 (tid : Nat), .string td] 38))
            go_wp2_with (at_builtin; go_must (refine wpList_append_own_at _ rfl (.tmp 33) (.tmp 35) _ rfl w.heap.size 38 i0 (.agg #[.int .u16 0, .string ⟨#[]⟩]) 2 24 Try.underlying22 hi hz0 hz1 hz2 rfl (by decide) (.slice A2 m.length cp2) m.length _ rfl (HO1.out.alloc _) ⟨wr.heap.size, 0, none⟩ 1 1 [.int .u16 (tid : Nat), .string td] rfl rfl (cells2 HX5.out) (cellF_one ⟨tid, td⟩) (by unfold maxLen; omega) (by omega) (by have h3 := HB1.out.size; simp; omega) ?_; intro v' w6 hown' hgrow hnil hloc))
            have HO6 : Hid (w6.ownsRow w.heap.size 38 2 v' (woL (l.take (k + 1)) ids).length (cellsF (woL (l.take (k + 1)) ids))) := by
              show World.ownsRow _ _ _ _ _ _ _
              rw [HT2.out, List.length_append, cellsF_app]
              exact hown'
            have HB6 := Lib.hid ((HB1.out.alloc HB1.out.size _).grown hgrow (by have h3 := HB1.out.size; simp; omega) (fun g hg => (HO1.out.lt g hg).1))
            clear hown' hgrow hnil hloc
            go_wp2_with fail
            go_roundw
            case rel => exact ⟨k + 1, by omega, by go_num, HO6.out, HB6.out⟩
            case measure => simp [intOf]; omega
    · obtain rfl : k = l.length := by omega
      rw [List.take_length] at HO
      obtain ⟨A2, cp2, rfl⟩ := slice_of_own HO.out
      go_wp2_with fail
      go_ret
      exact ⟨A2, cp2, rfl, fds_of_own HO.out, HB.out⟩
end Go.Proofs.Ytkiecgcjnlgbnaa
