/-
  Contracts: Contains, Without.
-/
import Derived.Test.YtkiecgcjnlgbnaaExJ
import Derived.Test.YtkiecgcjnlgbnaaExX
namespace Go.Proofs.Ytkiecgcjnlgbnaa
set_option maxRecDepth 100000
open Go.RowKit Go.Joins Go.Deep

/-- A slice that is nil is empty and has no room. -/
def Nil0 (A : Option Addr) (n cap : Nat) : Prop := A = none → n = 0 ∧ cap = 0
theorem slice_of_own0 {w : World} {B : Nat} {T : TypeId} {v : Value} {l : List Fd} (h : w.ownsRow B T 2 v l.length (cellsF l)) : ∃ A cap, v = .slice A l.length cap ∧ Nil0 A l.length cap := by
  rcases ownsRow_forms h with ⟨he, h0⟩ | ⟨g2, cap2, he⟩
  · exact ⟨none, 0, by rw [he, h0], fun _ => ⟨h0, rfl⟩⟩
  · exact ⟨some ⟨g2, 0, none⟩, cap2, he, fun e => by cases e⟩
theorem index16_any (A : Option Addr) (cap : Nat) (ids : List Nat) (id : Nat) (w : World) (hI : Ids w A ids) (hl : ids.length ≤ 1000000) :
    Calls Try.prog 42 #[.slice A ids.length cap, .int .u16 (id : Nat)] w fun e w' => (∃ z : Int, e = .returned (.int .i64 z) ∧ decide (0 ≤ z) = decide (id ∈ ids)) ∧ w' = w := by
  have HI := Lib.hid hI
  have HM := Lib.hid (fun i (hi : i < ids.length) (h : ids[i] = id) => (h ▸ List.getElem_mem hi : id ∈ ids))
  have HN := Lib.hid (fun (h : ∀ j (hj : j < ids.length), ids[j] ≠ id) => (fun k => by obtain ⟨j, hj, e⟩ := List.mem_iff_getElem.1 k; exact h j hj e : id ∉ ids))
  clear hI
  go_enter Try.func42, Try.ntmps42
  go_wp2_with fail
  go_loopw [8] (fun i wr => ∃ k : Nat, k ≤ ids.length ∧ i = .int .i64 (k : Nat) ∧ wr = w ∧ Hid (∀ j (hj : j < ids.length), j < k → ids[j] ≠ id)) (fun i _ => ids.length - (intOf i).toNat)
  case atStart => exact ⟨0, Nat.zero_le _, rfl, rfl, fun j _ h => absurd h (by omega)⟩
  case round =>
    obtain ⟨k, hk, rfl, rfl, HP⟩ := hrel
    by_cases hkn : k < ids.length
    · obtain ⟨b, off, rfl, _, hc⟩ := HI.out (by omega)
      have c0 := hc k hkn
      have HM2 := Lib.hid (HM.out k hkn)
      have HP2 : Hid (ids[k] ≠ id → ∀ j (hj : j < ids.length), j < k + 1 → ids[j] ≠ id) := fun h j hj hjk => by
        by_cases e : j = k
        · subst e; exact h
        · exact HP.out j hj (by omega)
      clear hc
      generalize ids[k] = x at *
      by_cases hx : x = id
      · have HR : Hid (decide (id ∈ ids) = true) := decide_eq_true (HM2.out hx)
        have he : ((id : Int) == (x : Int)) = true := by rw [hx]; exact beq_self_eq_true _
        have hk0 : decide ((0 : Int) ≤ ((k : Nat) : Int)) = true := decide_eq_true (by omega)
        clear HM2 HP2 HP hx
        go_wp2_with fail
        go_ret
        exact ⟨⟨(k : Int), rfl, by rw [HR.out]; exact hk0⟩, rfl⟩
      · have he : ((id : Int) == (x : Int)) = false := by rw [beq_eq_false_iff_ne]; omega
        have HP3 := Lib.hid (HP2.out hx)
        clear HM2 HP2 HP hx
        go_wp2_with fail
        go_roundw
        case rel => exact ⟨k + 1, by omega, by go_num, by first | rfl | trivial, HP3.out⟩
        case measure => simp [intOf]; omega
    · obtain rfl : k = ids.length := by omega
      have HR : Hid (decide (id ∈ ids) = false) := decide_eq_false (HN.out fun j hj => HP.out j hj hj)
      go_wp2_with fail
      go_ret
      exact ⟨⟨-1, rfl, by rw [HR.out]; rfl⟩, rfl⟩
theorem contains16_any (A : Option Addr) (cap : Nat) (ids : List Nat) (id : Nat) (w : World) (hI : Ids w A ids) (hl : ids.length ≤ 1000000) :
    Calls Try.prog 33 #[.slice A ids.length cap, .int .u16 (id : Nat)] w fun e w' => e = .returned (.bool (decide (id ∈ ids))) ∧ w' = w := by
  have HX := Lib.hid (index16_any A cap ids id w hI hl)
  clear hI
  generalize decide (id ∈ ids) = d at *
  go_enter Try.func33, Try.ntmps33
  go_wp2_with fail
  refine (HX.out).mono ?_
  rintro e w1 ⟨⟨z, rfl, hz⟩, rfl⟩
  go_wp2_with fail
  go_ret
  exact ⟨by rw [← hz]; rfl, rfl⟩

theorem wo_take {l : List Fd} {ids : List Nat} {k : Nat} (hk : k < l.length) : woL (l.take (k + 1)) ids = if decide ((l[k]).id ∈ ids) = true then woL (l.take k) ids else woL (l.take k) ids ++ [l[k]] := by
  unfold woL
  rw [List.take_succ_eq_append_getElem hk, List.filter_append]
  by_cases h : (l[k]).id ∈ ids
  · rw [if_pos (decide_eq_true h)]
    simp [h]
  · rw [if_neg (by simpa using h)]
    simp [h]
set_option maxHeartbeats 4000000 in
theorem without_any (A I : Option Addr) (cA cI : Nat) (l : List Fd) (ids : List Nat) (w : World) (hF : Fds w A l) (hI : Ids w I ids) (hl : l.length ≤ 100000) (hil : ids.length ≤ 1000000) :
    Calls Try.prog 17 #[.slice A l.length cA, .slice I ids.length cI] w fun e w' => ∃ A2 c2, e = .returned (.slice A2 (woL l ids).length c2) ∧ Fds w' A2 (woL l ids) ∧ Nil0 A2 (woL l ids).length c2 ∧ Below w.heap.size w w' := by
  obtain ⟨i0, hi, hz0, hz1, hz2⟩ := info_parts parts_fd
  have hit := info_fd2
  have HF := Lib.hid hF
  have HI := Lib.hid hI
  have HCN := Lib.hid (fun (id : Nat) (w1 : World) h => contains16_any I cI ids id w1 h hil)
  have HWL : Hid (∀ k, k ≤ l.length → (woL (l.take k) ids).length ≤ 100000) := fun k hk => by
    have := List.length_filter_le (fun f : Fd => !ids.contains f.id) (l.take k)
    rw [List.length_take] at this
    unfold woL
    omega
  clear hF hI
  go_enter Try.func17, Try.ntmps17
  go_wp2_with fail
  go_loopw [5, 10] (fun v i wr => ∃ k : Nat, k ≤ l.length ∧ i = .int .i64 (k : Nat) ∧ Hid (wr.ownsRow w.heap.size 38 2 v (woL (l.take k) ids).length (cellsF (woL (l.take k) ids))) ∧ Hid (Below w.heap.size w wr)) (fun _ i _ => l.length - (intOf i).toNat)
  case atStart => exact ⟨0, Nat.zero_le _, rfl, World.ownsRow_nil _ _ _ _, Below.refl _ _⟩
  case round =>
    obtain ⟨k, hk, rfl, HO, HB⟩ := hrel
    by_cases hkn : k < l.length
    · obtain ⟨b, off, rfl, hbl, hc⟩ := (HF.out.below (Nat.le_refl _) HB.out) (by omega)
      obtain ⟨c0, c1⟩ := hc k hkn
      have HT := Lib.hid (wo_take (ids := ids) hkn)
      have hwl := HWL.out k hk
      clear hc
      have hbox := fd_box l[k] wr
      generalize l[k] = t at *
      generalize woL (l.take k) ids = m at *
      obtain ⟨tid, td⟩ := t
      dsimp only at c0 c1 hbox
      obtain ⟨d0, d1⟩ := hbox
      obtain ⟨A2, cp2, rfl⟩ := slice_of_own HO.out
      have HB1 := Lib.hid (HB.out.alloc HB.out.size (.cells #[.int .u16 (tid : Nat), .string td] 38))
      have HO1 := Lib.hid (HO.out.alloc (.cells #[.int .u16 (tid : Nat), .string td] 38))
      have HX1 : Hid ((wr.alloc (.cells #[.int .u16 (tid : Nat), .string td] 38)).heap[wr.heap.size]? = some (.cells #[.int .u16 (tid : Nat), .string td] 38 (0, 0))) := heap_alloc_new wr _
      have HC1 := Lib.hid (HCN.out tid _ (HI.out.below (Nat.le_refl _) HB1.out))
      have HT2 : Hid (woL (l.take (k + 1)) ids = if decide (tid ∈ ids) = true then m else m ++ [⟨tid, td⟩]) := HT.out
      clear HT
      go_wp2_with fail
      refine (HC1.out).mono ?_
      rintro e w2 ⟨rfl, rfl⟩
      cases hd : decide (tid ∈ ids) with
      | true =>
        rw [hd, if_pos rfl] at HT2
        go_wp2_with fail
        go_roundw
        case rel => exact ⟨k + 1, by omega, by go_num, by rw [HT2.out]; exact HO1.out, HB1.out⟩
        case measure => simp [intOf]; omega
      | false =>
        rw [hd, if_neg (by decide)] at HT2
        have hs1 : (wr.alloc (.cells #[.int .u16 (tid : Nat), .string td] 38)).heap.size = wr.heap.size + 1 := by simp
        generalize wr.alloc (.cells #[.int .u16 (tid : Nat), .string td] 38) = w1 at *
        have HX5 := Lib.hid (heap_alloc_new w1 (.cells #[.int .u16 (tid : Nat), .string td] 38))
        have HS1 := Lib.hid hs1
        clear hs1 HC1
        go_wp2_with (at_builtin; go_must (refine wpList_append_own_at _ rfl (.tmp 19) (.tmp 21) _ rfl w.heap.size 38 i0 (.agg #[.int .u16 0, .string ⟨#[]⟩]) 2 24 Try.underlying22 hi hz0 hz1 hz2 rfl (by decide) (.slice A2 m.length cp2) m.length _ rfl (HO1.out.alloc _) ⟨w1.heap.size, 0, none⟩ 1 1 [.int .u16 (tid : Nat), .string td] rfl rfl (cells2 HX5.out) (cellF_one ⟨tid, td⟩) (by unfold maxLen; omega) (by omega) (by have h3 := HB1.out.size; simp; omega) ?_; intro v' w6 hown' hgrow hnil hloc))
        have HO6 : Hid (w6.ownsRow w.heap.size 38 2 v' (woL (l.take (k + 1)) ids).length (cellsF (woL (l.take (k + 1)) ids))) := by
          show World.ownsRow _ _ _ _ _ _ _
          rw [HT2.out, List.length_append, cellsF_app]
          exact hown'
        have HB6 := Lib.hid ((HB1.out.alloc HB1.out.size _).grown hgrow (by have h3 := HB1.out.size; simp; omega) (fun g hg => (HO1.out.lt g hg).1))
        clear hown' hgrow hnil hloc
        go_wp2_with fail
        go_roundw
        case rel => exact ⟨k + 1, by omega, by go_num, HO6.out, HB6.out⟩
        case measure => simp [intOf]; omega
    · obtain rfl : k = l.length := by omega
      rw [List.take_length] at HO
      obtain ⟨A2, cp2, rfl, hn0⟩ := slice_of_own0 HO.out
      have HN0 := Lib.hid hn0
      clear hn0
      go_wp2_with fail
      go_ret
      exact ⟨A2, cp2, rfl, fds_of_own HO.out, HN0.out, HB.out⟩
end Go.Proofs.Ytkiecgcjnlgbnaa
