/-
  Contracts: so many times one length.
-/
import Derived.Test.YtbgclbnbnpnolaaInfH
import Derived.Laws.CopyOwn
import Derived.Deep.OwnRows
import Derived.Laws.OwnMore
import Derived.BigRegion
import Derived.Deep.DeepMust
namespace Go.Proofs.Ytbgclbnbnpnolaa
set_option maxRecDepth 100000
open Go.RowKit Go.Deep Go.Joins

theorem mul64_one (n : Nat) (hn : n ≤ 1000000) (w : World) : Calls Try.prog 79 #[.int .u64 1, .int .u64 n] w fun e w' => e = .returned (.tuple #[.int .u64 0, .int .u64 n]) ∧ w = w' := by
  have h1 : bits .and .u64 1 4294967295 = 1 := by decide
  have h2 : bits .and .u64 (n : Int) 4294967295 = (n : Int) := by
    have := u64_and_nat n 4294967295 (by omega) (by omega)
    rw [show (4294967295 : Nat) = 2 ^ 32 - 1 from rfl, Nat.and_two_pow_sub_one_eq_mod, Nat.mod_eq_of_lt (by omega)] at this
    exact this
  have h3 : bits .and .u64 0 4294967295 = 0 := by decide
  have h4 : (n : Int) / 4294967296 = 0 := by omega
  have h5 : (n : Int) / 2 ^ 32 = 0 := by omega
  go_enter Try.func79, Try.ntmps79
  go_wp2
  go_ret2
  exact ⟨by simp, rfl⟩
theorem mul_one (n : Nat) (hn : n ≤ 1000000) (w : World) : Calls Try.prog 77 #[.int .u64 1, .int .u64 n] w fun e w' => e = .returned (.tuple #[.int .u64 0, .int .u64 n]) ∧ w = w' := by
  go_enter Try.func77, Try.ntmps77
  go_wp2_with (go_at_call 79; refine (mul64_one n hn _).mono ?_; rintro e w' ⟨rfl, rfl⟩)
  go_ret2
  exact ⟨rfl, rfl⟩

/-- A row of bytes, so many of them laid down. -/
def fillB (n k x : Nat) : List Value := List.replicate k (.int .u8 (x : Nat)) ++ List.replicate (n - k) (.int .u8 0)
theorem fillB_len (n k x : Nat) (h : k ≤ n) : (fillB n k x).length = n := by simp [fillB]; omega
theorem fillB_at (n k x i : Nat) (h : i < k) : (fillB n k x)[i]? = some (.int .u8 (x : Nat)) := by
  unfold fillB
  rw [List.getElem?_append_left (by simpa using h), List.getElem?_replicate, if_pos h]
theorem fillB_zero (n x : Nat) : madeCells #[.int .u8 0] n = (fillB n 0 x).toArray := by
  apply Array.ext'
  rw [toList_madeCells_one]
  simp [fillB]
theorem fillB_splice (n k m x : Nat) (h : k + m ≤ n) : splice (fillB n k x) k (List.replicate m (.int .u8 (x : Nat))) = fillB n (k + m) x := by
  unfold splice fillB
  rw [List.length_replicate, List.take_append_of_le_length (by simp), List.take_of_length_le (by simp), List.drop_append, List.drop_eq_nil_of_le (by simp), List.length_replicate, List.drop_replicate, List.nil_append, ← List.append_assoc, List.replicate_append_replicate, show n - k - (k + m - k) = n - (k + m) by omega]
theorem fillB_full (n x : Nat) : fillB n n x = cells8 (List.replicate n x) := by simp [fillB, cells8]

set_option maxHeartbeats 4000000 in
theorem repeat_any (gx n x : Nat) (h1 : 1 ≤ n) (hn : n ≤ 1000) (w : World) (hgx : gx < w.heap.size) (hc : w.cell? ⟨gx, 0, none⟩ = some (.int .u8 (x : Nat))) :
    Calls Try.prog 75 #[.slice (some ⟨gx, 0, none⟩) 1 1, .int .i64 n] w fun e w' => e = .returned (.slice (some ⟨w.heap.size, 0, none⟩) n n) ∧ w'.heap[w.heap.size]? = some (.cells (cells8 (List.replicate n x)).toArray 5 (0, 0)) ∧ Below w.heap.size w w' := by
  have HM := Lib.hid (mul_one n (by omega))
  have hmk := run_make_row' (P := Try.prog) 22 5 (.int .u8 0) 1 Try.underlying22 info8 rfl .i64 .i64 n (by omega) (by omega)
  have hB0 : Below w.heap.size w (w.alloc (.cells (madeCells #[.int .u8 0] n) 5)) := (Below.refl _ _).alloc (Nat.le_refl _) _
  have hg0 : (w.alloc (.cells (madeCells #[.int .u8 0] n) 5)).heap[w.heap.size]? = some (.cells (fillB n 0 x).toArray 5 (0, 0)) := by rw [fillB_zero n x]; exact heap_alloc_new w _
  have hc0 : (w.alloc (.cells (madeCells #[.int .u8 0] n) 5)).cell? ⟨gx, 0, none⟩ = some (.int .u8 (x : Nat)) := (hB0.cell (p := ⟨gx, 0, none⟩) hgx).trans hc
  have HCC := Lib.hid hc
  have HB0 := Lib.hid hB0
  have HG0 := Lib.hid hg0
  have HC0 := Lib.hid hc0
  have hwn : IntKind.u64.wrap (n : Int) = (n : Int) := by rw [IntKind.wrap_u64]; omega
  have hwi : IntKind.i64.wrap (n : Int) = (n : Int) := by rw [IntKind.wrap_i64]; omega
  have hsz1 : (Try.prog.info? 5).map (·.size) = some 1 := by kernel_rfl
  clear hB0 hg0 hc0
  go_enter Try.func75, Try.ntmps75
  have hlt0 : decide ((n : Int) < 0) = false := decide_eq_false (by omega)
  have hlt1 : decide ((9223372036854775807 : Int) < (n : Int)) = false := decide_eq_false (by omega)
  go_wp2_with fail
  refine (HM.out _).mono ?_; rintro e w' ⟨rfl, rfl⟩
  go_wp2_with (with_reducible refine wpList_copy_splice rfl (.tmp 31) (.tmp 32) 22 22 rfl 5 Try.underlying22 hsz1 (some ⟨w.heap.size, 0, none⟩) (some ⟨gx, 0, none⟩) n n 1 1 rfl rfl w.heap.size 0 (fillB n 0 x) 5 HG0.out [.int .u8 (x : Nat)] ?c1 ?c2 ?c3 ?c4 w.heap.size w HB0.out (Nat.le_refl _) ?_)
  case c1 => show 1 = min 1 n; omega
  case c2 =>
    intro j v hj
    cases j with
    | zero =>
      simp at hj
      subst hj
      exact HCC.out
    | succ j => simp at hj
  case c3 => rw [fillB_len n 0 x (by omega)]; simp; omega
  case c4 => intro v hv; simp at hv; subst hv; rfl
  intro w1 hg1 hb1
  have HG1 : Hid (w1.heap[w.heap.size]? = some (.cells (fillB n 1 x).toArray 5 (0, 0))) := by
    have h := hg1.out
    have e := fillB_splice n 0 1 x (by omega)
    rw [show List.replicate 1 (Value.int .u8 (x : Nat)) = [.int .u8 (x : Nat)] from rfl] at e
    rw [e] at h
    exact h
  have HB1 := Lib.hid hb1
  clear hg1 hb1 hmk HG0 HC0 HB0 HM hc HCC
  go_wp2_with fail
  go_loopw [8] (fun i wr => ∃ k : Nat, 1 ≤ k ∧ k ≤ n ∧ i = .int .i64 (k : Nat) ∧ wr.heap[w.heap.size]? = some (.cells (fillB n k x).toArray 5 (0, 0)) ∧ Below w.heap.size w wr) (fun i _ => n - (intOf i).toNat)
  case atStart => exact ⟨1, Nat.le_refl _, h1, rfl, HG1.out, HB1.out⟩
  case round =>
    obtain ⟨k, hk1, hkn, rfl, hg, hb⟩ := hrel
    have HG := Lib.hid hg
    have HB := Lib.hid hb
    by_cases hlt : k < n
    · obtain ⟨m, hm, hmn, hm0⟩ : ∃ m, m = min k (n - k) ∧ k + m ≤ n ∧ 0 < m := ⟨_, rfl, by omega, by omega⟩
      have HM := Lib.hid hm
      clear hg hb hm
      have hgo : goInt (List.replicate m (Value.int .u8 (x : Nat))).length = .int .i64 (m : Nat) := by rw [List.length_replicate]; rfl
      have hkm : IntKind.i64.wrap ((k : Int) + (m : Int)) = (k : Int) + (m : Int) := by rw [IntKind.wrap_i64]; omega
      have hkn1 : (k : Int) ≤ (n : Int) := by omega
      have hnk : ¬ n = k := by omega
      go_wp2_with fail
      have HSRC : Hid (∀ j v, (List.replicate m (Value.int .u8 (x : Nat)))[j]? = some v → wr.drew.cell? ((⟨w.heap.size, 0, none⟩ : Addr).add j) = some v) := by
        intro j v hj
        rw [List.getElem?_replicate] at hj
        split at hj
        · injection hj with hj
          subst hj
          rw [Addr.add_lit, Nat.zero_add]
          refine (cell_of_row wr.drew w.heap.size j _ _ _ HG.out).trans ?_
          rw [List.getElem?_toArray]
          exact fillB_at n k x j (by have := HM.out; omega)
        · cases hj
      have HFIT : Hid (k + (List.replicate m (Value.int .u8 (x : Nat))).length ≤ (fillB n k x).length) := by
        show _ ≤ _
        rw [List.length_replicate, fillB_len n k x (by omega)]
        exact hmn
      have HONE : Hid (∀ v ∈ List.replicate m (Value.int .u8 (x : Nat)), v.oneCell' = true) := by
        intro v hv
        rw [List.mem_replicate] at hv
        obtain ⟨_, rfl⟩ := hv
        rfl
      have HLEN : Hid ((List.replicate m (Value.int .u8 (x : Nat))).length = Nat.min k (n - k)) := by
        show _ = _
        rw [List.length_replicate]
        exact HM.out
      have HGD : Hid (wr.drew.heap[w.heap.size]? = some (.cells (fillB n k x).toArray 5 (0, 0))) := HG.out
      have HBD := Lib.hid (HB.out.drew)
      have HSPL := Lib.hid (fillB_splice n k m x hmn)
      obtain ⟨cs, hcs⟩ : ∃ cs, cs = List.replicate m (Value.int .u8 (x : Nat)) := ⟨_, rfl⟩
      rw [← hcs] at HSRC HFIT HONE HLEN HSPL hgo
      generalize fillB n k x = cur at *
      clear hcs
      go_region_law (first | (go_must (refine step_copy_splice (by rfl) (.tmp 41) (.tmp 44) 22 22 (by rfl) 5 Try.underlying22 hsz1 (some ⟨w.heap.size, k, none⟩) (some ⟨w.heap.size, 0, none⟩) (n - k) (n - k) k n (by simp [Act.eval, Act.put]) (by simp [Act.eval, Act.put]) w.heap.size k cur 5 (by exact HGD.out) cs (by exact HLEN.out) (fun _ => ⟨rfl, _, rfl, HSRC.out⟩) (by exact HFIT.out) (by exact HONE.out) w.heap.size w (by exact HBD.out) (Nat.le_refl _) ?_; intro w4 hg4 hb4; rw [hgo])) | fail)
      all_goals
        have HG5 : Hid (w4.heap[w.heap.size]? = some (.cells (fillB n (k + m) x).toArray 5 (0, 0))) := by
          have h := hg4.out
          rw [HSPL.out] at h
          exact h
        have HB5 := Lib.hid hb4
        clear hg4 hb4 HSPL HBD HGD HLEN HONE HFIT HSRC
        simp only [Act.put, List.getElem_toArray, List.getElem_cons_zero, List.getElem_cons_succ, List.setIfInBounds_toArray, List.set_cons_zero, List.set_cons_succ]
        go_wp2
        go_roundw
        case rel => exact ⟨k + m, by omega, hmn, by go_num, HG5.out, HB5.out⟩
        case measure => simp [intOf]; omega
    · obtain rfl : k = n := by omega
      rw [fillB_full] at hg
      have HGF := Lib.hid hg
      clear hg hb HG
      go_wp2_with fail
      go_ret
      exact ⟨rfl, HGF.out, HB.out⟩
theorem same_any (n x : Nat) (h1 : 1 ≤ n) (hn : n ≤ 1000) (w : World) :
    Calls Try.prog 68 #[.int .i64 n, .int .u8 x] w fun e w' => ∃ gB, e = .returned (.slice (some ⟨gB, 0, none⟩) n n) ∧ w'.heap[gB]? = some (.cells (cells8 (List.replicate n x)).toArray 5 (0, 0)) ∧ w.heap.size ≤ gB ∧ Below w.heap.size w w' := by
  have hb0 : Below w.heap.size w (w.alloc (.cells #[.int .u8 (x : Nat)] 5)) := (Below.refl _ _).alloc (Nat.le_refl _) _
  have hc0 : (w.alloc (.cells #[.int .u8 (x : Nat)] 5)).cell? ⟨w.heap.size, 0, none⟩ = some (.int .u8 (x : Nat)) := by rw [cell_of_row _ _ 0 _ _ _ (heap_alloc_new w _)]; rfl
  have HR := Lib.hid (repeat_any w.heap.size n x h1 hn (w.alloc (.cells #[.int .u8 (x : Nat)] 5)) (by simp) hc0)
  have HB := Lib.hid hb0
  clear hb0 hc0
  go_enter Try.func68, Try.ntmps68
  go_wp2_with fail
  refine (HR.out).mono ?_; rintro e w' ⟨rfl, hg, hb⟩
  have HG := Lib.hid hg
  have HB2 := Lib.hid (HB.out.trans (hb.mono (by simp)))
  clear hg hb
  go_wp2
  go_ret
  refine ⟨_, rfl, ?_, by simp, HB2.out⟩
  have h := HG.out
  simp only [World.size_alloc] at h
  exact h
end Go.Proofs.Ytbgclbnbnpnolaa
