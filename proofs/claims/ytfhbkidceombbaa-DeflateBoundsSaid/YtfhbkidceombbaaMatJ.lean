/-
  Contracts: so many times -1.
-/
import Derived.Test.YtfhbkidceombbaaMatI
import Derived.Laws.CopyOwn
import Derived.Deep.OwnRows
import Derived.Laws.OwnMore
import Derived.BigRegion
import Derived.Deep.DeepMust
namespace Go.Proofs.Ytfhbkidceombbaa
set_option maxRecDepth 100000
open Go.RowKit Go.Deep Go.Joins

theorem mul64_oneI (n : Nat) (hn : n ≤ 1000000) (w : World) : Calls Try.prog 79 #[.int .u64 1, .int .u64 n] w fun e w' => e = .returned (.tuple #[.int .u64 0, .int .u64 n]) ∧ w = w' := by
  have h1 : bits .and .u64 1 4294967295 = 1 := by decide
  have h2 : bits .and .u64 (n : Int) 4294967295 = (n : Int) := by
    have := u64_and_nat n 4294967295 (by omega) (by omega)
    rw [show (4294967295 : Nat) = 2 ^ 32 - 1 from rfl, Nat.and_two_pow_sub_one_eq_mod, Nat.mod_eq_of_lt (by omega)] at this
    exact this
  have h3 : bits .and .u64 0 4294967295 = 0 := by decide
  have h4 : (n : Int) / 4294967296 = 0 := by omega
  have h5 : (n : Int) / 2 ^ 32 = 0 := by omega
  go_enter Try.func79, Try.ntmps79
  go_wp2
  go_ret2
  exact ⟨by simp, rfl⟩
theorem mul_oneI (n : Nat) (hn : n ≤ 1000000) (w : World) : Calls Try.prog 45 #[.int .u64 1, .int .u64 n] w fun e w' => e = .returned (.tuple #[.int .u64 0, .int .u64 n]) ∧ w = w' := by
  go_enter Try.func45, Try.ntmps45
  go_wp2_with (go_at_call 79; refine (mul64_oneI n hn _).mono ?_; rintro e w' ⟨rfl, rfl⟩)
  go_ret2
  exact ⟨rfl, rfl⟩

/-- A row of bytes, so many of them laid down. -/
def fillI (n k : Nat) (x : Int) : List Value := List.replicate k (.int .i64 x) ++ List.replicate (n - k) (.int .i64 0)
theorem fillI_len (n k : Nat) (x : Int) (h : k ≤ n) : (fillI n k x).length = n := by simp [fillI]; omega
theorem fillI_at (n k : Nat) (x : Int) (i : Nat) (h : i < k) : (fillI n k x)[i]? = some (.int .i64 x) := by
  unfold fillI
  rw [List.getElem?_append_left (by simpa using h), List.getElem?_replicate, if_pos h]
theorem fillI_zero (n : Nat) (x : Int) : madeCells #[.int .i64 0] n = (fillI n 0 x).toArray := by
  apply Array.ext'
  rw [toList_madeCells_one]
  simp [fillI]
theorem fillI_splice (n k m : Nat) (x : Int) (h : k + m ≤ n) : splice (fillI n k x) k (List.replicate m (.int .i64 x)) = fillI n (k + m) x := by
  unfold splice fillI
  rw [List.length_replicate, List.take_append_of_le_length (by simp), List.take_of_length_le (by simp), List.drop_append, List.drop_eq_nil_of_le (by simp), List.length_replicate, List.drop_replicate, List.nil_append, ← List.append_assoc, List.replicate_append_replicate, show n - k - (k + m - k) = n - (k + m) by omega]
theorem fillI_full (n : Nat) (x : Int) : fillI n n x = List.replicate n (Value.int .i64 x) := by simp [fillI]

set_option maxHeartbeats 4000000 in
theorem repeatI_any (gx n : Nat) (x : Int) (h1 : 1 ≤ n) (hn : n ≤ 10000) (w : World) (hgx : gx < w.heap.size) (hc : w.cell? ⟨gx, 0, none⟩ = some (.int .i64 x)) :
    Calls Try.prog 113 #[.slice (some ⟨gx, 0, none⟩) 1 1, .int .i64 n] w fun e w' => e = .returned (.slice (some ⟨w.heap.size, 0, none⟩) n n) ∧ w'.heap[w.heap.size]? = some (.cells (List.replicate n (Value.int .i64 x)).toArray 3 (0, 0)) ∧ Below w.heap.size w w' := by
  have HM := Lib.hid (mul_oneI n (by omega))
  have hmk := run_make_row' (P := Try.prog) 81 3 (.int .i64 0) 8 Try.underlying81 info_int rfl .i64 .i64 n (by omega) (by omega)
  have hB0 : Below w.heap.size w (w.alloc (.cells (madeCells #[.int .i64 0] n) 3)) := (Below.refl _ _).alloc (Nat.le_refl _) _
  have hg0 : (w.alloc (.cells (madeCells #[.int .i64 0] n) 3)).heap[w.heap.size]? = some (.cells (fillI n 0 x).toArray 3 (0, 0)) := by rw [fillI_zero n x]; exact heap_alloc_new w _
  have hc0 : (w.alloc (.cells (madeCells #[.int .i64 0] n) 3)).cell? ⟨gx, 0, none⟩ = some (.int .i64 x) := (hB0.cell (p := ⟨gx, 0, none⟩) hgx).trans hc
  have HCC := Lib.hid hc
  have HB0 := Lib.hid hB0
  have HG0 := Lib.hid hg0
  have HC0 := Lib.hid hc0
  have hwn : IntKind.u64.wrap (n : Int) = (n : Int) := by rw [IntKind.wrap_u64]; omega
  have hwi : IntKind.i64.wrap (n : Int) = (n : Int) := by rw [IntKind.wrap_i64]; omega
  have hsz1 : (Try.prog.info? 3).map (·.size) = some 1 := by kernel_rfl
  clear hB0 hg0 hc0
  go_enter Try.func113, Try.ntmps113
  have hlt0 : decide ((n : Int) < 0) = false := decide_eq_false (by omega)
  have hlt1 : decide ((9223372036854775807 : Int) < (n : Int)) = false := decide_eq_false (by omega)
  go_wp2_with fail
  refine (HM.out _).mono ?_; rintro e w' ⟨rfl, rfl⟩
  go_wp2_with (with_reducible refine wpList_copy_splice rfl (.tmp 31) (.tmp 32) 81 81 rfl 3 Try.underlying81 hsz1 (some ⟨w.heap.size, 0, none⟩) (some ⟨gx, 0, none⟩) n n 1 1 rfl rfl w.heap.size 0 (fillI n 0 x) 3 HG0.out [.int .i64 x] ?c1 ?c2 ?c3 ?c4 w.heap.size w HB0.out (Nat.le_refl _) ?_)
  case c1 => show 1 = min 1 n; omega
  case c2 =>
    intro j v hj
    cases j with
    | zero =>
      simp at hj
      subst hj
      exact HCC.out
    | succ j => simp at hj
  case c3 => rw [fillI_len n 0 x (by omega)]; simp; omega
  case c4 => intro v hv; simp at hv; subst hv; rfl
  intro w1 hg1 hb1
  have HG1 : Hid (w1.heap[w.heap.size]? = some (.cells (fillI n 1 x).toArray 3 (0, 0))) := by
    have h := hg1.out
    have e := fillI_splice n 0 1 x (by omega)
    rw [show List.replicate 1 (Value.int .i64 x) = [.int .i64 x] from rfl] at e
    rw [e] at h
    exact h
  have HB1 := Lib.hid hb1
  clear hg1 hb1 hmk HG0 HC0 HB0 HM hc HCC
  go_wp2_with fail
  go_loopw [8] (fun i wr => ∃ k : Nat, 1 ≤ k ∧ k ≤ n ∧ i = .int .i64 (k : Nat) ∧ wr.heap[w.heap.size]? = some (.cells (fillI n k x).toArray 3 (0, 0)) ∧ Below w.heap.size w wr) (fun i _ => n - (intOf i).toNat)
  case atStart => exact ⟨1, Nat.le_refl _, h1, rfl, HG1.out, HB1.out⟩
  case round =>
    obtain ⟨k, hk1, hkn, rfl, hg, hb⟩ := hrel
    have HG := Lib.hid hg
    have HB := Lib.hid hb
    by_cases hlt : k < n
    · obtain ⟨m, hm, hmn, hm0⟩ : ∃ m, m = min k (n - k) ∧ k + m ≤ n ∧ 0 < m := ⟨_, rfl, by omega, by omega⟩
      have HM := Lib.hid hm
      clear hg hb hm
      have hgo : goInt (List.replicate m (Value.int .i64 x)).length = .int .i64 (m : Nat) := by rw [List.length_replicate]; rfl
      have hkm : IntKind.i64.wrap ((k : Int) + (m : Int)) = (k : Int) + (m : Int) := by rw [IntKind.wrap_i64]; omega
      have hkn1 : (k : Int) ≤ (n : Int) := by omega
      have hnk : ¬ n = k := by omega
      go_wp2_with fail
      have HSRC : Hid (∀ j v, (List.replicate m (Value.int .i64 x))[j]? = some v → wr.drew.cell? ((⟨w.heap.size, 0, none⟩ : Addr).add j) = some v) := by
        intro j v hj
        rw [List.getElem?_replicate] at hj
        split at hj
        · injection hj with hj
          subst hj
          rw [Addr.add_lit, Nat.zero_add]
          refine (cell_of_row wr.drew w.heap.size j _ _ _ HG.out).trans ?_
          rw [List.getElem?_toArray]
          exact fillI_at n k x j (by have := HM.out; omega)
        · cases hj
      have HFIT : Hid (k + (List.replicate m (Value.int .i64 x)).length ≤ (fillI n k x).length) := by
        show _ ≤ _
        rw [List.length_replicate, fillI_len n k x (by omega)]
        exact hmn
      have HONE : Hid (∀ v ∈ List.replicate m (Value.int .i64 x), v.oneCell' = true) := by
        intro v hv
        rw [List.mem_replicate] at hv
        obtain ⟨_, rfl⟩ := hv
        rfl
      have HLEN : Hid ((List.replicate m (Value.int .i64 x)).length = Nat.min k (n - k)) := by
        show _ = _
        rw [List.length_replicate]
        exact HM.out
      have HGD : Hid (wr.drew.heap[w.heap.size]? = some (.cells (fillI n k x).toArray 3 (0, 0))) := HG.out
      have HBD := Lib.hid (HB.out.drew)
      have HSPL := Lib.hid (fillI_splice n k m x hmn)
      obtain ⟨cs, hcs⟩ : ∃ cs, cs = List.replicate m (Value.int .i64 x) := ⟨_, rfl⟩
      rw [← hcs] at HSRC HFIT HONE HLEN HSPL hgo
      generalize fillI n k x = cur at *
      clear hcs
      go_region_law (first | (go_must (refine step_copy_splice (by rfl) (.tmp 41) (.tmp 44) 81 81 (by rfl) 3 Try.underlying81 hsz1 (some ⟨w.heap.size, k, none⟩) (some ⟨w.heap.size, 0, none⟩) (n - k) (n - k) k n (by simp [Act.eval, Act.put]) (by simp [Act.eval, Act.put]) w.heap.size k cur 3 (by exact HGD.out) cs (by exact HLEN.out) (fun _ => ⟨rfl, _, rfl, HSRC.out⟩) (by exact HFIT.out) (by exact HONE.out) w.heap.size w (by exact HBD.out) (Nat.le_refl _) ?_; intro w4 hg4 hb4; rw [hgo])) | fail)
      all_goals
        have HG5 : Hid (w4.heap[w.heap.size]? = some (.cells (fillI n (k + m) x).toArray 3 (0, 0))) := by
          have h := hg4.out
          rw [HSPL.out] at h
          exact h
        have HB5 := Lib.hid hb4
        clear hg4 hb4 HSPL HBD HGD HLEN HONE HFIT HSRC
        simp only [Act.put, List.getElem_toArray, List.getElem_cons_zero, List.getElem_cons_succ, List.setIfInBounds_toArray, List.set_cons_zero, List.set_cons_succ]
        go_wp2
        go_roundw
        case rel => exact ⟨k + m, by omega, hmn, by go_num, HG5.out, HB5.out⟩
        case measure => simp [intOf]; omega
    · obtain rfl : k = n := by omega
      rw [fillI_full] at hg
      have HGF := Lib.hid hg
      clear hg hb HG
      go_wp2_with fail
      go_ret
      exact ⟨rfl, HGF.out, HB.out⟩
end Go.Proofs.Ytfhbkidceombbaa
