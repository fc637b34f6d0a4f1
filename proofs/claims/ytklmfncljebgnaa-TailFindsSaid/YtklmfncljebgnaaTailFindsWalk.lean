/-
  The walk of TailFinds.
-/
import Derived.Test.YtklmfncljebgnaaTlO
namespace Go.Proofs.Ytklmfncljebgnaa
set_option maxRecDepth 100000
set_option linter.unusedSimpArgs false
set_option linter.unusedVariables false
open Go.RowKit Go.Joins Go.Deep Go.Op
theorem eqvE (p n z o : Nat) (c : ByteArray) (b : Bool) (w : World) : (Op.equalIn 9999 64 (.agg #[.int .i64 (p : Nat), .int .u64 (n : Nat), .int .u64 (z : Nat), .int .u64 (o : Nat), .string c, .bool b]) (.agg #[.int .i64 (p : Nat), .int .u64 (n : Nat), .int .u64 (z : Nat), .int .u64 (o : Nat), .string c, .bool b])).run Try.prog w = .ok true w := by
  rw [run_equalIn_struct w 9998 64 _ _ (by kernel_rfl) (by kernel_rfl)]
  simp [go_sem, Program.fieldsOf, Try.underlying64]
set_option maxHeartbeats 8000000 in
theorem tailFinds_walk (s : ByteArray) (fs : s.size ≤ maxLen) (w : World) :
    Calls Try.prog 6 #[.string s] w fun e w' => e = .returned (.bool true) ∧ Below w.heap.size w w' := by
  unfold maxLen at fs
  have HB : Hid (Below w.heap.size w w) := Below.refl _ _
  go_enter Try.func6, Try.ntmps6
  go_wp2_with fail
  refine (awake18_any _).mono ?_; rintro r w1 ⟨rfl, hb⟩
  replace HB := Lib.hid (HB.out.trans (hb.mono HB.out.size))
  clear hb
  by_cases hbig : 5000 < s.size
  · have hd : decide ((5000 : Int) < (s.size : Int)) = true := decide_eq_true (by omega)
    go_wp2_with fail
    go_ret
    exact ⟨rfl, HB.out⟩
  have hd : decide ((5000 : Int) < (s.size : Int)) = false := decide_eq_false (by omega)
  have HP := Lib.hid (fun w => find_any s (by omega) w)
  have HQ := Lib.hid (fun w => rfind_any s (by omega) w)
  obtain ⟨⟨⟨p, n, z, o, c, b⟩, f⟩, hX⟩ : ∃ X, X = fdE s := ⟨_, rfl⟩
  rw [← hX] at HP HQ
  clear hX
  have HEQ := Lib.hid (fun w => eqvE p n z o c b w)
  have hee : (((f : Nat) : Int) == (f : Nat)) = true := by simp
  go_wp2_with fail
  refine (HP.out _).mono ?_; rintro r w2 ⟨rfl, hb⟩
  replace HB := Lib.hid (HB.out.trans (hb.mono HB.out.size))
  clear hb HP
  unfold fdV
  have HA : Hid ((w2.alloc (.cells #[.int .i64 (p : Nat), .int .u64 (n : Nat), .int .u64 (z : Nat), .int .u64 (o : Nat), .string c, .bool b] 61)).heap[w2.heap.size]? = some (.cells #[.int .i64 (p : Nat), .int .u64 (n : Nat), .int .u64 (z : Nat), .int .u64 (o : Nat), .string c, .bool b] 61 (0, 0))) := heap_alloc_new _ _
  have hb := ((Below.refl _ _).alloc (Nat.le_refl _) _ : Below w2.heap.size w2 (w2.alloc (.cells #[.int .i64 (p : Nat), .int .u64 (n : Nat), .int .u64 (z : Nat), .int .u64 (o : Nat), .string c, .bool b] 61)))
  replace HB := Lib.hid (HB.out.trans (hb.mono HB.out.size))
  clear hb
  go_wp2_with fail
  generalize w2.alloc (.cells #[.int .i64 (p : Nat), .int .u64 (n : Nat), .int .u64 (z : Nat), .int .u64 (o : Nat), .string c, .bool b] 61) = w4 at *
  generalize w2.heap.size = ga at *
  refine (HQ.out _).mono ?_; rintro r w5 ⟨rfl, hb⟩
  replace HA := Lib.hid ((hb.block _ (lt_of_some HA.out)).trans HA.out)
  replace HB := Lib.hid (HB.out.trans (hb.mono HB.out.size))
  clear hb HQ
  unfold fdV
  have HC : Hid ((w5.alloc (.cells #[.int .i64 (p : Nat), .int .u64 (n : Nat), .int .u64 (z : Nat), .int .u64 (o : Nat), .string c, .bool b] 64)).heap[w5.heap.size]? = some (.cells #[.int .i64 (p : Nat), .int .u64 (n : Nat), .int .u64 (z : Nat), .int .u64 (o : Nat), .string c, .bool b] 64 (0, 0))) := heap_alloc_new _ _
  have hb := ((Below.refl _ _).alloc (Nat.le_refl _) _ : Below w5.heap.size w5 (w5.alloc (.cells #[.int .i64 (p : Nat), .int .u64 (n : Nat), .int .u64 (z : Nat), .int .u64 (o : Nat), .string c, .bool b] 64)))
  replace HB := Lib.hid (HB.out.trans (hb.mono HB.out.size))
  replace HA := Lib.hid ((hb.block _ (lt_of_some HA.out)).trans HA.out)
  clear hb
  have hEQ := HEQ.out
  clear HEQ
  go_wp2_with (first | (refine wpList_load_row rfl 61 (.tmp 3) rfl ga rfl 61 _ (0, 0) _ HA.out Try.underlying61 rfl info_endv ?_) | (refine wpList_load_row rfl 64 (.tmp 5) rfl w5.heap.size rfl 64 _ (0, 0) _ HC.out Try.underlying64 rfl info_rend ?_))
  go_ret
  exact ⟨rfl, HB.out⟩
end Go.Proofs.Ytklmfncljebgnaa
