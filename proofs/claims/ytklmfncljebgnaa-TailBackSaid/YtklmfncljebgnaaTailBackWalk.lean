/-
  The walk of TailBack.
-/
import Derived.Test.YtklmfncljebgnaaTlQ
import Derived.Test.YtklmfncljebgnaaLiShelf
namespace Go.Proofs.Ytklmfncljebgnaa
set_option maxRecDepth 100000
set_option linter.unusedSimpArgs false
set_option linter.unusedVariables false
open Go.RowKit Go.Joins Go.Deep Go.Op
theorem eqvT (p n z o : Nat) (c : ByteArray) (b : Bool) (w : World) : (Op.equalIn 9999 61 (.agg #[.int .i64 (p : Nat), .int .u64 (n : Nat), .int .u64 (z : Nat), .int .u64 (o : Nat), .string c, .bool b]) (.agg #[.int .i64 (p : Nat), .int .u64 (n : Nat), .int .u64 (z : Nat), .int .u64 (o : Nat), .string c, .bool b])).run Try.prog w = .ok true w := by
  rw [run_equalIn_struct w 9998 61 _ _ (by kernel_rfl) (by kernel_rfl)]
  simp [go_sem, Program.fieldsOf, Try.underlying61]
theorem pr_cases (a c : ByteArray) (n m o : Nat) (wd : Bool) (ha : a.size ≤ 2000) (hc : c.size ≤ 1000) (hn : n < 18446744073709551616) (h : o + m = a.size) :
    (65535 ≤ n ∧ wd = false ∧ prE n m o c wd = .tuple #[.string ⟨#[]⟩, .int .i64 8]) ∨
    ∃ X : ByteArray, ∃ k : Nat, prE n m o c wd = .tuple #[.string X, .int .i64 0] ∧ X.size = k + 22 + c.size ∧ k ≤ 76 ∧ ((∀ j, a.size + k < j → j + 22 ≤ (a ++ X).size → nAt (a ++ X) j 4 ≠ 101010256) → fdE (a ++ X) = ((a.size, n, m, o, c, wd), 0)) := by
  unfold prE
  rw [if_neg (by omega)]
  cases wd with
  | true =>
    rw [if_pos rfl]
    exact .inr ⟨_, 76, rfl, by rw [ByteArray.size_append, wideT_size, endT_size]; omega, by omega, fun hl => back_wide a c n m o hn h (by omega) (by omega) hl⟩
  | false =>
    rw [if_neg (by decide)]
    by_cases hb : 65535 ≤ n
    · rw [if_pos (by unfold bigB; rw [decide_eq_true_iff]; exact .inl hb)]
      exact .inl ⟨hb, rfl, rfl⟩
    · rw [if_neg (by unfold bigB; rw [decide_eq_true_iff]; omega)]
      exact .inr ⟨_, 0, rfl, by rw [endT_size, Nat.zero_add], by omega, fun hl => back_plain a c n m o (by omega) (by omega) (by omega) (by omega) hl⟩
set_option maxHeartbeats 8000000 in
theorem tailBack_walk (a c : ByteArray) (iN iZ : Int) (wd : Bool) (fa : a.size ≤ maxLen) (fc : c.size ≤ maxLen) (fn : (Lit.int .u64 iN).wf = true) (fz : (Lit.int .u64 iZ).wf = true) (w : World) :
    Calls Try.prog 8 #[.string a, .string c, .int .u64 iN, .int .u64 iZ, .bool wd] w fun e w' => e = .returned (.bool true) ∧ Below w.heap.size w w' := by
  obtain ⟨n, rfl, ln⟩ := nat_u64 fn
  obtain ⟨y, rfl, ly⟩ := nat_u64 fz
  unfold maxLen at *
  have HB : Hid (Below w.heap.size w w) := Below.refl _ _
  clear fn fz
  go_enter Try.func8, Try.ntmps8
  go_wp2_with fail
  refine (awake18_any _).mono ?_; rintro r w1 ⟨rfl, hb⟩
  replace HB := Lib.hid (HB.out.trans (hb.mono HB.out.size))
  clear hb
  by_cases hbig : 2000 < a.size
  · have hd : decide ((2000 : Int) < (a.size : Int)) = true := decide_eq_true (by omega)
    go_wp2_with fail
    go_ret
    exact ⟨rfl, HB.out⟩
  have hd : decide ((2000 : Int) < (a.size : Int)) = false := decide_eq_false (by omega)
  by_cases hbig2 : 1000 < c.size
  · have hd2 : decide ((1000 : Int) < (c.size : Int)) = true := decide_eq_true (by omega)
    go_wp2_with fail
    go_ret
    exact ⟨rfl, HB.out⟩
  have hd2 : decide ((1000 : Int) < (c.size : Int)) = false := decide_eq_false (by omega)
  obtain ⟨m, hm⟩ : ∃ m, m = y % (a.size + 1) := ⟨_, rfl⟩
  have hml : m ≤ a.size := by rw [hm]; exact Nat.le_of_lt_succ (Nat.mod_lt _ (by omega))
  obtain ⟨o, ho⟩ : ∃ o, o + m = a.size := ⟨a.size - m, by omega⟩
  have hw1 : IntKind.u64.wrap (a.size : Int) = (a.size : Int) := by rw [IntKind.wrap_u64]; omega
  have hw2 : IntKind.u64.wrap ((a.size : Int) + 1) = (a.size : Int) + 1 := by rw [IntKind.wrap_u64]; omega
  have hw3 : ((y : Int)).tmod ((a.size : Int) + 1) = (m : Int) := by rw [hm]; rfl
  have hw3' : ((y : Int)) % ((a.size : Int) + 1) = (m : Int) := by rw [hm]; rfl
  have hw4 : IntKind.u64.wrap (m : Int) = (m : Int) := by rw [IntKind.wrap_u64]; omega
  have hw5 : IntKind.u64.wrap ((a.size : Int) - (m : Int)) = (o : Int) := by rw [IntKind.wrap_u64]; omega
  have hz1 : (((a.size : Int) + 1) == 0) = false := beq_eq_false_iff_ne.2 (by omega)
  have hz2 : ¬ ((a.size : Int) + 1) = 0 := by omega
  have HM := Lib.hid hm
  clear hm
  have HA : Hid ((w1.alloc (.cells #[.int .i64 (a.size : Int), .int .u64 (n : Nat), .int .u64 (m : Nat), .int .u64 (o : Nat), .string c, .bool wd] 61)).heap[w1.heap.size]? = some (.cells #[.int .i64 (a.size : Int), .int .u64 (n : Nat), .int .u64 (m : Nat), .int .u64 (o : Nat), .string c, .bool wd] 61 (0, 0))) := heap_alloc_new _ _
  have hb := ((Below.refl _ _).alloc (Nat.le_refl _) _ : Below w1.heap.size w1 (w1.alloc (.cells #[.int .i64 (a.size : Int), .int .u64 (n : Nat), .int .u64 (m : Nat), .int .u64 (o : Nat), .string c, .bool wd] 61)))
  replace HB := Lib.hid (HB.out.trans (hb.mono HB.out.size))
  clear hb
  have HP := Lib.hid (fun w => printT_any a.size n m o ln (by omega) (by omega) c (by omega) wd w)
  have HPC := Lib.hid (pr_cases a c n m o wd (by omega) (by omega) ln ho)
  go_wp2_with fail
  generalize w1.alloc (.cells #[.int .i64 (a.size : Int), .int .u64 (n : Nat), .int .u64 (m : Nat), .int .u64 (o : Nat), .string c, .bool wd] 61) = w2 at *
  generalize w1.heap.size = ga at *
  rcases HPC.out with ⟨hn, rfl, hX⟩ | ⟨X, k, hX, hXs, hk, hfd⟩
  · rw [hX] at HP
    clear hX HPC
    have hge : decide ((65535 : Int) ≤ (n : Int)) = true := decide_eq_true (by omega)
    refine (HP.out _).mono ?_; rintro r w3 ⟨rfl, hb⟩
    replace HB := Lib.hid (HB.out.trans (hb.mono HB.out.size))
    go_wp2_with fail
    go_ret
    exact ⟨rfl, HB.out⟩
  rw [hX] at HP
  clear hX HPC
  refine (HP.out _).mono ?_; rintro r w3 ⟨rfl, hb⟩
  replace HB := Lib.hid (HB.out.trans (hb.mono HB.out.size))
  replace HA := Lib.hid ((hb.block _ (lt_of_some HA.out)).trans HA.out)
  clear hb HP hw1 hw2 hw3 hw3' hw4 hw5 hz1 hz2 HM
  obtain ⟨q, hq⟩ : ∃ q : Int, q = Lib.lastIndex X.data.toList [80, 75, 5, 6] := ⟨_, rfl⟩
  have HLI : Hid (∀ w : World, Calls Try.prog 32 #[.string X, .string ⟨#[80, 75, 5, 6]⟩] w fun e w' => e = .returned (.int .i64 q) ∧ w' = w) := fun w => by
    rw [hq]
    exact Go.Proofs.YtklmfncljebgnaaLi.sh_strings_LastIndex X ⟨#[80, 75, 5, 6]⟩ (by omega) w
  have HFD : Hid (q ≤ (k : Int) → fdE (a ++ X) = ((a.size, n, m, o, c, wd), 0)) := fun h => hfd (fun j h1 h2 => last_behind a X k (by rw [← hq]; exact h) j h1 h2)
  have hx1 : IntKind.i64.wrap ((X.size : Int) - 22) = (X.size : Int) - 22 := by rw [IntKind.wrap_i64]; omega
  have hx2 : IntKind.i64.wrap ((X.size : Int) - 22 - (c.size : Int)) = (k : Int) := by rw [IntKind.wrap_i64]; omega
  clear hq hfd
  go_wp2_with fail
  refine (HLI.out _).mono ?_; rintro r w4 ⟨rfl, rfl⟩
  by_cases hqk : (k : Int) < q
  · have hqd : decide ((k : Int) < q) = true := decide_eq_true hqk
    go_wp2_with fail
    go_ret
    exact ⟨rfl, HB.out⟩
  have hqd : decide ((k : Int) < q) = false := decide_eq_false hqk
  have HF : Hid (fdV (fdE (a ++ X)) = fdV ((a.size, n, m, o, c, wd), 0)) := by show _ = _; rw [HFD.out (by omega)]
  have HFI := Lib.hid (fun w => find_any (a ++ X) (by rw [ByteArray.size_append]; omega) w)
  clear HFD
  go_wp2_with fail
  refine (HFI.out _).mono ?_; rintro r w5 ⟨rfl, hb⟩
  rw [HF.out]
  clear HF HFI hx1 hx2 hXs
  replace HB := Lib.hid (HB.out.trans (hb.mono HB.out.size))
  replace HA := Lib.hid ((hb.block _ (lt_of_some HA.out)).trans HA.out)
  clear hb
  have HC : Hid ((w5.alloc (.cells #[.int .i64 (a.size : Int), .int .u64 (n : Nat), .int .u64 (m : Nat), .int .u64 (o : Nat), .string c, .bool wd] 61)).heap[w5.heap.size]? = some (.cells #[.int .i64 (a.size : Int), .int .u64 (n : Nat), .int .u64 (m : Nat), .int .u64 (o : Nat), .string c, .bool wd] 61 (0, 0))) := heap_alloc_new _ _
  have hb := ((Below.refl _ _).alloc (Nat.le_refl _) _ : Below w5.heap.size w5 (w5.alloc (.cells #[.int .i64 (a.size : Int), .int .u64 (n : Nat), .int .u64 (m : Nat), .int .u64 (o : Nat), .string c, .bool wd] 61)))
  replace HB := Lib.hid (HB.out.trans (hb.mono HB.out.size))
  replace HA := Lib.hid ((hb.block _ (lt_of_some HA.out)).trans HA.out)
  clear hb
  have x0 : (w5.alloc (.cells #[.int .i64 (a.size : Int), .int .u64 (n : Nat), .int .u64 (m : Nat), .int .u64 (o : Nat), .string c, .bool wd] 61)).cell? ⟨ga, 0, none⟩ = some (.int .i64 (a.size : Int)) := by rw [Lib.cell_of_heap HA.out]; rfl
  have x1 : (w5.alloc (.cells #[.int .i64 (a.size : Int), .int .u64 (n : Nat), .int .u64 (m : Nat), .int .u64 (o : Nat), .string c, .bool wd] 61)).cell? ⟨ga, 1, none⟩ = some (.int .u64 (n : Nat)) := by rw [Lib.cell_of_heap HA.out]; rfl
  have x2 : (w5.alloc (.cells #[.int .i64 (a.size : Int), .int .u64 (n : Nat), .int .u64 (m : Nat), .int .u64 (o : Nat), .string c, .bool wd] 61)).cell? ⟨ga, 2, none⟩ = some (.int .u64 (m : Nat)) := by rw [Lib.cell_of_heap HA.out]; rfl
  have x3 : (w5.alloc (.cells #[.int .i64 (a.size : Int), .int .u64 (n : Nat), .int .u64 (m : Nat), .int .u64 (o : Nat), .string c, .bool wd] 61)).cell? ⟨ga, 3, none⟩ = some (.int .u64 (o : Nat)) := by rw [Lib.cell_of_heap HA.out]; rfl
  have x4 : (w5.alloc (.cells #[.int .i64 (a.size : Int), .int .u64 (n : Nat), .int .u64 (m : Nat), .int .u64 (o : Nat), .string c, .bool wd] 61)).cell? ⟨ga, 4, none⟩ = some (.string c) := by rw [Lib.cell_of_heap HA.out]; rfl
  have x5 : (w5.alloc (.cells #[.int .i64 (a.size : Int), .int .u64 (n : Nat), .int .u64 (m : Nat), .int .u64 (o : Nat), .string c, .bool wd] 61)).cell? ⟨ga, 5, none⟩ = some (.bool wd) := by rw [Lib.cell_of_heap HA.out]; rfl
  have hEQ := fun w => eqvT a.size n m o c wd w
  unfold fdV
  go_wp2_with (first | (refine wpList_load_row rfl 61 (.tmp 15) rfl w5.heap.size rfl 61 _ (0, 0) _ HC.out Try.underlying61 rfl info_endv ?_) | (refine wpList_load_row rfl 61 (.tmp 12) rfl ga rfl 61 _ (0, 0) _ HA.out Try.underlying61 rfl info_endv ?_))
  go_ret
  exact ⟨rfl, HB.out⟩
end Go.Proofs.Ytklmfncljebgnaa
