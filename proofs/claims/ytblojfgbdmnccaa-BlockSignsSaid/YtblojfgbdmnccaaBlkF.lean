/-
  An array of numbers equals itself, as the language compares arrays.
-/
import Derived.Test.YtblojfgbdmnccaaBlkE
import Derived.Laws.StructEq
namespace Go.Proofs.Ytblojfgbdmnccaa
open Go.Joins Go.RowKit Go.Deep
section
variable {P : Program} (w : World)

theorem run_equalIn_arrU (d : Nat) (t e : TypeId) (n : Nat) (ht : P.underlying t = some (.array n e)) (he : P.underlying e = some (.int .u32)) (hsz : ∀ w, (sizeOf e).run P w = .ok 1 w)
    (F : Nat → Nat) : (Op.equalIn (d + 2) t (.agg (arrU F n)) (.agg (arrU F n))).run P w = .ok true w := by
  rw [Op.equalIn]
  simp only [Sem.run_bind, run_underlying ht, Result.andThen_ok, hsz, Std.Legacy.Range.forIn_eq_forIn_range', Std.Legacy.Range.size, Nat.sub_zero, Nat.add_sub_cancel, Nat.div_one]
  have hl : ∀ i ∈ List.range' 0 n 1, i < n := fun i hi => by simpa using (List.mem_range'_1.1 hi).2
  generalize List.range' 0 n 1 = l at hl ⊢
  induction l with
  | nil => simp
  | cons i l ih =>
    have hi : i < n := hl i (by simp)
    have px : (part e (arrU F n) (i * 1)).run P w = .ok (.int .u32 (F i : Nat)) w := by
      simp [part, isAgg, run_underlying he, arrU_get F n i hi]
    have pe : (Op.equalIn (d + 1) e (.int .u32 (F i : Nat)) (.int .u32 (F i : Nat))).run P w = .ok true w := by
      rw [run_equalIn_int w d e .u32 .u32 _ _ he]
      simp
    simp only [List.forIn_cons, Sem.run_bind, px, pe, Result.andThen_ok]
    simp only [Bool.not_true, Bool.false_eq_true, if_false, Sem.run_pure, Result.andThen_ok]
    exact ih fun j hj => hl j (by simp [hj])
theorem size_one' {e : TypeId} (h : (P.info? e).map (·.size) = some 1) : ∀ w, (sizeOf e).run P w = .ok 1 w := by
  obtain ⟨i, hi, hs⟩ := Option.map_eq_some_iff.1 h
  intro w
  simp [sizeOf, typeInfo, hi, hs]

theorem wp_eql_arr {o : Oper} {a : Act} {K : Act → World → Prop} {Q : Exit → Act → World → Prop} (t u : TypeId) (x y : Operand) (ho : o.op = .binOp .eql t x y u) (cs : Array Value) (hx : a.eval x = .agg cs) (hy : a.eval y = .agg cs)
    (hm : P.eqGuardType P.depth t = false) (he : (binOp .eql t (.agg cs) (.agg cs)).run P w = .ok (.bool true) w) (h : K (a.put o.dst (.bool true)) w) : o.wp P a w K Q := by
  unfold Oper.wp execOp
  simp only [ho, hx, hy, Sem.run_bind, Sem.run_pure, Result.andThen_ok, run_eqGuard_agg w .eql t x y cs cs hm, he]
  exact h

theorem wpList_load_row_g {ops : Array Oper} {rest : List Oper} {o : Oper} {a : Act} {Q : Exit → Act → World → Prop} (hw : Region.wanted o (yielded ops a.tmps) = true) (ty : TypeId) (x : Operand) (ho : o.op = .load ty x)
    (g : Nat) (hx : a.eval x = .pointer (some ⟨g, 0, none⟩)) (t : TypeId) (cs : Array Value) (fr : Nat × Nat) (d : TypeDesc) (hg : w.heap[g]? = some (.cells cs t fr))
    (hu : P.underlying ty = some d) (hd : (match d with | .struct _ | .array _ _ => true | _ => false) = true) (hi : (P.info? ty).map (·.size) = some cs.size)
    (h : wpList P ops Q rest (a.put o.dst (.agg cs)) w) : wpList P ops Q (o :: rest) a w :=
  wpList_step fun _ hK => by rw [if_pos hw]; exact wp_load_row ty x ho g hx t cs fr d hg hu hd hi (hK _ _ h)

theorem wpList_eql_arr_g {ops : Array Oper} {rest : List Oper} {o : Oper} {a : Act} {Q : Exit → Act → World → Prop} (hw : Region.wanted o (yielded ops a.tmps) = true) (t u : TypeId) (x y : Operand) (ho : o.op = .binOp .eql t x y u) (cs : Array Value) (hx : a.eval x = .agg cs) (hy : a.eval y = .agg cs)
    (hm : P.eqGuardType P.depth t = false) (he : (binOp .eql t (.agg cs) (.agg cs)).run P w = .ok (.bool true) w) (h : wpList P ops Q rest (a.put o.dst (.bool true)) w) : wpList P ops Q (o :: rest) a w :=
  wpList_step fun _ hK => by rw [if_pos hw]; exact wp_eql_arr w t u x y ho cs hx hy hm he (hK _ _ h)
end

theorem guard286 : Try.prog.eqGuardType Try.prog.depth 81 = false := by kernel_rfl
theorem guard30 : Try.prog.eqGuardType Try.prog.depth 82 = false := by kernel_rfl
theorem size_u32 : (Try.prog.info? 78).map (·.size) = some 1 := by kernel_rfl
theorem equal286 (F : Nat → Nat) (w : World) : (binOp .eql 81 (.agg (arrU F 286)) (.agg (arrU F 286))).run Try.prog w = .ok (.bool true) w := by
  rw [run_eql_struct, run_equalIn_arrU w 9998 81 78 286 Try.underlying81 Try.underlying78 (size_one' size_u32) F]
  rfl
theorem equal30 (F : Nat → Nat) (w : World) : (binOp .eql 82 (.agg (arrU F 30)) (.agg (arrU F 30))).run Try.prog w = .ok (.bool true) w := by
  rw [run_eql_struct, run_equalIn_arrU w 9998 82 78 30 Try.underlying82 Try.underlying78 (size_one' size_u32) F]
  rfl
theorem same286 (F : Nat → Nat) (w : World) : (Op.equalIn 10000 81 (.agg (arrU F 286)) (.agg (arrU F 286))).run Try.prog w = .ok true w :=
  run_equalIn_arrU w 9998 81 78 286 Try.underlying81 Try.underlying78 (size_one' size_u32) F
theorem same30 (F : Nat → Nat) (w : World) : (Op.equalIn 10000 82 (.agg (arrU F 30)) (.agg (arrU F 30))).run Try.prog w = .ok true w :=
  run_equalIn_arrU w 9998 82 78 30 Try.underlying82 Try.underlying78 (size_one' size_u32) F
end Go.Proofs.Ytblojfgbdmnccaa
