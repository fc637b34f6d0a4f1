/-
  An array of a few numbers equals itself, as the language compares arrays.
-/
import Derived.Test.YtmhalkkfpbkafaaDoorFlH
import Derived.Laws.StructEq
namespace Go.Proofs.YtmhalkkfpbkafaaDoor
set_option maxRecDepth 100000
open Go.Joins Go.RowKit Go.Deep
section
variable {P : Program} (w : World)
def arrI (k : IntKind) (F : Nat → Int) (n : Nat) : Array Value := ((List.range n).map fun i => Value.int k (F i)).toArray
theorem arrI_get (k : IntKind) (F : Nat → Int) (n i : Nat) (h : i < n) : (arrI k F n)[i]? = some (.int k (F i)) := by
  simp [arrI, h]
theorem run_equalIn_arrI (d : Nat) (t e : TypeId) (n : Nat) (k : IntKind) (ht : P.underlying t = some (.array n e)) (he : P.underlying e = some (.int k)) (hsz : ∀ w, (sizeOf e).run P w = .ok 1 w)
    (F : Nat → Int) : (Op.equalIn (d + 2) t (.agg (arrI k F n)) (.agg (arrI k F n))).run P w = .ok true w := by
  rw [Op.equalIn]
  simp only [Sem.run_bind, run_underlying ht, Result.andThen_ok, hsz, Std.Legacy.Range.forIn_eq_forIn_range', Std.Legacy.Range.size, Nat.sub_zero, Nat.add_sub_cancel, Nat.div_one]
  have hl : ∀ i ∈ List.range' 0 n 1, i < n := fun i hi => by simpa using (List.mem_range'_1.1 hi).2
  generalize List.range' 0 n 1 = l at hl ⊢
  induction l with
  | nil => simp
  | cons i l ih =>
    have hi : i < n := hl i (by simp)
    have px : (part e (arrI k F n) (i * 1)).run P w = .ok (.int k (F i)) w := by
      simp [part, isAgg, run_underlying he, arrI_get k F n i hi]
    have pe : (Op.equalIn (d + 1) e (.int k (F i)) (.int k (F i))).run P w = .ok true w := by
      rw [run_equalIn_int w d e k k _ _ he]
      simp
    simp only [List.forIn_cons, Sem.run_bind, px, pe, Result.andThen_ok]
    simp only [Bool.not_true, Bool.false_eq_true, if_false, Sem.run_pure, Result.andThen_ok]
    exact ih fun j hj => hl j (by simp [hj])
theorem size_one' {e : TypeId} (h : (P.info? e).map (·.size) = some 1) : ∀ w, (sizeOf e).run P w = .ok 1 w := by
  obtain ⟨i, hi, hs⟩ := Option.map_eq_some_iff.1 h
  intro w
  simp [sizeOf, typeInfo, hi, hs]
end
end Go.Proofs.YtmhalkkfpbkafaaDoor
