/-
  Filter: what more patterns do, by mathematics; texts appended.
-/
import Derived.Test.YtkakegeammajgaaDoorFiF
import Derived.Deep.AppendSrc
import Derived.Deep.Upon
import Derived.Maps.AppendAt
namespace Go.Proofs.YtkakegeammajgaaDoor
set_option maxRecDepth 100000
set_option linter.unusedSimpArgs false
set_option linter.unusedVariables false
open Go.RowKit Go.Joins Go.Deep
open Go.Lib hiding intOf
theorem anyM_app (a b : List (List Atm)) (s : ByteArray) : anyM (a ++ b) s = (anyM a s || anyM b s) := by unfold anyM; rw [List.any_append]
theorem mch_more (a b : List (List Atm)) (s : ByteArray) (dir : Bool) (h : mchM a s dir = true) : mchM (a ++ b) s dir = true := by
  unfold mchM at *
  rw [anyM_app, anyM_app]
  revert h
  cases anyM a s <;> cases anyM b s <;> cases dir <;> cases anyM a (slash s) <;> cases anyM b (slash s) <;> simp
/-- More patterns out never mean more; more in, to some, never fewer. -/
theorem tak_more (ins outs : List (List Atm)) (p : List Atm) (s : ByteArray) (dir : Bool) :
    ((!takM ins (outs ++ [p]) s dir || takM ins outs s dir) && (decide (ins.length = 0) || !takM ins outs s dir || takM (ins ++ [p]) outs s dir)) = true := by
  have h1 := mch_more outs [p] s dir
  have h2 := mch_more ins [p] s dir
  unfold takM
  have e : decide ((ins ++ [p]).length = 0) = false := decide_eq_false (by simp)
  rw [e]
  revert h1 h2
  generalize mchM outs s dir = a
  generalize mchM (outs ++ [p]) s dir = b
  generalize mchM ins s dir = c
  generalize mchM (ins ++ [p]) s dir = d
  generalize decide (ins.length = 0) = z
  cases a <;> cases b <;> cases c <;> cases d <;> cases z <;> simp
theorem tak_all (s : ByteArray) (dir : Bool) : takM [] [] s dir = true := by
  unfold takM mchM anyM
  cases dir <;> rfl
theorem map_snoc {ss : List ByteArray} {s : ByteArray} {pats : List (List Atm)} (h : (ss ++ [s]).map cmp1 = pats.map some) : ∃ ps p, pats = ps ++ [p] ∧ ss.map cmp1 = ps.map some ∧ cmp1 s = some p := by
  rw [List.map_append] at h
  have hl : pats.length = ss.length + 1 := by have := congrArg List.length h; simpa using this.symm
  refine ⟨pats.take ss.length, pats[ss.length]'(by omega), ?_, ?_, ?_⟩
  · have e := List.take_succ_eq_append_getElem (l := pats) (i := ss.length) (by omega)
    rw [← e, List.take_of_length_le (by omega)]
  · have e := congrArg (List.take ss.length) h
    rw [List.take_left' (by simp), ← List.map_take] at e
    exact e
  · have e := congrArg (fun l => l[ss.length]?) h

    rw [List.getElem?_append_right (by simp), List.getElem?_map, List.getElem?_map, List.getElem?_eq_getElem (show ss.length < pats.length by omega)] at e
    simpa using e
theorem map_one {l : List (List Atm)} {l2 : List (List Atm)} (h : l.map some = l2.map some) : l = l2 := by
  have := congrArg (List.map fun (o : Option (List Atm)) => o.getD []) h
  simpa [List.map_map, Function.comp_def] using this
theorem parts_str : (Tryd.prog.info? 9).map (fun i => (i.zero, i.size, i.bytes)) = some (some (.string ⟨#[]⟩), 1, 16) := by kernel_rfl
/-- All of some texts put behind nothing. -/
theorem wpList_append_txs {w : World} {ops : Array Oper} {rest : List Oper} {o : Oper} {a : Act} {Q : Exit → Act → World → Prop} (hgd : o.guard = none) (s x : Operand)
    (ho : o.op = .call { callee := .builtin .append, args := #[s, x], argTypes := #[22, 22] }) (hs : a.eval s = .slice none 0 0) (A : Option Addr) (c : Nat) (ss : List ByteArray) (hx : a.eval x = .slice A ss.length c) (hT : TxS w A ss) (hA : A = none → ss = []) (hn : ss.length ≤ 1000)
    (h : ∀ v' w', w'.ownsRow w.heap.size 9 1 v' ss.length (ss.map Value.string) → w.grownBy w' none → wpList Tryd.prog ops Q rest (a.put o.dst v') w') : wpList Tryd.prog ops Q (o :: rest) a w := by
  obtain ⟨i0, hi, hz0, hz1, hz2⟩ := parts_of parts_str
  cases A with
  | none =>
    obtain rfl : ss = [] := hA rfl
    refine wpList_plain hgd fun K hK => ?_
    have hr := run_append_nothing (P := Tryd.prog) w 22 22 o.type 9 i0 Tryd.underlying22 hi none 0 0 (Nat.le_refl _) (.slice none 0 c) (Src.ofNil w Tryd.underlying22 c)
    have hx' : a.eval x = .slice none 0 c := hx
    unfold Oper.wp execOp
    simp only [ho, resolve, invoke, builtin, Sem.run_bind, Sem.run_pure, Result.andThen_ok, List.map_toArray, List.map_cons, List.map_nil, hs, hx', hr]
    exact hK _ _ (h _ _ (World.ownsRow_nil _ _ _ _) (World.grownBy.refl _ _))
  | some ad =>
    refine wpList_append_own_at w hgd s x _ ho w.heap.size 9 i0 (.string ⟨#[]⟩) 1 16 Tryd.underlying22 hi hz0 hz1 hz2 rfl (by decide) (.slice none 0 0) 0 [] hs (World.ownsRow_nil _ _ _ _) ad ss.length c (ss.map Value.string) hx (by simp) (fun j u hj => ?_) (fun u hu => ?_) (by unfold maxLen; omega) (by omega) (Nat.le_refl _) (fun v' w' h1 h2 _ _ => ?_)
    · rw [List.getElem?_map] at hj
      obtain ⟨y, hy, rfl⟩ := Option.map_eq_some_iff.1 hj
      have hlt : j < ss.length := (List.getElem?_eq_some_iff.1 hy).1
      obtain ⟨b, off, e, hb, hc⟩ := hT (by omega)
      injection e with e
      subst e
      exact (show (⟨b, off, none⟩ : Addr).add j = ⟨b, off + j, none⟩ by simp [Addr.add]) ▸ hc j y hy
    · obtain ⟨y, _, rfl⟩ := List.mem_map.1 hu
      rfl
    · refine h v' w' ?_ h2
      rw [Nat.zero_add, List.nil_append] at h1
      exact h1
theorem txs_of_own {w : World} {B n c : Nat} {A : Option Addr} {ss : List ByteArray} (h : w.ownsRow B 9 1 (.slice A n c) n (ss.map Value.string)) : TxS w A ss := fun h0 => by
  have hl : ss.length = n := by have := h.1; simpa using this
  obtain ⟨b, cur, e, hb, hc⟩ := own_cur h (by omega)
  refine ⟨b, 0, e, lt_of_block hb, fun i x hx => ?_⟩
  rw [Nat.zero_add]
  exact (cell_of_row _ _ _ _ _ _ hb).trans (hc i _ (by rw [List.getElem?_map, hx]; rfl))
end Go.Proofs.YtkakegeammajgaaDoor
