/-
  Trees: slices.Grow of nil, slices.Concat of two slices of items.
-/
import Derived.Test.YtpkhpaklhfomkaaGreatDoorItC
import Derived.Test.YtpkhpaklhfomkaaGreatDoorTpA
import Derived.Lib.AppendZerosOnto
import Derived.Maps.AppendAt
import Derived.Laws.OwnMore
import Derived.Deep.Upon
import Derived.Deep.DeepMust
namespace Go.Proofs.YtpkhpaklhfomkaaGreatDoor
set_option maxRecDepth 100000
set_option linter.unusedSimpArgs false
set_option linter.unusedVariables false
open Go.RowKit Go.Joins Go.Deep
open Go.Lib hiding intOf
/-- The zero item. -/
def zitm : Value := .agg #[.string ⟨#[]⟩, .int .i64 0, .int .u32 0, .int .u32 0, .int .u32 0, .int .i64 0, .int .i64 0, .string ⟨#[]⟩]
theorem zcells_size (n : Nat) : (Builtin.zeroCells (Value.cells zitm) n).size = n * 8 := by
  rw [zeroCells_sizeI]
  rfl
set_option maxHeartbeats 4000000 in
theorem growI_any (B n : Nat) (h1 : 1 ≤ n) (hn : n ≤ 1000000) (w : World) (hB : B ≤ w.heap.size) :
    Calls Tryz.prog 53 #[.slice none 0 0, .int .i64 n] w fun e w' => ∃ G, e = .returned (.slice (some ⟨w.heap.size, 0, none⟩) 0 G) ∧ w'.ownsRow B 33 8 (.slice (some ⟨w.heap.size, 0, none⟩) 0 G) 0 [] ∧ Below w.heap.size w w' := by
  obtain ⟨i0, hi, hz0, hz1, hz2⟩ := partsI
  have h3 : ¬ ((n : Int) < 0) := by omega
  have h4 : (n : Int) > 0 := by omega
  have hold : (Builtin.firstCells i0.size 0 (.slice none 0 0)).run Tryz.prog w.drew = .ok (#[] : Array Value) w.drew := run_firstCells_none w.drew i0.size 0 0 0
  have hrz : ∀ ty, (Builtin.append_ #[22, 3] ty #[.slice none 0 0, .int .i64 (n : Int)]).run Tryz.prog w =
      .ok (.slice (some ⟨w.heap.size, 0, none⟩) n (grownCap w n 0 33)) (w.drew.alloc (.cells (#[] ++ Builtin.zeroCells (Value.cells zitm) n ++ Builtin.zeroCells (Value.cells zitm) (grownCap w n 0 33 - n)) 33)) := fun ty => by
    have h := Lib.run_append_grow_zeros w 22 3 ty 33 i0 zitm .i64 .i64 Tryz.underlying22 Tryz.underlying3 hi hz0 none 0 0 [] (by simpa using hold) n (by omega) (by omega) (by omega) (by omega) (by rw [hz2]; omega) (by rw [Nat.zero_add]; exact growslice_fits (by omega) (by rw [hz2]; omega))
    rw [Nat.zero_add] at h
    exact h
  have hGn : n ≤ grownCap w n 0 33 := grownCap_ge w _ _ _
  have hGm := grownCap_le_maxLen w n 0 33 (by unfold maxLen; omega)
  obtain ⟨G, hG⟩ : ∃ G, G = grownCap w n 0 33 := ⟨_, rfl⟩
  rw [← hG] at hrz hGn hGm
  have HGM := Lib.hid hGm
  have hG63 : G ≤ 9223372036854775807 := by unfold maxLen at hGm; omega
  have hsz : (Builtin.zeroCells (Value.cells zitm) n ++ Builtin.zeroCells (Value.cells zitm) (G - n)).size = G * 8 := by rw [Array.size_append, zcells_size, zcells_size]; omega
  obtain ⟨ZZ, hZZ⟩ : ∃ ZZ, ZZ = Builtin.zeroCells (Value.cells zitm) n ++ Builtin.zeroCells (Value.cells zitm) (G - n) := ⟨_, rfl⟩
  rw [← hZZ] at hsz
  have hrz : ∀ ty, (Builtin.append_ #[22, 3] ty #[.slice none 0 0, .int .i64 (n : Int)]).run Tryz.prog w = .ok (.slice (some ⟨w.heap.size, 0, none⟩) n G) (w.drew.alloc (.cells ZZ 33)) := fun ty => by rw [hrz ty, hZZ]; simp
  have HW : Hid ((w.alloc (.cells ZZ 33)).drew.ownsRow B 33 8 (.slice (some ⟨w.heap.size, 0, none⟩) 0 G) 0 []) := by
    refine ⟨rfl, .inr ⟨w.heap.size, G, _, rfl, hB, heap_alloc_new w _, Nat.zero_le _, hGm, ?_, rfl⟩⟩
    exact hsz
  have HBW : Hid (Below w.heap.size w (w.alloc (.cells ZZ 33)).drew) := ((Below.refl _ _).alloc (Nat.le_refl _) _).drew
  clear hold hG hGm hZZ hsz
  go_enter Tryz.func53, Tryz.ntmps53
  go_wp2_with (at_builtin; refine Lib.wpList_append_run _ rfl _ _ _ _ rfl _ _ rfl rfl _ _ (hrz _) ?_)
  go_ret
  exact ⟨G, rfl, HW.out, HBW.out⟩
theorem growI_none (w : World) : Calls Tryz.prog 53 #[.slice none 0 0, .int .i64 0] w fun e w' => e = .returned (.slice none 0 0) ∧ w' = w := by
  go_enter Tryz.func53, Tryz.ntmps53
  go_wp2_with fail
  go_ret
  exact ⟨rfl, rfl⟩
theorem itms_flat {w : World} {A : Option Addr} {l : List Itm} (h : Itms w A l) (a : Addr) (e : A = some a) : ∀ j u, (cellsI l)[j]? = some u → w.cell? (a.add j) = some u := fun j u hj => by
  have hjl : j < l.length * 8 := by rw [← cellsI_len]; exact (List.getElem?_eq_some_iff.1 hj).1
  obtain ⟨b, off, e2, hlt, _⟩ := h (by omega)
  rw [e] at e2
  injection e2 with e2
  subst e2
  subst e
  have hk : j / 8 < l.length := by omega
  have hr := h.range (j / 8) l[j / 8] (List.getElem?_eq_getElem hk)
  have hm : j % 8 < (l[j / 8]).cellsL.length := Nat.mod_lt _ (by decide)
  have hg := cellsI_get l (j / 8) l[j / 8] (List.getElem?_eq_getElem hk) (j % 8) _ (List.getElem?_eq_getElem hm)
  rw [show j / 8 * 8 + j % 8 = j by omega, hj] at hg
  injection hg with hg
  subst hg
  have h := hr (j % 8) _ (List.getElem?_eq_getElem hm)
  rw [show off + j / 8 * 8 + j % 8 = off + j by omega] at h
  rw [Addr.add_mid]
  exact h
theorem own_newI {w : World} {B : Nat} {l : List Itm} {v : Value} (h : w.ownsRow B 33 8 v l.length (cellsI l)) : ∃ A' c', v = .slice A' l.length c' ∧ NewI w B A' l := by
  rcases h.2 with ⟨he, h0⟩ | ⟨g2, cap2, cur, he, hbg, _⟩
  · exact ⟨none, 0, by rw [he, h0], .inl (List.eq_nil_of_length_eq_zero h0)⟩
  · refine ⟨some ⟨g2, 0, none⟩, cap2, he, .inr ⟨g2, rfl, hbg, ?_⟩⟩
    rw [he] at h
    exact io_of_own h
/-- All of some items put behind others. -/
theorem wpList_append_itms {w : World} {ops : Array Oper} {rest : List Oper} {o : Oper} {a : Act} {Q : Exit → Act → World → Prop} (hgd : o.guard = none) (s x : Operand)
    (ho : o.op = .call { callee := .builtin .append, args := #[s, x], argTypes := #[22, 22] }) (B : Nat) (v : Value) (L : List Itm) (hs : a.eval s = v) (hown : w.ownsRow B 33 8 v L.length (cellsI L)) (A : Option Addr) (n c : Nat) (m : List Itm) (hmn : n = m.length) (hx : a.eval x = .slice A n c) (hT : Itms w A m) (hn : L.length + m.length ≤ 100000) (hB : B ≤ w.heap.size)
    (h : ∀ v' w', w'.ownsRow B 33 8 v' (L ++ m).length (cellsI (L ++ m)) → w.grownBy w' v.ownBlock → wpList Tryz.prog ops Q rest (a.put o.dst v') w') : wpList Tryz.prog ops Q (o :: rest) a w := by
  subst hmn
  obtain ⟨i0, hi, hz0, hz1, hz2⟩ := partsI
  cases A with
  | none =>
    obtain rfl : m = [] := hT.none
    refine wpList_plain hgd fun K hK => ?_
    have hx' : a.eval x = .slice none 0 c := hx
    rw [List.append_nil] at h
    have hr : (Builtin.append_ #[22, 22] o.type #[v, .slice none 0 c]).run Tryz.prog w = .ok v w := by
      rcases hown.2 with ⟨he, h0⟩ | ⟨g2, cap2, cur, he, hbg, _, hnc, _⟩
      · rw [he]
        exact run_append_nothing (P := Tryz.prog) w 22 22 o.type 33 i0 Tryz.underlying22 hi none 0 0 (Nat.le_refl _) (.slice none 0 c) (Src.ofNil w Tryz.underlying22 c)
      · rw [he]
        exact run_append_nothing (P := Tryz.prog) w 22 22 o.type 33 i0 Tryz.underlying22 hi _ _ _ hnc (.slice none 0 c) (Src.ofNil w Tryz.underlying22 c)
    unfold Oper.wp execOp
    simp only [ho, resolve, invoke, builtin, Sem.run_bind, Sem.run_pure, Result.andThen_ok, List.map_toArray, List.map_cons, List.map_nil, hs, hx', hr]
    exact hK _ _ (h _ _ hown ⟨rfl, rfl, rfl, Nat.le_refl _, fun _ _ _ => rfl⟩)
  | some ad =>
    refine wpList_append_own_at w hgd s x _ ho B 33 i0 zitm 8 72 Tryz.underlying22 hi hz0 hz1 hz2 rfl (by decide) v L.length (cellsI L) hs hown ad m.length c (cellsI m) hx (cellsI_len m) (itms_flat hT ad rfl) (cellsI_one m) (by unfold maxLen; omega) (by omega) hB (fun v' w' h1 h2 _ _ => ?_)
    refine h v' w' ?_ h2
    rw [List.length_append, cellsI_app]
    exact h1
set_option maxHeartbeats 8000000 in
theorem concatI_any (gc : Nat) (A1 A2 : Option Addr) (c1 c2 : Nat) (l1 l2 : List Itm) (w : World) (h1 : Itms w A1 l1) (h2 : Itms w A2 l2) (hn1 : l1.length ≤ 10000) (hn2 : l2.length ≤ 10000) (hg : gc < w.heap.size)
    (k1 : w.cell? ⟨gc, 0, none⟩ = some (.slice A1 l1.length c1)) (k2 : w.cell? ⟨gc, 1, none⟩ = some (.slice A2 l2.length c2)) :
    Calls Tryz.prog 28 #[.slice (some ⟨gc, 0, none⟩) 2 2] w fun e w' => ∃ A' c', e = .returned (.slice A' (l1 ++ l2).length c') ∧ NewI w' w.heap.size A' (l1 ++ l2) ∧ Below w.heap.size w w' := by
  have H1 := Lib.hid h1
  have H2 := Lib.hid h2
  have K1 := Lib.hid k1
  have K2 := Lib.hid k2
  have HG := Lib.hid hg
  obtain ⟨n1, hl1⟩ : ∃ n1, n1 = l1.length := ⟨_, rfl⟩
  obtain ⟨n2, hl2⟩ : ∃ n2, n2 = l2.length := ⟨_, rfl⟩
  rw [← hl1] at k1 hn1
  rw [← hl2] at k2 hn2
  have HL1 := Lib.hid hl1
  have HL2 := Lib.hid hl2
  have s0 : IntKind.i64.wrap (n1 : Int) = (n1 : Int) := by rw [IntKind.wrap_i64]; omega
  have s1 : IntKind.i64.wrap ((n1 : Int) + (n2 : Int)) = (n1 : Int) + (n2 : Int) := by rw [IntKind.wrap_i64]; omega
  have s2 : decide ((n1 : Int) < 0) = false := decide_eq_false (by omega)
  have s3 : decide ((n1 : Int) + (n2 : Int) < 0) = false := decide_eq_false (by omega)
  clear h1 h2 hg hl1 hl2
  have HGR : Hid (∀ W : World, w.heap.size ≤ W.heap.size → Calls Tryz.prog 53 #[.slice none 0 0, .int .i64 ((n1 : Int) + (n2 : Int))] W fun e w' => ∃ V, e = .returned V ∧ w'.ownsRow w.heap.size 33 8 V ([] : List Itm).length (cellsI []) ∧ Below W.heap.size W w') := fun W hW => by
    rcases Nat.eq_zero_or_pos (n1 + n2) with h0 | h0
    · rw [show (n1 : Int) + (n2 : Int) = 0 by omega]
      refine (growI_none W).mono ?_
      rintro e w' ⟨rfl, rfl⟩
      exact ⟨_, rfl, World.ownsRow_nil _ _ _ _, Below.refl _ _⟩
    · rw [show (n1 : Int) + (n2 : Int) = ((n1 + n2 : Nat) : Int) by omega]
      refine (growI_any w.heap.size (n1 + n2) h0 (by omega) W hW).mono ?_
      rintro e w' ⟨G, rfl, ho, hb⟩
      exact ⟨_, rfl, ho, hb⟩
  go_enter Tryz.func28, Tryz.ntmps28
  go_wp2_with fail
  refine wp_loop_rounds 3 ?_
  rw [rounds_succ]
  go_wp2_with fail
  rw [rounds_succ]
  go_wp2_with fail
  rw [rounds_succ]
  go_wp2_with fail
  refine (HGR.out _ (Nat.le_refl _)).mono ?_; rintro e w1 ⟨V, rfl, ho1, hb1⟩
  have HO1 := Lib.hid ho1
  have HB1 := Lib.hid hb1
  have HI1 := Lib.hid (H1.out.below hb1)
  have k1 := (hb1.cell (p := ⟨gc, 0, none⟩) HG.out).trans K1.out
  rw [← HL1.out] at k1
  clear ho1 hb1 HGR k2
  go_wp2_with fail
  refine wp_loop_rounds 3 ?_
  rw [rounds_succ]
  go_wp2_with (at_builtin; go_must (refine wpList_append_itms rfl (.tmp 31) (.tmp 32) rfl w.heap.size V [] rfl HO1.out A1 n1 c1 l1 HL1.out rfl HI1.out ?qc1 ?qc2 ?_))
  case qc1 => have := HL1.out; simp; omega
  case qc2 => exact HB1.out.size
  intro v2 w2 ho2 hg2
  have HB2 : Hid (Below w.heap.size w w2) := HB1.out.grown hg2 HB1.out.size (fun q hq => (HO1.out.lt q hq).1)
  have HO2 := Lib.hid ho2
  have HI2 := Lib.hid (H2.out.below HB2.out)
  have k2 := (HB2.out.cell (p := ⟨gc, 1, none⟩) HG.out).trans K2.out
  rw [← HL2.out] at k2
  clear ho2 hg2 HO1 HB1 HI1 k1
  go_wp2_with fail
  rw [rounds_succ]
  go_wp2_with (at_builtin; refine wpList_append_itms rfl (.tmp 31) (.tmp 32) rfl w.heap.size v2 ([] ++ l1) rfl HO2.out A2 n2 c2 l2 HL2.out rfl HI2.out ?qd1 ?qd2 ?_)
  case qd1 => have := HL1.out; have := HL2.out; simp; omega
  case qd2 => exact HB2.out.size
  intro v3 w3 ho3 hg3
  have HB3 : Hid (Below w.heap.size w w3) := HB2.out.grown hg3 HB2.out.size (fun q hq => (HO2.out.lt q hq).1)
  have HO3 := Lib.hid ho3
  clear ho3 hg3 HO2 HB2 HI2 k2
  go_wp2_with fail
  rw [rounds_succ]
  go_wp2_with fail
  go_ret
  have h3 : w3.ownsRow w.heap.size 33 8 v3 (l1 ++ l2).length (cellsI (l1 ++ l2)) := by rw [List.length_append]; exact HO3.out
  obtain ⟨A', c', e, hN⟩ := own_newI h3
  exact ⟨A', c', congrArg Ending.returned e, hN, HB3.out⟩
end Go.Proofs.YtpkhpaklhfomkaaGreatDoor
