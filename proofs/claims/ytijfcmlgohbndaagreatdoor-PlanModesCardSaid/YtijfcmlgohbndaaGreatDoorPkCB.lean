/-
  Plan: the mode's actions.
  Places sorted by byPath's closure: insertion, stable.
-/
import Derived.Test.YtijfcmlgohbndaaGreatDoorPkCA
import Derived.Laws.AppendOwnNone
import Derived.Test.YtijfcmlgohbndaaGreatDoorPkAA
import Derived.BigQuiet
import Derived.BigRegion
import Derived.Deep.Cut
import Derived.Deep.CutBlock
import Derived.Lib.SmallJoins

namespace Go.Proofs.YtijfcmlgohbndaaGreatDoor
set_option maxRecDepth 100000
set_option linter.unusedSimpArgs false
set_option linter.unusedVariables false
open Go.RowKit Go.Joins Go.Deep
open Go.Lib hiding intOf
/-- The actions of a mode. -/
noncomputable def actL (mode : Int) (ins outs : List (List Atm)) (t : List Itm) (l : List Ent) : List Act3 :=
  if mode = 4 then delP l.length (entP ins outs l l.length)
  else if mode = 3 then ofL mode ins outs t l else ofL mode ins outs t l ++ addK ins outs (pthL l) t t.length
/-- What actions answers. -/
def ActR (w : World) (mode : Int) (ins outs : List (List Atm)) (t : List Itm) (l : List Ent) (e : Ending) (w' : World) : Prop :=
  (∃ v z, z ≠ 0 ∧ e = .returned (.tuple #[v, .int .i64 z]) ∧ Below w.heap.size w w') ∨
  (∃ v, e = .returned (.tuple #[v, .int .i64 0]) ∧ RowQ w' w.heap.size v (actL mode ins outs t l) ∧ Below w.heap.size w w')
theorem rowQ_forms {w : World} {B : Nat} {v : Value} {l : List Act3} (h : RowQ w B v l) : (v = .slice none 0 0 ∧ l = []) ∨ ∃ g cap, v = .slice (some ⟨g, 0, none⟩) l.length cap ∧ B ≤ g ∧ g < w.heap.size ∧ ∀ j u, (cellsQ l)[j]? = some u → w.cell? ((⟨g, 0, none⟩ : Addr).add j) = some u := by
  rcases h.2 with ⟨he, h0⟩ | ⟨g, cap, cur, he, hb, _⟩
  · exact .inl ⟨he, List.eq_nil_of_length_eq_zero h0⟩
  · exact .inr ⟨g, cap, he, hb, (h.lt g (by rw [he]; rfl)).2, World.ownsRow.cells h (by rw [he]; rfl)⟩
theorem cellsQ_one : ∀ (l : List Act3), ∀ u ∈ cellsQ l, u.oneCell' = true
  | [], u, h => by cases h
  | x :: l, u, h => by
    simp only [cellsQ, List.mem_cons] at h
    rcases h with rfl | rfl | rfl | h
    · rfl
    · rfl
    · rfl
    · exact cellsQ_one l u h
set_option maxHeartbeats 32000000 in
theorem actions_any (mode : Int) (A AT : Option Addr) (c cT : Nat) (l : List Ent) (t : List Itm) (V : Value) (ins outs : List (List Atm)) (w : World) (hR : Ents w A l) (hT : Itms w AT t) (hl : l.length ≤ 1000) (ht : t.length ≤ 1000) (hs : ∀ x ∈ t, x.s.size ≤ 100000 ∧ x.d.size ≤ 100000) (hL : LightL l) (hU : Upper w) (hE : Env w) (hF : FilK w V ins outs) :
    Calls Tryz.prog 13 #[.int .i64 mode, .slice A l.length c, .slice AT t.length cT, V] w (ActR w mode ins outs t l) := by
  obtain ⟨i0, hi, hz0, hz1, hz2⟩ := partsP
  have hif := info_fil
  have hFK := hF
  obtain ⟨⟨FA, fa, FB, fb, rfl, _⟩, _, _, _⟩ := hFK
  obtain ⟨w1, hw1⟩ : ∃ w1, w1 = w.alloc (.cells #[.slice FA ins.length fa, .slice FB outs.length fb] 31) := ⟨_, rfl⟩
  have hb1 : Below w.heap.size w w1 := by rw [hw1]; exact below_alP w _
  have HX1 : Hid (w1.heap[w.heap.size]? = some (.cells #[.slice FA ins.length fa, .slice FB outs.length fb] 31 (0, 0))) := by show _ = _; rw [hw1]; exact heap_alloc_new w _
  have HDE := Lib.hid (del_any A c l _ ins outs w1 (hR.below hb1) hl hL (hU.below hb1) (hE.below hb1) (hF.below hb1))
  have HOF := Lib.hid (ofEnt_any mode A AT c cT l t _ ins outs w1 (hR.below hb1) (hT.below hb1) hl ht hs hL (hU.below hb1) (hE.below hb1) (hF.below hb1))
  have HAD := Lib.hid (fun w2 (hb : Below w.heap.size w w2) => add_any A AT c cT l t _ ins outs w2 (hR.below hb) (hT.below hb) hl ht hs hL (hU.below hb) (hE.below hb) (hF.below hb))
  have HB1 := Lib.hid hb1
  have HW1 := Lib.hid hw1
  have HG1 : Hid (w.heap.size ≤ w1.heap.size) := hb1.size
  clear hR hT hL hU hE hF hs hw1 hb1
  generalize ins.length = ni at *
  generalize outs.length = no at *
  by_cases h4 : mode = 4
  · subst h4
    have HA : Hid (actL 4 ins outs t l = delP l.length (entP ins outs l l.length)) := if_pos rfl
    clear HOF HAD
    go_enter Tryz.func13, Tryz.ntmps13
    go_upto_region 1 with fail
    rw [← HW1.out]
    clear HW1
    go_wp2_with (refine wpList_load_row rfl 31 (.tmp 7) rfl w.heap.size rfl 31 _ (0, 0) _ HX1.out Tryz.underlying31 rfl info_fil ?_)
    refine HDE.out.mono ?_; rintro e w2 hout
    clear HDE
    rcases hout with ⟨v, z, hz, rfl, hb2⟩ | ⟨v, rfl, hr, hb2⟩
    · have HB2 := Lib.hid (below_thenE HB1.out hb2)
      clear hb2
      go_wp2_with fail
      go_ret2
      exact .inl ⟨v, z, hz, rfl, HB2.out⟩
    · have HB2 := Lib.hid (below_thenE HB1.out hb2)
      have HR2 := Lib.hid hr
      clear hb2 hr
      go_wp2_with fail
      go_ret2
      exact .inr ⟨v, rfl, by rw [HA.out]; exact own_lowerP HR2.out HG1.out, HB2.out⟩
  have e4 : (mode == 4) = false := beq_eq_false_iff_ne.2 h4
  have HA : Hid (actL mode ins outs t l = if mode = 3 then ofL mode ins outs t l else ofL mode ins outs t l ++ addK ins outs (pthL l) t t.length) := if_neg h4
  clear HDE
  go_enter Tryz.func13, Tryz.ntmps13
  go_upto_region 1 with fail
  rw [← HW1.out]
  clear HW1
  go_wp2_with (refine wpList_load_row rfl 31 (.tmp 7) rfl w.heap.size rfl 31 _ (0, 0) _ HX1.out Tryz.underlying31 rfl info_fil ?_)
  refine HOF.out.mono ?_; rintro e w2 hout
  clear HOF
  rcases hout with ⟨z, hz, rfl, hb2⟩ | ⟨v, hzz, rfl, hr, hb2⟩
  · have bz : (z != 0) = true := bne_iff_ne.2 hz
    have HB2 := Lib.hid (below_thenE HB1.out hb2)
    clear hb2
    go_wp2_with fail
    go_ret2
    exact .inl ⟨_, z, hz, rfl, HB2.out⟩
  have HB2 := Lib.hid (below_thenE HB1.out hb2)
  have HR2 : Hid (w2.ownsRow w.heap.size 41 3 v (ofL mode ins outs t l).length (cellsQ (ofL mode ins outs t l))) := own_lowerP hr HG1.out
  have HX2 := Lib.hid ((hb2.block _ (lt_of_heapP HX1.out)).trans HX1.out)
  have HLO : Hid ((ofL mode ins outs t l).length ≤ 1000) := by show _ ≤ _; rw [ofL_len]; exact hl
  have HLA : Hid ((addK ins outs (pthL l) t t.length).length ≤ 1000) := Nat.le_trans (addK_len _ _ _ _ _) ht
  clear hb2 hr hzz HX1 HB1
  by_cases h3 : mode = 3
  · have e3 : (mode == 3) = true := beq_iff_eq.2 h3
    rw [if_pos h3] at HA
    clear HAD
    go_wp2_with fail
    go_ret2
    refine .inr ⟨v, ?_, by rw [HA.out]; exact HR2.out, HB2.out⟩
    rfl
  have e3 : (mode == 3) = false := beq_eq_false_iff_ne.2 h3
  rw [if_neg h3] at HA
  have HAR := Lib.hid (HAD.out w2 HB2.out)
  clear HAD
  go_wp2_with (refine wpList_load_row rfl 31 (.tmp 7) rfl w.heap.size rfl 31 _ (0, 0) _ HX2.out Tryz.underlying31 rfl info_fil ?_)
  refine HAR.out.mono ?_; rintro e w3 hout
  clear HAR HX2
  rcases hout with ⟨z, hz, rfl, hb3⟩ | ⟨v3, rfl, hr3, hb3⟩
  · have HB3 := Lib.hid (below_thenE HB2.out hb3)
    have HR3 := Lib.hid (own_keepP HR2.out hb3)
    clear hb3 HR2
    go_wp2_with (at_builtin; refine wpList_append_own_none rfl (.tmp 43) (.tmp 44) _ rfl w.heap.size 41 i0 3 Tryz.underlying35 hi v _ _ rfl HR3.out rfl ?_)
    go_ret2
    exact .inl ⟨v, z, hz, rfl, HB3.out⟩
  have HB3 := Lib.hid (below_thenE HB2.out hb3)
  have HR3 := Lib.hid (own_keepP HR2.out hb3)
  clear HR2
  rcases rowQ_forms hr3 with ⟨rfl, hn⟩ | ⟨g, cap, rfl, _, hg, hcc⟩
  · rw [hn, List.append_nil] at HA
    clear hb3 hr3 hn
    go_wp2_with (at_builtin; refine wpList_append_own_none rfl (.tmp 43) (.tmp 44) _ rfl w.heap.size 41 i0 3 Tryz.underlying35 hi v _ _ rfl HR3.out rfl ?_)
    go_ret2
    exact .inr ⟨v, rfl, by rw [HA.out]; exact HR3.out, HB3.out⟩
  have HCC := Lib.hid hcc
  have HC1 := Lib.hid (cellsQ_one (addK ins outs (pthL l) t t.length))
  have HCL : Hid ((cellsQ (addK ins outs (pthL l) t t.length)).length = (addK ins outs (pthL l) t t.length).length * 3) := cellsQ_len _
  have HBS : Hid (w.heap.size ≤ w3.heap.size) := HB3.out.size
  generalize addK ins outs (pthL l) t t.length = AL at *
  generalize ofL mode ins outs t l = OL at *
  clear hb3 hr3 hcc
  go_wp2_with (at_builtin; refine wpList_append_own_at _ rfl (.tmp 43) (.tmp 44) _ rfl w.heap.size 41 i0 (.agg #[.int .i64 0, .int .i64 0, .int .i64 0]) 3 24 Tryz.underlying35 hi hz0 hz1 hz2 rfl (by decide) v OL.length (cellsQ OL) rfl HR3.out ⟨g, 0, none⟩ AL.length cap (cellsQ AL) rfl HCL.out ?c2 ?c3 ?c4 ?c5 ?c6 ?_)
  case c2 => exact HCC.out
  case c3 => exact HC1.out
  case c4 => have := HLO.out; have := HLA.out; unfold maxLen; omega
  case c5 => have := HLO.out; have := HLA.out; omega
  case c6 => exact HBS.out
  intro v8 w8 hown hgrow _ hfr
  have HR8 : Hid (RowQ w8 w.heap.size v8 (actL mode ins outs t l)) := by
    show World.ownsRow _ _ _ _ _ _ _
    rw [HA.out, List.length_append, cellsQ_app]
    exact hown
  have HB8 : Hid (Below w.heap.size w w8) := HB3.out.grown hgrow HB3.out.size (fun z hz => by have := (HR3.out.lt z hz).1; omega)
  clear hown hgrow hfr
  go_wp2_with fail
  go_ret2
  exact .inr ⟨v8, rfl, HR8.out, HB8.out⟩
end Go.Proofs.YtijfcmlgohbndaaGreatDoor

namespace Go.Proofs.YtijfcmlgohbndaaGreatDoor.Bp
set_option maxRecDepth 100000
set_option linter.unusedSimpArgs false
set_option linter.unusedVariables false
open Go.RowKit
/-! ## Lists of signs, moved about -/
def at0 (S : List Nat) (k : Nat) : Nat := S[k]?.getD 0
/-- Only what stands from a on, short of b, was moved. -/
structure Mov (a b : Nat) (S S' : List Nat) : Prop where
  len : S'.length = S.length
  perm : S'.Perm S
  out : ∀ k, k < a ∨ b ≤ k → at0 S' k = at0 S k
  ins : ∀ i, a ≤ i → i < b → ∃ i', a ≤ i' ∧ i' < b ∧ at0 S' i = at0 S i'
theorem Mov.refl (a b : Nat) (S : List Nat) : Mov a b S S := ⟨rfl, List.Perm.refl _, fun _ _ => rfl, fun i h1 h2 => ⟨i, h1, h2, rfl⟩⟩
theorem Mov.trans {a b : Nat} {S S' S'' : List Nat} (h : Mov a b S S') (k : Mov a b S' S'') : Mov a b S S'' :=
  ⟨k.len.trans h.len, k.perm.trans h.perm, fun i hi => (k.out i hi).trans (h.out i hi), fun i h1 h2 => by
    obtain ⟨i', h3, h4, h5⟩ := k.ins i h1 h2
    obtain ⟨i'', h6, h7, h8⟩ := h.ins i' h3 h4
    exact ⟨i'', h6, h7, h5.trans h8⟩⟩
theorem Mov.wide {a b a' b' : Nat} {S S' : List Nat} (h : Mov a b S S') (ha : a' ≤ a) (hb : b ≤ b') : Mov a' b' S S' :=
  ⟨h.len, h.perm, fun k hk => h.out k (by omega), fun i h1 h2 => by
    by_cases hi : a ≤ i ∧ i < b
    · obtain ⟨i', h3, h4, h5⟩ := h.ins i hi.1 hi.2
      exact ⟨i', by omega, by omega, h5⟩
    · exact ⟨i, h1, h2, h.out i (by omega)⟩⟩
def swp (S : List Nat) (i j : Nat) : List Nat := (S.set i (at0 S j)).set j (at0 S i)
theorem swp_at (S : List Nat) (i j k : Nat) (hi : i < S.length) (hj : j < S.length) : at0 (swp S i j) k = if k = j then at0 S i else if k = i then at0 S j else at0 S k := by
  unfold swp
  show (((S.set i (at0 S j)).set j (at0 S i))[k]?).getD 0 = _
  rw [List.getElem?_set, List.getElem?_set, List.length_set]
  by_cases h1 : j = k
  · subst h1; simp [hj]
  · have h1' : ¬ k = j := fun e => h1 e.symm
    by_cases h2 : i = k
    · subst h2; simp [h1, h1', hi]
    · have h2' : ¬ k = i := fun e => h2 e.symm
      simp [h1, h1', h2, h2', at0]
theorem swp_mov (S : List Nat) (a b i j : Nat) (hi : i < S.length) (hj : j < S.length) (h1 : a ≤ i ∧ i < b) (h2 : a ≤ j ∧ j < b) : Mov a b S (swp S i j) := by
  refine ⟨by simp [swp], ?_, fun k hk => ?_, fun k h3 h4 => ?_⟩
  · have e : ∀ k (h : k < S.length), at0 S k = S[k] := fun k h => by simp [at0, List.getElem?_eq_getElem h]
    unfold swp
    rw [e i hi, e j hj]
    exact List.set_set_perm hi hj
  · rw [swp_at S i j k hi hj, if_neg (by omega), if_neg (by omega)]
  · rw [swp_at S i j k hi hj]
    by_cases e1 : k = j
    · rw [if_pos e1]; exact ⟨i, h1.1, h1.2, rfl⟩
    · rw [if_neg e1]
      by_cases e2 : k = i
      · rw [if_pos e2]; exact ⟨j, h2.1, h2.2, rfl⟩
      · rw [if_neg e2]; exact ⟨k, h3, h4, rfl⟩
/-- Sorted by f from a on, short of b. -/
def SrtOn (f : Nat → Nat) (a b : Nat) (S : List Nat) : Prop := ∀ i j, a ≤ i → i ≤ j → j < b → f (at0 S i) ≤ f (at0 S j)

def iv (x : Nat) : Value := .int .i64 (x : Nat)
/-- The signs' own row. -/
def SnO (w : World) (base gd m cap : Nat) (S : List Nat) : Prop := S.length = m ∧ w.ownsRow base 3 1 (.slice (some ⟨gd, 0, none⟩) m cap) m (S.map iv)
theorem SnO.cell {w : World} {base gd m cap : Nat} {S : List Nat} (h : SnO w base gd m cap S) (k : Nat) (hk : k < m) : w.cell? ⟨gd, k, none⟩ = some (.int .i64 (at0 S k : Nat)) := by
  rw [h.2.cellAt k (by omega), List.getElem?_map, at0, List.getElem?_eq_getElem (by rw [h.1]; exact hk)]
  rfl
theorem SnO.frozen {w : World} {base gd m cap : Nat} {S : List Nat} (h : SnO w base gd m cap S) (k : Nat) : w.frozen? ⟨gd, k, none⟩ = false := h.2.frozenAt k
theorem SnO.drewN {w : World} {base gd m cap : Nat} {S : List Nat} (h : SnO w base gd m cap S) (d : Nat) : SnO (w.drewN d) base gd m cap S := h
theorem SnO.drew {w : World} {base gd m cap : Nat} {S : List Nat} (h : SnO w base gd m cap S) : SnO w.drew base gd m cap S := h
theorem SnO.swap {w : World} {base gd m cap : Nat} {S : List Nat} (h : SnO w base gd m cap S) (i j : Nat) :
    SnO ((w.setCell ⟨gd, i, none⟩ (.int .i64 (at0 S j : Nat))).setCell ⟨gd, j, none⟩ (.int .i64 (at0 S i : Nat))) base gd m cap (swp S i j) := by
  refine ⟨by simp [swp, h.1], ?_⟩
  have h1 := (h.2.stored i (.int .i64 (at0 S j : Nat))).1
  have h2 := (h1.stored j (.int .i64 (at0 S i : Nat))).1
  unfold swp
  rw [List.map_set, List.map_set]
  exact h2
theorem gdrewN (w : World) (d : Nat) (row : Option Nat) : w.grownBy (w.drewN d) row := ⟨rfl, rfl, rfl, Nat.le_refl _, fun _ _ _ => rfl⟩
theorem gset2 {a w : World} {b : Nat} (h : a.grownBy w (some b)) (i : Nat) (v : Value) : a.grownBy (w.setCell ⟨b, i, none⟩ v) (some b) :=
  ⟨h.os, h.tape, h.output, by simp; exact h.size, fun k hk hne => (Below.heap_setCell w _ v k (fun e => hne (by rw [e]))).trans (h.block k hk hne)⟩
theorem gdrew {a w : World} {row : Option Nat} (h : a.grownBy w row) (d : Nat) : a.grownBy (w.drewN d) row := ⟨h.os, h.tape, h.output, h.size, h.block⟩
theorem gdrew1 {a w : World} {row : Option Nat} (h : a.grownBy w row) : a.grownBy w.drew row := ⟨h.os, h.tape, h.output, h.size, h.block⟩

/-- What compares, in every world that the sort passes. -/
def CmpAtB (cm : Nat → Nat → Int) (w : World) (gd pc n : Nat) : Prop := ∀ w1, w.grownBy w1 (some gd) → ∀ a b, a < n → b < n →
  Calls Tryz.prog 45 #[.int .i64 (a : Nat), .int .i64 (b : Nat), .pointer (some ⟨pc, 0, none⟩)] w1 fun e w' => e = .returned (.int .i64 (cm a b)) ∧ ∃ d, w' = w1.drewN d
/-- .. it tells of a later sign whether it stands ahead of an earlier one. -/
def CmpOkB (w : World) (gd pc n : Nat) (f : Nat → Nat) : Prop := ∃ cm : Nat → Nat → Int, (∀ a b, a < n → b < n → b < a → (cm a b < 0 ↔ f a < f b)) ∧ CmpAtB cm w gd pc n
set_option maxRecDepth 100000 in
set_option maxHeartbeats 8000000 in
theorem ins_anyB (base gd m cap a b pc n : Nat) (f : Nat → Nat) (S : List Nat) (w : World) (hO : SnO w base gd m cap S) (hx : ∀ x ∈ S, x < n) (hC : CmpOkB w gd pc n f) (hab : b ≤ m) (ha : a ≤ m) (hm : m ≤ 1000) (hinc : ∀ p q, a ≤ p → p < q → q < b → at0 S p < at0 S q) :
    Calls Tryz.prog 99 #[.slice (some ⟨gd, 0, none⟩) m cap, .int .i64 a, .int .i64 b, .func (.func 45) #[] #[.pointer (some ⟨pc, 0, none⟩)]] w
      fun e w' => e = .returned (.tuple #[]) ∧ ∃ S', SnO w' base gd m cap S' ∧ Mov a b S S' ∧ SrtOn f a b S' ∧ w.grownBy w' (some gd) := by
  obtain ⟨cm, hcm, hC⟩ := hC
  have HCI := Lib.hid hcm
  have HINC := Lib.hid hinc
  have HC := Lib.hid hC
  clear hcm hinc
  have HX : Hid (∀ S', S'.Perm S → ∀ k, k < m → at0 S' k < n) := fun S' hp k hk => by
    have hl : S'.length = m := by rw [hp.length_eq, hO.1]
    refine hx _ (hp.mem_iff.1 ?_)
    rw [at0, List.getElem?_eq_getElem (by omega)]
    exact List.getElem_mem _
  have HO := Lib.hid hO
  clear hC hx hO
  have hw1 : IntKind.i64.wrap ((a : Int) + 1) = ((a + 1 : Nat) : Int) := by rw [IntKind.wrap_i64]; omega
  go_enter Tryz.func99, Tryz.ntmps99
  go_wp2
  go_loopw [8] (fun v wr => ∃ i S1, a < i ∧ (i ≤ b ∨ i = a + 1) ∧ v = .int .i64 (i : Nat) ∧ SnO wr base gd m cap S1 ∧ Mov a b S S1 ∧ SrtOn f a i S1 ∧ w.grownBy wr (some gd) ∧ Mov a i S S1) (fun v _ => (m + 2) - (intOf v).toNat)
  case atStart =>
    exact ⟨a + 1, S, by omega, .inr rfl, by go_num, HO.out, Mov.refl _ _ _, fun i j h1 h2 h3 => by rw [show i = j by omega]; exact Nat.le_refl _, World.grownBy.refl _ _, Mov.refl _ _ _⟩
  case round =>
    obtain ⟨i, S1, hai, hib, rfl, ho, hmv, hsr, hg, hmi⟩ := hrel
    by_cases hlt : i < b
    · have HO1 := Lib.hid ho
      have HM := Lib.hid hmv
      have HG := Lib.hid hg
      have HS := Lib.hid hsr
      have HMI := Lib.hid hmi
      clear ho hmv hg hsr hmi
      go_wp2
      go_loopw [9] (fun v wr2 => ∃ j S2, a ≤ j ∧ j ≤ i ∧ v = .int .i64 (j : Nat) ∧ SnO wr2 base gd m cap S2 ∧ Mov a b S S2 ∧ (∀ p q, a ≤ p → p ≤ q → q ≤ i → p ≠ j → q ≠ j → f (at0 S2 p) ≤ f (at0 S2 q)) ∧ (∀ q, j < q → q ≤ i → f (at0 S2 j) ≤ f (at0 S2 q)) ∧ w.grownBy wr2 (some gd) ∧ Mov a (i + 1) S S2 ∧ at0 S2 j = at0 S i ∧ (∀ p, a ≤ p → p ≤ i → p ≠ j → at0 S2 p < at0 S i)) (fun v _ => (intOf v).toNat)
      case atStart => exact ⟨i, S1, by omega, Nat.le_refl _, rfl, HO1.out, HM.out, fun p q h1 h2 h3 h4 h5 => HS.out p q h1 h2 (by omega), fun q h1 h2 => by omega, HG.out, HMI.out.wide (Nat.le_refl _) (by omega), HMI.out.out i (.inr (Nat.le_refl _)), fun p h1 h2 h3 => by
        obtain ⟨p', e1, e2, e3⟩ := HMI.out.ins p h1 (by omega)
        rw [e3]
        exact HINC.out p' i e1 e2 hlt⟩
      case round =>
        obtain ⟨j, S2, haj, hji, rfl, ho, hmv, hs1, hs2, hg, hmi, hat, hbf⟩ := hrel
        have HMI2 := Lib.hid hmi
        have HAT := Lib.hid hat
        have HBF := Lib.hid hbf
        clear hmi hat hbf
        have HO2 := Lib.hid ho
        have HM2 := Lib.hid hmv
        have HG2 := Lib.hid hg
        have HS1 := Lib.hid hs1
        have HS2 := Lib.hid hs2
        -- the inner loop's way out
        have OUT : Hid ((j = a ∨ ¬ f (at0 S2 j) < f (at0 S2 (j - 1))) → ∀ d, ∃ i' S', a < i' ∧ (i' ≤ b ∨ i' = a + 1) ∧ Value.int .i64 ((i : Int) + 1) = .int .i64 (i' : Nat) ∧ SnO (wr.drewN d) base gd m cap S' ∧ Mov a b S S' ∧ SrtOn f a i' S' ∧ w.grownBy (wr.drewN d) (some gd) ∧ Mov a i' S S') := fun hs d =>
          ⟨i + 1, S2, by omega, .inl (by omega), by go_num, HO2.out.drewN d, HM2.out, fun p q h1 h2 h3 => by
            by_cases e1 : q = j
            · by_cases e2 : p = j
              · rw [e1, e2]; exact Nat.le_refl _
              · have h5 := HS1.out p (j - 1) h1 (by omega) (by omega) e2 (by omega)
                subst e1
                omega
            · by_cases e2 : p = j
              · subst e2; exact HS2.out q (by omega) (by omega)
              · exact HS1.out p q h1 h2 (by omega) e2 e1, gdrew HG2.out d, HMI2.out⟩
        clear ho hmv hg hs1 hs2
        by_cases hja : a < j
        · obtain ⟨k, rfl⟩ : ∃ k, j = k + 1 := ⟨j - 1, by omega⟩
          have c1 := HO2.out.cell (k + 1) (by omega)
          have c2 := HO2.out.cell k (by omega)
          have f1 := HO2.out.frozen (k + 1)
          have f2 := HO2.out.frozen k
          have hq1 := HX.out S2 HM2.out.perm (k + 1) (by omega)
          have hq2 := HX.out S2 HM2.out.perm k (by omega)
          have HCM := Lib.hid (fun d => HC.out (wr.drewN d) (gdrew HG2.out d) _ _ hq1 hq2)
          have hI1 : (a : Int) < (k : Int) + 1 := by omega
          have hI2 : IntKind.i64.wrap ((k : Int) + 1 - 1) = k := by rw [IntKind.wrap_i64]; omega
          have hI3 : IntKind.i64.wrap (k : Int) = k := by rw [IntKind.wrap_i64]; omega
          have hI4 : (k : Int) < m := by omega
          have hI5 : (k : Int) + 1 < m := by omega
          have hI6 : (0 : Int) ≤ (k : Int) + 1 := by omega
          have HSW := Lib.hid (fun d => (HO2.out.drewN d).swap (k + 1) k)
          have HSM := Lib.hid (swp_mov S2 a b (k + 1) k (by have := HO2.out.1; omega) (by have := HO2.out.1; omega) (by omega) (by omega))
          have HSM2 := Lib.hid (swp_mov S2 a (i + 1) (k + 1) k (by have := HO2.out.1; omega) (by have := HO2.out.1; omega) (by omega) (by omega))
          have HLT : Hid (at0 S2 k < at0 S2 (k + 1)) := by rw [Hid, HAT.out]; exact HBF.out k (by omega) (by omega) (by omega)
          have HSA := Lib.hid (fun p => swp_at S2 (k + 1) k p (by have := HO2.out.1; omega) (by have := HO2.out.1; omega))
          generalize hx1 : at0 S2 (k + 1) = x at *
          generalize hx2 : at0 S2 k = y at *
          have HX1 := Lib.hid hx1
          have HX2 := Lib.hid hx2
          clear hx1 hx2
          by_cases hfx : f x < f y
          · have hc := (HCI.out x y hq1 hq2 HLT.out).2 hfx
            go_wp2
            go_quiet (first | (go_at_call 45; exact Calls.quiet_of (HCM.out _)))
            go_wp2
            have HGQ := Lib.hid (gdrew1 (gdrew HG2.out nq))
            have HSW2 := Lib.hid (show SnO ((((wr.drewN nq).drew).setCell ⟨gd, k + 1, none⟩ (.int .i64 (y : Nat))).setCell ⟨gd, k, none⟩ (.int .i64 (x : Nat))) base gd m cap (swp S2 (k + 1) k) from HSW.out (nq + 1))
            go_region
            all_goals go_wp2
            go_roundw
            case rel =>
              refine ⟨k, swp S2 (k + 1) k, by omega, by omega, by go_num, HSW2.out, HM2.out.trans HSM.out, ?_, ?_, gset2 (gset2 HGQ.out _ _) _ _, HMI2.out.trans HSM2.out, (by rw [HSA.out, if_pos rfl]; exact HAT.out), ?_⟩
              · intro p q h1 h2 h3 h4 h5
                rw [HSA.out, HSA.out, if_neg h4, if_neg h5]
                by_cases e1 : q = k + 1
                · by_cases e2 : p = k + 1
                  · rw [if_pos e1, if_pos e2]; exact Nat.le_refl _
                  · rw [if_pos e1, if_neg e2, ← HX2.out]
                    exact HS1.out p k h1 (by omega) (by omega) e2 (by omega)
                · by_cases e2 : p = k + 1
                  · rw [if_neg e1, if_pos e2, ← HX2.out]
                    exact HS1.out k q (by omega) (by omega) h3 (by omega) e1
                  · rw [if_neg e1, if_neg e2]
                    exact HS1.out p q h1 h2 h3 e2 e1
              · intro q h1 h2
                rw [HSA.out, HSA.out, if_pos rfl, if_neg (by omega)]
                by_cases e1 : q = k + 1
                · rw [if_pos e1]; omega
                · rw [if_neg e1]
                  exact HS2.out q (by omega) h2
              · intro p h1 h2 h3
                rw [HSA.out, if_neg h3]
                by_cases e1 : p = k + 1
                · rw [if_pos e1, ← HX2.out]
                  exact HBF.out k (by omega) (by omega) (by omega)
                · rw [if_neg e1]
                  exact HBF.out p h1 h2 e1
            case measure => simp [intOf]
          · have hc : ¬ cm x y < 0 := fun h => hfx ((HCI.out x y hq1 hq2 HLT.out).1 h)
            go_wp2
            go_quiet (first | (go_at_call 45; exact Calls.quiet_of (HCM.out _)))
            go_wp2
            go_roundw
            case rel => exact OUT.out (.inr (by rw [Nat.add_sub_cancel, HX2.out]; exact hfx)) nq
            case measure => simp [intOf]; omega
        · have hd : decide ((a : Int) < (j : Int)) = false := decide_eq_false (by omega)
          go_wp2
          go_quiet (fail)
          go_wp2
          go_roundw
          case rel => exact OUT.out (.inl (by omega)) nq
          case measure => simp [intOf]; omega
    · go_wp2
      go_end0
      exact ⟨rfl, S1, ho, hmv, fun p q h1 h2 h3 => hsr p q h1 h2 (by omega), hg⟩

/-- The signs of the left part stand ahead of those of the right. -/
def Ord (a c b : Nat) (S : List Nat) : Prop := ∀ i j, a ≤ i → i < c → c ≤ j → j < b → at0 S i < at0 S j
/-- What symMerge does. -/
def SymOkB (base gd m cap pc n : Nat) (f : Nat → Nat) : Prop := ∀ (a c b : Nat) (S : List Nat) (w : World), a < c → c < b → b ≤ m → SnO w base gd m cap S → (∀ x ∈ S, x < n) → CmpOkB w gd pc n f → SrtOn f a c S → SrtOn f c b S → Ord a c b S →
  Calls Tryz.prog 100 #[.slice (some ⟨gd, 0, none⟩) m cap, .int .i64 (a : Nat), .int .i64 (c : Nat), .int .i64 (b : Nat), .func (.func 45) #[] #[.pointer (some ⟨pc, 0, none⟩)]] w
    fun e w' => e = .returned (.tuple #[]) ∧ ∃ S', SnO w' base gd m cap S' ∧ Mov a b S S' ∧ SrtOn f a b S' ∧ w.grownBy w' (some gd)

theorem CmpAtB.grown {w w1 : World} {gd pc n : Nat} {cm : Nat → Nat → Int} (h : CmpAtB cm w gd pc n) (hg : w.grownBy w1 (some gd)) : CmpAtB cm w1 gd pc n := fun w2 hg2 =>
  h w2 ⟨hg2.os.trans hg.os, hg2.tape.trans hg.tape, hg2.output.trans hg.output, Nat.le_trans hg.size hg2.size, fun k hk hne => (hg2.block k (Nat.lt_of_lt_of_le hk hg.size) hne).trans (hg.block k hk hne)⟩
theorem CmpOkB.grown {w w1 : World} {gd pc n : Nat} {f : Nat → Nat} (h : CmpOkB w gd pc n f) (hg : w.grownBy w1 (some gd)) : CmpOkB w1 gd pc n f := by
  obtain ⟨cm, h1, h2⟩ := h
  exact ⟨cm, h1, h2.grown hg⟩
theorem gtrans {w w1 w2 : World} {row : Option Nat} (h : w.grownBy w1 row) (k : w1.grownBy w2 row) : w.grownBy w2 row :=
  ⟨k.os.trans h.os, k.tape.trans h.tape, k.output.trans h.output, Nat.le_trans h.size k.size, fun i hi hne => (k.block i (Nat.lt_of_lt_of_le hi h.size) hne).trans (h.block i hi hne)⟩
theorem Mov.all {a b : Nat} {S S' : List Nat} {n : Nat} (h : Mov a b S S') (hx : ∀ x ∈ S, x < n) : ∀ x ∈ S', x < n := fun x hm => hx x (h.perm.mem_iff.1 hm)
/-- What lies elsewhere stays sorted. -/
theorem Mov.srt {f : Nat → Nat} {a b c d : Nat} {S S' : List Nat} (h : Mov a b S S') (hd : d ≤ a ∨ b ≤ c) (hs : SrtOn f c d S) : SrtOn f c d S' := fun i j h1 h2 h3 => by
  rw [h.out i (by omega), h.out j (by omega)]
  exact hs i j h1 h2 h3

/-- Where the signs come from: below A out of the same pair of blocks, from A on out of the same block. -/
def Org (m : Nat) (S S1 : List Nat) (A bs : Nat) : Prop := ∀ p, p < m → ∃ p', p' < m ∧ at0 S1 p = at0 S p' ∧ (p < A → p' / (2 * bs) = p / (2 * bs)) ∧ (A ≤ p → p' / bs = p / bs)
theorem div_in (bs k p : Nat) (h1 : bs * k ≤ p) (h2 : p < bs * k + bs) : p / bs = k := by
  apply Nat.div_eq_of_lt_le
  · rw [Nat.mul_comm]; exact h1
  · rw [Nat.mul_comm, Nat.mul_succ]; exact h2
theorem div_two (bs p q : Nat) (h : p / bs = q / bs) : p / (2 * bs) = q / (2 * bs) := by
  rw [Nat.mul_comm 2 bs, ← Nat.div_div_eq_div_mul, ← Nat.div_div_eq_div_mul, h]
theorem lt_of_div (bs p q : Nat) (h : p / bs < q / bs) : p < q := by
  apply Nat.lt_of_not_le
  intro h2
  have := Nat.div_le_div_right (c := bs) h2
  omega
theorem org_ord {m A bs k b : Nat} {S S1 : List Nat} (h : Org m S S1 A bs) (hA : A = 2 * bs * k) (hinc : ∀ p q, p < q → q < m → at0 S p < at0 S q) (hb : b ≤ m) (hb2 : b ≤ A + 2 * bs) : Ord A (A + bs) b S1 := fun i j h1 h2 h3 h4 => by
  obtain ⟨i', e1, e2, _, e3⟩ := h i (by omega)
  obtain ⟨j', g1, g2, _, g3⟩ := h j (by omega)
  have e4 := e3 h1
  have g4 := g3 (by omega)
  have hA2 : A = bs * (2 * k) := by rw [hA, Nat.mul_comm 2 bs, Nat.mul_assoc]
  have hA3 : bs * (2 * k + 1) = A + bs := by rw [Nat.mul_succ, hA2]
  rw [div_in bs (2 * k) i (by omega) (by omega)] at e4
  rw [div_in bs (2 * k + 1) j (by omega) (by omega)] at g4
  rw [e2, g2]
  exact hinc i' j' (lt_of_div bs i' j' (by omega)) g1
theorem org_step {m A bs k : Nat} {S S1 S2 : List Nat} (h : Org m S S1 A bs) (hA : A = 2 * bs * k) (hm : Mov A (A + 2 * bs) S1 S2) (hb : A + 2 * bs ≤ m) : Org m S S2 (A + 2 * bs) bs := fun p hp => by
  by_cases h1 : A ≤ p
  · by_cases h2 : p < A + 2 * bs
    · obtain ⟨p1, e1, e2, e3⟩ := hm.ins p h1 h2
      obtain ⟨p', g1, g2, _, g3⟩ := h p1 (by omega)
      refine ⟨p', g1, by rw [e3, g2], fun _ => ?_, fun h3 => by omega⟩
      rw [div_two bs p' p1 (g3 e1), div_in (2 * bs) k p1 (by omega) (by omega), div_in (2 * bs) k p (by omega) (by omega)]
    · obtain ⟨p', g1, g2, _, g3⟩ := h p hp
      exact ⟨p', g1, by rw [hm.out p (by omega), g2], fun h3 => by omega, fun _ => g3 h1⟩
  · obtain ⟨p', g1, g2, g3, _⟩ := h p hp
    exact ⟨p', g1, by rw [hm.out p (by omega), g2], fun _ => g3 (by omega), fun h3 => by omega⟩
theorem org_fin {m A bs k : Nat} {S S1 S2 : List Nat} (h : Org m S S1 A bs) (hA : A = 2 * bs * k) (hm : Mov A m S1 S2) (hb : m < A + 2 * bs) : Org m S S2 0 (2 * bs) := fun p hp => by
  by_cases h1 : A ≤ p
  · obtain ⟨p1, e1, e2, e3⟩ := hm.ins p h1 hp
    obtain ⟨p', g1, g2, _, g3⟩ := h p1 (by omega)
    refine ⟨p', g1, by rw [e3, g2], fun h3 => by omega, fun _ => ?_⟩
    rw [div_two bs p' p1 (g3 e1), div_in (2 * bs) k p1 (by omega) (by omega), div_in (2 * bs) k p (by omega) (by omega)]
  · obtain ⟨p', g1, g2, g3, _⟩ := h p hp
    exact ⟨p', g1, by rw [hm.out p (by omega), g2], fun h3 => by omega, fun _ => g3 (by omega)⟩
theorem org_ins {m A B k : Nat} {S S1 S2 : List Nat} (h : Org m S S1 0 20) (ht : ∀ q, A ≤ q → at0 S1 q = at0 S q) (hA : 20 * k = A) (hm : Mov A B S1 S2) (hb : B ≤ A + 20) (hbm : B ≤ m) : Org m S S2 0 20 := fun p hp => by
  by_cases h1 : A ≤ p ∧ p < B
  · obtain ⟨p1, e1, e2, e3⟩ := hm.ins p h1.1 h1.2
    exact ⟨p1, by omega, by rw [e3, ht p1 e1], fun h3 => by omega, fun _ => by omega⟩
  · obtain ⟨p', g1, g2, g3, g4⟩ := h p hp
    exact ⟨p', g1, by rw [hm.out p (by omega), g2], g3, g4⟩
theorem org_refl (m : Nat) (S : List Nat) : Org m S S 0 20 := fun p hp => ⟨p, hp, rfl, fun _ => rfl, fun _ => rfl⟩

set_option maxRecDepth 100000 in
set_option maxHeartbeats 8000000 in
theorem stable_anyB (base gd m cap pc n : Nat) (f : Nat → Nat) (S : List Nat) (w : World) (hO : SnO w base gd m cap S) (hx : ∀ x ∈ S, x < n) (hC : CmpOkB w gd pc n f) (hm : m ≤ 1000) (hinc : ∀ p q, p < q → q < m → at0 S p < at0 S q) (hsym : 20 < m → SymOkB base gd m cap pc n f) :
    Calls Tryz.prog 71 #[.slice (some ⟨gd, 0, none⟩) m cap, .int .i64 m, .func (.func 45) #[] #[.pointer (some ⟨pc, 0, none⟩)]] w
      fun e w' => e = .returned (.tuple #[]) ∧ ∃ S', SnO w' base gd m cap S' ∧ Mov 0 m S S' ∧ SrtOn f 0 m S' ∧ w.grownBy w' (some gd) := by
  have HI := Lib.hid (fun a b S1 w1 (ho : SnO w1 base gd m cap S1) (hmv : Mov 0 m S S1) (hg : w.grownBy w1 (some gd)) (hb : b ≤ m) (ha : a ≤ m) (ht : ∀ q, a ≤ q → at0 S1 q = at0 S q) => ins_anyB base gd m cap a b pc n f S1 w1 ho (hmv.all hx) (hC.grown hg) hb ha hm (fun p q h1 h2 h3 => by rw [ht p h1, ht q (by omega)]; exact hinc p q h2 (by omega)))
  have HY := Lib.hid (fun (h20 : 20 < m) a c b S1 w1 (h1 : a < c) (h2 : c < b) (h3 : b ≤ m) (ho : SnO w1 base gd m cap S1) (hmv : Mov 0 m S S1) (hg : w.grownBy w1 (some gd)) => hsym h20 a c b S1 w1 h1 h2 h3 ho (hmv.all hx) (hC.grown hg))
  have HO := Lib.hid hO
  have HINC := Lib.hid hinc
  clear hO hx hC hsym hinc
  go_enter Tryz.func71, Tryz.ntmps71
  go_wp2_with fail
  go_loopw [7, 8] (fun va vb wr => ∃ k S1, va = .int .i64 (20 * k : Nat) ∧ vb = .int .i64 (20 * k + 20 : Nat) ∧ 20 * k ≤ m ∧ SnO wr base gd m cap S1 ∧ Mov 0 m S S1 ∧ (∀ j, j < k → SrtOn f (20 * j) (20 * j + 20) S1) ∧ w.grownBy wr (some gd) ∧ Org m S S1 0 20 ∧ (∀ q, 20 * k ≤ q → at0 S1 q = at0 S q)) (fun va _ _ => (m + 40) - (intOf va).toNat)
  case atStart => exact ⟨0, S, rfl, rfl, Nat.zero_le _, HO.out, Mov.refl _ _ _, fun j hj => by omega, World.grownBy.refl _ _, org_refl _ _, fun _ _ => rfl⟩
  case round =>
    obtain ⟨k, S1, rfl, rfl, hk, ho, hmv, hs, hg, horg, htl⟩ := hrel
    have HORG := Lib.hid horg
    have HTL := Lib.hid htl
    clear horg htl
    have HO1 := Lib.hid ho
    have HM := Lib.hid hmv
    have HS := Lib.hid hs
    have HG := Lib.hid hg
    clear ho hmv hs hg
    by_cases hlt : 20 * k + 20 ≤ m
    · have hI : ((20 * k + 20 : Nat) : Int) ≤ m := by omega
      have HK1 : Hid (∀ S2, Mov (20 * k) (20 * k + 20) S1 S2 → Org m S S2 0 20 ∧ ∀ q, 20 * (k + 1) ≤ q → at0 S2 q = at0 S q) := fun S2 hm2 =>
        ⟨org_ins HORG.out HTL.out rfl hm2 (Nat.le_refl _) hlt, fun q hq => by rw [hm2.out q (by omega), HTL.out q (by omega)]⟩
      have hW : IntKind.i64.wrap (((20 * k + 20 : Nat) : Int) + 20) = ((20 * k + 40 : Nat) : Int) := by rw [IntKind.wrap_i64]; omega
      generalize hA : 20 * k = A at *
      generalize hB : A + 20 = B at *
      go_wp2_with fail
      refine (HI.out A B S1 wr HO1.out HM.out HG.out (by omega) (by omega) HTL.out).mono ?_
      rintro e w2 ⟨rfl, S2, ho2, hm2, hs2, hg2⟩
      go_wp2_with fail
      go_roundw
      case rel =>
        refine ⟨k + 1, S2, by congr 1; omega, ?_, by omega, ho2, HM.out.trans (hm2.wide (Nat.zero_le _) (by omega)), ?_, gtrans HG.out hg2, (HK1.out S2 hm2).1, (HK1.out S2 hm2).2⟩
        · congr 1; omega
        · intro j hj
          by_cases e : j = k
          · subst e; rw [hA, hB]; exact hs2
          · exact hm2.srt (.inl (by omega)) (HS.out j (by omega))
      case measure => simp [intOf]; omega
    · have hI : ¬ ((20 * k + 20 : Nat) : Int) ≤ m := by omega
      have HK2 : Hid (∀ S2, Mov (20 * k) m S1 S2 → Org m S S2 0 20) := fun S2 hm2 => org_ins HORG.out HTL.out rfl hm2 (by omega) (Nat.le_refl _)
      generalize hA : 20 * k = A at *
      generalize hB : A + 20 = B at *
      go_wp2_with fail
      refine (HI.out A m S1 wr HO1.out HM.out HG.out (by omega) (by omega) HTL.out).mono ?_
      rintro e w2 ⟨rfl, S2, ho2, hm2, hs2, hg2⟩
      have HORG2 := Lib.hid (HK2.out S2 hm2)
      have HO2 := Lib.hid ho2
      have HM2 := Lib.hid (HM.out.trans (hm2.wide (Nat.zero_le _) (Nat.le_refl _)))
      have HG2 := Lib.hid (gtrans HG.out hg2)
      have HS2 : Hid (∀ j, SrtOn f (20 * j) (min (20 * j + 20) m) S2) := fun j => by
        by_cases h1 : j < k
        · have := hm2.srt (.inl (by omega)) (HS.out j h1)
          intro p q e1 e2 e3
          exact this p q e1 e2 (by omega)
        · by_cases h2 : j = k
          · subst h2; rw [hA]; intro p q e1 e2 e3; exact hs2 p q e1 e2 (by omega)
          · intro p q e1 e2 e3; omega
      clear ho2 hm2 hs2 hg2 HS HM HG HO1
      go_wp2_with fail
      go_loopw [6] (fun vs wr => ∃ bs S1, vs = .int .i64 (bs : Nat) ∧ 20 ≤ bs ∧ (bs = 20 ∨ bs < 2 * m) ∧ SnO wr base gd m cap S1 ∧ Mov 0 m S S1 ∧ (∀ j, SrtOn f (bs * j) (min (bs * j + bs) m) S1) ∧ w.grownBy wr (some gd) ∧ Org m S S1 0 bs) (fun vs _ => m - (intOf vs).toNat)
      case atStart => exact ⟨20, S2, rfl, Nat.le_refl _, .inl rfl, HO2.out, HM2.out, HS2.out, HG2.out, HORG2.out⟩
      case round =>
        obtain ⟨bs, S3, rfl, hb20, hbm, ho, hmv, hs, hg, horg⟩ := hrel
        have HORG3 := Lib.hid horg
        clear horg HK2 HORG HTL HORG2
        have HO3 := Lib.hid ho
        have HM3 := Lib.hid hmv
        have HS3 := Lib.hid hs
        have HG3 := Lib.hid hg
        clear ho hmv hs hg HO2 HM2 HS2 HG2
        by_cases hbs : bs < m
        · have hW1 : IntKind.i64.wrap (2 * (bs : Int)) = ((2 * bs : Nat) : Int) := by rw [IntKind.wrap_i64]; omega
          have hW2 : IntKind.i64.wrap ((bs : Int) * 2) = ((2 * bs : Nat) : Int) := by rw [IntKind.wrap_i64]; omega
          have hSY := HY.out (by omega)
          have HSY := Lib.hid hSY
          clear hSY
          go_wp2_with fail
          go_loopw [7, 8] (fun va vb wr => ∃ k A S1, A = 2 * bs * k ∧ va = .int .i64 (A : Nat) ∧ vb = .int .i64 (A + 2 * bs : Nat) ∧ A ≤ m ∧ SnO wr base gd m cap S1 ∧ Mov 0 m S S1 ∧ (∀ j, j < k → SrtOn f (2 * bs * j) (2 * bs * j + 2 * bs) S1) ∧ (∀ j, 2 * k ≤ j → SrtOn f (bs * j) (min (bs * j + bs) m) S1) ∧ w.grownBy wr (some gd) ∧ Org m S S1 A bs) (fun va _ _ => (3 * m + 40) - (intOf va).toNat)
          case atStart => exact ⟨0, 0, S3, by simp, rfl, by congr 1; omega, Nat.zero_le _, HO3.out, HM3.out, fun j hj => by omega, fun j _ => HS3.out j, HG3.out, HORG3.out⟩
          case round =>
            obtain ⟨k, A, S1, hAk, rfl, rfl, hAm, ho, hmv, hs1, hs2, hg, horg⟩ := hrel
            have HOD : Hid (∀ b, b ≤ m → b ≤ A + 2 * bs → Ord A (A + bs) b S1) := fun b h1 h2 => org_ord horg hAk HINC.out h1 h2
            have HOS : Hid (A + 2 * bs ≤ m → ∀ S2, Mov A (A + 2 * bs) S1 S2 → Org m S S2 (A + 2 * bs) bs) := fun h1 S2 h2 => org_step horg hAk h2 h1
            have HOF : Hid (m < A + 2 * bs → ∀ S2, Mov A m S1 S2 → Org m S S2 0 (2 * bs)) := fun h1 S2 h2 => org_fin horg hAk h2 h1
            clear horg
            have HO1 := Lib.hid ho
            have HM1 := Lib.hid hmv
            have HS1 := Lib.hid hs1
            have HS2 := Lib.hid hs2
            have HG1 := Lib.hid hg
            clear ho hmv hs1 hs2 hg
            have e0 : bs * (2 * k) = A := by rw [hAk, Nat.mul_left_comm, Nat.mul_assoc]
            have e1 : bs * (2 * k + 1) = A + bs := by rw [Nat.mul_succ, e0]
            have e2 : 2 * bs * (k + 1) = A + 2 * bs := by rw [Nat.mul_succ, hAk]
            have e3 : ∀ j, j < k → 2 * bs * j + 2 * bs ≤ A := fun j hj => by rw [hAk, ← Nat.mul_succ]; exact Nat.mul_le_mul_left _ hj
            have e4 : ∀ j, 2 * k + 2 ≤ j → A + 2 * bs ≤ bs * j := fun j hj => by
              have := Nat.mul_le_mul_left bs hj
              rw [show 2 * k + 2 = 2 * k + 1 + 1 by omega, Nat.mul_succ, e1] at this
              omega
            have e5 : ∀ j, k < j → A + 2 * bs ≤ 2 * bs * j := fun j hj => by
              have := Nat.mul_le_mul_left (2 * bs) hj
              rw [Nat.succ_eq_add_one, e2] at this
              exact this
            have q1 := HS2.out (2 * k) (Nat.le_refl _)
            have q2 := HS2.out (2 * k + 1) (by omega)
            rw [e0] at q1
            rw [e1] at q2
            have hW3 : IntKind.i64.wrap ((A : Int) + (bs : Int)) = ((A + bs : Nat) : Int) := by rw [IntKind.wrap_i64]; omega
            have hW4 : IntKind.i64.wrap (((A + 2 * bs : Nat) : Int) + ((2 * bs : Nat) : Int)) = ((A + 2 * bs + 2 * bs : Nat) : Int) := by rw [IntKind.wrap_i64]; omega
            have HQ1 := Lib.hid q1
            have HQ2 := Lib.hid q2
            have HE := Lib.hid e3
            have HE4 := Lib.hid e4
            have HE5 := Lib.hid e5
            have HE2 := Lib.hid e2
            have HAK := Lib.hid hAk
            clear q1 q2 e0 e1 e2 e3 e4 e5 hAk
            by_cases hlt : A + 2 * bs ≤ m
            · have hI : ((A + 2 * bs : Nat) : Int) ≤ m := by omega
              have HOD1 := Lib.hid (HOD.out _ hlt (Nat.le_refl _))
              have HOS1 := Lib.hid (HOS.out hlt)
              clear HOD HOS HOF HORG3
              generalize hB2 : 2 * bs = B2 at *
              generalize hBB : A + B2 = BB at *
              generalize hMM : A + bs = MM at *
              go_wp2_with fail
              refine (HSY.out A MM BB S1 wr (by omega) (by omega) (by omega) HO1.out HM1.out HG1.out (fun p q h1 h2 h3 => HQ1.out p q h1 h2 (by omega)) (fun p q h1 h2 h3 => HQ2.out p q h1 h2 (by omega)) HOD1.out).mono ?_
              rintro e w2 ⟨rfl, S2, ho2, hm2, hs2, hg2⟩
              go_wp2_with fail
              go_roundw
              case rel =>
                refine ⟨k + 1, BB, S2, by rw [HE2.out], by congr 1, by congr 1, by omega, ho2, HM1.out.trans (hm2.wide (Nat.zero_le _) (by omega)), ?_, ?_, gtrans HG1.out hg2, HOS1.out S2 hm2⟩
                · intro j hj
                  by_cases e : j = k
                  · subst e; rw [← HAK.out, hBB]; exact hs2
                  · have := HE.out j (by omega)
                    exact hm2.srt (.inl (by omega)) (HS1.out j (by omega))
                · intro j hj
                  have := HE4.out j (by omega)
                  exact hm2.srt (.inr (by omega)) (HS2.out j (by omega))
              case measure => simp [intOf]; omega
            · have hI : ¬ ((A + 2 * bs : Nat) : Int) ≤ m := by omega
              -- what is left, merged or not
              have FIN : Hid (∀ S2 w2, SnO w2 base gd m cap S2 → Mov A m S1 S2 → SrtOn f A m S2 → w.grownBy w2 (some gd) → ∃ bs' S', Value.int .i64 ((2 * bs : Nat) : Int) = .int .i64 (bs' : Nat) ∧ 20 ≤ bs' ∧ (bs' = 20 ∨ bs' < 2 * m) ∧ SnO w2 base gd m cap S' ∧ Mov 0 m S S' ∧ (∀ j, SrtOn f (bs' * j) (min (bs' * j + bs') m) S') ∧ w.grownBy w2 (some gd) ∧ Org m S S' 0 bs') := fun S2 w2 ho2 hm2 hs2 hg2 =>
                ⟨2 * bs, S2, rfl, by omega, .inr (by omega), ho2, HM1.out.trans (hm2.wide (Nat.zero_le _) (Nat.le_refl _)), fun j => by
                  by_cases h1 : j < k
                  · have h2 := HE.out j h1
                    have := hm2.srt (.inl (by omega)) (HS1.out j h1)
                    intro p q e1 e2 e3
                    exact this p q e1 e2 (by omega)
                  · by_cases h2 : j = k
                    · subst h2; rw [← HAK.out]; intro p q e1 e2 e3; exact hs2 p q e1 e2 (by omega)
                    · have := HE5.out j (by omega)
                      intro p q e1 e2 e3; omega, hg2, HOF.out (by omega) S2 hm2⟩
              by_cases hmm : A + bs < m
              · have hI2 : ((A + bs : Nat) : Int) < m := by omega
                have HOD1 := Lib.hid (HOD.out m (Nat.le_refl _) (by omega))
                clear HOD HOS HOF HORG3
                generalize hMM : A + bs = MM at *
                generalize hBB : A + 2 * bs = BB at *
                generalize hB2 : 2 * bs = B2 at *
                go_wp2_with fail
                refine (HSY.out A MM m S1 wr (by omega) (by omega) (by omega) HO1.out HM1.out HG1.out (fun p q h1 h2 h3 => HQ1.out p q h1 h2 (by omega)) (fun p q h1 h2 h3 => HQ2.out p q h1 h2 (by omega)) HOD1.out).mono ?_
                rintro e w2 ⟨rfl, S2, ho2, hm2, hs2, hg2⟩
                go_wp2_with fail
                go_roundw
                case rel => exact FIN.out S2 w2 ho2 hm2 hs2 (gtrans HG1.out hg2)
                case measure => simp [intOf]; omega
              · have hI2 : ¬ ((A + bs : Nat) : Int) < m := by omega
                clear HOD HOS HOF HORG3
                generalize hMM : A + bs = MM at *
                generalize hBB : A + 2 * bs = BB at *
                generalize hB2 : 2 * bs = B2 at *
                go_wp2_with fail
                go_roundw
                case rel => exact FIN.out S1 wr HO1.out (Mov.refl _ _ _) (fun p q h1 h2 h3 => HQ1.out p q h1 h2 (by omega)) HG1.out
                case measure => simp [intOf]; omega
        · go_wp2_with fail
          go_end0
          refine ⟨rfl, S3, HO3.out, HM3.out, ?_, HG3.out⟩
          have := HS3.out 0
          intro p q e1 e2 e3
          exact this p q (by omega) e2 (by omega)

set_option maxHeartbeats 2000000 in
theorem sort_anyB (base gd m cap pc n : Nat) (f : Nat → Nat) (S : List Nat) (w : World) (hO : SnO w base gd m cap S) (hx : ∀ x ∈ S, x < n) (hC : CmpOkB w gd pc n f) (hm : m ≤ 1000) (hinc : ∀ p q, p < q → q < m → at0 S p < at0 S q) (hsym : 20 < m → SymOkB base gd m cap pc n f) :
    Calls Tryz.prog 44 #[.slice (some ⟨gd, 0, none⟩) m cap, .func (.func 45) #[] #[.pointer (some ⟨pc, 0, none⟩)]] w
      fun e w' => e = .returned (.tuple #[]) ∧ ∃ S', SnO w' base gd m cap S' ∧ Mov 0 m S S' ∧ SrtOn f 0 m S' ∧ w.grownBy w' (some gd) := by
  have H := Lib.hid (stable_anyB base gd m cap pc n f S w hO hx hC hm hinc hsym)
  clear hO hx hC hsym hinc
  go_enter Tryz.func44, Tryz.ntmps44
  go_wp2_with fail
  refine (H.out).mono ?_
  rintro e w2 ⟨rfl, h⟩
  go_wp2_with fail
  go_end0
  exact ⟨rfl, h⟩
theorem ins_nil (pc : Nat) (w : World) :
    Calls Tryz.prog 99 #[.slice none 0 0, .int .i64 0, .int .i64 0, .func (.func 45) #[] #[.pointer (some ⟨pc, 0, none⟩)]] w fun e w' => e = .returned (.tuple #[]) ∧ w' = w := by
  go_enter Tryz.func99, Tryz.ntmps99
  go_wp2
  go_loopw [8] (fun v wr => v = .int .i64 1 ∧ wr = w) (fun _ _ => 0)
  case atStart => exact ⟨rfl, rfl⟩
  case round =>
    obtain ⟨rfl, rfl⟩ := hrel
    go_wp2
    go_end0
    exact ⟨rfl, rfl⟩
theorem stable_nil (pc : Nat) (w : World) :
    Calls Tryz.prog 71 #[.slice none 0 0, .int .i64 0, .func (.func 45) #[] #[.pointer (some ⟨pc, 0, none⟩)]] w fun e w' => e = .returned (.tuple #[]) ∧ w' = w := by
  go_enter Tryz.func71, Tryz.ntmps71
  go_wp2_with fail
  go_loopw [7, 8] (fun v v2 wr => v = .int .i64 0 ∧ v2 = .int .i64 20 ∧ wr = w) (fun _ _ _ => 0)
  case atStart => exact ⟨rfl, rfl, rfl⟩
  case round =>
    obtain ⟨rfl, rfl, rfl⟩ := hrel
    go_wp2_with fail
    refine (ins_nil pc wr).mono ?_
    rintro e w2 ⟨rfl, rfl⟩
    go_wp2_with fail
    go_loopw [6] (fun v wr => v = .int .i64 20 ∧ wr = w2) (fun _ _ => 0)
    case atStart => exact ⟨rfl, rfl⟩
    case round =>
      obtain ⟨rfl, rfl⟩ := hrel
      go_wp2_with fail
      go_end0
      exact ⟨rfl, rfl⟩
/-- Of no sign. -/
theorem sort_nil (pc : Nat) (w : World) :
    Calls Tryz.prog 44 #[.slice none 0 0, .func (.func 45) #[] #[.pointer (some ⟨pc, 0, none⟩)]] w fun e w' => e = .returned (.tuple #[]) ∧ w' = w := by
  go_enter Tryz.func44, Tryz.ntmps44
  go_wp2_with fail
  refine (stable_nil pc w).mono ?_
  rintro e w2 ⟨rfl, rfl⟩
  go_wp2_with fail
  go_end0
  exact ⟨rfl, rfl⟩
end Go.Proofs.YtijfcmlgohbndaaGreatDoor.Bp
