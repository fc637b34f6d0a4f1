/-
  Glob: Match.
  Filter: the chapter's example (awake); what more patterns do.
  PlanModes: patterns that are too many; what the law asks of actions (mathematics).
  Plan: the chapter's example: one item is at odds with none; actions; Make; awake.
  Items: the law's Few; Same of the same items.
  A slice of items as it comes in.
-/
import Derived.Test.YtijfcmlgohbndaaGreatDoorPkBH
import Derived.Test.YtijfcmlgohbndaaGreatDoorPkCG
import Derived.Test.YtijfcmlgohbndaaGreatDoorPkBJ
import Derived.Test.YtijfcmlgohbndaaGreatDoorPkAD
import Derived.BigQuiet
import Derived.Deep.Slices
import Derived.Deep.Strs
import Derived.ArgAppend
import Derived.Deep.SlicePairs

namespace Go.Proofs.YtijfcmlgohbndaaGreatDoor
set_option maxRecDepth 100000
open Go.RowKit Go.Joins Go.Deep

theorem setF_count {l : List Nat} {a : Nat} {acc rs : List (Nat × Nat)} {e : Nat} (h : setF l a acc = some (rs, e)) : rs.length + a ≤ acc.length + e := by
  by_cases h1 : a < l.length ∧ l.getD a 0 = 93 ∧ acc ≠ []
  · rw [setF_done h1] at h
    injection h with h; injection h with h1 h2; subst h1; omega
  · by_cases h0 : (spanF (l.drop a)).2 = 0
    · rw [setF_none h1 h0] at h; cases h
    · rw [setF_more h1 h0] at h
      have hl := spanF_le (l.drop a)
      rw [List.length_drop] at hl
      have := setF_count h
      rw [List.length_append] at this
      simp at this
      omega
termination_by l.length + 1 - a
decreasing_by
  have h1 := spanF_le (l.drop a)
  rw [List.length_drop] at h1
  omega
theorem atomF_rs {l : List Nat} {p : Atm × Nat} (h : atomF l = some p) : p.1.rs.length ≤ l.length := by
  unfold atomF at h
  split at h
  · injection h with h; subst h; exact Nat.zero_le _
  split at h
  · injection h with h; subst h; exact Nat.zero_le _
  split at h
  · obtain ⟨q, hq, rfl⟩ := Option.map_eq_some_iff.1 h
    obtain ⟨rs, e⟩ := q
    have h1 := setF_count hq
    have h2 := (setF_le hq).2
    rw [List.length_drop] at h2
    show (rgI rs).length ≤ _
    rw [rgI_len]
    simp at h1
    omega
  split at h
  · cases h
  · injection h with h; subst h; exact Nat.zero_le _
theorem compF_count {l : List Nat} {a : Nat} {acc ats : List Atm} (h : compF l a acc = some ats) (hb : ∀ x ∈ acc, x.rs.length ≤ l.length) (ha : a ≤ l.length) : ats.length + a ≤ acc.length + l.length ∧ ∀ x ∈ ats, x.rs.length ≤ l.length := by
  by_cases hal : a < l.length
  · cases hD : atomF (l.drop a) with
    | none => rw [compF_none hal hD] at h; cases h
    | some p =>
      obtain ⟨x, k⟩ := p
      have hle := atomF_le (by rw [List.length_drop]; omega) hD
      rw [List.length_drop] at hle
      have hrs := atomF_rs hD
      rw [List.length_drop] at hrs
      dsimp only at hle hrs
      rw [compF_more hal hD] at h
      have := compF_count h (fun y hy => by
        rcases List.mem_append.1 hy with hy | hy
        · exact hb y hy
        · obtain rfl : y = x := by simpa using hy
          omega) (by omega)
      rw [List.length_append] at this
      simp at this
      exact ⟨by omega, this.2⟩
  · rw [compF_end hal] at h
    injection h with h
    subst h
    exact ⟨by omega, hb⟩
termination_by l.length - a
decreasing_by omega
/-- What Match answers. -/
def MatchR (w : World) (o : Option (List Atm)) (l : List Nat) (e : Ending) (w' : World) : Prop :=
  ((o = none ∧ e = .returned (.tuple #[.bool false, .int .i64 22])) ∨ (∃ ats, o = some ats ∧ e = .returned (.tuple #[.bool (mtB ats l), .int .i64 0]))) ∧ Below w.heap.size w w'
end Go.Proofs.YtijfcmlgohbndaaGreatDoor

namespace Go.Proofs.YtijfcmlgohbndaaGreatDoor
set_option maxRecDepth 100000
set_option linter.unusedSimpArgs false
set_option linter.unusedVariables false
open Go.RowKit Go.Joins Go.Deep
open Go.Lib hiding intOf
theorem cmp_small {s : ByteArray} {p : List Atm} (h : cmp1 s = some p) (hs : s.size ≤ 1000) : p.length ≤ 1000000 ∧ ∀ x ∈ p, x.rs.length ≤ 1000000 := by
  have hl : (runesB s).length ≤ s.size := runeF_len s s.size 0
  have h1 := compF_count h (fun x hx => by cases hx) (Nat.zero_le _)
  refine ⟨by have := h1.1; simp at this; omega, fun x hx => ?_⟩
  have := h1.2 x hx
  omega
theorem small_pats {ss : List ByteArray} {pats : List (List Atm)} (h : ss.map cmp1 = pats.map some) (hn : ss.length ≤ 1000) (hs : ∀ s ∈ ss, s.size ≤ 1000) : SmallP pats := by
  have hl : ss.length = pats.length := by have := congrArg List.length h; simpa using this
  refine ⟨by omega, fun p hp => ?_⟩
  have hm : some p ∈ ss.map cmp1 := by rw [h]; exact List.mem_map_of_mem hp
  obtain ⟨s, hs1, hs2⟩ := List.mem_map.1 hm
  have h1 := hs s hs1
  exact cmp_small hs2 h1
theorem txs_one (w : World) (s : ByteArray) (b : Nat) (f : Nat × Nat) (h : w.heap[b]? = some (.cells #[.string s] 9 f)) : TxS w (some ⟨b, 0, none⟩) [s] := fun _ => ⟨b, 0, rfl, lt_of_block h, fun i x hx => by
  match i, hx with
  | 0, hx =>
    injection hx with hx
    subst hx
    exact (cell_of_row _ _ 0 _ _ _ h).trans rfl⟩
end Go.Proofs.YtijfcmlgohbndaaGreatDoor

namespace Go.Proofs.YtijfcmlgohbndaaGreatDoor
set_option maxRecDepth 100000
set_option linter.unusedSimpArgs false
set_option linter.unusedVariables false
open Go.RowKit Go.Joins Go.Deep
open Go.Lib hiding intOf
set_option maxHeartbeats 4000000 in
theorem fmakeMany_any (A1 A2 : Option Addr) (c1 c2 : Nat) (n1 n2 : Nat) (h : 100 < n1 ∨ 100 < n2) (w : World) :
    Calls Tryz.prog 8 #[.slice A1 n1 c1, .slice A2 n2 c2] w fun e w' => e = .returned (.tuple #[.agg #[.slice none 0 0, .slice none 0 0], .int .i64 6]) ∧ Below w.heap.size w w' := by
  have hif := info_fil
  have hzf := zero_fil
  have hmx : decide ((100 : Int) < (if (n1 : Int) < (n2 : Int) then (n2 : Int) else (n1 : Int))) = true := decide_eq_true (by split <;> omega)
  have hmx2 : decide ((100 : Int) < max (n1 : Int) (n2 : Int)) = true := decide_eq_true (by omega)
  have hmx3 : ¬ max (n1 : Int) (n2 : Int) ≤ 100 := by omega
  have HB0 := Lib.hid (below_alP w (.cells #[.slice none 0 0, .slice none 0 0] 31))
  have HX0 := Lib.hid (heap_alloc_new w (.cells #[.slice none 0 0, .slice none 0 0] 31))
  clear h
  go_enter Tryz.func8, Tryz.ntmps8
  go_upto_region 1 with fail
  generalize w.alloc (.cells #[.slice none 0 0, .slice none 0 0] 31) = w1 at *
  go_wp2_with (refine wpList_store_row rfl 31 (.tmp 4) (.tmp 15) rfl w.heap.size #[.slice none 0 0, .slice none 0 0] rfl rfl 31 _ HX0.out info_fil rfl (by simp [Value.oneCell']) ?_)
  have HY := Lib.hid (setRow_heap _ _ _ #[.slice none 0 0, .slice none 0 0] _ _ HX0.out)
  exact bodyPost_ret (results_ct_rowD rfl _ _ w.heap.size 31 #[.slice none 0 0, .slice none 0 0] (0, 0) _ rfl HY.out Tryz.underlying31 rfl info_fil) rfl ⟨rfl, below_setRow HB0.out (Nat.le_refl _) _⟩
theorem patR_nil (w : World) (A : Option Addr) : PatR w A [] := fun h => absurd h (by decide)
theorem filK_nil {w : World} (hT : Tabs w) : FilK w (.agg #[.slice none 0 0, .slice none 0 0]) [] [] := ⟨⟨none, 0, none, 0, rfl, patR_nil _ _, patR_nil _ _, Nat.le_refl _, Nat.le_refl _⟩, ⟨by decide, fun p h => by cases h⟩, ⟨by decide, fun p h => by cases h⟩, hT⟩
/-- Of light patterns Make answers a filter that may be gone by. -/
theorem fmakeAll_any (A1 A2 : Option Addr) (c1 c2 : Nat) (ssi sso : List ByteArray) (h1 : LitP ssi) (h2 : LitP sso) (w : World) (hT1 : TxS w A1 ssi) (hT2 : TxS w A2 sso) (hT : Tabs w) :
    Calls Tryz.prog 8 #[.slice A1 ssi.length c1, .slice A2 sso.length c2] w fun e w' => ∃ FA n1 fa FB n2 fb ins outs z, e = .returned (.tuple #[.agg #[.slice FA n1 fa, .slice FB n2 fb], .int .i64 z]) ∧ FilK w' (.agg #[.slice FA n1 fa, .slice FB n2 fb]) ins outs ∧ Below w.heap.size w w' := by
  have sz : ∀ ss : List ByteArray, LitP ss → ∀ s ∈ ss, s.size ≤ 1000 := fun ss h s hs => by
    rcases h with h | ⟨_, h⟩
    · obtain rfl : ss = [] := List.eq_nil_of_length_eq_zero h
      cases hs
    · have := h s hs; omega
  by_cases hm : 100 < ssi.length ∨ 100 < sso.length
  · refine (fmakeMany_any A1 A2 c1 c2 ssi.length sso.length hm w).mono ?_
    rintro e w' ⟨rfl, hb⟩
    exact ⟨_, _, _, _, _, _, [], [], 6, rfl, filK_nil (hT.below hb), hb⟩
  · refine (fmake_any A1 A2 c1 c2 ssi sso (by omega) (by omega) (fun s hs => by have := sz ssi h1 s hs; omega) (fun s hs => by have := sz sso h2 s hs; omega) w hT1 hT2).mono ?_
    rintro e w' hout
    rcases hout with ⟨_, rfl, hb⟩ | ⟨ins, outs, A5, c5, A6, c6, g1, g2, rfl, hF, hb⟩
    · exact ⟨_, _, _, _, _, _, [], [], 22, rfl, filK_nil (hT.below hb), hb⟩
    · exact ⟨_, _, _, _, _, _, ins, outs, 0, rfl, ⟨hF, small_pats g1 (by omega) (sz ssi h1), small_pats g2 (by omega) (sz sso h2), hT.below hb⟩, hb⟩
/-! ### what the law asks -/
theorem cntK_app (l m : List Act3) (k : Int) : cntK (l ++ m) k = cntK l k + cntK m k := by unfold cntK; rw [List.filter_append, List.length_append]
theorem cntK_none {l : List Act3} {k : Int} (h : ∀ a ∈ l, a.k ≠ k) : cntK l k = 0 := by
  unfold cntK
  rw [List.length_eq_zero_iff, List.filter_eq_nil_iff]
  intro a ha
  simpa using h a ha
theorem cntK_all {l : List Act3} {k : Int} (h : ∀ a ∈ l, a.k = k) : cntK l k = l.length := by
  unfold cntK
  rw [List.filter_eq_self.2 (fun a ha => by simpa using h a ha)]
theorem fatI_forms (m s : Int) : fatI m s = 1 ∨ fatI m s = 2 ∨ (m = 1 ∧ fatI m s = 3) := by
  unfold fatI
  split
  · exact .inr (.inl rfl)
  · split
    · exact .inl rfl
    · split
      · rename_i h1 h2 h3
        refine .inr (.inr ⟨?_, rfl⟩)
        exact Classical.not_not.1 (fun h => h2 (.inl h))
      · exact .inr (.inl rfl)
theorem ofA_item (mode : Int) (ins outs : List (List Atm)) (t : List Itm) (k : Nat) (E : Ent) : 0 ≤ (ofA mode ins outs t k E).i ↔ (ofA mode ins outs t k E).k = 2 := by
  unfold ofA
  simp only
  constructor
  · intro h
    by_cases hk : fatI mode (ofSt ins outs t E) = 2
    · exact hk
    · rw [if_neg hk] at h; exact absurd h (by decide)
  · intro hk
    rw [if_pos hk]
    unfold plcI
    cases hp : plcO t (metV E).p with
    | some i => show 0 ≤ ((i : Nat) : Int); omega
    | none =>
      exfalso
      have h0 : ofSt ins outs t E = 0 := by unfold ofSt; rw [hp]
      rw [h0] at hk
      unfold fatI at hk
      by_cases hm : mode = 1
      · simp [hm] at hk
      · simp [hm] at hk
/-- What the law asks of the actions of a mode. -/
structure LawOk (mode : Int) (n : Nat) (a : List Act3) : Prop where
  len : a.length = n + cntK a 4
  low : ∀ (i : Nat) x, a[i]? = some x → i < n → x.e = (i : Nat) ∧ x.k ≠ 4 ∧ (0 ≤ x.i ↔ x.k = 2)
  high : ∀ (i : Nat) x, a[i]? = some x → n ≤ i → x.e = -1 ∧ x.k = 4 ∧ 0 ≤ x.i
  m4 : mode = 4 → cntK a 4 = 0 ∧ cntK a 2 = 0
  m3 : mode = 3 → cntK a 4 = 0 ∧ cntK a 3 = 0
  m2 : mode = 2 → cntK a 3 = 0
theorem ofL_get (mode : Int) (ins outs : List (List Atm)) (t : List Itm) (l : List Ent) (i : Nat) (x : Act3) (h : (ofL mode ins outs t l)[i]? = some x) : ∃ E, l[i]? = some E ∧ x = ofA mode ins outs t i E := by
  unfold ofL at h
  rw [List.getElem?_mapIdx] at h
  cases hl : l[i]? with
  | none => rw [hl] at h; cases h
  | some E => rw [hl] at h; injection h with h; exact ⟨E, rfl, h.symm⟩
theorem ofL_kinds (mode : Int) (ins outs : List (List Atm)) (t : List Itm) (l : List Ent) : ∀ a ∈ ofL mode ins outs t l, a.k = 1 ∨ a.k = 2 ∨ (mode = 1 ∧ a.k = 3) := fun a ha => by
  obtain ⟨i, hi⟩ := List.mem_iff_getElem?.1 ha
  obtain ⟨E, _, rfl⟩ := ofL_get mode ins outs t l i a hi
  exact fatI_forms _ _
theorem del_law (n : Nat) (L : List Act3) (hn : L.length = n) (h : DelOk L) : LawOk 4 n L := by
  have hk : ∀ a ∈ L, a.k = 1 ∨ a.k = 3 := fun a ha => by obtain ⟨i, hi⟩ := List.mem_iff_getElem?.1 ha; exact (h i a hi).2.2
  have h4 : cntK L 4 = 0 := cntK_none (fun a ha => by rcases hk a ha with h | h <;> rw [h] <;> decide)
  have h2 : cntK L 2 = 0 := cntK_none (fun a ha => by rcases hk a ha with h | h <;> rw [h] <;> decide)
  refine ⟨by rw [h4, hn]; rfl, fun i x hx hi => ?_, fun i x hx hi => ?_, fun _ => ⟨h4, h2⟩, fun h => absurd h (by decide), fun h => absurd h (by decide)⟩
  · obtain ⟨e1, e2, e3⟩ := h i x hx
    refine ⟨e1, by rcases e3 with e | e <;> rw [e] <;> decide, ?_⟩
    rw [e2]
    rcases e3 with e | e <;> rw [e] <;> decide
  · have := (List.getElem?_eq_some_iff.1 hx).1; omega
theorem of_law (mode : Int) (hm : mode ≠ 4) (ins outs : List (List Atm)) (t : List Itm) (l : List Ent) (M : List Act3) (hM : ∀ a ∈ M, a.k = 4 ∧ a.e = -1 ∧ 0 ≤ a.i) (h3 : mode = 3 → M = []) : LawOk mode l.length (ofL mode ins outs t l ++ M) := by
  have hk := ofL_kinds mode ins outs t l
  have hlen := ofL_len mode ins outs t l
  have h4 : cntK (ofL mode ins outs t l ++ M) 4 = M.length := by
    rw [cntK_app, cntK_none (fun a ha => by rcases hk a ha with h | h | ⟨_, h⟩ <;> rw [h] <;> decide), cntK_all (fun a ha => (hM a ha).1), Nat.zero_add]
  have h33 : mode ≠ 1 → cntK (ofL mode ins outs t l ++ M) 3 = 0 := fun h1 => by
    rw [cntK_app, cntK_none (fun a ha => by rcases hk a ha with h | h | ⟨h, _⟩; (rw [h]; decide); (rw [h]; decide); exact absurd h h1), cntK_none (fun a ha => by rw [(hM a ha).1]; decide)]
  refine ⟨by rw [List.length_append, hlen, h4], fun i x hx hi => ?_, fun i x hx hi => ?_, fun h => absurd h hm, fun h => ⟨by rw [h4, h3 h]; rfl, h33 (by omega)⟩, fun h => h33 (by omega)⟩
  · rw [List.getElem?_append_left (by omega)] at hx
    obtain ⟨E, _, rfl⟩ := ofL_get mode ins outs t l i x hx
    refine ⟨rfl, ?_, ofA_item _ _ _ _ _ _⟩
    rcases hk _ (List.mem_of_getElem? hx) with h | h | ⟨_, h⟩ <;> rw [h] <;> decide
  · rw [List.getElem?_append_right (by omega)] at hx
    obtain ⟨e1, e2, e3⟩ := hM x (List.mem_of_getElem? hx)
    exact ⟨e2, e1, e3⟩
theorem act_law (mode : Int) (ins outs : List (List Atm)) (t : List Itm) (l : List Ent) : LawOk mode l.length (actL mode ins outs t l) := by
  unfold actL
  split
  · rename_i h4
    subst h4
    exact del_law _ _ (delP_len _ _) (delP_ok _ _ (fun p hp => (entP_all _ _ _ _ p hp).1))
  · rename_i h4
    split
    · rename_i h3
      have h := of_law mode h4 ins outs t l [] (fun a ha => by cases ha) (fun _ => rfl)
      rwa [List.append_nil] at h
    · rename_i h3
      exact of_law mode h4 ins outs t l _ (addK_all _ _ _ _ _) (fun h => absurd h h3)
end Go.Proofs.YtijfcmlgohbndaaGreatDoor

namespace Go.Proofs.YtijfcmlgohbndaaGreatDoor
set_option maxRecDepth 100000
set_option linter.unusedSimpArgs false
set_option linter.unusedVariables false
open Go.RowKit Go.Joins Go.Deep Go.WideMaps
theorem parts_intP : (Tryz.prog.info? 3).map (fun i => (i.zero, i.size, i.bytes)) = some (some (.int .i64 0), 1, 8) := by kernel_rfl
theorem partsInt : ∃ i0, Tryz.prog.info? 3 = some i0 ∧ i0.zero = some (.int .i64 0) ∧ i0.size = 1 ∧ i0.bytes = 8 := by
  have h := parts_intP
  cases hq : Tryz.prog.info? 3 with
  | none => rw [hq] at h; cases h
  | some i =>
    rw [hq] at h
    simp only [Option.map_some, Option.some.injEq, Prod.mk.injEq] at h
    exact ⟨i, rfl, h.1, h.2.1, h.2.2⟩
theorem parts_barP : (Tryz.prog.info? 85).map (fun i => (i.zero, i.size, i.bytes)) = some (some (.agg #[.string ⟨#[]⟩, .int .i64 0]), 2, 24) := by kernel_rfl
theorem partsBar : ∃ i0, Tryz.prog.info? 85 = some i0 ∧ i0.zero = some (.agg #[.string ⟨#[]⟩, .int .i64 0]) ∧ i0.size = 2 ∧ i0.bytes = 24 := by
  have h := parts_barP
  cases hq : Tryz.prog.info? 85 with
  | none => rw [hq] at h; cases h
  | some i =>
    rw [hq] at h
    simp only [Option.map_some, Option.some.injEq, Prod.mk.injEq] at h
    exact ⟨i, rfl, h.1, h.2.1, h.2.2⟩
/-! ### One place in order -/
theorem insert1_any (A : Option Addr) (c : Nat) (F : Value) (w : World) (hF : ∃ a b c, F = .func a b c) : Calls Tryz.prog 99 #[.slice A 1 c, .int .i64 0, .int .i64 1, F] w fun e w' => e = .returned (.tuple #[]) ∧ w' = w := by
  obtain ⟨fa, fb, fc, rfl⟩ := hF
  go_enter Tryz.func99, Tryz.ntmps99
  go_wp2_with fail
  refine wp_loop_rounds 1 ?_
  rw [rounds_succ]
  go_wp2_with fail
  go_end0
  exact ⟨rfl, rfl⟩
set_option maxHeartbeats 4000000 in
theorem stable1_any (A : Option Addr) (c : Nat) (F : Value) (w : World) (hF : ∃ a b c, F = .func a b c) : Calls Tryz.prog 71 #[.slice A 1 c, .int .i64 1, F] w fun e w' => e = .returned (.tuple #[]) ∧ w' = w := by
  have H := Lib.hid (insert1_any A c F w hF)
  obtain ⟨fa, fb, fc, rfl⟩ := hF
  go_enter Tryz.func71, Tryz.ntmps71
  go_wp2_with fail
  refine wp_loop_rounds 1 ?_
  rw [rounds_succ]
  go_wp2_with fail
  refine H.out.mono ?_; rintro e w1 ⟨rfl, rfl⟩
  go_wp2_with fail
  refine wp_loop_rounds 1 ?_
  rw [rounds_succ]
  go_wp2_with fail
  go_end0
  exact ⟨rfl, rfl⟩
theorem sort1_any (A : Option Addr) (c : Nat) (F : Value) (w : World) (hF : ∃ a b c, F = .func a b c) : Calls Tryz.prog 44 #[.slice A 1 c, F] w fun e w' => e = .returned (.tuple #[]) ∧ w' = w := by
  have H := Lib.hid (stable1_any A c F w hF)
  obtain ⟨fa, fb, fc, rfl⟩ := hF
  go_enter Tryz.func44, Tryz.ntmps44
  go_wp2_with fail
  refine H.out.mono ?_; rintro e w1 ⟨rfl, rfl⟩
  go_wp2_with fail
  go_end0
  exact ⟨rfl, rfl⟩
set_option maxHeartbeats 4000000 in
theorem byPath1_any (A : Option Addr) (c : Nat) (w : World) : Calls Tryz.prog 26 #[.slice A 1 c] w fun e w' => ∃ g c', e = .returned (.slice (some ⟨g, 0, none⟩) 1 c') ∧ w'.cell? ⟨g, 0, none⟩ = some (.int .i64 0) ∧ Below w.heap.size w w' := by
  obtain ⟨i0, hi, hz0, hz1, hz2⟩ := partsInt
  have hx0 := heap_alloc_new w (.cells #[.slice A 1 c] 23)
  have hb0 := below_alP w (.cells #[.slice A 1 c] 23)
  have y0 := (cell_of_row _ _ 0 _ _ _ hx0).trans (show _ = some (Value.slice A 1 c) from rfl)
  have HB0 := Lib.hid hb0
  have HL : Hid (w.heap.size ≤ (w.alloc (.cells #[.slice A 1 c] 23)).heap.size) := hb0.size
  clear hx0 hb0
  go_enter Tryz.func26, Tryz.ntmps26
  go_upto_region 1 with fail
  generalize w.alloc (.cells #[.slice A 1 c] 23) = w1 at *
  go_wp2_with fail
  refine wp_loop_rounds 2 ?_
  rw [rounds_succ]
  have HB1 := Lib.hid (HB0.out.alloc HL.out (.cells #[.int .i64 0] 3))
  have HL1 : Hid (w.heap.size ≤ (w1.alloc (.cells #[.int .i64 0] 3)).heap.size) := HB1.out.size
  go_wp2_with (at_builtin; refine wpList_append_own_at _ rfl (.tmp 10) (.tmp 12) _ rfl w.heap.size 3 i0 (.int .i64 0) 1 8 Tryz.underlying80 hi hz0 hz1 hz2 rfl (by decide) (.slice none 0 0) 0 [] rfl (World.ownsRow_nil _ _ _ _) ⟨w1.heap.size, 0, none⟩ 1 1 [.int .i64 0] rfl rfl ?c1 ?c2 ?c3 ?c4 ?c5 ?_)
  case c1 => exact cell_one_new _ _ _
  case c2 => intro u hu; simp at hu; subst hu; rfl
  case c3 => decide
  case c4 => decide
  case c5 => exact HL1.out
  intro v8 w8 hown hgrow hnil _
  have HB8 := Lib.hid (HB1.out.grown hgrow HL1.out (fun k hk => by simp [Value.ownBlock] at hk))
  obtain ⟨g, cq, rfl, hcell⟩ : ∃ g cq, v8 = .slice (some ⟨g, 0, none⟩) 1 cq ∧ w8.cell? ⟨g, 0, none⟩ = some (.int .i64 0) := by
    rcases hown.2 with ⟨_, h0⟩ | ⟨g, cap, cur, he, _⟩
    · exact absurd h0 (by decide)
    · subst he
      exact ⟨g, cap, rfl, (hown.cellAt 0 (by decide)).trans rfl⟩
  have HCE := Lib.hid hcell
  clear hown hgrow hnil hcell HB1 HL1 HB0 HL y0
  go_wp2_with fail
  rw [rounds_succ]
  go_wp2_with fail
  refine (sort1_any (some ⟨g, 0, none⟩) cq _ w8 ⟨_, _, _, rfl⟩).mono ?_; rintro e w9 ⟨rfl, rfl⟩
  go_wp2_with fail
  go_ret
  exact ⟨g, cq, rfl, HCE.out, HB8.out⟩
theorem overN_any (s : ByteArray) (w : World) : Calls Tryz.prog 27 #[.slice none 0 0, .string s] w fun e w' => e = .returned (.slice none 0 0) ∧ w' = w := by
  have hd : decide ((0 : Int) < 0) = false := rfl
  go_enter Tryz.func27, Tryz.ntmps27
  go_wp2_with fail
  refine wp_loop_rounds 1 ?_
  rw [rounds_succ]
  go_wp2_with fail
  go_ret
  exact ⟨rfl, rfl⟩
set_option maxHeartbeats 8000000 in
theorem odds1_any (A : Option Addr) (c : Nat) (w : World) (hT : Itms w A [itA]) : Calls Tryz.prog 15 #[.slice A 1 c] w fun e w' => e = .returned (.tuple #[.string ⟨#[]⟩, .bool false]) ∧ Below w.heap.size w w' := by
  have hir := info_item
  obtain ⟨i0, hi, hz0, hz1, hz2⟩ := partsBar
  have HBP := Lib.hid (byPath1_any A c w)
  have HT := Lib.hid hT
  clear hT
  go_enter Tryz.func15, Tryz.ntmps15
  go_wp2_with fail
  refine HBP.out.mono ?_; rintro e w1 ⟨g, c', rfl, hce, hb1⟩
  have HB1 := Lib.hid hb1
  obtain ⟨b, off, rfl, c0, c1, c2, c3, c4, c5, c6, c7⟩ := one_cells (HT.out.below hb1)
  clear HBP HT hb1
  go_wp2_with fail
  refine wp_loop_rounds 2 ?_
  rw [rounds_succ]
  have hx2 := heap_alloc_new w1 (.cells itA.cells 47)
  have HB2 := Lib.hid (HB1.out.alloc HB1.out.size (.cells itA.cells 47))
  simp only [Itm.cells, itA] at hx2 HB2
  have y0 := (cell_of_row _ _ 0 _ _ _ hx2).trans (show _ = some (.string ⟨#[97]⟩) from rfl)
  have y1 := (cell_of_row _ _ 1 _ _ _ hx2).trans (show _ = some (Value.int .i64 2) from rfl)
  clear hx2
  go_upto_region 8 with fail
  generalize w1.alloc (.cells #[.string ⟨#[97]⟩, .int .i64 2, .int .u32 0, .int .u32 0, .int .u32 0, .int .i64 0, .int .i64 0, .string ⟨#[]⟩] 47) = w2 at *
  have hd : decide ((0 : Int) < 0) = false := rfl
  go_quiet (fail)
  have z0 : (w2.drewN nq).cell? _ = _ := y0
  have z1 : (w2.drewN nq).cell? _ = _ := y1
  have HB3 := Lib.hid (below_drewN HB2.out nq)
  clear y0 y1 HB2
  generalize w2.drewN nq = w3 at *
  go_wp2_with fail
  refine (overN_any _ w3).mono ?_; rintro e w4 ⟨rfl, rfl⟩
  have HB4 := Lib.hid (HB3.out.alloc HB3.out.size (.cells #[.string ⟨#[97]⟩, .int .i64 0] 85))
  have hxb := heap_alloc_new w4 (.cells #[.string ⟨#[97]⟩, .int .i64 0] 85)
  have HXB := Lib.hid hxb
  have HL4 : Hid (w.heap.size ≤ (w4.alloc (.cells #[.string ⟨#[97]⟩, .int .i64 0] 85)).heap.size) := HB4.out.size
  clear hxb
  go_wp2_with (at_builtin; refine wpList_append_own_at _ rfl (.tmp 73) (.tmp 78) _ rfl w.heap.size 85 i0 (.agg #[.string ⟨#[]⟩, .int .i64 0]) 2 24 Tryz.underlying82 hi hz0 hz1 hz2 rfl (by decide) (.slice none 0 0) 0 [] rfl (World.ownsRow_nil _ _ _ _) ⟨w4.heap.size, 0, none⟩ 1 1 [.string ⟨#[97]⟩, .int .i64 0] rfl rfl ?c1 ?c2 ?c3 ?c4 ?c5 ?_)
  case c1 =>
    intro j u hj
    rw [Addr.add_mid, Nat.zero_add, cell_of_row _ _ _ _ _ _ HXB.out, ← Array.getElem?_toList]
    exact hj
  case c2 =>
    intro u hu
    simp only [List.mem_cons, List.not_mem_nil, or_false] at hu
    rcases hu with rfl | rfl <;> rfl
  case c3 => decide
  case c4 => decide
  case c5 => exact HL4.out
  intro v8 w8 hown hgrow _ _
  have HB8 := Lib.hid (HB4.out.grown hgrow HL4.out (fun k hk => by simp [Value.ownBlock] at hk))
  clear hown hgrow HXB HB4 HL4 HB3 z0 z1
  go_wp2_with fail
  rw [rounds_succ]
  go_wp2_with fail
  go_ret2
  exact ⟨rfl, HB8.out⟩
set_option maxHeartbeats 8000000 in
theorem actionsN_any (A : Option Addr) (w : World) (hT : Itms w A [itA]) : Calls Tryz.prog 13 #[.int .i64 1, .slice none 0 0, .slice A 1 1, .agg #[.slice none 0 0, .slice none 0 0]] w fun e w' => ∃ A' c', e = .returned (.tuple #[.slice A' 1 c', .int .i64 0]) ∧ Acts3 w' A' [acA] ∧ Below w.heap.size w w' := by
  have hif := info_filP
  obtain ⟨i0, hi, hz0, hz1, hz2⟩ := partsP
  have hb1 := below_alP w (.cells #[.slice none 0 0, .slice none 0 0] 31)
  have hx1 := heap_alloc_new w (.cells #[.slice none 0 0, .slice none 0 0] 31)
  have HB1 := Lib.hid hb1
  have HX1 := Lib.hid hx1
  have HT1 := Lib.hid (hT.below hb1)
  have HO := Lib.hid (ofEntN_any A _ (hT.below hb1))
  clear hT hb1 hx1
  go_enter Tryz.func13, Tryz.ntmps13
  go_upto_region 1 with fail
  generalize hg1 : w.heap.size = g1 at *
  generalize w.alloc (.cells #[.slice none 0 0, .slice none 0 0] 31) = w1 at *
  go_wp2_with (refine wpList_load_row rfl 31 (.tmp 7) rfl g1 rfl 31 _ (0, 0) _ HX1.out Tryz.underlying31 rfl info_filP ?_)
  refine HO.out.mono ?_; rintro e w2 ⟨rfl, hb2⟩
  have HX2 := Lib.hid ((hb2.block _ (lt_of_heapP HX1.out)).trans HX1.out)
  have HT2 := Lib.hid (HT1.out.below hb2)
  have HB2 : Hid (Below g1 w w2) := HB1.out.trans (hb2.mono (Nat.le_of_lt (lt_of_heapP HX1.out)))
  have HA := Lib.hid (addN_any A w2 HT2.out)
  clear hb2 HO HX1 HT1 HB1
  go_wp2_with (refine wpList_load_row rfl 31 (.tmp 7) rfl g1 rfl 31 _ (0, 0) _ HX2.out Tryz.underlying31 rfl info_filP ?_)
  refine HA.out.mono ?_; rintro e w3 ⟨v, rfl, hown, hb3⟩
  have HL2 : Hid (g1 ≤ w2.heap.size) := Nat.le_of_lt (lt_of_heapP HX2.out)
  have HB3 : Hid (Below g1 w w3) := HB2.out.trans (hb3.mono HL2.out)
  have HL3 : Hid (g1 ≤ w3.heap.size) := Nat.le_trans HL2.out hb3.size
  obtain ⟨g, cq, rfl, HCS⟩ : ∃ g cq, v = .slice (some ⟨g, 0, none⟩) 1 cq ∧ Hid (∀ j u, ([.int .i64 4, .int .i64 (-1), .int .i64 0] : List Value)[j]? = some u → w3.cell? ((⟨g, 0, none⟩ : Addr).add j) = some u) := by
    rcases hown.2 with ⟨_, h0⟩ | ⟨g, cap, cur, he, _⟩
    · exact absurd h0 (by decide)
    · subst he
      exact ⟨g, cap, rfl, hown.cells rfl⟩
  clear hown hb3 HA HX2 HT2 HB2
  go_wp2_with (at_builtin; refine wpList_append_own_at _ rfl (.tmp 43) (.tmp 44) _ rfl g1 41 i0 (.agg #[.int .i64 0, .int .i64 0, .int .i64 0]) 3 24 Tryz.underlying35 hi hz0 hz1 hz2 rfl (by decide) (.slice none 0 0) 0 [] rfl (World.ownsRow_nil _ _ _ _) ⟨g, 0, none⟩ 1 cq [.int .i64 4, .int .i64 (-1), .int .i64 0] rfl rfl ?c1 ?c2 ?c3 ?c4 ?c5 ?_)
  case c1 => exact HCS.out
  case c2 =>
    intro u hu
    simp only [List.mem_cons, List.not_mem_nil, or_false] at hu
    rcases hu with rfl | rfl | rfl <;> rfl
  case c3 => decide
  case c4 => decide
  case c5 => exact HL3.out
  intro v8 w8 hown hgrow _ _
  have HB8 := Lib.hid (HB3.out.grown hgrow HL3.out (fun k hk => by simp [Value.ownBlock] at hk))
  obtain ⟨A8, c8, rfl⟩ := row_sliceA hown
  have HAC : Hid (Acts3 w8 A8 [acA]) := acts_of_own (B := g1) (cap := c8) (T := 41) (l := [acA]) hown
  clear hown hgrow
  go_wp2_with fail
  go_ret2
  exact ⟨A8, c8, rfl, HAC.out, by subst hg1; exact HB8.out⟩
set_option maxHeartbeats 8000000 in
theorem makeN_any (A : Option Addr) (w : World) (hT : Itms w A [itA]) : Calls Tryz.prog 9 #[.int .i64 1, .slice none 0 0, .slice A 1 1, .agg #[.slice none 0 0, .slice none 0 0]] w fun e w' => ∃ A' c', e = .returned (.tuple #[.slice A' 1 c', .int .i64 0]) ∧ Acts3 w' A' [acA] ∧ Below w.heap.size w w' := by
  have hif := info_filP
  have hb1 := below_alP w (.cells #[.slice none 0 0, .slice none 0 0] 31)
  have hx1 := heap_alloc_new w (.cells #[.slice none 0 0, .slice none 0 0] 31)
  have HB1 := Lib.hid hb1
  have HX1 := Lib.hid hx1
  have HT1 := Lib.hid (hT.below hb1)
  have HO := Lib.hid (actionsN_any A _ (hT.below hb1))
  clear hT hb1 hx1
  go_enter Tryz.func9, Tryz.ntmps9
  go_upto_region 1 with fail
  generalize hg1 : w.heap.size = g1 at *
  generalize w.alloc (.cells #[.slice none 0 0, .slice none 0 0] 31) = w1 at *
  go_wp2_with (refine wpList_load_row rfl 31 (.tmp 7) rfl g1 rfl 31 _ (0, 0) _ HX1.out Tryz.underlying31 rfl info_filP ?_)
  refine HO.out.mono ?_; rintro e w2 ⟨A2, c2, rfl, hac, hb2⟩
  have HT2 := Lib.hid (HT1.out.below hb2)
  have HL : Hid (g1 ≤ w1.heap.size) := Nat.le_of_lt (lt_of_heapP HX1.out)
  have HB2 : Hid (Below g1 w w2) := HB1.out.trans (hb2.mono HL.out)
  have HL2 : Hid (g1 ≤ w2.heap.size) := Nat.le_trans HL.out hb2.size
  have HAC := Lib.hid hac
  have HR := Lib.hid (result_any A2 none A c2 0 1 [acA] [] [itA] w2 (by decide) (by decide) (by decide) hac (Itms.nil _ _) HT2.out)
  have hres : resL [] [itA] [acA] = [itA] := rfl
  rw [hres] at HR
  have e1 : [acA].length = 1 := rfl
  have e2 : [itA].length = 1 := rfl
  have e3 : ([] : List Itm).length = 0 := rfl
  rw [e1, e2, e3] at HR
  clear hac hb2 HO HX1 HT1 HB1 hres e1 e2 e3
  go_wp2_with fail
  refine wp_loop_rounds 1 ?_
  rw [rounds_succ]
  go_wp2_with fail
  refine HR.out.mono ?_; rintro e w3 ⟨A3, c3, rfl, hit, hb3⟩
  have HAC3 := Lib.hid (HAC.out.below hb3)
  have HB3 : Hid (Below g1 w w3) := HB2.out.trans (hb3.mono HL2.out)
  have HL3 : Hid (g1 ≤ w3.heap.size) := Nat.le_trans HL2.out hb3.size
  have HOD := Lib.hid (odds1_any A3 c3 w3 hit)
  clear hit hb3 HR HAC HB2
  go_wp2_with fail
  refine HOD.out.mono ?_; rintro e w4 ⟨rfl, hb4⟩
  have HAC4 := Lib.hid (HAC3.out.below hb4)
  have HB4 : Hid (Below g1 w w4) := HB3.out.trans (hb4.mono HL3.out)
  clear hb4 HOD HAC3 HB3
  go_wp2_with fail
  go_ret2
  exact ⟨A2, c2, rfl, HAC4.out, by subst hg1; exact HB4.out⟩
set_option maxHeartbeats 8000000 in
theorem awake24_any (w : World) : Calls Tryz.prog 4 #[] w fun e w' => e = .returned (.bool true) ∧ Below w.heap.size w w' := by
  have hir := info_item
  have hia := info_act
  have hb1 := below_alP w (.cells itA.cells 47)
  have hx1 := heap_alloc_new w (.cells itA.cells 47)
  have HT : Hid (Itms (w.alloc (.cells itA.cells 47)) (some ⟨w.heap.size, 0, none⟩) [itA]) := fun _ => by
    refine ⟨w.heap.size, 0, rfl, lt_of_heapP hx1, fun k x hx => ?_⟩
    obtain rfl : k = 0 := by have := (List.getElem?_eq_some_iff.1 hx).1; simpa using this
    injection hx with hx
    subst hx
    exact ⟨(cell_of_row _ _ 0 _ _ _ hx1).trans rfl, (cell_of_row _ _ 1 _ _ _ hx1).trans rfl, (cell_of_row _ _ 2 _ _ _ hx1).trans rfl, (cell_of_row _ _ 3 _ _ _ hx1).trans rfl, (cell_of_row _ _ 4 _ _ _ hx1).trans rfl, (cell_of_row _ _ 5 _ _ _ hx1).trans rfl, (cell_of_row _ _ 6 _ _ _ hx1).trans rfl, (cell_of_row _ _ 7 _ _ _ hx1).trans rfl⟩
  have HM := Lib.hid (makeN_any _ _ HT.out)
  have HB1 := Lib.hid hb1
  simp only [Itm.cells, itA] at HM HB1
  clear hb1 hx1 HT
  go_enter Tryz.func4, Tryz.ntmps4
  go_wp2_with fail
  refine HM.out.mono ?_; rintro e w2 ⟨A2, c2, rfl, hac, hb2⟩
  have HB2 := Lib.hid (below_then HB1.out hb2)
  obtain ⟨b, off, rfl, _, hcc⟩ := hac (by decide)
  obtain ⟨k0, k1, k2⟩ := hcc 0 acA rfl
  simp only [acA] at k0 k1 k2
  rw [Nat.zero_mul, Nat.add_zero] at k0 k1 k2
  clear hac hb2 HM HB1 hcc
  go_wp2_with fail
  go_ret
  exact ⟨rfl, HB2.out⟩
end Go.Proofs.YtijfcmlgohbndaaGreatDoor

namespace Go.Proofs.YtijfcmlgohbndaaGreatDoor
set_option maxRecDepth 100000
set_option linter.unusedSimpArgs false
set_option linter.unusedVariables false
open Go.RowKit Go.Joins Go.Deep
def FewP (l : List Itm) : Prop := ∀ x ∈ l, l.length ≤ 60 ∧ x.s.size ≤ 1000 ∧ x.d.size ≤ 5000
instance (l : List Itm) : Decidable (FewP l) := by unfold FewP; infer_instance
set_option maxHeartbeats 8000000 in
theorem fewI_any (A : Option Addr) (cap : Nat) (l : List Itm) (w : World) (hR : Itms w A l) (hl : l.length ≤ 9223372036854775807) :
    Calls Tryz.prog 6 #[.slice A l.length cap] w fun e w' => e = .returned (.bool (decide (FewP l))) ∧ Below w.heap.size w w' := by
  have hir := info_item
  have HR := Lib.hid hR
  obtain ⟨V, hV⟩ : ∃ V, V = decide (FewP l) := ⟨_, rfl⟩
  rw [← hV]
  have HV := Lib.hid hV
  clear hR hV
  go_enter Tryz.func6, Tryz.ntmps6
  go_wp2_with fail
  go_loopw [4, 7] (fun _ v7 wr => ∃ k : Nat, k ≤ l.length ∧ v7 = .int .i64 (k : Nat) ∧ Hid (∀ x ∈ l.take k, l.length ≤ 60 ∧ x.s.size ≤ 1000 ∧ x.d.size ≤ 5000) ∧ Hid (Below w.heap.size w wr)) (fun _ v _ => l.length - (intOf v).toNat)
  case atStart => exact ⟨0, Nat.zero_le _, rfl, (fun s hs => by cases hs), Below.refl _ _⟩
  case round =>
    obtain ⟨k, hk, rfl, HS, HB⟩ := hrel
    by_cases hlt : k < l.length
    · have hd : decide ((k : Int) < (l.length : Int)) = true := decide_eq_true (by omega)
      obtain ⟨b, off, rfl, hb, hcc⟩ := (HR.out.below HB.out) (by omega)
      obtain ⟨c0, c1, c2, c3, c4, c5, c6, c7⟩ := hcc k l[k] (List.getElem?_eq_getElem hlt)
      have HMEM : Hid (l[k] ∈ l) := List.getElem_mem hlt
      have HTK : Hid (l.take (k + 1) = l.take k ++ [l[k]]) := List.take_succ_eq_append_getElem hlt
      have hx0 := heap_alloc_new wr (.cells l[k].cells 47)
      have HB1 := Lib.hid (HB.out.alloc HB.out.size (.cells l[k].cells 47))
      simp only [Itm.cells] at hx0 HB1
      generalize l[k] = x at *
      obtain ⟨x0, x1, x2, x3, x4, x5, x6, x7⟩ := x
      dsimp only at c0 c1 c2 c3 c4 c5 c6 c7 HB1 hx0
      have d0 := (cell_of_row _ _ 0 _ _ _ hx0).trans (show _ = some (.string x0) from rfl)
      have d7 := (cell_of_row _ _ 7 _ _ _ hx0).trans (show _ = some (.string x7) from rfl)
      clear hcc hx0
      by_cases h60 : 60 < l.length
      · have e1 : decide ((60 : Int) < (l.length : Int)) = true := decide_eq_true (by omega)
        have HF : Hid (V = false) := by
          show V = false
          rw [HV.out]
          exact decide_eq_false (fun h => by have := (h _ HMEM.out).1; omega)
        clear HR HS HTK HMEM HV
        go_wp2_with fail
        go_ret
        exact ⟨by rw [HF.out]; rfl, HB1.out⟩
      have e1 : decide ((60 : Int) < (l.length : Int)) = false := decide_eq_false (by omega)
      by_cases h1000 : 1000 < x0.size
      · have e2 : decide ((1000 : Int) < (x0.size : Int)) = true := decide_eq_true (by omega)
        have HF : Hid (V = false) := by
          show V = false
          rw [HV.out]
          exact decide_eq_false (fun h => by have : x0.size ≤ 1000 := (h _ HMEM.out).2.1; omega)
        clear HR HS HTK HMEM HV
        go_wp2_with fail
        go_ret
        exact ⟨by rw [HF.out]; rfl, HB1.out⟩
      have e2 : decide ((1000 : Int) < (x0.size : Int)) = false := decide_eq_false (by omega)
      by_cases h5000 : 5000 < x7.size
      · have e3 : decide ((5000 : Int) < (x7.size : Int)) = true := decide_eq_true (by omega)
        have HF : Hid (V = false) := by
          show V = false
          rw [HV.out]
          exact decide_eq_false (fun h => by have : x7.size ≤ 5000 := (h _ HMEM.out).2.2; omega)
        clear HR HS HTK HMEM HV
        go_wp2_with fail
        go_ret
        exact ⟨by rw [HF.out]; rfl, HB1.out⟩
      have e3 : decide ((5000 : Int) < (x7.size : Int)) = false := decide_eq_false (by omega)
      have HS2 : Hid (∀ y ∈ l.take (k + 1), l.length ≤ 60 ∧ y.s.size ≤ 1000 ∧ y.d.size ≤ 5000) := fun y hy => by
        rw [HTK.out, List.mem_append] at hy
        rcases hy with hy | hy
        · exact HS.out y hy
        · obtain rfl : y = _ := by simpa using hy
          exact ⟨by omega, by show x0.size ≤ 1000; omega, by show x7.size ≤ 5000; omega⟩
      have hk62 : (k : Int) + 1 < 9223372036854775807 := by omega
      clear HR HTK HMEM HV HS
      go_wp2_with fail
      go_roundw
      case rel => exact ⟨k + 1, by omega, by go_num, HS2, HB1⟩
      case measure => simp [intOf]; omega
    · obtain rfl : k = l.length := by omega
      have hd : decide ((l.length : Int) < (l.length : Int)) = false := decide_eq_false (by omega)
      have HF : Hid (V = true) := by
        show V = true
        rw [HV.out]
        refine decide_eq_true (fun x hx => ?_)
        exact HS.out x (by rw [List.take_length]; exact hx)
      go_wp2_with fail
      go_ret
      exact ⟨by rw [HF.out]; rfl, HB.out⟩
end Go.Proofs.YtijfcmlgohbndaaGreatDoor

namespace Go.Proofs.YtijfcmlgohbndaaGreatDoor
set_option maxRecDepth 100000
set_option linter.unusedVariables false
open Go.Joins Go.RowKit Go.Deep Go.ChangeShapes Go.WideShapes
theorem cells_item : Tryz.prog.cellsOf 47 = 8 := by kernel_rfl
theorem cells_node : Tryz.prog.cellsOf 45 = 7 := by kernel_rfl
theorem cells_istr : Tryz.prog.cellsOf 9 = 1 := by kernel_rfl
theorem cells_iint : Tryz.prog.cellsOf 3 = 1 := by kernel_rfl
theorem cells_iu32 : Tryz.prog.cellsOf 43 = 1 := by kernel_rfl
theorem cells_ii64 : Tryz.prog.cellsOf 2 = 1 := by kernel_rfl
/-- What an item's parts are within. -/
def ItmOk (x : Itm) : Prop := x.s.size ≤ maxLen ∧ (Lit.int .i64 x.k).wf = true ∧ (Lit.int .u32 x.m).wf = true ∧ (Lit.int .u32 x.u).wf = true ∧ (Lit.int .u32 x.g).wf = true ∧ (Lit.int .i64 x.t).wf = true ∧ (Lit.int .i64 x.a).wf = true ∧ x.d.size ≤ maxLen
/-- A slice of items is one. -/
theorem itms_row {H : Type} {enc : TypeId × Value → H} {W : World} {fuel : Nat} {a : Option Addr} {len cap : Nat} {x : DataW H × List MemPlace} (h : DataW.trod enc Tryz.prog W 0 (fun _ => true) true fuel 23 [.slice a len cap] = some x) : ∃ l : List Itm, len = l.length ∧ Itms W a l ∧ (∀ f ∈ l, ItmOk f) ∧ (a = none → len = 0 ∧ cap = 0) ∧ len ≤ cap := by
  rcases open_slice Tryz.underlying23 h with ⟨hcs, _⟩ | ⟨ad, len', cap', m, n, D, Pl, hcs, _, hl, hm, hmm, _, hel⟩
  · simp at hcs
    obtain ⟨rfl, rfl, rfl⟩ := hcs
    exact ⟨[], rfl, Itms.nil _ _, fun f hf => (by cases hf), fun _ => ⟨rfl, rfl⟩, Nat.le_refl _⟩
  · simp at hcs
    obtain ⟨rfl, rfl, rfl⟩ := hcs
    have hm2 : len ≤ m := by rw [hmm]; simp; exact hl
    have each : ∀ i, i < len → ∃ t : Itm, ItmOk t ∧ W.cell? (ad.add (i * 8)) = some (.string t.s) ∧ W.cell? (ad.add (i * 8 + 1)) = some (.int .i64 t.k) ∧ W.cell? (ad.add (i * 8 + 2)) = some (.int .u32 t.m) ∧ W.cell? (ad.add (i * 8 + 3)) = some (.int .u32 t.u) ∧ W.cell? (ad.add (i * 8 + 4)) = some (.int .u32 t.g) ∧ W.cell? (ad.add (i * 8 + 5)) = some (.int .i64 t.t) ∧ W.cell? (ad.add (i * 8 + 6)) = some (.int .i64 t.a) ∧ W.cell? (ad.add (i * 8 + 7)) = some (.string t.d) := by
      intro i hi
      obtain ⟨cs', h1, h2⟩ := hel i (by omega)
      rw [cells_item] at h1
      obtain ⟨_, hlen, hcell⟩ := World.cells?_some h1
      obtain ⟨xs, k, hk, hxy, _, hxl, hf⟩ := DataW.trod_struct Tryz.underlying47 h2
      match xs, hxl, cs', hlen with
      | [y0, y1], _, [v0, v1, v2, v3, v4, v5, v6, v7], _ =>
        have g0 := hf 0 _ rfl
        have g1 := hf 1 _ rfl
        simp [cells_istr, cells_node] at g0 g1
        have e0 := hcell 0 (by omega)
        have e1 := hcell 1 (by omega)
        have e2 := hcell 2 (by omega)
        have e3 := hcell 3 (by omega)
        have e4 := hcell 4 (by omega)
        have e5 := hcell 5 (by omega)
        have e6 := hcell 6 (by omega)
        have e7 := hcell 7 (by omega)
        rw [add_add] at e0 e1 e2 e3 e4 e5 e6 e7
        obtain ⟨ys, k2, hk2, hxy2, _, hyl, hf2⟩ := DataW.trod_struct Tryz.underlying45 g1
        match ys, hyl with
        | [z1, z2, z3, z4, z5, z6, z7], _ =>
          have k1 := hf2 0 _ rfl
          have k2 := hf2 1 _ rfl
          have k3 := hf2 2 _ rfl
          have k4 := hf2 3 _ rfl
          have k5 := hf2 4 _ rfl
          have k6 := hf2 5 _ rfl
          have k7 := hf2 6 _ rfl
          simp [cells_istr, cells_iint, cells_iu32, cells_ii64] at k1 k2 k3 k4 k5 k6 k7
          obtain ⟨x0, q0, _, w0⟩ := DataW.trod_string Tryz.underlying9 g0
          obtain ⟨x1, q1, _, w1⟩ := DataW.trod_int Tryz.underlying3 k1
          obtain ⟨x2, q2, _, w2⟩ := DataW.trod_int Tryz.underlying43 k2
          obtain ⟨x3, q3, _, w3⟩ := DataW.trod_int Tryz.underlying43 k3
          obtain ⟨x4, q4, _, w4⟩ := DataW.trod_int Tryz.underlying43 k4
          obtain ⟨x5, q5, _, w5⟩ := DataW.trod_int Tryz.underlying2 k5
          obtain ⟨x6, q6, _, w6⟩ := DataW.trod_int Tryz.underlying2 k6
          obtain ⟨x7, q7, _, w7⟩ := DataW.trod_string Tryz.underlying9 k7
          simp at q0 q1 q2 q3 q4 q5 q6 q7
          subst q0 q1 q2 q3 q4 q5 q6 q7
          exact ⟨⟨x0, x1, x2, x3, x4, x5, x6, x7⟩, ⟨w0, w1, w2, w3, w4, w5, w6, w7⟩, by simpa using e0, by simpa using e1, by simpa using e2, by simpa using e3, by simpa using e4, by simpa using e5, by simpa using e6, by simpa using e7⟩
    obtain ⟨f, hf⟩ := choose_lt each
    refine ⟨(List.range len).map f, by simp, fun hpos => ?_, fun t ht => ?_, fun h => (by cases h), hl⟩
    · rw [List.length_map, List.length_range] at hpos
      obtain ⟨b, off, spot⟩ := ad
      have hz := (hf 0 hpos).2.1
      have hspot : spot = none := by simpa [Addr.add] using World.cell?_spot hz
      subst hspot
      refine ⟨b, off, rfl, block_lt_of_cell hz, fun i x hx => ?_⟩
      have hi : i < len := by have := (List.getElem?_eq_some_iff.1 hx).1; simpa using this
      obtain ⟨h0, c0, c1, c2, c3, c4, c5, c6, c7⟩ := hf i hi
      rw [Addr.add_lit] at c0 c1 c2 c3 c4 c5 c6 c7
      rw [List.getElem?_map, List.getElem?_range hi] at hx
      injection hx with hx
      subst hx
      rw [← Nat.add_assoc] at c1 c2 c3 c4 c5 c6 c7
      exact ⟨c0, c1, c2, c3, c4, c5, c6, c7⟩
    · obtain ⟨i, hi, rfl⟩ := List.mem_map.1 ht
      exact (hf i (by simpa using hi)).1
theorem itms_len {H : Type} {enc : TypeId × Value → H} {W : World} {fuel : Nat} {a : Option Addr} {len cap : Nat} {x : DataW H × List MemPlace} (h : DataW.trod enc Tryz.prog W 0 (fun _ => true) true fuel 23 [.slice a len cap] = some x) : len ≤ maxLen := by
  rcases open_slice Tryz.underlying23 h with ⟨hcs, _⟩ | ⟨ad, len', cap', m, n, D, Pl, hcs, _, hl, hm, hmm, _, hel⟩
  · simp at hcs
    obtain ⟨rfl, rfl, rfl⟩ := hcs
    exact Nat.zero_le _
  · simp at hcs
    obtain ⟨rfl, rfl, rfl⟩ := hcs
    omega
end Go.Proofs.YtijfcmlgohbndaaGreatDoor
