/-
  Filter: patterns compiled.
-/
import Derived.Test.YtkakegeammajgaaDoorFiA
namespace Go.Proofs.YtkakegeammajgaaDoor
set_option maxRecDepth 100000
set_option linter.unusedSimpArgs false
set_option linter.unusedVariables false
open Go.RowKit Go.Joins Go.Deep
open Go.Lib hiding intOf
/-- Texts where they lie. -/
def TxS (w : World) (A : Option Addr) (ss : List ByteArray) : Prop := 0 < ss.length → ∃ b off, A = some ⟨b, off, none⟩ ∧ b < w.heap.size ∧ ∀ (i : Nat) x, ss[i]? = some x → w.cell? ⟨b, off + i, none⟩ = some (.string x)
theorem TxS.below {w w' : World} {A : Option Addr} {ss : List ByteArray} (h : TxS w A ss) (hb : Below w.heap.size w w') : TxS w' A ss := fun h0 => by
  obtain ⟨b, off, e, hlt, hc⟩ := h h0
  exact ⟨b, off, e, Nat.lt_of_lt_of_le hlt hb.size, fun i x hx => (hb.cell (p := ⟨b, off + i, none⟩) hlt).trans (hc i x hx)⟩
/-- One pattern's atoms. -/
def cmp1 (s : ByteArray) : Option (List Atm) := compF (runesB s) 0 []
/-- A pattern's value. -/
def PV (w : World) (V : Value) (ats : List Atm) : Prop := ∃ A c, V = .slice A ats.length c ∧ ats.length ≤ c ∧ AtsT w A ats
theorem PV.below {w w' : World} {V : Value} {ats : List Atm} (h : PV w V ats) (hb : Below w.heap.size w w') : PV w' V ats := by
  obtain ⟨A, c, e, h1, h2⟩ := h
  exact ⟨A, c, e, h1, h2.below hb⟩
theorem PV.one {w : World} {V : Value} {ats : List Atm} (h : PV w V ats) : V.oneCell' = true := by
  obtain ⟨A, c, rfl, _⟩ := h
  rfl
/-- What is written behind a row of patterns leaves patterns. -/
theorem PV.grow {w w' : World} {V : Value} {ats : List Atm} (h : PV w V ats) {B n z : Nat} {v : Value} {xs : List Value} (ho : w.ownsRow B 50 z v n xs) (hg : w.grownBy w' v.ownBlock) : PV w' V ats := by
  obtain ⟨A, c, e, h1, h2⟩ := h
  have far : ∀ (T : TypeId) (b : Nat) (cs : Array Value), T ≠ 50 → w.heap[b]? = some (Obj.cells cs T (0, 0)) → w'.heap[b]? = w.heap[b]? := fun T b cs hT hx => hg.block b (lt_of_block hx) (fun e => by
    rcases ho.2 with ⟨h1, _⟩ | ⟨g, cap, cur, h1, _, h3, _⟩
    · rw [h1] at e; cases e
    · rw [h1] at e
      injection e with e
      have e' : b = g := e
      subst e'
      rw [h3] at hx
      injection hx with hx
      injection hx with _ hx _
      exact hT hx.symm)
  exact ⟨A, c, e, h1, h2.keep (fun b cs hx => far _ b cs (by decide) hx) (fun b cs hx => far _ b cs (by decide) hx)⟩
/-- Blocks of patterns, atoms and ranges stay. -/
def KeepG (w w' : World) : Prop := ∀ (T : TypeId) (b : Nat) (cs : Array Value), (T = 50 ∨ T = 58 ∨ T = 73) → w.heap[b]? = some (Obj.cells cs T (0, 0)) → w'.heap[b]? = some (Obj.cells cs T (0, 0))
theorem keepG_below {w w' : World} (hb : Below w.heap.size w w') : KeepG w w' := fun T b cs _ hx => (hb.block b (lt_of_block hx)).trans hx
theorem KeepG.then {w w1 w2 : World} (h : KeepG w w1) (k : KeepG w1 w2) : KeepG w w2 := fun T b cs hT hx => k T b cs hT (h T b cs hT hx)
theorem keepG_set {w : World} {g i : Nat} {cs : Array Value} {T : TypeId} {f : Nat × Nat} (hg : w.heap[g]? = some (.cells cs T f)) (h1 : T ≠ 50) (h2 : T ≠ 58) (h3 : T ≠ 73) (v : Value) : KeepG w (w.setCell ⟨g, i, none⟩ v) := fun T' b cs' hT hx => by
  refine (Below.heap_setCell _ _ _ _ (fun e => ?_)).trans hx
  have e' : b = g := e
  subst e'
  rw [hg] at hx
  injection hx with hx
  injection hx with _ hx _
  subst hx
  rcases hT with h | h | h
  · exact h1 h
  · exact h2 h
  · exact h3 h
theorem PV.keep {w w' : World} {V : Value} {ats : List Atm} (h : PV w V ats) (hk : KeepG w w') : PV w' V ats := by
  obtain ⟨A, c, e, h1, h2⟩ := h
  exact ⟨A, c, e, h1, h2.keep (fun b cs hx => (hk _ b cs (.inr (.inl rfl)) hx).trans hx.symm) (fun b cs hx => (hk _ b cs (.inr (.inr rfl)) hx).trans hx.symm)⟩
/-- Patterns where they lie. -/
def PatR (w : World) (A : Option Addr) (pats : List (List Atm)) : Prop := 0 < pats.length → ∃ (b : Nat) (cs : Array Value), A = some ⟨b, 0, none⟩ ∧ w.heap[b]? = some (Obj.cells cs 50 (0, 0)) ∧ ∀ (i : Nat) p, pats[i]? = some p → ∃ V, cs[i]? = some V ∧ PV w V p
theorem PatR.keep {w w' : World} {A : Option Addr} {pats : List (List Atm)} (h : PatR w A pats) (hk : KeepG w w') : PatR w' A pats := fun h0 => by
  obtain ⟨b, cs, e, hb, hc⟩ := h h0
  refine ⟨b, cs, e, hk _ b cs (.inl rfl) hb, fun i p hp => ?_⟩
  obtain ⟨V, h1, h2⟩ := hc i p hp
  exact ⟨V, h1, h2.keep hk⟩
theorem PatR.below {w w' : World} {A : Option Addr} {pats : List (List Atm)} (h : PatR w A pats) (hb : Below w.heap.size w w') : PatR w' A pats := h.keep (keepG_below hb)
/-- The row while it grows: values and their atoms. -/
def RowP (w wr : World) (v : Value) (qs : List (Value × List Atm)) : Prop := wr.ownsRow w.heap.size 50 1 v qs.length (qs.map (·.1)) ∧ (∀ q ∈ qs, PV wr q.1 q.2) ∧ Below w.heap.size w wr
theorem pat_of_own {w wr : World} {A : Option Addr} {c : Nat} {qs : List (Value × List Atm)} (h : RowP w wr (.slice A qs.length c) qs) : PatR wr A (qs.map (·.2)) ∧ qs.length ≤ c := by
  obtain ⟨ho, hq, hb⟩ := h
  rcases ho.2 with ⟨h1, h2⟩ | ⟨g, cap, cur, h1, h2, h3, h4, _, _, h6⟩
  · exact ⟨fun h0 => by rw [List.length_map] at h0; omega, by omega⟩
  · injection h1 with e1 _ e3
    refine ⟨fun h0 => ⟨g, cur, e1, h3, fun i p hp => ?_⟩, by omega⟩
    rw [List.getElem?_map] at hp
    cases hqi : qs[i]? with
    | none => rw [hqi] at hp; cases hp
    | some q =>
      rw [hqi] at hp
      injection hp with hp
      have hi : i < qs.length := (List.getElem?_eq_some_iff.1 hqi).1
      refine ⟨q.1, ?_, by rw [← hp]; exact hq q (List.mem_of_getElem? hqi)⟩
      have h7 : (qs.map (·.1))[i]? = some q.1 := by rw [List.getElem?_map, hqi]; rfl
      rw [← h6, List.getElem?_take] at h7
      rw [← Array.getElem?_toList]
      split at h7
      · exact h7
      · cases h7
theorem parts_pat : (Tryd.prog.info? 50).map (fun i => (i.zero, i.size, i.bytes)) = some (some (.agg #[.slice none 0 0]), 1, 24) := by kernel_rfl
/-- What compile answers. -/
def CmpL (w : World) (ss : List ByteArray) (e : Ending) (w' : World) : Prop :=
  ((∃ s ∈ ss, cmp1 s = none) ∧ e = .returned (.tuple #[.slice none 0 0, .int .i64 22]) ∧ Below w.heap.size w w') ∨
  (∃ pats A c, ss.map cmp1 = pats.map some ∧ pats.length ≤ c ∧ e = .returned (.tuple #[.slice A pats.length c, .int .i64 0]) ∧ PatR w' A pats ∧ Below w.heap.size w w')
set_option maxHeartbeats 8000000 in
theorem fcompile_any (A : Option Addr) (c0 : Nat) (ss : List ByteArray) (hn : ss.length ≤ 1000) (hs : ∀ s ∈ ss, s.size ≤ 65535) (w : World) (hT : TxS w A ss) :
    Calls Tryd.prog 11 #[.slice A ss.length c0] w (CmpL w ss) := by
  have hip := info_pat
  have hzp := zero_pat
  obtain ⟨i0, hi, hz0, hz1, hz2⟩ := parts_of parts_pat
  have HT := Lib.hid hT
  have HSZ := Lib.hid hs
  clear hT hs
  go_enter Tryd.func11, Tryd.ntmps11
  go_wp2_with fail
  go_loopw [4, 6, 7, 8, 11] (fun v4 _ _ _ v11 wr => ∃ (k : Nat) (A4 : Option Addr) (c4 : Nat) (qs : List (Value × List Atm)), k ≤ ss.length ∧ v11 = .int .i64 (k : Nat) ∧ v4 = .slice A4 k c4 ∧ Hid (qs.length = k ∧ RowP w wr (.slice A4 k c4) qs ∧ (ss.take k).map cmp1 = (qs.map (·.2)).map some)) (fun _ _ _ _ v _ => ss.length - (intOf v).toNat)
  case atStart => exact ⟨0, none, 0, [], Nat.zero_le _, rfl, rfl, rfl, ⟨World.ownsRow_nil _ _ _ _, (fun q hq => by cases hq), Below.refl _ _⟩, rfl⟩
  case round =>
    obtain ⟨k, A4, c4, qs, hk, rfl, rfl, HQ⟩ := hrel
    by_cases hlt : k < ss.length
    · have hd : decide ((k : Int) < (ss.length : Int)) = true := decide_eq_true (by omega)
      obtain ⟨b, off, rfl, hb, hc⟩ := (HT.out.below HQ.out.2.1.2.2) (by omega)
      have c1 := hc k ss[k] (List.getElem?_eq_getElem hlt)
      have HMEM : Hid (ss[k] ∈ ss) := List.getElem_mem hlt
      have HC := Lib.hid (compile_any2 ss[k] (HSZ.out _ HMEM.out) wr)
      have HTK : Hid ((ss.take (k + 1)).map cmp1 = (ss.take k).map cmp1 ++ [cmp1 ss[k]]) := by
        show _ = _
        rw [List.take_succ_eq_append_getElem hlt, List.map_append]
        rfl
      rw [show compF (runesB ss[k]) 0 [] = cmp1 ss[k] from rfl] at HC
      clear hc
      generalize ss[k] = sk at *
      go_wp2_with fail
      refine HC.out.mono ?_; rintro e w2 hout
      clear c1 HC
      have hsz0 := HQ.out.2.1.2.2.size
      rcases hout with ⟨hnone, rfl, hb2⟩ | ⟨ats, A5, c5, hsome, hle, rfl, hat, hb2⟩
      · have HN : Hid (∃ s ∈ ss, cmp1 s = none) := ⟨sk, HMEM.out, hnone⟩
        have HB3 : Hid (Below w.heap.size w (w2.alloc (.cells #[.slice none 0 0] 50))) := (below_then HQ.out.2.1.2.2 hb2).alloc (below_then HQ.out.2.1.2.2 hb2).size _
        clear hnone hb2
        go_wp2_with fail
        go_ret2
        exact .inl ⟨HN.out, rfl, HB3.out⟩
      · have HSM : Hid (cmp1 sk = some ats) := hsome
        have HB2 := Lib.hid (below_then HQ.out.2.1.2.2 hb2)
        have HQ2 : Hid (RowP w w2 (.slice A4 k c4) qs) := ⟨own_below' HQ.out.2.1.1 hb2, fun q hq => (HQ.out.2.1.2.1 q hq).below hb2, HB2.out⟩
        have hb3 := below_al w2 (.cells #[.slice A5 ats.length c5] 50)
        have HPV : Hid (PV (w2.alloc (.cells #[.slice A5 ats.length c5] 50)) (.slice A5 ats.length c5) ats) := ⟨A5, c5, rfl, hle, hat.below hb3⟩
        have HQ3 : Hid (RowP w (w2.alloc (.cells #[.slice A5 ats.length c5] 50)) (.slice A4 k c4) qs) := ⟨own_below' HQ2.out.1 hb3, fun q hq => (HQ2.out.2.1 q hq).below hb3, below_then HB2.out hb3⟩
        have HX3 := Lib.hid (heap_alloc_new w2 (.cells #[.slice A5 ats.length c5] 50))
        have p0 := (cell_of_row _ _ 0 _ _ _ HX3.out).trans (show _ = some (Value.slice A5 ats.length c5) from rfl)
        have HLQ : Hid (qs.length = k) := HQ.out.1
        have HTQ : Hid ((ss.take k).map cmp1 = (qs.map (·.2)).map some) := HQ.out.2.2
        clear hsome hb2 hb3 hat HQ HQ2 HT
        go_upto_region 8 with fail
        generalize hw3 : w2.alloc (.cells #[.slice A5 ats.length c5] 50) = w3 at *
        have hb4 := below_al w3 (.cells #[.slice A5 ats.length c5] 50)
        have HO4 : Hid ((w3.alloc (.cells #[.slice A5 ats.length c5] 50)).ownsRow w.heap.size 50 1 (.slice A4 k c4) k (qs.map (·.1))) := by
          have h := own_below' HQ3.out.1 hb4
          rw [HLQ.out] at h
          exact h
        have HQV4 : Hid (∀ q ∈ qs ++ [(Value.slice A5 ats.length c5, ats)], PV (w3.alloc (.cells #[.slice A5 ats.length c5] 50)) q.1 q.2) := fun q hq => by
          rcases List.mem_append.1 hq with hq | hq
          · exact (HQ3.out.2.1 q hq).below hb4
          · obtain rfl : q = (Value.slice A5 ats.length c5, ats) := by simpa using hq
            exact HPV.out.below hb4
        have HB4 := Lib.hid (below_then HQ3.out.2.2 hb4)
        have hs4 : w.heap.size ≤ (w3.alloc (.cells #[.slice A5 ats.length c5] 50)).heap.size := HB4.out.size
        clear hb4
        go_wp2_with (at_builtin; (refine wpList_append_own_at _ rfl (.tmp 23) (.tmp 25) _ rfl w.heap.size 50 i0 (.agg #[.slice none 0 0]) 1 24 Tryd.underlying27 hi hz0 hz1 hz2 rfl (by decide) (.slice A4 k c4) k (qs.map (·.1)) rfl HO4.out ⟨w3.heap.size, 0, none⟩ 1 1 [.slice A5 ats.length c5] rfl rfl ?c1 ?c2 ?c3 ?c4 ?c5 ?_))
        case c1 => exact cell_one_new _ _ _
        case c2 => intro u hu; simp at hu; subst hu; rfl
        case c3 => unfold maxLen; omega
        case c4 => omega
        case c5 => exact hs4
        intro v9 w9 hown hgrow hnil hat
        obtain ⟨A9, c9, rfl⟩ := row_slice2 hown
        have HNEW : Hid (RowP w w9 (.slice A9 (k + 1) c9) (qs ++ [(Value.slice A5 ats.length c5, ats)])) := by
          refine ⟨?_, fun q hq => (HQV4.out q hq).grow HO4.out hgrow, HB4.out.grown hgrow hs4 (fun j hj => (HO4.out.lt j hj).1)⟩
          rw [List.length_append, List.map_append, HLQ.out]
          exact hown
        clear hown hgrow hnil hat
        go_wp2_with fail
        go_roundw
        case rel =>
          refine ⟨k + 1, A9, c9, qs ++ [(Value.slice A5 ats.length c5, ats)], by omega, by go_num, rfl, by rw [List.length_append, HLQ.out]; rfl, HNEW.out, ?_⟩
          rw [HTK.out, HTQ.out, HSM.out]
          simp
        case measure => simp [intOf]; omega
    · obtain rfl : k = ss.length := by omega
      have hd : decide ((ss.length : Int) < (ss.length : Int)) = false := decide_eq_false (by omega)
      go_wp2_with fail
      go_ret2
      obtain ⟨h1, h2, h3⟩ := HQ.out
      rw [List.take_length] at h3
      rw [← h1] at h2
      obtain ⟨g1, g2⟩ := pat_of_own h2
      refine .inr ⟨qs.map (·.2), A4, c4, h3, by rw [List.length_map]; exact g2, by rw [List.length_map, h1]; rfl, g1, h2.2.2⟩
end Go.Proofs.YtkakegeammajgaaDoor
