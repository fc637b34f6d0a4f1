/-
  Filter: patterns compiled.
  The document's filter: patterns where they lie.
  Filter: Make, matched, Takes.
-/
import Derived.Test.YtjnoapbddifcpaaGreatDoorPkAJ
import Derived.Test.YtjnoapbddifcpaaGreatDoorGlQ

namespace Go.Proofs.YtjnoapbddifcpaaGreatDoor
set_option maxRecDepth 100000
set_option linter.unusedSimpArgs false
set_option linter.unusedVariables false
open Go.RowKit Go.Joins Go.Deep
open Go.Lib hiding intOf
/-- Texts where they lie. -/
def TxS (w : World) (A : Option Addr) (ss : List ByteArray) : Prop := 0 < ss.length → ∃ b off, A = some ⟨b, off, none⟩ ∧ b < w.heap.size ∧ ∀ (i : Nat) x, ss[i]? = some x → w.cell? ⟨b, off + i, none⟩ = some (.string x)
theorem TxS.below {w w' : World} {A : Option Addr} {ss : List ByteArray} (h : TxS w A ss) (hb : Below w.heap.size w w') : TxS w' A ss := fun h0 => by
  obtain ⟨b, off, e, hlt, hc⟩ := h h0
  exact ⟨b, off, e, Nat.lt_of_lt_of_le hlt hb.size, fun i x hx => (hb.cell (p := ⟨b, off + i, none⟩) hlt).trans (hc i x hx)⟩
/-- One pattern's atoms. -/
def cmp1 (s : ByteArray) : Option (List Atm) := compF (runesB s) 0 []
/-- A pattern's value. -/
def PV (w : World) (V : Value) (ats : List Atm) : Prop := ∃ A c, V = .slice A ats.length c ∧ ats.length ≤ c ∧ AtsT w A ats
theorem PV.below {w w' : World} {V : Value} {ats : List Atm} (h : PV w V ats) (hb : Below w.heap.size w w') : PV w' V ats := by
  obtain ⟨A, c, e, h1, h2⟩ := h
  exact ⟨A, c, e, h1, h2.below hb⟩
theorem PV.one {w : World} {V : Value} {ats : List Atm} (h : PV w V ats) : V.oneCell' = true := by
  obtain ⟨A, c, rfl, _⟩ := h
  rfl
/-- What is written behind a row of patterns leaves patterns. -/
theorem PV.grow {w w' : World} {V : Value} {ats : List Atm} (h : PV w V ats) {B n z : Nat} {v : Value} {xs : List Value} (ho : w.ownsRow B 98 z v n xs) (hg : w.grownBy w' v.ownBlock) : PV w' V ats := by
  obtain ⟨A, c, e, h1, h2⟩ := h
  have far : ∀ (T : TypeId) (b : Nat) (cs : Array Value), T ≠ 98 → w.heap[b]? = some (Obj.cells cs T (0, 0)) → w'.heap[b]? = w.heap[b]? := fun T b cs hT hx => hg.block b (lt_of_block hx) (fun e => by
    rcases ho.2 with ⟨h1, _⟩ | ⟨g, cap, cur, h1, _, h3, _⟩
    · rw [h1] at e; cases e
    · rw [h1] at e
      injection e with e
      have e' : b = g := e
      subst e'
      rw [h3] at hx
      injection hx with hx
      injection hx with _ hx _
      exact hT hx.symm)
  exact ⟨A, c, e, h1, h2.keep (fun b cs hx => far _ b cs (by decide) hx) (fun b cs hx => far _ b cs (by decide) hx)⟩
/-- Blocks of patterns, atoms and ranges stay. -/
def KeepG (w w' : World) : Prop := ∀ (T : TypeId) (b : Nat) (cs : Array Value), (T = 98 ∨ T = 151 ∨ T = 242) → w.heap[b]? = some (Obj.cells cs T (0, 0)) → w'.heap[b]? = some (Obj.cells cs T (0, 0))
theorem keepG_below {w w' : World} (hb : Below w.heap.size w w') : KeepG w w' := fun T b cs _ hx => (hb.block b (lt_of_block hx)).trans hx
theorem KeepG.then {w w1 w2 : World} (h : KeepG w w1) (k : KeepG w1 w2) : KeepG w w2 := fun T b cs hT hx => k T b cs hT (h T b cs hT hx)
theorem keepG_set {w : World} {g i : Nat} {cs : Array Value} {T : TypeId} {f : Nat × Nat} (hg : w.heap[g]? = some (.cells cs T f)) (h1 : T ≠ 98) (h2 : T ≠ 151) (h3 : T ≠ 242) (v : Value) : KeepG w (w.setCell ⟨g, i, none⟩ v) := fun T' b cs' hT hx => by
  refine (Below.heap_setCell _ _ _ _ (fun e => ?_)).trans hx
  have e' : b = g := e
  subst e'
  rw [hg] at hx
  injection hx with hx
  injection hx with _ hx _
  subst hx
  rcases hT with h | h | h
  · exact h1 h
  · exact h2 h
  · exact h3 h
theorem PV.keep {w w' : World} {V : Value} {ats : List Atm} (h : PV w V ats) (hk : KeepG w w') : PV w' V ats := by
  obtain ⟨A, c, e, h1, h2⟩ := h
  exact ⟨A, c, e, h1, h2.keep (fun b cs hx => (hk _ b cs (.inr (.inl rfl)) hx).trans hx.symm) (fun b cs hx => (hk _ b cs (.inr (.inr rfl)) hx).trans hx.symm)⟩
/-- Patterns where they lie. -/
def PatR (w : World) (A : Option Addr) (pats : List (List Atm)) : Prop := 0 < pats.length → ∃ (b : Nat) (cs : Array Value), A = some ⟨b, 0, none⟩ ∧ w.heap[b]? = some (Obj.cells cs 98 (0, 0)) ∧ ∀ (i : Nat) p, pats[i]? = some p → ∃ V, cs[i]? = some V ∧ PV w V p
theorem PatR.keep {w w' : World} {A : Option Addr} {pats : List (List Atm)} (h : PatR w A pats) (hk : KeepG w w') : PatR w' A pats := fun h0 => by
  obtain ⟨b, cs, e, hb, hc⟩ := h h0
  refine ⟨b, cs, e, hk _ b cs (.inl rfl) hb, fun i p hp => ?_⟩
  obtain ⟨V, h1, h2⟩ := hc i p hp
  exact ⟨V, h1, h2.keep hk⟩
theorem PatR.below {w w' : World} {A : Option Addr} {pats : List (List Atm)} (h : PatR w A pats) (hb : Below w.heap.size w w') : PatR w' A pats := h.keep (keepG_below hb)
/-- The row while it grows: values and their atoms. -/
def RowP (w wr : World) (v : Value) (qs : List (Value × List Atm)) : Prop := wr.ownsRow w.heap.size 98 1 v qs.length (qs.map (·.1)) ∧ (∀ q ∈ qs, PV wr q.1 q.2) ∧ Below w.heap.size w wr
theorem pat_of_own {w wr : World} {A : Option Addr} {c : Nat} {qs : List (Value × List Atm)} (h : RowP w wr (.slice A qs.length c) qs) : PatR wr A (qs.map (·.2)) ∧ qs.length ≤ c := by
  obtain ⟨ho, hq, hb⟩ := h
  rcases ho.2 with ⟨h1, h2⟩ | ⟨g, cap, cur, h1, h2, h3, h4, _, _, h6⟩
  · exact ⟨fun h0 => by rw [List.length_map] at h0; omega, by omega⟩
  · injection h1 with e1 _ e3
    refine ⟨fun h0 => ⟨g, cur, e1, h3, fun i p hp => ?_⟩, by omega⟩
    rw [List.getElem?_map] at hp
    cases hqi : qs[i]? with
    | none => rw [hqi] at hp; cases hp
    | some q =>
      rw [hqi] at hp
      injection hp with hp
      have hi : i < qs.length := (List.getElem?_eq_some_iff.1 hqi).1
      refine ⟨q.1, ?_, by rw [← hp]; exact hq q (List.mem_of_getElem? hqi)⟩
      have h7 : (qs.map (·.1))[i]? = some q.1 := by rw [List.getElem?_map, hqi]; rfl
      rw [← h6, List.getElem?_take] at h7
      rw [← Array.getElem?_toList]
      split at h7
      · exact h7
      · cases h7
theorem parts_pat : (Tryz.prog.info? 98).map (fun i => (i.zero, i.size, i.bytes)) = some (some (.agg #[.slice none 0 0]), 1, 24) := by kernel_rfl
/-- What compile answers. -/
def CmpL (w : World) (ss : List ByteArray) (e : Ending) (w' : World) : Prop :=
  ((∃ s ∈ ss, cmp1 s = none) ∧ e = .returned (.tuple #[.slice none 0 0, .int .i64 22]) ∧ Below w.heap.size w w') ∨
  (∃ pats A c, ss.map cmp1 = pats.map some ∧ pats.length ≤ c ∧ e = .returned (.tuple #[.slice A pats.length c, .int .i64 0]) ∧ PatR w' A pats ∧ Below w.heap.size w w')
set_option maxHeartbeats 8000000 in
theorem fcompile_any (A : Option Addr) (c0 : Nat) (ss : List ByteArray) (hn : ss.length ≤ 1000) (hs : ∀ s ∈ ss, s.size ≤ 65535) (w : World) (hT : TxS w A ss) :
    Calls Tryz.prog 27 #[.slice A ss.length c0] w (CmpL w ss) := by
  have hip := info_pat
  have hzp := zero_pat
  obtain ⟨i0, hi, hz0, hz1, hz2⟩ := parts_of parts_pat
  have HT := Lib.hid hT
  have HSZ := Lib.hid hs
  clear hT hs
  go_enter Tryz.func27, Tryz.ntmps27
  go_wp2_with fail
  go_loopw [4, 6, 7, 8, 11] (fun v4 _ _ _ v11 wr => ∃ (k : Nat) (A4 : Option Addr) (c4 : Nat) (qs : List (Value × List Atm)), k ≤ ss.length ∧ v11 = .int .i64 (k : Nat) ∧ v4 = .slice A4 k c4 ∧ Hid (qs.length = k ∧ RowP w wr (.slice A4 k c4) qs ∧ (ss.take k).map cmp1 = (qs.map (·.2)).map some)) (fun _ _ _ _ v _ => ss.length - (intOf v).toNat)
  case atStart => exact ⟨0, none, 0, [], Nat.zero_le _, rfl, rfl, rfl, ⟨World.ownsRow_nil _ _ _ _, (fun q hq => by cases hq), Below.refl _ _⟩, rfl⟩
  case round =>
    obtain ⟨k, A4, c4, qs, hk, rfl, rfl, HQ⟩ := hrel
    by_cases hlt : k < ss.length
    · have hd : decide ((k : Int) < (ss.length : Int)) = true := decide_eq_true (by omega)
      obtain ⟨b, off, rfl, hb, hc⟩ := (HT.out.below HQ.out.2.1.2.2) (by omega)
      have c1 := hc k ss[k] (List.getElem?_eq_getElem hlt)
      have HMEM : Hid (ss[k] ∈ ss) := List.getElem_mem hlt
      have HC := Lib.hid (compile_any2 ss[k] (HSZ.out _ HMEM.out) wr)
      have HTK : Hid ((ss.take (k + 1)).map cmp1 = (ss.take k).map cmp1 ++ [cmp1 ss[k]]) := by
        show _ = _
        rw [List.take_succ_eq_append_getElem hlt, List.map_append]
        rfl
      rw [show compF (runesB ss[k]) 0 [] = cmp1 ss[k] from rfl] at HC
      clear hc
      generalize ss[k] = sk at *
      go_wp2_with fail
      refine HC.out.mono ?_; rintro e w2 hout
      clear c1 HC
      have hsz0 := HQ.out.2.1.2.2.size
      rcases hout with ⟨hnone, rfl, hb2⟩ | ⟨ats, A5, c5, hsome, hle, rfl, hat, hb2⟩
      · have HN : Hid (∃ s ∈ ss, cmp1 s = none) := ⟨sk, HMEM.out, hnone⟩
        have HB3 : Hid (Below w.heap.size w (w2.alloc (.cells #[.slice none 0 0] 98))) := (below_then HQ.out.2.1.2.2 hb2).alloc (below_then HQ.out.2.1.2.2 hb2).size _
        clear hnone hb2
        go_wp2_with fail
        go_ret2
        exact .inl ⟨HN.out, rfl, HB3.out⟩
      · have HSM : Hid (cmp1 sk = some ats) := hsome
        have HB2 := Lib.hid (below_then HQ.out.2.1.2.2 hb2)
        have HQ2 : Hid (RowP w w2 (.slice A4 k c4) qs) := ⟨own_below' HQ.out.2.1.1 hb2, fun q hq => (HQ.out.2.1.2.1 q hq).below hb2, HB2.out⟩
        have hb3 := below_alG w2 (.cells #[.slice A5 ats.length c5] 98)
        have HPV : Hid (PV (w2.alloc (.cells #[.slice A5 ats.length c5] 98)) (.slice A5 ats.length c5) ats) := ⟨A5, c5, rfl, hle, hat.below hb3⟩
        have HQ3 : Hid (RowP w (w2.alloc (.cells #[.slice A5 ats.length c5] 98)) (.slice A4 k c4) qs) := ⟨own_below' HQ2.out.1 hb3, fun q hq => (HQ2.out.2.1 q hq).below hb3, below_then HB2.out hb3⟩
        have HX3 := Lib.hid (heap_alloc_new w2 (.cells #[.slice A5 ats.length c5] 98))
        have p0 := (cell_of_row _ _ 0 _ _ _ HX3.out).trans (show _ = some (Value.slice A5 ats.length c5) from rfl)
        have HLQ : Hid (qs.length = k) := HQ.out.1
        have HTQ : Hid ((ss.take k).map cmp1 = (qs.map (·.2)).map some) := HQ.out.2.2
        clear hsome hb2 hb3 hat HQ HQ2 HT
        go_upto_region 8 with fail
        generalize hw3 : w2.alloc (.cells #[.slice A5 ats.length c5] 98) = w3 at *
        have hb4 := below_alG w3 (.cells #[.slice A5 ats.length c5] 98)
        have HO4 : Hid ((w3.alloc (.cells #[.slice A5 ats.length c5] 98)).ownsRow w.heap.size 98 1 (.slice A4 k c4) k (qs.map (·.1))) := by
          have h := own_below' HQ3.out.1 hb4
          rw [HLQ.out] at h
          exact h
        have HQV4 : Hid (∀ q ∈ qs ++ [(Value.slice A5 ats.length c5, ats)], PV (w3.alloc (.cells #[.slice A5 ats.length c5] 98)) q.1 q.2) := fun q hq => by
          rcases List.mem_append.1 hq with hq | hq
          · exact (HQ3.out.2.1 q hq).below hb4
          · obtain rfl : q = (Value.slice A5 ats.length c5, ats) := by simpa using hq
            exact HPV.out.below hb4
        have HB4 := Lib.hid (below_then HQ3.out.2.2 hb4)
        have hs4 : w.heap.size ≤ (w3.alloc (.cells #[.slice A5 ats.length c5] 98)).heap.size := HB4.out.size
        clear hb4
        go_wp2_with (at_builtin; (refine wpList_append_own_at _ rfl (.tmp 23) (.tmp 25) _ rfl w.heap.size 98 i0 (.agg #[.slice none 0 0]) 1 24 Tryz.underlying34 hi hz0 hz1 hz2 rfl (by decide) (.slice A4 k c4) k (qs.map (·.1)) rfl HO4.out ⟨w3.heap.size, 0, none⟩ 1 1 [.slice A5 ats.length c5] rfl rfl ?c1 ?c2 ?c3 ?c4 ?c5 ?_))
        case c1 => exact cell_one_new _ _ _
        case c2 => intro u hu; simp at hu; subst hu; rfl
        case c3 => unfold maxLen; omega
        case c4 => omega
        case c5 => exact hs4
        intro v9 w9 hown hgrow hnil hat
        obtain ⟨A9, c9, rfl⟩ := row_slice2 hown
        have HNEW : Hid (RowP w w9 (.slice A9 (k + 1) c9) (qs ++ [(Value.slice A5 ats.length c5, ats)])) := by
          refine ⟨?_, fun q hq => (HQV4.out q hq).grow HO4.out hgrow, HB4.out.grown hgrow hs4 (fun j hj => (HO4.out.lt j hj).1)⟩
          rw [List.length_append, List.map_append, HLQ.out]
          exact hown
        clear hown hgrow hnil hat
        go_wp2_with fail
        go_roundw
        case rel =>
          refine ⟨k + 1, A9, c9, qs ++ [(Value.slice A5 ats.length c5, ats)], by omega, by go_num, rfl, by rw [List.length_append, HLQ.out]; rfl, HNEW.out, ?_⟩
          rw [HTK.out, HTQ.out, HSM.out]
          simp
        case measure => simp [intOf]; omega
    · obtain rfl : k = ss.length := by omega
      have hd : decide ((ss.length : Int) < (ss.length : Int)) = false := decide_eq_false (by omega)
      go_wp2_with fail
      go_ret2
      obtain ⟨h1, h2, h3⟩ := HQ.out
      rw [List.take_length] at h3
      rw [← h1] at h2
      obtain ⟨g1, g2⟩ := pat_of_own h2
      refine .inr ⟨qs.map (·.2), A4, c4, h3, by rw [List.length_map]; exact g2, by rw [List.length_map, h1]; rfl, g1, h2.2.2⟩
end Go.Proofs.YtjnoapbddifcpaaGreatDoor

namespace Go.Proofs.YtjnoapbddifcpaaGreatDoor
set_option maxRecDepth 100000
set_option linter.unusedSimpArgs false
set_option linter.unusedVariables false
open Go.RowKit Go.Joins Go.Deep
open Go.Lib hiding intOf
/-- A pattern's value. -/
def PVd (w : World) (V : Value) (ats : List Atm) : Prop := ∃ A c, V = .slice A ats.length c ∧ RAtsT w A ats
theorem PVd.below {w w' : World} {V : Value} {ats : List Atm} (h : PVd w V ats) (hb : Below w.heap.size w w') : PVd w' V ats := by
  obtain ⟨A, c, e, h2⟩ := h
  exact ⟨A, c, e, h2.below hb⟩
theorem PVd.one {w : World} {V : Value} {ats : List Atm} (h : PVd w V ats) : V.oneCell' = true := by
  obtain ⟨A, c, rfl, _⟩ := h
  rfl
/-- What is written behind a row of patterns leaves patterns. -/
theorem PVd.grow {w w' : World} {V : Value} {ats : List Atm} (h : PVd w V ats) {B n z : Nat} {v : Value} {xs : List Value} (ho : w.ownsRow B 76 z v n xs) (hg : w.grownBy w' v.ownBlock) : PVd w' V ats := by
  obtain ⟨A, c, e, h2⟩ := h
  have far : ∀ (T : TypeId) (b : Nat) (cs : Array Value), T ≠ 76 → w.heap[b]? = some (Obj.cells cs T (0, 0)) → w'.heap[b]? = w.heap[b]? := fun T b cs hT hx => hg.block b (lt_of_block hx) (fun e => by
    rcases ho.2 with ⟨h1, _⟩ | ⟨g, cap, cur, h1, _, h3, _⟩
    · rw [h1] at e; cases e
    · rw [h1] at e
      injection e with e
      have e' : b = g := e
      subst e'
      rw [h3] at hx
      injection hx with hx
      injection hx with _ hx _
      exact hT hx.symm)
  exact ⟨A, c, e, h2.keep (fun b cs hx => far _ b cs (by decide) hx) (fun b cs hx => far _ b cs (by decide) hx)⟩
/-- Blocks of patterns, atoms and ranges stay. -/
def KeepD (w w' : World) : Prop := ∀ (T : TypeId) (b : Nat) (cs : Array Value), (T = 76 ∨ T = 104 ∨ T = 107) → w.heap[b]? = some (Obj.cells cs T (0, 0)) → w'.heap[b]? = some (Obj.cells cs T (0, 0))
theorem keepD_below {w w' : World} (hb : Below w.heap.size w w') : KeepD w w' := fun T b cs _ hx => (hb.block b (lt_of_block hx)).trans hx
theorem KeepD.then {w w1 w2 : World} (h : KeepD w w1) (k : KeepD w1 w2) : KeepD w w2 := fun T b cs hT hx => k T b cs hT (h T b cs hT hx)
theorem keepD_set {w : World} {g i : Nat} {cs : Array Value} {T : TypeId} {f : Nat × Nat} (hg : w.heap[g]? = some (.cells cs T f)) (h1 : T ≠ 76) (h2 : T ≠ 104) (h3 : T ≠ 107) (v : Value) : KeepD w (w.setCell ⟨g, i, none⟩ v) := fun T' b cs' hT hx => by
  refine (Below.heap_setCell _ _ _ _ (fun e => ?_)).trans hx
  have e' : b = g := e
  subst e'
  rw [hg] at hx
  injection hx with hx
  injection hx with _ hx _
  subst hx
  rcases hT with h | h | h
  · exact h1 h
  · exact h2 h
  · exact h3 h
theorem PVd.keep {w w' : World} {V : Value} {ats : List Atm} (h : PVd w V ats) (hk : KeepD w w') : PVd w' V ats := by
  obtain ⟨A, c, e, h2⟩ := h
  exact ⟨A, c, e, h2.keep (fun b cs hx => (hk _ b cs (.inr (.inl rfl)) hx).trans hx.symm) (fun b cs hx => (hk _ b cs (.inr (.inr rfl)) hx).trans hx.symm)⟩
/-- Patterns where they lie. -/
def PatD (w : World) (A : Option Addr) (pats : List (List Atm)) : Prop := 0 < pats.length → ∃ (b : Nat) (cs : Array Value), A = some ⟨b, 0, none⟩ ∧ w.heap[b]? = some (Obj.cells cs 76 (0, 0)) ∧ ∀ (i : Nat) p, pats[i]? = some p → ∃ V, cs[i]? = some V ∧ PVd w V p
theorem PatD.keep {w w' : World} {A : Option Addr} {pats : List (List Atm)} (h : PatD w A pats) (hk : KeepD w w') : PatD w' A pats := fun h0 => by
  obtain ⟨b, cs, e, hb, hc⟩ := h h0
  refine ⟨b, cs, e, hk _ b cs (.inl rfl) hb, fun i p hp => ?_⟩
  obtain ⟨V, h1, h2⟩ := hc i p hp
  exact ⟨V, h1, h2.keep hk⟩
theorem PatD.below {w w' : World} {A : Option Addr} {pats : List (List Atm)} (h : PatD w A pats) (hb : Below w.heap.size w w') : PatD w' A pats := h.keep (keepD_below hb)
/-- The row while it grows: values and their atoms. -/
def RowD (w wr : World) (v : Value) (qs : List (Value × List Atm)) : Prop := wr.ownsRow w.heap.size 76 1 v qs.length (qs.map (·.1)) ∧ (∀ q ∈ qs, PVd wr q.1 q.2) ∧ Below w.heap.size w wr
theorem parts_patD : (Tryz.prog.info? 76).map (fun i => (i.zero, i.size, i.bytes)) = some (some (.slice none 0 0), 1, 24) := by kernel_rfl
end Go.Proofs.YtjnoapbddifcpaaGreatDoor

namespace Go.Proofs.YtjnoapbddifcpaaGreatDoor
set_option maxRecDepth 100000
set_option linter.unusedSimpArgs false
set_option linter.unusedVariables false
open Go.RowKit Go.Joins Go.Deep
open Go.Lib hiding intOf
theorem info_fil : (Tryz.prog.info? 36).map (·.size) = some 2 := by kernel_rfl
theorem zero_fil (w : World) : (zeroValue 36).run Tryz.prog w = .ok (.agg #[.slice none 0 0, .slice none 0 0]) w := by kernel_rfl
/-- A filter's value. -/
def FilV (w : World) (V : Value) (ins outs : List (List Atm)) : Prop := ∃ A1 c1 A2 c2, V = .agg #[.slice A1 ins.length c1, .slice A2 outs.length c2] ∧ PatR w A1 ins ∧ PatR w A2 outs ∧ ins.length ≤ c1 ∧ outs.length ≤ c2
theorem FilV.below {w w' : World} {V : Value} {ins outs : List (List Atm)} (h : FilV w V ins outs) (hb : Below w.heap.size w w') : FilV w' V ins outs := by
  obtain ⟨A1, c1, A2, c2, e, h1, h2, h3, h4⟩ := h
  exact ⟨A1, c1, A2, c2, e, h1.below hb, h2.below hb, h3, h4⟩
/-- Does one of some patterns match? -/
noncomputable def anyM (pats : List (List Atm)) (s : ByteArray) : Bool := pats.any fun p => mtB p (runesB s)
def slash (s : ByteArray) : ByteArray := s ++ ⟨#[47]⟩
noncomputable def mchM (pats : List (List Atm)) (s : ByteArray) (dir : Bool) : Bool := anyM pats s || (dir && anyM pats (slash s))
noncomputable def takM (ins outs : List (List Atm)) (s : ByteArray) (dir : Bool) : Bool := (decide (ins.length = 0) || mchM ins s dir) && !mchM outs s dir
/-- All is small. -/
def SmallP (pats : List (List Atm)) : Prop := pats.length ≤ 1000 ∧ ∀ p ∈ pats, p.length ≤ 1000000 ∧ ∀ x ∈ p, x.rs.length ≤ 1000000
theorem fany_any (A : Option Addr) (c : Nat) (pats : List (List Atm)) (s : ByteArray) (hs : s.size ≤ 1000000) (hp : SmallP pats) (w : World) (hR : PatR w A pats) (hT : Tabs w) :
    Calls Tryz.prog 58 #[.slice A pats.length c, .string s] w fun e w' => e = .returned (.bool (anyM pats s)) ∧ Below w.heap.size w w' := by
  by_cases h0 : pats.length = 0
  · obtain rfl : pats = [] := List.eq_nil_of_length_eq_zero h0
    have h := any_any (fun _ => True) (fun _ _ _ _ => trivial) s [] A c w (fun q hq => by cases hq) (by decide) (fun h => by cases h) trivial
    exact h
  · obtain ⟨b, cs, e, hb, hc⟩ := hR (by omega)
    have hV : ∀ i, i < pats.length → ∃ V, cs[i]? = some V ∧ ∀ p, pats[i]? = some p → PV w V p := fun i hi => by
      obtain ⟨V, h1, h2⟩ := hc i pats[i] (List.getElem?_eq_getElem hi)
      exact ⟨V, h1, fun p hp => by rw [List.getElem?_eq_getElem hi] at hp; injection hp with hp; rw [← hp]; exact h2⟩
    -- the values with their answers
    have hps : ∃ ps : List (Value × Bool), ps.length = pats.length ∧ (∀ (i : Nat) q, ps[i]? = some q → cs[i]? = some q.1 ∧ ∃ p, pats[i]? = some p ∧ PV w q.1 p ∧ q.2 = mtB p (runesB s)) ∧ ps.map (·.2) = pats.map fun p => mtB p (runesB s) := by
      have key : ∀ k, k ≤ pats.length → ∃ ps : List (Value × Bool), ps.length = k ∧ (∀ (i : Nat) q, ps[i]? = some q → cs[i]? = some q.1 ∧ ∃ p, pats[i]? = some p ∧ PV w q.1 p ∧ q.2 = mtB p (runesB s)) ∧ ps.map (·.2) = (pats.take k).map fun p => mtB p (runesB s) := by
        intro k
        induction k with
        | zero => intro _; exact ⟨[], rfl, (fun i q h => by cases h), rfl⟩
        | succ k ih =>
          intro hk
          obtain ⟨ps, h1, h2, h3⟩ := ih (by omega)
          obtain ⟨V, g1, g2⟩ := hV k (by omega)
          refine ⟨ps ++ [(V, mtB pats[k] (runesB s))], by rw [List.length_append, h1]; rfl, fun i q hq => ?_, ?_⟩
          · by_cases e : i = k
            · subst e
              rw [List.getElem?_append_right (by omega), h1, Nat.sub_self] at hq
              injection hq with hq
              subst hq
              exact ⟨g1, pats[i], List.getElem?_eq_getElem (by omega), g2 _ (List.getElem?_eq_getElem (by omega)), rfl⟩
            · have hi : i < k := by
                have := (List.getElem?_eq_some_iff.1 hq).1
                rw [List.length_append, h1] at this
                simp at this
                omega
              rw [List.getElem?_append_left (by omega)] at hq
              exact h2 i q hq
          · rw [List.map_append, h3, List.take_succ_eq_append_getElem (by omega), List.map_append]
            rfl
      obtain ⟨ps, h1, h2, h3⟩ := key pats.length (Nat.le_refl _)
      rw [List.take_length] at h3
      exact ⟨ps, h1, h2, h3⟩
    obtain ⟨ps, h1, h2, h3⟩ := hps
    have h := any_any (fun w1 => Tabs w1 ∧ KeepG w w1) (fun w1 w2 hw hb => ⟨hw.1.below hb, hw.2.then (keepG_below hb)⟩) s ps A c w (fun q hq => by
      obtain ⟨i, hi⟩ := List.getElem?_of_mem hq
      obtain ⟨g1, p, g2, g3, g4⟩ := h2 i q hi
      refine ⟨g3.one, fun w1 hw => ?_⟩
      obtain ⟨A1, c1, k1, k2, k3⟩ := g3.keep hw.2
      obtain ⟨m1, m2⟩ := hp.2 p (List.mem_of_getElem? g2)
      rw [k1, g4]
      exact matches_any p A1 c1 s hs m1 k2 m2 w1 hw.1 k3.ats) (by rw [h1]; exact hp.1) (fun _ => ⟨b, 0, e, lt_of_block hb, fun i q hq => by
        rw [Nat.zero_add]
        exact (cell_of_row _ _ _ _ _ _ hb).trans (h2 i q hq).1⟩) ⟨hT, fun T b cs _ hx => hx⟩
    rw [h1] at h
    have hany : ps.any (fun q => q.2) = anyM pats s := by
      have e1 : ps.any (fun q => q.2) = (ps.map (·.2)).any id := by rw [List.any_map]; rfl
      have e2 : anyM pats s = (pats.map fun p => mtB p (runesB s)).any id := by unfold anyM; rw [List.any_map]; rfl
      rw [e1, e2, h3]
    rw [hany] at h
    exact h
set_option maxHeartbeats 4000000 in
theorem matched_any (A : Option Addr) (c : Nat) (pats : List (List Atm)) (s : ByteArray) (dir : Bool) (hs : s.size ≤ 100000) (hp : SmallP pats) (w : World) (hR : PatR w A pats) (hT : Tabs w) :
    Calls Tryz.prog 32 #[.slice A pats.length c, .string s, .bool dir] w fun e w' => e = .returned (.bool (mchM pats s dir)) ∧ Below w.heap.size w w' := by
  have H1 := Lib.hid (fany_any A c pats s (by omega) hp w hR hT)
  have H2 := Lib.hid (fun w1 (hb : Below w.heap.size w w1) => fany_any A c pats (slash s) (by unfold slash; rw [ByteArray.size_append]; show s.size + 1 ≤ _; omega) hp w1 (hR.below hb) (hT.below hb))
  have HV : Hid (mchM pats s dir = (anyM pats s || (dir && anyM pats (slash s)))) := rfl
  generalize mchM pats s dir = V at *
  generalize anyM pats s = X at *
  generalize anyM pats (slash s) = Y at *
  have hcat : ¬ 9223372036854775807 < s.size + (⟨#[47]⟩ : ByteArray).size := by show ¬ 9223372036854775807 < s.size + 1; omega
  have hcat1 : ¬ 9223372036854775807 < s.size + 1 := by omega
  have HSL : Hid (slash s = s ++ ⟨#[47]⟩) := rfl
  rw [HSL.out] at H2
  go_enter Tryz.func32, Tryz.ntmps32
  go_wp2_with fail
  refine H1.out.mono ?_; rintro e w1 ⟨rfl, hb1⟩
  have HB1 := Lib.hid hb1
  clear hb1
  cases X with
  | true =>
    go_wp2_with fail
    go_ret
    exact ⟨by rw [HV.out]; rfl, HB1.out⟩
  | false =>
    cases dir with
    | false =>
      go_wp2_with fail
      go_ret
      exact ⟨by rw [HV.out]; rfl, HB1.out⟩
    | true =>
      go_wp2_with fail
      refine (H2.out _ HB1.out).mono ?_; rintro e w2 ⟨rfl, hb2⟩
      have HB2 := Lib.hid (below_then HB1.out hb2)
      clear hb2
      go_wp2_with fail
      go_ret
      exact ⟨by rw [HV.out]; rfl, HB2.out⟩
set_option maxHeartbeats 4000000 in
theorem takes_any (V : Value) (ins outs : List (List Atm)) (s : ByteArray) (dir : Bool) (hs : s.size ≤ 100000) (h1 : SmallP ins) (h2 : SmallP outs) (w : World) (hF : FilV w V ins outs) (hT : Tabs w) :
    Calls Tryz.prog 13 #[V, .string s, .bool dir] w fun e w' => e = .returned (.bool (takM ins outs s dir)) ∧ Below w.heap.size w w' := by
  obtain ⟨A1, c1, A2, c2, rfl, hR1, hR2, _, _⟩ := hF
  have hif := info_fil
  have hb0 := below_alG w (.cells #[.slice A1 ins.length c1, .slice A2 outs.length c2] 36)
  have hx0 := heap_alloc_new w (.cells #[.slice A1 ins.length c1, .slice A2 outs.length c2] 36)
  have HB0 := Lib.hid hb0
  have HX0 := Lib.hid hx0
  have H1 := Lib.hid (matched_any A1 c1 ins s dir hs h1 _ (hR1.below hb0) (hT.below hb0))
  have H2 := Lib.hid (fun w1 (hb : Below w.heap.size w w1) => matched_any A2 c2 outs s dir hs h2 w1 (hR2.below hb) (hT.below hb))
  have HV : Hid (takM ins outs s dir = ((decide (ins.length = 0) || mchM ins s dir) && !mchM outs s dir)) := rfl
  generalize takM ins outs s dir = V at *
  generalize mchM ins s dir = X at *
  generalize mchM outs s dir = Y at *
  clear hR1 hR2 hT hb0
  have a0 := (cell_of_row _ _ 0 _ _ _ hx0).trans (show _ = some (Value.slice A1 ins.length c1) from rfl)
  have a1 := (cell_of_row _ _ 1 _ _ _ hx0).trans (show _ = some (Value.slice A2 outs.length c2) from rfl)
  clear hx0
  by_cases h0 : ins.length = 0
  · have d0 : ((((ins.length : Nat) : Int)) == 0) = true := by rw [beq_iff_eq]; omega
    have HD : Hid (decide (ins.length = 0) = true) := decide_eq_true h0
    clear h0
    go_enter Tryz.func13, Tryz.ntmps13
    go_upto_region 1 with fail
    generalize hg : w.heap.size = g at *
    generalize w.alloc (.cells #[.slice A1 ins.length c1, .slice A2 outs.length c2] 36) = w1 at *
    have HLT : Hid (g < w1.heap.size) := lt_of_block HX0.out
    go_wp2_with fail
    refine (H2.out _ HB0.out).mono ?_; rintro e w3 ⟨rfl, hb3⟩
    have HB3 := Lib.hid (below_then (by rw [hg]; exact HB0.out : Below w.heap.size w w1) hb3)
    clear hb3
    go_wp2_with fail
    go_ret
    exact ⟨by rw [HV.out, HD.out]; rfl, HB3.out⟩
  · have d0 : ((((ins.length : Nat) : Int)) == 0) = false := by rw [beq_eq_false_iff_ne]; omega
    have HD : Hid (decide (ins.length = 0) = false) := decide_eq_false h0
    clear h0
    go_enter Tryz.func13, Tryz.ntmps13
    go_upto_region 1 with fail
    generalize hg : w.heap.size = g at *
    generalize w.alloc (.cells #[.slice A1 ins.length c1, .slice A2 outs.length c2] 36) = w1 at *
    have HLT : Hid (g < w1.heap.size) := lt_of_block HX0.out
    go_wp2_with fail
    refine H1.out.mono ?_; rintro e w2 ⟨rfl, hb2⟩
    have HB2 := Lib.hid (below_then (by rw [hg]; exact HB0.out : Below w.heap.size w w1) hb2)
    have b1 := (hb2.cell (p := ⟨g, 1, none⟩) HLT.out).trans a1
    clear hb2
    cases X with
    | false =>
      go_wp2_with fail
      go_ret
      exact ⟨by rw [HV.out, HD.out]; rfl, HB2.out⟩
    | true =>
      go_wp2_with fail
      refine (H2.out _ (by rw [← hg]; exact HB2.out)).mono ?_; rintro e w3 ⟨rfl, hb3⟩
      have HB3 := Lib.hid (below_then HB2.out hb3)
      clear hb3
      go_wp2_with fail
      go_ret
      exact ⟨by rw [HV.out, HD.out]; rfl, HB3.out⟩
end Go.Proofs.YtjnoapbddifcpaaGreatDoor
