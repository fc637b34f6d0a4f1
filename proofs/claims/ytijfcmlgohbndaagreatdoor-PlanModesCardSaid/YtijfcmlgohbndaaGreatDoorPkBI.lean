/-
  Filter: patterns compiled.
  Compare: the paths of any entries.
  Compare: the first items of any entries' paths.
-/
import Derived.Test.YtijfcmlgohbndaaGreatDoorPkBH
import Derived.Test.YtijfcmlgohbndaaGreatDoorPkAE
import Derived.Test.YtijfcmlgohbndaaGreatDoorPkBC
import Derived.Test.YtijfcmlgohbndaaGreatDoorPkBD

namespace Go.Proofs.YtijfcmlgohbndaaGreatDoor
set_option maxRecDepth 100000
set_option linter.unusedSimpArgs false
set_option linter.unusedVariables false
open Go.RowKit Go.Joins Go.Deep
open Go.Lib hiding intOf
/-- Texts where they lie. -/
def TxS (w : World) (A : Option Addr) (ss : List ByteArray) : Prop := 0 < ss.length → ∃ b off, A = some ⟨b, off, none⟩ ∧ b < w.heap.size ∧ ∀ (i : Nat) x, ss[i]? = some x → w.cell? ⟨b, off + i, none⟩ = some (.string x)
theorem TxS.below {w w' : World} {A : Option Addr} {ss : List ByteArray} (h : TxS w A ss) (hb : Below w.heap.size w w') : TxS w' A ss := fun h0 => by
  obtain ⟨b, off, e, hlt, hc⟩ := h h0
  exact ⟨b, off, e, Nat.lt_of_lt_of_le hlt hb.size, fun i x hx => (hb.cell (p := ⟨b, off + i, none⟩) hlt).trans (hc i x hx)⟩
/-- One pattern's atoms. -/
def cmp1 (s : ByteArray) : Option (List Atm) := compF (runesB s) 0 []
/-- A pattern's value. -/
def PV (w : World) (V : Value) (ats : List Atm) : Prop := ∃ A c, V = .slice A ats.length c ∧ ats.length ≤ c ∧ AtsT w A ats
theorem PV.below {w w' : World} {V : Value} {ats : List Atm} (h : PV w V ats) (hb : Below w.heap.size w w') : PV w' V ats := by
  obtain ⟨A, c, e, h1, h2⟩ := h
  exact ⟨A, c, e, h1, h2.below hb⟩
theorem PV.one {w : World} {V : Value} {ats : List Atm} (h : PV w V ats) : V.oneCell' = true := by
  obtain ⟨A, c, rfl, _⟩ := h
  rfl
/-- What is written behind a row of patterns leaves patterns. -/
theorem PV.grow {w w' : World} {V : Value} {ats : List Atm} (h : PV w V ats) {B n z : Nat} {v : Value} {xs : List Value} (ho : w.ownsRow B 62 z v n xs) (hg : w.grownBy w' v.ownBlock) : PV w' V ats := by
  obtain ⟨A, c, e, h1, h2⟩ := h
  have far : ∀ (T : TypeId) (b : Nat) (cs : Array Value), T ≠ 62 → w.heap[b]? = some (Obj.cells cs T (0, 0)) → w'.heap[b]? = w.heap[b]? := fun T b cs hT hx => hg.block b (lt_of_block hx) (fun e => by
    rcases ho.2 with ⟨h1, _⟩ | ⟨g, cap, cur, h1, _, h3, _⟩
    · rw [h1] at e; cases e
    · rw [h1] at e
      injection e with e
      have e' : b = g := e
      subst e'
      rw [h3] at hx
      injection hx with hx
      injection hx with _ hx _
      exact hT hx.symm)
  exact ⟨A, c, e, h1, h2.keep (fun b cs hx => far _ b cs (by decide) hx) (fun b cs hx => far _ b cs (by decide) hx)⟩
/-- Blocks of patterns, atoms and ranges stay. -/
def KeepG (w w' : World) : Prop := ∀ (T : TypeId) (b : Nat) (cs : Array Value), (T = 62 ∨ T = 89 ∨ T = 158) → w.heap[b]? = some (Obj.cells cs T (0, 0)) → w'.heap[b]? = some (Obj.cells cs T (0, 0))
theorem keepG_below {w w' : World} (hb : Below w.heap.size w w') : KeepG w w' := fun T b cs _ hx => (hb.block b (lt_of_block hx)).trans hx
theorem KeepG.then {w w1 w2 : World} (h : KeepG w w1) (k : KeepG w1 w2) : KeepG w w2 := fun T b cs hT hx => k T b cs hT (h T b cs hT hx)
theorem keepG_set {w : World} {g i : Nat} {cs : Array Value} {T : TypeId} {f : Nat × Nat} (hg : w.heap[g]? = some (.cells cs T f)) (h1 : T ≠ 62) (h2 : T ≠ 89) (h3 : T ≠ 158) (v : Value) : KeepG w (w.setCell ⟨g, i, none⟩ v) := fun T' b cs' hT hx => by
  refine (Below.heap_setCell _ _ _ _ (fun e => ?_)).trans hx
  have e' : b = g := e
  subst e'
  rw [hg] at hx
  injection hx with hx
  injection hx with _ hx _
  subst hx
  rcases hT with h | h | h
  · exact h1 h
  · exact h2 h
  · exact h3 h
theorem PV.keep {w w' : World} {V : Value} {ats : List Atm} (h : PV w V ats) (hk : KeepG w w') : PV w' V ats := by
  obtain ⟨A, c, e, h1, h2⟩ := h
  exact ⟨A, c, e, h1, h2.keep (fun b cs hx => (hk _ b cs (.inr (.inl rfl)) hx).trans hx.symm) (fun b cs hx => (hk _ b cs (.inr (.inr rfl)) hx).trans hx.symm)⟩
/-- Patterns where they lie. -/
def PatR (w : World) (A : Option Addr) (pats : List (List Atm)) : Prop := 0 < pats.length → ∃ (b : Nat) (cs : Array Value), A = some ⟨b, 0, none⟩ ∧ w.heap[b]? = some (Obj.cells cs 62 (0, 0)) ∧ ∀ (i : Nat) p, pats[i]? = some p → ∃ V, cs[i]? = some V ∧ PV w V p
theorem PatR.keep {w w' : World} {A : Option Addr} {pats : List (List Atm)} (h : PatR w A pats) (hk : KeepG w w') : PatR w' A pats := fun h0 => by
  obtain ⟨b, cs, e, hb, hc⟩ := h h0
  refine ⟨b, cs, e, hk _ b cs (.inl rfl) hb, fun i p hp => ?_⟩
  obtain ⟨V, h1, h2⟩ := hc i p hp
  exact ⟨V, h1, h2.keep hk⟩
theorem PatR.below {w w' : World} {A : Option Addr} {pats : List (List Atm)} (h : PatR w A pats) (hb : Below w.heap.size w w') : PatR w' A pats := h.keep (keepG_below hb)
/-- The row while it grows: values and their atoms. -/
def RowP (w wr : World) (v : Value) (qs : List (Value × List Atm)) : Prop := wr.ownsRow w.heap.size 62 1 v qs.length (qs.map (·.1)) ∧ (∀ q ∈ qs, PV wr q.1 q.2) ∧ Below w.heap.size w wr
theorem pat_of_own {w wr : World} {A : Option Addr} {c : Nat} {qs : List (Value × List Atm)} (h : RowP w wr (.slice A qs.length c) qs) : PatR wr A (qs.map (·.2)) ∧ qs.length ≤ c := by
  obtain ⟨ho, hq, hb⟩ := h
  rcases ho.2 with ⟨h1, h2⟩ | ⟨g, cap, cur, h1, h2, h3, h4, _, _, h6⟩
  · exact ⟨fun h0 => by rw [List.length_map] at h0; omega, by omega⟩
  · injection h1 with e1 _ e3
    refine ⟨fun h0 => ⟨g, cur, e1, h3, fun i p hp => ?_⟩, by omega⟩
    rw [List.getElem?_map] at hp
    cases hqi : qs[i]? with
    | none => rw [hqi] at hp; cases hp
    | some q =>
      rw [hqi] at hp
      injection hp with hp
      have hi : i < qs.length := (List.getElem?_eq_some_iff.1 hqi).1
      refine ⟨q.1, ?_, by rw [← hp]; exact hq q (List.mem_of_getElem? hqi)⟩
      have h7 : (qs.map (·.1))[i]? = some q.1 := by rw [List.getElem?_map, hqi]; rfl
      rw [← h6, List.getElem?_take] at h7
      rw [← Array.getElem?_toList]
      split at h7
      · exact h7
      · cases h7
theorem parts_pat : (Tryz.prog.info? 62).map (fun i => (i.zero, i.size, i.bytes)) = some (some (.agg #[.slice none 0 0]), 1, 24) := by kernel_rfl
/-- What compile answers. -/
def CmpL (w : World) (ss : List ByteArray) (e : Ending) (w' : World) : Prop :=
  ((∃ s ∈ ss, cmp1 s = none) ∧ e = .returned (.tuple #[.slice none 0 0, .int .i64 22]) ∧ Below w.heap.size w w') ∨
  (∃ pats A c, ss.map cmp1 = pats.map some ∧ pats.length ≤ c ∧ e = .returned (.tuple #[.slice A pats.length c, .int .i64 0]) ∧ PatR w' A pats ∧ Below w.heap.size w w')
set_option maxHeartbeats 8000000 in
theorem fcompile_any (A : Option Addr) (c0 : Nat) (ss : List ByteArray) (hn : ss.length ≤ 1000) (hs : ∀ s ∈ ss, s.size ≤ 65535) (w : World) (hT : TxS w A ss) :
    Calls Tryz.prog 12 #[.slice A ss.length c0] w (CmpL w ss) := by
  have hip := info_pat
  have hzp := zero_pat
  obtain ⟨i0, hi, hz0, hz1, hz2⟩ := parts_of parts_pat
  have HT := Lib.hid hT
  have HSZ := Lib.hid hs
  clear hT hs
  go_enter Tryz.func12, Tryz.ntmps12
  go_wp2_with fail
  go_loopw [4, 6, 7, 8, 11] (fun v4 _ _ _ v11 wr => ∃ (k : Nat) (A4 : Option Addr) (c4 : Nat) (qs : List (Value × List Atm)), k ≤ ss.length ∧ v11 = .int .i64 (k : Nat) ∧ v4 = .slice A4 k c4 ∧ Hid (qs.length = k ∧ RowP w wr (.slice A4 k c4) qs ∧ (ss.take k).map cmp1 = (qs.map (·.2)).map some)) (fun _ _ _ _ v _ => ss.length - (intOf v).toNat)
  case atStart => exact ⟨0, none, 0, [], Nat.zero_le _, rfl, rfl, rfl, ⟨World.ownsRow_nil _ _ _ _, (fun q hq => by cases hq), Below.refl _ _⟩, rfl⟩
  case round =>
    obtain ⟨k, A4, c4, qs, hk, rfl, rfl, HQ⟩ := hrel
    by_cases hlt : k < ss.length
    · have hd : decide ((k : Int) < (ss.length : Int)) = true := decide_eq_true (by omega)
      obtain ⟨b, off, rfl, hb, hc⟩ := (HT.out.below HQ.out.2.1.2.2) (by omega)
      have c1 := hc k ss[k] (List.getElem?_eq_getElem hlt)
      have HMEM : Hid (ss[k] ∈ ss) := List.getElem_mem hlt
      have HC := Lib.hid (compile_any2 ss[k] (HSZ.out _ HMEM.out) wr)
      have HTK : Hid ((ss.take (k + 1)).map cmp1 = (ss.take k).map cmp1 ++ [cmp1 ss[k]]) := by
        show _ = _
        rw [List.take_succ_eq_append_getElem hlt, List.map_append]
        rfl
      rw [show compF (runesB ss[k]) 0 [] = cmp1 ss[k] from rfl] at HC
      clear hc
      generalize ss[k] = sk at *
      go_wp2_with fail
      refine HC.out.mono ?_; rintro e w2 hout
      clear c1 HC
      have hsz0 := HQ.out.2.1.2.2.size
      rcases hout with ⟨hnone, rfl, hb2⟩ | ⟨ats, A5, c5, hsome, hle, rfl, hat, hb2⟩
      · have HN : Hid (∃ s ∈ ss, cmp1 s = none) := ⟨sk, HMEM.out, hnone⟩
        have HB3 : Hid (Below w.heap.size w (w2.alloc (.cells #[.slice none 0 0] 62))) := (below_then HQ.out.2.1.2.2 hb2).alloc (below_then HQ.out.2.1.2.2 hb2).size _
        clear hnone hb2
        go_wp2_with fail
        go_ret2
        exact .inl ⟨HN.out, rfl, HB3.out⟩
      · have HSM : Hid (cmp1 sk = some ats) := hsome
        have HB2 := Lib.hid (below_then HQ.out.2.1.2.2 hb2)
        have HQ2 : Hid (RowP w w2 (.slice A4 k c4) qs) := ⟨own_below' HQ.out.2.1.1 hb2, fun q hq => (HQ.out.2.1.2.1 q hq).below hb2, HB2.out⟩
        have hb3 := below_alG w2 (.cells #[.slice A5 ats.length c5] 62)
        have HPV : Hid (PV (w2.alloc (.cells #[.slice A5 ats.length c5] 62)) (.slice A5 ats.length c5) ats) := ⟨A5, c5, rfl, hle, hat.below hb3⟩
        have HQ3 : Hid (RowP w (w2.alloc (.cells #[.slice A5 ats.length c5] 62)) (.slice A4 k c4) qs) := ⟨own_below' HQ2.out.1 hb3, fun q hq => (HQ2.out.2.1 q hq).below hb3, below_then HB2.out hb3⟩
        have HX3 := Lib.hid (heap_alloc_new w2 (.cells #[.slice A5 ats.length c5] 62))
        have p0 := (cell_of_row _ _ 0 _ _ _ HX3.out).trans (show _ = some (Value.slice A5 ats.length c5) from rfl)
        have HLQ : Hid (qs.length = k) := HQ.out.1
        have HTQ : Hid ((ss.take k).map cmp1 = (qs.map (·.2)).map some) := HQ.out.2.2
        clear hsome hb2 hb3 hat HQ HQ2 HT
        go_upto_region 8 with fail
        generalize hw3 : w2.alloc (.cells #[.slice A5 ats.length c5] 62) = w3 at *
        have hb4 := below_alG w3 (.cells #[.slice A5 ats.length c5] 62)
        have HO4 : Hid ((w3.alloc (.cells #[.slice A5 ats.length c5] 62)).ownsRow w.heap.size 62 1 (.slice A4 k c4) k (qs.map (·.1))) := by
          have h := own_below' HQ3.out.1 hb4
          rw [HLQ.out] at h
          exact h
        have HQV4 : Hid (∀ q ∈ qs ++ [(Value.slice A5 ats.length c5, ats)], PV (w3.alloc (.cells #[.slice A5 ats.length c5] 62)) q.1 q.2) := fun q hq => by
          rcases List.mem_append.1 hq with hq | hq
          · exact (HQ3.out.2.1 q hq).below hb4
          · obtain rfl : q = (Value.slice A5 ats.length c5, ats) := by simpa using hq
            exact HPV.out.below hb4
        have HB4 := Lib.hid (below_then HQ3.out.2.2 hb4)
        have hs4 : w.heap.size ≤ (w3.alloc (.cells #[.slice A5 ats.length c5] 62)).heap.size := HB4.out.size
        clear hb4
        go_wp2_with (at_builtin; (refine wpList_append_own_at _ rfl (.tmp 23) (.tmp 25) _ rfl w.heap.size 62 i0 (.agg #[.slice none 0 0]) 1 24 Tryz.underlying29 hi hz0 hz1 hz2 rfl (by decide) (.slice A4 k c4) k (qs.map (·.1)) rfl HO4.out ⟨w3.heap.size, 0, none⟩ 1 1 [.slice A5 ats.length c5] rfl rfl ?c1 ?c2 ?c3 ?c4 ?c5 ?_))
        case c1 => exact cell_one_new _ _ _
        case c2 => intro u hu; simp at hu; subst hu; rfl
        case c3 => unfold maxLen; omega
        case c4 => omega
        case c5 => exact hs4
        intro v9 w9 hown hgrow hnil hat
        obtain ⟨A9, c9, rfl⟩ := row_slice2 hown
        have HNEW : Hid (RowP w w9 (.slice A9 (k + 1) c9) (qs ++ [(Value.slice A5 ats.length c5, ats)])) := by
          refine ⟨?_, fun q hq => (HQV4.out q hq).grow HO4.out hgrow, HB4.out.grown hgrow hs4 (fun j hj => (HO4.out.lt j hj).1)⟩
          rw [List.length_append, List.map_append, HLQ.out]
          exact hown
        clear hown hgrow hnil hat
        go_wp2_with fail
        go_roundw
        case rel =>
          refine ⟨k + 1, A9, c9, qs ++ [(Value.slice A5 ats.length c5, ats)], by omega, by go_num, rfl, by rw [List.length_append, HLQ.out]; rfl, HNEW.out, ?_⟩
          rw [HTK.out, HTQ.out, HSM.out]
          simp
        case measure => simp [intOf]; omega
    · obtain rfl : k = ss.length := by omega
      have hd : decide ((ss.length : Int) < (ss.length : Int)) = false := decide_eq_false (by omega)
      go_wp2_with fail
      go_ret2
      obtain ⟨h1, h2, h3⟩ := HQ.out
      rw [List.take_length] at h3
      rw [← h1] at h2
      obtain ⟨g1, g2⟩ := pat_of_own h2
      refine .inr ⟨qs.map (·.2), A4, c4, h3, by rw [List.length_map]; exact g2, by rw [List.length_map, h1]; rfl, g1, h2.2.2⟩
end Go.Proofs.YtijfcmlgohbndaaGreatDoor

namespace Go.Proofs.YtijfcmlgohbndaaGreatDoor
set_option maxRecDepth 100000
set_option linter.unusedSimpArgs false
set_option linter.unusedVariables false
open Go.RowKit Go.Joins Go.Deep Go.WideMaps
open Go.Lib hiding intOf
theorem ownsMapP {w w' : World} {R : Value → Option (DataW Unit × List MemPlace)} {b n : Nat} {D : DataW Unit} (h : w.ownsMap Tryz.prog 9 R b n D) (hb : Below w.heap.size w w') : w'.ownsMap Tryz.prog 9 R b n D :=
  h.kept (row := none) ⟨hb.os, hb.tape, hb.output, hb.size, fun i hi _ => hb.block i hi⟩ (by simp)
theorem own_keepP {w w' : World} {base size n : Nat} {e : TypeId} {v : Value} {xs : List Value} (h : w.ownsRow base e size v n xs) (hb : Below w.heap.size w w') : w'.ownsRow base e size v n xs :=
  h.kept (row := none) ⟨hb.os, hb.tape, hb.output, hb.size, fun i hi _ => hb.block i hi⟩ (by cases hv : v.ownBlock <;> simp)
theorem own_lowerP {w : World} {B B' size n : Nat} {e : TypeId} {v : Value} {xs : List Value} (h : w.ownsRow B e size v n xs) (hB : B' ≤ B) : w.ownsRow B' e size v n xs := by
  refine ⟨h.1, ?_⟩
  rcases h.2 with q | ⟨g, cap, cur, e1, e2, e3⟩
  · exact .inl q
  · exact .inr ⟨g, cap, cur, e1, Nat.le_trans hB e2, e3⟩
theorem txs_own {w : World} {B : Nat} {l : List ByteArray} {v : Value} (h : w.ownsRow B 9 1 v l.length (l.map .string)) : ∃ A c, v = .slice A l.length c ∧ TxS w A l := by
  rcases h.2 with ⟨he, h0⟩ | ⟨g, cap, cur, he, hbg, _⟩
  · exact ⟨none, 0, by rw [he, h0], fun hp => by omega⟩
  · refine ⟨some ⟨g, 0, none⟩, cap, he, fun hp => ⟨g, 0, rfl, ?_, fun i x hx => ?_⟩⟩
    · rw [he] at h; exact (h.lt g rfl).2
    · rw [he] at h
      have hi : i < l.length := (List.getElem?_eq_some_iff.1 hx).1
      have hc := h.cellAt i (by omega)
      rw [Nat.zero_add, hc, List.getElem?_map, hx]
      rfl
theorem chkV_sz (s : ByteArray) : (chkV s).1.size ≤ 65535 := by
  unfold chkV
  split
  · exact Nat.zero_le _
  · split
    · exact Nat.zero_le _
    · rename_i h1 h2
      have := readN_small (Classical.not_not.1 h1)
      have := path_le s
      show (pathB s).size ≤ _
      omega
theorem metV_sz (E : Ent) : (metV E).p.size ≤ 65535 := by
  have hp : (patV (flL E ++ flC E) E).1.size ≤ 65535 := by
    unfold patV
    split
    · exact chkV_sz _
    · exact Nat.zero_le _
  unfold metV
  split
  · split
    · split
      · split
        · split
          · exact hp
          · exact Nat.zero_le _
        · exact Nat.zero_le _
      · exact Nat.zero_le _
    · exact Nat.zero_le _
  · exact Nat.zero_le _
/-- The paths of entries. -/
noncomputable def pthL (l : List Ent) : List ByteArray := l.map fun E => (metV E).p
theorem pthL_len (l : List Ent) : (pthL l).length = l.length := by simp [pthL]
theorem pthL_snoc (l : List Ent) (E : Ent) : pthL (l ++ [E]) = pthL l ++ [(metV E).p] := by simp [pthL]
theorem pthL_sz (l : List Ent) : ∀ p ∈ pthL l, p.size ≤ 65535 := fun p hp => by
  obtain ⟨E, _, rfl⟩ := List.mem_map.1 hp
  exact metV_sz E
/-- Entries that are light, in a world with the library's tables. -/
def LightL (l : List Ent) : Prop := ∀ E ∈ l, EntOk E ∧ E.nm.size ≤ 100000
/-- What Paths answers. -/
def PthR (w : World) (l : List Ent) (e : Ending) (w' : World) : Prop :=
  (∃ z, z ≠ 0 ∧ e = .returned (.tuple #[.slice none 0 0, .int .i64 z]) ∧ Below w.heap.size w w') ∨
  (∃ A c, (∀ E ∈ l, (metV E).z = 0) ∧ e = .returned (.tuple #[.slice A l.length c, .int .i64 0]) ∧ TxS w' A (pthL l) ∧ Below w.heap.size w w')
theorem text_news (w : World) (p : ByteArray) : ∀ j u, [Value.string p][j]? = some u → (w.alloc (.cells #[.string p] 9)).cell? ((⟨w.heap.size, 0, none⟩ : Addr).add j) = some u := fun j u hj => by
  rw [Addr.add_lit, Nat.zero_add, cell_of_row _ _ j _ _ _ (heap_alloc_new w _)]
  simpa using hj
set_option maxHeartbeats 16000000 in
theorem paths_any (A : Option Addr) (c : Nat) (l : List Ent) (w : World) (hR : Ents w A l) (hl : l.length ≤ 1000) (hL : LightL l) (hU : Upper w) (hE : Env w) :
    Calls Tryz.prog 29 #[.slice A l.length c] w (PthR w l) := by
  have hmm := @run_makeMap Tryz.prog
  have hzu := zero_unitP
  obtain ⟨i0, hi, hz0, hz1, hz2⟩ : ∃ i0, Tryz.prog.info? 9 = some i0 ∧ i0.zero = some (.string ⟨#[]⟩) ∧ i0.size = 1 ∧ i0.bytes = 16 := by
    have h : (Tryz.prog.info? 9).map (fun i => (i.zero, i.size, i.bytes)) = some (some (.string ⟨#[]⟩), 1, 16) := by kernel_rfl
    cases hq : Tryz.prog.info? 9 with
    | none => rw [hq] at h; cases h
    | some i =>
      rw [hq] at h
      simp only [Option.map_some, Option.some.injEq, Prod.mk.injEq] at h
      exact ⟨i, rfl, h.1, h.2.1, h.2.2⟩
  have HR := Lib.hid (fun w1 (hb : Below w.heap.size w w1) => hR.below hb)
  have HME := Lib.hid (fun E (hm : E ∈ l) w1 (hb : Below w.heap.size w w1) => meta_any E (hL E hm).1 (hL E hm).2 w1 (hU.below hb) (hE.below hb))
  have HM0 := Lib.hid (World.ownsMap_made (H := Unit) w Tryz.prog 9 unitElem)
  have HB0 := Lib.hid (below_alP w (.map #[] 0))
  clear hR hL hU hE
  go_enter Tryz.func29, Tryz.ntmps29
  go_upto_region 3 with fail
  generalize w.alloc (.map #[] 0) = w0 at *
  go_wp2_with fail
  go_loopw [4, 14] (fun v4 v14 wr => ∃ (k : Nat) (V : Value) (n : Nat) (D : DataW Unit), k ≤ l.length ∧ V = v4 ∧ v14 = .int .i64 (k : Nat) ∧ Hid (∀ E ∈ l.take k, (metV E).z = 0) ∧ Hid (n ≤ k) ∧ Hid (wr.ownsMap Tryz.prog 9 (unitElem (H := Unit)) w.heap.size n D) ∧ Hid (wr.ownsRow (w.heap.size + 1) 9 1 V (pthL (l.take k)).length ((pthL (l.take k)).map .string)) ∧ Hid (Below w.heap.size w wr)) (fun _ v _ => l.length - (intOf v).toNat)
  case atStart => exact ⟨0, _, 0, _, Nat.zero_le _, rfl, rfl, (fun E hE => by cases hE), Nat.le_refl _, HM0.out, World.ownsRow_nil _ _ _ _, HB0.out⟩
  case round =>
    clear HM0 HB0
    obtain ⟨k, V, n, D, hk, rfl, rfl, HZ, HN, HM, HO, HB⟩ := hrel
    by_cases hkn : k < l.length
    · have hd : decide ((k : Int) < (l.length : Int)) = true := decide_eq_true (by omega)
      obtain ⟨b, off, rfl, hb, hcc⟩ := (HR.out wr HB.out) (by omega)
      have HRG := Lib.hid (hcc k l[k] (List.getElem?_eq_getElem hkn))
      have HMEM : Hid (l[k] ∈ l) := List.getElem_mem hkn
      have HTK : Hid (l.take (k + 1) = l.take k ++ [l[k]]) := List.take_succ_eq_append_getElem hkn
      have HX1 := Lib.hid (boxE_row wr l[k])
      have hb01 := boxE_below l[k].cells (Below.refl wr.heap.size wr) (Nat.le_refl _)
      have HB1 := Lib.hid (boxE_below l[k].cells HB.out HB.out.size)
      have HM1 := Lib.hid (ownsMapP HM.out hb01)
      have HO1 := Lib.hid (own_keepP HO.out hb01)
      have HLI := Lib.hid (HME.out l[k] HMEM.out _ HB1.out)
      have HPS := Lib.hid (metV_sz l[k])
      generalize l[k] = E at *
      have H17 := Lib.hid (ent_size E)
      have HON := Lib.hid (ent_one E)
      have HIE : Hid ((Tryz.prog.info? 51).map (·.size) = some E.cells.size) := info_entE
      have HLD : Hid (∀ {ops : Array Oper} {rest : List Oper} {op : Oper} {a : Act} {w : World} {Q : Exit → Act → World → Prop} (hgd : op.guard = none) (x : Operand) (ho : op.op = .load 51 x)
        (b o : Nat) (hx : a.eval x = .pointer (some ⟨b, o, none⟩)) (hc : w.rangeAt b o E.cellsL)
        (h : wpList Tryz.prog ops Q rest (a.put op.dst (.agg E.cells)) w), wpList Tryz.prog ops Q (op :: rest) a w) := fun hgd x ho b o hx hc h => wpList_load_ent E hgd x ho b o hx hc h
      generalize E.cells = EC at *
      clear hcc HB hb01 HM HO
      go_upto_region 6 with (first | (refine HLD.out rfl (.tmp 16) rfl b (off + k * 17) rfl HRG.out ?_) | (refine wpList_store_ent EC rfl (.tmp 7) (.tmp 17) rfl rfl rfl H17.out HON.out ?_))
      generalize wr.heap.size = gx at *
      generalize boxE wr EC = W1 at *
      clear HLD HRG H17 HON
      go_wp2_with (refine wpList_load_row rfl 51 (.tmp 7) rfl gx rfl 51 _ (0, 0) _ HX1.out Tryz.underlying51 rfl HIE.out ?_)
      refine HLI.out.mono ?_; rintro e w2 ⟨rfl, hb2⟩
      unfold MeT.val
      have HB2 := Lib.hid (HB1.out.trans (hb2.mono HB1.out.size))
      have HM2 := Lib.hid (ownsMapP HM1.out hb2)
      have HO2 := Lib.hid (own_keepP HO1.out hb2)
      clear hb2 HLI HX1 HIE HM1 HO1 HB1
      obtain ⟨w3, hw3⟩ : ∃ w3, w3 = w2.alloc (.cells #[.int .i64 (metV E).k, .int .u32 (metV E).m, .int .u32 (metV E).u, .int .u32 (metV E).g, .int .i64 (metV E).t, .int .i64 (metV E).a, .string ⟨#[]⟩] 45) := ⟨_, rfl⟩
      have hb3 : Below w2.heap.size w2 w3 := by rw [hw3]; exact below_alP w2 _
      have HB3 := Lib.hid (HB2.out.trans (hb3.mono HB2.out.size))
      have HM3 := Lib.hid (ownsMapP HM2.out hb3)
      have HO3 := Lib.hid (own_keepP HO2.out hb3)
      have HPL : Hid (pthL (l.take (k + 1)) = pthL (l.take k) ++ [(metV E).p]) := by show _ = _; rw [HTK.out, pthL_snoc]
      have HZZ : Hid ((metV E).z = 0 → ∀ F ∈ l.take (k + 1), (metV F).z = 0) := fun hz F hF => by
        rw [HTK.out, List.mem_append] at hF
        rcases hF with hF | hF
        · exact HZ.out F hF
        · obtain rfl : F = _ := by simpa using hF
          exact hz
      have HW3 := Lib.hid hw3
      clear hw3 hb3 HB2 HM2 HO2 HZ HTK HMEM
      generalize metV E = M at *
      obtain ⟨mp, mk, mm, mu, mg, mt, ma, mz⟩ := M
      dsimp only at HW3 HPL HZZ HPS ⊢
      have HLN : Hid ((pthL (l.take k)).length = k) := by show _ = _; rw [pthL_len, List.length_take]; omega
      generalize pthL (l.take k) = PL at *
      by_cases hz : mz = 0
      case neg =>
        have bz : (mz != 0) = true := bne_iff_ne.2 hz
        clear HM3 HO3 HPL HZZ
        go_wp2_with fail
        rw [← HW3.out]
        go_ret2
        exact .inl ⟨mz, hz, rfl, HB3.out⟩
      subst hz
      have HZ4 := Lib.hid (HZZ.out rfl)
      clear HZZ
      have HQK := Lib.hid (keyOf_string_mk (P := Tryz.prog) Tryz.underlying9 (s := mp) (by have : mp.size ≤ 65535 := HPS.out; unfold maxLen; omega))
      have HO4 := Lib.hid (HO3.out.alloc (.cells #[.string mp] 9))
      have HM4 := Lib.hid (ownsMapP HM3.out (below_alP w3 (.cells #[.string mp] 9)))
      have HB4 := Lib.hid (HB3.out.trans ((below_alP w3 (.cells #[.string mp] 9)).mono HB3.out.size))
      have HNW := Lib.hid (text_news w3 mp)
      have HGK : Hid (w.heap.size + 1 ≤ (w3.alloc (.cells #[.string mp] 9)).heap.size) := HM4.out.lt
      clear HO3 HM3 HB3
      go_upto_region 9 with fail
      rw [← HW3.out]
      clear HW3
      go_wp2_with (at_builtin; refine wpList_append_own _ rfl _ _ 24 rfl (w.heap.size + 1) 9 i0 (.string ⟨#[]⟩) 1 16 Tryz.underlying24 hi hz0 hz1 hz2 rfl (by decide) _ _ _ rfl HO4.out ⟨w3.heap.size, 0, none⟩ 1 1 [.string mp] rfl ?qc1 ?qc2 ?qc3 ?qc4 ?qc5 ?qc6 ?_)
      case qc1 => rfl
      case qc2 => exact HNW.out
      case qc3 => intro u hu; simp at hu; subst hu; rfl
      case qc4 => have := HLN.out; unfold maxLen; omega
      case qc5 => have := HLN.out; omega
      case qc6 => exact HGK.out
      intro v5 w5 hown5 hgrow5 _
      have HO5 : Hid (w5.ownsRow (w.heap.size + 1) 9 1 v5 (PL ++ [mp]).length ((PL ++ [mp]).map .string)) := by
        show World.ownsRow _ _ _ _ _ _ _
        rw [List.length_append, List.map_append]
        exact hown5
      have HM5 := Lib.hid (HM4.out.kept hgrow5 (fun h => by have := (HO4.out.lt w.heap.size h.symm).1; omega))
      have HB5 : Hid (Below w.heap.size w w5) := HB4.out.grown hgrow5 HB4.out.size (fun z hz => by have := (HO4.out.lt z hz).1; omega)
      clear hown5 hgrow5 HO4 HM4 HB4 HNW HGK
      go_wp2_with (at_mapUpdate; refine wpList_mapUpdate_own _ rfl _ _ _ 101 rfl 9 102 keyS Tryz.underlying101 _ w.heap.size n _ rfl HM5.out (by have := HN.out; unfold maxLen; omega) _ _ _ rfl rfl HQK.out (.agg []) [] unitElem_mk ?_; intro w6 hown6 hgrow6)
      have HO6 := Lib.hid (HO5.out.kept hgrow6 (.inr (fun h => by have := (HO5.out.lt w.heap.size (by rw [h])).1; omega)))
      have HB6 : Hid (Below w.heap.size w w6) := HB5.out.grown hgrow6 HB5.out.size (fun z hz => by injection hz with hz; omega)
      have HM6 := Lib.hid hown6
      rw [← HPL.out] at HO6
      have HN6 : Hid (n + 1 ≤ k + 1) := Nat.succ_le_succ HN.out
      clear hown6 hgrow6 HO5 HM5 HB5 HN HPL
      go_wp2_with fail
      go_roundw
      case rel => exact ⟨k + 1, _, n + 1, _, by omega, rfl, by go_num, HZ4, HN6, HM6, HO6, HB6⟩
      case measure => simp [intOf]; omega
    · obtain rfl : k = l.length := by omega
      have hd : decide ((l.length : Int) < (l.length : Int)) = false := decide_eq_false (by omega)
      have HZL : Hid (∀ E ∈ l, (metV E).z = 0) := fun E hE => HZ.out E (by rw [List.take_length]; exact hE)
      have HOE := HO.out
      rw [List.take_length] at HOE
      have hpl := pthL_len l
      obtain ⟨A5, c5, rfl, htx⟩ := txs_own HOE
      rw [hpl]
      have HTX := Lib.hid htx
      have HSZ : Hid (Maps.size D ≤ l.length) := Nat.le_trans HM.out.size_le HN.out
      generalize hS : Maps.size D = S at *
      clear HZ HO HOE htx hpl HME
      by_cases hlt : S < l.length
      · have hd2 : decide ((S : Int) < (l.length : Int)) = true := decide_eq_true (by omega)
        go_wp2_with (refine wpList_len_own _ rfl (.tmp 35) 101 rfl 9 102 Tryz.underlying101 unitElem w.heap.size n D rfl HM.out ?_; rw [hS])
        go_ret2
        exact .inl ⟨60, by decide, rfl, HB.out⟩
      · have hd2 : decide ((S : Int) < (l.length : Int)) = false := decide_eq_false (by omega)
        go_wp2_with (refine wpList_len_own _ rfl (.tmp 35) 101 rfl 9 102 Tryz.underlying101 unitElem w.heap.size n D rfl HM.out ?_; rw [hS])
        go_ret2
        exact .inr ⟨A5, c5, HZL.out, rfl, HTX.out, HB.out⟩
end Go.Proofs.YtijfcmlgohbndaaGreatDoor

namespace Go.Proofs.YtijfcmlgohbndaaGreatDoor
set_option maxRecDepth 100000
set_option linter.unusedSimpArgs false
set_option linter.unusedVariables false
open Go.RowKit Go.Joins Go.Deep Go.WideMaps
open Go.Lib hiding intOf
abbrev keyP (s : ByteArray) : Lit := .string s.data.toList
theorem toListP_inj {a b : ByteArray} (h : a.toList = b.toList) : a = b := by
  rw [Lib.toList_data, Lib.toList_data] at h
  exact ByteArray.ext (Array.toList_inj.1 h)
theorem keyP_inj {a b : ByteArray} (h : keyP a = keyP b) : a = b := by
  injection h with h
  exact ByteArray.ext (Array.toList_inj.1 h)
/-- The place of the first item of a path. -/
def plcO (t : List Itm) (p : ByteArray) : Option Nat := t.findIdx? fun x => x.s.toList == p.toList
def plcI (t : List Itm) (p : ByteArray) : Int := match plcO t p with | some i => (i : Nat) | none => -1
theorem plcO_snoc (t : List Itm) (X : Itm) (p : ByteArray) : plcO (t ++ [X]) p = match plcO t p with | some i => some i | none => if (X.s.toList == p.toList) = true then some t.length else none := by
  unfold plcO
  rw [List.findIdx?_append]
  cases h : t.findIdx? fun x => x.s.toList == p.toList with
  | some i => rfl
  | none =>
    by_cases hx : (X.s.toList == p.toList) = true
    · simp [List.findIdx?_cons, hx]
    · simp [List.findIdx?_cons, hx]
theorem plcO_lt {t : List Itm} {p : ByteArray} {i : Nat} (h : plcO t p = some i) : i < t.length := (List.findIdx?_eq_some_iff_findIdx_eq.1 h).1
theorem plcI_rng (t : List Itm) (p : ByteArray) : -1 ≤ plcI t p ∧ plcI t p < t.length := by
  unfold plcI
  cases h : plcO t p with
  | none => show -1 ≤ (-1 : Int) ∧ (-1 : Int) < t.length; omega
  | some i => have := plcO_lt h; show -1 ≤ (i : Int) ∧ (i : Int) < t.length; omega
/-- What a map of places tells. -/
def PlD (D : DataW Unit) (t : List Itm) : Prop := Maps.IsMap D ∧ (∀ p, Maps.has D (keyP p) = (plcO t p).isSome) ∧ (∀ p i, plcO t p = some i → ∀ z, D.atKey (keyP p) z = .lit (.int .i64 (i : Nat)))
theorem plD_nil : PlD (.map []) [] := ⟨⟨[], rfl⟩, fun p => rfl, fun p i h => by cases h⟩
theorem plD_keep {D : DataW Unit} {t : List Itm} {X : Itm} (h : PlD D t) (hh : (plcO t X.s).isSome = true) : PlD D (t ++ [X]) := by
  obtain ⟨i, hi⟩ := Option.isSome_iff_exists.1 hh
  have hq : ∀ p, plcO (t ++ [X]) p = plcO t p := fun p => by
    rw [plcO_snoc]
    cases hp : plcO t p with
    | some j => rfl
    | none =>
      simp only
      by_cases hx : (X.s.toList == p.toList) = true
      · have : X.s = p := toListP_inj (eq_of_beq hx)
        subst this
        rw [hi] at hp; cases hp
      · rw [if_neg hx]
  exact ⟨h.1, fun p => by rw [hq, h.2.1], fun p j hj => by rw [hq] at hj; exact h.2.2 p j hj⟩
theorem plD_put {D : DataW Unit} {t : List Itm} {X : Itm} (h : PlD D t) (hh : (plcO t X.s).isSome = false) : PlD (D.put (keyP X.s) (.lit (.int .i64 (t.length : Nat)))) (t ++ [X]) := by
  have hn : plcO t X.s = none := by
    cases hp : plcO t X.s with
    | none => rfl
    | some i => rw [hp] at hh; cases hh
  refine ⟨h.1.put _ _, fun p => ?_, fun p i hi z => ?_⟩
  · rw [plcO_snoc]
    by_cases e : p = X.s
    · subst e
      rw [Maps.has_put_same h.1 (show WideAt.IsKeyLit (keyP X.s) from trivial), hn]
      simp
    · have hk : keyP p ≠ keyP X.s := fun k => e (keyP_inj k)
      have hx : ¬ (X.s.toList == p.toList) = true := fun k => e (toListP_inj (eq_of_beq k)).symm
      rw [Maps.has_put_other hk, h.2.1, if_neg hx]
      cases plcO t p <;> rfl
  · rw [plcO_snoc] at hi
    by_cases e : p = X.s
    · subst e
      rw [hn] at hi
      simp at hi
      subst hi
      exact Maps.atKey_put_same h.1 (show WideAt.IsKeyLit (keyP X.s) from trivial) _ _
    · have hk : keyP p ≠ keyP X.s := fun k => e (keyP_inj k)
      have hx : ¬ (X.s.toList == p.toList) = true := fun k => e (toListP_inj (eq_of_beq k)).symm
      rw [Maps.atKey_put_other hk]
      rw [if_neg hx] at hi
      cases hp : plcO t p with
      | none => rw [hp] at hi; cases hi
      | some j => rw [hp] at hi; injection hi with hi; subst hi; exact h.2.2 p j hp z
theorem wf_i64 {x : Int} (h1 : -9223372036854775808 ≤ x) (h2 : x ≤ 9223372036854775807) : (Lit.int .i64 x).wf = true := by
  have e1 : IntKind.i64.min = -9223372036854775808 := by decide
  have e2 : IntKind.i64.max = 9223372036854775807 := by decide
  simp only [Lit.wf, e1, e2]
  simp [h1, h2]
/-- Numbers where they lie. -/
def IntW (w : World) (A : Option Addr) (l : List Int) : Prop := 0 < l.length → ∃ b off, A = some ⟨b, off, none⟩ ∧ b < w.heap.size ∧ ∀ (i : Nat) x, l[i]? = some x → w.cell? ⟨b, off + i, none⟩ = some (.int .i64 x)
theorem IntW.below {w w' : World} {A : Option Addr} {l : List Int} (h : IntW w A l) (hb : Below w.heap.size w w') : IntW w' A l := fun h0 => by
  obtain ⟨b, off, e, hlt, hc⟩ := h h0
  exact ⟨b, off, e, Nat.lt_of_lt_of_le hlt hb.size, fun i x hx => (hb.cell (p := ⟨b, off + i, none⟩) hlt).trans (hc i x hx)⟩
theorem ints_own {w : World} {B : Nat} {l : List Int} {v : Value} (h : w.ownsRow B 3 1 v l.length (l.map (Value.int .i64))) : ∃ A c, v = .slice A l.length c ∧ IntW w A l := by
  rcases h.2 with ⟨he, h0⟩ | ⟨g, cap, cur, he, hbg, _⟩
  · exact ⟨none, 0, by rw [he, h0], fun hp => by omega⟩
  · refine ⟨some ⟨g, 0, none⟩, cap, he, fun hp => ⟨g, 0, rfl, ?_, fun i x hx => ?_⟩⟩
    · rw [he] at h; exact (h.lt g rfl).2
    · rw [he] at h
      have hi : i < l.length := (List.getElem?_eq_some_iff.1 hx).1
      have hc := h.cellAt i (by omega)
      rw [Nat.zero_add, hc, List.getElem?_map, hx]
      rfl
noncomputable def matL (l : List Ent) (t : List Itm) : List Int := (pthL l).map (plcI t)
/-- What Match answers. -/
def MatR (w : World) (l : List Ent) (t : List Itm) (e : Ending) (w' : World) : Prop :=
  (∃ z, z ≠ 0 ∧ e = .returned (.tuple #[.slice none 0 0, .int .i64 z]) ∧ Below w.heap.size w w') ∨
  (∃ A c, (∀ E ∈ l, (metV E).z = 0) ∧ e = .returned (.tuple #[.slice A l.length c, .int .i64 0]) ∧ IntW w' A (matL l t) ∧ Below w.heap.size w w')
theorem int_news (w : World) (x : Int) : ∀ j u, [Value.int .i64 x][j]? = some u → (w.alloc (.cells #[.int .i64 x] 3)).cell? ((⟨w.heap.size, 0, none⟩ : Addr).add j) = some u := fun j u hj => by
  rw [Addr.add_lit, Nat.zero_add, cell_of_row _ _ j _ _ _ (heap_alloc_new w _)]
  simpa using hj
theorem item_boxP {w : World} {g : Nat} {X : Itm} (h : w.heap[g]? = some (.cells X.cells 47 (0, 0))) : w.cell? ⟨g, 0, none⟩ = some (.string X.s) ∧ w.cell? ⟨g, 1, none⟩ = some (.int .i64 X.k) ∧ w.cell? ⟨g, 2, none⟩ = some (.int .u32 X.m) ∧ w.cell? ⟨g, 3, none⟩ = some (.int .u32 X.u) ∧ w.cell? ⟨g, 4, none⟩ = some (.int .u32 X.g) ∧ w.cell? ⟨g, 5, none⟩ = some (.int .i64 X.t) ∧ w.cell? ⟨g, 6, none⟩ = some (.int .i64 X.a) ∧ w.cell? ⟨g, 7, none⟩ = some (.string X.d) :=
  ⟨(cell_of_row _ _ 0 _ _ _ h).trans rfl, (cell_of_row _ _ 1 _ _ _ h).trans rfl, (cell_of_row _ _ 2 _ _ _ h).trans rfl, (cell_of_row _ _ 3 _ _ _ h).trans rfl, (cell_of_row _ _ 4 _ _ _ h).trans rfl, (cell_of_row _ _ 5 _ _ _ h).trans rfl, (cell_of_row _ _ 6 _ _ _ h).trans rfl, (cell_of_row _ _ 7 _ _ _ h).trans rfl⟩
set_option maxHeartbeats 16000000 in
theorem match_anyP (A AT : Option Addr) (c cT : Nat) (l : List Ent) (t : List Itm) (w : World) (hR : Ents w A l) (hT : Itms w AT t) (hl : l.length ≤ 1000) (ht : t.length ≤ 1000) (hs : ∀ x ∈ t, x.s.size ≤ 100000) (hL : LightL l) (hU : Upper w) (hE : Env w) :
    Calls Tryz.prog 31 #[.slice A l.length c, .slice AT t.length cT] w (MatR w l t) := by
  have hmm := @run_makeMap Tryz.prog
  have hir := info_item
  obtain ⟨i0, hi, hz0, hz1, hz2⟩ : ∃ i0, Tryz.prog.info? 3 = some i0 ∧ i0.zero = some (.int .i64 0) ∧ i0.size = 1 ∧ i0.bytes = 8 := by
    have h : (Tryz.prog.info? 3).map (fun i => (i.zero, i.size, i.bytes)) = some (some (.int .i64 0), 1, 8) := by kernel_rfl
    cases hq : Tryz.prog.info? 3 with
    | none => rw [hq] at h; cases h
    | some i =>
      rw [hq] at h
      simp only [Option.map_some, Option.some.injEq, Prod.mk.injEq] at h
      exact ⟨i, rfl, h.1, h.2.1, h.2.2⟩
  have HT := Lib.hid (fun w1 (hb : Below w.heap.size w w1) => hT.below hb)
  have HS := Lib.hid hs
  have HP := Lib.hid (paths_any A c l w hR hl hL hU hE)
  clear hR hL hU hE hT hs
  go_enter Tryz.func31, Tryz.ntmps31
  go_wp2_with fail
  refine HP.out.mono ?_; rintro e w1 hout
  clear HP
  rcases hout with ⟨z, hz, rfl, hb1⟩ | ⟨A1, c1, hzz, rfl, htx, hb1⟩
  · have bz : (z != 0) = true := bne_iff_ne.2 hz
    go_wp2_with fail
    go_ret2
    exact .inl ⟨z, hz, rfl, hb1⟩
  have HZZ := Lib.hid hzz
  have HTX := Lib.hid (fun w2 (hb : Below w1.heap.size w1 w2) => htx.below hb)
  have HT1 := Lib.hid (fun w2 (hb : Below w1.heap.size w1 w2) => HT.out w2 (below_then hb1 hb))
  have HB1 := Lib.hid (fun w2 (hb : Below w1.heap.size w1 w2) => below_then hb1 hb)
  have HM0 := Lib.hid (World.ownsMap_made (H := Unit) w1 Tryz.prog 9 (plainElem Tryz.prog 3))
  have HB0 := Lib.hid (below_alP w1 (.map #[] 0))
  clear hzz htx hb1 HT
  go_upto_region 5 with fail
  generalize w1.alloc (.map #[] 0) = w0 at *
  go_wp2_with fail
  go_loopw [29] (fun v29 wr => ∃ (k : Nat) (n : Nat) (D : DataW Unit), k ≤ t.length ∧ v29 = .int .i64 (k : Nat) ∧ Hid (n ≤ k) ∧ Hid (PlD D (t.take k)) ∧ Hid (wr.ownsMap Tryz.prog 9 (plainElem Tryz.prog 3) w1.heap.size n D) ∧ Hid (Below w1.heap.size w1 wr)) (fun v _ => t.length - (intOf v).toNat)
  case atStart => exact ⟨0, 0, _, Nat.zero_le _, rfl, Nat.le_refl _, plD_nil, HM0.out, HB0.out⟩
  case round =>
    clear HM0 HB0
    obtain ⟨k, n, D, hk, rfl, HN, HD, HM, HB⟩ := hrel
    by_cases hkn : k < t.length
    · have hd : decide ((k : Int) < (t.length : Int)) = true := decide_eq_true (by omega)
      obtain ⟨b, off, rfl, hb, hcc⟩ := (HT1.out wr HB.out) (by omega)
      obtain ⟨c0, c1, c2, c3, c4, c5, c6, c7⟩ := hcc k t[k] (List.getElem?_eq_getElem hkn)
      have HTS : Hid (t.take (k + 1) = t.take k ++ [t[k]]) := List.take_succ_eq_append_getElem hkn
      have HSX := Lib.hid (HS.out _ (List.getElem_mem hkn))
      have HTL : Hid ((t.take k).length = k) := by show _ = _; rw [List.length_take]; omega
      obtain ⟨W2, hW2⟩ : ∃ W2, W2 = wr.alloc (.cells t[k].cells 47) := ⟨_, rfl⟩
      have hb2 : Below wr.heap.size wr W2 := by rw [hW2]; exact below_alP wr _
      have HX2 : Hid (W2.heap[wr.heap.size]? = some (.cells t[k].cells 47 (0, 0))) := by show _ = _; rw [hW2]; exact heap_alloc_new wr _
      have HM2 := Lib.hid (ownsMapP HM.out hb2)
      have HB2 := Lib.hid (HB.out.trans (hb2.mono HB.out.size))
      generalize t[k] = X at *
      simp only [Itm.cells] at hW2
      have HW2 := Lib.hid hW2
      clear hcc hb2 hW2 HM HB
      generalize hgx : wr.heap.size = gx at *
      go_upto_region 8 with fail
      rw [← HW2.out]
      clear HW2 c0 c1 c2 c3 c4 c5 c6 c7
      obtain ⟨x0, _⟩ := item_boxP HX2.out
      have HK := Lib.hid (keyOf_string_mk (P := Tryz.prog) Tryz.underlying9 (s := X.s) (by have := HSX.out; unfold maxLen; omega))
      have hzi : (zeroValue 3).run Tryz.prog W2 = .ok (.int .i64 0) W2 := by kernel_rfl
      have HH := Lib.hid (HD.out.2.1 X.s)
      generalize hF : (plcO (t.take k) X.s).isSome = F at *
      have HF := Lib.hid hF
      clear hF
      go_upto_region 9 with (at_lookup; refine wpList_lookup_own_ok_int _ rfl _ _ 125 rfl 9 3 .i64 keyS Tryz.underlying125 Tryz.underlying3 hzi w1.heap.size n _ rfl HM2.out _ _ rfl HK.out ?_; intro cz _ _; rw [HH.out])
      cases F with
      | true =>
        have HD2 : Hid (PlD D (t.take (k + 1))) := by show PlD _ _; rw [HTS.out]; exact plD_keep HD.out HF.out
        have HN2 : Hid (n ≤ k + 1) := Nat.le_succ_of_le HN.out
        clear HH HD HF HN
        go_wp2_with fail
        go_roundw
        case rel => exact ⟨k + 1, n, D, by omega, by go_num, HN2, HD2, HM2, HB2⟩
        case measure => simp [intOf]; omega
      | false =>
        have HD2 : Hid (PlD (D.put (keyP X.s) (.lit (.int .i64 (k : Nat)))) (t.take (k + 1))) := by
          show PlD _ _
          have h := plD_put HD.out HF.out
          rw [HTL.out] at h
          rw [HTS.out]
          exact h
        have HPE := Lib.hid (plainElem_int (H := Unit) (P := Tryz.prog) (a := ((k : Nat) : Int)) Tryz.underlying3 (wf_i64 (by omega) (by omega)))
        have HN2 : Hid (n + 1 ≤ k + 1) := Nat.succ_le_succ HN.out
        clear HH HD HF
        go_wp2_with (at_mapUpdate; refine wpList_mapUpdate_own _ rfl _ _ _ 125 rfl 9 3 keyS Tryz.underlying125 _ w1.heap.size n _ rfl HM2.out (by have := HN.out; unfold maxLen; omega) _ _ _ rfl rfl HK.out (.lit (.int .i64 (k : Nat))) [] HPE.out ?_; intro w6 hown6 hgrow6)
        have HM6 := Lib.hid hown6
        have HB6 : Hid (Below w1.heap.size w1 w6) := HB2.out.grown hgrow6 HB2.out.size (fun z hz => by injection hz with hz; omega)
        clear hown6 hgrow6 HM2 HB2 HN HPE
        go_wp2_with fail
        go_roundw
        case rel => exact ⟨k + 1, n + 1, _, by omega, by go_num, HN2, HD2, HM6, HB6⟩
        case measure => simp [intOf]; omega
    · obtain rfl : k = t.length := by omega
      have hd : decide ((t.length : Int) < (t.length : Int)) = false := decide_eq_false (by omega)
      have HDL : Hid (PlD D t) := by have h := HD.out; rw [List.take_length] at h; exact h
      clear HD
      have hpl := pthL_len l
      have HPZ := Lib.hid (pthL_sz l)
      have HML : Hid (matL l t = (pthL l).map (plcI t)) := rfl
      generalize pthL l = PL at *
      rw [← hpl] at hl ⊢
      have HPL := Lib.hid hpl
      clear hpl
      go_wp2_with fail
      go_loopw [13, 50] (fun v13 v50 wi => ∃ (q : Nat) (V : Value), q ≤ PL.length ∧ V = v13 ∧ v50 = .int .i64 (q : Nat) ∧ Hid (wi.ownsMap Tryz.prog 9 (plainElem Tryz.prog 3) w1.heap.size n D) ∧ Hid (wi.ownsRow (w1.heap.size + 1) 3 1 V ((PL.take q).map (plcI t)).length (((PL.take q).map (plcI t)).map (Value.int .i64))) ∧ Hid (Below w1.heap.size w1 wi)) (fun _ v _ => PL.length - (intOf v).toNat)
      case atStart => exact ⟨0, _, Nat.zero_le _, rfl, rfl, HM, World.ownsRow_nil _ _ _ _, HB⟩
      case round =>
        clear HM HB
        obtain ⟨q, V, hq, rfl, rfl, HM, HO, HB⟩ := hrel
        by_cases hqn : q < PL.length
        · have hd3 : decide ((q : Int) < (PL.length : Int)) = true := decide_eq_true (by omega)
          obtain ⟨b, off, rfl, hb, hcc⟩ := (HTX.out wr HB.out) (by omega)
          have x0 := hcc q PL[q] (List.getElem?_eq_getElem hqn)
          have HTS : Hid (PL.take (q + 1) = PL.take q ++ [PL[q]]) := List.take_succ_eq_append_getElem hqn
          have HSX := Lib.hid (HPZ.out _ (List.getElem_mem hqn))
          have HTL : Hid ((PL.take q).length = q) := by show _ = _; rw [List.length_take]; omega
          generalize PL[q] = p at *
          have HK := Lib.hid (keyOf_string_mk (P := Tryz.prog) Tryz.underlying9 (s := p) (by have := HSX.out; unfold maxLen; omega))
          have hzi : (zeroValue 3).run Tryz.prog wr = .ok (.int .i64 0) wr := by kernel_rfl
          have HH := Lib.hid (HDL.out.2.1 p)
          have HVV : Hid (∀ cz : Int, D.atKey (keyP p) (.lit (.int .i64 0)) = .lit (.int .i64 cz) → ∀ i, plcO t p = some i → cz = (i : Nat)) := fun cz h i hi => by
            rw [HDL.out.2.2 p i hi] at h
            injection h with h
            injection h with _ h
            exact h.symm
          have HI : Hid (∀ i, plcO t p = some i → plcI t p = (i : Nat)) := fun i h => by unfold plcI; rw [h]
          have HIN : Hid (plcO t p = none → plcI t p = -1) := fun h => by unfold plcI; rw [h]
          have HWF : Hid ((Lit.int .i64 (plcI t p)).wf = true) := by
            have h := plcI_rng t p
            exact wf_i64 (by omega) (by omega)
          have HAP : Hid ((PL.take (q + 1)).map (plcI t) = (PL.take q).map (plcI t) ++ [plcI t p]) := by show _ = _; rw [HTS.out, List.map_append]; rfl
          have HLQ : Hid (((PL.take q).map (plcI t)).length = q) := by show _ = _; rw [List.length_map]; exact HTL.out
          have HO4 := Lib.hid (HO.out.alloc (.cells #[.int .i64 (plcI t p)] 3))
          have HM4 := Lib.hid (ownsMapP HM.out (below_alP wr (.cells #[.int .i64 (plcI t p)] 3)))
          have HB4 := Lib.hid (HB.out.trans ((below_alP wr (.cells #[.int .i64 (plcI t p)] 3)).mono HB.out.size))
          have HNW := Lib.hid (int_news wr (plcI t p))
          have HGK : Hid (w1.heap.size + 1 ≤ (wr.alloc (.cells #[.int .i64 (plcI t p)] 3)).heap.size) := HM4.out.lt
          generalize (PL.take q).map (plcI t) = IL at *
          clear hcc HO HB HTS HTL HSX
          cases hpo : plcO t p with
          | some i =>
            have hpi := HI.out i hpo
            have HVC : Hid (∀ cz : Int, D.atKey (keyP p) (.lit (.int .i64 0)) = .lit (.int .i64 cz) → plcI t p = cz) := fun cz h => by rw [hpi]; exact (HVV.out cz h i hpo).symm
            rw [hpo] at HH
            have HHT : Hid (Maps.has D (keyP p) = true) := HH.out
            generalize plcI t p = pp at *
            clear HH HVV HI HIN hpi hpo
            go_upto_region 17 with (at_lookup; refine wpList_lookup_own_ok_int _ rfl _ _ 125 rfl 9 3 .i64 keyS Tryz.underlying125 Tryz.underlying3 hzi w1.heap.size n _ rfl HM.out _ _ rfl HK.out ?_; intro cz hcz _; obtain rfl := HVC.out cz hcz; rw [HHT.out])
            clear HM HVC HHT
            go_wp2_with (at_builtin; refine wpList_append_own _ rfl _ _ 80 rfl (w1.heap.size + 1) 3 i0 (.int .i64 0) 1 8 Tryz.underlying80 hi hz0 hz1 hz2 rfl (by decide) _ _ _ rfl HO4.out ⟨wr.heap.size, 0, none⟩ 1 1 [.int .i64 (pp)] rfl ?qc1 ?qc2 ?qc3 ?qc4 ?qc5 ?qc6 ?_)
            case qc1 => rfl
            case qc2 => exact HNW.out
            case qc3 => intro u hu; simp at hu; subst hu; rfl
            case qc4 => have := HLQ.out; unfold maxLen; omega
            case qc5 => have := HLQ.out; omega
            case qc6 => exact HGK.out
            intro v5 w5 hown5 hgrow5 _
            have HO5 : Hid (w5.ownsRow (w1.heap.size + 1) 3 1 v5 ((PL.take (q + 1)).map (plcI t)).length (((PL.take (q + 1)).map (plcI t)).map (Value.int .i64))) := by
              show World.ownsRow _ _ _ _ _ _ _
              rw [HAP.out, List.length_append, List.map_append]
              exact hown5
            have HM5 := Lib.hid (HM4.out.kept hgrow5 (fun h => by have := (HO4.out.lt w1.heap.size h.symm).1; omega))
            have HB5 : Hid (Below w1.heap.size w1 w5) := HB4.out.grown hgrow5 HB4.out.size (fun z hz => by have := (HO4.out.lt z hz).1; omega)
            clear hown5 hgrow5 HO4 HM4 HB4 HNW HGK HAP
            go_wp2_with fail
            go_roundw
            case rel => exact ⟨q + 1, _, by omega, rfl, by go_num, HM5, HO5, HB5⟩
            case measure => simp [intOf]; omega
          | none =>
            have hpi := HIN.out hpo
            rw [hpo] at HH
            have HHF : Hid (Maps.has D (keyP p) = false) := HH.out
            rw [hpi] at HO4 HM4 HB4 HNW HGK HAP
            clear HH HVV HI HIN hpi hpo HWF
            go_upto_region 17 with (at_lookup; refine wpList_lookup_own_ok_int _ rfl _ _ 125 rfl 9 3 .i64 keyS Tryz.underlying125 Tryz.underlying3 hzi w1.heap.size n _ rfl HM.out _ _ rfl HK.out ?_; intro cz hcz _; rw [HHF.out])
            clear HM HHF
            go_wp2_with (at_builtin; refine wpList_append_own _ rfl _ _ 80 rfl (w1.heap.size + 1) 3 i0 (.int .i64 0) 1 8 Tryz.underlying80 hi hz0 hz1 hz2 rfl (by decide) _ _ _ rfl HO4.out ⟨wr.heap.size, 0, none⟩ 1 1 [.int .i64 (-1)] rfl ?qc1 ?qc2 ?qc3 ?qc4 ?qc5 ?qc6 ?_)
            case qc1 => rfl
            case qc2 => exact HNW.out
            case qc3 => intro u hu; simp at hu; subst hu; rfl
            case qc4 => have := HLQ.out; unfold maxLen; omega
            case qc5 => have := HLQ.out; omega
            case qc6 => exact HGK.out
            intro v5 w5 hown5 hgrow5 _
            have HO5 : Hid (w5.ownsRow (w1.heap.size + 1) 3 1 v5 ((PL.take (q + 1)).map (plcI t)).length (((PL.take (q + 1)).map (plcI t)).map (Value.int .i64))) := by
              show World.ownsRow _ _ _ _ _ _ _
              rw [HAP.out, List.length_append, List.map_append]
              exact hown5
            have HM5 := Lib.hid (HM4.out.kept hgrow5 (fun h => by have := (HO4.out.lt w1.heap.size h.symm).1; omega))
            have HB5 : Hid (Below w1.heap.size w1 w5) := HB4.out.grown hgrow5 HB4.out.size (fun z hz => by have := (HO4.out.lt z hz).1; omega)
            clear hown5 hgrow5 HO4 HM4 HB4 HNW HGK HAP
            go_wp2_with fail
            go_roundw
            case rel => exact ⟨q + 1, _, by omega, rfl, by go_num, HM5, HO5, HB5⟩
            case measure => simp [intOf]; omega
        · obtain rfl : q = PL.length := by omega
          have hd3 : decide ((PL.length : Int) < (PL.length : Int)) = false := decide_eq_false (by omega)
          have HOE := HO.out
          rw [List.take_length] at HOE
          obtain ⟨A5, c5, rfl, htx⟩ := ints_own HOE
          have hml : ((PL.map (plcI t)).length) = PL.length := List.length_map ..
          rw [← HML.out] at htx
          rw [hml]
          have HTI := Lib.hid htx
          clear HO HOE htx hml
          go_wp2_with fail
          go_ret2
          refine .inr ⟨A5, c5, HZZ.out, ?_, HTI.out, HB1.out _ HB.out⟩
          rw [HPL.out]; rfl
end Go.Proofs.YtijfcmlgohbndaaGreatDoor
