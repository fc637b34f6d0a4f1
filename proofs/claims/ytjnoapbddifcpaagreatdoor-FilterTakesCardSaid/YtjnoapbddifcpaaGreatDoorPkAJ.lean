/-
  Glob: Any.
  Filter: a pattern compiled, with the type of its atoms' block.
-/
import Derived.Test.YtjnoapbddifcpaaGreatDoorPkAH

namespace Go.Proofs.YtjnoapbddifcpaaGreatDoor
set_option maxRecDepth 100000
set_option linter.unusedSimpArgs false
open Go.RowKit Go.Joins Go.Deep

/-- Patterns, each with its answer for a text, in worlds that keep something. -/
def PatsM (I : World → Prop) (s : ByteArray) (ps : List (Value × Bool)) : Prop :=
  ∀ q ∈ ps, q.1.oneCell' = true ∧ ∀ w1, I w1 → Calls Tryz.prog 87 #[.agg #[q.1], .string s] w1 fun e w' => e = .returned (.bool q.2) ∧ Below w1.heap.size w1 w'
set_option maxHeartbeats 4000000 in
theorem clo_any (I : World → Prop) (hI : ∀ w1 w2, I w1 → Below w1.heap.size w1 w2 → I w2) (s : ByteArray) (V : Value) (b : Bool) (g : Nat) (w : World) (_ : V.oneCell' = true) (hM : ∀ w1, I w1 → Calls Tryz.prog 87 #[.agg #[V], .string s] w1 fun e w' => e = .returned (.bool b) ∧ Below w1.heap.size w1 w') (hw : I w) (hg : g < w.heap.size) (hc : w.cell? ⟨g, 0, none⟩ = some (.string s)) :
    Calls Tryz.prog 86 #[.agg #[V], .pointer (some ⟨g, 0, none⟩)] w fun e w' => e = .returned (.bool b) ∧ Below w.heap.size w w' := by
  have hip := info_pat
  have hb1 := below_alG w (.cells #[V] 98)
  have HM := Lib.hid (hM _ (hI _ _ hw hb1))
  have c1 := (hb1.cell (p := ⟨g, 0, none⟩) hg).trans hc
  have HX := Lib.hid (heap_alloc_new w (.cells #[V] 98))
  have HB := Lib.hid hb1
  have hgn : g ≠ w.heap.size := by omega
  clear hI hM hw hc hb1
  go_enter Tryz.func86, Tryz.ntmps86
  go_upto_region 1 with fail
  generalize hgp : w.heap.size = gp at *
  generalize w.alloc (.cells #[V] 98) = w1 at *
  have d0 := (cell_of_row _ _ 0 _ _ _ HX.out).trans (show _ = some V from rfl)
  go_wp2_with fail
  refine HM.out.mono ?_; rintro e w2 ⟨rfl, hb2⟩
  have HB2 := Lib.hid (HB.out.trans (hb2.mono (by rw [← hgp]; exact HB.out.size)))
  clear hb2
  go_wp2_with fail
  go_ret
  exact ⟨rfl, by rw [hgp]; exact HB2.out⟩
set_option maxHeartbeats 4000000 in
theorem indexPG_any (I : World → Prop) (hI : ∀ w1 w2, I w1 → Below w1.heap.size w1 w2 → I w2) (s : ByteArray) (ps : List (Value × Bool)) (A : Option Addr) (c g : Nat) (w : World) (hP : PatsM I s ps) (hl : ps.length ≤ 1000) (hA : 0 < ps.length → ∃ b off, A = some ⟨b, off, none⟩ ∧ b < w.heap.size ∧ ∀ (i : Nat) q, ps[i]? = some q → w.cell? ⟨b, off + i, none⟩ = some q.1) (hw : I w) (hg : g < w.heap.size) (hc : w.cell? ⟨g, 0, none⟩ = some (.string s)) :
    Calls Tryz.prog 125 #[.slice A ps.length c, .func (.func 86) #[] #[.pointer (some ⟨g, 0, none⟩)]] w fun e w' => ∃ ix : Int, e = .returned (.int .i64 ix) ∧ decide (0 ≤ ix) = ps.any (fun q => q.2) ∧ Below w.heap.size w w' := by
  have hip := info_pat
  have HP := Lib.hid hP
  have HA := Lib.hid hA
  have HI := Lib.hid hI
  have HW := Lib.hid hw
  have HC := Lib.hid hc
  clear hP hA hI hw hc
  go_enter Tryz.func125, Tryz.ntmps125
  go_wp2_with fail
  go_loopw [5, 8] (fun _ i wr => ∃ k : Nat, k ≤ ps.length ∧ i = .int .i64 (k : Nat) ∧ Hid ((ps.take k).any (fun q => q.2) = false) ∧ Hid (Below w.heap.size w wr)) (fun _ i _ => ps.length - (intOf i).toNat)
  case atStart => exact ⟨0, Nat.zero_le _, rfl, by show List.any [] _ = _; rfl, Below.refl _ _⟩
  case round =>
    obtain ⟨k, hk, rfl, HF, HB⟩ := hrel
    by_cases hlt : k < ps.length
    · obtain ⟨b, off, rfl, hb, hcc⟩ := HA.out (by omega)
      have c0 := hcc k ps[k] (List.getElem?_eq_getElem hlt)
      have HQ := Lib.hid (any_takeG ps (fun q => q.2) k hlt)
      have HMm := Lib.hid (List.getElem_mem hlt)
      have hpq := HP.out ps[k] (List.getElem_mem hlt)
      have d0 := (HB.out.cell (p := ⟨b, off + k, none⟩) hb).trans c0
      clear c0 hcc
      generalize ps[k] = q at *
      obtain ⟨V, F⟩ := q
      dsimp only at hpq d0 HQ
      have hV := hpq.1
      have HCL := Lib.hid (clo_any I HI.out s V F g wr hpq.1 hpq.2 (HI.out _ _ HW.out HB.out) (Nat.lt_of_lt_of_le hg HB.out.size) ((HB.out.cell (p := ⟨g, 0, none⟩) hg).trans HC.out))
      clear hpq
      go_wp2_with fail
      refine HCL.out.mono ?_; rintro e w5 ⟨rfl, hb5⟩
      have HB5 := Lib.hid (below_then HB.out hb5)
      clear hb5
      cases F with
      | true =>
        go_wp2_with fail
        go_ret
        refine ⟨(k : Nat), rfl, ?_, HB5.out⟩
        rw [decide_eq_true (by omega)]
        exact (List.any_eq_true.2 ⟨(V, true), HMm.out, rfl⟩).symm
      | false =>
        go_wp2_with fail
        go_roundw
        case rel => exact ⟨k + 1, by omega, by go_num, by show _ = _; rw [HQ.out, HF.out]; rfl, HB5⟩
        case measure => simp [intOf]; omega
    · obtain rfl : k = ps.length := by omega
      go_wp2_with fail
      go_ret
      refine ⟨-1, rfl, ?_, HB.out⟩
      have h := HF.out
      rw [List.take_length] at h
      exact h.symm
set_option maxHeartbeats 4000000 in
/-- Is a text one of some patterns'? -/
theorem any_any (I : World → Prop) (hI : ∀ w1 w2, I w1 → Below w1.heap.size w1 w2 → I w2) (s : ByteArray) (ps : List (Value × Bool)) (A : Option Addr) (c : Nat) (w : World) (hP : PatsM I s ps) (hl : ps.length ≤ 1000) (hA : 0 < ps.length → ∃ b off, A = some ⟨b, off, none⟩ ∧ b < w.heap.size ∧ ∀ (i : Nat) q, ps[i]? = some q → w.cell? ⟨b, off + i, none⟩ = some q.1) (hw : I w) :
    Calls Tryz.prog 58 #[.slice A ps.length c, .string s] w fun e w' => e = .returned (.bool (ps.any (fun q => q.2))) ∧ Below w.heap.size w w' := by
  have hb0 := below_alG w (.cells #[.string s] 9)
  have hx0 := heap_alloc_new w (.cells #[.string s] 9)
  have HX := Lib.hid (indexPG_any I hI s ps A c w.heap.size (w.alloc (.cells #[.string s] 9)) hP hl (fun h0 => by
    obtain ⟨b, off, e, hb, hcc⟩ := hA h0
    exact ⟨b, off, e, Nat.lt_of_lt_of_le hb hb0.size, fun i q hq => (hb0.cell (p := ⟨b, off + i, none⟩) hb).trans (hcc i q hq)⟩) (hI _ _ hw hb0) (lt_of_block hx0) ((cell_of_row _ _ 0 _ _ _ hx0).trans rfl))
  have HB := Lib.hid hb0
  clear hI hP hA hw hb0 hx0
  have HCF : Hid (Calls Tryz.prog 85 #[.slice A ps.length c, .func (.func 86) #[] #[.pointer (some ⟨w.heap.size, 0, none⟩)]] (w.alloc (.cells #[.string s] 9)) fun e w' => e = .returned (.bool (ps.any (fun q => q.2))) ∧ Below (w.alloc (.cells #[.string s] 9)).heap.size (w.alloc (.cells #[.string s] 9)) w') := by
    show Calls _ _ _ _ _
    generalize w.alloc (.cells #[.string s] 9) = w1 at *
    generalize w.heap.size = g at *
    go_enter Tryz.func85, Tryz.ntmps85
    go_wp2_with fail
    refine HX.out.mono ?_; rintro e w2 ⟨ix, rfl, hx, hb⟩
    have HXX := Lib.hid hx
    have HB2 := Lib.hid hb
    clear hx hb
    go_wp2_with fail
    go_ret
    exact ⟨by rw [← HXX.out]; rfl, HB2.out⟩
  go_enter Tryz.func58, Tryz.ntmps58
  go_wp2_with fail
  refine HCF.out.mono ?_; rintro e w2 ⟨rfl, hb⟩
  have HB2 := Lib.hid (below_then HB.out hb)
  clear hb
  go_wp2_with fail
  go_ret
  exact ⟨rfl, HB2.out⟩
end Go.Proofs.YtjnoapbddifcpaaGreatDoor

namespace Go.Proofs.YtjnoapbddifcpaaGreatDoor
set_option maxRecDepth 100000
set_option linter.unusedSimpArgs false
set_option linter.unusedVariables false
open Go.RowKit Go.Joins Go.Deep
open Go.Lib hiding intOf
/-- Atoms where they lie, in a block of atoms. -/
def AtsT (w : World) (A : Option Addr) (ats : List Atm) : Prop := 0 < ats.length → ∃ (b : Nat) (cs : Array Value), A = some ⟨b, 0, none⟩ ∧ w.heap[b]? = some (Obj.cells cs 151 (0, 0)) ∧ ∀ (i : Nat) (x : Atm), ats[i]? = some x → cs[i * 4]? = some (.int .i64 x.k) ∧ cs[i * 4 + 1]? = some (.int .i32 x.r) ∧ cs[i * 4 + 2]? = some (.bool x.n) ∧ ∃ Ai ci, cs[i * 4 + 3]? = some (.slice Ai x.rs.length ci) ∧ RgB w Ai x.rs
theorem own_cur {w : World} {B n c z : Nat} {T : TypeId} {A : Option Addr} {xs : List Value} (h : w.ownsRow B T z (.slice A n c) n xs) (h0 : 0 < n) : ∃ (b : Nat) (cur : Array Value), A = some ⟨b, 0, none⟩ ∧ w.heap[b]? = some (Obj.cells cur T (0, 0)) ∧ ∀ (j : Nat) (u : Value), xs[j]? = some u → cur[j]? = some u := by
  rcases h.2 with ⟨h1, h2⟩ | ⟨g, cap, cur, h1, _, h3, _, _, _, h6⟩
  · omega
  · injection h1 with e1 _ _
    refine ⟨g, cur, e1, h3, fun j u hu => ?_⟩
    rw [← h6, List.getElem?_take] at hu
    rw [← Array.getElem?_toList]
    split at hu
    · exact hu
    · cases hu
theorem atsT_of_own {w : World} {B c : Nat} {A : Option Addr} {qs : List (Atm × Value)} (h : w.ownsRow B 151 4 (.slice A qs.length c) qs.length (cellsA qs)) (hr : ∀ q ∈ qs, AtmV w q.1 q.2) : AtsT w A (qs.map (·.1)) := fun h0 => by
  rw [List.length_map] at h0
  obtain ⟨b, cur, e, hb, hc⟩ := own_cur h h0
  refine ⟨b, cur, e, hb, fun i x hx => ?_⟩
  rw [List.getElem?_map] at hx
  obtain ⟨q, hq, rfl⟩ := Option.map_eq_some_iff.1 hx
  obtain ⟨g0, g1, g2, g3⟩ := cellsA_get qs i q hq
  obtain ⟨Ai, ci, e2, hrb⟩ := hr q (List.mem_of_getElem? hq)
  exact ⟨hc _ _ g0, hc _ _ g1, hc _ _ g2, Ai, ci, by rw [← e2]; exact hc _ _ g3, hrb⟩
theorem AtsT.ats {w : World} {A : Option Addr} {ats : List Atm} (h : AtsT w A ats) : Ats w A ats := fun h0 => by
  obtain ⟨b, cs, e, hb, hc⟩ := h h0
  refine ⟨b, 0, e, lt_of_block hb, fun i x hx => ?_⟩
  obtain ⟨g0, g1, g2, Ai, ci, g3, hr⟩ := hc i x hx
  rw [Nat.zero_add]
  exact ⟨(cell_of_row _ _ _ _ _ _ hb).trans g0, (cell_of_row _ _ _ _ _ _ hb).trans g1, (cell_of_row _ _ _ _ _ _ hb).trans g2, Ai, ci, (cell_of_row _ _ _ _ _ _ hb).trans g3, hr.rgs⟩
/-- What keeps every block of atoms and of ranges keeps the atoms. -/
theorem AtsT.keep {w w' : World} {A : Option Addr} {ats : List Atm} (h : AtsT w A ats) (k1 : ∀ (b : Nat) (cs : Array Value), w.heap[b]? = some (Obj.cells cs 151 (0, 0)) → w'.heap[b]? = w.heap[b]?) (k2 : ∀ (b : Nat) (cs : Array Value), w.heap[b]? = some (Obj.cells cs 242 (0, 0)) → w'.heap[b]? = w.heap[b]?) : AtsT w' A ats := fun h0 => by
  obtain ⟨b, cs, e, hb, hc⟩ := h h0
  refine ⟨b, cs, e, (k1 b cs hb).trans hb, fun i x hx => ?_⟩
  obtain ⟨g0, g1, g2, Ai, ci, g3, hr⟩ := hc i x hx
  exact ⟨g0, g1, g2, Ai, ci, g3, hr.keep k2⟩
theorem AtsT.below {w w' : World} {A : Option Addr} {ats : List Atm} (h : AtsT w A ats) (hb : Below w.heap.size w w') : AtsT w' A ats := h.keep (fun b _ hx => hb.block b (lt_of_block hx)) (fun b _ hx => hb.block b (lt_of_block hx))
def CompR2 (w : World) (o : Option (List Atm)) (e : Ending) (w' : World) : Prop :=
  (o = none ∧ e = .returned (.tuple #[.agg #[.slice none 0 0], .int .i64 22]) ∧ Below w.heap.size w w') ∨
  (∃ ats A c, o = some ats ∧ ats.length ≤ c ∧ e = .returned (.tuple #[.agg #[.slice A ats.length c], .int .i64 0]) ∧ AtsT w' A ats ∧ Below w.heap.size w w')
set_option maxHeartbeats 8000000 in
theorem compile_any2 (s : ByteArray) (hs : s.size ≤ 65535) (w : World) :
    Calls Tryz.prog 43 #[.string s] w (CompR2 w (compF (runesB s) 0 [])) := by
  have hza := zero_atom
  have hia := info_atom
  have hzp := zero_pat
  have hip := info_pat
  have hits := info_ats
  obtain ⟨i0, hi, hz0, hz1, hz2⟩ := parts_of parts_atom
  obtain ⟨O, hO⟩ : ∃ O, O = compF (runesB s) 0 [] := ⟨_, rfl⟩
  rw [← hO]
  have HO := Lib.hid hO.symm
  have hl := runeF_len s s.size 0
  have hr := allR_of (runeF_max s s.size 0)
  obtain ⟨l, hlv⟩ : ∃ l, l = runesB s := ⟨_, rfl⟩
  have hrf := runes_from s s.size 0 #[]
  rw [← hlv] at HO
  rw [show runeF s s.size 0 = l from hlv.symm] at hl hr hrf
  have hrs : (Conv.runesFrom s s.size 0 #[]).size = l.length := by
    have := congrArg List.length hrf
    simpa using this
  have hcv := fun w1 => run_runes_of_string (P := Tryz.prog) w1 9 148 21 s Tryz.underlying9 Tryz.underlying148 Tryz.underlying21 (by rw [hrs]; omega)
  rw [hrs] at hcv
  have hG := grownCap_ge ((w.alloc (.cells #[.slice none 0 0] 98)).alloc (.cells #[.slice none 0 0] 98)) l.length 0 21
  have hGm := grownCap_le_maxLen ((w.alloc (.cells #[.slice none 0 0] 98)).alloc (.cells #[.slice none 0 0] 98)) l.length 0 21 (by unfold maxLen; omega)
  have hcv1 := hcv ((w.alloc (.cells #[.slice none 0 0] 98)).alloc (.cells #[.slice none 0 0] 98))
  generalize grownCap ((w.alloc (.cells #[.slice none 0 0] 98)).alloc (.cells #[.slice none 0 0] 98)) l.length 0 21 = G at *
  obtain ⟨RS, hRS⟩ : ∃ RS, RS = Conv.runesFrom s s.size 0 #[] ++ Array.replicate (G - l.length) (Value.int .i32 0) := ⟨_, rfl⟩
  rw [← hRS] at hcv1
  have HRS : Hid (∀ i, i < l.length → RS[i]? = some (.int .i32 ((l.getD i 0 : Nat) : Int))) := by
    intro i hi
    rw [hRS, Array.getElem?_append_left (by rw [hrs]; exact hi), ← Array.getElem?_toList, hrf]
    simp [hi]
  clear hcv hrf hrs hRS hO hlv
  have g1 : decide ((65535 : Int) < (s.size : Int)) = false := decide_eq_false (by omega)
  have g2 : decide (65535 < s.size) = false := decide_eq_false (by omega)
  go_enter Tryz.func43, Tryz.ntmps43
  go_wp2_with fail
  have HS0 : Hid (CompSt w (((w.alloc (.cells #[.slice none 0 0] 98)).alloc (.cells #[.slice none 0 0] 98)).alloc (.cells RS 21)).drew RS (.slice none 0 0) []) := by
    have hb1 := below_alG w (.cells #[.slice none 0 0] 98)
    have h1 := heap_alloc_new w (.cells #[.slice none 0 0] 98)
    have s1 : (w.alloc (.cells #[.slice none 0 0] 98)).heap.size = w.heap.size + 1 := by simp
    generalize w.alloc (.cells #[.slice none 0 0] 98) = w1 at *
    have hb2 := below_then hb1 (below_alG w1 (.cells #[.slice none 0 0] 98))
    have h2 := heap_alloc_new w1 (.cells #[.slice none 0 0] 98)
    have h1' := (heap_alloc_old w1 (.cells #[.slice none 0 0] 98) (lt_of_block h1)).trans h1
    have s2 : (w1.alloc (.cells #[.slice none 0 0] 98)).heap.size = w.heap.size + 1 + 1 := by simp [s1]
    rw [s1] at h2
    generalize w1.alloc (.cells #[.slice none 0 0] 98) = w2 at *
    have hb3 := below_then hb2 (below_alG w2 (.cells RS 21))
    have h3 := heap_alloc_new w2 (.cells RS 21)
    rw [s2] at h3
    exact ⟨(heap_alloc_old w2 _ (lt_of_block h1')).trans h1', (heap_alloc_old w2 _ (lt_of_block h2)).trans h2, h3, World.ownsRow_nil _ _ _ _, (fun q hq => by cases hq), hb3.drew, by show _ ≤ (w2.alloc _).heap.size; simp [s2]⟩
  generalize (((w.alloc (.cells #[.slice none 0 0] 98)).alloc (.cells #[.slice none 0 0] 98)).alloc (.cells RS 21)).drew = w3 at *
  have HHR := Lib.hid hr
  have HGM := Lib.hid hGm
  clear hcv1 hr hGm
  go_loopw [5] (fun v wr => ∃ (k n : Nat) (A : Option Addr) (c : Nat) (V : Value) (qs : List (Atm × Value)), v = .slice A n c ∧ Hid (n + k = l.length) ∧ n ≤ c ∧ Hid (c ≤ maxLen) ∧ Hid (0 < n → A = some ⟨w.heap.size + 1 + 1, k, none⟩) ∧ Hid (CompSt w wr RS V qs) ∧ Hid (compF l k (qs.map (·.1)) = O) ∧ qs.length ≤ k) (fun v _ => lenOf v)
  case atStart => exact ⟨0, l.length, _, G, _, [], rfl, rfl, hG, HGM, fun _ => rfl, HS0, HO, Nat.le_refl _⟩
  case round =>
    obtain ⟨k, n, A, c, V, qs, rfl, HN, hnc, HC, HA, HS, HOr, hqk⟩ := hrel
    obtain ⟨A2, c2, rfl⟩ := row_slice2 HS.out.o
    have z0 := (cell_of_row _ _ 0 _ _ _ HS.out.z).trans (show _ = some (Value.slice none 0 0) from rfl)
    have fz := frozen_of_row _ _ 0 _ _ HS.out.z
    have hnn : n ≤ 65535 := by have := HN.out; omega
    by_cases h0 : n = 0
    · subst h0
      have hk : k = l.length := by have := HN.out; omega
      have HOO : Hid (O = some (qs.map (·.1))) := by show _ = _; rw [← HOr.out]; exact compF_end (by omega)
      have a0 := (cell_of_row _ _ 0 _ _ _ HS.out.a).trans (show _ = some (Value.slice A2 qs.length c2) from rfl)
      have HQL : Hid (qs.length ≤ c2) := by
        show _ ≤ _
        rcases HS.out.o.2 with ⟨h1, h2⟩ | ⟨g, cap, cur, h1, _, _, h4, _⟩
        · rw [h2]; exact Nat.zero_le _
        · injection h1 with _ _ h1; rw [h1]; exact h4
      clear hk
      go_wp2_with fail
      refine bodyPost_ret (v := .tuple #[.agg #[.slice A2 qs.length c2], .int .i64 0]) (by simp [results, Tryz.results43, go_sem, z0]) rfl ?_
      have hS := HS.out
      refine .inr ⟨qs.map (·.1), A2, c2, HOO.out, by rw [List.length_map]; exact HQL.out, by rw [List.length_map], ?_, hS.b.setCell (p := ⟨w.heap.size, 0, none⟩) (Nat.le_refl _) _⟩
      refine atsT_of_own (B := w.heap.size + 1 + 1 + 1) (c := c2) (ownsRow_setCell_below hS.o (a := ⟨w.heap.size, 0, none⟩) (by show w.heap.size < _; omega) _) (fun q hq => ?_)
      obtain ⟨Aq, cq, e, hrq⟩ := hS.r q hq
      exact ⟨Aq, cq, e, hrq.set hS.z (by decide) _⟩
    · have hk : k < l.length := by have := HN.out; omega
      have hA := HA.out (by omega)
      subst hA
      have hS := HS.out
      have HRN : Hid (Rn wr (some ⟨w.heap.size + 1 + 1, k, none⟩) (l.drop k)) := rn_block hS.t HRS.out k
      have HAT := Lib.hid (fun w1 h => atom_any (some ⟨w.heap.size + 1 + 1, k, none⟩) n c (l.drop k) (by rw [List.length_drop]; have := HN.out; omega) (by omega) (by omega) hnc HC.out (HHR.out.drop k) w1 h)
      have HCN := Lib.hid (fun h => compF_none (acc := qs.map (·.1)) hk h)
      have HCM := Lib.hid (fun x m h => compF_more (acc := qs.map (·.1)) (x := x) (k := m) hk h)
      have HLE := Lib.hid (fun p h => atomF_le (l := l.drop k) (p := p) (by rw [List.length_drop]; omega) h)
      generalize atomF (l.drop k) = D at *
      have gn : decide (0 < n) = true := decide_eq_true (by omega)
      have gn' : decide ((0 : Int) < (n : Int)) = true := decide_eq_true (by omega)
      have gn3 : 0 < n := by omega
      clear hS hk z0 fz
      go_wp2_with fail
      refine (HAT.out _ HRN.out).mono ?_; rintro e w5 (⟨rfl, ⟨kk, rfl⟩, hb5⟩ | ⟨x, m, V5, rfl, rfl, hv5, hb5⟩)
      · have HS5 := Lib.hid (HS.out.next hb5)
        have HS6 := Lib.hid (HS5.out.next (below_alG w5 (.cells #[.int .i64 kk, .int .i32 0, .bool false, .slice none 0 0] 151)))
        have HOO : Hid (O = none) := by show _ = _; rw [← HOr.out]; exact HCN.out rfl
        clear hb5
        go_upto_if 23 with fail
        generalize w5.alloc (.cells #[.int .i64 kk, .int .i32 0, .bool false, .slice none 0 0] 151) = w6 at *
        have z0 := (cell_of_row _ _ 0 _ _ _ HS6.out.z).trans (show _ = some (Value.slice none 0 0) from rfl)
        have fz := frozen_of_row _ _ 0 _ _ HS6.out.z
        go_wp2_with fail
        refine bodyPost_ret (v := .tuple #[.agg #[.slice none 0 0], .int .i64 22]) (by simp [results, Tryz.results43, go_sem, z0]) rfl ?_
        exact .inl ⟨HOO.out, rfl, HS6.out.b.setCell (p := ⟨w.heap.size, 0, none⟩) (Nat.le_refl _) _⟩
      · obtain ⟨hm1, hm2⟩ := HLE.out _ rfl
        rw [List.length_drop] at hm2
        dsimp only at hm1 hm2
        have hmn : m ≤ n := by have := HN.out; omega
        obtain ⟨A', hrun, hA'⟩ := rn_slice' (some ⟨w.heap.size + 1 + 1, k, none⟩) n c m hmn hnc
        have HOO : Hid (compF l (k + m) (qs.map (·.1) ++ [x]) = O) := by show _ = _; rw [← HOr.out]; exact (HCM.out x m rfl).symm
        obtain ⟨Ax, cx, rfl, hrx⟩ := hv5
        have HS5 := Lib.hid (HS.out.next hb5)
        have HX5 := Lib.hid (below_alG w5 (.cells #[.int .i64 x.k, .int .i32 x.r, .bool x.n, .slice Ax x.rs.length cx] 151))
        have HV6 : Hid (AtmV (w5.alloc (.cells #[.int .i64 x.k, .int .i32 x.r, .bool x.n, .slice Ax x.rs.length cx] 151)) x (.slice Ax x.rs.length cx)) := ⟨Ax, cx, rfl, hrx.below HX5.out⟩
        have HN5 := Lib.hid (heap_alloc_new w5 (.cells #[.int .i64 x.k, .int .i32 x.r, .bool x.n, .slice Ax x.rs.length cx] 151))
        have gm : ((m : Int) == 0) = false := by rw [beq_eq_false_iff_ne]; omega
        have HMN : Hid (m ≤ n) := hmn
        have HM1 := Lib.hid hm1
        clear hb5 hrx HAT HCN HCM HLE hm1 hm2
        go_upto_if 23 with fail
        have HS6 := Lib.hid (HS5.out.next HX5.out)
        generalize w5.alloc (.cells #[.int .i64 x.k, .int .i32 x.r, .bool x.n, .slice Ax x.rs.length cx] 151) = w6 at *
        have a3 := (cell_of_row _ _ 0 _ _ _ HS6.out.a).trans (show _ = some (Value.slice A2 qs.length c2) from rfl)
        have r0 := (cell_of_row _ _ 0 _ _ _ HN5.out).trans (show _ = some (Value.int .i64 x.k) from rfl)
        have r1 := (cell_of_row _ _ 1 _ _ _ HN5.out).trans (show _ = some (Value.int .i32 x.r) from rfl)
        have r2 := (cell_of_row _ _ 2 _ _ _ HN5.out).trans (show _ = some (Value.bool x.n) from rfl)
        have r3 := (cell_of_row _ _ 3 _ _ _ HN5.out).trans (show _ = some (Value.slice Ax x.rs.length cx) from rfl)
        have HX7 := Lib.hid (heap_alloc_new w6 (.cells #[.int .i64 x.k, .int .i32 x.r, .bool x.n, .slice Ax x.rs.length cx] 151))
        have HB67 := below_alG w6 (.cells #[.int .i64 x.k, .int .i32 x.r, .bool x.n, .slice Ax x.rs.length cx] 151)
        have HS7 := Lib.hid (HS6.out.next HB67)
        have HV7 := Lib.hid (HV6.out.below HB67)
        have HLT := Lib.hid HS7.out.o.lt
        have hql : qs.length ≤ 65535 := by have := HN.out; omega
        have HSS := Lib.hid HS7.out.s
        clear HB67 HX5 HN5
        go_wp2_with (at_builtin; go_must (refine wpList_append_own_at _ rfl (.tmp 26) (.tmp 28) _ rfl (w.heap.size + 1 + 1 + 1) 151 i0 (.agg #[.int .i64 0, .int .i32 0, .bool false, .slice none 0 0]) 4 40 Tryz.underlying96 hi hz0 hz1 hz2 rfl (by decide) (.slice A2 qs.length c2) qs.length _ rfl HS7.out.o ⟨w6.heap.size, 0, none⟩ 1 1 [.int .i64 x.k, .int .i32 x.r, .bool x.n, .slice Ax x.rs.length cx] rfl rfl (by exact World.news_of_block HX7.out) (by intro u hu; simp at hu; rcases hu with rfl | rfl | rfl | rfl <;> rfl) (by unfold maxLen; omega) (by omega) (by exact HSS.out) ?_; intro v' w8 hown' hgrow hnil' hloc; obtain ⟨A8, c8, rfl⟩ := row_slice2 hown'; have HO8 := Lib.hid hown'; have HGR := Lib.hid hgrow; have HA8 := Lib.hid ((hgrow.block (w.heap.size + 1) (by have := HSS.out; omega) (fun e => by have := (HLT.out _ e.symm).1; omega)).trans HS7.out.a); have a8 := (cell_of_row _ _ 0 _ _ _ HA8.out).trans (show _ = some (Value.slice A2 qs.length c2) from rfl); have f8 := frozen_of_row _ _ 0 _ _ HA8.out; clear hown' hgrow hnil' hloc))
        have HZ9 := Lib.hid ((heap_setCell_other w8 ⟨w.heap.size + 1, 0, none⟩ w.heap.size (.slice A8 (qs.length + 1) c8) (by simp)).trans ((HGR.out.block w.heap.size (by have := HSS.out; omega) (fun e => by have := (HLT.out _ e.symm).1; omega)).trans HS7.out.z))
        have HT9 := Lib.hid ((heap_setCell_other w8 ⟨w.heap.size + 1, 0, none⟩ (w.heap.size + 1 + 1) (.slice A8 (qs.length + 1) c8) (by simp)).trans ((HGR.out.block (w.heap.size + 1 + 1) (by have := HSS.out; omega) (fun e => by have := (HLT.out _ e.symm).1; omega)).trans HS7.out.t))
        have HA9 := Lib.hid (heap_setCell_same w8 (w.heap.size + 1) 0 _ _ (.slice A8 (qs.length + 1) c8) HA8.out)
        have HB9 := Lib.hid ((HS7.out.b.grown HGR.out (by have := HSS.out; omega) (fun q hq => by have := (HLT.out q hq).1; omega)).setCell (p := ⟨w.heap.size + 1, 0, none⟩) (by simp) (.slice A8 (qs.length + 1) c8))
        have HO9 := Lib.hid (ownsRow_setCell_below HO8.out (a := ⟨w.heap.size + 1, 0, none⟩) (by simp) (.slice A8 (qs.length + 1) c8))
        have HG9 : Hid (w.heap.size + 1 + 1 + 1 ≤ (w8.setCell ⟨w.heap.size + 1, 0, none⟩ (.slice A8 (qs.length + 1) c8)).heap.size) := by
          have h1 := HGR.out.size
          have h2 := HSS.out
          show _ ≤ _
          simp [World.setCell]
          omega
        have key : ∀ q : Atm × Value, AtmV (w6.alloc (.cells #[.int .i64 x.k, .int .i32 x.r, .bool x.n, .slice Ax x.rs.length cx] 151)) q.1 q.2 → AtmV (w8.setCell ⟨w.heap.size + 1, 0, none⟩ (.slice A8 (qs.length + 1) c8)) q.1 q.2 := fun q hq => by
          obtain ⟨Aq, cq, e, hrq⟩ := hq
          exact ⟨Aq, cq, e, (hrq.grow HS7.out.o (by decide) HGR.out).set HA8.out (by decide) _⟩
        have HR9 : Hid (∀ q ∈ qs ++ [(x, Value.slice Ax x.rs.length cx)], AtmV (w8.setCell ⟨w.heap.size + 1, 0, none⟩ (.slice A8 (qs.length + 1) c8)) q.1 q.2) := by
          intro q hq
          rcases List.mem_append.1 hq with hq | hq
          · exact key q (HS7.out.r q hq)
          · obtain rfl : q = (x, Value.slice Ax x.rs.length cx) := by simpa using hq
            exact key _ HV7.out
        go_roundw
        case rel =>
          refine ⟨k + m, n - m, A', c - m, _, qs ++ [(x, Value.slice Ax x.rs.length cx)], rfl, by show _ = _; have := HN.out; have := HMN.out; omega, by omega, by show _ ≤ _; have := HC.out; omega, fun h => hA' _ _ (by omega) rfl, ⟨HZ9.out, HA9.out, HT9.out, ?_, HR9.out, HB9.out, HG9.out⟩, ?_, ?_⟩
          · rw [cellsA_app, List.length_append]
            exact HO9.out
          · show _ = _
            rw [List.map_append]
            exact HOO.out
          · rw [List.length_append]
            have := HM1.out
            show qs.length + 1 ≤ _
            omega
        case measure => show n - m < n; have := HM1.out; omega
end Go.Proofs.YtjnoapbddifcpaaGreatDoor
