/-
  Contracts: Twice, of the program and of the document.
-/
import Derived.Test.YtkiecgcjnlgbnaaExK
import Derived.Maps.OwnSet
namespace Go.Proofs.Ytkiecgcjnlgbnaa
set_option maxRecDepth 100000
open Go.RowKit Go.Joins Go.Deep

/-- The first ID that comes again, some being seen. -/
def tw : List Fd → List Nat → Option Nat
  | [], _ => none
  | f :: l, seen => if f.id ∈ seen then some f.id else tw l (seen ++ [f.id])
def twI (l : List Fd) : Nat := (tw l []).getD 0
def twB (l : List Fd) : Bool := (tw l []).isSome
def seenL (l : List Fd) (k : Nat) : List Nat := (l.take k).map (·.id)
theorem seen_succ {l : List Fd} {k : Nat} (hk : k < l.length) : seenL l (k + 1) = seenL l k ++ [(l[k]).id] := by
  unfold seenL
  rw [List.take_succ_eq_append_getElem hk, List.map_append]
  rfl
theorem tw_yes {l : List Fd} {k : Nat} (hk : k < l.length) {seen : List Nat} (h : (l[k]).id ∈ seen) : tw (l.drop k) seen = some (l[k]).id := by
  rw [List.drop_eq_getElem_cons hk, tw, if_pos h]
theorem tw_no {l : List Fd} {k : Nat} (hk : k < l.length) {seen : List Nat} (h : (l[k]).id ∉ seen) : tw (l.drop k) seen = tw (l.drop (k + 1)) (seen ++ [(l[k]).id]) := by
  rw [List.drop_eq_getElem_cons hk, tw, if_neg h]
theorem tw_some {l : List Fd} {x : Nat} (h : tw l [] = some x) : twI l = x ∧ twB l = true := by
  unfold twI twB
  rw [h]
  exact ⟨rfl, rfl⟩
theorem tw_none {l : List Fd} (h : tw l [] = none) : twI l = 0 ∧ twB l = false := by
  unfold twI twB
  rw [h]
  exact ⟨rfl, rfl⟩
/-! ### The set of what was seen -/
theorem key16 : Maps.Keyed Try.prog 36 := Maps.int_keyed Try.underlying36
theorem zero_unit (w : World) : (zeroValue 70).run Try.prog w = .ok (.agg #[]) w := by kernel_rfl
def setD (ids : List Nat) : DataW Unit := Maps.setOf (.agg []) (ids.map fun i => Lit.int .u16 (i : Nat))
theorem setD_snoc (ids : List Nat) (x : Nat) : setD (ids ++ [x]) = (setD ids).put (.int .u16 (x : Nat)) (.agg []) := by
  unfold setD
  rw [List.map_append]
  exact Maps.setOf_snoc _ _ _
theorem lit16_wf {x : Nat} (h : x < 65536) : (Lit.int .u16 (x : Nat)).wf = true := by
  simp [Lit.wf]
  rw [show IntKind.u16.min = 0 by decide, show IntKind.u16.max = 65535 by decide]
  omega
theorem setD_has (ids : List Nat) (x : Nat) : Maps.has (setD ids) (.int .u16 (x : Nat)) = decide (x ∈ ids) := by
  unfold setD Maps.setOf
  rw [Maps.has_fold _ _ _ _ ⟨[], rfl⟩ (fun y hy => by obtain ⟨i, _, rfl⟩ := List.mem_map.1 hy; trivial)]
  rw [show Maps.has (DataW.map [] : DataW Unit) (.int .u16 (x : Nat)) = false from rfl, Bool.false_or, List.any_map]
  rw [Bool.eq_iff_iff, List.any_eq_true, decide_eq_true_iff]
  constructor
  · rintro ⟨y, hy, h⟩
    have := WideAt.sameKey_eq (a := Lit.int .u16 (y : Nat)) (b := Lit.int .u16 (x : Nat)) h
    injection this with _ h2
    have : y = x := by omega
    subst this
    exact hy
  · intro h
    exact ⟨x, h, WideAt.sameKey_self (a := Lit.int .u16 (x : Nat)) trivial⟩
/-- Where Twice stands. -/
structure TS (w wr : World) (n : Nat) (ids : List Nat) : Prop where
  own : wr.ownsMap Try.prog 36 unitElem w.heap.size n (setD ids)
  bel : Below w.heap.size w wr
theorem cell_alQ {w : World} {p : Addr} {u : Value} {o : Obj} (h : w.cell? p = some u) : (w.alloc o).cell? p = some u := by
  have hlt := block_lt_of_cell h
  exact (((Below.refl w.heap.size w).alloc (Nat.le_refl _) o).cell hlt).trans h
theorem TS.alloc {w wr : World} {n : Nat} {ids : List Nat} (h : TS w wr n ids) (o : Obj) : TS w (wr.alloc o) n ids := ⟨h.own.alloc o, h.bel.alloc h.bel.size o⟩
theorem TS.grown {w wr w2 : World} {n : Nat} {ids : List Nat} {x : Nat} (h : TS w wr n ids) (ho : w2.ownsMap Try.prog 36 unitElem w.heap.size (n + 1) ((setD ids).put (.int .u16 (x : Nat)) (.agg []))) (hg : wr.grownBy w2 (some w.heap.size)) : TS w w2 (n + 1) (ids ++ [x]) :=
  ⟨by rw [setD_snoc]; exact ho, h.bel.grown hg h.bel.size (fun q hq => by injection hq with hq; omega)⟩
set_option maxHeartbeats 8000000 in
theorem twice_any (A : Option Addr) (cap : Nat) (l : List Fd) (w : World) (hF : Fds w A l) (hok : ∀ f ∈ l, f.id < 65536) (hl : l.length ≤ 10000) :
    Calls Try.prog 15 #[.slice A l.length cap] w fun e w' => e = .returned (.tuple #[.int .u16 (twI l : Nat), .bool (twB l)]) ∧ Below w.heap.size w w' := by
  have hit := info_fd2
  have HF := Lib.hid hF
  have HOK := Lib.hid hok
  have hzu := zero_unit
  have hmm := @run_makeMap Try.prog
  have HS0 := Lib.hid (show TS w (w.alloc (.map #[] 0)) 0 [] from ⟨World.ownsMap_made w _ _ _, (Below.refl _ _).alloc (Nat.le_refl _) _⟩)
  clear hF hok
  go_enter Try.func15, Try.ntmps15
  go_wp2_with fail
  generalize w.alloc (.map #[] 0) = w0 at *
  go_loopw [12] (fun i wr => ∃ k : Nat, k ≤ l.length ∧ i = .int .i64 (k : Nat) ∧ Hid (tw (l.drop k) (seenL l k) = tw l []) ∧ Hid (TS w wr k (seenL l k))) (fun i _ => l.length - (intOf i).toNat)
  case atStart => exact ⟨0, Nat.zero_le _, rfl, rfl, HS0.out⟩
  case round =>
    obtain ⟨k, hk, rfl, HQ, HS⟩ := hrel
    by_cases hkn : k < l.length
    · obtain ⟨b, off, rfl, hbl, hc⟩ := (HF.out.below (Nat.le_refl _) HS.out.bel) (by omega)
      obtain ⟨c0, c1⟩ := hc k hkn
      have hid := HOK.out _ (List.getElem_mem hkn)
      have HY := Lib.hid (fun h => (tw_yes hkn (seen := seenL l k) h))
      have HN := Lib.hid (fun h => (tw_no hkn (seen := seenL l k) h))
      have HSU := Lib.hid (seen_succ hkn)
      clear hc
      have hbox := fd_box l[k] wr
      generalize l[k] = t at *
      obtain ⟨tid, td⟩ := t
      dsimp only at c0 c1 hbox hid HY HN HSU
      obtain ⟨d0, d1⟩ := hbox
      have HS1 := Lib.hid (HS.out.alloc (.cells #[.int .u16 (tid : Nat), .string td] 38))
      have hkey := Maps.keyOf_int_mk Try.underlying36 (lit16_wf hid)
      have HKEY := Lib.hid hkey
      have HHAS := Lib.hid (setD_has (seenL l k) tid)
      generalize hsn : seenL l k = sn at HQ HS HS1 HY HN HHAS HSU
      clear hkey hsn
      have hh := HHAS.out
      have g0 := cell_alQ (o := .cells #[] 70) d0
      have g1 := cell_alQ (o := .cells #[] 70) d1
      have HS2 := Lib.hid (HS1.out.alloc (.cells #[] 70))
      by_cases hm : tid ∈ sn
      · have HR := Lib.hid (tw_some (l := l) (HQ.out.symm.trans (HY.out hm)))
        rw [decide_eq_true hm] at hh
        clear HY HN HQ hm
        go_wp2_with (at_lookup; refine wpList_lookup_own_unit _ rfl _ _ 69 rfl 36 70 key16 Try.underlying69 (zero_unit _) w.heap.size k (setD sn) rfl HS1.out.own _ _ rfl HKEY.out ?_)
        go_ret2
        rw [HR.out.1, HR.out.2]
        exact ⟨rfl, HS2.out.bel⟩
      · rw [decide_eq_false hm] at hh
        have HQ2 := Lib.hid ((HN.out hm).symm.trans HQ.out)
        rw [← HSU.out] at HQ2
        clear HY HN HQ hm
        go_wp2_with (first | (at_lookup; refine wpList_lookup_own_unit _ rfl _ _ 69 rfl 36 70 key16 Try.underlying69 (zero_unit _) w.heap.size k (setD sn) rfl HS1.out.own _ _ rfl HKEY.out ?_) | (at_mapUpdate; refine wpList_mapUpdate_own _ rfl _ _ _ 69 rfl 36 70 key16 Try.underlying69 _ w.heap.size k (setD sn) rfl HS2.out.own (by unfold maxLen; omega) _ _ _ rfl rfl HKEY.out (.agg []) [] unitElem_mk ?_; intro w6 hown6 hgrow6))
        have HS6 := Lib.hid (HS2.out.grown hown6 hgrow6)
        rw [← HSU.out] at HS6
        clear hown6 hgrow6
        go_roundw
        case rel => exact ⟨k + 1, by omega, by go_num, HQ2.out, HS6.out⟩
        case measure => simp [intOf]; omega
    · obtain rfl : k = l.length := by omega
      have HR := Lib.hid (tw_none (l := l) (by rw [← HQ.out, List.drop_length]; rfl))
      go_wp2_with fail
      go_ret2
      rw [HR.out.1, HR.out.2]
      exact ⟨rfl, HS.out.bel⟩
theorem seen_mem {l : List Fd} {i x : Nat} (hi : i ≤ l.length) : x ∈ seenL l i ↔ ∃ j, ∃ h : j < i, (l[j]'(by omega)).id = x := by
  unfold seenL
  rw [List.mem_map]
  constructor
  · rintro ⟨f, hf, rfl⟩
    rw [List.mem_take_iff_getElem] at hf
    obtain ⟨j, hj, rfl⟩ := hf
    exact ⟨j, by omega, rfl⟩
  · rintro ⟨j, hj, rfl⟩
    exact ⟨_, List.mem_take_iff_getElem.2 ⟨j, by omega, rfl⟩, rfl⟩
set_option maxHeartbeats 8000000 in
theorem rtwice_any (A : Option Addr) (cap : Nat) (l : List Fd) (w : World) (hF : Fds w A l) (hl : l.length ≤ 10000) :
    Calls Try.prog 16 #[.slice A l.length cap] w fun e w' => e = .returned (.tuple #[.int .u16 (twI l : Nat), .bool (twB l)]) ∧ ∃ d, w' = w.drewN d := by
  have hit := info_fd2
  have HF := Lib.hid hF
  clear hF
  go_enter Try.func16, Try.ntmps16
  go_wp2_with fail
  go_loopw [8] (fun i wr => ∃ k d : Nat, k ≤ l.length ∧ i = .int .i64 (k : Nat) ∧ Hid (tw (l.drop k) (seenL l k) = tw l []) ∧ wr = w.drewN d) (fun i _ => l.length - (intOf i).toNat)
  case atStart => exact ⟨0, 0, Nat.zero_le _, rfl, rfl, rfl⟩
  case round =>
    obtain ⟨k, d, hk, rfl, HQ, rfl⟩ := hrel
    by_cases hkn : k < l.length
    · obtain ⟨b, off, rfl, hbl, hc⟩ := HF.out (by omega)
      have k0 := (hc k hkn).1
      have HC := Lib.hid hc
      have HSM := Lib.hid (fun x => seen_mem (l := l) (i := k) (x := x) hk)
      have HY := Lib.hid (fun h => (tw_yes hkn (seen := seenL l k) h))
      have HN := Lib.hid (fun h => (tw_no hkn (seen := seenL l k) h))
      have HSU := Lib.hid (seen_succ hkn)
      clear hc
      generalize (l[k]).id = x at *
      have hki : (k : Int) < (l.length : Int) := by omega
      go_wp2_with fail
      go_loopw [5] (fun i wr => ∃ j e : Nat, j ≤ k ∧ i = .int .i64 (j : Nat) ∧ Hid (∀ q (hq : q < j) (hq2 : q < l.length), (l[q]).id ≠ x) ∧ wr = w.drewN e) (fun i _ => k - (intOf i).toNat)
      case atStart => exact ⟨0, d, Nat.zero_le _, rfl, fun q hq => absurd hq (by omega), rfl⟩
      case round =>
        obtain ⟨j, e, hj, rfl, HP, rfl⟩ := hrel
        by_cases hjk : j < k
        · have hjl : j < l.length := by omega
          have j0 := (HC.out j hjl).1
          have HM : Hid ((l[j]).id = x → x ∈ seenL l k) := fun h => (HSM.out x).2 ⟨j, hjk, h⟩
          have HP2 : Hid ((l[j]).id ≠ x → ∀ q (hq : q < j + 1) (hq2 : q < l.length), (l[q]).id ≠ x) := fun h q hq hq2 => by
            by_cases e : q = j
            · subst e; exact h
            · exact HP.out q (by omega) hq2
          generalize (l[j]).id = y at *
          have hji : (j : Int) < (l.length : Int) := by omega
          have hjki : (j : Int) < (k : Int) := by omega
          by_cases hyx : y = x
          · have he : ((y : Int) == (x : Int)) = true := by rw [hyx]; exact beq_self_eq_true _
            have HR := Lib.hid (tw_some (l := l) (HQ.out.symm.trans (HY.out (HM.out hyx))))
            clear HY HN HQ HM HP2 HP hyx
            go_wp2_with fail
            go_quiet (fail)
            go_wp2_with fail
            go_ret2
            rw [HR.out.1, HR.out.2]
            exact ⟨rfl, e + nq, rfl⟩
          · have he : ((y : Int) == (x : Int)) = false := by rw [beq_eq_false_iff_ne]; omega
            have HP3 := Lib.hid (HP2.out hyx)
            clear HM HP2 HP hyx
            go_wp2_with fail
            go_quiet (fail)
            go_wp2_with fail
            go_roundw
            case rel => exact ⟨j + 1, e + nq, by omega, by go_num, HP3.out, by first | rfl | trivial⟩
            case measure => simp [intOf]; omega
        · obtain rfl : j = k := by omega
          have hnm : x ∉ seenL l j := fun h => by
            obtain ⟨q, hq, e⟩ := (HSM.out x).1 h
            exact HP.out q hq (by omega) e
          have HQ2 := Lib.hid ((HN.out hnm).symm.trans HQ.out)
          rw [← HSU.out] at HQ2
          clear HY HN HQ hnm HP
          go_wp2_with fail
          go_roundw
          case rel => exact ⟨j + 1, e, by omega, by go_num, HQ2.out, by first | rfl | trivial⟩
          case measure => simp [intOf]; omega
    · obtain rfl : k = l.length := by omega
      have HR := Lib.hid (tw_none (l := l) (by rw [← HQ.out, List.drop_length]; rfl))
      go_wp2_with fail
      go_ret2
      rw [HR.out.1, HR.out.2]
      exact ⟨rfl, d, rfl⟩
end Go.Proofs.Ytkiecgcjnlgbnaa
