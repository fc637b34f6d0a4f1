/-
  An entry's fields: Parse (none only where it is empty), Concat of rows that may be empty.
  An entry's fields: fieldsOf, find.
  Items: their cells; items where they lie; items in a block of their own.
  Entries where they lie; the law's few.
  Entries: the laws' Light and few.
-/
import Derived.Test.YtijfcmlgohbndaaGreatDoorPkAB
import Derived.Test.YtijfcmlgohbndaaGreatDoorPkAC
import Derived.Test.YtijfcmlgohbndaaGreatDoorPkAA
import Derived.Below
import Derived.WalkKit
import Derived.Lib.SmallJoins
import Derived.Lib.Hide
import Derived.Laws.IdiomStrings
import Derived.Deep.AppendLies
import Derived.Deep.MidRow
import Derived.Deep.DeepMust
import Derived.Deep.Upon
import Derived.Maps.AppendAt
import Derived.Laws.StructEq
import Derived.BigQuiet

namespace Go.Proofs.YtijfcmlgohbndaaGreatDoor
set_option maxRecDepth 100000
set_option linter.unusedSimpArgs false
set_option linter.unusedVariables false
open Go.RowKit Go.Joins Go.Deep
/-- A row of fields lies in a block of its own. -/
def NewA (B : Nat) (A : Option Addr) : Prop := ∀ a, A = some a → B ≤ a.block
theorem new_of_own {w : World} {B B' : Nat} {T : TypeId} {A : Option Addr} {cap : Nat} {l : List Fd} (h : w.ownsRow B' T 2 (.slice A l.length cap) l.length (cellsF l)) (hB : B ≤ B') : NewA B A := fun a e => by
  rcases h.2 with ⟨he, h0⟩ | ⟨g, cap2, cur, he, hb, _⟩
  · injection he with h1
    rw [h1] at e
    cases e
  · injection he with h1
    rw [h1] at e
    injection e with e
    subst e
    exact Nat.le_trans hB hb
theorem Fds.setRow {w : World} {A : Option Addr} {l : List Fd} (h : Fds w A l) {g : Nat} (hn : NewA (g + 1) A) (cs : Array Value) : Fds (w.setRow g cs) A l := fun h0 => by
  obtain ⟨b, off, e, hlt, hc⟩ := h h0
  have hb : b ≠ g := by have : g + 1 ≤ b := hn _ e; omega
  exact ⟨b, off, e, by rw [setRow_size]; exact hlt, fun i hi => ⟨(cell_setRow_other w g cs ⟨b, off + i * 2, none⟩ hb).trans (hc i hi).1, (cell_setRow_other w g cs ⟨b, off + i * 2 + 1, none⟩ hb).trans (hc i hi).2⟩⟩
theorem growF_none (w : World) : Calls Tryz.prog 98 #[.slice none 0 0, .int .i64 0] w fun e w' => e = .returned (.slice none 0 0) ∧ w' = w := by
  go_enter Tryz.func98, Tryz.ntmps98
  go_wp2_with fail
  go_ret
  exact ⟨rfl, rfl⟩
theorem growF_any (n : Nat) (hn : n ≤ 100000) (w : World) :
    Calls Tryz.prog 98 #[.slice none 0 0, .int .i64 n] w fun e w' => ∃ V, e = .returned V ∧ w'.ownsRow w.heap.size 140 2 V 0 [] ∧ Below w.heap.size w w' := by
  by_cases h : n = 0
  · subst h
    refine (growF_none w).mono ?_; rintro e w1 ⟨rfl, rfl⟩
    exact ⟨_, rfl, World.ownsRow_nil _ _ _ _, Below.refl _ _⟩
  · refine (grow13_any w.heap.size n (by omega) hn w (Nat.le_refl _)).mono ?_; rintro e w1 ⟨G, rfl, h1, h2⟩
    exact ⟨_, rfl, h1, h2⟩
theorem prs_len4 (s : ByteArray) (a : Nat) (acc l : List Fd) (h : prs s a acc = some l) (ha : acc.length * 4 ≤ a) (hz : a ≤ s.size) : l.length * 4 ≤ s.size := by
  fun_induction prs s a acc with
  | case1 a acc h1 => injection h with h; subst h; omega
  | case2 a acc h1 h2 ih => exact ih h (by rw [List.length_append]; simp; omega) h2
  | case3 => cases h
theorem parL_len4 (s : ByteArray) : (parL s).length ≤ 16384 := by
  unfold parL
  split
  · simp
  · cases h : prs s 0 [] with
    | none => simp
    | some l =>
      have := prs_len4 s 0 [] l h (by simp) (Nat.zero_le _)
      show l.length ≤ _
      omega
set_option maxHeartbeats 4000000 in
theorem parse0_any (s : ByteArray) (hs : s.size ≤ maxLen) (w : World) :
    Calls Tryz.prog 35 #[.string s] w fun e w' => ∃ A cap, e = .returned (.tuple #[.slice A (parL s).length cap, .int .i64 (parE s : Nat)]) ∧ Fds w' A (parL s) ∧ Nil0 A (parL s).length cap ∧ NewA w.heap.size A ∧ Below w.heap.size w w' := by
  by_cases h5 : 65535 < s.size
  · have HR : Hid (parL s = [] ∧ parE s = 5) := by
      show _ ∧ _
      unfold parL parE
      rw [if_pos h5, if_pos h5]
      exact ⟨rfl, rfl⟩
    unfold maxLen at hs
    go_enter Tryz.func35, Tryz.ntmps35
    go_wp2_with fail
    go_ret2
    rw [HR.out.1, HR.out.2]
    exact ⟨none, 0, rfl, Fds.nil _ _, (fun _ => ⟨rfl, rfl⟩), (fun a e => by cases e), Below.refl _ _⟩
  · have hs5 : s.size ≤ 65535 := by omega
    obtain ⟨i0, hi, hz0, hz1, hz2⟩ := info_parts parts_fd
    have HOV := Lib.hid (over_ci s w)
    have HNO := Lib.hid (fun k => parE_no hs5 k)
    have HYES := Lib.hid (fun l k => parE_yes (l := l) hs5 k)
    clear h5
    go_enter Tryz.func35, Tryz.ntmps35
    go_wp2_with fail
    refine (HOV.out).mono ?_
    rintro e w1 ⟨rfl, hci⟩
    have HP : Hid (PX w w1 s 0 0 (.slice none 0 0) []) := ⟨hci, Nat.zero_le _, World.ownsRow_nil _ _ _ _⟩
    have hB1 : Hid (w.heap.size + 1 ≤ w1.heap.size) := hci.lt
    clear hci HOV
    go_wp2_with fail
    go_loopg [4] s.size (fun gg v wr => ∃ (a : Nat) (l : List Fd), l.length ≤ a ∧ s.size - a ≤ gg ∧ Hid (prs s a l = prs s 0 []) ∧ Hid (PX w wr s a 0 v l) ∧ Hid (w.heap.size + 1 ≤ wr.heap.size))
    case atStart => exact ⟨0, [], Nat.le_refl _, by omega, rfl, HP.out, hB1.out⟩
    case round =>
      clear HP hB1
      obtain ⟨a, l, hla, hg, HQ, HP, hB1⟩ := hrel
      have hle := HP.out.le
      have HLF := Lib.hid (left_any _ s a 0 hs hle wr HP.out.ci.cur)
      by_cases hlt : a < s.size
      · have hpos : decide (0 < (s.size : Int) - (a : Int)) = true := decide_eq_true (by omega)
        go_wp2_with fail
        refine (HLF.out).mono ?_
        rintro e w2 ⟨rfl, d, rfl⟩
        have HP2 := Lib.hid (HP.out.drewN d)
        have HT1 := Lib.hid (two_px hs HP2.out)
        have hB2 : Hid (w.heap.size + 1 ≤ (wr.drewN d).heap.size) := hB1.out
        generalize wr.drewN d = w2 at *
        have hv1 := numB_lt s a 0 2
        have HC := Lib.hid (fun n (p : ByteArray) a2 e2 a3 e3 => fit_case s a hlt (a2 := a2) (e2 := e2) (a3 := a3) (e3 := e3) (n := n) (p := p) rfl rfl rfl)
        generalize numB s a 0 2 = v1 at *
        generalize atB s a 0 (2 : Nat) = a1 at *
        generalize errB s a 0 (2 : Nat) = e1 at *
        clear HLF HP hB1 hpos
        go_wp2_with fail
        refine (HT1.out).mono ?_
        rintro e w3 ⟨rfl, hp3⟩
        have HT2 := Lib.hid (two_px hs hp3)
        have hv2 := numB_lt s a1 e1 2
        have HC2 := Lib.hid (fun (p : ByteArray) a3 e3 => HC.out _ p _ _ a3 e3 rfl rfl rfl)
        generalize numB s a1 e1 2 = n at *
        generalize atB s a1 e1 (2 : Nat) = a2 at *
        generalize errB s a1 e1 (2 : Nat) = e2 at *
        clear HC HT1 hp3
        go_wp2_with fail
        refine (HT2.out).mono ?_
        rintro e w4 ⟨rfl, hp4⟩
        have HT3 := Lib.hid (take_px n hs (by omega) hp4)
        have HC3 := Lib.hid (HC2.out _ _ _ rfl rfl rfl)
        generalize piece s a2 e2 (n : Nat) = p at *
        generalize atB s a2 e2 (n : Nat) = a3 at *
        generalize errB s a2 e2 (n : Nat) = e3 at *
        clear HC2 HT2 hp4
        go_wp2_with fail
        refine (HT3.out).mono ?_
        rintro e w5 ⟨rfl, hp5⟩
        have HER := Lib.hid (err_ci hp5.ci)
        have HP5 := Lib.hid hp5
        clear HT3 hp5
        go_wp2_with fail
        refine (HER.out).mono ?_
        rintro e w6 ⟨rfl, rfl⟩
        rcases HC3.out with ⟨he, hfit, ha3, hfd⟩ | ⟨he, hfit⟩
        · subst he
          subst ha3
          have HQ2 := Lib.hid ((prs_step (acc := l) hfit).symm.trans HQ.out)
          have hfd' := hfd
          clear HC3 HQ
          obtain ⟨A, cap, rfl⟩ := slice_of_own HP5.out.row
          have hb5 : w.heap.size + 1 ≤ w5.heap.size := HP5.out.ci.lt
          have hx5 := heap_alloc_new w5 (.cells #[.int .u16 (v1 : Nat), .string p] 140)
          have HX5 := Lib.hid hx5
          have HB5 := Lib.hid hb5
          have HF := Lib.hid hfd
          clear hx5 hb5 hfd hfd' hle
          go_wp2_with (at_builtin; go_must (refine wpList_append_own_at _ rfl (.tmp 26) (.tmp 30) _ rfl (w.heap.size + 1) 140 i0 (.agg #[.int .u16 0, .string ⟨#[]⟩]) 2 24 Tryz.underlying67 hi hz0 hz1 hz2 rfl (by decide) (.slice A l.length cap) l.length _ rfl (HP5.out.row.alloc _) ⟨w5.heap.size, 0, none⟩ 1 1 [.int .u16 (v1 : Nat), .string p] rfl rfl (cells2 HX5.out) (cellF_one ⟨v1, p⟩) (by unfold maxLen; omega) (by omega) (by have h3 := HB5.out; simp; omega) ?_; intro v' w6 hown' hgrow hnil hloc))
          have HP6 : Hid (PX w w6 s (a + 4 + idA s (a + 2)) 0 v' (l ++ [fdA s a])) := by
            refine ⟨⟨?_, ?_⟩, hfit, ?_⟩
            · exact (HP5.out.ci.cur.alloc _).grown hgrow (fun k => HP5.out.ne k.symm)
            · exact (HP5.out.ci.bel.alloc (by have h3 := HB5.out; omega) _).grown hgrow (by have h3 := HB5.out; simp; omega) (fun g hg => by have := (HP5.out.row.lt g hg).1; omega)
            · rw [← HF.out, List.length_append, cellsF_app]
              exact hown'
          have HS6 : Hid (w.heap.size + 1 ≤ w6.heap.size) := HP6.out.ci.lt
          clear hown' hgrow hnil hloc
          go_wp2_with fail
          go_roundg (s.size - (a + 4 + idA s (a + 2)))
          case measure => omega
          case rel => exact ⟨_, _, by rw [List.length_append]; simp; omega, Nat.le_refl _, HQ2.out, HP6.out, HS6.out⟩
        · have heb : ((e3 : Int) != 0) = true := by rw [bne_iff_ne]; omega
          have HN := Lib.hid (HNO.out (HQ.out.symm.trans (prs_no hlt hfit)))
          clear HC3 HQ hfit
          go_wp2_with fail
          go_ret2
          rw [HN.out.1, HN.out.2]
          exact ⟨none, 0, rfl, Fds.nil _ _, (fun _ => ⟨rfl, rfl⟩), (fun a e => by cases e), HP5.out.ci.bel⟩
      · have hpos : decide (0 < (s.size : Int) - (a : Int)) = false := decide_eq_false (by omega)
        have HN := Lib.hid (HYES.out _ (HQ.out.symm.trans (prs_end (by omega))))
        obtain ⟨A, cap, rfl⟩ := slice_of_own HP.out.row
        go_wp2_with fail
        refine (HLF.out).mono ?_
        rintro e w2 ⟨rfl, d, rfl⟩
        go_wp2_with fail
        go_ret2
        rw [HN.out.1, HN.out.2]
        exact ⟨A, cap, rfl, fds_of_own (HP.out.drewN d).row, nil_of_own (HP.out.drewN d).row, new_of_own (HP.out.drewN d).row (Nat.le_succ _), (HP.out.drewN d).ci.bel⟩
set_option maxHeartbeats 8000000 in
theorem concatF_any (gc n : Nat) (As : Nat → Option Addr) (cp : Nat → Nat) (rs : Nat → List Fd) (hn : n ≤ 10) (htot : (joinF rs n).length ≤ 50000) (w : World) (hgc : gc < w.heap.size)
    (hc : ∀ i, i < n → w.cell? ⟨gc, i, none⟩ = some (.slice (As i) (rs i).length (cp i))) (hr : ∀ i, i < n → Fds w (As i) (rs i)) (h0 : ∀ i, i < n → Nil0 (As i) (rs i).length (cp i)) :
    Calls Tryz.prog 67 #[.slice (some ⟨gc, 0, none⟩) n n] w fun e w' => ∃ A cap, e = .returned (.slice A (joinF rs n).length cap) ∧ Fds w' A (joinF rs n) ∧ Nil0 A (joinF rs n).length cap ∧ Below w.heap.size w w' := by
  have HC := Lib.hid hc
  have HR := Lib.hid hr
  have H0 := Lib.hid h0
  have hmono : ∀ k, k ≤ n → (joinF rs k).length ≤ (joinF rs n).length := fun k hk => by
    have := joinF_mono rs k (n - k)
    rwa [show k + (n - k) = n by omega] at this
  have HMO := Lib.hid hmono
  have HTOT := Lib.hid htot
  have HJ := Lib.hid (fun k => show joinF rs (k + 1) = joinF rs k ++ rs k from rfl)
  have HG := Lib.hid (growF_any (joinF rs n).length (by omega) w)
  clear hc hr hmono htot h0
  go_enter Tryz.func67, Tryz.ntmps67
  go_wp2_with fail
  go_loop [3, 11] (fun t i => ∃ k : Nat, k ≤ n ∧ i = .int .i64 (k : Nat) ∧ t = .int .i64 ((joinF rs k).length : Nat)) (fun _ i => n - (intOf i).toNat)
  case atStart => exact ⟨0, Nat.zero_le _, rfl, rfl⟩
  case round =>
    obtain ⟨k, hk, rfl, rfl⟩ := hrel
    by_cases hlt : k < n
    · have hcell := HC.out k hlt
      have hm1 := HMO.out (k + 1) (by omega)
      have hm2 := HMO.out k hk
      have hj := congrArg List.length (HJ.out k)
      rw [List.length_append] at hj
      have HJL := Lib.hid hj
      have htt := HTOT.out
      have hll : (rs k).length ≤ 100000 := by omega
      have hkk : (joinF rs k).length ≤ 100000 := by omega
      clear hm1 hm2 hj htt
      generalize (joinF rs k).length = a at *
      generalize (rs k).length = b at *
      generalize As k = A1 at *
      go_wp2_with fail
      go_round
      case rel => exact ⟨k + 1, by omega, by go_num, by rw [HJL.out]; go_num⟩
      case measure => simp [intOf]; omega
    · obtain rfl : k = n := by omega
      have htt := HTOT.out
      go_wp2_with fail
      refine (HG.out).mono ?_; rintro e w1 ⟨G, rfl, hown, hb⟩
      have HO1 := Lib.hid hown
      have HB1 := Lib.hid hb
      clear hown hb HG
      obtain ⟨i0, hi, hz0, hz1, hz2⟩ := info_parts parts_fd
      go_wp2_with fail
      go_loopw [6, 27] (fun v i wr => ∃ j, j ≤ k ∧ i = .int .i64 (j : Nat) ∧ Hid (wr.ownsRow w.heap.size 140 2 v (joinF rs j).length (cellsF (joinF rs j))) ∧ Hid (Below w.heap.size w wr)) (fun _ i _ => k - (intOf i).toNat)
      case atStart => exact ⟨0, Nat.zero_le _, rfl, HO1.out, HB1.out⟩
      case round =>
        obtain ⟨j, hj, rfl, HO, HB⟩ := hrel
        obtain ⟨A2, cp2, rfl⟩ := slice_of_own HO.out
        by_cases hjk : j < k
        · have hcell : wr.cell? ⟨gc, j, none⟩ = some (.slice (As j) (rs j).length (cp j)) := (HB.out.cell (p := ⟨gc, j, none⟩) hgc).trans (HC.out j hjk)
          have HRJ := Lib.hid ((HR.out j hjk).below (Nat.le_refl _) HB.out)
          have HN0 := Lib.hid (H0.out j hjk)
          have hm1 := HMO.out (j + 1) (by omega)
          have hJ := congrArg List.length (HJ.out j)
          rw [List.length_append] at hJ
          have HJJ := Lib.hid (HJ.out j)
          have hsum : (joinF rs j).length + (rs j).length ≤ 50000 := by omega
          have hbase : w.heap.size ≤ wr.heap.size := HB.out.size
          have HCL := Lib.hid (cellsF_len (rs j))
          have HON := Lib.hid (cellsF_ones (rs j))
          clear hm1 hJ
          generalize As j = A1 at *
          cases A1 with
          | none =>
            obtain ⟨hz, hcz⟩ := HN0.out rfl
            have hnil : rs j = [] := List.eq_nil_of_length_eq_zero hz
            rw [hz, hcz] at hcell
            have HNIL := Lib.hid hnil
            have HRN := Lib.hid (fun ty => run_append_owned_none wr w.heap.size 67 ty 140 i0 2 Tryz.underlying67 hi _ _ _ HO.out)
            have HJ2 : Hid (joinF rs (j + 1) = joinF rs j) := by show _ = _; rw [HJJ.out, HNIL.out, List.append_nil]
            clear hnil HJJ HRJ
            go_wp2_with (at_builtin; refine Lib.wpList_append_run _ rfl _ _ _ _ rfl _ _ rfl rfl _ _ (HRN.out _) ?_)
            go_roundw
            case rel => exact ⟨j + 1, by omega, by go_num, by rw [HJ2.out]; exact HO.out, HB.out⟩
            case measure => simp [intOf]; omega
          | some ad =>
            have HNW := Lib.hid (cellsF_news HRJ.out)
            generalize hNE : cellsF (rs j) = news at *
            generalize hLE : (rs j).length = b at *
            have HLE := Lib.hid hLE
            have HNE := Lib.hid hNE
            clear hNE hLE
            generalize hLA : (joinF rs j).length = a at *
            have HLA := Lib.hid hLA
            clear hLA
            go_wp2_with (at_builtin; refine wpList_append_own_at _ rfl (.tmp 31) (.tmp 32) _ rfl w.heap.size 140 i0 (.agg #[.int .u16 0, .string ⟨#[]⟩]) 2 24 Tryz.underlying67 hi hz0 hz1 hz2 rfl (by decide) _ a (cellsF (joinF rs j)) rfl HO.out ad b (cp j) news rfl HCL.out HNW.out HON.out (by unfold maxLen; omega) (by omega) hbase ?_)
            intro v2 w2 hown hgrow _ hat
            have HB2 := Lib.hid (HB.out.grown hgrow hbase (fun q hq => (HO.out.lt q hq).1))
            have HO2 : Hid (w2.ownsRow w.heap.size 140 2 v2 (joinF rs (j + 1)).length (cellsF (joinF rs (j + 1)))) := by
              show World.ownsRow _ _ _ _ _ _ _
              rw [HJJ.out, cellsF_app, HNE.out, List.length_append, HLA.out, HLE.out]
              exact hown
            clear hown hgrow hat
            go_wp2_with fail
            go_roundw
            case rel => exact ⟨j + 1, by omega, by go_num, HO2.out, HB2.out⟩
            case measure => simp [intOf]; omega
        · obtain rfl : j = k := by omega
          have HN0 := Lib.hid (nil_of_own HO.out)
          go_wp2_with fail
          go_ret
          exact ⟨A2, cp2, rfl, fds_of_own HO.out, HN0.out, HB.out⟩
end Go.Proofs.YtijfcmlgohbndaaGreatDoor

namespace Go.Proofs.YtijfcmlgohbndaaGreatDoor
set_option maxRecDepth 100000
set_option linter.unusedSimpArgs false
set_option linter.unusedVariables false
open Go.RowKit Go.Joins Go.Deep
/-- An entry. -/
structure Ent where
  nm : ByteArray
  made : Nat
  need : Nat
  flags : Nat
  method : Nat
  time : Nat
  sum : Nat
  packed : Nat
  size : Nat
  inner : Nat
  outer : Nat
  off : Nat
  ext : ByteArray
  com : ByteArray
  loc : ByteArray
  beg : Nat
  fin : Nat
def Ent.cells (E : Ent) : Array Value := #[.string E.nm, .int .u16 (E.made : Nat), .int .u16 (E.need : Nat), .int .u16 (E.flags : Nat), .int .u16 (E.method : Nat), .int .u32 (E.time : Nat), .int .u32 (E.sum : Nat), .int .u64 (E.packed : Nat), .int .u64 (E.size : Nat), .int .u16 (E.inner : Nat), .int .u32 (E.outer : Nat), .int .u64 (E.off : Nat), .string E.ext, .string E.com, .string E.loc, .int .u64 (E.beg : Nat), .int .u64 (E.fin : Nat)]
/-- What is asked of an entry: its texts' sizes, its numbers. -/
def EntOk (E : Ent) : Prop := E.nm.size ≤ 1000000 ∧ E.ext.size ≤ 1000000 ∧ E.loc.size ≤ 1000000 ∧ E.flags < 65536 ∧ E.made < 65536 ∧ E.outer < 4294967296 ∧ E.time < 4294967296
def flB (E : Ent) : Bool := parE E.loc == 0 && parE E.ext == 0
def flL (E : Ent) : List Fd := if flB E = true then parL E.loc else []
def flC (E : Ent) : List Fd := if flB E = true then parL E.ext else []
/-- Fields of an entry, local and central. -/
def FsV (w : World) (F : Array Value) (l1 l2 : List Fd) : Prop := ∃ A1 c1 A2 c2, F = #[.slice A1 l1.length c1, .slice A2 l2.length c2] ∧ Fds w A1 l1 ∧ Nil0 A1 l1.length c1 ∧ Fds w A2 l2 ∧ Nil0 A2 l2.length c2
theorem FsV.below {w w' : World} {F : Array Value} {l1 l2 : List Fd} (h : FsV w F l1 l2) (hb : Below w.heap.size w w') : FsV w' F l1 l2 := by
  obtain ⟨A1, c1, A2, c2, e, h1, n1, h2, n2⟩ := h
  exact ⟨A1, c1, A2, c2, e, h1.below (Nat.le_refl _) hb, n1, h2.below (Nat.le_refl _) hb, n2⟩
theorem FsV.nil (w : World) : FsV w #[.slice none 0 0, .slice none 0 0] [] [] := ⟨none, 0, none, 0, rfl, Fds.nil _ _, fun _ => ⟨rfl, rfl⟩, Fds.nil _ _, fun _ => ⟨rfl, rfl⟩⟩
theorem flL_len (E : Ent) : (flL E).length ≤ 16384 := by
  unfold flL
  split
  · exact parL_len4 _
  · exact Nat.zero_le _
theorem flC_len (E : Ent) : (flC E).length ≤ 16384 := by
  unfold flC
  split
  · exact parL_len4 _
  · exact Nat.zero_le _
theorem parE_forms (s : ByteArray) : parE s = 0 ∨ parE s = 5 ∨ parE s = 24 := by
  unfold parE
  split
  · exact .inr (.inl rfl)
  · split
    · exact .inl rfl
    · exact .inr (.inr rfl)
theorem results_ct_rowF {P : Program} {fn : Func} {p u : Tmp} {ty : TypeId} (h : fn.results = #[.cell p ty, .tmp u]) (tmps : Array Value) (w : World) (g : Nat) (t : TypeId) (cs : Array Value) (fr : Nat × Nat) (d : TypeDesc)
    (hp : tmps.getD p undef = .pointer (some ⟨g, 0, none⟩)) (hg : w.heap[g]? = some (.cells cs t fr))
    (hu : P.underlying ty = some d) (hd : (match d with | .struct _ | .array _ _ => true | _ => false) = true) (hi : (P.info? ty).map (·.size) = some cs.size) :
    (results fn tmps).run P w = .ok (.tuple #[.agg cs, tmps.getD u undef]) w := by
  rw [results_cell_tmp h, hp]
  simp [asAddr, run_loadVar_row w g t ty cs fr d hg hu hd hi, Result.andThen]
theorem info_fields : (Tryz.prog.info? 69).map (·.size) = some 2 := by kernel_rfl
set_option maxHeartbeats 8000000 in
theorem fieldsOf_any (E : Ent) (hE : EntOk E) (w : World) :
    Calls Tryz.prog 21 #[.agg E.cells] w fun e w' => ∃ F, e = .returned (.tuple #[.agg F, .int .i64 (if flB E = true then 0 else 24 : Int)]) ∧ FsV w' F (flL E) (flC E) ∧ Below w.heap.size w w' := by
  obtain ⟨h1, h2, h3, _⟩ := hE
  have HP1 := Lib.hid (fun w1 => parse0_any E.loc (by unfold maxLen; omega) w1)
  have HP2 := Lib.hid (fun w1 => parse0_any E.ext (by unfold maxLen; omega) w1)
  have HF1 := Lib.hid (parE_forms E.loc)
  have HF2 := Lib.hid (parE_forms E.ext)
  have HB : Hid (flB E = (parE E.loc == 0 && parE E.ext == 0)) := rfl
  have HL : Hid (flL E = if flB E = true then parL E.loc else []) := rfl
  have HC : Hid (flC E = if flB E = true then parL E.ext else []) := rfl
  obtain ⟨w1, hw1⟩ : ∃ w1, w1 = w.alloc (.cells E.cells 51) := ⟨_, rfl⟩
  have HB1 : Hid (Below w.heap.size w w1) := by show Below _ _ _; rw [hw1]; exact (Below.refl _ _).alloc (Nat.le_refl _) _
  have hx : w1.heap[w.heap.size]? = some (.cells E.cells 51 (0, 0)) := by rw [hw1]; exact heap_alloc_new w _
  have HX := Lib.hid hx
  simp only [Ent.cells] at hw1 HX ⊢
  have HW1 := Lib.hid hw1
  generalize flB E = B at *
  generalize flL E = L at *
  generalize flC E = C at *
  clear hw1 hx
  obtain ⟨w2, hw2⟩ : ∃ w2, w2 = w1.alloc (.cells #[.slice none 0 0, .slice none 0 0] 69) := ⟨_, rfl⟩
  have hb12 : Below w1.heap.size w1 w2 := by rw [hw2]; exact (Below.refl _ _).alloc (Nat.le_refl _) _
  have hsz : w1.heap.size = w.heap.size + 1 := by rw [HW1.out]; simp only [World.alloc, Array.size_push]
  have hy : w2.heap[w.heap.size + 1]? = some (.cells #[.slice none 0 0, .slice none 0 0] 69 (0, 0)) := by rw [hw2, ← hsz]; exact heap_alloc_new w1 _
  have HX2 := Lib.hid ((hb12.block _ (lt_of_block HX.out)).trans HX.out)
  have HY2 := Lib.hid hy
  have HB2 := Lib.hid (below_then HB1.out hb12)
  have HW2 := Lib.hid hw2
  have HSZ : Hid (w2.heap.size = w.heap.size + 2) := by show _ = _; rw [hw2]; simp only [World.alloc, Array.size_push]; omega
  clear HX hb12 hy hw2 hsz HB1
  have x14 : w2.cell? ⟨w.heap.size, 14, none⟩ = some (.string E.loc) := cell_of_row _ _ 14 _ _ _ HX2.out
  go_enter Tryz.func21, Tryz.ntmps21
  go_upto_region 1 with fail
  rw [← HW1.out, ← HW2.out]
  clear HW1 HW2
  go_wp2_with fail
  refine (HP1.out _).mono ?_; rintro e w3 ⟨A1, c1, rfl, hf1, hn1, hw1, hb3⟩
  have HX3 := Lib.hid ((hb3.block _ (lt_of_block HX2.out)).trans HX2.out)
  have HY3 := Lib.hid ((hb3.block _ (lt_of_block HY2.out)).trans HY2.out)
  have HB3 := Lib.hid (below_then HB2.out hb3)
  have x12 : w3.cell? ⟨w.heap.size, 12, none⟩ = some (.string E.ext) := cell_of_row _ _ 12 _ _ _ HX3.out
  have hZ2 : w2.heap.size = w.heap.size + 2 := HSZ.out
  have hb3 := hb3
  clear HX2 HY2 HB2 x14 HP1
  go_wp2_with fail
  refine (HP2.out _).mono ?_; rintro e w4 ⟨A2, c2, rfl, hf2, hn2, hw2, hb4⟩
  have HY4 := Lib.hid ((hb4.block _ (lt_of_block HY3.out)).trans HY3.out)
  have HB4 := Lib.hid (below_then HB3.out hb4)
  have HFD1 := Lib.hid (hf1.below (Nat.le_refl _) hb4)
  have HFD2 := Lib.hid hf2
  have HN1 := Lib.hid hn1
  have HN2 := Lib.hid hn2
  have HV1 : Hid (NewA (w.heap.size + 1 + 1) A1) := fun a e => by have := hw1 a e; omega
  have HV2 : Hid (NewA (w.heap.size + 1 + 1) A2) := fun a e => by have := hw2 a e; have := hb3.size; omega
  clear hb3 hb4 HX3 HY3 HB3 x12 HP2 hf1 hf2 hn1 hn2 hw1 hw2 hZ2
  generalize parE E.loc = p1 at *
  generalize parE E.ext = p2 at *
  by_cases q1 : p1 = 0
  · subst q1
    by_cases q2 : p2 = 0
    · subst q2
      have hBT : B = true := by rw [HB.out]; rfl
      subst hBT
      have HL2 : Hid (L = parL E.loc) := by show _ = _; rw [HL.out, if_pos rfl]
      have HC2 : Hid (C = parL E.ext) := by show _ = _; rw [HC.out, if_pos rfl]
      rw [← HL2.out] at HFD1 HN1 ⊢
      rw [← HC2.out] at HFD2 HN2 ⊢
      clear HL HC HB HF1 HF2
      go_wp2_with (refine wpList_store_row rfl 69 (.tmp 2) (.tmp 29) rfl (w.heap.size + 1) #[.slice A1 L.length c1, .slice A2 C.length c2] rfl rfl 69 _ HY4.out info_fields rfl (by simp [Value.oneCell']) ?_)
      have HY5 := Lib.hid (setRow_heap _ _ _ #[.slice A1 L.length c1, .slice A2 C.length c2] _ _ HY4.out)
      refine bodyPost_ret (results_ct_rowF rfl _ _ (w.heap.size + 1) 69 _ (0, 0) _ rfl HY5.out Tryz.underlying69 rfl info_fields) rfl ⟨_, rfl, ?_, ?_⟩
      · exact ⟨A1, c1, A2, c2, rfl, HFD1.out.setRow HV1.out _, HN1.out, HFD2.out.setRow HV2.out _, HN2.out⟩
      · exact below_setRow HB4.out (Nat.le_succ _) _
    · have n2 : ((p2 : Int) == 0) = false := by rw [beq_eq_false_iff_ne]; omega
      have n3 : ((p2 : Int) != 0) = true := by rw [bne_iff_ne]; omega
      have hBF : B = false := by rw [HB.out]; simp [q2]
      subst hBF
      have HL2 : Hid (L = []) := by show _ = _; rw [HL.out, if_neg (by decide)]
      have HC2 : Hid (C = []) := by show _ = _; rw [HC.out, if_neg (by decide)]
      clear HL HC HB HF1 HF2
      go_wp2_with (refine wpList_store_row rfl 69 (.tmp 2) (.tmp 26) rfl (w.heap.size + 1) #[.slice none 0 0, .slice none 0 0] rfl rfl 69 _ HY4.out info_fields rfl (by simp [Value.oneCell']) ?_)
      have HY5 := Lib.hid (setRow_heap _ _ _ #[.slice none 0 0, .slice none 0 0] _ _ HY4.out)
      refine bodyPost_ret (results_ct_rowF rfl _ _ (w.heap.size + 1) 69 _ (0, 0) _ rfl HY5.out Tryz.underlying69 rfl info_fields) rfl ⟨_, rfl, ?_, ?_⟩
      · rw [HL2.out, HC2.out]; exact FsV.nil _
      · exact below_setRow HB4.out (Nat.le_succ _) _
  · have n1 : ((p1 : Int) != 0) = true := by rw [bne_iff_ne]; omega
    have hBF : B = false := by rw [HB.out]; simp [q1]
    subst hBF
    have HL2 : Hid (L = []) := by show _ = _; rw [HL.out, if_neg (by decide)]
    have HC2 : Hid (C = []) := by show _ = _; rw [HC.out, if_neg (by decide)]
    clear HL HC HB HF1 HF2
    go_wp2_with (refine wpList_store_row rfl 69 (.tmp 2) (.tmp 26) rfl (w.heap.size + 1) #[.slice none 0 0, .slice none 0 0] rfl rfl 69 _ HY4.out info_fields rfl (by simp [Value.oneCell']) ?_)
    have HY5 := Lib.hid (setRow_heap _ _ _ #[.slice none 0 0, .slice none 0 0] _ _ HY4.out)
    refine bodyPost_ret (results_ct_rowF rfl _ _ (w.heap.size + 1) 69 _ (0, 0) _ rfl HY5.out Tryz.underlying69 rfl info_fields) rfl ⟨_, rfl, ?_, ?_⟩
    · rw [HL2.out, HC2.out]; exact FsV.nil _
    · exact below_setRow HB4.out (Nat.le_succ _) _
end Go.Proofs.YtijfcmlgohbndaaGreatDoor

namespace Go.Proofs.YtijfcmlgohbndaaGreatDoor
set_option maxRecDepth 100000
set_option linter.unusedSimpArgs false
set_option linter.unusedVariables false
open Go.RowKit Go.Joins Go.Deep
/-- An item. -/
structure Itm where
  s : ByteArray
  k : Int
  m : Int
  u : Int
  g : Int
  t : Int
  a : Int
  d : ByteArray
instance : Inhabited Itm := ⟨⟨⟨#[]⟩, 0, 0, 0, 0, 0, 0, ⟨#[]⟩⟩⟩
/-- Its cells. -/
def Itm.cells (x : Itm) : Array Value := #[.string x.s, .int .i64 x.k, .int .u32 x.m, .int .u32 x.u, .int .u32 x.g, .int .i64 x.t, .int .i64 x.a, .string x.d]
def Itm.cellsL (x : Itm) : List Value := [.string x.s, .int .i64 x.k, .int .u32 x.m, .int .u32 x.u, .int .u32 x.g, .int .i64 x.t, .int .i64 x.a, .string x.d]
theorem itm_cells (x : Itm) : x.cellsL.toArray = x.cells := rfl
theorem itm_list (x : Itm) : x.cells.toList = x.cellsL := rfl
theorem itm_one (x : Itm) : x.cells.all (·.oneCell') = true := by simp [Itm.cells, Value.oneCell']
/-- Items in memory. -/
def Itms (w : World) (A : Option Addr) (l : List Itm) : Prop := 0 < l.length → ∃ b off, A = some ⟨b, off, none⟩ ∧ b < w.heap.size ∧ ∀ (k : Nat) x, l[k]? = some x →
  w.cell? ⟨b, off + k * 8, none⟩ = some (.string x.s) ∧ w.cell? ⟨b, off + k * 8 + 1, none⟩ = some (.int .i64 x.k) ∧ w.cell? ⟨b, off + k * 8 + 2, none⟩ = some (.int .u32 x.m) ∧ w.cell? ⟨b, off + k * 8 + 3, none⟩ = some (.int .u32 x.u) ∧
  w.cell? ⟨b, off + k * 8 + 4, none⟩ = some (.int .u32 x.g) ∧ w.cell? ⟨b, off + k * 8 + 5, none⟩ = some (.int .i64 x.t) ∧ w.cell? ⟨b, off + k * 8 + 6, none⟩ = some (.int .i64 x.a) ∧ w.cell? ⟨b, off + k * 8 + 7, none⟩ = some (.string x.d)
theorem Itms.below {w w' : World} {A : Option Addr} {l : List Itm} (h : Itms w A l) (hb : Below w.heap.size w w') : Itms w' A l := fun h0 => by
  obtain ⟨b, off, e, hlt, hc⟩ := h h0
  refine ⟨b, off, e, Nat.lt_of_lt_of_le hlt hb.size, fun k x hx => ?_⟩
  obtain ⟨c0, c1, c2, c3, c4, c5, c6, c7⟩ := hc k x hx
  exact ⟨(hb.cell hlt).trans c0, (hb.cell hlt).trans c1, (hb.cell hlt).trans c2, (hb.cell hlt).trans c3, (hb.cell hlt).trans c4, (hb.cell hlt).trans c5, (hb.cell hlt).trans c6, (hb.cell hlt).trans c7⟩
theorem Itms.nil (w : World) (A : Option Addr) : Itms w A [] := fun h => absurd h (by decide)
theorem Itms.none {w : World} {l : List Itm} (h : Itms w none l) : l = [] := by
  cases l with
  | nil => rfl
  | cons x l => obtain ⟨b, off, e, _⟩ := h (by simp); cases e
theorem Itms.range {w : World} {b off : Nat} {l : List Itm} (h : Itms w (some ⟨b, off, Option.none⟩) l) (k : Nat) (x : Itm) (hx : l[k]? = some x) : w.rangeAt b (off + k * 8) x.cellsL := by
  obtain ⟨b', off', e, _, hc⟩ := h (by have := (List.getElem?_eq_some_iff.1 hx).1; omega)
  injection e with e
  injection e with e1 e2 _
  subst e1 e2
  obtain ⟨c0, c1, c2, c3, c4, c5, c6, c7⟩ := hc k x hx
  intro j v hv
  have hj : j < 8 := (List.getElem?_eq_some_iff.1 hv).1
  have h8 : j = 0 ∨ j = 1 ∨ j = 2 ∨ j = 3 ∨ j = 4 ∨ j = 5 ∨ j = 6 ∨ j = 7 := by omega
  rcases h8 with rfl | rfl | rfl | rfl | rfl | rfl | rfl | rfl <;> (injection hv with hv; subst hv; assumption)
/-- The cells of a row of items. -/
def cellsI : List Itm → List Value
  | [] => []
  | x :: l => x.cellsL ++ cellsI l
theorem cellsI_app (l m : List Itm) : cellsI (l ++ m) = cellsI l ++ cellsI m := by
  induction l with
  | nil => rfl
  | cons x l ih => simp only [List.cons_append, cellsI, ih, List.append_assoc]
theorem cellsI_len (l : List Itm) : (cellsI l).length = l.length * 8 := by
  induction l with
  | nil => rfl
  | cons x l ih => rw [cellsI, List.length_append, ih, List.length_cons]; show 8 + _ = _; omega
theorem cellsI_one (l : List Itm) : ∀ u ∈ cellsI l, u.oneCell' = true := by
  induction l with
  | nil => intro u h; cases h
  | cons x l ih =>
    intro u h
    rw [cellsI] at h
    rcases List.mem_append.1 h with h | h
    · simp only [Itm.cellsL, List.mem_cons, List.not_mem_nil, or_false] at h
      rcases h with rfl | rfl | rfl | rfl | rfl | rfl | rfl | rfl <;> rfl
    · exact ih u h
theorem cellsI_get : ∀ (l : List Itm) (i : Nat) (x : Itm), l[i]? = some x → ∀ j v, x.cellsL[j]? = some v → (cellsI l)[i * 8 + j]? = some v
  | y :: l, 0, x, h, j, v, hv => by
    injection h with h
    subst h
    rw [cellsI, Nat.zero_mul, Nat.zero_add, List.getElem?_append_left (show j < y.cellsL.length from (List.getElem?_eq_some_iff.1 hv).1)]
    exact hv
  | y :: l, i + 1, x, h, j, v, hv => by
    rw [cellsI, List.getElem?_append_right (show y.cellsL.length ≤ (i + 1) * 8 + j by show 8 ≤ _; omega), show (i + 1) * 8 + j - y.cellsL.length = i * 8 + j by show (i + 1) * 8 + j - 8 = _; omega]
    exact cellsI_get l i x (by simpa using h) j v hv
  | [], i, x, h, _, _, _ => by cases h
theorem info_item : (Tryz.prog.info? 47).map (·.size) = some 8 := by kernel_rfl
theorem parts_item : (Tryz.prog.info? 47).map (fun i => (i.zero, i.size, i.bytes)) = some (some (.agg #[.string ⟨#[]⟩, .int .i64 0, .int .u32 0, .int .u32 0, .int .u32 0, .int .i64 0, .int .i64 0, .string ⟨#[]⟩]), 8, 72) := by kernel_rfl
/-- Items in a block of their own: they are there, and may be written. -/
def IO (w : World) (g : Nat) (l : List Itm) : Prop := g < w.heap.size ∧ ∀ (k : Nat) x, l[k]? = some x → w.rangeAt g (k * 8) x.cellsL ∧ w.there g (k * 8) 8
theorem IO.itms {w : World} {g : Nat} {l : List Itm} (h : IO w g l) : Itms w (some ⟨g, 0, none⟩) l := fun h0 => by
  refine ⟨g, 0, rfl, h.1, fun k x hx => ?_⟩
  have hr := (h.2 k x hx).1
  rw [Nat.zero_add]
  exact ⟨hr 0 _ rfl, hr 1 _ rfl, hr 2 _ rfl, hr 3 _ rfl, hr 4 _ rfl, hr 5 _ rfl, hr 6 _ rfl, hr 7 _ rfl⟩
theorem IO.below {w w' : World} {g : Nat} {l : List Itm} (h : IO w g l) (hb : Below w.heap.size w w') : IO w' g l :=
  ⟨Nat.lt_of_lt_of_le h.1 hb.size, fun k x hx => ⟨fun j v hv => (World.cell?_of_block (hb.block g h.1)).trans ((h.2 k x hx).1 j v hv), fun j hj => by
    have := (h.2 k x hx).2 j hj
    exact ⟨by rw [World.cell?_of_block (hb.block g h.1)]; exact this.1, by rw [World.frozen?_of_block (hb.block g h.1)]; exact this.2⟩⟩⟩
theorem size_setCells (b : Nat) : ∀ (vs : List Value) (o : Nat) (w : World), (w.setCells b o vs).heap.size = w.heap.size
  | [], _, _ => rfl
  | v :: r, o, w => by rw [World.setCells, size_setCells b r]; simp [World.setCell]
theorem IO.store {w : World} {g : Nat} {l : List Itm} (h : IO w g l) (k : Nat) (y : Itm) (hk : k < l.length) : IO (w.setCells g (k * 8) y.cellsL) g (l.set k y) := by
  refine ⟨by rw [size_setCells]; exact h.1, fun j x hx => ?_⟩
  by_cases e : k = j
  · subst e
    rw [List.getElem?_set_self hk] at hx
    injection hx with hx
    subst hx
    have ht := (h.2 k l[k] (List.getElem?_eq_getElem hk)).2
    exact ⟨World.rangeAt_setCells_same _ _ _ _ ht, World.there_setCells ht _ _ _⟩
  · rw [List.getElem?_set_ne e] at hx
    have hj := h.2 j x hx
    have e1 : y.cellsL.length = 8 := rfl
    have e2 : x.cellsL.length = 8 := rfl
    exact ⟨World.rangeAt_setCells_apart hj.1 _ _ _ (by rw [e1, e2]; omega), World.there_setCells hj.2 _ _ _⟩
theorem IO.take {w : World} {g : Nat} {l : List Itm} (h : IO w g l) (n : Nat) : IO w g (l.take n) := ⟨h.1, fun k x hx => h.2 k x (by
  rw [List.getElem?_take] at hx
  split at hx
  · exact hx
  · cases hx)⟩
theorem IO.drewN {w : World} {g : Nat} {l : List Itm} (h : IO w g l) (n : Nat) : IO (w.drewN n) g l := h
theorem below_setCells' {w : World} {b : Nat} {B : Nat} (hb : B ≤ b) : ∀ (vs : List Value) (o : Nat) (w1 : World), Below B w w1 → Below B w (w1.setCells b o vs)
  | [], _, _, h => h
  | v :: r, o, w1, h => by rw [World.setCells]; exact below_setCells' hb r (o + 1) _ (h.setCell (p := ⟨b, o, none⟩) hb v)
theorem io_of_own {w : World} {B g cap : Nat} {T : TypeId} {l : List Itm} (h : w.ownsRow B T 8 (.slice (some ⟨g, 0, none⟩) l.length cap) l.length (cellsI l)) : IO w g l := by
  have hlt := (h.lt g rfl).2
  refine ⟨hlt, fun k x hx => ?_⟩
  have hk : k < l.length := (List.getElem?_eq_some_iff.1 hx).1
  have hr : w.rangeAt g (k * 8) x.cellsL := fun j v hv => by
    have hj : j < 8 := (List.getElem?_eq_some_iff.1 hv).1
    rw [h.cellAt (k * 8 + j) (by omega)]
    exact cellsI_get l k x hx j v hv
  exact ⟨hr, fun j hj => ⟨hr.isSome j hj, h.frozenAt _⟩⟩
theorem eqv_node (k m u g t a : Int) (d : ByteArray) (w : World) : (Op.equalIn 9999 45 (.agg #[.int .i64 k, .int .u32 m, .int .u32 u, .int .u32 g, .int .i64 t, .int .i64 a, .string d]) (.agg #[.int .i64 k, .int .u32 m, .int .u32 u, .int .u32 g, .int .i64 t, .int .i64 a, .string d])).run Tryz.prog w = .ok true w := by
  rw [run_equalIn_struct w 9998 45 _ _ (by kernel_rfl) (by kernel_rfl)]
  simp [go_sem, Program.fieldsOf, Tryz.underlying45]
end Go.Proofs.YtijfcmlgohbndaaGreatDoor

namespace Go.Proofs.YtijfcmlgohbndaaGreatDoor
set_option maxRecDepth 100000
set_option linter.unusedSimpArgs false
set_option linter.unusedVariables false
open Go.RowKit Go.Joins Go.Deep
instance : Inhabited Ent := ⟨⟨⟨#[]⟩, 0, 0, 0, 0, 0, 0, 0, 0, 0, 0, 0, ⟨#[]⟩, ⟨#[]⟩, ⟨#[]⟩, 0, 0⟩⟩
def Ent.cellsL (E : Ent) : List Value := [.string E.nm, .int .u16 (E.made : Nat), .int .u16 (E.need : Nat), .int .u16 (E.flags : Nat), .int .u16 (E.method : Nat), .int .u32 (E.time : Nat), .int .u32 (E.sum : Nat), .int .u64 (E.packed : Nat), .int .u64 (E.size : Nat), .int .u16 (E.inner : Nat), .int .u32 (E.outer : Nat), .int .u64 (E.off : Nat), .string E.ext, .string E.com, .string E.loc, .int .u64 (E.beg : Nat), .int .u64 (E.fin : Nat)]
/-- Entries in memory. -/
def Ents (w : World) (A : Option Addr) (l : List Ent) : Prop := 0 < l.length → ∃ b off, A = some ⟨b, off, none⟩ ∧ b < w.heap.size ∧ ∀ (k : Nat) E, l[k]? = some E → w.rangeAt b (off + k * 17) E.cellsL
theorem Ents.below {w w' : World} {A : Option Addr} {l : List Ent} (h : Ents w A l) (hb : Below w.heap.size w w') : Ents w' A l := fun h0 => by
  obtain ⟨b, off, e, hlt, hc⟩ := h h0
  exact ⟨b, off, e, Nat.lt_of_lt_of_le hlt hb.size, fun k E hE j v hv => (hb.cell (p := ⟨b, off + k * 17 + j, none⟩) hlt).trans (hc k E hE j v hv)⟩
theorem Ents.nil (w : World) (A : Option Addr) : Ents w A [] := fun h => absurd h (by decide)
/-- The cells of one entry. -/
def Ent17 (w : World) (b o : Nat) (E : Ent) : Prop :=
  w.cell? ⟨b, o, none⟩ = some (.string E.nm) ∧ w.cell? ⟨b, o + 1, none⟩ = some (.int .u16 (E.made : Nat)) ∧ w.cell? ⟨b, o + 2, none⟩ = some (.int .u16 (E.need : Nat)) ∧ w.cell? ⟨b, o + 3, none⟩ = some (.int .u16 (E.flags : Nat)) ∧
  w.cell? ⟨b, o + 4, none⟩ = some (.int .u16 (E.method : Nat)) ∧ w.cell? ⟨b, o + 5, none⟩ = some (.int .u32 (E.time : Nat)) ∧ w.cell? ⟨b, o + 6, none⟩ = some (.int .u32 (E.sum : Nat)) ∧ w.cell? ⟨b, o + 7, none⟩ = some (.int .u64 (E.packed : Nat)) ∧
  w.cell? ⟨b, o + 8, none⟩ = some (.int .u64 (E.size : Nat)) ∧ w.cell? ⟨b, o + 9, none⟩ = some (.int .u16 (E.inner : Nat)) ∧ w.cell? ⟨b, o + 10, none⟩ = some (.int .u32 (E.outer : Nat)) ∧ w.cell? ⟨b, o + 11, none⟩ = some (.int .u64 (E.off : Nat)) ∧
  w.cell? ⟨b, o + 12, none⟩ = some (.string E.ext) ∧ w.cell? ⟨b, o + 13, none⟩ = some (.string E.com) ∧ w.cell? ⟨b, o + 14, none⟩ = some (.string E.loc) ∧ w.cell? ⟨b, o + 15, none⟩ = some (.int .u64 (E.beg : Nat)) ∧ w.cell? ⟨b, o + 16, none⟩ = some (.int .u64 (E.fin : Nat))
theorem ent17_of {w : World} {b o : Nat} {E : Ent} (h : w.rangeAt b o E.cellsL) : Ent17 w b o E :=
  ⟨h 0 _ rfl, h 1 _ rfl, h 2 _ rfl, h 3 _ rfl, h 4 _ rfl, h 5 _ rfl, h 6 _ rfl, h 7 _ rfl, h 8 _ rfl, h 9 _ rfl, h 10 _ rfl, h 11 _ rfl, h 12 _ rfl, h 13 _ rfl, h 14 _ rfl, h 15 _ rfl, h 16 _ rfl⟩
/-- An entry in a box. -/
theorem ent_box {w : World} {g : Nat} {E : Ent} (h : w.heap[g]? = some (.cells E.cells 51 (0, 0))) : Ent17 w g 0 E :=
  ⟨(cell_of_row _ _ 0 _ _ _ h).trans rfl, (cell_of_row _ _ 1 _ _ _ h).trans rfl, (cell_of_row _ _ 2 _ _ _ h).trans rfl, (cell_of_row _ _ 3 _ _ _ h).trans rfl, (cell_of_row _ _ 4 _ _ _ h).trans rfl, (cell_of_row _ _ 5 _ _ _ h).trans rfl, (cell_of_row _ _ 6 _ _ _ h).trans rfl, (cell_of_row _ _ 7 _ _ _ h).trans rfl, (cell_of_row _ _ 8 _ _ _ h).trans rfl, (cell_of_row _ _ 9 _ _ _ h).trans rfl, (cell_of_row _ _ 10 _ _ _ h).trans rfl, (cell_of_row _ _ 11 _ _ _ h).trans rfl, (cell_of_row _ _ 12 _ _ _ h).trans rfl, (cell_of_row _ _ 13 _ _ _ h).trans rfl, (cell_of_row _ _ 14 _ _ _ h).trans rfl, (cell_of_row _ _ 15 _ _ _ h).trans rfl, (cell_of_row _ _ 16 _ _ _ h).trans rfl⟩
theorem info_entE : (Tryz.prog.info? 51).map (·.size) = some 17 := by kernel_rfl
theorem ent_cells (E : Ent) : E.cellsL.toArray = E.cells := rfl
/-- Is an entry light? -/
def LitE (E : Ent) : Prop := E.nm.size ≤ 3000 ∧ E.ext.size ≤ 3000 ∧ E.com.size ≤ 3000 ∧ E.loc.size ≤ 3000
instance (E : Ent) : Decidable (LitE E) := by unfold LitE; infer_instance
def FewE (l : List Ent) : Prop := ∀ E ∈ l, l.length ≤ 30 ∧ LitE E
instance (l : List Ent) : Decidable (FewE l) := by unfold FewE; infer_instance
/-- What an entry's parts are within. -/
def EntW (E : Ent) : Prop := E.nm.size ≤ maxLen ∧ E.made < 65536 ∧ E.need < 65536 ∧ E.flags < 65536 ∧ E.method < 65536 ∧ E.time < 4294967296 ∧ E.sum < 4294967296 ∧ E.packed < 18446744073709551616 ∧ E.size < 18446744073709551616 ∧ E.inner < 65536 ∧ E.outer < 4294967296 ∧ E.off < 18446744073709551616 ∧ E.ext.size ≤ maxLen ∧ E.com.size ≤ maxLen ∧ E.loc.size ≤ maxLen ∧ E.beg < 18446744073709551616 ∧ E.fin < 18446744073709551616
theorem entOk_of {E : Ent} (h : LitE E) (hw : EntW E) : EntOk E := by
  obtain ⟨h1, h2, h3, h4⟩ := h
  obtain ⟨_, g1, _, g3, _, g5, _, _, _, _, g10, _⟩ := hw
  exact ⟨by omega, by omega, by omega, g3, g1, g10, g5⟩
end Go.Proofs.YtijfcmlgohbndaaGreatDoor

namespace Go.Proofs.YtijfcmlgohbndaaGreatDoor
set_option maxRecDepth 100000
set_option linter.unusedSimpArgs false
set_option linter.unusedVariables false
open Go.RowKit Go.Joins Go.Deep
theorem below_thenE {w w1 w2 : World} (h : Below w.heap.size w w1) (h2 : Below w1.heap.size w1 w2) : Below w.heap.size w w2 := h.trans (h2.mono h.size)
theorem wpList_load_rowG {P : Program} {w : World} {ops : Array Oper} {rest : List Oper} {o : Oper} {a : Act} {Q : Exit → Act → World → Prop} (hw : Region.wanted o (yielded ops a.tmps) = true) (ty : TypeId) (x : Operand) (ho : o.op = .load ty x)
    (g : Nat) (hx : a.eval x = .pointer (some ⟨g, 0, none⟩)) (t : TypeId) (cs : Array Value) (fr : Nat × Nat) (d : TypeDesc) (hg : w.heap[g]? = some (.cells cs t fr))
    (hu : P.underlying ty = some d) (hd : (match d with | .struct _ | .array _ _ => true | _ => false) = true) (hi : (P.info? ty).map (·.size) = some cs.size)
    (h : wpList P ops Q rest (a.put o.dst (.agg cs)) w) : wpList P ops Q (o :: rest) a w :=
  wpList_step fun _ hK => by rw [if_pos hw]; exact wp_load_row ty x ho g hx t cs fr d hg hu hd hi (hK _ _ h)

def zE : Array Value := #[.string ⟨#[]⟩, .int .u16 0, .int .u16 0, .int .u16 0, .int .u16 0, .int .u32 0, .int .u32 0, .int .u64 0, .int .u64 0, .int .u16 0, .int .u32 0, .int .u64 0, .string ⟨#[]⟩, .string ⟨#[]⟩, .string ⟨#[]⟩, .int .u64 0, .int .u64 0]
theorem ent_size (E : Ent) : E.cells.size = 17 := rfl
theorem ent_one (E : Ent) : E.cells.all (·.oneCell') = true := by simp [Ent.cells, Value.oneCell']
theorem wpList_load_ent {ops : Array Oper} {rest : List Oper} {op : Oper} {a : Act} {w : World} {Q : Exit → Act → World → Prop} (E : Ent) (hgd : op.guard = none) (x : Operand) (ho : op.op = .load 51 x)
    (b o : Nat) (hx : a.eval x = .pointer (some ⟨b, o, none⟩)) (hc : w.rangeAt b o E.cellsL)
    (h : wpList Tryz.prog ops Q rest (a.put op.dst (.agg E.cells)) w) : wpList Tryz.prog ops Q (op :: rest) a w :=
  wpList_load_mid hgd 51 x ho b o hx E.cellsL _ hc Tryz.underlying51 rfl info_entE h
/-- An entry that was copied into a box. -/
def boxE (w : World) (EC : Array Value) : World := (w.alloc (.cells zE 51)).setRow w.heap.size EC
theorem boxE_row (w : World) (E : Ent) : (boxE w E.cells).heap[w.heap.size]? = some (.cells E.cells 51 (0, 0)) := setRow_heap _ _ _ E.cells _ _ (heap_alloc_new w _)
theorem boxE_below {B : Nat} {w0 w : World} (EC : Array Value) (h : Below B w0 w) (hB : B ≤ w.heap.size) : Below B w0 (boxE w EC) := below_setRow (h.alloc hB _) hB _
theorem wpList_store_ent {ops : Array Oper} {rest : List Oper} {o : Oper} {a : Act} {w : World} {Q : Exit → Act → World → Prop} (EC : Array Value) (hgd : o.guard = none) (x y : Operand) (ho : o.op = .store 51 x y) (hx : a.eval x = .pointer (some ⟨w.heap.size, 0, none⟩)) (hy : a.eval y = .agg EC) (h17 : EC.size = 17) (h1 : EC.all (·.oneCell') = true)
    (h : wpList Tryz.prog ops Q rest (a.put o.dst undef) (boxE w EC)) : wpList Tryz.prog ops Q (o :: rest) a (w.alloc (.cells #[.string ⟨#[]⟩, .int .u16 0, .int .u16 0, .int .u16 0, .int .u16 0, .int .u32 0, .int .u32 0, .int .u64 0, .int .u64 0, .int .u16 0, .int .u32 0, .int .u64 0, .string ⟨#[]⟩, .string ⟨#[]⟩, .string ⟨#[]⟩, .int .u64 0, .int .u64 0] 51)) :=
  wpList_store_row hgd 51 x y ho w.heap.size EC hx hy 51 zE (heap_alloc_new w _) (by rw [h17]; exact info_entE) (by rw [h17]; rfl) h1 h
def mx2 (a b : Int) : Int := if a < b then b else a
theorem run_max4 (P : Program) (w : World) (ts : Array TypeId) (ty : TypeId) (a b c d : Int) : (Builtin.max_ ts ty #[.int .i64 a, .int .i64 b, .int .i64 c, .int .i64 d]).run P w = .ok (.int .i64 (mx2 (mx2 (mx2 a b) c) d)) w := by
  unfold mx2
  simp only [Builtin.max_, List.foldlM]
  simp [Builtin.max2]
set_option maxHeartbeats 4000000 in
theorem lightE_any (E : Ent) (hW : EntW E) (w : World) : Calls Tryz.prog 11 #[.agg E.cells] w fun e w' => e = .returned (.bool (decide (LitE E))) ∧ Below w.heap.size w w' := by
  obtain ⟨s0, _, _, _, _, _, _, _, _, _, _, _, s1, s2, s3, _⟩ := hW
  unfold maxLen at s0 s1 s2 s3
  obtain ⟨W1, hW1⟩ : ∃ W1, W1 = w.alloc (.cells E.cells 51) := ⟨_, rfl⟩
  have HX : Hid (W1.heap[w.heap.size]? = some (.cells E.cells 51 (0, 0))) := by show _ = _; rw [hW1]; exact heap_alloc_new w _
  have HB : Hid (Below w.heap.size w W1) := by show Below _ _ _; rw [hW1]; exact (Below.refl _ _).alloc (Nat.le_refl _) _
  have hEB := ent_box HX.out
  unfold Ent17 at hEB
  simp only [Nat.zero_add] at hEB
  obtain ⟨c0, _, _, _, _, _, _, _, _, _, _, _, c12, c13, c14, _, _⟩ := hEB
  obtain ⟨V, hV⟩ : ∃ V, V = decide (LitE E) := ⟨_, rfl⟩
  rw [← hV]
  have HV := Lib.hid hV
  simp only [Ent.cells] at hW1 ⊢
  have HW1 := Lib.hid hW1
  clear hW1 hV
  go_enter Tryz.func11, Tryz.ntmps11
  go_upto_region 1 with fail
  rw [← HW1.out]
  clear HW1 HX
  have HMX := Lib.hid (fun w1 => run_max4 Tryz.prog w1 #[3, 3, 3, 3] 3 (E.nm.size : Nat) (E.ext.size : Nat) (E.com.size : Nat) (E.loc.size : Nat))
  have hle : decide (mx2 (mx2 (mx2 (E.nm.size : Nat) (E.ext.size : Nat)) (E.com.size : Nat)) (E.loc.size : Nat) ≤ 3000) = V := by
    rw [HV.out]
    by_cases h : LitE E
    · rw [decide_eq_true h]
      refine decide_eq_true ?_
      obtain ⟨h1, h2, h3, h4⟩ := h
      unfold mx2
      repeat' split
      all_goals omega
    · rw [decide_eq_false h]
      refine decide_eq_false fun k => h ?_
      unfold mx2 at k
      unfold LitE
      repeat' split at k
      all_goals (refine ⟨?_, ?_, ?_, ?_⟩ <;> omega)
  generalize mx2 (mx2 (mx2 (E.nm.size : Nat) (E.ext.size : Nat)) (E.com.size : Nat)) (E.loc.size : Nat) = M at *
  have hmm := HMX.out W1
  go_wp2_with fail
  go_ret
  exact ⟨rfl, HB.out⟩
end Go.Proofs.YtijfcmlgohbndaaGreatDoor
