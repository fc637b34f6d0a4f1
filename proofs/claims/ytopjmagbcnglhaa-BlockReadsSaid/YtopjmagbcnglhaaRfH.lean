/-
  The document's trees of words: Make.
-/
import Derived.Test.YtopjmagbcnglhaaPkBA
import Derived.Test.YtopjmagbcnglhaaPkAG
import Derived.Maps.AppendAt
import Derived.Laws.OwnMore
import Derived.OneCell
import Derived.Deep.AppendLies
namespace Go.Proofs.Ytopjmagbcnglhaa
set_option maxRecDepth 100000
set_option linter.unusedVariables false
set_option linter.unusedSimpArgs false
open Go.RowKit Go.Deep Go.Joins
def cellsZ (T : List Int) : List Value := T.map fun z => Value.int .i64 z
theorem cellsZ_len (T : List Int) : (cellsZ T).length = T.length := by unfold cellsZ; simp
theorem cellsZ_get (T : List Int) (i : Nat) (h : i < T.length) : (cellsZ T)[i]? = some (.int .i64 (T.getD i 0)) := by
  unfold cellsZ
  rw [List.getElem?_map, List.getElem?_eq_getElem h, List.getD_eq_getElem?_getD, List.getElem?_eq_getElem h]
  rfl
theorem cellsZ_set (T : List Int) (k : Nat) (z : Int) : cellsZ (T.set k z) = (cellsZ T).set k (.int .i64 z) := by unfold cellsZ; rw [List.map_set]
theorem cellsZ_app (T U : List Int) : cellsZ (T ++ U) = cellsZ T ++ cellsZ U := by unfold cellsZ; rw [List.map_append]
theorem partsR {P : Program} {T : TypeId} {z : Value} {s b : Nat} (h : (P.info? T).map (fun i => (i.zero, i.size, i.bytes)) = some (some z, s, b)) : ∃ i, P.info? T = some i ∧ i.zero = some z ∧ i.size = s ∧ i.bytes = b := by
  obtain ⟨i, h1, h2⟩ := Option.map_eq_some_iff.1 h
  injection h2 with h2 h3
  injection h3 with h3 h4
  exact ⟨i, h1, h2, h3, h4⟩
theorem own_formZ {w : World} {B n : Nat} {v : Value} {xs : List Value} (h : w.ownsRow B 3 1 v n xs) (hn : 0 < n) : ∃ g cap, v = .slice (some ⟨g, 0, none⟩) n cap ∧ B ≤ g ∧ g < w.heap.size ∧ (∃ cur, w.heap[g]? = some (.cells cur 3 (0, 0))) ∧ ∀ i u, xs[i]? = some u → w.cell? ⟨g, i, none⟩ = some u := by
  rcases h.2 with ⟨_, h0⟩ | ⟨g, cap, cur, hv, hb, hg, h1, h2, h3, h4⟩
  · omega
  · refine ⟨g, cap, hv, hb, lt_of_block hg, ⟨cur, hg⟩, fun i u hu => ?_⟩
    rw [cell_of_row w g i _ _ _ hg]
    have hi := (List.getElem?_eq_some_iff.1 hu).1
    rw [← h4, List.getElem?_take_of_lt (by rw [h.1] at hi; exact hi)] at hu
    rw [← Array.getElem?_toList]
    exact hu
/-- What Make keeps. -/
structure MkS (w wr : World) (g2 g3 B : Nat) (T : List Int) (V : Value) : Prop where
  r2 : wr.heap[g2]? = some (.cells #[.slice none 0 0] 75 (0, 0))
  r3 : wr.heap[g3]? = some (.cells #[V] 75 (0, 0))
  o : wr.ownsRow B 3 1 V T.length (cellsZ T)
  b : Below w.heap.size w wr
  s : B ≤ wr.heap.size
theorem MkS.set {w wr : World} {g2 g3 B gv cap i : Nat} {T : List Int} {cur : Array Value} (h : MkS w wr g2 g3 B T (.slice (some ⟨gv, 0, none⟩) T.length cap)) (hcur : wr.heap[gv]? = some (.cells cur 3 (0, 0))) (h2 : g2 ≠ gv) (hB : w.heap.size ≤ gv) (z : Int) : MkS w (wr.setCell ⟨gv, i, none⟩ (.int .i64 z)) g2 g3 B (T.set i z) (.slice (some ⟨gv, 0, none⟩) T.length cap) := by
  refine ⟨(Below.heap_setCell _ _ _ _ h2).trans h.r2, (Below.heap_setCell _ _ _ _ (fun e => ?_)).trans h.r3, ?_, h.b.setCell hB _, by simpa [World.setCell] using h.s⟩
  · have h3 := h.r3
    have e' : g3 = gv := e
    rw [e', hcur] at h3
    injection h3 with h3
    injection h3 with _ h3
    exact absurd h3 (by decide)
  · rw [List.length_set, cellsZ_set]
    exact (h.o.stored i _).1
set_option maxHeartbeats 16000000 in
theorem rmake_any (gW n c0 : Nat) (ls W : Nat → Nat) (hn : n ≤ 4096) (h15 : ∀ i, i < n → ls i ≤ 15) (hW : ∀ i, i < n → W i < 2 ^ ls i) (hpf : PFree ls W n) (w : World) (hr : IsRowS w gW n (fun i => tx (W i) (ls i))) :
    Calls Try.prog 30 #[.slice (some ⟨gW, 0, none⟩) n c0] w fun e w' => ∃ T m A c, e = .returned (.agg #[.slice A T.length c]) ∧ TW ls W n T m ∧ m ≤ 1 + 15 * n ∧ TabR w' A T ∧ Below w.heap.size w w' := by
  have hip : (Try.prog.info? 75).map (·.size) = some 1 := by kernel_rfl
  have hzT : ∀ w : World, (zeroValue 75).run Try.prog w = .ok (.agg #[.slice none 0 0]) w := fun w => by kernel_rfl
  obtain ⟨i0, hi, hz0, hzs, hz2⟩ := partsR (P := Try.prog) (T := 3) (z := .int .i64 0) (s := 1) (b := 8) (by kernel_rfl)
  have HR := Lib.hid hr
  have H15 := Lib.hid h15
  have HWW := Lib.hid hW
  have HPF := Lib.hid hpf
  have hs1 : (w.alloc (.cells #[.slice none 0 0] 75)).heap.size = w.heap.size + 1 := by simp
  have hs2 : ((w.alloc (.cells #[.slice none 0 0] 75)).alloc (.cells #[.int .i64 0, .int .i64 0] 3)).heap.size = w.heap.size + 1 + 1 := by simp
  have hb1 : Below w.heap.size w (w.alloc (.cells #[.slice none 0 0] 75)) := (Below.refl _ _).alloc (Nat.le_refl _) _
  have hb2 : Below w.heap.size w ((w.alloc (.cells #[.slice none 0 0] 75)).alloc (.cells #[.int .i64 0, .int .i64 0] 3)) := hb1.alloc hb1.size _
  have hb3 : Below w.heap.size w (((w.alloc (.cells #[.slice none 0 0] 75)).alloc (.cells #[.int .i64 0, .int .i64 0] 3)).alloc (.cells #[.slice (some ⟨w.heap.size + 1, 0, none⟩) 2 2] 75)) := hb2.alloc hb2.size _
  have hx1 : ((w.alloc (.cells #[.slice none 0 0] 75)).alloc (.cells #[.int .i64 0, .int .i64 0] 3)).heap[w.heap.size]? = some (.cells #[.slice none 0 0] 75 (0, 0)) := (Below.heap_alloc (w.alloc (.cells #[.slice none 0 0] 75)) _ w.heap.size (by rw [hs1]; omega)).trans (heap_alloc_new w _)
  have hx2 : (((w.alloc (.cells #[.slice none 0 0] 75)).alloc (.cells #[.int .i64 0, .int .i64 0] 3)).alloc (.cells #[.slice (some ⟨w.heap.size + 1, 0, none⟩) 2 2] 75)).heap[w.heap.size]? = some (.cells #[.slice none 0 0] 75 (0, 0)) := (Below.heap_alloc ((w.alloc (.cells #[.slice none 0 0] 75)).alloc (.cells #[.int .i64 0, .int .i64 0] 3)) _ w.heap.size (by rw [hs2]; omega)).trans hx1
  have hy1 := heap_alloc_new (w.alloc (.cells #[.slice none 0 0] 75)) (.cells #[.int .i64 0, .int .i64 0] 3)
  rw [hs1] at hy1
  have hy2 : (((w.alloc (.cells #[.slice none 0 0] 75)).alloc (.cells #[.int .i64 0, .int .i64 0] 3)).alloc (.cells #[.slice (some ⟨w.heap.size + 1, 0, none⟩) 2 2] 75)).heap[w.heap.size + 1]? = some (.cells #[.int .i64 0, .int .i64 0] 3 (0, 0)) := (Below.heap_alloc ((w.alloc (.cells #[.slice none 0 0] 75)).alloc (.cells #[.int .i64 0, .int .i64 0] 3)) _ (w.heap.size + 1) (by rw [hs2]; omega)).trans hy1
  have hz3 := heap_alloc_new ((w.alloc (.cells #[.slice none 0 0] 75)).alloc (.cells #[.int .i64 0, .int .i64 0] 3)) (.cells #[.slice (some ⟨w.heap.size + 1, 0, none⟩) 2 2] 75)
  rw [hs2] at hz3
  have HM : Hid (MkS w (((w.alloc (.cells #[.slice none 0 0] 75)).alloc (.cells #[.int .i64 0, .int .i64 0] 3)).alloc (.cells #[.slice (some ⟨w.heap.size + 1, 0, none⟩) 2 2] 75)) w.heap.size (w.heap.size + 1 + 1) (w.heap.size + 1) [0, 0] (.slice (some ⟨w.heap.size + 1, 0, none⟩) 2 2)) :=
    ⟨hx2, hz3, ⟨rfl, .inr ⟨w.heap.size + 1, 2, _, rfl, Nat.le_refl _, hy2, Nat.le_refl _, by decide, rfl, rfl⟩⟩, hb3, by simp⟩
  clear hr h15 hW hpf hs1 hs2 hb1 hb2 hb3 hx1 hx2 hy1 hy2 hz3
  go_enter Try.func30, Try.ntmps30
  go_upto_region 2 with fail
  generalize (((w.alloc (.cells #[.slice none 0 0] 75)).alloc (.cells #[.int .i64 0, .int .i64 0] 3)).alloc (.cells #[.slice (some ⟨w.heap.size + 1, 0, none⟩) 2 2] 75)) = wa at *
  go_wp2_with fail
  go_loopw [13] (fun v13 wr => ∃ (k m : Nat) (T : List Int) (V : Value), v13 = .int .i64 (k : Nat) ∧ k ≤ n ∧ Hid (TW ls W k T m) ∧ Hid (m ≤ 1 + 15 * k) ∧ Hid (MkS w wr w.heap.size (w.heap.size + 1 + 1) (w.heap.size + 1) T V)) (fun v _ => n - (intOf v).toNat)
  case atStart => exact ⟨0, 1, [0, 0], _, rfl, Nat.zero_le _, tw_zero ls W, Nat.le_refl _, HM⟩
  case round =>
    obtain ⟨k, m, T, V, rfl, hk, HT, HMM, HS⟩ := hrel
    by_cases hlt : k < n
    · have hrw : IsRowS wr gW n (fun i => tx (W i) (ls i)) := (HS.out.b.block gW (lt_of_block HR.out)).trans HR.out
      have hcell : wr.cell? ⟨gW, k, none⟩ = some (.string (tx (W k) (ls k))) := hrw.cell k hlt
      have hsz := tx_size (W k) (ls k)
      have HAT := Lib.hid (fun i h => tx_at (W k) (ls k) i h)
      have hl15 := H15.out k hlt
      clear hrw
      generalize htt : tx (W k) (ls k) = Tx at *
      clear htt
      go_wp2_with fail
      go_loopw [6, 7] (fun v6 v7 wr => ∃ (j at_ m : Nat) (T : List Int) (V : Value), v6 = .int .i64 (at_ : Nat) ∧ v7 = .int .i64 (j : Nat) ∧ j ≤ ls k ∧ Hid (if j < ls k then TWj ls W k j T m at_ else TW ls W (k + 1) T m) ∧ Hid (m ≤ 1 + 15 * k + j) ∧ Hid (MkS w wr w.heap.size (w.heap.size + 1 + 1) (w.heap.size + 1) T V)) (fun _ v _ => ls k - (intOf v).toNat)
      case atStart =>
        refine ⟨0, 0, m, T, V, rfl, rfl, Nat.zero_le _, ?_, HMM, HS⟩
        show if 0 < ls k then _ else _
        by_cases h0 : 0 < ls k
        · rw [if_pos h0]; exact tw_start (HWW.out k hlt) HT.out
        · rw [if_neg h0]; exact tw_skip (by omega) HT.out
      case round =>
        clear HT HMM HS m T V
        obtain ⟨j, at_, m, T, V, rfl, rfl, hj, HT, HMM, HS⟩ := hrel
        by_cases hjl : j < ls k
        · have hT := HT.out
          rw [if_pos hjl] at hT
          have hjs : j < Tx.size := by omega
          have hb : Tx[j].toNat = 48 + bitW ls W k j := HAT.out j hjs
          have hx2 := bitW_lt ls W k j
          obtain ⟨gv, cap, rfl, hgv, hgl, ⟨cur, hcur⟩, hcc⟩ := own_formZ HS.out.o (by rw [hT.1.len]; have := hT.1.pos; omega)
          have d3 := (cell_of_row _ _ 0 _ _ _ HS.out.r3).trans (show _ = some (Value.slice (some ⟨gv, 0, none⟩) T.length cap) from rfl)
          have f3 := frozen_of_row wr (w.heap.size + 1 + 1) 0 _ _ HS.out.r3
          have hw8 : IntKind.u8.wrap ((48 + (bitW ls W k j : Nat) : Int) - 48) = (bitW ls W k j : Nat) := by rw [IntKind.wrap_u8]; omega
          have hw8b : IntKind.u8.wrap ((bitW ls W k j : Nat) : Int) = (bitW ls W k j : Nat) := by rw [IntKind.wrap_u8]; omega
          have hmm := HMM.out
          have hw1 : IntKind.i64.wrap ((ls k : Int) - 1) = (ls k : Int) - 1 := IntWalk.i64_in _ (by omega)
          by_cases hlast : j + 1 = ls k
          · obtain ⟨t1, t2, t3⟩ := tw_last HPF.out hlt (HWW.out k hlt) hlast hT
            have hq : (((j : Nat) : Int) == ((ls k : Nat) : Int) - 1) = true := by rw [beq_iff_eq]; omega
            have hw2 : IntKind.i64.wrap (2 * (at_ : Int)) = ((2 * at_ : Nat) : Int) := by rw [IntWalk.i64_in _ (by omega)]; omega
            have hw3 : IntKind.i64.wrap (2 * (at_ : Int) + (bitW ls W k j : Nat)) = ((2 * at_ + bitW ls W k j : Nat) : Int) := by rw [IntWalk.i64_in _ (by omega)]; omega
            have hw4 : IntKind.i64.wrap (-1 - (k : Int)) = -1 - (k : Int) := IntWalk.i64_in _ (by omega)
            have hil : 2 * at_ + bitW ls W k j < T.length := by omega
            have kc := hcc (2 * at_ + bitW ls W k j) _ (cellsZ_get T _ hil)
            have fc := frozen_of_row wr gv (2 * at_ + bitW ls W k j) _ _ hcur
            have HT3 := Lib.hid t3
            have HCU := Lib.hid hcur
            clear t3 hcc hcur hT
            generalize bitW ls W k j = x at *
            go_wp2_with fail
            refine ⟨⟨j + 1, at_, m, T.set (2 * at_ + x) (-1 - (k : Int)), _, rfl, by go_num, by omega, ?_, ?_, HS.out.set HCU.out (by omega) (by omega) _⟩, by simp [intOf]; omega⟩
            · show if _ then _ else _
              rw [if_neg (by omega)]
              exact HT3.out
            · show _ ≤ _
              omega
          · obtain ⟨t1, t2, t3, t4, t5⟩ := tw_step HPF.out hlt (HWW.out k hlt) (by omega) hT
            have hq : (((j : Nat) : Int) == ((ls k : Nat) : Int) - 1) = false := by rw [beq_eq_false_iff_ne]; omega
            have hw2 : IntKind.i64.wrap (2 * (at_ : Int)) = ((2 * at_ : Nat) : Int) := by rw [IntWalk.i64_in _ (by omega)]; omega
            have hw3 : IntKind.i64.wrap (2 * (at_ : Int) + (bitW ls W k j : Nat)) = ((2 * at_ + bitW ls W k j : Nat) : Int) := by rw [IntWalk.i64_in _ (by omega)]; omega
            have hil : 2 * at_ + bitW ls W k j < T.length := by omega
            have kc : wr.cell? ⟨gv, 2 * at_ + bitW ls W k j, none⟩ = some (.int .i64 (nx T at_ (bitW ls W k j))) := hcc (2 * at_ + bitW ls W k j) _ (cellsZ_get T _ hil)
            have fc := frozen_of_row wr gv (2 * at_ + bitW ls W k j) _ _ hcur
            have HT4 := Lib.hid t4
            have HT5 := Lib.hid t5
            have HCU := Lib.hid hcur
            have HLEN := Lib.hid t2
            clear t4 t5 hcc hcur hT t2
            generalize bitW ls W k j = x at *
            by_cases hz : nx T at_ x = 0
            · have hz1 : (nx T at_ x == 0) = true := by rw [hz]; rfl
              have H4 := HT4.out hz
              have HT6 := Lib.hid H4.1
              have HNX := Lib.hid H4.2
              clear H4 hz t3
              have hbA : Below wr.heap.size wr (wr.alloc (.cells #[.int .i64 0, .int .i64 0] 3)) := (Below.refl _ _).alloc (Nat.le_refl _) _
              have HOA : Hid ((wr.alloc (.cells #[.int .i64 0, .int .i64 0] 3)).ownsRow (w.heap.size + 1) 3 1 (.slice (some ⟨gv, 0, none⟩) T.length cap) T.length (cellsZ T)) := HS.out.o.alloc _
              have h2A := (hbA.block _ (lt_of_block HS.out.r2)).trans HS.out.r2
              have h3A := (hbA.block _ (lt_of_block HS.out.r3)).trans HS.out.r3
              have hcA := (hbA.block _ (lt_of_block HCU.out)).trans HCU.out
              have hxA := heap_alloc_new wr (.cells #[.int .i64 0, .int .i64 0] 3)
              have HBA := Lib.hid (HS.out.b.trans (hbA.mono HS.out.b.size))
              have HSA : Hid (w.heap.size + 1 ≤ (wr.alloc (.cells #[.int .i64 0, .int .i64 0] 3)).heap.size) := Nat.le_trans HS.out.s hbA.size
              have hg3 : w.heap.size + 1 + 1 ≠ gv := fun e => by
                rw [e, hcA] at h3A
                injection h3A with h3A
                injection h3A with _ h3A
                exact absurd h3A (by decide)
              have H2A := Lib.hid h2A
              have H3A := Lib.hid h3A
              have HCA := Lib.hid hcA
              have HXA := Lib.hid hxA
              clear hbA h2A h3A hcA hxA
              go_upto_region 13 with fail
              go_upto_region 14 with (at_builtin; go_must (refine wpList_append_own_at _ rfl (.tmp 50) (.tmp 51) _ rfl (w.heap.size + 1) 3 i0 (.int .i64 0) 1 8 Try.underlying73 hi hz0 hzs hz2 rfl (by decide) (.slice (some ⟨gv, 0, none⟩) T.length cap) T.length _ rfl HOA.out ⟨wr.heap.size, 0, none⟩ 2 2 [.int .i64 0, .int .i64 0] rfl rfl (World.news_of_block HXA.out) (by intro u hu; simp at hu; subst hu; rfl) (by have := HLEN.out; unfold maxLen; omega) (by have := HLEN.out; omega) HSA.out ?_; intro V1 w1 own1 grow1 nil1 loc1; obtain ⟨gv1, cap1, rfl, hgv1, hgl1, ⟨cur1, hcur1⟩, hcc1⟩ := own_formZ own1 (by omega); have hr3 := (grow1.block (w.heap.size + 1 + 1) (lt_of_block H3A.out) (fun e => hg3 (by simpa [Value.ownBlock] using e))).trans H3A.out; have d3' := (cell_of_row _ _ 0 _ _ _ hr3).trans (show _ = some (Value.slice (some ⟨gv, 0, none⟩) T.length cap) from rfl); have f3' := frozen_of_row w1 (w.heap.size + 1 + 1) 0 _ _ hr3))
              have hl2 : (T ++ [0, 0]).length = T.length + 2 := by rw [List.length_append]; rfl
              have hgB : w.heap.size + 1 ≤ gv1 := hgv1
              have hce : cellsZ T ++ [Value.int .i64 0, .int .i64 0] = cellsZ (T ++ [0, 0]) := by rw [cellsZ_app]; rfl
              rw [hce] at own1 hcc1
              have hg13 : gv1 ≠ w.heap.size + 1 + 1 := fun e => by
                rw [e, hr3] at hcur1
                injection hcur1 with hcur1
                injection hcur1 with _ hcur1
                exact absurd hcur1 (by decide)
              have HM2 : Hid (MkS w (w1.setCell ⟨w.heap.size + 1 + 1, 0, none⟩ (.slice (some ⟨gv1, 0, none⟩) (T.length + 2) cap1)) w.heap.size (w.heap.size + 1 + 1) (w.heap.size + 1) (T ++ [0, 0]) (.slice (some ⟨gv1, 0, none⟩) (T.length + 2) cap1)) := by
                refine ⟨(Below.heap_setCell _ _ _ _ (show w.heap.size ≠ w.heap.size + 1 + 1 by omega)).trans ((grow1.block w.heap.size (lt_of_block H2A.out) (fun e => ?_)).trans H2A.out), heap_setCell_same _ _ 0 _ _ _ hr3, ?_, (HBA.out.grown grow1 HBA.out.size (fun k hk => ?_)).setCell (show w.heap.size ≤ w.heap.size + 1 + 1 by omega) _, ?_⟩
                · have e' : w.heap.size = gv := by simpa [Value.ownBlock] using e
                  omega
                · rw [hl2]
                  exact ownsRow_setCell_other own1 (fun e => hg13 (by simpa [Value.ownBlock] using e)) _
                · have e' : gv = k := by simpa [Value.ownBlock] using hk
                  omega
                · have h1 := grow1.size
                  have h2 := HSA.out
                  show _ ≤ (w1.setCell _ _).heap.size
                  simp [World.setCell]
                  omega
              have hcur2 : (w1.setCell ⟨w.heap.size + 1 + 1, 0, none⟩ (.slice (some ⟨gv1, 0, none⟩) (T.length + 2) cap1)).heap[gv1]? = some (.cells cur1 3 (0, 0)) := (Below.heap_setCell _ _ _ _ hg13).trans hcur1
              clear d3 d3' f3 f3' hr3 kc fc hcc1 own1 grow1 nil1 loc1 hcur1 HOA H2A H3A HCA HXA HSA HBA HS hce
              generalize w1.setCell ⟨w.heap.size + 1 + 1, 0, none⟩ (.slice (some ⟨gv1, 0, none⟩) (T.length + 2) cap1) = w2 at *
              have d3 := (cell_of_row _ _ 0 _ _ _ HM2.out.r3).trans (show _ = some (Value.slice (some ⟨gv1, 0, none⟩) (T.length + 2) cap1) from rfl)
              have kc2 : w2.cell? ⟨gv1, 2 * at_ + x, none⟩ = some (.int .i64 ((T ++ [0, 0]).getD (2 * at_ + x) 0)) := by
                obtain ⟨g', cap', e', _, _, _, hcc'⟩ := own_formZ HM2.out.o (by rw [hl2]; omega)
                injection e' with e1 _ _
                injection e1 with e1
                injection e1 with e1 _ _
                subst e1
                exact hcc' _ _ (cellsZ_get _ _ (by rw [hl2]; omega))
              have fc2 := frozen_of_row w2 gv1 (2 * at_ + x) _ _ hcur2
              have hq1 : ((T.length : Int) + 2).tdiv 2 = (m : Int) + 1 := by have := HLEN.out; rw [Int.tdiv_eq_ediv_of_nonneg (by omega)]; omega
              have hq2 : ((T.length : Int) + 2) / 2 = (m : Int) + 1 := by have := HLEN.out; rw [this]; omega
              have hq3 : IntKind.i64.wrap ((T.length : Int) + 2) = (T.length : Int) + 2 := IntWalk.i64_in _ (by have := HLEN.out; omega)
              have hq4 : IntKind.i64.wrap ((m : Int) + 1) = (m : Int) + 1 := IntWalk.i64_in _ (by omega)
              have hil2 : 2 * at_ + x < T.length + 2 := by omega
              have HM3 := Lib.hid ((show MkS w w2 w.heap.size (w.heap.size + 1 + 1) (w.heap.size + 1) (T ++ [0, 0]) (.slice (some ⟨gv1, 0, none⟩) (T ++ [0, 0]).length cap1) from by rw [hl2]; exact HM2.out).set (i := 2 * at_ + x) hcur2 (Nat.ne_of_lt hgB) (Nat.le_of_succ_le hgB) (m : Nat))
              have kc3 : (w2.setCell ⟨gv1, 2 * at_ + x, none⟩ (.int .i64 (m : Nat))).cell? ⟨gv1, 2 * at_ + x, none⟩ = some (.int .i64 (m : Nat)) := World.cell?_setCell_same _ _ _ kc2
              have d33 : (w2.setCell ⟨gv1, 2 * at_ + x, none⟩ (.int .i64 (m : Nat))).cell? ⟨w.heap.size + 1 + 1, 0, none⟩ = some (.slice (some ⟨gv1, 0, none⟩) (T.length + 2) cap1) := (World.cell?_setCell_other _ _ _ _ (fun e => hg13 (by injection e))).trans d3
              clear hcur2
              go_wp2_with fail
              refine ⟨⟨j + 1, m, m + 1, (T ++ [0, 0]).set (2 * at_ + x) (m : Nat), .slice (some ⟨gv1, 0, none⟩) (T.length + 2) cap1, rfl, by go_num, by omega, ?_, ?_, ?_⟩, by simp [intOf]; omega⟩
              · show if _ then _ else _
                rw [if_pos (by omega)]
                exact HT6.out
              · show _ ≤ _
                omega
              · show MkS _ _ _ _ _ _ _
                rw [← hl2]
                exact HM3.out
            · have hz1 : (nx T at_ x == 0) = false := by rw [beq_eq_false_iff_ne]; exact hz
              have HT6 := Lib.hid (HT5.out hz)
              obtain ⟨y, hy⟩ : ∃ y : Nat, nx T at_ x = (y : Int) := ⟨(nx T at_ x).toNat, by omega⟩
              have HY := Lib.hid hy
              clear hz hy t3
              go_wp2_with fail
              refine ⟨⟨j + 1, y, m, T, _, by rw [HY.out], by go_num, by omega, ?_, ?_, HS⟩, by simp [intOf]; omega⟩
              · show if _ then _ else _
                rw [if_pos (by omega)]
                have h := HT6.out
                rw [HY.out] at h
                exact h
              · show _ ≤ _
                omega
        · obtain rfl : j = ls k := by omega
          have HT1 : Hid (TW ls W (k + 1) T m) := by have h := HT.out; rw [if_neg (Nat.lt_irrefl _)] at h; exact h
          go_wp2_with fail
          go_roundw
          case rel => exact ⟨k + 1, m, T, V, by go_num, by omega, HT1, by show _ ≤ _; have := HMM.out; omega, HS⟩
          case measure => simp [intOf]; omega
    · obtain rfl : k = n := by omega
      obtain ⟨gv, cap, rfl, hgv, hgl, hcur, hcc⟩ := own_formZ HS.out.o (by rw [HT.out.len]; have := HT.out.pos; omega)
      have d3 := (cell_of_row _ _ 0 _ _ _ HS.out.r3).trans (show _ = some (Value.slice (some ⟨gv, 0, none⟩) T.length cap) from rfl)
      have d2 := (cell_of_row _ _ 0 _ _ _ HS.out.r2).trans (show _ = some (Value.slice none 0 0) from rfl)
      have f2 := frozen_of_row wr w.heap.size 0 _ _ HS.out.r2
      go_wp2_with fail
      obtain ⟨cur, hcur⟩ := hcur
      exact bodyPost_ret (results_cell_row rfl _ _ w.heap.size 75 #[.slice (some ⟨gv, 0, none⟩) T.length cap] (0, 0) _ rfl (heap_setCell_same wr w.heap.size 0 _ _ _ HS.out.r2) Try.underlying75 rfl hip) rfl
        ⟨T, m, _, cap, rfl, HT.out, HMM.out, ⟨gv, cur, rfl, (Below.heap_setCell _ _ _ _ (show gv ≠ w.heap.size by omega)).trans hcur, fun i hi => (cell_of_row wr gv i _ _ _ hcur).symm.trans (hcc i _ (cellsZ_get T i hi))⟩, HS.out.b.setCell (Nat.le_refl _) _⟩
end Go.Proofs.Ytopjmagbcnglhaa
