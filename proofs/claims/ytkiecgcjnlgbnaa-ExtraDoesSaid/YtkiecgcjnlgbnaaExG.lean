/-
  Contract: Print.
-/
import Derived.Test.YtkiecgcjnlgbnaaExF
namespace Go.Proofs.Ytkiecgcjnlgbnaa
set_option maxRecDepth 100000
open Go.RowKit Go.Joins Go.Deep

theorem info_fd2 : (Try.prog.info? 38).map (·.size) = some 2 := by kernel_rfl
theorem prt_drop {l : List Fd} {k : Nat} (hk : k < l.length) {acc : List Nat} (h : acc.length + 4 + (l[k]).d.size ≤ 65535) : prt (l.drop k) acc = prt (l.drop (k + 1)) (acc ++ bytesF l[k]) := by
  rw [List.drop_eq_getElem_cons hk, prt, if_pos h]
theorem prt_no {l : List Fd} {k : Nat} (hk : k < l.length) {acc : List Nat} (h : ¬ acc.length + 4 + (l[k]).d.size ≤ 65535) : prt (l.drop k) acc = none := by
  rw [List.drop_eq_getElem_cons hk, prt, if_neg h]
theorem prtR_no {l : List Fd} (h : prt l [] = none) : prtT l = [] ∧ prtE l = 5 := by
  unfold prtT prtE
  rw [h]
  exact ⟨rfl, rfl⟩
theorem prtR_yes {l : List Fd} {o : List Nat} (h : prt l [] = some o) : prtT l = o ∧ prtE l = 0 := by
  unfold prtT prtE
  rw [h]
  exact ⟨rfl, rfl⟩
theorem fd_box (t : Fd) (w : World) : (w.alloc (.cells #[.int .u16 (t.id : Nat), .string t.d] 38)).cell? ⟨w.heap.size, 0, none⟩ = some (.int .u16 (t.id : Nat)) ∧ (w.alloc (.cells #[.int .u16 (t.id : Nat), .string t.d] 38)).cell? ⟨w.heap.size, 1, none⟩ = some (.string t.d) := by
  constructor
  · rw [cell_of_row _ _ 0 _ _ _ (heap_alloc_new w _)]; rfl
  · rw [cell_of_row _ _ 1 _ _ _ (heap_alloc_new w _)]; rfl
set_option maxHeartbeats 4000000 in
theorem print_any (A : Option Addr) (cap : Nat) (l : List Fd) (w : World) (hF : Fds w A l) (hok : ∀ f ∈ l, f.id < 65536) (hn : l.length ≤ 1000000) :
    Calls Try.prog 10 #[.slice A l.length cap] w fun e w' => e = .returned (.tuple #[.string (text (prtT l)), .int .i64 (prtE l : Nat)]) ∧ Below w.heap.size w w' := by
  have hit := info_fd2
  have HF := Lib.hid hF
  have HOK := Lib.hid hok
  have hzb := zero_bdE
  have HFR := Lib.hid (bd_freshE w)
  have HB0 := Lib.hid ((Below.refl w.heap.size w).alloc (Nat.le_refl _) (.cells #[.pointer none, .slice none 0 0] 60))
  have HS0 : Hid (w.heap.size + 1 ≤ (w.alloc (.cells #[.pointer none, .slice none 0 0] 60)).heap.size) := by show _ ≤ _; simp
  clear hF hok
  go_enter Try.func10, Try.ntmps10
  go_wp2_with fail
  generalize w.alloc (.cells #[.pointer none, .slice none 0 0] 60) = w0 at *
  clear hzb
  go_loopw [9] (fun i wr => ∃ (k : Nat) (acc : List Nat), k ≤ l.length ∧ i = .int .i64 (k : Nat) ∧ acc.length ≤ 65535 ∧ Hid (prt (l.drop k) acc = prt l []) ∧ Hid (∀ x ∈ acc, x < 256) ∧ Hid (Bd wr w.heap.size w.heap.size acc) ∧ Hid (Below w.heap.size w wr) ∧ Hid (w.heap.size + 1 ≤ wr.heap.size)) (fun i _ => l.length - (intOf i).toNat)
  case atStart => exact ⟨0, [], Nat.zero_le _, rfl, by simp, rfl, Lib.hid (fun (x : Nat) (hx : x ∈ ([] : List Nat)) => absurd hx (by simp)), HFR.out, HB0.out, HS0.out⟩
  case round =>
    clear HFR HB0 HS0
    obtain ⟨k, acc, hk, rfl, hacc, HQ, HL, HD, HB, HS⟩ := hrel
    by_cases hkn : k < l.length
    · obtain ⟨b, off, rfl, hbl, hc⟩ := (HF.out.below (Nat.le_refl _) HB.out) (by omega)
      obtain ⟨c0, c1⟩ := hc k hkn
      have hid := HOK.out _ (List.getElem_mem hkn)
      have HY := Lib.hid (fun h => prt_drop hkn (acc := acc) h)
      have HN := Lib.hid (fun h => prt_no hkn (acc := acc) h)
      clear hc
      have hbox := fd_box l[k] wr
      generalize l[k] = t at *
      obtain ⟨tid, td⟩ := t
      dsimp only at c0 c1 hid hbox
      obtain ⟨d0, d1⟩ := hbox
      have HD1 := Lib.hid (HD.out.below ((Below.refl _ _).alloc (Nat.le_refl _) (.cells #[.int .u16 (tid : Nat), .string td] 38)))
      have HB1 := Lib.hid (HB.out.alloc HB.out.size (.cells #[.int .u16 (tid : Nat), .string td] 38))
      have HX1 : Hid ((wr.alloc (.cells #[.int .u16 (tid : Nat), .string td] 38)).heap[wr.heap.size]? = some (.cells #[.int .u16 (tid : Nat), .string td] 38 (0, 0))) := heap_alloc_new wr _
      have HLN := Lib.hid (fun n => bdLen_any _ _ _ _ (show Bd ((wr.alloc (.cells #[.int .u16 (tid : Nat), .string td] 38)).drewN n) w.heap.size w.heap.size acc from HD1.out))
      go_wp2_with fail
      generalize hw1 : wr.alloc (.cells #[.int .u16 (tid : Nat), .string td] 38) = w1 at *
      by_cases hfit : acc.length + 4 + td.size ≤ 65535
      · have hfb : decide (65531 - (acc.length : Int) < (td.size : Int)) = false := decide_eq_false (by omega)
        have HQ2 := Lib.hid ((HY.out hfit).symm.trans HQ.out)
        clear HY HN HQ
        go_wp2_with fail
        go_quiet ((go_at_call 27; exact Calls.quiet_of_same (HLN.out _)))
        have HD2 : Hid (Bd (w1.drewN nq) w.heap.size w.heap.size acc) := HD1.out
        have HB2 := Lib.hid (below_drewN HB1.out nq)
        have HX2 : Hid ((w1.drewN nq).heap[wr.heap.size]? = some (.cells #[.int .u16 (tid : Nat), .string td] 38 (0, 0))) := HX1.out
        have d0' : (w1.drewN nq).cell? ⟨wr.heap.size, 0, none⟩ = some (.int .u16 (tid : Nat)) := d0
        generalize w1.drewN nq = w2 at *
        have HNE : Hid (wr.heap.size ≠ w.heap.size) := by have := HS.out; show _ ≠ _; omega
        clear HD1 HB1 HX1 d0 d1 c0 c1 HLN hw1
        go_wp2_with fail
        refine (two_any tid hid _).mono ?_
        rintro e w3 ⟨rfl, hb3⟩
        have HD3 := Lib.hid (HD2.out.below hb3)
        have HB3 := Lib.hid (below_then HB2.out hb3)
        have HX3 := Lib.hid ((hb3.block _ (lt_of_heapE HX2.out)).trans HX2.out)
        clear HD2 HB2 HX2 hb3 d0'
        have h2s : (text (le tid 2)).size = 2 := by rw [text_size, le_len]
        have h2n : nums (text (le tid 2)) = le tid 2 := nums_text _ (le_lt _ _)
        have HW3 := Lib.hid (writeString_any _ _ (text (le tid 2)) acc w3 (by omega) (by omega) HB3.out.size HD3.out)
        rw [h2n] at HW3
        go_wp2_with fail
        refine (HW3.out).mono ?_
        rintro e w4 ⟨rfl, hd4, hb4, ho4⟩
        have HX4 := Lib.hid (ho4 _ _ _ _ HX3.out (by decide) HNE.out)
        have HB4 := Lib.hid (HB3.out.trans hb4)
        have HD4 := Lib.hid hd4
        have d1 : w4.cell? ⟨wr.heap.size, 1, none⟩ = some (.string td) := by rw [cell_of_row _ _ 1 _ _ _ HX4.out]; rfl
        clear HD3 HB3 HX3 HW3 hd4 hb4 ho4
        have htd : td.size < 65536 := by omega
        go_wp2_with fail
        refine (two_any td.size htd _).mono ?_
        rintro e w5 ⟨rfl, hb5⟩
        have HD5 := Lib.hid (HD4.out.below hb5)
        have HB5 := Lib.hid (below_then HB4.out hb5)
        have HX5 := Lib.hid ((hb5.block _ (lt_of_heapE HX4.out)).trans HX4.out)
        clear HD4 HB4 HX4 hb5 d1
        have h2t : (text (le td.size 2)).size = 2 := by rw [text_size, le_len]
        have h2m : nums (text (le td.size 2)) = le td.size 2 := nums_text _ (le_lt _ _)
        have HW5 := Lib.hid (writeString_any _ _ (text (le td.size 2)) (acc ++ le tid 2) w5 (by omega) (by rw [List.length_append, le_len]; omega) HB5.out.size HD5.out)
        rw [h2m] at HW5
        go_wp2_with fail
        refine (HW5.out).mono ?_
        rintro e w6 ⟨rfl, hd6, hb6, ho6⟩
        have HX6 := Lib.hid (ho6 _ _ _ _ HX5.out (by decide) HNE.out)
        have HB6 := Lib.hid (HB5.out.trans hb6)
        have HD6 := Lib.hid hd6
        have d1 : w6.cell? ⟨wr.heap.size, 1, none⟩ = some (.string td) := by rw [cell_of_row _ _ 1 _ _ _ HX6.out]; rfl
        clear HD5 HB5 HX5 HW5 hd6 hb6 ho6
        have HW7 := Lib.hid (writeString_any _ _ td (acc ++ le tid 2 ++ le td.size 2) w6 (by omega) (by rw [List.length_append, List.length_append, le_len, le_len]; omega) HB6.out.size HD6.out)
        rw [show acc ++ le tid 2 ++ le td.size 2 ++ nums td = acc ++ bytesF ⟨tid, td⟩ by unfold bytesF; simp only [List.append_assoc]] at HW7
        have HLB : Hid (∀ x ∈ acc ++ bytesF ⟨tid, td⟩, x < 256) := by
          intro x hx
          rcases List.mem_append.1 hx with hx | hx
          · exact HL.out x hx
          · exact bytesF_lt _ x hx
        have HLN2 : Hid ((acc ++ bytesF ⟨tid, td⟩).length ≤ 65535) := by show _ ≤ _; rw [List.length_append, bytesF_len]; show acc.length + (4 + td.size) ≤ _; omega
        generalize acc ++ bytesF ⟨tid, td⟩ = acc2 at *
        go_wp2_with fail
        refine (HW7.out).mono ?_
        rintro e w8 ⟨rfl, hd8, hb8, _⟩
        have HD8 := Lib.hid hd8
        have HB8 := Lib.hid (HB6.out.trans hb8)
        have HS8 : Hid (w.heap.size + 1 ≤ w8.heap.size) := hd8.lt
        clear hd8 hb8 d1 HW7
        go_wp2_with fail
        go_roundw
        case rel => exact ⟨k + 1, acc2, by omega, by go_num, HLN2.out, HQ2.out, HLB.out, HD8.out, HB8.out, HS8.out⟩
        case measure => simp [intOf]; omega
      · have hfb : decide (65531 - (acc.length : Int) < (td.size : Int)) = true := decide_eq_true (by omega)
        have HR := Lib.hid (prtR_no (HQ.out.symm.trans (HN.out hfit)))
        clear HY HN HQ
        go_wp2_with fail
        go_quiet ((go_at_call 27; exact Calls.quiet_of_same (HLN.out _)))
        go_wp2_with fail
        go_ret2
        rw [HR.out.1, HR.out.2]
        exact ⟨rfl, below_drewN HB1.out _⟩
    · obtain rfl : k = l.length := by omega
      have HR := Lib.hid (prtR_yes (l := l) (o := acc) (by rw [← HQ.out, List.drop_length]; rfl))
      have HST := Lib.hid (bdString_any _ _ acc wr HL.out HB.out.size HD.out)
      go_wp2_with fail
      refine (HST.out).mono ?_
      rintro e w2 ⟨rfl, hb2⟩
      go_wp2_with fail
      go_ret2
      rw [HR.out.1, HR.out.2]
      exact ⟨rfl, HB.out.trans hb2⟩
end Go.Proofs.Ytkiecgcjnlgbnaa
