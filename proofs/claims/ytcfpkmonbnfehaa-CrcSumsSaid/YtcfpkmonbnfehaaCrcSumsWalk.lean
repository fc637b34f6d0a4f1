/-
  The walk of CrcSums: it returns true, whatever the sum and the text.
-/
import Derived.Test.YtcfpkmonbnfehaaCrcJoinsWalk
namespace Go.Proofs.Ytcfpkmonbnfehaa
open Go.RowKit

set_option maxRecDepth 100000 in
theorem crcSums_walk (a0 : Int) (a1 : ByteArray) (w0 : (Lit.int .u32 a0).wf = true) (w1 : a1.size ≤ maxLen) (w : World) :
    Calls Try.prog 7 #[.int .u32 a0, .string a1] w fun e w' => e = .returned (.bool true) ∧ Below w.heap.size w w' := by
  obtain ⟨c, rfl, hc⟩ := nat_u32 w0
  clear w0
  have hz := zero_table
  by_cases ha : a1.size ≤ 20000
  · go_enter Try.func7, Try.ntmps7
    go_wp2_with (first | (go_at_call 33; refine (awake2_any _).mono ?_; rintro e wA ⟨rfl, hb1⟩) | (go_at_call 34; refine (make_any _).mono ?_; rintro e w2 ⟨rfl, hb2⟩) | (refine wpList_store_row rfl 55 (.tmp 5) (.tmp 14) rfl w2.heap.size (tab (Crc.it 8)) rfl rfl 55 (tab fun _ => 0) (heap_alloc_new _ _) (by rw [tab_size]; exact info_table) (by rw [tab_size, tab_size]) (tab_one _) ?_))
    have ht := made_tab w2
    have hbb := below_then hb1 (made_below hb2)
    generalize (w2.alloc (.cells (tab fun _ => 0) 55)).setRow w2.heap.size (tab (Crc.it 8)) = W1 at *
    generalize w2.heap.size = g at *
    have HT := Lib.hid ht
    have HB := Lib.hid hbb
    clear ht hbb hb1 hb2 hz
    go_loopw [15] (fun i wr => ∃ k : Nat, k ≤ 256 ∧ i = .int .i64 k ∧ ∃ n, wr = W1.drewN n) (fun i _ => 256 - (intOf i).toNat)
    case atStart => exact ⟨0, Nat.zero_le _, rfl, 0, rfl⟩
    case round =>
      obtain ⟨k, hk, rfl, nd, hwr⟩ := hrel
      have HR : IsTab wr g (Crc.it 8) := by rw [hwr]; exact HT.out
      have HBR : Below w.heap.size w wr := by rw [hwr]; exact below_drewN HB.out nd
      have HW := Lib.hid hwr
      have HTR := Lib.hid HR
      have HBB := Lib.hid HBR
      clear hwr HR HBR
      by_cases hlt : k < 256
      · have hcell := HTR.out.cell k hlt
        have hl : k < 4294967296 := by omega
        go_wp2
        go_quiet ((go_at_call 35; exact Calls.quiet_of_same ((rbyte_any _ hl _).mono fun _ _ h => ⟨h.1, h.2.symm⟩)))
        go_wp2
        go_roundw
        case rel => exact ⟨k + 1, by omega, by go_num, nd + nq, by rw [HW.out, World.drewN_drewN]⟩
        case measure => simp [intOf]; omega
      · obtain rfl : k = 256 := by omega
        go_wp2_with fail
        refine (rupdate_any c hc a1 w1 _).mono ?_; rintro e w' ⟨rfl, rfl⟩
        go_wp2_with fail
        refine (upd_tab g c hc a1 w1 _ HTR.out).mono ?_; rintro e w' ⟨rfl, n1, rfl⟩
        go_wp2_with fail
        refine (update_nil c hc a1 w1 _).mono ?_; rintro e w' ⟨rfl, hb3⟩
        rw [show Crc.neg (Crc.raw (Crc.neg c) (nums a1)) = sum c a1 from rfl]
        have ht3 : IsTab w' g (Crc.it 8) := (HTR.out.drewN n1).below hb3 (HTR.out.drewN n1).lt
        have HT3 := Lib.hid ht3
        have HB3 := Lib.hid (below_then (below_drewN HBB.out n1) hb3)
        clear ht3 hb3
        go_wp2_with fail
        refine (sum_tab g a1 w1 _ HT3.out).mono ?_; rintro e w4 ⟨rfl, n2, rfl⟩
        go_wp2_with fail
        refine (rsum_any a1 w1 _).mono ?_; rintro e w4 ⟨rfl, rfl⟩
        go_wp2_with fail
        go_ret
        exact ⟨rfl, below_drewN HB3.out _⟩
  · go_enter Try.func7, Try.ntmps7
    go_wp2_with (go_at_call 33; refine (awake2_any _).mono ?_; rintro e wA ⟨rfl, hb1⟩)
    go_ret
    exact ⟨rfl, hb1⟩
end Go.Proofs.Ytcfpkmonbnfehaa
