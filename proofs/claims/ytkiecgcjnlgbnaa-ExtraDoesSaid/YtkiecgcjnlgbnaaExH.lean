/-
  Contract: the document's Print.
-/
import Derived.Test.YtkiecgcjnlgbnaaExG
import Derived.Deep.RegionHeld3
import Derived.Deep.DeepCutAuto
import Derived.Deep.DrawnRows
namespace Go.Proofs.Ytkiecgcjnlgbnaa
set_option maxRecDepth 100000
open Go.RowKit Go.Joins Go.Deep
attribute [local go_sem ↓] Go.wp_at_zero Go.wp_at_succ
attribute [local go_sem] ByteArray.size_append

theorem text_app (a b : List Nat) : text (a ++ b) = text a ++ text b := by
  unfold text
  rw [List.map_append]
  apply ByteArray.ext
  simp [ByteArray.data_append]
theorem text_bytesF (acc : List Nat) (f : Fd) : text (acc ++ bytesF f) = text acc ++ text (le f.id 2) ++ text (le f.d.size 2) ++ f.d := by
  unfold bytesF
  rw [text_app, text_app, text_app, text_nums]
  simp only [ByteArray.append_assoc]
theorem rof_nx (n m : Nat) (hn : n < 18446744073709551616) (hm : m ≤ 64) (w : World) :
    Calls Try.prog 31 #[.int .u64 n, .int .i64 m] w fun e w' => e = .returned (.string (text (le n m))) ∧ Below w.heap.size w w' := by
  have h := rof_any n hn m (WalkArith.wf_i64 (by omega)) w
  rw [show (min (m : Int) 64).toNat = m by omega] at h
  exact h
set_option maxHeartbeats 8000000 in
theorem rprint_any (A : Option Addr) (cap : Nat) (l : List Fd) (w : World) (hF : Fds w A l) (hok : ∀ f ∈ l, f.id < 65536) (hn : l.length ≤ 1000000) :
    Calls Try.prog 11 #[.slice A l.length cap] w fun e w' => e = .returned (.tuple #[.string (text (prtT l)), .int .i64 (prtE l : Nat)]) ∧ Below w.heap.size w w' := by
  have hit := info_fd2
  have HF := Lib.hid hF
  have HOK := Lib.hid hok
  clear hF hok
  go_enter Try.func11, Try.ntmps11
  go_wp2_with fail
  go_loopw [4, 9] (fun t i wr => ∃ (k : Nat) (acc : List Nat) (T : ByteArray), k ≤ l.length ∧ t = .string T ∧ i = .int .i64 (k : Nat) ∧ T.size ≤ 65535 ∧ Hid (T = text acc ∧ T.size = acc.length) ∧ Hid (prt (l.drop k) acc = prt l []) ∧ Hid (Below w.heap.size w wr)) (fun _ i _ => l.length - (intOf i).toNat)
  case atStart => exact ⟨0, [], ⟨#[]⟩, Nat.zero_le _, rfl, rfl, by decide, ⟨rfl, rfl⟩, rfl, Below.refl _ _⟩
  case round =>
    obtain ⟨k, acc, T, hk, rfl, rfl, hTs, HT, HQ, HB⟩ := hrel
    by_cases hkn : k < l.length
    · obtain ⟨b, off, rfl, hbl, hc⟩ := (HF.out.below (Nat.le_refl _) HB.out) (by omega)
      obtain ⟨c0, c1⟩ := hc k hkn
      have hid := HOK.out _ (List.getElem_mem hkn)
      have HY := Lib.hid (fun h => prt_drop hkn (acc := acc) h)
      have HN := Lib.hid (fun h => prt_no hkn (acc := acc) h)
      clear hc
      have hbox := fd_box l[k] wr
      generalize l[k] = t at *
      obtain ⟨tid, td⟩ := t
      dsimp only at c0 c1 hid hbox
      obtain ⟨d0, d1⟩ := hbox
      have hb1 := HB.out.alloc HB.out.size (.cells #[.int .u16 (tid : Nat), .string td] 38)
      have hlt1 : wr.heap.size < (wr.alloc (.cells #[.int .u16 (tid : Nat), .string td] 38)).heap.size := by simp
      have hTa := HT.out.2
      by_cases hfit : acc.length + 4 + td.size ≤ 65535
      · have hf1 : decide (65535 < (td.size : Int)) = false := decide_eq_false (by omega)
        have hf2 : decide (65535 < (T.size : Int) + 4 + (td.size : Int)) = false := decide_eq_false (by omega)
        have hw1 : IntKind.i64.wrap ((T.size : Int) + 4) = (T.size : Int) + 4 := by rw [IntKind.wrap_i64]; omega
        have hw2 : IntKind.i64.wrap ((T.size : Int) + 4 + (td.size : Int)) = (T.size : Int) + 4 + (td.size : Int) := by rw [IntKind.wrap_i64]; omega
        have htd : td.size < 65536 := by omega
        have k1 : ¬ 9223372036854775807 < T.size + 2 := by omega
        have k2 : ¬ 9223372036854775807 < T.size + 2 + 2 := by omega
        have k3 : ¬ 9223372036854775807 < T.size + 2 + 2 + td.size := by omega
        have hu1 : IntKind.u64.wrap (tid : Int) = (tid : Int) := by rw [IntKind.wrap_u64]; omega
        have hu2 : IntKind.u64.wrap (td.size : Int) = (td.size : Int) := by rw [IntKind.wrap_u64]; omega
        have hts2 : T.size + 4 + td.size ≤ 65535 := by omega
        have HQ2 := Lib.hid ((HY.out hfit).symm.trans HQ.out)
        have HT2 : Hid (T ++ text (le tid 2) ++ text (le td.size 2) ++ td = text (acc ++ bytesF ⟨tid, td⟩) ∧ (T ++ text (le tid 2) ++ text (le td.size 2) ++ td).size = (acc ++ bytesF ⟨tid, td⟩).length) := by
          constructor
          · rw [text_bytesF, ← HT.out.1]
          · rw [ByteArray.size_append, ByteArray.size_append, ByteArray.size_append, text_size, text_size, le_len, le_len, List.length_append, bytesF_len, HT.out.2]
            show acc.length + 2 + 2 + td.size = acc.length + (4 + td.size)
            omega
        have hs2 : ∀ n, (text (le n 2)).size = 2 := fun n => by rw [text_size, le_len]
        clear HY HN HQ hTa
        have H4 : Hid (∀ (n : Nat) (a : World), n < 18446744073709551616 → (Below w.heap.size w a ∧ wr.heap.size < a.heap.size) → (a.cell? ⟨wr.heap.size, 0, none⟩ = some (.int .u16 (tid : Nat)) ∧ a.cell? ⟨wr.heap.size, 1, none⟩ = some (.string td)) → Calls Try.prog 31 #[.int .u64 (n : Nat), .int .i64 2] a fun e b => e = .returned (.string (text (le n 2))) ∧ (b.cell? ⟨wr.heap.size, 0, none⟩ = some (.int .u16 (tid : Nat)) ∧ b.cell? ⟨wr.heap.size, 1, none⟩ = some (.string td)) ∧ (Below w.heap.size w b ∧ wr.heap.size < b.heap.size)) := by
          intro n a hn ⟨ha, hl⟩ ⟨k0, k1⟩
          refine (rof_nx n 2 hn (by omega) a).mono fun e b ⟨he, hk⟩ => ?_
          have m : ∀ (i : Nat) (v : Value), a.cell? ⟨wr.heap.size, i, none⟩ = some v → b.cell? ⟨wr.heap.size, i, none⟩ = some v := fun i v h => (hk.cell (p := ⟨wr.heap.size, i, none⟩) hl).trans h
          exact ⟨he, ⟨m _ _ k0, m _ _ k1⟩, below_then ha hk, Nat.lt_of_lt_of_le hl hk.size⟩
        have DR : Hid (∀ a : World, (Below w.heap.size w a ∧ wr.heap.size < a.heap.size) → (Below w.heap.size w a.drew ∧ wr.heap.size < a.drew.heap.size)) := fun a ⟨h1, h2⟩ => ⟨h1.drew, h2⟩
        go_upto_region 7 with fail
        have HI : (Below w.heap.size w (wr.alloc (.cells #[.int .u16 (tid : Nat), .string td] 38)) ∧ wr.heap.size < (wr.alloc (.cells #[.int .u16 (tid : Nat), .string td] 38)).heap.size) := ⟨hb1, hlt1⟩
        clear hb1 hlt1 hit hw1 hw2 hf1 hf2
        generalize wr.alloc (.cells #[.int .u16 (tid : Nat), .string td] 38) = w1 at *
        go_region_held3 (fun w' => w'.cell? ⟨wr.heap.size, 0, none⟩ = some (.int .u16 (tid : Nat)) ∧ w'.cell? ⟨wr.heap.size, 1, none⟩ = some (.string td)) (go_keep) ((go_at_call 31; refine (H4.out _ _ (by omega) (by first | assumption | exact DR.out _ (by assumption)) (by go_keep)).mono ?_; rintro e wy ⟨rfl, ⟨n0, n1⟩, nb⟩))
        have hT3 := HT2.out
        generalize T ++ text (le tid 2) ++ text (le td.size 2) ++ td = T2 at *
        have HL2 : Hid (T2.size ≤ 65535) := by
          have := hT3.2
          rw [List.length_append, bytesF_len] at this
          show _ ≤ _
          have h2 : T2.size = acc.length + (4 + td.size) := this
          omega
        clear hT3 n0 n1 d0 d1
        have HB2 := Lib.hid nb.1
        clear nb
        go_wp2_with fail
        go_roundw
        case rel => exact ⟨k + 1, _, T2, by omega, rfl, by go_num, HL2.out, HT2.out, HQ2.out, HB2.out⟩
        case measure => simp [intOf]; omega
      · have hf1 : decide (65535 < (T.size : Int) + 4 + (td.size : Int)) = true := decide_eq_true (by omega)
        have HR := Lib.hid (prtR_no (HQ.out.symm.trans (HN.out hfit)))
        have hw1 : IntKind.i64.wrap ((T.size : Int) + 4) = (T.size : Int) + 4 := by rw [IntKind.wrap_i64]; omega
        have HB1 := Lib.hid hb1
        clear HY HN HQ hb1
        by_cases hbig : 65535 < td.size
        · have hf2 : decide (65535 < (td.size : Int)) = true := decide_eq_true (by omega)
          clear hf1
          go_wp2_with fail
          go_ret2
          rw [HR.out.1, HR.out.2]
          exact ⟨rfl, HB1.out⟩
        · have hf2 : decide (65535 < (td.size : Int)) = false := decide_eq_false (by omega)
          have hw2 : IntKind.i64.wrap ((T.size : Int) + 4 + (td.size : Int)) = (T.size : Int) + 4 + (td.size : Int) := by rw [IntKind.wrap_i64]; omega
          have hf3 : 65535 < T.size + 4 + td.size := by omega
          go_wp2_with fail
          go_ret2
          rw [HR.out.1, HR.out.2]
          exact ⟨rfl, HB1.out⟩
    · obtain rfl : k = l.length := by omega
      have HR := Lib.hid (prtR_yes (l := l) (o := acc) (by rw [← HQ.out, List.drop_length]; rfl))
      go_wp2_with fail
      go_ret2
      rw [HR.out.1, HR.out.2, HT.out.1]
      exact ⟨rfl, HB.out⟩
end Go.Proofs.Ytkiecgcjnlgbnaa
