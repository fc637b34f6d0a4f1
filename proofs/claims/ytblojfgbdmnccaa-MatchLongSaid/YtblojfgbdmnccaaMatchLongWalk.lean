/-
  The walk of MatchLong: it returns true.
-/
import Derived.Test.YtblojfgbdmnccaaMatU
import Derived.Deep.OwnRows
namespace Go.Proofs.Ytblojfgbdmnccaa
set_option maxRecDepth 100000
open Go.Joins Go.RowKit Go.Deep

/-- Bytes of noughts, so many, made and turned into a text. -/
theorem made_long (N : Nat) (hN : N ≤ 2000000) : ∃ (cs : Array Value) (Z : ByteArray), Z.size = N ∧ (∀ w : World, (Instr.makeSlice 22 (.int .i64 (N : Nat)) (.int .i64 (N : Nat))).run Try.prog w = .ok (.slice (some ⟨w.heap.size, 0, none⟩) N N) (w.alloc (.cells cs 5))) ∧
    ∀ (W : World) (g : Nat), W.heap[g]? = some (.cells cs 5 (0, 0)) → (convert 22 9 (.slice (some ⟨g, 0, none⟩) N N)).run Try.prog W = .ok (.string Z) W := by
  refine ⟨madeCells #[.int .u8 0] N, ⟨(List.replicate N (0 : UInt8)).toArray⟩, by simp [ByteArray.size], run_make_row' (P := Try.prog) 22 5 (.int .u8 0) 1 Try.underlying22 info8 rfl .i64 .i64 N (by omega) (by omega), fun W g hg => ?_⟩
  have h := run_convert_bytes_back (P := Try.prog) W 22 9 5 ⟨g, 0, none⟩ N (List.replicate N (0 : UInt8)) Try.underlying22 Try.underlying5 Try.underlying9 (fun j hj => by
    have hj' : j < N := by simpa using hj
    rw [Addr.add_lit, Nat.zero_add, cell_of_row W g j _ _ _ hg]
    have e : (madeCells #[Value.int .u8 0] N)[j]? = (madeCells #[Value.int .u8 0] N).toList[j]? := by simp
    rw [e, toList_madeCells_one, List.getElem?_replicate, if_pos hj']
    simp)
  rw [List.length_replicate] at h
  exact h
set_option maxHeartbeats 8000000 in
theorem matchLong_walk (w : World) : Calls Try.prog 9 #[] w fun e w' => e = .returned (.bool true) ∧ Below w.heap.size w w' := by
  obtain ⟨cs, Z, hZ, hmk, hcv⟩ := made_long 1048577 (by omega)
  have hmk' : ∀ w : World, (Instr.makeSlice 22 (.int .i64 1048577) (.int .i64 1048577)).run Try.prog w = .ok (.slice (some ⟨w.heap.size, 0, none⟩) 1048577 1048577) (w.alloc (.cells cs 5)) := hmk
  have HF := Lib.hid (fun W => find_long Z (by omega) W)
  have HC := Lib.hid (fun W => chains_long Z (by omega) W)
  have HCV := Lib.hid hcv
  have hx := heap_alloc_new w (.cells cs 5)
  have HX := Lib.hid hx
  have HB : Hid (Below w.heap.size w (w.alloc (.cells cs 5))) := (Below.refl _ _).alloc (Nat.le_refl _) _
  have HS : Hid ((w.alloc (.cells cs 5)).heap.size = w.heap.size + 1) := by show _ = _; simp
  clear hmk hcv hx hZ
  go_enter Try.func9, Try.ntmps9
  go_wp2_with fail
  rw [HCV.out _ _ HX.out]
  generalize w.alloc (.cells cs 5) = w1 at *
  go_wp2_with fail
  refine (HF.out _).mono ?_; rintro e w2 ⟨rfl, rfl⟩
  go_wp2_with fail
  refine (awake7_any _).mono ?_; rintro e w3 ⟨rfl, hb3⟩
  have hx3 := (hb3.block w.heap.size (by have := HS.out; omega)).trans HX.out
  have hc3 := HCV.out _ _ hx3
  have HB3 := Lib.hid (HB.out.trans (hb3.mono HB.out.size))
  clear hb3 hx3
  go_wp2_with fail
  refine (HC.out _).mono ?_; rintro e w4 ⟨rfl, rfl⟩
  go_wp2
  go_ret
  exact ⟨rfl, HB3.out⟩
end Go.Proofs.Ytblojfgbdmnccaa
