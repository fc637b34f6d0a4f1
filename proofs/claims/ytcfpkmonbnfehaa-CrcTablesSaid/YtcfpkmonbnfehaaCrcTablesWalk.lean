/-
  The walk of CrcTables: it returns true, whatever the table, the sum and the text.
-/
import Derived.Test.YtcfpkmonbnfehaaCrcJoinsWalk
import Derived.Deep.RegionWith
import Derived.Deep.RegionLaw
namespace Go.Proofs.Ytcfpkmonbnfehaa
open Go.RowKit

theorem rthrough_any (f : Nat → Nat) (hf : ∀ i, i < 256 → f i < 4294967296) (c : Nat) (hc : c < 4294967296) (s : ByteArray) (hs : s.size ≤ maxLen) (w : World) :
    Calls Try.prog 40 #[.agg (tab f), .int .u32 c, .string s] w fun e w' => e = .returned (.int .u32 (sumBy f c s : Nat)) ∧ Below w.heap.size w w' := by
  unfold maxLen at hs
  go_enter Try.func40, Try.ntmps40
  go_wp2
  rw [neg_int c hc]
  have ht : ∀ i, i < 256 → (w.alloc (.cells (tab f) 54)).cell? ⟨w.heap.size, i, none⟩ = some (.int .u32 (f i : Nat)) := fun i hi => by
    rw [cell_of_row _ _ i _ _ _ (heap_alloc_new w _), tab_at f i hi]
  have hb := (Below.refl w.heap.size w).alloc (Nat.le_refl _) (.cells (tab f) 54)
  generalize w.alloc (.cells (tab f) 54) = W1 at *
  have HT := Lib.hid ht
  have HB := Lib.hid hb
  clear ht hb
  go_loop [1, 7] (fun x i => ∃ k : Nat, k ≤ s.size ∧ i = .int .i64 k ∧ x = .int .u32 (Crc.through f (Crc.neg c) ((nums s).take k) : Nat)) (fun _ i => s.size - (intOf i).toNat)
  case atStart => exact ⟨0, Nat.zero_le _, rfl, rfl⟩
  case round =>
    obtain ⟨k, hk, rfl, rfl⟩ := hrel
    have hX := through_lt f hf (Crc.neg c) _ (Crc.neg_lt c) (nums_take_lt s k)
    generalize hXX : Crc.through f (Crc.neg c) ((nums s).take k) = X at hX
    have HX := Lib.hid hXX
    clear hXX
    by_cases hlt : k < s.size
    · have hsk : s[k].toNat < 256 := s[k].toNat_lt
      have hxx : bits .xor .u32 ((X : Int) % 256) (s[k].toNat : Int) = (((X % 256) ^^^ s[k].toNat : Nat) : Int) := u32_xor_nat (X % 256) _ (by omega) (by omega)
      have hJ : (X % 256) ^^^ s[k].toNat < 256 := Nat.xor_lt_two_pow (n := 8) (by omega) hsk
      have hcell := HT.out _ hJ
      go_wp2
      go_round
      case rel =>
        refine ⟨k + 1, by omega, by go_num, ?_⟩
        rw [nums_snoc s k hlt, Crc.through_snoc, HX.out]
        congr 1
        exact xor32 _ (X / 256) (hf _ hJ) (by omega)
      case measure => simp [intOf]; omega
    · obtain rfl : k = s.size := by omega
      go_wp2
      go_ret
      refine ⟨ret_eq ?_, HB.out⟩
      have h := HX.out
      rw [← nums_len, List.take_length] at h
      rw [neg_int X hX]
      unfold sumBy
      rw [h]

theorem update_by (f : Nat → Nat) (hf : ∀ i, i < 256 → f i < 4294967296) (g c : Nat) (hc : c < 4294967296) (s : ByteArray) (hs : s.size ≤ maxLen) (w : World) (ht : IsTab w g f) :
    Calls Try.prog 37 #[.pointer (some ⟨g, 0, none⟩), .int .u32 c, .string s] w fun e w' => e = .returned (.int .u32 (sumBy f c s : Nat)) ∧ ∃ n, w' = w.drewN n := update_tab f hf g c hc s hs w ht

/-- A whole row read, as one step of a region that draws. -/
theorem step_load_row {P : Program} {ops : Array Oper} {o : Oper} {a : Act} {w : World} {K : Act → World → Prop} {Q : Exit → Act → World → Prop} {E : Prop} (hgd : o.guard = none) (ty : TypeId) (x : Operand) (ho : o.op = .load ty x)
    (g : Nat) (hx : a.eval x = .pointer (some ⟨g, 0, none⟩)) (t : TypeId) (cs : Array Value) (fr : Nat × Nat) (d : TypeDesc) (hg : w.heap[g]? = some (.cells cs t fr))
    (hu : P.underlying ty = some d) (hd : (match d with | .struct _ | .array _ _ => true | _ => false) = true) (hi : (P.info? ty).map (·.size) = some cs.size)
    (h : K (a.put o.dst (.agg cs)) w) : if Region.wanted o (yielded ops a.tmps) = true then Oper.wp P o a w K Q else E := by
  rw [if_pos (by simp [Region.wanted, hgd])]
  exact wp_load_row ty x ho g hx t cs fr d hg hu hd hi h

set_option maxHeartbeats 1000000 in
theorem crcTables_walk (f : Nat → Nat) (hf : ∀ i, i < 256 → f i < 4294967296) (a1 : Int) (a2 : ByteArray) (w1 : (Lit.int .u32 a1).wf = true) (w2 : a2.size ≤ maxLen) (w : World) :
    Calls Try.prog 8 #[.agg (tab f), .int .u32 a1, .string a2] w fun e w' => e = .returned (.bool true) ∧ Below w.heap.size w w' := by
  obtain ⟨c, rfl, hc⟩ := nat_u32 w1
  clear w1
  by_cases ha : a2.size ≤ 5000
  · go_enter Try.func8, Try.ntmps8
    go_wp2_with (go_at_call 33; refine (awake2_any _).mono ?_; rintro e wA ⟨rfl, hb1⟩)
    have ht := (IsTab.new w f).below hb1 (by simp)
    have hb := ((Below.refl w.heap.size w).alloc (Nat.le_refl _) (.cells (tab f) 55)).trans (hb1.mono (by simp))
    have HT := Lib.hid ht
    have HB := Lib.hid hb
    clear ht hb hb1
    refine wp_region_any (by kernel_rfl) ?_
    change wpAny _ _ _ _ _ _ _ (World.drew _)
    refine wpAny_take (i := 0) (v := .int .u32 c) rfl (by kernel_rfl) (by kernel_rfl) (by kernel_rfl) (fun _ _ _ h => h) (Or.inl ⟨by rfl, by intro w; go_simp⟩) ?_
    refine wpAny_take (i := 1) (v := .string a2) rfl (by kernel_rfl) (by kernel_rfl) (by kernel_rfl) (fun _ _ _ h => h) (Or.inl ⟨by rfl, by intro w; go_simp⟩) ?_
    refine wpAny_take (i := 4) (v := .int .u32 c) rfl (by kernel_rfl) (by kernel_rfl) (by kernel_rfl) (fun _ _ _ h => h) (Or.inl ⟨by rfl, by intro w; go_simp⟩) ?_
    refine wpAny_take (i := 5) (v := .string a2) rfl (by kernel_rfl) (by kernel_rfl) (by kernel_rfl) (fun _ _ _ h => h) (Or.inl ⟨by rfl, by intro w; go_simp⟩) ?_
    refine wpAny_ready (rs := [2, 3]) (by kernel_rfl) (by simp) ?_
    refine AllReady.cons rfl (fun K hK => ?_) (AllReady.cons rfl (fun K hK => ?_) AllReady.nil)
    · go_simp
      refine (update_by f hf _ c hc a2 w2 _ (by exact HT.out)).mono ?_; rintro e w' ⟨rfl, n, rfl⟩
      refine hK _ _ ?_; clear hK K
      refine wpAny_ready (rs := [3]) (by kernel_rfl) (by simp) ?_
      refine AllReady.cons rfl (fun K hK => ?_) AllReady.nil
      refine step_load_row rfl 55 (.tmp 3) rfl w.heap.size rfl 55 (tab f) (0, 0) _ HT.out Try.underlying55 rfl (by rw [tab_size]; exact info_table) ?_
      refine hK _ _ ?_; clear hK K
      refine wpAny_ready (rs := [6]) (by kernel_rfl) (by simp) ?_
      refine AllReady.cons rfl (fun K hK => ?_) AllReady.nil
      go_simp
      refine (rthrough_any f hf c hc a2 w2 _).mono ?_; rintro e w' ⟨rfl, hb2⟩
      refine hK _ _ ?_; clear hK K
      refine wpAny_ready (rs := [7]) (by kernel_rfl) (by simp) ?_
      refine AllReady.cons rfl (fun K hK => ?_) AllReady.nil
      go_simp
      refine hK _ _ ?_; clear hK K
      refine wpAny_ready (rs := [8]) (by kernel_rfl) (by simp) ?_
      refine AllReady.cons rfl (fun K hK => ?_) AllReady.nil
      go_simp
      refine hK _ _ ?_; clear hK K
      refine wpAny_done (by kernel_rfl) ?_ _
      go_wp2
      go_ret
      exact ⟨rfl, below_then (below_drewN HB.out _) hb2⟩
    · refine step_load_row rfl 55 (.tmp 3) rfl w.heap.size rfl 55 (tab f) (0, 0) _ HT.out Try.underlying55 rfl (by rw [tab_size]; exact info_table) ?_
      refine hK _ _ ?_; clear hK K
      refine wpAny_ready (rs := [2]) (by kernel_rfl) (by simp) ?_
      refine AllReady.cons rfl (fun K hK => ?_) AllReady.nil
      go_simp
      refine (update_by f hf _ c hc a2 w2 _ (by exact HT.out)).mono ?_; rintro e w' ⟨rfl, n, rfl⟩
      refine hK _ _ ?_; clear hK K
      refine wpAny_ready (rs := [6]) (by kernel_rfl) (by simp) ?_
      refine AllReady.cons rfl (fun K hK => ?_) AllReady.nil
      go_simp
      refine (rthrough_any f hf c hc a2 w2 _).mono ?_; rintro e w' ⟨rfl, hb2⟩
      refine hK _ _ ?_; clear hK K
      refine wpAny_ready (rs := [7]) (by kernel_rfl) (by simp) ?_
      refine AllReady.cons rfl (fun K hK => ?_) AllReady.nil
      go_simp
      refine hK _ _ ?_; clear hK K
      refine wpAny_ready (rs := [8]) (by kernel_rfl) (by simp) ?_
      refine AllReady.cons rfl (fun K hK => ?_) AllReady.nil
      go_simp
      refine hK _ _ ?_; clear hK K
      refine wpAny_done (by kernel_rfl) ?_ _
      go_wp2
      go_ret
      exact ⟨rfl, below_then (below_drewN HB.out _) hb2⟩
  · go_enter Try.func8, Try.ntmps8
    go_wp2_with (go_at_call 33; refine (awake2_any _).mono ?_; rintro e wA ⟨rfl, hb1⟩)
    go_ret
    exact ⟨rfl, ((Below.refl w.heap.size w).alloc (Nat.le_refl _) _).trans (hb1.mono (by simp))⟩
end Go.Proofs.Ytcfpkmonbnfehaa
