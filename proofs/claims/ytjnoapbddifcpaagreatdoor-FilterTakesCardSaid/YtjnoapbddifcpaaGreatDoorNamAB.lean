/-
  Contract: the document's Decode.
-/
import Derived.Test.YtjnoapbddifcpaaGreatDoorPkDB
namespace Go.Proofs.YtjnoapbddifcpaaGreatDoor
set_option maxRecDepth 100000
open Go.RowKit Go.Deep Go.Joins Go.Lib

set_option maxHeartbeats 8000000 in
theorem rdecode_cp (s : ByteArray) (w : World) (hs : s.size ≤ 100000) :
    Calls Tryz.prog 81 #[.string s, .bool false] w fun e w' => e = .returned (.tuple #[.string (text (decL (nums s))), .int .i64 0]) ∧ Below w.heap.size w w' := by
  obtain ⟨i0, hi, hz0, hz1, hz2⟩ := info_parts info8
  have HT := Lib.hid (fun w => table_any w)
  have HBY := Lib.hid (fun r hr w => bytes_cp r hr w)
  have HTB : Hid ((w.alloc (.cells cpV 3)).heap[w.heap.size]? = some (.cells cpV 3 (0, 0))) := heap_alloc_new w _
  have HB0 : Hid (Below w.heap.size w (w.alloc (.cells cpV 3))) := (Below.refl _ _).alloc (Nat.le_refl _) _
  have HS0 : Hid (w.heap.size + 1 ≤ (w.alloc (.cells cpV 3)).heap.size) := by show _ ≤ _; simp
  go_enter Tryz.func81, Tryz.ntmps81
  go_wp2_with fail
  refine (HT.out _).mono ?_
  rintro e w1 ⟨rfl, rfl⟩
  generalize w.alloc (.cells cpV 3) = w1 at *
  go_wp2_with fail
  go_loopw [8, 7] (fun i v wr => ∃ k : Nat, k ≤ s.size ∧ i = .int .i64 (k : Nat) ∧ Hid (wr.ownsRow (w.heap.size + 1) 5 1 v (decL ((nums s).take k)).length (cells8 (decL ((nums s).take k)))) ∧ Hid (wr.heap[w.heap.size]? = some (.cells cpV 3 (0, 0))) ∧ Hid (Below w.heap.size w wr) ∧ Hid (w.heap.size + 1 ≤ wr.heap.size)) (fun i _ _ => s.size - (intOf i).toNat)
  case atStart => exact ⟨0, Nat.zero_le _, rfl, World.ownsRow_nil _ _ _ _, HTB.out, HB0.out, HS0.out⟩
  case round =>
    obtain ⟨k, hk, rfl, HO, HTT, HW, HS⟩ := hrel
    by_cases hks : k < s.size
    · have hlt : s[k].toNat < 256 := s[k].toNat_lt
      have HSN : Hid (decL ((nums s).take (k + 1)) = decL ((nums s).take k) ++ encN (cpN s[k].toNat)) := by show _ = _; rw [nums_snoc s k hks, decL_snoc]
      have hdl : (decL ((nums s).take k)).length ≤ 1000000 := by
        have := decL_len ((nums s).take k)
        rw [List.length_take, nums_len] at this
        omega
      have hcp := cpN_lt hlt
      have hel := (enc_len (cpN s[k].toNat)).1
      have hel1 := (enc_len (cpN s[k].toNat)).2
      generalize decL ((nums s).take k) = d at *
      have ho := HO.out
      obtain ⟨A, cp, rfl⟩ := row_slice ho
      clear ho
      have hw8 : IntKind.i64.wrap (s[k].toNat : Int) = (s[k].toNat : Int) := by rw [IntKind.wrap_i64]; omega
      by_cases h128 : 128 ≤ s[k].toNat
      · obtain ⟨q, hq, hqi⟩ : ∃ q : Nat, s[k].toNat - 128 = q ∧ ((s[k].toNat : Int) - 128) = (q : Int) := ⟨s[k].toNat - 128, rfl, by omega⟩
        have hqk : q < 128 := by omega
        have hce : cpN s[k].toNat = cpL.getD q 0 := by unfold cpN; rw [if_neg (by omega), hq]
        have hcell : wr.cell? ⟨w.heap.size, q, none⟩ = some (.int .i64 ((cpN s[k].toNat : Nat) : Int)) := by
          rw [Lib.cell_of_heap HTT.out, hce]
          exact cpV_at q hqk
        generalize cpN s[k].toNat = r at *
        clear hce hq
        go_wp2_with fail
        refine (HBY.out r (by omega) _).mono ?_
        rintro e w2 ⟨rfl, rfl⟩
        have hsrc : ∀ (j : Nat) u, (cells8 (encN r))[j]? = some u → (wr.alloc (.cells (cells8 (encN r)).toArray 5)).cell? ((⟨wr.heap.size, 0, none⟩ : Addr).add j) = some u := fun j u hj => by
          rw [Addr.add_lit, Nat.zero_add, Lib.cell_of_heap (heap_alloc_new wr _)]
          simpa using hj
        have HSRC := Lib.hid hsrc
        clear hsrc
        go_wp2_with (at_builtin; refine wpList_append_own_at _ rfl (.tmp 32) (.tmp 34) _ rfl (w.heap.size + 1) 5 i0 (.int .u8 0) 1 1 Tryz.underlying223 hi hz0 hz1 hz2 rfl (by decide) _ d.length (cells8 d) rfl (HO.out.alloc _) ⟨wr.heap.size, 0, none⟩ (encN r).length (encN r).length (cells8 (encN r)) rfl (by simp [cells8]) HSRC.out ?c2 ?c3 ?c4 ?c5 ?_)
        case c2 =>
          intro u hu
          obtain ⟨x, _, rfl⟩ := List.mem_map.1 hu
          rfl
        case c3 => unfold maxLen; omega
        case c4 => omega
        case c5 => have := HS.out; simp; omega
        intro v2 w3 hown hgrow _ hat
        have HO3 : Hid (w3.ownsRow (w.heap.size + 1) 5 1 v2 (decL ((nums s).take (k + 1))).length (cells8 (decL ((nums s).take (k + 1))))) := by
          show World.ownsRow _ _ _ _ _ _ _
          rw [HSN.out, List.length_append, cells8_app]
          exact hown
        have HW3 : Hid (Below w.heap.size w w3) := (HW.out.alloc HW.out.size _).grown hgrow (by have := HS.out; simp; omega) (fun g hg => by have := (HO.out.lt g hg).1; omega)
        have HT3 : Hid (w3.heap[w.heap.size]? = some (.cells cpV 3 (0, 0))) := by
          have h1 : w.heap.size < wr.heap.size := by have := HS.out; omega
          show _ = _
          rw [hgrow.block w.heap.size (by simp; omega) (fun e => by have := (HO.out.lt _ e.symm).1; omega), Below.heap_alloc wr _ _ h1]
          exact HTT.out
        have HS3 : Hid (w.heap.size + 1 ≤ w3.heap.size) := by have h1 := hgrow.size; have h2 := HS.out; simp at h1; show _ ≤ _; omega
        clear hown hgrow hat
        go_wp2_with fail
        go_roundw
        case rel => exact ⟨k + 1, by omega, by go_num, HO3, HT3, HW3, HS3⟩
        case measure => simp [intOf]; omega
      · have hce : cpN s[k].toNat = s[k].toNat := by unfold cpN; rw [if_pos (by omega)]
        have h128 : s[k].toNat < 128 := by omega
        obtain ⟨r, hrr⟩ : ∃ r, cpN s[k].toNat = r := ⟨_, rfl⟩
        have hsr : s[k].toNat = r := hce.symm.trans hrr
        rw [hrr] at hel hel1 hcp HSN
        have hw9 : IntKind.i64.wrap (s[k].toNat : Int) = (r : Int) := by rw [hw8, hsr]
        have hr128 : r < 128 := by omega
        clear hce hrr hw8 hsr
        go_wp2_with fail
        refine (HBY.out r (by omega) _).mono ?_
        rintro e w2 ⟨rfl, rfl⟩
        have hsrc : ∀ (j : Nat) u, (cells8 (encN r))[j]? = some u → (wr.alloc (.cells (cells8 (encN r)).toArray 5)).cell? ((⟨wr.heap.size, 0, none⟩ : Addr).add j) = some u := fun j u hj => by
          rw [Addr.add_lit, Nat.zero_add, Lib.cell_of_heap (heap_alloc_new wr _)]
          simpa using hj
        have HSRC := Lib.hid hsrc
        clear hsrc
        go_wp2_with (at_builtin; refine wpList_append_own_at _ rfl (.tmp 32) (.tmp 34) _ rfl (w.heap.size + 1) 5 i0 (.int .u8 0) 1 1 Tryz.underlying223 hi hz0 hz1 hz2 rfl (by decide) _ d.length (cells8 d) rfl (HO.out.alloc _) ⟨wr.heap.size, 0, none⟩ (encN r).length (encN r).length (cells8 (encN r)) rfl (by simp [cells8]) HSRC.out ?c2 ?c3 ?c4 ?c5 ?_)
        case c2 =>
          intro u hu
          obtain ⟨x, _, rfl⟩ := List.mem_map.1 hu
          rfl
        case c3 => unfold maxLen; omega
        case c4 => omega
        case c5 => have := HS.out; simp; omega
        intro v2 w3 hown hgrow _ hat
        have HO3 : Hid (w3.ownsRow (w.heap.size + 1) 5 1 v2 (decL ((nums s).take (k + 1))).length (cells8 (decL ((nums s).take (k + 1))))) := by
          show World.ownsRow _ _ _ _ _ _ _
          rw [HSN.out, List.length_append, cells8_app]
          exact hown
        have HW3 : Hid (Below w.heap.size w w3) := (HW.out.alloc HW.out.size _).grown hgrow (by have := HS.out; simp; omega) (fun g hg => by have := (HO.out.lt g hg).1; omega)
        have HT3 : Hid (w3.heap[w.heap.size]? = some (.cells cpV 3 (0, 0))) := by
          have h1 : w.heap.size < wr.heap.size := by have := HS.out; omega
          show _ = _
          rw [hgrow.block w.heap.size (by simp; omega) (fun e => by have := (HO.out.lt _ e.symm).1; omega), Below.heap_alloc wr _ _ h1]
          exact HTT.out
        have HS3 : Hid (w.heap.size + 1 ≤ w3.heap.size) := by have h1 := hgrow.size; have h2 := HS.out; simp at h1; show _ ≤ _; omega
        clear hown hgrow hat
        go_wp2_with fail
        go_roundw
        case rel => exact ⟨k + 1, by omega, by go_num, HO3, HT3, HW3, HS3⟩
        case measure => simp [intOf]; omega
    · obtain rfl : k = s.size := by omega
      have hall : (nums s).take s.size = nums s := by rw [← nums_len]; exact List.take_length
      rw [hall] at HO
      have hstr := string_of_own HO.out (decL_lt s)
      have ho := HO.out
      obtain ⟨A, cp, rfl⟩ := row_slice ho
      clear ho
      go_wp2_with fail
      go_ret2
      exact ⟨rfl, HW.out⟩
end Go.Proofs.YtjnoapbddifcpaaGreatDoor
