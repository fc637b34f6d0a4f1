/-
  The walk of NameParts: it returns true, whatever the paths.
-/
import Derived.Test.YtalfmepimhneoaaDoorNamL
namespace Go.Proofs.YtalfmepimhneoaaDoor
set_option maxRecDepth 100000
open Go.RowKit Go.Deep Go.Joins Go.Lib

theorem pts_text (s : ByteArray) : pts s = (partsL (nums s)).map text := by
  rw [← pts_nums, List.map_map]
  have : (text ∘ nums) = id := by funext p; exact text_nums p
  rw [this, List.map_id]
theorem pts_cells {w : World} {v : Value} {s : ByteArray} (h : IsPts w v (pts s)) : ∃ A, v = .slice A (partsL (nums s)).length (partsL (nums s)).length ∧ (0 < (partsL (nums s)).length → ∃ g, A = some ⟨g, 0, none⟩ ∧ g < w.heap.size ∧ ∀ i (hi : i < (partsL (nums s)).length), w.cell? ⟨g, i, none⟩ = some (.string (text (partsL (nums s))[i]))) := by
  rw [pts_text] at h
  rcases h with ⟨h1, h2⟩ | ⟨_, b, h1, h2, h3⟩
  · have : partsL (nums s) = [] := List.map_eq_nil_iff.1 h1
    exact ⟨none, by rw [this]; exact h2, fun h => by rw [this] at h; cases h⟩
  · rw [List.length_map] at h1
    refine ⟨_, h1, fun _ => ⟨b, rfl, h2, fun i hi => ?_⟩⟩
    have := h3 i _ (by rw [List.getElem?_map, List.getElem?_eq_getElem hi]; rfl)
    rw [Nat.zero_add] at this
    exact this
set_option maxHeartbeats 8000000 in
theorem nameParts_walk (a b : ByteArray) (_ : a.size ≤ maxLen) (_ : b.size ≤ maxLen) (w : World) (hE : Env w) :
    Calls Tryd.prog 5 #[.string a, .string b] w fun e w' => e = .returned (.bool true) ∧ Below w.heap.size w w' := by
  have HA := Lib.hid (awake10_any w hE)
  have HE := Lib.hid hE
  clear hE
  by_cases h1 : 2000 < a.size
  · have g1 : decide ((2000 : Int) < (a.size : Int)) = true := decide_eq_true (by omega)
    go_enter Tryd.func5, Tryd.ntmps5
    go_wp2_with fail
    refine (HA.out).mono ?_
    rintro e w1 ⟨rfl, hb⟩
    go_wp2_with fail
    go_ret
    exact ⟨rfl, hb⟩
  · by_cases h2 : 2000 < b.size
    · have g1 : decide ((2000 : Int) < (b.size : Int)) = true := decide_eq_true (by omega)
      go_enter Tryd.func5, Tryd.ntmps5
      go_wp2_with fail
      refine (HA.out).mono ?_
      rintro e w1 ⟨rfl, hb⟩
      go_wp2_with fail
      go_ret
      exact ⟨rfl, hb⟩
    · have HP := Lib.hid (fun w h => parts_any a w (by omega) h)
      have HRP := Lib.hid (fun w => rparts_any a w (by omega))
      have HPA := Lib.hid (fun w => parent_any a w (by omega))
      have HRA := Lib.hid (fun w => rparent_any a w (by omega))
      have HBA := Lib.hid (fun w => base_any a w (by omega))
      have HRB := Lib.hid (fun w => rbase_any a w (by omega))
      have HU := Lib.hid (fun w => under_any a b w)
      have HRU := Lib.hid (fun w => runder_any a b w)
      have HO := Lib.hid (fun w => order_any a b w (by omega))
      have HRO := Lib.hid (fun w => rorder_any a b w (by omega) (by omega))
      have HPC := Lib.hid (fun w v (h : IsPts w v (pts a)) => pts_cells h)
      have hlen := parts_len a
      have ga : a.size ≤ 2000 := by omega
      have gb : b.size ≤ 2000 := by omega
      clear h1 h2
      generalize partsL (nums a) = xs at *
      generalize pts a = ps at *
      generalize parB a = pa at *
      generalize baseB a = ba at *
      generalize undB a b = u at *
      generalize ordT a b = O at *
      go_enter Tryd.func5, Tryd.ntmps5
      go_wp2_with fail
      refine (HA.out).mono ?_
      rintro e w1 ⟨rfl, hb⟩
      have HB1 := Lib.hid hb
      clear hb
      go_wp2_with fail
      refine (HP.out _ (HE.out.below HB1.out)).mono ?_
      rintro e w2 ⟨v2, rfl, hv2, hb2⟩
      obtain ⟨A2, rfl, hc2⟩ := HPC.out _ _ hv2
      have HC2 := Lib.hid hc2
      have HB2 := Lib.hid (below_then HB1.out hb2)
      clear hv2 hb2 hc2
      go_wp2_with fail
      refine (HRP.out _).mono ?_
      rintro e w3 ⟨v3, rfl, ho3, hb3⟩
      obtain ⟨A3, c3, rfl⟩ := row_slice ho3
      have HO3 := Lib.hid ho3
      have HB3 := Lib.hid (below_then HB2.out hb3)
      have HB23 := Lib.hid hb3
      clear ho3 hb3
      go_wp2_with fail
      go_loopw [29] (fun i wr => ∃ k : Nat, k ≤ xs.length ∧ i = .int .i64 (k : Nat) ∧ Hid (∃ n, wr = w3.drewN n)) (fun i _ => xs.length - (intOf i).toNat)
      case atStart => exact ⟨0, Nat.zero_le _, rfl, 0, rfl⟩
      case round =>
        obtain ⟨k, hk, rfl, HD⟩ := hrel
        by_cases hkn : k < xs.length
        · obtain ⟨g2, rfl, hg2, hd2⟩ := HC2.out (by omega)
          obtain ⟨g3, rfl, _, _, hd3⟩ := own_str HO3.out (by omega)
          have k1 : wr.cell? ⟨g2, k, none⟩ = some (.string (text xs[k])) := by
            obtain ⟨n, hn⟩ := HD.out
            rw [hn, World.cell?_drewN]
            exact (HB23.out.cell (p := ⟨g2, k, none⟩) hg2).trans (hd2 k hkn)
          have k2 : wr.cell? ⟨g3, k, none⟩ = some (.string (text xs[k])) := by
            obtain ⟨n, hn⟩ := HD.out
            rw [hn, World.cell?_drewN]
            exact hd3 k hkn
          generalize text xs[k] = x at *
          clear hd2 hd3 hg2
          go_wp2_with fail
          go_quiet (fail)
          go_wp2_with fail
          go_roundw
          case rel =>
            obtain ⟨nd, hd⟩ := HD.out
            exact ⟨k + 1, by omega, by go_num, nd + _, by rw [hd, World.drewN_drewN]⟩
          case measure => simp [intOf]; omega
        · have HBR : Hid (Below w.heap.size w wr) := by
            obtain ⟨n, hn⟩ := HD.out
            subst hn
            exact below_drewN HB3.out n
          obtain rfl : k = xs.length := by omega
          go_wp2_with fail
          refine (HPA.out _).mono ?_
          rintro e w4 ⟨rfl, rfl⟩
          go_wp2_with fail
          refine (HRA.out _).mono ?_
          rintro e w5 ⟨rfl, rfl⟩
          go_wp2_with fail
          refine (HBA.out _).mono ?_
          rintro e w6 ⟨rfl, rfl⟩
          go_wp2_with fail
          refine (HRB.out _).mono ?_
          rintro e w7 ⟨rfl, rfl⟩
          go_wp2_with fail
          refine (HU.out _).mono ?_
          rintro e w8 ⟨rfl, rfl⟩
          go_wp2_with fail
          refine (HRU.out _).mono ?_
          rintro e w9 ⟨rfl, rfl⟩
          go_wp2_with fail
          refine (HO.out _).mono ?_
          rintro e w10 ⟨rfl, n10, hw10⟩
          have HB10 : Hid (Below w.heap.size w w10) := by subst hw10; exact below_drewN HBR.out n10
          clear hw10
          go_wp2_with fail
          refine (HRO.out _).mono ?_
          rintro e w11 ⟨rfl, hb11⟩
          have HB11 := Lib.hid (below_then HB10.out hb11)
          clear hb11
          go_wp2_with fail
          go_ret
          exact ⟨rfl, HB11.out⟩
end Go.Proofs.YtalfmepimhneoaaDoor
