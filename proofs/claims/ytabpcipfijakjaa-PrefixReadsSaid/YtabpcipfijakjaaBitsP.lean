/-
  Contracts: the document's writer: Bytes and Done.
-/
import Derived.Test.YtabpcipfijakjaaBitsQ
import Derived.Deep.CutBlock
import Derived.Deep.DeepCutAuto
namespace Go.Proofs.Ytabpcipfijakjaa
set_option maxRecDepth 100000
open Go.RowKit Go.Joins

theorem num_step (s : ByteArray) (k : Nat) (h : k < s.size) : num s % 256 ^ (k + 1) = num s % 256 ^ k + s[k].toNat * 256 ^ k := by
  have hg := numL_get _ (nums_lt s) k _ (nums_get s k h)
  unfold num
  rw [Nat.mod_pow_succ, hg, Nat.mul_comm]
theorem num_all (s : ByteArray) : num s % 256 ^ s.size = num s := Nat.mod_eq_of_lt (by rw [p256]; exact num_lt s)

/-- The bytes so far: one bit more, at a byte's beginning. -/
theorem le_new (M i : Nat) (h8 : i % 8 = 0) : le (M % 2 ^ i) ((i + 7) / 8 + 1) = le (M % 2 ^ i) ((i + 7) / 8) ++ [0] := by
  rw [le]
  have e : i = 8 * ((i + 7) / 8) := by omega
  have hl : M % 2 ^ i < 256 ^ ((i + 7) / 8) := by
    rw [p256, ← e]
    exact Nat.mod_lt _ (Nat.two_pow_pos i)
  rw [Nat.div_eq_of_lt hl]
/-- .. put into the last byte. -/
theorem le_bit (M i : Nat) : le (M % 2 ^ (i + 1)) (i / 8 + 1) = (le (M % 2 ^ i) (i / 8 + 1)).set (i / 8) (M % 2 ^ i / 256 ^ (i / 8) % 256 + M / 2 ^ i % 2 * 2 ^ (i % 8)) ∧
    M % 2 ^ i / 256 ^ (i / 8) % 256 + M / 2 ^ i % 2 * 2 ^ (i % 8) < 256 ∧ M % 2 ^ i / 256 ^ (i / 8) % 256 < 128 := by
  have hb := bit_mul M i
  have e2 : (2 : Nat) ^ i = 256 ^ (i / 8) * 2 ^ (i % 8) := by rw [p256, ← Nat.pow_add, show 8 * (i / 8) + i % 8 = i by omega]
  have hX : M % 2 ^ i < 2 ^ i := Nat.mod_lt _ (Nat.two_pow_pos i)
  have hxl : M % 2 ^ i / 256 ^ (i / 8) < 2 ^ (i % 8) := div_lt _ _ _ (by rw [show 8 * (i / 8) + i % 8 = i by omega]; exact hX)
  have hp : (2 : Nat) ^ (i % 8) ≤ 128 := Nat.pow_le_pow_right (n := 2) (by omega) (show i % 8 ≤ 7 by omega)
  have hbit : M / 2 ^ i % 2 < 2 := Nat.mod_lt _ (by omega)
  generalize M / 2 ^ i % 2 = bt at *
  generalize M % 2 ^ i = X at *
  have hsum : X / 256 ^ (i / 8) + bt * 2 ^ (i % 8) < 256 := by
    have : bt * 2 ^ (i % 8) ≤ 1 * 2 ^ (i % 8) := Nat.mul_le_mul_right _ (by omega)
    omega
  have e3 : bt * (256 ^ (i / 8) * 2 ^ (i % 8)) = 256 ^ (i / 8) * (bt * 2 ^ (i % 8)) := by ac_rfl
  have hd : M % 2 ^ (i + 1) / 256 ^ (i / 8) = X / 256 ^ (i / 8) + bt * 2 ^ (i % 8) := by
    rw [hb, e2, e3, Nat.add_mul_div_left _ _ (Nat.pow_pos (by omega))]
  have hm : X / 256 ^ (i / 8) % 256 = X / 256 ^ (i / 8) := Nat.mod_eq_of_lt (by omega)
  refine ⟨?_, by rw [hm]; exact hsum, by rw [hm]; omega⟩
  have hle : le (M % 2 ^ (i + 1)) (i / 8) = le X (i / 8) := by
    refine le_mod' _ _ _ ?_
    rw [hb, e2, e3, Nat.add_mul_mod_self_left]
  rw [le, le, hle, hd, hm, Nat.mod_eq_of_lt hsum]
  rw [List.set_append_right _ _ (by rw [le_len]; exact Nat.le_refl _), le_len]
  simp
theorem cells8_set (l : List Nat) (j x : Nat) : cells8 (l.set j x) = (cells8 l).set j (.int .u8 (x : Nat)) := by unfold cells8; rw [List.map_set]
theorem le_get (M k j : Nat) (h : j < k) : (le M k)[j]? = some (M / 256 ^ j % 256) := by
  have hg : (le M k)[j]? = some ((le M k)[j]'(by rw [le_len]; exact h)) := List.getElem?_eq_getElem (by rw [le_len]; exact h)
  rw [hg]
  have h1 := numL_get _ (le_lt M k) j _ hg
  rw [numL_le] at h1
  rw [← h1]
  congr 1
  have e : (256 : Nat) ^ k = 256 ^ j * 256 ^ (k - j - 1 + 1) := by rw [← Nat.pow_add, show j + (k - j - 1 + 1) = k by omega]
  rw [e, Nat.mod_mul_right_div_self, Nat.pow_succ', Nat.mod_mul_right_mod]

set_option maxRecDepth 100000 in
set_option maxHeartbeats 8000000 in
theorem rdone_any (B g : Nat) (r : Option Nat) (M L : Nat) (hL : L ≤ 1000000000) (w : World) (hc : Qr w B g r M L) :
    Calls Try.prog 20 #[.pointer (some ⟨g, 0, none⟩)] w fun e w' => e = .returned (.string (text (le M ((L + 7) / 8)))) ∧ Below w.heap.size w w' := by
  obtain ⟨hM, v0, hb0, ho0, hr0, hBg⟩ := hc
  obtain ⟨A, c, rfl⟩ := row_slice ho0
  have hgl := lt_of_block' hb0
  have hc0 : w.cell? ⟨g, 0, none⟩ = some (.slice A L c) := by rw [cell_of_row w g 0 _ _ _ hb0]; rfl
  have hbits : 0 < L → ∃ gr, A = some ⟨gr, 0, none⟩ ∧ gr < w.heap.size ∧ ∀ i, i < L → w.cell? ⟨gr, i, none⟩ = some (.int .u8 ((M / 2 ^ i % 2 : Nat) : Int)) := fun hpos => by
    rcases ownsRow_forms ho0 with ⟨_, h0⟩ | ⟨gr, cap, hv⟩
    · omega
    · injection hv with hA _ _
      subst hA
      have hlt := (ho0.lt gr rfl).2
      refine ⟨gr, rfl, hlt, fun i hi => ?_⟩
      rw [ho0.cellAt i (by omega)]
      simp only [cells8, List.getElem?_map, bl_get M L i hi, Option.map_some]
  have HBT := Lib.hid hbits
  have HMM := Lib.hid hM
  obtain ⟨i0, hi, hz0, hz1, hz2⟩ := info_parts info8
  clear hb0 ho0 hr0 hbits hM
  go_enter Try.func20, Try.ntmps20
  go_wp2
  go_loopw [3, 4] (fun o i wr => ∃ k, k ≤ L ∧ i = .int .i64 k ∧ wr.ownsRow w.heap.size 5 1 o ((k + 7) / 8) (cells8 (le (M % 2 ^ k) ((k + 7) / 8))) ∧ Below w.heap.size w wr) (fun _ i _ => L - (intOf i).toNat)
  case atStart => exact ⟨0, Nat.zero_le _, rfl, World.ownsRow_nil _ _ _ _, Below.refl _ _⟩
  case round =>
    obtain ⟨k, hk, rfl, hown, hbel⟩ := hrel
    have HO := Lib.hid hown
    have HB := Lib.hid hbel
    have c0 : wr.cell? ⟨g, 0, none⟩ = some (.slice A L c) := (hbel.cell (p := ⟨g, 0, none⟩) hgl).trans hc0
    by_cases hlt : k < L
    · obtain ⟨gr, rfl, hgr, hbt⟩ := HBT.out (by omega)
      have cb : wr.cell? ⟨gr, k, none⟩ = some (.int .u8 ((M / 2 ^ k % 2 : Nat) : Int)) := (hbel.cell (p := ⟨gr, k, none⟩) hgr).trans (hbt k hlt)
      have hcb := hbt k hlt
      have hcb := hbt k hlt
      have hmod : (k : Int).tmod 8 = (k % 8 : Nat) := by rw [Int.tmod_eq_emod_of_nonneg (by omega)]; omega
      have hb2 : M / 2 ^ k % 2 < 2 := Nat.mod_lt _ (by omega)
      have hk8 : k % 8 < 8 := Nat.mod_lt _ (by omega)
      have HLB1 := Lib.hid (le_bit M k).1
      have HSUM := Lib.hid (le_bit M k).2.1
      have HNEW := Lib.hid (le_new M k)
      have HQ : Hid (k / 8 = k / 8) := rfl
      obtain ⟨q, hq⟩ : ∃ q, k / 8 = q := ⟨_, rfl⟩
      obtain ⟨m8, hm8⟩ : ∃ m8, k % 8 = m8 := ⟨_, rfl⟩
      obtain ⟨X, hX⟩ : ∃ X, M % 2 ^ k = X := ⟨_, rfl⟩
      obtain ⟨lst, hlst⟩ : ∃ x, X / 256 ^ q % 256 = x := ⟨_, rfl⟩
      have HLST := Lib.hid hlst
      have hq1 : q ≤ 125000000 := by omega
      clear HQ
      have HQ := Lib.hid hq
      rw [hX] at HO
      rw [hX, hq, hm8, hlst] at HLB1 HSUM
      rw [hX, hm8] at HNEW
      rw [hm8] at hmod hk8
      clear hown hbel hbt hX hlst
      generalize M / 2 ^ k % 2 = bt at *
      by_cases h0 : m8 = 0
      · have e7 : (k + 7) / 8 = q := by omega
        have HNEW2 := Lib.hid (HNEW.out h0)
        rw [e7] at HNEW2 HO
        have hmod0 : (k : Int).tmod 8 = 0 := by rw [hmod, h0]; rfl
        clear HNEW hq hm8 e7 hmod
        go_wp2_with (at_builtin; refine wpList_append_own _ rfl (.tmp 19) (.tmp 20) _ rfl w.heap.size 5 i0 (.int .u8 0) 1 1 Try.underlying22 hi hz0 hz1 hz2 rfl (by decide) _ q (cells8 (le X q)) rfl (HO.out.alloc _) ⟨wr.heap.size, 0, none⟩ 1 1 [.int .u8 0] rfl rfl ?c1 ?c2 ?c3 ?c4 ?c5 ?_)
        case c1 => exact cell_one_new _ _ _
        case c2 => intro u hu; simp at hu; subst hu; rfl
        case c3 => unfold maxLen; omega
        case c4 => omega
        case c5 => have := HB.out.size; simp; omega
        · intro v' w1 hown' hgrow _
          have HB1 : Hid (Below w.heap.size w w1) := (HB.out.alloc HB.out.size _).grown hgrow (by have := HB.out.size; simp; omega) (fun b hb => by
            have := HO.out.lt b hb
            omega)
          have HO1 : Hid (w1.ownsRow w.heap.size 5 1 v' (q + 1) (cells8 (le X (q + 1)))) := by
            show World.ownsRow _ _ _ _ _ _ _
            rw [HNEW2.out, cells8_app]
            exact hown'
          replace c0 : w1.cell? ⟨g, 0, none⟩ = some (.slice (some ⟨gr, 0, none⟩) L c) := (HB1.out.cell (p := ⟨g, 0, none⟩) hgl).trans hc0
          replace cb : w1.cell? ⟨gr, k, none⟩ = some (.int .u8 (bt : Nat)) := (HB1.out.cell (p := ⟨gr, k, none⟩) hgr).trans hcb
          clear hown' hgrow HO HB
          obtain ⟨go, cap, rfl⟩ := Joins.ownsRow_form HO1.out (by omega)
          have hgo := (HO1.out.lt go rfl)
          have hce : w1.cell? ⟨go, q, none⟩ = some (.int .u8 (lst : Nat)) := by
            rw [HO1.out.cellAt q (by omega)]
            simp only [cells8, List.getElem?_map, le_get _ _ _ (Nat.lt_succ_self q), Option.map_some, HLST.out]
          have hfz : w1.frozen? ⟨go, q, none⟩ = false := HO1.out.frozenAt q
          have HGO := Lib.hid hgo
          clear hgo
          go_wp2
          go_loop [5, 6] (fun x y => ∃ t, t ≤ m8 ∧ y = .int .i64 t ∧ x = .int .u8 (2 ^ t : Nat)) (fun _ y => m8 - (intOf y).toNat)
          case atStart => exact ⟨0, Nat.zero_le _, rfl, rfl⟩
          case round =>
            obtain ⟨t, ht, rfl, rfl⟩ := hrel
            by_cases htl : t < m8
            · exact absurd htl (by omega)
            · obtain rfl : t = m8 := by omega
              obtain ⟨x, hx, hxl⟩ : ∃ x, 2 ^ t = x ∧ x ≤ 128 := ⟨_, rfl, Nat.pow_le_pow_right (n := 2) (by omega) (show t ≤ 7 by omega)⟩
              have hsum := HSUM.out
              rw [hx] at hsum ⊢
              have HX := Lib.hid hx
              obtain ⟨y, hy, hyl⟩ : ∃ y, bt * x = y ∧ lst + y < 256 := ⟨_, rfl, hsum⟩
              have hy1 : ((bt : Int) * (x : Int)) = (y : Int) := by rw [← hy]; simp
              have hy2 : (y : Int) % 256 = y := by omega
              have hy3 : ((lst : Int) + (y : Int)) % 256 = (lst : Int) + (y : Int) := by omega
              have hw8 : IntKind.u8.wrap (y : Int) = y := by rw [IntKind.wrap_u8]; omega
              have hw9 : IntKind.u8.wrap ((lst : Int) + (y : Int)) = (lst : Int) + (y : Int) := by rw [IntKind.wrap_u8]; omega
              have hwq : IntKind.i64.wrap (q : Int) = q := by rw [IntKind.wrap_i64]; omega
              have hwq2 : IntKind.i64.wrap ((q : Int) + 1 - 1) = q := by rw [IntKind.wrap_i64]; omega
              have HY := Lib.hid hy
              have hqi : (q : Int) < (q : Int) + 1 := by omega
              have hkL : (k : Int) < (L : Int) := by omega
              clear hx hy hsum
              go_wp2
              go_still_tail 21, (by kernel_rfl)
              change wpList _ _ _ _ _ w1.drew
              replace hfz : w1.drew.frozen? ⟨go, q, none⟩ = false := hfz
              replace hce : w1.drew.cell? ⟨go, q, none⟩ = some (.int .u8 (lst : Nat)) := hce
              have HO2 : Hid (w1.drew.ownsRow w.heap.size 5 1 (.slice (some ⟨go, 0, none⟩) (q + 1) cap) (q + 1) (cells8 (le X (q + 1)))) := HO1.out.drew
              have HB2 : Hid (Below w.heap.size w w1.drew) := HB1.out.drew
              generalize w1.drew = w2 at *
              go_wp2
              go_roundw
              case rel =>
                obtain ⟨h3, h4⟩ := HO2.out.stored q (.int .u8 ((lst : Int) + (y : Int)))
                refine ⟨k + 1, by omega, by go_num, ?_, HB2.out.setCell HGO.out.1 _⟩
                have e8 : (k + 1 + 7) / 8 = q + 1 := by have := HQ.out; omega
                have h5 := HLB1.out
                rw [HX.out, HY.out] at h5
                rw [e8, h5, cells8_set]
                exact h3
              case measure => simp [intOf]; omega
      · have hne : (((m8 : Nat) : Int) == 0) = false := by rw [beq_eq_false_iff_ne]; omega
        have e7 : (k + 7) / 8 = q + 1 := by omega
        rw [e7] at HO
        have HO1 := HO
        have HB1 := HB
        clear HNEW hq hm8 e7 HO HB
        obtain ⟨go, cap, rfl⟩ := Joins.ownsRow_form HO1.out (by omega)
        have hgo := (HO1.out.lt go rfl)
        have hce : wr.cell? ⟨go, q, none⟩ = some (.int .u8 (lst : Nat)) := by
          rw [HO1.out.cellAt q (by omega)]
          simp only [cells8, List.getElem?_map, le_get _ _ _ (Nat.lt_succ_self q), Option.map_some, HLST.out]
        have hfz : wr.frozen? ⟨go, q, none⟩ = false := HO1.out.frozenAt q
        have HGO := Lib.hid hgo
        clear hgo
        go_wp2
        go_loop [5, 6] (fun x y => ∃ t, t ≤ m8 ∧ y = .int .i64 t ∧ x = .int .u8 (2 ^ t : Nat)) (fun _ y => m8 - (intOf y).toNat)
        case atStart => exact ⟨0, Nat.zero_le _, rfl, rfl⟩
        case round =>
          obtain ⟨t, ht, rfl, rfl⟩ := hrel
          by_cases htl : t < m8
          · have hp : 2 ^ t ≤ 64 := Nat.pow_le_pow_right (n := 2) (by omega) (show t ≤ 6 by omega)
            have HP2 : Hid (2 ^ (t + 1) = 2 ^ t * 2) := Nat.pow_succ 2 t
            generalize 2 ^ t = x at *
            go_wp2
            go_round
            case rel => exact ⟨t + 1, by omega, by go_num, by rw [HP2.out]; go_num⟩
            case measure => simp [intOf]; omega
          · obtain rfl : t = m8 := by omega
            obtain ⟨x, hx, hxl⟩ : ∃ x, 2 ^ t = x ∧ x ≤ 128 := ⟨_, rfl, Nat.pow_le_pow_right (n := 2) (by omega) (show t ≤ 7 by omega)⟩
            have hsum := HSUM.out
            rw [hx] at hsum ⊢
            have HX := Lib.hid hx
            obtain ⟨y, hy, hyl⟩ : ∃ y, bt * x = y ∧ lst + y < 256 := ⟨_, rfl, hsum⟩
            have hy1 : ((bt : Int) * (x : Int)) = (y : Int) := by rw [← hy]; simp
            have hy2 : (y : Int) % 256 = y := by omega
            have hy3 : ((lst : Int) + (y : Int)) % 256 = (lst : Int) + (y : Int) := by omega
            have hw8 : IntKind.u8.wrap (y : Int) = y := by rw [IntKind.wrap_u8]; omega
            have hw9 : IntKind.u8.wrap ((lst : Int) + (y : Int)) = (lst : Int) + (y : Int) := by rw [IntKind.wrap_u8]; omega
            have hwq : IntKind.i64.wrap (q : Int) = q := by rw [IntKind.wrap_i64]; omega
            have hwq2 : IntKind.i64.wrap ((q : Int) + 1 - 1) = q := by rw [IntKind.wrap_i64]; omega
            have HY := Lib.hid hy
            have hqi : (q : Int) < (q : Int) + 1 := by omega
            have hkL : (k : Int) < (L : Int) := by omega
            clear hx hy hsum
            go_wp2
            go_still_tail 21, (by kernel_rfl)
            change wpList _ _ _ _ _ wr.drew
            replace hfz : wr.drew.frozen? ⟨go, q, none⟩ = false := hfz
            replace hce : wr.drew.cell? ⟨go, q, none⟩ = some (.int .u8 (lst : Nat)) := hce
            have HO2 : Hid (wr.drew.ownsRow w.heap.size 5 1 (.slice (some ⟨go, 0, none⟩) (q + 1) cap) (q + 1) (cells8 (le X (q + 1)))) := HO1.out.drew
            have HB2 : Hid (Below w.heap.size w wr.drew) := HB1.out.drew
            generalize wr.drew = w2 at *
            go_wp2
            go_roundw
            case rel =>
              obtain ⟨h3, h4⟩ := HO2.out.stored q (.int .u8 ((lst : Int) + (y : Int)))
              refine ⟨k + 1, by omega, by go_num, ?_, HB2.out.setCell HGO.out.1 _⟩
              have e8 : (k + 1 + 7) / 8 = q + 1 := by have := HQ.out; omega
              have h5 := HLB1.out
              rw [HX.out, HY.out] at h5
              rw [e8, h5, cells8_set]
              exact h3
            case measure => simp [intOf]; omega
    · obtain rfl : k = L := by omega
      rw [Nat.mod_eq_of_lt HMM.out] at hown
      have hcv := string_of_own hown (le_lt _ _)
      clear hown hbel
      go_wp2
      go_ret
      exact ⟨rfl, HB.out⟩
end Go.Proofs.Ytabpcipfijakjaa
