/-
  Contracts: what a path's field tells: strays, sumOf, ParsePath, PrintPath, the document's.
  What the frames of this seat share: a wrap that hands on both what the listed variables hold and the world's shape; a start that meets the condition; what the condition gives our walks.
-/
import Derived.Test.YtjnoapbddifcpaaGreatDoorNamO
import Derived.Test.YtjnoapbddifcpaaGreatDoorPkBJ
import Derived.Test.YtjnoapbddifcpaaGreatDoorPkBG
import Derived.Test.YtjnoapbddifcpaaGreatDoorPkAA
import Derived.Test.YtjnoapbddifcpaaGreatDoorShelf
import Derived.SizedLaws
import Derived.LaidMore
import Derived.LaidHandle
import Derived.Lib.LaidU8T
import Derived.PinnedBridge
import Derived.Shelf.Vars
import Derived.Stop.Joined

namespace Go.Proofs.YtjnoapbddifcpaaGreatDoor
set_option maxRecDepth 100000
open Go.RowKit Go.Deep Go.Joins

theorem decode_utf8 (s : ByteArray) (w : World) :
    Calls Tryz.prog 106 #[.string s, .bool true] w fun e w' => e = .returned (if straysB s = true then .tuple #[.string .empty, .int .i64 20] else .tuple #[.string s, .int .i64 0]) ∧ Below w.heap.size w w' := by
  have HS := Lib.hid (fun w => strays_any s w)
  cases hst : straysB s with
  | true =>
    rw [hst] at HS
    rw [if_pos rfl]
    go_enter Tryz.func106, Tryz.ntmps106
    go_wp2_with fail
    refine (HS.out _).mono ?_
    rintro e w1 ⟨rfl, hb⟩
    go_wp2_with fail
    go_ret2
    exact ⟨rfl, hb⟩
  | false =>
    rw [hst] at HS
    rw [if_neg (by decide)]
    go_enter Tryz.func106, Tryz.ntmps106
    go_wp2_with fail
    refine (HS.out _).mono ?_
    rintro e w1 ⟨rfl, hb⟩
    go_wp2_with fail
    go_ret2
    exact ⟨rfl, hb⟩
set_option maxHeartbeats 4000000 in
theorem rstrays_any (s : ByteArray) (w : World) (hs : s.size ≤ 1000000) :
    Calls Tryz.prog 119 #[.string s] w fun e w' => e = .returned (.bool (straysB s)) ∧ w' = w := by
  go_enter Tryz.func119, Tryz.ntmps119
  go_wp2_with fail
  go_loopw [3] (fun i wr => ∃ (pos f : Nat), i = .int .i64 (pos : Nat) ∧ pos ≤ s.size ∧ wr = w ∧ Hid (strayF s f pos = straysB s) ∧ s.size ≤ pos + f) (fun i _ => s.size - (intOf i).toNat)
  case atStart => exact ⟨0, s.size, rfl, Nat.zero_le _, rfl, rfl, by omega⟩
  case round =>
    obtain ⟨pos, f, rfl, hle, rfl, HC, hb⟩ := hrel
    by_cases hp : pos < s.size
    · have HONE := Lib.hid (fun w => rone_any s pos hp hs w)
      have hwd := decode_pos s pos hp
      have hend : pos + (Utf8.decode s pos).2 ≤ s.size := by
        rcases decode_run s pos hp with ⟨_, h2⟩ | ⟨_, _, _, _, h2, _⟩
        · rw [h2]; show pos + 1 ≤ _; omega
        · exact h2
      have HN : Hid (∃ f', f = f' + 1 ∧ (strayAt s pos = true → straysB s = true) ∧ (strayAt s pos = false → strayF s f' (pos + (Utf8.decode s pos).2) = straysB s)) := by
        cases f with
        | zero => exact absurd hb (by omega)
        | succ f =>
          refine ⟨f, rfl, fun h => ?_, fun h => ?_⟩
          · have := HC.out; rw [strayF, if_pos hp, if_pos h] at this; exact this.symm
          · have := HC.out; rw [strayF, if_pos hp, if_neg (by rw [h]; decide)] at this; exact this
      have HR : Hid (oneR s pos = if strayAt s pos = true then (-1 : Int) else (((Utf8.decode s pos).1 : Nat) : Int)) := rfl
      generalize oneR s pos = r at *
      generalize (Utf8.decode s pos).2 = k at *
      clear HC
      cases hst : strayAt s pos with
      | true =>
        rw [hst] at HR HN
        have hr : r = -1 := HR.out
        have HX : Hid (straysB s = true) := by obtain ⟨_, _, h, _⟩ := HN.out; exact h rfl
        subst hr
        clear HN HR
        go_wp2_with fail
        refine (HONE.out _).mono ?_
        rintro e w1 ⟨rfl, rfl⟩
        go_wp2_with fail
        go_ret
        rw [HX.out]
        exact ⟨rfl, rfl⟩
      | false =>
        rw [hst] at HR HN
        have hr : r = ((Utf8.decode s pos).1 : Nat) := HR.out
        obtain ⟨f', hf, _, hh⟩ := HN.out
        have HX : Hid (strayF s f' (pos + k) = straysB s) := hh rfl
        have hr0 : 0 ≤ r := by omega
        obtain ⟨q, hq, hqi⟩ : ∃ q : Nat, pos + k = q ∧ ((pos : Int) + (k : Int)) = (q : Int) := ⟨pos + k, rfl, by omega⟩
        rw [hq] at HX hend
        have HQ := Lib.hid hq
        clear HN HR hr hh hq
        go_wp2_with fail
        refine (HONE.out _).mono ?_
        rintro e w1 ⟨rfl, rfl⟩
        go_wp2_with fail
        go_roundw
        case rel => exact ⟨q, f', rfl, hend, by first | rfl | trivial, HX, by have := HQ.out; omega⟩
        case measure => have := HQ.out; simp [intOf]; omega
    · have HX : Hid (straysB s = false) := by
        have := HC.out
        rw [strayF_end s f pos hp] at this
        exact this.symm
      go_wp2_with fail
      go_ret
      rw [HX.out]
      exact ⟨rfl, rfl⟩


theorem made_tabX (w1 : World) : IsTab ((w1.alloc (.cells (tab fun _ => 0) 273)).setRow w1.heap.size (tab (Crc.it 8))) w1.heap.size (Crc.it 8) := setRow_heap _ _ _ _ _ _ (heap_alloc_new _ _)
theorem made_belowX {w w1 : World} (hb1 : Below w.heap.size w w1) : Below w.heap.size w ((w1.alloc (.cells (tab fun _ => 0) 273)).setRow w1.heap.size (tab (Crc.it 8))) := below_setRow (hb1.alloc hb1.size _) hb1.size _
theorem sumOf_any (s : ByteArray) (hs : s.size ≤ maxLen) (w : World) :
    Calls Tryz.prog 147 #[.string s] w fun e w' => e = .returned (.int .u32 (sum 0 s : Nat)) ∧ Below w.heap.size w w' := by
  have hz := zero_table
  have HS := Lib.hid (fun g w1 h => sum_tab g s hs w1 h)
  go_enter Tryz.func147, Tryz.ntmps147
  go_wp2_with (first | (go_at_call 173; refine (make_any _).mono ?_; rintro e w1 ⟨rfl, hb1⟩) | (refine wpList_store_row rfl 273 (.tmp 3) (.tmp 4) rfl w1.heap.size (tab (Crc.it 8)) rfl rfl 273 (tab fun _ => 0) (heap_alloc_new _ _) (by rw [tab_size]; exact info_table) (by rw [tab_size, tab_size]) (tab_one _) ?_) | (go_at_call 174; refine (HS.out _ _ (made_tabX _)).mono ?_; rintro e w2 ⟨rfl, n, rfl⟩))
  go_ret
  exact ⟨rfl, below_drewN (made_belowX hb1) n⟩

/-- What a path's field tells. -/
def pthN (s : ByteArray) : Nat := numL (((nums s).drop 1).take 4)
def pthR (s raw : ByteArray) : Value :=
  if ¬ (5 ≤ s.size ∧ (nums s).getD 0 0 = 1) then .tuple #[.string ⟨#[]⟩, .bool false, .int .i64 24]
  else if pthN s ≠ sum 0 raw then .tuple #[.string ⟨#[]⟩, .bool false, .int .i64 0]
  else if straysB (s.extract 5 s.size) = true then .tuple #[.string ⟨#[]⟩, .bool false, .int .i64 20] else .tuple #[.string (s.extract 5 s.size), .bool true, .int .i64 0]
theorem pthN_lt (s : ByteArray) : pthN s < 4294967296 := by
  have h := numL_lt (((nums s).drop 1).take 4) (fun x hx => nums_lt s x (List.mem_of_mem_drop (List.mem_of_mem_take hx)))
  exact Nat.lt_of_lt_of_le h (Nat.pow_le_pow_right (n := 256) (by omega) (show (((nums s).drop 1).take 4).length ≤ 4 by rw [List.length_take]; omega))
theorem pth_head {s raw : ByteArray} (h : ¬ (5 ≤ s.size ∧ (nums s).getD 0 0 = 1)) : pthR s raw = .tuple #[.string ⟨#[]⟩, .bool false, .int .i64 24] := if_pos h
theorem pth_sum {s raw : ByteArray} (h : 5 ≤ s.size ∧ (nums s).getD 0 0 = 1) (h2 : pthN s ≠ sum 0 raw) : pthR s raw = .tuple #[.string ⟨#[]⟩, .bool false, .int .i64 0] := by
  unfold pthR
  rw [if_neg (fun k => k h), if_pos h2]
theorem pth_rest {s raw : ByteArray} (h : 5 ≤ s.size ∧ (nums s).getD 0 0 = 1) (h2 : pthN s = sum 0 raw) : pthR s raw = if straysB (s.extract 5 s.size) = true then .tuple #[.string ⟨#[]⟩, .bool false, .int .i64 20] else .tuple #[.string (s.extract 5 s.size), .bool true, .int .i64 0] := by
  unfold pthR
  rw [if_neg (fun k => k h), if_neg (fun k => k h2)]
theorem dec_yes {T : ByteArray} (h : straysB T = true) (w : World) : Calls Tryz.prog 106 #[.string T, .bool true] w fun e w' => e = .returned (.tuple #[.string ⟨#[]⟩, .int .i64 20]) ∧ Below w.heap.size w w' := by
  have k := decode_utf8 T w
  rw [if_pos h] at k
  exact k
theorem dec_no {T : ByteArray} (h : straysB T = false) (w : World) : Calls Tryz.prog 106 #[.string T, .bool true] w fun e w' => e = .returned (.tuple #[.string T, .int .i64 0]) ∧ Below w.heap.size w w' := by
  have k := decode_utf8 T w
  rw [if_neg (by rw [h]; decide)] at k
  exact k
set_option maxHeartbeats 2000000 in
theorem parsePath_any (s raw : ByteArray) (hs : s.size ≤ maxLen) (hr : raw.size ≤ maxLen) (w : World) :
    Calls Tryz.prog 107 #[.string s, .string raw] w fun e w' => e = .returned (pthR s raw) ∧ Below w.heap.size w w' := by
  have HSU := Lib.hid (fun w1 => sumOf_any raw hr w1)
  have HL := Lib.hid hs
  by_cases h5 : 5 ≤ s.size
  · have HT1 := Lib.hid (fun w1 (h : CI w s 0 0 w1) => take_ci 1 hs (Nat.zero_le _) (by decide) h)
    have e1 : piece s 0 0 1 = text [(nums s).getD 0 0] := piece_one s 0 (by omega)
    have e2 : atB s 0 0 1 = 1 := atB_yes s 0 1 (by omega)
    have e3 : errB s 0 0 1 = 0 := errB_yes s 0 1 (by omega)
    have e4 : numB s 1 0 4 = pthN s := by
      unfold numB pthN
      rw [nums_piece s 1 4 (by omega)]
    rw [e1, e2, e3] at HT1
    have HF1 := Lib.hid (fun w1 (h : CI w s 1 0 w1) => four_ci hs (by omega) h)
    rw [e4, atB_yes s 1 4 (by omega), errB_yes s 1 4 (by omega)] at HF1
    have HLF := Lib.hid (fun w1 (h : CI w s 5 0 w1) => left_ci hs h5 h)
    rw [show ((s.size : Int) - ((5 : Nat) : Int)) = ((s.size - 5 : Nat) : Int) by omega] at HLF
    have HTR := Lib.hid (fun w1 (h : CI w s 5 0 w1) => take_ci ((s.size - 5 : Nat) : Int) hs h5 (WalkArith.wf_i64 (by unfold maxLen at hs; omega)) h)
    have e5 : piece s 5 0 ((s.size - 5 : Nat) : Int) = s.extract 5 s.size := by
      unfold piece
      rw [if_pos (mayB_yes s 5 (s.size - 5) (by omega)), Int.toNat_natCast, show 5 + (s.size - 5) = s.size by omega]
    rw [e5] at HTR
    have hlt := pthN_lt s
    have hsl := sum_lt 0 raw
    have HPH := Lib.hid (fun h => pth_head (s := s) (raw := raw) h)
    have HPS := Lib.hid (fun h => pth_sum (s := s) (raw := raw) h)
    have HPR := Lib.hid (fun h => pth_rest (s := s) (raw := raw) h)
    have HY : Hid (s.extract 5 s.size = s.extract 5 s.size) := rfl
    clear e1 e2 e3 e4 e5
    generalize hy : (nums s).getD 0 0 = y at *
    generalize hT : s.extract 5 s.size = T at *
    generalize pthN s = pn at *
    generalize sum 0 raw = sn at *
    go_enter Tryz.func107, Tryz.ntmps107
    go_wp2_with fail
    refine (over_ci s _).mono ?_; rintro r w1 ⟨rfl, C1⟩
    go_wp2_with fail
    refine (HT1.out _ C1).mono ?_; rintro r w2 ⟨rfl, C2⟩
    clear C1
    go_wp2_with fail
    refine (HF1.out _ C2).mono ?_; rintro r w3 ⟨rfl, C3⟩
    have HE := Lib.hid (err_ci C3)
    clear C2
    go_wp2_with fail
    refine (HE.out).mono ?_; rintro r w4 ⟨rfl, rfl⟩
    have HC3 := Lib.hid C3
    clear C3 HE
    by_cases hy1 : y = 1
    · subst hy1
      have ht : text [1] = ⟨#[1]⟩ := rfl
      rw [ht]
      go_wp2_with fail
      refine (HSU.out _).mono ?_; rintro r w5 ⟨rfl, hb5⟩
      have HC5 := Lib.hid (HC3.out.below hb5)
      clear hb5
      by_cases hps : pn = sn
      · have hpb : ((pn : Int) != (sn : Int)) = false := by rw [hps]; simp
        have HR := Lib.hid (HPR.out ⟨h5, by first | rfl | trivial⟩ hps)
        clear hps HPS HPH HPR
        cases hst : straysB T with
        | true =>
          rw [hst, if_pos rfl] at HR
          have HDE := Lib.hid (fun w1 => dec_yes hst w1)
          clear hst
          go_wp2_with fail
          refine (HLF.out _ HC5.out).mono ?_; rintro r w6 ⟨rfl, d, rfl⟩
          have HC6 := Lib.hid (HC5.out.drewN d)
          go_wp2_with fail
          refine (HTR.out _ HC6.out).mono ?_; rintro r w7 ⟨rfl, C7⟩
          have HC7 := Lib.hid C7
          clear C7
          go_wp2_with fail
          refine (HDE.out _).mono ?_; rintro r w8 ⟨rfl, hb8⟩
          have HB8 := Lib.hid (below_then HC7.out.bel hb8)
          clear hb8
          go_wp2_with fail
          go_ret3
          exact ⟨by rw [HR.out]; rfl, HB8.out⟩
        | false =>
          rw [hst, if_neg (by decide)] at HR
          have HDE := Lib.hid (fun w1 => dec_no hst w1)
          clear hst
          go_wp2_with fail
          refine (HLF.out _ HC5.out).mono ?_; rintro r w6 ⟨rfl, d, rfl⟩
          have HC6 := Lib.hid (HC5.out.drewN d)
          go_wp2_with fail
          refine (HTR.out _ HC6.out).mono ?_; rintro r w7 ⟨rfl, C7⟩
          have HC7 := Lib.hid C7
          clear C7
          go_wp2_with fail
          refine (HDE.out _).mono ?_; rintro r w8 ⟨rfl, hb8⟩
          have HB8 := Lib.hid (below_then HC7.out.bel hb8)
          clear hb8
          go_wp2_with fail
          go_ret3
          exact ⟨by rw [HR.out]; rfl, HB8.out⟩
      · have hpb : ((pn : Int) != (sn : Int)) = true := by rw [bne_iff_ne]; omega
        have HR := Lib.hid (HPS.out ⟨h5, by first | rfl | trivial⟩ hps)
        go_wp2_with fail
        go_ret3
        exact ⟨by rw [HR.out]; rfl, HC5.out.bel⟩
    · have HR := Lib.hid (HPH.out (fun k => hy1 k.2))
      have hyl : y < 256 := by rw [← hy]; exact getD_lt s 0
      have hne : (text [y]).toList ≠ [1] := fun k => by
        have h2 : text [y] = ⟨#[1]⟩ := by
          apply ByteArray.ext
          apply Array.ext'
          have := k
          rw [Lib.toList_data] at this
          exact this
        have h3 := nums_text [y] (by simpa using hyl)
        rw [h2] at h3
        have h4 : [1] = [y] := h3
        simp at h4
        omega
      have hb : ((text [y]).toList == [1]) = false := by rw [beq_eq_false_iff_ne]; exact hne
      clear hy1 hne
      generalize text [y] = t1 at *
      go_wp2_with fail
      go_ret3
      exact ⟨by rw [HR.out]; rfl, HC3.out.bel⟩
  · have HR := Lib.hid (pth_head (s := s) (raw := raw) (fun k => h5 k.1))
    have hno : errB s (atB s 0 0 1) (errB s 0 0 1) (4 : Nat) ≠ 0 := fun k => by
      obtain ⟨e1, _, z1, _⟩ := errB_zero k
      obtain ⟨_, _, _, z2⟩ := errB_zero e1
      rw [z2, Int.toNat_natCast] at z1
      have : (1 : Int).toNat = 1 := rfl
      omega
    have HT1 := Lib.hid (fun w1 (h : CI w s 0 0 w1) => take_ci 1 hs (Nat.zero_le _) (by decide) h)
    have hle1 := atB_le s 0 0 1 (Nat.zero_le _)
    generalize piece s 0 0 1 = p1 at *
    generalize atB s 0 0 1 = a1 at *
    generalize errB s 0 0 1 = e1 at *
    have HF1 := Lib.hid (fun w1 (h : CI w s a1 e1 w1) => four_ci hs hle1 h)
    have hnl := numB_lt s a1 e1 4
    generalize numB s a1 e1 4 = n1 at *
    generalize atB s a1 e1 (4 : Nat) = a2 at *
    generalize errB s a1 e1 (4 : Nat) = e2 at *
    have heb : ((e2 : Int) != 0) = true := by rw [bne_iff_ne]; omega
    clear hno h5
    go_enter Tryz.func107, Tryz.ntmps107
    go_wp2_with fail
    refine (over_ci s _).mono ?_; rintro r w1 ⟨rfl, C1⟩
    go_wp2_with fail
    refine (HT1.out _ C1).mono ?_; rintro r w2 ⟨rfl, C2⟩
    clear C1
    go_wp2_with fail
    refine (HF1.out _ C2).mono ?_; rintro r w3 ⟨rfl, C3⟩
    have HE := Lib.hid (err_ci C3)
    clear C2
    go_wp2_with fail
    refine (HE.out).mono ?_; rintro r w4 ⟨rfl, rfl⟩
    have HC3 := Lib.hid C3
    clear C3 HE
    go_wp2_with fail
    go_ret3
    exact ⟨by rw [HR.out]; rfl, HC3.out.bel⟩
theorem rnumber_p (s : ByteArray) (h8 : s.size ≤ 8) (w : World) :
    Calls Tryz.prog 78 #[.string s] w fun e w' => e = .returned (.int .u64 (numL (nums s) : Nat)) ∧ w' = w :=
  (rnumber_any s h8 w).mono fun _ _ h => ⟨h.1, h.2.symm⟩
theorem nums_extp (t : ByteArray) (a b : Nat) : nums (t.extract a b) = ((nums t).drop a).take (b - a) := by
  unfold nums
  rw [ByteArray.data_extract]
  simp
set_option maxHeartbeats 2000000 in
theorem rparsePath_any (s raw : ByteArray) (hs : s.size ≤ 1000000) (hr : raw.size ≤ maxLen) (w : World) :
    Calls Tryz.prog 79 #[.string s, .string raw] w fun e w' => e = .returned (pthR s raw) ∧ w' = w := by
  have HSU := Lib.hid (fun w1 => rsum_any raw hr w1)
  have HPH := Lib.hid (fun h => pth_head (s := s) (raw := raw) h)
  have HPS := Lib.hid (fun h => pth_sum (s := s) (raw := raw) h)
  have HPR := Lib.hid (fun h => pth_rest (s := s) (raw := raw) h)
  by_cases h5 : 5 ≤ s.size
  · have hd5 : decide ((s.size : Int) < 5) = false := decide_eq_false (by omega)
    have hpos : 0 < s.size := by omega
    have hx : s[0].toNat = (nums s).getD 0 0 := by
      rw [List.getD_eq_getElem?_getD, nums_get s 0 hpos]
      rfl
    have z1 : (s.extract 1 5).size ≤ 8 := by rw [ByteArray.size_extract]; omega
    have y1 : numL (nums (s.extract 1 5)) = pthN s := by rw [nums_extp]; rfl
    have HN := Lib.hid (fun w1 => rnumber_p (s.extract 1 5) z1 w1)
    rw [y1] at HN
    have z5 : (s.extract 5 s.size).size ≤ 1000000 := by rw [ByteArray.size_extract]; omega
    have HST := Lib.hid (fun w1 => rstrays_any (s.extract 5 s.size) w1 z5)
    have hsl := sum_lt 0 raw
    have hpl := pthN_lt s
    by_cases hy1 : (nums s).getD 0 0 = 1
    · have hb1 : ((s[0].toNat : Int) != 1) = false := by rw [hx, hy1]; rfl
      by_cases hps : pthN s = sum 0 raw
      · have hpb : (((pthN s : Nat) : Int) != ((sum 0 raw : Nat) : Int)) = false := by rw [hps]; simp
        have HR := Lib.hid (HPR.out ⟨h5, hy1⟩ hps)
        clear HPH HPS HPR hps hy1 hx y1 z1 z5
        generalize pthN s = pn at *
        generalize sum 0 raw = sn at *
        cases hst : straysB (s.extract 5 s.size) with
        | true =>
          rw [hst] at HST
          rw [hst, if_pos rfl] at HR
          clear hst
          go_enter Tryz.func79, Tryz.ntmps79
          go_wp2_with fail
          refine (HN.out _).mono ?_; rintro r w1 ⟨rfl, rfl⟩
          go_wp2_with fail
          refine (HSU.out _).mono ?_; rintro r w2 ⟨rfl, rfl⟩
          go_wp2_with fail
          refine (HST.out _).mono ?_; rintro r w3 ⟨rfl, rfl⟩
          go_wp2_with fail
          go_ret3
          exact ⟨by rw [HR.out]; rfl, rfl⟩
        | false =>
          rw [hst] at HST
          rw [hst, if_neg (by decide)] at HR
          clear hst
          go_enter Tryz.func79, Tryz.ntmps79
          go_wp2_with fail
          refine (HN.out _).mono ?_; rintro r w1 ⟨rfl, rfl⟩
          go_wp2_with fail
          refine (HSU.out _).mono ?_; rintro r w2 ⟨rfl, rfl⟩
          go_wp2_with fail
          refine (HST.out _).mono ?_; rintro r w3 ⟨rfl, rfl⟩
          go_wp2_with fail
          go_ret3
          exact ⟨by rw [HR.out]; rfl, rfl⟩
      · have hpb : (((pthN s : Nat) : Int) != ((sum 0 raw : Nat) : Int)) = true := by rw [bne_iff_ne]; omega
        have HR := Lib.hid (HPS.out ⟨h5, hy1⟩ hps)
        clear HPH HPS HPR hps hy1 hx y1 z1 z5
        generalize pthN s = pn at *
        generalize sum 0 raw = sn at *
        go_enter Tryz.func79, Tryz.ntmps79
        go_wp2_with fail
        refine (HN.out _).mono ?_; rintro r w1 ⟨rfl, rfl⟩
        go_wp2_with fail
        refine (HSU.out _).mono ?_; rintro r w2 ⟨rfl, rfl⟩
        go_wp2_with fail
        go_ret3
        exact ⟨by rw [HR.out]; rfl, rfl⟩
    · have hb1 : ((s[0].toNat : Int) != 1) = true := by rw [bne_iff_ne, hx]; omega
      have HR := Lib.hid (HPH.out (fun k => hy1 k.2))
      clear hy1 hx
      go_enter Tryz.func79, Tryz.ntmps79
      go_wp2_with fail
      go_ret3
      exact ⟨by rw [HR.out]; rfl, rfl⟩
  · have hd5 : decide ((s.size : Int) < 5) = true := decide_eq_true (by omega)
    have HR := Lib.hid (HPH.out (fun k => h5 k.1))
    go_enter Tryz.func79, Tryz.ntmps79
    go_wp2_with fail
    go_ret3
    exact ⟨by rw [HR.out]; rfl, rfl⟩
/-- What PrintPath writes. -/
def ptT (path raw : ByteArray) : ByteArray := (⟨#[1]⟩ : ByteArray) ++ text (le (sum 0 raw) 4) ++ path
end Go.Proofs.YtjnoapbddifcpaaGreatDoor

namespace Go.Proofs.YtjnoapbddifcpaaGreatDoor
set_option maxRecDepth 100000
open Go.RowKit Go.Shelf Go.Lib

variable {H : Type} {enc : TypeId × Value → H}
theorem returns_door {a : Assume} {C : Checked} {os : Os} {f : FuncId} {fn : Func} {s : ChangeSpec} {conds : List PathCond} {apart fresh handsOn again : Bool} {X : World → Prop}
    (hX : ∀ w w' : World, w.heap = w'.heap → X w → X w')
    (own : ownKnob C.prog.godebug = none) (started : os.Started) (noInit : C.prog.inits.idxOf? f = none) (hfn : C.prog.funcs[f]? = some fn)
    (witness : ∃ (w : World) (tape : Tape) (i : Input), w.os = os ∧ (w.forCall tape i).Shaped C.prog ∧ i.vars = [] ∧ Input.okWide C.prog (w.forCall tape i) .any w.heap.size f i ∧
      ((s.pre enc C.prog fn conds apart (w.forCall tape i).memory i.args ∧ X (w.forCall tape i).memory) ∧ sizedMet enc C.prog fn (OpenSpec.ofChange s) apart (w.forCall tape i).memory i.args) ∧ a.holds C.prog (lone (Frame.enter C.prog f i.args .normal) [] (w.forCall tape i)))
    (contract : ∀ (W : World) (base : Nat) (args : Array Value) (ds gs : List (DataW H)) (before : List MemPlace),
      (∀ (j : Nat) t v, fn.params[j]? = some t → args[j]? = some v → Value.okWide C.prog W .any base t v) →
      DataW.Whole enc C.prog fn.params.toList s.vars apart W args.toList ds gs before →
      X W → W.ShapedOpen C.prog →
      Calls C.prog f args W fun e W' => ∃ v, e = .returned v ∧ s.post enc C.prog fn apart fresh handsOn again W args v W') :
    ReturnsInHanded a C os f .any (fun w args => (s.pre enc C.prog fn conds apart w args ∧ X w) ∧ sizedMet enc C.prog fn (OpenSpec.ofChange s) apart w args) (s.post enc C.prog fn apart fresh handsOn again) := by
  refine returnsInHanded_of_calls own started noInit witness fun w tape i _ hsh _ hok hpre _ => ?_
  obtain ⟨_, _, _, g, hg, _, _, _, _, hval⟩ := hok
  obtain rfl : g = fn := Option.some.inj (hg.symm.trans hfn)
  obtain ⟨⟨⟨ds, gs, before, hw, _⟩, hx⟩, _⟩ := hpre
  refine (contract (w.forCall tape i) w.heap.size i.args ds gs before hval (DataW.Whole.of_heap (w' := w.forCall tape i) (by rfl) hw) (hX _ _ (by rfl) hx) hsh).mono fun e W' ⟨v, he, hp⟩ => ?_
  subst he
  exact ChangeSpec.post_blind hp

theorem door_own : ownKnob Tryz.prog.godebug = none := by kernel_rfl
/-- The tables of unicode/utf8, and that of great letters. -/
def tabs3 : List (String × DataW Unit) := Rows.filterTakesRow.laid
/-- A start in which the door's run has laid its variables, and the pinned table lies in its block. -/
noncomputable def doorW (os : Os) : World :=
  { World.doorLaid Tryz.prog 24 os with heap := (World.doorLaid Tryz.prog 24 os).heap.setIfInBounds 1 (.cells ((List.range 256).map fun c => Value.int .u8 (firstT c)).toArray 281 (0, 0)) }
theorem door_met3 (os : Os) (args : Array Value) : laidMetH Tryz.prog tabs3 ((doorW os).forCall (fun _ _ => 0) ⟨#[], args, []⟩).memory :=
  laidMetH_of_parts3 (fuel := 8) (laidMet_of_run' 8 (by kernel_rfl) (by kernel_rfl)) (by kernel_rfl) (by kernel_rfl)
theorem u8extra : U8Extra Tryz.prog sh_lays197_ren := { n3 := by kernel_rfl, n4 := by kernel_rfl, y3 := by kernel_rfl, y4 := by kernel_rfl, c5 := by kernel_rfl, c119 := by kernel_rfl, c138 := by kernel_rfl }
theorem accept_eq : (Rows.laid_unicode_utf8_acceptRanges : DataW Unit) = acceptData := by kernel_rfl
theorem first_eq : (Rows.laid_unicode_utf8_first : DataW Unit) = firstData := Pinned.utf8First_eq
theorem maxLen_of {W : World} (h : W.ShapedOpen Tryz.prog) : ∃ m, W.cell? ⟨3, 0, none⟩ = some (.int .i64 m) :=
  cell_of_shapedOpen_int (t := 3) (zero := #[.int .i64 0]) h (of_decide_eq_true (by kernel_rfl)) (by kernel_rfl) rfl (by kernel_rfl) (by kernel_rfl) Tryz.underlying3
theorem env_of3 {W : World} (h : laidMetH Tryz.prog tabs3 W) (hs : W.ShapedOpen Tryz.prog) : Env W := by
  rw [MakeChecks.laidMetH_plain _ _ _ (by kernel_rfl)] at h
  obtain ⟨ps, hv, _⟩ := h
  have h1 := LaidVars_reads hv _ Rows.laid_unicode_utf8_acceptRanges (.head _)
  have h2 := LaidVars_reads hv _ Rows.laid_unicode_utf8_first (.tail _ (.tail _ (.head _)))
  rw [accept_eq] at h1
  rw [first_eq] at h2
  exact ⟨utf8Tabs_of_readsT { sh_lays197 with } u8extra h2 h1, maxLen_of hs⟩
end Go.Proofs.YtjnoapbddifcpaaGreatDoor
