/-
  The document's Inflate, walked. (Written by gen_RfP.py.)
-/
import Derived.Test.YtmkeicfklbepnaaGreatRfN
import Derived.Test.YtmkeicfklbepnaaGreatRfO
namespace Go.Proofs.YtmkeicfklbepnaaGreat
set_option maxRecDepth 100000
set_option linter.unusedVariables false
set_option linter.unusedSimpArgs false
set_option linter.constructorNameAsVariable false
open Go.RowKit Go.Deep Go.Joins
set_option maxHeartbeats 16000000 in
theorem rinflate_any (s : ByteArray) (limit : Int) (hs : s.size ≤ 1000000) (hl : limit ≤ 1000000000) (w : World) :
    Calls Tryz.prog 7 #[.string s, .int .i64 limit] w fun e w' => e = .returned (rinfV (inflM (srcR s limit) 0 [])) ∧ Below w.heap.size w w' := by
  obtain ⟨i0, hi, iz0, iz1, iz2⟩ := partsR (P := Tryz.prog) (T := 5) (z := .int .u8 0) (s := 1) (b := 1) (by kernel_rfl)
  have HRU : Hid (∀ ans, Runs blockStep (srcR s limit) () 0 [] ans → inflM (srcR s limit) 0 [] = ans) := fun ans h => loop_of h
  have HN0 : Hid ((srcR s limit).L = 8 * s.size) := rfl
  generalize inflM (srcR s limit) 0 [] = AN at *
  have hb1 : Below w.heap.size w (w.alloc (.cells #[.string s, .int .i64 0, .int .i64 0] 57)) := (Below.refl _ _).alloc (Nat.le_refl _) _
  have hb2 : Below w.heap.size w ((w.alloc (.cells #[.string s, .int .i64 0, .int .i64 0] 57)).alloc (.cells #[.pointer (some ⟨w.heap.size, 0, none⟩), .slice none 0 0, .int .i64 limit, .int .i64 0] 59)) := hb1.alloc hb1.size _
  have hrd2 : Rd 57 ((w.alloc (.cells #[.string s, .int .i64 0, .int .i64 0] 57)).alloc (.cells #[.pointer (some ⟨w.heap.size, 0, none⟩), .slice none 0 0, .int .i64 limit, .int .i64 0] 59)) w.heap.size s 0 0 := (Below.heap_alloc _ _ _ (by simp)).trans (heap_alloc_new w _)
  have hsz1 : (w.alloc (.cells #[.string s, .int .i64 0, .int .i64 0] 57)).heap.size = w.heap.size + 1 := by simp
  have hst2 := heap_alloc_new (w.alloc (.cells #[.string s, .int .i64 0, .int .i64 0] 57)) (.cells #[.pointer (some ⟨w.heap.size, 0, none⟩), .slice none 0 0, .int .i64 limit, .int .i64 0] 59)
  rw [hsz1] at hst2
  have hS : RS ((w.alloc (.cells #[.string s, .int .i64 0, .int .i64 0] 57)).alloc (.cells #[.pointer (some ⟨w.heap.size, 0, none⟩), .slice none 0 0, .int .i64 limit, .int .i64 0] 59)) w.heap.size (w.heap.size + 1) w.heap.size none s limit 0 [] := ⟨.slice none 0 0, hst2, World.ownsRow_nil _ _ _ _, rfl, hrd2, by omega, Nat.le_refl _, Nat.zero_le _, (fun x hx => by cases hx), Nat.zero_le _⟩
  have HBS : Hid (w.heap.size ≤ ((w.alloc (.cells #[.string s, .int .i64 0, .int .i64 0] 57)).alloc (.cells #[.pointer (some ⟨w.heap.size, 0, none⟩), .slice none 0 0, .int .i64 limit, .int .i64 0] 59)).heap.size) := hb2.size
  have HS2 := Lib.hid hS
  have HB2 := Lib.hid hb2
  clear hb1 hb2 hrd2 hsz1 hst2 hS
  go_enter Tryz.func7, Tryz.ntmps7
  go_wp2_with fail
  generalize ((w.alloc (.cells #[.string s, .int .i64 0, .int .i64 0] 57)).alloc (.cells #[.pointer (some ⟨w.heap.size, 0, none⟩), .slice none 0 0, .int .i64 limit, .int .i64 0] 59)) = w2 at *
  go_loopw [8, 9, 10, 11, 12, 13, 14, 15, 16, 17, 18] (fun _ _ _ _ _ _ _ _ _ _ _ wr => Hid (InI w2 wr w.heap.size (w.heap.size + 1) w.heap.size none s limit AN)) (fun _ _ _ _ _ _ _ _ _ _ _ wr => msB (w.heap.size + 1) w.heap.size s wr)
  case atStart => exact .inl ⟨0, [], none, HS2.out, UpR.refl _ _ _ _, fun ans h => HRU.out ans h⟩
  case round =>
    rcases hrel.out with ⟨a, o, r, hS, hU, hRu⟩ | ⟨k, r, hbad, hU, hAN⟩
    · obtain ⟨v, hb, _⟩ := hS.blk
      unfold stC at hb
      have c3 := (cell_of_row _ (w.heap.size + 1) 3 _ _ _ hb).trans (show _ = some (Value.int .i64 0) from rfl)
      have HMS := Lib.hid (msB_good hS)
      have HU := Lib.hid hU
      have HRU2 := Lib.hid hRu
      have HBR : Hid (w.heap.size ≤ wr.heap.size) := Nat.le_trans HBS.out hU.1.size
      obtain ⟨A, hA⟩ : ∃ A : Nat → Prop, A = fun q => blockM (srcR s limit) a o = .error q := ⟨_, rfl⟩
      have HA := Lib.hid hA
      have h0 : DS wr w.heap.size (w.heap.size + 1) w.heap.size r s limit o True A a wr := .inl ⟨trivial, hS.le, r, UpR.refl _ _ _ _, hS⟩
      have H1 := Lib.hid (rnum_ds wr w.heap.size (w.heap.size + 1) w.heap.size a 1 r s limit o True A (by omega) hs (fun _ h => by rw [HA.out]; exact blk_1 h) wr h0)
      clear hb hS hU hRu hA h0 hrel
      go_wp2_with fail
      refine H1.out.mono ?_; rintro e w3 ⟨x, rfl, hx2, hd1⟩
      have H2 := Lib.hid (rnum_ds wr w.heap.size (w.heap.size + 1) w.heap.size (a + 1) 2 r s limit o (True ∧ x = bitsAt (num s) a 1) A (by omega) hs (fun _ h => by
        rw [HA.out]
        by_cases h1 : a + 1 ≤ 8 * s.size
        · exact blk_2 h1 h
        · exact blk_1 (show 8 * s.size < a + 1 by omega)) w3 hd1)
      clear hd1 H1 c3
      go_wp2_with fail
      refine H2.out.mono ?_; rintro e w4 ⟨y, rfl, hy4, hd2⟩
      clear H2
      have hy4' : y < 4 := hy4
      clear hy4
      rcases hd2 with ⟨hp, hb4, r4, hu4, hS4⟩ | ⟨q, hq, r4, hu4, hBd⟩
      · have HBM := Lib.hid (blkHead (src := srcR s limit) (o := o) hb4 hp.1.2 hp.2)
        have HLE4 := Lib.hid hb4
        have HS4 := Lib.hid hS4
        have HU4 := Lib.hid hu4
        obtain ⟨v, hb, _⟩ := hS4.blk
        have HB4 := Lib.hid hb
        unfold stC at hb
        have c3 := (cell_of_row _ (w.heap.size + 1) 3 _ _ _ hb).trans (show _ = some (Value.int .i64 0) from rfl)
        clear hb hb4 hS4 hu4 hp HA
        go_upto_if 40 with fail
        go_cut [] from 25 to 180 (fun wx => Hid ((y = 3 ∧ BO wr w.heap.size (w.heap.size + 1) w.heap.size r s limit a x o wx) ∨ (y ≠ 3 ∧ wx = w4)))
        case first =>
          by_cases h3 : y = 3
          · have d3 : (((y : Nat) : Int) == 3) = true := by rw [beq_iff_eq]; omega
            have H3 := Lib.hid h3
            have HFL := Lib.hid (rfail_ok (w.heap.size + 1) w.heap.size v limit 12 w4 HB4.out)
            have HBO : Hid (BO wr w.heap.size (w.heap.size + 1) w.heap.size r s limit a x o (w4.setCell ⟨w.heap.size + 1, 3, none⟩ (.int .i64 12))) := .inr ⟨12, r4, rb_set 12 (by decide) (by decide) HB4.out, HU4.out.then (upr_set w4 3 _), by rw [HBM.out, if_neg (by omega), if_neg (by omega), if_neg (by omega)]; rfl⟩
            clear h3
            go_wp2_with fail
            refine HFL.out.mono ?_; rintro e wz ⟨rfl, rfl⟩
            go_wp2_with fail
            go_meet
            case rel => exact .inl ⟨H3.out, HBO.out⟩
          · have d3 : (((y : Nat) : Int) == 3) = false := by rw [beq_eq_false_iff_ne]; omega
            have H3 := Lib.hid h3
            clear h3
            go_wp2_with fail
            go_meet
            case rel => exact .inr ⟨H3.out, rfl⟩
        case rest =>
          have HK1 := hcut
          clear c3
          go_upto_if 44 with fail
          go_cut [10, 11, 12] from 25 to 180 (fun _ _ _ wx => Hid ((¬ (y = 1 ∨ y = 2) ∧ BO wr w.heap.size (w.heap.size + 1) w.heap.size r s limit a x o wx) ∨ ((y = 1 ∨ y = 2) ∧ wx = w4)))
          case first =>
            by_cases h0 : y = 0
            · as_aux_lemma =>
                have H0 := Lib.hid h0
                have d0 : (((y : Nat) : Int) == 0) = true := by rw [beq_iff_eq]; omega
                obtain rfl : wc = w4 := by
                  rcases HK1.out with ⟨h, _⟩ | ⟨_, h⟩
                  · omega
                  · exact h
                obtain ⟨v4, hb4, _⟩ := HS4.out.blk
                unfold stC at hb4
                have c0 := (cell_of_row _ (w.heap.size + 1) 0 _ _ _ hb4).trans (show _ = some (Value.pointer (some ⟨w.heap.size, 0, none⟩)) from rfl)
                have HAL := Lib.hid (ralign_any w.heap.size s (a + 1 + 2) 0 hs HS4.out.le wc HS4.out.rd)
                have hmod : (a + 1 + 2 + 7) / 8 * 8 % 8 = 0 := by omega
                have HST : Hid (storedM (srcR s limit) (a + 1 + 2) o = storedB (srcR s limit) (alignA (a + 1 + 2) 0) o) := rfl
                have hle4 : alignA (a + 1 + 2) 0 ≤ 8 * s.size := alignA_le s _ 0 HS4.out.le
                have h84 : alignA (a + 1 + 2) 0 % 8 = 0 := align_8 _
                clear hb4 hmod h0
                have HB0 : Hid (blockM (srcR s limit) a o = bindM storedM (fun _ => retM (x == 1)) (srcR s limit) (a + 1 + 2) o) := HBM.out.trans (by rw [if_pos H0.out])
                go_wp2_with fail
                refine HAL.out.mono ?_; rintro e w5 ⟨rfl, hr5, hg5⟩
                have HS5 := Lib.hid (HS4.out.read hg5 hr5 hle4)
                have HU5 := Lib.hid (HU4.out.then (upr_read (g := (w.heap.size + 1)) (r := r4) hg5))
                generalize alignA (a + 1 + 2) 0 = b at *
                clear hr5 hg5 c0 HAL
                obtain ⟨A0, hA0⟩ : ∃ A0 : Nat → Prop, A0 = fun q => blockM (srcR s limit) a o = .error q := ⟨_, rfl⟩
                have HA0 := Lib.hid hA0
                clear hA0
                have HBE : Hid (∀ q, storedB (srcR s limit) b o = .error q → A0 q) := fun q h => by rw [HA0.out]; exact HB0.out.trans (bindR_err (HST.out.trans h))
                have h10 : DS wr w.heap.size (w.heap.size + 1) w.heap.size r s limit o True A0 b w5 := .inl ⟨trivial, hle4, r4, HU5.out, HS5.out⟩
                have H1 := Lib.hid (rnum_ds wr w.heap.size (w.heap.size + 1) w.heap.size b 16 r s limit o True A0 (by omega) hs (fun _ h => HBE.out 3 (sto_1 h)) w5 h10)
                clear h10
                go_wp2_with fail
                refine H1.out.mono ?_; rintro e w6 ⟨n9, rfl, hn9, hd6⟩
                have H2 := Lib.hid (rnum_ds wr w.heap.size (w.heap.size + 1) w.heap.size (b + 16) 16 r s limit o (True ∧ n9 = bitsAt (num s) b 16) A0 (by omega) hs (fun _ h => HBE.out 3 (by
                  by_cases h1 : b + 16 ≤ 8 * s.size
                  · exact sto_2 h1 h
                  · exact sto_1 (show 8 * s.size < b + 16 by omega))) w6 hd6)
                clear hd6 H1
                go_wp2_with fail
                refine H2.out.mono ?_; rintro e w7 ⟨m9, rfl, hm9, hd7⟩
                clear H2
                have hn9' : n9 < 65536 := hn9
                have hm9' : m9 < 65536 := hm9
                clear hn9 hm9
                rcases hd7 with ⟨hp, hb7, r7, hu7, hS7⟩ | ⟨q, hq, r7, hu7, hB7⟩
                · have HSM := Lib.hid (sto_3 (src := srcR s limit) (o := o) hb7 hp.1.2 hp.2)
                  have HS7 := Lib.hid hS7
                  have HU7 := Lib.hid hu7
                  have HLE7 := Lib.hid hb7
                  obtain ⟨v7, hb, how7, hv7⟩ := hS7.blk
                  have HB7 := Lib.hid hb
                  unfold stC at hb
                  have c3 := (cell_of_row _ (w.heap.size + 1) 3 _ _ _ hb).trans (show _ = some (Value.int .i64 0) from rfl)
                  clear hb how7 hv7 hS7 hu7 hp hb7
                  by_cases hnm : n9 + m9 = 65535
                  · have hsum : IntKind.i64.wrap ((n9 : Int) + (m9 : Int)) = 65535 := by rw [IntWalk.i64_in _ (by omega)]; omega
                    have hand := and_neg n9 m9 hnm
                    have HEQ : Hid (n9 = 65535 - m9) := by show _ = _; omega
                    have HRM := Lib.hid (rroom_any w.heap.size (w.heap.size + 1) w.heap.size (b + 16 + 16) n9 r7 s limit o (by omega) hl w7 HS7.out)
                    have HB0' : Hid (∀ q, storeM n9 (srcR s limit) (b + 16 + 16) o = .error q → A0 q) := fun q h => HBE.out q (HSM.out.trans (by rw [if_pos HEQ.out]; exact h))
                    have HB0o : Hid (∀ a2 o2, storeM n9 (srcR s limit) (b + 16 + 16) o = .ok ((), a2, o2) → blockM (srcR s limit) a o = .ok (x == 1, a2, o2)) := fun a2 o2 h => HB0.out.trans ((bindR_ok (HST.out.trans (HSM.out.trans (by rw [if_pos HEQ.out]; exact h)))).trans rfl)
                    clear hnm
                    go_wp2_with fail
                    refine HRM.out.mono ?_; rintro e w8 hout
                    clear HRM c3 hsum hand
                    by_cases hrm : o.length + n9 ≤ limit.toNat
                    · rw [show roomM n9 (srcR s limit) (b + 16 + 16) o = .ok ((), b + 16 + 16, o) from if_pos hrm] at hout
                      obtain ⟨r8, hu8, rfl, hS8⟩ := hout
                      have HRM := Lib.hid hrm
                      have HS8 := Lib.hid hS8
                      have HU8 := Lib.hid (HU7.out.then hu8)
                      obtain ⟨v8, hb, how8, hv8⟩ := hS8.blk
                      have HB8 := Lib.hid hb
                      have HV8 := Lib.hid hv8
                      have hlt8 := lt_of_block hb
                      have hrd8 := hS8.rd
                      have hne8 := hS8.ne
                      have HR8 := Lib.hid hrd8
                      unfold stC at hb
                      have c0 := (cell_of_row _ (w.heap.size + 1) 0 _ _ _ hb).trans (show _ = some (Value.pointer (some ⟨w.heap.size, 0, none⟩)) from rfl)
                      have c3 := (cell_of_row _ (w.heap.size + 1) 3 _ _ _ hb).trans (show _ = some (Value.int .i64 0) from rfl)
                      clear hb hS8 hu8 hrm
                      by_cases hfit : b + 16 + 16 + 8 * n9 ≤ 8 * s.size
                      · have HBY := Lib.hid (rbytes_ok w.heap.size s (b + 16 + 16) n9 hs (by omega) hfit w8 hrd8)
                        have HNX : Hid (nums (s.extract ((b + 16 + 16) / 8) ((b + 16 + 16) / 8 + n9)) = bytesAt (num s) (b + 16 + 16) n9) := by
                          have h := nums_extract s ((b + 16 + 16) / 8) n9 (by omega)
                          rw [show 8 * ((b + 16 + 16) / 8) = b + 16 + 16 by omega] at h
                          exact h
                        have hxs : (s.extract ((b + 16 + 16) / 8) ((b + 16 + 16) / 8 + n9)).size = n9 := by rw [ByteArray.size_extract]; omega
                        generalize s.extract ((b + 16 + 16) / 8) ((b + 16 + 16) / 8 + n9) = T at *
                        have HOK := Lib.hid (HB0o.out (b + 16 + 16 + 8 * n9) (o ++ bytesAt (num s) (b + 16 + 16) n9) (by
                          unfold storeM
                          rw [if_pos (show o.length + n9 ≤ (srcR s limit).lim from HRM.out), if_pos (show b + 16 + 16 + 8 * n9 ≤ (srcR s limit).L from hfit)]
                          rfl))
                        clear hrd8 how8 hv8
                        go_wp2_with fail
                        refine HBY.out.mono ?_; rintro e wA ⟨rfl, hrA, hgA⟩
                        have hSA := HS8.out.read hgA hrA hfit
                        have HSA := Lib.hid hSA
                        have HUA := Lib.hid (HU8.out.then (upr_read (g := (w.heap.size + 1)) (r := r8) hgA))
                        have r2 := hrA.c2
                        have hbA := (hgA.block (w.heap.size + 1) hlt8 (fun e => by injection e with e; exact hne8 e)).trans HB8.out
                        have HFL := Lib.hid (rfail_ok (w.heap.size + 1) w.heap.size v8 limit 0 wA hbA)
                        unfold stC at hbA
                        have k0 := (cell_of_row _ (w.heap.size + 1) 0 _ _ _ hbA).trans (show _ = some (Value.pointer (some ⟨w.heap.size, 0, none⟩)) from rfl)
                        clear hbA hSA hrA hgA HBY c0 c3
                        go_wp2_with fail
                        refine HFL.out.mono ?_; rintro e wB ⟨rfl, rfl⟩
                        have hSB := HSA.out.set0
                        have HSB := Lib.hid hSB
                        have HUB := Lib.hid (HUA.out.then (upr_set (g := (w.heap.size + 1)) (gr := w.heap.size) (r := r8) wA 3 (.int .i64 0)))
                        generalize wA.setCell ⟨w.heap.size + 1, 3, none⟩ (.int .i64 0) = wB at *
                        obtain ⟨vB, hbB, howB, hvB⟩ := hSB.blk
                        have HBB := Lib.hid hbB
                        obtain ⟨AB, cB, rfl⟩ := row8_slice howB
                        have HOB := Lib.hid howB
                        have HVB := Lib.hid hvB
                        have hltB := lt_of_block hbB
                        have hneB : (Value.slice AB o.length cB).ownBlock ≠ some (w.heap.size + 1) := own_ne (cs := []) howB hbB (by decide)
                        have HBSZ : Hid (w.heap.size ≤ wB.heap.size) := by show _ ≤ _; omega
                        have hlo : o.length ≤ 1000000000 := by have := HRM.out; omega
                        unfold stC at hbB
                        have k1 := (cell_of_row _ (w.heap.size + 1) 1 _ _ _ hbB).trans (show _ = some (Value.slice AB o.length cB) from rfl)
                        clear hbB howB hvB hSB HFL k0 r2
                        go_wp2_with (at_builtin; refine wpList_append_str_at _ rfl (.tmp 107) (.tmp 108) _ _ rfl w.heap.size 5 i0 Tryz.underlying37 Tryz.underlying9 hi iz0 iz1 iz2 (.slice AB o.length cB) o.length (cells8 o) rfl HOB.out T rfl (by unfold maxLen; omega) (by omega) HBSZ.out ?_)
                        intro v' wC hown hgrow hat
                        try rw [hxs] at hown
                        have hbC := (hgrow.block (w.heap.size + 1) hltB (fun e => hneB e.symm)).trans HBB.out
                        obtain ⟨AC, cC, rfl⟩ := row8_slice hown
                        have HG := Lib.hid (HSB.out.growL (l := bytesAt (num s) (b + 16 + 16) n9) HBB.out (Below.refl _ _) hgrow (by rw [bytesAt_len, ← HNX.out, ← strCells_eq]; exact hown) (bytesAt_lt _ _ _) (by rw [bytesAt_len]; exact HRM.out) (by
                          rcases hat with e | e
                          · exact .inl e
                          · exact .inr ⟨_, e, Nat.le_refl _⟩))
                        unfold stC at hbC
                        have k1' := (cell_of_row _ (w.heap.size + 1) 1 _ _ _ hbC).trans (show _ = some (Value.slice AB o.length cB) from rfl)
                        have kf := frozen_of_row wC (w.heap.size + 1) 1 _ _ hbC
                        clear hbC hown hgrow hat k1
                        go_wp2_with fail
                        go_meet
                        case rel => exact .inl ⟨fun e => by have := H0.out; omega, .inl ⟨_, _, _, HG.out.1, HUB.out.then (HVB.out ▸ HG.out.2), HOK.out⟩⟩
                      · have HBY := Lib.hid (rbytes_short w.heap.size s (b + 16 + 16) n9 (by omega) hs HLE7.out (by omega) (by omega) w8 hrd8)
                        have HER := Lib.hid (HB0'.out 3 (by
                          unfold storeM
                          rw [if_pos (show o.length + n9 ≤ (srcR s limit).lim from HRM.out), if_neg (show ¬ b + 16 + 16 + 8 * n9 ≤ (srcR s limit).L from hfit)]))
                        clear hrd8 hv8
                        have HO8 := Lib.hid how8
                        clear how8
                        go_wp2_with fail
                        refine HBY.out.mono ?_; rintro e wA ⟨rfl, hrA, hgA⟩
                        have HUA := Lib.hid (HU8.out.then (upr_read (g := (w.heap.size + 1)) (r := r8) hgA))
                        have r2 := hrA.c2
                        have hbA := (hgA.block (w.heap.size + 1) hlt8 (fun e => by injection e with e; exact hne8 e)).trans HB8.out
                        have HFL := Lib.hid (rfail_ok (w.heap.size + 1) w.heap.size v8 limit 3 wA hbA)
                        have hoA : wA.ownsRow w.heap.size 5 1 v8 o.length (cells8 o) := own_keep (i := 0) HO8.out (fun bb hbb => hgA.block bb (own_lt HO8.out hbb) (fun e => by injection e with e; subst e; exact own_ne (cs := []) HO8.out HR8.out (by decide) hbb)) hgA.size
                        have hbW := heap_setCell_same wA (w.heap.size + 1) 3 _ _ (.int .i64 3) hbA
                        have hoW : (wA.setCell ⟨w.heap.size + 1, 3, none⟩ (.int .i64 3)).ownsRow w.heap.size 5 1 v8 o.length (cells8 o) := own_keep (i := 0) hoA (fun bb hbb => Below.heap_setCell _ _ _ _ (fun e => own_ne (cs := []) hoA hbA (by decide) (by rw [hbb, e]))) (by simp [World.setCell])
                        have HUB := Lib.hid (HUA.out.then (upr_set (g := (w.heap.size + 1)) (gr := w.heap.size) (r := r8) wA 3 (.int .i64 3)))
                        unfold stC at hbA
                        have k0 := (cell_of_row _ (w.heap.size + 1) 0 _ _ _ hbA).trans (show _ = some (Value.pointer (some ⟨w.heap.size, 0, none⟩)) from rfl)
                        have hszA : w.heap.size ≤ (wA.setCell ⟨w.heap.size + 1, 3, none⟩ (.int .i64 3)).heap.size := by
                          have h1 := hgA.size
                          have h2 : (wA.setCell ⟨w.heap.size + 1, 3, none⟩ (.int .i64 3)).heap.size = wA.heap.size := by simp [World.setCell]
                          omega
                        have HOW := Lib.hid hoW
                        have HBW := Lib.hid (show (wA.setCell ⟨w.heap.size + 1, 3, none⟩ (.int .i64 3)).heap[w.heap.size + 1]? = some (stC w.heap.size v8 limit ((3 : Nat) : Int)) from hbW)
                        have HBSZ := Lib.hid hszA
                        clear hbA hrA hgA HBY c0 c3 hoA hbW hoW hszA
                        go_wp2_with fail
                        refine HFL.out.mono ?_; rintro e wB ⟨rfl, rfl⟩
                        generalize wA.setCell ⟨w.heap.size + 1, 3, none⟩ (.int .i64 3) = wB at *
                        obtain ⟨AB, cB, rfl⟩ := row8_slice HOW.out
                        have hbB := HBW.out
                        have hltB := lt_of_block hbB
                        have hneB : (Value.slice AB o.length cB).ownBlock ≠ some (w.heap.size + 1) := own_ne (cs := []) HOW.out hbB (by decide)
                        have hlo : o.length ≤ 1000000000 := by have := HRM.out; omega
                        unfold stC at hbB
                        have k1 := (cell_of_row _ (w.heap.size + 1) 1 _ _ _ hbB).trans (show _ = some (Value.slice AB o.length cB) from rfl)
                        clear hbB HFL k0 r2
                        have hxs : (⟨#[]⟩ : ByteArray).size = 0 := rfl
                        go_wp2_with (at_builtin; refine wpList_append_str_at _ rfl (.tmp 107) (.tmp 108) _ _ rfl w.heap.size 5 i0 Tryz.underlying37 Tryz.underlying9 hi iz0 iz1 iz2 (.slice AB o.length cB) o.length (cells8 o) rfl HOW.out ⟨#[]⟩ rfl (by unfold maxLen; omega) (by omega) HBSZ.out ?_)
                        intro v' wC hown hgrow hat
                        have hbC := (hgrow.block (w.heap.size + 1) hltB (fun e => hneB e.symm)).trans HBW.out
                        obtain ⟨AC, cC, rfl⟩ := row8_slice hown
                        have HG := Lib.hid (RB.growN (v2 := .slice AC (o.length + (⟨#[]⟩ : ByteArray).size) cC) (xs := cells8 o) (ys := []) HBW.out ⟨by decide, by decide⟩ HV8.out HOW.out (Below.refl _ _) hgrow (by
                          rcases hat with e | e
                          · exact .inl e
                          · exact .inr ⟨_, e, Nat.le_refl _⟩))
                        unfold stC at hbC
                        have k1' := (cell_of_row _ (w.heap.size + 1) 1 _ _ _ hbC).trans (show _ = some (Value.slice AB o.length cB) from rfl)
                        have kf := frozen_of_row wC (w.heap.size + 1) 1 _ _ hbC
                        clear hbC hown hgrow hat k1
                        go_wp2_with fail
                        go_meet
                        case rel => exact .inl ⟨fun e => by have := H0.out; omega, .inr ⟨3, _, HG.out.1, HUB.out.then HG.out.2, by have := HER.out; rwa [HA0.out] at this⟩⟩
                    · rw [show roomM n9 (srcR s limit) (b + 16 + 16) o = .error 14 from if_neg hrm] at hout
                      obtain ⟨r8, hu8, rfl, hBd8⟩ := hout
                      have HER := Lib.hid (HB0'.out 14 (by unfold storeM; rw [if_neg (show ¬ o.length + n9 ≤ (srcR s limit).lim from hrm)]))
                      have HU8 := Lib.hid (HU7.out.then hu8)
                      have HBD := Lib.hid hBd8
                      clear hu8
                      obtain ⟨gr9, v9, l9, hb9, hk9, hk99⟩ := hBd8
                      unfold stC at hb9
                      have c3 := (cell_of_row _ (w.heap.size + 1) 3 _ _ _ hb9).trans (show _ = some (Value.int .i64 (14 : Nat)) from rfl)
                      have hk1 : (((14 : Nat) : Int) == 0) = false := by rw [beq_eq_false_iff_ne]; omega
                      have hk2 : (((14 : Nat) : Int) != 0) = true := by rw [bne_iff_ne]; omega
                      clear hb9
                      go_wp2_with fail
                      go_meet
                      case rel => exact .inl ⟨fun e => by have := H0.out; omega, .inr ⟨14, _, HBD.out, HU8.out, by have := HER.out; rwa [HA0.out] at this⟩⟩
                  · have hsum : IntKind.i64.wrap ((n9 : Int) + (m9 : Int)) = ((n9 + m9 : Nat) : Int) := by rw [IntWalk.i64_in _ (by omega)]; omega
                    obtain ⟨nm, hnm2⟩ : ∃ nm : Nat, nm = n9 + m9 := ⟨_, rfl⟩
                    have hnn : (((nm : Nat) : Int) != 65535) = true := by rw [bne_iff_ne]; omega
                    rw [← hnm2] at hsum
                    have HFL := Lib.hid (rfail_ok (w.heap.size + 1) w.heap.size v7 limit 13 w7 HB7.out)
                    have hBd := rb_set (lim := limit) 13 (by decide) (by decide) HB7.out
                    have HBD := Lib.hid hBd
                    have HU8 := Lib.hid (HU7.out.then (upr_set (g := (w.heap.size + 1)) (gr := w.heap.size) (r := r7) w7 3 (.int .i64 (13 : Nat))))
                    have HER := Lib.hid (HBE.out 13 (HSM.out.trans (by rw [if_neg (by omega)]; rfl)))
                    clear hnm hnm2
                    go_wp2_with fail
                    refine HFL.out.mono ?_; rintro e wz ⟨rfl, rfl⟩
                    change RB (w7.setCell ⟨w.heap.size + 1, 3, none⟩ (.int .i64 13)) _ _ at hBd
                    have HBD : Hid (RB (w7.setCell ⟨w.heap.size + 1, 3, none⟩ (.int .i64 13)) (w.heap.size + 1) 13) := hBd
                    have HU8 : Hid (UpR (w.heap.size + 1) w.heap.size r r7 wr (w7.setCell ⟨w.heap.size + 1, 3, none⟩ (.int .i64 13))) := HU8.out
                    generalize w7.setCell ⟨w.heap.size + 1, 3, none⟩ (.int .i64 13) = w8 at *
                    have HRM := Lib.hid (rroom_no (w.heap.size + 1) 13 (n9 : Nat) w8 HBD.out)
                    clear c3 HFL
                    obtain ⟨gr9, v9, l9, hb9, hk9, hk99⟩ := hBd
                    unfold stC at hb9
                    have c3 := (cell_of_row _ (w.heap.size + 1) 3 _ _ _ hb9).trans (show _ = some (Value.int .i64 (13 : Nat)) from rfl)
                    have hk1 : (((13 : Nat) : Int) == 0) = false := by rw [beq_eq_false_iff_ne]; omega
                    have hk2 : (((13 : Nat) : Int) != 0) = true := by rw [bne_iff_ne]; omega
                    clear hb9
                    go_wp2_with fail
                    refine HRM.out.mono ?_; rintro e w9 ⟨rfl, rfl⟩
                    go_wp2_with fail
                    go_meet
                    case rel => exact .inl ⟨fun e => by have := H0.out; omega, .inr ⟨13, _, HBD.out, HU8.out, by have := HER.out; rwa [HA0.out] at this⟩⟩
                · have HER := Lib.hid hq
                  have HU8 := Lib.hid hu7
                  have HBD := Lib.hid hB7
                  have HRM := Lib.hid (rroom_no (w.heap.size + 1) q (n9 : Nat) w7 HBD.out)
                  clear hu7 hq
                  obtain ⟨gr9, v9, l9, hb9, hk9, hk99⟩ := hB7
                  unfold stC at hb9
                  have c3 := (cell_of_row _ (w.heap.size + 1) 3 _ _ _ hb9).trans (show _ = some (Value.int .i64 (q : Nat)) from rfl)
                  have hk1 : (((q : Nat) : Int) == 0) = false := by rw [beq_eq_false_iff_ne]; omega
                  have hk2 : (((q : Nat) : Int) != 0) = true := by rw [bne_iff_ne]; omega
                  clear hb9
                  go_wp2_with fail
                  refine HRM.out.mono ?_; rintro e w9 ⟨rfl, rfl⟩
                  go_wp2_with fail
                  go_meet
                  case rel => exact .inl ⟨fun e => by have := H0.out; omega, .inr ⟨q, _, HBD.out, HU8.out, by have := HER.out; rwa [HA0.out] at this⟩⟩
            · have d0 : (((y : Nat) : Int) == 0) = false := by rw [beq_eq_false_iff_ne]; omega
              have H0 := Lib.hid h0
              clear h0
              go_wp2_with fail
              go_meet
              case rel =>
                have h0 := H0.out
                rcases HK1.out with ⟨h, h2⟩ | ⟨h, h2⟩
                · exact .inl ⟨by omega, h2⟩
                · exact .inr ⟨by omega, h2⟩
          case rest =>
            have HK2 := hcut
            clear hcut HK1
            go_upto_region 21 with fail
            go_cut [117] from 25 to 180 (fun v wx => v = .bool (decide (y = 1 ∨ y = 2)) ∧ wx = wc)
            case first =>
              by_cases h1 : y = 1
              · have d1 : (((y : Nat) : Int) == 1) = true := by rw [beq_iff_eq]; omega
                have HD : Hid (decide (y = 1 ∨ y = 2) = true) := decide_eq_true (.inl h1)
                clear h1
                go_wp2_with fail
                go_meet
                case rel => exact ⟨by rw [HD.out], rfl⟩
              · have d1 : (((y : Nat) : Int) == 1) = false := by rw [beq_eq_false_iff_ne]; omega
                by_cases h2 : y = 2
                · have d2 : (((y : Nat) : Int) == 2) = true := by rw [beq_iff_eq]; omega
                  have HD : Hid (decide (y = 1 ∨ y = 2) = true) := decide_eq_true (.inr h2)
                  clear h1 h2
                  go_wp2_with fail
                  go_meet
                  case rel => exact ⟨by rw [HD.out], rfl⟩
                · have d2 : (((y : Nat) : Int) == 2) = false := by rw [beq_eq_false_iff_ne]; omega
                  have HD : Hid (decide (y = 1 ∨ y = 2) = false) := decide_eq_false (fun h => h.elim h1 h2)
                  clear h1 h2
                  go_wp2_with fail
                  go_meet
                  case rel => exact ⟨by rw [HD.out], rfl⟩
            case rest =>
              obtain ⟨rfl, hwc⟩ := hcut
              have hwc := hwc.symm
              subst hwc
              obtain ⟨KB, HKB⟩ : ∃ q : Bool, Hid (q = decide (y = 1 ∨ y = 2)) := ⟨_, rfl⟩
              rw [← HKB.out]
              go_upto_if 117 with fail
              go_cut [13, 14, 15, 16, 17, 18] from 25 to 180 (fun _ _ _ _ _ _ wx => Hid (BO wr w.heap.size (w.heap.size + 1) w.heap.size r s limit a x o wx))
              case first =>
                cases KB with
                | false =>
                  have HBO : Hid (BO wr w.heap.size (w.heap.size + 1) w.heap.size r s limit a x o wc) := by
                    rcases HK2.out with ⟨_, h⟩ | ⟨h, _⟩
                    · exact h
                    · have h2 := HKB.out
                      rw [decide_eq_true h] at h2
                      cases h2
                  go_wp2_with fail
                  go_meet
                  case rel => exact HBO.out
                | true =>
                  have HY0 : y = 1 ∨ y = 2 := of_decide_eq_true HKB.out.symm
                  have HY := Lib.hid HY0
                  clear HY0
                  obtain rfl : wc = w4 := by
                    rcases HK2.out with ⟨h, _⟩ | ⟨_, h⟩
                    · exact absurd HY.out h
                    · exact h
                  as_aux_lemma =>
                    have HFX := Lib.hid (rfixed_any wc)
                    go_wp2_with fail
                    refine HFX.out.mono ?_; rintro e w5 ⟨A1, c1, A2, c2, rfl, hL1, hL2, hb5⟩
                    have HL1 := Lib.hid hL1
                    have HL2 := Lib.hid hL2
                    have HS5 := Lib.hid (HS4.out.below hb5)
                    have HU5 := Lib.hid (HU4.out.then (upr_below (g := (w.heap.size + 1)) (gr := w.heap.size) (r := r4) hb5))
                    clear HFX hL1 hL2 hb5
                    go_upto_if 123 with fail
                    go_cut [13, 14] from 25 to 180 (fun v13 v14 wx => Hid (K3 wr w.heap.size (w.heap.size + 1) w.heap.size r s limit a x o v13 v14 wx))
                    case first =>
                      rcases HY.out with h1 | h2
                      · have d2 : (((y : Nat) : Int) == 2) = false := by rw [beq_eq_false_iff_ne]; omega
                        have HY1 := Lib.hid h1
                        clear h1
                        go_wp2_with fail
                        go_meet
                        case rel =>
                          refine .inl ⟨fixS, fixD, a + 1 + 2, o, r4, ⟨A1, c1, A2, c2, rfl, rfl, HL1.out, HL2.out, by decide, by decide, bx_15, bd_15⟩, HS5.out, HU5.out, ?_⟩
                          rw [HBM.out, if_neg (by have := HY1.out; omega), if_pos HY1.out]
                          unfold pairM makeM
                          rw [if_pos bx_may, if_pos bd_may]
                          rfl
                      · have d2 : (((y : Nat) : Int) == 2) = true := by rw [beq_iff_eq]; omega
                        have HY2 := Lib.hid h2
                        clear h2
                        have HBD2 : Hid (blockM (srcR s limit) a o = bindM dynamicM (fun p => bindM (signsM p.1 p.2) fun _ => retM (x == 1)) (srcR s limit) (a + 1 + 2) o) := by
                          show blockM (srcR s limit) a o = _
                          rw [HBM.out, if_neg (by have := HY2.out; omega), if_neg (by have := HY2.out; omega), if_pos HY2.out]
                        have HDY := Lib.hid (rdynamic_any w.heap.size (w.heap.size + 1) w.heap.size (a + 1 + 2) r4 s limit o hs w5 (Nat.le_trans HBR.out HU5.out.1.size) HS5.out)
                        go_wp2_with fail
                        refine HDY.out.mono ?_; rintro e w6 hout
                        clear HDY
                        cases hdl : dynLM (srcR s limit) (a + 1 + 2) o with
                        | error q =>
                          rw [hdl] at hout
                          obtain ⟨r6, hu6, ⟨v1, v2, rfl⟩, hbad⟩ := hout
                          have HER : Hid (blockM (srcR s limit) a o = .error q) := by
                            show blockM (srcR s limit) a o = _
                            rw [HBD2.out, dyn_eq]
                            exact bindR_err (bindR_err hdl)
                          have HU6 := Lib.hid (HU5.out.then hu6)
                          have HBD := Lib.hid hbad
                          clear hdl hu6 hbad
                          go_wp2_with fail
                          go_meet
                          case rel => exact .inr ⟨q, r6, HBD.out, HU6.out, HER.out⟩
                        | ok p =>
                          obtain ⟨⟨l1, l2⟩, a6, o6⟩ := p
                          rw [hdl] at hout
                          obtain ⟨r6, A3, c3, A4, c4, hu6, hS6, rfl, hL3, hL4, h15a, h15b⟩ := hout
                          have HS6 := Lib.hid hS6
                          have HU6 := Lib.hid (HU5.out.then hu6)
                          have hn1 : l1.length ≤ 4096 ∧ l2.length ≤ 4096 := by
                            have h1 := hdl_len hdl
                            omega
                          have HPA : Hid (PairAt w6 (.slice A3 l1.length c3) (.slice A4 l2.length c4) (codL l1) (codL l2)) := ⟨A3, c3, A4, c4, rfl, rfl, hL3, hL4, hn1.1, hn1.2, fun i hi => by
                            show l1.getD i 0 ≤ 15
                            exact getD_le l1 15 h15a i, fun i hi => by
                            show l2.getD i 0 ≤ 15
                            exact getD_le l2 15 h15b i⟩
                          have HBM6 : Hid (blockM (srcR s limit) a o = bindM (pairM (codL l1) (codL l2)) (fun _ => bindM (signsM (codL l1) (codL l2)) fun _ => retM (x == 1)) (srcR s limit) a6 o6) := by
                            show blockM (srcR s limit) a o = _
                            rw [HBD2.out, dyn_eq, bindM_assoc, bindR_ok hdl]
                            dsimp only
                            rw [bindM_assoc]
                            rfl
                          clear hdl hS6 hu6 hL3 hL4 h15a h15b hn1
                          go_wp2_with fail
                          go_meet
                          case rel => exact .inl ⟨codL l1, codL l2, a6, o6, r6, HPA.out, HS6.out, HU6.out, HBM6.out⟩
                    case rest =>
                      have HK3 := hcut
                      clear HS5 HU5 HL1 HL2
                      rcases HK3.out with ⟨c, d, a6, o6, r6, hpa, hS6, hu6, hbm⟩ | ⟨k6, r6, hbad, hu6, hbe⟩
                      · obtain ⟨A1, c1, A2, c2, rfl, rfl, hL1, hL2, hcn, hdn, hc15, hd15⟩ := hpa
                        obtain ⟨v6, hb, _⟩ := hS6.blk
                        have HB6 := Lib.hid hb
                        unfold stC at hb
                        have c3 := (cell_of_row _ (w.heap.size + 1) 3 _ _ _ hb).trans (show _ = some (Value.int .i64 0) from rfl)
                        have HS6 := Lib.hid hS6
                        have HU6 := Lib.hid hu6
                        have HBM6 := Lib.hid hbm
                        have HN1 := Lib.hid (rnew_may A1 c.n c1 true c.ls hcn wc hL1 hc15)
                        have HL2 := Lib.hid hL2
                        clear hb hS6 hu6 hbm hL1 hL2 HK3 hcut
                        go_wp2_with fail
                        refine HN1.out.mono ?_; rintro e w7 ⟨hb7, hnew⟩
                        clear HN1 c3
                        have HS7 := Lib.hid (HS6.out.below hb7)
                        have HU7 := Lib.hid (HU6.out.then (upr_below (g := (w.heap.size + 1)) (gr := w.heap.size) (r := r6) hb7))
                        have HN2 := Lib.hid (rnew_may A2 d.n c2 true d.ls hdn w7 (HL2.out.below (Nat.le_refl _) hb7) hd15)
                        clear hb7 HL2
                        rcases hnew with ⟨hm1, rfl, hr1⟩ | ⟨hm1, rfl⟩
                        · have HM1 := Lib.hid hm1
                          have HR1 := Lib.hid hr1
                          clear hm1 hr1
                          go_wp2_with fail
                          refine HN2.out.mono ?_; rintro e w8 ⟨hb8, hnew⟩
                          clear HN2
                          have HS8 := Lib.hid (HS7.out.below hb8)
                          have HU8 := Lib.hid (HU7.out.then (upr_below (g := (w.heap.size + 1)) (gr := w.heap.size) (r := r6) hb8))
                          rcases hnew with ⟨hm2, rfl, hr2⟩ | ⟨hm2, rfl⟩
                          · have HR1' := Lib.hid (HR1.out.below hb8 (lt_of_heap HR1.out))
                            have HM2 := Lib.hid hm2
                            have HR2 := Lib.hid hr2
                            have HK1m := Lib.hid (rmake_cd _ c.n c.n c.ls true hcn hc15 HM1.out w8 HR1'.out)
                            have HPM : Hid (blockM (srcR s limit) a o = bindM (signsM c d) (fun _ => retM (x == 1)) (srcR s limit) a6 o6) := by
                              show blockM (srcR s limit) a o = _
                              rw [HBM6.out]
                              unfold pairM makeM
                              rw [if_pos HM1.out, if_pos HM2.out]
                              rfl
                            clear hm2 hr2 hb8 HBM6 HB6 HS6 HU6
                            generalize w7.heap.size = g7 at *
                            go_wp2_with fail
                            refine HK1m.out.mono ?_; rintro e w9 ⟨X1, rfl, hx1, hcd1, hb9⟩
                            have HS9 := Lib.hid (HS8.out.below hb9)
                            have HU9 := Lib.hid (HU8.out.then (upr_below (g := (w.heap.size + 1)) (gr := w.heap.size) (r := r6) hb9))
                            have HK2m := Lib.hid (rmake_cd _ d.n d.n d.ls true hdn hd15 HM2.out w9 (HR2.out.below hb9 (lt_of_heap HR2.out)))
                            have HCD1 := Lib.hid hcd1
                            clear hb9 hcd1 HK1m
                            go_wp2_with fail
                            refine HK2m.out.mono ?_; rintro e wA ⟨X2, rfl, hx2', hcd2, hbA⟩
                            have HSA := Lib.hid (HS9.out.below hbA)
                            have HUA := Lib.hid (HU9.out.then (upr_below (g := (w.heap.size + 1)) (gr := w.heap.size) (r := r6) hbA))
                            have HBL := Lib.hid (rblock_st w.heap.size (w.heap.size + 1) w.heap.size a6 r6 s limit o6 c d X1 X2 hx1 hx2' hs hl wA (Nat.le_trans HBR.out HUA.out.1.size) HSA.out (HCD1.out.below hbA) hcd2)
                            clear hbA hcd2 HK2m HCD1 HS9 HS8 HS7
                            go_wp2_with fail
                            refine HBL.out.mono ?_; rintro e wB hout
                            have HBO : Hid (BO wr w.heap.size (w.heap.size + 1) w.heap.size r s limit a x o wB ∧ e = .returned (.tuple #[])) := by
                              cases hsg : signsM c d (srcR s limit) a6 o6 with
                              | error q =>
                                rw [hsg] at hout
                                obtain ⟨r7, hu7, he, hbd⟩ := hout
                                exact ⟨.inr ⟨q, r7, hbd, HUA.out.then hu7, HPM.out.trans (bindR_err hsg)⟩, he⟩
                              | ok p =>
                                obtain ⟨⟨⟩, a7, o7⟩ := p
                                rw [hsg] at hout
                                obtain ⟨r7, hu7, he, hs7⟩ := hout
                                exact ⟨.inl ⟨a7, o7, r7, hs7, HUA.out.then hu7, HPM.out.trans ((bindR_ok hsg).trans rfl)⟩, he⟩
                            obtain rfl := HBO.out.2
                            clear hout HBL
                            go_wp2_with fail
                            go_meet
                            case rel => exact HBO.out.1
                          · have HBE : Hid (blockM (srcR s limit) a o = .error 10) := by
                              show blockM (srcR s limit) a o = _
                              rw [HBM6.out]
                              unfold pairM makeM
                              rw [if_pos HM1.out, if_neg hm2]
                              rfl
                            clear hb8 hm2
                            obtain ⟨v8, hb, _⟩ := HS8.out.blk
                            have HFL := Lib.hid (rfail_ok (w.heap.size + 1) w.heap.size v8 limit 10 w8 hb)
                            have HBO : Hid (BO wr w.heap.size (w.heap.size + 1) w.heap.size r s limit a x o (w8.setCell ⟨w.heap.size + 1, 3, none⟩ (.int .i64 10))) := .inr ⟨10, r6, rb_set 10 (by decide) (by decide) hb, HU8.out.then (upr_set w8 3 _), HBE.out⟩
                            clear hb
                            go_wp2_with fail
                            refine HFL.out.mono ?_; rintro e wz ⟨rfl, rfl⟩
                            go_wp2_with fail
                            go_meet
                            case rel => exact HBO.out
                        · have HBE : Hid (blockM (srcR s limit) a o = .error 10) := by
                            show blockM (srcR s limit) a o = _
                            rw [HBM6.out]
                            unfold pairM makeM
                            rw [if_neg hm1]
                            rfl
                          clear hm1
                          go_wp2_with fail
                          refine HN2.out.mono ?_; rintro e w8 ⟨hb8, hnew⟩
                          clear HN2
                          have HS8 := Lib.hid (HS7.out.below hb8)
                          have HU8 := Lib.hid (HU7.out.then (upr_below (g := (w.heap.size + 1)) (gr := w.heap.size) (r := r6) hb8))
                          clear hb8
                          rcases hnew with ⟨hm2, rfl, hr2⟩ | ⟨hm2, rfl⟩
                          · clear hm2 hr2
                            obtain ⟨v8, hb, _⟩ := HS8.out.blk
                            have HFL := Lib.hid (rfail_ok (w.heap.size + 1) w.heap.size v8 limit 10 w8 hb)
                            have HBO : Hid (BO wr w.heap.size (w.heap.size + 1) w.heap.size r s limit a x o (w8.setCell ⟨w.heap.size + 1, 3, none⟩ (.int .i64 10))) := .inr ⟨10, r6, rb_set 10 (by decide) (by decide) hb, HU8.out.then (upr_set w8 3 _), HBE.out⟩
                            clear hb
                            go_wp2_with fail
                            refine HFL.out.mono ?_; rintro e wz ⟨rfl, rfl⟩
                            go_wp2_with fail
                            go_meet
                            case rel => exact HBO.out
                          · clear hm2
                            obtain ⟨v8, hb, _⟩ := HS8.out.blk
                            have HFL := Lib.hid (rfail_ok (w.heap.size + 1) w.heap.size v8 limit 10 w8 hb)
                            have HBO : Hid (BO wr w.heap.size (w.heap.size + 1) w.heap.size r s limit a x o (w8.setCell ⟨w.heap.size + 1, 3, none⟩ (.int .i64 10))) := .inr ⟨10, r6, rb_set 10 (by decide) (by decide) hb, HU8.out.then (upr_set w8 3 _), HBE.out⟩
                            clear hb
                            go_wp2_with fail
                            refine HFL.out.mono ?_; rintro e wz ⟨rfl, rfl⟩
                            go_wp2_with fail
                            go_meet
                            case rel => exact HBO.out
                      · have HBD := Lib.hid hbad
                        have HU6 := Lib.hid hu6
                        have HBE := Lib.hid hbe
                        clear hu6 hbe HK3 hcut
                        obtain ⟨gr9, v9, l9, hb9, hk9, hk99⟩ := hbad
                        unfold stC at hb9
                        have c3 := (cell_of_row _ (w.heap.size + 1) 3 _ _ _ hb9).trans (show _ = some (Value.int .i64 (k6 : Nat)) from rfl)
                        have hk1 : (((k6 : Nat) : Int) == 0) = false := by rw [beq_eq_false_iff_ne]; omega
                        have hk2 : (((k6 : Nat) : Int) != 0) = true := by rw [bne_iff_ne]; omega
                        clear hb9
                        go_wp2_with fail
                        go_meet
                        case rel => exact .inr ⟨k6, r6, HBD.out, HU6.out, HBE.out⟩
              case rest =>
               as_aux_lemma =>
                have HBO := hcut
                clear hcut HK2 HKB
                rcases HBO.out with ⟨a2, o2, r2, hS2, hu2, hbm⟩ | ⟨k, r2, hbad, hu2, hbe⟩
                · have HU2 := Lib.hid (HU.out.then hu2)
                  have HS2' := Lib.hid hS2
                  have HB9 : Hid (Below w.heap.size w wc) := HB2.out.trans (HU2.out.below HS2.out HBS.out)
                  have hgrw : a < a2 := blkGrow (src := srcR s limit) (by show 8 * s.size % 8 = 0; omega) HLE4.out hbm
                  have hle2 := hS2.le
                  have HMS2 := Lib.hid (msB_good hS2)
                  obtain ⟨v2, hb, how, hv2⟩ := hS2.blk
                  have hsm := hS2.small
                  obtain ⟨Ax, cx, rfl⟩ := row8_slice how
                  have hrd := hS2.rd
                  have r1 := hrd.c1
                  unfold stC at hb
                  have c0 := (cell_of_row _ (w.heap.size + 1) 0 _ _ _ hb).trans (show _ = some (Value.pointer (some ⟨w.heap.size, 0, none⟩)) from rfl)
                  have k1 := (cell_of_row _ (w.heap.size + 1) 1 _ _ _ hb).trans (show _ = some (Value.slice Ax o2.length cx) from rfl)
                  have c3 := (cell_of_row _ (w.heap.size + 1) 3 _ _ _ hb).trans (show _ = some (Value.int .i64 0) from rfl)
                  have hcv := string_of_own (W := wc.drew) how hsm
                  clear hb how hv2 hsm hrd hS2 hu2 HBO
                  by_cases hx1 : x = 1
                  · have d1 : (((x : Nat) : Int) == 1) = true := by rw [beq_iff_eq]; omega
                    have HAN : Hid (AN = .ok ((), a2, o2)) := HRU2.out _ (.done (by
                      show blockStep () (srcR s limit) a o = _
                      unfold blockStep
                      rw [bindR_ok hbm, show (x == 1) = true from by rw [beq_iff_eq]; exact hx1]
                      rfl))
                    have hw7 : IntKind.i64.wrap ((a2 : Int) + 7) = (a2 : Int) + 7 := IntWalk.i64_in _ (by omega)
                    have hwq : IntKind.i64.wrap (((a2 : Int) + 7).tdiv 8) = (((a2 + 7) / 8 : Nat) : Int) := by
                      rw [Int.tdiv_eq_ediv_of_nonneg (by omega), IntWalk.i64_in _ (by omega)]
                      omega
                    clear hx1 hbm
                    go_wp2_with fail
                    go_region
                    go_wp2_with fail
                    go_ret3
                    refine ⟨?_, HB9.out.drew⟩
                    rw [HAN.out]
                    show Ending.returned (.tuple #[.string (text o2), .int .i64 (((a2 : Int) + 7) / 8), .int .i64 0]) = .returned (.tuple #[.string (text o2), .int .i64 ((a2 + 7) / 8 : Nat), .int .i64 0])
                    rw [show ((a2 : Int) + 7) / 8 = (((a2 + 7) / 8 : Nat) : Int) by omega]
                  · have d1 : (((x : Nat) : Int) == 1) = false := by rw [beq_eq_false_iff_ne]; omega
                    have HRUN : Hid (∀ ans, Runs blockStep (srcR s limit) () a2 o2 ans → AN = ans) := fun ans h => HRU2.out ans (.more (by
                      show blockStep () (srcR s limit) a o = .ok (.inl (), a2, o2)
                      unfold blockStep
                      rw [bindR_ok hbm, show (x == 1) = false from by rw [beq_eq_false_iff_ne]; exact hx1]
                      rfl) h)
                    clear hx1 hbm k1 c0 r1 hcv
                    go_wp2_with fail
                    go_roundw
                    case rel => exact .inl ⟨a2, o2, r2, HS2'.out, HU2.out, HRUN.out⟩
                    case measure => rw [HMS2.out, HMS.out]; omega
                · have HU2 := Lib.hid (HU.out.then hu2)
                  have HBD := Lib.hid hbad
                  have HAN : Hid (AN = .error k) := HRU2.out _ (.err (bindR_err hbe))
                  clear hu2 hbe HBO
                  obtain ⟨gr9, v9, l9, hb9, hk9, hk99⟩ := hbad
                  unfold stC at hb9
                  have c3 := (cell_of_row _ (w.heap.size + 1) 3 _ _ _ hb9).trans (show _ = some (Value.int .i64 (k : Nat)) from rfl)
                  have hk1 : (((k : Nat) : Int) == 0) = false := by rw [beq_eq_false_iff_ne]; omega
                  have hk2 : (((k : Nat) : Int) != 0) = true := by rw [bne_iff_ne]; omega
                  clear hb9
                  have HM0 := Lib.hid (msB_bad (gr := w.heap.size) (s := s) HBD.out)
                  by_cases hx1 : x = 1
                  · have d1 : (((x : Nat) : Int) == 1) = true := by rw [beq_iff_eq]; omega
                    clear hx1
                    go_wp2_with fail
                    go_roundw
                    case rel => exact .inr ⟨k, r2, HBD.out, HU2.out, HAN.out⟩
                    case measure => rw [HM0.out, HMS.out]; omega
                  · have d1 : (((x : Nat) : Int) == 1) = false := by rw [beq_eq_false_iff_ne]; omega
                    clear hx1
                    go_wp2_with fail
                    go_roundw
                    case rel => exact .inr ⟨k, r2, HBD.out, HU2.out, HAN.out⟩
                    case measure => rw [HM0.out, HMS.out]; omega
      · have HQ : Hid (blockM (srcR s limit) a o = .error q) := by rw [HA.out] at hq; exact hq
        have HAN : Hid (AN = .error q) := HRU2.out _ (.err (bindR_err HQ.out))
        have HB9 : Hid (Below w.heap.size w w4) := HB2.out.trans ((HU.out.then hu4).below HS2.out HBS.out)
        clear hq hu4
        obtain ⟨gr9, v9, l9, hb9, hk9, hk99⟩ := hBd
        unfold stC at hb9
        have c3 := (cell_of_row _ (w.heap.size + 1) 3 _ _ _ hb9).trans (show _ = some (Value.int .i64 (q : Nat)) from rfl)
        have hk1 : (((q : Nat) : Int) == 0) = false := by rw [beq_eq_false_iff_ne]; omega
        have hk2 : (((q : Nat) : Int) != 0) = true := by rw [bne_iff_ne]; omega
        clear hb9
        go_wp2_with fail
        go_region
        go_wp2_with fail
        go_ret3
        exact ⟨by rw [HAN.out]; rfl, HB9.out.drew⟩
    · have HAN := Lib.hid hAN
      have HB9 : Hid (Below w.heap.size w wr) := HB2.out.trans (hU.below HS2.out HBS.out)
      clear hU hAN hrel
      obtain ⟨gr9, v9, l9, hb9, hk9, hk99⟩ := hbad
      unfold stC at hb9
      have c3 := (cell_of_row _ (w.heap.size + 1) 3 _ _ _ hb9).trans (show _ = some (Value.int .i64 (k : Nat)) from rfl)
      have hk1 : (((k : Nat) : Int) == 0) = false := by rw [beq_eq_false_iff_ne]; omega
      have hk2 : (((k : Nat) : Int) != 0) = true := by rw [bne_iff_ne]; omega
      clear hb9
      go_wp2_with fail
      go_region
      go_wp2_with fail
      go_ret3
      exact ⟨by rw [HAN.out]; rfl, HB9.out.drew⟩
end Go.Proofs.YtmkeicfklbepnaaGreat
