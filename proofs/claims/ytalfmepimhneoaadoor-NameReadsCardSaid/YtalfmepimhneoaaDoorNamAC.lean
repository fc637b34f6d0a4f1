/-
  Contract: the document's Encode.
-/
import Derived.Test.YtalfmepimhneoaaDoorNamAB
namespace Go.Proofs.YtalfmepimhneoaaDoor
set_option maxRecDepth 100000
open Go.RowKit Go.Deep Go.Joins Go.Lib

theorem unO_hit {r j : Nat} (hr : 128 ≤ r) (hj : j < 128) (h : cpL.getD j 0 = r) : unO r = some (128 + j) := by
  have hl : j < cpL.length := by rw [cpL_len]; exact hj
  have hm : r ∈ cpL := by
    rw [← h, List.getD_eq_getElem?_getD, List.getElem?_eq_getElem hl]
    exact List.getElem_mem hl
  have hx := List.idxOf_lt_length_of_mem hm
  rw [cpL_len] at hx
  have e : cpL.idxOf r = j := cp_inj hx hj ((idx_get hx).trans h.symm)
  unfold unO
  rw [if_neg (by omega), e, if_pos hj]
theorem unO_miss {r : Nat} (hr : 128 ≤ r) (h : ∀ j, j < 128 → cpL.getD j 0 ≠ r) : unO r = none := by
  unfold unO
  rw [if_neg (by omega)]
  by_cases hx : cpL.idxOf r < 128
  · exact absurd (idx_get hx) (h _ hx)
  · rw [if_neg hx]
theorem unO_low {r : Nat} (hr : r < 128) : unO r = some r := by unfold unO; rw [if_pos hr]
set_option maxHeartbeats 8000000 in
theorem rencode_any (s : ByteArray) (w : World) (hs : s.size ≤ 100000) :
    Calls Tryd.prog 17 #[.string s] w fun e w' => e = .returned (.tuple #[.string (text ((encO s).getD [])), .bool (encO s).isSome]) ∧ Below w.heap.size w w' := by
  obtain ⟨i0, hi, hz0, hz1, hz2⟩ := info_parts info8
  have HT := Lib.hid (fun w => table_any w)
  have HTB : Hid ((w.alloc (.cells cpV 3)).heap[w.heap.size]? = some (.cells cpV 3 (0, 0))) := heap_alloc_new w _
  have HB0 : Hid (Below w.heap.size w (w.alloc (.cells cpV 3))) := (Below.refl _ _).alloc (Nat.le_refl _) _
  have HS0 : Hid (w.heap.size + 1 ≤ (w.alloc (.cells cpV 3)).heap.size) := by show _ ≤ _; simp
  have HC0 : Hid (encO s = (unL (runeF s s.size 0)).map ([] ++ ·)) := by show _ = _; unfold encO runesB; cases unL (runeF s s.size 0) <;> rfl
  go_enter Tryd.func17, Tryd.ntmps17
  go_wp2_with fail
  refine (HT.out _).mono ?_
  rintro e w1 ⟨rfl, rfl⟩
  generalize w.alloc (.cells cpV 3) = w1 at *
  go_wp2_with fail
  go_loopw [6, 5] (fun i v wr => ∃ (pos f : Nat) (o : List Nat), i = .int .i64 (pos : Nat) ∧ pos ≤ s.size ∧ Hid (wr.ownsRow (w.heap.size + 1) 5 1 v o.length (cells8 o)) ∧ Hid (wr.heap[w.heap.size]? = some (.cells cpV 3 (0, 0))) ∧ Hid (Below w.heap.size w wr) ∧ Hid (w.heap.size + 1 ≤ wr.heap.size) ∧ Hid (encO s = (unL (runeF s f pos)).map (o ++ ·)) ∧ s.size ≤ pos + f ∧ o.length ≤ pos ∧ Hid (∀ x ∈ o, x < 256)) (fun i _ _ => s.size - (intOf i).toNat)
  case atStart => exact ⟨0, s.size, [], rfl, Nat.zero_le _, World.ownsRow_nil _ _ _ _, HTB.out, HB0.out, HS0.out, HC0.out, by omega, Nat.le_refl _, fun x hx => by cases hx⟩
  case round =>
    obtain ⟨pos, f, o, rfl, hle, HO, HTT, HW, HS, HC, hf, hol, HLT⟩ := hrel
    have ho := HO.out
    obtain ⟨A, cp, rfl⟩ := row_slice ho
    clear ho
    by_cases hp : pos < s.size
    · have HONE := Lib.hid (fun w => one_any s pos hp (by omega) w)
      have hrun : 1 ≤ (Utf8.decode s pos).2 ∧ pos + (Utf8.decode s pos).2 ≤ s.size ∧ (Utf8.decode s pos).1 ≤ 1114111 := by
        rcases decode_run s pos hp with ⟨h1, h2⟩ | ⟨_, _, h3, h4, h5, _⟩
        · rw [h2]
          exact ⟨Nat.le_refl _, by show pos + 1 ≤ _; omega, by show s[pos].toNat ≤ _; omega⟩
        · exact ⟨h4, h5, h3⟩
      obtain ⟨f', rfl⟩ : ∃ f', f = f' + 1 := ⟨f - 1, by omega⟩
      have HC2 : Hid (encO s = (unL ((Utf8.decode s pos).1 :: runeF s f' (pos + (Utf8.decode s pos).2))).map (o ++ ·)) := by
        have h := HC.out
        rw [runeF, if_pos hp] at h
        exact h
      have HR : Hid (oneR s pos = if strayAt s pos = true then (-1 : Int) else (((Utf8.decode s pos).1 : Nat) : Int)) := rfl
      have HST : Hid (strayAt s pos = true → (Utf8.decode s pos).1 = 65533) := fun h => by
        unfold strayAt at h
        rw [of_decide_eq_true h]
      generalize oneR s pos = n at *
      generalize Utf8.decode s pos = D at *
      obtain ⟨r, k⟩ := D
      obtain ⟨hk1, hk2, hr⟩ := hrun
      simp only at hk1 hk2 hr HC2 HONE HR HST
      obtain ⟨z, hz, hzi⟩ : ∃ z : Nat, pos + k = z ∧ ((pos : Int) + (k : Int)) = (z : Int) := ⟨pos + k, rfl, by omega⟩
      rw [hz] at HC2 hk2
      have HZ : Hid (pos + k = z ∧ 1 ≤ k) := ⟨hz, hk1⟩
      have hzs : z ≤ s.size := hk2
      clear HC hz
      cases hst : strayAt s pos with
      | true =>
        rw [hst] at HR HST
        have hn : n = -1 := HR.out
        have hr6 : r = 65533 := HST.out rfl
        subst hn hr6
        have HE : Hid (encO s = none) := by show _ = _; rw [HC2.out, unL, un_stray]; rfl
        clear HR HST HC2
        go_wp2_with fail
        refine (HONE.out _).mono ?_
        rintro e w2 ⟨rfl, rfl⟩
        go_wp2_with fail
        go_ret2
        rw [HE.out]
        exact ⟨rfl, HW.out⟩
      | false =>
        rw [hst] at HR
        have hn : n = (r : Int) := HR.out
        subst hn
        clear HR HST
        by_cases h128 : r < 128
        · have HXL : Hid (r < 256) := by show _ < _; omega
          have hwr : IntKind.u8.wrap (r : Int) = (r : Int) := by unfold IntKind.wrap; simp [IntKind.bits, IntKind.signed]; omega
          have HE : Hid (encO s = (unL (runeF s f' z)).map ((o ++ [r]) ++ ·)) := by
            show _ = _
            rw [HC2.out, unL, unO_low h128]
            show Option.map _ (Option.map _ _) = _
            rw [Option.map_map]
            congr 1
            funext l
            show o ++ r :: l = o ++ [r] ++ l
            simp
          clear HC2
          go_wp2_with fail
          refine (HONE.out _).mono ?_
          rintro e w2 ⟨rfl, rfl⟩
          go_wp2_with (at_builtin; refine wpList_append_own_at _ rfl (.tmp 29) (.tmp 32) _ rfl (w.heap.size + 1) 5 i0 (.int .u8 0) 1 1 Tryd.underlying31 hi hz0 hz1 hz2 rfl (by decide) _ o.length (cells8 o) rfl (HO.out.alloc _) ⟨w2.heap.size, 0, none⟩ 1 1 [.int .u8 (r : Nat)] rfl rfl ?a1 ?a2 ?a3 ?a4 ?a5 ?_)
          case a1 => exact cell_one_new _ _ _
          case a2 => intro u hu; simp at hu; subst hu; rfl
          case a3 => unfold maxLen; omega
          case a4 => omega
          case a5 => have := HS.out; simp; omega
          intro v2 w3 hown hgrow _ hat
          have HO3 : Hid (w3.ownsRow (w.heap.size + 1) 5 1 v2 (o ++ [r]).length (cells8 (o ++ [r]))) := by
            show World.ownsRow _ _ _ _ _ _ _
            rw [List.length_append, cells8_app]
            exact hown
          have HW3 : Hid (Below w.heap.size w w3) := (HW.out.alloc HW.out.size _).grown hgrow (by have := HS.out; simp; omega) (fun g hg => by have := (HO.out.lt g hg).1; omega)
          have HT3 : Hid (w3.heap[w.heap.size]? = some (.cells cpV 3 (0, 0))) := by
            have h1 : w.heap.size < w2.heap.size := by have := HS.out; omega
            show _ = _
            rw [hgrow.block w.heap.size (by simp; omega) (fun e => by have := (HO.out.lt _ e.symm).1; omega), Below.heap_alloc w2 _ _ h1]
            exact HTT.out
          have HS3 : Hid (w.heap.size + 1 ≤ w3.heap.size) := by have h1 := hgrow.size; have h2 := HS.out; simp at h1; show _ ≤ _; omega
          have HL3 : Hid (∀ y ∈ o ++ [r], y < 256) := fun y hy => by
            rcases List.mem_append.1 hy with h | h
            · exact HLT.out y h
            · rw [List.mem_singleton.1 h]; exact HXL.out
          clear hown hgrow hat
          go_wp2_with fail
          go_roundw
          case rel => exact ⟨z, f', o ++ [r], rfl, hzs, HO3, HT3, HW3, HS3, HE, by have := HZ.out; omega, by have := HZ.out; rw [List.length_append]; show o.length + 1 ≤ _; omega, HL3⟩
          case measure => have := HZ.out; simp [intOf]; omega
        · have h128' : 128 ≤ r := by omega
          clear h128
          have HHIT := Lib.hid (fun j hj h => unO_hit h128' (j := j) hj h)
          have HMISS := Lib.hid (fun h => unO_miss h128' h)
          go_wp2_with fail
          refine (HONE.out _).mono ?_
          rintro e w2 ⟨rfl, rfl⟩
          go_wp2_with fail
          obtain ⟨wo, rfl⟩ : ∃ wo : World, wo = w2 := ⟨_, rfl⟩
          go_loopw [36, 9] (fun i a wr => ∃ (q : Nat) (y : Int), q ≤ 128 ∧ i = .int .i64 (q : Nat) ∧ a = .int .i64 y ∧ -1 ≤ y ∧ y < 128 ∧ wr = wo ∧ Hid ((∃ j : Nat, j < q ∧ cpL.getD j 0 = r ∧ y = j) ∨ ((∀ j, j < q → cpL.getD j 0 ≠ r) ∧ y = -1))) (fun i _ _ => 128 - (intOf i).toNat)
          case atStart => exact ⟨0, -1, Nat.zero_le _, rfl, rfl, by omega, by omega, rfl, .inr ⟨fun j hj => by omega, rfl⟩⟩
          case round =>
            obtain ⟨q, y, hq, rfl, rfl, hy1, hy2, rfl, HY⟩ := hrel
            by_cases hq1 : q < 128
            · have hcell : wr.cell? ⟨w.heap.size, q, none⟩ = some (.int .i64 ((cpL.getD q 0 : Nat) : Int)) := by
                rw [Lib.cell_of_heap HTT.out]
                exact cpV_at q hq1
              by_cases hc : cpL.getD q 0 = r
              · have HY2 : Hid ((∃ j : Nat, j < q + 1 ∧ cpL.getD j 0 = r ∧ ((q : Nat) : Int) = j) ∨ ((∀ j, j < q + 1 → cpL.getD j 0 ≠ r) ∧ ((q : Nat) : Int) = -1)) := .inl ⟨q, by omega, hc, rfl⟩
                rw [hc] at hcell
                clear hc
                go_wp2_with fail
                go_roundw
                case rel => exact ⟨q + 1, q, by omega, by go_num, rfl, by omega, by omega, by first | rfl | trivial, HY2⟩
                case measure => simp [intOf]; omega
              · have HY2 : Hid ((∃ j : Nat, j < q + 1 ∧ cpL.getD j 0 = r ∧ y = j) ∨ ((∀ j, j < q + 1 → cpL.getD j 0 ≠ r) ∧ y = -1)) := by
                  rcases HY.out with ⟨j, h1, h2, h3⟩ | ⟨h1, h2⟩
                  · exact .inl ⟨j, by omega, h2, h3⟩
                  · refine .inr ⟨fun j hj => ?_, h2⟩
                    by_cases e : j = q
                    · subst e; exact hc
                    · exact h1 j (by omega)
                generalize cpL.getD q 0 = x at *
                have hb : ((x : Int) == (r : Int)) = false := by rw [beq_eq_false_iff_ne]; omega
                clear hc
                go_wp2_with fail
                go_roundw
                case rel => exact ⟨q + 1, y, by omega, by go_num, rfl, hy1, hy2, by first | rfl | trivial, HY2⟩
                case measure => simp [intOf]; omega
            · obtain rfl : q = 128 := by omega
              have e128 : ((128 : Nat) : Int) = 128 := rfl
              by_cases hy : y = -1
              · have HE : Hid (encO s = none) := by
                  show _ = _
                  rw [HC2.out, unL, HMISS.out (by
                    rcases HY.out with ⟨j, h1, h2, h3⟩ | ⟨h1, h2⟩
                    · omega
                    · exact h1)]
                  rfl
                subst hy
                clear HY
                go_wp2_with fail
                go_ret2
                rw [HE.out]
                exact ⟨rfl, HW.out⟩
              · obtain ⟨j, hj, hjr, hyj⟩ : ∃ j : Nat, j < 128 ∧ cpL.getD j 0 = r ∧ y = j := by
                  rcases HY.out with h | ⟨h1, h2⟩
                  · exact h
                  · exact absurd h2 hy
                subst hyj
                obtain ⟨x, hx, hxi⟩ : ∃ x : Nat, 128 + j = x ∧ ((128 : Int) + (j : Int)) = (x : Int) := ⟨128 + j, rfl, by omega⟩
                have HXL : Hid (x < 256) := by show _ < _; omega
                have hwr : IntKind.u8.wrap (x : Int) = (x : Int) := by unfold IntKind.wrap; simp [IntKind.bits, IntKind.signed]; omega
                have HE : Hid (encO s = (unL (runeF s f' z)).map ((o ++ [x]) ++ ·)) := by
                  show _ = _
                  rw [HC2.out, unL, HHIT.out j hj hjr, hx]
                  show Option.map _ (Option.map _ _) = _
                  rw [Option.map_map]
                  congr 1
                  funext l
                  show o ++ x :: l = o ++ [x] ++ l
                  simp
                clear HC2 HY hx hy hjr
                go_wp2_with (at_builtin; refine wpList_append_own_at _ rfl (.tmp 49) (.tmp 53) _ rfl (w.heap.size + 1) 5 i0 (.int .u8 0) 1 1 Tryd.underlying31 hi hz0 hz1 hz2 rfl (by decide) _ o.length (cells8 o) rfl (HO.out.alloc _) ⟨wr.heap.size, 0, none⟩ 1 1 [.int .u8 (x : Nat)] rfl rfl ?b1 ?b2 ?b3 ?b4 ?b5 ?_)
                case b1 => exact cell_one_new _ _ _
                case b2 => intro u hu; simp at hu; subst hu; rfl
                case b3 => unfold maxLen; omega
                case b4 => omega
                case b5 => have := HS.out; simp; omega
                intro v2 w3 hown hgrow _ hat
                have HO3 : Hid (w3.ownsRow (w.heap.size + 1) 5 1 v2 (o ++ [x]).length (cells8 (o ++ [x]))) := by
                  show World.ownsRow _ _ _ _ _ _ _
                  rw [List.length_append, cells8_app]
                  exact hown
                have HW3 : Hid (Below w.heap.size w w3) := (HW.out.alloc HW.out.size _).grown hgrow (by have := HS.out; simp; omega) (fun g hg => by have := (HO.out.lt g hg).1; omega)
                have HT3 : Hid (w3.heap[w.heap.size]? = some (.cells cpV 3 (0, 0))) := by
                  have h1 : w.heap.size < wr.heap.size := by have := HS.out; omega
                  show _ = _
                  rw [hgrow.block w.heap.size (by simp; omega) (fun e => by have := (HO.out.lt _ e.symm).1; omega), Below.heap_alloc wr _ _ h1]
                  exact HTT.out
                have HS3 : Hid (w.heap.size + 1 ≤ w3.heap.size) := by have h1 := hgrow.size; have h2 := HS.out; simp at h1; show _ ≤ _; omega
                have HL3 : Hid (∀ y ∈ o ++ [x], y < 256) := fun y hy => by
                  rcases List.mem_append.1 hy with h | h
                  · exact HLT.out y h
                  · rw [List.mem_singleton.1 h]; exact HXL.out
                clear hown hgrow hat
                go_wp2_with fail
                go_roundw
                case rel => exact ⟨z, f', o ++ [x], rfl, hzs, HO3, HT3, HW3, HS3, HE, by have := HZ.out; omega, by have := HZ.out; rw [List.length_append]; show o.length + 1 ≤ _; omega, HL3⟩
                case measure => have := HZ.out; simp [intOf]; omega
    · have HE : Hid (encO s = some o) := by
        have h := HC.out
        rw [runeF_end s f pos hp] at h
        show _ = _
        rw [h]
        show some (o ++ []) = _
        rw [List.append_nil]
      have hstr := string_of_own HO.out HLT.out
      go_wp2_with fail
      go_ret2
      rw [HE.out]
      exact ⟨rfl, HW.out⟩
end Go.Proofs.YtalfmepimhneoaaDoor
