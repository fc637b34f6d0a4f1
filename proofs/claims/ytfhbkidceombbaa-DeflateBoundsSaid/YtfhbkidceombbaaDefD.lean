/-
  Layer 9: Split.
-/
import Derived.Test.YtfhbkidceombbaaDefC
namespace Go.Proofs.Ytfhbkidceombbaa
set_option maxRecDepth 100000
open Go.RowKit Go.Joins Go.Deep

/-- What Split holds behind k tokens: the parts that are done, where the next begins, how many bytes it has. -/
def spl (f : Nat → Tok) : Nat → List (Nat × Nat) × Nat × Nat
  | 0 => ([], 0, 0)
  | k + 1 => if 32768 < (spl f k).2.2 + wdT (f k) then ((spl f k).1 ++ [((spl f k).2.1, k)], k, wdT (f k)) else ((spl f k).1, (spl f k).2.1, (spl f k).2.2 + wdT (f k))
def partV (g : Nat) (p : Nat × Nat) : Value := .slice (some ⟨g, p.1 * 3, none⟩) (p.2 - p.1) (p.2 - p.1)
theorem spl_from (f : Nat → Tok) : ∀ k, (spl f k).2.1 ≤ k
  | 0 => Nat.le_refl _
  | k + 1 => by
    have ih := spl_from f k
    rw [spl]
    split
    · show k ≤ k + 1; omega
    · show (spl f k).2.1 ≤ k + 1; omega
theorem spl_many (f : Nat → Tok) : ∀ k, (spl f k).2.2 ≤ 32768
  | 0 => by show 0 ≤ _; omega
  | k + 1 => by
    have h1 := wdT_le (f k)
    rw [spl]
    split
    · show wdT (f k) ≤ _; omega
    · show (spl f k).2.2 + wdT (f k) ≤ _; omega
theorem spl_len (f : Nat → Tok) : ∀ k, (spl f k).1.length ≤ k
  | 0 => Nat.le_refl _
  | k + 1 => by
    have ih := spl_len f k
    rw [spl]
    split
    · show ((spl f k).1 ++ _).length ≤ _; rw [List.length_append]; show _ + 1 ≤ _; omega
    · show (spl f k).1.length ≤ _; omega
theorem spl_lt (f : Nat → Tok) (k : Nat) : (spl f (k + 1)).2.1 < k + 1 := by
  have ih := spl_from f k
  rw [spl]
  split
  · show k < k + 1; omega
  · show (spl f k).2.1 < k + 1; omega
theorem spl_big (f : Nat → Tok) : ∀ k, 32768 < (spl f k).2.2 + wdT (f k) → (spl f k).2.1 < k
  | 0, h => by
    have h1 := wdT_le (f 0)
    have h2 : (spl f 0).2.2 = 0 := rfl
    omega
  | k + 1, _ => spl_lt f k
theorem own_below {w w' : World} {base size n : Nat} {e : TypeId} {v : Value} {xs : List Value} (h : w.ownsRow base e size v n xs) (hb : Below w.heap.size w w') : w'.ownsRow base e size v n xs :=
  h.kept (row := none) ⟨hb.os, hb.tape, hb.output, hb.size, fun i hi _ => hb.block i hi⟩ (by cases hv : v.ownBlock <;> simp)
theorem info_toks3 : (Try.prog.info? 22).map (fun i => (i.zero, i.size, i.bytes)) = some (some (.slice none 0 0), 1, 24) := by kernel_rfl
set_option maxHeartbeats 8000000 in
theorem split_some (b off n cap : Nat) (f : Nat → Tok) (w : World) (hT : Toks w (some ⟨b, off, none⟩) n f) (h0 : 0 < n) (hn : n ≤ 100000) :
    Calls Try.prog 15 #[.slice (some ⟨b, off, none⟩) n cap] w fun e w' => ∃ g B A2 c2, w.heap.size ≤ B ∧ e = .returned (.slice A2 ((spl f n).1.length + 1) c2) ∧ w'.ownsRow B 22 1 (.slice A2 ((spl f n).1.length + 1) c2) ((spl f n).1.length + 1) (((spl f n).1 ++ [((spl f n).2.1, n)]).map (partV g)) ∧ Toks w' (some ⟨g, 0, none⟩) n f ∧ Below w.heap.size w w' := by
  obtain ⟨i0, hi, hz0, hz1, hz2⟩ := info_parts info_toks3
  have hit := info_tok
  have hok : Hid (∀ i, i < n → TokOk (f i)) := fun i hi => by
    obtain ⟨_, _, _, _, hc⟩ := hT h0
    exact (hc i hi).1
  have HCL := Lib.hid (clone_some b off n cap f w hT (by omega))
  clear hT
  go_enter Try.func15, Try.ntmps15
  go_wp2_with fail
  (with_reducible refine (HCL.out).mono ?_); rintro e w1 ⟨v', rfl, hown, hne, hb1⟩
  obtain ⟨g, cap2, cur, rfl, hgb, hgh, hgc, _⟩ : ∃ g cap2 cur, v' = .slice (some ⟨g, 0, none⟩) n cap2 ∧ w.heap.size ≤ g ∧ w1.heap[g]? = some (.cells cur 43 (0, 0)) ∧ n ≤ cap2 ∧ True := by
    rcases hown.2 with ⟨_, h⟩ | ⟨g, cap2, cur, h1, h2, h3, h4, _⟩
    · omega
    · exact ⟨g, cap2, cur, h1, h2, h3, h4, trivial⟩
  have HT := Lib.hid (toks_of_own hown hok.out)
  have HB1 := Lib.hid hb1
  clear hown hne hb1 hgh cur HCL
  go_wp2_with fail
  go_loopw [4, 5, 6, 13] (fun v4 v5 v6 i wr => ∃ k : Nat, k ≤ n ∧ i = .int .i64 (k : Nat) ∧ v5 = .int .i64 ((spl f k).2.1 : Nat) ∧ v6 = .int .i64 ((spl f k).2.2 : Nat) ∧ Hid (wr.ownsRow w1.heap.size 22 1 v4 (spl f k).1.length ((spl f k).1.map (partV g))) ∧ Hid (Below w1.heap.size w1 wr)) (fun _ _ _ i _ => n - (intOf i).toNat)
  case atStart => exact ⟨0, Nat.zero_le _, rfl, rfl, rfl, World.ownsRow_nil _ _ _ _, Below.refl _ _⟩
  case round =>
    obtain ⟨k, hk, rfl, rfl, rfl, HO, HB⟩ := hrel
    obtain ⟨A2, cp2, rfl⟩ := row_slice' HO.out
    have hF := spl_from f k
    have hM := spl_many f k
    have hL := spl_len f k
    by_cases hkn : k < n
    · obtain ⟨b', off', hbo, hbl, hc⟩ := (HT.out.below (Nat.le_refl _) HB.out) (by omega)
      injection hbo with hbo
      injection hbo with e1 e2 e3
      subst e1 e2
      obtain ⟨hok', c0, c1, c2⟩ := hc k hkn
      rw [Nat.zero_add] at c0 c1 c2
      have hw := wdT_le (f k)
      have hKF := spl_big f k
      have HS := Lib.hid (show spl f (k + 1) = if 32768 < (spl f k).2.2 + wdT (f k) then ((spl f k).1 ++ [((spl f k).2.1, k)], k, wdT (f k)) else ((spl f k).1, (spl f k).2.1, (spl f k).2.2 + wdT (f k)) from rfl)
      have HWD := Lib.hid (dwide_any (f k))
      have hx := heap_alloc_new wr (.cells #[.int .u8 ((f k).b : Nat), .int .i64 (f k).l, .int .i64 (f k).d] 43)
      have HX := Lib.hid hx
      have HBA := Lib.hid (((Below.refl wr.heap.size wr).alloc (Nat.le_refl _) (.cells #[.int .u8 ((f k).b : Nat), .int .i64 (f k).l, .int .i64 (f k).d] 43)))
      have HSZ : Hid ((wr.alloc (.cells #[.int .u8 ((f k).b : Nat), .int .i64 (f k).l, .int .i64 (f k).d] 43)).heap.size = wr.heap.size + 1) := by show _ = _; simp
      clear hc hx
      generalize wdT (f k) = T at *
      generalize f k = U at *
      obtain ⟨tb, tl, td⟩ := U
      unfold valT at HWD
      dsimp only at *
      have htb := hok'.1
      clear hok'
      go_wp2_with fail
      generalize wr.alloc (.cells #[.int .u8 (tb : Nat), .int .i64 tl, .int .i64 td] 43) = w4 at *
      (with_reducible refine (HWD.out _).mono ?_); rintro e w5 ⟨rfl, hb5⟩
      have HB5 := Lib.hid (HBA.out.trans (hb5.mono HBA.out.size))
      have hx5 := (hb5.block wr.heap.size (by have := HSZ.out; omega)).trans HX.out
      have HX5 := Lib.hid hx5
      have k0 := (cell_of_row _ _ 0 _ _ _ hx5).trans (show _ = some (Value.int .u8 (tb : Nat)) from rfl)
      have k1 := (cell_of_row _ _ 1 _ _ _ hx5).trans (show _ = some (Value.int .i64 tl) from rfl)
      have k2 := (cell_of_row _ _ 2 _ _ _ hx5).trans (show _ = some (Value.int .i64 td) from rfl)
      clear hb5 hx5
      generalize hP : (spl f k).1 = P at *
      generalize hFr : (spl f k).2.1 = fr at *
      generalize hMa : (spl f k).2.2 = ma at *
      have HPP := Lib.hid hP
      clear hP hFr hMa
      by_cases hbig : 32768 < ma + T
      · have g9 : decide ((32768 : Int) < (ma : Int) + (T : Int)) = true := decide_eq_true (by omega)
        have HS2 : Hid (spl f (k + 1) = (P ++ [(fr, k)], k, T)) := HS.out.trans (if_pos hbig)
        have hkf : ¬ k = fr := by have := hKF hbig; omega
        have HX7 := Lib.hid (heap_alloc_new w5 (.cells #[partV g (fr, k)] 22))
        have HO7 := Lib.hid ((own_below HO.out HB5.out).alloc (.cells #[partV g (fr, k)] 22))
        have HB7 : Hid (Below w1.heap.size w1 (w5.alloc (.cells #[partV g (fr, k)] 22))) := (HB.out.trans (HB5.out.mono HB.out.size)).alloc (Nat.le_trans HB.out.size HB5.out.size) _
        have HS7 : Hid (w1.heap.size ≤ (w5.alloc (.cells #[partV g (fr, k)] 22)).heap.size) := HB7.out.size
        have HX8 : Hid ((w5.alloc (.cells #[partV g (fr, k)] 22)).heap[wr.heap.size]? = some (.cells #[.int .u8 (tb : Nat), .int .i64 tl, .int .i64 td] 43)) := (heap_alloc_old _ _ (lt_of_heap HX5.out)).trans HX5.out
        have HLT := Lib.hid HO.out.lt
        go_wp2_with (at_builtin; go_must (refine wpList_append_own_at _ rfl (.tmp 23) (.tmp 29) _ rfl w1.heap.size 22 i0 (.slice none 0 0) 1 24 Try.underlying44 hi hz0 hz1 hz2 rfl (by decide) (.slice A2 P.length cp2) P.length _ rfl HO7.out ⟨w5.heap.size, 0, none⟩ 1 1 [partV g (fr, k)] rfl rfl (by exact World.news_of_block HX7.out) (by intro u hu; simp at hu; subst hu; rfl) (by unfold maxLen; omega) (by omega) (by exact HS7.out) ?_; intro v' w6 hown' hgrow hnil hloc; have HO8 := Lib.hid hown'; have HB8 := Lib.hid (HB7.out.grown hgrow HS7.out (fun j hj => (HLT.out j hj).1)); have HX9 := Lib.hid ((hgrow.block wr.heap.size (lt_of_heap HX8.out) (fun e => by have := (HLT.out _ e.symm).2; omega)).trans HX8.out); have q0 := (cell_of_row _ _ 0 _ _ _ HX9.out).trans (show _ = some (Value.int .u8 (tb : Nat)) from rfl); have q1 := (cell_of_row _ _ 1 _ _ _ HX9.out).trans (show _ = some (Value.int .i64 tl) from rfl); have q2 := (cell_of_row _ _ 2 _ _ _ HX9.out).trans (show _ = some (Value.int .i64 td) from rfl); clear hown' hgrow hnil hloc))
        (with_reducible refine (HWD.out _).mono ?_); rintro e w9 ⟨rfl, hb9⟩
        have HB9 := Lib.hid (HB8.out.trans (hb9.mono HB8.out.size))
        have HO9 := Lib.hid (own_below HO8.out hb9)
        clear hb9
        go_wp2_with fail
        go_roundw
        case rel =>
          refine ⟨k + 1, by omega, by go_num, ?_, ?_, ?_, HB9⟩
          · rw [HS2.out]
          · rw [HS2.out]
          · show World.ownsRow _ _ _ _ _ _ _
            rw [HS2.out]
            simpa using HO9.out
        case measure => simp [intOf]; omega
      · have g9 : decide ((32768 : Int) < (ma : Int) + (T : Int)) = false := decide_eq_false (by omega)
        have HS2 : Hid (spl f (k + 1) = (P, fr, ma + T)) := HS.out.trans (if_neg hbig)
        go_wp2_with fail
        (with_reducible refine (HWD.out _).mono ?_); rintro e w6 ⟨rfl, hb6⟩
        have HB6 := Lib.hid (HB5.out.trans (hb6.mono HB5.out.size))
        have HO6 := Lib.hid (own_below HO.out HB6.out)
        clear hb6
        go_wp2_with fail
        go_roundw
        case rel =>
          refine ⟨k + 1, by omega, by go_num, ?_, ?_, ?_, HB.out.trans (HB6.out.mono HB.out.size)⟩
          · rw [HS2.out]
          · rw [HS2.out]; go_num
          · show World.ownsRow _ _ _ _ _ _ _
            rw [HS2.out]; exact HO6.out
        case measure => simp [intOf]; omega
    · obtain rfl : k = n := by omega
      have hlt : (spl f k).2.1 < k := by
        obtain ⟨m, rfl⟩ : ∃ m, k = m + 1 := ⟨k - 1, by omega⟩
        exact spl_lt f m
      generalize hP : (spl f k).1 = P at *
      generalize hFr : (spl f k).2.1 = fr at *
      have HPP := Lib.hid hP
      have HFF := Lib.hid hFr
      clear hP hFr
      have HX7 := Lib.hid (heap_alloc_new wr (.cells #[partV g (fr, k)] 22))
      have HO7 := Lib.hid (HO.out.alloc (.cells #[partV g (fr, k)] 22))
      have HB7 : Hid (Below w1.heap.size w1 (wr.alloc (.cells #[partV g (fr, k)] 22))) := HB.out.alloc HB.out.size _
      have HS7 : Hid (w1.heap.size ≤ (wr.alloc (.cells #[partV g (fr, k)] 22)).heap.size) := HB7.out.size
      have HLT := Lib.hid HO.out.lt
      go_wp2_with (at_builtin; go_must (refine wpList_append_own_at _ rfl (.tmp 41) (.tmp 49) _ rfl w1.heap.size 22 i0 (.slice none 0 0) 1 24 Try.underlying44 hi hz0 hz1 hz2 rfl (by decide) (.slice A2 P.length cp2) P.length _ rfl HO7.out ⟨wr.heap.size, 0, none⟩ 1 1 [partV g (fr, k)] rfl rfl (by exact World.news_of_block HX7.out) (by intro u hu; simp at hu; subst hu; rfl) (by unfold maxLen; omega) (by omega) (by exact HS7.out) ?_; intro v' w6 hown' hgrow hnil hloc; have HO8 := Lib.hid hown'; have HB8 := Lib.hid (HB7.out.grown hgrow HS7.out (fun j hj => (HLT.out j hj).1)); clear hown' hgrow hnil hloc))
      obtain ⟨A3, cp3, rfl⟩ := row_slice' HO8.out
      go_ret
      rw [HPP.out, HFF.out]
      exact ⟨g, w1.heap.size, A3, cp3, HB1.out.size, rfl, by simpa using HO8.out, HT.out.below (Nat.le_refl _) HB8.out, HB1.out.trans (HB8.out.mono HB1.out.size)⟩
end Go.Proofs.Ytfhbkidceombbaa
