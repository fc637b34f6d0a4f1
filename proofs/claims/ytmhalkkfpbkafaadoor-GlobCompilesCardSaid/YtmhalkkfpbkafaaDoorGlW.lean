/-
  The walk of GlobCompiles.
-/
import Derived.Test.YtmhalkkfpbkafaaDoorGlR
import Derived.Test.YtmhalkkfpbkafaaDoorGlS
import Derived.Test.YtmhalkkfpbkafaaDoorGlT
import Derived.Test.YtmhalkkfpbkafaaDoorGlV
import Derived.Deep.OwnRows
import Derived.Laws.IdiomStrings
namespace Go.Proofs.YtmhalkkfpbkafaaDoor
set_option maxRecDepth 100000
set_option linter.unusedSimpArgs false
open Go.RowKit Go.Deep Go.Joins
open Go.Lib hiding intOf

/-- Bytes of noughts, so many, made and turned into a text. -/
theorem made_long (N : Nat) (hN : N ≤ 2000000) : ∃ (cs : Array Value) (Z : ByteArray), Z.size = N ∧ (∀ w : World, (Instr.makeSlice 24 (.int .i64 (N : Nat)) (.int .i64 (N : Nat))).run Tryd.prog w = .ok (.slice (some ⟨w.heap.size, 0, none⟩) N N) (w.alloc (.cells cs 5))) ∧
    ∀ (W : World) (g : Nat), W.heap[g]? = some (.cells cs 5 (0, 0)) → (convert 24 9 (.slice (some ⟨g, 0, none⟩) N N)).run Tryd.prog W = .ok (.string Z) W := by
  refine ⟨madeCells #[.int .u8 0] N, ⟨(List.replicate N (0 : UInt8)).toArray⟩, by simp [ByteArray.size], run_make_row' (P := Tryd.prog) 24 5 (.int .u8 0) 1 Tryd.underlying24 info8 rfl .i64 .i64 N (by omega) (by omega), fun W g hg => ?_⟩
  have h := run_convert_bytes_back (P := Tryd.prog) W 24 9 5 ⟨g, 0, none⟩ N (List.replicate N (0 : UInt8)) Tryd.underlying24 Tryd.underlying5 Tryd.underlying9 (fun j hj => by
    have hj' : j < N := by simpa using hj
    rw [Addr.add_lit, Nat.zero_add, cell_of_row W g j _ _ _ hg]
    have e : (madeCells #[Value.int .u8 0] N)[j]? = (madeCells #[Value.int .u8 0] N).toList[j]? := by simp
    rw [e, toList_madeCells_one, List.getElem?_replicate, if_pos hj']
    simp)
  rw [List.length_replicate] at h
  exact h

theorem plainF_max : ∀ z : List Nat, AllR z → (plainF z).1 ≤ 1114111 := fun z hz => by
  rcases z with _ | ⟨c, _ | ⟨r, t⟩⟩
  · show (0 : Nat) ≤ _; omega
  · have := hz 0
    rw [plainF]; split
    · show (0 : Nat) ≤ _; omega
    · exact this
  · have h1 := hz 0
    have h2 := hz 1
    rw [plainF]; split
    · exact h2
    · exact h1
theorem setF_rng {l : List Nat} (hr : AllR l) {a : Nat} {acc rs : List (Nat × Nat)} {e : Nat} (h : setF l a acc = some (rs, e)) (ha : ∀ p ∈ acc, p.1 ≤ 1114111 ∧ p.2 ≤ 1114111) : ∀ p ∈ rs, p.1 ≤ 1114111 ∧ p.2 ≤ 1114111 := by
  by_cases h1 : a < l.length ∧ l.getD a 0 = 93 ∧ acc ≠ []
  · rw [setF_done h1] at h
    injection h with h; injection h with h1 h2; subst h1; exact ha
  · by_cases h0 : (spanF (l.drop a)).2 = 0
    · rw [setF_none h1 h0] at h; cases h
    · rw [setF_more h1 h0] at h
      have hl := spanF_le (l.drop a)
      rw [List.length_drop] at hl
      refine setF_rng hr h (fun p hp => ?_)
      rcases List.mem_append.1 hp with hp | hp
      · exact ha p hp
      · obtain rfl : p = (spanF (l.drop a)).1 := by simpa using hp
        exact spanF_max (hr.drop a)
termination_by l.length + 1 - a
decreasing_by
  have h1 := spanF_le (l.drop a)
  rw [List.length_drop] at h1
  omega
theorem i32_nat {n : Nat} (h : n ≤ 1114111) : I32 (n : Int) := ⟨by omega, by omega⟩
theorem atomF_rng {l : List Nat} (hr : AllR l) {p : Atm × Nat} (h : atomF l = some p) : Rng p.1 := by
  unfold atomF at h
  split at h
  · injection h with h; subst h; exact ⟨i32_nat (n := 0) (by omega), fun q hq => by cases hq⟩
  split at h
  · injection h with h; subst h; exact ⟨i32_nat (n := 0) (by omega), fun q hq => by cases hq⟩
  split at h
  · obtain ⟨q, hq, rfl⟩ := Option.map_eq_some_iff.1 h
    obtain ⟨rs, e⟩ := q
    have h1 := setF_rng (hr.drop 1) hq (fun p hp => by cases hp)
    refine ⟨i32_nat (n := 0) (by omega), fun q hq => ?_⟩
    obtain ⟨y, hy, rfl⟩ := List.mem_map.1 hq
    have := h1 y hy
    exact ⟨i32_nat this.1, i32_nat this.2⟩
  split at h
  · cases h
  · injection h with h; subst h; exact ⟨i32_nat (plainF_max l hr), fun q hq => by cases hq⟩
theorem compF_rng {l : List Nat} (hr : AllR l) {a : Nat} {acc ats : List Atm} (h : compF l a acc = some ats) (hb : ∀ x ∈ acc, Rng x) : ∀ x ∈ ats, Rng x := by
  by_cases hal : a < l.length
  · cases hD : atomF (l.drop a) with
    | none => rw [compF_none hal hD] at h; cases h
    | some p =>
      obtain ⟨x, k⟩ := p
      have hle := atomF_le (by rw [List.length_drop]; omega) hD
      rw [List.length_drop] at hle
      have hrs := atomF_rng (hr.drop a) hD
      dsimp only at hle hrs
      rw [compF_more hal hD] at h
      exact compF_rng hr h (fun y hy => by
        rcases List.mem_append.1 hy with hy | hy
        · exact hb y hy
        · obtain rfl : y = x := by simpa using hy
          exact hrs)
  · rw [compF_end hal] at h
    injection h with h
    subst h
    exact hb
termination_by l.length - a
decreasing_by omega
theorem ats_nil (w : World) (A : Option Addr) : Ats w A [] := fun h => absurd (show (0 : Nat) < 0 from h) (by decide)
theorem rats_nil (w : World) (A : Option Addr) : RAts w A [] := fun h => absurd (show (0 : Nat) < 0 from h) (by decide)
theorem to_nil (w : World) : Calls Tryd.prog 14 #[.agg #[.slice none 0 0]] w fun e w' => ∃ A' c', e = .returned (.slice A' 0 c') ∧ Below w.heap.size w w' := by
  refine (to_any [] none 0 (by decide) (fun x hx => by cases hx) w (ats_nil _ _)).mono ?_
  rintro e w' ⟨A', c', rfl, _, hb⟩
  exact ⟨A', c', rfl, hb⟩
theorem same_nil (A : Option Addr) (c : Nat) (w : World) : Calls Tryd.prog 13 #[.slice A 0 c, .slice none 0 0] w fun e w' => e = .returned (.bool true) ∧ Below w.heap.size w w' :=
  same_any [] A none c 0 (by decide) (fun x hx => by cases hx) w (rats_nil _ _) (rats_nil _ _)
set_option maxHeartbeats 8000000 in
theorem globCompiles_walk (s : ByteArray) (more : Bool) (_ : s.size ≤ maxLen) (w : World) (hT : Tabs w) :
    Calls Tryd.prog 3 #[.string s, .bool more] w fun e w' => e = .returned (.bool true) ∧ Below w.heap.size w w' := by
  have hip := info_pat
  have HA := Lib.hid (awake11_any w hT)
  clear hT
  by_cases h1 : 1000 < s.size
  · have g1 : decide ((1000 : Int) < (s.size : Int)) = true := decide_eq_true (by omega)
    go_enter Tryd.func3, Tryd.ntmps3
    go_wp2_with fail
    refine (HA.out).mono ?_
    rintro e w1 ⟨rfl, hb⟩
    go_wp2_with fail
    go_ret
    exact ⟨rfl, hb⟩
  · have g1 : decide ((1000 : Int) < (s.size : Int)) = false := decide_eq_false (by omega)
    have HQ := Lib.hid (fun w1 => quote_any s (by omega) w1)
    have HQ2 := Lib.hid (fun w1 => rquote_any s (by omega) w1)
    generalize text (quoL (nums s)) = QT at *
    cases more with
    | false =>
      have HC := Lib.hid (fun w1 => compile_any s (by omega) w1)
      have HR := Lib.hid (fun w1 => rcompile_any s (by omega) w1)
      have HCC := Lib.hid (fun ats (h : compF (runesB s) 0 [] = some ats) => compF_count h (fun x hx => by cases hx) (Nat.zero_le _))
      have HCR := Lib.hid (fun ats (h : compF (runesB s) 0 [] = some ats) => compF_rng (allR_of (runeF_max s s.size 0)) h (fun x hx => by cases hx))
      have hlen : (runesB s).length ≤ s.size := runeF_len s s.size 0
      have HLN : Hid ((runesB s).length ≤ 1000) := by show _ ≤ _; omega
      generalize compF (runesB s) 0 [] = O at *
      clear hlen h1
      go_enter Tryd.func3, Tryd.ntmps3
      go_wp2_with fail
      refine (HA.out).mono ?_; rintro e w1 ⟨rfl, hb⟩
      have HB1 := Lib.hid hb
      clear hb
      go_wp2_with fail
      refine (HQ.out _).mono ?_; rintro e w2 ⟨rfl, hb⟩
      have HB2 := Lib.hid (below_then HB1.out hb)
      clear hb
      go_wp2_with fail
      refine (HQ2.out _).mono ?_; rintro e w3 ⟨rfl, hb⟩
      have HB3 := Lib.hid (below_then HB2.out hb)
      clear hb
      go_wp2_with fail
      refine (HC.out _).mono ?_; rintro e w4 (⟨rfl, rfl, hb⟩ | ⟨ats, A, c, rfl, hlc, rfl, hA, hb⟩)
      · have HB4 := Lib.hid (below_then HB3.out hb)
        have HX5 := Lib.hid (heap_alloc_new w4 (.cells #[.slice none 0 0] 27))
        have HB5 := Lib.hid (below_then HB4.out (below_al w4 (.cells #[.slice none 0 0] 27)))
        clear hb
        go_upto_region 10 with fail
        generalize w4.heap.size = gp at *
        generalize w4.alloc (.cells #[.slice none 0 0] 27) = w5 at *
        go_wp2_with fail
        refine (HR.out _).mono ?_; rintro e w6 (⟨_, rfl, hb⟩ | ⟨_, _, _, h, _⟩)
        · have HX6 := Lib.hid ((hb.block _ (lt_of_block HX5.out)).trans HX5.out)
          have HB6 := Lib.hid (below_then HB5.out hb)
          have d0 := (cell_of_row _ _ 0 _ _ _ HX6.out).trans (show _ = some (Value.slice none 0 0) from rfl)
          clear hb
          go_wp2_with fail
          refine (to_nil _).mono ?_; rintro e w7 ⟨A', c', rfl, hb⟩
          have HB7 := Lib.hid (below_then HB6.out hb)
          clear hb
          go_wp2_with fail
          refine (same_nil _ _ _).mono ?_; rintro e w8 ⟨rfl, hb⟩
          have HB8 := Lib.hid (below_then HB7.out hb)
          clear hb
          go_wp2_with fail
          go_ret
          exact ⟨rfl, HB8.out⟩
        · cases h
      · obtain ⟨k1, k2⟩ := HCC.out ats rfl
        have hl1 : ats.length ≤ 1000 := by have := HLN.out; simp at k1; omega
        have HTO := Lib.hid (fun w1 h => to_any ats A c (by omega) (fun x hx => ⟨by have := HLN.out; have := k2 x hx; omega, HCR.out ats rfl x hx⟩) w1 h)
        have HSA := Lib.hid (fun A c B d w1 h h' => same_any ats A B c d (by omega) (fun x hx => by have := HLN.out; have := k2 x hx; omega) w1 h h')
        have HB4 := Lib.hid (below_then HB3.out hb)
        have HX5 := Lib.hid (heap_alloc_new w4 (.cells #[.slice A ats.length c] 27))
        have HB5 := Lib.hid (below_then HB4.out (below_al w4 (.cells #[.slice A ats.length c] 27)))
        have HA5 := Lib.hid (hA.below (below_al w4 (.cells #[.slice A ats.length c] 27)))
        clear hb k1 k2 hA hlc
        go_upto_region 10 with fail
        generalize w4.heap.size = gp at *
        generalize w4.alloc (.cells #[.slice A ats.length c] 27) = w5 at *
        go_wp2_with fail
        refine (HR.out _).mono ?_; rintro e w6 (⟨h, _⟩ | ⟨ats', A', c', h, rfl, hr, hb⟩)
        · cases h
        · injection h with h
          subst h
          have HX6 := Lib.hid ((hb.block _ (lt_of_block HX5.out)).trans HX5.out)
          have HB6 := Lib.hid (below_then HB5.out hb)
          have HA6 := Lib.hid (HA5.out.below hb)
          have HR6 := Lib.hid hr
          have d0 := (cell_of_row _ _ 0 _ _ _ HX6.out).trans (show _ = some (Value.slice A ats.length c) from rfl)
          clear hb hr
          go_wp2_with fail
          refine (HTO.out _ HA6.out).mono ?_; rintro e w7 ⟨A7, c7, rfl, hr7, hb⟩
          have HB7 := Lib.hid (below_then HB6.out hb)
          have HR7 := Lib.hid hr7
          have HR67 := Lib.hid (HR6.out.below hb)
          clear hb hr7
          go_wp2_with fail
          refine (HSA.out _ _ _ _ _ HR7.out HR67.out).mono ?_; rintro e w8 ⟨rfl, hb⟩
          have HB8 := Lib.hid (below_then HB7.out hb)
          clear hb
          go_wp2_with fail
          go_ret
          exact ⟨rfl, HB8.out⟩
    | true =>
      obtain ⟨m, hm, hmi⟩ : ∃ m : Nat, 65536 - s.size = m ∧ ((65536 : Int) - (s.size : Int)) = (m : Int) := ⟨65536 - s.size, rfl, by omega⟩
      obtain ⟨cs, Z, hZ, hmk, hcv⟩ := made_long m (by omega)
      have HCV := Lib.hid hcv
      have hcat : ¬ 9223372036854775807 < s.size + Z.size := by omega
      have hbig : 65535 < (s ++ Z).size := by rw [ByteArray.size_append]; omega
      have HC := Lib.hid (fun w1 => compile_long (s ++ Z) hbig w1)
      have HR := Lib.hid (fun w1 => rcompile_long (s ++ Z) hbig w1)
      clear hcv hZ hbig h1 hm
      go_enter Tryd.func3, Tryd.ntmps3
      go_wp2_with fail
      refine (HA.out).mono ?_; rintro e w1 ⟨rfl, hb⟩
      have HB1 := Lib.hid hb
      clear hb
      go_wp2_with fail
      refine (HQ.out _).mono ?_; rintro e w2 ⟨rfl, hb⟩
      have HB2 := Lib.hid (below_then HB1.out hb)
      clear hb
      go_wp2_with fail
      refine (HQ2.out _).mono ?_; rintro e w3 ⟨rfl, hb⟩
      have HB3 := Lib.hid (below_then HB2.out hb)
      clear hb
      have HX := Lib.hid (heap_alloc_new w3 (.cells cs 5))
      go_wp2_with fail
      rw [HCV.out _ _ HX.out]
      have HB4 : Hid (Below w.heap.size w (w3.alloc (.cells cs 5))) := HB3.out.alloc HB3.out.size _
      generalize w3.alloc (.cells cs 5) = w4 at *
      go_wp2_with fail
      refine (HC.out _).mono ?_; rintro e w5 ⟨rfl, hb⟩
      have HB5 := Lib.hid (below_then HB4.out hb)
      have HX6 := Lib.hid (heap_alloc_new w5 (.cells #[.slice none 0 0] 27))
      have HB6 := Lib.hid (below_then HB5.out (below_al w5 (.cells #[.slice none 0 0] 27)))
      clear hb
      go_upto_region 10 with fail
      generalize w5.heap.size = gp at *
      generalize w5.alloc (.cells #[.slice none 0 0] 27) = w6 at *
      have d0 := (cell_of_row _ _ 0 _ _ _ HX6.out).trans (show _ = some (Value.slice none 0 0) from rfl)
      go_wp2_with fail
      refine (HR.out _).mono ?_; rintro e w7 ⟨rfl, rfl⟩
      go_wp2_with fail
      refine (to_nil _).mono ?_; rintro e w7 ⟨A', c', rfl, hb⟩
      have HB7 := Lib.hid (below_then HB6.out hb)
      clear hb
      go_wp2_with fail
      refine (same_nil _ _ _).mono ?_; rintro e w8 ⟨rfl, hb⟩
      have HB8 := Lib.hid (below_then HB7.out hb)
      clear hb
      go_wp2_with fail
      go_ret
      exact ⟨rfl, HB8.out⟩
end Go.Proofs.YtmhalkkfpbkafaaDoor
