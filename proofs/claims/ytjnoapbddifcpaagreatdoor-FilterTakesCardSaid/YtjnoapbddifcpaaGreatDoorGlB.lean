/-
  Glob: a rune or a range (span).
-/
import Derived.Test.YtjnoapbddifcpaaGreatDoorPkAE
import Derived.Lib.SmallJoins
namespace Go.Proofs.YtjnoapbddifcpaaGreatDoor
set_option maxRecDepth 100000
open Go.RowKit Go.Joins Go.Deep

theorem zero_range (w : World) : (zeroValue 242).run Tryz.prog w = .ok (.agg #[.int .i32 0, .int .i32 0]) w := by kernel_rfl
theorem info_range : (Tryz.prog.info? 242).map (·.size) = some 2 := by kernel_rfl
theorem below_alG (w : World) (o : Obj) : Below w.heap.size w (w.alloc o) := (Below.refl _ _).alloc (Nat.le_refl _) o
theorem drop_more (l : List Nat) (k : Nat) : (l.drop k).drop 1 = l.drop (k + 1) := by rw [List.drop_drop]
theorem plainF_two : ∀ l : List Nat, (plainF l).2 ≤ 2
  | [] => by show (0 : Nat) ≤ 2; omega
  | [c] => by rw [plainF]; split <;> simp
  | c :: r :: t => by rw [plainF]; split <;> simp
set_option maxHeartbeats 4000000 in
theorem span_any (A : Option Addr) (n cap : Nat) (l : List Nat) (hn : l.length = n) (h0 : 0 < n) (hcap : n ≤ cap) (_hmx : cap ≤ maxLen) (hr : AllR l) (w : World) (hR : Rn w A l) :
    Calls Tryz.prog 138 #[.slice A n cap] w fun e w' => e = .returned (.tuple #[.agg #[.int .i32 ((spanF l).1.1 : Nat), .int .i32 ((spanF l).1.2 : Nat)], .int .i64 ((spanF l).2 : Nat)]) ∧ Below w.heap.size w w' := by
  have hzr := zero_range
  have hir := info_range
  unfold maxLen at _hmx
  have hk := plainF_le l
  have HP := Lib.hid (fun w1 h => plain_any A n cap l hn h0 hr w1 h)
  have HR0 : Hid (Rn (w.alloc (.cells #[.int .i32 0, .int .i32 0] 242)) A l) := hR.below (Nat.le_refl _) (below_alG w _)
  have HB0 := Lib.hid (below_alG w (.cells #[.int .i32 0, .int .i32 0] 242))
  by_cases hk0 : (plainF l).2 = 0
  · have HS : Hid (spanF l = ((0, 0), 0)) := if_pos hk0
    rw [hk0] at HP
    generalize (plainF l).1 = lo at *
    rw [HS.out]
    clear hR hk hk0
    go_enter Tryz.func138, Tryz.ntmps138
    go_wp2_with fail
    refine (HP.out _ HR0.out).mono ?_; rintro e w1 ⟨rfl, rfl⟩
    go_wp2_with fail
    exact bodyPost_ret (v := .tuple #[.agg #[.int .i32 0, .int .i32 0], .int .i64 0]) (by simp [results, Tryz.results138, go_sem]) rfl ⟨rfl, HB0.out⟩
  · have hlo : (plainF l).1 ≤ 1114111 := by
      rcases l with _ | ⟨c, _ | ⟨r, t⟩⟩
      · simp at hn; omega
      · have := hr 0
        rw [plainF]; split
        · show (0 : Nat) ≤ _; omega
        · exact this
      · have h1 := hr 0
        have h2 := hr 1
        rw [plainF]; split
        · exact h2
        · exact h1
    obtain ⟨A', hrun, hrn⟩ := rn_slice A n cap (plainF l).2 (by omega) hcap
    have HR1 : Hid (Rn (w.alloc (.cells #[.int .i32 0, .int .i32 0] 242)) A' (l.drop (plainF l).2)) := hrn _ l hn HR0.out
    have hr1 := hr.drop (plainF l).2
    have hn1 : (l.drop (plainF l).2).length = n - (plainF l).2 := by rw [List.length_drop, hn]
    have hS0 : spanF l = if (l.drop (plainF l).2).length < 2 ∨ (l.drop (plainF l).2).getD 0 0 ≠ 45 ∨ (l.drop (plainF l).2).getD 1 0 = 93 then (((plainF l).1, (plainF l).1), (plainF l).2)
      else if (plainF (l.drop ((plainF l).2 + 1))).2 = 0 ∨ (plainF (l.drop ((plainF l).2 + 1))).1 < (plainF l).1 then ((0, 0), 0)
      else (((plainF l).1, (plainF (l.drop ((plainF l).2 + 1))).1), (plainF l).2 + 1 + (plainF (l.drop ((plainF l).2 + 1))).2) := if_neg hk0
    have hdm := drop_more l (plainF l).2
    have hk1 : 1 ≤ (plainF l).2 := by omega
    have hk2 := plainF_two l
    generalize hlv : (plainF l).1 = lo at *
    generalize hkv : (plainF l).2 = k at *
    clear hlv hkv hrn hk0
    generalize hm : l.drop k = m at *
    rw [← hdm] at hS0
    clear hdm hm
    have hkk : ((k : Int) == 0) = false := by rw [beq_eq_false_iff_ne]; omega
    by_cases hs : m.length < 2
    · have HS : Hid (spanF l = ((lo, lo), k)) := hS0.trans (if_pos (.inl hs))
      rw [HS.out]
      have g1 : decide (n - k < 2) = true := decide_eq_true (by omega)
      have g2 : decide (((n - k : Nat) : Int) < 2) = true := decide_eq_true (by omega)
      clear hS0 hR
      go_enter Tryz.func138, Tryz.ntmps138
      go_wp2_with fail
      refine (HP.out _ HR0.out).mono ?_; rintro e w1 ⟨rfl, rfl⟩
      go_wp2_with fail
      exact bodyPost_ret (v := .tuple #[.agg #[.int .i32 (lo : Nat), .int .i32 (lo : Nat)], .int .i64 (k : Nat)]) (by simp [results, Tryz.results138, go_sem]) rfl ⟨rfl, below_alG w _⟩
    · obtain ⟨b, off, rfl, hlt, hc⟩ := HR1.out (by omega)
      have c0 := hc 0 (by omega)
      have c1 := hc 1 (by omega)
      rw [Nat.add_zero] at c0
      have g1 : decide (n - k < 2) = false := decide_eq_false (by omega)
      have g2 : decide (((n - k : Nat) : Int) < 2) = false := decide_eq_false (by omega)
      have hx0 := hr1 0
      have hx1 := hr1 1
      have hnk : 2 ≤ n - k := by omega
      obtain ⟨A2, hrun2, hrn2⟩ := rn_slice (some ⟨b, off, none⟩) (n - k) (cap - k) 1 (by omega) (by omega)
      have hrun2' : ∀ w : World, (Instr.slice 148 (.slice (some ⟨b, off, none⟩) (n - k) (cap - k)) (some (.int .i64 1)) none none).run Tryz.prog w = .ok (.slice A2 (n - k - 1) (cap - k - 1)) w := hrun2
      have HR2 : Hid (Rn (w.alloc (.cells #[.int .i32 0, .int .i32 0] 242)) A2 (m.drop 1)) := hrn2 _ m hn1 HR1.out
      have HP2 := Lib.hid (fun w1 h => plain_any A2 (n - k - 1) (cap - k - 1) (m.drop 1) (by rw [List.length_drop, hn1]) (by omega) (hr1.drop 1) w1 h)
      have hhi : (plainF (m.drop 1)).1 ≤ 1114111 := by
        have hr2 := hr1.drop 1
        generalize m.drop 1 = z at hr2
        rcases z with _ | ⟨c, _ | ⟨r, t⟩⟩
        · show (0 : Nat) ≤ _; omega
        · have := hr2 0
          rw [plainF]; split
          · show (0 : Nat) ≤ _; omega
          · exact this
        · have h1 := hr2 0
          have h2 := hr2 1
          rw [plainF]; split
          · exact h2
          · exact h1
      generalize m.getD 0 0 = x at *
      generalize m.getD 1 0 = y at *
      have hgy : (plainF (m.drop 1)).2 ≤ 2 := by
        generalize m.drop 1 = z
        rcases z with _ | ⟨c, _ | ⟨r, t⟩⟩
        · show (0 : Nat) ≤ _; omega
        · rw [plainF]; split <;> simp
        · rw [plainF]; split <;> simp
      have hkn : k ≤ n := by omega
      clear hrun2 hrn2 hc hlt hR
      by_cases h45 : x = 45
      · subst h45
        by_cases h93 : y = 93
        · subst h93
          have HS : Hid (spanF l = ((lo, lo), k)) := hS0.trans (if_pos (.inr (.inr rfl)))
          rw [HS.out]
          clear hS0
          go_enter Tryz.func138, Tryz.ntmps138
          go_wp2_with fail
          refine (HP.out _ HR0.out).mono ?_; rintro e w1 ⟨rfl, rfl⟩
          go_wp2_with fail
          exact bodyPost_ret (v := .tuple #[.agg #[.int .i32 (lo : Nat), .int .i32 (lo : Nat)], .int .i64 (k : Nat)]) (by simp [results, Tryz.results138, go_sem]) rfl ⟨rfl, below_alG w _⟩
        · have g3 : ((y : Int) == 93) = false := by rw [beq_eq_false_iff_ne]; omega
          have hS1 := hS0.trans (if_neg (fun h => by rcases h with h | h | h; exact hs h; exact h rfl; exact h93 h))
          clear hS0
          generalize (plainF (m.drop 1)).1 = hi at *
          generalize (plainF (m.drop 1)).2 = j at *
          by_cases hj0 : j = 0
          · subst hj0
            have HS : Hid (spanF l = ((0, 0), 0)) := hS1.trans (if_pos (.inl rfl))
            rw [HS.out]
            clear hS1
            go_enter Tryz.func138, Tryz.ntmps138
            go_wp2_with fail
            refine (HP.out _ HR0.out).mono ?_; rintro e w1 ⟨rfl, rfl⟩
            go_wp2_with fail
            refine (HP2.out _ HR2.out).mono ?_; rintro e w1 ⟨rfl, rfl⟩
            go_wp2_with fail
            exact bodyPost_ret (v := .tuple #[.agg #[.int .i32 0, .int .i32 0], .int .i64 0]) (by simp [results, Tryz.results138, go_sem]) rfl ⟨rfl, HB0.out⟩
          · have g4 : ((j : Int) == 0) = false := by rw [beq_eq_false_iff_ne]; omega
            by_cases hlt : hi < lo
            · have HS : Hid (spanF l = ((0, 0), 0)) := hS1.trans (if_pos (.inr hlt))
              rw [HS.out]
              have g5 : decide ((hi : Int) < (lo : Int)) = true := decide_eq_true (by omega)
              have g6 : decide (hi < lo) = true := decide_eq_true hlt
              clear hS1
              go_enter Tryz.func138, Tryz.ntmps138
              go_wp2_with fail
              refine (HP.out _ HR0.out).mono ?_; rintro e w1 ⟨rfl, rfl⟩
              go_wp2_with fail
              refine (HP2.out _ HR2.out).mono ?_; rintro e w1 ⟨rfl, rfl⟩
              go_wp2_with fail
              exact bodyPost_ret (v := .tuple #[.agg #[.int .i32 0, .int .i32 0], .int .i64 0]) (by simp [results, Tryz.results138, go_sem]) rfl ⟨rfl, HB0.out⟩
            · have HS : Hid (spanF l = ((lo, hi), k + 1 + j)) := hS1.trans (if_neg (fun h => by rcases h with h | h; exact hj0 h; exact hlt h))
              rw [HS.out]
              have g5 : decide ((hi : Int) < (lo : Int)) = false := decide_eq_false (by omega)
              have g6 : decide (hi < lo) = false := decide_eq_false hlt
              clear hS1
              go_enter Tryz.func138, Tryz.ntmps138
              go_wp2_with fail
              refine (HP.out _ HR0.out).mono ?_; rintro e w1 ⟨rfl, rfl⟩
              go_wp2_with fail
              refine (HP2.out _ HR2.out).mono ?_; rintro e w1 ⟨rfl, rfl⟩
              go_wp2_with fail
              exact bodyPost_ret (v := .tuple #[.agg #[.int .i32 (lo : Nat), .int .i32 (hi : Nat)], .int .i64 ((k : Int) + 1 + (j : Int))]) (by simp [results, Tryz.results138, go_sem]) rfl ⟨rfl, below_alG w _⟩
      · have g3 : ((x : Int) != 45) = true := by rw [bne_iff_ne]; omega
        have HS : Hid (spanF l = ((lo, lo), k)) := hS0.trans (if_pos (.inr (.inl h45)))
        rw [HS.out]
        clear hS0
        go_enter Tryz.func138, Tryz.ntmps138
        go_wp2_with fail
        refine (HP.out _ HR0.out).mono ?_; rintro e w1 ⟨rfl, rfl⟩
        go_wp2_with fail
        exact bodyPost_ret (v := .tuple #[.agg #[.int .i32 (lo : Nat), .int .i32 (lo : Nat)], .int .i64 (k : Nat)]) (by simp [results, Tryz.results138, go_sem]) rfl ⟨rfl, below_alG w _⟩
end Go.Proofs.YtjnoapbddifcpaaGreatDoor
