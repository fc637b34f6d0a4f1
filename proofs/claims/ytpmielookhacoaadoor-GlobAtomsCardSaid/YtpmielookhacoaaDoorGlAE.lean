/-
  The walk of GlobAtoms.
-/
import Derived.Test.YtpmielookhacoaaDoorGlAD
import Derived.Test.YtpmielookhacoaaDoorGlR
import Derived.Test.YtpmielookhacoaaDoorGlX
import Derived.Deep.RegionHeld3
namespace Go.Proofs.YtpmielookhacoaaDoor
set_option maxRecDepth 100000
set_option linter.unusedSimpArgs false
set_option linter.unusedVariables false
open Go.RowKit Go.Deep Go.Joins
open Go.Lib hiding intOf
theorem own_base {w : World} {B n z : Nat} {e : TypeId} {v : Value} {xs : List Value} (h : w.ownsRow B e z v n xs) (k : Nat) (hk : v.ownBlock = some k) : B ≤ k := by
  rcases h.2 with ⟨rfl, _⟩ | ⟨g, cap, cur, rfl, hb, _⟩
  · cases hk
  · have : g = k := by simpa [Value.ownBlock] using hk
    omega
set_option maxHeartbeats 16000000 in
theorem globAtoms_walk (L1 L2 : List Atm) (A1 A2 : Option Addr) (c1 c2 : Nat) (s : ByteArray) (w : World) (hA1 : Ats w A1 L1) (hA2 : Ats w A2 L2) (hR1 : ∀ x ∈ L1, Rng x ∧ x.rs.length ≤ maxLen) (hR2 : ∀ x ∈ L2, Rng x ∧ x.rs.length ≤ maxLen)
    (hc1 : L1.length ≤ c1) (hc2 : L2.length ≤ c2) (hm1 : L1.length ≤ maxLen) (hm2 : L2.length ≤ maxLen) (hs : s.size ≤ maxLen) (hT : Tabs w) :
    Calls Tryd.prog 3 #[.agg #[.slice A1 L1.length c1], .agg #[.slice A2 L2.length c2], .string s] w fun e w' => e = .returned (.bool true) ∧ Below w.heap.size w w' := by
  have hip := info_pat
  have hits := info_ats
  have hia := info_atom
  unfold maxLen at hm1 hm2 hs
  have hb1 := below_al w (.cells #[.slice A1 L1.length c1] 24)
  have hb2 := below_al (w.alloc (.cells #[.slice A1 L1.length c1] 24)) (.cells #[.slice A2 L2.length c2] 24)
  have HP1 := Lib.hid ((heap_alloc_old (w.alloc (.cells #[.slice A1 L1.length c1] 24)) (.cells #[.slice A2 L2.length c2] 24) (lt_of_block (heap_alloc_new w (.cells #[.slice A1 L1.length c1] 24)))).trans (heap_alloc_new w (.cells #[.slice A1 L1.length c1] 24)))
  have HP2 := Lib.hid (heap_alloc_new (w.alloc (.cells #[.slice A1 L1.length c1] 24)) (.cells #[.slice A2 L2.length c2] 24))
  have HB0 := Lib.hid (below_then hb1 hb2)
  have HT0 := Lib.hid ((hT.below hb1).below hb2)
  have HA1 := Lib.hid ((hA1.below hb1).below hb2)
  have HA2 := Lib.hid ((hA2.below hb1).below hb2)
  have HR1 := Lib.hid hR1
  have HR2 := Lib.hid hR2
  have hgs : (w.alloc (.cells #[.slice A1 L1.length c1] 24)).heap.size = w.heap.size + 1 := by simp
  rw [hgs] at HP2
  clear hb1 hb2 hT hA1 hA2 hR1 hR2 hgs
  go_enter Tryd.func3, Tryd.ntmps3
  go_upto_region 1 with fail
  generalize (w.alloc (.cells #[.slice A1 L1.length c1] 24)).alloc (.cells #[.slice A2 L2.length c2] 24) = w0 at *
  go_wp2_with fail
  refine (awake11_any w0 HT0.out).mono ?_; rintro e wa ⟨rfl, hb⟩
  have HBa := Lib.hid (below_then HB0.out hb)
  replace HT0 := Lib.hid (HT0.out.below hb)
  replace HA1 := Lib.hid (HA1.out.below hb)
  replace HA2 := Lib.hid (HA2.out.below hb)
  replace HP1 := Lib.hid ((hb.block _ (lt_of_block HP1.out)).trans HP1.out)
  replace HP2 := Lib.hid ((hb.block _ (lt_of_block HP2.out)).trans HP2.out)
  clear hb HB0
  have d1 := (cell_of_row _ _ 0 _ _ _ HP1.out).trans (show _ = some (Value.slice A1 L1.length c1) from rfl)
  have d2 := (cell_of_row _ _ 0 _ _ _ HP2.out).trans (show _ = some (Value.slice A2 L2.length c2) from rfl)
  by_cases h1 : 60 < L1.length
  · have g1 : decide ((60 : Int) < (L1.length : Int)) = true := decide_eq_true (by omega)
    go_wp2_with fail
    go_ret
    exact ⟨rfl, HBa.out⟩
  have g1 : decide ((60 : Int) < (L1.length : Int)) = false := decide_eq_false (by omega)
  by_cases h2 : 60 < L2.length
  · have g2 : decide ((60 : Int) < (L2.length : Int)) = true := decide_eq_true (by omega)
    go_wp2_with fail
    go_ret
    exact ⟨rfl, HBa.out⟩
  have g2 : decide ((60 : Int) < (L2.length : Int)) = false := decide_eq_false (by omega)
  by_cases h3 : 200 < s.size
  · have g3 : decide ((200 : Int) < (s.size : Int)) = true := decide_eq_true (by omega)
    go_wp2_with fail
    go_ret
    exact ⟨rfl, HBa.out⟩
  have g3 : decide ((200 : Int) < (s.size : Int)) = false := decide_eq_false (by omega)
  go_upto_region 5 with fail
  clear g1 g2 g3
  have HKB : Hid (∀ y, Below wa.heap.size wa y → y.cell? ⟨w.heap.size, 0, none⟩ = some (.slice A1 L1.length c1) ∧ y.cell? ⟨w.heap.size + 1, 0, none⟩ = some (.slice A2 L2.length c2) ∧ Ats y A1 L1 ∧ Ats y A2 L2) := fun y hy =>
    ⟨(hy.cell (p := ⟨w.heap.size, 0, none⟩) (lt_of_block HP1.out)).trans d1, (hy.cell (p := ⟨w.heap.size + 1, 0, none⟩) (lt_of_block HP2.out)).trans d2, HA1.out.below hy, HA2.out.below hy⟩
  have hyd : Below wa.heap.size wa wa.drew := (Below.refl _ _).drew
  go_region_held3 (fun w' => w'.cell? ⟨w.heap.size, 0, none⟩ = some (.slice A1 L1.length c1) ∧ w'.cell? ⟨w.heap.size + 1, 0, none⟩ = some (.slice A2 L2.length c2)) (go_keep) (first
    | ((refine step_ats wa hyd rfl (.const (.slice none 0 0)) (.tmp 29) rfl rfl wa.heap.size (.slice none 0 0) 0 [] rfl (by rfl) (World.ownsRow_nil _ _ _ _) A1 L1.length c1 L1 rfl (by rfl) HA1.out (by omega) (by decide) (Nat.le_refl _) ?_; intro v1 w1 q1 e1 g1 o1 r1; have y1 := hyd.grown r1 hyd.size (fun k hk => by cases hk); have k1 := (HKB.out _ y1).1; have k2 := (HKB.out _ y1).2.1; have hq1 : 0 + L1.length = q1.length := (by rw [← e1, List.length_map, Nat.zero_add])))
    | ((refine step_ats wa y1 rfl (.tmp 30) (.tmp 32) rfl rfl wa.heap.size v1 (0 + L1.length) ([] ++ q1) hq1 (by rfl) o1 A2 L2.length c2 L2 rfl (by rfl) HA2.out (by omega) (by rw [List.nil_append, ← hq1]; omega) y1.size ?_; intro v2 w2 q2 e2 g2 o2 r2; obtain ⟨A3, c3, rfl⟩ := row_slice2 o2; have y2 := y1.grown r2 y1.size (own_base o1); have k3 := (HKB.out _ y2).1; have k4 := (HKB.out _ y2).2.1)))
  have hB2 := below_then HBa.out y2
  have hlq : ([] ++ q1 ++ q2).length = 0 + L1.length + L2.length := by rw [List.nil_append, List.length_append, ← hq1, ← e2, List.length_map]
  have hg2 : ∀ q ∈ [] ++ q1 ++ q2, AtmG w2 q.1 q.2 := fun q hq => by
    rw [List.nil_append] at hq
    have hq' : AtmG wa q.1 q.2 := by
      rcases List.mem_append.1 hq with hq | hq
      · exact g1 q hq
      · exact g2 q hq
    exact hq'.keep (fun A l h => h.below (Nat.le_refl _) y2)
  rw [← hlq] at o2
  have hal := ats_of_own' o2 hg2
  have hmap : ([] ++ q1 ++ q2 : List (Atm × Value)).map (·.1) = L1 ++ L2 := by rw [List.nil_append, List.map_append, e1, e2]
  rw [hmap] at hal
  have HAL := Lib.hid hal
  have HB2 := Lib.hid hB2
  have hnn : (L1 ++ L2).length = 0 + L1.length + L2.length := by rw [List.length_append, Nat.zero_add]
  clear hal hg2 o2 hlq hmap o1 r1 r2 g1 g2 y1 k1 k2 hyd hB2
  rw [← hq1]
  simp only [Nat.zero_add]
  rw [Nat.zero_add] at hnn
  have hiN : ((L1.length : Int) + (L2.length : Int)) = ((L1 ++ L2).length : Nat) := by rw [hnn]; omega
  rw [hiN, ← hnn]
  have hN120 : (L1 ++ L2).length ≤ 120 := by omega
  clear hq1 hnn hiN
  generalize hL : L1 ++ L2 = L at *
  have HHL := Lib.hid hL
  have HY2 := Lib.hid y2
  clear hL y2 k3 k4 d1 d2 e1 e2
  go_wp2_with fail
  go_loopw [8, 35] (fun _ i wr => ∃ j : Nat, i = .int .i64 (j : Nat) ∧ j ≤ L.length ∧ Hid (∀ x ∈ L.take j, x.rs.length ≤ 20) ∧ Hid (Below w2.heap.size w2 wr)) (fun _ i _ => L.length - (intOf i).toNat)
  case atStart => exact ⟨0, rfl, Nat.zero_le _, (fun x hx => by rw [List.take_zero] at hx; cases hx), Below.refl _ _⟩
  case round =>
    obtain ⟨j, rfl, hjl, HQ, HB⟩ := hrel
    by_cases hlt : j < L.length
    · obtain ⟨b, off, rfl, hb, hcc⟩ := (HAL.out.below HB.out) (by omega)
      obtain ⟨k0, k1, k2, Ai, ci, k3, hR⟩ := hcc j L[j] (List.getElem?_eq_getElem hlt)
      have hTK : L.take (j + 1) = L.take j ++ [L[j]] := List.take_succ_eq_append_getElem hlt
      generalize L[j] = x at *
      have HTK := Lib.hid hTK
      clear hcc hTK hR
      have hb4 := below_al wr (.cells #[.int .i64 x.k, .int .i32 x.r, .bool x.n, .slice Ai x.rs.length ci] 28)
      have hx4 := heap_alloc_new wr (.cells #[.int .i64 x.k, .int .i32 x.r, .bool x.n, .slice Ai x.rs.length ci] 28)
      go_upto_region 8 with fail
      have HB4 := Lib.hid (below_then HB.out hb4)
      have d3 := (cell_of_row _ _ 3 _ _ _ hx4).trans (show _ = some (Value.slice Ai x.rs.length ci) from rfl)
      clear hb4 hx4 k0 k1 k2 k3
      generalize wr.heap.size = ga at *
      generalize wr.alloc (.cells #[.int .i64 x.k, .int .i32 x.r, .bool x.n, .slice Ai x.rs.length ci] 28) = wo at *
      by_cases h20 : 20 < x.rs.length
      · have g20 : decide ((20 : Int) < (x.rs.length : Int)) = true := decide_eq_true (by omega)
        go_wp2_with fail
        go_ret
        exact ⟨rfl, below_then HB2.out HB4.out⟩
      · have g20 : decide ((20 : Int) < (x.rs.length : Int)) = false := decide_eq_false (by omega)
        go_wp2_with fail
        go_roundw
        case rel =>
          refine ⟨j + 1, by go_num, by omega, (fun y hy => ?_), HB4.out⟩
          rw [HTK.out] at hy
          rcases List.mem_append.1 hy with hy | hy
          · exact HQ.out y hy
          · rw [List.mem_singleton.1 hy]; omega
        case measure => simp [intOf]; omega
    · obtain rfl : j = L.length := by omega
      have HQ2 : Hid (∀ x ∈ L, x.rs.length ≤ 20) := by
        show ∀ x ∈ L, _
        have h := HQ.out
        rw [List.take_length] at h
        exact h
      have hyr : Below wa.heap.size wa wr := HY2.out.trans (HB.out.mono HY2.out.size)
      have HBr : Hid (Below w.heap.size w wr) := HBa.out.trans (hyr.mono HBa.out.size)
      have HTr := Lib.hid (HT0.out.below hyr)
      obtain ⟨m1, m2, a1, a2⟩ := HKB.out _ hyr
      have HK0 : Hid (∀ y, Below wr.heap.size wr y → y.cell? ⟨w.heap.size, 0, none⟩ = some (.slice A1 L1.length c1) ∧ y.cell? ⟨w.heap.size + 1, 0, none⟩ = some (.slice A2 L2.length c2) ∧ Ats y A1 L1 ∧ Ats y A2 L2 ∧ Tabs y) := fun y hy =>
        ⟨(hy.cell (p := ⟨w.heap.size, 0, none⟩) (World.block_lt_of_cell? _ _ m1)).trans m1, (hy.cell (p := ⟨w.heap.size + 1, 0, none⟩) (World.block_lt_of_cell? _ _ m2)).trans m2, a1.below hy, a2.below hy, HTr.out.below hy⟩
      have hq1 : ∀ x ∈ L1, x.rs.length ≤ 1000000 ∧ Rng x := fun x hx => ⟨by have := HQ2.out x (by rw [← HHL.out]; exact List.mem_append_left _ hx); omega, (HR1.out x hx).1⟩
      have hq2 : ∀ x ∈ L2, x.rs.length ≤ 1000000 ∧ Rng x := fun x hx => ⟨by have := HQ2.out x (by rw [← HHL.out]; exact List.mem_append_right _ hx); omega, (HR2.out x hx).1⟩
      obtain ⟨b1, hb1⟩ : ∃ b, b = mtB L1 (runesB s) := ⟨_, rfl⟩
      obtain ⟨b2, hb2⟩ : ∃ b, b = mtB L2 (runesB s) := ⟨_, rfl⟩
      have HTp : Hid (∀ a, Below wr.heap.size wr a → Calls Tryd.prog 6 #[.agg #[.slice A1 L1.length c1]] a fun e b => ∃ A' c', e = .returned (.slice A' L1.length c') ∧ RAts b A' L1 ∧ Below wr.heap.size wr b ∧ ∀ A l, RAts a A l → RAts b A l) := fun a ha =>
        (to_any L1 A1 c1 (by omega) hq1 a (HK0.out a ha).2.2.1).mono fun e b ⟨A', c', he, hr, hb⟩ => ⟨A', c', he, hr, below_then ha hb, fun A l h => h.below hb⟩
      have HTq : Hid (∀ a, Below wr.heap.size wr a → Calls Tryd.prog 6 #[.agg #[.slice A2 L2.length c2]] a fun e b => ∃ A' c', e = .returned (.slice A' L2.length c') ∧ RAts b A' L2 ∧ Below wr.heap.size wr b ∧ ∀ A l, RAts a A l → RAts b A l) := fun a ha =>
        (to_any L2 A2 c2 (by omega) hq2 a (HK0.out a ha).2.2.2.1).mono fun e b ⟨A', c', he, hr, hb⟩ => ⟨A', c', he, hr, below_then ha hb, fun A l h => h.below hb⟩
      have HMp : Hid (∀ a A' c', Below wr.heap.size wr a → RAts a A' L1 → Calls Tryd.prog 5 #[.slice A' L1.length c', .string s] a fun e b => e = .returned (.bool b1) ∧ Below wr.heap.size wr b ∧ ∀ A l, RAts a A l → RAts b A l) := fun a A' c' ha hr => by
        rw [hb1]
        exact (rmatches_any L1 A' c' s (by omega) (by omega) (fun x hx => (hq1 x hx).1) a hr).mono fun e b ⟨he, hb⟩ => ⟨he, below_then ha hb, fun A l h => h.below hb⟩
      have HMq : Hid (∀ a A' c', Below wr.heap.size wr a → RAts a A' L2 → Calls Tryd.prog 5 #[.slice A' L2.length c', .string s] a fun e b => e = .returned (.bool b2) ∧ Below wr.heap.size wr b ∧ ∀ A l, RAts a A l → RAts b A l) := fun a A' c' ha hr => by
        rw [hb2]
        exact (rmatches_any L2 A' c' s (by omega) (by omega) (fun x hx => (hq2 x hx).1) a hr).mono fun e b ⟨he, hb⟩ => ⟨he, below_then ha hb, fun A l h => h.below hb⟩
      have hwd : Below wr.heap.size wr wr.drew := (Below.refl _ _).drew
      have HP1m : Hid (∀ a, Below wr.heap.size wr a → Calls Tryd.prog 7 #[.agg #[.slice A1 L1.length c1], .string s] a fun e b => e = .returned (.bool b1) ∧ Below a.heap.size a b) := fun a ha => by
        rw [hb1]
        exact matches_any L1 A1 c1 s (by omega) (by omega) hc1 (fun x hx => (hq1 x hx).1) a (HK0.out a ha).2.2.2.2 (HK0.out a ha).2.2.1
      have HP2m : Hid (∀ a, Below wr.heap.size wr a → Calls Tryd.prog 7 #[.agg #[.slice A2 L2.length c2], .string s] a fun e b => e = .returned (.bool b2) ∧ Below a.heap.size a b) := fun a ha => by
        rw [hb2]
        exact matches_any L2 A2 c2 s (by omega) (by omega) hc2 (fun x hx => (hq2 x hx).1) a (HK0.out a ha).2.2.2.2 (HK0.out a ha).2.2.2.1
      have HAN : Hid (∀ a g, Below wr.heap.size wr a → g < a.heap.size → a.cell? ⟨g, 0, none⟩ = some (.slice A1 L1.length c1) → a.cell? ⟨g, 1, none⟩ = some (.slice A2 L2.length c2) → Calls Tryd.prog 8 #[.slice (some ⟨g, 0, none⟩) 2 2, .string s] a fun e b => e = .returned (.bool (b1 || b2)) ∧ Below a.heap.size a b) := fun a g ha hg k1 k2 => by
        have h := any_any (fun y => Below wr.heap.size wr y) (fun x y hx hy => below_then hx hy) s [(.slice A1 L1.length c1, b1), (.slice A2 L2.length c2, b2)] (some ⟨g, 0, none⟩) 2 a (fun q hq => by
          rcases List.mem_cons.1 hq with rfl | hq
          · exact ⟨rfl, HP1m.out⟩
          · rw [List.mem_singleton.1 hq]
            exact ⟨rfl, HP2m.out⟩) (by show 2 ≤ 1000; omega) (fun _ => ⟨g, 0, rfl, hg, fun i q hq => by
          match i, hq with
          | 0, hq => rw [← show (Value.slice A1 L1.length c1, b1) = q by simpa using hq]; exact k1
          | 1, hq => rw [← show (Value.slice A2 L2.length c2, b2) = q by simpa using hq]; exact k2⟩) ha
        have e : ([(Value.slice A1 L1.length c1, b1), (Value.slice A2 L2.length c2, b2)].any fun q => q.2) = (b1 || b2) := by cases b1 <;> cases b2 <;> rfl
        rw [e] at h
        exact h
      have HAZ : Hid (∀ a, Below wr.heap.size wr a → Calls Tryd.prog 8 #[.slice none 0 0, .string s] a fun e b => e = .returned (.bool false) ∧ Below a.heap.size a b) := fun a ha =>
        any_any (fun y => Below wr.heap.size wr y) (fun x y hx hy => below_then hx hy) s [] none 0 a (fun q hq => by cases hq) (by decide) (fun h => absurd h (Nat.lt_irrefl 0)) ha
      have HHB := Lib.hid (And.intro hb1 hb2)
      have HHQ := Lib.hid (And.intro hq1 hq2)
      clear a1 a2 hyr hb1 hb2 hq1 hq2 HKB HBa HY2 HQ2 HQ
      go_upto_region 11 with fail
      go_region_held3 (fun w' => w'.cell? ⟨w.heap.size, 0, none⟩ = some (.slice A1 L1.length c1) ∧ w'.cell? ⟨w.heap.size + 1, 0, none⟩ = some (.slice A2 L2.length c2)) (go_keep) (first
        | (go_at_call 6; with_reducible refine (HTp.out _ (by assumption)).mono ?_; rintro e wy ⟨Ap, cp, rfl, rp, nb, HK⟩; have n1 := (HK0.out _ nb).1; have n2 := (HK0.out _ nb).2.1; try (have rq := HK _ _ rq))
        | (go_at_call 6; with_reducible refine (HTq.out _ (by assumption)).mono ?_; rintro e wy ⟨Aq, cq, rfl, rq, nb, HK⟩; have n1 := (HK0.out _ nb).1; have n2 := (HK0.out _ nb).2.1; try (have rp := HK _ _ rp))
        | (go_at_call 5; with_reducible refine (HMp.out _ _ _ (by assumption) rp).mono ?_; rintro e wy ⟨rfl, nb, HK⟩; have n1 := (HK0.out _ nb).1; have n2 := (HK0.out _ nb).2.1; try (have rq := HK _ _ rq))
        | (go_at_call 5; with_reducible refine (HMq.out _ _ _ (by assumption) rq).mono ?_; rintro e wy ⟨rfl, nb, HK⟩; have n1 := (HK0.out _ nb).1; have n2 := (HK0.out _ nb).2.1; try (have rp := HK _ _ rp)))
      all_goals
        have NB := Lib.hid nb
        clear HTp HTq HMp HMq hwd
        clear HK rq rp n1 n2
        have n1 := (HK0.out _ NB.out).1
        have n2 := (HK0.out _ NB.out).2.1
        go_wp2_with fail
        refine (HP1m.out _ NB.out).mono ?_; rintro e x1 ⟨rfl, hb⟩
        have NB1 := Lib.hid (below_then NB.out hb)
        clear hb n1 n2
        have n1 := (HK0.out _ NB1.out).1
        have n2 := (HK0.out _ NB1.out).2.1
        go_wp2_with fail
        refine (HP2m.out _ NB1.out).mono ?_; rintro e x2 ⟨rfl, hb⟩
        have NB2 := Lib.hid (below_then NB1.out hb)
        clear hb n1 n2
        have n1 := (HK0.out _ NB2.out).1
        have n2 := (HK0.out _ NB2.out).2.1
        go_wp2_with fail
        have hb := below_al x2 (.cells #[.slice A1 L1.length c1, .slice A2 L2.length c2] 24)
        have hx := heap_alloc_new x2 (.cells #[.slice A1 L1.length c1, .slice A2 L2.length c2] 24)
        have NB3 := Lib.hid (below_then NB2.out hb)
        have k1 := (cell_of_row _ _ 0 _ _ _ hx).trans (show _ = some (Value.slice A1 L1.length c1) from rfl)
        have k2 := (cell_of_row _ _ 1 _ _ _ hx).trans (show _ = some (Value.slice A2 L2.length c2) from rfl)
        refine (HAN.out _ _ NB3.out (lt_of_block hx) k1 k2).mono ?_; rintro e x3 ⟨rfl, hb3⟩
        have NB4 := Lib.hid (below_then NB3.out hb3)
        clear hb hx hb3 k1 k2 n1 n2 HAN HP1m HP2m
        cases b1 with
        | true =>
          go_wp2_with fail
          refine (HAZ.out _ NB4.out).mono ?_; rintro e x4 ⟨rfl, hb4⟩
          have NB5 := Lib.hid (below_then NB4.out hb4)
          clear hb4
          go_wp2_with fail
          go_ret
          exact ⟨rfl, HBr.out.trans (NB5.out.mono HBr.out.size)⟩
        | false =>
          go_wp2_with fail
          refine (HAZ.out _ NB4.out).mono ?_; rintro e x4 ⟨rfl, hb4⟩
          have NB5 := Lib.hid (below_then NB4.out hb4)
          clear hb4
          go_wp2_with fail
          go_ret
          exact ⟨rfl, HBr.out.trans (NB5.out.mono HBr.out.size)⟩
end Go.Proofs.YtpmielookhacoaaDoor
