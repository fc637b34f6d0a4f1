/-
  Contract: earlier.
-/
import Derived.Test.YtfhbkidceombbaaMatJ
namespace Go.Proofs.Ytfhbkidceombbaa
set_option maxRecDepth 100000
open Go.Joins Go.RowKit Go.Deep Go.ChangeMaps Go.ChangeShapes Go.WideShapes
open Go.Maps (Keyed IsMap has)

/-- A row of numbers. -/
def rowF (F : Nat → Int) (n : Nat) : Array Value := ((List.range n).map fun p => Value.int .i64 (F p)).toArray
theorem rowF_size (F : Nat → Int) (n : Nat) : (rowF F n).size = n := by simp [rowF]
theorem rowF_get (F : Nat → Int) (n i : Nat) (h : i < n) : (rowF F n)[i]? = some (.int .i64 (F i)) := by simp [rowF, h]
theorem rowF_congr (F G : Nat → Int) (n : Nat) (h : ∀ p, p < n → F p = G p) : rowF F n = rowF G n := by
  unfold rowF
  congr 1
  exact List.map_congr_left fun p hp => by rw [h p (List.mem_range.1 hp)]
theorem rowF_set (F : Nat → Int) (n i : Nat) (v : Int) : (rowF F n).setIfInBounds i (.int .i64 v) = rowF (fun p => if p = i then v else F p) n := by
  apply Array.ext
  · rw [Array.size_setIfInBounds, rowF_size, rowF_size]
  · intro j h1 h2
    have hj : j < n := by rw [rowF_size] at h2; exact h2
    have e1 := rowF_get (fun p => if p = i then v else F p) n j hj
    rw [Array.getElem?_eq_getElem h2] at e1
    rw [Option.some.inj e1, Array.getElem_setIfInBounds]
    · by_cases e : i = j
      · subst e; rw [if_pos rfl, if_pos rfl]
      · rw [if_neg e, if_neg (Ne.symm e)]
        have e2 := rowF_get F n j hj
        rw [Array.getElem?_eq_getElem (by rw [rowF_size]; exact hj)] at e2
        exact Option.some.inj e2
    · rw [rowF_size]; exact hj
theorem rowF_neg (n : Nat) : (List.replicate n (Value.int .i64 (-1))).toArray = rowF (fun _ => -1) n := by
  unfold rowF
  congr 1
  rw [List.map_const', List.length_range]
set_option maxHeartbeats 4000000 in
theorem repeatI_zero (gx n : Nat) (hn : n = 0) (w : World) : Calls Try.prog 113 #[.slice (some ⟨gx, 0, none⟩) 1 1, .int .i64 (n : Nat)] w fun e w' => e = .returned (.slice (some ⟨w.heap.size, 0, none⟩) n n) ∧ w'.heap[w.heap.size]? = some (.cells (rowF (fun _ => -1) n) 3 (0, 0)) ∧ Below w.heap.size w w' := by
  have HM := Lib.hid (mul_oneI n (by omega))
  have hmk := run_make_row' (P := Try.prog) 81 3 (.int .i64 0) 8 Try.underlying81 info_int rfl .i64 .i64 n (by omega) (by omega)
  have hB0 : Below w.heap.size w (w.alloc (.cells (madeCells #[.int .i64 0] n) 3)) := (Below.refl _ _).alloc (Nat.le_refl _) _
  have hg0 : (w.alloc (.cells (madeCells #[.int .i64 0] n) 3)).heap[w.heap.size]? = some (.cells (fillI n 0 0).toArray 3 (0, 0)) := by rw [fillI_zero n 0]; exact heap_alloc_new w _
  have HB0 := Lib.hid hB0
  have HG0 := Lib.hid hg0
  have hsz1 : (Try.prog.info? 3).map (·.size) = some 1 := by kernel_rfl
  have HN := Lib.hid hn
  have hwn : IntKind.u64.wrap (n : Int) = (n : Int) := by rw [IntKind.wrap_u64]; omega
  have hwi : IntKind.i64.wrap (n : Int) = (n : Int) := by rw [IntKind.wrap_i64]; omega
  have hn1 : n ≤ 1000 := by omega
  clear hB0 hg0 hn
  go_enter Try.func113, Try.ntmps113
  have hlt0 : decide ((n : Int) < 0) = false := decide_eq_false (by omega)
  have hlt1 : decide ((9223372036854775807 : Int) < (n : Int)) = false := decide_eq_false (by omega)
  go_wp2_with fail
  refine (HM.out _).mono ?_; rintro e w' ⟨rfl, rfl⟩
  go_wp2_with (with_reducible refine wpList_copy_splice rfl (.tmp 31) (.tmp 32) 81 81 rfl 3 Try.underlying81 hsz1 (some ⟨w.heap.size, 0, none⟩) (some ⟨gx, 0, none⟩) n n 1 1 rfl rfl w.heap.size 0 (fillI n 0 0) 3 HG0.out [] ?c1 ?c2 ?c3 ?c4 w.heap.size w HB0.out (Nat.le_refl _) ?_)
  case c1 => have := HN.out; show 0 = min 1 n; omega
  case c3 => rw [fillI_len n 0 0 (by omega)]; simp
  case c4 => intro v hv; simp at hv
  intro w1 hg1 hb1
  have hz : decide ((0 : Int) < (n : Int)) = false := decide_eq_false (by have := HN.out; omega)
  have hz2 : decide (0 < n) = false := decide_eq_false (by have := HN.out; omega)
  have HG1 := Lib.hid hg1
  have HB1 := Lib.hid hb1
  clear hg1 hb1 hmk
  go_wp2_with fail
  refine wp_loop_rounds 1 ?_
  rw [rounds_succ]
  go_wp2
  go_ret
  refine ⟨rfl, ?_, HB1.out⟩
  have h := HG1.out.out
  have hn := HN.out
  subst hn
  exact h
theorem repeatI_neg (gx n : Nat) (hn : n ≤ 10000) (w : World) (hgx : gx < w.heap.size) (hc : w.cell? ⟨gx, 0, none⟩ = some (.int .i64 (-1))) : Calls Try.prog 113 #[.slice (some ⟨gx, 0, none⟩) 1 1, .int .i64 (n : Nat)] w fun e w' => e = .returned (.slice (some ⟨w.heap.size, 0, none⟩) n n) ∧ w'.heap[w.heap.size]? = some (.cells (rowF (fun _ => -1) n) 3 (0, 0)) ∧ Below w.heap.size w w' := by
  by_cases h : n = 0
  · exact repeatI_zero gx n h w
  · have := repeatI_any gx n (-1) (by omega) hn w hgx hc
    rw [rowF_neg] at this
    exact this

/-- What stands in the row while places are told. -/
def EarlyF (a : Nat → Nat) (n : Nat) (left : Lit → Bool) (F : Nat → Int) : Prop :=
  (∀ p, p + 2 < n → left (keyOfT a p) = false → F p = befT a n p) ∧ (∀ p, (p + 2 < n → left (keyOfT a p) = true) → F p = -1)
def InnerF (a : Nat → Nat) (n : Nat) (P : List Nat) (k : Nat) (F0 F : Nat → Int) : Prop :=
  (∀ j p, j < k → P[j + 1]? = some p → F p = befT a n p) ∧ (∀ p, (∀ j, j < k → P[j + 1]? ≠ some p) → F p = F0 p)
theorem early_step (a : Nat → Nat) (ha : ∀ i, a i < 256) (n : Nat) (left : Lit → Bool) (F0 F : Nat → Int) (q : Nat) (hl : left (keyOfT a q) = true) (h0 : EarlyF a n left F0)
    (hF : InnerF a n (places a (a q) (a (q + 1)) (a (q + 2)) (n - 2)) ((places a (a q) (a (q + 1)) (a (q + 2)) (n - 2)).length - 1) F0 F) : EarlyF a n (fun kl => left kl && !kl.sameKey (keyOfT a q)) F := by
  have hk : ∀ p, keyOfT a p = keyOfT a q ↔ a p = a q ∧ a (p + 1) = a (q + 1) ∧ a (p + 2) = a (q + 2) := fun p => ⟨fun h => tk_inj _ _ _ _ _ _ (ha _) (ha _) (ha _) (ha _) (ha _) (ha _) h, fun h => by unfold keyOfT; rw [h.1, h.2.1, h.2.2]⟩
  have hself : (keyOfT a q).sameKey (keyOfT a q) = true := WideAt.sameKey_self (tri_law.key (tk_of _ _ _ (ha _) (ha _) (ha _)))
  have hmem := fun p => places_mem a (a q) (a (q + 1)) (a (q + 2)) (n - 2) p
  have hprev := fun i p => places_prev a (a q) (a (q + 1)) (a (q + 2)) (n - 2) i p
  generalize places a (a q) (a (q + 1)) (a (q + 2)) (n - 2) = P at *
  have hout : ∀ p, keyOfT a p ≠ keyOfT a q → F p = F0 p := fun p hp => hF.2 p fun j _ hj => hp ((hk p).2 ((hmem p).1 (List.mem_of_getElem? hj)).2)
  constructor
  · intro p hp hlp
    by_cases e : keyOfT a p = keyOfT a q
    · have hin : p ∈ P := (hmem p).2 ⟨by omega, (hk p).1 e⟩
      obtain ⟨i, hi⟩ := List.getElem?_of_mem hin
      by_cases hi0 : i = 0
      · subst hi0
        have hpv := hprev 0 p hi
        rw [if_pos rfl] at hpv
        have hb : befT a n p = -1 := by unfold befT; rw [if_pos hp, hpv]
        rw [hb, hF.2 p fun j _ hj => by
          have h2 := hprev (j + 1) p hj
          rw [if_neg (by omega), hpv, Nat.add_sub_cancel] at h2
          obtain ⟨hjl, _⟩ := List.getElem?_eq_some_iff.1 hj
          rw [List.getElem?_eq_getElem (by omega)] at h2
          cases h2]
        exact h0.2 p fun _ => by rw [e]; exact hl
      · obtain ⟨hil, _⟩ := List.getElem?_eq_some_iff.1 hi
        exact hF.1 (i - 1) p (by omega) (by rw [show i - 1 + 1 = i by omega]; exact hi)
    · rw [hout p e]
      refine h0.1 p hp ?_
      simp only [Maps.sameKey_ne e] at hlp
      simpa using hlp
  · intro p hp
    by_cases e : keyOfT a p = keyOfT a q
    · by_cases hpn : p + 2 < n
      · have := hp hpn
        simp only [e, hself] at this
        simp at this
      · rw [hF.2 p fun j _ hj => by have := (hmem p).1 (List.mem_of_getElem? hj); omega]
        exact h0.2 p fun h => absurd h hpn
    · rw [hout p e]
      refine h0.2 p fun hpn => ?_
      have := hp hpn
      simp at this
      exact this.1
theorem early_start (a : Nat → Nat) (ha : ∀ i, a i < 256) (n : Nat) : EarlyF a n (has (gM a (n - 2))) (fun _ => -1) :=
  ⟨fun p hp h => (by
    have := (gM_has a ha (keyOfT a p) (n - 2)).2 ⟨p, by omega, rfl⟩
    rw [this] at h; cases h), fun _ _ => rfl⟩
theorem early_end (a : Nat → Nat) (n : Nat) (left : Lit → Bool) (h : ∀ kl, left kl = false) (F : Nat → Int) (hF : EarlyF a n left F) : rowF F n = rowF (befT a n) n := by
  refine rowF_congr _ _ _ fun p _ => ?_
  by_cases hp : p + 2 < n
  · exact hF.1 p hp (h _)
  · rw [hF.2 p fun hh => absurd hh hp]
    unfold befT
    rw [if_neg hp]
theorem inner_start (a : Nat → Nat) (n : Nat) (P : List Nat) (F : Nat → Int) : InnerF a n P 0 F F := ⟨fun j _ hj => by omega, fun _ _ => rfl⟩
theorem inner_step (a : Nat → Nat) (n x y z k place : Nat) (F0 F : Nat → Int) (hP : (places a x y z (n - 2))[k + 1]? = some place) (hF : InnerF a n (places a x y z (n - 2)) k F0 F) :
    InnerF a n (places a x y z (n - 2)) (k + 1) F0 (fun p => if p = place then (((places a x y z (n - 2)).getD k 0 : Nat) : Int) else F p) := by
  have hb : befT a n place = (((places a x y z (n - 2)).getD k 0 : Nat) : Int) := by
    have h1 := (places_mem a x y z (n - 2) place).1 (List.mem_of_getElem? hP)
    have h2 := places_prev a x y z (n - 2) (k + 1) place hP
    rw [if_neg (by omega), Nat.add_sub_cancel] at h2
    obtain ⟨hl, _⟩ := List.getElem?_eq_some_iff.1 hP
    unfold befT
    rw [if_pos (by omega), h2, List.getElem?_eq_getElem (by omega), List.getD_eq_getElem?_getD, List.getElem?_eq_getElem (by omega)]
    rfl
  constructor
  · intro j p hj hp
    by_cases e : p = place
    · subst e; simp only [if_true]; exact hb.symm
    · simp only [if_neg e]
      refine hF.1 j p ?_ hp
      by_cases e2 : j = k
      · subst e2; rw [hP] at hp; exact absurd (Option.some.inj hp).symm e
      · omega
  · intro p hp
    by_cases e : p = place
    · subst e; exact absurd hP (hp k (by omega))
    · simp only [if_neg e]
      exact hF.2 p fun j hj => hp j (by omega)
end Go.Proofs.Ytfhbkidceombbaa
