/-
  The document's Sign.
-/
import Derived.Test.YtabpcipfijakjaaPreX
import Derived.Test.YtabpcipfijakjaaBitsR
import Derived.Deep.DeepMust
namespace Go.Proofs.Ytabpcipfijakjaa
set_option maxRecDepth 100000
open Go.RowKit Go.Deep Go.Joins

/-- No word of at most so many bits stands next. -/
def NoW (ls W : Nat → Nat) (n v k : Nat) : Prop := ∀ i, i < n → 1 ≤ ls i → ls i ≤ k → W i ≠ rev v (ls i)
/-- Some word begins with so many bits that stand next. -/
def Begins (ls W : Nat → Nat) (n v q : Nat) : Prop := ∃ i, i < n ∧ q < ls i ∧ W i / 2 ^ (ls i - q) = rev v q
/-- What the document's Sign answers. -/
def DSign (ls W : Nat → Nat) (n v many : Nat) (x : Int) (e l : Nat) : Prop :=
  (∃ i : Nat, x = (i : Nat) ∧ e = 0 ∧ i < n ∧ ls i = l ∧ 1 ≤ l ∧ l ≤ many ∧ W i = rev v l ∧ NoW ls W n v (l - 1)) ∨
  (x = -1 ∧ e = 3 ∧ l = 0 ∧ many ≤ 15 ∧ NoW ls W n v many ∧ Begins ls W n v many) ∨
  (x = -1 ∧ e = 10 ∧ l = 0 ∧ ((many ≤ 15 ∧ NoW ls W n v many ∧ ¬ Begins ls W n v many) ∨ (15 < many ∧ NoW ls W n v 15)))
theorem rev_next (v q b : Nat) (h : v / 2 ^ q % 2 = b) : rev v (q + 1) = 2 * rev v q + b := by
  have e1 : rev v (q + 1) = rev v q * 2 + v / 2 ^ q % 2 := rfl
  omega
theorem tx_next (v q b : Nat) (hb : b < 2) (h : v / 2 ^ q % 2 = b) : tx (rev v (q + 1)) (q + 1) = tx (rev v q) q ++ text [48 + b] := by
  rw [rev_next v q b h, tx_snoc _ _ hb]
/-- A text's length, behind a name (a match in a measure is taken apart by the walk). -/
def szOf (v : Value) : Nat := match v with | .string b => b.size | _ => 0
theorem szOf_str (b : ByteArray) : szOf (.string b) = b.size := rfl
theorem tx_ne {T1 T : ByteArray} (h : T1 ≠ T) : (T1.toList == T.toList) = false := by
  rw [beq_eq_false_iff_ne, Lib.toList_data, Lib.toList_data]
  intro e
  exact h (ByteArray.ext (Array.toList_inj.1 e))
theorem one_drew (w : World) (y : Nat) (hy : y < 256) (d : Nat) : (convert 22 9 (.slice (some ⟨w.heap.size, 0, none⟩) 1 1)).run Try.prog ((w.alloc (.cells #[.int .u8 (y : Nat)] 5)).drewN d) = .ok (.string (text [y])) ((w.alloc (.cells #[.int .u8 (y : Nat)] 5)).drewN d) :=
  run_convert_bytes_back (P := Try.prog) _ 22 9 5 ⟨w.heap.size, 0, none⟩ 1 [UInt8.ofNat y] Try.underlying22 Try.underlying5 Try.underlying9 (fun j hj => by
    obtain rfl : j = 0 := by simpa using hj
    rw [Addr.add_lit, World.cell?_drewN, cell_of_row _ _ _ _ _ _ (heap_alloc_new w _)]
    have : (UInt8.ofNat y).toNat = y := Nat.mod_eq_of_lt hy
    simp [this])

/-- What becomes of the document's Sign. -/
def SignOut (ls W : Nat → Nat) (n v many gr a : Nat) (s : ByteArray) (w : World) (e : Ending) (w' : World) : Prop :=
  ∃ (x : Int) (k l : Nat), e = .returned (.tuple #[.int .i64 x, .int .i64 k]) ∧ DSign ls W n v many x k l ∧ Rd 36 w' gr s (a + l) 0 ∧ w.grownBy w' (some gr)
set_option maxHeartbeats 4000000 in
theorem rsign (gW n gr : Nat) (ls W : Nat → Nat) (s : ByteArray) (a : Nat) (hs : s.size ≤ 1000000) (ha : a ≤ 8 * s.size) (hn : n ≤ 4096) (w : World) (hr : IsRowS w gW n (fun i => tx (W i) (ls i)))
    (h15 : ∀ i, i < n → ls i ≤ 15) (hW : ∀ i, i < n → W i < 2 ^ ls i) (hrd : Rd 36 w gr s a 0) :
    Calls Try.prog 14 #[.slice (some ⟨gW, 0, none⟩) n n, .pointer (some ⟨gr, 0, none⟩)] w fun e w' => SignOut ls W n (num s / 2 ^ a) (8 * s.size - a) gr a s w e w' := by
  have HR := Lib.hid hr
  have HRD := Lib.hid hrd
  have H15 := Lib.hid h15
  have HW := Lib.hid hW
  have c2 := hrd.c2
  have hgr := hrd.lt
  have hgW := hr.lt
  have HBIT := Lib.hid (fun q (h : a + q < 8 * s.size) w => rbit_any s (a + q) hs h w)
  have HBV : Hid (∀ q, bitsAt (num s) (a + q) 1 = num s / 2 ^ a / 2 ^ q % 2) := fun q => by
    unfold bitsAt
    rw [Nat.div_div_eq_div_mul, ← Nat.pow_add, Nat.pow_one]
  generalize num s / 2 ^ a = v at *
  clear hrd hr h15 hW
  go_enter Try.func14, Try.ntmps14
  go_wp2_with fail
  go_loopw [6] (fun t wr => ∃ q : Nat, q ≤ 16 ∧ q ≤ 8 * s.size - a ∧ t = .string (tx (rev v q) q) ∧ Hid (NoW ls W n v (q - 1)) ∧ Hid (Below w.heap.size w wr)) (fun t _ => 16 - szOf t)
  case atStart => exact ⟨0, by omega, by omega, rfl, fun i _ h1 h2 => by omega, Lib.hid (Below.refl _ _)⟩
  case round =>
    obtain ⟨q, hq, hqm, rfl, HN, HB⟩ := hrel
    have hsz := tx_size (rev v q) q
    by_cases hq16 : q = 16
    · subst hq16
      generalize tx (rev v 16) 16 = T at *
      go_wp2
      go_ret2
      exact ⟨-1, 10, 0, rfl, .inr (.inr ⟨rfl, rfl, rfl, .inr ⟨by omega, HN.out⟩⟩), HRD.out.below HB.out hgr, grown_of_below HB.out⟩
    · have hq15 : q ≤ 15 := by omega
      have HTW := Lib.hid (fun k (h : k < n) => tx_word ls W n q (rev v q) (rev_lt v q) HW.out k h)
      have HTN := Lib.hid (fun b hb h => tx_next v q b hb h)
      have HCUT := Lib.hid (fun k (h : q ≤ ls k) => tx_cut (W k) (ls k) q h)
      have HCE := Lib.hid (fun k (h : q ≤ ls k) (hk : k < n) => (tx_eq (W k / 2 ^ (ls k - q)) (rev v q) q q (by
        have := HW.out k hk
        rw [show ls k = ls k - q + q by omega, Nat.pow_add] at this
        exact Nat.div_lt_of_lt_mul this) (rev_lt v q)))
      generalize hTT : tx (rev v q) q = T at *
      have HTT := Lib.hid hTT
      clear hTT
      go_wp2_with fail
      go_loop [25] (fun i => ∃ k : Nat, k ≤ n ∧ i = .int .i64 (k : Nat) ∧ Hid (∀ i, i < k → 1 ≤ ls i → ls i = q → W i ≠ rev v q)) (fun i => n - (intOf i).toNat)
      case atStart => exact ⟨0, Nat.zero_le _, rfl, fun i h => by omega⟩
      case round =>
        obtain ⟨k, hk, rfl, HK⟩ := hrel
        by_cases hkn : k < n
        · have hck : wr.cell? ⟨gW, k, none⟩ = some (.string (tx (W k) (ls k))) := (HB.out.cell (p := ⟨gW, k, none⟩) hgW).trans (HR.out.cell k hkn)
          have hs1 := tx_size (W k) (ls k)
          have HI := Lib.hid (HTW.out k hkn)
          generalize tx (W k) (ls k) = T1 at *
          by_cases hl0 : ls k = 0
          · have HKN : Hid (∀ i, i < k + 1 → 1 ≤ ls i → ls i = q → W i ≠ rev v q) := fun i h1 h2 h3 => by
              by_cases e : i = k
              · subst e; omega
              · exact HK.out i (by omega) h2 h3
            rw [hl0] at hs1
            clear hl0
            go_wp2_with fail
            go_round
            case rel => exact ⟨k + 1, by omega, by go_num, HKN⟩
            case measure => simp [intOf]; omega
          · by_cases heq : T1 = T
            · subst heq
              have hlq : ls k = q := by rw [← hs1, hsz]
              have hq0 : 0 < q := by omega
              have hwk : W k = rev v q := (HI.out.1 rfl).2
              have HE : Hid (ls k = q ∧ W k = rev v q) := ⟨hlq, hwk⟩
              have c1 : wr.cell? ⟨gr, 1, none⟩ = some (.int .i64 (a : Nat)) := (HRD.out.below HB.out hgr).c1
              have cf := (HRD.out.below HB.out hgr).fr 1
              have HRD2 := Lib.hid ((HRD.out.below HB.out hgr).setAt (a + q))
              have HG2 := Lib.hid (grown_then (grown_of_below HB.out) (grown_set wr gr 1 (.int .i64 ((a + q : Nat) : Int))))
              clear hlq hwk hl0 hs1
              go_wp2_with fail
              go_ret2
              exact ⟨(k : Nat), 0, q, rfl, .inl ⟨k, rfl, rfl, hkn, HE.out.1, hq0, by omega, HE.out.2, HN.out⟩, HRD2.out, HG2.out⟩
            · have hb1 := tx_ne heq
              have hpos : 0 < ls k := by omega
              have HKN : Hid (∀ i, i < k + 1 → 1 ≤ ls i → ls i = q → W i ≠ rev v q) := fun i h1 h2 h3 h4 => by
                by_cases e : i = k
                · subst e; exact heq (HI.out.2 ⟨h3, h4⟩)
                · exact HK.out i (by omega) h2 h3 h4
              clear hl0
              generalize ls k = l1 at *
              go_wp2_with fail
              go_round
              case rel => exact ⟨k + 1, by omega, by go_num, HKN⟩
              case measure => simp [intOf]; omega
        · obtain rfl : k = n := by omega
          have HNQ : Hid (NoW ls W k v q) := fun i h1 h2 h3 => by
            by_cases e : ls i = q
            · rw [e]; exact HK.out i h1 h2 e
            · exact HN.out i h1 h2 (by omega)
          have hrw := HRD.out.below HB.out hgr
          have d0 := hrw.c0
          have d1 := hrw.c1
          clear hrw
          by_cases hend : 8 * s.size ≤ a + q
          · have hmq : 8 * s.size - a = q := by omega
            have HM := Lib.hid hmq
            clear hmq
            have g1 : decide ((8 : Int) * (s.size : Int) ≤ (a : Int) + (q : Int)) = true := decide_eq_true (by omega)
            go_wp2_with fail
            go_quiet (fail)
            go_wp2_with fail
            go_loop [66] (fun i => ∃ j : Nat, j ≤ k ∧ i = .int .i64 (j : Nat) ∧ Hid (∀ i, i < j → q < ls i → W i / 2 ^ (ls i - q) ≠ rev v q)) (fun i => k - (intOf i).toNat)
            case atStart => exact ⟨0, Nat.zero_le _, rfl, fun i h => by omega⟩
            case round =>
              obtain ⟨j, hj, rfl, HJ⟩ := hrel
              by_cases hjn : j < k
              · have hck : wr.cell? ⟨gW, j, none⟩ = some (.string (tx (W j) (ls j))) := (HB.out.cell (p := ⟨gW, j, none⟩) hgW).trans (HR.out.cell j hjn)
                have hs1 := tx_size (W j) (ls j)
                by_cases hlq : q < ls j
                · have hcut := HCUT.out j (by omega)
                  have HCEJ := Lib.hid (HCE.out j (by omega) hjn)
                  have hl15 := H15.out j hjn
                  generalize tx (W j) (ls j) = T1 at *
                  rw [← hcut] at HCEJ
                  clear hcut
                  have hse : (T1.extract 0 q).size = q := by rw [ByteArray.size_extract]; omega
                  generalize hT2 : T1.extract 0 q = T2 at *
                  have hqs : ¬ T1.size < q := by omega
                  by_cases heq : T2 = T
                  · have HBG : Hid (Begins ls W k v q) := ⟨j, hjn, hlq, (HCEJ.out.1 heq).2⟩
                    subst heq
                    generalize ls j = l1 at *
                    go_wp2_with fail
                    go_ret2
                    exact ⟨-1, 3, 0, rfl, .inr (.inl ⟨rfl, rfl, rfl, by omega, by rw [HM.out]; exact HNQ.out, by rw [HM.out]; exact HBG.out⟩), (HRD.out.below HB.out hgr).drewN _, grown_of_below (below_drewN HB.out _)⟩
                  · have hb1 := tx_ne heq
                    have HJN : Hid (∀ i, i < j + 1 → q < ls i → W i / 2 ^ (ls i - q) ≠ rev v q) := fun i h1 h2 h3 => by
                      by_cases e : i = j
                      · subst e; exact heq (HCEJ.out.2 ⟨trivial, h3⟩)
                      · exact HJ.out i (by omega) h2 h3
                    generalize ls j = l1 at *
                    go_wp2_with fail
                    go_round
                    case rel => exact ⟨j + 1, by omega, by go_num, HJN⟩
                    case measure => simp [intOf]; omega
                · have HJN : Hid (∀ i, i < j + 1 → q < ls i → W i / 2 ^ (ls i - q) ≠ rev v q) := fun i h1 h2 h3 => by
                    by_cases e : i = j
                    · subst e; exact absurd h2 hlq
                    · exact HJ.out i (by omega) h2 h3
                  generalize tx (W j) (ls j) = T1 at *
                  generalize ls j = l1 at *
                  have g2 : decide ((q : Int) < (l1 : Int)) = false := decide_eq_false (by omega)
                  have g3 : decide (q < l1) = false := decide_eq_false hlq
                  go_wp2_with fail
                  go_round
                  case rel => exact ⟨j + 1, by omega, by go_num, HJN⟩
                  case measure => simp [intOf]; omega
              · obtain rfl : j = k := by omega
                go_wp2_with fail
                go_ret2
                exact ⟨-1, 10, 0, rfl, .inr (.inr ⟨rfl, rfl, rfl, .inl ⟨by omega, by rw [HM.out]; exact HNQ.out, by rw [HM.out]; exact fun ⟨i, h1, h2, h3⟩ => HJ.out i h1 h2 h3⟩⟩), (HRD.out.below HB.out hgr).drewN _, grown_of_below (below_drewN HB.out _)⟩
          · have g1 : decide ((8 : Int) * (s.size : Int) ≤ (a : Int) + (q : Int)) = false := decide_eq_false (by omega)
            go_wp2_with fail
            go_quiet (fail)
            go_wp2_with fail
            have HBQ : Hid (Below w.heap.size w (wr.drewN nq)) := below_drewN HB.out _
            replace d0 : (wr.drewN nq).cell? ⟨gr, 0, none⟩ = some (.string s) := d0
            replace d1 : (wr.drewN nq).cell? ⟨gr, 1, none⟩ = some (.int .i64 (a : Nat)) := d1
            generalize wr.drewN nq = wq at *
            have hbit := HBIT.out q (by omega)
            have hwr : IntKind.i64.wrap ((a : Int) + (q : Int)) = (a : Int) + (q : Int) := by rw [IntKind.wrap_i64]; omega
            rw [HBV.out q] at hbit
            rcases Nat.mod_two_eq_zero_or_one (v / 2 ^ q) with hb | hb
            · rw [hb] at hbit
              have HBT := Lib.hid hbit
              have HTX := Lib.hid (HTN.out 0 (by omega) hb)
              have h1 := one_drew wq 48 (by omega) 0
              have h2 := one_drew wq 48 (by omega) 1
              rw [show ((48 : Nat) : Int) = 48 from rfl] at h1 h2
              replace h1 : (convert 22 9 (.slice (some ⟨wq.heap.size, 0, none⟩) 1 1)).run Try.prog (wq.alloc (.cells #[.int .u8 48] 5)) = .ok (.string (text [48])) (wq.alloc (.cells #[.int .u8 48] 5)) := h1
              replace h2 : (convert 22 9 (.slice (some ⟨wq.heap.size, 0, none⟩) 1 1)).run Try.prog (wq.alloc (.cells #[.int .u8 48] 5)).drew = .ok (.string (text [48])) (wq.alloc (.cells #[.int .u8 48] 5)).drew := h2
              have hs1 : (text [48]).size = 1 := rfl
              have hu1 : IntKind.u32.wrap 48 = 48 := by decide
              have hu2 : IntKind.u8.wrap 48 = 48 := by decide
              have hu3 : IntKind.u32.wrap (48 + 1) = 49 := by decide
              have hqb : ¬ 9223372036854775807 < q + 1 := by omega
              generalize htt : text [48] = T1 at *
              have HT1 := Lib.hid htt
              clear hb htt hbit
              go_region_law (first | (go_simp; go_at_call 48; refine (HBT.out _).mono ?_; rintro e w' ⟨rfl, rfl⟩))
              all_goals
                simp only [Act.put, List.setIfInBounds_toArray, List.getElem_toArray, List.getElem_cons_succ, List.getElem_cons_zero, List.set_cons_zero, List.set_cons_succ]
                go_roundw
                case rel =>
                  refine ⟨_, _, _, _, _, _, _, _, _, _, _, _, _, _, _, _, _, _, _, _, _, _, _, _, _, _, _, _, _, _, _, _, _, _, _, _, _, _, _, _, _, _, _, _, _, _, _, _, _, _, _, _, _, _, _, _, _, _, _, _, _, _, _, _, _, _, _, _, _, _, _, _, _, _, _, _, _, _, _, _, _, _, _, _, _, _, _, _, ?_, rfl⟩
                  exact ⟨q + 1, by omega, by omega, by rw [HTX.out, ← HT1.out], HNQ, below_drewN (below_alloc HBQ.out _) 1⟩
                case measure => simp [szOf_str, hsz, hs1]; omega
            · rw [hb] at hbit
              have HBT := Lib.hid hbit
              have HTX := Lib.hid (HTN.out 1 (by omega) hb)
              have h1 := one_drew wq 49 (by omega) 0
              have h2 := one_drew wq 49 (by omega) 1
              rw [show ((49 : Nat) : Int) = 49 from rfl] at h1 h2
              replace h1 : (convert 22 9 (.slice (some ⟨wq.heap.size, 0, none⟩) 1 1)).run Try.prog (wq.alloc (.cells #[.int .u8 49] 5)) = .ok (.string (text [49])) (wq.alloc (.cells #[.int .u8 49] 5)) := h1
              replace h2 : (convert 22 9 (.slice (some ⟨wq.heap.size, 0, none⟩) 1 1)).run Try.prog (wq.alloc (.cells #[.int .u8 49] 5)).drew = .ok (.string (text [49])) (wq.alloc (.cells #[.int .u8 49] 5)).drew := h2
              have hs1 : (text [49]).size = 1 := rfl
              have hu1 : IntKind.u32.wrap 49 = 49 := by decide
              have hu2 : IntKind.u8.wrap 49 = 49 := by decide
              have hu3 : IntKind.u32.wrap (48 + 1) = 49 := by decide
              have hqb : ¬ 9223372036854775807 < q + 1 := by omega
              generalize htt : text [49] = T1 at *
              have HT1 := Lib.hid htt
              clear hb htt hbit
              go_region_law (first | (go_simp; go_at_call 48; refine (HBT.out _).mono ?_; rintro e w' ⟨rfl, rfl⟩))
              all_goals
                simp only [Act.put, List.setIfInBounds_toArray, List.getElem_toArray, List.getElem_cons_succ, List.getElem_cons_zero, List.set_cons_zero, List.set_cons_succ]
                go_roundw
                case rel =>
                  refine ⟨_, _, _, _, _, _, _, _, _, _, _, _, _, _, _, _, _, _, _, _, _, _, _, _, _, _, _, _, _, _, _, _, _, _, _, _, _, _, _, _, _, _, _, _, _, _, _, _, _, _, _, _, _, _, _, _, _, _, _, _, _, _, _, _, _, _, _, _, _, _, _, _, _, _, _, _, _, _, _, _, _, _, _, _, _, _, _, _, ?_, rfl⟩
                  exact ⟨q + 1, by omega, by omega, by rw [HTX.out, ← HT1.out], HNQ, below_drewN (below_alloc HBQ.out _) 1⟩
                case measure => simp [szOf_str, hsz, hs1]; omega
end Go.Proofs.Ytabpcipfijakjaa
