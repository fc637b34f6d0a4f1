/-
  The walk of WeighOrders.
-/
import Derived.Test.YtljekdnjdcfliaaWeX
import Derived.Test.YtljekdnjdcfliaaWeI
namespace Go.Proofs.Ytljekdnjdcfliaa
open Go.RowKit

theorem mem_at0 {S : List Nat} {x : Nat} (h : x ∈ S) : ∃ i, i < S.length ∧ at0 S i = x := by
  obtain ⟨i, hi, e⟩ := List.getElem_of_mem h
  exact ⟨i, hi, by rw [at0, List.getElem?_eq_getElem hi, e]; rfl⟩
/-- What comes more often has no longer word. -/
theorem spec_orders {f L : Nat → Nat} {n most : Nat} (h : LenSpec f n most L) (i k : Nat) (hi : i < n) (hk : k < n) (hlt : f k < f i) (h0 : 0 < f k) : L i ≤ L k := by
  obtain ⟨S, hp, hs, _, _, h2⟩ := h
  obtain ⟨a, ha, ea⟩ := mem_at0 (hp.mem_iff.2 (comeL_mem f n i hi (by omega)))
  obtain ⟨b, hb, eb⟩ := mem_at0 (hp.mem_iff.2 (comeL_mem f n k hk h0))
  have hne : a ≠ b := by
    rintro rfl
    rw [ea] at eb
    subst eb
    omega
  have hab : b < a := by
    refine Nat.lt_of_not_le fun hle => ?_
    have := hs a b (Nat.zero_le _) hle hb
    rw [ea, eb] at this
    omega
  have h2 := h2 (by omega)
  rw [← ea, ← eb, h2 a ha, h2 b hb]
  exact lenR_anti _ _ _ (by omega)

def u32L (f : Nat → Nat) (n : Nat) : List Value := (List.range n).map fun i => Value.int .u32 (f i : Nat)
theorem u32L_succ (f : Nat → Nat) (n : Nat) : u32L f (n + 1) = u32L f n ++ [.int .u32 (f n : Nat)] := by simp [u32L, List.range_succ]
theorem cts_of_owns {w : World} {base n : Nat} {v : Value} {f : Nat → Nat} (h : w.ownsRow base 29 1 v n (u32L f n)) (hf : ∀ i, i < n → f i < 4294967296) : ∃ A cap, v = .slice A n cap ∧ Cts w A n f := by
  have h' := h
  obtain ⟨_, ⟨rfl, rfl⟩ | ⟨g, cap, cur, rfl, hb, hh, _⟩⟩ := h'
  · exact ⟨none, 0, rfl, fun h => by omega⟩
  · refine ⟨_, cap, rfl, fun _ => ⟨g, 0, rfl, lt_of_cells hh, fun i hi => ⟨?_, hf i hi⟩⟩⟩
    rw [Nat.zero_add, h.cellAt i (by omega)]
    simp [u32L, List.getElem?_range hi]
theorem info_u32 : (Try.prog.info? 29).map (fun i => (i.zero, i.size, i.bytes)) = some (some (.int .u32 0), 1, 4) := by kernel_rfl

set_option maxRecDepth 100000 in
set_option maxHeartbeats 8000000 in
theorem weighOrders_walk (a0 : Option Addr) (len0 cap0 : Nat) (z0 : List Int) (w : World)
    (w0 : (a0 = none ∧ len0 = 0 ∧ cap0 = 0 ∧ z0 = []) ∨ ∃ x, a0 = some x ∧ len0 ≤ cap0 ∧ cap0 ≤ maxLen ∧ z0.length = cap0 ∧ (∀ i, i < z0.length → w.cell? (x.add i) = some (.int .u16 (z0.getD i 0))) ∧ ∀ n ∈ z0, (Lit.int .u16 n).wf = true) :
    Calls Try.prog 9 #[.slice a0 len0 cap0] w fun e w' => e = .returned (.bool true) ∧ Below w.heap.size w w' := by
  have hC := cts16_row w0
  generalize (fun i => (z0.getD i 0).toNat) = f at hC
  clear w0
  obtain ⟨i0, hi, hz0, hz1, hz2⟩ := info_parts info_u32
  go_enter Try.func9, Try.ntmps9
  go_wp2_with fail
  refine (awake_any w).mono ?_
  rintro e w2 ⟨rfl, hb2⟩
  have HC2 := Lib.hid (hC.below (Nat.le_refl _) hb2)
  have HB2 := Lib.hid hb2
  by_cases h0 : 12 < len0
  · go_wp2_with fail
    go_ret
    exact ⟨rfl, hb2⟩
  · clear hb2 hC
    go_wp2_with fail
    go_loopw [3, 17] (fun v i wr => ∃ k : Nat, k ≤ len0 ∧ i = .int .i64 k ∧ wr.ownsRow w2.heap.size 29 1 v k (u32L f k) ∧ Below w2.heap.size w2 wr) (fun _ i _ => len0 - (intOf i).toNat)
    case atStart => exact ⟨0, Nat.zero_le _, rfl, World.ownsRow_nil _ _ _ _, Below.refl _ _⟩
    case round =>
      obtain ⟨k, hk, rfl, hown, hb⟩ := hrel
      have HO := Lib.hid hown
      have HB := Lib.hid hb
      clear hown hb
      by_cases hlt : k < len0
      · obtain ⟨bk, off, rfl, hbl, hcc⟩ := HC2.out (by omega)
        have c1 := (HB.out.cell (p := ⟨bk, off + k, none⟩) hbl).trans (hcc k hlt).1
        have hf := (hcc k hlt).2
        have HST : Hid (u32L f (k + 1) = u32L f k ++ [.int .u32 (f k : Nat)]) := u32L_succ f k
        clear hcc
        generalize f k = x at *
        have hw1 : IntKind.u32.wrap (x : Int) = x := by rw [IntKind.wrap_u32]; omega
        go_wp2_with (at_builtin; refine wpList_append_own _ rfl _ _ 65 rfl w2.heap.size 29 i0 (.int .u32 0) 1 4 Try.underlying65 hi hz0 hz1 hz2 rfl (by decide) _ _ _ rfl (HO.out.alloc _) ⟨wr.heap.size, 0, none⟩ 1 1 [.int .u32 (x : Nat)] rfl rfl ?c1 ?c2 ?c3 ?c4 ?c5 ?_)
        case c1 =>
          intro j u hj
          match j, hj with
          | 0, hj => simp at hj; subst hj; simp [Addr.add]
        case c2 => intro u hu; simp at hu; subst hu; rfl
        case c3 => unfold maxLen; omega
        case c4 => omega
        case c5 => have := HB.out.size; simp; omega
        intro v' w3 hown3 hgrow3 _
        have HOW := Lib.hid (fun h => (HO.out.lt h))
        go_wp2
        go_roundw
        case rel => exact ⟨k + 1, by omega, by go_num, by rw [HST.out]; exact hown3, (below_alloc HB.out _).grown hgrow3 (by have := HB.out.size; simp; omega) (fun h e => (HOW.out h e).1)⟩
        case measure => simp [intOf]; omega
      · obtain rfl : k = len0 := by omega
        have hf : ∀ i, i < k → f i < 65536 := fun i hi => by
          obtain ⟨_, _, _, _, hcc⟩ := HC2.out (by omega)
          exact (hcc i hi).2
        obtain ⟨A, cap, rfl, hcts⟩ := cts_of_owns HO.out (fun i hi => by have := hf i hi; omega)
        have hle := comeL_le f k
        have HLN := Lib.hid (lengths_any A k cap 15 f wr hcts (by omega) (by omega) (by omega) (Nat.le_trans (show (comeL f k).length ≤ 2 ^ 4 by omega) (by decide)) (fun _ _ _ _ _ h1 h2 => by omega))
        have HCT := Lib.hid hcts
        clear hcts
        go_wp2_with fail
        refine (HLN.out).mono ?_
        rintro e w4 ⟨gl, L, rfl, hl, hsp, hgl, hb4⟩
        have HL := Lib.hid hl
        have HSP := Lib.hid hsp
        have HB4 := Lib.hid (below_then' (below_then' HB2.out HB.out) hb4)
        have HCT4 := Lib.hid (HCT.out.below (Nat.le_refl _) hb4)
        clear hl hsp hb4
        go_wp2_with fail
        go_loopw [43] (fun i w5 => ∃ a d : Nat, a ≤ k ∧ i = .int .i64 a ∧ w5 = w4.drewN d) (fun i _ => k - (intOf i).toNat)
        case atStart => exact ⟨0, 0, Nat.zero_le _, rfl, rfl⟩
        case round =>
          obtain ⟨a, d, ha, rfl, rfl⟩ := hrel
          by_cases halt : a < k
          · go_wp2_with fail
            go_loopw [48] (fun i w5 => ∃ b d2 : Nat, b ≤ k ∧ i = .int .i64 b ∧ w5 = w4.drewN d2) (fun i _ => k - (intOf i).toNat)
            case atStart => exact ⟨0, d, Nat.zero_le _, rfl, rfl⟩
            case round =>
              obtain ⟨b, d2, hb, rfl, rfl⟩ := hrel
              by_cases hblt : b < k
              · obtain ⟨bk, off, rfl, hbl, hcc⟩ := HCT4.out (by omega)
                have c1 := (hcc a halt).1
                have c2 := (hcc b hblt).1
                have x1 := HL.out.cell a halt
                have x2 := HL.out.cell b hblt
                have hord := spec_orders HSP.out a b halt hblt
                clear hcc
                generalize f a = fa at *
                generalize f b = fb at *
                generalize L a = la at *
                generalize L b = lb at *
                by_cases h1 : fb < fa
                · by_cases h2 : 0 < fb
                  · have h3 := hord h1 h2
                    have h4 : ¬ lb < la := by omega
                    have g1 : decide ((fb : Int) < (fa : Int)) = true := decide_eq_true (by omega)
                    have g2 : decide ((0 : Int) < (fb : Int)) = true := decide_eq_true (by omega)
                    have g3 : decide ((lb : Int) < (la : Int)) = false := decide_eq_false (by omega)
                    go_wp2_with fail
                    go_quiet (fail)
                    go_wp2_with fail
                    go_roundw
                    case rel => exact ⟨b + 1, _, by omega, by go_num, rfl⟩
                    case measure => simp [intOf]; omega
                  · have g1 : decide ((fb : Int) < (fa : Int)) = true := decide_eq_true (by omega)
                    have g2 : decide ((0 : Int) < (fb : Int)) = false := decide_eq_false (by omega)
                    go_wp2_with fail
                    go_quiet (fail)
                    go_wp2_with fail
                    go_roundw
                    case rel => exact ⟨b + 1, _, by omega, by go_num, rfl⟩
                    case measure => simp [intOf]; omega
                · have g1 : decide ((fb : Int) < (fa : Int)) = false := decide_eq_false (by omega)
                  go_wp2_with fail
                  go_quiet (fail)
                  go_wp2_with fail
                  go_roundw
                  case rel => exact ⟨b + 1, _, by omega, by go_num, rfl⟩
                  case measure => simp [intOf]; omega
              · obtain rfl : b = k := by omega
                go_wp2_with fail
                go_roundw
                case rel => exact ⟨a + 1, d2, by omega, by go_num, rfl⟩
                case measure => simp [intOf]; omega
          · go_wp2_with fail
            go_ret
            exact ⟨rfl, below_drewN HB4.out _⟩
end Go.Proofs.Ytljekdnjdcfliaa
