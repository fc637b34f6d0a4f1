/-
  The walk of MatchChains: it returns true, whatever the text and the bytes.
-/
import Derived.Test.YtblojfgbdmnccaaMatI
import Derived.Deep.DeepMust
namespace Go.Proofs.Ytblojfgbdmnccaa
set_option maxRecDepth 100000
open Go.Joins Go.RowKit Go.Deep Go.ChangeMaps Go.ChangeShapes Go.WideShapes
open Go.Maps (Keyed IsMap has)

theorem own_int {w : World} {B c : Nat} {A : Option Addr} {o : List Nat} (h : w.ownsRow B 3 1 (.slice A o.length c) o.length (cellsI o)) (h0 : 0 < o.length) :
    ∃ g, A = some ⟨g, 0, none⟩ ∧ B ≤ g ∧ g < w.heap.size ∧ ∀ i, i < o.length → w.cell? ⟨g, i, none⟩ = some (.int .i64 ((o.getD i 0 : Nat) : Int)) := by
  have hl := h.lt
  rcases ownsRow_forms h with ⟨hv, hn⟩ | ⟨g2, cap, hv⟩
  · omega
  · injection hv with hA _ _
    subst hA
    refine ⟨g2, rfl, (hl g2 rfl).1, (hl g2 rfl).2, fun i hi => ?_⟩
    have := h.cellAt i (by omega)
    rw [this]
    simp only [cellsI, List.getElem?_map, List.getElem?_eq_getElem hi, Option.map_some, List.getD_eq_getElem?_getD, Option.getD_some]
set_option maxHeartbeats 8000000 in
theorem matchChains_walk (s : ByteArray) (a1 a2 a3 : Int) (_w0 : s.size ≤ maxLen) (w1 : (Lit.int .u8 a1).wf = true) (w2 : (Lit.int .u8 a2).wf = true) (w3 : (Lit.int .u8 a3).wf = true) (w : World) :
    Calls Try.prog 8 #[.string s, .int .u8 a1, .int .u8 a2, .int .u8 a3] w fun e w' => e = .returned (.bool true) ∧ Below w.heap.size w w' := by
  have u8of : ∀ z : Int, (Lit.int .u8 z).wf = true → ∃ x : Nat, z = (x : Nat) ∧ x < 256 := fun z h => by
    have h2 : IntKind.u8.min ≤ z ∧ z ≤ IntKind.u8.max := by simpa [Lit.wf] using h
    have e1 : IntKind.u8.min = 0 := by decide
    have e2 : IntKind.u8.max = 255 := by decide
    rw [e1, e2] at h2
    exact ⟨z.toNat, by omega, by omega⟩
  obtain ⟨x, rfl, hx⟩ := u8of a1 w1
  obtain ⟨y, rfl, hy⟩ := u8of a2 w2
  obtain ⟨z, rfl, hz⟩ := u8of a3 w3
  unfold maxLen at *
  by_cases h1 : 1000 < s.size
  · have g1 : decide ((1000 : Int) < (s.size : Int)) = true := decide_eq_true (by omega)
    have g2 : decide (1000 < s.size) = true := decide_eq_true h1
    go_enter Try.func8, Try.ntmps8
    go_wp2_with fail
    refine (awake7_any _).mono ?_; rintro e w1 ⟨rfl, hb1⟩
    go_wp2
    go_ret
    exact ⟨rfl, hb1⟩
  · have g1 : decide ((1000 : Int) < (s.size : Int)) = false := decide_eq_false (by omega)
    have g2 : decide (1000 < s.size) = false := decide_eq_false h1
    have HCH := Lib.hid (fun w => chains_any s (by omega) w)
    have HPL := Lib.hid (fun w => rplaces_any s x y z (by omega) w)
    have HXYZ : Hid (x < 256 ∧ y < 256 ∧ z < 256) := ⟨hx, hy, hz⟩
    have HM : Hid (s.size - 2 ≤ 1000) := by show s.size - 2 ≤ 1000; omega
    clear w1 w2 w3 hx hy hz u8of _w0
    go_enter Try.func8, Try.ntmps8
    go_wp2_with fail
    refine (awake7_any _).mono ?_; rintro e w1 ⟨rfl, hb1⟩
    go_wp2_with fail
    refine (HCH.out _).mono ?_; rintro e w2 ⟨rfl, hg2, hb2⟩
    have HG := Lib.hid hg2
    have HB : Hid (Below w.heap.size w w2) := hb1.trans (hb2.mono hb1.size)
    have HW1 : Hid (w.heap.size ≤ w1.heap.size) := hb1.size
    have HW2 : Hid (w1.heap.size ≤ w2.heap.size) := hb2.size
    have hown := groups_own hg2
    clear hb1 hb2 hg2
    generalize hmm : s.size - 2 = m at *
    have HMM := Lib.hid hmm
    clear hmm
    go_wp2_with (at_range; go_must (refine wpList_range_own _ rfl _ 72 rfl 75 23 tri_law Try.underlying72 _ w1.heap.size m _ rfl hown ?_; intro wi hrg0 hgr0 hs0))
    go_frame
    have HRG := Lib.hid hrg0
    have HGR := Lib.hid hgr0
    have HS0 := Lib.hid hs0
    clear hrg0 hgr0 hs0 hown
    go_loopw [10] (fun v wr => ∃ left cnt, v = .int .i64 ((cameN (bt s) left m : Nat) : Int) ∧ Hid (wr.ranges Try.prog 75 (rowElem w2 (w1.heap.size + 1) 3 .i64) w1.heap.size w2.heap.size m (gM (bt s) m) left cnt) ∧ Hid (w2.grownBy wr none) ∧ Hid (∀ kl, left kl = true → has (gM (bt s) m) kl = true)) (fun _ wr => wr.rangeLeft w1.heap.size w2.heap.size)
    case atStart =>
      refine ⟨_, _, ?_, HRG, HGR, fun kl h => h⟩
      rw [came_start (bt s) _ m fun p hp => (gM_has (bt s) (bt_lt s) _ m).2 ⟨p, hp, rfl⟩]
      rfl
    case round =>
      obtain ⟨left, cnt, rfl, HR, HGB, HHAS⟩ := hrel
      have hrg := HR.out
      go_wp2_with (at_next; go_must (refine wpList_next_ranges _ rfl _ rfl 75 tri_law _ (fun v : Value => v) mkS inv_key inv_slice w1.heap.size w2.heap.size m _ _ _ rfl hrg ?_ ?_))
      · intro _ hl0
        have hce := came_end (bt s) left hl0 m
        rw [hce]
        obtain ⟨v, zs, hlook, hat, hoi, hzl⟩ := look_local (t := 72) tri_law Try.underlying72 zero_ints HG.out (by unfold maxLen; have := HM.out; omega) (tk_of x y z HXYZ.out.1 HXYZ.out.2.1 HXYZ.out.2.2)
        rw [gM_at (bt s) (bt_lt s) x y z HXYZ.out.1 HXYZ.out.2.1 HXYZ.out.2.2] at hat
        have hzs := pd_inj hoi hat
        subst hzs
        have hm1 : (w1.heap.size : Nat) < w2.heap.size := (groups_own HG.out).lt
        have HLK : Hid (∀ u : World, u.heap[w1.heap.size]? = w2.heap[w1.heap.size]? → (Instr.lookup 72 (.map (some w1.heap.size)) (.agg #[.int .u8 (x : Nat), .int .u8 (y : Nat), .int .u8 (z : Nat)]) false).run Try.prog u = .ok v u) := hlook
        have hoi1 : w2.ownsRow (w1.heap.size + 1) 3 1 v (places (bt s) x y z m).length (cellsI (places (bt s) x y z m)) := by
          have h := hoi.1
          rw [cellsI_zs] at h
          simpa [zsOf] using h
        have hPm := places_len (bt s) x y z m
        generalize places (bt s) x y z m = P at *
        obtain ⟨A, cA, rfl⟩ := row_slice hoi1
        have HOI := Lib.hid hoi1
        have hPb : P.length ≤ 1000 := by have := HM.out; omega
        have hwr1 : wr.heap[w1.heap.size]? = w2.heap[w1.heap.size]? := HGB.out.block _ hm1 (by simp)
        have HWR := Lib.hid hwr1
        have hl00 := HLK.out wr.drew HWR.out
        have hsz2 : w2.heap.size ≤ wr.heap.size := HGB.out.size
        have HSZ2 := Lib.hid hsz2
        have HM1 : Hid (w1.heap.size < wr.heap.size) := Nat.lt_of_lt_of_le hm1 hsz2
        have HLTW : Hid (∀ g, g < w2.heap.size → g < wr.heap.size) := fun g h => Nat.lt_of_lt_of_le h hsz2
        have hmx : (2 ≤ s.size → (s.size : Int) - 2 = (m : Int)) ∧ (s.size < 2 → m = 0) := by have := HMM.out; omega
        have HPL0 := Lib.hid (HPL.out wr.drew)
        have hWR : Below w.heap.size w wr := ⟨HGB.out.os.trans HB.out.os, HGB.out.tape.trans HB.out.tape, HGB.out.output.trans HB.out.output, Nat.le_trans HB.out.size hsz2, fun i hi => (HGB.out.block i (by have := HB.out.size; have := HW1.out; have := HW2.out; omega) (by simp)).trans (HB.out.block i hi)⟩
        have HBW := Lib.hid hWR
        have HWS : Hid (w.heap.size ≤ wr.heap.size) := hWR.size
        have HBLK : Hid (∀ i, i < w2.heap.size → wr.heap[i]? = w2.heap[i]?) := fun i hi => HGB.out.block i hi (by simp)
        clear hat hoi hoi1 hzl hlook hwr1 hrg hce hsz2 hm1 hWR hPm
        go_wp2_with fail
        go_region_law (first | (go_simp; go_at_call 34; go_must (refine (HPL0.out).mono ?_; rintro e3 w3 ⟨v3, rfl, ho3, hb3⟩; obtain ⟨A3, cA3, rfl⟩ := row_slice ho3; have hl3 := HLK.out w3 ((hb3.block _ (by exact HM1.out)).trans (by exact HWR.out)))))
        all_goals
          have HO3 := Lib.hid ho3
          have HB3 : Hid (Below wr.heap.size wr w3) := ⟨hb3.os, hb3.tape, hb3.output, hb3.size, hb3.block⟩
          clear ho3 hb3 hl3 hl00
          go_wp2_with fail
        all_goals
          go_loopw [59] (fun i wr' => ∃ k : Nat, k ≤ P.length ∧ i = .int .i64 (k : Nat) ∧ Hid (∃ n, wr' = w3.drewN n)) (fun i _ => P.length - (intOf i).toNat)
          case atStart => exact ⟨0, Nat.zero_le _, rfl, 0, rfl⟩
          case round =>
            obtain ⟨k, hk, rfl, HD⟩ := hrel
            obtain ⟨nd, hd⟩ := HD.out
            by_cases hkn : k < P.length
            · obtain ⟨gA, rfl, _, hgA, hcA⟩ := own_int HOI.out (by omega)
              obtain ⟨g3, rfl, _, hg3, hc3⟩ := own_int HO3.out (by omega)
              have c1 : wr.cell? ⟨gA, k, none⟩ = some (.int .i64 ((P.getD k 0 : Nat) : Int)) := by
                rw [hd, World.cell?_drewN]
                exact (World.cell?_of_block (w := w2) ((HB3.out.block gA (by exact HLTW.out gA hgA)).trans (HBLK.out gA hgA))).trans (hcA k hkn)
              have c2 : wr.cell? ⟨g3, k, none⟩ = some (.int .i64 ((P.getD k 0 : Nat) : Int)) := by
                rw [hd, World.cell?_drewN]
                exact hc3 k hkn
              generalize P.getD k 0 = pk at *
              clear hcA hc3 hgA hg3 hd
              go_wp2_with fail
              go_quiet (fail)
              go_wp2_with fail
              go_roundw
              case rel =>
                refine ⟨k + 1, by omega, by go_num, ?_⟩
                obtain ⟨nd, hd⟩ := HD.out
                exact ⟨nd + _, by rw [hd, World.drewN_drewN]⟩
              case measure => simp [intOf]; omega
            · subst hd
              go_wp2
              go_ret
              exact ⟨rfl, below_drewN (HBW.out.trans (HB3.out.mono HWS.out)) nd⟩
      · intro x0 A nn cc kl y1 y2 w3 cnt1 hk hl hv hat hrg1 hlt hg1 hs1 hen
        obtain ⟨p, hp, hkl, hoi, hnn⟩ := came_val (bt s) (bt_lt s) m (HHAS.out kl hl) hv hat
        have hst := came_step (bt s) (bt_lt s) left (bt s p) (bt s (p + 1)) (bt s (p + 2)) (bt_lt s _) (bt_lt s _) (bt_lt s _) (by rw [← show kl = tk _ _ _ from hkl]; exact hl) m
        have hle := came_le (bt s) (fun z => left z && !z.sameKey kl) m
        rw [← show kl = tk _ _ _ from hkl, ← show nn = _ from hnn] at hst
        have HST := Lib.hid hst
        have hmb := HM.out
        have hb3 : cameN (bt s) left m + nn ≤ 1000 := by omega
        have HR1 := Lib.hid hrg1
        have HG1 : Hid (w2.grownBy w3 none) := HGB.out.andThen hg1 (fun j hj => by injection hj with e; omega)
        have HHAS1 : Hid (∀ k2, (fun z => left z && !z.sameKey kl) k2 = true → has (gM (bt s) m) k2 = true) := fun k2 h2 => HHAS.out k2 (by simp at h2; exact h2.1)
        have HLT := Lib.hid hlt
        simp only [mkS] at hen
        clear hk hl hv hat hrg1 hlt hg1 hs1 hoi hnn hst hle hkl hp
        generalize cameN (bt s) left m = c0 at *
        go_wp2_with fail
        go_roundw
        case rel =>
          refine ⟨_, _, ?_, HR1, HG1, HHAS1⟩
          rw [HST.out]
          rfl
        case measure =>
          rw [HR1.out.left_eq, HR.out.left_eq]
          have := HLT.out; omega
end Go.Proofs.Ytblojfgbdmnccaa
