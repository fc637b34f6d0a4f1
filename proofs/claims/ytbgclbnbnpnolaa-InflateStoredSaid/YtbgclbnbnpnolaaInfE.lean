/-
  Contracts: a block's signs; a stored block.
-/
import Derived.Test.YtbgclbnbnpnolaaInfD
import Derived.Deep.RegionHeld3
namespace Go.Proofs.Ytbgclbnbnpnolaa
set_option maxRecDepth 100000
open Go.RowKit Go.Deep Go.Joins

/-- The struct of a block's two codes. -/
def CsV (gs gd : Nat) : Value := .agg #[.pointer (some ⟨gs, 0, none⟩), .pointer (some ⟨gd, 0, none⟩)]
theorem step_again (c d : Cod) (s : Src) (a x a1 : Nat) (o o1 : List Nat) (h : signM c s a o = .ok (x, a1, o1)) (hx : 256 < x) : stepM c d () s a o = bindM (againM x d) (fun _ => retM (.inl ())) s a1 o1 := by
  unfold stepM
  rw [bind_ok h]
  show (if x = 256 then _ else _ : Mm _) s a1 o1 = _
  rw [if_neg (by omega), if_neg (by omega)]
theorem step_byte (c d : Cod) (s : Src) (a x a1 : Nat) (o o1 : List Nat) (h : signM c s a o = .ok (x, a1, o1)) (hx : x < 256) : stepM c d () s a o = bindM (putM x) (fun _ => retM (.inl ())) s a1 o1 := by
  unfold stepM
  rw [bind_ok h]
  show (if x = 256 then _ else _ : Mm _) s a1 o1 = _
  rw [if_neg (by omega), if_pos hx]
theorem step_end (c d : Cod) (s : Src) (a a1 : Nat) (o o1 : List Nat) (h : signM c s a o = .ok (256, a1, o1)) : stepM c d () s a o = .ok (.inr (), a1, o1) := by
  unfold stepM
  rw [bind_ok h]
  rfl
theorem step_bad (c d : Cod) (s : Src) (a e : Nat) (o : List Nat) (h : signM c s a o = .error e) : stepM c d () s a o = .error e := by
  unfold stepM
  rw [bind_err h]
theorem stable_again (x : Nat) (d : Cod) : Stable (againM x d) := stable_bind (stable_number _) fun _ => stable_bind (stable_sign _) fun _ => stable_bind (stable_number _) fun _ => stable_copy _ _
/-- How far a reader has come. -/
def rdAt (gr : Nat) (w : World) : Nat := match w.cell? ⟨gr, 1, none⟩ with
  | some (.int _ z) => z.toNat
  | _ => 0
theorem rdAt_of {w : World} {gr a e : Nat} {s : ByteArray} (h : Rd 81 w gr s a e) : rdAt gr w = a := by
  unfold rdAt
  rw [h.c1]
  simp

set_option maxHeartbeats 8000000 in
theorem signs_all (B g gr gs gd a0 lim : Nat) (r0 : Option Nat) (s : ByteArray) (o0 : List Nat) (c d : Cod) (hs : s.size ≤ 1000000) (hl : lim ≤ 1000000000) (w : World) (hB : B ≤ w.heap.size) (hS : Sm w B g gr r0 s a0 lim o0) (hc : CdC w gs c) (hd : CdC w gd d) :
    Calls Try.prog 55 #[.pointer (some ⟨g, 0, none⟩), CsV gs gd] w (PS w B g gr r0 s lim (fun _ => okE) badE (signsM c d (srcOf s lim) a0 o0)) := by
  unfold CsV
  have HS := Lib.hid hS
  have HC := Lib.hid hc
  have HD := Lib.hid hd
  clear hS hc hd
  go_enter Try.func55, Try.ntmps55
  go_wp2_with fail
  have hw1 : Below w.heap.size w (w.alloc (.cells #[.pointer (some ⟨gs, 0, none⟩), .pointer (some ⟨gd, 0, none⟩)] 112)) := (Below.refl _ _).alloc (Nat.le_refl _) _
  have HST1 : Hid ((w.alloc (.cells #[.pointer (some ⟨gs, 0, none⟩), .pointer (some ⟨gd, 0, none⟩)] 112)).heap[w.heap.size]? = some (.cells #[.pointer (some ⟨gs, 0, none⟩), .pointer (some ⟨gd, 0, none⟩)] 112 (0, 0))) := heap_alloc_new w _
  have HS1 := Lib.hid (HS.out.below hw1)
  have HC1 := Lib.hid (HC.out.far (far_below hw1))
  have HD1 := Lib.hid (HD.out.far (far_below hw1))
  have HU1 := Lib.hid (ups_below (g := g) (gr := gr) (r := r0) hw1)
  have hBz : B ≤ (w.alloc (.cells #[.pointer (some ⟨gs, 0, none⟩), .pointer (some ⟨gd, 0, none⟩)] 112)).heap.size := by simp; omega
  generalize w.alloc (.cells #[.pointer (some ⟨gs, 0, none⟩), .pointer (some ⟨gd, 0, none⟩)] 112) = w1 at *
  clear hw1
  go_loopw [6] (fun _ wr => ∃ a o r, (∀ ans, Runs (stepM c d) (srcOf s lim) () a o ans → Runs (stepM c d) (srcOf s lim) () a0 o0 ans) ∧ Sm wr B g gr r s a lim o ∧ UpS g gr r0 r w wr ∧ Far w1 wr) (fun _ wr => 8 * s.size - rdAt gr wr)
  case atStart => exact ⟨a0, o0, r0, fun _ h => h, HS1.out, HU1.out, Far.refl _⟩
  case round =>
    obtain ⟨a, o, r, hrun, hs1, hu1, hf1⟩ := hrel
    have HRUN := Lib.hid hrun
    have HSA := Lib.hid hs1
    have HUA := Lib.hid hu1
    have HFA := Lib.hid hf1
    have hst := hf1.cells HST1.out (by decide) (by decide) (by decide)
    have k0 : wr.cell? ⟨w.heap.size, 0, none⟩ = some (.pointer (some ⟨gs, 0, none⟩)) := by rw [cell_of_row wr _ 0 _ _ _ hst]; rfl
    have k1 : wr.cell? ⟨g, 0, none⟩ = some (.pointer (some ⟨gr, 0, none⟩)) := hs1.pin.c0
    have hsg := signC_any gs gr a lim c s o hs hs1.le wr.drew ((HC1.out.far hf1).far (far_below (below_drewN (Below.refl _ wr) 1))) (hs1.rd.drewN 1)
    have HM := Lib.hid (rdAt_of hs1.rd)
    have hale := hs1.le
    have HSB : Hid (Sm wr.drew B g gr r s a lim o) := hs1.drewN 1
    have HUB : Hid (UpS g gr r0 r w wr.drew) := hu1.then (ups_drewN wr 1)
    have HFB : Hid (Far w1 wr.drew) := hf1.then (far_below (below_drewN (Below.refl _ wr) 1))
    have HPK := Lib.hid (fun (w3 : World) (h : wr.drew.grownBy w3 (some gr)) => show w3.cell? ⟨w.heap.size, 0, none⟩ = some (.pointer (some ⟨gs, 0, none⟩)) ∧ w3.cell? ⟨g, 0, none⟩ = some (.pointer (some ⟨gr, 0, none⟩)) from
      ⟨by rw [cell_of_row w3 _ 0 _ _ _ ((HFB.out.then (far_read HSB.out.rd h)).cells HST1.out (by decide) (by decide) (by decide))]; rfl, (HSB.out.pin.grown HSB.out.rd h).c0⟩)
    clear hrun hs1 hu1 hf1 hst
    cases hn : signM c (srcOf s lim) a o with
    | error k =>
      have HSG := Lib.hid (hsg.mono fun r w' h => h.of_err hn)
      have HE := Lib.hid (loop_of (HRUN.out _ (.err (step_bad c d _ _ _ _ hn))))
      clear hn hsg
      go_wp2_with fail
      go_region_held3 (fun w' => w'.cell? ⟨w.heap.size, 0, none⟩ = some (.pointer (some ⟨gs, 0, none⟩)) ∧ w'.cell? ⟨g, 0, none⟩ = some (.pointer (some ⟨gr, 0, none⟩))) (first | exact ⟨k0, k1⟩ | exact hm) (first | (go_at_call 12; refine (HSG.out).mono ?_; rintro e w3 ⟨hg, hbad, hk0, hk1⟩; unfold sgBad at hbad; subst hbad; have hm := HPK.out w3 (by exact hg)))
      all_goals
        have hne : ((k : Int) == 0) = false := by rw [beq_eq_false_iff_ne]; omega
        have HG := Lib.hid hg
        clear hg hm
        go_wp2
        go_ret
        exact .err r HE.out (HUB.out.then (ups_read HG.out)) rfl hk0 hk1
    | ok q =>
      obtain ⟨x, a1, o1⟩ := q
      obtain rfl := sign_same hn
      have HSG := Lib.hid (hsg.mono fun r w' h => h.of_ok hn)
      have HSN := Lib.hid hn
      have hlt : a < a1 := by
        obtain ⟨l, h1, _, h2, _⟩ := sign_ok _ _ _ _ _ _ _ hn
        omega
      clear hn hsg
      go_wp2_with fail
      go_region_held3 (fun w' => w'.cell? ⟨w.heap.size, 0, none⟩ = some (.pointer (some ⟨gs, 0, none⟩)) ∧ w'.cell? ⟨g, 0, none⟩ = some (.pointer (some ⟨gr, 0, none⟩))) (first | exact ⟨k0, k1⟩ | exact hm) (first | (go_at_call 12; refine (HSG.out).mono ?_; rintro e w3 ⟨hg, ⟨rfl, hxn⟩, hr1, ha1⟩; have hm := HPK.out w3 (by exact hg)))
      trace_state
      have hS1 := HSB.out.read hg hr1 ha1
      have HS1 := Lib.hid hS1
      have HU1 := Lib.hid (HUB.out.then (ups_read (g := g) (r := r) hg))
      have HF1 := Lib.hid (HFB.out.then (far_read HSB.out.rd hg))
      have hBw : B ≤ w3.heap.size := Nat.le_trans hB HU1.out.1.size
      clear hg hr1 hS1 hm HSG HPK
      by_cases hx0 : x = 256
      · subst hx0
        have HE := Lib.hid (loop_of (HRUN.out _ (.done (step_end c d _ _ _ _ _ HSN.out))))
        go_wp2
        go_ret
        exact .ok r HE.out HU1.out rfl HS1.out
      · have hx1 : ((x : Int) == 256) = false := by rw [beq_eq_false_iff_ne]; omega
        by_cases hx2 : x < 256
        · have HON := Lib.hid (one_any B g gr a1 lim x r s o1 hl hx2 w3 hBw HS1.out)
          have HST := Lib.hid (step_byte c d _ _ _ _ _ _ HSN.out hx2)
          have hx3 : IntKind.u8.wrap (x : Int) = (x : Int) := by rw [IntKind.wrap_u8]; omega
          clear hx0
          go_wp2_with fail
          refine (HON.out).mono ?_; rintro e w4 hps
          cases hn : putM x (srcOf s lim) a1 o1 with
          | error k =>
            obtain ⟨r4, hu4, hbad, hk0, hk1⟩ := hps.of_err hn
            unfold badE at hbad
            subst hbad
            have HE := Lib.hid (loop_of (HRUN.out _ (.err (HST.out.trans (bind_err hn)))))
            have hne : ((k : Int) == 0) = false := by rw [beq_eq_false_iff_ne]; omega
            have HU4 := Lib.hid (HU1.out.then hu4)
            clear hn hps hu4
            go_wp2
            go_ret
            exact .err r4 HE.out HU4.out rfl hk0 hk1
          | ok q =>
            obtain ⟨u, a4, o4⟩ := q
            obtain ⟨r4, hu4, hok, hs4⟩ := hps.of_ok hn
            unfold okE at hok
            subst hok
            have ha4 : a4 = a1 := by
              unfold putM at hn
              split at hn
              · injection hn with hn
                cases hn
                rfl
              · cases hn
            subst ha4
            have HE := Lib.hid (fun ans h => HRUN.out ans (.more (HST.out.trans ((bind_ok hn).trans rfl)) h))
            have HU4 := Lib.hid (HU1.out.then hu4)
            have HF4 := Lib.hid (HF1.out.then (hu4.far HS1.out))
            have HS4 := Lib.hid hs4
            clear hn hps hu4 hs4
            go_wp2
            go_roundw
            case rel => exact ⟨a4, o4, r4, HE.out, HS4.out, HU4.out, HF4.out⟩
            case measure =>
              rw [rdAt_of HS4.out.rd, HM.out]
              omega
        · have h256 : 256 < x := by omega
          have hx3 : decide ((x : Int) < 256) = false := decide_eq_false (by omega)
          have hst := HF1.out.cells HST1.out (by decide) (by decide) (by decide)
          have k0 : w3.cell? ⟨w.heap.size, 1, none⟩ = some (.pointer (some ⟨gd, 0, none⟩)) := by rw [cell_of_row w3 _ 1 _ _ _ hst]; rfl
          have HON := Lib.hid (again_any B g gr gd a1 lim x r s o1 d hs hl w3 hBw HS1.out (HD1.out.far HF1.out))
          have HST := Lib.hid (step_again c d _ _ _ _ _ _ HSN.out h256)
          clear hx0 hst
          go_wp2_with fail
          refine (HON.out).mono ?_; rintro e w4 hps
          cases hn : againM x d (srcOf s lim) a1 o1 with
          | error k =>
            obtain ⟨r4, hu4, hbad, hk0, hk1⟩ := hps.of_err hn
            unfold badE at hbad
            subst hbad
            have HE := Lib.hid (loop_of (HRUN.out _ (.err (HST.out.trans (bind_err hn)))))
            have hne : ((k : Int) == 0) = false := by rw [beq_eq_false_iff_ne]; omega
            have HU4 := Lib.hid (HU1.out.then hu4)
            clear hn hps hu4
            go_wp2
            go_ret
            exact .err r4 HE.out HU4.out rfl hk0 hk1
          | ok q =>
            obtain ⟨u, a4, o4⟩ := q
            obtain ⟨r4, hu4, hok, hs4⟩ := hps.of_ok hn
            unfold okE at hok
            subst hok
            have ha4 : a1 ≤ a4 := (stable_again x d).grow _ _ _ _ _ _ ha1 (by show 8 * s.size % 8 = 0; omega) hn |>.1
            have hle4 := hs4.le
            have HE := Lib.hid (fun ans h => HRUN.out ans (.more (HST.out.trans ((bind_ok hn).trans rfl)) h))
            have HU4 := Lib.hid (HU1.out.then hu4)
            have HF4 := Lib.hid (HF1.out.then (hu4.far HS1.out))
            have HS4 := Lib.hid hs4
            clear hn hps hu4 hs4
            go_wp2
            go_roundw
            case rel => exact ⟨a4, o4, r4, HE.out, HS4.out, HU4.out, HF4.out⟩
            case measure =>
              rw [rdAt_of HS4.out.rd, HM.out]
              omega
end Go.Proofs.Ytbgclbnbnpnolaa
