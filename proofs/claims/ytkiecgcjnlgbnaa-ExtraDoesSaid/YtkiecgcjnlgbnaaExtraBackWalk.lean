/-
  The walk of ExtraBack.
-/
import Derived.Test.YtkiecgcjnlgbnaaExM
import Derived.Test.YtkiecgcjnlgbnaaExN
import Derived.Test.YtkiecgcjnlgbnaaExtraReadsWalk
namespace Go.Proofs.Ytkiecgcjnlgbnaa
set_option maxRecDepth 100000
open Go.RowKit Go.Joins Go.Deep

theorem put_fnd (l : List Fd) (f : Fd) : fndD (putL l f) f.id = f.d ∧ fndB (putL l f) f.id = true := by
  have h := put_len l f
  constructor
  · unfold fndD
    rw [List.getElem?_eq_getElem h, put_at]
    rfl
  · exact decide_eq_true h
theorem prtE_form (l : List Fd) : prtE l = 0 ∨ prtE l = 5 := by
  unfold prtE
  split
  · exact .inl rfl
  · exact .inr rfl
theorem parE_form (s : ByteArray) : parE s = 0 ∨ parE s = 5 ∨ parE s = 24 := by
  unfold parE
  repeat' split
  · exact .inr (.inl rfl)
  · exact .inl rfl
  · exact .inr (.inr rfl)
theorem prs_idok (s : ByteArray) : ∀ f ∈ parL s, f.id < 65536 := by
  unfold parL
  split
  · intro f hf; cases hf
  · cases hp : prs s 0 [] with
    | none => intro f hf; cases hf
    | some m =>
      have : ∀ a acc, (∀ f ∈ acc, f.id < 65536) → ∀ m, prs s a acc = some m → ∀ f ∈ m, f.id < 65536 := by
        intro a acc
        fun_induction prs s a acc with
        | case1 a acc h1 => intro hacc m h; injection h with h; subst h; exact hacc
        | case2 a acc h1 h2 ih =>
          intro hacc m h
          refine ih (fun f hf => ?_) m h
          rcases List.mem_append.1 hf with hf | hf
          · exact hacc f hf
          · simp at hf; subst hf; exact idA_lt s a
        | case3 => intro _ m h; cases h
      exact this 0 [] (fun f hf => by cases hf) m hp
/-- What the law's last part asks, in a world behind the rest. -/
structure BkW (w wr : World) (A : Option Addr) (l : List Fd) (fid : Nat) (fd : ByteArray) : Prop where
  bel : Below w.heap.size w wr
  fds : Fds wr A l
  box : wr.heap[w.heap.size]? = some (.cells #[.int .u16 (fid : Nat), .string fd] 38 (0, 0))
theorem BkW.next {w wr w2 : World} {A : Option Addr} {l : List Fd} {fid : Nat} {fd : ByteArray} (h : BkW w wr A l fid fd) (hb : Below wr.heap.size wr w2) : BkW w w2 A l fid fd :=
  ⟨below_then h.bel hb, h.fds.below (Nat.le_refl _) hb, (hb.block _ (lt_of_heapE h.box)).trans h.box⟩
theorem BkW.c0 {w wr : World} {A : Option Addr} {l : List Fd} {fid : Nat} {fd : ByteArray} (h : BkW w wr A l fid fd) : wr.cell? ⟨w.heap.size, 0, none⟩ = some (.int .u16 (fid : Nat)) := by rw [cell_of_row _ _ 0 _ _ _ h.box]; rfl
theorem BkW.c1 {w wr : World} {A : Option Addr} {l : List Fd} {fid : Nat} {fd : ByteArray} (h : BkW w wr A l fid fd) : wr.cell? ⟨w.heap.size, 1, none⟩ = some (.string fd) := by rw [cell_of_row _ _ 1 _ _ _ h.box]; rfl
theorem ids_one (w : World) (fid : Nat) : Ids (w.alloc (.cells #[.int .u16 (fid : Nat)] 36)) (some ⟨w.heap.size, 0, none⟩) [fid] := fun _ => ⟨w.heap.size, 0, rfl, by simp, fun i hi => by
  simp at hi
  subst hi
  rw [Nat.zero_add, cell_of_row _ _ 0 _ _ _ (heap_alloc_new w _)]
  rfl⟩
set_option maxHeartbeats 8000000 in
theorem extraBack_walk (s : ByteArray) (A : Option Addr) (cap : Nat) (l : List Fd) (fi : Int) (fd : ByteArray) (hs : s.size ≤ maxLen) (hfi : (Lit.int .u16 fi).wf = true) (_hfd : fd.size ≤ maxLen) (w : World) (hF : Fds w A l) (hok : ∀ f ∈ l, FdOk f) (hn : A = none → l.length = 0 ∧ cap = 0) (hc : l.length ≤ cap) :
    Calls Try.prog 5 #[.string s, .slice A l.length cap, .agg #[.int .u16 fi, .string fd]] w fun e w' => e = .returned (.bool true) ∧ Below w.heap.size w w' := by
  have hit := info_fd2
  have hb0 : IntKind.u16.min ≤ fi ∧ fi ≤ IntKind.u16.max := by simpa [Lit.wf] using hfi
  rw [show IntKind.u16.min = 0 by decide, show IntKind.u16.max = 65535 by decide] at hb0
  obtain ⟨fid, rfl⟩ : ∃ n : Nat, fi = (n : Nat) := ⟨fi.toNat, by omega⟩
  have hfl : fid < 65536 := by omega
  have HOK := Lib.hid hok
  have HFE := Lib.hid (fun (w1 : World) h => few_any A cap l w1 h)
  have HPA := Lib.hid (fun (w1 : World) => parse_any s hs w1)
  have HSZ := Lib.hid hs
  have HN := Lib.hid hn
  have HW0 := Lib.hid (show BkW w (w.alloc (.cells #[.int .u16 (fid : Nat), .string fd] 38)) A l fid fd from ⟨(Below.refl _ _).alloc (Nat.le_refl _) _, hF.below (Nat.le_refl _) ((Below.refl _ _).alloc (Nat.le_refl _) _), heap_alloc_new w _⟩)
  have HAW := Lib.hid (fun w1 => awake13_any w1)
  clear hF hok hs hfi hb0 hn
  go_enter Try.func5, Try.ntmps5
  go_wp2_with fail
  generalize w.alloc (.cells #[.int .u16 (fid : Nat), .string fd] 38) = w0 at *
  refine (HAW.out _).mono ?_
  rintro e w1 ⟨rfl, hb1⟩
  have HW1 := Lib.hid (HW0.out.next hb1)
  clear hb1 HAW HW0
  by_cases hs7 : 70000 < s.size
  · go_wp2_with fail
    go_ret
    exact ⟨rfl, HW1.out.bel⟩
  · go_wp2_with fail
    refine (HFE.out _ HW1.out.fds).mono ?_
    rintro e w2 ⟨rfl, hb2⟩
    have HW2 := Lib.hid (HW1.out.next hb2)
    clear hb2 HW1
    cases hfew : fewB l with
    | false =>
      go_wp2_with fail
      go_ret
      exact ⟨rfl, HW2.out.bel⟩
    | true =>
      have hl60 := fewB_len hfew
      have HPR := Lib.hid (fun (w1 : World) h => print_any A cap l w1 h (fun f hf => (HOK.out f hf).1) (by omega))
      have HPL := Lib.hid (parL_len s)
      have HID := Lib.hid (prs_idok s)
      have HPM := Lib.hid (fun (w1 : World) B c h => print_any B c (parL s) w1 h HID.out HPL.out)
      have HPT := Lib.hid (fun (w1 : World) h => parse_any (text (prtT l)) h w1)
      have HPU := Lib.hid (fun (w1 : World) h => put_any A cap l ⟨fid, fd⟩ w1 h (by omega) HN.out hc)
      have HBK := Lib.hid (fun h => print_parse (l := l) (fun f hf => (HOK.out f hf).1) h)
      have HBP := Lib.hid (fun h => parse_print (s := s) h)
      have hpl := put_le l ⟨fid, fd⟩
      have HFN := Lib.hid (fun (w1 : World) B c h => find13_any B c (putL l ⟨fid, fd⟩) fid w1 h (by omega))
      rw [show fndD (putL l ⟨fid, fd⟩) fid = fd from (put_fnd l ⟨fid, fd⟩).1, show fndB (putL l ⟨fid, fd⟩) fid = true from (put_fnd l ⟨fid, fd⟩).2] at HFN
      have HWO := Lib.hid (fun (w1 : World) B c x h h2 => without_any B (some ⟨x, 0, none⟩) c 1 (putL l ⟨fid, fd⟩) [fid] w1 h h2 (by omega) (by simp))
      have hwp : (woL (putL l ⟨fid, fd⟩) [fid]).length + 1 = (putL l ⟨fid, fd⟩).length := wo_put l ⟨fid, fd⟩
      have HSL := Lib.hid (fun (w1 : World) B c h h2 => same_any A B cap c l w1 h h2 (by omega))
      have hTz : prtE l = 0 → (text (prtT l)).size ≤ 65535 := fun h => by
        cases hp : prt l [] with
        | none => rw [prtR_none hp] at h; omega
        | some o =>
          have := prt_some l [] o hp (by simp)
          unfold prtT
          rw [hp, text_size]
          exact this.2.1
      have HTZ := Lib.hid hTz
      have hpe := prtE_form l
      clear HFE hfew HID hTz
      generalize hpl2 : putL l ⟨fid, fd⟩ = pl at *
      generalize woL pl [fid] = wl at *
      clear hpl2
      go_wp2_with fail
      refine (HPR.out _ HW2.out.fds).mono ?_
      rintro e w3 ⟨rfl, hb3⟩
      have HW3 := Lib.hid (HW2.out.next hb3)
      clear hb3 HW2 HPR
      rcases hpe with he | he
      · rw [he]
        obtain ⟨g1, g2⟩ := HBK.out he
        have HPT2 := Lib.hid (fun (w1 : World) => HPT.out w1 (by have := HTZ.out he; unfold maxLen; omega))
        rw [g1, g2] at HPT2
        clear g1 g2 HBK HPT HTZ he
        generalize text (prtT l) = tl at *
        go_wp2_with fail
        refine (HPT2.out _).mono ?_
        rintro e w3b ⟨A3, cp3, rfl, hf3, hb3⟩
        have HW3b := Lib.hid (HW3.out.next hb3)
        have HF3 := Lib.hid hf3
        clear hb3 hf3 HW3 HPT2
        go_wp2_with fail
        refine (HSL.out _ _ _ HW3b.out.fds HF3.out).mono ?_
        rintro e w3c ⟨rfl, d, rfl⟩
        have HW4 := Lib.hid (HW3b.out.next (below_drewN (Below.refl _ _) d))
        clear HW3b HF3 HSL
        go_wp2_with fail
        refine (HPA.out _).mono ?_
        rintro e w5 ⟨A5, cp5, rfl, hf5, hb5⟩
        have HW5 := Lib.hid (HW4.out.next hb5)
        have HF5 := Lib.hid hf5
        clear hb5 hf5 HW4 HPA
        go_wp2_with fail
        refine (HPM.out _ _ _ HF5.out).mono ?_
        rintro e w6 ⟨rfl, hb6⟩
        have HWB := Lib.hid (HW5.out.next hb6)
        clear hb6 HW5 HPM HF5
        have hq := prtE_form (parL s)
        by_cases hp0 : parE s = 0
        · have hx := HBP.out hp0
          rw [hx.1, hx.2, hp0]
          clear hx hq hp0 HBP
          have c0 := HWB.out.c0
          have c1 := HWB.out.c1
          go_wp2_with fail
          refine (HPU.out _ HWB.out.fds).mono ?_
          rintro e wp ⟨Ap, cp, rfl, hfp, hnp, hbp⟩
          have HWC := Lib.hid (HWB.out.next hbp)
          have HFP := Lib.hid hfp
          clear hbp hnp hfp c0 c1 HPU HWB
          have c0 := HWC.out.c0
          go_wp2_with fail
          refine (HFN.out _ _ _ HFP.out).mono ?_
          rintro e wf ⟨rfl, hbf⟩
          have HWD := Lib.hid (HWC.out.next hbf)
          have hba := (Below.refl wf.heap.size wf).alloc (Nat.le_refl _) (.cells #[.int .u16 (fid : Nat)] 36)
          have HFQ := Lib.hid ((HFP.out.below (Nat.le_refl _) hbf).below (Nat.le_refl _) hba)
          have HWE := Lib.hid (HWD.out.next hba)
          have HID := Lib.hid (ids_one wf fid)
          clear hbf hba c0 HWC HFN HFP
          have c0 := HWD.out.c0
          have c1 := HWD.out.c1
          clear HWD
          have hpl1 : 1 ≤ pl.length := by omega
          have heq : ((wl.length : Int) == (pl.length : Int) - 1) = true := by rw [beq_iff_eq]; omega
          have hwr : IntKind.i64.wrap ((pl.length : Int) - 1) = (pl.length : Int) - 1 := by rw [IntKind.wrap_i64]; omega
          go_wp2_with fail
          refine (HWO.out _ _ _ _ HFQ.out HID.out).mono ?_
          rintro e wg ⟨Ag, cg, rfl, _, _, hbg⟩
          have HWG := Lib.hid (HWE.out.next hbg)
          clear hbg c0 c1
          go_wp2_with fail
          go_ret
          exact ⟨rfl, HWG.out.bel⟩
        · have hpb : (((parE s : Nat) : Int) == 0) = false := by rw [beq_eq_false_iff_ne]; omega
          generalize text (prtT (parL s)) = tx at *
          generalize prtE (parL s) = pq at *
          generalize parE s = pz at *
          clear hq hp0 HBP
          have c0 := HWB.out.c0
          have c1 := HWB.out.c1
          go_wp2_with fail
          refine (HPU.out _ HWB.out.fds).mono ?_
          rintro e wp ⟨Ap, cp, rfl, hfp, hnp, hbp⟩
          have HWC := Lib.hid (HWB.out.next hbp)
          have HFP := Lib.hid hfp
          clear hbp hnp hfp c0 c1 HPU HWB
          have c0 := HWC.out.c0
          go_wp2_with fail
          refine (HFN.out _ _ _ HFP.out).mono ?_
          rintro e wf ⟨rfl, hbf⟩
          have HWD := Lib.hid (HWC.out.next hbf)
          have hba := (Below.refl wf.heap.size wf).alloc (Nat.le_refl _) (.cells #[.int .u16 (fid : Nat)] 36)
          have HFQ := Lib.hid ((HFP.out.below (Nat.le_refl _) hbf).below (Nat.le_refl _) hba)
          have HWE := Lib.hid (HWD.out.next hba)
          have HID := Lib.hid (ids_one wf fid)
          clear hbf hba c0 HWC HFN HFP
          have c0 := HWD.out.c0
          have c1 := HWD.out.c1
          clear HWD
          have hpl1 : 1 ≤ pl.length := by omega
          have heq : ((wl.length : Int) == (pl.length : Int) - 1) = true := by rw [beq_iff_eq]; omega
          have hwr : IntKind.i64.wrap ((pl.length : Int) - 1) = (pl.length : Int) - 1 := by rw [IntKind.wrap_i64]; omega
          go_wp2_with fail
          refine (HWO.out _ _ _ _ HFQ.out HID.out).mono ?_
          rintro e wg ⟨Ag, cg, rfl, _, _, hbg⟩
          have HWG := Lib.hid (HWE.out.next hbg)
          clear hbg c0 c1
          go_wp2_with fail
          go_ret
          exact ⟨rfl, HWG.out.bel⟩
      · rw [he]
        clear HBK HPT HTZ he HSL
        generalize text (prtT l) = tl at *
        have HW4 := Lib.hid HW3.out
        clear HW3
        go_wp2_with fail
        refine (HPA.out _).mono ?_
        rintro e w5 ⟨A5, cp5, rfl, hf5, hb5⟩
        have HW5 := Lib.hid (HW4.out.next hb5)
        have HF5 := Lib.hid hf5
        clear hb5 hf5 HW4 HPA
        go_wp2_with fail
        refine (HPM.out _ _ _ HF5.out).mono ?_
        rintro e w6 ⟨rfl, hb6⟩
        have HWB := Lib.hid (HW5.out.next hb6)
        clear hb6 HW5 HPM HF5
        have hq := prtE_form (parL s)
        by_cases hp0 : parE s = 0
        · have hx := HBP.out hp0
          rw [hx.1, hx.2, hp0]
          clear hx hq hp0 HBP
          have c0 := HWB.out.c0
          have c1 := HWB.out.c1
          go_wp2_with fail
          refine (HPU.out _ HWB.out.fds).mono ?_
          rintro e wp ⟨Ap, cp, rfl, hfp, hnp, hbp⟩
          have HWC := Lib.hid (HWB.out.next hbp)
          have HFP := Lib.hid hfp
          clear hbp hnp hfp c0 c1 HPU HWB
          have c0 := HWC.out.c0
          go_wp2_with fail
          refine (HFN.out _ _ _ HFP.out).mono ?_
          rintro e wf ⟨rfl, hbf⟩
          have HWD := Lib.hid (HWC.out.next hbf)
          have hba := (Below.refl wf.heap.size wf).alloc (Nat.le_refl _) (.cells #[.int .u16 (fid : Nat)] 36)
          have HFQ := Lib.hid ((HFP.out.below (Nat.le_refl _) hbf).below (Nat.le_refl _) hba)
          have HWE := Lib.hid (HWD.out.next hba)
          have HID := Lib.hid (ids_one wf fid)
          clear hbf hba c0 HWC HFN HFP
          have c0 := HWD.out.c0
          have c1 := HWD.out.c1
          clear HWD
          have hpl1 : 1 ≤ pl.length := by omega
          have heq : ((wl.length : Int) == (pl.length : Int) - 1) = true := by rw [beq_iff_eq]; omega
          have hwr : IntKind.i64.wrap ((pl.length : Int) - 1) = (pl.length : Int) - 1 := by rw [IntKind.wrap_i64]; omega
          go_wp2_with fail
          refine (HWO.out _ _ _ _ HFQ.out HID.out).mono ?_
          rintro e wg ⟨Ag, cg, rfl, _, _, hbg⟩
          have HWG := Lib.hid (HWE.out.next hbg)
          clear hbg c0 c1
          go_wp2_with fail
          go_ret
          exact ⟨rfl, HWG.out.bel⟩
        · have hpb : (((parE s : Nat) : Int) == 0) = false := by rw [beq_eq_false_iff_ne]; omega
          generalize text (prtT (parL s)) = tx at *
          generalize prtE (parL s) = pq at *
          generalize parE s = pz at *
          clear hq hp0 HBP
          have c0 := HWB.out.c0
          have c1 := HWB.out.c1
          go_wp2_with fail
          refine (HPU.out _ HWB.out.fds).mono ?_
          rintro e wp ⟨Ap, cp, rfl, hfp, hnp, hbp⟩
          have HWC := Lib.hid (HWB.out.next hbp)
          have HFP := Lib.hid hfp
          clear hbp hnp hfp c0 c1 HPU HWB
          have c0 := HWC.out.c0
          go_wp2_with fail
          refine (HFN.out _ _ _ HFP.out).mono ?_
          rintro e wf ⟨rfl, hbf⟩
          have HWD := Lib.hid (HWC.out.next hbf)
          have hba := (Below.refl wf.heap.size wf).alloc (Nat.le_refl _) (.cells #[.int .u16 (fid : Nat)] 36)
          have HFQ := Lib.hid ((HFP.out.below (Nat.le_refl _) hbf).below (Nat.le_refl _) hba)
          have HWE := Lib.hid (HWD.out.next hba)
          have HID := Lib.hid (ids_one wf fid)
          clear hbf hba c0 HWC HFN HFP
          have c0 := HWD.out.c0
          have c1 := HWD.out.c1
          clear HWD
          have hpl1 : 1 ≤ pl.length := by omega
          have heq : ((wl.length : Int) == (pl.length : Int) - 1) = true := by rw [beq_iff_eq]; omega
          have hwr : IntKind.i64.wrap ((pl.length : Int) - 1) = (pl.length : Int) - 1 := by rw [IntKind.wrap_i64]; omega
          go_wp2_with fail
          refine (HWO.out _ _ _ _ HFQ.out HID.out).mono ?_
          rintro e wg ⟨Ag, cg, rfl, _, _, hbg⟩
          have HWG := Lib.hid (HWE.out.next hbg)
          clear hbg c0 c1
          go_wp2_with fail
          go_ret
          exact ⟨rfl, HWG.out.bel⟩
end Go.Proofs.Ytkiecgcjnlgbnaa
