/-
  The walk of FilterTakes.
-/
import Derived.Test.YtjnoapbddifcpaaGreatDoorPkDF
import Derived.Test.YtjnoapbddifcpaaGreatDoorPkBG
import Derived.Test.YtjnoapbddifcpaaGreatDoorItB
namespace Go.Proofs.YtjnoapbddifcpaaGreatDoor
set_option maxRecDepth 100000
set_option linter.unusedSimpArgs false
set_option linter.unusedVariables false
open Go.RowKit Go.Joins Go.Deep
open Go.Lib hiding intOf
theorem few_bothG {l : List Itm} (h : FewP l) : l.length ≤ 60 ∧ ∀ x ∈ l, x.s.size ≤ 1000 := by
  refine ⟨?_, fun x hx => (h x hx).2.1⟩
  cases l with
  | nil => decide
  | cons x l => exact (h x (by simp)).1
/-- What the answer goes by. -/
def FtS (w : World) (FA FB RA RB AT : Option Addr) (fa fb ra rb : Nat) (ins outs : List (List Atm)) (t : List Itm) (g1 g2 : Nat) (ww : World) : Prop :=
  Below w.heap.size w ww ∧ FilK ww (.agg #[.slice FA ins.length fa, .slice FB outs.length fb]) ins outs ∧ FilE ww (.agg #[.slice RA ins.length ra, .slice RB outs.length rb]) ins outs ∧ Itms ww AT t ∧ ww.heap[g1]? = some (.cells #[.slice FA ins.length fa, .slice FB outs.length fb] 36 (0, 0)) ∧ ww.heap[g2]? = some (.cells #[.slice RA ins.length ra, .slice RB outs.length rb] 42 (0, 0))
theorem FtS.next {w x z : World} {FA FB RA RB AT : Option Addr} {fa fb ra rb : Nat} {ins outs : List (List Atm)} {t : List Itm} {g1 g2 : Nat} (h : FtS w FA FB RA RB AT fa fb ra rb ins outs t g1 g2 x) (hb : Below x.heap.size x z) : FtS w FA FB RA RB AT fa fb ra rb ins outs t g1 g2 z := by
  obtain ⟨h1, h2, h3, h4, h5, h6⟩ := h
  exact ⟨below_thenE h1 hb, h2.below hb, h3.below hb, h4.below hb, (hb.block _ (lt_of_block h5)).trans h5, (hb.block _ (lt_of_block h6)).trans h6⟩
set_option maxHeartbeats 64000000 in
theorem filterTakes_core (A1 A2 AT A : Option Addr) (c1 c2 cT c : Nat) (ssi sso : List ByteArray) (p : ByteArray) (dir : Bool) (t : List Itm) (l : List Ent) (hW : ∀ E ∈ l, EntW E) (hn0 : l.length ≤ maxLen) (hn1 : t.length ≤ maxLen) (hn2 : ssi.length ≤ maxLen) (hn3 : sso.length ≤ maxLen) (hn4 : p.size ≤ maxLen) (w : World) (hR : Ents w A l) (hT : Itms w AT t) (hT1 : TxS w A1 ssi) (hT2 : TxS w A2 sso) (hE : Env w) (hU : Upper w) :
    Calls Tryz.prog 3 #[.slice A1 ssi.length c1, .slice A2 sso.length c2, .string p, .bool dir, .slice AT t.length cT, .slice A l.length c] w fun e w' => e = .returned (.bool true) ∧ Below w.heap.size w w' := by
  unfold maxLen at hn0 hn1 hn2 hn3 hn4
  have hif := info_fil
  have hid := info_filD
  have hie := info_entE
  have HAW := Lib.hid (awake22_any w hE.1)
  have HR := Lib.hid (fun w1 (hb : Below w.heap.size w w1) => hR.below hb)
  have HT := Lib.hid (fun w1 (hb : Below w.heap.size w w1) => hT.below hb)
  have HT1 := Lib.hid (fun w1 (hb : Below w.heap.size w w1) => hT1.below hb)
  have HT2 := Lib.hid (fun w1 (hb : Below w.heap.size w w1) => hT2.below hb)
  have HTB := Lib.hid (fun w1 (hb : Below w.heap.size w w1) => And.intro (hU.below hb) (hE.below hb))
  have HWE := Lib.hid hW
  clear hR hT hT1 hT2 hE hU hW
  go_enter Tryz.func3, Tryz.ntmps3
  go_wp2_with fail
  refine HAW.out.mono ?_; rintro e w1 ⟨rfl, hb1⟩
  have HB1 := Lib.hid hb1
  clear hb1 HAW
  obtain ⟨B1, hB1⟩ : ∃ B1, B1 = decide (LitP ssi) := ⟨_, rfl⟩
  obtain ⟨B2, hB2⟩ : ∃ B2, B2 = decide (LitP sso) := ⟨_, rfl⟩
  obtain ⟨B3, hB3⟩ : ∃ B3, B3 = decide (FewP t) := ⟨_, rfl⟩
  have HL1 := Lib.hid (light_any A1 c1 ssi (by omega) w1 (HT1.out w1 HB1.out))
  rw [← hB1] at HL1
  have HB1e := Lib.hid hB1
  have HB2e := Lib.hid hB2
  have HB3e := Lib.hid hB3
  clear hB1 hB2 hB3
  go_wp2_with fail
  refine HL1.out.mono ?_; rintro e w2 ⟨rfl, hb2⟩
  have HB2 := Lib.hid (below_thenE HB1.out hb2)
  have HL2 := Lib.hid (light_any A2 c2 sso (by omega) w2 (HT2.out w2 HB2.out))
  rw [← HB2e.out] at HL2
  clear hb2 HL1 HB1
  cases B1 with
  | false =>
    go_wp2_with fail
    go_ret
    exact ⟨rfl, HB2.out⟩
  | true =>
  go_wp2_with fail
  refine HL2.out.mono ?_; rintro e w3 ⟨rfl, hb3⟩
  have HB3 := Lib.hid (below_thenE HB2.out hb3)
  clear hb3 HL2 HB2
  cases B2 with
  | false =>
    go_wp2_with fail
    go_ret
    exact ⟨rfl, HB3.out⟩
  | true =>
  have HL3 := Lib.hid (fewI_any AT cT t w3 (HT.out w3 HB3.out) (by omega))
  rw [← HB3e.out] at HL3
  by_cases hp1 : 300 < p.size
  case pos =>
    have hp2 : (300 : Int) < (p.size : Int) := by omega
    have hp3 : decide ((300 : Int) < (p.size : Int)) = true := decide_eq_true hp2
    go_wp2_with fail
    go_ret
    exact ⟨rfl, HB3.out⟩
  have hp2 : ¬ (300 : Int) < (p.size : Int) := by omega
  have hp3 : decide ((300 : Int) < (p.size : Int)) = false := decide_eq_false hp2
  go_wp2_with fail
  refine HL3.out.mono ?_; rintro e w4 ⟨rfl, hb4⟩
  have HB4 := Lib.hid (below_thenE HB3.out hb4)
  clear hb4 HL3 HB3
  cases B3 with
  | false =>
    go_wp2_with fail
    go_ret
    exact ⟨rfl, HB4.out⟩
  | true =>
  by_cases hq1 : 30 < l.length
  case pos =>
    have hq2 : (30 : Int) < (l.length : Int) := by omega
    have hq3 : decide ((30 : Int) < (l.length : Int)) = true := decide_eq_true hq2
    go_wp2_with fail
    go_ret
    exact ⟨rfl, HB4.out⟩
  have hq2 : ¬ (30 : Int) < (l.length : Int) := by omega
  have hq3 : decide ((30 : Int) < (l.length : Int)) = false := decide_eq_false hq2
  have hp1 : LitP ssi := of_decide_eq_true HB1e.out.symm
  have hp2' : LitP sso := of_decide_eq_true HB2e.out.symm
  have hfp := few_bothG (of_decide_eq_true HB3e.out.symm)
  have HP1 := Lib.hid hp1
  have HP2 := Lib.hid hp2'
  have ht60 := hfp.1
  have HSS : Hid (∀ x ∈ t, x.s.size ≤ 1000) := hfp.2
  have HSZ : Hid (p.size ≤ 300) := by show _ ≤ _; omega
  clear HB1e HB2e HB3e hp1 hp2' hfp
  go_wp2_with fail
  go_loopw [51] (fun v51 wr => ∃ k : Nat, k ≤ l.length ∧ v51 = .int .i64 (k : Nat) ∧ Hid (∀ x ∈ l.take k, LitE x) ∧ Hid (Below w.heap.size w wr)) (fun v _ => l.length - (intOf v).toNat)
  case atStart => exact ⟨0, Nat.zero_le _, rfl, (fun s hs => by cases hs), HB4.out⟩
  case round =>
  clear HB4
  obtain ⟨k, hk, rfl, HS, HB⟩ := hrel
  by_cases hlt : k < l.length
  case pos =>
    have hd : decide ((k : Int) < (l.length : Int)) = true := decide_eq_true (by omega)
    obtain ⟨b, off, rfl, hb, hcc⟩ := (HR.out wr HB.out) (by omega)
    have HRG := Lib.hid (hcc k l[k] (List.getElem?_eq_getElem hlt))
    have HMEM : Hid (l[k] ∈ l) := List.getElem_mem hlt
    have HTK : Hid (l.take (k + 1) = l.take k ++ [l[k]]) := List.take_succ_eq_append_getElem hlt
    have HX1 := Lib.hid (boxE_row wr l[k])
    have HB1 := Lib.hid (boxE_below l[k].cells HB.out HB.out.size)
    have HLI := Lib.hid (lightE_any l[k] (HWE.out _ HMEM.out) (boxE wr l[k].cells))
    generalize l[k] = E at *
    have H17 := Lib.hid (ent_size E)
    have HON := Lib.hid (ent_one E)
    have HIE : Hid ((Tryz.prog.info? 32).map (·.size) = some E.cells.size) := info_entE
    have HLD : Hid (∀ {ops : Array Oper} {rest : List Oper} {op : Oper} {a : Act} {w : World} {Q : Exit → Act → World → Prop} (hgd : op.guard = none) (x : Operand) (ho : op.op = .load 32 x)
      (b o : Nat) (hx : a.eval x = .pointer (some ⟨b, o, none⟩)) (hc : w.rangeAt b o E.cellsL)
      (h : wpList Tryz.prog ops Q rest (a.put op.dst (.agg E.cells)) w), wpList Tryz.prog ops Q (op :: rest) a w) := fun hgd x ho b o hx hc h => wpList_load_ent E hgd x ho b o hx hc h
    generalize E.cells = EC at *
    clear hcc HB HT HT1 HT2 HTB HP1 HP2 HSS
    go_upto_region 8 with (first | (refine HLD.out rfl (.tmp 53) rfl b (off + k * 17) rfl HRG.out ?_) | (refine wpList_store_ent EC rfl (.tmp 14) (.tmp 54) rfl rfl rfl H17.out HON.out ?_))
    generalize wr.heap.size = gx at *
    generalize boxE wr EC = W1 at *
    clear HLD HRG
    go_wp2_with (refine wpList_load_row rfl 32 (.tmp 14) rfl gx rfl 32 _ (0, 0) _ HX1.out Tryz.underlying32 rfl HIE.out ?_)
    refine HLI.out.mono ?_; rintro e w2 ⟨rfl, hb2⟩
    have HB2 := Lib.hid (below_thenE HB1.out hb2)
    clear hb2 HLI HX1
    by_cases hL : LitE E
    · have e2 : decide (LitE E) = true := decide_eq_true hL
      rw [e2]
      have HS2 : Hid (∀ y ∈ l.take (k + 1), LitE y) := fun y hy => by
        rw [HTK.out, List.mem_append] at hy
        rcases hy with hy | hy
        · exact HS.out y hy
        · obtain rfl : y = _ := by simpa using hy
          exact hL
      have hk62 : (k : Int) + 1 < 9223372036854775807 := by omega
      clear HR HTK HMEM HS e2 hL
      go_wp2_with fail
      go_roundw
      case rel => exact ⟨k + 1, by omega, by go_num, HS2, HB2⟩
      case measure => simp [intOf]; omega
    · have e2 : decide (LitE E) = false := decide_eq_false hL
      rw [e2]
      clear HR HTK HMEM HS e2
      go_wp2_with fail
      go_ret
      exact ⟨rfl, HB2.out⟩
  obtain rfl : k = l.length := by omega
  have hd : decide ((l.length : Int) < (l.length : Int)) = false := decide_eq_false (by omega)
  have HLL : Hid (LightL l) := fun E hE => by
    have h := HS.out E (by rw [List.take_length]; exact hE)
    exact ⟨entOk_of h (HWE.out E hE), by have := h.1; omega⟩
  clear HS HWE hk hlt
  obtain ⟨ins, outs, z, hmk⟩ : ∃ ins outs z, mkV ssi sso = (ins, outs, z) := ⟨_, _, _, rfl⟩
  have HMK := Lib.hid (fmakeV_any A1 A2 c1 c2 ssi sso HP1.out HP2.out ins outs z hmk wr (HT1.out wr HB.out) (HT2.out wr HB.out) (HTB.out wr HB.out).2.1)
  have HMR := Lib.hid (fun w1 (hb : Below w.heap.size w w1) => rmakeV_any A1 A2 c1 c2 ssi sso HP1.out HP2.out ins outs z hmk w1 (HT1.out w1 hb) (HT2.out w1 hb))
  have HNO := Lib.hid (fun hz => mkV_none hmk hz)
  have HLE := Lib.hid (entQ_len ins outs l)
  clear HT1 HT2 HP1 HP2 hmk
  have HEN1 := Lib.hid (fun V w1 (hb : Below w.heap.size w w1) (hF : FilK w1 V ins outs) => entriesQ_any V ins outs A c l w1 (HR.out w1 hb) (by omega) HLL.out (HTB.out w1 hb).1 (HTB.out w1 hb).2 hF)
  have HEN2 := Lib.hid (fun V w1 (hb : Below w.heap.size w w1) (hF : FilE w1 V ins outs) => rentriesQ_any V ins outs A c l w1 (HR.out w1 hb) (by omega) HLL.out hF)
  generalize entQ ins outs l = L at *
  generalize entZ l = ez at *
  go_wp2_with fail
  refine HMK.out.mono ?_; rintro e w6 ⟨FA, fa, FB, fb, rfl, hF, hb6⟩
  clear HMK
  obtain ⟨w7, hw7⟩ : ∃ w7, w7 = w6.alloc (.cells #[.slice FA ins.length fa, .slice FB outs.length fb] 36) := ⟨_, rfl⟩
  have hb7 : Below w6.heap.size w6 w7 := by rw [hw7]; exact below_alP w6 _
  have HX7 : Hid (w7.heap[w6.heap.size]? = some (.cells #[.slice FA ins.length fa, .slice FB outs.length fb] 36 (0, 0))) := by show _ = _; rw [hw7]; exact heap_alloc_new w6 _
  have HF7 := Lib.hid (hF.below hb7)
  have HB7 := Lib.hid (below_thenE (below_thenE HB.out hb6) hb7)
  have HW7 := Lib.hid hw7
  clear hF hb6 hb7 hw7 HB
  go_upto_region 12 with fail
  rw [← HW7.out]
  clear HW7
  generalize w6.heap.size = g1 at *
  have HMQ := Lib.hid (HMR.out w7 HB7.out)
  clear HMR
  go_wp2_with fail
  refine HMQ.out.mono ?_; rintro e w8 ⟨RA, ra, RB, rb, rfl, hD, hb8⟩
  clear HMQ
  obtain ⟨w9, hw9⟩ : ∃ w9, w9 = w8.alloc (.cells #[.slice RA ins.length ra, .slice RB outs.length rb] 42) := ⟨_, rfl⟩
  have hb9 : Below w8.heap.size w8 w9 := by rw [hw9]; exact below_alP w8 _
  have hb79 := below_thenE hb8 hb9
  have HY9 : Hid (w9.heap[w8.heap.size]? = some (.cells #[.slice RA ins.length ra, .slice RB outs.length rb] 42 (0, 0))) := by show _ = _; rw [hw9]; exact heap_alloc_new w8 _
  have HX9 := Lib.hid ((hb79.block _ (lt_of_block HX7.out)).trans HX7.out)
  have HD9 := Lib.hid (hD.below hb9)
  have HF9 := Lib.hid (HF7.out.below hb79)
  have HB9 := Lib.hid (below_thenE HB7.out hb79)
  have HW9 := Lib.hid hw9
  clear hD hb8 hb9 hb79 hw9 HB7 HX7 HF7
  go_upto_region 13 with fail
  rw [← HW9.out]
  clear HW9
  generalize w8.heap.size = g2 at *
  have HC1 := Lib.hid (HEN1.out _ w9 HB9.out HF9.out)
  clear HEN1
  go_wp2_with (refine wpList_load_row rfl 36 (.tmp 15) rfl g1 rfl 36 _ (0, 0) _ HX9.out Tryz.underlying36 rfl info_fil ?_)
  refine HC1.out.mono ?_; rintro e wa ⟨Aa, ca, rfl, hia, hba⟩
  clear HC1
  have HXa := Lib.hid ((hba.block _ (lt_of_block HX9.out)).trans HX9.out)
  have HYa := Lib.hid ((hba.block _ (lt_of_block HY9.out)).trans HY9.out)
  have HDa := Lib.hid (HD9.out.below hba)
  have HFa := Lib.hid (HF9.out.below hba)
  have HBa := Lib.hid (below_thenE HB9.out hba)
  have HIa := Lib.hid hia
  clear hba hia HX9 HY9 HD9 HF9 HB9
  have HC2 := Lib.hid (HEN2.out _ wa HBa.out HDa.out)
  clear HEN2
  go_wp2_with (refine wpList_load_row rfl 42 (.tmp 17) rfl g2 rfl 42 _ (0, 0) _ HYa.out Tryz.underlying42 rfl info_filD ?_)
  refine HC2.out.mono ?_; rintro e wb ⟨Ab, cb, rfl, hib, hbb⟩
  clear HC2
  have HX := Lib.hid ((hbb.block _ (lt_of_block HXa.out)).trans HXa.out)
  have HY := Lib.hid ((hbb.block _ (lt_of_block HYa.out)).trans HYa.out)
  have HD := Lib.hid (HDa.out.below hbb)
  have HF := Lib.hid (HFa.out.below hbb)
  have HB := Lib.hid (below_thenE HBa.out hbb)
  have HIA := Lib.hid (HIa.out.below hbb)
  have HIB := Lib.hid hib
  have HTT := Lib.hid (HT.out wb HB.out)
  clear hbb hib HXa HYa HDa HFa HBa HIa HR HT HTB HLL
  by_cases hz : z = 0
  case neg =>
    have bz : (z != 0) = true := bne_iff_ne.2 hz
    obtain ⟨h1, h2⟩ := HNO.out hz
    have b1 : (((ins.length : Nat) : Int) == 0) = true := by rw [h1]; rfl
    have b2 : (((outs.length : Nat) : Int) == 0) = true := by rw [h2]; rfl
    have k0 := (cell_of_row _ _ 0 _ _ _ HX.out).trans (show _ = some (Value.slice FA ins.length fa) from rfl)
    have k1 := (cell_of_row _ _ 1 _ _ _ HX.out).trans (show _ = some (Value.slice FB outs.length fb) from rfl)
    clear HNO HD HF HIA HIB HTT hz h1 h2
    generalize ins.length = n1 at *
    generalize outs.length = n2 at *
    go_wp2_with fail
    go_ret
    exact ⟨rfl, HB.out⟩
  subst hz
  clear HNO
  go_wp2_with fail
  go_loopw [110] (fun v110 wr => ∃ k : Nat, k ≤ L.length ∧ v110 = .int .i64 (k : Nat) ∧ Hid (Below wb.heap.size wb wr)) (fun v _ => L.length - (intOf v).toNat)
  case atStart => exact ⟨0, Nat.zero_le _, rfl, Below.refl _ _⟩
  case round =>
  obtain ⟨k, hk, rfl, HBR⟩ := hrel
  by_cases hkn : k < L.length
  case pos =>
    have hd : decide ((k : Int) < (L.length : Int)) = true := decide_eq_true (by omega)
    obtain ⟨ba, oa, rfl, hga, hca⟩ := (HIA.out.below HBR.out) (by omega)
    obtain ⟨bb, ob, rfl, hgb, hcb⟩ := (HIB.out.below HBR.out) (by omega)
    have x1 := hca k L[k] (List.getElem?_eq_getElem hkn)
    have x2 := hcb k L[k] (List.getElem?_eq_getElem hkn)
    generalize L[k] = X at *
    have hk2 : k < 200 := by have := HLE.out; omega
    clear hca hcb
    go_wp2_with fail
    go_quiet (fail)
    go_wp2_with fail
    go_roundw
    case rel => exact ⟨k + 1, by omega, by go_num, below_drewN HBR.out _⟩
    case measure => simp [intOf]; omega
  obtain rfl : k = L.length := by omega
  have hd : decide ((L.length : Int) < (L.length : Int)) = false := decide_eq_false (by omega)
  have hS0 : (FtS w FA FB RA RB AT fa fb ra rb ins outs t g1 g2) wr.drew := by
    have hb := HBR.out
    have hbd : Below wb.heap.size wb wr.drew := hb.drew
    exact ⟨below_thenE HB.out hbd, HF.out.below hbd, HD.out.below hbd, HTT.out.below hbd, (hbd.block _ (lt_of_block HX.out)).trans HX.out, (hbd.block _ (lt_of_block HY.out)).trans HY.out⟩
  have HTK := Lib.hid (fun w1 (h : FilK w1 (.agg #[.slice FA ins.length fa, .slice FB outs.length fb]) ins outs) => takes_any _ ins outs p dir (by have := HSZ.out; omega) h.2.1 h.2.2.1 w1 h.1 h.2.2.2)
  have HTR := Lib.hid (fun w1 (h : FilE w1 (.agg #[.slice RA ins.length ra, .slice RB outs.length rb]) ins outs) => rtakes22_any _ ins outs p dir (by have := HSZ.out; omega) w1 h)
  generalize takM ins outs p dir = TB at *
  have HKU := Lib.hid (fun w1 (h : FilK w1 (.agg #[.slice FA ins.length fa, .slice FB outs.length fb]) ins outs) (hI : Itms w1 AT t) => ftree_any _ ins outs AT cT t (by omega) (fun x hx => by have := HSS.out x hx; omega) h.2.1 h.2.2.1 w1 h.1 h.2.2.2 hI)
  have HKR := Lib.hid (fun w1 (h : FilE w1 (.agg #[.slice RA ins.length ra, .slice RB outs.length rb]) ins outs) (hI : Itms w1 AT t) => rtree22_any AT cT t _ ins outs w1 hI (by omega) (fun x hx => by have := HSS.out x hx; omega) h)
  have HKL : Hid ((keepI ins outs t).length ≤ 1000000) := by show _ ≤ _; have := keepI_len ins outs t; omega
  generalize keepI ins outs t = KL at *
  clear HX HY HD HF HTT HB HIA HIB HLE HBR HSS
  go_wp2_with fail
  try simp only [List.append_eq, List.cons_append, List.nil_append]
  refine wp_region_held_drew (S := FtS w FA FB RA RB AT fa fb ra rb ins outs t g1 g2) (by kernel_rfl) hS0 (fun hSA => ?_)
  clear hS0
  generalize wr.drew = q0 at *
  refine wpAnyH_take (i := 0) (v := .agg #[.slice FA ins.length fa, .slice FB outs.length fb]) rfl (by kernel_rfl) (by kernel_rfl) (by kernel_rfl) (fun _ _ _ h => h) (Or.inl ⟨by kernel_rfl, ?_⟩) (by assumption) ?_
  · intro ww hSw
    obtain ⟨_, _, _, _, h5, h6⟩ := hSw
    have hc0 : ww.cell? ⟨g1, 0, none⟩ = some (.slice FA ins.length fa) := by rw [Lib.cell_of_heap h5]; rfl
    have hc1 : ww.cell? ⟨g1, 1, none⟩ = some (.slice FB outs.length fb) := by rw [Lib.cell_of_heap h5]; rfl
    clear h5 h6
    go_simp
    all_goals (try assumption)
    all_goals (try rfl)
  try simp only [Act.put, List.setIfInBounds_toArray, List.set_cons_zero, List.set_cons_succ, List.getElem_toArray, List.getElem_cons_succ, List.getElem_cons_zero]
  refine wpAnyH_take (i := 1) (v := .string p) rfl (by kernel_rfl) (by kernel_rfl) (by kernel_rfl) (fun _ _ _ h => h) (Or.inl ⟨by kernel_rfl, ?_⟩) (by assumption) ?_
  · intro ww hSw
    obtain ⟨_, _, _, _, h5, h6⟩ := hSw
    clear h5 h6
    go_simp
    all_goals (try assumption)
    all_goals (try rfl)
  try simp only [Act.put, List.setIfInBounds_toArray, List.set_cons_zero, List.set_cons_succ, List.getElem_toArray, List.getElem_cons_succ, List.getElem_cons_zero]
  refine wpAnyH_take (i := 2) (v := .bool dir) rfl (by kernel_rfl) (by kernel_rfl) (by kernel_rfl) (fun _ _ _ h => h) (Or.inl ⟨by kernel_rfl, ?_⟩) (by assumption) ?_
  · intro ww hSw
    obtain ⟨_, _, _, _, h5, h6⟩ := hSw
    clear h5 h6
    go_simp
    all_goals (try assumption)
    all_goals (try rfl)
  try simp only [Act.put, List.setIfInBounds_toArray, List.set_cons_zero, List.set_cons_succ, List.getElem_toArray, List.getElem_cons_succ, List.getElem_cons_zero]
  refine wpAnyH_take (i := 4) (v := .agg #[.slice RA ins.length ra, .slice RB outs.length rb]) rfl (by kernel_rfl) (by kernel_rfl) (by kernel_rfl) (fun _ _ _ h => h) (Or.inl ⟨by kernel_rfl, ?_⟩) (by assumption) ?_
  · intro ww hSw
    obtain ⟨_, _, _, _, h5, h6⟩ := hSw
    have hc0 : ww.cell? ⟨g2, 0, none⟩ = some (.slice RA ins.length ra) := by rw [Lib.cell_of_heap h6]; rfl
    have hc1 : ww.cell? ⟨g2, 1, none⟩ = some (.slice RB outs.length rb) := by rw [Lib.cell_of_heap h6]; rfl
    clear h5 h6
    go_simp
    all_goals (try assumption)
    all_goals (try rfl)
  try simp only [Act.put, List.setIfInBounds_toArray, List.set_cons_zero, List.set_cons_succ, List.getElem_toArray, List.getElem_cons_succ, List.getElem_cons_zero]
  refine wpAnyH_take (i := 5) (v := .string p) rfl (by kernel_rfl) (by kernel_rfl) (by kernel_rfl) (fun _ _ _ h => h) (Or.inl ⟨by kernel_rfl, ?_⟩) (by assumption) ?_
  · intro ww hSw
    obtain ⟨_, _, _, _, h5, h6⟩ := hSw
    clear h5 h6
    go_simp
    all_goals (try assumption)
    all_goals (try rfl)
  try simp only [Act.put, List.setIfInBounds_toArray, List.set_cons_zero, List.set_cons_succ, List.getElem_toArray, List.getElem_cons_succ, List.getElem_cons_zero]
  refine wpAnyH_take (i := 6) (v := .bool dir) rfl (by kernel_rfl) (by kernel_rfl) (by kernel_rfl) (fun _ _ _ h => h) (Or.inl ⟨by kernel_rfl, ?_⟩) (by assumption) ?_
  · intro ww hSw
    obtain ⟨_, _, _, _, h5, h6⟩ := hSw
    clear h5 h6
    go_simp
    all_goals (try assumption)
    all_goals (try rfl)
  try simp only [Act.put, List.setIfInBounds_toArray, List.set_cons_zero, List.set_cons_succ, List.getElem_toArray, List.getElem_cons_succ, List.getElem_cons_zero]
  refine wpAnyH_ready (rs := [3]) (by kernel_rfl) (by simp) ?_
  refine AllReadyH.cons rfl (fun K hK => ?_) AllReadyH.nil
  go_simp
  refine (HTK.out q0 hSA.2.1).mono ?_
  rintro e q1 ⟨rfl, hbq1⟩
  have hSq1 := hSA.next hbq1
  refine hK.out _ _ hSq1 (fun hTq1 => ?_)
  clear hK K
  try simp only [Act.put, List.setIfInBounds_toArray, List.set_cons_zero, List.set_cons_succ, List.getElem_toArray, List.getElem_cons_succ, List.getElem_cons_zero]
  refine wpAnyH_ready (rs := [7]) (by kernel_rfl) (by simp) ?_
  refine AllReadyH.cons rfl (fun K hK => ?_) AllReadyH.nil
  go_simp
  refine (HTR.out q1 hSq1.2.2.1).mono ?_
  rintro e q2 ⟨rfl, hbq2⟩
  have hSq2 := hSq1.next hbq2
  refine hK.out _ _ hSq2 (fun hTq2 => ?_)
  clear hK K
  try simp only [Act.put, List.setIfInBounds_toArray, List.set_cons_zero, List.set_cons_succ, List.getElem_toArray, List.getElem_cons_succ, List.getElem_cons_zero]
  refine wpAnyH_take (i := 8) (v := .bool true) rfl (by kernel_rfl) (by kernel_rfl) (by kernel_rfl) (fun _ _ _ h => h) (Or.inl ⟨by kernel_rfl, ?_⟩) (by assumption) ?_
  · intro ww hSw
    obtain ⟨_, _, _, _, h5, h6⟩ := hSw
    clear h5 h6
    go_simp
    all_goals (try assumption)
    all_goals (try rfl)
  try simp only [Act.put, List.setIfInBounds_toArray, List.set_cons_zero, List.set_cons_succ, List.getElem_toArray, List.getElem_cons_succ, List.getElem_cons_zero]
  refine wpAnyH_take (i := 9) (v := .bool true) rfl (by kernel_rfl) (by kernel_rfl) (by kernel_rfl) (fun _ _ _ h => h) (Or.inl ⟨by kernel_rfl, ?_⟩) (by assumption) ?_
  · intro ww hSw
    obtain ⟨_, _, _, _, h5, h6⟩ := hSw
    clear h5 h6
    go_simp
    all_goals (try assumption)
    all_goals (try rfl)
  try simp only [Act.put, List.setIfInBounds_toArray, List.set_cons_zero, List.set_cons_succ, List.getElem_toArray, List.getElem_cons_succ, List.getElem_cons_zero]
  refine wpAnyH_take (i := 10) (v := .agg #[.slice FA ins.length fa, .slice FB outs.length fb]) rfl (by kernel_rfl) (by kernel_rfl) (by kernel_rfl) (fun _ _ _ h => h) (Or.inl ⟨by kernel_rfl, ?_⟩) (by assumption) ?_
  · intro ww hSw
    obtain ⟨_, _, _, _, h5, h6⟩ := hSw
    have hc0 : ww.cell? ⟨g1, 0, none⟩ = some (.slice FA ins.length fa) := by rw [Lib.cell_of_heap h5]; rfl
    have hc1 : ww.cell? ⟨g1, 1, none⟩ = some (.slice FB outs.length fb) := by rw [Lib.cell_of_heap h5]; rfl
    clear h5 h6
    go_simp
    all_goals (try assumption)
    all_goals (try rfl)
  try simp only [Act.put, List.setIfInBounds_toArray, List.set_cons_zero, List.set_cons_succ, List.getElem_toArray, List.getElem_cons_succ, List.getElem_cons_zero]
  refine wpAnyH_take (i := 11) (v := .slice AT t.length cT) rfl (by kernel_rfl) (by kernel_rfl) (by kernel_rfl) (fun _ _ _ h => h) (Or.inl ⟨by kernel_rfl, ?_⟩) (by assumption) ?_
  · intro ww hSw
    obtain ⟨_, _, _, _, h5, h6⟩ := hSw
    clear h5 h6
    go_simp
    all_goals (try assumption)
    all_goals (try rfl)
  try simp only [Act.put, List.setIfInBounds_toArray, List.set_cons_zero, List.set_cons_succ, List.getElem_toArray, List.getElem_cons_succ, List.getElem_cons_zero]
  refine wpAnyH_take (i := 13) (v := .agg #[.slice RA ins.length ra, .slice RB outs.length rb]) rfl (by kernel_rfl) (by kernel_rfl) (by kernel_rfl) (fun _ _ _ h => h) (Or.inl ⟨by kernel_rfl, ?_⟩) (by assumption) ?_
  · intro ww hSw
    obtain ⟨_, _, _, _, h5, h6⟩ := hSw
    have hc0 : ww.cell? ⟨g2, 0, none⟩ = some (.slice RA ins.length ra) := by rw [Lib.cell_of_heap h6]; rfl
    have hc1 : ww.cell? ⟨g2, 1, none⟩ = some (.slice RB outs.length rb) := by rw [Lib.cell_of_heap h6]; rfl
    clear h5 h6
    go_simp
    all_goals (try assumption)
    all_goals (try rfl)
  try simp only [Act.put, List.setIfInBounds_toArray, List.set_cons_zero, List.set_cons_succ, List.getElem_toArray, List.getElem_cons_succ, List.getElem_cons_zero]
  refine wpAnyH_take (i := 14) (v := .slice AT t.length cT) rfl (by kernel_rfl) (by kernel_rfl) (by kernel_rfl) (fun _ _ _ h => h) (Or.inl ⟨by kernel_rfl, ?_⟩) (by assumption) ?_
  · intro ww hSw
    obtain ⟨_, _, _, _, h5, h6⟩ := hSw
    clear h5 h6
    go_simp
    all_goals (try assumption)
    all_goals (try rfl)
  try simp only [Act.put, List.setIfInBounds_toArray, List.set_cons_zero, List.set_cons_succ, List.getElem_toArray, List.getElem_cons_succ, List.getElem_cons_zero]
  refine wpAnyH_ready (rs := [12]) (by kernel_rfl) (by simp) ?_
  refine AllReadyH.cons rfl (fun K hK => ?_) AllReadyH.nil
  go_simp
  refine (HKU.out q2 hSq2.2.1 hSq2.2.2.2.1).mono ?_
  rintro e q3 ⟨A3, c3, rfl, hN3, hbq3⟩
  have hSq3 := hSq2.next hbq3
  refine hK.out _ _ hSq3 (fun hTq3 => ?_)
  clear hK K
  try simp only [Act.put, List.setIfInBounds_toArray, List.set_cons_zero, List.set_cons_succ, List.getElem_toArray, List.getElem_cons_succ, List.getElem_cons_zero]
  refine wpAnyH_ready (rs := [15]) (by kernel_rfl) (by simp) ?_
  refine AllReadyH.cons rfl (fun K hK => ?_) AllReadyH.nil
  go_simp
  refine (HKR.out q3 hSq3.2.2.1 hSq3.2.2.2.1).mono ?_
  rintro e q4 ⟨A4, c4, rfl, hN4, hbq4⟩
  have hSq4 := hSq3.next hbq4
  refine hK.out _ _ hSq4 (fun hTq4 => ?_)
  clear hK K
  try simp only [Act.put, List.setIfInBounds_toArray, List.set_cons_zero, List.set_cons_succ, List.getElem_toArray, List.getElem_cons_succ, List.getElem_cons_zero]
  refine wpAnyH_ready (rs := [16]) (by kernel_rfl) (by simp) ?_
  refine AllReadyH.cons rfl (fun K hK => ?_) AllReadyH.nil
  go_simp
  refine (sameI_any A3 A4 c3 c4 KL q4 (hN3.below hbq4) hN4 HKL.out).mono ?_
  rintro e q5 ⟨rfl, d5, rfl⟩
  have hbq5 : Below q4.heap.size q4 (q4.drewN d5) := below_drewN (Below.refl _ _) d5
  have hSq5 := hSq4.next hbq5
  refine hK.out _ _ hSq5 (fun hTq5 => ?_)
  clear hK K
  try simp only [Act.put, List.setIfInBounds_toArray, List.set_cons_zero, List.set_cons_succ, List.getElem_toArray, List.getElem_cons_succ, List.getElem_cons_zero]
  generalize q4.drewN d5 = q5 at *
  refine wpAnyH_take (i := 17) (v := .bool true) rfl (by kernel_rfl) (by kernel_rfl) (by kernel_rfl) (fun _ _ _ h => h) (Or.inl ⟨by kernel_rfl, ?_⟩) (by assumption) ?_
  · intro ww hSw
    obtain ⟨_, _, _, _, h5, h6⟩ := hSw
    clear h5 h6
    go_simp
    all_goals (try assumption)
    all_goals (try rfl)
  try simp only [Act.put, List.setIfInBounds_toArray, List.set_cons_zero, List.set_cons_succ, List.getElem_toArray, List.getElem_cons_succ, List.getElem_cons_zero]
  refine wpAnyH_take (i := 18) (v := .bool true) rfl (by kernel_rfl) (by kernel_rfl) (by kernel_rfl) (fun _ _ _ h => h) (Or.inl ⟨by kernel_rfl, ?_⟩) (by assumption) ?_
  · intro ww hSw
    obtain ⟨_, _, _, _, h5, h6⟩ := hSw
    clear h5 h6
    go_simp
    all_goals (try assumption)
    all_goals (try rfl)
  try simp only [Act.put, List.setIfInBounds_toArray, List.set_cons_zero, List.set_cons_succ, List.getElem_toArray, List.getElem_cons_succ, List.getElem_cons_zero]
  have HFI := Lib.hid hSq5.1
  refine wpAnyH_done (by kernel_rfl) ?_ _
  go_wp2_with fail
  go_ret
  exact ⟨rfl, HFI.out⟩
end Go.Proofs.YtjnoapbddifcpaaGreatDoor
