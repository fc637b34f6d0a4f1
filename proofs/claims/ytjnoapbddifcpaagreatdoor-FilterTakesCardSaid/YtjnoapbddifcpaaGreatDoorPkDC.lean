/-
  An entry by the document: a field sought; its path.
  An entry by the document: its path.
-/
import Derived.Test.YtjnoapbddifcpaaGreatDoorPkCD
import Derived.Test.YtjnoapbddifcpaaGreatDoorPkDB
import Derived.Test.YtjnoapbddifcpaaGreatDoorNamAB
import Derived.Test.YtjnoapbddifcpaaGreatDoorNamQ
import Derived.Laws.BitsAllLaws

namespace Go.Proofs.YtjnoapbddifcpaaGreatDoor
set_option maxRecDepth 100000
set_option linter.unusedSimpArgs false
set_option linter.unusedVariables false
open Go.RowKit Go.Joins Go.Deep
/-- Where a field is, and what it holds. -/
def fndP (l1 l2 : List Fd) (id : Nat) : ByteArray × Int := if fndB l1 id = true then (fndD l1 id, 1) else if fndB l2 id = true then (fndD l2 id, 2) else (⟨#[]⟩, 0)
set_option maxHeartbeats 4000000 in
theorem rfind20_any (A1 A2 : Option Addr) (c1 c2 : Nat) (l1 l2 : List Fd) (id : Nat) (w : World) (hF1 : Fds w A1 l1) (hF2 : Fds w A2 l2) (hl1 : l1.length ≤ 1000000) (hl2 : l2.length ≤ 1000000) :
    Calls Tryz.prog 53 #[.slice A1 l1.length c1, .slice A2 l2.length c2, .int .u16 (id : Nat)] w fun e w' => e = .returned (.tuple #[.string (fndP l1 l2 id).1, .int .i64 (fndP l1 l2 id).2]) ∧ Below w.heap.size w w' := by
  have HF1 := Lib.hid (rfind13_any A1 c1 l1 id w hF1 hl1)
  have HF2 := Lib.hid (fun w1 (hb : Below w.heap.size w w1) => rfind13_any A2 c2 l2 id w1 (hF2.below (Nat.le_refl _) hb) hl2)
  unfold fndP
  clear hF1 hF2
  generalize fndD l1 id = d1 at *
  generalize fndD l2 id = d2 at *
  generalize fndB l1 id = b1 at *
  generalize fndB l2 id = b2 at *
  cases b1 with
  | true =>
    rw [if_pos rfl]
    clear HF2
    go_enter Tryz.func53, Tryz.ntmps53
    go_wp2_with fail
    refine HF1.out.mono ?_; rintro e w1 ⟨rfl, hb⟩
    have HB := Lib.hid hb
    clear hb HF1
    go_wp2_with fail
    go_ret2
    exact ⟨rfl, HB.out⟩
  | false =>
    rw [if_neg (by decide)]
    cases b2 with
    | true =>
      rw [if_pos rfl]
      go_enter Tryz.func53, Tryz.ntmps53
      go_wp2_with fail
      refine HF1.out.mono ?_; rintro e w1 ⟨rfl, hb⟩
      have HB := Lib.hid hb
      clear hb HF1
      go_wp2_with fail
      refine (HF2.out w1 HB.out).mono ?_; rintro e w2 ⟨rfl, hb⟩
      have HB2 := Lib.hid (below_then HB.out hb)
      clear hb HF2
      go_wp2_with fail
      go_ret2
      exact ⟨rfl, HB2.out⟩
    | false =>
      rw [if_neg (by decide)]
      go_enter Tryz.func53, Tryz.ntmps53
      go_wp2_with fail
      refine HF1.out.mono ?_; rintro e w1 ⟨rfl, hb⟩
      have HB := Lib.hid hb
      clear hb HF1
      go_wp2_with fail
      refine (HF2.out w1 HB.out).mono ?_; rintro e w2 ⟨rfl, hb⟩
      have HB2 := Lib.hid (below_then HB.out hb)
      clear hb HF2
      go_wp2_with fail
      go_ret2
      exact ⟨rfl, HB2.out⟩
/-- The fields of both as one. -/
theorem fndF_cons (f : Fd) (l : List Fd) (id : Nat) : fndB (f :: l) id = (decide (f.id = id) || fndB l id) ∧ fndD (f :: l) id = if f.id = id then f.d else fndD l id := by
  unfold fndB fndD
  by_cases h : f.id = id
  · rw [show fx id (f :: l) = 0 from if_pos h, if_pos h]
    simp [h]
  · rw [show fx id (f :: l) = fx id l + 1 from if_neg h, if_neg h]
    simp [h]
theorem fndF_nil (id : Nat) : fndB [] id = false ∧ fndD [] id = ⟨#[]⟩ := ⟨rfl, rfl⟩
theorem fndB_app : ∀ (l1 l2 : List Fd) (id : Nat), fndB (l1 ++ l2) id = (fndB l1 id || fndB l2 id)
  | [], l2, id => by rw [(fndF_nil id).1, Bool.false_or]; rfl
  | f :: l, l2, id => by rw [List.cons_append, (fndF_cons f _ id).1, (fndF_cons f _ id).1, fndB_app l l2 id, Bool.or_assoc]
theorem fndD_app : ∀ (l1 l2 : List Fd) (id : Nat), fndD (l1 ++ l2) id = if fndB l1 id = true then fndD l1 id else fndD l2 id
  | [], l2, id => by rw [(fndF_nil id).1, if_neg (by decide)]; rfl
  | f :: l, l2, id => by
    rw [List.cons_append, (fndF_cons f _ id).2, (fndF_cons f _ id).2, (fndF_cons f _ id).1, fndD_app l l2 id]
    by_cases h : f.id = id
    · rw [if_pos h, if_pos (by simp [h]), if_pos h]
    · rw [if_neg h, if_neg h]
      simp [h]
theorem fndP_at (l1 l2 : List Fd) (id : Nat) (h : fndB (l1 ++ l2) id = true) : (fndP l1 l2 id).1 = fndD (l1 ++ l2) id ∧ 0 < (fndP l1 l2 id).2 := by
  rw [fndB_app] at h
  unfold fndP
  rw [fndD_app]
  cases h1 : fndB l1 id with
  | true => exact ⟨rfl, show (0 : Int) < 1 by decide⟩
  | false =>
    rw [h1, Bool.false_or] at h
    rw [h]
    exact ⟨rfl, show (0 : Int) < 2 by decide⟩
theorem fndP_no (l1 l2 : List Fd) (id : Nat) (h : fndB (l1 ++ l2) id = false) : fndP l1 l2 id = (⟨#[]⟩, 0) := by
  rw [fndB_app, Bool.or_eq_false_iff] at h
  unfold fndP
  rw [h.1, h.2]
  rfl
end Go.Proofs.YtjnoapbddifcpaaGreatDoor

namespace Go.Proofs.YtjnoapbddifcpaaGreatDoor
set_option maxRecDepth 100000
set_option linter.unusedSimpArgs false
set_option linter.unusedVariables false
open Go.RowKit Go.Joins Go.Deep
theorem and_bit (f k : Nat) : f &&& 2 ^ k = if f / 2 ^ k % 2 = 1 then 2 ^ k else 0 := by
  have hb := Nat.testBit_eq_decide_div_mod_eq (x := f) (i := k)
  apply Nat.eq_of_testBit_eq
  intro i
  rw [Nat.testBit_and, Nat.testBit_two_pow]
  by_cases h : f / 2 ^ k % 2 = 1
  · rw [if_pos h, Nat.testBit_two_pow]
    by_cases e : k = i
    · subst e; rw [hb, decide_eq_true h]; simp
    · simp [e]
  · rw [if_neg h, Nat.zero_testBit]
    by_cases e : k = i
    · subst e; rw [hb, decide_eq_false h]; simp
    · simp [e]
theorem flag_u16 (f : Nat) (h : f < 65536) : (bits .and .u16 (f : Int) 2048 == 0) = !((f : Int) / 2048 % 2 == 1) := by
  have e := u16_and_nat f (2 ^ 11) h (by decide)
  rw [and_bit] at e
  rw [show ((2 ^ 11 : Nat) : Int) = 2048 from rfl] at e
  rw [e]
  by_cases k : f / 2 ^ 11 % 2 = 1
  · rw [if_pos k]
    have : ((f : Int) / 2048 % 2 == 1) = true := by rw [beq_iff_eq]; omega
    rw [this]; rfl
  · rw [if_neg k]
    have : ((f : Int) / 2048 % 2 == 1) = false := by rw [beq_eq_false_iff_ne]; omega
    rw [this]; rfl
theorem flag_u8 (f k : Nat) (h : f < 256) (hk : k < 8) : (bits .and .u8 (f : Int) ((2 ^ k : Nat) : Int) == 0) = !((f : Int) / ((2 ^ k : Nat) : Int) % 2 == 1) := by
  have h2 : 2 ^ k < 256 := Nat.lt_of_lt_of_le (Nat.pow_lt_pow_right (by omega) hk) (Nat.le_refl (2 ^ 8))
  have e := u8_and_nat f (2 ^ k) h h2
  rw [and_bit] at e
  rw [e]
  have hp : 0 < 2 ^ k := Nat.two_pow_pos k
  by_cases j : f / 2 ^ k % 2 = 1
  · rw [if_pos j]
    have : ((f : Int) / ((2 ^ k : Nat) : Int) % 2 == 1) = true := by rw [beq_iff_eq]; exact_mod_cast j
    rw [this, beq_eq_false_iff_ne.2 (by omega)]; rfl
  · rw [if_neg j]
    have : ((f : Int) / ((2 ^ k : Nat) : Int) % 2 == 1) = false := by rw [beq_eq_false_iff_ne]; exact fun e => j (by exact_mod_cast e)
    rw [this]; rfl
theorem and_one (f : Nat) (h : f < 256) : bits .and .u8 (f : Int) 1 = ((f % 2 : Nat) : Int) := by
  have e := u8_and_nat f 1 h (by decide)
  rw [Nat.and_one_is_mod] at e
  exact e
theorem utf_flag (E : Ent) (h : E.flags < 65536) : utfB E = ((E.flags : Int) / 2048 % 2 == 1) := by
  unfold utfB
  rw [flag_u16 E.flags h, Bool.not_not]
theorem pthR_three (d s : ByteArray) : (∃ p, pthR d s = .tuple #[.string p, .bool true, .int .i64 0] ∧ txP d s = (p, 0)) ∨ (∃ z : Int, z ≠ 0 ∧ pthR d s = .tuple #[.string ⟨#[]⟩, .bool false, .int .i64 z] ∧ txP d s = (⟨#[]⟩, z)) ∨ (pthR d s = .tuple #[.string ⟨#[]⟩, .bool false, .int .i64 0] ∧ txP d s = txC s) := by
  unfold pthR txP
  by_cases h1 : 5 ≤ d.size ∧ (nums d).getD 0 0 = 1
  · rw [if_neg (not_not_intro h1), if_neg (not_not_intro h1)]
    by_cases h2 : pthN d ≠ sum 0 s
    · rw [if_pos h2, if_pos h2]
      exact .inr (.inr ⟨rfl, rfl⟩)
    · rw [if_neg h2, if_neg h2]
      by_cases h3 : straysB (d.extract 5 d.size) = true
      · rw [if_pos h3, if_pos h3]
        exact .inr (.inl ⟨_, by decide, rfl, rfl⟩)
      · rw [if_neg h3, if_neg h3]
        exact .inl ⟨_, rfl, rfl⟩
  · rw [if_pos h1, if_pos h1]
    exact .inr (.inl ⟨_, by decide, rfl, rfl⟩)
theorem rdecode_utf8N (s : ByteArray) (w : World) (hs : s.size ≤ 100000) :
    Calls Tryz.prog 81 #[.string s, .bool true] w fun e w' => e = .returned (.tuple #[.string (txU s).1, .int .i64 (txU s).2]) ∧ Below w.heap.size w w' := by
  have HS := Lib.hid (fun w => rstraysN_any s w (by omega))
  unfold txU
  cases hst : straysB s with
  | true =>
    rw [hst] at HS
    rw [if_pos rfl]
    go_enter Tryz.func81, Tryz.ntmps81
    go_wp2_with fail
    refine (HS.out _).mono ?_
    rintro e w1 ⟨rfl, rfl⟩
    go_wp2_with fail
    go_ret2
    exact ⟨rfl, Below.refl _ _⟩
  | false =>
    rw [hst] at HS
    rw [if_neg (by decide)]
    go_enter Tryz.func81, Tryz.ntmps81
    go_wp2_with fail
    refine (HS.out _).mono ?_
    rintro e w1 ⟨rfl, rfl⟩
    go_wp2_with fail
    go_ret2
    exact ⟨rfl, Below.refl _ _⟩
set_option maxHeartbeats 16000000 in
theorem rpath20_any (A1 A2 : Option Addr) (c1 c2 : Nat) (l1 l2 : List Fd) (E : Ent) (hnm : E.nm.size ≤ 100000) (hfl : E.flags < 65536) (hl1 : l1.length ≤ 1000000) (hl2 : l2.length ≤ 1000000) (hD : (fndD (l1 ++ l2) 28789).size ≤ 1000000) (w : World) (hF1 : Fds w A1 l1) (hF2 : Fds w A2 l2) :
    Calls Tryz.prog 52 #[.agg E.cells, .slice A1 l1.length c1, .slice A2 l2.length c2] w fun e w' => e = .returned (.tuple #[.string (patV (l1 ++ l2) E).1, .bool (patV (l1 ++ l2) E).2.1, .int .i64 (patV (l1 ++ l2) E).2.2]) ∧ Below w.heap.size w w' := by
  obtain ⟨w1, hw1⟩ : ∃ w1, w1 = w.alloc (.cells E.cells 32) := ⟨_, rfl⟩
  have hb1 : Below w.heap.size w w1 := by rw [hw1]; exact (Below.refl _ _).alloc (Nat.le_refl _) _
  have hx1 : w1.heap[w.heap.size]? = some (.cells E.cells 32 (0, 0)) := by rw [hw1]; exact heap_alloc_new w _
  have HFP := Lib.hid (rfind20_any A1 A2 c1 c2 l1 l2 28789 w1 (hF1.below (Nat.le_refl _) hb1) (hF2.below (Nat.le_refl _) hb1) hl1 hl2)
  have HDU := Lib.hid (fun w2 => rdecode_utf8N E.nm w2 hnm)
  have HDC := Lib.hid (fun w2 => rdecode_cp E.nm w2 hnm)
  have HPP := Lib.hid (fun w2 => rparsePath_any (fndD (l1 ++ l2) 28789) E.nm hD (by unfold maxLen; omega) w2)
  have HCK := Lib.hid (fun s w2 => rcheck_any s w2)
  have HYE := Lib.hid (fndP_at l1 l2 28789)
  have HNO := Lib.hid (fndP_no l1 l2 28789)
  have HP3 := Lib.hid (pthR_three (fndD (l1 ++ l2) 28789) E.nm)
  have HUF := Lib.hid (utf_flag E hfl)
  obtain ⟨V, hV⟩ : ∃ V, V = patV (l1 ++ l2) E := ⟨_, rfl⟩
  rw [← hV]
  have HV0 : Hid (∀ T : ByteArray × Int, txtV (l1 ++ l2) E = T → V = if T.2 = 0 then chkV T.1 else (⟨#[]⟩, false, T.2)) := fun T hT => by rw [hV, ← hT]; rfl
  have HTX : Hid (txtV (l1 ++ l2) E = if utfB E = true then txU E.nm else if fndB (l1 ++ l2) 28789 = false then txC E.nm else txP (fndD (l1 ++ l2) 28789) E.nm) := rfl
  have HB1 := Lib.hid hb1
  have HX1 := Lib.hid hx1
  have y0 : w1.cell? ⟨w.heap.size, 0, none⟩ = some (.string E.nm) := cell_of_row _ _ 0 _ _ _ hx1
  have y3 : w1.cell? ⟨w.heap.size, 3, none⟩ = some (.int .u16 (E.flags : Nat)) := cell_of_row _ _ 3 _ _ _ hx1
  simp only [Ent.cells] at hw1 ⊢
  have HW1 := Lib.hid hw1
  clear hF1 hF2 hb1 hw1 hV hx1
  generalize txtV (l1 ++ l2) E = T at *
  generalize fndD (l1 ++ l2) 28789 = D at *
  generalize fndB (l1 ++ l2) 28789 = B at *
  generalize fndP l1 l2 28789 = FP at *
  generalize l1.length = n1 at *
  generalize l2.length = n2 at *
  generalize hu : utfB E = U at *
  have HV := Lib.hid (HV0.out T rfl)
  clear HV0 hu
  cases U with
  | true =>
    have bu : ((E.flags : Int) / 2048 % 2 == 1) = true := HUF.out.symm
    have HVV : Hid (V = if (txU E.nm).2 = 0 then chkV (txU E.nm).1 else (⟨#[]⟩, false, (txU E.nm).2)) := by show _ = _; rw [HV.out, HTX.out]; rfl
    clear HV HTX HUF HFP HPP HYE HNO HP3 HDC
    generalize txU E.nm = R at *
    go_enter Tryz.func52, Tryz.ntmps52
    go_upto_region 1 with fail
    rw [← HW1.out]
    clear HW1
    go_wp2_with fail
    refine (HDU.out _).mono ?_; rintro e w2 ⟨rfl, hb2⟩
    have HB2 := Lib.hid (below_then HB1.out hb2)
    clear hb2
    obtain ⟨rt, rz⟩ := R
    by_cases hz : rz = 0
    · subst hz
      have HVW : Hid (V = chkV rt) := by show _ = _; rw [HVV.out, if_pos rfl]
      clear HVV HDU
      go_wp2_with fail
      refine (HCK.out _ _).mono ?_; rintro e w3 ⟨rfl, hb3⟩
      have HB3 := Lib.hid (below_then HB2.out hb3)
      clear hb3
      go_wp2_with fail
      go_ret3
      rw [HVW.out]
      exact ⟨rfl, HB3.out⟩
    · have bz : (rz != 0) = true := bne_iff_ne.2 hz
      have HVW : Hid (V = (⟨#[]⟩, false, rz)) := by show _ = _; rw [HVV.out, if_neg hz]
      clear HVV HDU HCK
      go_wp2_with fail
      go_ret3
      rw [HVW.out]
      exact ⟨rfl, HB2.out⟩
  | false =>
    have bu : ((E.flags : Int) / 2048 % 2 == 1) = false := HUF.out.symm
    clear HDU HUF
    cases B with
    | false =>
      obtain rfl : FP = (⟨#[]⟩, 0) := HNO.out rfl
      have HVV : Hid (V = chkV (txC E.nm).1) := by show _ = _; rw [HV.out, HTX.out]; rfl
      rw [HVV.out]
      unfold txC
      clear HV HTX HVV HPP HYE HNO HP3
      generalize text (decL (nums E.nm)) = rt at *
      go_enter Tryz.func52, Tryz.ntmps52
      go_upto_region 1 with fail
      rw [← HW1.out]
      clear HW1
      go_wp2_with fail
      refine HFP.out.mono ?_; rintro e w2 ⟨rfl, hb2⟩
      have HB2 := Lib.hid (below_then HB1.out hb2)
      have HX2 := Lib.hid ((hb2.block _ (lt_of_block HX1.out)).trans HX1.out)
      have y0 : w2.cell? ⟨w.heap.size, 0, none⟩ = some (.string E.nm) := cell_of_row _ _ 0 _ _ _ HX2.out
      clear hb2 HFP
      go_wp2_with fail
      refine (HDC.out _).mono ?_; rintro e w3 ⟨rfl, hb3⟩
      have HB3 := Lib.hid (below_then HB2.out hb3)
      clear hb3 HDC
      go_wp2_with fail
      refine (HCK.out _ _).mono ?_; rintro e w4 ⟨rfl, hb4⟩
      have HB4 := Lib.hid (below_then HB3.out hb4)
      clear hb4
      go_wp2_with fail
      go_ret3
      exact ⟨rfl, HB4.out⟩
    | true =>
      obtain ⟨hy1, hy2⟩ := HYE.out rfl
      obtain ⟨fd, fw⟩ := FP
      obtain rfl : fd = D := hy1
      have hy2 : 0 < fw := hy2
      have HVV : Hid (V = if (txP fd E.nm).2 = 0 then chkV (txP fd E.nm).1 else (⟨#[]⟩, false, (txP fd E.nm).2)) := by show _ = _; rw [HV.out, HTX.out]; rfl
      clear HV HTX HYE HNO
      generalize txP fd E.nm = R at *
      generalize pthR fd E.nm = PR at *
      go_enter Tryz.func52, Tryz.ntmps52
      go_upto_region 1 with fail
      rw [← HW1.out]
      clear HW1
      go_wp2_with fail
      refine HFP.out.mono ?_; rintro e w2 ⟨rfl, hb2⟩
      have HB2 := Lib.hid (below_then HB1.out hb2)
      have HX2 := Lib.hid ((hb2.block _ (lt_of_block HX1.out)).trans HX1.out)
      have y0 : w2.cell? ⟨w.heap.size, 0, none⟩ = some (.string E.nm) := cell_of_row _ _ 0 _ _ _ HX2.out
      clear hb2 HFP
      go_wp2_with fail
      refine (HPP.out _).mono ?_; rintro e w3 ⟨rfl, rfl⟩
      clear HPP
      rcases HP3.out with ⟨p, rfl, rfl⟩ | ⟨z, hz, rfl, rfl⟩ | ⟨rfl, rfl⟩
      · have HVW : Hid (V = chkV p) := by show _ = _; rw [HVV.out, if_pos rfl]
        clear HVV HDC HP3
        go_wp2_with fail
        refine (HCK.out _ _).mono ?_; rintro e w4 ⟨rfl, hb4⟩
        have HB4 := Lib.hid (below_then HB2.out hb4)
        clear hb4
        go_wp2_with fail
        go_ret3
        rw [HVW.out]
        exact ⟨rfl, HB4.out⟩
      · have bz : (z != 0) = true := bne_iff_ne.2 hz
        have HVW : Hid (V = (⟨#[]⟩, false, z)) := by show _ = _; rw [HVV.out, if_neg hz]
        clear HVV HDC HP3 HCK
        go_wp2_with fail
        go_ret3
        rw [HVW.out]
        exact ⟨rfl, HB2.out⟩
      · have HVW : Hid (V = chkV (txC E.nm).1) := by show _ = _; rw [HVV.out]; rfl
        have HVX : Hid (V = chkV (text (decL (nums E.nm)))) := HVW.out
        clear HVV HP3 HVW
        generalize text (decL (nums E.nm)) = rt at *
        go_wp2_with fail
        refine (HDC.out _).mono ?_; rintro e w4 ⟨rfl, hb4⟩
        have HB4 := Lib.hid (below_then HB2.out hb4)
        clear hb4 HDC
        go_wp2_with fail
        refine (HCK.out _ _).mono ?_; rintro e w5 ⟨rfl, hb5⟩
        have HB5 := Lib.hid (below_then HB4.out hb5)
        clear hb5
        go_wp2_with fail
        go_ret3
        rw [HVX.out]
        exact ⟨rfl, HB5.out⟩
end Go.Proofs.YtjnoapbddifcpaaGreatDoor
