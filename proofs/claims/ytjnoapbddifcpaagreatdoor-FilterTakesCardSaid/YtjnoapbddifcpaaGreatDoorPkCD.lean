/-
  Contracts: Decode, Encode.
  An entry's name as a text.
  An entry's path.
  The times that an entry's fields tell.
-/
import Derived.Test.YtjnoapbddifcpaaGreatDoorPkCC
import Derived.Test.YtjnoapbddifcpaaGreatDoorPkBG
import Derived.Test.YtjnoapbddifcpaaGreatDoorPkCA
import Derived.Test.YtjnoapbddifcpaaGreatDoorPkCB
import Derived.Test.YtjnoapbddifcpaaGreatDoorPkBI

namespace Go.Proofs.YtjnoapbddifcpaaGreatDoor
set_option maxRecDepth 100000
open Go.RowKit Go.Deep Go.Joins Go.Lib

/-- A name's bytes by CP437 as a text's. -/
def decL (l : List Nat) : List Nat := l.flatMap fun b => encN (cpN b)
theorem decL_snoc (l : List Nat) (b : Nat) : decL (l ++ [b]) = decL l ++ encN (cpN b) := by simp [decL]
theorem decL_len (l : List Nat) : (decL l).length ≤ 4 * l.length := by
  induction l with
  | nil => simp [decL]
  | cons b r ih =>
    have := (enc_len (cpN b)).1
    simp only [decL, List.flatMap_cons, List.length_append, List.length_cons] at ih ⊢
    omega
theorem cpN_lt {b : Nat} (h : b < 256) : cpN b < 55296 := by
  unfold cpN
  split
  · omega
  · exact (cpL_facts _ (by omega)).2
theorem enc_lt (r : Nat) (hr : r ≤ 1114111) : ∀ x ∈ encN r, x < 256 := by
  unfold encN encodeRuneZ
  repeat' split
  all_goals
    intro x hx
    simp at hx
    omega
theorem decL_lt (s : ByteArray) : ∀ x ∈ decL (nums s), x < 256 := by
  intro x hx
  unfold decL at hx
  obtain ⟨b, hb, hx⟩ := List.mem_flatMap.1 hx
  exact enc_lt _ (by have := cpN_lt (nums_lt s b hb); omega) x hx
theorem zero_bd : ∀ w : World, (zeroValue 251).run Tryz.prog w = .ok (.agg #[.pointer none, .slice none 0 0]) w := fun _ => by kernel_rfl
theorem bd_fresh (w : World) : BdN (w.alloc (.cells #[.pointer none, .slice none 0 0] 251)) w.heap.size w.heap.size [] :=
  ⟨Nat.le_refl _, .pointer none, .slice none 0 0, heap_alloc_new w _, .inl rfl, World.ownsRow_nil _ _ _ _, by simp [Value.ownBlock]⟩
set_option maxHeartbeats 4000000 in
theorem decode_cp (s : ByteArray) (w : World) (hs : s.size ≤ 100000) (hU : Upper w) :
    Calls Tryz.prog 106 #[.string s, .bool false] w fun e w' => e = .returned (.tuple #[.string (text (decL (nums s))), .int .i64 0]) ∧ Below w.heap.size w w' := by
  have HU := Lib.hid hU
  have HRU := Lib.hid (fun b hb w h => runeOf_any b hb w h)
  have HWR := Lib.hid (fun B b r l w hr hl hBw h => writeRune_any B b r l w hr hl hBw h)
  have HF := Lib.hid (bd_fresh w)
  have hz := zero_bd
  clear hU
  go_enter Tryz.func106, Tryz.ntmps106
  go_wp2_with fail
  go_loopw [14] (fun i wr => ∃ k : Nat, k ≤ s.size ∧ i = .int .i64 (k : Nat) ∧ Hid (BdN wr w.heap.size w.heap.size (decL ((nums s).take k))) ∧ Hid (Below w.heap.size w wr) ∧ Hid (w.heap.size + 1 ≤ wr.heap.size)) (fun i _ => s.size - (intOf i).toNat)
  case atStart => exact ⟨0, Nat.zero_le _, rfl, HF.out, (Below.refl _ _).alloc (Nat.le_refl _) _, by show _ ≤ _; simp⟩
  case round =>
    obtain ⟨k, hk, rfl, HB, HW, HS⟩ := hrel
    by_cases hks : k < s.size
    · have hlt : s[k].toNat < 256 := s[k].toNat_lt
      have HSN : Hid (decL ((nums s).take (k + 1)) = decL ((nums s).take k) ++ encN (cpN s[k].toNat)) := by show _ = _; rw [nums_snoc s k hks, decL_snoc]
      have hdl : (decL ((nums s).take k)).length ≤ 1000000 := by
        have := decL_len ((nums s).take k)
        rw [List.length_take, nums_len] at this
        omega
      have hcp := cpN_lt hlt
      generalize decL ((nums s).take k) = d at *
      go_wp2_with fail
      refine (HRU.out _ hlt _ (HU.out.below HW.out)).mono ?_
      rintro e w1 ⟨rfl, rfl⟩
      generalize cpN s[k].toNat = r at *
      go_wp2_with fail
      refine (HWR.out w.heap.size w.heap.size r d _ (by omega) hdl HW.out.size HB.out).mono ?_
      rintro e w2 ⟨⟨x, rfl⟩, hbd, hbw, _⟩
      have HB2 : Hid (BdN w2 w.heap.size w.heap.size (decL ((nums s).take (k + 1)))) := by show BdN _ _ _ _; rw [HSN.out]; exact hbd
      have HW2 := Lib.hid (HW.out.trans hbw)
      have HS2 : Hid (w.heap.size + 1 ≤ w2.heap.size) := Nat.le_trans HS.out hbw.size
      clear hbd hbw
      go_wp2_with fail
      go_roundw
      case rel => exact ⟨k + 1, by omega, by go_num, HB2, HW2, HS2⟩
      case measure => simp [intOf]; omega
    · obtain rfl : k = s.size := by omega
      have hall : (nums s).take s.size = nums s := by rw [← nums_len]; exact List.take_length
      rw [hall] at HB
      have HST := Lib.hid (bdString_anyN w.heap.size w.heap.size (decL (nums s)) wr (decL_lt s) HW.out.size HB.out)
      go_wp2_with fail
      refine (HST.out).mono ?_
      rintro e w1 ⟨rfl, hbw⟩
      have HW2 := Lib.hid (HW.out.trans hbw)
      clear hbw
      go_wp2_with fail
      go_ret2
      exact ⟨rfl, HW2.out⟩
theorem decode_utf8N (s : ByteArray) (w : World) :
    Calls Tryz.prog 106 #[.string s, .bool true] w fun e w' => e = .returned (if straysB s = true then .tuple #[.string .empty, .int .i64 20] else .tuple #[.string s, .int .i64 0]) ∧ Below w.heap.size w w' := by
  have HS := Lib.hid (fun w => strays_any s w)
  cases hst : straysB s with
  | true =>
    rw [hst] at HS
    rw [if_pos rfl]
    go_enter Tryz.func106, Tryz.ntmps106
    go_wp2_with fail
    refine (HS.out _).mono ?_
    rintro e w1 ⟨rfl, hb⟩
    go_wp2_with fail
    go_ret2
    exact ⟨rfl, hb⟩
  | false =>
    rw [hst] at HS
    rw [if_neg (by decide)]
    go_enter Tryz.func106, Tryz.ntmps106
    go_wp2_with fail
    refine (HS.out _).mono ?_
    rintro e w1 ⟨rfl, hb⟩
    go_wp2_with fail
    go_ret2
    exact ⟨rfl, hb⟩
end Go.Proofs.YtjnoapbddifcpaaGreatDoor

namespace Go.Proofs.YtjnoapbddifcpaaGreatDoor
set_option maxRecDepth 100000
set_option linter.unusedSimpArgs false
set_option linter.unusedVariables false
open Go.RowKit Go.Joins Go.Deep
/-- Does an entry say that its name is UTF-8? -/
def utfB (E : Ent) : Bool := !(bits .and .u16 (E.flags : Int) 2048 == 0)
/-- A text, or an error. -/
def txU (s : ByteArray) : ByteArray × Int := if straysB s = true then (⟨#[]⟩, 20) else (s, 0)
def txC (s : ByteArray) : ByteArray × Int := (text (decL (nums s)), 0)
def txP (d s : ByteArray) : ByteArray × Int :=
  if ¬ (5 ≤ d.size ∧ (nums d).getD 0 0 = 1) then (⟨#[]⟩, 24)
  else if pthN d ≠ sum 0 s then txC s
  else if straysB (d.extract 5 d.size) = true then (⟨#[]⟩, 20) else (d.extract 5 d.size, 0)
def txtV (l : List Fd) (E : Ent) : ByteArray × Int :=
  if utfB E = true then txU E.nm else if fndB l 28789 = false then txC E.nm else txP (fndD l 28789) E.nm
theorem decU_form (s : ByteArray) : (if straysB s = true then (.tuple #[.string .empty, .int .i64 20] : Value) else .tuple #[.string s, .int .i64 0]) = .tuple #[.string (txU s).1, .int .i64 (txU s).2] := by
  unfold txU
  split <;> rfl
theorem pthR_cases (d s : ByteArray) : (∃ p z, pthR d s = .tuple #[.string p, .bool true, .int .i64 z] ∧ txP d s = (p, z)) ∨ (∃ p z, z ≠ 0 ∧ pthR d s = .tuple #[.string p, .bool false, .int .i64 z] ∧ txP d s = (p, z)) ∨ (pthR d s = .tuple #[.string ⟨#[]⟩, .bool false, .int .i64 0] ∧ txP d s = txC s) := by
  unfold pthR txP
  by_cases h1 : 5 ≤ d.size ∧ (nums d).getD 0 0 = 1
  · rw [if_neg (not_not_intro h1), if_neg (not_not_intro h1)]
    by_cases h2 : pthN d ≠ sum 0 s
    · rw [if_pos h2, if_pos h2]
      exact .inr (.inr ⟨rfl, rfl⟩)
    · rw [if_neg h2, if_neg h2]
      by_cases h3 : straysB (d.extract 5 d.size) = true
      · rw [if_pos h3, if_pos h3]
        exact .inr (.inl ⟨_, _, by decide, rfl, rfl⟩)
      · rw [if_neg h3, if_neg h3]
        exact .inl ⟨_, _, rfl, rfl⟩
  · rw [if_pos h1, if_pos h1]
    exact .inr (.inl ⟨_, _, by decide, rfl, rfl⟩)
set_option maxHeartbeats 8000000 in
theorem text_any (F : Array Value) (l1 l2 : List Fd) (E : Ent) (hnm : E.nm.size ≤ 100000) (h1 : l1.length ≤ 16384) (h2 : l2.length ≤ 16384) (w : World) (hU : Upper w) (hF : FsV w F l1 l2) (hD : (fndD (l1 ++ l2) 28789).size ≤ maxLen) :
    Calls Tryz.prog 70 #[.agg F, .agg E.cells] w fun e w' => e = .returned (.tuple #[.string (txtV (l1 ++ l2) E).1, .int .i64 (txtV (l1 ++ l2) E).2]) ∧ Below w.heap.size w w' := by
  have HFI := Lib.hid (fun id w1 (hb : Below w.heap.size w w1) => findE_any F l1 l2 id h1 h2 w1 (hF.below hb))
  have HUP := Lib.hid (fun w1 (hb : Below w.heap.size w w1) => hU.below hb)
  obtain ⟨A1, c1, A2, c2, rfl, hf1, hn1, hf2, hn2⟩ := hF
  obtain ⟨V, hV⟩ : ∃ V, V = txtV (l1 ++ l2) E := ⟨_, rfl⟩
  rw [← hV]
  have HDC := Lib.hid (fun w1 h => decode_cp E.nm w1 hnm h)
  have HDU := Lib.hid (fun w1 => by have h := decode_utf8N E.nm w1; rw [decU_form] at h; exact h)
  have HPP := Lib.hid (fun w1 => parsePath_any (fndD (l1 ++ l2) 28789) E.nm hD (by unfold maxLen; omega) w1)
  have HPC := Lib.hid (pthR_cases (fndD (l1 ++ l2) 28789) E.nm)
  unfold txtV utfB at hV
  have HV := Lib.hid hV
  clear hV
  generalize l1 ++ l2 = L at *
  generalize l1.length = n1 at *
  generalize l2.length = n2 at *
  clear hf1 hn1 hf2 hn2 hU
  obtain ⟨w1, hw1⟩ : ∃ w1, w1 = w.alloc (.cells #[.slice A1 n1 c1, .slice A2 n2 c2] 110) := ⟨_, rfl⟩
  obtain ⟨w2, hw2⟩ : ∃ w2, w2 = w1.alloc (.cells E.cells 32) := ⟨_, rfl⟩
  have hb1 : Below w.heap.size w w1 := by rw [hw1]; exact (Below.refl _ _).alloc (Nat.le_refl _) _
  have hb12 : Below w1.heap.size w1 w2 := by rw [hw2]; exact (Below.refl _ _).alloc (Nat.le_refl _) _
  have hsz : w1.heap.size = w.heap.size + 1 := by rw [hw1]; simp only [World.alloc, Array.size_push]
  have hx1 : w1.heap[w.heap.size]? = some (.cells #[.slice A1 n1 c1, .slice A2 n2 c2] 110 (0, 0)) := by rw [hw1]; exact heap_alloc_new w _
  have HX2 := Lib.hid ((hb12.block _ (lt_of_block hx1)).trans hx1)
  have HY2 : Hid (w2.heap[w.heap.size + 1]? = some (.cells E.cells 32 (0, 0))) := by show _ = _; rw [hw2, ← hsz]; exact heap_alloc_new w1 _
  have HB2 := Lib.hid (below_then hb1 hb12)
  rw [hw1] at hw2
  simp only [Ent.cells] at hw2 HY2 ⊢
  have HW2 := Lib.hid hw2
  clear hw1 hw2 hb1 hb12 hsz hx1
  go_enter Tryz.func70, Tryz.ntmps70
  go_upto_region 1 with fail
  rw [← HW2.out]
  clear HW2
  go_wp2_with (refine wpList_load_row rfl 110 (.tmp 2) rfl w.heap.size rfl 110 _ (0, 0) _ HX2.out Tryz.underlying110 rfl info_fields ?_)
  refine (HFI.out _ w2 HB2.out).mono ?_; rintro e w3 ⟨rfl, hb3⟩
  have hy3 := (hb3.block _ (lt_of_block HY2.out)).trans HY2.out
  have HY3 := Lib.hid hy3
  have HB3 := Lib.hid (below_then HB2.out hb3)
  have HU3 := Lib.hid (HUP.out w3 HB3.out)
  have y0 : w3.cell? ⟨w.heap.size + 1, 0, none⟩ = some (.string E.nm) := cell_of_row _ _ 0 _ _ _ hy3
  have y3 : w3.cell? ⟨w.heap.size + 1, 3, none⟩ = some (.int .u16 (E.flags : Nat)) := cell_of_row _ _ 3 _ _ _ hy3
  clear hb3 HX2 HY2 HB2 HFI HUP hy3
  generalize fndB L 28789 = B at *
  by_cases hz : bits .and .u16 (E.flags : Int) 2048 = 0
  · have bz : (bits .and .u16 (E.flags : Int) 2048 != 0) = false := by rw [hz]; rfl
    have HZ := Lib.hid hz
    clear hz
    cases B with
    | false =>
      have HVV : Hid (V = txC E.nm) := by show _ = _; rw [HV.out, HZ.out]; rfl
      clear HV HPP HPC HDU
      go_wp2_with fail
      refine (HDC.out _ HU3.out).mono ?_; rintro e w4 ⟨rfl, hb4⟩
      have HB4 := Lib.hid (below_then HB3.out hb4)
      clear HDC hb4 HB3 HY3 y0 y3
      go_wp2_with fail
      go_ret2
      rw [HVV.out]
      exact ⟨rfl, HB4.out⟩
    | true =>
      have HVV : Hid (V = txP (fndD L 28789) E.nm) := by show _ = _; rw [HV.out, HZ.out]; rfl
      clear HV HDU
      generalize fndD L 28789 = D at *
      go_wp2_with fail
      refine (HPP.out _).mono ?_; rintro e w4 ⟨rfl, hb4⟩
      have HB4 := Lib.hid (below_then HB3.out hb4)
      have HU4 := Lib.hid (HU3.out.below hb4)
      have hy4 := (hb4.block _ (lt_of_block HY3.out)).trans HY3.out
      have y0 : w4.cell? ⟨w.heap.size + 1, 0, none⟩ = some (.string E.nm) := cell_of_row _ _ 0 _ _ _ hy4
      clear HPP hb4 HB3 HU3 HY3 y3 hy4
      rcases HPC.out with ⟨p, z, hp, ht⟩ | ⟨p, z, hz0, hp, ht⟩ | ⟨hp, ht⟩
      · rw [hp]
        have HVE : Hid (V = (p, z)) := HVV.out.trans ht
        clear HPC HDC hp ht HVV
        go_wp2_with fail
        go_ret2
        rw [HVE.out]
        exact ⟨rfl, HB4.out⟩
      · rw [hp]
        have HVE : Hid (V = (p, z)) := HVV.out.trans ht
        have hzb : (z != 0) = true := bne_iff_ne.2 hz0
        clear HPC HDC hp ht HVV
        go_wp2_with fail
        go_ret2
        rw [HVE.out]
        exact ⟨rfl, HB4.out⟩
      · rw [hp]
        have HVE : Hid (V = txC E.nm) := HVV.out.trans ht
        clear HPC hp ht HVV
        go_wp2_with fail
        refine (HDC.out _ HU4.out).mono ?_; rintro e w5 ⟨rfl, hb5⟩
        have HB5 := Lib.hid (below_then HB4.out hb5)
        clear HDC hb5 HB4 y0
        go_wp2_with fail
        go_ret2
        rw [HVE.out]
        exact ⟨rfl, HB5.out⟩
  · have bz : (bits .and .u16 (E.flags : Int) 2048 != 0) = true := bne_iff_ne.2 hz
    have bz2 : (bits .and .u16 (E.flags : Int) 2048 == 0) = false := beq_eq_false_iff_ne.2 hz
    have HVV : Hid (V = txU E.nm) := by show _ = _; rw [HV.out, bz2]; rfl
    clear HV HPP HPC HDC
    go_wp2_with fail
    refine (HDU.out _).mono ?_; rintro e w4 ⟨rfl, hb4⟩
    have HB4 := Lib.hid (below_then HB3.out hb4)
    clear HDU hb4 HB3 HY3 y0 y3
    go_wp2_with fail
    go_ret2
    rw [HVV.out]
    exact ⟨rfl, HB4.out⟩
end Go.Proofs.YtjnoapbddifcpaaGreatDoor

namespace Go.Proofs.YtjnoapbddifcpaaGreatDoor
set_option maxRecDepth 100000
set_option linter.unusedSimpArgs false
set_option linter.unusedVariables false
open Go.RowKit Go.Joins Go.Deep
def patV (l : List Fd) (E : Ent) : ByteArray × Bool × Int := if (txtV l E).2 = 0 then chkV (txtV l E).1 else (⟨#[]⟩, false, (txtV l E).2)
set_option maxHeartbeats 8000000 in
theorem path_any (F : Array Value) (l1 l2 : List Fd) (E : Ent) (hnm : E.nm.size ≤ 100000) (h1 : l1.length ≤ 16384) (h2 : l2.length ≤ 16384) (w : World) (hU : Upper w) (hE : Env w) (hF : FsV w F l1 l2) (hD : (fndD (l1 ++ l2) 28789).size ≤ maxLen) (hT : (txtV (l1 ++ l2) E).1.size ≤ 9223372036854775807) :
    Calls Tryz.prog 47 #[.agg F, .agg E.cells] w fun e w' => e = .returned (.tuple #[.string (patV (l1 ++ l2) E).1, .bool (patV (l1 ++ l2) E).2.1, .int .i64 (patV (l1 ++ l2) E).2.2]) ∧ Below w.heap.size w w' := by
  obtain ⟨w1, hw1⟩ : ∃ w1, w1 = w.alloc (.cells F 110) := ⟨_, rfl⟩
  obtain ⟨w2, hw2⟩ : ∃ w2, w2 = w1.alloc (.cells E.cells 32) := ⟨_, rfl⟩
  have hb1 : Below w.heap.size w w1 := by rw [hw1]; exact (Below.refl _ _).alloc (Nat.le_refl _) _
  have hb12 : Below w1.heap.size w1 w2 := by rw [hw2]; exact (Below.refl _ _).alloc (Nat.le_refl _) _
  have hb2 := below_then hb1 hb12
  have HB2 := Lib.hid hb2
  have HTX := Lib.hid (text_any F l1 l2 E hnm h1 h2 w (hU) (hF) hD)
  have HTX2 := Lib.hid (text_any F l1 l2 E hnm h1 h2 w2 (hU.below hb2) (hF.below hb2) hD)
  have HE := Lib.hid (fun w3 (hb : Below w.heap.size w w3) => hE.below hb)
  obtain ⟨A1, c1, A2, c2, rfl, hf1, hn1, hf2, hn2⟩ := hF
  obtain ⟨V, hV⟩ : ∃ V, V = patV (l1 ++ l2) E := ⟨_, rfl⟩
  rw [← hV]
  unfold patV at hV
  have HCK := Lib.hid (fun w3 h => check_any (txtV (l1 ++ l2) E).1 w3 hT h)
  have HV := Lib.hid hV
  clear hT hV hD hb1 hb12 hb2 hf1 hn1 hf2 hn2 hU hE
  generalize txtV (l1 ++ l2) E = T at *
  generalize l1.length = n1 at *
  generalize l2.length = n2 at *
  rw [hw1] at hw2
  simp only [Ent.cells] at hw2 HTX HTX2 ⊢
  have HW2 := Lib.hid hw2
  clear hw1 hw2
  go_enter Tryz.func47, Tryz.ntmps47
  go_wp2_with fail
  rw [← HW2.out]
  clear HW2
  refine HTX2.out.mono ?_; rintro e w3 ⟨rfl, hb3⟩
  have HB3 := Lib.hid (below_then HB2.out hb3)
  have HE3 := Lib.hid (HE.out w3 HB3.out)
  clear hb3 HTX HTX2 HB2 HE
  obtain ⟨p, z⟩ := T
  by_cases hz : z = 0
  · subst hz
    have HVV : Hid (V = chkV p) := by show _ = _; rw [HV.out]; rfl
    go_wp2_with fail
    refine (HCK.out _ HE3.out).mono ?_; rintro e w4 ⟨rfl, hb4⟩
    have HB4 := Lib.hid (below_then HB3.out hb4)
    clear hb4 HCK HV
    go_wp2_with fail
    go_ret3
    rw [HVV.out]
    exact ⟨rfl, HB4.out⟩
  · have bz : (z != 0) = true := bne_iff_ne.2 hz
    have HVV : Hid (V = (⟨#[]⟩, false, z)) := by show _ = _; rw [HV.out, if_neg hz]
    clear HCK HV
    go_wp2_with fail
    go_ret3
    rw [HVV.out]
    exact ⟨rfl, HB3.out⟩
end Go.Proofs.YtjnoapbddifcpaaGreatDoor

namespace Go.Proofs.YtjnoapbddifcpaaGreatDoor
set_option maxRecDepth 100000
set_option linter.unusedSimpArgs false
set_option linter.unusedVariables false
open Go.RowKit Go.Joins Go.Deep
/-- A stamp of a field, with an error. -/
structure StT where
  f : Int
  a : Int
  b : Int
  c : Int
  z : Int
def StT.val (x : StT) : Value := .tuple #[.agg #[.int .u8 x.f, .int .i32 x.a, .int .i32 x.b, .int .i32 x.c], .int .i64 x.z]
def stT (s : ByteArray) (c : Bool) : StT := if stOk s ((nums s).getD 0 0) c = true then ⟨((nums s).getD 0 0 : Nat), vk s ((nums s).getD 0 0) c 0, vk s ((nums s).getD 0 0) c 1, vk s ((nums s).getD 0 0) c 2, 0⟩ else ⟨0, 0, 0, 0, 24⟩
theorem stRes_T (s : ByteArray) (c : Bool) : stRes s c = (stT s c).val := by
  unfold stRes stT StT.val
  simp only []
  split <;> rfl
def StT.cut (x : StT) : StT := { x with f := bits .and .u8 x.f 1 }
def tolV (l1 l2 : List Fd) : StT := if fndB l1 21589 = true then stT (fndD l1 21589) false else if fndB l2 21589 = true then (stT (fndD l2 21589) true).cut else ⟨0, 0, 0, 0, 0⟩
theorem info_stampM : (Tryz.prog.info? 163).map (·.size) = some 4 := by kernel_rfl
set_option maxHeartbeats 8000000 in
theorem told_any (F : Array Value) (l1 l2 : List Fd) (h1 : l1.length ≤ 16384) (h2 : l2.length ≤ 16384) (w : World) (hF : FsV w F l1 l2) (hD1 : (fndD l1 21589).size ≤ maxLen) (hD2 : (fndD l2 21589).size ≤ maxLen) :
    Calls Tryz.prog 73 #[.agg F] w fun e w' => e = .returned (tolV l1 l2).val ∧ Below w.heap.size w w' := by
  obtain ⟨A1, c1, A2, c2, rfl, hf1, hn1, hf2, hn2⟩ := hF
  have HP1 := Lib.hid (fun w1 => by have h := parseStamp_st (fndD l1 21589) false hD1 w1; rw [stRes_T] at h; exact h)
  have HP2 := Lib.hid (fun w1 => by have h := parseStamp_st (fndD l2 21589) true hD2 w1; rw [stRes_T] at h; exact h)
  have HF1 := Lib.hid (fun w1 (hb : Below w.heap.size w w1) => find13_any A1 c1 l1 21589 w1 (hf1.below (Nat.le_refl _) hb) (by omega))
  have HF2 := Lib.hid (fun w1 (hb : Below w.heap.size w w1) => find13_any A2 c2 l2 21589 w1 (hf2.below (Nat.le_refl _) hb) (by omega))
  obtain ⟨V, hV⟩ : ∃ V, V = tolV l1 l2 := ⟨_, rfl⟩
  rw [← hV]
  unfold tolV at hV
  have HV := Lib.hid hV
  clear hV hf1 hf2 hn1 hn2 hD1 hD2
  generalize fndB l1 21589 = B1 at *
  generalize fndB l2 21589 = B2 at *
  generalize stT (fndD l1 21589) false = S1 at *
  generalize stT (fndD l2 21589) true = S2 at *
  generalize fndD l1 21589 = D1 at *
  generalize fndD l2 21589 = D2 at *
  generalize l1.length = n1 at *
  generalize l2.length = n2 at *
  obtain ⟨w1, hw1⟩ : ∃ w1, w1 = w.alloc (.cells #[.slice A1 n1 c1, .slice A2 n2 c2] 110) := ⟨_, rfl⟩
  obtain ⟨w2, hw2⟩ : ∃ w2, w2 = w1.alloc (.cells #[.int .u8 0, .int .i32 0, .int .i32 0, .int .i32 0] 163) := ⟨_, rfl⟩
  have hb1 : Below w.heap.size w w1 := by rw [hw1]; exact (Below.refl _ _).alloc (Nat.le_refl _) _
  have hb12 : Below w1.heap.size w1 w2 := by rw [hw2]; exact (Below.refl _ _).alloc (Nat.le_refl _) _
  have hsz : w1.heap.size = w.heap.size + 1 := by rw [hw1]; simp only [World.alloc, Array.size_push]
  have hx1 : w1.heap[w.heap.size]? = some (.cells #[.slice A1 n1 c1, .slice A2 n2 c2] 110 (0, 0)) := by rw [hw1]; exact heap_alloc_new w _
  have HX2 := Lib.hid ((hb12.block _ (lt_of_block hx1)).trans hx1)
  have HY2 : Hid (w2.heap[w.heap.size + 1]? = some (.cells #[.int .u8 0, .int .i32 0, .int .i32 0, .int .i32 0] 163 (0, 0))) := by show _ = _; rw [hw2, ← hsz]; exact heap_alloc_new w1 _
  have HB2 := Lib.hid (below_then hb1 hb12)
  rw [hw1] at hw2
  have HW2 := Lib.hid hw2
  clear hw1 hw2 hb1 hb12 hsz hx1
  go_enter Tryz.func73, Tryz.ntmps73
  go_wp2_with fail
  rw [← HW2.out]
  clear HW2
  refine (HF1.out w2 HB2.out).mono ?_; rintro e w3 ⟨rfl, hb3⟩
  have HX3 := Lib.hid ((hb3.block _ (lt_of_block HX2.out)).trans HX2.out)
  have HY3 := Lib.hid ((hb3.block _ (lt_of_block HY2.out)).trans HY2.out)
  have HB3 := Lib.hid (below_then HB2.out hb3)
  clear hb3 HX2 HY2 HB2 HF1
  cases B1 with
  | true =>
    have HVV : Hid (V = S1) := by show _ = _; rw [HV.out]; rfl
    clear HV HF2 HP2
    go_wp2_with fail
    refine (HP1.out w3).mono ?_; rintro e w4 ⟨rfl, hb4⟩
    have HY4 := Lib.hid ((hb4.block _ (lt_of_block HY3.out)).trans HY3.out)
    have HB4 := Lib.hid (below_then HB3.out hb4)
    clear hb4 HX3 HY3 HB3 HP1
    unfold StT.val
    go_wp2_with (refine wpList_store_row rfl 163 (.tmp 2) _ rfl (w.heap.size + 1) #[.int .u8 S1.f, .int .i32 S1.a, .int .i32 S1.b, .int .i32 S1.c] rfl rfl 163 _ HY4.out info_stampM rfl (by simp [Value.oneCell']) ?_)
    have HY5 := Lib.hid (setRow_heap _ _ _ #[.int .u8 S1.f, .int .i32 S1.a, .int .i32 S1.b, .int .i32 S1.c] _ _ HY4.out)
    exact bodyPost_ret (results_ct_rowF rfl _ _ (w.heap.size + 1) 163 _ (0, 0) _ rfl HY5.out Tryz.underlying163 rfl info_stampM) rfl ⟨by rw [HVV.out]; rfl, below_setRow HB4.out (Nat.le_succ _) _⟩
  | false =>
    have x1 : w3.cell? ⟨w.heap.size, 1, none⟩ = some (.slice A2 n2 c2) := cell_of_row _ _ 1 _ _ _ HX3.out
    go_wp2_with fail
    refine (HF2.out w3 HB3.out).mono ?_; rintro e w4 ⟨rfl, hb4⟩
    have HY4 := Lib.hid ((hb4.block _ (lt_of_block HY3.out)).trans HY3.out)
    have HB4 := Lib.hid (below_then HB3.out hb4)
    clear hb4 HX3 HY3 HB3 HF2 x1
    cases B2 with
    | false =>
      have HVV : Hid (V = ⟨0, 0, 0, 0, 0⟩) := by show _ = _; rw [HV.out]; rfl
      clear HV HP1 HP2
      go_wp2_with (refine wpList_store_row rfl 163 (.tmp 2) _ rfl (w.heap.size + 1) #[.int .u8 0, .int .i32 0, .int .i32 0, .int .i32 0] rfl rfl 163 _ HY4.out info_stampM rfl (by simp [Value.oneCell']) ?_)
      have HY5 := Lib.hid (setRow_heap _ _ _ #[.int .u8 0, .int .i32 0, .int .i32 0, .int .i32 0] _ _ HY4.out)
      exact bodyPost_ret (results_ct_rowF rfl _ _ (w.heap.size + 1) 163 _ (0, 0) _ rfl HY5.out Tryz.underlying163 rfl info_stampM) rfl ⟨by rw [HVV.out]; rfl, below_setRow HB4.out (Nat.le_succ _) _⟩
    | true =>
      have HVV : Hid (V = S2.cut) := by show _ = _; rw [HV.out]; rfl
      clear HV HP1
      go_wp2_with fail
      refine (HP2.out w4).mono ?_; rintro e w5 ⟨rfl, hb5⟩
      have HY5 := Lib.hid ((hb5.block _ (lt_of_block HY4.out)).trans HY4.out)
      have HB5 := Lib.hid (below_then HB4.out hb5)
      clear hb5 HY4 HB4 HP2
      unfold StT.val
      have hlt5 : w.heap.size + 1 < w5.heap.size := lt_of_block HY5.out
      go_wp2_with (refine wpList_store_row rfl 163 (.tmp 2) (.tmp 39) rfl (w.heap.size + 1) #[.int .u8 (bits .and .u8 S2.f 1), .int .i32 S2.a, .int .i32 S2.b, .int .i32 S2.c] rfl rfl 163 (#[.int .u8 0, .int .i32 0, .int .i32 0, .int .i32 0]) ?hy info_stampM rfl (by simp [Value.oneCell']) ?_)
      case hy => exact (((Below.refl w5.heap.size w5).alloc (Nat.le_refl _) _).block _ hlt5).trans HY5.out
      have HB6 := Lib.hid (HB5.out.alloc HB5.out.size (.cells #[.int .u8 (bits .and .u8 S2.f 1), .int .i32 S2.a, .int .i32 S2.b, .int .i32 S2.c] 163))
      have HY6 := Lib.hid ((((Below.refl w5.heap.size w5).alloc (Nat.le_refl _) (.cells #[.int .u8 (bits .and .u8 S2.f 1), .int .i32 S2.a, .int .i32 S2.b, .int .i32 S2.c] 163)).block _ hlt5).trans HY5.out)
      have HY7 := Lib.hid (setRow_heap _ _ _ #[.int .u8 (bits .and .u8 S2.f 1), .int .i32 S2.a, .int .i32 S2.b, .int .i32 S2.c] _ _ HY6.out)
      exact bodyPost_ret (results_ct_rowF rfl _ _ (w.heap.size + 1) 163 _ (0, 0) _ rfl HY7.out Tryz.underlying163 rfl info_stampM) rfl ⟨by rw [HVV.out]; rfl, below_setRow HB6.out (Nat.le_succ _) _⟩
end Go.Proofs.YtjnoapbddifcpaaGreatDoor
