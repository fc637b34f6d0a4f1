/-
  Contract: Encode.
-/
import Derived.Test.YtalfmepimhneoaaDoorNamX
namespace Go.Proofs.YtalfmepimhneoaaDoor
set_option maxRecDepth 100000
open Go.RowKit Go.Deep Go.Joins Go.Lib

/-- A rune's byte by CP437. -/
def unO (r : Nat) : Option Nat := if r < 128 then some r else if cpL.idxOf r < 128 then some (128 + cpL.idxOf r) else none
theorem unO_lt {r x : Nat} (h : unO r = some x) : x < 256 := by
  unfold unO at h
  split at h
  · injection h; omega
  · split at h
    · injection h; omega
    · cases h
theorem idx_get {r : Nat} (h : cpL.idxOf r < 128) : cpL.getD (cpL.idxOf r) 0 = r := by
  have hl : cpL.idxOf r < cpL.length := by rw [cpL_len]; exact h
  rw [List.getD_eq_getElem?_getD, List.getElem?_eq_getElem hl]
  exact List.getElem_idxOf hl
theorem idx_no {r : Nat} (h : ¬ cpL.idxOf r < 128) : ∀ k, k < 128 → cpL.getD k 0 ≠ r := fun k hk e => by
  have hl : k < cpL.length := by rw [cpL_len]; exact hk
  rw [List.getD_eq_getElem?_getD, List.getElem?_eq_getElem hl] at e
  have hm : r ∈ cpL := by rw [← e]; exact List.getElem_mem hl
  have := List.idxOf_lt_length_of_mem hm
  rw [cpL_len] at this
  exact h this
theorem byteOf_any (r : Nat) (hr : r ≤ 1114111) (w : World) (hU : Upper w) :
    Calls Tryd.prog 49 #[.int .i32 (r : Nat)] w fun e w' => e = .returned (.tuple #[.int .u8 (((unO r).getD 0 : Nat) : Int), .bool (unO r).isSome]) ∧ w' = w := by
  unfold unO
  by_cases h : r < 128
  · rw [if_pos h]; exact byteOf_low r h w
  · rw [if_neg h]
    by_cases h2 : cpL.idxOf r < 128
    · rw [if_pos h2]; exact byteOf_hit r _ (by omega) h2 (idx_get h2) w hU
    · rw [if_neg h2]; exact byteOf_miss r (by omega) (by omega) (idx_no h2) w hU
/-- A text's bytes by CP437, or none. -/
def unL : List Nat → Option (List Nat)
  | [] => some []
  | r :: l => match unO r with
    | none => none
    | some x => (unL l).map (x :: ·)
def encO (s : ByteArray) : Option (List Nat) := unL (runesB s)
theorem Bd.iterAt {w : World} {B b k pos : Nat} {l : List Nat} {s : ByteArray} (h : Bd w B b l) (hk : w.heap[k]? = some (.stringIter s pos)) (pos' : Nat) : Bd (w.iterAt k s pos') B b l := by
  obtain ⟨hB, p, v, hb, hp, ho, hne⟩ := h
  have n1 : b ≠ k := by
    rintro rfl
    rw [hk] at hb
    cases hb
  have n2 : v.ownBlock ≠ some k := fun e => by
    obtain ⟨c, fz, hc⟩ := own_kind ho k e
    rw [hk] at hc
    cases hc
  exact ⟨hB, p, v, (Lib.iterAt_other w k b s pos' n1).trans hb, hp, ho.kept (row := some k) ⟨rfl, rfl, rfl, by rw [Lib.iterAt_size]; exact Nat.le_refl _, fun i _ hi => Lib.iterAt_other w k i s pos' (fun e => hi (by rw [e]))⟩ (.inr n2), hne⟩
theorem bd_alloc {w : World} {B b : Nat} {l : List Nat} (h : Bd w B b l) (o : Obj) : Bd (w.alloc o) B b l := by
  obtain ⟨hB, p, v, hb, hp, ho, hne⟩ := h
  exact ⟨hB, p, v, (Below.heap_alloc w o b (Array.getElem?_eq_some_iff.1 hb).1).trans hb, hp, ho.alloc o, hne⟩
set_option maxHeartbeats 8000000 in
theorem encode_any (s : ByteArray) (w : World) (hs : s.size ≤ 100000) (hU : Upper w) :
    Calls Tryd.prog 16 #[.string s] w fun e w' => e = .returned (.tuple #[.string (text ((encO s).getD [])), .bool (encO s).isSome]) ∧ Below w.heap.size w w' := by
  have HU := Lib.hid hU
  have HBY := Lib.hid (fun r hr w h => byteOf_any r hr w h)
  have HWB := Lib.hid (fun B b c l w hc hl hBw h => writeByte_any B b c l w hc hl hBw h)
  have HF := Lib.hid (bd_alloc (bd_fresh w) (.stringIter s 0))
  have hz := zero_bd
  have hits : (w.alloc (.cells #[.pointer none, .slice none 0 0] 64)).heap.size = w.heap.size + 1 := by simp
  have HIT : Hid (((w.alloc (.cells #[.pointer none, .slice none 0 0] 64)).alloc (.stringIter s 0)).heap[w.heap.size + 1]? = some (.stringIter s 0)) := by
    have h := heap_alloc_new (w.alloc (.cells #[.pointer none, .slice none 0 0] 64)) (.stringIter s 0)
    rw [hits] at h
    exact h
  have HB0 : Hid (Below w.heap.size w ((w.alloc (.cells #[.pointer none, .slice none 0 0] 64)).alloc (.stringIter s 0))) := ((Below.refl _ _).alloc (Nat.le_refl _) _).alloc (by simp) _
  clear hU hits
  go_enter Tryd.func16, Tryd.ntmps16
  go_wp2_with fail
  go_loopw [] (fun wr => ∃ (pos f : Nat) (o : List Nat), Hid (wr.heap[w.heap.size + 1]? = some (.stringIter s pos)) ∧ Hid (Bd wr w.heap.size w.heap.size o) ∧ Hid (Below w.heap.size w wr) ∧ pos ≤ s.size ∧ Hid (encO s = (unL (runeF s f pos)).map (o ++ ·)) ∧ s.size ≤ pos + f ∧ o.length ≤ pos ∧ Hid (∀ x ∈ o, x < 256)) (fun wr => s.size - wr.iterPos (w.heap.size + 1))
  case atStart => exact ⟨0, s.size, [], HIT.out, HF.out, HB0.out, Nat.zero_le _, by show _ = _; unfold encO runesB; cases unL (runeF s s.size 0) <;> rfl, by omega, Nat.le_refl _, fun x hx => by cases hx⟩
  case round =>
    obtain ⟨pos, f, o, HK, HBD, HB, hle, HC, hf, hol, HLT⟩ := hrel
    by_cases hp : pos < s.size
    · have hnx : ∀ ty, (Instr.next (.pointer (some ⟨w.heap.size + 1, 0, none⟩)) true ty).run Tryd.prog wr = _ := fun ty => Lib.run_next_any_at wr (w.heap.size + 1) s pos ty HK.out hp
      have hrun : 1 ≤ (Utf8.decode s pos).2 ∧ pos + (Utf8.decode s pos).2 ≤ s.size ∧ (Utf8.decode s pos).1 ≤ 1114111 := by
        rcases decode_run s pos hp with ⟨h1, h2⟩ | ⟨_, _, h3, h4, h5, _⟩
        · rw [h2]
          exact ⟨Nat.le_refl _, by show pos + 1 ≤ _; omega, by show s[pos].toNat ≤ _; omega⟩
        · exact ⟨h4, h5, h3⟩
      obtain ⟨f', rfl⟩ : ∃ f', f = f' + 1 := ⟨f - 1, by omega⟩
      have HC2 : Hid (encO s = (unL ((Utf8.decode s pos).1 :: runeF s f' (pos + (Utf8.decode s pos).2))).map (o ++ ·)) := by
        have h := HC.out
        rw [runeF, if_pos hp] at h
        exact h
      have HK2 := Lib.hid (Lib.iterAt_heap wr (w.heap.size + 1) s pos (pos + (Utf8.decode s pos).2) HK.out)
      have HB2 := Lib.hid (Lib.below_iterAt HB.out (Nat.le_succ _) s (pos + (Utf8.decode s pos).2))
      have HBD2 := Lib.hid (HBD.out.iterAt HK.out (pos + (Utf8.decode s pos).2))
      have HIP : Hid (wr.iterPos (w.heap.size + 1) = pos) := by show _ = _; unfold World.iterPos; rw [HK.out]
      generalize Utf8.decode s pos = D at *
      obtain ⟨r, k⟩ := D
      obtain ⟨hk1, hk2, hr⟩ := hrun
      simp only at hk1 hk2 hr hnx HC2 HK2 HB2 HBD2
      generalize wr.iterAt (w.heap.size + 1) s (pos + k) = w2 at *
      clear HC HK HB HBD
      cases hu : unO r with
      | none =>
        have HE : Hid (encO s = none) := by
          show _ = _
          rw [HC2.out, unL, hu]
          rfl
        have HBX := Lib.hid (fun w h => HBY.out r hr w h)
        rw [hu] at HBX
        clear hu
        go_wp2_with fail
        refine (HBX.out _ (HU.out.below HB2.out)).mono ?_
        rintro e w3 ⟨rfl, rfl⟩
        go_wp2_with fail
        go_ret2
        rw [HE.out]
        exact ⟨rfl, HB2.out⟩
      | some x =>
        have hx := unO_lt hu
        have HE : Hid (encO s = (unL (runeF s f' (pos + k))).map ((o ++ [x]) ++ ·)) := by
          show _ = _
          rw [HC2.out, unL, hu]
          show Option.map _ (Option.map _ _) = _
          rw [Option.map_map]
          congr 1
          funext l
          show o ++ x :: l = o ++ [x] ++ l
          simp
        have HBX := Lib.hid (fun w h => HBY.out r hr w h)
        rw [hu] at HBX
        clear hu
        go_wp2_with fail
        refine (HBX.out _ (HU.out.below HB2.out)).mono ?_
        rintro e w3 ⟨rfl, rfl⟩
        go_wp2_with fail
        refine (HWB.out w.heap.size w.heap.size x o _ hx (by omega) HB2.out.size HBD2.out).mono ?_
        rintro e w4 ⟨rfl, hbd, hbw, hit⟩
        have HK4 := Lib.hid (hit _ _ _ HK2.out)
        have HB4 := Lib.hid (HB2.out.trans hbw)
        have HBD4 := Lib.hid hbd
        have HIP4 : Hid (w4.iterPos (w.heap.size + 1) = pos + k) := by show _ = _; unfold World.iterPos; rw [HK4.out]
        have HL4 : Hid (∀ y ∈ o ++ [x], y < 256) := fun y hy => by
          rcases List.mem_append.1 hy with h | h
          · exact HLT.out y h
          · rw [List.mem_singleton.1 h]; exact hx
        clear hbd hbw hit
        go_wp2_with fail
        go_roundw
        case rel => exact ⟨pos + k, f', o ++ [x], HK4, HBD4, HB4, hk2, HE, by omega, by rw [List.length_append]; show o.length + 1 ≤ _; omega, HL4⟩
        case measure => rw [HIP.out, HIP4.out]; omega
    · have hnx : ∀ ty, (Instr.next (.pointer (some ⟨w.heap.size + 1, 0, none⟩)) true ty).run Tryd.prog wr = _ := fun ty => Lib.run_next_end_at wr (w.heap.size + 1) s pos ty HK.out hp
      have HE : Hid (encO s = some o) := by
        have h := HC.out
        rw [runeF_end s f pos hp] at h
        show _ = _
        rw [h]
        show some (o ++ []) = _
        rw [List.append_nil]
      have HST := Lib.hid (bdString_any w.heap.size w.heap.size o wr HLT.out HB.out.size HBD.out)
      go_wp2_with fail
      refine (HST.out).mono ?_
      rintro e w1 ⟨rfl, hbw⟩
      have HW2 := Lib.hid (HB.out.trans hbw)
      clear hbw
      go_wp2_with fail
      go_ret2
      rw [HE.out]
      exact ⟨rfl, HW2.out⟩
end Go.Proofs.YtalfmepimhneoaaDoor
