/-
  Contracts: IndexRune in "\x00\\" of a rune that is no ASCII; IndexAny, ContainsAny of these two bytes in any text.
  Contracts: IndexAny, ContainsAny of the bytes 0 and 92 in any text.
  Contracts: the document's within and One.
  Contracts: the document's One, more classes of lead bytes.
  Contracts: the document's One, more classes of lead bytes.
  Contracts: the document's One, more classes of lead bytes.
  Contracts: the document's One, some classes of lead bytes.
  Contract: the document's One, at any place: a stray, or the rune that the model reads there.
  Plain facts on the step of a sum, its rounds, and the product of two numbers as polynomials. No Go in sight.
  Contracts of the sum's step, product and shift.
-/
import Derived.Test.YtijfcmlgohbndaaGreatDoorPkAG
import Derived.Laws.Runes
import Derived.Scope
import Derived.ScopeJumps
import Derived.Lib.OthersKept
import Derived.Test.YtijfcmlgohbndaaGreatDoorPkAA

namespace Go.Proofs.YtijfcmlgohbndaaGreatDoor
set_option maxRecDepth 100000
open Go.RowKit Go.Deep Go.Joins

def bad2 : ByteArray := ⟨#[0, 92]⟩
theorem enc_high (r : Nat) (hv : Utf8.valid (r : Int) = true) (h128 : 128 ≤ r) : ∃ m x, (Utf8.encode (r : Int)).size = m ∧ 2 ≤ m ∧ m ≤ 4 ∧ (Utf8.encode (r : Int))[m - 1]? = some x ∧ 128 ≤ x.toNat := by
  obtain ⟨h1, h2, h3⟩ := encode_facts (r : Int) hv (by omega)
  refine ⟨_, (Utf8.encode (r : Int))[(Utf8.encode (r : Int)).size - 1]'(by omega), rfl, h1, h2, ?_, h3 (by omega)⟩
  rw [getElem?_pos]

theorem lib_valid (r : Int) : Utf8.valid r = Lib.validRune r := by
  rw [validRune_eq]
  rfl
set_option maxHeartbeats 8000000 in
set_option maxRecDepth 1000000 in
theorem indexRune_high (r : Nat) (h0 : 128 ≤ r) (h1 : r ≤ 2147483647) (w : World) :
    Calls Tryz.prog 126 #[.string ⟨#[0, 92]⟩, .int .i32 (r : Nat)] w fun e w' => e = .returned (.int .i64 (-1)) ∧ Below w.heap.size w w' := by
  have hd1 : decide ((r : Int) < 128) = false := decide_eq_false (by omega)
  by_cases hr : r = 65533
  · subst hr
    have e0 : ((65533 : Nat) : Int) = 65533 := rfl
    have hn0 : ∀ ty, (Instr.next (.pointer (some ⟨w.heap.size, 0, none⟩)) true ty).run Tryz.prog (w.iter ⟨#[0, 92]⟩ 0) = .ok (.tuple #[.bool true, .int .i64 0, .int .i32 0]) (w.iter ⟨#[0, 92]⟩ 1) := fun ty => run_next_any w ⟨#[0, 92]⟩ 0 ty (by decide)
    have hn1 : ∀ ty, (Instr.next (.pointer (some ⟨w.heap.size, 0, none⟩)) true ty).run Tryz.prog (w.iter ⟨#[0, 92]⟩ 1) = .ok (.tuple #[.bool true, .int .i64 1, .int .i32 92]) (w.iter ⟨#[0, 92]⟩ 2) := fun ty => run_next_any w ⟨#[0, 92]⟩ 1 ty (by decide)
    have hn2 : ∀ ty, (Instr.next (.pointer (some ⟨w.heap.size, 0, none⟩)) true ty).run Tryz.prog (w.iter ⟨#[0, 92]⟩ 2) = _ := fun ty => run_next_end w ⟨#[0, 92]⟩ 2 ty (by decide)
    go_enter Tryz.func126, Tryz.ntmps126
    go_wp2_with fail
    refine wp_loop_rounds 3 ?_
    rw [rounds_succ]
    go_wp2_with fail
    rw [rounds_succ]
    go_wp2_with fail
    rw [rounds_succ]
    go_wp2_with fail
    go_ret
    exact ⟨rfl, below_iter _ _ _⟩
  · have hr2 : ((r : Int) == 65533) = false := by rw [beq_eq_false_iff_ne]; omega
    cases hv : Utf8.valid (r : Int) with
    | false =>
      have hvr : Lib.validRune (r : Int) = false := by rw [← lib_valid]; exact hv
      go_enter Tryz.func126, Tryz.ntmps126
      go_wp2_with fail
      refine (sh_utf8_ValidRune _ _).mono ?_
      rintro e w1 ⟨rfl, rfl⟩
      rw [hvr]
      go_wp2
      go_ret
      exact ⟨rfl, Below.refl _ _⟩
    | true =>
      have hvr : Lib.validRune (r : Int) = true := by rw [← lib_valid]; exact hv
      obtain ⟨m, x, hm, hm2, hm4, hx, hx8⟩ := enc_high r hv h0
      go_enter Tryz.func126, Tryz.ntmps126
      go_wp2_with fail
      refine (sh_utf8_ValidRune _ _).mono ?_
      rintro e w1 ⟨rfl, rfl⟩
      rw [hvr]
      have hcv : ∀ w, (convert 21 9 (.int .i32 (r : Int))).run Tryz.prog w = .ok (.string (Utf8.encode (r : Int))) w := fun w => run_convert_int_string w _ _ _ _ (by kernel_rfl) Tryz.underlying9
      generalize Utf8.encode (r : Int) = rs at *
      have HX := Lib.hid hx
      clear hx
      by_cases h2 : m = 2
      · subst h2
        have hi1 : (2 : Int) - 1 = 1 := rfl
        have hsz1 : 1 < rs.size := by omega
        have hrx : rs[1] = x := by
          have h := HX.out
          rw [show 2 - 1 = 1 from rfl, getElem?_pos rs 1 hsz1] at h
          exact Option.some.inj h
        have hneq : (((((⟨#[0, 92]⟩ : ByteArray)[1]'(by decide)).toNat : Nat) : Int) != (x.toNat : Int)) = true := by
          rw [bne_iff_ne]
          show ((92 : Nat) : Int) ≠ _
          omega
        go_wp2_with fail
        go_step3
        go_wp2_with fail
        refine wp_loop_rounds 1 ?_
        rw [rounds_succ]
        go_wp2_with fail
        go_step3
        go_wp2_with fail
        go_quiet (fail)
        have HD2 : Hid (Below w1.heap.size w1 (w1.drewN nq)) := below_drewN (Below.refl _ _) nq
        have hw2 : IntKind.i64.wrap 2 = 2 := rfl
        generalize w1.drewN nq = w2 at *
        go_wp2_with fail
        go_quiet (first | (go_at_call 140; exact Calls.quiet_of_same (sh_strings_IndexByte _ _ _)))
        have hib : Lib.indexByte ByteArray.empty.data.toList ((x.toNat : Int)).toNat.toUInt8 = -1 := rfl
        rw [hib]
        go_wp2_with fail
        go_simp
        go_ret
        exact ⟨rfl, below_drewN HD2.out _⟩
      · have hm3 : (2 : Int) ≤ (m : Int) - 1 := by omega
        go_wp2_with fail
        go_step3
        go_wp2_with fail
        refine wp_loop_rounds 1 ?_
        rw [rounds_succ]
        go_wp2_with fail
        rw [Exit.noGoto_ret]
        go_ret
        exact ⟨rfl, Below.refl _ _⟩
end Go.Proofs.YtijfcmlgohbndaaGreatDoor

namespace Go.Proofs.YtijfcmlgohbndaaGreatDoor
set_option maxRecDepth 100000
open Go.RowKit Go.Deep Go.Joins

open Go.Lib in
set_option maxRecDepth 100000 in
set_option maxHeartbeats 4000000 in
theorem decodeN_run (n b0 b1 b2 b3 : Nat) (D : Nat × Nat) (hD : decodeN n b0 b1 b2 b3 = D) : (b0 < 128 ∧ D = (b0, 1)) ∨ (128 ≤ b0 ∧ 128 ≤ D.1 ∧ D.1 ≤ 1114111 ∧
    (D.2 = 1 ∨ D.2 = 2 ∧ 1 < n ∧ 128 ≤ b1 ∨ D.2 = 3 ∧ 2 < n ∧ 128 ≤ b1 ∧ 128 ≤ b2 ∨ D.2 = 4 ∧ 3 < n ∧ 128 ≤ b1 ∧ 128 ≤ b2 ∧ 128 ≤ b3)) := by
  unfold decodeN at hD
  by_cases h0 : b0 < 128
  · rw [if_pos h0] at hD; exact .inl ⟨h0, hD.symm⟩
  · rw [if_neg h0] at hD
    right
    refine ⟨by omega, ?_⟩
    repeat' split at hD
    all_goals subst hD
    all_goals refine ⟨by show 128 ≤ _; omega, by show _ ≤ 1114111; omega, ?_⟩
    all_goals first
      | exact .inl rfl
      | exact .inr (.inl ⟨rfl, by omega, by omega⟩)
      | exact .inr (.inr (.inl ⟨rfl, by omega, by omega, by omega⟩))
      | exact .inr (.inr (.inr ⟨rfl, by omega, by omega, by omega, by omega⟩))
/-- A rune is a byte below 128, or bytes from 128 on. -/
theorem decode_run (s : ByteArray) (p : Nat) (h : p < s.size) : (s[p].toNat < 128 ∧ Utf8.decode s p = (s[p].toNat, 1)) ∨
    (128 ≤ s[p].toNat ∧ 128 ≤ (Utf8.decode s p).1 ∧ (Utf8.decode s p).1 ≤ 1114111 ∧ 1 ≤ (Utf8.decode s p).2 ∧ p + (Utf8.decode s p).2 ≤ s.size ∧ ∀ j (hj : p + j < s.size), j < (Utf8.decode s p).2 → 128 ≤ s[p + j].toNat) := by
  have hd := Lib.decode_at s p
  have h0 := get_bang s p h
  rcases decodeN_run (s.size - p) (s.get! p).toNat (s.get! (p + 1)).toNat (s.get! (p + 2)).toNat (s.get! (p + 3)).toNat _ hd.symm with ⟨h1, h2⟩ | ⟨h1, h2, h3, h4⟩
  · rw [h0] at h1 h2
    exact .inl ⟨h1, h2⟩
  · rw [h0] at h1
    refine .inr ⟨h1, h2, h3, ?_, ?_, ?_⟩
    · omega
    · omega
    · intro j hj hjk
      have g : ∀ i, (hi : p + i < s.size) → (s.get! (p + i)).toNat = s[p + i].toNat := fun i hi => get_bang s (p + i) hi
      rcases j with _ | _ | _ | _ | j
      · exact h1
      · have := g 1 hj; simp only [Nat.zero_add] at *; omega
      · have := g 2 hj; simp only [Nat.zero_add, Nat.reduceAdd] at *; omega
      · have := g 3 hj; simp only [Nat.zero_add, Nat.reduceAdd] at *; omega
      · omega

theorem noAny_run {s : ByteArray} {p k : Nat} (h : Lib.NoAny s.data.toList [0, 92] p) (hk : ∀ j (hj : p + j < s.size), j < k → s[p + j].toNat ≠ 0 ∧ s[p + j].toNat ≠ 92) : Lib.NoAny s.data.toList [0, 92] (p + k) := by
  intro j b hj hb
  by_cases h1 : j < p
  · exact h j b h1 hb
  · have hjs : j < s.size := by
      have := (List.getElem?_eq_some_iff.1 hb).1
      rw [Array.length_toList] at this
      exact this
    obtain ⟨h2, h3⟩ := hk (j - p) (by omega) (by omega)
    have e : s[p + (j - p)]'(by omega) = b := by
      have hpj : p + (j - p) = j := by omega
      have h4 : s[j] = b := by
        rw [Array.getElem?_toList, Array.getElem?_eq_getElem hjs] at hb
        exact Option.some.inj hb
      rw [← h4]
      simp only [hpj]
    rw [e] at h2 h3
    have n0 : b ≠ 0 := fun e => h2 (by rw [e]; rfl)
    have n1 : b ≠ 92 := fun e => h3 (by rw [e]; rfl)
    simp [n0, n1]
theorem byte_list (s : ByteArray) (p : Nat) (h : p < s.size) : s.data.toList[p]? = some s[p] := by
  rw [Array.getElem?_toList, Array.getElem?_eq_getElem h]
  rfl
theorem index2 (b : UInt8) : (0 ≤ Lib.indexByte [0, 92] b) ↔ b = 0 ∨ b = 92 := by
  by_cases h0 : b = 0
  · subst h0; decide
  · by_cases h1 : b = 92
    · subst h1; decide
    · have e : Lib.indexByte [0, 92] b = -1 := by
        have n0 : ((0 : UInt8) == b) = false := by rw [beq_eq_false_iff_ne]; exact fun e => h0 e.symm
        have n1 : ((92 : UInt8) == b) = false := by rw [beq_eq_false_iff_ne]; exact fun e => h1 e.symm
        simp [Lib.indexByte, n0, n1]
      rw [e]
      simp [h0, h1]
set_option maxHeartbeats 8000000 in
set_option maxRecDepth 1000000 in
theorem indexAny_any (s : ByteArray) (w : World) (hs : s.size < 4294967281) :
    Calls Tryz.prog 111 #[.string s, .string ⟨#[0, 92]⟩] w fun e w' => e = .returned (.int .i64 (Lib.indexAny s.data.toList [0, 92])) ∧ Below w.heap.size w w' := by
  by_cases h8 : 8 < s.size
  · refine (sh_strings_IndexAny_long (fun w => by kernel_rfl) s ⟨#[0, 92]⟩ w (by decide) h8 hs (by decide) ?_).mono ?_
    · intro j b hj
      rcases j with _ | _ | j
      · simp at hj; subst hj; decide
      · simp at hj; subst hj; decide
      · simp at hj
    · rintro e w' ⟨rfl, rfl⟩
      exact ⟨rfl, ((Below.refl _ _).alloc (Nat.le_refl _) _).alloc (by simp) _⟩
  · have HIR := Lib.hid (fun (r : Nat) (h0 : 128 ≤ r) (h1 : r ≤ 2147483647) w => indexRune_high r h0 h1 w)
    have HIA := Lib.hid (fun (r : Int) (h0 : 0 ≤ r) (h1 : r < 128) w => sh_strings_IndexRune_ascii ⟨#[0, 92]⟩ r w h0 h1)
    have hs1 : (s.size : Int) ≤ 8 := by omega
    have hs2 : decide ((8 : Int) < (s.size : Int)) = false := decide_eq_false (by omega)
    go_enter Tryz.func111, Tryz.ntmps111
    go_wp2_with fail
    refine (sh_strings_shouldUseASCIISet _ _).mono ?_
    rintro e w1 ⟨rfl, rfl⟩
    go_wp2_with fail
    go_loopw [] (fun wr => ∃ (pos : Nat), Hid (wr.heap[w1.heap.size]? = some (.stringIter s pos)) ∧ Hid (Below w1.heap.size w1 wr) ∧ pos ≤ s.size ∧ Hid (Lib.NoAny s.data.toList [0, 92] pos)) (fun wr => s.size - wr.iterPos w1.heap.size)
    case atStart => exact ⟨0, heap_alloc_new w1 _, (Below.refl _ _).alloc (Nat.le_refl _) _, Nat.zero_le _, Lib.NoAny.zero _ _⟩
    case round =>
      obtain ⟨pos, HK, HB, hle, HN⟩ := hrel
      by_cases hp : pos < s.size
      · have hnx : ∀ ty, (Instr.next (.pointer (some ⟨w1.heap.size, 0, none⟩)) true ty).run Tryz.prog wr = _ := fun ty => Lib.run_next_any_at wr w1.heap.size s pos ty HK.out hp
        rcases decode_run s pos hp with ⟨hb, hd⟩ | ⟨hb, hd1, hd2, hk1, hk2, hk3⟩
        · rw [hd] at hnx
          have hx0 : s[pos].toNat < 256 := s[pos].toNat_lt
          have hxi : ((s[pos].toNat : Nat) : Int) < 128 := by omega
          have HI2 := Lib.hid (fun w => HIA.out (s[pos].toNat : Int) (by omega) hxi w)
          have e8 : ((s[pos].toNat : Int)).toNat.toUInt8 = s[pos] := by
            rw [Int.toNat_natCast]
            exact UInt8.ofNat_toNat
          rw [e8] at HI2
          have HX2 := Lib.hid (index2 s[pos])
          have HL := Lib.hid (byte_list s pos hp)
          have HRUN : Hid (¬ (s[pos] = 0 ∨ s[pos] = 92) → Lib.NoAny s.data.toList [0, 92] (pos + 1)) := fun h => HN.out.succ HL.out (by simp at h; simp [h.1, h.2])
          have HHIT : Hid (s[pos] = 0 ∨ s[pos] = 92 → Lib.indexAny s.data.toList [0, 92] = pos) := fun h => Lib.indexAny_hit HN.out HL.out (by rcases h with h | h <;> rw [h] <;> decide)
          have HK2 := Lib.hid (Lib.iterAt_heap wr w1.heap.size s pos (pos + 1) HK.out)
          have HB2 := Lib.hid (Lib.below_iterAt HB.out (Nat.le_refl _) s (pos + 1))
          have HIP : Hid (wr.iterPos w1.heap.size = pos) := by show _ = _; unfold World.iterPos; rw [HK.out]
          have HIP2 : Hid ((wr.iterAt w1.heap.size s (pos + 1)).iterPos w1.heap.size = pos + 1) := by show _ = _; unfold World.iterPos; rw [HK2.out]
          generalize s[pos] = x at *
          generalize wr.iterAt w1.heap.size s (pos + 1) = w2 at *
          clear hd hx0 e8
          by_cases hit : x = 0 ∨ x = 92
          · have HR := Lib.hid (HHIT.out hit)
            have hge : decide ((0 : Int) ≤ Lib.indexByte [0, 92] x) = true := decide_eq_true (HX2.out.2 hit)
            clear hit
            go_wp2_with fail
            refine (HI2.out _).mono ?_
            rintro e w3 ⟨rfl, rfl⟩
            go_wp2
            go_ret
            rw [HR.out]
            exact ⟨rfl, HB2.out⟩
          · have HR := Lib.hid (HRUN.out hit)
            have hge : decide ((0 : Int) ≤ Lib.indexByte [0, 92] x) = false := decide_eq_false (fun h => hit (HX2.out.1 h))
            clear hit
            go_wp2_with fail
            refine (HI2.out _).mono ?_
            rintro e w3 ⟨rfl, rfl⟩
            go_wp2
            go_roundw
            case rel => exact ⟨pos + 1, HK2, HB2, by omega, HR⟩
            case measure => rw [HIP.out, HIP2.out]; omega
        · have HR : Hid (Lib.NoAny s.data.toList [0, 92] (pos + (Utf8.decode s pos).2)) := noAny_run HN.out fun j hj hjk => by have := hk3 j hj hjk; omega
          have HK2 := Lib.hid (Lib.iterAt_heap wr w1.heap.size s pos (pos + (Utf8.decode s pos).2) HK.out)
          have HB2 := Lib.hid (Lib.below_iterAt HB.out (Nat.le_refl _) s (pos + (Utf8.decode s pos).2))
          have HIP : Hid (wr.iterPos w1.heap.size = pos) := by show _ = _; unfold World.iterPos; rw [HK.out]
          generalize Utf8.decode s pos = D at *
          obtain ⟨r, k⟩ := D
          simp only at hd1 hd2 hk1 hk2 HR HK2 HB2 hnx
          have HI2 := Lib.hid (fun w => HIR.out r hd1 (by omega) w)
          have hgt : w1.heap.size < (wr.iterAt w1.heap.size s (pos + k)).heap.size := (Array.getElem?_eq_some_iff.1 HK2.out).1
          have HGT := Lib.hid hgt
          generalize wr.iterAt w1.heap.size s (pos + k) = w2 at *
          clear hb hk3 hgt
          go_wp2_with fail
          refine (HI2.out _).mono ?_
          rintro e w3 ⟨rfl, hb3⟩
          have HK3 := Lib.hid ((hb3.block _ HGT.out).trans HK2.out)
          have HB3 := Lib.hid (below_then HB2.out hb3)
          have HIP3 : Hid (w3.iterPos w1.heap.size = pos + k) := by show _ = _; unfold World.iterPos; rw [HK3.out]
          clear hb3
          go_wp2_with fail
          go_roundw
          case rel => exact ⟨pos + k, HK3, HB3, hk2, HR⟩
          case measure => rw [HIP.out, HIP3.out]; omega
      · have hnx : ∀ ty, (Instr.next (.pointer (some ⟨w1.heap.size, 0, none⟩)) true ty).run Tryz.prog wr = _ := fun ty => Lib.run_next_end_at wr w1.heap.size s pos ty HK.out hp
        have HR : Hid (Lib.indexAny s.data.toList [0, 92] = -1) := Lib.indexAny_none (by
          have e : s.data.toList.length = pos := by rw [Array.length_toList]; show s.size = pos; omega
          rw [e]; exact HN.out)
        go_wp2_with fail
        go_ret
        rw [HR.out]
        exact ⟨rfl, HB.out⟩

/-- Has a text a byte 0 or a backslash? -/
def badB (s : ByteArray) : Bool := (nums s).any fun b => decide (b = 0) || decide (b = 92)
theorem badB_index (s : ByteArray) : decide (0 ≤ Lib.indexAny s.data.toList [0, 92]) = badB s := by
  unfold badB nums
  generalize s.data.toList = l
  induction l with
  | nil => rfl
  | cons b r ih =>
    have hge := Lib.indexAny_ge [0, 92] r
    rw [List.map_cons, List.any_cons, ← ih]
    have e : Lib.indexAny (b :: r) [0, 92] = if [(0 : UInt8), 92].contains b then 0 else if Lib.indexAny r [0, 92] == -1 then -1 else Lib.indexAny r [0, 92] + 1 := rfl
    rw [e]
    clear e
    by_cases h : b = 0 ∨ b = 92
    · have hc : [(0 : UInt8), 92].contains b = true := by rcases h with h | h <;> rw [h] <;> decide
      rw [if_pos hc]
      rcases h with h | h <;> rw [h] <;> rfl
    · have h0 : b ≠ 0 := fun e => h (.inl e)
      have h1 : b ≠ 92 := fun e => h (.inr e)
      have hc : ¬ [(0 : UInt8), 92].contains b = true := by simp [h0, h1]
      have n0 : b.toNat ≠ 0 := fun e => h0 (UInt8.toNat_inj.1 e)
      have n1 : b.toNat ≠ 92 := fun e => h1 (UInt8.toNat_inj.1 e)
      rw [if_neg hc, decide_eq_false n0, decide_eq_false n1]
      by_cases hm : Lib.indexAny r [0, 92] = -1
      · rw [if_pos (by rw [hm]; decide), hm]; rfl
      · rw [if_neg (by simpa using hm)]
        simp only [Bool.or_self, Bool.false_or, decide_eq_decide]
        omega
theorem containsAny_any (s : ByteArray) (w : World) (hs : s.size < 4294967281) :
    Calls Tryz.prog 89 #[.string s, .string ⟨#[0, 92]⟩] w fun e w' => e = .returned (.bool (badB s)) ∧ Below w.heap.size w w' := by
  have HI := Lib.hid (fun w => indexAny_any s w hs)
  have HB := Lib.hid (badB_index s)
  generalize Lib.indexAny s.data.toList [0, 92] = L at *
  go_enter Tryz.func89, Tryz.ntmps89
  go_wp2_with fail
  refine (HI.out _).mono ?_
  rintro e w1 ⟨rfl, hb⟩
  go_wp2
  go_ret
  rw [HB.out]
  exact ⟨rfl, hb⟩
end Go.Proofs.YtijfcmlgohbndaaGreatDoor

namespace Go.Proofs.YtijfcmlgohbndaaGreatDoor
set_option maxRecDepth 100000
open Go.RowKit Go.Deep Go.Joins Go.Lib

/-- Is the byte at a place from low to high? -/
def wiB (s : ByteArray) (p lo hi : Nat) : Bool := if h : p < s.size then decide (lo ≤ s[p].toNat) && decide (s[p].toNat ≤ hi) else false
theorem wi_yes {s : ByteArray} {p lo hi : Nat} (h : wiB s p lo hi = true) : ∃ hp : p < s.size, lo ≤ s[p].toNat ∧ s[p].toNat ≤ hi := by
  unfold wiB at h
  by_cases hp : p < s.size
  · rw [dif_pos hp] at h
    simp at h
    exact ⟨hp, h⟩
  · rw [dif_neg hp] at h; cases h
end Go.Proofs.YtijfcmlgohbndaaGreatDoor

namespace Go.Proofs.YtijfcmlgohbndaaGreatDoor
set_option maxRecDepth 100000
open Go.RowKit Go.Deep Go.Joins Go.Lib

end Go.Proofs.YtijfcmlgohbndaaGreatDoor

namespace Go.Proofs.YtijfcmlgohbndaaGreatDoor
set_option maxRecDepth 100000
open Go.RowKit Go.Deep Go.Joins Go.Lib

end Go.Proofs.YtijfcmlgohbndaaGreatDoor

namespace Go.Proofs.YtijfcmlgohbndaaGreatDoor
set_option maxRecDepth 100000
open Go.RowKit Go.Deep Go.Joins Go.Lib

end Go.Proofs.YtijfcmlgohbndaaGreatDoor

namespace Go.Proofs.YtijfcmlgohbndaaGreatDoor
set_option maxRecDepth 100000
open Go.RowKit Go.Deep Go.Joins Go.Lib

end Go.Proofs.YtijfcmlgohbndaaGreatDoor

namespace Go.Proofs.YtijfcmlgohbndaaGreatDoor
set_option maxRecDepth 100000
open Go.RowKit Go.Deep Go.Joins Go.Lib

theorem wi_iff (s : ByteArray) (p j lo hi : Nat) : wiB s (p + j) lo hi = decide (j < s.size - p ∧ lo ≤ (s.get! (p + j)).toNat ∧ (s.get! (p + j)).toNat ≤ hi) := by
  unfold wiB
  by_cases h : p + j < s.size
  · rw [dif_pos h, get_bang s (p + j) h]
    have h1 : j < s.size - p := by omega
    simp [h1]
  · rw [dif_neg h]
    have h1 : ¬ j < s.size - p := by omega
    simp [h1]
set_option maxHeartbeats 4000000 in
theorem dec_C2 (n c b1 b2 b3 : Nat) (hn : 1 ≤ n) (h1 : b1 < 256) (h2 : b2 < 256) (h3 : b3 < 256) (hc : 194 ≤ c ∧ c ≤ 223) : decodeN n c b1 b2 b3 = if (1 < n ∧ 128 ≤ b1 ∧ b1 ≤ 191) then (c % 32 * 64 + b1 % 64, 2) else (65533, 1) := by
  rw [← slow_C2 n c b1 b2 b3 hn h1 h2 h3 (by omega)]
  unfold slowN
  repeat' split
  all_goals first | rfl | (exfalso; omega)
set_option maxHeartbeats 4000000 in
theorem dec_E0 (n c b1 b2 b3 : Nat) (hn : 1 ≤ n) (h1 : b1 < 256) (h2 : b2 < 256) (h3 : b3 < 256) (hc : c = 224) : decodeN n c b1 b2 b3 = if (1 < n ∧ 160 ≤ b1 ∧ b1 ≤ 191) ∧ (2 < n ∧ 128 ≤ b2 ∧ b2 ≤ 191) then (c % 16 * 4096 + b1 % 64 * 64 + b2 % 64, 3) else (65533, 1) := by
  rw [← slow_E0 n c b1 b2 b3 hn h1 h2 h3 (by omega)]
  unfold slowN
  repeat' split
  all_goals first | rfl | (exfalso; omega)
set_option maxHeartbeats 4000000 in
theorem dec_E1 (n c b1 b2 b3 : Nat) (hn : 1 ≤ n) (h1 : b1 < 256) (h2 : b2 < 256) (h3 : b3 < 256) (hc : 225 ≤ c ∧ c ≤ 236) : decodeN n c b1 b2 b3 = if (1 < n ∧ 128 ≤ b1 ∧ b1 ≤ 191) ∧ (2 < n ∧ 128 ≤ b2 ∧ b2 ≤ 191) then (c % 16 * 4096 + b1 % 64 * 64 + b2 % 64, 3) else (65533, 1) := by
  rw [← slow_E1 n c b1 b2 b3 hn h1 h2 h3 (.inl ⟨by omega, by omega⟩)]
  unfold slowN
  repeat' split
  all_goals first | rfl | (exfalso; omega)
set_option maxHeartbeats 4000000 in
theorem dec_E2 (n c b1 b2 b3 : Nat) (hn : 1 ≤ n) (h1 : b1 < 256) (h2 : b2 < 256) (h3 : b3 < 256) (hc : 238 ≤ c ∧ c ≤ 239) : decodeN n c b1 b2 b3 = if (1 < n ∧ 128 ≤ b1 ∧ b1 ≤ 191) ∧ (2 < n ∧ 128 ≤ b2 ∧ b2 ≤ 191) then (c % 16 * 4096 + b1 % 64 * 64 + b2 % 64, 3) else (65533, 1) := by
  rw [← slow_E1 n c b1 b2 b3 hn h1 h2 h3 (.inr ⟨by omega, by omega⟩)]
  unfold slowN
  repeat' split
  all_goals first | rfl | (exfalso; omega)
set_option maxHeartbeats 4000000 in
theorem dec_ED (n c b1 b2 b3 : Nat) (hn : 1 ≤ n) (h1 : b1 < 256) (h2 : b2 < 256) (h3 : b3 < 256) (hc : c = 237) : decodeN n c b1 b2 b3 = if (1 < n ∧ 128 ≤ b1 ∧ b1 ≤ 159) ∧ (2 < n ∧ 128 ≤ b2 ∧ b2 ≤ 191) then (c % 16 * 4096 + b1 % 64 * 64 + b2 % 64, 3) else (65533, 1) := by
  rw [← slow_ED n c b1 b2 b3 hn h1 h2 h3 (by omega)]
  unfold slowN
  repeat' split
  all_goals first | rfl | (exfalso; omega)
set_option maxHeartbeats 4000000 in
theorem dec_F0 (n c b1 b2 b3 : Nat) (hn : 1 ≤ n) (h1 : b1 < 256) (h2 : b2 < 256) (h3 : b3 < 256) (hc : c = 240) : decodeN n c b1 b2 b3 = if (1 < n ∧ 144 ≤ b1 ∧ b1 ≤ 191) ∧ (2 < n ∧ 128 ≤ b2 ∧ b2 ≤ 191) ∧ (3 < n ∧ 128 ≤ b3 ∧ b3 ≤ 191) then (c % 8 * 262144 + b1 % 64 * 4096 + b2 % 64 * 64 + b3 % 64, 4) else (65533, 1) := by
  rw [← slow_F0 n c b1 b2 b3 hn h1 h2 h3 (by omega)]
  unfold slowN
  repeat' split
  all_goals first | rfl | (exfalso; omega)
set_option maxHeartbeats 4000000 in
theorem dec_F1 (n c b1 b2 b3 : Nat) (hn : 1 ≤ n) (h1 : b1 < 256) (h2 : b2 < 256) (h3 : b3 < 256) (hc : 241 ≤ c ∧ c ≤ 243) : decodeN n c b1 b2 b3 = if (1 < n ∧ 128 ≤ b1 ∧ b1 ≤ 191) ∧ (2 < n ∧ 128 ≤ b2 ∧ b2 ≤ 191) ∧ (3 < n ∧ 128 ≤ b3 ∧ b3 ≤ 191) then (c % 8 * 262144 + b1 % 64 * 4096 + b2 % 64 * 64 + b3 % 64, 4) else (65533, 1) := by
  rw [← slow_F1 n c b1 b2 b3 hn h1 h2 h3 (by omega)]
  unfold slowN
  repeat' split
  all_goals first | rfl | (exfalso; omega)
set_option maxHeartbeats 4000000 in
theorem dec_F4 (n c b1 b2 b3 : Nat) (hn : 1 ≤ n) (h1 : b1 < 256) (h2 : b2 < 256) (h3 : b3 < 256) (hc : c = 244) : decodeN n c b1 b2 b3 = if (1 < n ∧ 128 ≤ b1 ∧ b1 ≤ 143) ∧ (2 < n ∧ 128 ≤ b2 ∧ b2 ≤ 191) ∧ (3 < n ∧ 128 ≤ b3 ∧ b3 ≤ 191) then (c % 8 * 262144 + b1 % 64 * 4096 + b2 % 64 * 64 + b3 % 64, 4) else (65533, 1) := by
  rw [← slow_F4 n c b1 b2 b3 hn h1 h2 h3 (by omega)]
  unfold slowN
  repeat' split
  all_goals first | rfl | (exfalso; omega)
theorem dec_bad (n c b1 b2 b3 : Nat) (h : 128 ≤ c ∧ c < 194 ∨ 245 ≤ c ∧ c < 256) : decodeN n c b1 b2 b3 = (65533, 1) := by
  refine bad_eq n c b1 b2 b3 (by omega) ?_
  unfold firstT
  repeat' split
  all_goals first | rfl | (exfalso; omega)

/-- A rune's number as the document has it. -/
def oneR (s : ByteArray) (p : Nat) : Int := if strayAt s p = true then -1 else ((Utf8.decode s p).1 : Nat)
theorem one_stray {s : ByteArray} {p : Nat} (h : Utf8.decode s p = (65533, 1)) : oneR s p = -1 ∧ (Utf8.decode s p).2 = 1 := by
  unfold oneR strayAt
  rw [decide_eq_true h, if_pos rfl, h]
  exact ⟨rfl, rfl⟩
theorem one_rune {s : ByteArray} {p r k : Nat} (h : Utf8.decode s p = (r, k)) (hk : k ≠ 1 ∨ r ≠ 65533) : oneR s p = (r : Nat) ∧ (Utf8.decode s p).2 = k := by
  have hn : ¬ Utf8.decode s p = (65533, 1) := by
    rw [h]
    intro e
    injection e with e1 e2
    omega
  unfold oneR strayAt
  rw [decide_eq_false hn, if_neg (by decide), h]
  exact ⟨rfl, rfl⟩
end Go.Proofs.YtijfcmlgohbndaaGreatDoor

namespace Go.Proofs.YtijfcmlgohbndaaGreatDoor.Crc

/-- A step. -/
def st (n : Nat) : Nat := if n % 2 = 1 then (n / 2) ^^^ 3988292384 else n / 2
/-- So many steps. -/
def it : Nat → Nat → Nat
  | 0, n => n
  | k + 1, n => st (it k n)

theorem st_even (n : Nat) (h : n % 2 ≠ 1) : st n = n / 2 := if_neg h
theorem st_odd (n : Nat) (h : n % 2 = 1) : st n = (n / 2) ^^^ 3988292384 := if_pos h

theorem st_lt (n : Nat) (h : n < 4294967296) : st n < 4294967296 := by
  unfold st
  split
  · exact Nat.xor_lt_two_pow (n := 32) (by omega) (by omega)
  · omega
theorem it_lt (k n : Nat) (h : n < 4294967296) : it k n < 4294967296 := by
  induction k with
  | zero => exact h
  | succ k ih => exact st_lt _ ih

theorem xor_mod2 (a b : Nat) : (a ^^^ b) % 2 = (a % 2 + b % 2) % 2 := by
  have h := Nat.xor_mod_two_eq_one (a := a) (b := b)
  omega
theorem xor_div2 (a b : Nat) : (a ^^^ b) / 2 = (a / 2) ^^^ (b / 2) := by
  have := Nat.shiftRight_xor_distrib (a := a) (b := b) (i := 1)
  simpa [Nat.shiftRight_eq_div_pow] using this

theorem st_xor (a b : Nat) : st (a ^^^ b) = st a ^^^ st b := by
  have h := xor_mod2 a b
  have hd := xor_div2 a b
  by_cases ha : a % 2 = 1 <;> by_cases hb : b % 2 = 1
  · rw [st_even _ (by omega), st_odd a ha, st_odd b hb, hd]
    rw [Nat.xor_comm (b / 2), ← Nat.xor_assoc, Nat.xor_assoc (a / 2), Nat.xor_self, Nat.xor_zero]
  · rw [st_odd _ (by omega), st_odd a ha, st_even b hb, hd, Nat.xor_assoc, Nat.xor_comm (b / 2), ← Nat.xor_assoc]
  · rw [st_odd _ (by omega), st_even a ha, st_odd b hb, hd, Nat.xor_assoc]
  · rw [st_even _ (by omega), st_even a ha, st_even b hb, hd]
theorem st_zero : st 0 = 0 := by decide
theorem it_xor (k a b : Nat) : it k (a ^^^ b) = it k a ^^^ it k b := by
  induction k with
  | zero => rfl
  | succ k ih => show st (it k (a ^^^ b)) = st (it k a) ^^^ st (it k b); rw [ih, st_xor]
theorem it_zero (k : Nat) : it k 0 = 0 := by
  induction k with
  | zero => rfl
  | succ k ih => show st (it k 0) = 0; rw [ih, st_zero]
theorem it_add (j k n : Nat) : it (j + k) n = it j (it k n) := by
  induction j with
  | zero => simp [it]
  | succ j ih => rw [Nat.succ_add]; show st (it (j + k) n) = st (it j (it k n)); rw [ih]
theorem it_st (k n : Nat) : it k (st n) = st (it k n) := by
  have h := it_add k 1 n
  have h2 : it (k + 1) n = st (it k n) := rfl
  have h1 : it 1 n = st n := rfl
  rw [← h1, ← h, h2]
theorem it_comm (j k n : Nat) : it j (it k n) = it k (it j n) := by rw [← it_add, ← it_add, Nat.add_comm]

/-- A step tells one number of 32 bits from another. -/
theorem st_inj0 (n : Nat) (h : n < 4294967296) (h0 : st n = 0) : n = 0 := by
  by_cases ho : n % 2 = 1
  · rw [st_odd n ho] at h0
    have h1 : (n / 2 ^^^ 3988292384) ^^^ 3988292384 = 0 ^^^ 3988292384 := by rw [h0]
    rw [Nat.xor_assoc, Nat.xor_self, Nat.xor_zero, Nat.zero_xor] at h1
    omega
  · rw [st_even n ho] at h0; omega
theorem it_inj0 (k n : Nat) (h : n < 4294967296) (h0 : it k n = 0) : n = 0 := by
  induction k with
  | zero => exact h0
  | succ k ih => exact ih (st_inj0 _ (it_lt k n h) h0)

/-- Eight steps of what has noughts below are eight places. -/
theorem it_pow (k m : Nat) : it k (2 ^ k * m) = m := by
  induction k generalizing m with
  | zero => simp [it]
  | succ k ih =>
    have e : 2 ^ (k + 1) * m = 2 ^ k * (2 * m) := by rw [Nat.pow_succ, Nat.mul_assoc]
    show st (it k (2 ^ (k + 1) * m)) = m
    rw [e, ih, st_even _ (by omega)]
    omega

/-! ### bytes -/
theorem split_byte (c : Nat) : c = (c % 256) ^^^ (256 * (c / 256)) := by
  apply Nat.eq_of_testBit_eq
  intro i
  have e : 256 * (c / 256) = (c / 2 ^ 8) * 2 ^ 8 := by omega
  rw [Nat.testBit_xor, show (256 : Nat) = 2 ^ 8 from rfl, Nat.testBit_mod_two_pow, show 2 ^ 8 * (c / 2 ^ 8) = (c / 2 ^ 8) * 2 ^ 8 from Nat.mul_comm _ _, ← Nat.shiftLeft_eq, Nat.testBit_shiftLeft, Nat.testBit_div_two_pow]
  by_cases h : i < 8
  · simp [h, Nat.not_le.mpr h]
  · simp [h, Nat.le_of_not_lt h, Nat.sub_add_cancel (Nat.le_of_not_lt h)]
/-- What a byte does to a sum, by the table. -/
theorem by_table (c s : Nat) (_hs : s < 256) : it 8 ((c % 256) ^^^ s) ^^^ (c / 256) = it 8 (c ^^^ s) := by
  have e : c ^^^ s = ((c % 256) ^^^ s) ^^^ (256 * (c / 256)) := by
    conv => lhs; rw [split_byte c]
    rw [Nat.xor_assoc, Nat.xor_comm (256 * (c / 256)), ← Nat.xor_assoc]
  rw [e, it_xor 8 ((c % 256) ^^^ s), show it 8 (256 * (c / 256)) = c / 256 from it_pow 8 (c / 256)]

/-- The bare sum of bytes behind c, by any table. -/
def through (T : Nat → Nat) (c : Nat) : List Nat → Nat
  | [] => c
  | s :: l => through T (T ((c % 256) ^^^ s) ^^^ (c / 256)) l
/-- The bare sum. -/
def raw (c : Nat) : List Nat → Nat
  | [] => c
  | s :: l => raw (it 8 (c ^^^ s)) l
theorem through_snoc (T : Nat → Nat) (c s : Nat) (l : List Nat) : through T c (l ++ [s]) = T ((through T c l % 256) ^^^ s) ^^^ (through T c l / 256) := by
  induction l generalizing c with
  | nil => rfl
  | cons x l ih => exact ih _
theorem raw_snoc (c s : Nat) (l : List Nat) : raw c (l ++ [s]) = it 8 (raw c l ^^^ s) := by
  induction l generalizing c with
  | nil => rfl
  | cons x l ih => exact ih _
theorem raw_append (c : Nat) (l m : List Nat) : raw c (l ++ m) = raw (raw c l) m := by
  induction l generalizing c with
  | nil => rfl
  | cons x l ih => exact ih _
theorem raw_lt (c : Nat) (l : List Nat) (hc : c < 4294967296) (hl : ∀ s ∈ l, s < 256) : raw c l < 4294967296 := by
  induction l generalizing c with
  | nil => exact hc
  | cons x l ih =>
    have hx := hl x (by simp)
    exact ih _ (it_lt 8 _ (Nat.xor_lt_two_pow (n := 32) hc (by omega))) fun s hs => hl s (by simp [hs])
theorem through_it (c : Nat) (l : List Nat) (hl : ∀ s ∈ l, s < 256) : through (it 8) c l = raw c l := by
  induction l generalizing c with
  | nil => rfl
  | cons x l ih =>
    show through (it 8) (it 8 ((c % 256) ^^^ x) ^^^ (c / 256)) l = raw (it 8 (c ^^^ x)) l
    rw [by_table c x (hl x (by simp))]
    exact ih _ fun s hs => hl s (by simp [hs])
/-- What is turned ahead of bytes turns the sum behind them by as many steps. -/
theorem raw_xor (c d : Nat) (l : List Nat) : raw (c ^^^ d) l = raw c l ^^^ it (8 * l.length) d := by
  induction l generalizing c d with
  | nil => rfl
  | cons x l ih =>
    show raw (it 8 ((c ^^^ d) ^^^ x)) l = raw (it 8 (c ^^^ x)) l ^^^ _
    have e : (c ^^^ d) ^^^ x = (c ^^^ x) ^^^ d := by rw [Nat.xor_assoc, Nat.xor_comm d, ← Nat.xor_assoc]
    rw [e, it_xor, ih, ← it_add, List.length_cons, show 8 * (l.length + 1) = 8 * l.length + 8 from by omega]

/-- All bits turned. -/
def neg (n : Nat) : Nat := 4294967295 - n
theorem neg_xor (n : Nat) (h : n < 4294967296) : neg n = n ^^^ 4294967295 := by
  unfold neg
  apply Nat.eq_of_testBit_eq
  intro i
  have h32 : (4294967295 : Nat) = 2 ^ 32 - 1 := by decide
  rw [show 4294967295 - n = 2 ^ 32 - (n + 1) from by omega, Nat.testBit_two_pow_sub_succ (by omega), Nat.testBit_xor, h32, Nat.testBit_two_pow_sub_one]
  by_cases hi : i < 32
  · simp [hi]
  · have : n.testBit i = false := Nat.testBit_lt_two_pow (Nat.lt_of_lt_of_le h (by
      have := Nat.pow_le_pow_right (n := 2) (by omega) (Nat.le_of_not_lt hi)
      omega))
    simp [hi, this]
theorem neg_neg (n : Nat) (h : n < 4294967296) : neg (neg n) = n := by unfold neg; omega
theorem neg_lt (n : Nat) : neg n < 4294967296 := by unfold neg; omega

/-! ### the product -/
/-- The number whose one bit is the power 0. -/
def e0 : Nat := 2147483648
/-- The product's first k rounds. -/
def pr (a b : Nat) : Nat → Nat
  | 0 => 0
  | k + 1 => if a.testBit (31 - k) then pr a b k ^^^ it k b else pr a b k
def product (a b : Nat) : Nat := pr a b 32

theorem pr_st (a b k : Nat) : pr a (st b) k = st (pr a b k) := by
  induction k with
  | zero => exact st_zero.symm
  | succ k ih =>
    unfold pr
    split
    · rw [ih, st_xor, it_st]
    · exact ih
theorem pr_it (a b j k : Nat) : pr a (it j b) k = it j (pr a b k) := by
  induction j with
  | zero => rfl
  | succ j ih => show pr a (st (it j b)) k = st (it j (pr a b k)); rw [pr_st, ih]
theorem pr_xor (a b c k : Nat) : pr a (b ^^^ c) k = pr a b k ^^^ pr a c k := by
  induction k with
  | zero => simp [pr]
  | succ k ih =>
    unfold pr
    split
    · rw [ih, it_xor]
      simp only [Nat.xor_assoc]
      rw [Nat.xor_comm (pr a c k) (it k b ^^^ it k c), Nat.xor_assoc, Nat.xor_comm (it k c)]
    · exact ih
theorem pr_zero (a k : Nat) : pr a 0 k = 0 := by
  induction k with
  | zero => rfl
  | succ k ih => unfold pr; rw [ih, it_zero]; simp

theorem pr_lt (a b k : Nat) (hb : b < 4294967296) : pr a b k < 4294967296 := by
  induction k with
  | zero => show 0 < _; omega
  | succ k ih =>
    unfold pr
    split
    · exact Nat.xor_lt_two_pow (n := 32) ih (it_lt k b hb)
    · exact ih
theorem pr_yes (a b k : Nat) (h : a.testBit (31 - k) = true) : pr a b (k + 1) = pr a b k ^^^ it k b := by
  show (if a.testBit (31 - k) then _ else _) = _
  rw [if_pos h]
theorem pr_no (a b k : Nat) (h : a.testBit (31 - k) = false) : pr a b (k + 1) = pr a b k := by
  show (if a.testBit (31 - k) then _ else _) = _
  rw [h]; rfl
theorem it_e0 : ∀ k, k < 32 → it k e0 = 2 ^ (31 - k) := by decide +kernel

/-- The top k bits of a number. -/
theorem pr_e0 (b : Nat) (k : Nat) (hk : k ≤ 32) : ∀ i, (pr b e0 k).testBit i = (b.testBit i && decide (32 - k ≤ i) && decide (i < 32)) := by
  induction k with
  | zero => intro i; by_cases h : 32 ≤ i <;> simp [pr, h]
  | succ k ih =>
    intro i
    have h := ih (by omega) i
    have he := it_e0 k (by omega)
    unfold pr
    by_cases hi : i = 31 - k
    · subst hi
      split
      · rename_i hb
        rw [Nat.testBit_xor, h, he, Nat.testBit_two_pow_self, hb]
        simp
        omega
      · rename_i hb
        rw [h]; simp [hb]
    · have hd : decide (32 - (k + 1) ≤ i) = decide (32 - k ≤ i) := decide_eq_decide.mpr (by omega)
      split
      · rw [Nat.testBit_xor, h, he, Nat.testBit_two_pow_of_ne (by omega), hd]; simp
      · rw [h, hd]
theorem product_e0 (b : Nat) (hb : b < 4294967296) : product b e0 = b := by
  apply Nat.eq_of_testBit_eq
  intro i
  unfold product
  rw [pr_e0 b 32 (Nat.le_refl _)]
  by_cases hi : i < 32
  · simp [hi]
  · have : b.testBit i = false := Nat.testBit_lt_two_pow (Nat.lt_of_lt_of_le hb (by
      have := Nat.pow_le_pow_right (n := 2) (by omega) (Nat.le_of_not_lt hi)
      omega))
    simp [hi, this]
/-- What goes with steps and turns, and is one at the power 0, is one everywhere. -/
theorem agree (f : Nat → Nat) (hx : ∀ a b, f (a ^^^ b) = f a ^^^ f b) (hs : ∀ b, f (st b) = st (f b)) (j : Nat) (h0 : f e0 = it j e0) (b : Nat) (hb : b < 4294967296) : f b = it j b := by
  have fz : f 0 = 0 := by
    have h := hx 0 0
    simp at h
    exact h
  have fi : ∀ k, f (it k e0) = it j (it k e0) := by
    intro k
    induction k with
    | zero => exact h0
    | succ k ih => show f (st (it k e0)) = it j (st (it k e0)); rw [hs, ih, it_st]
  have fp : ∀ k, f (pr b e0 k) = it j (pr b e0 k) := by
    intro k
    induction k with
    | zero => show f 0 = it j 0; rw [fz, it_zero]
    | succ k ih =>
      unfold pr
      split
      · rw [hx, it_xor, ih, fi]
      · exact ih
  have h := fp 32
  rw [show pr b e0 32 = b from product_e0 b hb] at h
  exact h

theorem pr_poly (b : Nat) (hb : b < 4294967296) : product 3988292384 b = it 32 b :=
  agree (product 3988292384) (fun a b => pr_xor _ a b 32) (fun b => pr_st _ b 32) 32 (by decide +kernel) b hb

theorem pr_xor_left (a c b k : Nat) : pr (a ^^^ c) b k = pr a b k ^^^ pr c b k := by
  induction k with
  | zero => simp [pr]
  | succ k ih =>
    unfold pr
    rw [Nat.testBit_xor, ih]
    by_cases ha : a.testBit (31 - k) <;> by_cases hc : c.testBit (31 - k)
    · simp only [ha, hc, if_true, Bool.xor_self, Bool.false_eq_true, if_false]
      rw [Nat.xor_assoc, Nat.xor_comm (it k b) (pr c b k ^^^ it k b), Nat.xor_assoc (pr c b k), Nat.xor_self, Nat.xor_zero]
    · simp [ha, hc]
      rw [Nat.xor_assoc, Nat.xor_comm (pr c b k), ← Nat.xor_assoc]
    · simp [ha, hc, Nat.xor_assoc]
    · simp [ha, hc]
/-- Half of a number: one power more. -/
theorem pr_half (a b k : Nat) (ha : a < 4294967296) (hk : k < 32) : pr (a / 2) b (k + 1) = st (pr a b k) := by
  induction k with
  | zero =>
    have h : (a / 2).testBit 31 = false := Nat.testBit_lt_two_pow (by omega)
    unfold pr
    simp [h, pr, st_zero]
  | succ k ih =>
    have h := ih (by omega)
    have e : (a / 2).testBit (31 - (k + 1)) = a.testBit (31 - k) := by
      rw [Nat.testBit_div_two]
      congr 1
      omega
    have e2 : pr (a / 2) b (k + 1 + 1) = if (a / 2).testBit (31 - (k + 1)) then pr (a / 2) b (k + 1) ^^^ it (k + 1) b else pr (a / 2) b (k + 1) := rfl
    have e3 : pr a b (k + 1) = if a.testBit (31 - k) then pr a b k ^^^ it k b else pr a b k := rfl
    rw [e2, e3, e, h]
    split
    · rw [st_xor]; rfl
    · rfl
theorem product_st (a b : Nat) (ha : a < 4294967296) (hb : b < 4294967296) : product (st a) b = st (product a b) := by
  have hh : product (a / 2) b = st (pr a b 31) := pr_half a b 31 ha (by omega)
  have e : product a b = if a.testBit 0 then pr a b 31 ^^^ it 31 b else pr a b 31 := rfl
  rw [e, Nat.testBit_zero]
  by_cases ho : a % 2 = 1
  · rw [st_odd a ho]
    show pr (a / 2 ^^^ 3988292384) b 32 = _
    rw [pr_xor_left]
    have hp := pr_poly b hb
    unfold product at hh hp
    rw [hh, hp]
    simp only [ho, decide_true, if_true]
    rw [st_xor]
    rfl
  · rw [st_even a ho, hh]
    simp [ho]
theorem product_it (k b : Nat) (hb : b < 4294967296) : product (it k e0) b = it k b := by
  induction k with
  | zero =>
    have h : ∀ k, k < 32 → pr e0 b (k + 1) = b := by
      intro k
      induction k with
      | zero =>
        intro _
        have h : e0.testBit 31 = true := by decide +kernel
        unfold pr
        simp [pr, it, h]
      | succ k ih =>
        intro hk
        have h1 := ih (by omega)
        have e2 : pr e0 b (k + 1 + 1) = if e0.testBit (31 - (k + 1)) then pr e0 b (k + 1) ^^^ it (k + 1) b else pr e0 b (k + 1) := rfl
        have e3 : e0.testBit (31 - (k + 1)) = false := by
          show (2 ^ 31).testBit _ = false
          exact Nat.testBit_two_pow_of_ne (by omega)
        rw [e2, e3, h1]
        rfl
    exact h 31 (by omega)
  | succ k ih =>
    show product (st (it k e0)) b = st (it k b)
    rw [product_st _ _ (it_lt k e0 (by decide)) hb, ih]

/-! ### shifts -/
/-- The powers that a shift goes by. -/
def pw (r : Nat) : Nat := it (8 * 2 ^ r) e0
theorem pw_lt (r : Nat) : pw r < 4294967296 := it_lt _ _ (by decide)
theorem pw_zero : pw 0 = 8388608 := by decide +kernel
theorem pw_product (r s : Nat) (hs : s < 4294967296) : product (pw r) s = it (8 * 2 ^ r) s := product_it _ s hs
theorem pw_succ (r : Nat) : product (pw r) (pw r) = pw (r + 1) := by
  rw [pw_product r _ (pw_lt r)]
  unfold pw
  rw [← it_add, show 8 * 2 ^ r + 8 * 2 ^ r = 8 * 2 ^ (r + 1) from by rw [Nat.pow_succ]; omega]
/-- A number, so many bytes 0 behind it. -/
def shift (n s : Nat) : Nat := it (8 * n) s
theorem shift_lt (n s : Nat) (h : s < 4294967296) : shift n s < 4294967296 := it_lt _ _ h
theorem shift_zero (s : Nat) : shift 0 s = s := rfl
theorem shift_add (a b s : Nat) : shift (a + b) s = shift b (shift a s) := by
  unfold shift
  rw [← it_add, show 8 * b + 8 * a = 8 * (a + b) from by omega]
theorem shift_xor (n a b : Nat) : shift n (a ^^^ b) = shift n a ^^^ shift n b := it_xor _ _ _
theorem shift_succ (n s : Nat) : shift (n + 1) s = it 8 (shift n s) := by rw [shift_add]; rfl
/-- A round of the shift: the lowest bit of what is left. -/
theorem shift_odd (r n s : Nat) (h : n % 2 = 1) : shift (2 ^ r * n) s = shift (2 ^ (r + 1) * (n / 2)) (it (8 * 2 ^ r) s) := by
  have e : 2 ^ r * n = 2 ^ r + 2 ^ (r + 1) * (n / 2) := by
    have : n = 1 + 2 * (n / 2) := by omega
    conv => lhs; rw [this]
    rw [Nat.mul_add, Nat.pow_succ, Nat.mul_one, ← Nat.mul_assoc]
  rw [e, shift_add]
  rfl
theorem shift_even (r n s : Nat) (h : n % 2 ≠ 1) : shift (2 ^ r * n) s = shift (2 ^ (r + 1) * (n / 2)) s := by
  have e : 2 ^ r * n = 2 ^ (r + 1) * (n / 2) := by
    have : n = 2 * (n / 2) := by omega
    conv => lhs; rw [this]
    rw [Nat.pow_succ, ← Nat.mul_assoc]
  rw [e]
end Go.Proofs.YtijfcmlgohbndaaGreatDoor.Crc

namespace Go.Proofs.YtijfcmlgohbndaaGreatDoor
open Go.RowKit

theorem and1_u32 (n : Nat) (hn : n < 4294967296) : bits .and .u32 (n : Int) 1 = ((n % 2 : Nat) : Int) := by
  have h := u32_and_nat n 1 hn (by omega)
  rw [Nat.and_one_is_mod] at h
  exact h
theorem half_xor (n : Nat) (hn : n < 4294967296) : bits .xor .u32 ((n : Int) / 2) 3988292384 = ((n / 2 ^^^ 3988292384 : Nat) : Int) :=
  u32_xor_nat (n / 2) 3988292384 (by omega) (by omega)

theorem step_any (n : Nat) (hn : n < 4294967296) (w : World) :
    Calls Tryz.prog 123 #[.int .u32 n] w fun e w' => e = .returned (.int .u32 (Crc.st n : Nat)) ∧ w = w' := by
  have ha := and1_u32 n hn
  by_cases h : n % 2 = 1
  · have hb : (bits .and .u32 (n : Int) 1 == 0) = false := by rw [ha, h]; rfl
    clear ha
    go_enter Tryz.func123, Tryz.ntmps123
    go_wp2
    go_ret
    exact ⟨ret_eq (by rw [Crc.st_odd n h]; exact half_xor n hn), rfl⟩
  · have hb : (bits .and .u32 (n : Int) 1 == 0) = true := by rw [ha, show n % 2 = 0 by omega]; rfl
    clear ha
    go_enter Tryz.func123, Tryz.ntmps123
    go_wp2
    go_ret
    exact ⟨ret_eq (by rw [Crc.st_even n h]; rfl), rfl⟩

theorem bit_test (a : Nat) (k : Nat) (hk : k < 32) (ha : a < 4294967296) : (bits .and .u32 (a : Int) ((2147483648 : Int) / 2 ^ k) != 0) = a.testBit (31 - k) := by
  have e : ((2147483648 : Int) / 2 ^ k) = ((2 ^ (31 - k) : Nat) : Int) := by
    have h1 : (2147483648 : Nat) / 2 ^ k = 2 ^ (31 - k) := by
      rw [show (2147483648 : Nat) = 2 ^ (31 - k) * 2 ^ k from by rw [← Nat.pow_add, Nat.sub_add_cancel (by omega)]]
      exact Nat.mul_div_cancel _ (Nat.two_pow_pos _)
    rw [← h1]
    simp
  have hp : (2 : Nat) ^ (31 - k) < 4294967296 := Nat.pow_lt_pow_of_lt (a := 2) (m := 32) (by omega) (by omega)
  rw [e, u32_and_nat a _ ha hp, nat_bit]
  rw [Nat.testBit_eq_decide_div_mod_eq]
  have hpos : 0 < 2 ^ (31 - k) := Nat.two_pow_pos _
  have h2 : a / 2 ^ (31 - k) % 2 = 0 ∨ a / 2 ^ (31 - k) % 2 = 1 := by omega
  rcases h2 with h2 | h2
  · rw [h2]; simp
  · rw [h2]
    generalize 2 ^ (31 - k) = q at *
    rw [Nat.one_mul, bne_iff_ne.mpr (by omega)]
    rfl
theorem xor32 (a b : Nat) (ha : a < 4294967296) (hb : b < 4294967296) : bits .xor .u32 (a : Int) (b : Int) = ((a ^^^ b : Nat) : Int) := u32_xor_nat a b ha hb

end Go.Proofs.YtijfcmlgohbndaaGreatDoor
