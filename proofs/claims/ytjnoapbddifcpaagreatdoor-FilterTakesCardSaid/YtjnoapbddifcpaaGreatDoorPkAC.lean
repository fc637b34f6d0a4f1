/-
  Contracts: IndexAny, ContainsAny of the bytes 0 and 92 in any text.
  Contracts: the document's within and One.
-/
import Derived.Test.YtjnoapbddifcpaaGreatDoorPkAB
import Derived.Lib.OthersKept

namespace Go.Proofs.YtjnoapbddifcpaaGreatDoor
set_option maxRecDepth 100000
open Go.RowKit Go.Deep Go.Joins

open Go.Lib in
set_option maxRecDepth 100000 in
set_option maxHeartbeats 4000000 in
theorem decodeN_run (n b0 b1 b2 b3 : Nat) (D : Nat × Nat) (hD : decodeN n b0 b1 b2 b3 = D) : (b0 < 128 ∧ D = (b0, 1)) ∨ (128 ≤ b0 ∧ 128 ≤ D.1 ∧ D.1 ≤ 1114111 ∧
    (D.2 = 1 ∨ D.2 = 2 ∧ 1 < n ∧ 128 ≤ b1 ∨ D.2 = 3 ∧ 2 < n ∧ 128 ≤ b1 ∧ 128 ≤ b2 ∨ D.2 = 4 ∧ 3 < n ∧ 128 ≤ b1 ∧ 128 ≤ b2 ∧ 128 ≤ b3)) := by
  unfold decodeN at hD
  by_cases h0 : b0 < 128
  · rw [if_pos h0] at hD; exact .inl ⟨h0, hD.symm⟩
  · rw [if_neg h0] at hD
    right
    refine ⟨by omega, ?_⟩
    repeat' split at hD
    all_goals subst hD
    all_goals refine ⟨by show 128 ≤ _; omega, by show _ ≤ 1114111; omega, ?_⟩
    all_goals first
      | exact .inl rfl
      | exact .inr (.inl ⟨rfl, by omega, by omega⟩)
      | exact .inr (.inr (.inl ⟨rfl, by omega, by omega, by omega⟩))
      | exact .inr (.inr (.inr ⟨rfl, by omega, by omega, by omega, by omega⟩))
/-- A rune is a byte below 128, or bytes from 128 on. -/
theorem decode_run (s : ByteArray) (p : Nat) (h : p < s.size) : (s[p].toNat < 128 ∧ Utf8.decode s p = (s[p].toNat, 1)) ∨
    (128 ≤ s[p].toNat ∧ 128 ≤ (Utf8.decode s p).1 ∧ (Utf8.decode s p).1 ≤ 1114111 ∧ 1 ≤ (Utf8.decode s p).2 ∧ p + (Utf8.decode s p).2 ≤ s.size ∧ ∀ j (hj : p + j < s.size), j < (Utf8.decode s p).2 → 128 ≤ s[p + j].toNat) := by
  have hd := Lib.decode_at s p
  have h0 := get_bang s p h
  rcases decodeN_run (s.size - p) (s.get! p).toNat (s.get! (p + 1)).toNat (s.get! (p + 2)).toNat (s.get! (p + 3)).toNat _ hd.symm with ⟨h1, h2⟩ | ⟨h1, h2, h3, h4⟩
  · rw [h0] at h1 h2
    exact .inl ⟨h1, h2⟩
  · rw [h0] at h1
    refine .inr ⟨h1, h2, h3, ?_, ?_, ?_⟩
    · omega
    · omega
    · intro j hj hjk
      have g : ∀ i, (hi : p + i < s.size) → (s.get! (p + i)).toNat = s[p + i].toNat := fun i hi => get_bang s (p + i) hi
      rcases j with _ | _ | _ | _ | j
      · exact h1
      · have := g 1 hj; simp only [Nat.zero_add] at *; omega
      · have := g 2 hj; simp only [Nat.zero_add, Nat.reduceAdd] at *; omega
      · have := g 3 hj; simp only [Nat.zero_add, Nat.reduceAdd] at *; omega
      · omega

theorem noAny_run {s : ByteArray} {p k : Nat} (h : Lib.NoAny s.data.toList [0, 92] p) (hk : ∀ j (hj : p + j < s.size), j < k → s[p + j].toNat ≠ 0 ∧ s[p + j].toNat ≠ 92) : Lib.NoAny s.data.toList [0, 92] (p + k) := by
  intro j b hj hb
  by_cases h1 : j < p
  · exact h j b h1 hb
  · have hjs : j < s.size := by
      have := (List.getElem?_eq_some_iff.1 hb).1
      rw [Array.length_toList] at this
      exact this
    obtain ⟨h2, h3⟩ := hk (j - p) (by omega) (by omega)
    have e : s[p + (j - p)]'(by omega) = b := by
      have hpj : p + (j - p) = j := by omega
      have h4 : s[j] = b := by
        rw [Array.getElem?_toList, Array.getElem?_eq_getElem hjs] at hb
        exact Option.some.inj hb
      rw [← h4]
      simp only [hpj]
    rw [e] at h2 h3
    have n0 : b ≠ 0 := fun e => h2 (by rw [e]; rfl)
    have n1 : b ≠ 92 := fun e => h3 (by rw [e]; rfl)
    simp [n0, n1]
theorem byte_list (s : ByteArray) (p : Nat) (h : p < s.size) : s.data.toList[p]? = some s[p] := by
  rw [Array.getElem?_toList, Array.getElem?_eq_getElem h]
  rfl
theorem index2 (b : UInt8) : (0 ≤ Lib.indexByte [0, 92] b) ↔ b = 0 ∨ b = 92 := by
  by_cases h0 : b = 0
  · subst h0; decide
  · by_cases h1 : b = 92
    · subst h1; decide
    · have e : Lib.indexByte [0, 92] b = -1 := by
        have n0 : ((0 : UInt8) == b) = false := by rw [beq_eq_false_iff_ne]; exact fun e => h0 e.symm
        have n1 : ((92 : UInt8) == b) = false := by rw [beq_eq_false_iff_ne]; exact fun e => h1 e.symm
        simp [Lib.indexByte, n0, n1]
      rw [e]
      simp [h0, h1]
set_option maxHeartbeats 8000000 in
set_option maxRecDepth 1000000 in
theorem indexAny_any (s : ByteArray) (w : World) (hs : s.size < 4294967281) :
    Calls Tryz.prog 177 #[.string s, .string ⟨#[0, 92]⟩] w fun e w' => e = .returned (.int .i64 (Lib.indexAny s.data.toList [0, 92])) ∧ Below w.heap.size w w' := by
  by_cases h8 : 8 < s.size
  · refine (sh_strings_IndexAny_long (fun w => by kernel_rfl) s ⟨#[0, 92]⟩ w (by decide) h8 hs (by decide) ?_).mono ?_
    · intro j b hj
      rcases j with _ | _ | j
      · simp at hj; subst hj; decide
      · simp at hj; subst hj; decide
      · simp at hj
    · rintro e w' ⟨rfl, rfl⟩
      exact ⟨rfl, ((Below.refl _ _).alloc (Nat.le_refl _) _).alloc (by simp) _⟩
  · have HIR := Lib.hid (fun (r : Nat) (h0 : 128 ≤ r) (h1 : r ≤ 2147483647) w => indexRune_high r h0 h1 w)
    have HIA := Lib.hid (fun (r : Int) (h0 : 0 ≤ r) (h1 : r < 128) w => sh_strings_IndexRune_ascii ⟨#[0, 92]⟩ r w h0 h1)
    have hs1 : (s.size : Int) ≤ 8 := by omega
    have hs2 : decide ((8 : Int) < (s.size : Int)) = false := decide_eq_false (by omega)
    go_enter Tryz.func177, Tryz.ntmps177
    go_wp2_with fail
    refine (sh_strings_shouldUseASCIISet _ _).mono ?_
    rintro e w1 ⟨rfl, rfl⟩
    go_wp2_with fail
    go_loopw [] (fun wr => ∃ (pos : Nat), Hid (wr.heap[w1.heap.size]? = some (.stringIter s pos)) ∧ Hid (Below w1.heap.size w1 wr) ∧ pos ≤ s.size ∧ Hid (Lib.NoAny s.data.toList [0, 92] pos)) (fun wr => s.size - wr.iterPos w1.heap.size)
    case atStart => exact ⟨0, heap_alloc_new w1 _, (Below.refl _ _).alloc (Nat.le_refl _) _, Nat.zero_le _, Lib.NoAny.zero _ _⟩
    case round =>
      obtain ⟨pos, HK, HB, hle, HN⟩ := hrel
      by_cases hp : pos < s.size
      · have hnx : ∀ ty, (Instr.next (.pointer (some ⟨w1.heap.size, 0, none⟩)) true ty).run Tryz.prog wr = _ := fun ty => Lib.run_next_any_at wr w1.heap.size s pos ty HK.out hp
        rcases decode_run s pos hp with ⟨hb, hd⟩ | ⟨hb, hd1, hd2, hk1, hk2, hk3⟩
        · rw [hd] at hnx
          have hx0 : s[pos].toNat < 256 := s[pos].toNat_lt
          have hxi : ((s[pos].toNat : Nat) : Int) < 128 := by omega
          have HI2 := Lib.hid (fun w => HIA.out (s[pos].toNat : Int) (by omega) hxi w)
          have e8 : ((s[pos].toNat : Int)).toNat.toUInt8 = s[pos] := by
            rw [Int.toNat_natCast]
            exact UInt8.ofNat_toNat
          rw [e8] at HI2
          have HX2 := Lib.hid (index2 s[pos])
          have HL := Lib.hid (byte_list s pos hp)
          have HRUN : Hid (¬ (s[pos] = 0 ∨ s[pos] = 92) → Lib.NoAny s.data.toList [0, 92] (pos + 1)) := fun h => HN.out.succ HL.out (by simp at h; simp [h.1, h.2])
          have HHIT : Hid (s[pos] = 0 ∨ s[pos] = 92 → Lib.indexAny s.data.toList [0, 92] = pos) := fun h => Lib.indexAny_hit HN.out HL.out (by rcases h with h | h <;> rw [h] <;> decide)
          have HK2 := Lib.hid (Lib.iterAt_heap wr w1.heap.size s pos (pos + 1) HK.out)
          have HB2 := Lib.hid (Lib.below_iterAt HB.out (Nat.le_refl _) s (pos + 1))
          have HIP : Hid (wr.iterPos w1.heap.size = pos) := by show _ = _; unfold World.iterPos; rw [HK.out]
          have HIP2 : Hid ((wr.iterAt w1.heap.size s (pos + 1)).iterPos w1.heap.size = pos + 1) := by show _ = _; unfold World.iterPos; rw [HK2.out]
          generalize s[pos] = x at *
          generalize wr.iterAt w1.heap.size s (pos + 1) = w2 at *
          clear hd hx0 e8
          by_cases hit : x = 0 ∨ x = 92
          · have HR := Lib.hid (HHIT.out hit)
            have hge : decide ((0 : Int) ≤ Lib.indexByte [0, 92] x) = true := decide_eq_true (HX2.out.2 hit)
            clear hit
            go_wp2_with fail
            refine (HI2.out _).mono ?_
            rintro e w3 ⟨rfl, rfl⟩
            go_wp2
            go_ret
            rw [HR.out]
            exact ⟨rfl, HB2.out⟩
          · have HR := Lib.hid (HRUN.out hit)
            have hge : decide ((0 : Int) ≤ Lib.indexByte [0, 92] x) = false := decide_eq_false (fun h => hit (HX2.out.1 h))
            clear hit
            go_wp2_with fail
            refine (HI2.out _).mono ?_
            rintro e w3 ⟨rfl, rfl⟩
            go_wp2
            go_roundw
            case rel => exact ⟨pos + 1, HK2, HB2, by omega, HR⟩
            case measure => rw [HIP.out, HIP2.out]; omega
        · have HR : Hid (Lib.NoAny s.data.toList [0, 92] (pos + (Utf8.decode s pos).2)) := noAny_run HN.out fun j hj hjk => by have := hk3 j hj hjk; omega
          have HK2 := Lib.hid (Lib.iterAt_heap wr w1.heap.size s pos (pos + (Utf8.decode s pos).2) HK.out)
          have HB2 := Lib.hid (Lib.below_iterAt HB.out (Nat.le_refl _) s (pos + (Utf8.decode s pos).2))
          have HIP : Hid (wr.iterPos w1.heap.size = pos) := by show _ = _; unfold World.iterPos; rw [HK.out]
          generalize Utf8.decode s pos = D at *
          obtain ⟨r, k⟩ := D
          simp only at hd1 hd2 hk1 hk2 HR HK2 HB2 hnx
          have HI2 := Lib.hid (fun w => HIR.out r hd1 (by omega) w)
          have hgt : w1.heap.size < (wr.iterAt w1.heap.size s (pos + k)).heap.size := (Array.getElem?_eq_some_iff.1 HK2.out).1
          have HGT := Lib.hid hgt
          generalize wr.iterAt w1.heap.size s (pos + k) = w2 at *
          clear hb hk3 hgt
          go_wp2_with fail
          refine (HI2.out _).mono ?_
          rintro e w3 ⟨rfl, hb3⟩
          have HK3 := Lib.hid ((hb3.block _ HGT.out).trans HK2.out)
          have HB3 := Lib.hid (below_then HB2.out hb3)
          have HIP3 : Hid (w3.iterPos w1.heap.size = pos + k) := by show _ = _; unfold World.iterPos; rw [HK3.out]
          clear hb3
          go_wp2_with fail
          go_roundw
          case rel => exact ⟨pos + k, HK3, HB3, hk2, HR⟩
          case measure => rw [HIP.out, HIP3.out]; omega
      · have hnx : ∀ ty, (Instr.next (.pointer (some ⟨w1.heap.size, 0, none⟩)) true ty).run Tryz.prog wr = _ := fun ty => Lib.run_next_end_at wr w1.heap.size s pos ty HK.out hp
        have HR : Hid (Lib.indexAny s.data.toList [0, 92] = -1) := Lib.indexAny_none (by
          have e : s.data.toList.length = pos := by rw [Array.length_toList]; show s.size = pos; omega
          rw [e]; exact HN.out)
        go_wp2_with fail
        go_ret
        rw [HR.out]
        exact ⟨rfl, HB.out⟩

/-- Has a text a byte 0 or a backslash? -/
def badB (s : ByteArray) : Bool := (nums s).any fun b => decide (b = 0) || decide (b = 92)
theorem badB_index (s : ByteArray) : decide (0 ≤ Lib.indexAny s.data.toList [0, 92]) = badB s := by
  unfold badB nums
  generalize s.data.toList = l
  induction l with
  | nil => rfl
  | cons b r ih =>
    have hge := Lib.indexAny_ge [0, 92] r
    rw [List.map_cons, List.any_cons, ← ih]
    have e : Lib.indexAny (b :: r) [0, 92] = if [(0 : UInt8), 92].contains b then 0 else if Lib.indexAny r [0, 92] == -1 then -1 else Lib.indexAny r [0, 92] + 1 := rfl
    rw [e]
    clear e
    by_cases h : b = 0 ∨ b = 92
    · have hc : [(0 : UInt8), 92].contains b = true := by rcases h with h | h <;> rw [h] <;> decide
      rw [if_pos hc]
      rcases h with h | h <;> rw [h] <;> rfl
    · have h0 : b ≠ 0 := fun e => h (.inl e)
      have h1 : b ≠ 92 := fun e => h (.inr e)
      have hc : ¬ [(0 : UInt8), 92].contains b = true := by simp [h0, h1]
      have n0 : b.toNat ≠ 0 := fun e => h0 (UInt8.toNat_inj.1 e)
      have n1 : b.toNat ≠ 92 := fun e => h1 (UInt8.toNat_inj.1 e)
      rw [if_neg hc, decide_eq_false n0, decide_eq_false n1]
      by_cases hm : Lib.indexAny r [0, 92] = -1
      · rw [if_pos (by rw [hm]; decide), hm]; rfl
      · rw [if_neg (by simpa using hm)]
        simp only [Bool.or_self, Bool.false_or, decide_eq_decide]
        omega
theorem containsAny_any (s : ByteArray) (w : World) (hs : s.size < 4294967281) :
    Calls Tryz.prog 150 #[.string s, .string ⟨#[0, 92]⟩] w fun e w' => e = .returned (.bool (badB s)) ∧ Below w.heap.size w w' := by
  have HI := Lib.hid (fun w => indexAny_any s w hs)
  have HB := Lib.hid (badB_index s)
  generalize Lib.indexAny s.data.toList [0, 92] = L at *
  go_enter Tryz.func150, Tryz.ntmps150
  go_wp2_with fail
  refine (HI.out _).mono ?_
  rintro e w1 ⟨rfl, hb⟩
  go_wp2
  go_ret
  rw [HB.out]
  exact ⟨rfl, hb⟩
end Go.Proofs.YtjnoapbddifcpaaGreatDoor

namespace Go.Proofs.YtjnoapbddifcpaaGreatDoor
set_option maxRecDepth 100000
open Go.RowKit Go.Deep Go.Joins Go.Lib

/-- Is the byte at a place from low to high? -/
def wiB (s : ByteArray) (p lo hi : Nat) : Bool := if h : p < s.size then decide (lo ≤ s[p].toNat) && decide (s[p].toNat ≤ hi) else false
theorem within_any (s : ByteArray) (p lo hi : Nat) (w : World) :
    Calls Tryz.prog 100 #[.string s, .int .i64 (p : Nat), .int .u8 (lo : Nat), .int .u8 (hi : Nat)] w fun e w' => e = .returned (.bool (wiB s p lo hi)) ∧ w' = w := by
  by_cases h : p < s.size
  · have HW : Hid (wiB s p lo hi = (decide (lo ≤ s[p].toNat) && decide (s[p].toNat ≤ hi))) := by show _ = _; unfold wiB; rw [dif_pos h]
    by_cases h1 : lo ≤ s[p].toNat
    · by_cases h2 : s[p].toNat ≤ hi
      · have HX : Hid (wiB s p lo hi = true) := by show _ = _; rw [HW.out, decide_eq_true h1, decide_eq_true h2]; rfl
        go_enter Tryz.func100, Tryz.ntmps100
        go_wp2_with fail
        go_ret
        rw [HX.out]
        exact ⟨rfl, rfl⟩
      · have HX : Hid (wiB s p lo hi = false) := by show _ = _; rw [HW.out, decide_eq_true h1, decide_eq_false h2]; rfl
        have h3 : decide (s[p].toNat ≤ hi) = false := decide_eq_false h2
        clear h2
        go_enter Tryz.func100, Tryz.ntmps100
        go_wp2_with fail
        go_ret
        rw [HX.out]
        exact ⟨rfl, rfl⟩
    · have HX : Hid (wiB s p lo hi = false) := by show _ = _; rw [HW.out, decide_eq_false h1]; rfl
      have h3 : s[p].toNat < lo := by omega
      clear h1
      go_enter Tryz.func100, Tryz.ntmps100
      go_wp2_with fail
      go_ret
      rw [HX.out]
      exact ⟨rfl, rfl⟩
  · have HX : Hid (wiB s p lo hi = false) := by show _ = _; unfold wiB; rw [dif_neg h]
    go_enter Tryz.func100, Tryz.ntmps100
    go_wp2_with fail
    go_ret
    rw [HX.out]
    exact ⟨rfl, rfl⟩
theorem wi_yes {s : ByteArray} {p lo hi : Nat} (h : wiB s p lo hi = true) : ∃ hp : p < s.size, lo ≤ s[p].toNat ∧ s[p].toNat ≤ hi := by
  unfold wiB at h
  by_cases hp : p < s.size
  · rw [dif_pos hp] at h
    simp at h
    exact ⟨hp, h⟩
  · rw [dif_neg hp] at h; cases h
set_option maxHeartbeats 4000000 in
theorem one_ascii (s : ByteArray) (p : Nat) (hp : p < s.size) (_ : s.size ≤ 1000000) (w : World) (hc : s[p].toNat < 128) :
    Calls Tryz.prog 68 #[.string s, .int .i64 (p : Nat)] w fun e w' => e = .returned (.tuple #[.int .i64 (s[p].toNat : Nat), .int .i64 1]) ∧ w' = w := by
  obtain ⟨p1, e1, q1⟩ : ∃ q : Nat, p + 1 = q ∧ ((p : Int) + 1) = (q : Int) := ⟨p + 1, rfl, by omega⟩
  obtain ⟨p2, e2, q2⟩ : ∃ q : Nat, p + 2 = q ∧ ((p : Int) + 2) = (q : Int) := ⟨p + 2, rfl, by omega⟩
  obtain ⟨p3, e3, q3⟩ : ∃ q : Nat, p + 3 = q ∧ ((p : Int) + 3) = (q : Int) := ⟨p + 3, rfl, by omega⟩
  have hw : IntKind.i64.wrap (s[p].toNat : Int) = (s[p].toNat : Int) := by rw [IntKind.wrap_i64]; omega
  clear e1 q1 e2 q2 e3 q3
  go_enter Tryz.func68, Tryz.ntmps68
  go_wp2_with fail
  go_ret2
  exact ⟨rfl, rfl⟩
set_option maxHeartbeats 4000000 in
theorem one_low (s : ByteArray) (p : Nat) (hp : p < s.size) (_ : s.size ≤ 1000000) (w : World) (hc : 128 ≤ s[p].toNat) (hc2 : s[p].toNat < 194) :
    Calls Tryz.prog 68 #[.string s, .int .i64 (p : Nat)] w fun e w' => e = .returned (.tuple #[.int .i64 (-1), .int .i64 1]) ∧ w' = w := by
  obtain ⟨p1, e1, q1⟩ : ∃ q : Nat, p + 1 = q ∧ ((p : Int) + 1) = (q : Int) := ⟨p + 1, rfl, by omega⟩
  obtain ⟨p2, e2, q2⟩ : ∃ q : Nat, p + 2 = q ∧ ((p : Int) + 2) = (q : Int) := ⟨p + 2, rfl, by omega⟩
  obtain ⟨p3, e3, q3⟩ : ∃ q : Nat, p + 3 = q ∧ ((p : Int) + 3) = (q : Int) := ⟨p + 3, rfl, by omega⟩
  have hx : s[p].toNat < 256 := s[p].toNat_lt
  clear e1 q1 e2 q2 e3 q3
  go_enter Tryz.func68, Tryz.ntmps68
  go_wp2_with fail
  go_ret2
  exact ⟨rfl, rfl⟩
set_option maxHeartbeats 4000000 in
theorem one_great (s : ByteArray) (p : Nat) (hp : p < s.size) (_ : s.size ≤ 1000000) (w : World) (hc : 245 ≤ s[p].toNat) :
    Calls Tryz.prog 68 #[.string s, .int .i64 (p : Nat)] w fun e w' => e = .returned (.tuple #[.int .i64 (-1), .int .i64 1]) ∧ w' = w := by
  obtain ⟨p1, e1, q1⟩ : ∃ q : Nat, p + 1 = q ∧ ((p : Int) + 1) = (q : Int) := ⟨p + 1, rfl, by omega⟩
  obtain ⟨p2, e2, q2⟩ : ∃ q : Nat, p + 2 = q ∧ ((p : Int) + 2) = (q : Int) := ⟨p + 2, rfl, by omega⟩
  obtain ⟨p3, e3, q3⟩ : ∃ q : Nat, p + 3 = q ∧ ((p : Int) + 3) = (q : Int) := ⟨p + 3, rfl, by omega⟩
  have hx : s[p].toNat < 256 := s[p].toNat_lt
  clear e1 q1 e2 q2 e3 q3
  go_enter Tryz.func68, Tryz.ntmps68
  go_wp2_with fail
  go_ret2
  exact ⟨rfl, rfl⟩
end Go.Proofs.YtjnoapbddifcpaaGreatDoor
