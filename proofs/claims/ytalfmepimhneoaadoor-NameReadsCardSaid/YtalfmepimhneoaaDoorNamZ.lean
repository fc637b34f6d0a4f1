/-
  Mathematics: CP437's names come there and back.
-/
import Derived.Test.YtalfmepimhneoaaDoorNamY
namespace Go.Proofs.YtalfmepimhneoaaDoor
set_option maxRecDepth 100000
open Go.RowKit Go.Lib

theorem enc_one {r : Nat} (h : r < 128) : encN r = [r] := by
  unfold encN
  rw [encodeRuneZ_one (by omega) (by omega)]
  simp
theorem enc_two {r : Nat} (h : 128 ≤ r) (h2 : r < 2048) : encN r = [192 + r / 64, 128 + r % 64] := by
  unfold encN
  rw [encodeRuneZ_two (by omega) (by omega)]
  rfl
theorem enc_three {r : Nat} (h : 2048 ≤ r ∧ r < 55296 ∨ 57343 < r ∧ r ≤ 65535) : encN r = [224 + r / 4096, 128 + r / 64 % 64, 128 + r % 64] := by
  unfold encN
  rw [encodeRuneZ_three (by omega)]
  rfl
theorem enc_four {r : Nat} (h : 65536 ≤ r) (h2 : r ≤ 1114111) : encN r = [240 + r / 262144, 128 + r / 4096 % 64, 128 + r / 64 % 64, 128 + r % 64] := by
  unfold encN
  rw [encodeRuneZ_four (by omega) (by omega)]
  rfl
theorem list2 {a b c d : Nat} (h1 : a = c) (h2 : b = d) : [a, b] = [c, d] := by rw [h1, h2]
theorem list3 {a b c a' b' c' : Nat} (h1 : a = a') (h2 : b = b') (h3 : c = c') : [a, b, c] = [a', b', c'] := by rw [h1, h2, h3]
theorem list4 {a b c d a' b' c' d' : Nat} (h1 : a = a') (h2 : b = b') (h3 : c = c') (h4 : d = d') : [a, b, c, d] = [a', b', c', d'] := by rw [h1, h2, h3, h4]
set_option maxHeartbeats 4000000 in
/-- A rune that is no stray has its bytes. -/
theorem decN_enc (n b0 b1 b2 b3 : Nat) (_ : b0 < 256) (h1 : b1 < 256) (h2 : b2 < 256) (_ : b3 < 256) (D : Nat × Nat) (hD : decodeN n b0 b1 b2 b3 = D) (hn : D ≠ (65533, 1)) :
    (D.2 = 1 ∧ encN D.1 = [b0]) ∨ (D.2 = 2 ∧ 1 < n ∧ encN D.1 = [b0, b1]) ∨ (D.2 = 3 ∧ 2 < n ∧ encN D.1 = [b0, b1, b2]) ∨ (D.2 = 4 ∧ 3 < n ∧ encN D.1 = [b0, b1, b2, b3]) := by
  unfold decodeN at hD
  repeat' split at hD
  all_goals subst hD
  all_goals first
    | exact absurd rfl hn
    | (refine .inl ⟨rfl, ?_⟩; exact enc_one (by assumption))
    | (refine .inr (.inl ⟨rfl, by omega, ?_⟩); rw [enc_two (by show _ ≤ _; omega) (by show _ < _; omega)]; exact list2 (by show _ = _; omega) (by show _ = _; omega))
    | (refine .inr (.inr (.inl ⟨rfl, by omega, ?_⟩)); rw [enc_three (by show _ ∨ _; omega)]; exact list3 (by show _ = _; omega) (by show _ = _; omega) (by show _ = _; omega))
    | (refine .inr (.inr (.inr ⟨rfl, by omega, ?_⟩)); rw [enc_four (by show _ ≤ _; omega) (by show _ ≤ _; omega)]; exact list4 (by show _ = _; omega) (by show _ = _; omega) (by show _ = _; omega) (by show _ = _; omega))
theorem nums_cons (s : ByteArray) (p : Nat) (h : p < s.size) : (nums s).drop p = (s.get! p).toNat :: (nums s).drop (p + 1) := by
  rw [nums_drop s p h, get_bang s p h]
theorem enc_dec (s : ByteArray) (p : Nat) (hp : p < s.size) (hn : Utf8.decode s p ≠ (65533, 1)) : (nums s).drop p = encN (Utf8.decode s p).1 ++ (nums s).drop (p + (Utf8.decode s p).2) := by
  have hd := decode_at s p
  rcases decN_enc _ _ _ _ _ (byte_lt s p) (byte_lt s (p + 1)) (byte_lt s (p + 2)) (byte_lt s (p + 3)) _ hd.symm hn with ⟨h1, h2⟩ | ⟨h1, h3, h2⟩ | ⟨h1, h3, h2⟩ | ⟨h1, h3, h2⟩
  · rw [h2, h1, nums_cons s p hp]; rfl
  · rw [h2, h1, nums_cons s p hp, nums_cons s (p + 1) (by omega)]; rfl
  · rw [h2, h1, nums_cons s p hp, nums_cons s (p + 1) (by omega), nums_cons s (p + 2) (by omega)]; rfl
  · rw [h2, h1, nums_cons s p hp, nums_cons s (p + 1) (by omega), nums_cons s (p + 2) (by omega), nums_cons s (p + 3) (by omega)]; rfl
theorem cp_un {r x : Nat} (h : unO r = some x) : cpN x = r := by
  unfold unO at h
  unfold cpN
  split at h
  · injection h with h; subst h; rw [if_pos (by assumption)]
  · split at h
    · injection h with h
      subst h
      rw [if_neg (by omega), show 128 + cpL.idxOf r - 128 = cpL.idxOf r by omega]
      exact idx_get (by assumption)
    · cases h
theorem un_stray : unO 65533 = none := by decide
/-- What is told is read again. -/
theorem un_back (s : ByteArray) : ∀ (f pos : Nat) (c : List Nat), s.size ≤ pos + f → pos ≤ s.size → unL (runeF s f pos) = some c → decL c = (nums s).drop pos
  | 0, pos, c, hf, hp, h => by
    rw [runeF, unL] at h
    injection h with h
    subst h
    rw [List.drop_eq_nil_of_le (by rw [nums_len]; omega)]
    rfl
  | f + 1, pos, c, hf, hp, h => by
    rw [runeF] at h
    by_cases hps : pos < s.size
    · rw [if_pos hps, unL] at h
      have hst : Utf8.decode s pos ≠ (65533, 1) := fun e => by rw [e] at h; simp only [un_stray] at h; cases h
      have hrun : 1 ≤ (Utf8.decode s pos).2 ∧ pos + (Utf8.decode s pos).2 ≤ s.size := by
        rcases decode_run s pos hps with ⟨h1, h2⟩ | ⟨_, _, _, h4, h5, _⟩
        · rw [h2]; exact ⟨Nat.le_refl _, by show pos + 1 ≤ _; omega⟩
        · exact ⟨h4, h5⟩
      cases hu : unO (Utf8.decode s pos).1 with
      | none => rw [hu] at h; cases h
      | some x =>
        rw [hu] at h
        cases hr : unL (runeF s f (pos + (Utf8.decode s pos).2)) with
        | none => rw [hr] at h; cases h
        | some c' =>
          rw [hr] at h
          have hc : x :: c' = c := Option.some.inj h
          subst hc
          rw [enc_dec s pos hps hst, ← un_back s f _ c' (by omega) hrun.2 hr]
          show encN (cpN x) ++ decL c' = _
          rw [cp_un hu]
    · rw [if_neg hps, unL] at h
      injection h with h
      subst h
      rw [List.drop_eq_nil_of_le (by rw [nums_len]; omega)]
      rfl

theorem get_text (L : List Nat) (hL : ∀ x ∈ L, x < 256) (i : Nat) (h : i < L.length) : ((text L).get! i).toNat = L[i] := by
  have h1 := nums_text L hL
  have h2 : i < (text L).size := by rw [text_size]; exact h
  have h3 := nums_get (text L) i h2
  rw [h1, List.getElem?_eq_getElem h] at h3
  rw [get_bang _ i h2]
  exact (Option.some.inj h3).symm
set_option maxHeartbeats 4000000 in
/-- A rune's bytes are read as the rune. -/
theorem dec_enc (P Q : List Nat) (r : Nat) (hr : r < 55296) (hL : ∀ x ∈ P ++ (encN r ++ Q), x < 256) : Utf8.decode (text (P ++ (encN r ++ Q))) P.length = (r, (encN r).length) := by
  have hg : ∀ j (h : j < (encN r).length), ((text (P ++ (encN r ++ Q))).get! (P.length + j)).toNat = (encN r)[j] := fun j h => by
    rw [get_text _ hL (P.length + j) (by simp; omega)]
    rw [List.getElem_append_right (by omega)]
    simp only [Nat.add_sub_cancel_left]
    rw [List.getElem_append_left h]
  have hsz : (text (P ++ (encN r ++ Q))).size - P.length = (encN r).length + Q.length := by rw [text_size]; simp
  rw [decode_at, hsz]
  rcases (by omega : r < 128 ∨ (128 ≤ r ∧ r < 2048) ∨ (2048 ≤ r)) with h | ⟨h, h2⟩ | h
  · have e := enc_one h
    have g0 := hg 0 (by rw [e]; simp)
    simp only [e] at g0 ⊢
    rw [Nat.add_zero] at g0
    rw [g0]
    unfold decodeN
    simp only [List.getElem_cons_zero]
    rw [if_pos h]
    rfl
  · have e := enc_two h h2
    have g0 := hg 0 (by rw [e]; simp)
    have g1 := hg 1 (by rw [e]; simp)
    simp only [e] at g0 g1 ⊢
    rw [Nat.add_zero] at g0
    rw [g0, g1]
    simp only [List.getElem_cons_zero, List.getElem_cons_succ, List.length_cons, List.length_nil]
    unfold decodeN
    rw [if_neg (by omega), if_pos (by omega), if_pos (by omega)]
    congr 1
    omega
  · have e := enc_three (r := r) (.inl ⟨h, hr⟩)
    have g0 := hg 0 (by rw [e]; simp)
    have g1 := hg 1 (by rw [e]; simp)
    have g2 := hg 2 (by rw [e]; simp)
    simp only [e] at g0 g1 g2 ⊢
    rw [Nat.add_zero] at g0
    rw [g0, g1, g2]
    simp only [List.getElem_cons_zero, List.getElem_cons_succ, List.length_cons, List.length_nil]
    unfold decodeN
    rw [if_neg (by omega), if_neg (by omega), if_pos (by omega), if_pos (by omega)]
    congr 1
    omega
theorem un_cp {b : Nat} (h : b < 256) : unO (cpN b) = some b := by
  unfold cpN
  by_cases h1 : b < 128
  · rw [if_pos h1]; unfold unO; rw [if_pos h1]
  · rw [if_neg h1]
    have hf := cpL_facts (b - 128) (by omega)
    have hi : cpL.idxOf (cpL.getD (b - 128) 0) = b - 128 := by
      have hl : b - 128 < cpL.length := by rw [cpL_len]; omega
      have hm : cpL.getD (b - 128) 0 ∈ cpL := by
        rw [List.getD_eq_getElem?_getD, List.getElem?_eq_getElem hl]
        exact List.getElem_mem hl
      have hx := List.idxOf_lt_length_of_mem hm
      rw [cpL_len] at hx
      exact cp_inj hx (by omega) (idx_get hx)
    unfold unO
    rw [if_neg (by omega), hi, if_pos (by omega)]
    congr 1
    omega
/-- Whatever bytes are read are told as these again. -/
theorem un_dec : ∀ (l P : List Nat) (f : Nat), (∀ b ∈ l, b < 256) → (∀ x ∈ P ++ decL l, x < 256) → (decL l).length ≤ f → unL (runeF (text (P ++ decL l)) f P.length) = some l
  | [], P, f, _, _, _ => by
    have : ¬ P.length < (text (P ++ decL [])).size := by rw [text_size]; simp [decL]
    rw [runeF_end _ f _ this]
    rfl
  | b :: l, P, f, hl, hL, hf => by
    have hb := hl b (.head _)
    have hr := cpN_lt hb
    have hd : decL (b :: l) = encN (cpN b) ++ decL l := rfl
    have he := (enc_len (cpN b)).2
    rw [hd] at hL hf ⊢
    rw [List.length_append] at hf
    cases f with
    | zero => omega
    | succ f =>
      have hlt : P.length < (text (P ++ (encN (cpN b) ++ decL l))).size := by rw [text_size]; simp; omega
      have hdec := dec_enc P (decL l) (cpN b) hr hL
      rw [runeF, if_pos hlt, hdec, unL]
      simp only
      rw [un_cp hb]
      simp only
      have ih := un_dec l (P ++ encN (cpN b)) f (fun x hx => hl x (.tail _ hx)) (by rw [List.append_assoc]; exact hL) (by omega)
      rw [List.append_assoc, List.length_append] at ih
      rw [ih]
      rfl
theorem there_back (s : ByteArray) : encO (text (decL (nums s))) = some (nums s) := by
  have h := un_dec (nums s) [] (text (decL (nums s))).size (nums_lt s) (by rw [List.nil_append]; exact decL_lt s) (by rw [text_size]; exact Nat.le_refl _)
  rw [List.nil_append] at h
  exact h
theorem back_there (s : ByteArray) (c : List Nat) (h : encO s = some c) : decL c = nums s := by
  have := un_back s s.size 0 c (by omega) (by omega) h
  rw [List.drop_zero] at this
  exact this
theorem unL_lt : ∀ (l c : List Nat), unL l = some c → (∀ x ∈ c, x < 256) ∧ c.length = l.length
  | [], c, h => by
    rw [unL] at h
    injection h with h
    subst h
    exact ⟨(fun x hx => by cases hx), rfl⟩
  | r :: l, c, h => by
    rw [unL] at h
    cases hu : unO r with
    | none => rw [hu] at h; cases h
    | some x =>
      rw [hu] at h
      cases hr : unL l with
      | none => rw [hr] at h; cases h
      | some c' =>
        rw [hr] at h
        have hc : x :: c' = c := Option.some.inj h
        subst hc
        obtain ⟨h1, h2⟩ := unL_lt l c' hr
        refine ⟨fun y hy => ?_, by simp [h2]⟩
        rcases List.mem_cons.1 hy with rfl | hy
        · exact unO_lt hu
        · exact h1 y hy
theorem runeF_len (s : ByteArray) : ∀ (f pos : Nat), (runeF s f pos).length ≤ f
  | 0, _ => Nat.le_refl _
  | f + 1, pos => by
    rw [runeF]
    split
    · rw [List.length_cons]; have := runeF_len s f (pos + (Utf8.decode s pos).2); omega
    · simp
theorem encO_facts {s : ByteArray} {c : List Nat} (h : encO s = some c) : (∀ x ∈ c, x < 256) ∧ c.length ≤ s.size := by
  obtain ⟨h1, h2⟩ := unL_lt _ _ h
  have := runeF_len s s.size 0
  unfold runesB at h2
  exact ⟨h1, by omega⟩
end Go.Proofs.YtalfmepimhneoaaDoor
