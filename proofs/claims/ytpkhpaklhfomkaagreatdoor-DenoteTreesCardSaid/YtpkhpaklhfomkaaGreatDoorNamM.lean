/-
  Mathematics of paths: the order of texts by ranks, the parts between the slashes, and that the order of the parts is that of the ranks.
-/
import Derived.Test.YtpkhpaklhfomkaaGreatDoorBytesMath
import Derived.Lib.SplitLaws
namespace Go.Proofs.YtpkhpaklhfomkaaGreatDoor

/-- A byte's rank: the slash ahead of all. -/
def rk (b : Nat) : Nat := if b = 47 then 0 else b + 1
theorem rk_inj {a b : Nat} (h : rk a = rk b) : a = b := by
  unfold rk at h
  split at h <;> split at h <;> omega
theorem rk_lt_47 {b : Nat} (h : b ≠ 47) : rk 47 < rk b := by unfold rk; rw [if_pos rfl, if_neg h]; omega
theorem rk_lt {a b : Nat} (ha : a ≠ 47) (hb : b ≠ 47) : rk a < rk b ↔ a < b := by unfold rk; rw [if_neg ha, if_neg hb]; omega

def ordL : List Nat → List Nat → Int
  | [], [] => 0
  | [], _ :: _ => -1
  | _ :: _, [] => 1
  | x :: xs, y :: ys => if x = y then ordL xs ys else if rk x < rk y then -1 else 1
theorem ordL_self : ∀ a, ordL a a = 0
  | [] => rfl
  | x :: xs => by rw [ordL, if_pos rfl, ordL_self xs]
theorem ordL_neg : ∀ a b, ordL a b = - ordL b a
  | [], [] => rfl
  | [], _ :: _ => rfl
  | _ :: _, [] => rfl
  | x :: xs, y :: ys => by
    unfold ordL
    by_cases e : x = y
    · rw [if_pos e, if_pos e.symm, ordL_neg xs ys]
    · have e2 : ¬ y = x := fun h => e h.symm
      rw [if_neg e, if_neg e2]
      have : rk x ≠ rk y := fun h => e (rk_inj h)
      by_cases h : rk x < rk y
      · rw [if_pos h, if_neg (by omega)]
      · rw [if_neg h, if_pos (by omega)]; rfl
theorem ordL_zero : ∀ a b, ordL a b = 0 ↔ a = b
  | [], [] => by simp [ordL]
  | [], _ :: _ => by simp [ordL]
  | _ :: _, [] => by simp [ordL]
  | x :: xs, y :: ys => by
    unfold ordL
    by_cases e : x = y
    · rw [if_pos e, ordL_zero xs ys]; simp [e]
    · rw [if_neg e]
      constructor
      · intro h; split at h <;> omega
      · intro h; injection h with h1 _; exact absurd h1 e
theorem ordL_three : ∀ a b, ordL a b = -1 ∨ ordL a b = 0 ∨ ordL a b = 1
  | [], [] => .inr (.inl rfl)
  | [], _ :: _ => .inl rfl
  | _ :: _, [] => .inr (.inr rfl)
  | x :: xs, y :: ys => by
    unfold ordL
    split
    · exact ordL_three xs ys
    · split
      · exact .inl rfl
      · exact .inr (.inr rfl)
theorem ordL_trans : ∀ a b c, ordL a b ≤ 0 → ordL b c ≤ 0 → ordL a c ≤ 0
  | [], b, [], _, _ => by simp [ordL]
  | [], b, _ :: _, _, _ => by simp [ordL]
  | x :: xs, [], c, h, _ => by simp [ordL] at h
  | x :: xs, y :: ys, [], _, h => by simp [ordL] at h
  | x :: xs, y :: ys, z :: zs, h1, h2 => by
    unfold ordL at h1 h2 ⊢
    by_cases e1 : x = y
    · subst e1
      rw [if_pos rfl] at h1
      by_cases e2 : x = z
      · rw [if_pos e2] at h2 ⊢
        exact ordL_trans xs ys zs h1 h2
      · rw [if_neg e2] at h2 ⊢
        exact h2
    · rw [if_neg e1] at h1
      have l1 : rk x < rk y := by
        by_cases l : rk x < rk y
        · exact l
        · rw [if_neg l] at h1; omega
      have l2 : rk y ≤ rk z := by
        by_cases e2 : y = z
        · subst e2; omega
        · rw [if_neg e2] at h2
          by_cases l : rk y < rk z
          · omega
          · rw [if_neg l] at h2; omega
      have hne : x ≠ z := by intro e; subst e; omega
      rw [if_neg hne, if_pos (by omega)]
      decide
theorem ordL_prefix : ∀ a r, ordL a (a ++ r) ≤ 0
  | [], [] => by simp [ordL]
  | [], _ :: _ => by simp [ordL]
  | x :: xs, r => by
    rw [List.cons_append, ordL, if_pos rfl]
    exact ordL_prefix xs r

/-! ### parts -/
/-- What stands between the slashes; of the empty text one empty part. -/
def splitL : List Nat → List (List Nat)
  | [] => [[]]
  | c :: r => if c = 47 then [] :: splitL r else match splitL r with
    | [] => [[c]]
    | h :: t => (c :: h) :: t
theorem splitL_ne : ∀ l, splitL l ≠ []
  | [] => by simp [splitL]
  | c :: r => by
    unfold splitL
    split
    · simp
    · split <;> simp
theorem splitL_form (l : List Nat) : ∃ h t, splitL l = h :: t := by
  cases e : splitL l with
  | nil => exact absurd e (splitL_ne l)
  | cons h t => exact ⟨h, t, rfl⟩
theorem splitL_slash (r : List Nat) : splitL (47 :: r) = [] :: splitL r := by rw [splitL, if_pos rfl]
theorem splitL_other {c : Nat} (hc : c ≠ 47) {r : List Nat} {h : List Nat} {t : List (List Nat)} (e : splitL r = h :: t) : splitL (c :: r) = (c :: h) :: t := by
  rw [splitL, if_neg hc, e]
/-- The parts of a path: of the empty one none. -/
def partsL (l : List Nat) : List (List Nat) := if l = [] then [] else splitL l

/-- Texts by their bytes. -/
def lessL : List Nat → List Nat → Int
  | [], [] => 0
  | [], _ :: _ => -1
  | _ :: _, [] => 1
  | x :: xs, y :: ys => if x = y then lessL xs ys else if x < y then -1 else 1
theorem lessL_self : ∀ a, lessL a a = 0
  | [] => rfl
  | x :: xs => by rw [lessL, if_pos rfl, lessL_self xs]
/-- Part by part. -/
def cmpL : List (List Nat) → List (List Nat) → Int
  | [], [] => 0
  | [], _ :: _ => -1
  | _ :: _, [] => 1
  | x :: xs, y :: ys => if lessL x y = 0 then cmpL xs ys else lessL x y
theorem cmpL_cons {c : Nat} (h h2 : List Nat) (t t2 : List (List Nat)) : cmpL ((c :: h) :: t) ((c :: h2) :: t2) = cmpL (h :: t) (h2 :: t2) := by
  have e : lessL (c :: h) (c :: h2) = lessL h h2 := by rw [lessL, if_pos rfl]
  unfold cmpL
  rw [e]
theorem cmp_split : ∀ a b, cmpL (splitL a) (splitL b) = ordL a b
  | [], [] => rfl
  | [], d :: s => by
    obtain ⟨h, t, e⟩ := splitL_form s
    by_cases hd : d = 47
    · subst hd; rw [splitL_slash, e]; rfl
    · rw [splitL_other hd e]; rfl
  | c :: r, [] => by
    obtain ⟨h, t, e⟩ := splitL_form r
    by_cases hc : c = 47
    · subst hc; rw [splitL_slash, e]; rfl
    · rw [splitL_other hc e]; rfl
  | c :: r, d :: s => by
    obtain ⟨h, t, e⟩ := splitL_form r
    obtain ⟨h2, t2, e2⟩ := splitL_form s
    have ih := cmp_split r s
    unfold ordL
    by_cases hcd : c = d
    · subst hcd
      rw [if_pos rfl]
      by_cases hc : c = 47
      · subst hc; rw [splitL_slash, splitL_slash, cmpL, if_pos (lessL_self [])]; exact ih
      · rw [splitL_other hc e, splitL_other hc e2, cmpL_cons, ← e, ← e2]; exact ih
    · rw [if_neg hcd]
      by_cases hc : c = 47
      · subst hc
        have hd : d ≠ 47 := fun h => hcd h.symm
        rw [splitL_slash, splitL_other hd e2, if_pos (rk_lt_47 hd)]
        rfl
      · by_cases hd : d = 47
        · subst hd
          rw [splitL_slash, splitL_other hc e, if_neg (by have := rk_lt_47 hc; omega)]
          rfl
        · rw [splitL_other hc e, splitL_other hd e2]
          have hl : lessL (c :: h) (d :: h2) = if c < d then -1 else 1 := by rw [lessL, if_neg hcd]
          unfold cmpL
          rw [hl]
          by_cases l : c < d
          · rw [if_pos l, if_neg (by decide), if_pos ((rk_lt hc hd).2 l)]
          · rw [if_neg l, if_neg (by decide), if_neg (fun h => l ((rk_lt hc hd).1 h))]
/-- The order of the parts is the order by ranks. -/
theorem cmp_parts (a b : List Nat) : cmpL (partsL a) (partsL b) = ordL a b := by
  unfold partsL
  by_cases ha : a = []
  · subst ha
    by_cases hb : b = []
    · subst hb; rfl
    · rw [if_pos rfl, if_neg hb]
      obtain ⟨h, t, e⟩ := splitL_form b
      obtain ⟨d, s, rfl⟩ := List.exists_cons_of_ne_nil hb
      rw [e]; rfl
  · by_cases hb : b = []
    · subst hb
      rw [if_pos rfl, if_neg ha]
      obtain ⟨h, t, e⟩ := splitL_form a
      obtain ⟨d, s, rfl⟩ := List.exists_cons_of_ne_nil ha
      rw [e]; rfl
    · rw [if_neg ha, if_neg hb, cmp_split]

/-- The parts that are done, and the one under way. -/
def stepP (x : List (List Nat) × List Nat) (c : Nat) : List (List Nat) × List Nat := if c = 47 then (x.1 ++ [x.2], []) else (x.1, x.2 ++ [c])
def ptS (l : List Nat) : List (List Nat) × List Nat := l.foldl stepP ([], [])
theorem foldl_parts : ∀ (l : List Nat) (x : List (List Nat) × List Nat) h t, splitL l = h :: t → (l.foldl stepP x).1 ++ [(l.foldl stepP x).2] = x.1 ++ (x.2 ++ h) :: t
  | [], x, h, t, e => by
    simp [splitL] at e
    obtain ⟨rfl, rfl⟩ := e
    simp
  | c :: r, x, h, t, e => by
    obtain ⟨h2, t2, e2⟩ := splitL_form r
    have ih := foldl_parts r (stepP x c) h2 t2 e2
    rw [List.foldl_cons, ih]
    by_cases hc : c = 47
    · subst hc
      rw [splitL_slash, e2] at e
      injection e with e3 e4
      subst e3 e4
      simp [stepP]
    · rw [splitL_other hc e2] at e
      injection e with e3 e4
      subst e3 e4
      unfold stepP
      rw [if_neg hc]
      simp
theorem ptS_end (l : List Nat) : (ptS l).1 ++ [(ptS l).2] = splitL l := by
  obtain ⟨h, t, e⟩ := splitL_form l
  rw [ptS, foldl_parts l _ h t e, e]
  simp
theorem ptS_snoc (l : List Nat) (c : Nat) : ptS (l ++ [c]) = stepP (ptS l) c := by simp [ptS]
/-- The library's pieces are these. -/
theorem splitL_count : ∀ l, (splitL l).length = l.count 47 + 1
  | [] => rfl
  | c :: r => by
    obtain ⟨h, t, e⟩ := splitL_form r
    have ih := splitL_count r
    by_cases hc : c = 47
    · subst hc
      rw [splitL_slash, List.length_cons, ih, List.count_cons_self]
    · rw [splitL_other hc e, List.length_cons, ← List.length_cons (a := h), ← e, ih, List.count_cons_of_ne (by simpa using hc)]

/-! ### the library's pieces -/
theorem splitK_slash : ∀ l : List UInt8, (Lib.splitK [47] 0 (l.count 47) l).map (·.map UInt8.toNat) = splitL (l.map UInt8.toNat)
  | [] => rfl
  | b :: r => by
    have ih := splitK_slash r
    by_cases hb : b = 47
    · subst hb
      have hi : Lib.index ((47 : UInt8) :: r) [47] = 0 := by rw [Lib.index_one, Lib.indexByte, if_pos (by decide)]
      have e47 : List.map UInt8.toNat ((47 : UInt8) :: r) = 47 :: r.map UInt8.toNat := rfl
      rw [List.count_cons_self, Lib.splitK, hi, if_neg (by decide), List.map_cons, e47, splitL_slash, ← ih]
      rfl
    · have hn : b.toNat ≠ 47 := fun h => hb (by apply UInt8.toNat_inj.1; rw [h]; rfl)
      rw [List.count_cons_of_ne (by simpa using hb), List.map_cons]
      have hi : Lib.index (b :: r) [47] = if Lib.indexByte r 47 == -1 then -1 else Lib.indexByte r 47 + 1 := by rw [Lib.index_one, Lib.indexByte, if_neg (by simpa using hb)]
      cases hk : r.count 47 with
      | zero =>
        rw [hk] at ih
        have e : splitL (r.map UInt8.toNat) = [r.map UInt8.toNat] := ih.symm
        rw [splitL_other hn e]
        rfl
      | succ k =>
        rw [hk] at ih
        have hj := Lib.index_one r 47
        rw [Lib.splitK] at ih ⊢
        rcases Lib.index_spec r [47] with ⟨h1, h2⟩ | ⟨i, h1, h2, _⟩
        · exfalso
          rw [hj] at h1
          have h3 := Lib.indexByte_none h1
          have h4 : 0 < r.count 47 := by rw [hk]; exact Nat.succ_pos _
          obtain ⟨j, hj1, hj2⟩ := List.getElem_of_mem (List.count_pos_iff.1 h4)
          exact h3 j (by rw [List.getElem?_eq_getElem hj1, hj2])
        · have e1 : Lib.indexByte r 47 = (i : Int) := by rw [← hj]; exact h1
          rw [h1, if_neg (by simp only [beq_iff_eq]; omega)] at ih
          rw [hi, e1, if_neg (by simp only [beq_iff_eq]; omega), if_neg (by simp only [beq_iff_eq]; omega)]
          have t1 : (((i : Int) + 1).toNat) = i + 1 := by omega
          have t2 : ((i : Int)).toNat = i := by omega
          rw [t2, List.map_cons] at ih
          rw [t1]
          have e := ih.symm
          rw [splitL_other hn e]
          rfl
theorem split_nums (s : ByteArray) : (Lib.splitB ⟨#[47]⟩ 0 (Lib.countB s ⟨#[47]⟩) s).map nums = splitL (nums s) := by
  have h := Lib.splitB_data ⟨#[47]⟩ 0 (Lib.countB s ⟨#[47]⟩) s
  have hc : Lib.countB s ⟨#[47]⟩ = s.data.toList.count 47 := Lib.count_one 47 _
  have h2 := splitK_slash s.data.toList
  rw [← hc] at h2
  show _ = splitL (s.data.toList.map UInt8.toNat)
  rw [← h2]
  have h3 := congrArg (List.map (List.map UInt8.toNat)) h
  rw [List.map_map] at h3
  exact h3
end Go.Proofs.YtpkhpaklhfomkaaGreatDoor
