/-
  Contract: strays.
  Mathematics of paths: the order of texts by ranks, the parts between the slashes, and that the order of the parts is that of the ranks.
  Contracts: rank, Order.
  Contracts: Parent, Base, Under.
-/
import Derived.Test.YtmeapijckncoeaaGreatDoorPkAB
import Derived.Test.YtmeapijckncoeaaGreatDoorShelf
import Derived.Lib.SplitLaws
import Derived.StillTailTactics
import Derived.Deep.QuietTactic
import Derived.BigQuiet
import Derived.Deep.DeepMust

namespace Go.Proofs.YtmeapijckncoeaaGreatDoor
set_option maxRecDepth 100000
open Go.RowKit Go.Deep Go.Joins

/-- The text of U+FFFD ahead. -/
theorem prefix_fffd (s : ByteArray) (i : Nat) (h : i < s.size) (he : (Utf8.decode s i).1 = 65533) :
    Lib.hasPrefix (s.extract i s.size).data.toList [239, 191, 189] = !strayAt s i := by
  have hd := Lib.decode_at s i
  rw [hd] at he
  have hx := fffd _ _ _ _ _ (byte_lt s i) (byte_lt s (i + 1)) (byte_lt s (i + 2)) (byte_lt s (i + 3)) he
  unfold strayAt
  rw [hd]
  rw [Lib.extract_to_end]
  have g : ∀ k, i + k < s.size → s.data.toList[i + k]? = some (s.get! (i + k)) := fun k hk => by
    rw [Array.getElem?_toList, Array.getElem?_eq_getElem hk]
    exact congrArg some (get_at s (i + k) hk).symm
  generalize Lib.decodeN (s.size - i) (s.get! i).toNat (s.get! (i + 1)).toNat (s.get! (i + 2)).toNat (s.get! (i + 3)).toNat = D at *
  obtain ⟨r, k⟩ := D
  simp only at he hx
  subst he
  have hp : Lib.hasPrefix (s.data.toList.drop i) [239, 191, 189] = true ↔ 2 < s.size - i ∧ (s.get! i).toNat = 239 ∧ (s.get! (i + 1)).toNat = 191 ∧ (s.get! (i + 2)).toNat = 189 := by
    unfold Lib.hasPrefix
    rw [List.isPrefixOf_iff_prefix]
    have hlen : s.data.toList.length = s.size := by rw [Lib.size_eq]
    constructor
    · intro hpre
      obtain ⟨t, ht⟩ := hpre
      have hl := congrArg List.length ht
      simp only [List.length_append, List.length_cons, List.length_nil, List.length_drop, hlen] at hl
      have e : ∀ k, (s.data.toList.drop i)[k]? = s.data.toList[i + k]? := fun k => by rw [List.getElem?_drop]
      have e0 := e 0
      have e1 := e 1
      have e2 := e 2
      rw [← ht, g _ (by omega)] at e0 e1 e2
      simp at e0 e1 e2
      refine ⟨by omega, ?_, ?_, ?_⟩
      · rw [← e0]; rfl
      · rw [← e1]; rfl
      · rw [← e2]; rfl
    · rintro ⟨h2, a0, a1, a2⟩
      have b0 : s.get! i = 239 := UInt8.toNat_inj.1 a0
      have b1 : s.get! (i + 1) = 191 := UInt8.toNat_inj.1 a1
      have b2 : s.get! (i + 2) = 189 := UInt8.toNat_inj.1 a2
      refine ⟨s.data.toList.drop (i + 3), ?_⟩
      apply List.ext_getElem?
      intro k
      rw [List.getElem?_drop]
      rcases k with _ | _ | _ | k
      · rw [g 0 (by omega), show s.get! (i + 0) = 239 from b0]; rfl
      · rw [g 1 (by omega), b1]; rfl
      · rw [g 2 (by omega), b2]; rfl
      · rw [show i + (k + 1 + 1 + 1) = i + 3 + k by omega, ← List.getElem?_drop (i := i + 3)]; rfl
  rcases hx with ⟨hk, hn⟩ | ⟨hk, hy⟩
  · have hk1 : k = 1 := hk
    subst hk1
    have : Lib.hasPrefix (s.data.toList.drop i) [239, 191, 189] = false := by
      rw [Bool.eq_false_iff]
      exact fun h2 => hn (hp.1 h2)
    rw [this]
    simp
  · have hk3 : k = 3 := hk
    subst hk3
    rw [hp.2 hy]
    simp

theorem below_iter (w : World) (s : ByteArray) (pos : Nat) : Below w.heap.size w (w.iter s pos) := (Below.refl _ _).alloc (Nat.le_refl _) _
set_option maxHeartbeats 4000000 in
theorem strays_any (s : ByteArray) (w : World) :
    Calls Tryz.prog 91 #[.string s] w fun e w' => e = .returned (.bool (straysB s)) ∧ Below w.heap.size w w' := by
  go_enter Tryz.func91, Tryz.ntmps91
  go_wp2_with fail
  go_loopw [] (fun wr => ∃ (pos f : Nat), wr = w.iter s pos ∧ Hid (strayF s f pos = straysB s) ∧ s.size ≤ pos + f) (fun wr => s.size - wr.iterPos w.heap.size)
  case atStart => exact ⟨0, s.size, rfl, rfl, by omega⟩
  case round =>
    obtain ⟨pos, f, rfl, HC, hb⟩ := hrel
    by_cases hp : pos < s.size
    · have hnx : ∀ ty, (Instr.next (.pointer (some ⟨w.heap.size, 0, none⟩)) true ty).run Tryz.prog (w.iter s pos) = _ := fun ty => run_next_any w s pos ty hp
      have hwd := decode_pos s pos hp
      have HP := Lib.hid (fun he => prefix_fffd s pos hp he)
      have HN : Hid (∃ f', f = f' + 1 ∧ (strayAt s pos = true → straysB s = true) ∧ (strayAt s pos = false → strayF s f' (pos + (Utf8.decode s pos).2) = straysB s)) := by
        cases f with
        | zero => exact absurd hb (by omega)
        | succ f =>
          refine ⟨f, rfl, fun h => ?_, fun h => ?_⟩
          · have := HC.out; rw [strayF, if_pos hp, if_pos h] at this; exact this.symm
          · have := HC.out; rw [strayF, if_pos hp, if_neg (by rw [h]; decide)] at this; exact this
      have HST : Hid ((Utf8.decode s pos).1 ≠ 65533 → strayAt s pos = false) := fun h => by
        unfold strayAt
        exact decide_eq_false (fun e => h (by rw [e]))
      generalize hD : Utf8.decode s pos = D at *
      have HD := Lib.hid hD
      clear hD
      obtain ⟨r, k⟩ := D
      simp only at hwd hnx HP HN HST
      clear HC
      by_cases hr : r = 65533
      · subst hr
        have HPF := Lib.hid (HP.out rfl)
        have hr1 : ((65533 : Nat) : Int) = 65533 := rfl
        cases hst : strayAt s pos with
        | true =>
          rw [hst] at HPF HN
          have HX := Lib.hid (HN.out)
          clear HN hst
          go_wp2_with fail
          refine (sh_strings_HasPrefix _ _ _).mono ?_
          rintro e w1 ⟨rfl, rfl⟩
          rw [HPF.out]
          go_wp2
          go_ret
          obtain ⟨f', _, h1, _⟩ := HX.out
          rw [h1 (by simp)]
          exact ⟨rfl, below_iter _ _ _⟩
        | false =>
          rw [hst] at HPF HN
          have HX := Lib.hid (HN.out)
          clear HN hst
          go_wp2_with fail
          refine (sh_strings_HasPrefix _ _ _).mono ?_
          rintro e w1 ⟨rfl, rfl⟩
          rw [HPF.out]
          go_wp2
          go_roundw
          case rel =>
            obtain ⟨f', hf, _, h2⟩ := HX.out
            exact ⟨pos + k, f', rfl, h2 (by simp), by omega⟩
          case measure => simp; omega
      · have hr2 : ((r : Int) == 65533) = false := by rw [beq_eq_false_iff_ne]; omega
        have HX := Lib.hid (HN.out)
        have HS := Lib.hid (HST.out hr)
        clear HN hr
        go_wp2_with fail
        go_roundw
        case rel =>
          obtain ⟨f', hf, _, h2⟩ := HX.out
          exact ⟨pos + k, f', rfl, h2 HS.out, by omega⟩
        case measure => simp; omega
    · have hnx : ∀ ty, (Instr.next (.pointer (some ⟨w.heap.size, 0, none⟩)) true ty).run Tryz.prog (w.iter s pos) = _ := fun ty => run_next_end w s pos ty hp
      go_wp2
      go_ret
      have := HC.out
      rw [strayF_end s f pos hp] at this
      rw [← this]
      exact ⟨rfl, (Below.refl _ _).alloc (Nat.le_refl _) _⟩
end Go.Proofs.YtmeapijckncoeaaGreatDoor

namespace Go.Proofs.YtmeapijckncoeaaGreatDoor

/-- A byte's rank: the slash ahead of all. -/
def rk (b : Nat) : Nat := if b = 47 then 0 else b + 1
theorem rk_inj {a b : Nat} (h : rk a = rk b) : a = b := by
  unfold rk at h
  split at h <;> split at h <;> omega
theorem rk_lt_47 {b : Nat} (h : b ≠ 47) : rk 47 < rk b := by unfold rk; rw [if_pos rfl, if_neg h]; omega
theorem rk_lt {a b : Nat} (ha : a ≠ 47) (hb : b ≠ 47) : rk a < rk b ↔ a < b := by unfold rk; rw [if_neg ha, if_neg hb]; omega

def ordL : List Nat → List Nat → Int
  | [], [] => 0
  | [], _ :: _ => -1
  | _ :: _, [] => 1
  | x :: xs, y :: ys => if x = y then ordL xs ys else if rk x < rk y then -1 else 1
theorem ordL_self : ∀ a, ordL a a = 0
  | [] => rfl
  | x :: xs => by rw [ordL, if_pos rfl, ordL_self xs]
theorem ordL_neg : ∀ a b, ordL a b = - ordL b a
  | [], [] => rfl
  | [], _ :: _ => rfl
  | _ :: _, [] => rfl
  | x :: xs, y :: ys => by
    unfold ordL
    by_cases e : x = y
    · rw [if_pos e, if_pos e.symm, ordL_neg xs ys]
    · have e2 : ¬ y = x := fun h => e h.symm
      rw [if_neg e, if_neg e2]
      have : rk x ≠ rk y := fun h => e (rk_inj h)
      by_cases h : rk x < rk y
      · rw [if_pos h, if_neg (by omega)]
      · rw [if_neg h, if_pos (by omega)]; rfl
theorem ordL_zero : ∀ a b, ordL a b = 0 ↔ a = b
  | [], [] => by simp [ordL]
  | [], _ :: _ => by simp [ordL]
  | _ :: _, [] => by simp [ordL]
  | x :: xs, y :: ys => by
    unfold ordL
    by_cases e : x = y
    · rw [if_pos e, ordL_zero xs ys]; simp [e]
    · rw [if_neg e]
      constructor
      · intro h; split at h <;> omega
      · intro h; injection h with h1 _; exact absurd h1 e
theorem ordL_three : ∀ a b, ordL a b = -1 ∨ ordL a b = 0 ∨ ordL a b = 1
  | [], [] => .inr (.inl rfl)
  | [], _ :: _ => .inl rfl
  | _ :: _, [] => .inr (.inr rfl)
  | x :: xs, y :: ys => by
    unfold ordL
    split
    · exact ordL_three xs ys
    · split
      · exact .inl rfl
      · exact .inr (.inr rfl)
theorem ordL_trans : ∀ a b c, ordL a b ≤ 0 → ordL b c ≤ 0 → ordL a c ≤ 0
  | [], b, [], _, _ => by simp [ordL]
  | [], b, _ :: _, _, _ => by simp [ordL]
  | x :: xs, [], c, h, _ => by simp [ordL] at h
  | x :: xs, y :: ys, [], _, h => by simp [ordL] at h
  | x :: xs, y :: ys, z :: zs, h1, h2 => by
    unfold ordL at h1 h2 ⊢
    by_cases e1 : x = y
    · subst e1
      rw [if_pos rfl] at h1
      by_cases e2 : x = z
      · rw [if_pos e2] at h2 ⊢
        exact ordL_trans xs ys zs h1 h2
      · rw [if_neg e2] at h2 ⊢
        exact h2
    · rw [if_neg e1] at h1
      have l1 : rk x < rk y := by
        by_cases l : rk x < rk y
        · exact l
        · rw [if_neg l] at h1; omega
      have l2 : rk y ≤ rk z := by
        by_cases e2 : y = z
        · subst e2; omega
        · rw [if_neg e2] at h2
          by_cases l : rk y < rk z
          · omega
          · rw [if_neg l] at h2; omega
      have hne : x ≠ z := by intro e; subst e; omega
      rw [if_neg hne, if_pos (by omega)]
      decide
theorem ordL_prefix : ∀ a r, ordL a (a ++ r) ≤ 0
  | [], [] => by simp [ordL]
  | [], _ :: _ => by simp [ordL]
  | x :: xs, r => by
    rw [List.cons_append, ordL, if_pos rfl]
    exact ordL_prefix xs r

/-! ### parts -/
/-- What stands between the slashes; of the empty text one empty part. -/
def splitL : List Nat → List (List Nat)
  | [] => [[]]
  | c :: r => if c = 47 then [] :: splitL r else match splitL r with
    | [] => [[c]]
    | h :: t => (c :: h) :: t
theorem splitL_ne : ∀ l, splitL l ≠ []
  | [] => by simp [splitL]
  | c :: r => by
    unfold splitL
    split
    · simp
    · split <;> simp
theorem splitL_form (l : List Nat) : ∃ h t, splitL l = h :: t := by
  cases e : splitL l with
  | nil => exact absurd e (splitL_ne l)
  | cons h t => exact ⟨h, t, rfl⟩
theorem splitL_slash (r : List Nat) : splitL (47 :: r) = [] :: splitL r := by rw [splitL, if_pos rfl]
theorem splitL_other {c : Nat} (hc : c ≠ 47) {r : List Nat} {h : List Nat} {t : List (List Nat)} (e : splitL r = h :: t) : splitL (c :: r) = (c :: h) :: t := by
  rw [splitL, if_neg hc, e]
/-- The parts of a path: of the empty one none. -/
def partsL (l : List Nat) : List (List Nat) := if l = [] then [] else splitL l

/-- Texts by their bytes. -/
def lessL : List Nat → List Nat → Int
  | [], [] => 0
  | [], _ :: _ => -1
  | _ :: _, [] => 1
  | x :: xs, y :: ys => if x = y then lessL xs ys else if x < y then -1 else 1
theorem lessL_self : ∀ a, lessL a a = 0
  | [] => rfl
  | x :: xs => by rw [lessL, if_pos rfl, lessL_self xs]
/-- Part by part. -/
def cmpL : List (List Nat) → List (List Nat) → Int
  | [], [] => 0
  | [], _ :: _ => -1
  | _ :: _, [] => 1
  | x :: xs, y :: ys => if lessL x y = 0 then cmpL xs ys else lessL x y
theorem cmpL_cons {c : Nat} (h h2 : List Nat) (t t2 : List (List Nat)) : cmpL ((c :: h) :: t) ((c :: h2) :: t2) = cmpL (h :: t) (h2 :: t2) := by
  have e : lessL (c :: h) (c :: h2) = lessL h h2 := by rw [lessL, if_pos rfl]
  unfold cmpL
  rw [e]
theorem cmp_split : ∀ a b, cmpL (splitL a) (splitL b) = ordL a b
  | [], [] => rfl
  | [], d :: s => by
    obtain ⟨h, t, e⟩ := splitL_form s
    by_cases hd : d = 47
    · subst hd; rw [splitL_slash, e]; rfl
    · rw [splitL_other hd e]; rfl
  | c :: r, [] => by
    obtain ⟨h, t, e⟩ := splitL_form r
    by_cases hc : c = 47
    · subst hc; rw [splitL_slash, e]; rfl
    · rw [splitL_other hc e]; rfl
  | c :: r, d :: s => by
    obtain ⟨h, t, e⟩ := splitL_form r
    obtain ⟨h2, t2, e2⟩ := splitL_form s
    have ih := cmp_split r s
    unfold ordL
    by_cases hcd : c = d
    · subst hcd
      rw [if_pos rfl]
      by_cases hc : c = 47
      · subst hc; rw [splitL_slash, splitL_slash, cmpL, if_pos (lessL_self [])]; exact ih
      · rw [splitL_other hc e, splitL_other hc e2, cmpL_cons, ← e, ← e2]; exact ih
    · rw [if_neg hcd]
      by_cases hc : c = 47
      · subst hc
        have hd : d ≠ 47 := fun h => hcd h.symm
        rw [splitL_slash, splitL_other hd e2, if_pos (rk_lt_47 hd)]
        rfl
      · by_cases hd : d = 47
        · subst hd
          rw [splitL_slash, splitL_other hc e, if_neg (by have := rk_lt_47 hc; omega)]
          rfl
        · rw [splitL_other hc e, splitL_other hd e2]
          have hl : lessL (c :: h) (d :: h2) = if c < d then -1 else 1 := by rw [lessL, if_neg hcd]
          unfold cmpL
          rw [hl]
          by_cases l : c < d
          · rw [if_pos l, if_neg (by decide), if_pos ((rk_lt hc hd).2 l)]
          · rw [if_neg l, if_neg (by decide), if_neg (fun h => l ((rk_lt hc hd).1 h))]
/-- The order of the parts is the order by ranks. -/
theorem cmp_parts (a b : List Nat) : cmpL (partsL a) (partsL b) = ordL a b := by
  unfold partsL
  by_cases ha : a = []
  · subst ha
    by_cases hb : b = []
    · subst hb; rfl
    · rw [if_pos rfl, if_neg hb]
      obtain ⟨h, t, e⟩ := splitL_form b
      obtain ⟨d, s, rfl⟩ := List.exists_cons_of_ne_nil hb
      rw [e]; rfl
  · by_cases hb : b = []
    · subst hb
      rw [if_pos rfl, if_neg ha]
      obtain ⟨h, t, e⟩ := splitL_form a
      obtain ⟨d, s, rfl⟩ := List.exists_cons_of_ne_nil ha
      rw [e]; rfl
    · rw [if_neg ha, if_neg hb, cmp_split]

/-- The parts that are done, and the one under way. -/
def stepP (x : List (List Nat) × List Nat) (c : Nat) : List (List Nat) × List Nat := if c = 47 then (x.1 ++ [x.2], []) else (x.1, x.2 ++ [c])
def ptS (l : List Nat) : List (List Nat) × List Nat := l.foldl stepP ([], [])
theorem foldl_parts : ∀ (l : List Nat) (x : List (List Nat) × List Nat) h t, splitL l = h :: t → (l.foldl stepP x).1 ++ [(l.foldl stepP x).2] = x.1 ++ (x.2 ++ h) :: t
  | [], x, h, t, e => by
    simp [splitL] at e
    obtain ⟨rfl, rfl⟩ := e
    simp
  | c :: r, x, h, t, e => by
    obtain ⟨h2, t2, e2⟩ := splitL_form r
    have ih := foldl_parts r (stepP x c) h2 t2 e2
    rw [List.foldl_cons, ih]
    by_cases hc : c = 47
    · subst hc
      rw [splitL_slash, e2] at e
      injection e with e3 e4
      subst e3 e4
      simp [stepP]
    · rw [splitL_other hc e2] at e
      injection e with e3 e4
      subst e3 e4
      unfold stepP
      rw [if_neg hc]
      simp
theorem ptS_end (l : List Nat) : (ptS l).1 ++ [(ptS l).2] = splitL l := by
  obtain ⟨h, t, e⟩ := splitL_form l
  rw [ptS, foldl_parts l _ h t e, e]
  simp
theorem ptS_snoc (l : List Nat) (c : Nat) : ptS (l ++ [c]) = stepP (ptS l) c := by simp [ptS]
/-- The library's pieces are these. -/
theorem splitL_count : ∀ l, (splitL l).length = l.count 47 + 1
  | [] => rfl
  | c :: r => by
    obtain ⟨h, t, e⟩ := splitL_form r
    have ih := splitL_count r
    by_cases hc : c = 47
    · subst hc
      rw [splitL_slash, List.length_cons, ih, List.count_cons_self]
    · rw [splitL_other hc e, List.length_cons, ← List.length_cons (a := h), ← e, ih, List.count_cons_of_ne (by simpa using hc)]

/-! ### the library's pieces -/
theorem splitK_slash : ∀ l : List UInt8, (Lib.splitK [47] 0 (l.count 47) l).map (·.map UInt8.toNat) = splitL (l.map UInt8.toNat)
  | [] => rfl
  | b :: r => by
    have ih := splitK_slash r
    by_cases hb : b = 47
    · subst hb
      have hi : Lib.index ((47 : UInt8) :: r) [47] = 0 := by rw [Lib.index_one, Lib.indexByte, if_pos (by decide)]
      have e47 : List.map UInt8.toNat ((47 : UInt8) :: r) = 47 :: r.map UInt8.toNat := rfl
      rw [List.count_cons_self, Lib.splitK, hi, if_neg (by decide), List.map_cons, e47, splitL_slash, ← ih]
      rfl
    · have hn : b.toNat ≠ 47 := fun h => hb (by apply UInt8.toNat_inj.1; rw [h]; rfl)
      rw [List.count_cons_of_ne (by simpa using hb), List.map_cons]
      have hi : Lib.index (b :: r) [47] = if Lib.indexByte r 47 == -1 then -1 else Lib.indexByte r 47 + 1 := by rw [Lib.index_one, Lib.indexByte, if_neg (by simpa using hb)]
      cases hk : r.count 47 with
      | zero =>
        rw [hk] at ih
        have e : splitL (r.map UInt8.toNat) = [r.map UInt8.toNat] := ih.symm
        rw [splitL_other hn e]
        rfl
      | succ k =>
        rw [hk] at ih
        have hj := Lib.index_one r 47
        rw [Lib.splitK] at ih ⊢
        rcases Lib.index_spec r [47] with ⟨h1, h2⟩ | ⟨i, h1, h2, _⟩
        · exfalso
          rw [hj] at h1
          have h3 := Lib.indexByte_none h1
          have h4 : 0 < r.count 47 := by rw [hk]; exact Nat.succ_pos _
          obtain ⟨j, hj1, hj2⟩ := List.getElem_of_mem (List.count_pos_iff.1 h4)
          exact h3 j (by rw [List.getElem?_eq_getElem hj1, hj2])
        · have e1 : Lib.indexByte r 47 = (i : Int) := by rw [← hj]; exact h1
          rw [h1, if_neg (by simp only [beq_iff_eq]; omega)] at ih
          rw [hi, e1, if_neg (by simp only [beq_iff_eq]; omega), if_neg (by simp only [beq_iff_eq]; omega)]
          have t1 : (((i : Int) + 1).toNat) = i + 1 := by omega
          have t2 : ((i : Int)).toNat = i := by omega
          rw [t2, List.map_cons] at ih
          rw [t1]
          have e := ih.symm
          rw [splitL_other hn e]
          rfl
theorem split_nums (s : ByteArray) : (Lib.splitB ⟨#[47]⟩ 0 (Lib.countB s ⟨#[47]⟩) s).map nums = splitL (nums s) := by
  have h := Lib.splitB_data ⟨#[47]⟩ 0 (Lib.countB s ⟨#[47]⟩) s
  have hc : Lib.countB s ⟨#[47]⟩ = s.data.toList.count 47 := Lib.count_one 47 _
  have h2 := splitK_slash s.data.toList
  rw [← hc] at h2
  show _ = splitL (s.data.toList.map UInt8.toNat)
  rw [← h2]
  have h3 := congrArg (List.map (List.map UInt8.toNat)) h
  rw [List.map_map] at h3
  exact h3
end Go.Proofs.YtmeapijckncoeaaGreatDoor

namespace Go.Proofs.YtmeapijckncoeaaGreatDoor
set_option maxRecDepth 100000
open Go.RowKit Go.Deep Go.Joins

theorem rank_any (b : Nat) (hb : b < 256) (w : World) :
    Calls Tryz.prog 51 #[.int .u8 (b : Nat)] w fun e w' => e = .returned (.int .i64 ((rk b : Int) - 1)) ∧ w' = w := by
  by_cases h : b = 47
  · subst h
    have e1 : ((47 : Nat) : Int) = 47 := rfl
    go_enter Tryz.func51, Tryz.ntmps51
    go_wp2
    go_ret
    exact ⟨rfl, rfl⟩
  · have h1 : ((b : Int) == 47) = false := by rw [beq_eq_false_iff_ne]; omega
    have h2 : IntKind.i64.wrap (b : Int) = (b : Int) := by rw [IntKind.wrap_i64]; omega
    have h3 : Hid (((rk b : Nat) : Int) - 1 = (b : Int)) := by show _ = _; unfold rk; rw [if_neg h]; omega
    clear h
    go_enter Tryz.func51, Tryz.ntmps51
    go_wp2
    go_ret
    rw [h3.out]
    exact ⟨rfl, rfl⟩

def ordT (a b : ByteArray) : Int := ordL (nums a) (nums b)
theorem nums_drop (s : ByteArray) (k : Nat) (h : k < s.size) : (nums s).drop k = s[k].toNat :: (nums s).drop (k + 1) := by
  have hl : k < (nums s).length := by rw [nums_len]; exact h
  rw [List.drop_eq_getElem_cons hl]
  have := nums_get s k h
  rw [List.getElem?_eq_getElem hl] at this
  rw [Option.some.inj this]
theorem compare_rank (x y : Nat) (h : x ≠ y) : Lib.compareInt ((rk x : Int) - 1) ((rk y : Int) - 1) = if rk x < rk y then -1 else 1 := by
  have hr : rk x ≠ rk y := fun e => h (rk_inj e)
  unfold Lib.compareInt
  by_cases l : rk x < rk y
  · rw [if_pos (by omega), if_pos l]
  · rw [if_neg (by omega), if_pos (by omega), if_neg l]

set_option maxHeartbeats 4000000 in
theorem order_any (a b : ByteArray) (w : World) (ha : a.size ≤ 4611686018427387904) :
    Calls Tryz.prog 31 #[.string a, .string b] w fun e w' => e = .returned (.int .i64 (ordT a b)) ∧ ∃ n, w' = w.drewN n := by
  have HRK := Lib.hid (fun b hb w => rank_any b hb w)
  generalize hM : min a.size b.size = M
  have HM := Lib.hid hM
  have hMI : min (a.size : Int) (b.size : Int) = (M : Int) := by
    rcases Nat.le_total a.size b.size with h | h
    · rw [Nat.min_eq_left h] at hM; rw [Int.min_eq_left (a := (a.size : Int)) (b := (b.size : Int)) (by omega), hM]
    · rw [Nat.min_eq_right h] at hM; rw [Int.min_eq_right (a := (a.size : Int)) (b := (b.size : Int)) (by omega), hM]
  have HMA : Hid (M ≤ a.size ∧ M ≤ b.size ∧ (M = a.size ∨ M = b.size)) := by
    rcases Nat.le_total a.size b.size with h | h
    · rw [Nat.min_eq_left h] at hM; exact ⟨by omega, by omega, .inl hM.symm⟩
    · rw [Nat.min_eq_right h] at hM; exact ⟨by omega, by omega, .inr hM.symm⟩
  clear hM
  go_enter Tryz.func31, Tryz.ntmps31
  go_wp2_with fail
  go_loopw [11] (fun i wr => ∃ k : Nat, k ≤ M ∧ i = .int .i64 (k : Nat) ∧ Hid (ordL ((nums a).drop k) ((nums b).drop k) = ordT a b) ∧ Hid (∃ n, wr = w.drewN n)) (fun i _ => M - (intOf i).toNat)
  case atStart => exact ⟨0, Nat.zero_le _, rfl, rfl, 0, rfl⟩
  case round =>
    obtain ⟨k, hk, rfl, HO, HD⟩ := hrel
    by_cases hkM : k < M
    · have hka : k < a.size := by have := HMA.out; omega
      have hkb : k < b.size := by have := HMA.out; omega
      have HS : Hid (ordL ((nums a).drop k) ((nums b).drop k) = if a[k].toNat = b[k].toNat then ordL ((nums a).drop (k + 1)) ((nums b).drop (k + 1)) else if rk a[k].toNat < rk b[k].toNat then -1 else 1) := by
        show _ = _
        rw [nums_drop a k hka, nums_drop b k hkb, ordL]
      have hwk : k < 4611686018427387904 := by omega
      have hx : a[k].toNat < 256 := a[k].toNat_lt
      have hy : b[k].toNat < 256 := b[k].toNat_lt
      by_cases hxy : a[k].toNat = b[k].toNat
      · have hne : ((a[k].toNat : Int) != (b[k].toNat : Int)) = false := by rw [hxy]; simp
        have HO1 : Hid (ordL ((nums a).drop (k + 1)) ((nums b).drop (k + 1)) = ordT a b) := by
          show _ = _
          rw [← HO.out, HS.out, if_pos hxy]
        clear hxy
        go_wp2_with fail
        go_quiet (fail)
        go_wp2_with fail
        go_roundw
        case rel => 
          obtain ⟨nd, hd⟩ := HD.out
          exact ⟨k + 1, by omega, by go_num, HO1, nd + _, by rw [hd, World.drewN_drewN]⟩
        case measure => simp [intOf]; omega
      · have hne : ((a[k].toNat : Int) != (b[k].toNat : Int)) = true := by rw [bne_iff_ne]; omega
        have HE : Hid (Lib.compareInt ((rk a[k].toNat : Int) - 1) ((rk b[k].toNat : Int) - 1) = ordT a b) := by
          show _ = _
          rw [← HO.out, HS.out, if_neg hxy, compare_rank _ _ hxy]
        clear hxy
        go_wp2_with fail
        go_quiet (fail)
        have HD2 : Hid (∃ n, wr.drewN nq = w.drewN n) := by
          obtain ⟨nd, hd⟩ := HD.out
          exact ⟨nd + nq, by rw [hd, World.drewN_drewN]⟩
        generalize wr.drewN nq = w2 at *
        go_wp2_with fail
        go_quiet (first
          | (go_at_call 51; exact Calls.quiet_of_same (HRK.out _ hx _))
          | (go_at_call 51; exact Calls.quiet_of_same (HRK.out _ hy _))
          | (go_at_call 50; exact Calls.quiet_of_same (sh_cmp_Compare_int _ _ _)))
        rw [HE.out]
        go_wp2
        go_ret
        obtain ⟨m, hm⟩ := HD2.out
        exact ⟨rfl, m + nq, by rw [hm, World.drewN_drewN]⟩
    · obtain rfl : k = M := by omega
      have HE : Hid (Lib.compareInt (a.size : Int) (b.size : Int) = ordT a b) := by
        show _ = _
        rw [← HO.out]
        have hm := HMA.out
        unfold Lib.compareInt
        by_cases h1 : a.size < b.size
        · have e : k = a.size := by omega
          subst e
          rw [if_pos (by omega), show (nums a).drop a.size = [] from List.drop_eq_nil_of_le (by rw [nums_len]; exact Nat.le_refl _), nums_drop b _ h1]
          rfl
        · by_cases h2 : b.size < a.size
          · have e : k = b.size := by omega
            subst e
            rw [if_neg (by omega), if_pos (by omega), show (nums b).drop b.size = [] from List.drop_eq_nil_of_le (by rw [nums_len]; exact Nat.le_refl _), nums_drop a _ h2]
            rfl
          · have e : k = b.size := by omega
            have e2 : k = a.size := by omega
            rw [if_neg (by omega), if_neg (by omega), show (nums b).drop k = [] from List.drop_eq_nil_of_le (by rw [nums_len]; omega), show (nums a).drop k = [] from List.drop_eq_nil_of_le (by rw [nums_len]; omega)]
            rfl
      go_wp2_with fail
      refine (sh_cmp_Compare_int _ _ _).mono ?_
      rintro e w1 ⟨rfl, rfl⟩
      rw [HE.out]
      go_wp2
      go_ret
      exact ⟨rfl, HD.out⟩

/-! ### the last slash, the parent, the last part -/
/-- Behind the last slash. -/
def spl (s : ByteArray) : Int := Lib.lastIndexByte s 47 + 1
theorem last_le (s : ByteArray) : -1 ≤ Lib.lastIndexByte s 47 ∧ Lib.lastIndexByte s 47 < s.size := by
  rcases Lib.lastIdx_spec s 47 s.size with ⟨h, _⟩ | ⟨i, h, hi, _⟩
  · unfold Lib.lastIndexByte; omega
  · unfold Lib.lastIndexByte; omega
theorem spl_any (s : ByteArray) (w : World) (hs : s.size < 4611686018427387904) :
    Calls Tryz.prog 53 #[.string s] w fun e w' => e = .returned (.int .i64 (spl s)) ∧ w' = w := by
  have HL := Lib.hid (fun w => sh_strings_LastIndex_one s ⟨#[47]⟩ rfl hs w)
  have hb : Hid (-1 ≤ Lib.lastIndexByte s 47 ∧ Lib.lastIndexByte s 47 < s.size) := last_le s
  have h1 := hb.out.1
  have h2 := hb.out.2
  have he : Hid (spl s = Lib.lastIndexByte s 47 + 1) := rfl
  go_enter Tryz.func53, Tryz.ntmps53
  go_wp2_with fail
  refine (HL.out _).mono ?_
  rintro e w1 ⟨rfl, rfl⟩
  have e47 : (((⟨#[47]⟩ : ByteArray)[0]'(by decide)).toNat : Int) = 47 := rfl
  rw [e47]
  generalize Lib.lastIndexByte s 47 = L at *
  go_wp2
  go_ret
  rw [he.out]
  exact ⟨rfl, rfl⟩
end Go.Proofs.YtmeapijckncoeaaGreatDoor

namespace Go.Proofs.YtmeapijckncoeaaGreatDoor
set_option maxRecDepth 100000
open Go.RowKit Go.Deep Go.Joins

/-- The parent's bytes: how many. -/
def parN (s : ByteArray) : Nat := (max (spl s - 1) 0).toNat
def parB (s : ByteArray) : ByteArray := s.extract 0 (parN s)
def baseB (s : ByteArray) : ByteArray := s.extract (spl s).toNat s.size
theorem spl_le (s : ByteArray) : 0 ≤ spl s ∧ spl s ≤ s.size := by have := last_le s; unfold spl; omega
theorem parent_any (s : ByteArray) (w : World) (hs : s.size < 4611686018427387904) :
    Calls Tryz.prog 33 #[.string s] w fun e w' => e = .returned (.string (parB s)) ∧ w' = w := by
  have HL := Lib.hid (fun w => spl_any s w hs)
  obtain ⟨k, hk⟩ : ∃ k : Nat, spl s = k := ⟨(spl s).toNat, by have := spl_le s; omega⟩
  have hle : k ≤ s.size := by have := spl_le s; omega
  obtain ⟨m, hm⟩ : ∃ m : Nat, max ((k : Int) - 1) 0 = m := ⟨(max ((k : Int) - 1) 0).toNat, by omega⟩
  have he : Hid (parB s = s.extract 0 m) := by show _ = _; unfold parB parN; rw [hk, hm]; rfl
  have hml : m ≤ s.size := by omega
  rw [hk] at HL
  have hm2 : (if (k : Int) - 1 < 0 then (0 : Int) else (k : Int) - 1) = (m : Int) := by rw [← hm]; split <;> omega
  clear hk
  go_enter Tryz.func33, Tryz.ntmps33
  go_wp2_with fail
  refine (HL.out _).mono ?_
  rintro e w1 ⟨rfl, rfl⟩
  go_wp2
  go_ret
  rw [he.out]
  exact ⟨rfl, rfl⟩

/-- Under. -/
def undB (a r : ByteArray) : Bool := Lib.hasPrefix a.data.toList r.data.toList && (r.data.toList.isEmpty || (Lib.trimPrefix a.data.toList r.data.toList).isEmpty || Lib.hasPrefix (Lib.trimPrefix a.data.toList r.data.toList) [47])
theorem under_any (a r : ByteArray) (w : World) :
    Calls Tryz.prog 41 #[.string a, .string r] w fun e w' => e = .returned (.bool (undB a r)) ∧ w' = w := by
  have HL := Lib.hid (fun w => sh_strings_CutPrefix a r w)
  have HP := Lib.hid (fun w => sh_strings_HasPrefix ⟨(Lib.trimPrefix a.data.toList r.data.toList).toArray⟩ ⟨#[47]⟩ w)
  have HU : Hid (undB a r = (Lib.hasPrefix a.data.toList r.data.toList && (r.data.toList.isEmpty || (Lib.trimPrefix a.data.toList r.data.toList).isEmpty || Lib.hasPrefix (Lib.trimPrefix a.data.toList r.data.toList) [47]))) := rfl
  generalize Lib.trimPrefix a.data.toList r.data.toList = t at *
  generalize Lib.hasPrefix a.data.toList r.data.toList = b at *
  cases b with
  | false =>
    go_enter Tryz.func41, Tryz.ntmps41
    go_wp2_with fail
    refine (HL.out _).mono ?_
    rintro e w1 ⟨rfl, rfl⟩
    go_wp2
    go_ret
    rw [HU.out]
    exact ⟨rfl, rfl⟩
  | true =>
    have hrr : r.toList.isEmpty = r.data.toList.isEmpty := by rw [Lib.toList_data]
    cases hr : r.data.toList.isEmpty with
    | true =>
      rw [hr] at hrr
      go_enter Tryz.func41, Tryz.ntmps41
      go_wp2_with fail
      refine (HL.out _).mono ?_
      rintro e w1 ⟨rfl, rfl⟩
      go_wp2
      go_ret
      rw [HU.out, hr]
      exact ⟨rfl, rfl⟩
    | false =>
      rw [hr] at hrr
      cases ht : t.isEmpty with
      | true =>
        go_enter Tryz.func41, Tryz.ntmps41
        go_wp2_with fail
        refine (HL.out _).mono ?_
        rintro e w1 ⟨rfl, rfl⟩
        go_wp2
        go_ret
        rw [HU.out, hr, ht]
        exact ⟨rfl, rfl⟩
      | false =>
        go_enter Tryz.func41, Tryz.ntmps41
        go_wp2_with fail
        refine (HL.out _).mono ?_
        rintro e w1 ⟨rfl, rfl⟩
        go_wp2_with fail
        refine (HP.out _).mono ?_
        rintro e w1 ⟨rfl, rfl⟩
        go_wp2
        go_ret
        rw [HU.out, hr, ht]
        exact ⟨rfl, rfl⟩
end Go.Proofs.YtmeapijckncoeaaGreatDoor
