/-
  Contract: strays.
  Mathematics of paths: the order of texts by ranks, the parts between the slashes, and that the order of the parts is that of the ranks.
  Contracts: rank, Order.
  Contracts: Parent, Base, Under.
  Contracts: IndexRune in "\x00\\" of a rune that is no ASCII; IndexAny, ContainsAny of these two bytes in any text.
-/
import Derived.Test.YtjnoapbddifcpaaGreatDoorPkAA
import Derived.Test.YtjnoapbddifcpaaGreatDoorShelf
import Derived.Lib.SplitLaws
import Derived.Lib.LastIndexByte
import Derived.StillTailTactics
import Derived.Deep.QuietTactic
import Derived.BigQuiet
import Derived.Deep.DeepMust
import Derived.Laws.Runes
import Derived.Scope
import Derived.ScopeJumps

namespace Go.Proofs.YtjnoapbddifcpaaGreatDoor
set_option maxRecDepth 100000
open Go.RowKit Go.Deep Go.Joins

/-- The text of U+FFFD ahead. -/
theorem prefix_fffd (s : ByteArray) (i : Nat) (h : i < s.size) (he : (Utf8.decode s i).1 = 65533) :
    Lib.hasPrefix (s.extract i s.size).data.toList [239, 191, 189] = !strayAt s i := by
  have hd := Lib.decode_at s i
  rw [hd] at he
  have hx := fffd _ _ _ _ _ (byte_lt s i) (byte_lt s (i + 1)) (byte_lt s (i + 2)) (byte_lt s (i + 3)) he
  unfold strayAt
  rw [hd]
  rw [Lib.extract_to_end]
  have g : ∀ k, i + k < s.size → s.data.toList[i + k]? = some (s.get! (i + k)) := fun k hk => by
    rw [Array.getElem?_toList, Array.getElem?_eq_getElem hk]
    exact congrArg some (get_at s (i + k) hk).symm
  generalize Lib.decodeN (s.size - i) (s.get! i).toNat (s.get! (i + 1)).toNat (s.get! (i + 2)).toNat (s.get! (i + 3)).toNat = D at *
  obtain ⟨r, k⟩ := D
  simp only at he hx
  subst he
  have hp : Lib.hasPrefix (s.data.toList.drop i) [239, 191, 189] = true ↔ 2 < s.size - i ∧ (s.get! i).toNat = 239 ∧ (s.get! (i + 1)).toNat = 191 ∧ (s.get! (i + 2)).toNat = 189 := by
    unfold Lib.hasPrefix
    rw [List.isPrefixOf_iff_prefix]
    have hlen : s.data.toList.length = s.size := by rw [Lib.size_eq]
    constructor
    · intro hpre
      obtain ⟨t, ht⟩ := hpre
      have hl := congrArg List.length ht
      simp only [List.length_append, List.length_cons, List.length_nil, List.length_drop, hlen] at hl
      have e : ∀ k, (s.data.toList.drop i)[k]? = s.data.toList[i + k]? := fun k => by rw [List.getElem?_drop]
      have e0 := e 0
      have e1 := e 1
      have e2 := e 2
      rw [← ht, g _ (by omega)] at e0 e1 e2
      simp at e0 e1 e2
      refine ⟨by omega, ?_, ?_, ?_⟩
      · rw [← e0]; rfl
      · rw [← e1]; rfl
      · rw [← e2]; rfl
    · rintro ⟨h2, a0, a1, a2⟩
      have b0 : s.get! i = 239 := UInt8.toNat_inj.1 a0
      have b1 : s.get! (i + 1) = 191 := UInt8.toNat_inj.1 a1
      have b2 : s.get! (i + 2) = 189 := UInt8.toNat_inj.1 a2
      refine ⟨s.data.toList.drop (i + 3), ?_⟩
      apply List.ext_getElem?
      intro k
      rw [List.getElem?_drop]
      rcases k with _ | _ | _ | k
      · rw [g 0 (by omega), show s.get! (i + 0) = 239 from b0]; rfl
      · rw [g 1 (by omega), b1]; rfl
      · rw [g 2 (by omega), b2]; rfl
      · rw [show i + (k + 1 + 1 + 1) = i + 3 + k by omega, ← List.getElem?_drop (i := i + 3)]; rfl
  rcases hx with ⟨hk, hn⟩ | ⟨hk, hy⟩
  · have hk1 : k = 1 := hk
    subst hk1
    have : Lib.hasPrefix (s.data.toList.drop i) [239, 191, 189] = false := by
      rw [Bool.eq_false_iff]
      exact fun h2 => hn (hp.1 h2)
    rw [this]
    simp
  · have hk3 : k = 3 := hk
    subst hk3
    rw [hp.2 hy]
    simp

theorem below_iter (w : World) (s : ByteArray) (pos : Nat) : Below w.heap.size w (w.iter s pos) := (Below.refl _ _).alloc (Nat.le_refl _) _
set_option maxHeartbeats 4000000 in
theorem strays_any (s : ByteArray) (w : World) :
    Calls Tryz.prog 142 #[.string s] w fun e w' => e = .returned (.bool (straysB s)) ∧ Below w.heap.size w w' := by
  go_enter Tryz.func142, Tryz.ntmps142
  go_wp2_with fail
  go_loopw [] (fun wr => ∃ (pos f : Nat), wr = w.iter s pos ∧ Hid (strayF s f pos = straysB s) ∧ s.size ≤ pos + f) (fun wr => s.size - wr.iterPos w.heap.size)
  case atStart => exact ⟨0, s.size, rfl, rfl, by omega⟩
  case round =>
    obtain ⟨pos, f, rfl, HC, hb⟩ := hrel
    by_cases hp : pos < s.size
    · have hnx : ∀ ty, (Instr.next (.pointer (some ⟨w.heap.size, 0, none⟩)) true ty).run Tryz.prog (w.iter s pos) = _ := fun ty => run_next_any w s pos ty hp
      have hwd := decode_pos s pos hp
      have HP := Lib.hid (fun he => prefix_fffd s pos hp he)
      have HN : Hid (∃ f', f = f' + 1 ∧ (strayAt s pos = true → straysB s = true) ∧ (strayAt s pos = false → strayF s f' (pos + (Utf8.decode s pos).2) = straysB s)) := by
        cases f with
        | zero => exact absurd hb (by omega)
        | succ f =>
          refine ⟨f, rfl, fun h => ?_, fun h => ?_⟩
          · have := HC.out; rw [strayF, if_pos hp, if_pos h] at this; exact this.symm
          · have := HC.out; rw [strayF, if_pos hp, if_neg (by rw [h]; decide)] at this; exact this
      have HST : Hid ((Utf8.decode s pos).1 ≠ 65533 → strayAt s pos = false) := fun h => by
        unfold strayAt
        exact decide_eq_false (fun e => h (by rw [e]))
      generalize hD : Utf8.decode s pos = D at *
      have HD := Lib.hid hD
      clear hD
      obtain ⟨r, k⟩ := D
      simp only at hwd hnx HP HN HST
      clear HC
      by_cases hr : r = 65533
      · subst hr
        have HPF := Lib.hid (HP.out rfl)
        have hr1 : ((65533 : Nat) : Int) = 65533 := rfl
        cases hst : strayAt s pos with
        | true =>
          rw [hst] at HPF HN
          have HX := Lib.hid (HN.out)
          clear HN hst
          go_wp2_with fail
          refine (sh_strings_HasPrefix _ _ _).mono ?_
          rintro e w1 ⟨rfl, rfl⟩
          rw [HPF.out]
          go_wp2
          go_ret
          obtain ⟨f', _, h1, _⟩ := HX.out
          rw [h1 (by simp)]
          exact ⟨rfl, below_iter _ _ _⟩
        | false =>
          rw [hst] at HPF HN
          have HX := Lib.hid (HN.out)
          clear HN hst
          go_wp2_with fail
          refine (sh_strings_HasPrefix _ _ _).mono ?_
          rintro e w1 ⟨rfl, rfl⟩
          rw [HPF.out]
          go_wp2
          go_roundw
          case rel =>
            obtain ⟨f', hf, _, h2⟩ := HX.out
            exact ⟨pos + k, f', rfl, h2 (by simp), by omega⟩
          case measure => simp; omega
      · have hr2 : ((r : Int) == 65533) = false := by rw [beq_eq_false_iff_ne]; omega
        have HX := Lib.hid (HN.out)
        have HS := Lib.hid (HST.out hr)
        clear HN hr
        go_wp2_with fail
        go_roundw
        case rel =>
          obtain ⟨f', hf, _, h2⟩ := HX.out
          exact ⟨pos + k, f', rfl, h2 HS.out, by omega⟩
        case measure => simp; omega
    · have hnx : ∀ ty, (Instr.next (.pointer (some ⟨w.heap.size, 0, none⟩)) true ty).run Tryz.prog (w.iter s pos) = _ := fun ty => run_next_end w s pos ty hp
      go_wp2
      go_ret
      have := HC.out
      rw [strayF_end s f pos hp] at this
      rw [← this]
      exact ⟨rfl, (Below.refl _ _).alloc (Nat.le_refl _) _⟩
end Go.Proofs.YtjnoapbddifcpaaGreatDoor

namespace Go.Proofs.YtjnoapbddifcpaaGreatDoor

/-- A byte's rank: the slash ahead of all. -/
def rk (b : Nat) : Nat := if b = 47 then 0 else b + 1
def ordL : List Nat → List Nat → Int
  | [], [] => 0
  | [], _ :: _ => -1
  | _ :: _, [] => 1
  | x :: xs, y :: ys => if x = y then ordL xs ys else if rk x < rk y then -1 else 1
theorem ordL_self : ∀ a, ordL a a = 0
  | [] => rfl
  | x :: xs => by rw [ordL, if_pos rfl, ordL_self xs]
/-! ### parts -/
/-- What stands between the slashes; of the empty text one empty part. -/
def splitL : List Nat → List (List Nat)
  | [] => [[]]
  | c :: r => if c = 47 then [] :: splitL r else match splitL r with
    | [] => [[c]]
    | h :: t => (c :: h) :: t
theorem splitL_ne : ∀ l, splitL l ≠ []
  | [] => by simp [splitL]
  | c :: r => by
    unfold splitL
    split
    · simp
    · split <;> simp
theorem splitL_form (l : List Nat) : ∃ h t, splitL l = h :: t := by
  cases e : splitL l with
  | nil => exact absurd e (splitL_ne l)
  | cons h t => exact ⟨h, t, rfl⟩
theorem splitL_slash (r : List Nat) : splitL (47 :: r) = [] :: splitL r := by rw [splitL, if_pos rfl]
theorem splitL_other {c : Nat} (hc : c ≠ 47) {r : List Nat} {h : List Nat} {t : List (List Nat)} (e : splitL r = h :: t) : splitL (c :: r) = (c :: h) :: t := by
  rw [splitL, if_neg hc, e]
/-- The parts of a path: of the empty one none. -/
def partsL (l : List Nat) : List (List Nat) := if l = [] then [] else splitL l

/-- Texts by their bytes. -/
def lessL : List Nat → List Nat → Int
  | [], [] => 0
  | [], _ :: _ => -1
  | _ :: _, [] => 1
  | x :: xs, y :: ys => if x = y then lessL xs ys else if x < y then -1 else 1
/-- Part by part. -/
def cmpL : List (List Nat) → List (List Nat) → Int
  | [], [] => 0
  | [], _ :: _ => -1
  | _ :: _, [] => 1
  | x :: xs, y :: ys => if lessL x y = 0 then cmpL xs ys else lessL x y
/-- The parts that are done, and the one under way. -/
def stepP (x : List (List Nat) × List Nat) (c : Nat) : List (List Nat) × List Nat := if c = 47 then (x.1 ++ [x.2], []) else (x.1, x.2 ++ [c])
def ptS (l : List Nat) : List (List Nat) × List Nat := l.foldl stepP ([], [])
theorem foldl_parts : ∀ (l : List Nat) (x : List (List Nat) × List Nat) h t, splitL l = h :: t → (l.foldl stepP x).1 ++ [(l.foldl stepP x).2] = x.1 ++ (x.2 ++ h) :: t
  | [], x, h, t, e => by
    simp [splitL] at e
    obtain ⟨rfl, rfl⟩ := e
    simp
  | c :: r, x, h, t, e => by
    obtain ⟨h2, t2, e2⟩ := splitL_form r
    have ih := foldl_parts r (stepP x c) h2 t2 e2
    rw [List.foldl_cons, ih]
    by_cases hc : c = 47
    · subst hc
      rw [splitL_slash, e2] at e
      injection e with e3 e4
      subst e3 e4
      simp [stepP]
    · rw [splitL_other hc e2] at e
      injection e with e3 e4
      subst e3 e4
      unfold stepP
      rw [if_neg hc]
      simp
theorem ptS_end (l : List Nat) : (ptS l).1 ++ [(ptS l).2] = splitL l := by
  obtain ⟨h, t, e⟩ := splitL_form l
  rw [ptS, foldl_parts l _ h t e, e]
  simp
theorem ptS_snoc (l : List Nat) (c : Nat) : ptS (l ++ [c]) = stepP (ptS l) c := by simp [ptS]
/-- The library's pieces are these. -/
theorem splitL_count : ∀ l, (splitL l).length = l.count 47 + 1
  | [] => rfl
  | c :: r => by
    obtain ⟨h, t, e⟩ := splitL_form r
    have ih := splitL_count r
    by_cases hc : c = 47
    · subst hc
      rw [splitL_slash, List.length_cons, ih, List.count_cons_self]
    · rw [splitL_other hc e, List.length_cons, ← List.length_cons (a := h), ← e, ih, List.count_cons_of_ne (by simpa using hc)]

/-! ### the library's pieces -/
theorem splitK_slash : ∀ l : List UInt8, (Lib.splitK [47] 0 (l.count 47) l).map (·.map UInt8.toNat) = splitL (l.map UInt8.toNat)
  | [] => rfl
  | b :: r => by
    have ih := splitK_slash r
    by_cases hb : b = 47
    · subst hb
      have hi : Lib.index ((47 : UInt8) :: r) [47] = 0 := by rw [Lib.index_one, Lib.indexByte, if_pos (by decide)]
      have e47 : List.map UInt8.toNat ((47 : UInt8) :: r) = 47 :: r.map UInt8.toNat := rfl
      rw [List.count_cons_self, Lib.splitK, hi, if_neg (by decide), List.map_cons, e47, splitL_slash, ← ih]
      rfl
    · have hn : b.toNat ≠ 47 := fun h => hb (by apply UInt8.toNat_inj.1; rw [h]; rfl)
      rw [List.count_cons_of_ne (by simpa using hb), List.map_cons]
      have hi : Lib.index (b :: r) [47] = if Lib.indexByte r 47 == -1 then -1 else Lib.indexByte r 47 + 1 := by rw [Lib.index_one, Lib.indexByte, if_neg (by simpa using hb)]
      cases hk : r.count 47 with
      | zero =>
        rw [hk] at ih
        have e : splitL (r.map UInt8.toNat) = [r.map UInt8.toNat] := ih.symm
        rw [splitL_other hn e]
        rfl
      | succ k =>
        rw [hk] at ih
        have hj := Lib.index_one r 47
        rw [Lib.splitK] at ih ⊢
        rcases Lib.index_spec r [47] with ⟨h1, h2⟩ | ⟨i, h1, h2, _⟩
        · exfalso
          rw [hj] at h1
          have h3 := Lib.indexByte_none h1
          have h4 : 0 < r.count 47 := by rw [hk]; exact Nat.succ_pos _
          obtain ⟨j, hj1, hj2⟩ := List.getElem_of_mem (List.count_pos_iff.1 h4)
          exact h3 j (by rw [List.getElem?_eq_getElem hj1, hj2])
        · have e1 : Lib.indexByte r 47 = (i : Int) := by rw [← hj]; exact h1
          rw [h1, if_neg (by simp only [beq_iff_eq]; omega)] at ih
          rw [hi, e1, if_neg (by simp only [beq_iff_eq]; omega), if_neg (by simp only [beq_iff_eq]; omega)]
          have t1 : (((i : Int) + 1).toNat) = i + 1 := by omega
          have t2 : ((i : Int)).toNat = i := by omega
          rw [t2, List.map_cons] at ih
          rw [t1]
          have e := ih.symm
          rw [splitL_other hn e]
          rfl
theorem split_nums (s : ByteArray) : (Lib.splitB ⟨#[47]⟩ 0 (Lib.countB s ⟨#[47]⟩) s).map nums = splitL (nums s) := by
  have h := Lib.splitB_data ⟨#[47]⟩ 0 (Lib.countB s ⟨#[47]⟩) s
  have hc : Lib.countB s ⟨#[47]⟩ = s.data.toList.count 47 := Lib.count_one 47 _
  have h2 := splitK_slash s.data.toList
  rw [← hc] at h2
  show _ = splitL (s.data.toList.map UInt8.toNat)
  rw [← h2]
  have h3 := congrArg (List.map (List.map UInt8.toNat)) h
  rw [List.map_map] at h3
  exact h3
end Go.Proofs.YtjnoapbddifcpaaGreatDoor

namespace Go.Proofs.YtjnoapbddifcpaaGreatDoor
set_option maxRecDepth 100000
open Go.RowKit Go.Deep Go.Joins

def ordT (a b : ByteArray) : Int := ordL (nums a) (nums b)
theorem nums_dropN (s : ByteArray) (k : Nat) (h : k < s.size) : (nums s).drop k = s[k].toNat :: (nums s).drop (k + 1) := by
  have hl : k < (nums s).length := by rw [nums_len]; exact h
  rw [List.drop_eq_getElem_cons hl]
  have := nums_get s k h
  rw [List.getElem?_eq_getElem hl] at this
  rw [Option.some.inj this]
/-! ### the last slash, the parent, the last part -/
/-- Behind the last slash. -/
def spl (s : ByteArray) : Int := Lib.lastIndexByte s 47 + 1
end Go.Proofs.YtjnoapbddifcpaaGreatDoor

namespace Go.Proofs.YtjnoapbddifcpaaGreatDoor
set_option maxRecDepth 100000
open Go.RowKit Go.Deep Go.Joins

/-- The parent's bytes: how many. -/
def parN (s : ByteArray) : Nat := (max (spl s - 1) 0).toNat
def parB (s : ByteArray) : ByteArray := s.extract 0 (parN s)
def baseB (s : ByteArray) : ByteArray := s.extract (spl s).toNat s.size
/-- Under. -/
def undB (a r : ByteArray) : Bool := Lib.hasPrefix a.data.toList r.data.toList && (r.data.toList.isEmpty || (Lib.trimPrefix a.data.toList r.data.toList).isEmpty || Lib.hasPrefix (Lib.trimPrefix a.data.toList r.data.toList) [47])
end Go.Proofs.YtjnoapbddifcpaaGreatDoor

namespace Go.Proofs.YtjnoapbddifcpaaGreatDoor
set_option maxRecDepth 100000
open Go.RowKit Go.Deep Go.Joins

def bad2 : ByteArray := ⟨#[0, 92]⟩
theorem enc_high (r : Nat) (hv : Utf8.valid (r : Int) = true) (h128 : 128 ≤ r) : ∃ m x, (Utf8.encode (r : Int)).size = m ∧ 2 ≤ m ∧ m ≤ 4 ∧ (Utf8.encode (r : Int))[m - 1]? = some x ∧ 128 ≤ x.toNat := by
  obtain ⟨h1, h2, h3⟩ := encode_facts (r : Int) hv (by omega)
  refine ⟨_, (Utf8.encode (r : Int))[(Utf8.encode (r : Int)).size - 1]'(by omega), rfl, h1, h2, ?_, h3 (by omega)⟩
  rw [getElem?_pos]

theorem lib_valid (r : Int) : Utf8.valid r = Lib.validRune r := by
  rw [validRune_eq]
  rfl
set_option maxHeartbeats 8000000 in
set_option maxRecDepth 1000000 in
theorem indexRune_high (r : Nat) (h0 : 128 ≤ r) (h1 : r ≤ 2147483647) (w : World) :
    Calls Tryz.prog 192 #[.string ⟨#[0, 92]⟩, .int .i32 (r : Nat)] w fun e w' => e = .returned (.int .i64 (-1)) ∧ Below w.heap.size w w' := by
  have hd1 : decide ((r : Int) < 128) = false := decide_eq_false (by omega)
  by_cases hr : r = 65533
  · subst hr
    have e0 : ((65533 : Nat) : Int) = 65533 := rfl
    have hn0 : ∀ ty, (Instr.next (.pointer (some ⟨w.heap.size, 0, none⟩)) true ty).run Tryz.prog (w.iter ⟨#[0, 92]⟩ 0) = .ok (.tuple #[.bool true, .int .i64 0, .int .i32 0]) (w.iter ⟨#[0, 92]⟩ 1) := fun ty => run_next_any w ⟨#[0, 92]⟩ 0 ty (by decide)
    have hn1 : ∀ ty, (Instr.next (.pointer (some ⟨w.heap.size, 0, none⟩)) true ty).run Tryz.prog (w.iter ⟨#[0, 92]⟩ 1) = .ok (.tuple #[.bool true, .int .i64 1, .int .i32 92]) (w.iter ⟨#[0, 92]⟩ 2) := fun ty => run_next_any w ⟨#[0, 92]⟩ 1 ty (by decide)
    have hn2 : ∀ ty, (Instr.next (.pointer (some ⟨w.heap.size, 0, none⟩)) true ty).run Tryz.prog (w.iter ⟨#[0, 92]⟩ 2) = _ := fun ty => run_next_end w ⟨#[0, 92]⟩ 2 ty (by decide)
    go_enter Tryz.func192, Tryz.ntmps192
    go_wp2_with fail
    refine wp_loop_rounds 3 ?_
    rw [rounds_succ]
    go_wp2_with fail
    rw [rounds_succ]
    go_wp2_with fail
    rw [rounds_succ]
    go_wp2_with fail
    go_ret
    exact ⟨rfl, below_iter _ _ _⟩
  · have hr2 : ((r : Int) == 65533) = false := by rw [beq_eq_false_iff_ne]; omega
    cases hv : Utf8.valid (r : Int) with
    | false =>
      have hvr : Lib.validRune (r : Int) = false := by rw [← lib_valid]; exact hv
      go_enter Tryz.func192, Tryz.ntmps192
      go_wp2_with fail
      refine (sh_utf8_ValidRune _ _).mono ?_
      rintro e w1 ⟨rfl, rfl⟩
      rw [hvr]
      go_wp2
      go_ret
      exact ⟨rfl, Below.refl _ _⟩
    | true =>
      have hvr : Lib.validRune (r : Int) = true := by rw [← lib_valid]; exact hv
      obtain ⟨m, x, hm, hm2, hm4, hx, hx8⟩ := enc_high r hv h0
      go_enter Tryz.func192, Tryz.ntmps192
      go_wp2_with fail
      refine (sh_utf8_ValidRune _ _).mono ?_
      rintro e w1 ⟨rfl, rfl⟩
      rw [hvr]
      have hcv : ∀ w, (convert 21 9 (.int .i32 (r : Int))).run Tryz.prog w = .ok (.string (Utf8.encode (r : Int))) w := fun w => run_convert_int_string w _ _ _ _ (by kernel_rfl) Tryz.underlying9
      generalize Utf8.encode (r : Int) = rs at *
      have HX := Lib.hid hx
      clear hx
      by_cases h2 : m = 2
      · subst h2
        have hi1 : (2 : Int) - 1 = 1 := rfl
        have hsz1 : 1 < rs.size := by omega
        have hrx : rs[1] = x := by
          have h := HX.out
          rw [show 2 - 1 = 1 from rfl, getElem?_pos rs 1 hsz1] at h
          exact Option.some.inj h
        have hneq : (((((⟨#[0, 92]⟩ : ByteArray)[1]'(by decide)).toNat : Nat) : Int) != (x.toNat : Int)) = true := by
          rw [bne_iff_ne]
          show ((92 : Nat) : Int) ≠ _
          omega
        go_wp2_with fail
        go_step3
        go_wp2_with fail
        refine wp_loop_rounds 1 ?_
        rw [rounds_succ]
        go_wp2_with fail
        go_step3
        go_wp2_with fail
        go_quiet (fail)
        have HD2 : Hid (Below w1.heap.size w1 (w1.drewN nq)) := below_drewN (Below.refl _ _) nq
        have hw2 : IntKind.i64.wrap 2 = 2 := rfl
        generalize w1.drewN nq = w2 at *
        go_wp2_with fail
        go_quiet (first | (go_at_call 202; exact Calls.quiet_of_same (sh_strings_IndexByte _ _ _)))
        have hib : Lib.indexByte ByteArray.empty.data.toList ((x.toNat : Int)).toNat.toUInt8 = -1 := rfl
        rw [hib]
        go_wp2_with fail
        go_simp
        go_ret
        exact ⟨rfl, below_drewN HD2.out _⟩
      · have hm3 : (2 : Int) ≤ (m : Int) - 1 := by omega
        go_wp2_with fail
        go_step3
        go_wp2_with fail
        refine wp_loop_rounds 1 ?_
        rw [rounds_succ]
        go_wp2_with fail
        rw [Exit.noGoto_ret]
        go_ret
        exact ⟨rfl, Below.refl _ _⟩
end Go.Proofs.YtjnoapbddifcpaaGreatDoor
