/-
  The document's fixed codes.
  The document's New, of any lengths; a code's tree.
  Contracts: the next sign of a code; blocks that stay; room, and one byte.
  Contracts: a stream's room, one byte of it.
  Contracts: the bytes of a length's sign.
  Contracts: a block's signs; a stored block.
  Contracts: a stored block.
  Contracts: a stored block, whole.
  Contracts: what a sign behind a row of lengths is.
-/
import Derived.Test.YtopjmagbcnglhaaPkBB
import Derived.Test.YtopjmagbcnglhaaPkAG
import Derived.Test.YtopjmagbcnglhaaPkAJ
import Derived.Test.YtopjmagbcnglhaaBitsW
import Derived.Test.YtopjmagbcnglhaaPkAD
import Derived.Deep.RegionHeld3
import Derived.Laws.BitsAllLaws

namespace Go.Proofs.Ytopjmagbcnglhaa
set_option maxRecDepth 100000
set_option linter.unusedVariables false
set_option linter.unusedSimpArgs false
open Go.RowKit Go.Deep Go.Joins
theorem lens_of_own {w : World} {B n c : Nat} {A : Option Addr} {ls : Nat → Nat} (h : w.ownsRow B 5 1 (.slice A n c) n (cells8 ((List.range n).map ls))) (h256 : ∀ i, ls i < 256) : Lens w A n ls := fun h0 => by
  obtain ⟨g, cap, e, _, hl, hc⟩ := own_form8 h h0
  injection e with e _ _
  refine ⟨g, 0, e, hl, fun i hi => ?_⟩
  rw [Nat.zero_add, hc i _ (cells8_get _ i (by simpa using hi))]
  rw [List.getD_eq_getElem?_getD, List.getElem?_map, List.getElem?_range hi]
  exact ⟨rfl, h256 i⟩
theorem range_more (ls : Nat → Nat) (i : Nat) : cells8 ((List.range (i + 1)).map ls) = cells8 ((List.range i).map ls) ++ [.int .u8 (ls i : Nat)] := by
  rw [List.range_succ, List.map_append, cells8_app]
  rfl
theorem own_geU {w : World} {B n : Nat} {v : Value} {xs : List Value} (h : w.ownsRow B 5 1 v n xs) (k : Nat) (hk : v.ownBlock = some k) : B ≤ k := by
  rcases h.2 with ⟨rfl, _⟩ | ⟨g, cap, cur, rfl, hb, _⟩
  · cases hk
  · have : g = k := by simpa [Value.ownBlock] using hk
    omega
set_option maxHeartbeats 8000000 in
theorem rfixed_any (w : World) :
    Calls Try.prog 26 #[] w fun e w' => ∃ A1 c1 A2 c2, e = .returned (.tuple #[.slice A1 288 c1, .slice A2 32 c2]) ∧ Lens w' A1 288 fixS.ls ∧ Lens w' A2 32 fixD.ls ∧ Below w.heap.size w w' := by
  obtain ⟨i0, hi, iz0, iz1, iz2⟩ := partsR (P := Try.prog) (T := 5) (z := .int .u8 0) (s := 1) (b := 1) (by kernel_rfl)
  have HF : Hid (∀ i, fixS.ls i = if i < 144 then 8 else if i < 256 then 9 else if i < 280 then 7 else if i < 288 then 8 else 0) := fun i => rfl
  have HFD : Hid (∀ i, fixD.ls i = if i < 32 then 5 else 0) := fun i => rfl
  go_enter Try.func26, Try.ntmps26
  go_wp2_with fail
  go_loopw [2, 4, 5] (fun v2 v4 _ wr => ∃ i : Nat, v4 = .int .i64 (i : Nat) ∧ i ≤ 288 ∧ Hid (wr.ownsRow w.heap.size 5 1 v2 i (cells8 ((List.range i).map fixS.ls))) ∧ Hid (Below w.heap.size w wr)) (fun _ v _ _ => 288 - (intOf v).toNat)
  case atStart => exact ⟨0, rfl, Nat.zero_le _, World.ownsRow_nil _ _ _ _, Below.refl _ _⟩
  case round =>
    obtain ⟨i, rfl, hi288, HO, HB⟩ := hrel
    obtain ⟨A, cc, rfl⟩ := row8_slice HO.out
    by_cases hlt : i < 288
    · have hd : decide ((i : Int) < 288) = true := decide_eq_true (by omega)
      obtain ⟨y, hy, hy2⟩ : ∃ y : Nat, y = fixS.ls i ∧ y < 256 := ⟨_, rfl, by rw [HF.out]; split <;> (try split) <;> (try split) <;> (try split) <;> omega⟩
      have HY := Lib.hid hy
      have HO1 := Lib.hid (range_more fixS.ls i)
      rw [← hy] at HO1
      clear hy
      have hsz := HB.out.size
      rcases (show i < 144 ∨ (144 ≤ i ∧ i < 256) ∨ (256 ≤ i ∧ i < 280) ∨ 280 ≤ i by omega) with h1 | ⟨h1, h2⟩ | ⟨h1, h2⟩ | h1
      · obtain rfl : y = 8 := by rw [HY.out, HF.out]; repeat (first | rw [if_pos (by omega)] | rw [if_neg (by omega)])
        have d1 : decide ((144 : Int) ≤ (i : Int)) = false := decide_eq_false (by omega)
        have d2 : decide ((256 : Int) ≤ (i : Int)) = false := decide_eq_false (by omega)
        go_wp2_with (at_builtin; (refine wpList_append_own_at _ rfl (.tmp 23) (.tmp 25) _ rfl w.heap.size 5 i0 (.int .u8 0) 1 1 Try.underlying29 hi iz0 iz1 iz2 rfl (by decide) _ i (cells8 ((List.range i).map fixS.ls)) rfl (HO.out.alloc _) ⟨wr.heap.size, 0, none⟩ 1 1 [.int .u8 8] rfl rfl ?c1 ?c2 ?c3 ?c4 ?c5 ?_))
        case c1 => exact cell_one_new _ _ _
        case c2 => intro u hu; simp at hu; subst hu; rfl
        case c3 => unfold maxLen; omega
        case c4 => omega
        case c5 => simp; omega
        intro v9 w9 hown hgrow _ hat
        have HO9 : Hid (w9.ownsRow w.heap.size 5 1 v9 (i + 1) (cells8 ((List.range (i + 1)).map fixS.ls))) := by show World.ownsRow _ _ _ _ _ _ _; rw [HO1.out]; exact hown
        have HB9 : Hid (Below w.heap.size w w9) := (HB.out.alloc hsz _).grown hgrow (by simp; omega) (fun k hk => own_geU HO.out k hk)
        clear hown hgrow hat
        go_wp2_with fail
        go_roundw
        case rel => exact ⟨i + 1, by go_num, by omega, HO9, HB9⟩
        case measure => simp [intOf]; omega
      · obtain rfl : y = 9 := by rw [HY.out, HF.out]; repeat (first | rw [if_pos (by omega)] | rw [if_neg (by omega)])
        have d1 : decide ((144 : Int) ≤ (i : Int)) = true := decide_eq_true (by omega)
        have d1b : decide ((i : Int) ≤ 255) = true := decide_eq_true (by omega)
        have d2 : decide ((256 : Int) ≤ (i : Int)) = false := decide_eq_false (by omega)
        go_wp2_with (at_builtin; (refine wpList_append_own_at _ rfl (.tmp 23) (.tmp 25) _ rfl w.heap.size 5 i0 (.int .u8 0) 1 1 Try.underlying29 hi iz0 iz1 iz2 rfl (by decide) _ i (cells8 ((List.range i).map fixS.ls)) rfl (HO.out.alloc _) ⟨wr.heap.size, 0, none⟩ 1 1 [.int .u8 9] rfl rfl ?c1 ?c2 ?c3 ?c4 ?c5 ?_))
        case c1 => exact cell_one_new _ _ _
        case c2 => intro u hu; simp at hu; subst hu; rfl
        case c3 => unfold maxLen; omega
        case c4 => omega
        case c5 => simp; omega
        intro v9 w9 hown hgrow _ hat
        have HO9 : Hid (w9.ownsRow w.heap.size 5 1 v9 (i + 1) (cells8 ((List.range (i + 1)).map fixS.ls))) := by show World.ownsRow _ _ _ _ _ _ _; rw [HO1.out]; exact hown
        have HB9 : Hid (Below w.heap.size w w9) := (HB.out.alloc hsz _).grown hgrow (by simp; omega) (fun k hk => own_geU HO.out k hk)
        clear hown hgrow hat
        go_wp2_with fail
        go_roundw
        case rel => exact ⟨i + 1, by go_num, by omega, HO9, HB9⟩
        case measure => simp [intOf]; omega
      · obtain rfl : y = 7 := by rw [HY.out, HF.out]; repeat (first | rw [if_pos (by omega)] | rw [if_neg (by omega)])
        have d1 : decide ((144 : Int) ≤ (i : Int)) = true := decide_eq_true (by omega)
        have d1b : decide ((i : Int) ≤ 255) = false := decide_eq_false (by omega)
        have d2 : decide ((256 : Int) ≤ (i : Int)) = true := decide_eq_true (by omega)
        have d2b : decide ((i : Int) ≤ 279) = true := decide_eq_true (by omega)
        go_wp2_with (at_builtin; (refine wpList_append_own_at _ rfl (.tmp 23) (.tmp 25) _ rfl w.heap.size 5 i0 (.int .u8 0) 1 1 Try.underlying29 hi iz0 iz1 iz2 rfl (by decide) _ i (cells8 ((List.range i).map fixS.ls)) rfl (HO.out.alloc _) ⟨wr.heap.size, 0, none⟩ 1 1 [.int .u8 7] rfl rfl ?c1 ?c2 ?c3 ?c4 ?c5 ?_))
        case c1 => exact cell_one_new _ _ _
        case c2 => intro u hu; simp at hu; subst hu; rfl
        case c3 => unfold maxLen; omega
        case c4 => omega
        case c5 => simp; omega
        intro v9 w9 hown hgrow _ hat
        have HO9 : Hid (w9.ownsRow w.heap.size 5 1 v9 (i + 1) (cells8 ((List.range (i + 1)).map fixS.ls))) := by show World.ownsRow _ _ _ _ _ _ _; rw [HO1.out]; exact hown
        have HB9 : Hid (Below w.heap.size w w9) := (HB.out.alloc hsz _).grown hgrow (by simp; omega) (fun k hk => own_geU HO.out k hk)
        clear hown hgrow hat
        go_wp2_with fail
        go_roundw
        case rel => exact ⟨i + 1, by go_num, by omega, HO9, HB9⟩
        case measure => simp [intOf]; omega
      · obtain rfl : y = 8 := by rw [HY.out, HF.out]; repeat (first | rw [if_pos (by omega)] | rw [if_neg (by omega)])
        have d1 : decide ((144 : Int) ≤ (i : Int)) = true := decide_eq_true (by omega)
        have d1b : decide ((i : Int) ≤ 255) = false := decide_eq_false (by omega)
        have d2 : decide ((256 : Int) ≤ (i : Int)) = true := decide_eq_true (by omega)
        have d2b : decide ((i : Int) ≤ 279) = false := decide_eq_false (by omega)
        go_wp2_with (at_builtin; (refine wpList_append_own_at _ rfl (.tmp 23) (.tmp 25) _ rfl w.heap.size 5 i0 (.int .u8 0) 1 1 Try.underlying29 hi iz0 iz1 iz2 rfl (by decide) _ i (cells8 ((List.range i).map fixS.ls)) rfl (HO.out.alloc _) ⟨wr.heap.size, 0, none⟩ 1 1 [.int .u8 8] rfl rfl ?c1 ?c2 ?c3 ?c4 ?c5 ?_))
        case c1 => exact cell_one_new _ _ _
        case c2 => intro u hu; simp at hu; subst hu; rfl
        case c3 => unfold maxLen; omega
        case c4 => omega
        case c5 => simp; omega
        intro v9 w9 hown hgrow _ hat
        have HO9 : Hid (w9.ownsRow w.heap.size 5 1 v9 (i + 1) (cells8 ((List.range (i + 1)).map fixS.ls))) := by show World.ownsRow _ _ _ _ _ _ _; rw [HO1.out]; exact hown
        have HB9 : Hid (Below w.heap.size w w9) := (HB.out.alloc hsz _).grown hgrow (by simp; omega) (fun k hk => own_geU HO.out k hk)
        clear hown hgrow hat
        go_wp2_with fail
        go_roundw
        case rel => exact ⟨i + 1, by go_num, by omega, HO9, HB9⟩
        case measure => simp [intOf]; omega
    · obtain rfl : i = 288 := by omega
      obtain ⟨wo, hwo⟩ : ∃ x, x = wr := ⟨_, rfl⟩
      subst hwo
      have HL1 : Hid (Lens wo A 288 fixS.ls) := lens_of_own HO.out (fun i => by rw [HF.out]; split <;> (try split) <;> (try split) <;> (try split) <;> omega)
      go_wp2_with fail
      go_loopw [3, 6] (fun v3 v6 wq => ∃ j : Nat, v6 = .int .i64 (j : Nat) ∧ j ≤ 32 ∧ Hid (wq.ownsRow wo.heap.size 5 1 v3 j (cells8 ((List.range j).map fixD.ls))) ∧ Hid (Below wo.heap.size wo wq)) (fun _ v _ => 32 - (intOf v).toNat)
      case atStart => exact ⟨0, rfl, Nat.zero_le _, World.ownsRow_nil _ _ _ _, Below.refl _ _⟩
      case round =>
        obtain ⟨j, rfl, hj32, HP, HQ⟩ := hrel
        obtain ⟨A2, c2, rfl⟩ := row8_slice HP.out
        by_cases hlt : j < 32
        · have hd : decide ((j : Int) < 32) = true := decide_eq_true (by omega)
          have HO1 := Lib.hid (range_more fixD.ls j)
          rw [show fixD.ls j = 5 by rw [HFD.out, if_pos hlt]] at HO1
          have hsz := HQ.out.size
          go_wp2_with (at_builtin; (refine wpList_append_own_at _ rfl (.tmp 31) (.tmp 32) _ rfl wo.heap.size 5 i0 (.int .u8 0) 1 1 Try.underlying29 hi iz0 iz1 iz2 rfl (by decide) _ j (cells8 ((List.range j).map fixD.ls)) rfl (HP.out.alloc _) ⟨wr.heap.size, 0, none⟩ 1 1 [.int .u8 5] rfl rfl ?c1 ?c2 ?c3 ?c4 ?c5 ?_))
          case c1 => exact cell_one_new _ _ _
          case c2 => intro u hu; simp at hu; subst hu; rfl
          case c3 => unfold maxLen; omega
          case c4 => omega
          case c5 => simp; omega
          intro v9 w9 hown hgrow _ hat
          have HO9 : Hid (w9.ownsRow wo.heap.size 5 1 v9 (j + 1) (cells8 ((List.range (j + 1)).map fixD.ls))) := by show World.ownsRow _ _ _ _ _ _ _; rw [HO1.out]; exact hown
          have HB9 : Hid (Below wo.heap.size wo w9) := (HQ.out.alloc hsz _).grown hgrow (by simp; omega) (fun k hk => own_geU HP.out k hk)
          clear hown hgrow hat
          go_wp2_with fail
          go_roundw
          case rel => exact ⟨_, _, _, _, _, _, _, _, _, ⟨j + 1, by go_num, by omega, HO9, HB9⟩, rfl⟩
          case measure => simp [intOf]; omega
        · obtain rfl : j = 32 := by omega
          have HL2 := Lib.hid (lens_of_own HP.out (fun i => by rw [HFD.out]; split <;> omega))
          go_wp2_with fail
          go_ret2
          exact ⟨A, cc, A2, c2, rfl, HL1.out.below (Nat.le_refl _) HQ.out, HL2.out, HB.out.trans (HQ.out.mono HB.out.size)⟩
end Go.Proofs.Ytopjmagbcnglhaa

namespace Go.Proofs.Ytopjmagbcnglhaa
set_option maxRecDepth 100000
set_option linter.unusedVariables false
set_option linter.unusedSimpArgs false
open Go.RowKit Go.Deep Go.Joins
theorem rnew_may (A : Option Addr) (n cap : Nat) (op : Bool) (ls : Nat → Nat) (hn : n ≤ 4096) (w : World) (hL : Lens w A n ls) (h15 : ∀ i, i < n → ls i ≤ 15) :
    Calls Try.prog 28 #[.slice A n cap, .bool op] w fun e w' => Below w.heap.size w w' ∧
      ((may ⟨n, ls⟩ op ∧ e = .returned (.tuple #[.slice (some ⟨w.heap.size, 0, none⟩) n n, .int .i64 0]) ∧ IsRowS w' w.heap.size n (fun i => tx (wordN ls n i) (ls i))) ∨
       (¬ may ⟨n, ls⟩ op ∧ e = .returned (.tuple #[.slice none 0 0, .int .i64 10]))) := by
  rcases Nat.lt_trichotomy (fillN ls n) 32768 with hf | hf | hf
  · cases op with
    | false =>
      refine (rnew_part A n cap ls hn w hL h15 hf).mono ?_
      rintro e w' ⟨rfl, hb⟩
      refine ⟨hb, .inr ⟨fun h => ?_, rfl⟩⟩
      rcases h.2 with h2 | ⟨h2, _⟩
      · have h2' : fillN ls n = 32768 := h2
        omega
      · cases h2
    | true =>
      by_cases hs : sumN ls n ≤ 1
      · refine (rnew_open A n cap ls hn w hL h15 hf _ _ (.inl ⟨hs, rfl, rfl⟩)).mono ?_
        rintro e w' ⟨rfl, hr, hb⟩
        exact ⟨hb, .inl ⟨⟨Nat.le_of_lt hf, .inr ⟨rfl, hs⟩⟩, rfl, hr.out hs⟩⟩
      · refine (rnew_open A n cap ls hn w hL h15 hf _ _ (.inr ⟨hs, rfl, rfl⟩)).mono ?_
        rintro e w' ⟨rfl, hr, hb⟩
        refine ⟨hb, .inr ⟨fun h => ?_, rfl⟩⟩
        rcases h.2 with h2 | ⟨_, h2⟩
        · have h2' : fillN ls n = 32768 := h2
          omega
        · exact hs h2
  · refine (rnew_whole A n cap op ls hn w hL h15 hf).mono ?_
    rintro e w' ⟨rfl, hr, hb⟩
    exact ⟨hb, .inl ⟨⟨Nat.le_of_eq hf, .inl hf⟩, rfl, hr⟩⟩
  · refine (rnew_err A n cap op 10 (by decide) w (rwords_over A n cap ls hn w hL h15 hf)).mono ?_
    rintro e w' ⟨rfl, rfl⟩
    exact ⟨Below.refl _ _, .inr ⟨fun h => by have h1 : fillN ls n ≤ 32768 := h.1; omega, rfl⟩⟩
/-- A tree of words that may be. -/
theorem rmake_cd (gW n c0 : Nat) (ls : Nat → Nat) (op : Bool) (hn : n ≤ 4096) (h15 : ∀ i, i < n → ls i ≤ 15) (hm : may ⟨n, ls⟩ op) (w : World) (hr : IsRowS w gW n (fun i => tx (wordN ls n i) (ls i))) :
    Calls Try.prog 30 #[.slice (some ⟨gW, 0, none⟩) n c0] w fun e w' => ∃ X, e = .returned (.agg #[X]) ∧ X.oneCell' = true ∧ CdT w' X ⟨n, ls⟩ ∧ Below w.heap.size w w' := by
  have hf : fillN ls n ≤ 32768 := hm.1
  refine (rmake_any gW n c0 ls (wordN ls n) hn h15 (fun i hi => word_lt0 ls n h15 hf i hi) (pfree ls n) w hr).mono ?_
  rintro e w' ⟨T, m, A, c, rfl, hT, hmm, hA, hb⟩
  refine ⟨_, rfl, rfl, ⟨T, m, A, c, rfl, hT, by omega, hA, hn, h15, ⟨hm.1, ?_⟩⟩, hb⟩
  rcases hm.2 with h | ⟨_, h⟩
  · exact .inl h
  · exact .inr ⟨rfl, h⟩
end Go.Proofs.Ytopjmagbcnglhaa

namespace Go.Proofs.Ytopjmagbcnglhaa
set_option maxRecDepth 100000
open Go.RowKit Go.Deep Go.Joins

/-- A code's blocks. -/
def CdC (w : World) (g : Nat) (c : Cod) : Prop := (∃ B bm, Cd0 w B g bm c.ls c.W c.n c.mx) ∧ c.mx ≤ 15 ∧ c.n ≤ 4096 ∧ ∀ i, i < c.n → c.ls i < 256 ∧ c.W i < 4294967296
theorem rev_many (X many p : Nat) (hp : p ≤ many) : rev (X % 2 ^ many) p = rev X p := rev_agree p (Nat.mod_mod_of_dvd X (Nat.pow_dvd_pow 2 hp))
theorem sign_is (c : Cod) (s : ByteArray) (lim a : Nat) (o : List Nat) (x : Int) (e l : Nat) (hm15 : c.mx ≤ 15) (ha : a ≤ 8 * s.size) (h : SignIs c.ls c.W c.n c.mx (bitsAt (num s) a (peekM s a 0 15)) (peekM s a 0 15) x e l) :
    (∃ i, x = (i : Nat) ∧ e = 0 ∧ i < c.n ∧ a + l ≤ 8 * s.size ∧ signM c (srcOf s lim) a o = .ok (i, a + l, o)) ∨ (x = -1 ∧ l = 0 ∧ (e = 3 ∨ e = 10) ∧ signM c (srcOf s lim) a o = .error e) := by
  have hmany : peekM s a 0 15 = min 15 (8 * s.size - a) := by
    unfold peekM
    rw [if_pos (by omega)]
    rfl
  rw [hmany] at h
  have hv : ∀ p, p ≤ min 15 (8 * s.size - a) → rev (bitsAt (num s) a (min 15 (8 * s.size - a))) p = rev (num s / 2 ^ a) p := fun p hp => rev_many _ _ p hp
  have hsm : ∀ r, srch c (num s / 2 ^ a) (min c.mx (8 * s.size - a)) 1 = r → signM c (srcOf s lim) a o = (match r with | some (i, l) => .ok (i, a + l, o) | none => if 8 * s.size - a < c.mx then .error 3 else .error 10) := fun r hr => by
    subst hr
    rfl
  rcases h with ⟨i, hx, he, h1, h2, h3, h4, h5⟩ | ⟨hx, he, hl, h1, h2⟩ | ⟨hx, he, hl, h1, h2⟩
  · refine .inl ⟨i, hx, he, (find_is _ _ _ _ _ _ h4).1, by omega, ?_⟩
    rw [hv l h3] at h4
    refine hsm _ (srch_some c (num s / 2 ^ a) i l _ 1 h1 (by omega) (fun p h6 h7 => ?_) h4)
    have := h5 p h6 (by omega)
    rwa [hv p (by omega)] at this
  · refine .inr ⟨hx, hl, .inl he, (hsm none (srch_none c _ _ 1 fun p h6 h7 => ?_)).trans ?_⟩
    · have := h2 p h6 (by omega)
      rwa [hv p (by omega)] at this
    · show (if 8 * s.size - a < c.mx then _ else _) = _
      rw [if_pos (by omega), he]
  · refine .inr ⟨hx, hl, .inr he, (hsm none (srch_none c _ _ 1 fun p h6 h7 => ?_)).trans ?_⟩
    · have := h2 p h6 (by omega)
      rwa [hv p (by omega)] at this
    · show (if 8 * s.size - a < c.mx then _ else _) = _
      rw [if_neg (by omega), he]

/-- What Sign answers with. -/
def sgOk (c : Cod) (i : Nat) (r : Ending) : Prop := r = .returned (.tuple #[.int .i64 (i : Nat), .int .i64 0]) ∧ i < c.n
def sgBad (e : Nat) (r : Ending) : Prop := r = .returned (.tuple #[.int .i64 (-1), .int .i64 (e : Nat)])
/-! Blocks that stay. -/
end Go.Proofs.Ytopjmagbcnglhaa

namespace Go.Proofs.Ytopjmagbcnglhaa
set_option maxRecDepth 100000
open Go.RowKit Go.Deep Go.Joins

def UpS (g gr : Nat) (r r' : Option Nat) (w w' : World) : Prop := Kept (fun i => i = g ∨ i = gr ∨ some i = r) w w' ∧ (r' = r ∨ ∃ j, r' = some j ∧ w.heap.size ≤ j)
theorem UpS.refl (g gr : Nat) (r : Option Nat) (w : World) : UpS g gr r r w w := ⟨Kept.refl _ _, .inl rfl⟩
theorem UpS.then {g gr : Nat} {r r1 r2 : Option Nat} {w w1 w2 : World} (h : UpS g gr r r1 w w1) (k : UpS g gr r1 r2 w1 w2) : UpS g gr r r2 w w2 := by
  refine ⟨h.1.then k.1 fun i hi e => ?_, ?_⟩
  · rcases e with e | e | e
    · exact .inl e
    · exact .inr (.inl e)
    · rcases h.2 with h2 | ⟨j, h2, h3⟩
      · exact .inr (.inr (e.trans h2))
      · rw [h2] at e
        injection e with e
        omega
  · rcases k.2 with k2 | ⟨j, k2, k3⟩
    · rcases h.2 with h2 | ⟨j, h2, h3⟩
      · exact .inl (k2.trans h2)
      · exact .inr ⟨j, k2.trans h2, h3⟩
    · exact .inr ⟨j, k2, Nat.le_trans h.1.size k3⟩
theorem ups_read {g gr : Nat} {r : Option Nat} {w w' : World} (h : w.grownBy w' (some gr)) : UpS g gr r r w w' := ⟨(kept_grown h).more fun i e => by injection e with e; exact .inr (.inl e), .inl rfl⟩
theorem ups_drewN {g gr : Nat} {r : Option Nat} (w : World) (d : Nat) : UpS g gr r r w (w.drewN d) := ⟨kept_drewN _ w d, .inl rfl⟩
theorem ups_below {g gr : Nat} {r : Option Nat} {w w' : World} (h : Below w.heap.size w w') : UpS g gr r r w w' := ⟨kept_below h, .inl rfl⟩
section
variable {w w' : World} {B g gr a lim : Nat} {r r' : Option Nat} {s : ByteArray} {o : List Nat}
end
theorem bind_ok {α β : Type} {m : Mm α} {f : α → Mm β} {s : Src} {a a1 : Nat} {o o1 : List Nat} {x : α} (h : m s a o = .ok (x, a1, o1)) : bindM m f s a o = f x s a1 o1 := by unfold bindM; rw [h]
theorem bind_err {α β : Type} {m : Mm α} {f : α → Mm β} {s : Src} {a : Nat} {o : List Nat} {e : Nat} (h : m s a o = .error e) : bindM m f s a o = .error e := by unfold bindM; rw [h]

def okE (r : Ending) : Prop := r = .returned (.int .i64 0)
def badE (k : Nat) (r : Ending) : Prop := r = .returned (.int .i64 (k : Nat))
end Go.Proofs.Ytopjmagbcnglhaa

namespace Go.Proofs.Ytopjmagbcnglhaa
set_option maxRecDepth 100000
open Go.RowKit Go.Deep Go.Joins

theorem number_o {p : Nat × Nat} {s : Src} {a a1 x : Nat} {o o1 : List Nat} (h : numberM p s a o = .ok (x, a1, o1)) : o1 = o ∧ p.1 ≠ 0 ∧ x = p.1 + bitsAt s.N a p.2 := by
  unfold numberM at h
  split at h
  · cases h
  · rename_i h0
    unfold bindM readM1 retM at h
    split at h
    · cases h
    · rename_i y a2 o2 h2
      split at h2
      · injection h2 with h2
        cases h2
        injection h with h
        cases h
        exact ⟨rfl, h0, rfl⟩
      · cases h2
theorem number_same {p : Nat × Nat} {s : Src} {a a1 x : Nat} {o o1 : List Nat} (h : numberM p s a o = .ok (x, a1, o1)) : o1 = o := (number_o h).1
theorem sign_same {c : Cod} {s : Src} {a a1 x : Nat} {o o1 : List Nat} (h : signM c s a o = .ok (x, a1, o1)) : o1 = o := by
  obtain ⟨_, _, h, _⟩ := sign_ok _ _ _ _ _ _ _ h
  exact h
theorem number_le {p : Nat × Nat} {s : Src} {a a1 x : Nat} {o o1 : List Nat} (h : numberM p s a o = .ok (x, a1, o1)) : 0 < x ∧ x < p.1 + 2 ^ p.2 := by
  obtain ⟨_, h0, rfl⟩ := number_o h
  have := bitsAt_lt s.N a p.2
  exact ⟨by omega, by omega⟩
theorem bytes_get {o : List Nat} (ho : ∀ x ∈ o, x < 256) {i : Nat} (h : i < o.length) : o.getD i 0 < 256 := by
  rw [List.getD_eq_getElem?_getD, List.getElem?_eq_getElem h]
  exact ho _ (List.getElem_mem h)

end Go.Proofs.Ytopjmagbcnglhaa

namespace Go.Proofs.Ytopjmagbcnglhaa
set_option maxRecDepth 100000
open Go.RowKit Go.Deep Go.Joins

/-- The struct of a block's two codes. -/
def CsV (gs gd : Nat) : Value := .agg #[.pointer (some ⟨gs, 0, none⟩), .pointer (some ⟨gd, 0, none⟩)]
theorem step_again (c d : Cod) (s : Src) (a x a1 : Nat) (o o1 : List Nat) (h : signM c s a o = .ok (x, a1, o1)) (hx : 256 < x) : stepM c d () s a o = bindM (againM x d) (fun _ => retM (.inl ())) s a1 o1 := by
  unfold stepM
  rw [bind_ok h]
  show (if x = 256 then _ else _ : Mm _) s a1 o1 = _
  rw [if_neg (by omega), if_neg (by omega)]
theorem step_byte (c d : Cod) (s : Src) (a x a1 : Nat) (o o1 : List Nat) (h : signM c s a o = .ok (x, a1, o1)) (hx : x < 256) : stepM c d () s a o = bindM (putM x) (fun _ => retM (.inl ())) s a1 o1 := by
  unfold stepM
  rw [bind_ok h]
  show (if x = 256 then _ else _ : Mm _) s a1 o1 = _
  rw [if_neg (by omega), if_pos hx]
theorem step_end (c d : Cod) (s : Src) (a a1 : Nat) (o o1 : List Nat) (h : signM c s a o = .ok (256, a1, o1)) : stepM c d () s a o = .ok (.inr (), a1, o1) := by
  unfold stepM
  rw [bind_ok h]
  rfl
theorem step_bad (c d : Cod) (s : Src) (a e : Nat) (o : List Nat) (h : signM c s a o = .error e) : stepM c d () s a o = .error e := by
  unfold stepM
  rw [bind_err h]
theorem stable_again (x : Nat) (d : Cod) : Stable (againM x d) := stable_bind (stable_number _) fun _ => stable_bind (stable_sign _) fun _ => stable_bind (stable_number _) fun _ => stable_copy _ _
/-- How far a reader has come. -/
def rdAt (gr : Nat) (w : World) : Nat := match w.cell? ⟨gr, 1, none⟩ with
  | some (.int _ z) => z.toNat
  | _ => 0
end Go.Proofs.Ytopjmagbcnglhaa

namespace Go.Proofs.Ytopjmagbcnglhaa
set_option maxRecDepth 100000
open Go.RowKit Go.Deep Go.Joins

section
variable {P : Program} (w : World)
/-- A string's bytes put behind a row of the call's own, in a region. -/
theorem step_append_str {ops : Array Oper} {o : Oper} {a : Act} {K : Act → World → Prop} {Q : Exit → Act → World → Prop} {E : Prop} (hgd : o.guard = none) (sl x : Operand) (t u : TypeId)
    (ho : o.op = .call { callee := .builtin .append, args := #[sl, x], argTypes := #[t, u] })
    (base : Nat) (e : TypeId) (i : TypeInfo) (ht : P.underlying t = some (.slice e)) (hu : P.underlying u = some .string) (hi : P.info? e = some i) (hz : i.zero = some (.int .u8 0))
    (hsize : i.size = 1) (hby : i.bytes = 1) (v : Value) (n : Nat) (xs : List Value) (hs : a.eval sl = v) (hown : w.ownsRow base e 1 v n xs) (s : ByteArray) (hx : a.eval x = .string s)
    (h63 : n + s.size ≤ maxLen) (hbytes : n + s.size ≤ 140737488355328) (hbase : base ≤ w.heap.size)
    (h : ∀ A c w', w'.ownsRow base e 1 (.slice A (n + s.size) c) (n + s.size) (xs ++ Lib.strCells s) → w.grownBy w' v.ownBlock → ((Value.slice A (n + s.size) c).ownBlock = v.ownBlock ∨ (Value.slice A (n + s.size) c).ownBlock = some w.heap.size) → K (a.put o.dst (.slice A (n + s.size) c)) w') :
    if Region.wanted o (yielded ops a.tmps) = true then Oper.wp P o a w K Q else E := by
  have hw : Region.wanted o (yielded ops a.tmps) = true := by simp [Region.wanted, hgd]
  rw [if_pos hw]
  obtain ⟨v', w', hr, h2, h3, h4⟩ := run_append_str_at (P := P) w base t u o.type e i ht hu hi hz hsize hby v n xs hown s h63 hbytes hbase
  obtain ⟨A, c, rfl⟩ := row_slice h2
  simp only [Oper.wp, execOp, ho, resolve, invoke, builtin, Sem.run_bind, Sem.run_pure, Result.andThen_ok, List.map_toArray, List.map_cons, List.map_nil, hs, hx, hr]
  exact h A c w' h2 h3 h4
end
theorem byte_bits (s : ByteArray) (k : Nat) (h : k < s.size) : bitsAt (num s) (8 * k) 8 = s[k].toNat := by
  have hg := numL_get _ (nums_lt s) k _ (nums_get s k h)
  unfold bitsAt
  rw [show (2 : Nat) ^ (8 * k) = 256 ^ k from (p256 k).symm]
  exact hg
theorem nums_extract (s : ByteArray) (f n : Nat) (h : f + n ≤ s.size) : nums (s.extract f (f + n)) = bytesAt (num s) (8 * f) n := by
  induction n with
  | zero =>
    rw [bytesAt]
    unfold nums
    rw [ByteArray.data_extract, Array.toList_extract, List.extract_eq_take_drop]
    simp
  | succ n ih =>
    rw [bytesAt, ← ih (by omega), show 8 * f + 8 * n = 8 * (f + n) by omega, byte_bits s (f + n) (by omega)]
    unfold nums
    rw [ByteArray.data_extract, ByteArray.data_extract, Array.toList_extract, Array.toList_extract, List.extract_eq_take_drop, List.extract_eq_take_drop, show f + (n + 1) - f = n + 1 by omega, show f + n - f = n by omega]
    rw [List.take_succ_eq_append_getElem (by simp; omega), List.map_append]
    simp
    rfl
theorem ups_store {w w2 : World} {g gr : Nat} {r : Option Nat} {v v2 : Value} (hv : v.ownBlock = r) (hg : w.grownBy w2 v.ownBlock) (hat : v2.ownBlock = v.ownBlock ∨ v2.ownBlock = some w.heap.size) : UpS g gr r v2.ownBlock w (w2.setCell ⟨g, 1, none⟩ v2) := by
  refine ⟨((kept_grown hg).more (S' := fun i => i = g ∨ i = gr ∨ some i = r) (fun i e => .inr (.inr (by rw [e, hv])))).then (kept_set w2 g 1 _) (fun i _ e => .inl e), ?_⟩
  · rcases hat with e | e
    · exact .inl (e.trans hv)
    · exact .inr ⟨_, e, Nat.le_refl _⟩
end Go.Proofs.Ytopjmagbcnglhaa

namespace Go.Proofs.Ytopjmagbcnglhaa
set_option maxRecDepth 100000
open Go.RowKit Go.Deep Go.Joins

theorem bytesAt_lt (N a : Nat) : ∀ n, ∀ x ∈ bytesAt N a n, x < 256
  | 0, x, h => by cases h
  | n + 1, x, h => by
    rw [bytesAt, List.mem_append] at h
    rcases h with h | h
    · exact bytesAt_lt N a n x h
    · simp at h
      subst h
      exact bitsAt_lt N _ 8
theorem stored_eq (src : Src) (a : Nat) (o : List Nat) : storedM src a o = bindM (readM1 16) (fun n => bindM (readM1 16) fun t => if n = 65535 - t then storeM n else failM 13) src ((a + 7) / 8 * 8) o := rfl
theorem neg16 (v : Nat) (h : v < 65536) : 65535 ^^^ v = 65535 - v := by
  have e : (BitVec.allOnes 16 ^^^ BitVec.ofNat 16 v).toNat = 65535 ^^^ v := by
    rw [BitVec.toNat_xor, BitVec.toNat_ofNat, Nat.mod_eq_of_lt (by omega)]
    rfl
  rw [← e, BitVec.allOnes_xor, BitVec.toNat_not, BitVec.toNat_ofNat, Nat.mod_eq_of_lt (by omega)]
end Go.Proofs.Ytopjmagbcnglhaa

namespace Go.Proofs.Ytopjmagbcnglhaa
set_option maxRecDepth 100000
open Go.RowKit Go.Deep Go.Joins

def rnOk (p : Nat × Nat) (r : Ending) : Prop := r = .returned (.tuple #[.int .u8 (p.1 : Nat), .int .i64 (p.2 : Nat), .int .i64 0])
def rnBad (e : Nat) (r : Ending) : Prop := ∃ y z : Int, r = .returned (.tuple #[.int .u8 y, .int .i64 z, .int .i64 (e : Nat)])
theorem ret3_eq {a b c : Int} {k l m : IntKind} {v : Int} (h : v = b) : Ending.returned (.tuple #[.int k a, .int l v, .int m c]) = .returned (.tuple #[.int k a, .int l b, .int m c]) := by rw [h]
theorem run_eq (x : Nat) (row : List Nat) (p : Nat × Nat × Nat) (h : ¬ (x = 16 ∧ row.length = 0)) (hp : runOf x row = p) (src : Src) (a : Nat) (o : List Nat) : runM x row src a o = if a + p.2.2 ≤ src.L then .ok ((p.1, p.2.1 + bitsAt src.N a p.2.2), a + p.2.2, o) else .error 3 := by
  subst hp
  unfold runM
  rw [if_neg h]
  unfold bindM readM1 retM
  by_cases hc : a + (runOf x row).2.2 ≤ src.L
  · simp only [if_pos hc]
  · simp only [if_neg hc]
end Go.Proofs.Ytopjmagbcnglhaa
