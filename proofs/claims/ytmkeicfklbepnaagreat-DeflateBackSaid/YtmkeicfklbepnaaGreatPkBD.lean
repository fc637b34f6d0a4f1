/-
 The document's fixed codes.
 The document's New, of any lengths; a code's tree.
 Contracts: the next sign of a code; blocks that stay; room, and one byte.
 Contracts: a stream's room, one byte of it.
-/
import Derived.Test.YtmkeicfklbepnaaGreatPkBC
import Derived.Test.YtmkeicfklbepnaaGreatPkAG
import Derived.Test.YtmkeicfklbepnaaGreatPkAJ
import Derived.Test.YtmkeicfklbepnaaGreatPkAD
import Derived.Test.YtmkeicfklbepnaaGreatPkAE

namespace Go.Proofs.YtmkeicfklbepnaaGreat
set_option maxRecDepth 100000
set_option linter.unusedVariables false
set_option linter.unusedSimpArgs false
open Go.RowKit Go.Deep Go.Joins
theorem lens_of_own {w : World} {B n c : Nat} {A : Option Addr} {ls : Nat → Nat} (h : w.ownsRow B 5 1 (.slice A n c) n (cells8 ((List.range n).map ls))) (h256 : ∀ i, ls i < 256) : Lens w A n ls := fun h0 => by
 obtain ⟨g, cap, e, _, hl, hc⟩ := own_form8 h h0
 injection e with e _ _
 refine ⟨g, 0, e, hl, fun i hi => ?_⟩
 rw [Nat.zero_add, hc i _ (cells8_get _ i (by simpa using hi))]
 rw [List.getD_eq_getElem?_getD, List.getElem?_map, List.getElem?_range hi]
 exact ⟨rfl, h256 i⟩
theorem range_more (ls : Nat → Nat) (i : Nat) : cells8 ((List.range (i + 1)).map ls) = cells8 ((List.range i).map ls) ++ [.int .u8 (ls i : Nat)] := by
 rw [List.range_succ, List.map_append, cells8_app]
 rfl
theorem own_geU {w : World} {B n : Nat} {v : Value} {xs : List Value} (h : w.ownsRow B 5 1 v n xs) (k : Nat) (hk : v.ownBlock = some k) : B ≤ k := by
 rcases h.2 with ⟨rfl, _⟩ | ⟨g, cap, cur, rfl, hb, _⟩
 ·cases hk
 ·have : g = k := by simpa [Value.ownBlock] using hk
  omega
set_option maxHeartbeats 8000000 in
theorem rfixed_any (w : World) :
  Calls Tryz.prog 22 #[] w fun e w' => ∃ A1 c1 A2 c2, e = .returned (.tuple #[.slice A1 288 c1, .slice A2 32 c2]) ∧ Lens w' A1 288 fixS.ls ∧ Lens w' A2 32 fixD.ls ∧ Below w.heap.size w w' := by
 obtain ⟨i0, hi, iz0, iz1, iz2⟩ := partsR (P := Tryz.prog) (T := 5) (z := .int .u8 0) (s := 1) (b := 1) (by kernel_rfl)
 have HF : Hid (∀ i, fixS.ls i = if i < 144 then 8 else if i < 256 then 9 else if i < 280 then 7 else if i < 288 then 8 else 0) := fun i => rfl
 have HFD : Hid (∀ i, fixD.ls i = if i < 32 then 5 else 0) := fun i => rfl
 go_enter Tryz.func22, Tryz.ntmps22
 go_wp2_with fail
 go_loopw [2, 4, 5] (fun v2 v4 _ wr => ∃ i : Nat, v4 = .int .i64 (i : Nat) ∧ i ≤ 288 ∧ Hid (wr.ownsRow w.heap.size 5 1 v2 i (cells8 ((List.range i).map fixS.ls))) ∧ Hid (Below w.heap.size w wr)) (fun _ v _ _ => 288 - (intOf v).toNat)
 case atStart => exact ⟨0, rfl, Nat.zero_le _, World.ownsRow_nil _ _ _ _, Below.refl _ _⟩
 case round =>
  obtain ⟨i, rfl, hi288, HO, HB⟩ := hrel
  obtain ⟨A, cc, rfl⟩ := row8_slice HO.out
  by_cases hlt : i < 288
  ·have hd : decide ((i : Int) < 288) = true := decide_eq_true (by omega)
   obtain ⟨y, hy, hy2⟩ : ∃ y : Nat, y = fixS.ls i ∧ y < 256 := ⟨_, rfl, by rw [HF.out]; split <;> (try split) <;> (try split) <;> (try split) <;> omega⟩
   have HY := Lib.hid hy
   have HO1 := Lib.hid (range_more fixS.ls i)
   rw [← hy] at HO1
   clear hy
   have hsz := HB.out.size
   rcases (show i < 144 ∨ (144 ≤ i ∧ i < 256) ∨ (256 ≤ i ∧ i < 280) ∨ 280 ≤ i by omega) with h1 | ⟨h1, h2⟩ | ⟨h1, h2⟩ | h1
   ·obtain rfl : y = 8 := by rw [HY.out, HF.out]; repeat (first | rw [if_pos (by omega)] | rw [if_neg (by omega)])
    have d1 : decide ((144 : Int) ≤ (i : Int)) = false := decide_eq_false (by omega)
    have d2 : decide ((256 : Int) ≤ (i : Int)) = false := decide_eq_false (by omega)
    go_wp2_with (at_builtin; (refine wpList_append_own_at _ rfl (.tmp 23) (.tmp 25) _ rfl w.heap.size 5 i0 (.int .u8 0) 1 1 Tryz.underlying37 hi iz0 iz1 iz2 rfl (by decide) _ i (cells8 ((List.range i).map fixS.ls)) rfl (HO.out.alloc _) ⟨wr.heap.size, 0, none⟩ 1 1 [.int .u8 8] rfl rfl ?c1 ?c2 ?c3 ?c4 ?c5 ?_))
    case c1 => exact cell_one_new _ _ _
    case c2 => intro u hu; simp at hu; subst hu; rfl
    case c3 => unfold maxLen; omega
    case c4 => omega
    case c5 => simp; omega
    intro v9 w9 hown hgrow _ hat
    have HO9 : Hid (w9.ownsRow w.heap.size 5 1 v9 (i + 1) (cells8 ((List.range (i + 1)).map fixS.ls))) := by show World.ownsRow _ _ _ _ _ _ _; rw [HO1.out]; exact hown
    have HB9 : Hid (Below w.heap.size w w9) := (HB.out.alloc hsz _).grown hgrow (by simp; omega) (fun k hk => own_geU HO.out k hk)
    clear hown hgrow hat
    go_wp2_with fail
    go_roundw
    case rel => exact ⟨i + 1, by go_num, by omega, HO9, HB9⟩
    case measure => simp [intOf]; omega
   ·obtain rfl : y = 9 := by rw [HY.out, HF.out]; repeat (first | rw [if_pos (by omega)] | rw [if_neg (by omega)])
    have d1 : decide ((144 : Int) ≤ (i : Int)) = true := decide_eq_true (by omega)
    have d1b : decide ((i : Int) ≤ 255) = true := decide_eq_true (by omega)
    have d2 : decide ((256 : Int) ≤ (i : Int)) = false := decide_eq_false (by omega)
    go_wp2_with (at_builtin; (refine wpList_append_own_at _ rfl (.tmp 23) (.tmp 25) _ rfl w.heap.size 5 i0 (.int .u8 0) 1 1 Tryz.underlying37 hi iz0 iz1 iz2 rfl (by decide) _ i (cells8 ((List.range i).map fixS.ls)) rfl (HO.out.alloc _) ⟨wr.heap.size, 0, none⟩ 1 1 [.int .u8 9] rfl rfl ?c1 ?c2 ?c3 ?c4 ?c5 ?_))
    case c1 => exact cell_one_new _ _ _
    case c2 => intro u hu; simp at hu; subst hu; rfl
    case c3 => unfold maxLen; omega
    case c4 => omega
    case c5 => simp; omega
    intro v9 w9 hown hgrow _ hat
    have HO9 : Hid (w9.ownsRow w.heap.size 5 1 v9 (i + 1) (cells8 ((List.range (i + 1)).map fixS.ls))) := by show World.ownsRow _ _ _ _ _ _ _; rw [HO1.out]; exact hown
    have HB9 : Hid (Below w.heap.size w w9) := (HB.out.alloc hsz _).grown hgrow (by simp; omega) (fun k hk => own_geU HO.out k hk)
    clear hown hgrow hat
    go_wp2_with fail
    go_roundw
    case rel => exact ⟨i + 1, by go_num, by omega, HO9, HB9⟩
    case measure => simp [intOf]; omega
   ·obtain rfl : y = 7 := by rw [HY.out, HF.out]; repeat (first | rw [if_pos (by omega)] | rw [if_neg (by omega)])
    have d1 : decide ((144 : Int) ≤ (i : Int)) = true := decide_eq_true (by omega)
    have d1b : decide ((i : Int) ≤ 255) = false := decide_eq_false (by omega)
    have d2 : decide ((256 : Int) ≤ (i : Int)) = true := decide_eq_true (by omega)
    have d2b : decide ((i : Int) ≤ 279) = true := decide_eq_true (by omega)
    go_wp2_with (at_builtin; (refine wpList_append_own_at _ rfl (.tmp 23) (.tmp 25) _ rfl w.heap.size 5 i0 (.int .u8 0) 1 1 Tryz.underlying37 hi iz0 iz1 iz2 rfl (by decide) _ i (cells8 ((List.range i).map fixS.ls)) rfl (HO.out.alloc _) ⟨wr.heap.size, 0, none⟩ 1 1 [.int .u8 7] rfl rfl ?c1 ?c2 ?c3 ?c4 ?c5 ?_))
    case c1 => exact cell_one_new _ _ _
    case c2 => intro u hu; simp at hu; subst hu; rfl
    case c3 => unfold maxLen; omega
    case c4 => omega
    case c5 => simp; omega
    intro v9 w9 hown hgrow _ hat
    have HO9 : Hid (w9.ownsRow w.heap.size 5 1 v9 (i + 1) (cells8 ((List.range (i + 1)).map fixS.ls))) := by show World.ownsRow _ _ _ _ _ _ _; rw [HO1.out]; exact hown
    have HB9 : Hid (Below w.heap.size w w9) := (HB.out.alloc hsz _).grown hgrow (by simp; omega) (fun k hk => own_geU HO.out k hk)
    clear hown hgrow hat
    go_wp2_with fail
    go_roundw
    case rel => exact ⟨i + 1, by go_num, by omega, HO9, HB9⟩
    case measure => simp [intOf]; omega
   ·obtain rfl : y = 8 := by rw [HY.out, HF.out]; repeat (first | rw [if_pos (by omega)] | rw [if_neg (by omega)])
    have d1 : decide ((144 : Int) ≤ (i : Int)) = true := decide_eq_true (by omega)
    have d1b : decide ((i : Int) ≤ 255) = false := decide_eq_false (by omega)
    have d2 : decide ((256 : Int) ≤ (i : Int)) = true := decide_eq_true (by omega)
    have d2b : decide ((i : Int) ≤ 279) = false := decide_eq_false (by omega)
    go_wp2_with (at_builtin; (refine wpList_append_own_at _ rfl (.tmp 23) (.tmp 25) _ rfl w.heap.size 5 i0 (.int .u8 0) 1 1 Tryz.underlying37 hi iz0 iz1 iz2 rfl (by decide) _ i (cells8 ((List.range i).map fixS.ls)) rfl (HO.out.alloc _) ⟨wr.heap.size, 0, none⟩ 1 1 [.int .u8 8] rfl rfl ?c1 ?c2 ?c3 ?c4 ?c5 ?_))
    case c1 => exact cell_one_new _ _ _
    case c2 => intro u hu; simp at hu; subst hu; rfl
    case c3 => unfold maxLen; omega
    case c4 => omega
    case c5 => simp; omega
    intro v9 w9 hown hgrow _ hat
    have HO9 : Hid (w9.ownsRow w.heap.size 5 1 v9 (i + 1) (cells8 ((List.range (i + 1)).map fixS.ls))) := by show World.ownsRow _ _ _ _ _ _ _; rw [HO1.out]; exact hown
    have HB9 : Hid (Below w.heap.size w w9) := (HB.out.alloc hsz _).grown hgrow (by simp; omega) (fun k hk => own_geU HO.out k hk)
    clear hown hgrow hat
    go_wp2_with fail
    go_roundw
    case rel => exact ⟨i + 1, by go_num, by omega, HO9, HB9⟩
    case measure => simp [intOf]; omega
  ·obtain rfl : i = 288 := by omega
   obtain ⟨wo, hwo⟩ : ∃ x, x = wr := ⟨_, rfl⟩
   subst hwo
   have HL1 : Hid (Lens wo A 288 fixS.ls) := lens_of_own HO.out (fun i => by rw [HF.out]; split <;> (try split) <;> (try split) <;> (try split) <;> omega)
   go_wp2_with fail
   go_loopw [3, 6] (fun v3 v6 wq => ∃ j : Nat, v6 = .int .i64 (j : Nat) ∧ j ≤ 32 ∧ Hid (wq.ownsRow wo.heap.size 5 1 v3 j (cells8 ((List.range j).map fixD.ls))) ∧ Hid (Below wo.heap.size wo wq)) (fun _ v _ => 32 - (intOf v).toNat)
   case atStart => exact ⟨0, rfl, Nat.zero_le _, World.ownsRow_nil _ _ _ _, Below.refl _ _⟩
   case round =>
    obtain ⟨j, rfl, hj32, HP, HQ⟩ := hrel
    obtain ⟨A2, c2, rfl⟩ := row8_slice HP.out
    by_cases hlt : j < 32
    ·have hd : decide ((j : Int) < 32) = true := decide_eq_true (by omega)
     have HO1 := Lib.hid (range_more fixD.ls j)
     rw [show fixD.ls j = 5 by rw [HFD.out, if_pos hlt]] at HO1
     have hsz := HQ.out.size
     go_wp2_with (at_builtin; (refine wpList_append_own_at _ rfl (.tmp 31) (.tmp 32) _ rfl wo.heap.size 5 i0 (.int .u8 0) 1 1 Tryz.underlying37 hi iz0 iz1 iz2 rfl (by decide) _ j (cells8 ((List.range j).map fixD.ls)) rfl (HP.out.alloc _) ⟨wr.heap.size, 0, none⟩ 1 1 [.int .u8 5] rfl rfl ?c1 ?c2 ?c3 ?c4 ?c5 ?_))
     case c1 => exact cell_one_new _ _ _
     case c2 => intro u hu; simp at hu; subst hu; rfl
     case c3 => unfold maxLen; omega
     case c4 => omega
     case c5 => simp; omega
     intro v9 w9 hown hgrow _ hat
     have HO9 : Hid (w9.ownsRow wo.heap.size 5 1 v9 (j + 1) (cells8 ((List.range (j + 1)).map fixD.ls))) := by show World.ownsRow _ _ _ _ _ _ _; rw [HO1.out]; exact hown
     have HB9 : Hid (Below wo.heap.size wo w9) := (HQ.out.alloc hsz _).grown hgrow (by simp; omega) (fun k hk => own_geU HP.out k hk)
     clear hown hgrow hat
     go_wp2_with fail
     go_roundw
     case rel => exact ⟨_, _, _, _, _, _, _, _, _, ⟨j + 1, by go_num, by omega, HO9, HB9⟩, rfl⟩
     case measure => simp [intOf]; omega
    ·obtain rfl : j = 32 := by omega
     have HL2 := Lib.hid (lens_of_own HP.out (fun i => by rw [HFD.out]; split <;> omega))
     go_wp2_with fail
     go_ret2
     exact ⟨A, cc, A2, c2, rfl, HL1.out.below (Nat.le_refl _) HQ.out, HL2.out, HB.out.trans (HQ.out.mono HB.out.size)⟩
end Go.Proofs.YtmkeicfklbepnaaGreat

namespace Go.Proofs.YtmkeicfklbepnaaGreat
set_option maxRecDepth 100000
set_option linter.unusedVariables false
set_option linter.unusedSimpArgs false
open Go.RowKit Go.Deep Go.Joins
theorem rnew_may (A : Option Addr) (n cap : Nat) (op : Bool) (ls : Nat → Nat) (hn : n ≤ 4096) (w : World) (hL : Lens w A n ls) (h15 : ∀ i, i < n → ls i ≤ 15) :
  Calls Tryz.prog 24 #[.slice A n cap, .bool op] w fun e w' => Below w.heap.size w w' ∧
   ((may ⟨n, ls⟩ op ∧ e = .returned (.tuple #[.slice (some ⟨w.heap.size, 0, none⟩) n n, .int .i64 0]) ∧ IsRowS w' w.heap.size n (fun i => tx (wordN ls n i) (ls i))) ∨
    (¬ may ⟨n, ls⟩ op ∧ e = .returned (.tuple #[.slice none 0 0, .int .i64 10]))) := by
 rcases Nat.lt_trichotomy (fillN ls n) 32768 with hf | hf | hf
 ·cases op with
  | false =>
   refine (rnew_part A n cap ls hn w hL h15 hf).mono ?_
   rintro e w' ⟨rfl, hb⟩
   refine ⟨hb, .inr ⟨fun h => ?_, rfl⟩⟩
   rcases h.2 with h2 | ⟨h2, _⟩
   ·have h2' : fillN ls n = 32768 := h2
    omega
   ·cases h2
  | true =>
   by_cases hs : sumN ls n ≤ 1
   ·refine (rnew_open A n cap ls hn w hL h15 hf _ _ (.inl ⟨hs, rfl, rfl⟩)).mono ?_
    rintro e w' ⟨rfl, hr, hb⟩
    exact ⟨hb, .inl ⟨⟨Nat.le_of_lt hf, .inr ⟨rfl, hs⟩⟩, rfl, hr.out hs⟩⟩
   ·refine (rnew_open A n cap ls hn w hL h15 hf _ _ (.inr ⟨hs, rfl, rfl⟩)).mono ?_
    rintro e w' ⟨rfl, hr, hb⟩
    refine ⟨hb, .inr ⟨fun h => ?_, rfl⟩⟩
    rcases h.2 with h2 | ⟨_, h2⟩
    ·have h2' : fillN ls n = 32768 := h2
     omega
    ·exact hs h2
 ·refine (rnew_whole A n cap op ls hn w hL h15 hf).mono ?_
  rintro e w' ⟨rfl, hr, hb⟩
  exact ⟨hb, .inl ⟨⟨Nat.le_of_eq hf, .inl hf⟩, rfl, hr⟩⟩
 ·refine (rnew_err A n cap op 10 (by decide) w (rwords_over A n cap ls hn w hL h15 hf)).mono ?_
  rintro e w' ⟨rfl, rfl⟩
  exact ⟨Below.refl _ _, .inr ⟨fun h => by have h1 : fillN ls n ≤ 32768 := h.1; omega, rfl⟩⟩
/-- A tree of words that may be. -/
theorem rmake_cd (gW n c0 : Nat) (ls : Nat → Nat) (op : Bool) (hn : n ≤ 4096) (h15 : ∀ i, i < n → ls i ≤ 15) (hm : may ⟨n, ls⟩ op) (w : World) (hr : IsRowS w gW n (fun i => tx (wordN ls n i) (ls i))) :
  Calls Tryz.prog 26 #[.slice (some ⟨gW, 0, none⟩) n c0] w fun e w' => ∃ X, e = .returned (.agg #[X]) ∧ X.oneCell' = true ∧ CdT w' X ⟨n, ls⟩ ∧ Below w.heap.size w w' := by
 have hf : fillN ls n ≤ 32768 := hm.1
 refine (rmake_any gW n c0 ls (wordN ls n) hn h15 (fun i hi => word_lt0 ls n h15 hf i hi) (pfree ls n) w hr).mono ?_
 rintro e w' ⟨T, m, A, c, rfl, hT, hmm, hA, hb⟩
 refine ⟨_, rfl, rfl, ⟨T, m, A, c, rfl, hT, by omega, hA, hn, h15, ⟨hm.1, ?_⟩⟩, hb⟩
 rcases hm.2 with h | ⟨_, h⟩
 ·exact .inl h
 ·exact .inr ⟨rfl, h⟩
end Go.Proofs.YtmkeicfklbepnaaGreat

namespace Go.Proofs.YtmkeicfklbepnaaGreat
set_option maxRecDepth 100000
open Go.RowKit Go.Deep Go.Joins

/-- A code's blocks. -/
def CdC (w : World) (g : Nat) (c : Cod) : Prop := (∃ B bm, Cd0 w B g bm c.ls c.W c.n c.mx) ∧ c.mx ≤ 15 ∧ c.n ≤ 4096 ∧ ∀ i, i < c.n → c.ls i < 256 ∧ c.W i < 4294967296
theorem rev_many (X many p : Nat) (hp : p ≤ many) : rev (X % 2 ^ many) p = rev X p := rev_agree p (Nat.mod_mod_of_dvd X (Nat.pow_dvd_pow 2 hp))
theorem sign_is (c : Cod) (s : ByteArray) (lim a : Nat) (o : List Nat) (x : Int) (e l : Nat) (hm15 : c.mx ≤ 15) (ha : a ≤ 8 * s.size) (h : SignIs c.ls c.W c.n c.mx (bitsAt (num s) a (peekM s a 0 15)) (peekM s a 0 15) x e l) :
  (∃ i, x = (i : Nat) ∧ e = 0 ∧ i < c.n ∧ a + l ≤ 8 * s.size ∧ signM c (srcOf s lim) a o = .ok (i, a + l, o)) ∨ (x = -1 ∧ l = 0 ∧ (e = 3 ∨ e = 10) ∧ signM c (srcOf s lim) a o = .error e) := by
 have hmany : peekM s a 0 15 = min 15 (8 * s.size - a) := by
  unfold peekM
  rw [if_pos (by omega)]
  rfl
 rw [hmany] at h
 have hv : ∀ p, p ≤ min 15 (8 * s.size - a) → rev (bitsAt (num s) a (min 15 (8 * s.size - a))) p = rev (num s / 2 ^ a) p := fun p hp => rev_many _ _ p hp
 have hsm : ∀ r, srch c (num s / 2 ^ a) (min c.mx (8 * s.size - a)) 1 = r → signM c (srcOf s lim) a o = (match r with | some (i, l) => .ok (i, a + l, o) | none => if 8 * s.size - a < c.mx then .error 3 else .error 10) := fun r hr => by
  subst hr
  rfl
 rcases h with ⟨i, hx, he, h1, h2, h3, h4, h5⟩ | ⟨hx, he, hl, h1, h2⟩ | ⟨hx, he, hl, h1, h2⟩
 ·refine .inl ⟨i, hx, he, (find_is _ _ _ _ _ _ h4).1, by omega, ?_⟩
  rw [hv l h3] at h4
  refine hsm _ (srch_some c (num s / 2 ^ a) i l _ 1 h1 (by omega) (fun p h6 h7 => ?_) h4)
  have := h5 p h6 (by omega)
  rwa [hv p (by omega)] at this
 ·refine .inr ⟨hx, hl, .inl he, (hsm none (srch_none c _ _ 1 fun p h6 h7 => ?_)).trans ?_⟩
  ·have := h2 p h6 (by omega)
   rwa [hv p (by omega)] at this
  ·show (if 8 * s.size - a < c.mx then _ else _) = _
   rw [if_pos (by omega), he]
 ·refine .inr ⟨hx, hl, .inr he, (hsm none (srch_none c _ _ 1 fun p h6 h7 => ?_)).trans ?_⟩
  ·have := h2 p h6 (by omega)
   rwa [hv p (by omega)] at this
  ·show (if 8 * s.size - a < c.mx then _ else _) = _
   rw [if_neg (by omega), he]

/-- What Sign answers with. -/
def sgOk (c : Cod) (i : Nat) (r : Ending) : Prop := r = .returned (.tuple #[.int .i64 (i : Nat), .int .i64 0]) ∧ i < c.n
def sgBad (e : Nat) (r : Ending) : Prop := r = .returned (.tuple #[.int .i64 (-1), .int .i64 (e : Nat)])
theorem signC_any (g gr a lim : Nat) (c : Cod) (s : ByteArray) (o : List Nat) (hs : s.size ≤ 1000000) (ha : a ≤ 8 * s.size) (w : World) (hc : CdC w g c) (hr : Rd 83 w gr s a 0) :
  Calls Tryz.prog 63 #[.pointer (some ⟨g, 0, none⟩), .pointer (some ⟨gr, 0, none⟩)] w (PR w gr s (sgOk c) sgBad (signM c (srcOf s lim) a o)) := by
 obtain ⟨⟨B, bm, hcd⟩, hmx, _, hW⟩ := hc
 refine (sign_any B g bm c.n c.mx gr a c.ls c.W s hs ha hmx hW w hcd hr).mono ?_
 rintro r w' ⟨x, e, l, rfl, hsi, hr', hg⟩
 rcases sign_is c s lim a o x e l hmx ha hsi with ⟨i, rfl, rfl, hi, hle, hM⟩ | ⟨rfl, rfl, he, hM⟩
 ·exact .ok hM hg ⟨rfl, hi⟩ hr' hle
 ·exact .err hM hg rfl (by omega) (by omega)

/-! Blocks that stay. -/
/-- All blocks but a stream's, a reader's, bytes stay. -/
def Far (w w' : World) : Prop := w.heap.size ≤ w'.heap.size ∧ ∀ (i : Nat) (o : Obj), w.heap[i]? = some o → (∀ cs f, o ≠ .cells cs 50 f) → (∀ cs f, o ≠ .cells cs 83 f) → (∀ cs f, o ≠ .cells cs 5 f) → w'.heap[i]? = some o
theorem Far.refl (w : World) : Far w w := ⟨Nat.le_refl _, fun _ _ h _ _ _ => h⟩
theorem Far.then {w w1 w2 : World} (h : Far w w1) (k : Far w1 w2) : Far w w2 := ⟨Nat.le_trans h.1 k.1, fun i o h0 h1 h2 h3 => k.2 i o (h.2 i o h0 h1 h2 h3) h1 h2 h3⟩
theorem Far.cells {w w' : World} (h : Far w w') {i : Nat} {cs : Array Value} {T : TypeId} {f : Nat × Nat} (hb : w.heap[i]? = some (.cells cs T f)) (h1 : T ≠ 50) (h2 : T ≠ 83) (h3 : T ≠ 5) : w'.heap[i]? = some (.cells cs T f) :=
 h.2 i _ hb (fun _ _ e => by simp at e; exact h1 e.2.1) (fun _ _ e => by simp at e; exact h2 e.2.1) (fun _ _ e => by simp at e; exact h3 e.2.1)
theorem far_below {w w' : World} (h : Below w.heap.size w w') : Far w w' := ⟨h.size, fun i _ h0 _ _ _ => (h.block i (lt_of_heap h0)).trans h0⟩
theorem far_read {w w' : World} {gr : Nat} {s : ByteArray} {a e : Nat} (hr : Rd 83 w gr s a e) (h : w.grownBy w' (some gr)) : Far w w' := ⟨h.size, fun i o h0 _ h2 _ => (h.block i (lt_of_heap h0) (by
 intro hh
 injection hh with hh
 subst hh
 unfold Rd at hr
 rw [hr] at h0
 injection h0 with h0
 exact h2 _ _ h0.symm)).trans h0⟩
theorem map_far {w w' : World} {bm n : Nat} {D : DataW Unit} (h : w.ownsMap Tryz.prog 151 (plainElem Tryz.prog 3) bm n D) (hf : Far w w') : w'.heap[bm]? = w.heap[bm]? := by
 cases ho : w.heap[bm]? with
 | none =>
  have := map_lt h
  rw [Array.getElem?_eq_none_iff] at ho
  omega
 | some o => exact hf.2 bm o ho (fun cs f e => map_ne h (by rw [ho, e]) rfl) (fun cs f e => map_ne h (by rw [ho, e]) rfl) (fun cs f e => map_ne h (by rw [ho, e]) rfl)
theorem CdC.far {w w' : World} {g : Nat} {c : Cod} (h : CdC w g c) (hf : Far w w') : CdC w' g c := by
 obtain ⟨⟨B, bm, A, cp, hb0, ho, hm, h1, h2⟩, h3⟩ := h
 refine ⟨⟨B, bm, A, cp, hf.cells hb0 (by decide) (by decide) (by decide), row_kept' ho (fun b e => ?_), map_stay hm (map_far hm hf), h1, h2⟩, h3⟩
 rcases ho.2 with ⟨h0, _⟩ | ⟨g2, cap2, cur, h0, _, hb2, _⟩
 ·rw [h0] at e
  cases e
 ·rw [h0] at e
  injection e with e
  subst e
  rw [hb2, hf.cells hb2 (by decide) (by decide) (by decide)]
end Go.Proofs.YtmkeicfklbepnaaGreat

namespace Go.Proofs.YtmkeicfklbepnaaGreat
set_option maxRecDepth 100000
open Go.RowKit Go.Deep Go.Joins

/-- The fixed codes, where they were made. -/
def Fix (w : World) (p : Value) : Prop := p = .pointer none ∨ ∃ gf gs gd, p = .pointer (some ⟨gf, 0, none⟩) ∧ w.heap[gf]? = some (.cells #[.pointer (some ⟨gs, 0, none⟩), .pointer (some ⟨gd, 0, none⟩)] 90 (0, 0)) ∧ CdC w gs fixS ∧ CdC w gd fixD
theorem Fix.far {w w' : World} {p : Value} (h : Fix w p) (hf : Far w w') : Fix w' p := by
 rcases h with h | ⟨gf, gs, gd, h1, h2, h3, h4⟩
 ·exact .inl h
 ·exact .inr ⟨gf, gs, gd, h1, hf.cells h2 (by decide) (by decide) (by decide), h3.far hf, h4.far hf⟩
/-- A stream: what its blocks hold. -/
def Sm (w : World) (B g gr : Nat) (r : Option Nat) (s : ByteArray) (a lim : Nat) (o : List Nat) : Prop :=
 ∃ v p, w.heap[g]? = some (.cells #[.pointer (some ⟨gr, 0, none⟩), v, .int .i64 (lim : Nat), p] 50 (0, 0)) ∧ w.ownsRow B 5 1 v o.length (cells8 o) ∧ v.ownBlock = r ∧ Rd 83 w gr s a 0 ∧ Fix w p ∧ (B ≤ g ∧ B ≤ gr ∧ o.length ≤ lim ∧ a ≤ 8 * s.size ∧ ∀ x ∈ o, x < 256)
def UpS (g gr : Nat) (r r' : Option Nat) (w w' : World) : Prop := Kept (fun i => i = g ∨ i = gr ∨ some i = r) w w' ∧ (r' = r ∨ ∃ j, r' = some j ∧ w.heap.size ≤ j)
theorem UpS.refl (g gr : Nat) (r : Option Nat) (w : World) : UpS g gr r r w w := ⟨Kept.refl _ _, .inl rfl⟩
theorem UpS.then {g gr : Nat} {r r1 r2 : Option Nat} {w w1 w2 : World} (h : UpS g gr r r1 w w1) (k : UpS g gr r1 r2 w1 w2) : UpS g gr r r2 w w2 := by
 refine ⟨h.1.then k.1 fun i hi e => ?_, ?_⟩
 ·rcases e with e | e | e
  ·exact .inl e
  ·exact .inr (.inl e)
  ·rcases h.2 with h2 | ⟨j, h2, h3⟩
   ·exact .inr (.inr (e.trans h2))
   ·rw [h2] at e
    injection e with e
    omega
 ·rcases k.2 with k2 | ⟨j, k2, k3⟩
  ·rcases h.2 with h2 | ⟨j, h2, h3⟩
   ·exact .inl (k2.trans h2)
   ·exact .inr ⟨j, k2.trans h2, h3⟩
  ·exact .inr ⟨j, k2, Nat.le_trans h.1.size k3⟩
theorem ups_read {g gr : Nat} {r : Option Nat} {w w' : World} (h : w.grownBy w' (some gr)) : UpS g gr r r w w' := ⟨(kept_grown h).more fun i e => by injection e with e; exact .inr (.inl e), .inl rfl⟩
theorem ups_drewN {g gr : Nat} {r : Option Nat} (w : World) (d : Nat) : UpS g gr r r w (w.drewN d) := ⟨kept_drewN _ w d, .inl rfl⟩
theorem ups_below {g gr : Nat} {r : Option Nat} {w w' : World} (h : Below w.heap.size w w') : UpS g gr r r w w' := ⟨kept_below h, .inl rfl⟩
section
variable {w w' : World} {B g gr a lim : Nat} {r r' : Option Nat} {s : ByteArray} {o : List Nat}
theorem Sm.pin (h : Sm w B g gr r s a lim o) : Pin w g gr := by
 obtain ⟨v, p, hb, _⟩ := h
 exact ⟨_, _, _, hb⟩
theorem Sm.rd (h : Sm w B g gr r s a lim o) : Rd 83 w gr s a 0 := by
 obtain ⟨v, p, _, _, _, h, _⟩ := h
 exact h
theorem Sm.le (h : Sm w B g gr r s a lim o) : a ≤ 8 * s.size := by
 obtain ⟨v, p, _, _, _, _, _, h⟩ := h
 exact h.2.2.2.1
theorem Sm.room (h : Sm w B g gr r s a lim o) : o.length ≤ lim := by
 obtain ⟨v, p, _, _, _, _, _, h⟩ := h
 exact h.2.2.1
theorem Sm.ge (h : Sm w B g gr r s a lim o) : ∀ i, (i = g ∨ i = gr ∨ some i = r) → B ≤ i := by
 obtain ⟨v, p, _, ho, hr, _, _, h⟩ := h
 rintro i (rfl | rfl | e)
 ·exact h.1
 ·exact h.2.1
 ·rcases ho.2 with ⟨rfl, _⟩ | ⟨g', cap, cur, rfl, hg, _⟩
  ·rw [← hr] at e
   simp [Value.ownBlock] at e
  ·rw [← hr] at e
   simp [Value.ownBlock] at e
   omega
theorem UpS.below (h : UpS g gr r r' w w') (hS : Sm w B g gr r s a lim o) (hB : B ≤ w.heap.size) : Below B w w' := h.1.below hS.ge hB
theorem UpS.far (h : UpS g gr r r' w w') (hS : Sm w B g gr r s a lim o) : Far w w' := by
 obtain ⟨v, p, hb, ho, hr, hR, _⟩ := hS
 refine ⟨h.1.size, fun i x h0 h1 h2 h3 => (h.1.block i (lt_of_heap h0) ?_).trans h0⟩
 rintro (rfl | rfl | e)
 ·rw [hb] at h0
  injection h0 with h0
  exact h1 _ _ h0.symm
 ·unfold Rd at hR
  rw [hR] at h0
  injection h0 with h0
  exact h2 _ _ h0.symm
 ·rcases ho.2 with ⟨rfl, _⟩ | ⟨g', cap, cur, rfl, hg, hb2, _⟩
  ·rw [← hr] at e
   simp [Value.ownBlock] at e
  ·rw [← hr] at e
   simp [Value.ownBlock] at e
   subst e
   rw [hb2] at h0
   injection h0 with h0
   exact h3 _ _ h0.symm
/-- A stream behind a call that turned its reader alone. -/
theorem Sm.read {a1 : Nat} (h : Sm w B g gr r s a lim o) (hg : w.grownBy w' (some gr)) (hr : Rd 83 w' gr s a1 0) (ha : a1 ≤ 8 * s.size) : Sm w' B g gr r s a1 lim o := by
 have hpn := h.pin
 have hrd := h.rd
 obtain ⟨v, p, hb, ho, hv, hR, hx, h1, h2, h3, h4, h5⟩ := h
 refine ⟨v, p, (hg.block g (lt_of_heap hb) (by intro e; injection e with e; exact blk_ne hb hR (by decide) e)).trans hb, row_kept ho fun b e => ?_, hv, hr, hx.far (far_read hR hg), h1, h2, h3, ha, h5⟩
 refine hg.block b (ho.lt b e).2 (fun hh => ?_)
 exact row_ne (by decide) ho hR (by rw [e, hh])
theorem Sm.drewN (h : Sm w B g gr r s a lim o) (d : Nat) : Sm (w.drewN d) B g gr r s a lim o := by
 obtain ⟨v, p, hb, ho, hv, hR, hx, h1⟩ := h
 exact ⟨v, p, hb, row_kept ho fun _ _ => rfl, hv, hR, hx.far (far_below (below_drewN (Below.refl _ _) d)), h1⟩
theorem Sm.below (h : Sm w B g gr r s a lim o) (hb : Below w.heap.size w w') : Sm w' B g gr r s a lim o := by
 obtain ⟨v, p, hb0, ho, hv, hR, hx, h1⟩ := h
 exact ⟨v, p, (hb.block g (lt_of_heap hb0)).trans hb0, row_kept ho fun b e => hb.block b (ho.lt b e).2, hv, hR.below hb hR.lt, hx.far (far_below hb), h1⟩
end
/-- What became of a call that turns a stream. -/
def PS {α : Type} (w : World) (B g gr : Nat) (r : Option Nat) (s : ByteArray) (lim : Nat) (val : α → Ending → Prop) (bad : Nat → Ending → Prop) (ans : Ans α) (e : Ending) (w' : World) : Prop :=
 ∃ r', UpS g gr r r' w w' ∧ match ans with
  | .ok (x, a1, o1) => val x e ∧ Sm w' B g gr r' s a1 lim o1
  | .error k => bad k e ∧ k ≠ 0 ∧ k < 100
theorem PS.ok {α : Type} {w w' : World} {B g gr : Nat} {r : Option Nat} {s : ByteArray} {lim : Nat} {val : α → Ending → Prop} {bad : Nat → Ending → Prop} {ans : Ans α} {e : Ending} {x : α} {a1 : Nat} {o1 : List Nat} (r' : Option Nat) (h : ans = .ok (x, a1, o1)) (hu : UpS g gr r r' w w') (hv : val x e) (hs : Sm w' B g gr r' s a1 lim o1) : PS w B g gr r s lim val bad ans e w' := by
 subst h
 exact ⟨r', hu, hv, hs⟩
theorem PS.err {α : Type} {w w' : World} {B g gr : Nat} {r : Option Nat} {s : ByteArray} {lim : Nat} {val : α → Ending → Prop} {bad : Nat → Ending → Prop} {ans : Ans α} {e : Ending} {k : Nat} (r' : Option Nat) (h : ans = .error k) (hu : UpS g gr r r' w w') (hv : bad k e) (hk : k ≠ 0) (h1 : k < 100) : PS w B g gr r s lim val bad ans e w' := by
 subst h
 exact ⟨r', hu, hv, hk, h1⟩
theorem bind_ok {α β : Type} {m : Mm α} {f : α → Mm β} {s : Src} {a a1 : Nat} {o o1 : List Nat} {x : α} (h : m s a o = .ok (x, a1, o1)) : bindM m f s a o = f x s a1 o1 := by unfold bindM; rw [h]
theorem bind_err {α β : Type} {m : Mm α} {f : α → Mm β} {s : Src} {a : Nat} {o : List Nat} {e : Nat} (h : m s a o = .error e) : bindM m f s a o = .error e := by unfold bindM; rw [h]

theorem room_any (B g gr a lim many : Nat) (r : Option Nat) (s : ByteArray) (o : List Nat) (hl : lim ≤ 1000000000) (hm : many ≤ 1000000) (w : World) (hS : Sm w B g gr r s a lim o) :
  Calls Tryz.prog 61 #[.pointer (some ⟨g, 0, none⟩), .int .i64 many] w fun e w' => e = .returned (.int .i64 (if o.length + many ≤ lim then 0 else 14 : Int)) ∧ ∃ d, w' = w.drewN d := by
 have hroom := hS.room
 obtain ⟨v, p, hb, ho, _⟩ := hS
 obtain ⟨A, c, rfl⟩ := row_slice ho
 have c1 : w.cell? ⟨g, 1, none⟩ = some (.slice A o.length c) := by rw [cell_of_row w g 1 _ _ _ hb]; rfl
 have c2 : w.cell? ⟨g, 2, none⟩ = some (.int .i64 lim) := by rw [cell_of_row w g 2 _ _ _ hb]; rfl
 generalize o.length = k at *
 clear hb ho
 by_cases h : k + many ≤ lim
 ·have hd : decide ((lim : Int) - (k : Int) < (many : Int)) = false := decide_eq_false (by omega)
  rw [if_pos h]
  go_enter Tryz.func61, Tryz.ntmps61
  go_wp2
  go_quiet (fail)
  go_wp2
  go_ret
  exact ⟨rfl, _, rfl⟩
 ·have hd : decide ((lim : Int) - (k : Int) < (many : Int)) = true := decide_eq_true (by omega)
  rw [if_neg h]
  go_enter Tryz.func61, Tryz.ntmps61
  go_wp2
  go_quiet (fail)
  go_wp2
  go_ret
  exact ⟨rfl, _, rfl⟩

/-- A stream with one byte more. -/
theorem Sm.grow {w w2 : World} {B g gr a lim : Nat} {r : Option Nat} {s : ByteArray} {o : List Nat} {v v2 p : Value} {x : Nat} (h : Sm w B g gr r s a lim o) (hb : w.heap[g]? = some (.cells #[.pointer (some ⟨gr, 0, none⟩), v, .int .i64 (lim : Nat), p] 50 (0, 0)))
  (W : World) (hW : Below w.heap.size w W) (hg : W.grownBy w2 v.ownBlock) (ho : w2.ownsRow B 5 1 v2 (o.length + 1) (cells8 o ++ [.int .u8 (x : Nat)])) (hx : x < 256) (hl : o.length + 1 ≤ lim) (hat : v2.ownBlock = v.ownBlock ∨ ∃ j, v2.ownBlock = some j ∧ w.heap.size ≤ j) :
  Sm (w2.setCell ⟨g, 1, none⟩ v2) B g gr v2.ownBlock s a lim (o ++ [x]) ∧ UpS g gr r v2.ownBlock w (w2.setCell ⟨g, 1, none⟩ v2) := by
 have hSm := h
 have hge := h.ge
 obtain ⟨v', p', hb', ho', hv, hR, hfx, h1, h2, h3, h4, h5⟩ := h
 rw [hb] at hb'
 simp at hb'
 obtain ⟨rfl, rfl⟩ := hb'
 have hne : v.ownBlock ≠ some g := row_ne (by decide) ho' hb
 have hner : v.ownBlock ≠ some gr := row_ne (by decide) ho' hR
 have hgs := lt_of_heap hb
 have hb2 : w2.heap[g]? = some (.cells #[.pointer (some ⟨gr, 0, none⟩), v, .int .i64 (lim : Nat), p] 50 (0, 0)) := (hg.block g (Nat.lt_of_lt_of_le hgs hW.size) (fun e => hne e.symm)).trans ((hW.block g hgs).trans hb)
 have hR2 : Rd 83 w2 gr s a 0 := (hg.block gr (Nat.lt_of_lt_of_le hR.lt hW.size) (fun e => hner e.symm)).trans ((hW.block gr hR.lt).trans hR)
 have hne2 : v2.ownBlock ≠ some g := row_ne (by decide) ho hb2
 have hgr : g ≠ gr := blk_ne hb hR (by decide)
 have hb3 := heap_setCell_same w2 g 1 _ _ v2 hb2
 have hU : UpS g gr r v2.ownBlock w (w2.setCell ⟨g, 1, none⟩ v2) := by
  refine ⟨((kept_below hW).then (kept_grown hg) (fun i _ e => ?_)).then (kept_set w2 g 1 _) (fun i _ e => .inl e), ?_⟩
  ·rw [hv] at e
   exact .inr (.inr e)
  ·rcases hat with e | ⟨j, e, hj⟩
   ·exact .inl (e.trans hv)
   ·exact .inr ⟨j, e, hj⟩
 refine ⟨⟨v2, p, hb3, ?_, rfl, (Below.heap_setCell _ _ _ _ (Ne.symm hgr)).trans hR2, hfx.far (hU.far hSm), h1, h2, by simpa using hl, h4, ?_⟩, hU⟩
 ·rw [List.length_append, cells8_app]
  exact row_kept ho fun b hb => Below.heap_setCell _ _ _ _ (fun e => hne2 (by rw [hb, e]))
 ·intro y hy
  rw [List.mem_append] at hy
  rcases hy with hy | hy
  ·exact h5 y hy
  ·simp at hy
   omega

def okE (r : Ending) : Prop := r = .returned (.int .i64 0)
def badE (k : Nat) (r : Ending) : Prop := r = .returned (.int .i64 (k : Nat))
set_option maxHeartbeats 2000000 in
theorem one_any (B g gr a lim b : Nat) (r : Option Nat) (s : ByteArray) (o : List Nat) (hl : lim ≤ 1000000000) (hb256 : b < 256) (w : World) (hB : B ≤ w.heap.size) (hS : Sm w B g gr r s a lim o) :
  Calls Tryz.prog 64 #[.pointer (some ⟨g, 0, none⟩), .int .u8 b] w (PS w B g gr r s lim (fun _ => okE) badE (putM b (srcOf s lim) a o)) := by
 have HRM := Lib.hid (room_any B g gr a lim 1 r s o hl (by omega) w hS)
 have HS := Lib.hid hS
 by_cases h : o.length + 1 ≤ lim
 ·have HM : Hid (putM b (srcOf s lim) a o = .ok ((), a, o ++ [b])) := if_pos h
  rw [if_pos h] at HRM
  obtain ⟨v, p, hb, ho, hrest⟩ := hS
  have HB0 := Lib.hid hb
  have HO := Lib.hid ho
  clear hb ho hrest
  obtain ⟨i0, hi, hz0, hz1, hz2⟩ := info_parts info8
  have HLE := Lib.hid h
  go_enter Tryz.func64, Tryz.ntmps64
  go_wp2_with fail
  refine (HRM.out).mono ?_; rintro e w1 ⟨rfl, d, rfl⟩
  have hb1 : (w.drewN d).heap[g]? = some (.cells #[.pointer (some ⟨gr, 0, none⟩), v, .int .i64 (lim : Nat), p] 50 (0, 0)) := HB0.out
  have ho1 : (w.drewN d).ownsRow B 5 1 v o.length (cells8 o) := row_kept HO.out fun _ _ => rfl
  have hW1 : Below w.heap.size w (w.drewN d) := below_drewN (Below.refl _ _) d
  have hsz : (w.drewN d).heap.size = w.heap.size := rfl
  generalize w.drewN d = w1 at *
  have c1 : w1.cell? ⟨g, 1, none⟩ = some v := by rw [cell_of_row w1 g 1 _ _ _ hb1]; rfl
  have HB1 := Lib.hid hb1
  have HO1 := Lib.hid ho1
  have HW1 := Lib.hid hW1
  have HSZ := Lib.hid hsz
  have hk : o.length ≤ 1000000000 := by omega
  clear hb1 ho1 hW1 hsz
  go_wp2_with (at_builtin; refine wpList_append_own_at _ rfl (.tmp 15) (.tmp 17) _ rfl B 5 i0 (.int .u8 0) 1 1 Tryz.underlying37 hi hz0 hz1 hz2 rfl (by decide) _ o.length (cells8 o) rfl (HO1.out.alloc _) ⟨w1.heap.size, 0, none⟩ 1 1 [.int .u8 (b : Nat)] rfl rfl ?c1 ?c2 ?c3 ?c4 ?c5 ?_)
  case c1 => exact cell_one_new _ _ _
  case c2 => intro u hu; simp at hu; subst hu; rfl
  case c3 => unfold maxLen; omega
  case c4 => omega
  case c5 => have := HSZ.out; simp; omega
  intro v2 w2 hown hgrow _ hat
  obtain ⟨A2, cp2, rfl⟩ := row_slice hown
  have hW : Below w.heap.size w (w1.alloc (.cells #[.int .u8 (b : Nat)] 5)) := HW1.out.alloc (by have := HSZ.out; omega) _
  have hG := HS.out.grow HB0.out _ hW hgrow hown hb256 HLE.out (by
   rcases hat with e | e
   ·exact .inl e
   ·exact .inr ⟨_, e, by have := HSZ.out; simp; omega⟩)
  have hne := row_ne (by decide) HO1.out HB1.out
  have hb2 := after_append (w2 := w2) HB1.out (by exact ⟨hgrow.os, hgrow.tape, hgrow.output, hgrow.size, hgrow.block⟩) hne
  have k1 : w2.cell? ⟨g, 1, none⟩ = some v := by rw [cell_of_row w2 g 1 _ _ _ hb2]; rfl
  have kf := frozen_of_row w2 g 1 _ _ hb2
  have HG := Lib.hid hG
  clear hown hgrow hat hG hb2 hW hne
  go_wp2
  go_ret
  exact .ok _ HM.out HG.out.2 rfl HG.out.1
 ·have HM : Hid (putM b (srcOf s lim) a o = .error 14) := if_neg h
  rw [if_neg h] at HRM
  clear hS
  go_enter Tryz.func64, Tryz.ntmps64
  go_wp2_with fail
  refine (HRM.out).mono ?_; rintro e w1 ⟨rfl, d, rfl⟩
  go_wp2
  go_ret
  exact .err r HM.out (ups_drewN w d) rfl (by omega) (by omega)
end Go.Proofs.YtmkeicfklbepnaaGreat
