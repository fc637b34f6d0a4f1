/-
  Package denote: byPath.
  Package denote: the barriers above a path.
  Sorting by putting each item behind all that don't stand behind it (mathematics).
  Trees: the document's Sort.
  Trees: the document's Odds.
-/
import Derived.Test.YtijfcmlgohbndaaGreatDoorBpC
import Derived.Test.YtijfcmlgohbndaaGreatDoorPkCE
import Derived.Test.YtijfcmlgohbndaaGreatDoorPkAG
import Derived.Deep.QuietTactic
import Derived.Laws.OwnMore
import Derived.Test.YtijfcmlgohbndaaGreatDoorPkCC
import Derived.RegionTactic
import Derived.ChangeAlike
import Derived.Deep.Cut
import Derived.Deep.CutBlock

namespace Go.Proofs.YtijfcmlgohbndaaGreatDoor
set_option maxRecDepth 100000
set_option linter.unusedSimpArgs false
set_option linter.unusedVariables false
open Go.RowKit Go.Joins Go.Deep
open Go.Lib hiding intOf
theorem atL_get (t : List Itm) (k : Nat) (h : k < t.length) : t[k] = atL t k := by show _ = t[k]?.getD default; rw [List.getElem?_eq_getElem h]; rfl
set_option maxHeartbeats 4000000 in
theorem cmpB_any (pc : Nat) (A : Option Addr) (cap : Nat) (t : List Itm) (a b : Nat) (w : World) (hT : Itms w A t) (hp : w.cell? ⟨pc, 0, none⟩ = some (.slice A t.length cap)) (ha : a < t.length) (hb : b < t.length) (hs : ∀ x ∈ t, x.s.size ≤ 1000000) (hl : t.length ≤ 1000) :
    Calls Tryz.prog 45 #[.int .i64 (a : Nat), .int .i64 (b : Nat), .pointer (some ⟨pc, 0, none⟩)] w fun e w' => e = .returned (.int .i64 (ordT (atL t a).s (atL t b).s)) ∧ ∃ d, w' = w.drewN d := by
  obtain ⟨bk, off, rfl, hbl, hc⟩ := hT (by omega)
  have c1 := (hc a t[a] (List.getElem?_eq_getElem ha)).1
  have c2 := (hc b t[b] (List.getElem?_eq_getElem hb)).1
  have HO := Lib.hid (fun w => order_any t[a].s t[b].s w (by have := hs _ (List.getElem_mem ha); omega))
  rw [atL_get t a ha] at c1 HO
  rw [atL_get t b hb] at c2 HO
  have hai : (a : Int) < (t.length : Int) := by omega
  have hbi : (b : Int) < (t.length : Int) := by omega
  generalize (atL t a).s = x at *
  generalize (atL t b).s = y at *
  clear hc hT hs
  go_enter Tryz.func45, Tryz.ntmps45
  go_wp2
  go_quiet (first | (go_at_call 46; exact Calls.quiet_of (HO.out _)))
  go_wp2
  go_ret
  exact ⟨rfl, _, rfl⟩
theorem info_intB : (Tryz.prog.info? 3).map (fun i => (i.zero, i.size, i.bytes)) = some (some (.int .i64 0), 1, 8) := by kernel_rfl
/-- A row of places. -/
def PlR (w : World) (A : Option Addr) (l : List Nat) : Prop := 0 < l.length → ∃ g, A = some ⟨g, 0, none⟩ ∧ g < w.heap.size ∧ ∀ k x, l[k]? = some x → w.cell? ⟨g, k, none⟩ = some (.int .i64 (x : Nat))
theorem PlR.below {w w' : World} {A : Option Addr} {l : List Nat} (h : PlR w A l) (hb : Below w.heap.size w w') : PlR w' A l := fun h0 => by
  obtain ⟨g, e, hg, hc⟩ := h h0
  exact ⟨g, e, Nat.lt_of_lt_of_le hg hb.size, fun k x hx => (hb.cell (p := ⟨g, k, none⟩) hg).trans (hc k x hx)⟩
theorem range_inc (n : Nat) : ∀ p q, p < q → q < n → Bp.at0 (List.range n) p < Bp.at0 (List.range n) q := fun p q h1 h2 => by
  unfold Bp.at0
  rw [List.getElem?_range (by omega), List.getElem?_range h2]
  exact h1
set_option maxHeartbeats 8000000 in
theorem byPath_any (A : Option Addr) (c : Nat) (t : List Itm) (w : World) (hT : Itms w A t) (hl : t.length ≤ 1000) (hs : ∀ x ∈ t, x.s.size ≤ 1000000) :
    Calls Tryz.prog 26 #[.slice A t.length c] w fun e w' => ∃ A' c', e = .returned (.slice A' t.length c') ∧ PlR w' A' (idxI t) ∧ Below w.heap.size w w' := by
  have hmf : ∀ (fn : Fn) (first cap : Array Value) (w : World), (Instr.makeFunc fn first cap).run Tryz.prog w = .ok (.func fn first cap) w := fun _ _ _ _ => rfl
  obtain ⟨i0, hi, hz0, hz1, hz2⟩ := info_parts info_intB
  have hb1 := below_al w (.cells #[.slice A t.length c] 23)
  have c0 : (w.alloc (.cells #[.slice A t.length c] 23)).cell? ⟨w.heap.size, 0, none⟩ = some (.slice A t.length c) := (cell_of_row _ _ 0 _ _ _ (heap_alloc_new w _)).trans rfl
  have hs1 : (w.alloc (.cells #[.slice A t.length c] 23)).heap.size = w.heap.size + 1 := by simp
  have HT := Lib.hid hT
  have HS := Lib.hid hs
  clear hT hs
  go_enter Tryz.func26, Tryz.ntmps26
  go_wp2_with fail
  generalize w.alloc (.cells #[.slice A t.length c] 23) = w1 at *
  have HI : Hid (Below w.heap.size w w1 ∧ w1.cell? ⟨w.heap.size, 0, none⟩ = some (.slice A t.length c) ∧ w1.heap.size = w.heap.size + 1) := ⟨hb1, c0, hs1⟩
  clear hb1 c0 hs1
  go_loopw [3, 7] (fun v i wr => ∃ k : Nat, k ≤ t.length ∧ i = .int .i64 (k : Nat) ∧ wr.ownsRow (w.heap.size + 1) 3 1 v k ((List.range k).map Bp.iv) ∧ Below w1.heap.size w1 wr) (fun _ i _ => t.length - (intOf i).toNat)
  case atStart => exact ⟨0, Nat.zero_le _, rfl, World.ownsRow_nil _ _ _ _, Below.refl _ _⟩
  case round =>
    obtain ⟨k, hk, rfl, hown, hb⟩ := hrel
    have HO := Lib.hid hown
    have HB := Lib.hid hb
    have HZ : Hid (w.heap.size + 1 ≤ wr.heap.size) := by show _ ≤ _; have := hb.size; have := HI.out.2.2; omega
    clear hown hb
    by_cases hlt : k < t.length
    · have hd : decide ((k : Int) < (t.length : Int)) = true := decide_eq_true (by omega)
      go_wp2_with (at_builtin; refine wpList_append_own _ rfl _ _ 80 rfl (w.heap.size + 1) 3 i0 (.int .i64 0) 1 8 Tryz.underlying80 hi hz0 hz1 hz2 rfl (by decide) _ _ _ rfl (HO.out.alloc _) ⟨wr.heap.size, 0, none⟩ 1 1 [.int .i64 (k : Nat)] rfl rfl ?c1 ?c2 ?c3 ?c4 ?c5 ?_)
      case c1 =>
        intro j u hj
        match j, hj with
        | 0, hj => simp at hj; subst hj; simp [Addr.add]
      case c2 => intro u hu; simp at hu; subst hu; rfl
      case c3 => unfold maxLen; omega
      case c4 => omega
      case c5 => have := HZ.out; simp; omega
      intro v' w2 hown2 hgrow2 _
      have HOW := Lib.hid (fun h => (HO.out.lt h))
      have HB2 : Hid (Below w1.heap.size w1 w2) := (below_then HB.out (below_al wr (.cells #[.int .i64 (k : Nat)] 3))).grown hgrow2 (by have := HB.out.size; simp; omega) (fun h e => by have := (HOW.out h e).1; have := HI.out.2.2; omega)
      have HO2 : Hid (w2.ownsRow (w.heap.size + 1) 3 1 v' (k + 1) ((List.range (k + 1)).map Bp.iv)) := by
        show World.ownsRow _ _ _ _ _ _ _
        rw [List.range_succ, List.map_append]
        exact hown2
      clear hown2 hgrow2 HO HOW
      go_wp2
      go_roundw
      case rel => exact ⟨k + 1, by omega, by go_num, HO2.out, HB2.out⟩
      case measure => simp [intOf]; omega
    · obtain rfl : k = t.length := by omega
      have hd : decide ((t.length : Int) < (t.length : Int)) = false := decide_eq_false (by omega)
      have HBW := Lib.hid (below_then HI.out.1 HB.out)
      have ho := HO.out
      obtain ⟨_, ⟨rfl, hz⟩ | ⟨g, cap, cur, rfl, hbg, hgh, _⟩⟩ := ho
      · have hnil : t = [] := List.eq_nil_of_length_eq_zero hz
        rw [hz]
        go_wp2_with fail
        refine (Bp.sort_nil w.heap.size wr).mono ?_
        rintro e w2 ⟨rfl, rfl⟩
        go_wp2_with fail
        go_ret
        exact ⟨none, 0, by rw [hz]; rfl, fun h => by rw [idx_len, hz] at h; omega, HBW.out⟩
      · have HCM : Hid (Bp.CmpOkB wr g w.heap.size t.length (rnk t)) := ⟨fun a b => ordT (atL t a).s (atL t b).s, fun a b ha hb hba => by
            rw [rnk_iff ha hb]
            unfold ahd
            rw [decide_eq_true_iff]
            constructor
            · intro h; exact .inl h
            · rintro (h | ⟨_, h⟩)
              · exact h
              · omega, fun w3 hg3 a b ha hb => by
          have hb3 : Below w1.heap.size w1 w3 := HB.out.grown hg3 HB.out.size (fun h e => by injection e with e; subst e; have := HI.out.2.2; omega)
          exact cmpB_any w.heap.size A c t a b w3 (HT.out.below (HI.out.1.trans (hb3.mono HI.out.1.size))) ((hb3.cell (p := ⟨w.heap.size, 0, none⟩) (by have := HI.out.2.2; show w.heap.size < _; omega)).trans HI.out.2.1) ha hb HS.out hl⟩
        have hrl : (List.range t.length).length = t.length := List.length_range
        have HSO := Lib.hid (Bp.sort_anyB (w.heap.size + 1) g t.length cap w.heap.size t.length (rnk t) (List.range t.length) wr ⟨hrl, HO.out⟩ (fun x hx => List.mem_range.1 hx) HCM.out hl (range_inc t.length) (fun _ => Bp.sym_okB _ _ _ _ _ _ _ hl))
        clear hgh
        go_wp2_with fail
        refine (HSO.out).mono ?_
        rintro e w2 ⟨rfl, S', ho2, hm2, hs2, hg2⟩
        have hSI : S' = idxI t := Is.fix_perm (rnk t) S' (idxI t) (fun x hx y hy h => rnk_inj (List.mem_range.1 (hm2.perm.mem_iff.1 hx)) (List.mem_range.1 (hm2.perm.mem_iff.1 hy)) h) (Is.srt_pw _ _ (fun i j h1 h2 h3 => hs2 i j h1 h2 (by rw [hm2.len, hrl] at h3; exact h3))) (idxI_pw t) (hm2.perm.trans (idxI_perm t).symm)
        subst hSI
        have HB2 : Hid (Below w.heap.size w w2) := HBW.out.grown hg2 HBW.out.size (fun h e => by injection e with e; subst e; omega)
        have HPR : Hid (PlR w2 (some ⟨g, 0, none⟩) (idxI t)) := fun h0 => ⟨g, rfl, (ho2.2.lt g rfl).2, fun k x hx => by
          have hk : k < t.length := by rw [← idx_len]; exact (List.getElem?_eq_some_iff.1 hx).1
          have := ho2.cell k hk
          rw [this]
          unfold Bp.at0
          rw [hx]
          rfl⟩
        clear ho2 hm2 hs2 hg2 HSO HCM
        go_wp2_with fail
        go_ret
        exact ⟨some ⟨g, 0, none⟩, cap, rfl, HPR.out, HB2.out⟩
end Go.Proofs.YtijfcmlgohbndaaGreatDoor

namespace Go.Proofs.YtijfcmlgohbndaaGreatDoor
set_option maxRecDepth 100000
set_option linter.unusedSimpArgs false
set_option linter.unusedVariables false
open Go.RowKit Go.Joins Go.Deep
open Go.Lib hiding intOf
/-- The cells of barriers. -/
def cellsB : List (ByteArray × Nat) → List Value
  | [] => []
  | x :: l => .string x.1 :: .int .i64 (x.2 : Nat) :: cellsB l
theorem cellsB_app : ∀ (l m : List (ByteArray × Nat)), cellsB (l ++ m) = cellsB l ++ cellsB m
  | [], m => rfl
  | x :: l, m => by rw [List.cons_append, cellsB, cellsB, cellsB_app l m]; rfl
theorem cellsB_len : ∀ l : List (ByteArray × Nat), (cellsB l).length = l.length * 2
  | [] => rfl
  | x :: l => by rw [cellsB, List.length_cons, List.length_cons, cellsB_len l, List.length_cons]; omega
theorem cellsB_get : ∀ (l : List (ByteArray × Nat)) (k : Nat) (x : ByteArray × Nat), l[k]? = some x → (cellsB l)[k * 2]? = some (.string x.1) ∧ (cellsB l)[k * 2 + 1]? = some (.int .i64 (x.2 : Nat))
  | [], k, x, h => by simp at h
  | y :: l, 0, x, h => by simp at h; subst h; exact ⟨rfl, rfl⟩
  | y :: l, k + 1, x, h => by
    have := cellsB_get l k x (by simpa using h)
    rw [cellsB, show (k + 1) * 2 = k * 2 + 1 + 1 by omega]
    simpa using this
theorem cellsB_take : ∀ (l : List (ByteArray × Nat)) (m : Nat), cellsB (l.take m) = (cellsB l).take (m * 2)
  | [], m => by simp [cellsB]
  | x :: l, 0 => by simp [cellsB]
  | x :: l, m + 1 => by
    rw [List.take_succ_cons, cellsB, cellsB, cellsB_take l m, show (m + 1) * 2 = m * 2 + 1 + 1 by omega, List.take_succ_cons, List.take_succ_cons]
theorem own_takeB {w : World} {B cap m : Nat} {A : Option Addr} {l : List (ByteArray × Nat)} (h : w.ownsRow B 85 2 (.slice A l.length cap) l.length (cellsB l)) (hm : m ≤ l.length) : w.ownsRow B 85 2 (.slice A m cap) m (cellsB (l.take m)) := by
  refine ⟨by rw [cellsB_len, List.length_take]; omega, ?_⟩
  rcases h.2 with ⟨he, h0⟩ | ⟨g, cp, cur, he, hb, hg, hnc, hmx, hsz, hxs⟩
  · injection he with e1 e2 e3
    exact .inl ⟨by rw [e1, e3, show m = 0 by omega], by omega⟩
  · injection he with e1 e2 e3
    refine .inr ⟨g, cp, cur, by rw [e1, e3], hb, hg, by omega, hmx, hsz, ?_⟩
    rw [cellsB_take, ← hxs, List.take_take]
    congr 1
    omega
/-- How many elements a slice has. -/
def slcN : Value → Nat
  | .slice _ n _ => n
  | _ => 0
theorem popB_keep (p : ByteArray) (l : List (ByteArray × Nat)) (b : ByteArray × Nat) (h : undB p b.1 = true) : popB p (l ++ [b]) = l ++ [b] := by
  unfold popB
  rw [List.reverse_append, List.reverse_singleton, List.singleton_append, List.dropWhile_cons_of_neg (by rw [h]; decide)]
  simp
theorem popB_drop (p : ByteArray) (l : List (ByteArray × Nat)) (b : ByteArray × Nat) (h : undB p b.1 = false) : popB p (l ++ [b]) = popB p l := by
  unfold popB
  rw [List.reverse_append, List.reverse_singleton, List.singleton_append, List.dropWhile_cons_of_pos (by rw [h]; decide)]
theorem popB_nil (p : ByteArray) : popB p [] = [] := rfl
theorem popB_le (p : ByteArray) (l : List (ByteArray × Nat)) : (popB p l).length ≤ l.length := by
  unfold popB
  rw [List.length_reverse]
  have := (List.dropWhile_sublist (fun b : ByteArray × Nat => !(undB p b.1)) (l := l.reverse)).length_le
  rw [List.length_reverse] at this
  exact this
set_option maxHeartbeats 8000000 in
theorem dover_any (B : Nat) (A : Option Addr) (cap : Nat) (l : List (ByteArray × Nat)) (p : ByteArray) (w : World) (hl : l.length ≤ 100000) (ho : w.ownsRow B 85 2 (.slice A l.length cap) l.length (cellsB l)) :
    Calls Tryz.prog 27 #[.slice A l.length cap, .string p] w fun e w' => e = .returned (.slice A (popB p l).length cap) ∧ w'.ownsRow B 85 2 (.slice A (popB p l).length cap) (popB p l).length (cellsB (popB p l)) ∧ w' = w := by
  have HO := Lib.hid ho
  have HP : Hid (popB p l = popB p l) := rfl
  obtain ⟨R, hR⟩ : ∃ R, R = popB p l := ⟨_, rfl⟩
  have HR := Lib.hid hR
  rw [← hR]
  clear ho hR HP
  go_enter Tryz.func27, Tryz.ntmps27
  go_wp2_with fail
  go_loopw [0] (fun v0 wr => ∃ m : Nat, m ≤ l.length ∧ v0 = .slice A m cap ∧ Hid (R = popB p (l.take m)) ∧ wr = w) (fun v _ => slcN v)
  case atStart => exact ⟨l.length, Nat.le_refl _, rfl, by rw [List.take_length]; exact HR.out, rfl⟩
  case round =>
    obtain ⟨m, hm, rfl, HQ, rfl⟩ := hrel
    have HOM := Lib.hid (own_takeB HO.out hm)
    by_cases h0 : m = 0
    · subst h0
      have HE : Hid (R = []) := by show _ = _; rw [HQ.out, List.take_zero]; rfl
      go_wp2_with fail
      go_ret
      rw [HE.out]
      exact ⟨rfl, HOM.out, rfl⟩
    · obtain ⟨j, rfl⟩ : ∃ j, m = j + 1 := ⟨m - 1, by omega⟩
      have hjl : j < l.length := by omega
      have HTS : Hid (l.take (j + 1) = l.take j ++ [l[j]]) := List.take_succ_eq_append_getElem hjl
      have hj1 : (0 : Int) < (j : Int) + 1 := by omega
      have hj2 : IntKind.i64.wrap ((j : Int) + 1 - 1) = (j : Int) := by rw [IntKind.wrap_i64]; omega
      have hj2' : IntKind.i64.wrap (j : Int) = (j : Int) := by rw [IntKind.wrap_i64]; omega
      have hj3 : (j : Int) < (j : Int) + 1 := by omega
      obtain ⟨g, rfl, hcap⟩ : ∃ g, A = some ⟨g, 0, none⟩ ∧ j + 1 ≤ cap := by
        rcases HOM.out.2 with ⟨he, h0⟩ | ⟨g, cp, cur, he, _, _, hnc, _⟩
        · omega
        · injection he with e1 _ e3; exact ⟨g, e1, by omega⟩
      have hcap1 : (j : Int) ≤ (cap : Int) := by omega
      have hcap2 : j ≤ cap := by omega
      have k0 : wr.cell? ⟨g, j * 2, none⟩ = some (.string l[j].1) := by
        rw [HOM.out.cellAt (j * 2) (by omega), HTS.out]
        exact (cellsB_get _ j l[j] (by rw [List.getElem?_append_right (by rw [List.length_take]; omega), List.length_take]; simp [Nat.min_eq_left (Nat.le_of_lt hjl)])).1
      have HU := Lib.hid (fun w => under_any p l[j].1 w)
      have HK := Lib.hid (popB_keep p (l.take j) l[j])
      have HD := Lib.hid (popB_drop p (l.take j) l[j])
      have HQ2 : Hid (R = popB p (l.take j ++ [l[j]])) := by show _ = _; rw [HQ.out, HTS.out]
      have HLT : Hid ((l.take j ++ [l[j]]).length = j + 1) := by show _ = _; rw [List.length_append, List.length_take]; simp; omega
      generalize l[j] = b at *
      generalize hu : undB p b.1 = U at *
      cases U with
      | true =>
        have HE : Hid (R = l.take (j + 1)) := by show _ = _; rw [HQ2.out, HK.out rfl, HTS.out]
        have HEL : Hid (R.length = j + 1) := by show _ = _; rw [HE.out, HTS.out, HLT.out]
        clear HK HD HQ HQ2
        go_wp2_with fail
        refine (HU.out _).mono ?_; rintro e wx ⟨rfl, hw⟩; rw [hw]; clear hw wx
        go_wp2_with fail
        go_ret
        rw [HEL.out, HE.out]
        exact ⟨rfl, HOM.out, rfl⟩
      | false =>
        have HE : Hid (R = popB p (l.take j)) := by show _ = _; rw [HQ2.out, HD.out rfl]
        clear HK HD HQ HQ2
        go_wp2_with fail
        refine (HU.out _).mono ?_; rintro e wx ⟨rfl, hw⟩; rw [hw]; clear hw wx
        go_wp2_with fail
        go_roundw
        case rel => exact ⟨j, by omega, rfl, HE, by trivial⟩
        case measure => simp [slcN]
end Go.Proofs.YtijfcmlgohbndaaGreatDoor

namespace Go.Proofs.YtijfcmlgohbndaaGreatDoor
set_option maxRecDepth 100000
set_option linter.unusedSimpArgs false
set_option linter.unusedVariables false
open Go.RowKit Go.Joins Go.Deep
open Go.Lib hiding intOf
/-- Stands an item behind another one? -/
def behI (x y : Itm) : Bool := decide (ordT x.s y.s < 0)
/-- An item ahead of the first one that stands behind it. -/
def putS (x : Itm) (l : List Itm) : List Itm := l.takeWhile (fun y => !behI x y) ++ x :: l.dropWhile (fun y => !behI x y)
theorem takeWhile_all {α : Type} (f : α → Bool) (l : List α) (h : ∀ x ∈ l, f x = true) : l.takeWhile f = l ∧ l.dropWhile f = [] := by
  induction l with
  | nil => exact ⟨rfl, rfl⟩
  | cons a l ih =>
    have := ih fun x hx => h x (List.mem_cons_of_mem _ hx)
    rw [List.takeWhile_cons_of_pos (h a List.mem_cons_self), List.dropWhile_cons_of_pos (h a List.mem_cons_self), this.1, this.2]
    exact ⟨rfl, rfl⟩
theorem takeWhile_snoc {α : Type} (f : α → Bool) (l : List α) (y : α) (h : ∃ x ∈ l, f x = false) : (l ++ [y]).takeWhile f = l.takeWhile f ∧ (l ++ [y]).dropWhile f = l.dropWhile f ++ [y] := by
  induction l with
  | nil => obtain ⟨x, hx, _⟩ := h; cases hx
  | cons a l ih =>
    by_cases e : f a = true
    · have := ih (by
        obtain ⟨x, hx, k⟩ := h
        rcases List.mem_cons.1 hx with q | q
        · subst q; rw [e] at k; cases k
        · exact ⟨x, q, k⟩)
      rw [List.cons_append, List.takeWhile_cons_of_pos e, List.takeWhile_cons_of_pos e, List.dropWhile_cons_of_pos e, List.dropWhile_cons_of_pos e, this.1, this.2]
      exact ⟨rfl, rfl⟩
    · rw [List.cons_append, List.takeWhile_cons_of_neg e, List.takeWhile_cons_of_neg e, List.dropWhile_cons_of_neg e, List.dropWhile_cons_of_neg e]
      exact ⟨rfl, rfl⟩
/-- What is laid down behind the items of a list: with the item, where one of them stands behind it. -/
def nxtS (x : Itm) (l : List Itm) : List Itm := if l.any (behI x) = true then putS x l else l
theorem nxtS_end (x : Itm) (l : List Itm) : (if l.any (behI x) = true then nxtS x l else nxtS x l ++ [x]) = putS x l := by
  unfold nxtS
  by_cases h : l.any (behI x) = true
  · rw [if_pos h, if_pos h]
  · rw [if_neg h, if_neg h]
    have h := Bool.eq_false_iff.2 h
    rw [List.any_eq_false] at h
    have := takeWhile_all (fun y => !behI x y) l fun y hy => by simpa using h y hy
    unfold putS
    rw [this.1, this.2]
theorem nxtS_snoc (x y : Itm) (l : List Itm) : nxtS x (l ++ [y]) = (if l.any (behI x) = true then nxtS x l else if behI x y = true then nxtS x l ++ [x] else nxtS x l) ++ [y] := by
  unfold nxtS
  rw [List.any_append, List.any_cons, List.any_nil, Bool.or_false]
  by_cases h : l.any (behI x) = true
  · rw [h, Bool.true_or, if_pos rfl, if_pos rfl]
    rw [List.any_eq_true] at h
    obtain ⟨z, hz, hb⟩ := h
    have := takeWhile_snoc (fun y => !behI x y) l y ⟨z, hz, by rw [hb]; rfl⟩
    unfold putS
    rw [this.1, this.2, if_pos rfl]
    simp
  · have h := Bool.eq_false_iff.2 h
    have e0 : (if l.any (behI x) = true then putS x l else l) = l := by rw [h]; rfl
    rw [e0, h, Bool.false_or, if_neg (show ¬ (false = true) by decide)]
    rw [List.any_eq_false] at h
    have ha := takeWhile_all (fun y => !behI x y) l fun y hy => by simpa using h y hy
    by_cases hy : behI x y = true
    · simp only [hy, if_true]
      unfold putS
      rw [List.takeWhile_append_of_pos (fun z hz => by simpa using h z hz), List.dropWhile_append_of_pos (fun z hz => by simpa using h z hz)]
      rw [List.takeWhile_cons_of_neg (by rw [hy]; decide), List.dropWhile_cons_of_neg (by rw [hy]; decide)]
      simp
    · simp only [hy, if_false]
      rfl
/-- All, one behind the other. -/
def insAll (l : List Itm) : List Itm := l.foldl (fun o x => putS x o) []
theorem insAll_snoc (l : List Itm) (x : Itm) : insAll (l ++ [x]) = putS x (insAll l) := by simp [insAll]
theorem putS_map (l : List Itm) (k : Nat) (S : List Nat) : putS (atL l k) (S.map (atL l)) = (S.takeWhile (fun j => !behI (atL l k) (atL l j)) ++ k :: S.dropWhile (fun j => !behI (atL l k) (atL l j))).map (atL l) := by
  unfold putS
  rw [List.takeWhile_map, List.dropWhile_map, List.map_append, List.map_cons]
  rfl
theorem ins_part (l : List Itm) : ∀ k, k ≤ l.length → ∃ S : List Nat, insAll (l.take k) = S.map (atL l) ∧ S.Perm (List.range k) ∧ S.Pairwise (fun a b => rnk l a ≤ rnk l b)
  | 0, _ => ⟨[], rfl, List.Perm.refl _, List.Pairwise.nil⟩
  | k + 1, hk => by
    obtain ⟨S, e, hp, hs⟩ := ins_part l k (by omega)
    have hlt : ∀ j ∈ S, j < k := fun j hj => List.mem_range.1 (hp.mem_iff.1 hj)
    obtain ⟨p, hpp⟩ : ∃ p : Nat → Bool, p = fun j => !behI (atL l k) (atL l j) := ⟨_, rfl⟩
    have hp1 : ∀ j ∈ S, p j = true → rnk l j ≤ rnk l k := fun j hj h => by
      rw [hpp] at h
      have h : ¬ ordT (atL l k).s (atL l j).s < 0 := by simpa [behI] using h
      have hj := hlt j hj
      rcases ahd_total (l := l) (show j ≠ k by omega) with q | q
      · exact Nat.le_of_lt (rnk_lt (by omega) q)
      · have := of_decide_eq_true q
        omega
    have hp0 : ∀ j ∈ S, p j = false → rnk l k ≤ rnk l j := fun j hj h => by
      rw [hpp] at h
      have h : ordT (atL l k).s (atL l j).s < 0 := by simpa [behI] using h
      exact Nat.le_of_lt (rnk_lt (by omega) (decide_eq_true (.inl h)))
    refine ⟨S.takeWhile p ++ k :: S.dropWhile p, ?_, ?_, ?_⟩
    · have e2 : l.take (k + 1) = l.take k ++ [atL l k] := by
        rw [List.take_add_one, List.getElem?_eq_getElem (by omega)]
        show _ = _ ++ [l[k]?.getD default]
        rw [List.getElem?_eq_getElem (by omega)]
        rfl
      rw [e2, insAll_snoc, e, putS_map, hpp]
    · refine (List.perm_middle).trans ?_
      rw [List.takeWhile_append_dropWhile, List.range_succ]
      exact (List.Perm.cons _ hp).trans (List.perm_append_singleton _ _).symm
    · have hsp : (S.takeWhile p ++ S.dropWhile p).Pairwise (fun a b => rnk l a ≤ rnk l b) := by rw [List.takeWhile_append_dropWhile]; exact hs
      rw [List.pairwise_append] at hsp ⊢
      obtain ⟨a1, a2, a3⟩ := hsp
      have htk : ∀ a ∈ S.takeWhile p, rnk l a ≤ rnk l k := fun a ha => hp1 a (List.takeWhile_subset _ ha) (List.all_eq_true.1 List.all_takeWhile a ha)
      refine ⟨a1, ?_, fun a ha b hb => ?_⟩
      · rw [List.pairwise_cons]
        refine ⟨fun b hb => ?_, a2⟩
        cases hd : S.dropWhile p with
        | nil => rw [hd] at hb; cases hb
        | cons c m =>
          have hc : p c = false := by
            have := List.head?_dropWhile_not p S
            rw [hd] at this
            simpa using this
          have hcS : c ∈ S := (List.dropWhile_sublist p).subset (by rw [hd]; exact List.mem_cons_self)
          have h1 := hp0 c hcS hc
          rw [hd] at hb a2
          rw [List.pairwise_cons] at a2
          rcases List.mem_cons.1 hb with q | q
          · subst q; exact h1
          · exact Nat.le_trans h1 (a2.1 b q)
      · rcases List.mem_cons.1 hb with q | q
        · subst q; exact htk a ha
        · exact a3 a ha b q
theorem insAll_sort (l : List Itm) : insAll l = sortI l := by
  obtain ⟨S, e, hp, hs⟩ := ins_part l l.length (Nat.le_refl _)
  rw [List.take_length] at e
  have := Is.fix_perm (rnk l) S (idxI l) (fun x hx y hy h => rnk_inj (List.mem_range.1 (hp.mem_iff.1 hx)) (List.mem_range.1 (hp.mem_iff.1 hy)) h) hs (idxI_pw l) (hp.trans (idxI_perm l).symm)
  rw [e, this]
  rfl
end Go.Proofs.YtijfcmlgohbndaaGreatDoor

namespace Go.Proofs.YtijfcmlgohbndaaGreatDoor
set_option maxRecDepth 100000
set_option linter.unusedSimpArgs false
set_option linter.unusedVariables false
open Go.RowKit Go.Joins Go.Deep
open Go.Lib hiding intOf
theorem putS_len (x : Itm) (l : List Itm) : (putS x l).length = l.length + 1 := by
  unfold putS
  have := congrArg List.length (List.takeWhile_append_dropWhile (p := fun y => !behI x y) (l := l))
  rw [List.length_append] at this
  simp
  omega
theorem nxtS_len (x : Itm) (l : List Itm) : (nxtS x l).length ≤ l.length + 1 := by
  unfold nxtS
  split
  · rw [putS_len]; omega
  · omega
theorem insAll_len (l : List Itm) : (insAll l).length = l.length := by rw [insAll_sort, sortI_len]
theorem insAll_mem {l : List Itm} {x : Itm} (h : x ∈ insAll l) : x ∈ l := by
  rw [insAll_sort] at h
  exact sortI_mem l x h
/-- The eight cells of an item in a block of its own. -/
theorem cells_of_box {w : World} {g : Nat} {X : Itm} (h : w.heap[g]? = some (.cells X.cells 47 (0, 0))) : w.cell? ⟨g, 0, none⟩ = some (.string X.s) ∧ w.cell? ⟨g, 1, none⟩ = some (.int .i64 X.k) ∧ w.cell? ⟨g, 2, none⟩ = some (.int .u32 X.m) ∧ w.cell? ⟨g, 3, none⟩ = some (.int .u32 X.u) ∧ w.cell? ⟨g, 4, none⟩ = some (.int .u32 X.g) ∧ w.cell? ⟨g, 5, none⟩ = some (.int .i64 X.t) ∧ w.cell? ⟨g, 6, none⟩ = some (.int .i64 X.a) ∧ w.cell? ⟨g, 7, none⟩ = some (.string X.d) :=
  ⟨(cell_of_row _ _ 0 _ _ _ h).trans rfl, (cell_of_row _ _ 1 _ _ _ h).trans rfl, (cell_of_row _ _ 2 _ _ _ h).trans rfl, (cell_of_row _ _ 3 _ _ _ h).trans rfl, (cell_of_row _ _ 4 _ _ _ h).trans rfl, (cell_of_row _ _ 5 _ _ _ h).trans rfl, (cell_of_row _ _ 6 _ _ _ h).trans rfl, (cell_of_row _ _ 7 _ _ _ h).trans rfl⟩
theorem news_box (w : World) (X : Itm) : ∀ j u, X.cellsL[j]? = some u → (w.alloc (.cells X.cells 47)).cell? ((⟨w.heap.size, 0, none⟩ : Addr).add j) = some u := fun j u hj => by
  rw [Addr.add_lit, Nat.zero_add, cell_of_row _ _ j _ _ _ (heap_alloc_new w _)]
  simpa [Itm.cells, Itm.cellsL] using hj
theorem own_belowI {w w' : World} {base size n : Nat} {e : TypeId} {v : Value} {xs : List Value} (h : w.ownsRow base e size v n xs) (hb : Below w.heap.size w w') : w'.ownsRow base e size v n xs :=
  h.kept (row := none) ⟨hb.os, hb.tape, hb.output, hb.size, fun i hi _ => hb.block i hi⟩ (by cases hv : v.ownBlock <;> simp)
theorem one_box (X : Itm) : ∀ u ∈ X.cellsL, u.oneCell' = true := fun u hu => cellsI_one [X] u (by rw [cellsI, cellsI, List.append_nil]; exact hu)
theorem cells_snoc (L : List Itm) (X : Itm) : cellsI L ++ X.cellsL = cellsI (L ++ [X]) := by rw [cellsI_app, cellsI, cellsI, List.append_nil]
end Go.Proofs.YtijfcmlgohbndaaGreatDoor

namespace Go.Proofs.YtijfcmlgohbndaaGreatDoor
set_option maxRecDepth 100000
set_option linter.unusedSimpArgs false
set_option linter.unusedVariables false
open Go.RowKit Go.Joins Go.Deep
open Go.Lib hiding intOf
def oddS (t : List Itm) : ByteArray := if oddN t < t.length then (atL t (oddN t)).s else ⟨#[]⟩
def oddB (t : List Itm) : Bool := decide (oddN t < t.length)
theorem odd_hit {t : List Itm} {k : Nat} (hk : k < t.length) (h0 : ∀ i, i < k → oddAt t i = false) (h : oddAt t k = true) : oddS t = (atL t k).s ∧ oddB t = true := by
  have : oddN t = k := oddN_of (Nat.le_of_lt hk) (fun _ => h) fun i hi h2 => by
    rcases Nat.lt_or_ge i k with q | q
    · rw [h0 i q] at h2; cases h2
    · exact q
  unfold oddS oddB
  rw [this, if_pos hk, decide_eq_true hk]
  exact ⟨rfl, rfl⟩
theorem odd_none {t : List Itm} (h0 : ∀ i, i < t.length → oddAt t i = false) : oddS t = ⟨#[]⟩ ∧ oddB t = false := by
  have : oddN t = t.length := oddN_of (Nat.le_refl _) (fun h => absurd h (Nat.lt_irrefl _)) fun i hi h2 => by
    rw [h0 i hi] at h2; cases h2
  unfold oddS oddB
  rw [this, if_neg (Nat.lt_irrefl _), decide_eq_false (Nat.lt_irrefl _)]
  exact ⟨rfl, rfl⟩
theorem odd_at {t : List Itm} {k j : Nat} (hj : j < k) (h : cfl (atL t k) (atL t j) = true) : oddAt t k = true := by
  unfold oddAt
  rw [List.any_eq_true]
  exact ⟨j, List.mem_range.2 hj, h⟩
theorem odd_not {t : List Itm} {k : Nat} (h : ∀ q, q < k → cfl (atL t k) (atL t q) = false) : oddAt t k = false := by
  unfold oddAt
  rw [List.any_eq_false]
  intro q hq
  rw [h q (List.mem_range.1 hq)]
  decide
theorem two_al (w : World) (X Y : Itm) : ((w.alloc (.cells X.cells 47)).alloc (.cells Y.cells 47)).drew.heap[w.heap.size]? = some (.cells X.cells 47 (0, 0)) ∧ ((w.alloc (.cells X.cells 47)).alloc (.cells Y.cells 47)).drew.heap[w.heap.size + 1]? = some (.cells Y.cells 47 (0, 0)) ∧ Below w.heap.size w ((w.alloc (.cells X.cells 47)).alloc (.cells Y.cells 47)).drew := by
  have hz : (w.alloc (.cells X.cells 47)).heap.size = w.heap.size + 1 := by simp only [World.alloc, Array.size_push]
  have h1 := heap_alloc_new w (.cells X.cells 47)
  have h2 := heap_alloc_new (w.alloc (.cells X.cells 47)) (.cells Y.cells 47)
  rw [hz] at h2
  exact ⟨((below_al _ (.cells Y.cells 47)).block _ (lt_of_block h1)).trans h1, h2, (below_then (below_al w _) (below_al _ _)).drew⟩
end Go.Proofs.YtijfcmlgohbndaaGreatDoor
