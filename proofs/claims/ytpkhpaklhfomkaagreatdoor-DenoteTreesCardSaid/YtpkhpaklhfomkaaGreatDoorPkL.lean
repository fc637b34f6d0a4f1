/-
  Package denote: byPath.
  Package denote: the barriers above a path.
  Trees: the document's Odds.
  Package denote: Odds.
-/
import Derived.Test.YtpkhpaklhfomkaaGreatDoorBpC
import Derived.Test.YtpkhpaklhfomkaaGreatDoorPkE
import Derived.Test.YtpkhpaklhfomkaaGreatDoorNamB
import Derived.Deep.QuietTactic
import Derived.Test.YtpkhpaklhfomkaaGreatDoorNamC
import Derived.Laws.OwnMore
import Derived.Test.YtpkhpaklhfomkaaGreatDoorPkJ
import Derived.RegionTactic
import Derived.ChangeAlike
import Derived.Deep.Cut
import Derived.Deep.CutBlock
import Derived.Deep.CutRange
import Derived.Lib.MinMax

namespace Go.Proofs.YtpkhpaklhfomkaaGreatDoor
set_option maxRecDepth 100000
set_option linter.unusedSimpArgs false
set_option linter.unusedVariables false
open Go.RowKit Go.Joins Go.Deep
open Go.Lib hiding intOf
theorem atL_get (t : List Itm) (k : Nat) (h : k < t.length) : t[k] = atL t k := by show _ = t[k]?.getD default; rw [List.getElem?_eq_getElem h]; rfl
set_option maxHeartbeats 4000000 in
theorem cmpB_any (pc : Nat) (A : Option Addr) (cap : Nat) (t : List Itm) (a b : Nat) (w : World) (hT : Itms w A t) (hp : w.cell? ⟨pc, 0, none⟩ = some (.slice A t.length cap)) (ha : a < t.length) (hb : b < t.length) (hs : ∀ x ∈ t, x.s.size ≤ 1000000) (hl : t.length ≤ 1000) :
    Calls Tryz.prog 47 #[.int .i64 (a : Nat), .int .i64 (b : Nat), .pointer (some ⟨pc, 0, none⟩)] w fun e w' => e = .returned (.int .i64 (ordT (atL t a).s (atL t b).s)) ∧ ∃ d, w' = w.drewN d := by
  obtain ⟨bk, off, rfl, hbl, hc⟩ := hT (by omega)
  have c1 := (hc a t[a] (List.getElem?_eq_getElem ha)).1
  have c2 := (hc b t[b] (List.getElem?_eq_getElem hb)).1
  have HO := Lib.hid (fun w => order_any t[a].s t[b].s w (by have := hs _ (List.getElem_mem ha); omega))
  rw [atL_get t a ha] at c1 HO
  rw [atL_get t b hb] at c2 HO
  have hai : (a : Int) < (t.length : Int) := by omega
  have hbi : (b : Int) < (t.length : Int) := by omega
  generalize (atL t a).s = x at *
  generalize (atL t b).s = y at *
  clear hc hT hs
  go_enter Tryz.func47, Tryz.ntmps47
  go_wp2
  go_quiet (first | (go_at_call 48; exact Calls.quiet_of (HO.out _)))
  go_wp2
  go_ret
  exact ⟨rfl, _, rfl⟩
theorem info_intB : (Tryz.prog.info? 3).map (fun i => (i.zero, i.size, i.bytes)) = some (some (.int .i64 0), 1, 8) := by kernel_rfl
/-- A row of places. -/
def PlR (w : World) (A : Option Addr) (l : List Nat) : Prop := 0 < l.length → ∃ g, A = some ⟨g, 0, none⟩ ∧ g < w.heap.size ∧ ∀ k x, l[k]? = some x → w.cell? ⟨g, k, none⟩ = some (.int .i64 (x : Nat))
theorem PlR.below {w w' : World} {A : Option Addr} {l : List Nat} (h : PlR w A l) (hb : Below w.heap.size w w') : PlR w' A l := fun h0 => by
  obtain ⟨g, e, hg, hc⟩ := h h0
  exact ⟨g, e, Nat.lt_of_lt_of_le hg hb.size, fun k x hx => (hb.cell (p := ⟨g, k, none⟩) hg).trans (hc k x hx)⟩
theorem range_inc (n : Nat) : ∀ p q, p < q → q < n → Bp.at0 (List.range n) p < Bp.at0 (List.range n) q := fun p q h1 h2 => by
  unfold Bp.at0
  rw [List.getElem?_range (by omega), List.getElem?_range h2]
  exact h1
set_option maxHeartbeats 8000000 in
theorem byPath_any (A : Option Addr) (c : Nat) (t : List Itm) (w : World) (hT : Itms w A t) (hl : t.length ≤ 1000) (hs : ∀ x ∈ t, x.s.size ≤ 1000000) :
    Calls Tryz.prog 21 #[.slice A t.length c] w fun e w' => ∃ A' c', e = .returned (.slice A' t.length c') ∧ PlR w' A' (idxI t) ∧ Below w.heap.size w w' := by
  have hmf : ∀ (fn : Fn) (first cap : Array Value) (w : World), (Instr.makeFunc fn first cap).run Tryz.prog w = .ok (.func fn first cap) w := fun _ _ _ _ => rfl
  obtain ⟨i0, hi, hz0, hz1, hz2⟩ := info_parts info_intB
  have hb1 := below_al w (.cells #[.slice A t.length c] 22)
  have c0 : (w.alloc (.cells #[.slice A t.length c] 22)).cell? ⟨w.heap.size, 0, none⟩ = some (.slice A t.length c) := (cell_of_row _ _ 0 _ _ _ (heap_alloc_new w _)).trans rfl
  have hs1 : (w.alloc (.cells #[.slice A t.length c] 22)).heap.size = w.heap.size + 1 := by simp
  have HT := Lib.hid hT
  have HS := Lib.hid hs
  clear hT hs
  go_enter Tryz.func21, Tryz.ntmps21
  go_wp2_with fail
  generalize w.alloc (.cells #[.slice A t.length c] 22) = w1 at *
  have HI : Hid (Below w.heap.size w w1 ∧ w1.cell? ⟨w.heap.size, 0, none⟩ = some (.slice A t.length c) ∧ w1.heap.size = w.heap.size + 1) := ⟨hb1, c0, hs1⟩
  clear hb1 c0 hs1
  go_loopw [3, 7] (fun v i wr => ∃ k : Nat, k ≤ t.length ∧ i = .int .i64 (k : Nat) ∧ wr.ownsRow (w.heap.size + 1) 3 1 v k ((List.range k).map Bp.iv) ∧ Below w1.heap.size w1 wr) (fun _ i _ => t.length - (intOf i).toNat)
  case atStart => exact ⟨0, Nat.zero_le _, rfl, World.ownsRow_nil _ _ _ _, Below.refl _ _⟩
  case round =>
    obtain ⟨k, hk, rfl, hown, hb⟩ := hrel
    have HO := Lib.hid hown
    have HB := Lib.hid hb
    have HZ : Hid (w.heap.size + 1 ≤ wr.heap.size) := by show _ ≤ _; have := hb.size; have := HI.out.2.2; omega
    clear hown hb
    by_cases hlt : k < t.length
    · have hd : decide ((k : Int) < (t.length : Int)) = true := decide_eq_true (by omega)
      go_wp2_with (at_builtin; refine wpList_append_own _ rfl _ _ 47 rfl (w.heap.size + 1) 3 i0 (.int .i64 0) 1 8 Tryz.underlying47 hi hz0 hz1 hz2 rfl (by decide) _ _ _ rfl (HO.out.alloc _) ⟨wr.heap.size, 0, none⟩ 1 1 [.int .i64 (k : Nat)] rfl rfl ?c1 ?c2 ?c3 ?c4 ?c5 ?_)
      case c1 =>
        intro j u hj
        match j, hj with
        | 0, hj => simp at hj; subst hj; simp [Addr.add]
      case c2 => intro u hu; simp at hu; subst hu; rfl
      case c3 => unfold maxLen; omega
      case c4 => omega
      case c5 => have := HZ.out; simp; omega
      intro v' w2 hown2 hgrow2 _
      have HOW := Lib.hid (fun h => (HO.out.lt h))
      have HB2 : Hid (Below w1.heap.size w1 w2) := (below_then HB.out (below_al wr (.cells #[.int .i64 (k : Nat)] 3))).grown hgrow2 (by have := HB.out.size; simp; omega) (fun h e => by have := (HOW.out h e).1; have := HI.out.2.2; omega)
      have HO2 : Hid (w2.ownsRow (w.heap.size + 1) 3 1 v' (k + 1) ((List.range (k + 1)).map Bp.iv)) := by
        show World.ownsRow _ _ _ _ _ _ _
        rw [List.range_succ, List.map_append]
        exact hown2
      clear hown2 hgrow2 HO HOW
      go_wp2
      go_roundw
      case rel => exact ⟨k + 1, by omega, by go_num, HO2.out, HB2.out⟩
      case measure => simp [intOf]; omega
    · obtain rfl : k = t.length := by omega
      have hd : decide ((t.length : Int) < (t.length : Int)) = false := decide_eq_false (by omega)
      have HBW := Lib.hid (below_then HI.out.1 HB.out)
      have ho := HO.out
      obtain ⟨_, ⟨rfl, hz⟩ | ⟨g, cap, cur, rfl, hbg, hgh, _⟩⟩ := ho
      · have hnil : t = [] := List.eq_nil_of_length_eq_zero hz
        rw [hz]
        go_wp2_with fail
        refine (Bp.sort_nil w.heap.size wr).mono ?_
        rintro e w2 ⟨rfl, rfl⟩
        go_wp2_with fail
        go_ret
        exact ⟨none, 0, by rw [hz]; rfl, fun h => by rw [idx_len, hz] at h; omega, HBW.out⟩
      · have HCM : Hid (Bp.CmpOk wr g w.heap.size t.length (rnk t)) := ⟨fun a b => ordT (atL t a).s (atL t b).s, fun a b ha hb hba => by
            rw [rnk_iff ha hb]
            unfold ahd
            rw [decide_eq_true_iff]
            constructor
            · intro h; exact .inl h
            · rintro (h | ⟨_, h⟩)
              · exact h
              · omega, fun w3 hg3 a b ha hb => by
          have hb3 : Below w1.heap.size w1 w3 := HB.out.grown hg3 HB.out.size (fun h e => by injection e with e; subst e; have := HI.out.2.2; omega)
          exact cmpB_any w.heap.size A c t a b w3 (HT.out.below (HI.out.1.trans (hb3.mono HI.out.1.size))) ((hb3.cell (p := ⟨w.heap.size, 0, none⟩) (by have := HI.out.2.2; show w.heap.size < _; omega)).trans HI.out.2.1) ha hb HS.out hl⟩
        have hrl : (List.range t.length).length = t.length := List.length_range
        have HSO := Lib.hid (Bp.sort_any (w.heap.size + 1) g t.length cap w.heap.size t.length (rnk t) (List.range t.length) wr ⟨hrl, HO.out⟩ (fun x hx => List.mem_range.1 hx) HCM.out hl (range_inc t.length) (fun _ => Bp.sym_ok _ _ _ _ _ _ _ hl))
        clear hgh
        go_wp2_with fail
        refine (HSO.out).mono ?_
        rintro e w2 ⟨rfl, S', ho2, hm2, hs2, hg2⟩
        have hSI : S' = idxI t := Is.fix_perm (rnk t) S' (idxI t) (fun x hx y hy h => rnk_inj (List.mem_range.1 (hm2.perm.mem_iff.1 hx)) (List.mem_range.1 (hm2.perm.mem_iff.1 hy)) h) (Is.srt_pw _ _ (fun i j h1 h2 h3 => hs2 i j h1 h2 (by rw [hm2.len, hrl] at h3; exact h3))) (idxI_pw t) (hm2.perm.trans (idxI_perm t).symm)
        subst hSI
        have HB2 : Hid (Below w.heap.size w w2) := HBW.out.grown hg2 HBW.out.size (fun h e => by injection e with e; subst e; omega)
        have HPR : Hid (PlR w2 (some ⟨g, 0, none⟩) (idxI t)) := fun h0 => ⟨g, rfl, (ho2.2.lt g rfl).2, fun k x hx => by
          have hk : k < t.length := by rw [← idx_len]; exact (List.getElem?_eq_some_iff.1 hx).1
          have := ho2.cell k hk
          rw [this]
          unfold Bp.at0
          rw [hx]
          rfl⟩
        clear ho2 hm2 hs2 hg2 HSO HCM
        go_wp2_with fail
        go_ret
        exact ⟨some ⟨g, 0, none⟩, cap, rfl, HPR.out, HB2.out⟩
end Go.Proofs.YtpkhpaklhfomkaaGreatDoor

namespace Go.Proofs.YtpkhpaklhfomkaaGreatDoor
set_option maxRecDepth 100000
set_option linter.unusedSimpArgs false
set_option linter.unusedVariables false
open Go.RowKit Go.Joins Go.Deep
open Go.Lib hiding intOf
/-- The cells of barriers. -/
def cellsB : List (ByteArray × Nat) → List Value
  | [] => []
  | x :: l => .string x.1 :: .int .i64 (x.2 : Nat) :: cellsB l
theorem cellsB_app : ∀ (l m : List (ByteArray × Nat)), cellsB (l ++ m) = cellsB l ++ cellsB m
  | [], m => rfl
  | x :: l, m => by rw [List.cons_append, cellsB, cellsB, cellsB_app l m]; rfl
theorem cellsB_len : ∀ l : List (ByteArray × Nat), (cellsB l).length = l.length * 2
  | [] => rfl
  | x :: l => by rw [cellsB, List.length_cons, List.length_cons, cellsB_len l, List.length_cons]; omega
theorem cellsB_get : ∀ (l : List (ByteArray × Nat)) (k : Nat) (x : ByteArray × Nat), l[k]? = some x → (cellsB l)[k * 2]? = some (.string x.1) ∧ (cellsB l)[k * 2 + 1]? = some (.int .i64 (x.2 : Nat))
  | [], k, x, h => by simp at h
  | y :: l, 0, x, h => by simp at h; subst h; exact ⟨rfl, rfl⟩
  | y :: l, k + 1, x, h => by
    have := cellsB_get l k x (by simpa using h)
    rw [cellsB, show (k + 1) * 2 = k * 2 + 1 + 1 by omega]
    simpa using this
theorem cellsB_take : ∀ (l : List (ByteArray × Nat)) (m : Nat), cellsB (l.take m) = (cellsB l).take (m * 2)
  | [], m => by simp [cellsB]
  | x :: l, 0 => by simp [cellsB]
  | x :: l, m + 1 => by
    rw [List.take_succ_cons, cellsB, cellsB, cellsB_take l m, show (m + 1) * 2 = m * 2 + 1 + 1 by omega, List.take_succ_cons, List.take_succ_cons]
theorem own_takeB {w : World} {B cap m : Nat} {A : Option Addr} {l : List (ByteArray × Nat)} (h : w.ownsRow B 52 2 (.slice A l.length cap) l.length (cellsB l)) (hm : m ≤ l.length) : w.ownsRow B 52 2 (.slice A m cap) m (cellsB (l.take m)) := by
  refine ⟨by rw [cellsB_len, List.length_take]; omega, ?_⟩
  rcases h.2 with ⟨he, h0⟩ | ⟨g, cp, cur, he, hb, hg, hnc, hmx, hsz, hxs⟩
  · injection he with e1 e2 e3
    exact .inl ⟨by rw [e1, e3, show m = 0 by omega], by omega⟩
  · injection he with e1 e2 e3
    refine .inr ⟨g, cp, cur, by rw [e1, e3], hb, hg, by omega, hmx, hsz, ?_⟩
    rw [cellsB_take, ← hxs, List.take_take]
    congr 1
    omega
/-- How many elements a slice has. -/
def slcN : Value → Nat
  | .slice _ n _ => n
  | _ => 0
theorem popB_keep (p : ByteArray) (l : List (ByteArray × Nat)) (b : ByteArray × Nat) (h : undB p b.1 = true) : popB p (l ++ [b]) = l ++ [b] := by
  unfold popB
  rw [List.reverse_append, List.reverse_singleton, List.singleton_append, List.dropWhile_cons_of_neg (by rw [h]; decide)]
  simp
theorem popB_drop (p : ByteArray) (l : List (ByteArray × Nat)) (b : ByteArray × Nat) (h : undB p b.1 = false) : popB p (l ++ [b]) = popB p l := by
  unfold popB
  rw [List.reverse_append, List.reverse_singleton, List.singleton_append, List.dropWhile_cons_of_pos (by rw [h]; decide)]
theorem popB_nil (p : ByteArray) : popB p [] = [] := rfl
theorem popB_le (p : ByteArray) (l : List (ByteArray × Nat)) : (popB p l).length ≤ l.length := by
  unfold popB
  rw [List.length_reverse]
  have := (List.dropWhile_sublist (fun b : ByteArray × Nat => !(undB p b.1)) (l := l.reverse)).length_le
  rw [List.length_reverse] at this
  exact this
set_option maxHeartbeats 8000000 in
theorem dover_any (B : Nat) (A : Option Addr) (cap : Nat) (l : List (ByteArray × Nat)) (p : ByteArray) (w : World) (hl : l.length ≤ 100000) (ho : w.ownsRow B 52 2 (.slice A l.length cap) l.length (cellsB l)) :
    Calls Tryz.prog 22 #[.slice A l.length cap, .string p] w fun e w' => e = .returned (.slice A (popB p l).length cap) ∧ w'.ownsRow B 52 2 (.slice A (popB p l).length cap) (popB p l).length (cellsB (popB p l)) ∧ w' = w := by
  have HO := Lib.hid ho
  have HP : Hid (popB p l = popB p l) := rfl
  obtain ⟨R, hR⟩ : ∃ R, R = popB p l := ⟨_, rfl⟩
  have HR := Lib.hid hR
  rw [← hR]
  clear ho hR HP
  go_enter Tryz.func22, Tryz.ntmps22
  go_wp2_with fail
  go_loopw [0] (fun v0 wr => ∃ m : Nat, m ≤ l.length ∧ v0 = .slice A m cap ∧ Hid (R = popB p (l.take m)) ∧ wr = w) (fun v _ => slcN v)
  case atStart => exact ⟨l.length, Nat.le_refl _, rfl, by rw [List.take_length]; exact HR.out, rfl⟩
  case round =>
    obtain ⟨m, hm, rfl, HQ, rfl⟩ := hrel
    have HOM := Lib.hid (own_takeB HO.out hm)
    by_cases h0 : m = 0
    · subst h0
      have HE : Hid (R = []) := by show _ = _; rw [HQ.out, List.take_zero]; rfl
      go_wp2_with fail
      go_ret
      rw [HE.out]
      exact ⟨rfl, HOM.out, rfl⟩
    · obtain ⟨j, rfl⟩ : ∃ j, m = j + 1 := ⟨m - 1, by omega⟩
      have hjl : j < l.length := by omega
      have HTS : Hid (l.take (j + 1) = l.take j ++ [l[j]]) := List.take_succ_eq_append_getElem hjl
      have hj1 : (0 : Int) < (j : Int) + 1 := by omega
      have hj2 : IntKind.i64.wrap ((j : Int) + 1 - 1) = (j : Int) := by rw [IntKind.wrap_i64]; omega
      have hj2' : IntKind.i64.wrap (j : Int) = (j : Int) := by rw [IntKind.wrap_i64]; omega
      have hj3 : (j : Int) < (j : Int) + 1 := by omega
      obtain ⟨g, rfl, hcap⟩ : ∃ g, A = some ⟨g, 0, none⟩ ∧ j + 1 ≤ cap := by
        rcases HOM.out.2 with ⟨he, h0⟩ | ⟨g, cp, cur, he, _, _, hnc, _⟩
        · omega
        · injection he with e1 _ e3; exact ⟨g, e1, by omega⟩
      have hcap1 : (j : Int) ≤ (cap : Int) := by omega
      have hcap2 : j ≤ cap := by omega
      have k0 : wr.cell? ⟨g, j * 2, none⟩ = some (.string l[j].1) := by
        rw [HOM.out.cellAt (j * 2) (by omega), HTS.out]
        exact (cellsB_get _ j l[j] (by rw [List.getElem?_append_right (by rw [List.length_take]; omega), List.length_take]; simp [Nat.min_eq_left (Nat.le_of_lt hjl)])).1
      have HU := Lib.hid (fun w => under_any p l[j].1 w)
      have HK := Lib.hid (popB_keep p (l.take j) l[j])
      have HD := Lib.hid (popB_drop p (l.take j) l[j])
      have HQ2 : Hid (R = popB p (l.take j ++ [l[j]])) := by show _ = _; rw [HQ.out, HTS.out]
      have HLT : Hid ((l.take j ++ [l[j]]).length = j + 1) := by show _ = _; rw [List.length_append, List.length_take]; simp; omega
      generalize l[j] = b at *
      generalize hu : undB p b.1 = U at *
      cases U with
      | true =>
        have HE : Hid (R = l.take (j + 1)) := by show _ = _; rw [HQ2.out, HK.out rfl, HTS.out]
        have HEL : Hid (R.length = j + 1) := by show _ = _; rw [HE.out, HTS.out, HLT.out]
        clear HK HD HQ HQ2
        go_wp2_with fail
        refine (HU.out _).mono ?_; rintro e wx ⟨rfl, hw⟩; rw [hw]; clear hw wx
        go_wp2_with fail
        go_ret
        rw [HEL.out, HE.out]
        exact ⟨rfl, HOM.out, rfl⟩
      | false =>
        have HE : Hid (R = popB p (l.take j)) := by show _ = _; rw [HQ2.out, HD.out rfl]
        clear HK HD HQ HQ2
        go_wp2_with fail
        refine (HU.out _).mono ?_; rintro e wx ⟨rfl, hw⟩; rw [hw]; clear hw wx
        go_wp2_with fail
        go_roundw
        case rel => exact ⟨j, by omega, rfl, HE, by trivial⟩
        case measure => simp [slcN]
end Go.Proofs.YtpkhpaklhfomkaaGreatDoor

namespace Go.Proofs.YtpkhpaklhfomkaaGreatDoor
set_option maxRecDepth 100000
set_option linter.unusedSimpArgs false
set_option linter.unusedVariables false
open Go.RowKit Go.Joins Go.Deep
open Go.Lib hiding intOf
def oddS (t : List Itm) : ByteArray := if oddN t < t.length then (atL t (oddN t)).s else ⟨#[]⟩
def oddB (t : List Itm) : Bool := decide (oddN t < t.length)
theorem odd_hit {t : List Itm} {k : Nat} (hk : k < t.length) (h0 : ∀ i, i < k → oddAt t i = false) (h : oddAt t k = true) : oddS t = (atL t k).s ∧ oddB t = true := by
  have : oddN t = k := oddN_of (Nat.le_of_lt hk) (fun _ => h) fun i hi h2 => by
    rcases Nat.lt_or_ge i k with q | q
    · rw [h0 i q] at h2; cases h2
    · exact q
  unfold oddS oddB
  rw [this, if_pos hk, decide_eq_true hk]
  exact ⟨rfl, rfl⟩
theorem odd_none {t : List Itm} (h0 : ∀ i, i < t.length → oddAt t i = false) : oddS t = ⟨#[]⟩ ∧ oddB t = false := by
  have : oddN t = t.length := oddN_of (Nat.le_refl _) (fun h => absurd h (Nat.lt_irrefl _)) fun i hi h2 => by
    rw [h0 i hi] at h2; cases h2
  unfold oddS oddB
  rw [this, if_neg (Nat.lt_irrefl _), decide_eq_false (Nat.lt_irrefl _)]
  exact ⟨rfl, rfl⟩
theorem odd_at {t : List Itm} {k j : Nat} (hj : j < k) (h : cfl (atL t k) (atL t j) = true) : oddAt t k = true := by
  unfold oddAt
  rw [List.any_eq_true]
  exact ⟨j, List.mem_range.2 hj, h⟩
theorem odd_not {t : List Itm} {k : Nat} (h : ∀ q, q < k → cfl (atL t k) (atL t q) = false) : oddAt t k = false := by
  unfold oddAt
  rw [List.any_eq_false]
  intro q hq
  rw [h q (List.mem_range.1 hq)]
  decide
theorem two_al (w : World) (X Y : Itm) : ((w.alloc (.cells X.cells 33)).alloc (.cells Y.cells 33)).drew.heap[w.heap.size]? = some (.cells X.cells 33 (0, 0)) ∧ ((w.alloc (.cells X.cells 33)).alloc (.cells Y.cells 33)).drew.heap[w.heap.size + 1]? = some (.cells Y.cells 33 (0, 0)) ∧ Below w.heap.size w ((w.alloc (.cells X.cells 33)).alloc (.cells Y.cells 33)).drew := by
  have hz : (w.alloc (.cells X.cells 33)).heap.size = w.heap.size + 1 := by simp only [World.alloc, Array.size_push]
  have h1 := heap_alloc_new w (.cells X.cells 33)
  have h2 := heap_alloc_new (w.alloc (.cells X.cells 33)) (.cells Y.cells 33)
  rw [hz] at h2
  exact ⟨((below_al _ (.cells Y.cells 33)).block _ (lt_of_block h1)).trans h1, h2, (below_then (below_al w _) (below_al _ _)).drew⟩
set_option maxHeartbeats 16000000 in
theorem rodds_any (A : Option Addr) (c : Nat) (t : List Itm) (w : World) (hA : Itms w A t) (hl : t.length ≤ 1000) (hs : ∀ x ∈ t, x.s.size ≤ 100000) :
    Calls Tryz.prog 9 #[.slice A t.length c] w fun e w' => e = .returned (.tuple #[.string (oddS t), .bool (oddB t)]) ∧ Below w.heap.size w w' := by
  have hir := info_item
  have HA := Lib.hid (fun w1 (hb : Below w.heap.size w w1) => hA.below hb)
  have HS := Lib.hid hs
  obtain ⟨R1, hR1⟩ : ∃ R1, R1 = oddS t := ⟨_, rfl⟩
  obtain ⟨R2, hR2⟩ : ∃ R2, R2 = oddB t := ⟨_, rfl⟩
  rw [← hR1, ← hR2]
  have HR1 := Lib.hid hR1
  have HR2 := Lib.hid hR2
  clear hA hs hR1 hR2
  go_enter Tryz.func9, Tryz.ntmps9
  go_wp2_with fail
  go_loopw [10] (fun v10 wr => ∃ k : Nat, k ≤ t.length ∧ v10 = .int .i64 (k : Nat) ∧ Hid (∀ i, i < k → oddAt t i = false) ∧ Hid (Below w.heap.size w wr)) (fun v _ => t.length - (intOf v).toNat)
  case atStart => exact ⟨0, Nat.zero_le _, rfl, fun i hi => absurd hi (by omega), Below.refl _ _⟩
  case round =>
    obtain ⟨k, hk, rfl, H0, HBR⟩ := hrel
    by_cases hkn : k < t.length
    case neg =>
      obtain rfl : k = t.length := by omega
      have hd : decide ((t.length : Int) < (t.length : Int)) = false := decide_eq_false (by omega)
      have HN := Lib.hid (odd_none H0.out)
      have e1 : Hid (R1 = ⟨#[]⟩) := HR1.out.trans HN.out.1
      have e2 : Hid (R2 = false) := HR2.out.trans HN.out.2
      clear HN H0
      go_wp2_with fail
      go_ret2
      rw [e1.out, e2.out]
      exact ⟨rfl, HBR.out⟩
    have hd : decide ((k : Int) < (t.length : Int)) = true := decide_eq_true (by omega)
    have HH : Hid (oddAt t k = true → R1 = (atL t k).s ∧ R2 = true) := fun h => by
      have := odd_hit hkn H0.out h
      exact ⟨HR1.out.trans this.1, HR2.out.trans this.2⟩
    have HNX : Hid (oddAt t k = false → ∀ i, i < k + 1 → oddAt t i = false) := fun h i hi => by
      rcases Nat.lt_or_eq_of_le (Nat.le_of_lt_succ hi) with q | q
      · exact H0.out i q
      · rw [q]; exact h
    have HKA : Hid (t[k] = atL t k) := by show _ = t[k]?.getD default; rw [List.getElem?_eq_getElem hkn]; rfl
    have HSK := Lib.hid (HS.out _ (List.getElem_mem hkn))
    clear H0
    go_wp2_with fail
    go_loopw [5] (fun v5 wi => ∃ (j : Nat), j ≤ k ∧ v5 = .int .i64 (j : Nat) ∧ Hid (∀ q, q < j → cfl (atL t k) (atL t q) = false) ∧ Hid (Below w.heap.size w wi)) (fun v _ => k - (intOf v).toNat)
    case atStart => exact ⟨0, Nat.zero_le _, rfl, fun i hi => absurd hi (by omega), HBR.out⟩
    case round =>
      clear HBR
      obtain ⟨j, hj, rfl, HQ, HB⟩ := hrel
      by_cases hjk : j < k
      case neg =>
        obtain rfl : j = k := by omega
        have hd2 : decide ((j : Int) < (j : Int)) = false := decide_eq_false (by omega)
        have H1 := Lib.hid (HNX.out (odd_not HQ.out))
        clear HQ HNX HH
        go_wp2_with fail
        go_roundw
        case rel => exact ⟨j + 1, by omega, by go_num, H1, HB⟩
        case measure => simp [intOf]; omega
      have hd2 : decide ((j : Int) < (k : Int)) = true := decide_eq_true (by omega)
      have hjn : j < t.length := by omega
      have hji : (j : Int) < (t.length : Int) := by omega
      have hki : (k : Int) < (t.length : Int) := by omega
      obtain ⟨b, off, rfl, hb, hcc⟩ := (HA.out wr HB.out) (by omega)
      obtain ⟨c0, c1, c2, c3, c4, c5, c6, c7⟩ := hcc k t[k] (List.getElem?_eq_getElem hkn)
      obtain ⟨f0, f1, f2, f3, f4, f5, f6, f7⟩ := hcc j t[j] (List.getElem?_eq_getElem hjn)
      have HJA : Hid (t[j] = atL t j) := by show _ = t[j]?.getD default; rw [List.getElem?_eq_getElem hjn]; rfl
      have HSJ := Lib.hid (HS.out _ (List.getElem_mem hjn))
      have HHJ : Hid (cfl t[k] t[j] = true → R1 = t[k].s ∧ R2 = true) := fun h => by
        rw [HKA.out, HJA.out] at h
        rw [HKA.out]
        exact HH.out (odd_at hjk h)
      have HNJ : Hid (cfl t[k] t[j] = false → ∀ q, q < j + 1 → cfl (atL t k) (atL t q) = false) := fun h q hq => by
        rw [HKA.out, HJA.out] at h
        rcases Nat.lt_or_eq_of_le (Nat.le_of_lt_succ hq) with p | p
        · exact HQ.out q p
        · rw [p]; exact h
      clear hcc HQ HJA
      generalize t[j] = Y at *
      have HSX : Hid (t[k].s.size ≤ 100000) := HSK
      generalize hX : t[k] = X at *
      have HX := Lib.hid hX
      clear hX
      go_upto_region 7 with fail
      go_cut [6, 7] from 18 to 25 (fun v6 v7 wx => ∃ ga gb : Nat, v6 = .pointer (some ⟨ga, 0, none⟩) ∧ v7 = .pointer (some ⟨gb, 0, none⟩) ∧ Hid (wx.heap[ga]? = some (.cells X.cells 33 (0, 0))) ∧ Hid (wx.heap[gb]? = some (.cells Y.cells 33 (0, 0))) ∧ Hid (Below w.heap.size w wx))
      case first =>
        go_region
        · go_wp2_with fail
          go_meet
          exact ⟨wr.heap.size, wr.heap.size + 1, rfl, rfl, (two_al wr X Y).1, (two_al wr X Y).2.1, below_then HB.out (two_al wr X Y).2.2⟩
        · go_wp2_with fail
          go_meet
          exact ⟨wr.heap.size + 1, wr.heap.size, rfl, rfl, (two_al wr Y X).2.1, (two_al wr Y X).1, below_then HB.out (two_al wr Y X).2.2⟩
      case rest =>
        obtain ⟨ga, gb, rfl, rfl, HXa, HYb, HBc⟩ := hcut
        clear c0 c1 c2 c3 c4 c5 c6 c7 f0 f1 f2 f3 f4 f5 f6 f7 HX
        obtain ⟨x0, x1, _⟩ := cells_of_box HXa.out
        obtain ⟨y0, y1, _⟩ := cells_of_box HYb.out
        have HU1 := Lib.hid (fun w => runder_any X.s Y.s w)
        have HU2 := Lib.hid (fun w => runder_any Y.s X.s w)
        have HCF : Hid (cfl X Y = ((X.s.toList == Y.s.toList) || (undB X.s Y.s && !(Y.k == 1)) || (undB Y.s X.s && !(X.k == 1)))) := rfl
        generalize undB X.s Y.s = U1 at *
        generalize undB Y.s X.s = U2 at *
        by_cases he : (X.s.toList == Y.s.toList) = true
        · skip
          have HT := HHJ.out (by rw [HCF.out, he]; rfl)
          have e1 := Lib.hid HT.1
          have e2 := Lib.hid HT.2
          clear HT HHJ HNJ HCF
          go_wp2_with fail
          go_ret2
          rw [e1.out, e2.out]
          exact ⟨rfl, HBc.out⟩
        have he := Bool.eq_false_iff.2 he
        go_wp2_with fail
        refine (HU1.out _).mono ?_; rintro e wx ⟨rfl, hw⟩; rw [hw]; clear hw wx
        cases U1 with
        | true =>
          by_cases hy : Y.k = 1
          · have hyb : (Y.k == 1) = true := by rw [hy]; rfl
            rw [hy] at y1
            go_wp2_with fail
            refine (HU2.out _).mono ?_; rintro e wx ⟨rfl, hw⟩; rw [hw]; clear hw wx
            cases U2 with
            | true =>
              by_cases hx : X.k = 1
              · have hxb : (X.k == 1) = true := by rw [hx]; rfl
                have HN2 := Lib.hid (HNJ.out (by rw [HCF.out, he, hyb, hxb]; rfl))
                clear HHJ HNJ HCF
                rw [hx] at x1
                clear hx hxb
                go_wp2_with fail
                go_roundw
                case rel => exact ⟨j + 1, by omega, by go_num, HN2, HBc⟩
                case measure => simp [intOf]; omega
              · have hxb : (X.k == 1) = false := beq_eq_false_iff_ne.2 hx
                have hxn : (X.k != 1) = true := bne_iff_ne.2 hx
                have HT := HHJ.out (by rw [HCF.out, he, hyb, hxb]; rfl)
                have e1 := Lib.hid HT.1
                have e2 := Lib.hid HT.2
                clear HT HHJ HNJ HCF
                go_wp2_with fail
                go_ret2
                rw [e1.out, e2.out]
                exact ⟨rfl, HBc.out⟩
            | false =>
              have HN2 := Lib.hid (HNJ.out (by rw [HCF.out, he, hyb]; rfl))
              clear HHJ HNJ HCF
              go_wp2_with fail
              go_roundw
              case rel => exact ⟨j + 1, by omega, by go_num, HN2, HBc⟩
              case measure => simp [intOf]; omega
          · have hyb : (Y.k == 1) = false := beq_eq_false_iff_ne.2 hy
            have hyn : (Y.k != 1) = true := bne_iff_ne.2 hy
            have HT := HHJ.out (by rw [HCF.out, he, hyb]; rfl)
            have e1 := Lib.hid HT.1
            have e2 := Lib.hid HT.2
            clear HT HHJ HNJ HCF
            go_wp2_with fail
            go_ret2
            rw [e1.out, e2.out]
            exact ⟨rfl, HBc.out⟩
        | false =>
          go_wp2_with fail
          refine (HU2.out _).mono ?_; rintro e wx ⟨rfl, hw⟩; rw [hw]; clear hw wx
          cases U2 with
          | true =>
            by_cases hx : X.k = 1
            · have hxb : (X.k == 1) = true := by rw [hx]; rfl
              have HN2 := Lib.hid (HNJ.out (by rw [HCF.out, he, hxb]; rfl))
              clear HHJ HNJ HCF
              rw [hx] at x1
              clear hx hxb
              go_wp2_with fail
              go_roundw
              case rel => exact ⟨j + 1, by omega, by go_num, HN2, HBc⟩
              case measure => simp [intOf]; omega
            · have hxb : (X.k == 1) = false := beq_eq_false_iff_ne.2 hx
              have hxn : (X.k != 1) = true := bne_iff_ne.2 hx
              have HT := HHJ.out (by rw [HCF.out, he, hxb]; rfl)
              have e1 := Lib.hid HT.1
              have e2 := Lib.hid HT.2
              clear HT HHJ HNJ HCF
              go_wp2_with fail
              go_ret2
              rw [e1.out, e2.out]
              exact ⟨rfl, HBc.out⟩
          | false =>
            have HN2 := Lib.hid (HNJ.out (by rw [HCF.out, he]; rfl))
            clear HHJ HNJ HCF
            go_wp2_with fail
            go_roundw
            case rel => exact ⟨j + 1, by omega, by go_num, HN2, HBc⟩
            case measure => simp [intOf]; omega
end Go.Proofs.YtpkhpaklhfomkaaGreatDoor

namespace Go.Proofs.YtpkhpaklhfomkaaGreatDoor
set_option maxRecDepth 100000
set_option linter.unusedSimpArgs false
set_option linter.unusedVariables false
open Go.RowKit Go.Joins Go.Deep
open Go.Lib hiding intOf
theorem info_bar : (Tryz.prog.info? 52).map (fun i => (i.zero, i.size, i.bytes)) = some (some (.agg #[.string ⟨#[]⟩, .int .i64 0]), 2, 24) := by kernel_rfl
theorem parts_bar : ∃ i0, Tryz.prog.info? 52 = some i0 ∧ i0.zero = some (.agg #[.string ⟨#[]⟩, .int .i64 0]) ∧ i0.size = 2 ∧ i0.bytes = 24 := by
  have h := info_bar
  cases hq : Tryz.prog.info? 52 with
  | none => rw [hq] at h; cases h
  | some i =>
    rw [hq] at h
    simp only [Option.map_some, Option.some.injEq, Prod.mk.injEq] at h
    exact ⟨i, rfl, h.1, h.2.1, h.2.2⟩
theorem at_opt (t : List Itm) (k : Nat) (h : k < t.length) : t[k]? = some (atL t k) := by rw [List.getElem?_eq_getElem h, atL_get t k h]
theorem pop_any (t : List Itm) (p : Nat) (hp : p < t.length) : popB (itP t p).s (bars t (abvP t p (itP t (p - 1)).s)) = bars t (abvP t p (itP t p).s) := by
  rcases Nat.eq_zero_or_pos p with h | h
  · subst h; rfl
  · exact pop_next t p hp h
theorem bars_next (t : List Itm) (p : Nat) (hp : p < t.length) : bars t (abvP t (p + 1) (itP t p).s) = bars t (abvP t p (itP t p).s) ++ (if (itP t p).k = 1 then [] else [((itP t p).s, min (plc t p) (minP t (abvP t p (itP t p).s)))]) := by
  have hu : undB (itP t p).s (itP t p).s = true := (und_iff _ _).2 (und_refl _)
  rw [abv_snoc]
  unfold bars
  rw [List.map_append]
  congr 1
  unfold ndP
  by_cases h : (itP t p).k = 1
  · rw [if_pos h, if_neg (by rw [h]; simp)]
    rfl
  · rw [if_neg h, if_pos ⟨by simpa using h, hu⟩, List.map_singleton]
    unfold barP
    rw [abv_snoc, if_pos ⟨by unfold ndP; simpa using h, hu⟩, minP_app _ _ _ hp]
theorem abv_len (t : List Itm) (p : Nat) (x : ByteArray) : (bars t (abvP t p x)).length ≤ p := by
  unfold bars abvP
  rw [List.length_map]
  refine Nat.le_trans (List.length_filter_le _ _) ?_
  rw [List.length_range]
  exact Nat.le_refl _
set_option maxHeartbeats 32000000 in
theorem odds_any (A : Option Addr) (c : Nat) (t : List Itm) (w : World) (hA : Itms w A t) (hl : t.length ≤ 1000) (hs : ∀ x ∈ t, x.s.size ≤ 100000) :
    Calls Tryz.prog 8 #[.slice A t.length c] w fun e w' => e = .returned (.tuple #[.string (oddS t), .bool (oddB t)]) ∧ Below w.heap.size w w' := by
  have hir := info_item
  obtain ⟨i0, hi, hz0, hz1, hz2⟩ := parts_bar
  have HA := Lib.hid (fun w1 (hb : Below w.heap.size w w1) => hA.below hb)
  have HS := Lib.hid hs
  have HBP := Lib.hid (byPath_any A c t w hA hl (fun x hx => by have := hs x hx; omega))
  obtain ⟨R1, hR1⟩ : ∃ R1, R1 = oddS t := ⟨_, rfl⟩
  obtain ⟨R2, hR2⟩ : ∃ R2, R2 = oddB t := ⟨_, rfl⟩
  rw [← hR1, ← hR2]
  have HR1 := Lib.hid hR1
  have HR2 := Lib.hid hR2
  clear hA hs hR1 hR2
  go_enter Tryz.func8, Tryz.ntmps8
  go_wp2_with fail
  refine HBP.out.mono ?_; rintro e w1 ⟨A1, c1, rfl, hP1, hb1⟩
  have HB1 := Lib.hid hb1
  have HP1 := Lib.hid hP1
  clear hP1 hb1 HBP
  go_wp2_with fail
  go_loopw [4, 6, 18] (fun v4 v6 v18 wr => ∃ (p : Nat) (A6 : Option Addr) (c6 : Nat), p ≤ t.length ∧ v4 = .int .i64 (oF t p : Nat) ∧ v6 = .slice A6 (bars t (abvP t p (itP t (p - 1)).s)).length c6 ∧ v18 = .int .i64 (p : Nat) ∧ Hid (wr.ownsRow w1.heap.size 52 2 (.slice A6 (bars t (abvP t p (itP t (p - 1)).s)).length c6) (bars t (abvP t p (itP t (p - 1)).s)).length (cellsB (bars t (abvP t p (itP t (p - 1)).s)))) ∧ Hid (Below w1.heap.size w1 wr)) (fun _ _ v _ => t.length - (intOf v).toNat)
  case atStart => exact ⟨0, none, 0, Nat.zero_le _, rfl, rfl, rfl, World.ownsRow_nil _ _ _ _, Below.refl _ _⟩
  case round =>
    obtain ⟨p, A6, c6, hp, rfl, rfl, rfl, HO, HB⟩ := hrel
    by_cases hpn : p < t.length
    case neg =>
      obtain rfl : p = t.length := by omega
      have hd : decide ((t.length : Int) < (t.length : Int)) = false := decide_eq_false (by omega)
      have HF : Hid (oF t t.length = oddN t) := oF_all t
      rw [HF.out]
      have HLE : Hid (oddN t ≤ t.length) := by show _ ≤ _; rw [← HF.out]; exact oF_le t _
      have HBW := Lib.hid (below_then HB1.out HB.out)
      by_cases hn : oddN t = t.length
      · have hE : ((oddN t : Int) == (t.length : Int)) = true := by rw [beq_iff_eq]; omega
        have e1 : Hid (R1 = ⟨#[]⟩) := by show _ = _; rw [HR1.out]; unfold oddS; rw [if_neg (by omega)]
        have e2 : Hid (R2 = false) := by show _ = _; rw [HR2.out]; unfold oddB; exact decide_eq_false (by omega)
        rw [hn]
        have hE2 : ((t.length : Int) == (t.length : Int)) = true := by rw [beq_iff_eq]
        clear HF hE HO hn HR1 HR2
        go_wp2_with fail
        go_ret2
        rw [e1.out, e2.out]
        exact ⟨rfl, HBW.out⟩
      · have hlt : oddN t < t.length := by have := HLE.out; omega
        have hE : ((oddN t : Int) == (t.length : Int)) = false := by rw [beq_eq_false_iff_ne]; omega
        have e1 : Hid (R1 = (atL t (oddN t)).s) := by show _ = _; rw [HR1.out]; unfold oddS; rw [if_pos hlt]
        have e2 : Hid (R2 = true) := by show _ = _; rw [HR2.out]; unfold oddB; exact decide_eq_true hlt
        obtain ⟨b, off, rfl, hb, hcc⟩ := (HA.out wr HBW.out) (by omega)
        have c0 := (hcc (oddN t) (atL t (oddN t)) (at_opt t _ hlt)).1
        have hI : (oddN t : Int) < (t.length : Int) := by omega
        generalize (atL t (oddN t)).s = R at *
        generalize oddN t = N at *
        clear hcc HF HO HR1 HR2
        go_wp2_with fail
        go_ret2
        rw [e1.out, e2.out]
        exact ⟨rfl, HBW.out⟩
    have hd : decide ((p : Int) < (t.length : Int)) = true := decide_eq_true (by omega)
    have HPOP := Lib.hid (pop_any t p hpn)
    have HNXT := Lib.hid (bars_next t p hpn)
    have HSUB : Hid (p + 1 - 1 = p) := Nat.add_sub_cancel p 1
    have HBL := Lib.hid (abv_len t p (itP t (p - 1)).s)
    have HZL := Lib.hid (abv_len t p (itP t p).s)
    have HOF : Hid (oF t (p + 1) = min (if 0 < p ∧ (itP t (p - 1)).s = (itP t p).s then min (oF t p) (plc t p) else oF t p) (max (plc t p) (minP t (abvP t p (itP t p).s)))) := by show _ = _; rw [oF]
    have HFN : Hid (oF t p ≤ t.length) := oF_le t p
    have HPL : Hid (plc t p < t.length) := plc_lt t p hpn
    have HBW := Lib.hid (below_then HB1.out HB.out)
    obtain ⟨g1, rfl, hg1, hpc⟩ := (HP1.out.below HB.out) (by rw [idx_len]; omega)
    have cp : wr.cell? ⟨g1, p, none⟩ = some (.int .i64 (plc t p : Nat)) := by
      obtain ⟨h2, e⟩ := plc_get t p hpn
      exact hpc p _ (by rw [List.getElem?_eq_getElem h2, e])
    obtain ⟨b, off, rfl, hb, hcc⟩ := (HA.out wr HBW.out) (by omega)
    have hX := hcc (plc t p) (itP t p) (at_opt t _ HPL.out)
    obtain ⟨d0, d1, d2, d3, d4, d5, d6, d7⟩ := (show _ ∧ _ from hX)
    have hPI : (plc t p : Int) < (t.length : Int) := by have := HPL.out; omega
    obtain ⟨W2, hW2⟩ : ∃ W2, W2 = wr.alloc (.cells (itP t p).cells 33) := ⟨_, rfl⟩
    have hb2 : Below wr.heap.size wr W2 := by rw [hW2]; exact below_al wr _
    have HX2 : Hid (W2.heap[wr.heap.size]? = some (.cells (itP t p).cells 33 (0, 0))) := by show _ = _; rw [hW2]; exact heap_alloc_new wr _
    have HO2 := Lib.hid (own_belowI HO.out hb2)
    have HB2 := Lib.hid (below_then HB.out hb2)
    obtain ⟨E, hE⟩ : ∃ E : Bool, E = (decide (0 < p) && ((itP t (p - 1)).s.toList == (itP t p).s.toList)) := ⟨_, rfl⟩
    have HE := Lib.hid hE
    have HQ : Hid (∀ q, p = q + 1 → plc t q < t.length ∧ W2.cell? ⟨g1, q, none⟩ = some (.int .i64 (plc t q : Nat)) ∧ W2.cell? ⟨b, off + plc t q * 8, none⟩ = some (.string (itP t q).s)) := fun q hq => by
      have hq1 : q < t.length := by omega
      have hq2 := plc_lt t q hq1
      obtain ⟨h2, e⟩ := plc_get t q hq1
      refine ⟨hq2, (hb2.cell (p := ⟨g1, q, none⟩) hg1).trans (hpc q _ (by rw [List.getElem?_eq_getElem h2, e])), (hb2.cell (p := ⟨b, off + plc t q * 8, none⟩) hb).trans ?_⟩
      exact (hcc (plc t q) (itP t q) (at_opt t _ hq2)).1
    have HPE : Hid (∀ q, p = q + 1 → E = ((itP t q).s.toList == (itP t p).s.toList)) := fun q hq => by
      rw [HE.out, decide_eq_true (by omega : 0 < p), Bool.true_and]
      subst hq
      rfl
    have HE0 : Hid (p = 0 → E = false) := fun h => by rw [HE.out, decide_eq_false (by omega : ¬ 0 < p)]; rfl
    have HEE : Hid ((if 0 < p ∧ (itP t (p - 1)).s = (itP t p).s then min (oF t p) (plc t p) else oF t p) = (if E = true then min (oF t p) (plc t p) else oF t p)) := by
      show _ = _
      by_cases h : 0 < p ∧ (itP t (p - 1)).s = (itP t p).s
      · rw [if_pos h, if_pos (by rw [HE.out, decide_eq_true h.1, h.2]; simp)]
      · rw [if_neg h, if_neg]
        rw [HE.out, Bool.and_eq_true]
        rintro ⟨h1, h2⟩
        exact h ⟨of_decide_eq_true h1, toList_inj' (eq_of_beq h2)⟩
    have HZ : Hid (abvP t p (itP t p).s = [] ∨ ∃ Z0 q, abvP t p (itP t p).s = Z0 ++ [q] ∧ (barP t q).2 = minP t (abvP t p (itP t p).s)) := by
      show _ ∨ _
      rcases List.eq_nil_or_concat (abvP t p (itP t p).s) with h | ⟨Z0, q, h⟩
      · exact .inl h
      · have h : abvP t p (itP t p).s = Z0 ++ [q] := by rw [h]; simp
        exact .inr ⟨Z0, q, h, bar_last (Nat.le_of_lt hpn) h⟩
    rw [HEE.out] at HOF
    clear hE hX hcc hpc hb2 HO HB HEE HE
    generalize hgx : wr.heap.size = gx at *
    have HITP : Hid ((itP t p).cells = #[.string (itP t p).s, .int .i64 (itP t p).k, .int .u32 (itP t p).m, .int .u32 (itP t p).u, .int .u32 (itP t p).g, .int .i64 (itP t p).t, .int .i64 (itP t p).a, .string (itP t p).d]) := rfl
    rw [HITP.out] at hW2
    have HW2 := Lib.hid hW2
    clear hW2
    change wr.cell? ⟨b, off + plc t p * 8, none⟩ = some (.string (itP t p).s) at d0
    change wr.cell? ⟨b, off + plc t p * 8 + 1, none⟩ = some (.int .i64 (itP t p).k) at d1
    change wr.cell? ⟨b, off + plc t p * 8 + 2, none⟩ = some (.int .u32 (itP t p).m) at d2
    change wr.cell? ⟨b, off + plc t p * 8 + 3, none⟩ = some (.int .u32 (itP t p).u) at d3
    change wr.cell? ⟨b, off + plc t p * 8 + 4, none⟩ = some (.int .u32 (itP t p).g) at d4
    change wr.cell? ⟨b, off + plc t p * 8 + 5, none⟩ = some (.int .i64 (itP t p).t) at d5
    change wr.cell? ⟨b, off + plc t p * 8 + 6, none⟩ = some (.int .i64 (itP t p).a) at d6
    change wr.cell? ⟨b, off + plc t p * 8 + 7, none⟩ = some (.string (itP t p).d) at d7
    generalize hXX : itP t p = X at *
    generalize hPP : plc t p = P at *
    generalize hFF : oF t p = F at *
    generalize bars t (abvP t p (itP t (p - 1)).s) = Y at *
    have HK : Hid (itP t p = X) := hXX
    clear hXX hPP hFF
    go_upto_region 8 with fail
    rw [← HW2.out]
    clear HW2 d0 d1 d2 d3 d4 d5 d6 d7 cp
    obtain ⟨x0, _⟩ := cells_of_box HX2.out
    go_cut [42] from 27 to 41 (fun v wx => v = .bool E ∧ Hid (Below W2.heap.size W2 wx))
    case first =>
      rcases Nat.eq_zero_or_pos p with h0 | h0
      · have hE0 := HE0.out h0
        subst hE0
        have hp0 : ¬ (0 : Int) < (p : Int) := by omega
        have hp0' : decide ((0 : Int) < (p : Int)) = false := decide_eq_false hp0
        have hp0n : ¬ 0 < p := by omega
        have hp0m : decide (0 < p) = false := decide_eq_false hp0n
        clear h0
        go_wp2_with fail
        go_quiet (fail)
        go_wp2_with fail
        go_meet
        exact ⟨rfl, below_drewN (Below.refl _ _) _⟩
      · obtain ⟨q, rfl⟩ : ∃ q, p = q + 1 := ⟨p - 1, by omega⟩
        obtain ⟨hq1, k1, k2⟩ := HQ.out q rfl
        have hEE := HPE.out q rfl
        have hp0 : (0 : Int) < (q : Int) + 1 := by omega
        have hq2 : IntKind.i64.wrap ((q : Int) + 1 - 1) = (q : Int) := by rw [IntKind.wrap_i64]; omega
        have hq2' : IntKind.i64.wrap (q : Int) = (q : Int) := by rw [IntKind.wrap_i64]; omega
        have hq3 : (q : Int) < (t.length : Int) := by omega
        have hq4 : (plc t q : Int) < (t.length : Int) := by omega
        generalize plc t q = Q at *
        generalize (itP t q).s = s0 at *
        have HEV := Lib.hid hEE.symm
        clear hEE
        go_wp2_with fail
        go_quiet (fail)
        go_wp2_with fail
        go_meet
        exact ⟨by rw [← HEV.out], below_drewN (Below.refl _ _) _⟩
    case rest =>
      obtain ⟨rfl, HWC⟩ := hcut
      have HXC : Hid (wc.heap[gx]? = some (.cells X.cells 33 (0, 0))) := (HWC.out.block _ (lt_of_block HX2.out)).trans HX2.out
      have HOC := Lib.hid (own_belowI HO2.out HWC.out)
      have HBC := Lib.hid (below_then HB2.out HWC.out)
      clear HX2 HO2 HB2 HWC HQ HPE HE0 x0
      obtain ⟨F1, hF1⟩ : ∃ F1 : Nat, F1 = (if E = true then min F P else F) := ⟨_, rfl⟩
      have HF1 : Hid (∀ b : Bool, E = b → F1 = (if b = true then min F P else F)) := fun b h => by rw [hF1, h]
      have hF1n : F1 ≤ t.length := by rw [hF1]; have := HFN.out; split <;> omega
      rw [← hF1] at HOF
      clear hF1
      go_upto_if 42 with fail
      go_cut [4] from 43 to 45 (fun v wx => v = .int .i64 (F1 : Nat) ∧ wx = wc)
      case first =>
        cases E with
        | true =>
          have hm : min (F : Int) (P : Int) = (F1 : Int) := by have := HF1.out true rfl; rw [if_pos rfl] at this; omega
          go_wp2_with fail
          go_meet
          exact ⟨rfl, rfl⟩
        | false =>
          have hm : F1 = F := by have := HF1.out false rfl; rw [if_neg (by decide)] at this; exact this
          subst hm
          go_wp2_with fail
          go_meet
          exact ⟨rfl, rfl⟩
      case rest =>
        obtain ⟨rfl, hwc⟩ := hcut
        have hwc := hwc.symm
        subst hwc
        clear HF1
        have HBF : Hid ((wr : World) = wr) := rfl
        obtain ⟨x0, x1, _⟩ := cells_of_box HXC.out
        have HOV := Lib.hid (dover_any w1.heap.size A6 c6 Y X.s wc (by have := HBL.out; omega) HOC.out)
        rw [HPOP.out] at HOV
        have HZZ : Hid (abvP t p X.s = [] ∧ minP t (abvP t p X.s) = t.length ∨ ∃ Z0 q, abvP t p X.s = Z0 ++ [q] ∧ (barP t q).2 = minP t (abvP t p X.s)) := by
          rcases HZ.out with h | h
          · exact .inl ⟨h, by rw [h]; rfl⟩
          · exact .inr h
        obtain ⟨T, hT⟩ : ∃ T, T = minP t (abvP t p X.s) := ⟨_, rfl⟩
        rw [← hT] at HOF HNXT HZZ
        obtain ⟨Lb, hLb⟩ : ∃ Lb, Lb = bars t (abvP t p X.s) := ⟨_, rfl⟩
        have HLB := Lib.hid hLb
        rw [← hLb] at HOV HNXT HZL
        obtain ⟨F2, hF2⟩ : ∃ F2 : Nat, F2 = min F1 (max P T) := ⟨_, rfl⟩
        obtain ⟨S2, hS2⟩ : ∃ S2 : Nat, S2 = min P T := ⟨_, rfl⟩
        rw [← hF2] at HOF
        rw [← hS2] at HNXT
        have HF2 := Lib.hid hF2
        have HS2 := Lib.hid hS2
        clear hT hLb HPOP HZ hF2 hS2 HOC HBF
        go_wp2_with fail
        refine HOV.out.mono ?_; rintro e w7 ⟨rfl, hO7, hw7⟩
        rw [hw7] at hO7 ⊢
        clear hw7 w7 HOV
        have HO7 := Lib.hid hO7
        clear hO7
        obtain ⟨G, hG⟩ : ∃ G : Bool, decide (0 < Lb.length) = G := ⟨_, rfl⟩
        have hG2 : decide ((0 : Int) < (Lb.length : Int)) = G := by rw [← hG]; exact decide_eq_decide.2 (by omega)
        go_upto_if 53 with fail
        go_cut [4, 10, 11] from 54 to 68 (fun v4 v10 v11 wx => v4 = .int .i64 (F2 : Nat) ∧ v10 = .int .i64 (S2 : Nat) ∧ wx = wc)
        case first =>
          rcases HZZ.out with ⟨h1, h2⟩ | ⟨Z0, q, h1, h2⟩
          · have h0 : Lb.length = 0 := by rw [HLB.out, h1]; rfl
            have hPn := HPL.out
            obtain rfl : F2 = F1 := by have := HF2.out; omega
            obtain rfl : S2 = P := by have := HS2.out; omega
            obtain rfl : G = false := by rw [← hG]; exact decide_eq_false (by omega)
            clear h0 h1 h2 hPn
            go_wp2_with fail
            go_meet
            exact ⟨rfl, rfl, rfl⟩
          · obtain ⟨m, hm⟩ : ∃ m, Lb.length = m + 1 := ⟨Z0.length, by rw [HLB.out, h1]; simp [bars]⟩
            have hbar : Lb[m]? = some (barP t q) := by
              have hmz : m = Z0.length := by rw [HLB.out, h1] at hm; simp [bars] at hm; omega
              rw [HLB.out, h1, hmz]
              simp [bars]
            obtain ⟨g6, rfl⟩ : ∃ g6, A6 = some ⟨g6, 0, none⟩ := by
              rcases HO7.out.2 with ⟨he, h0⟩ | ⟨g, cp, cur, he, _⟩
              · omega
              · injection he with e1; exact ⟨g, e1⟩
            have k1 : wc.cell? ⟨g6, m * 2 + 1, none⟩ = some (.int .i64 (T : Nat)) := by
              rw [HO7.out.cellAt (m * 2 + 1) (by omega), (cellsB_get Lb m _ hbar).2, h2]
            have HM := Lib.hid hm
            obtain rfl : G = true := by rw [← hG]; exact decide_eq_true (by omega)
            have hg2 : (0 : Int) < (Lb.length : Int) := by omega
            have hw1 : IntKind.i64.wrap ((Lb.length : Int) - 1) = (m : Int) := by rw [IntKind.wrap_i64]; have := HZL.out; omega
            have hw2 : (m : Int) < (Lb.length : Int) := by omega
            obtain ⟨M, hM⟩ : ∃ M : Nat, M = max P T := ⟨_, rfl⟩
            have hmx : max (P : Int) (T : Int) = (M : Int) := by omega
            have hmn : min (F1 : Int) (M : Int) = (F2 : Int) := by have := HF2.out; omega
            have hms : min (P : Int) (T : Int) = (S2 : Int) := by have := HS2.out; omega
            clear h1 h2 hm hbar hM
            go_wp2_with fail
            go_meet
            exact ⟨rfl, rfl, rfl⟩
        case rest =>
          obtain ⟨rfl, rfl, hwd⟩ := hcut
          have hwd := hwd.symm
          subst hwd
          have HRF : Hid (F2 = oF t (p + 1)) := HOF.out.symm
          rw [← HK.out] at HNXT
          clear HZZ HLB HF2 HS2 HOF HBL
          by_cases hk : X.k = 1
          · have HNE : Hid (bars t (abvP t (p + 1) (itP t p).s) = Lb) := by show _ = _; rw [HNXT.out, if_pos (by rw [HK.out]; exact hk), List.append_nil]
            rw [hk] at x1
            clear HNXT hk x0 HXC
            go_wp2_with fail
            go_roundw
            case rel =>
              refine ⟨p + 1, A6, c6, by omega, by rw [HRF.out], ?_, by go_num, ?_, HBC⟩
              · rw [HSUB.out, HNE.out]
              · rw [HSUB.out, HNE.out]; exact HO7
            case measure => simp [intOf]; omega
          · have hkn : (X.k != 1) = true := bne_iff_ne.2 hk
            have HNE : Hid (bars t (abvP t (p + 1) (itP t p).s) = Lb ++ [(X.s, S2)]) := by show _ = _; rw [HNXT.out, if_neg (by rw [HK.out]; exact hk), HK.out]
            have HO8 := Lib.hid (HO7.out.alloc (.cells #[.string X.s, .int .i64 (S2 : Nat)] 52))
            have HB8 := Lib.hid (HBC.out.alloc HBC.out.size (.cells #[.string X.s, .int .i64 (S2 : Nat)] 52))
            have HQ8 : Hid (∀ j u, [Value.string X.s, Value.int .i64 (S2 : Nat)][j]? = some u → (wc.alloc (.cells #[.string X.s, .int .i64 (S2 : Nat)] 52)).cell? ((⟨wc.heap.size, 0, none⟩ : Addr).add j) = some u) := fun j u hj => by
              rw [Addr.add_lit, Nat.zero_add, cell_of_row _ _ j _ _ _ (heap_alloc_new wc _)]
              simpa using hj
            have HZB : Hid (Lb.length ≤ 1000) := by show _ ≤ _; have := HZL.out; omega
            clear HNXT hk
            go_wp2_with (at_builtin; refine wpList_append_own _ rfl _ _ 49 rfl w1.heap.size 52 i0 (.agg #[.string ⟨#[]⟩, .int .i64 0]) 2 24 Tryz.underlying49 hi hz0 hz1 hz2 rfl (by decide) _ _ _ rfl HO8.out ⟨wc.heap.size, 0, none⟩ 1 1 [Value.string X.s, Value.int .i64 (S2 : Nat)] rfl ?qc1 ?qc2 ?qc3 ?qc4 ?qc5 ?qc6 ?_)
            case qc3 => exact ⟨rfl, rfl⟩
            case qc4 => have := HZB.out; unfold maxLen; omega
            case qc5 => have := HZB.out; omega
            case qc6 => have := HBC.out.size; omega
            intro v9 w9 hown9 hgrow9 _
            have HB9 : Hid (Below w1.heap.size w1 w9) := HB8.out.grown hgrow9 HB8.out.size (fun q hq => (HO8.out.lt q hq).1)
            have hown9 : w9.ownsRow w1.heap.size 52 2 v9 (Lb ++ [(X.s, S2)]).length (cellsB (Lb ++ [(X.s, S2)])) := by
              rw [List.length_append, cellsB_app]
              exact hown9
            obtain ⟨A9, c9, rfl⟩ : ∃ A9 c9, v9 = .slice A9 (Lb ++ [(X.s, S2)]).length c9 := by
              rcases hown9.2 with ⟨he, h0⟩ | ⟨g, cp, cur, he, _⟩
              · exact ⟨none, 0, by rw [he, h0]⟩
              · exact ⟨_, _, he⟩
            have HO9 := Lib.hid hown9
            clear hown9 hgrow9 HO8 HQ8 HB8
            go_wp2_with fail
            go_roundw
            case rel =>
              refine ⟨p + 1, A9, c9, by omega, by rw [HRF.out], ?_, by go_num, ?_, HB9⟩
              · rw [HSUB.out, HNE.out]
              · rw [HSUB.out, HNE.out]; exact HO9
            case measure => simp [intOf]; omega
end Go.Proofs.YtpkhpaklhfomkaaGreatDoor
