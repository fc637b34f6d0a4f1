/-
  Glob: is a rune an atom's (is, has).
  Glob: a text's first rune and the rest; width; is one of some atoms no star.
-/
import Derived.Test.YtjnoapbddifcpaaGreatDoorPkAF
import Derived.Deep.RegionHeld3
import Derived.BigQuiet
import Derived.Test.YtjnoapbddifcpaaGreatDoorShelf

namespace Go.Proofs.YtjnoapbddifcpaaGreatDoor
set_option maxRecDepth 100000
open Go.RowKit Go.Joins Go.Deep

set_option maxHeartbeats 2000000 in
theorem clo_range (p : Int × Int) (r : Int) (g : Nat) (w : World) (hg : g < w.heap.size) (hc : w.cell? ⟨g, 0, none⟩ = some (.int .i32 r)) :
    Calls Tryz.prog 185 #[.agg #[.int .i32 p.1, .int .i32 p.2], .pointer (some ⟨g, 0, none⟩)] w fun e w' => e = .returned (.bool (decide (p.1 ≤ r) && decide (r ≤ p.2))) ∧ Below w.heap.size w w' := by
  obtain ⟨lo, hi⟩ := p
  dsimp only
  have hc2 := ((below_alG w (.cells #[.int .i32 lo, .int .i32 hi] 242)).cell (p := ⟨g, 0, none⟩) hg).trans hc
  have hne : g ≠ w.heap.size := by omega
  by_cases h1 : lo ≤ r
  · have d1 : decide (lo ≤ r) = true := decide_eq_true h1
    go_enter Tryz.func185, Tryz.ntmps185
    go_wp2_with fail
    go_ret
    exact ⟨by rw [d1]; rfl, below_alG w _⟩
  · have d1 : decide (lo ≤ r) = false := decide_eq_false h1
    go_enter Tryz.func185, Tryz.ntmps185
    go_wp2_with fail
    go_ret
    exact ⟨rfl, below_alG w _⟩
def hasI (rs : List (Int × Int)) (r : Int) : Bool := rs.any fun p => decide (p.1 ≤ r) && decide (r ≤ p.2)
theorem any_takeG {α : Type} (l : List α) (P : α → Bool) (k : Nat) (h : k < l.length) : (l.take (k + 1)).any P = ((l.take k).any P || P l[k]) := by
  rw [List.take_succ_eq_append_getElem h, List.any_append]
  simp
set_option maxHeartbeats 4000000 in
theorem indexR_any (rs : List (Int × Int)) (r : Int) (g : Nat) (A : Option Addr) (c : Nat) (w : World) (hg : g < w.heap.size) (hc : w.cell? ⟨g, 0, none⟩ = some (.int .i32 r)) (hR : Rgs w .i32 A rs) (hl : rs.length ≤ 1000000) :
    Calls Tryz.prog 197 #[.slice A rs.length c, .func (.func 185) #[] #[.pointer (some ⟨g, 0, none⟩)]] w fun e w' => ∃ ix : Int, e = .returned (.int .i64 ix) ∧ decide (0 ≤ ix) = hasI rs r ∧ Below w.heap.size w w' := by
  have hir := info_range
  have HC := Lib.hid hc
  have HR := Lib.hid hR
  have HG := Lib.hid hg
  clear hc hR hg
  go_enter Tryz.func197, Tryz.ntmps197
  go_wp2_with fail
  go_loopw [5, 8] (fun _ i wr => ∃ k : Nat, k ≤ rs.length ∧ i = .int .i64 (k : Nat) ∧ Hid ((rs.take k).any (fun p => decide (p.1 ≤ r) && decide (r ≤ p.2)) = false) ∧ Hid (Below w.heap.size w wr)) (fun _ i _ => rs.length - (intOf i).toNat)
  case atStart => exact ⟨0, Nat.zero_le _, rfl, by show List.any [] _ = _; rfl, Below.refl _ _⟩
  case round =>
    obtain ⟨k, hk, rfl, HF, HB⟩ := hrel
    by_cases hlt : k < rs.length
    · obtain ⟨b, off, rfl, hb, hcc⟩ := (HR.out.below (Nat.le_refl _) HB.out) (by omega)
      obtain ⟨c0, c1⟩ := hcc k hlt
      have HQ := Lib.hid (any_takeG rs (fun p => decide (p.1 ≤ r) && decide (r ≤ p.2)) k hlt)
      rw [show rs.getD k (0, 0) = rs[k] by rw [List.getD_eq_getElem?_getD, List.getElem?_eq_getElem hlt]; rfl] at c0 c1
      have HCL := Lib.hid (clo_range rs[k] r g wr (Nat.lt_of_lt_of_le HG.out HB.out.size) ((HB.out.cell (p := ⟨g, 0, none⟩) HG.out).trans HC.out))
      have HM := Lib.hid (List.getElem_mem hlt)
      generalize hp : rs[k] = pp at *
      clear hcc hp
      obtain ⟨lo, hi⟩ := pp
      dsimp only at *
      generalize hV : (decide (lo ≤ r) && decide (r ≤ hi)) = V at *
      go_wp2_with fail
      refine HCL.out.mono ?_; rintro e w5 ⟨rfl, hb5⟩
      have HB5 := Lib.hid (below_then HB.out hb5)
      clear hb5
      have HVV := Lib.hid hV
      clear hV
      cases V with
      | true =>
        go_wp2_with fail
        go_ret
        refine ⟨(k : Nat), rfl, ?_, HB5.out⟩
        rw [decide_eq_true (by omega)]
        exact (List.any_eq_true.2 ⟨(lo, hi), HM.out, HVV.out⟩).symm
      | false =>
        go_wp2_with fail
        go_roundw
        case rel => exact ⟨k + 1, by omega, by go_num, by show _ = _; rw [HQ.out, HF.out]; rfl, HB5⟩
        case measure => simp [intOf]; omega
    · obtain rfl : k = rs.length := by omega
      go_wp2_with fail
      go_ret
      refine ⟨-1, rfl, ?_, HB.out⟩
      have h := HF.out
      rw [List.take_length] at h
      exact h.symm
set_option maxHeartbeats 2000000 in
theorem containsR_any (rs : List (Int × Int)) (r : Int) (g : Nat) (A : Option Addr) (c : Nat) (w : World) (hg : g < w.heap.size) (hc : w.cell? ⟨g, 0, none⟩ = some (.int .i32 r)) (hR : Rgs w .i32 A rs) (hl : rs.length ≤ 1000000) :
    Calls Tryz.prog 184 #[.slice A rs.length c, .func (.func 185) #[] #[.pointer (some ⟨g, 0, none⟩)]] w fun e w' => e = .returned (.bool (hasI rs r)) ∧ Below w.heap.size w w' := by
  have HI := Lib.hid (indexR_any rs r g A c w hg hc hR hl)
  clear hg hc hR
  go_enter Tryz.func184, Tryz.ntmps184
  go_wp2_with fail
  refine HI.out.mono ?_; rintro e w1 ⟨ix, rfl, hx, hb⟩
  have HX := Lib.hid hx
  have HB := Lib.hid hb
  clear hx hb
  go_wp2_with fail
  go_ret
  exact ⟨by rw [← HX.out]; rfl, HB.out⟩
/-- An atom lies there. -/
def AtC (w : World) (b off : Nat) (x : Atm) : Prop := b < w.heap.size ∧ w.cell? ⟨b, off, none⟩ = some (.int .i64 x.k) ∧ w.cell? ⟨b, off + 1, none⟩ = some (.int .i32 x.r) ∧ w.cell? ⟨b, off + 2, none⟩ = some (.bool x.n) ∧ ∃ Ai ci, w.cell? ⟨b, off + 3, none⟩ = some (.slice Ai x.rs.length ci) ∧ Rgs w .i32 Ai x.rs
set_option maxHeartbeats 2000000 in
theorem has_any (x : Atm) (r : Int) (b off : Nat) (w : World) (hA : AtC w b off x) (hl : x.rs.length ≤ 1000000) :
    Calls Tryz.prog 164 #[.pointer (some ⟨b, off, none⟩), .int .i32 r] w fun e w' => e = .returned (.bool (hasI x.rs r)) ∧ Below w.heap.size w w' := by
  obtain ⟨hb, _, _, _, Ai, ci, c3, hR⟩ := hA
  have hmf : ∀ (fn : Fn) (first cap : Array Value) (w : World), (Instr.makeFunc fn first cap).run Tryz.prog w = .ok (.func fn first cap) w := fun _ _ _ _ => rfl
  have hal := below_alG w (.cells #[.int .i32 r] 21)
  have c3' := (hal.cell (p := ⟨b, off + 3, none⟩) hb).trans c3
  have HCT := Lib.hid (containsR_any x.rs r w.heap.size Ai ci (w.alloc (.cells #[.int .i32 r] 21)) (by simp) ((cell_of_row _ _ 0 _ _ _ (heap_alloc_new w _)).trans rfl) (hR.below (Nat.le_refl _) hal) hl)
  have HAL := Lib.hid hal
  generalize x.rs = rs at *
  clear hal c3 hR
  go_enter Tryz.func164, Tryz.ntmps164
  go_wp2_with fail
  refine HCT.out.mono ?_; rintro e w1 ⟨rfl, hb1⟩
  have HB1 := Lib.hid (below_then HAL.out hb1)
  clear hb1
  go_wp2_with fail
  go_ret
  exact ⟨rfl, HB1.out⟩
theorem AtC.below {w w' : World} {b off : Nat} {x : Atm} (h : AtC w b off x) (hb : Below w.heap.size w w') : AtC w' b off x := by
  obtain ⟨hlt, c0, c1, c2, Ai, ci, c3, hr⟩ := h
  exact ⟨Nat.lt_of_lt_of_le hlt hb.size, (hb.cell (p := ⟨b, off, none⟩) hlt).trans c0, (hb.cell (p := ⟨b, off + 1, none⟩) hlt).trans c1, (hb.cell (p := ⟨b, off + 2, none⟩) hlt).trans c2, Ai, ci, (hb.cell (p := ⟨b, off + 3, none⟩) hlt).trans c3, hr.below (Nat.le_refl _) hb⟩
def takI (x : Atm) (r : Int) : Bool := if x.k = 1 then decide (x.r = r) else if x.k = 2 then true else decide (x.k = 4) && (hasI x.rs r != x.n)
theorem takI_nat (x : Atm) (n : Nat) : takI x (n : Nat) = takA x n := rfl
set_option maxHeartbeats 4000000 in
theorem is_any (x : Atm) (r : Int) (b off : Nat) (w : World) (hA : AtC w b off x) (hl : x.rs.length ≤ 1000000) :
    Calls Tryz.prog 127 #[.pointer (some ⟨b, off, none⟩), .int .i32 r] w fun e w' => e = .returned (.bool (takI x r)) ∧ Below w.heap.size w w' := by
  have HH := Lib.hid (fun w1 h => has_any x r b off w1 h hl)
  have hT : takI x r = if x.k = 1 then decide (x.r = r) else if x.k = 2 then true else decide (x.k = 4) && (hasI x.rs r != x.n) := rfl
  have HA := Lib.hid hA
  obtain ⟨hb, c0, c1, c2, Ai, ci, c3, hR⟩ := hA
  obtain ⟨k, xr, nt, rs⟩ := x
  dsimp only at *
  generalize takI ⟨k, xr, nt, rs⟩ r = T at *
  clear c3 hR
  by_cases h1 : k = 1
  · subst h1
    have hT' := hT.trans (if_pos rfl)
    subst hT'
    clear HH hT
    go_enter Tryz.func127, Tryz.ntmps127
    go_wp2_with fail
    go_ret
    exact ⟨rfl, Below.refl _ _⟩
  · have g1 : (k == 1) = false := by rw [beq_eq_false_iff_ne]; exact h1
    rw [if_neg h1] at hT
    by_cases h2 : k = 2
    · subst h2
      rw [if_pos rfl] at hT
      subst hT
      clear HH h1
      go_enter Tryz.func127, Tryz.ntmps127
      go_wp2_with fail
      go_ret
      exact ⟨rfl, Below.refl _ _⟩
    · have g2 : (k == 2) = false := by rw [beq_eq_false_iff_ne]; exact h2
      rw [if_neg h2] at hT
      by_cases h4 : k = 4
      · subst h4
        rw [decide_eq_true rfl, Bool.true_and] at hT
        have HT := Lib.hid hT
        clear hT h1 h2
        generalize hasI rs r = H at *
        go_enter Tryz.func127, Tryz.ntmps127
        have HK : Hid (∀ a : World, Below w.heap.size w a → Calls Tryz.prog 164 #[.pointer (some ⟨b, off, none⟩), .int .i32 r] a fun e w' => e = .returned (.bool H) ∧ w'.cell? ⟨b, off + 2, none⟩ = some (.bool nt) ∧ Below w.heap.size w w') := by
          intro a ha
          refine (HH.out a (HA.out.below ha)).mono ?_
          rintro e w' ⟨rfl, h⟩
          have h2 := below_then ha h
          exact ⟨rfl, (h2.cell (p := ⟨b, off + 2, none⟩) hb).trans c2, h2⟩
        have HB := Lib.hid (Below.refl w.heap.size w)
        clear HH HA
        go_upto_region 7 with fail
        go_region_held3 (fun w' => w'.cell? ⟨b, off + 2, none⟩ = some (.bool nt)) (go_keep) ((go_at_call 164; (refine (HK.out _ (by first | exact HB.out | exact HB.out.drew)).mono ?_); rintro e wy ⟨rfl, n0, nb⟩))
        go_wp2
        go_ret
        exact ⟨by rw [HT.out]; cases H <;> cases nt <;> rfl, nb⟩
      · have g4 : (k == 4) = false := by rw [beq_eq_false_iff_ne]; exact h4
        rw [decide_eq_false h4, Bool.false_and] at hT
        subst hT
        clear HH h1 h2 h4
        go_enter Tryz.func127, Tryz.ntmps127
        go_wp2_with fail
        go_ret
        exact ⟨rfl, Below.refl _ _⟩
end Go.Proofs.YtjnoapbddifcpaaGreatDoor

namespace Go.Proofs.YtjnoapbddifcpaaGreatDoor
set_option maxRecDepth 100000
open Go.RowKit Go.Joins Go.Deep

/-- What the two tables of unicode/utf8 hold. -/
def Tabs (w : World) : Prop := Lib.Utf8Tabs 1 2 w
theorem Tabs.below {w w' : World} (h : Tabs w) (hb : Below w.heap.size w w') : Tabs w' := by
  obtain ⟨h1, h2⟩ := h
  exact ⟨fun c hc => cell_below hb (h1 c hc), fun i hi => ⟨cell_below hb (h2 i hi).1, cell_below hb (h2 i hi).2⟩⟩
/-! ### A text's first rune -/
theorem get_drop (s : ByteArray) (k i : Nat) (hk : k ≤ s.size) : (s.extract k s.size).get! i = s.get! (k + i) := by
  have e1 : ∀ (t : ByteArray) (j : Nat), t.get! j = (t.data.toList[j]?).getD 0 := fun t j => by
    cases t with
    | mk d =>
      show d[j]! = _
      rw [getElem!_def, Array.getElem?_toList]
      rfl
  rw [e1, e1, Lib.extract_data, List.getElem?_take, List.getElem?_drop]
  split
  · rfl
  next h =>
    have : s.data.toList[k + i]? = none := List.getElem?_eq_none (by
      have : s.data.toList.length = s.size := rfl
      omega)
    rw [this]
theorem size_drop (s : ByteArray) (k : Nat) : (s.extract k s.size).size = s.size - k := by simp
theorem decode_drop (s : ByteArray) (k p : Nat) (hk : k ≤ s.size) : Utf8.decode (s.extract k s.size) p = Utf8.decode s (k + p) := by
  rw [Lib.decode_at, Lib.decode_at, size_drop, get_drop s k p hk, get_drop s k (p + 1) hk, get_drop s k (p + 2) hk, get_drop s k (p + 3) hk]
  rw [show s.size - k - p = s.size - (k + p) by omega, show k + (p + 1) = k + p + 1 by omega, show k + (p + 2) = k + p + 2 by omega, show k + (p + 3) = k + p + 3 by omega]
theorem runeF_fuel (s : ByteArray) : ∀ f g p, s.size ≤ p + f → s.size ≤ p + g → runeF s f p = runeF s g p
  | 0, g, p, h, _ => by rw [runeF_end s g p (by omega)]; rfl
  | f + 1, 0, p, _, h => by rw [runeF_end s (f + 1) p (by omega)]; rfl
  | f + 1, g + 1, p, h1, h2 => by
    rw [runeF, runeF]
    split
    next hp =>
      have := decode_pos s p hp
      rw [runeF_fuel s f g _ (by omega) (by omega)]
    · rfl
theorem runeF_drop (s : ByteArray) (k : Nat) (hk : k ≤ s.size) : ∀ f p, runeF (s.extract k s.size) f p = runeF s f (k + p)
  | 0, p => rfl
  | f + 1, p => by
    rw [runeF, runeF, size_drop, decode_drop s k p hk, runeF_drop s k hk f]
    by_cases h : p < s.size - k
    · rw [if_pos h, if_pos (by omega), Nat.add_assoc]
    · rw [if_neg h, if_neg (by omega)]
theorem decode_fit (s : ByteArray) (p : Nat) (h : p < s.size) : 1 ≤ (Utf8.decode s p).2 ∧ p + (Utf8.decode s p).2 ≤ s.size ∧ (Utf8.decode s p).1 ≤ 1114111 := by
  rcases decode_run s p h with ⟨h1, h2⟩ | ⟨_, _, h3, h4, h5, _⟩
  · rw [h2]; exact ⟨Nat.le_refl _, h, by show s[p].toNat ≤ _; omega⟩
  · exact ⟨h4, h5, h3⟩
theorem runesB_cons (s : ByteArray) (h : 0 < s.size) : runesB s = (Utf8.decode s 0).1 :: runesB (s.extract (Utf8.decode s 0).2 s.size) := by
  obtain ⟨h1, h2, _⟩ := decode_fit s 0 h
  rw [Nat.zero_add] at h2
  show runeF s s.size 0 = _ :: runeF _ _ 0
  rw [runeF_drop s _ h2, size_drop]
  obtain ⟨m, hm⟩ : ∃ m, s.size = m + 1 := ⟨s.size - 1, by omega⟩
  rw [hm, runeF, if_pos (by omega), Nat.zero_add, Nat.add_zero]
  rw [runeF_fuel s m (m + 1 - (Utf8.decode s 0).2) _ (by omega) (by omega)]
  rfl
theorem runesB_nil (s : ByteArray) (h : s.size = 0) : runesB s = [] := by
  show runeF s s.size 0 = []
  rw [h]
  rfl
theorem runesB_drop1 (s : ByteArray) (h : 0 < s.size) : (runesB s).drop 1 = runesB (s.extract (Utf8.decode s 0).2 s.size) := by
  rw [runesB_cons s h, List.drop_succ_cons, List.drop_zero]
theorem decodeGo_pos (s : ByteArray) (h : 0 < s.size) : Lib.decodeGo s = Utf8.decode s 0 := if_neg (by omega)
theorem width_any (s : ByteArray) (h : 0 < s.size) (w : World) (hT : Tabs w) :
    Calls Tryz.prog 128 #[.string s] w fun e w' => e = .returned (.int .i64 ((Utf8.decode s 0).2 : Nat)) ∧ Below w.heap.size w w' := by
  have HD := Lib.hid (sh_utf8_DecodeRuneInString s w hT)
  rw [decodeGo_pos s h] at HD
  generalize Utf8.decode s 0 = D at *
  clear hT h
  go_enter Tryz.func128, Tryz.ntmps128
  go_wp2_with fail
  refine HD.out.mono ?_; rintro e w1 ⟨rfl, hb⟩
  have HB := Lib.hid hb
  clear hb
  go_wp2_with fail
  go_ret
  exact ⟨rfl, HB.out⟩
theorem clo_atom (x : Atm) (V : Value) (w : World) (_hV : V.oneCell' = true) :
    Calls Tryz.prog 130 #[.agg #[.int .i64 x.k, .int .i32 x.r, .bool x.n, V]] w fun e w' => e = .returned (.bool (x.k != 3)) ∧ Below w.heap.size w w' := by
  go_enter Tryz.func130, Tryz.ntmps130
  go_wp2_with fail
  go_ret
  exact ⟨rfl, below_alG w _⟩
set_option maxHeartbeats 4000000 in
theorem indexA_any (ats : List Atm) (A : Option Addr) (c : Nat) (w : World) (hR : Ats w A ats) (hl : ats.length ≤ 1000000) :
    Calls Tryz.prog 165 #[.slice A ats.length c, .func (.func 130) #[] #[]] w fun e w' => ∃ ix : Int, e = .returned (.int .i64 ix) ∧ decide (0 ≤ ix) = ats.any (fun x => x.k != 3) ∧ Below w.heap.size w w' := by
  have hia := info_atom
  have HR := Lib.hid hR
  clear hR
  go_enter Tryz.func165, Tryz.ntmps165
  go_wp2_with fail
  go_loopw [5, 8] (fun _ i wr => ∃ k : Nat, k ≤ ats.length ∧ i = .int .i64 (k : Nat) ∧ Hid ((ats.take k).any (fun x => x.k != 3) = false) ∧ Hid (Below w.heap.size w wr)) (fun _ i _ => ats.length - (intOf i).toNat)
  case atStart => exact ⟨0, Nat.zero_le _, rfl, by show List.any [] _ = _; rfl, Below.refl _ _⟩
  case round =>
    obtain ⟨k, hk, rfl, HF, HB⟩ := hrel
    by_cases hlt : k < ats.length
    · obtain ⟨b, off, rfl, hb, hcc⟩ := HR.out (by omega)
      obtain ⟨c0, c1, c2, Ai, ci, c3, _⟩ := hcc k ats[k] (List.getElem?_eq_getElem hlt)
      have HQ := Lib.hid (any_takeG ats (fun x => x.k != 3) k hlt)
      have HM := Lib.hid (List.getElem_mem hlt)
      have m : ∀ (i : Nat) (v : Value), w.cell? ⟨b, i, none⟩ = some v → wr.cell? ⟨b, i, none⟩ = some v := fun i v h => (HB.out.cell (p := ⟨b, i, none⟩) hb).trans h
      have d0 := m _ _ c0
      have d1 := m _ _ c1
      have d2 := m _ _ c2
      have d3 := m _ _ c3
      clear c0 c1 c2 c3 m hcc
      generalize ats[k] = x at *
      have HCL := Lib.hid (clo_atom x (.slice Ai x.rs.length ci) wr rfl)
      generalize hV : (x.k != 3) = V at *
      go_wp2_with fail
      refine HCL.out.mono ?_; rintro e w5 ⟨rfl, hb5⟩
      have HB5 := Lib.hid (below_then HB.out hb5)
      clear hb5
      have HVV := Lib.hid hV
      clear hV
      cases V with
      | true =>
        go_wp2_with fail
        go_ret
        refine ⟨(k : Nat), rfl, ?_, HB5.out⟩
        rw [decide_eq_true (by omega)]
        exact (List.any_eq_true.2 ⟨x, HM.out, HVV.out⟩).symm
      | false =>
        go_wp2_with fail
        go_roundw
        case rel => exact ⟨k + 1, by omega, by go_num, by show _ = _; rw [HQ.out, HF.out]; rfl, HB5⟩
        case measure => simp [intOf]; omega
    · obtain rfl : k = ats.length := by omega
      go_wp2_with fail
      go_ret
      refine ⟨-1, rfl, ?_, HB.out⟩
      have h := HF.out
      rw [List.take_length] at h
      exact h.symm
set_option maxHeartbeats 2000000 in
theorem containsA_any (ats : List Atm) (A : Option Addr) (c : Nat) (w : World) (hR : Ats w A ats) (hl : ats.length ≤ 1000000) :
    Calls Tryz.prog 129 #[.slice A ats.length c, .func (.func 130) #[] #[]] w fun e w' => e = .returned (.bool (ats.any (fun x => x.k != 3))) ∧ Below w.heap.size w w' := by
  have HI := Lib.hid (indexA_any ats A c w hR hl)
  clear hR
  go_enter Tryz.func129, Tryz.ntmps129
  go_wp2_with fail
  refine HI.out.mono ?_; rintro e w1 ⟨ix, rfl, hx, hb⟩
  have HX := Lib.hid hx
  have HB := Lib.hid hb
  clear hx hb
  go_wp2_with fail
  go_ret
  exact ⟨by rw [← HX.out]; rfl, HB.out⟩
end Go.Proofs.YtjnoapbddifcpaaGreatDoor
