/-
  Glob: rows of atoms; Compile.
  Glob: is a rune an atom's (is, has).
  Glob: a text's first rune and the rest; width; is one of some atoms no star.
-/
import Derived.Test.YtijfcmlgohbndaaGreatDoorPkBF
import Derived.Deep.RegionHeld3
import Derived.BigQuiet
import Derived.Test.YtijfcmlgohbndaaGreatDoorShelf

namespace Go.Proofs.YtijfcmlgohbndaaGreatDoor
set_option maxRecDepth 100000
open Go.RowKit Go.Joins Go.Deep

def cellsA : List (Atm × Value) → List Value
  | [] => []
  | q :: l => .int .i64 q.1.k :: .int .i32 q.1.r :: .bool q.1.n :: q.2 :: cellsA l
theorem cellsA_app (l m : List (Atm × Value)) : cellsA (l ++ m) = cellsA l ++ cellsA m := by
  induction l with
  | nil => rfl
  | cons x l ih => simp only [List.cons_append, cellsA, ih]
theorem cellsA_len (l : List (Atm × Value)) : (cellsA l).length = l.length * 4 := by
  induction l with
  | nil => rfl
  | cons x l ih => simp only [cellsA, List.length_cons, ih]; omega
theorem cellsA_get : ∀ (l : List (Atm × Value)) (i : Nat) (q : Atm × Value), l[i]? = some q → (cellsA l)[i * 4]? = some (.int .i64 q.1.k) ∧ (cellsA l)[i * 4 + 1]? = some (.int .i32 q.1.r) ∧ (cellsA l)[i * 4 + 2]? = some (.bool q.1.n) ∧ (cellsA l)[i * 4 + 3]? = some q.2
  | x :: l, 0, q, h => by
    obtain rfl : x = q := by simpa using h
    exact ⟨rfl, rfl, rfl, rfl⟩
  | x :: l, i + 1, q, h => by
    have := cellsA_get l i q (by simpa using h)
    rw [show (i + 1) * 4 = i * 4 + 4 by omega, show i * 4 + 4 + 1 = i * 4 + 1 + 4 by omega, show i * 4 + 4 + 2 = i * 4 + 2 + 4 by omega, show i * 4 + 4 + 3 = i * 4 + 3 + 4 by omega]
    simpa [cellsA] using this
/-- A slice of atoms, as it is read. -/
def Ats (w : World) (A : Option Addr) (ats : List Atm) : Prop := 0 < ats.length → ∃ b off, A = some ⟨b, off, none⟩ ∧ b < w.heap.size ∧ ∀ (i : Nat) (x : Atm), ats[i]? = some x → w.cell? ⟨b, off + i * 4, none⟩ = some (.int .i64 x.k) ∧ w.cell? ⟨b, off + i * 4 + 1, none⟩ = some (.int .i32 x.r) ∧ w.cell? ⟨b, off + i * 4 + 2, none⟩ = some (.bool x.n) ∧ ∃ Ai ci, w.cell? ⟨b, off + i * 4 + 3, none⟩ = some (.slice Ai x.rs.length ci) ∧ Rgs w .i32 Ai x.rs
theorem Ats.below {w w' : World} {A : Option Addr} {ats : List Atm} (h : Ats w A ats) (hb : Below w.heap.size w w') : Ats w' A ats := fun h0 => by
  obtain ⟨b, off, e, hlt, hc⟩ := h h0
  refine ⟨b, off, e, Nat.lt_of_lt_of_le hlt hb.size, fun i x hx => ?_⟩
  obtain ⟨c0, c1, c2, Ai, ci, c3, hr⟩ := hc i x hx
  exact ⟨(hb.cell (p := ⟨b, off + i * 4, none⟩) hlt).trans c0, (hb.cell (p := ⟨b, off + i * 4 + 1, none⟩) hlt).trans c1, (hb.cell (p := ⟨b, off + i * 4 + 2, none⟩) hlt).trans c2, Ai, ci, (hb.cell (p := ⟨b, off + i * 4 + 3, none⟩) hlt).trans c3, hr.below (Nat.le_refl _) hb⟩
theorem ats_of_own {w : World} {B c : Nat} {T : TypeId} {A : Option Addr} {qs : List (Atm × Value)} (h : w.ownsRow B T 4 (.slice A qs.length c) qs.length (cellsA qs)) (hr : ∀ q ∈ qs, AtmV w q.1 q.2) : Ats w A (qs.map (·.1)) := fun h0 => by
  rw [List.length_map] at h0
  obtain ⟨b, e, hlt, hc⟩ := own_cells h h0
  refine ⟨b, 0, e, hlt, fun i x hx => ?_⟩
  rw [List.getElem?_map] at hx
  obtain ⟨q, hq, rfl⟩ := Option.map_eq_some_iff.1 hx
  obtain ⟨g0, g1, g2, g3⟩ := cellsA_get qs i q hq
  obtain ⟨Ai, ci, e2, hrb⟩ := hr q (List.mem_of_getElem? hq)
  rw [Nat.zero_add]
  exact ⟨hc _ _ g0, hc _ _ g1, hc _ _ g2, Ai, ci, by rw [← e2]; exact hc _ _ g3, hrb.rgs⟩
/-- What Compile's loop keeps. -/
structure CompSt (w wr : World) (RS : Array Value) (V : Value) (qs : List (Atm × Value)) : Prop where
  z : wr.heap[w.heap.size]? = some (.cells #[.slice none 0 0] 62 (0, 0))
  a : wr.heap[w.heap.size + 1]? = some (.cells #[V] 62 (0, 0))
  t : wr.heap[w.heap.size + 1 + 1]? = some (.cells RS 21 (0, 0))
  o : wr.ownsRow (w.heap.size + 1 + 1 + 1) 89 4 V qs.length (cellsA qs)
  r : ∀ q ∈ qs, AtmV wr q.1 q.2
  b : Below w.heap.size w wr
  s : w.heap.size + 1 + 1 + 1 ≤ wr.heap.size
theorem CompSt.next {w wr wx : World} {RS : Array Value} {V : Value} {qs : List (Atm × Value)} (h : CompSt w wr RS V qs) (hb : Below wr.heap.size wr wx) : CompSt w wx RS V qs :=
  ⟨(hb.block _ (lt_of_block h.z)).trans h.z, (hb.block _ (lt_of_block h.a)).trans h.a, (hb.block _ (lt_of_block h.t)).trans h.t, own_below' h.o hb, fun q hq => (h.r q hq).below hb, below_then h.b hb, Nat.le_trans h.s hb.size⟩
/-- A row of runes from a place on. -/
theorem rn_block {w : World} {b : Nat} {RS : Array Value} {l : List Nat} (hb : w.heap[b]? = some (.cells RS 21 (0, 0))) (hr : ∀ i, i < l.length → RS[i]? = some (.int .i32 ((l.getD i 0 : Nat) : Int))) (k : Nat) : Rn w (some ⟨b, k, none⟩) (l.drop k) := fun h0 => by
  rw [List.length_drop] at h0
  refine ⟨b, k, rfl, lt_of_block hb, fun i hi => ?_⟩
  rw [List.length_drop] at hi
  rw [cell_of_row _ _ _ _ _ _ hb, hr (k + i) (by omega), List.getD_eq_getElem?_getD, List.getD_eq_getElem?_getD, List.getElem?_drop]
theorem rn_slice' (A : Option Addr) (n cap k : Nat) (hk : k ≤ n) (hcap : n ≤ cap) :
    ∃ A', (∀ w : World, (Instr.slice 86 (.slice A n cap) (some (.int .i64 (k : Nat))) none none).run Tryz.prog w = .ok (.slice A' (n - k) (cap - k)) w) ∧ ∀ b off, k < n → A = some ⟨b, off, none⟩ → A' = some ⟨b, off + k, none⟩ := by
  have h1 : (0 : Int) ≤ (k : Int) := by omega
  have h2 : (k : Int) ≤ (n : Int) := by omega
  refine ⟨if cap = k then A else A.map (·.add (k * 1)), fun w => ?_, fun b off hlt e => ?_⟩
  · rw [run_slice_l (P := Tryz.prog) w 86 A n cap Tryz.underlying86 .i64 (k : Int) h1 h2]
    obtain ⟨i, hi, hs⟩ := Option.map_eq_some_iff.1 info_i32
    have hsz : (sizeOf (Tryz.prog.elem 86)).run Tryz.prog w = .ok 1 w := by
      show (sizeOf 21).run Tryz.prog w = .ok 1 w
      simp [sizeOf, typeInfo, hi, hs]
    rw [hsz]
    simp [Result.andThen, sliced]
  · rw [if_neg (by omega), e, Option.map_some, Addr.add_lit, Nat.mul_one]
theorem runes_from (s : ByteArray) : ∀ (f i : Nat) (acc : Array Value), (Conv.runesFrom s f i acc).toList = acc.toList ++ (runeF s f i).map fun r => Value.int .i32 ((r : Nat) : Int)
  | 0, i, acc => by simp [Conv.runesFrom, runeF]
  | f + 1, i, acc => by
    rw [Conv.runesFrom, runeF]
    split
    · rw [runes_from s f]
      simp
    · simp
theorem runeF_len (s : ByteArray) : ∀ (f i : Nat), (runeF s f i).length ≤ f
  | 0, _ => Nat.le_refl _
  | f + 1, i => by
    rw [runeF]
    split
    · have := runeF_len s f (i + (Utf8.decode s i).2)
      rw [List.length_cons]; omega
    · exact Nat.zero_le _
theorem runeF_max (s : ByteArray) : ∀ (f i : Nat), ∀ x ∈ runeF s f i, x ≤ 1114111
  | 0, _, x, h => by cases h
  | f + 1, i, x, h => by
    rw [runeF] at h
    split at h
    next hi =>
      rcases List.mem_cons.1 h with rfl | h
      · rcases decode_run s i hi with ⟨h1, h2⟩ | h1
        · rw [h2]; show s[i].toNat ≤ _; omega
        · exact h1.2.2.1
      · exact runeF_max s f _ x h
    · cases h
theorem allR_of {l : List Nat} (h : ∀ x ∈ l, x ≤ 1114111) : AllR l := fun i => by
  rw [List.getD_eq_getElem?_getD]
  by_cases hi : i < l.length
  · rw [List.getElem?_eq_getElem hi]
    exact h _ (List.getElem_mem hi)
  · rw [List.getElem?_eq_none (by omega)]
    show (0 : Nat) ≤ _; omega
theorem zero_pat (w : World) : (zeroValue 62).run Tryz.prog w = .ok (.agg #[.slice none 0 0]) w := by kernel_rfl
theorem info_pat : (Tryz.prog.info? 62).map (·.size) = some 1 := by kernel_rfl
theorem parts_atom : (Tryz.prog.info? 89).map (fun i => (i.zero, i.size, i.bytes)) = some (some (.agg #[.int .i64 0, .int .i32 0, .bool false, .slice none 0 0]), 4, 40) := by kernel_rfl
theorem info_ats : (Tryz.prog.info? 60).map (·.size) = some 1 := by kernel_rfl
theorem RgB.grow {w w' : World} {A : Option Addr} {l : List (Int × Int)} (h : RgB w A l) {B n z : Nat} {v : Value} {xs : List Value} {T : TypeId} (ho : w.ownsRow B T z v n xs) (hT : T ≠ 158) (hg : w.grownBy w' v.ownBlock) : RgB w' A l := h.keep fun b cs hx => hg.block b (lt_of_block hx) (fun e => by
  rcases ho.2 with ⟨h1, _⟩ | ⟨g, cap, cur, h1, _, h3, _⟩
  · rw [h1] at e; cases e
  · rw [h1] at e
    injection e with e
    have e' : b = g := e
    subst e'
    rw [h3] at hx
    injection hx with hx
    injection hx with _ hx _
    exact hT hx)
def lenOf : Value → Nat
  | .slice _ n _ => n
  | _ => 0
/-- What Compile answers. -/
def CompR (w : World) (o : Option (List Atm)) (e : Ending) (w' : World) : Prop :=
  (o = none ∧ e = .returned (.tuple #[.agg #[.slice none 0 0], .int .i64 22]) ∧ Below w.heap.size w w') ∨
  (∃ ats A c, o = some ats ∧ ats.length ≤ c ∧ e = .returned (.tuple #[.agg #[.slice A ats.length c], .int .i64 0]) ∧ Ats w' A ats ∧ Below w.heap.size w w')
set_option maxHeartbeats 4000000 in
theorem compile_long (s : ByteArray) (hs : 65535 < s.size) (w : World) :
    Calls Tryz.prog 17 #[.string s] w fun e w' => e = .returned (.tuple #[.agg #[.slice none 0 0], .int .i64 5]) ∧ Below w.heap.size w w' := by
  have hzp := zero_pat
  have hip := info_pat
  have g1 : decide ((65535 : Int) < (s.size : Int)) = true := decide_eq_true (by omega)
  have g2 : decide (65535 < s.size) = true := decide_eq_true hs
  go_enter Tryz.func17, Tryz.ntmps17
  go_wp2_with fail
  refine bodyPost_ret (v := .tuple #[.agg #[.slice none 0 0], .int .i64 5]) (by simp [results, Tryz.results17, go_sem]) rfl ?_
  exact ⟨rfl, below_alG w _⟩
set_option maxHeartbeats 8000000 in
theorem compile_any (s : ByteArray) (hs : s.size ≤ 65535) (w : World) :
    Calls Tryz.prog 17 #[.string s] w (CompR w (compF (runesB s) 0 [])) := by
  have hza := zero_atom
  have hia := info_atom
  have hzp := zero_pat
  have hip := info_pat
  have hits := info_ats
  obtain ⟨i0, hi, hz0, hz1, hz2⟩ := parts_of parts_atom
  obtain ⟨O, hO⟩ : ∃ O, O = compF (runesB s) 0 [] := ⟨_, rfl⟩
  rw [← hO]
  have HO := Lib.hid hO.symm
  have hl := runeF_len s s.size 0
  have hr := allR_of (runeF_max s s.size 0)
  obtain ⟨l, hlv⟩ : ∃ l, l = runesB s := ⟨_, rfl⟩
  have hrf := runes_from s s.size 0 #[]
  rw [← hlv] at HO
  rw [show runeF s s.size 0 = l from hlv.symm] at hl hr hrf
  have hrs : (Conv.runesFrom s s.size 0 #[]).size = l.length := by
    have := congrArg List.length hrf
    simpa using this
  have hcv := fun w1 => run_runes_of_string (P := Tryz.prog) w1 9 86 21 s Tryz.underlying9 Tryz.underlying86 Tryz.underlying21 (by rw [hrs]; omega)
  rw [hrs] at hcv
  have hG := grownCap_ge ((w.alloc (.cells #[.slice none 0 0] 62)).alloc (.cells #[.slice none 0 0] 62)) l.length 0 21
  have hGm := grownCap_le_maxLen ((w.alloc (.cells #[.slice none 0 0] 62)).alloc (.cells #[.slice none 0 0] 62)) l.length 0 21 (by unfold maxLen; omega)
  have hcv1 := hcv ((w.alloc (.cells #[.slice none 0 0] 62)).alloc (.cells #[.slice none 0 0] 62))
  generalize grownCap ((w.alloc (.cells #[.slice none 0 0] 62)).alloc (.cells #[.slice none 0 0] 62)) l.length 0 21 = G at *
  obtain ⟨RS, hRS⟩ : ∃ RS, RS = Conv.runesFrom s s.size 0 #[] ++ Array.replicate (G - l.length) (Value.int .i32 0) := ⟨_, rfl⟩
  rw [← hRS] at hcv1
  have HRS : Hid (∀ i, i < l.length → RS[i]? = some (.int .i32 ((l.getD i 0 : Nat) : Int))) := by
    intro i hi
    rw [hRS, Array.getElem?_append_left (by rw [hrs]; exact hi), ← Array.getElem?_toList, hrf]
    simp [hi]
  clear hcv hrf hrs hRS hO hlv
  have g1 : decide ((65535 : Int) < (s.size : Int)) = false := decide_eq_false (by omega)
  have g2 : decide (65535 < s.size) = false := decide_eq_false (by omega)
  go_enter Tryz.func17, Tryz.ntmps17
  go_wp2_with fail
  have HS0 : Hid (CompSt w (((w.alloc (.cells #[.slice none 0 0] 62)).alloc (.cells #[.slice none 0 0] 62)).alloc (.cells RS 21)).drew RS (.slice none 0 0) []) := by
    have hb1 := below_alG w (.cells #[.slice none 0 0] 62)
    have h1 := heap_alloc_new w (.cells #[.slice none 0 0] 62)
    have s1 : (w.alloc (.cells #[.slice none 0 0] 62)).heap.size = w.heap.size + 1 := by simp
    generalize w.alloc (.cells #[.slice none 0 0] 62) = w1 at *
    have hb2 := below_then hb1 (below_alG w1 (.cells #[.slice none 0 0] 62))
    have h2 := heap_alloc_new w1 (.cells #[.slice none 0 0] 62)
    have h1' := (heap_alloc_old w1 (.cells #[.slice none 0 0] 62) (lt_of_block h1)).trans h1
    have s2 : (w1.alloc (.cells #[.slice none 0 0] 62)).heap.size = w.heap.size + 1 + 1 := by simp [s1]
    rw [s1] at h2
    generalize w1.alloc (.cells #[.slice none 0 0] 62) = w2 at *
    have hb3 := below_then hb2 (below_alG w2 (.cells RS 21))
    have h3 := heap_alloc_new w2 (.cells RS 21)
    rw [s2] at h3
    exact ⟨(heap_alloc_old w2 _ (lt_of_block h1')).trans h1', (heap_alloc_old w2 _ (lt_of_block h2)).trans h2, h3, World.ownsRow_nil _ _ _ _, (fun q hq => by cases hq), hb3.drew, by show _ ≤ (w2.alloc _).heap.size; simp [s2]⟩
  generalize (((w.alloc (.cells #[.slice none 0 0] 62)).alloc (.cells #[.slice none 0 0] 62)).alloc (.cells RS 21)).drew = w3 at *
  have HHR := Lib.hid hr
  have HGM := Lib.hid hGm
  clear hcv1 hr hGm
  go_loopw [5] (fun v wr => ∃ (k n : Nat) (A : Option Addr) (c : Nat) (V : Value) (qs : List (Atm × Value)), v = .slice A n c ∧ Hid (n + k = l.length) ∧ n ≤ c ∧ Hid (c ≤ maxLen) ∧ Hid (0 < n → A = some ⟨w.heap.size + 1 + 1, k, none⟩) ∧ Hid (CompSt w wr RS V qs) ∧ Hid (compF l k (qs.map (·.1)) = O) ∧ qs.length ≤ k) (fun v _ => lenOf v)
  case atStart => exact ⟨0, l.length, _, G, _, [], rfl, rfl, hG, HGM, fun _ => rfl, HS0, HO, Nat.le_refl _⟩
  case round =>
    obtain ⟨k, n, A, c, V, qs, rfl, HN, hnc, HC, HA, HS, HOr, hqk⟩ := hrel
    obtain ⟨A2, c2, rfl⟩ := row_slice2 HS.out.o
    have z0 := (cell_of_row _ _ 0 _ _ _ HS.out.z).trans (show _ = some (Value.slice none 0 0) from rfl)
    have fz := frozen_of_row _ _ 0 _ _ HS.out.z
    have hnn : n ≤ 65535 := by have := HN.out; omega
    by_cases h0 : n = 0
    · subst h0
      have hk : k = l.length := by have := HN.out; omega
      have HOO : Hid (O = some (qs.map (·.1))) := by show _ = _; rw [← HOr.out]; exact compF_end (by omega)
      have a0 := (cell_of_row _ _ 0 _ _ _ HS.out.a).trans (show _ = some (Value.slice A2 qs.length c2) from rfl)
      have HQL : Hid (qs.length ≤ c2) := by
        show _ ≤ _
        rcases HS.out.o.2 with ⟨h1, h2⟩ | ⟨g, cap, cur, h1, _, _, h4, _⟩
        · rw [h2]; exact Nat.zero_le _
        · injection h1 with _ _ h1; rw [h1]; exact h4
      clear hk
      go_wp2_with fail
      refine bodyPost_ret (v := .tuple #[.agg #[.slice A2 qs.length c2], .int .i64 0]) (by simp [results, Tryz.results17, go_sem, z0]) rfl ?_
      have hS := HS.out
      refine .inr ⟨qs.map (·.1), A2, c2, HOO.out, by rw [List.length_map]; exact HQL.out, by rw [List.length_map], ?_, hS.b.setCell (p := ⟨w.heap.size, 0, none⟩) (Nat.le_refl _) _⟩
      refine ats_of_own (B := w.heap.size + 1 + 1 + 1) (T := 89) (c := c2) (ownsRow_setCell_below hS.o (a := ⟨w.heap.size, 0, none⟩) (by show w.heap.size < _; omega) _) (fun q hq => ?_)
      obtain ⟨Aq, cq, e, hrq⟩ := hS.r q hq
      exact ⟨Aq, cq, e, hrq.set hS.z (by decide) _⟩
    · have hk : k < l.length := by have := HN.out; omega
      have hA := HA.out (by omega)
      subst hA
      have hS := HS.out
      have HRN : Hid (Rn wr (some ⟨w.heap.size + 1 + 1, k, none⟩) (l.drop k)) := rn_block hS.t HRS.out k
      have HAT := Lib.hid (fun w1 h => atom_any (some ⟨w.heap.size + 1 + 1, k, none⟩) n c (l.drop k) (by rw [List.length_drop]; have := HN.out; omega) (by omega) (by omega) hnc HC.out (HHR.out.drop k) w1 h)
      have HCN := Lib.hid (fun h => compF_none (acc := qs.map (·.1)) hk h)
      have HCM := Lib.hid (fun x m h => compF_more (acc := qs.map (·.1)) (x := x) (k := m) hk h)
      have HLE := Lib.hid (fun p h => atomF_le (l := l.drop k) (p := p) (by rw [List.length_drop]; omega) h)
      generalize atomF (l.drop k) = D at *
      have gn : decide (0 < n) = true := decide_eq_true (by omega)
      have gn' : decide ((0 : Int) < (n : Int)) = true := decide_eq_true (by omega)
      have gn3 : 0 < n := by omega
      clear hS hk z0 fz
      go_wp2_with fail
      refine (HAT.out _ HRN.out).mono ?_; rintro e w5 (⟨rfl, ⟨kk, rfl⟩, hb5⟩ | ⟨x, m, V5, rfl, rfl, hv5, hb5⟩)
      · have HS5 := Lib.hid (HS.out.next hb5)
        have HS6 := Lib.hid (HS5.out.next (below_alG w5 (.cells #[.int .i64 kk, .int .i32 0, .bool false, .slice none 0 0] 89)))
        have HOO : Hid (O = none) := by show _ = _; rw [← HOr.out]; exact HCN.out rfl
        clear hb5
        go_upto_if 23 with fail
        generalize w5.alloc (.cells #[.int .i64 kk, .int .i32 0, .bool false, .slice none 0 0] 89) = w6 at *
        have z0 := (cell_of_row _ _ 0 _ _ _ HS6.out.z).trans (show _ = some (Value.slice none 0 0) from rfl)
        have fz := frozen_of_row _ _ 0 _ _ HS6.out.z
        go_wp2_with fail
        refine bodyPost_ret (v := .tuple #[.agg #[.slice none 0 0], .int .i64 22]) (by simp [results, Tryz.results17, go_sem, z0]) rfl ?_
        exact .inl ⟨HOO.out, rfl, HS6.out.b.setCell (p := ⟨w.heap.size, 0, none⟩) (Nat.le_refl _) _⟩
      · obtain ⟨hm1, hm2⟩ := HLE.out _ rfl
        rw [List.length_drop] at hm2
        dsimp only at hm1 hm2
        have hmn : m ≤ n := by have := HN.out; omega
        obtain ⟨A', hrun, hA'⟩ := rn_slice' (some ⟨w.heap.size + 1 + 1, k, none⟩) n c m hmn hnc
        have HOO : Hid (compF l (k + m) (qs.map (·.1) ++ [x]) = O) := by show _ = _; rw [← HOr.out]; exact (HCM.out x m rfl).symm
        obtain ⟨Ax, cx, rfl, hrx⟩ := hv5
        have HS5 := Lib.hid (HS.out.next hb5)
        have HX5 := Lib.hid (below_alG w5 (.cells #[.int .i64 x.k, .int .i32 x.r, .bool x.n, .slice Ax x.rs.length cx] 89))
        have HV6 : Hid (AtmV (w5.alloc (.cells #[.int .i64 x.k, .int .i32 x.r, .bool x.n, .slice Ax x.rs.length cx] 89)) x (.slice Ax x.rs.length cx)) := ⟨Ax, cx, rfl, hrx.below HX5.out⟩
        have HN5 := Lib.hid (heap_alloc_new w5 (.cells #[.int .i64 x.k, .int .i32 x.r, .bool x.n, .slice Ax x.rs.length cx] 89))
        have gm : ((m : Int) == 0) = false := by rw [beq_eq_false_iff_ne]; omega
        have HMN : Hid (m ≤ n) := hmn
        have HM1 := Lib.hid hm1
        clear hb5 hrx HAT HCN HCM HLE hm1 hm2
        go_upto_if 23 with fail
        have HS6 := Lib.hid (HS5.out.next HX5.out)
        generalize w5.alloc (.cells #[.int .i64 x.k, .int .i32 x.r, .bool x.n, .slice Ax x.rs.length cx] 89) = w6 at *
        have a3 := (cell_of_row _ _ 0 _ _ _ HS6.out.a).trans (show _ = some (Value.slice A2 qs.length c2) from rfl)
        have r0 := (cell_of_row _ _ 0 _ _ _ HN5.out).trans (show _ = some (Value.int .i64 x.k) from rfl)
        have r1 := (cell_of_row _ _ 1 _ _ _ HN5.out).trans (show _ = some (Value.int .i32 x.r) from rfl)
        have r2 := (cell_of_row _ _ 2 _ _ _ HN5.out).trans (show _ = some (Value.bool x.n) from rfl)
        have r3 := (cell_of_row _ _ 3 _ _ _ HN5.out).trans (show _ = some (Value.slice Ax x.rs.length cx) from rfl)
        have HX7 := Lib.hid (heap_alloc_new w6 (.cells #[.int .i64 x.k, .int .i32 x.r, .bool x.n, .slice Ax x.rs.length cx] 89))
        have HB67 := below_alG w6 (.cells #[.int .i64 x.k, .int .i32 x.r, .bool x.n, .slice Ax x.rs.length cx] 89)
        have HS7 := Lib.hid (HS6.out.next HB67)
        have HV7 := Lib.hid (HV6.out.below HB67)
        have HLT := Lib.hid HS7.out.o.lt
        have hql : qs.length ≤ 65535 := by have := HN.out; omega
        have HSS := Lib.hid HS7.out.s
        clear HB67 HX5 HN5
        go_wp2_with (at_builtin; go_must (refine wpList_append_own_at _ rfl (.tmp 26) (.tmp 28) _ rfl (w.heap.size + 1 + 1 + 1) 89 i0 (.agg #[.int .i64 0, .int .i32 0, .bool false, .slice none 0 0]) 4 40 Tryz.underlying60 hi hz0 hz1 hz2 rfl (by decide) (.slice A2 qs.length c2) qs.length _ rfl HS7.out.o ⟨w6.heap.size, 0, none⟩ 1 1 [.int .i64 x.k, .int .i32 x.r, .bool x.n, .slice Ax x.rs.length cx] rfl rfl (by exact World.news_of_block HX7.out) (by intro u hu; simp at hu; rcases hu with rfl | rfl | rfl | rfl <;> rfl) (by unfold maxLen; omega) (by omega) (by exact HSS.out) ?_; intro v' w8 hown' hgrow hnil' hloc; obtain ⟨A8, c8, rfl⟩ := row_slice2 hown'; have HO8 := Lib.hid hown'; have HGR := Lib.hid hgrow; have HA8 := Lib.hid ((hgrow.block (w.heap.size + 1) (by have := HSS.out; omega) (fun e => by have := (HLT.out _ e.symm).1; omega)).trans HS7.out.a); have a8 := (cell_of_row _ _ 0 _ _ _ HA8.out).trans (show _ = some (Value.slice A2 qs.length c2) from rfl); have f8 := frozen_of_row _ _ 0 _ _ HA8.out; clear hown' hgrow hnil' hloc))
        have HZ9 := Lib.hid ((heap_setCell_other w8 ⟨w.heap.size + 1, 0, none⟩ w.heap.size (.slice A8 (qs.length + 1) c8) (by simp)).trans ((HGR.out.block w.heap.size (by have := HSS.out; omega) (fun e => by have := (HLT.out _ e.symm).1; omega)).trans HS7.out.z))
        have HT9 := Lib.hid ((heap_setCell_other w8 ⟨w.heap.size + 1, 0, none⟩ (w.heap.size + 1 + 1) (.slice A8 (qs.length + 1) c8) (by simp)).trans ((HGR.out.block (w.heap.size + 1 + 1) (by have := HSS.out; omega) (fun e => by have := (HLT.out _ e.symm).1; omega)).trans HS7.out.t))
        have HA9 := Lib.hid (heap_setCell_same w8 (w.heap.size + 1) 0 _ _ (.slice A8 (qs.length + 1) c8) HA8.out)
        have HB9 := Lib.hid ((HS7.out.b.grown HGR.out (by have := HSS.out; omega) (fun q hq => by have := (HLT.out q hq).1; omega)).setCell (p := ⟨w.heap.size + 1, 0, none⟩) (by simp) (.slice A8 (qs.length + 1) c8))
        have HO9 := Lib.hid (ownsRow_setCell_below HO8.out (a := ⟨w.heap.size + 1, 0, none⟩) (by simp) (.slice A8 (qs.length + 1) c8))
        have HG9 : Hid (w.heap.size + 1 + 1 + 1 ≤ (w8.setCell ⟨w.heap.size + 1, 0, none⟩ (.slice A8 (qs.length + 1) c8)).heap.size) := by
          have h1 := HGR.out.size
          have h2 := HSS.out
          show _ ≤ _
          simp [World.setCell]
          omega
        have key : ∀ q : Atm × Value, AtmV (w6.alloc (.cells #[.int .i64 x.k, .int .i32 x.r, .bool x.n, .slice Ax x.rs.length cx] 89)) q.1 q.2 → AtmV (w8.setCell ⟨w.heap.size + 1, 0, none⟩ (.slice A8 (qs.length + 1) c8)) q.1 q.2 := fun q hq => by
          obtain ⟨Aq, cq, e, hrq⟩ := hq
          exact ⟨Aq, cq, e, (hrq.grow HS7.out.o (by decide) HGR.out).set HA8.out (by decide) _⟩
        have HR9 : Hid (∀ q ∈ qs ++ [(x, Value.slice Ax x.rs.length cx)], AtmV (w8.setCell ⟨w.heap.size + 1, 0, none⟩ (.slice A8 (qs.length + 1) c8)) q.1 q.2) := by
          intro q hq
          rcases List.mem_append.1 hq with hq | hq
          · exact key q (HS7.out.r q hq)
          · obtain rfl : q = (x, Value.slice Ax x.rs.length cx) := by simpa using hq
            exact key _ HV7.out
        go_roundw
        case rel =>
          refine ⟨k + m, n - m, A', c - m, _, qs ++ [(x, Value.slice Ax x.rs.length cx)], rfl, by show _ = _; have := HN.out; have := HMN.out; omega, by omega, by show _ ≤ _; have := HC.out; omega, fun h => hA' _ _ (by omega) rfl, ⟨HZ9.out, HA9.out, HT9.out, ?_, HR9.out, HB9.out, HG9.out⟩, ?_, ?_⟩
          · rw [cellsA_app, List.length_append]
            exact HO9.out
          · show _ = _
            rw [List.map_append]
            exact HOO.out
          · rw [List.length_append]
            have := HM1.out
            show qs.length + 1 ≤ _
            omega
        case measure => show n - m < n; have := HM1.out; omega
end Go.Proofs.YtijfcmlgohbndaaGreatDoor

namespace Go.Proofs.YtijfcmlgohbndaaGreatDoor
set_option maxRecDepth 100000
open Go.RowKit Go.Joins Go.Deep

set_option maxHeartbeats 2000000 in
theorem clo_range (p : Int × Int) (r : Int) (g : Nat) (w : World) (hg : g < w.heap.size) (hc : w.cell? ⟨g, 0, none⟩ = some (.int .i32 r)) :
    Calls Tryz.prog 152 #[.agg #[.int .i32 p.1, .int .i32 p.2], .pointer (some ⟨g, 0, none⟩)] w fun e w' => e = .returned (.bool (decide (p.1 ≤ r) && decide (r ≤ p.2))) ∧ Below w.heap.size w w' := by
  obtain ⟨lo, hi⟩ := p
  dsimp only
  have hc2 := ((below_alG w (.cells #[.int .i32 lo, .int .i32 hi] 158)).cell (p := ⟨g, 0, none⟩) hg).trans hc
  have hne : g ≠ w.heap.size := by omega
  by_cases h1 : lo ≤ r
  · have d1 : decide (lo ≤ r) = true := decide_eq_true h1
    go_enter Tryz.func152, Tryz.ntmps152
    go_wp2_with fail
    go_ret
    exact ⟨by rw [d1]; rfl, below_alG w _⟩
  · have d1 : decide (lo ≤ r) = false := decide_eq_false h1
    go_enter Tryz.func152, Tryz.ntmps152
    go_wp2_with fail
    go_ret
    exact ⟨rfl, below_alG w _⟩
def hasI (rs : List (Int × Int)) (r : Int) : Bool := rs.any fun p => decide (p.1 ≤ r) && decide (r ≤ p.2)
theorem any_takeG {α : Type} (l : List α) (P : α → Bool) (k : Nat) (h : k < l.length) : (l.take (k + 1)).any P = ((l.take k).any P || P l[k]) := by
  rw [List.take_succ_eq_append_getElem h, List.any_append]
  simp
set_option maxHeartbeats 4000000 in
theorem indexR_any (rs : List (Int × Int)) (r : Int) (g : Nat) (A : Option Addr) (c : Nat) (w : World) (hg : g < w.heap.size) (hc : w.cell? ⟨g, 0, none⟩ = some (.int .i32 r)) (hR : Rgs w .i32 A rs) (hl : rs.length ≤ 1000000) :
    Calls Tryz.prog 155 #[.slice A rs.length c, .func (.func 152) #[] #[.pointer (some ⟨g, 0, none⟩)]] w fun e w' => ∃ ix : Int, e = .returned (.int .i64 ix) ∧ decide (0 ≤ ix) = hasI rs r ∧ Below w.heap.size w w' := by
  have hir := info_range
  have HC := Lib.hid hc
  have HR := Lib.hid hR
  have HG := Lib.hid hg
  clear hc hR hg
  go_enter Tryz.func155, Tryz.ntmps155
  go_wp2_with fail
  go_loopw [5, 8] (fun _ i wr => ∃ k : Nat, k ≤ rs.length ∧ i = .int .i64 (k : Nat) ∧ Hid ((rs.take k).any (fun p => decide (p.1 ≤ r) && decide (r ≤ p.2)) = false) ∧ Hid (Below w.heap.size w wr)) (fun _ i _ => rs.length - (intOf i).toNat)
  case atStart => exact ⟨0, Nat.zero_le _, rfl, by show List.any [] _ = _; rfl, Below.refl _ _⟩
  case round =>
    obtain ⟨k, hk, rfl, HF, HB⟩ := hrel
    by_cases hlt : k < rs.length
    · obtain ⟨b, off, rfl, hb, hcc⟩ := (HR.out.below (Nat.le_refl _) HB.out) (by omega)
      obtain ⟨c0, c1⟩ := hcc k hlt
      have HQ := Lib.hid (any_takeG rs (fun p => decide (p.1 ≤ r) && decide (r ≤ p.2)) k hlt)
      rw [show rs.getD k (0, 0) = rs[k] by rw [List.getD_eq_getElem?_getD, List.getElem?_eq_getElem hlt]; rfl] at c0 c1
      have HCL := Lib.hid (clo_range rs[k] r g wr (Nat.lt_of_lt_of_le HG.out HB.out.size) ((HB.out.cell (p := ⟨g, 0, none⟩) HG.out).trans HC.out))
      have HM := Lib.hid (List.getElem_mem hlt)
      generalize hp : rs[k] = pp at *
      clear hcc hp
      obtain ⟨lo, hi⟩ := pp
      dsimp only at *
      generalize hV : (decide (lo ≤ r) && decide (r ≤ hi)) = V at *
      go_wp2_with fail
      refine HCL.out.mono ?_; rintro e w5 ⟨rfl, hb5⟩
      have HB5 := Lib.hid (below_then HB.out hb5)
      clear hb5
      have HVV := Lib.hid hV
      clear hV
      cases V with
      | true =>
        go_wp2_with fail
        go_ret
        refine ⟨(k : Nat), rfl, ?_, HB5.out⟩
        rw [decide_eq_true (by omega)]
        exact (List.any_eq_true.2 ⟨(lo, hi), HM.out, HVV.out⟩).symm
      | false =>
        go_wp2_with fail
        go_roundw
        case rel => exact ⟨k + 1, by omega, by go_num, by show _ = _; rw [HQ.out, HF.out]; rfl, HB5⟩
        case measure => simp [intOf]; omega
    · obtain rfl : k = rs.length := by omega
      go_wp2_with fail
      go_ret
      refine ⟨-1, rfl, ?_, HB.out⟩
      have h := HF.out
      rw [List.take_length] at h
      exact h.symm
set_option maxHeartbeats 2000000 in
theorem containsR_any (rs : List (Int × Int)) (r : Int) (g : Nat) (A : Option Addr) (c : Nat) (w : World) (hg : g < w.heap.size) (hc : w.cell? ⟨g, 0, none⟩ = some (.int .i32 r)) (hR : Rgs w .i32 A rs) (hl : rs.length ≤ 1000000) :
    Calls Tryz.prog 151 #[.slice A rs.length c, .func (.func 152) #[] #[.pointer (some ⟨g, 0, none⟩)]] w fun e w' => e = .returned (.bool (hasI rs r)) ∧ Below w.heap.size w w' := by
  have HI := Lib.hid (indexR_any rs r g A c w hg hc hR hl)
  clear hg hc hR
  go_enter Tryz.func151, Tryz.ntmps151
  go_wp2_with fail
  refine HI.out.mono ?_; rintro e w1 ⟨ix, rfl, hx, hb⟩
  have HX := Lib.hid hx
  have HB := Lib.hid hb
  clear hx hb
  go_wp2_with fail
  go_ret
  exact ⟨by rw [← HX.out]; rfl, HB.out⟩
/-- An atom lies there. -/
def AtC (w : World) (b off : Nat) (x : Atm) : Prop := b < w.heap.size ∧ w.cell? ⟨b, off, none⟩ = some (.int .i64 x.k) ∧ w.cell? ⟨b, off + 1, none⟩ = some (.int .i32 x.r) ∧ w.cell? ⟨b, off + 2, none⟩ = some (.bool x.n) ∧ ∃ Ai ci, w.cell? ⟨b, off + 3, none⟩ = some (.slice Ai x.rs.length ci) ∧ Rgs w .i32 Ai x.rs
set_option maxHeartbeats 2000000 in
theorem has_any (x : Atm) (r : Int) (b off : Nat) (w : World) (hA : AtC w b off x) (hl : x.rs.length ≤ 1000000) :
    Calls Tryz.prog 145 #[.pointer (some ⟨b, off, none⟩), .int .i32 r] w fun e w' => e = .returned (.bool (hasI x.rs r)) ∧ Below w.heap.size w w' := by
  obtain ⟨hb, _, _, _, Ai, ci, c3, hR⟩ := hA
  have hmf : ∀ (fn : Fn) (first cap : Array Value) (w : World), (Instr.makeFunc fn first cap).run Tryz.prog w = .ok (.func fn first cap) w := fun _ _ _ _ => rfl
  have hal := below_alG w (.cells #[.int .i32 r] 21)
  have c3' := (hal.cell (p := ⟨b, off + 3, none⟩) hb).trans c3
  have HCT := Lib.hid (containsR_any x.rs r w.heap.size Ai ci (w.alloc (.cells #[.int .i32 r] 21)) (by simp) ((cell_of_row _ _ 0 _ _ _ (heap_alloc_new w _)).trans rfl) (hR.below (Nat.le_refl _) hal) hl)
  have HAL := Lib.hid hal
  generalize x.rs = rs at *
  clear hal c3 hR
  go_enter Tryz.func145, Tryz.ntmps145
  go_wp2_with fail
  refine HCT.out.mono ?_; rintro e w1 ⟨rfl, hb1⟩
  have HB1 := Lib.hid (below_then HAL.out hb1)
  clear hb1
  go_wp2_with fail
  go_ret
  exact ⟨rfl, HB1.out⟩
theorem AtC.below {w w' : World} {b off : Nat} {x : Atm} (h : AtC w b off x) (hb : Below w.heap.size w w') : AtC w' b off x := by
  obtain ⟨hlt, c0, c1, c2, Ai, ci, c3, hr⟩ := h
  exact ⟨Nat.lt_of_lt_of_le hlt hb.size, (hb.cell (p := ⟨b, off, none⟩) hlt).trans c0, (hb.cell (p := ⟨b, off + 1, none⟩) hlt).trans c1, (hb.cell (p := ⟨b, off + 2, none⟩) hlt).trans c2, Ai, ci, (hb.cell (p := ⟨b, off + 3, none⟩) hlt).trans c3, hr.below (Nat.le_refl _) hb⟩
def takI (x : Atm) (r : Int) : Bool := if x.k = 1 then decide (x.r = r) else if x.k = 2 then true else decide (x.k = 4) && (hasI x.rs r != x.n)
theorem takI_nat (x : Atm) (n : Nat) : takI x (n : Nat) = takA x n := rfl
set_option maxHeartbeats 4000000 in
theorem is_any (x : Atm) (r : Int) (b off : Nat) (w : World) (hA : AtC w b off x) (hl : x.rs.length ≤ 1000000) :
    Calls Tryz.prog 133 #[.pointer (some ⟨b, off, none⟩), .int .i32 r] w fun e w' => e = .returned (.bool (takI x r)) ∧ Below w.heap.size w w' := by
  have HH := Lib.hid (fun w1 h => has_any x r b off w1 h hl)
  have hT : takI x r = if x.k = 1 then decide (x.r = r) else if x.k = 2 then true else decide (x.k = 4) && (hasI x.rs r != x.n) := rfl
  have HA := Lib.hid hA
  obtain ⟨hb, c0, c1, c2, Ai, ci, c3, hR⟩ := hA
  obtain ⟨k, xr, nt, rs⟩ := x
  dsimp only at *
  generalize takI ⟨k, xr, nt, rs⟩ r = T at *
  clear c3 hR
  by_cases h1 : k = 1
  · subst h1
    have hT' := hT.trans (if_pos rfl)
    subst hT'
    clear HH hT
    go_enter Tryz.func133, Tryz.ntmps133
    go_wp2_with fail
    go_ret
    exact ⟨rfl, Below.refl _ _⟩
  · have g1 : (k == 1) = false := by rw [beq_eq_false_iff_ne]; exact h1
    rw [if_neg h1] at hT
    by_cases h2 : k = 2
    · subst h2
      rw [if_pos rfl] at hT
      subst hT
      clear HH h1
      go_enter Tryz.func133, Tryz.ntmps133
      go_wp2_with fail
      go_ret
      exact ⟨rfl, Below.refl _ _⟩
    · have g2 : (k == 2) = false := by rw [beq_eq_false_iff_ne]; exact h2
      rw [if_neg h2] at hT
      by_cases h4 : k = 4
      · subst h4
        rw [decide_eq_true rfl, Bool.true_and] at hT
        have HT := Lib.hid hT
        clear hT h1 h2
        generalize hasI rs r = H at *
        go_enter Tryz.func133, Tryz.ntmps133
        have HK : Hid (∀ a : World, Below w.heap.size w a → Calls Tryz.prog 145 #[.pointer (some ⟨b, off, none⟩), .int .i32 r] a fun e w' => e = .returned (.bool H) ∧ w'.cell? ⟨b, off + 2, none⟩ = some (.bool nt) ∧ Below w.heap.size w w') := by
          intro a ha
          refine (HH.out a (HA.out.below ha)).mono ?_
          rintro e w' ⟨rfl, h⟩
          have h2 := below_then ha h
          exact ⟨rfl, (h2.cell (p := ⟨b, off + 2, none⟩) hb).trans c2, h2⟩
        have HB := Lib.hid (Below.refl w.heap.size w)
        clear HH HA
        go_upto_region 7 with fail
        go_region_held3 (fun w' => w'.cell? ⟨b, off + 2, none⟩ = some (.bool nt)) (go_keep) ((go_at_call 145; (refine (HK.out _ (by first | exact HB.out | exact HB.out.drew)).mono ?_); rintro e wy ⟨rfl, n0, nb⟩))
        go_wp2
        go_ret
        exact ⟨by rw [HT.out]; cases H <;> cases nt <;> rfl, nb⟩
      · have g4 : (k == 4) = false := by rw [beq_eq_false_iff_ne]; exact h4
        rw [decide_eq_false h4, Bool.false_and] at hT
        subst hT
        clear HH h1 h2 h4
        go_enter Tryz.func133, Tryz.ntmps133
        go_wp2_with fail
        go_ret
        exact ⟨rfl, Below.refl _ _⟩
end Go.Proofs.YtijfcmlgohbndaaGreatDoor

namespace Go.Proofs.YtijfcmlgohbndaaGreatDoor
set_option maxRecDepth 100000
open Go.RowKit Go.Joins Go.Deep

/-- What the two tables of unicode/utf8 hold. -/
def Tabs (w : World) : Prop := Lib.Utf8Tabs 2 3 w
theorem Tabs.below {w w' : World} (h : Tabs w) (hb : Below w.heap.size w w') : Tabs w' := by
  obtain ⟨h1, h2⟩ := h
  exact ⟨fun c hc => cell_below hb (h1 c hc), fun i hi => ⟨cell_below hb (h2 i hi).1, cell_below hb (h2 i hi).2⟩⟩
/-! ### A text's first rune -/
theorem get_drop (s : ByteArray) (k i : Nat) (hk : k ≤ s.size) : (s.extract k s.size).get! i = s.get! (k + i) := by
  have e1 : ∀ (t : ByteArray) (j : Nat), t.get! j = (t.data.toList[j]?).getD 0 := fun t j => by
    cases t with
    | mk d =>
      show d[j]! = _
      rw [getElem!_def, Array.getElem?_toList]
      rfl
  rw [e1, e1, Lib.extract_data, List.getElem?_take, List.getElem?_drop]
  split
  · rfl
  next h =>
    have : s.data.toList[k + i]? = none := List.getElem?_eq_none (by
      have : s.data.toList.length = s.size := rfl
      omega)
    rw [this]
theorem size_drop (s : ByteArray) (k : Nat) : (s.extract k s.size).size = s.size - k := by simp
theorem decode_drop (s : ByteArray) (k p : Nat) (hk : k ≤ s.size) : Utf8.decode (s.extract k s.size) p = Utf8.decode s (k + p) := by
  rw [Lib.decode_at, Lib.decode_at, size_drop, get_drop s k p hk, get_drop s k (p + 1) hk, get_drop s k (p + 2) hk, get_drop s k (p + 3) hk]
  rw [show s.size - k - p = s.size - (k + p) by omega, show k + (p + 1) = k + p + 1 by omega, show k + (p + 2) = k + p + 2 by omega, show k + (p + 3) = k + p + 3 by omega]
theorem runeF_fuel (s : ByteArray) : ∀ f g p, s.size ≤ p + f → s.size ≤ p + g → runeF s f p = runeF s g p
  | 0, g, p, h, _ => by rw [runeF_end s g p (by omega)]; rfl
  | f + 1, 0, p, _, h => by rw [runeF_end s (f + 1) p (by omega)]; rfl
  | f + 1, g + 1, p, h1, h2 => by
    rw [runeF, runeF]
    split
    next hp =>
      have := decode_pos s p hp
      rw [runeF_fuel s f g _ (by omega) (by omega)]
    · rfl
theorem runeF_drop (s : ByteArray) (k : Nat) (hk : k ≤ s.size) : ∀ f p, runeF (s.extract k s.size) f p = runeF s f (k + p)
  | 0, p => rfl
  | f + 1, p => by
    rw [runeF, runeF, size_drop, decode_drop s k p hk, runeF_drop s k hk f]
    by_cases h : p < s.size - k
    · rw [if_pos h, if_pos (by omega), Nat.add_assoc]
    · rw [if_neg h, if_neg (by omega)]
theorem decode_fit (s : ByteArray) (p : Nat) (h : p < s.size) : 1 ≤ (Utf8.decode s p).2 ∧ p + (Utf8.decode s p).2 ≤ s.size ∧ (Utf8.decode s p).1 ≤ 1114111 := by
  rcases decode_run s p h with ⟨h1, h2⟩ | ⟨_, _, h3, h4, h5, _⟩
  · rw [h2]; exact ⟨Nat.le_refl _, h, by show s[p].toNat ≤ _; omega⟩
  · exact ⟨h4, h5, h3⟩
theorem runesB_cons (s : ByteArray) (h : 0 < s.size) : runesB s = (Utf8.decode s 0).1 :: runesB (s.extract (Utf8.decode s 0).2 s.size) := by
  obtain ⟨h1, h2, _⟩ := decode_fit s 0 h
  rw [Nat.zero_add] at h2
  show runeF s s.size 0 = _ :: runeF _ _ 0
  rw [runeF_drop s _ h2, size_drop]
  obtain ⟨m, hm⟩ : ∃ m, s.size = m + 1 := ⟨s.size - 1, by omega⟩
  rw [hm, runeF, if_pos (by omega), Nat.zero_add, Nat.add_zero]
  rw [runeF_fuel s m (m + 1 - (Utf8.decode s 0).2) _ (by omega) (by omega)]
  rfl
theorem runesB_nil (s : ByteArray) (h : s.size = 0) : runesB s = [] := by
  show runeF s s.size 0 = []
  rw [h]
  rfl
theorem runesB_drop1 (s : ByteArray) (h : 0 < s.size) : (runesB s).drop 1 = runesB (s.extract (Utf8.decode s 0).2 s.size) := by
  rw [runesB_cons s h, List.drop_succ_cons, List.drop_zero]
theorem decodeGo_pos (s : ByteArray) (h : 0 < s.size) : Lib.decodeGo s = Utf8.decode s 0 := if_neg (by omega)
theorem width_any (s : ByteArray) (h : 0 < s.size) (w : World) (hT : Tabs w) :
    Calls Tryz.prog 134 #[.string s] w fun e w' => e = .returned (.int .i64 ((Utf8.decode s 0).2 : Nat)) ∧ Below w.heap.size w w' := by
  have HD := Lib.hid (sh_utf8_DecodeRuneInString s w hT)
  rw [decodeGo_pos s h] at HD
  generalize Utf8.decode s 0 = D at *
  clear hT h
  go_enter Tryz.func134, Tryz.ntmps134
  go_wp2_with fail
  refine HD.out.mono ?_; rintro e w1 ⟨rfl, hb⟩
  have HB := Lib.hid hb
  clear hb
  go_wp2_with fail
  go_ret
  exact ⟨rfl, HB.out⟩
theorem clo_atom (x : Atm) (V : Value) (w : World) (_hV : V.oneCell' = true) :
    Calls Tryz.prog 136 #[.agg #[.int .i64 x.k, .int .i32 x.r, .bool x.n, V]] w fun e w' => e = .returned (.bool (x.k != 3)) ∧ Below w.heap.size w w' := by
  go_enter Tryz.func136, Tryz.ntmps136
  go_wp2_with fail
  go_ret
  exact ⟨rfl, below_alG w _⟩
set_option maxHeartbeats 4000000 in
theorem indexA_any (ats : List Atm) (A : Option Addr) (c : Nat) (w : World) (hR : Ats w A ats) (hl : ats.length ≤ 1000000) :
    Calls Tryz.prog 146 #[.slice A ats.length c, .func (.func 136) #[] #[]] w fun e w' => ∃ ix : Int, e = .returned (.int .i64 ix) ∧ decide (0 ≤ ix) = ats.any (fun x => x.k != 3) ∧ Below w.heap.size w w' := by
  have hia := info_atom
  have HR := Lib.hid hR
  clear hR
  go_enter Tryz.func146, Tryz.ntmps146
  go_wp2_with fail
  go_loopw [5, 8] (fun _ i wr => ∃ k : Nat, k ≤ ats.length ∧ i = .int .i64 (k : Nat) ∧ Hid ((ats.take k).any (fun x => x.k != 3) = false) ∧ Hid (Below w.heap.size w wr)) (fun _ i _ => ats.length - (intOf i).toNat)
  case atStart => exact ⟨0, Nat.zero_le _, rfl, by show List.any [] _ = _; rfl, Below.refl _ _⟩
  case round =>
    obtain ⟨k, hk, rfl, HF, HB⟩ := hrel
    by_cases hlt : k < ats.length
    · obtain ⟨b, off, rfl, hb, hcc⟩ := HR.out (by omega)
      obtain ⟨c0, c1, c2, Ai, ci, c3, _⟩ := hcc k ats[k] (List.getElem?_eq_getElem hlt)
      have HQ := Lib.hid (any_takeG ats (fun x => x.k != 3) k hlt)
      have HM := Lib.hid (List.getElem_mem hlt)
      have m : ∀ (i : Nat) (v : Value), w.cell? ⟨b, i, none⟩ = some v → wr.cell? ⟨b, i, none⟩ = some v := fun i v h => (HB.out.cell (p := ⟨b, i, none⟩) hb).trans h
      have d0 := m _ _ c0
      have d1 := m _ _ c1
      have d2 := m _ _ c2
      have d3 := m _ _ c3
      clear c0 c1 c2 c3 m hcc
      generalize ats[k] = x at *
      have HCL := Lib.hid (clo_atom x (.slice Ai x.rs.length ci) wr rfl)
      generalize hV : (x.k != 3) = V at *
      go_wp2_with fail
      refine HCL.out.mono ?_; rintro e w5 ⟨rfl, hb5⟩
      have HB5 := Lib.hid (below_then HB.out hb5)
      clear hb5
      have HVV := Lib.hid hV
      clear hV
      cases V with
      | true =>
        go_wp2_with fail
        go_ret
        refine ⟨(k : Nat), rfl, ?_, HB5.out⟩
        rw [decide_eq_true (by omega)]
        exact (List.any_eq_true.2 ⟨x, HM.out, HVV.out⟩).symm
      | false =>
        go_wp2_with fail
        go_roundw
        case rel => exact ⟨k + 1, by omega, by go_num, by show _ = _; rw [HQ.out, HF.out]; rfl, HB5⟩
        case measure => simp [intOf]; omega
    · obtain rfl : k = ats.length := by omega
      go_wp2_with fail
      go_ret
      refine ⟨-1, rfl, ?_, HB.out⟩
      have h := HF.out
      rw [List.take_length] at h
      exact h.symm
set_option maxHeartbeats 2000000 in
theorem containsA_any (ats : List Atm) (A : Option Addr) (c : Nat) (w : World) (hR : Ats w A ats) (hl : ats.length ≤ 1000000) :
    Calls Tryz.prog 135 #[.slice A ats.length c, .func (.func 136) #[] #[]] w fun e w' => e = .returned (.bool (ats.any (fun x => x.k != 3))) ∧ Below w.heap.size w w' := by
  have HI := Lib.hid (indexA_any ats A c w hR hl)
  clear hR
  go_enter Tryz.func135, Tryz.ntmps135
  go_wp2_with fail
  refine HI.out.mono ?_; rintro e w1 ⟨ix, rfl, hx, hb⟩
  have HX := Lib.hid hx
  have HB := Lib.hid hb
  clear hx hb
  go_wp2_with fail
  go_ret
  exact ⟨by rw [← HX.out]; rfl, HB.out⟩
end Go.Proofs.YtijfcmlgohbndaaGreatDoor
