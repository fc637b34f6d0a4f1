/-
  Glob: rows of atoms; Compile.
-/
import Derived.Test.YtkakegeammajgaaDoorGlE
namespace Go.Proofs.YtkakegeammajgaaDoor
set_option maxRecDepth 100000
open Go.RowKit Go.Joins Go.Deep

def cellsA : List (Atm × Value) → List Value
  | [] => []
  | q :: l => .int .i64 q.1.k :: .int .i32 q.1.r :: .bool q.1.n :: q.2 :: cellsA l
theorem cellsA_app (l m : List (Atm × Value)) : cellsA (l ++ m) = cellsA l ++ cellsA m := by
  induction l with
  | nil => rfl
  | cons x l ih => simp only [List.cons_append, cellsA, ih]
theorem cellsA_len (l : List (Atm × Value)) : (cellsA l).length = l.length * 4 := by
  induction l with
  | nil => rfl
  | cons x l ih => simp only [cellsA, List.length_cons, ih]; omega
theorem cellsA_get : ∀ (l : List (Atm × Value)) (i : Nat) (q : Atm × Value), l[i]? = some q → (cellsA l)[i * 4]? = some (.int .i64 q.1.k) ∧ (cellsA l)[i * 4 + 1]? = some (.int .i32 q.1.r) ∧ (cellsA l)[i * 4 + 2]? = some (.bool q.1.n) ∧ (cellsA l)[i * 4 + 3]? = some q.2
  | x :: l, 0, q, h => by
    obtain rfl : x = q := by simpa using h
    exact ⟨rfl, rfl, rfl, rfl⟩
  | x :: l, i + 1, q, h => by
    have := cellsA_get l i q (by simpa using h)
    rw [show (i + 1) * 4 = i * 4 + 4 by omega, show i * 4 + 4 + 1 = i * 4 + 1 + 4 by omega, show i * 4 + 4 + 2 = i * 4 + 2 + 4 by omega, show i * 4 + 4 + 3 = i * 4 + 3 + 4 by omega]
    simpa [cellsA] using this
/-- A slice of atoms, as it is read. -/
def Ats (w : World) (A : Option Addr) (ats : List Atm) : Prop := 0 < ats.length → ∃ b off, A = some ⟨b, off, none⟩ ∧ b < w.heap.size ∧ ∀ (i : Nat) (x : Atm), ats[i]? = some x → w.cell? ⟨b, off + i * 4, none⟩ = some (.int .i64 x.k) ∧ w.cell? ⟨b, off + i * 4 + 1, none⟩ = some (.int .i32 x.r) ∧ w.cell? ⟨b, off + i * 4 + 2, none⟩ = some (.bool x.n) ∧ ∃ Ai ci, w.cell? ⟨b, off + i * 4 + 3, none⟩ = some (.slice Ai x.rs.length ci) ∧ Rgs w .i32 Ai x.rs
theorem Ats.below {w w' : World} {A : Option Addr} {ats : List Atm} (h : Ats w A ats) (hb : Below w.heap.size w w') : Ats w' A ats := fun h0 => by
  obtain ⟨b, off, e, hlt, hc⟩ := h h0
  refine ⟨b, off, e, Nat.lt_of_lt_of_le hlt hb.size, fun i x hx => ?_⟩
  obtain ⟨c0, c1, c2, Ai, ci, c3, hr⟩ := hc i x hx
  exact ⟨(hb.cell (p := ⟨b, off + i * 4, none⟩) hlt).trans c0, (hb.cell (p := ⟨b, off + i * 4 + 1, none⟩) hlt).trans c1, (hb.cell (p := ⟨b, off + i * 4 + 2, none⟩) hlt).trans c2, Ai, ci, (hb.cell (p := ⟨b, off + i * 4 + 3, none⟩) hlt).trans c3, hr.below (Nat.le_refl _) hb⟩
theorem ats_of_own {w : World} {B c : Nat} {T : TypeId} {A : Option Addr} {qs : List (Atm × Value)} (h : w.ownsRow B T 4 (.slice A qs.length c) qs.length (cellsA qs)) (hr : ∀ q ∈ qs, AtmV w q.1 q.2) : Ats w A (qs.map (·.1)) := fun h0 => by
  rw [List.length_map] at h0
  obtain ⟨b, e, hlt, hc⟩ := own_cells h h0
  refine ⟨b, 0, e, hlt, fun i x hx => ?_⟩
  rw [List.getElem?_map] at hx
  obtain ⟨q, hq, rfl⟩ := Option.map_eq_some_iff.1 hx
  obtain ⟨g0, g1, g2, g3⟩ := cellsA_get qs i q hq
  obtain ⟨Ai, ci, e2, hrb⟩ := hr q (List.mem_of_getElem? hq)
  rw [Nat.zero_add]
  exact ⟨hc _ _ g0, hc _ _ g1, hc _ _ g2, Ai, ci, by rw [← e2]; exact hc _ _ g3, hrb.rgs⟩
/-- What Compile's loop keeps. -/
structure CompSt (w wr : World) (RS : Array Value) (V : Value) (qs : List (Atm × Value)) : Prop where
  z : wr.heap[w.heap.size]? = some (.cells #[.slice none 0 0] 50 (0, 0))
  a : wr.heap[w.heap.size + 1]? = some (.cells #[V] 50 (0, 0))
  t : wr.heap[w.heap.size + 1 + 1]? = some (.cells RS 21 (0, 0))
  o : wr.ownsRow (w.heap.size + 1 + 1 + 1) 58 4 V qs.length (cellsA qs)
  r : ∀ q ∈ qs, AtmV wr q.1 q.2
  b : Below w.heap.size w wr
  s : w.heap.size + 1 + 1 + 1 ≤ wr.heap.size
theorem CompSt.next {w wr wx : World} {RS : Array Value} {V : Value} {qs : List (Atm × Value)} (h : CompSt w wr RS V qs) (hb : Below wr.heap.size wr wx) : CompSt w wx RS V qs :=
  ⟨(hb.block _ (lt_of_block h.z)).trans h.z, (hb.block _ (lt_of_block h.a)).trans h.a, (hb.block _ (lt_of_block h.t)).trans h.t, own_below' h.o hb, fun q hq => (h.r q hq).below hb, below_then h.b hb, Nat.le_trans h.s hb.size⟩
/-- A row of runes from a place on. -/
theorem rn_block {w : World} {b : Nat} {RS : Array Value} {l : List Nat} (hb : w.heap[b]? = some (.cells RS 21 (0, 0))) (hr : ∀ i, i < l.length → RS[i]? = some (.int .i32 ((l.getD i 0 : Nat) : Int))) (k : Nat) : Rn w (some ⟨b, k, none⟩) (l.drop k) := fun h0 => by
  rw [List.length_drop] at h0
  refine ⟨b, k, rfl, lt_of_block hb, fun i hi => ?_⟩
  rw [List.length_drop] at hi
  rw [cell_of_row _ _ _ _ _ _ hb, hr (k + i) (by omega), List.getD_eq_getElem?_getD, List.getD_eq_getElem?_getD, List.getElem?_drop]
theorem rn_slice' (A : Option Addr) (n cap k : Nat) (hk : k ≤ n) (hcap : n ≤ cap) :
    ∃ A', (∀ w : World, (Instr.slice 55 (.slice A n cap) (some (.int .i64 (k : Nat))) none none).run Tryd.prog w = .ok (.slice A' (n - k) (cap - k)) w) ∧ ∀ b off, k < n → A = some ⟨b, off, none⟩ → A' = some ⟨b, off + k, none⟩ := by
  have h1 : (0 : Int) ≤ (k : Int) := by omega
  have h2 : (k : Int) ≤ (n : Int) := by omega
  refine ⟨if cap = k then A else A.map (·.add (k * 1)), fun w => ?_, fun b off hlt e => ?_⟩
  · rw [run_slice_l (P := Tryd.prog) w 55 A n cap Tryd.underlying55 .i64 (k : Int) h1 h2]
    obtain ⟨i, hi, hs⟩ := Option.map_eq_some_iff.1 info_i32
    have hsz : (sizeOf (Tryd.prog.elem 55)).run Tryd.prog w = .ok 1 w := by
      show (sizeOf 21).run Tryd.prog w = .ok 1 w
      simp [sizeOf, typeInfo, hi, hs]
    rw [hsz]
    simp [Result.andThen, sliced]
  · rw [if_neg (by omega), e, Option.map_some, Addr.add_lit, Nat.mul_one]
theorem runes_from (s : ByteArray) : ∀ (f i : Nat) (acc : Array Value), (Conv.runesFrom s f i acc).toList = acc.toList ++ (runeF s f i).map fun r => Value.int .i32 ((r : Nat) : Int)
  | 0, i, acc => by simp [Conv.runesFrom, runeF]
  | f + 1, i, acc => by
    rw [Conv.runesFrom, runeF]
    split
    · rw [runes_from s f]
      simp
    · simp
theorem runeF_len (s : ByteArray) : ∀ (f i : Nat), (runeF s f i).length ≤ f
  | 0, _ => Nat.le_refl _
  | f + 1, i => by
    rw [runeF]
    split
    · have := runeF_len s f (i + (Utf8.decode s i).2)
      rw [List.length_cons]; omega
    · exact Nat.zero_le _
theorem runeF_max (s : ByteArray) : ∀ (f i : Nat), ∀ x ∈ runeF s f i, x ≤ 1114111
  | 0, _, x, h => by cases h
  | f + 1, i, x, h => by
    rw [runeF] at h
    split at h
    next hi =>
      rcases List.mem_cons.1 h with rfl | h
      · rcases decode_run s i hi with ⟨h1, h2⟩ | h1
        · rw [h2]; show s[i].toNat ≤ _; omega
        · exact h1.2.2.1
      · exact runeF_max s f _ x h
    · cases h
theorem allR_of {l : List Nat} (h : ∀ x ∈ l, x ≤ 1114111) : AllR l := fun i => by
  rw [List.getD_eq_getElem?_getD]
  by_cases hi : i < l.length
  · rw [List.getElem?_eq_getElem hi]
    exact h _ (List.getElem_mem hi)
  · rw [List.getElem?_eq_none (by omega)]
    show (0 : Nat) ≤ _; omega
theorem zero_pat (w : World) : (zeroValue 50).run Tryd.prog w = .ok (.agg #[.slice none 0 0]) w := by kernel_rfl
theorem info_pat : (Tryd.prog.info? 50).map (·.size) = some 1 := by kernel_rfl
theorem parts_atom : (Tryd.prog.info? 58).map (fun i => (i.zero, i.size, i.bytes)) = some (some (.agg #[.int .i64 0, .int .i32 0, .bool false, .slice none 0 0]), 4, 40) := by kernel_rfl
theorem info_ats : (Tryd.prog.info? 48).map (·.size) = some 1 := by kernel_rfl
theorem RgB.grow {w w' : World} {A : Option Addr} {l : List (Int × Int)} (h : RgB w A l) {B n z : Nat} {v : Value} {xs : List Value} {T : TypeId} (ho : w.ownsRow B T z v n xs) (hT : T ≠ 73) (hg : w.grownBy w' v.ownBlock) : RgB w' A l := h.keep fun b cs hx => hg.block b (lt_of_block hx) (fun e => by
  rcases ho.2 with ⟨h1, _⟩ | ⟨g, cap, cur, h1, _, h3, _⟩
  · rw [h1] at e; cases e
  · rw [h1] at e
    injection e with e
    have e' : b = g := e
    subst e'
    rw [h3] at hx
    injection hx with hx
    injection hx with _ hx _
    exact hT hx)
def lenOf : Value → Nat
  | .slice _ n _ => n
  | _ => 0
/-- What Compile answers. -/
def CompR (w : World) (o : Option (List Atm)) (e : Ending) (w' : World) : Prop :=
  (o = none ∧ e = .returned (.tuple #[.agg #[.slice none 0 0], .int .i64 22]) ∧ Below w.heap.size w w') ∨
  (∃ ats A c, o = some ats ∧ ats.length ≤ c ∧ e = .returned (.tuple #[.agg #[.slice A ats.length c], .int .i64 0]) ∧ Ats w' A ats ∧ Below w.heap.size w w')
set_option maxHeartbeats 4000000 in
theorem compile_long (s : ByteArray) (hs : 65535 < s.size) (w : World) :
    Calls Tryd.prog 17 #[.string s] w fun e w' => e = .returned (.tuple #[.agg #[.slice none 0 0], .int .i64 5]) ∧ Below w.heap.size w w' := by
  have hzp := zero_pat
  have hip := info_pat
  have g1 : decide ((65535 : Int) < (s.size : Int)) = true := decide_eq_true (by omega)
  have g2 : decide (65535 < s.size) = true := decide_eq_true hs
  go_enter Tryd.func17, Tryd.ntmps17
  go_wp2_with fail
  refine bodyPost_ret (v := .tuple #[.agg #[.slice none 0 0], .int .i64 5]) (by simp [results, Tryd.results17, go_sem]) rfl ?_
  exact ⟨rfl, below_al w _⟩
set_option maxHeartbeats 8000000 in
theorem compile_any (s : ByteArray) (hs : s.size ≤ 65535) (w : World) :
    Calls Tryd.prog 17 #[.string s] w (CompR w (compF (runesB s) 0 [])) := by
  have hza := zero_atom
  have hia := info_atom
  have hzp := zero_pat
  have hip := info_pat
  have hits := info_ats
  obtain ⟨i0, hi, hz0, hz1, hz2⟩ := parts_of parts_atom
  obtain ⟨O, hO⟩ : ∃ O, O = compF (runesB s) 0 [] := ⟨_, rfl⟩
  rw [← hO]
  have HO := Lib.hid hO.symm
  have hl := runeF_len s s.size 0
  have hr := allR_of (runeF_max s s.size 0)
  obtain ⟨l, hlv⟩ : ∃ l, l = runesB s := ⟨_, rfl⟩
  have hrf := runes_from s s.size 0 #[]
  rw [← hlv] at HO
  rw [show runeF s s.size 0 = l from hlv.symm] at hl hr hrf
  have hrs : (Conv.runesFrom s s.size 0 #[]).size = l.length := by
    have := congrArg List.length hrf
    simpa using this
  have hcv := fun w1 => run_runes_of_string (P := Tryd.prog) w1 9 55 21 s Tryd.underlying9 Tryd.underlying55 Tryd.underlying21 (by rw [hrs]; omega)
  rw [hrs] at hcv
  have hG := grownCap_ge ((w.alloc (.cells #[.slice none 0 0] 50)).alloc (.cells #[.slice none 0 0] 50)) l.length 0 21
  have hGm := grownCap_le_maxLen ((w.alloc (.cells #[.slice none 0 0] 50)).alloc (.cells #[.slice none 0 0] 50)) l.length 0 21 (by unfold maxLen; omega)
  have hcv1 := hcv ((w.alloc (.cells #[.slice none 0 0] 50)).alloc (.cells #[.slice none 0 0] 50))
  generalize grownCap ((w.alloc (.cells #[.slice none 0 0] 50)).alloc (.cells #[.slice none 0 0] 50)) l.length 0 21 = G at *
  obtain ⟨RS, hRS⟩ : ∃ RS, RS = Conv.runesFrom s s.size 0 #[] ++ Array.replicate (G - l.length) (Value.int .i32 0) := ⟨_, rfl⟩
  rw [← hRS] at hcv1
  have HRS : Hid (∀ i, i < l.length → RS[i]? = some (.int .i32 ((l.getD i 0 : Nat) : Int))) := by
    intro i hi
    rw [hRS, Array.getElem?_append_left (by rw [hrs]; exact hi), ← Array.getElem?_toList, hrf]
    simp [hi]
  clear hcv hrf hrs hRS hO hlv
  have g1 : decide ((65535 : Int) < (s.size : Int)) = false := decide_eq_false (by omega)
  have g2 : decide (65535 < s.size) = false := decide_eq_false (by omega)
  go_enter Tryd.func17, Tryd.ntmps17
  go_wp2_with fail
  have HS0 : Hid (CompSt w (((w.alloc (.cells #[.slice none 0 0] 50)).alloc (.cells #[.slice none 0 0] 50)).alloc (.cells RS 21)).drew RS (.slice none 0 0) []) := by
    have hb1 := below_al w (.cells #[.slice none 0 0] 50)
    have h1 := heap_alloc_new w (.cells #[.slice none 0 0] 50)
    have s1 : (w.alloc (.cells #[.slice none 0 0] 50)).heap.size = w.heap.size + 1 := by simp
    generalize w.alloc (.cells #[.slice none 0 0] 50) = w1 at *
    have hb2 := below_then hb1 (below_al w1 (.cells #[.slice none 0 0] 50))
    have h2 := heap_alloc_new w1 (.cells #[.slice none 0 0] 50)
    have h1' := (heap_alloc_old w1 (.cells #[.slice none 0 0] 50) (lt_of_block h1)).trans h1
    have s2 : (w1.alloc (.cells #[.slice none 0 0] 50)).heap.size = w.heap.size + 1 + 1 := by simp [s1]
    rw [s1] at h2
    generalize w1.alloc (.cells #[.slice none 0 0] 50) = w2 at *
    have hb3 := below_then hb2 (below_al w2 (.cells RS 21))
    have h3 := heap_alloc_new w2 (.cells RS 21)
    rw [s2] at h3
    exact ⟨(heap_alloc_old w2 _ (lt_of_block h1')).trans h1', (heap_alloc_old w2 _ (lt_of_block h2)).trans h2, h3, World.ownsRow_nil _ _ _ _, (fun q hq => by cases hq), hb3.drew, by show _ ≤ (w2.alloc _).heap.size; simp [s2]⟩
  generalize (((w.alloc (.cells #[.slice none 0 0] 50)).alloc (.cells #[.slice none 0 0] 50)).alloc (.cells RS 21)).drew = w3 at *
  have HHR := Lib.hid hr
  have HGM := Lib.hid hGm
  clear hcv1 hr hGm
  go_loopw [5] (fun v wr => ∃ (k n : Nat) (A : Option Addr) (c : Nat) (V : Value) (qs : List (Atm × Value)), v = .slice A n c ∧ Hid (n + k = l.length) ∧ n ≤ c ∧ Hid (c ≤ maxLen) ∧ Hid (0 < n → A = some ⟨w.heap.size + 1 + 1, k, none⟩) ∧ Hid (CompSt w wr RS V qs) ∧ Hid (compF l k (qs.map (·.1)) = O) ∧ qs.length ≤ k) (fun v _ => lenOf v)
  case atStart => exact ⟨0, l.length, _, G, _, [], rfl, rfl, hG, HGM, fun _ => rfl, HS0, HO, Nat.le_refl _⟩
  case round =>
    obtain ⟨k, n, A, c, V, qs, rfl, HN, hnc, HC, HA, HS, HOr, hqk⟩ := hrel
    obtain ⟨A2, c2, rfl⟩ := row_slice2 HS.out.o
    have z0 := (cell_of_row _ _ 0 _ _ _ HS.out.z).trans (show _ = some (Value.slice none 0 0) from rfl)
    have fz := frozen_of_row _ _ 0 _ _ HS.out.z
    have hnn : n ≤ 65535 := by have := HN.out; omega
    by_cases h0 : n = 0
    · subst h0
      have hk : k = l.length := by have := HN.out; omega
      have HOO : Hid (O = some (qs.map (·.1))) := by show _ = _; rw [← HOr.out]; exact compF_end (by omega)
      have a0 := (cell_of_row _ _ 0 _ _ _ HS.out.a).trans (show _ = some (Value.slice A2 qs.length c2) from rfl)
      have HQL : Hid (qs.length ≤ c2) := by
        show _ ≤ _
        rcases HS.out.o.2 with ⟨h1, h2⟩ | ⟨g, cap, cur, h1, _, _, h4, _⟩
        · rw [h2]; exact Nat.zero_le _
        · injection h1 with _ _ h1; rw [h1]; exact h4
      clear hk
      go_wp2_with fail
      refine bodyPost_ret (v := .tuple #[.agg #[.slice A2 qs.length c2], .int .i64 0]) (by simp [results, Tryd.results17, go_sem, z0]) rfl ?_
      have hS := HS.out
      refine .inr ⟨qs.map (·.1), A2, c2, HOO.out, by rw [List.length_map]; exact HQL.out, by rw [List.length_map], ?_, hS.b.setCell (p := ⟨w.heap.size, 0, none⟩) (Nat.le_refl _) _⟩
      refine ats_of_own (B := w.heap.size + 1 + 1 + 1) (T := 58) (c := c2) (ownsRow_setCell_below hS.o (a := ⟨w.heap.size, 0, none⟩) (by show w.heap.size < _; omega) _) (fun q hq => ?_)
      obtain ⟨Aq, cq, e, hrq⟩ := hS.r q hq
      exact ⟨Aq, cq, e, hrq.set hS.z (by decide) _⟩
    · have hk : k < l.length := by have := HN.out; omega
      have hA := HA.out (by omega)
      subst hA
      have hS := HS.out
      have HRN : Hid (Rn wr (some ⟨w.heap.size + 1 + 1, k, none⟩) (l.drop k)) := rn_block hS.t HRS.out k
      have HAT := Lib.hid (fun w1 h => atom_any (some ⟨w.heap.size + 1 + 1, k, none⟩) n c (l.drop k) (by rw [List.length_drop]; have := HN.out; omega) (by omega) (by omega) hnc HC.out (HHR.out.drop k) w1 h)
      have HCN := Lib.hid (fun h => compF_none (acc := qs.map (·.1)) hk h)
      have HCM := Lib.hid (fun x m h => compF_more (acc := qs.map (·.1)) (x := x) (k := m) hk h)
      have HLE := Lib.hid (fun p h => atomF_le (l := l.drop k) (p := p) (by rw [List.length_drop]; omega) h)
      generalize atomF (l.drop k) = D at *
      have gn : decide (0 < n) = true := decide_eq_true (by omega)
      have gn' : decide ((0 : Int) < (n : Int)) = true := decide_eq_true (by omega)
      have gn3 : 0 < n := by omega
      clear hS hk z0 fz
      go_wp2_with fail
      refine (HAT.out _ HRN.out).mono ?_; rintro e w5 (⟨rfl, ⟨kk, rfl⟩, hb5⟩ | ⟨x, m, V5, rfl, rfl, hv5, hb5⟩)
      · have HS5 := Lib.hid (HS.out.next hb5)
        have HS6 := Lib.hid (HS5.out.next (below_al w5 (.cells #[.int .i64 kk, .int .i32 0, .bool false, .slice none 0 0] 58)))
        have HOO : Hid (O = none) := by show _ = _; rw [← HOr.out]; exact HCN.out rfl
        clear hb5
        go_upto_if 23 with fail
        generalize w5.alloc (.cells #[.int .i64 kk, .int .i32 0, .bool false, .slice none 0 0] 58) = w6 at *
        have z0 := (cell_of_row _ _ 0 _ _ _ HS6.out.z).trans (show _ = some (Value.slice none 0 0) from rfl)
        have fz := frozen_of_row _ _ 0 _ _ HS6.out.z
        go_wp2_with fail
        refine bodyPost_ret (v := .tuple #[.agg #[.slice none 0 0], .int .i64 22]) (by simp [results, Tryd.results17, go_sem, z0]) rfl ?_
        exact .inl ⟨HOO.out, rfl, HS6.out.b.setCell (p := ⟨w.heap.size, 0, none⟩) (Nat.le_refl _) _⟩
      · obtain ⟨hm1, hm2⟩ := HLE.out _ rfl
        rw [List.length_drop] at hm2
        dsimp only at hm1 hm2
        have hmn : m ≤ n := by have := HN.out; omega
        obtain ⟨A', hrun, hA'⟩ := rn_slice' (some ⟨w.heap.size + 1 + 1, k, none⟩) n c m hmn hnc
        have HOO : Hid (compF l (k + m) (qs.map (·.1) ++ [x]) = O) := by show _ = _; rw [← HOr.out]; exact (HCM.out x m rfl).symm
        obtain ⟨Ax, cx, rfl, hrx⟩ := hv5
        have HS5 := Lib.hid (HS.out.next hb5)
        have HX5 := Lib.hid (below_al w5 (.cells #[.int .i64 x.k, .int .i32 x.r, .bool x.n, .slice Ax x.rs.length cx] 58))
        have HV6 : Hid (AtmV (w5.alloc (.cells #[.int .i64 x.k, .int .i32 x.r, .bool x.n, .slice Ax x.rs.length cx] 58)) x (.slice Ax x.rs.length cx)) := ⟨Ax, cx, rfl, hrx.below HX5.out⟩
        have HN5 := Lib.hid (heap_alloc_new w5 (.cells #[.int .i64 x.k, .int .i32 x.r, .bool x.n, .slice Ax x.rs.length cx] 58))
        have gm : ((m : Int) == 0) = false := by rw [beq_eq_false_iff_ne]; omega
        have HMN : Hid (m ≤ n) := hmn
        have HM1 := Lib.hid hm1
        clear hb5 hrx HAT HCN HCM HLE hm1 hm2
        go_upto_if 23 with fail
        have HS6 := Lib.hid (HS5.out.next HX5.out)
        generalize w5.alloc (.cells #[.int .i64 x.k, .int .i32 x.r, .bool x.n, .slice Ax x.rs.length cx] 58) = w6 at *
        have a3 := (cell_of_row _ _ 0 _ _ _ HS6.out.a).trans (show _ = some (Value.slice A2 qs.length c2) from rfl)
        have r0 := (cell_of_row _ _ 0 _ _ _ HN5.out).trans (show _ = some (Value.int .i64 x.k) from rfl)
        have r1 := (cell_of_row _ _ 1 _ _ _ HN5.out).trans (show _ = some (Value.int .i32 x.r) from rfl)
        have r2 := (cell_of_row _ _ 2 _ _ _ HN5.out).trans (show _ = some (Value.bool x.n) from rfl)
        have r3 := (cell_of_row _ _ 3 _ _ _ HN5.out).trans (show _ = some (Value.slice Ax x.rs.length cx) from rfl)
        have HX7 := Lib.hid (heap_alloc_new w6 (.cells #[.int .i64 x.k, .int .i32 x.r, .bool x.n, .slice Ax x.rs.length cx] 58))
        have HB67 := below_al w6 (.cells #[.int .i64 x.k, .int .i32 x.r, .bool x.n, .slice Ax x.rs.length cx] 58)
        have HS7 := Lib.hid (HS6.out.next HB67)
        have HV7 := Lib.hid (HV6.out.below HB67)
        have HLT := Lib.hid HS7.out.o.lt
        have hql : qs.length ≤ 65535 := by have := HN.out; omega
        have HSS := Lib.hid HS7.out.s
        clear HB67 HX5 HN5
        go_wp2_with (at_builtin; go_must (refine wpList_append_own_at _ rfl (.tmp 26) (.tmp 28) _ rfl (w.heap.size + 1 + 1 + 1) 58 i0 (.agg #[.int .i64 0, .int .i32 0, .bool false, .slice none 0 0]) 4 40 Tryd.underlying48 hi hz0 hz1 hz2 rfl (by decide) (.slice A2 qs.length c2) qs.length _ rfl HS7.out.o ⟨w6.heap.size, 0, none⟩ 1 1 [.int .i64 x.k, .int .i32 x.r, .bool x.n, .slice Ax x.rs.length cx] rfl rfl (by exact World.news_of_block HX7.out) (by intro u hu; simp at hu; rcases hu with rfl | rfl | rfl | rfl <;> rfl) (by unfold maxLen; omega) (by omega) (by exact HSS.out) ?_; intro v' w8 hown' hgrow hnil' hloc; obtain ⟨A8, c8, rfl⟩ := row_slice2 hown'; have HO8 := Lib.hid hown'; have HGR := Lib.hid hgrow; have HA8 := Lib.hid ((hgrow.block (w.heap.size + 1) (by have := HSS.out; omega) (fun e => by have := (HLT.out _ e.symm).1; omega)).trans HS7.out.a); have a8 := (cell_of_row _ _ 0 _ _ _ HA8.out).trans (show _ = some (Value.slice A2 qs.length c2) from rfl); have f8 := frozen_of_row _ _ 0 _ _ HA8.out; clear hown' hgrow hnil' hloc))
        have HZ9 := Lib.hid ((heap_setCell_other w8 ⟨w.heap.size + 1, 0, none⟩ w.heap.size (.slice A8 (qs.length + 1) c8) (by simp)).trans ((HGR.out.block w.heap.size (by have := HSS.out; omega) (fun e => by have := (HLT.out _ e.symm).1; omega)).trans HS7.out.z))
        have HT9 := Lib.hid ((heap_setCell_other w8 ⟨w.heap.size + 1, 0, none⟩ (w.heap.size + 1 + 1) (.slice A8 (qs.length + 1) c8) (by simp)).trans ((HGR.out.block (w.heap.size + 1 + 1) (by have := HSS.out; omega) (fun e => by have := (HLT.out _ e.symm).1; omega)).trans HS7.out.t))
        have HA9 := Lib.hid (heap_setCell_same w8 (w.heap.size + 1) 0 _ _ (.slice A8 (qs.length + 1) c8) HA8.out)
        have HB9 := Lib.hid ((HS7.out.b.grown HGR.out (by have := HSS.out; omega) (fun q hq => by have := (HLT.out q hq).1; omega)).setCell (p := ⟨w.heap.size + 1, 0, none⟩) (by simp) (.slice A8 (qs.length + 1) c8))
        have HO9 := Lib.hid (ownsRow_setCell_below HO8.out (a := ⟨w.heap.size + 1, 0, none⟩) (by simp) (.slice A8 (qs.length + 1) c8))
        have HG9 : Hid (w.heap.size + 1 + 1 + 1 ≤ (w8.setCell ⟨w.heap.size + 1, 0, none⟩ (.slice A8 (qs.length + 1) c8)).heap.size) := by
          have h1 := HGR.out.size
          have h2 := HSS.out
          show _ ≤ _
          simp [World.setCell]
          omega
        have key : ∀ q : Atm × Value, AtmV (w6.alloc (.cells #[.int .i64 x.k, .int .i32 x.r, .bool x.n, .slice Ax x.rs.length cx] 58)) q.1 q.2 → AtmV (w8.setCell ⟨w.heap.size + 1, 0, none⟩ (.slice A8 (qs.length + 1) c8)) q.1 q.2 := fun q hq => by
          obtain ⟨Aq, cq, e, hrq⟩ := hq
          exact ⟨Aq, cq, e, (hrq.grow HS7.out.o (by decide) HGR.out).set HA8.out (by decide) _⟩
        have HR9 : Hid (∀ q ∈ qs ++ [(x, Value.slice Ax x.rs.length cx)], AtmV (w8.setCell ⟨w.heap.size + 1, 0, none⟩ (.slice A8 (qs.length + 1) c8)) q.1 q.2) := by
          intro q hq
          rcases List.mem_append.1 hq with hq | hq
          · exact key q (HS7.out.r q hq)
          · obtain rfl : q = (x, Value.slice Ax x.rs.length cx) := by simpa using hq
            exact key _ HV7.out
        go_roundw
        case rel =>
          refine ⟨k + m, n - m, A', c - m, _, qs ++ [(x, Value.slice Ax x.rs.length cx)], rfl, by show _ = _; have := HN.out; have := HMN.out; omega, by omega, by show _ ≤ _; have := HC.out; omega, fun h => hA' _ _ (by omega) rfl, ⟨HZ9.out, HA9.out, HT9.out, ?_, HR9.out, HB9.out, HG9.out⟩, ?_, ?_⟩
          · rw [cellsA_app, List.length_append]
            exact HO9.out
          · show _ = _
            rw [List.map_append]
            exact HOO.out
          · rw [List.length_append]
            have := HM1.out
            show qs.length + 1 ≤ _
            omega
        case measure => show n - m < n; have := HM1.out; omega
end Go.Proofs.YtkakegeammajgaaDoor
