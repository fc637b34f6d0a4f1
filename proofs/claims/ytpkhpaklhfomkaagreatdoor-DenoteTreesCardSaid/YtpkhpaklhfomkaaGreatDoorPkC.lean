/-
  The document's headers: sums of widths, rows of numbers.
  The document's Parse of a header.
  Contracts (over header): the Builder's copyCheck, Len, WriteString, String.
  Rows of numbers as bytes (package header).
-/
import Derived.Test.YtpkhpaklhfomkaaGreatDoorPkB
import Derived.Laws.OwnMore
import Derived.Laws.AppendOwn
import Derived.Test.YtpkhpaklhfomkaaGreatDoorShelf
import Derived.Lib.OthersKept
import Derived.Lib.AppendStr

namespace Go.Proofs.YtpkhpaklhfomkaaGreatDoor
set_option maxRecDepth 100000
set_option linter.unusedSimpArgs false
open Go.RowKit Go.Joins Go.Deep Go.Op

/-- What a slice of numbers holds. -/
def RdI (w : World) (K : IntKind) (A : Option Addr) (l : List Nat) : Prop := 0 < l.length → ∃ g, A = some ⟨g, 0, none⟩ ∧ g < w.heap.size ∧ ∀ (i x : Nat), l[i]? = some x → w.cell? ⟨g, i, none⟩ = some (.int K (x : Nat))
theorem RdI.below {w w' : World} {K : IntKind} {A : Option Addr} {l : List Nat} (h : RdI w K A l) (hb : Below w.heap.size w w') : RdI w' K A l := fun h0 => by
  obtain ⟨g, e, hlt, hc⟩ := h h0
  exact ⟨g, e, Nat.lt_of_lt_of_le hlt hb.size, fun i x hx => (hb.cell (p := ⟨g, i, none⟩) hlt).trans (hc i x hx)⟩
theorem RdI.drewN {w : World} {K : IntKind} {A : Option Addr} {l : List Nat} (h : RdI w K A l) (n : Nat) : RdI (w.drewN n) K A l := h
theorem RdI.at {w : World} {K : IntKind} {g : Nat} {l : List Nat} (h : RdI w K (some ⟨g, 0, none⟩) l) {i x : Nat} (hx : l[i]? = some x) : w.cell? ⟨g, i, none⟩ = some (.int K (x : Nat)) := by
  obtain ⟨g', e, _, hc⟩ := h (List.length_pos_of_mem (List.mem_of_getElem? hx))
  injection e with e
  injection e with e
  subst e
  exact hc i x hx
def cellsK (K : IntKind) (l : List Nat) : List Value := l.map fun x => Value.int K (x : Nat)
theorem cellsK_app (K : IntKind) (l m : List Nat) : cellsK K (l ++ m) = cellsK K l ++ cellsK K m := by simp [cellsK]
theorem cellsK_len (K : IntKind) (l : List Nat) : (cellsK K l).length = l.length := by simp [cellsK]
theorem RdI.of_own {w : World} {B : Nat} {K : IntKind} {e : TypeId} {A : Option Addr} {c : Nat} {l : List Nat} (h : w.ownsRow B e 1 (.slice A l.length c) l.length (cellsK K l)) : RdI w K A l := fun h0 => by
  rcases h.2 with ⟨h1, h2⟩ | ⟨g, cap, cur, h1, h2, h3, _⟩
  · omega
  · injection h1 with h1 h4 h5
    subst h1
    refine ⟨g, rfl, lt_of_some h3, fun i x hx => ?_⟩
    have hi : i < l.length := (List.getElem?_eq_some_iff.1 hx).1
    rw [h.cellAt i (by omega)]
    unfold cellsK
    rw [List.getElem?_map, hx]
    rfl
theorem RdI.of_heap {w : World} {K : IntKind} {e : TypeId} {g : Nat} {l : List Nat} {cs : Array Value} (h : w.heap[g]? = some (.cells cs e (0, 0))) (hc : cs.toList = cellsK K l) : RdI w K (some ⟨g, 0, none⟩) l := fun _ => by
  refine ⟨g, rfl, lt_of_some h, fun i x hx => ?_⟩
  rw [Lib.cell_of_heap h, ← Array.getElem?_toList, hc]
  unfold cellsK
  rw [List.getElem?_map, hx]
  rfl
theorem RdI.slice {w : World} {K : IntKind} {A : Option Addr} {l : List Nat} (h : RdI w K A l) (h0 : 0 < l.length) : ∃ g, A = some ⟨g, 0, none⟩ := by
  obtain ⟨g, e, _⟩ := h h0
  exact ⟨g, e⟩

/-! ### sum -/
theorem sum_le (l : List Nat) (hl : ∀ x ∈ l, x ≤ 8) : l.sum ≤ 8 * l.length := by
  induction l with
  | nil => exact Nat.le_refl _
  | cons x l ih =>
    have h1 := hl x (by simp)
    have h2 := ih (fun y hy => hl y (by simp [hy]))
    simp only [List.sum_cons, List.length_cons]
    omega
theorem sum_take (l : List Nat) (k : Nat) : (l.take k).sum ≤ l.sum := by
  have h : (l.take k ++ l.drop k).sum = l.sum := by rw [List.take_append_drop]
  rw [List.sum_append] at h
  omega
theorem take_snoc {l : List Nat} {k x : Nat} (h : l[k]? = some x) : l.take (k + 1) = l.take k ++ [x] := by
  rw [List.take_add_one, h]
  rfl
/-! ### Row -/
/-- The numbers of such widths from a place on. -/
def rowN (s : ByteArray) : Nat → List Nat → List Nat
  | _, [] => []
  | a, x :: l => nAt s a x :: rowN s (a + x) l
theorem rowN_snoc (s : ByteArray) (x : Nat) : ∀ (l : List Nat) (a : Nat), rowN s a (l ++ [x]) = rowN s a l ++ [nAt s (a + l.sum) x]
  | [], a => by simp [rowN]
  | y :: l, a => by
    simp only [List.cons_append, rowN, rowN_snoc s x l, List.sum_cons]
    rw [Nat.add_assoc]
theorem rowN_len (s : ByteArray) : ∀ (l : List Nat) (a : Nat), (rowN s a l).length = l.length
  | [], _ => rfl
  | x :: l, a => by simp only [rowN, List.length_cons, rowN_len s l]
theorem info64 : (Tryz.prog.info? 79).map (fun i => (i.zero, i.size, i.bytes)) = some (some (.int .u64 0), 1, 8) := by kernel_rfl
theorem nums_ext' (t : ByteArray) (a b : Nat) : nums (t.extract a b) = ((nums t).drop a).take (b - a) := by
  unfold nums
  rw [ByteArray.data_extract]
  simp
theorem row_slice {w : World} {B n z : Nat} {e : TypeId} {v : Value} {l : List Value} (h : w.ownsRow B e z v n l) : ∃ A c, v = .slice A n c := by
  rcases h.2 with ⟨rfl, rfl⟩ | ⟨g, cap, cur, rfl, _⟩
  · exact ⟨_, _, rfl⟩
  · exact ⟨_, _, rfl⟩
end Go.Proofs.YtpkhpaklhfomkaaGreatDoor

namespace Go.Proofs.YtpkhpaklhfomkaaGreatDoor
set_option maxRecDepth 100000
set_option linter.unusedSimpArgs false
open Go.RowKit Go.Joins Go.Deep Go.Op

section
variable (s : ByteArray) (L : List Nat)
def txE : Nat → List Nat → Nat
  | n, [] => n
  | n, t :: ts => txE (n + L.getD t 0) ts
def txF : Nat → List Nat → Bool
  | _, [] => true
  | n, t :: ts => decide (n + L.getD t 0 ≤ s.size) && txF (n + L.getD t 0) ts
def txT : Nat → List Nat → List ByteArray
  | _, [] => []
  | n, t :: ts => tAt s n (L.getD t 0) :: txT (n + L.getD t 0) ts
set_option linter.unusedVariables false in
theorem txE_app : ∀ (a b : List Nat) (n : Nat), txE L n (a ++ b) = txE L (txE L n a) b
  | [], _, _ => rfl
  | _ :: a, b, _ => txE_app a b _
theorem txF_app : ∀ (a b : List Nat) (n : Nat), txF s L n (a ++ b) = (txF s L n a && txF s L (txE L n a) b)
  | [], _, _ => by simp [txF, txE]
  | x :: a, b, n => by simp only [List.cons_append, txF, txE, txF_app a b, Bool.and_assoc]
theorem txT_app : ∀ (a b : List Nat) (n : Nat), txT s L n (a ++ b) = txT s L n a ++ txT s L (txE L n a) b
  | [], _, _ => rfl
  | x :: a, b, n => by simp only [List.cons_append, txT, txE, txT_app a b]
theorem txT_len : ∀ (a : List Nat) (n : Nat), (txT s L n a).length = a.length
  | [], _ => rfl
  | x :: a, n => by simp only [txT, List.length_cons, txT_len a]
theorem txE_le : ∀ (a : List Nat) (n : Nat), txF s L n a = true → n ≤ s.size → txE L n a ≤ s.size
  | [], n, _, h => h
  | x :: a, n, h, _ => by
    simp only [txF, Bool.and_eq_true, decide_eq_true_iff] at h
    exact txE_le a _ h.2 h.1
theorem txF_take (ts : List Nat) (k n : Nat) (h : txF s L n ts = true) : txF s L n (ts.take k) = true := by
  rw [← List.take_append_drop k ts, txF_app] at h
  exact (Bool.and_eq_true _ _ ▸ h).1
end
def strV (l : List ByteArray) : List Value := l.map fun x => Value.string x
theorem strV_app (l m : List ByteArray) : strV (l ++ m) = strV l ++ strV m := by simp [strV]
/-- What a slice of texts holds. -/
def RdS (w : World) (A : Option Addr) (l : List ByteArray) : Prop := 0 < l.length → ∃ g, A = some ⟨g, 0, none⟩ ∧ g < w.heap.size ∧ ∀ (i : Nat) (x : ByteArray), l[i]? = some x → w.cell? ⟨g, i, none⟩ = some (.string x)
theorem RdS.below {w w' : World} {A : Option Addr} {l : List ByteArray} (h : RdS w A l) (hb : Below w.heap.size w w') : RdS w' A l := fun h0 => by
  obtain ⟨g, e, hlt, hc⟩ := h h0
  exact ⟨g, e, Nat.lt_of_lt_of_le hlt hb.size, fun i x hx => (hb.cell (p := ⟨g, i, none⟩) hlt).trans (hc i x hx)⟩
theorem RdS.of_own {w : World} {B : Nat} {e : TypeId} {A : Option Addr} {c : Nat} {l : List ByteArray} (h : w.ownsRow B e 1 (.slice A l.length c) l.length (strV l)) : RdS w A l := fun h0 => by
  rcases h.2 with ⟨h1, h2⟩ | ⟨g, cap, cur, h1, h2, h3, _⟩
  · omega
  · injection h1 with h1 h4 h5
    subst h1
    refine ⟨g, rfl, lt_of_some h3, fun i x hx => ?_⟩
    have hi : i < l.length := (List.getElem?_eq_some_iff.1 hx).1
    rw [h.cellAt i (by omega)]
    unfold strV
    rw [List.getElem?_map, hx]
    rfl
theorem infoS : (Tryz.prog.info? 9).map (fun i => (i.zero, i.size, i.bytes)) = some (some (.string ByteArray.empty), 1, 16) := by kernel_rfl
/-- Does it read? -/
def okR (s : ByteArray) (ws : List Nat) (first : Nat) (ts : List Nat) : Prop := 4 ≤ s.size ∧ nAt s 0 4 = first ∧ ws.sum ≤ s.size ∧ txF s (rowN s 0 ws) ws.sum ts = true
def erR (s : ByteArray) (first : Nat) : Nat := if 4 ≤ s.size ∧ nAt s 0 4 ≠ first then 4 else 3
def noR (s : ByteArray) (first : Nat) : Value := .tuple #[.slice none 0 0, .slice none 0 0, .int .i64 0, .int .i64 (erR s first : Nat)]
/-- What the document's Parse answers. -/
def PostR (s : ByteArray) (ws : List Nat) (first : Nat) (ts : List Nat) (e : Ending) (w w' : World) : Prop :=
  (okR s ws first ts ∧ (∃ A2 c2 A3 c3, e = .returned (.tuple #[.slice A2 ws.length c2, .slice A3 ts.length c3, .int .i64 (txE (rowN s 0 ws) ws.sum ts : Nat), .int .i64 0]) ∧ RdI w' .u64 A2 (rowN s 0 ws) ∧ RdS w' A3 (txT s (rowN s 0 ws) ws.sum ts)) ∨ ¬ okR s ws first ts ∧ e = .returned (noR s first)) ∧ Below w.heap.size w w'
theorem results_tmp4' {P : Program} {fn : Func} {p q r t : Tmp} (h : fn.results = #[.tmp p, .tmp q, .tmp r, .tmp t]) (tmps : Array Value) (w : World) : (results fn tmps).run P w = .ok (.tuple #[tmps.getD p undef, tmps.getD q undef, tmps.getD r undef, tmps.getD t undef]) w := by
  simp [results, h]
end Go.Proofs.YtpkhpaklhfomkaaGreatDoor

namespace Go.Proofs.YtpkhpaklhfomkaaGreatDoor
set_option maxRecDepth 100000
open Go.RowKit Go.Deep Go.Joins Go.Lib

/-- A Builder in block b, so many bytes in it. -/
def Bd (w : World) (B b : Nat) (l : List Nat) : Prop :=
  B ≤ b ∧ ∃ p v, w.heap[b]? = some (.cells #[p, v] 76 (0, 0)) ∧ (p = .pointer none ∨ p = .pointer (some ⟨b, 0, none⟩)) ∧ w.ownsRow B 5 1 v l.length (cells8 l) ∧ v.ownBlock ≠ some b
theorem info_bd : (Tryz.prog.info? 76).map (·.size) = some 2 := by kernel_rfl
theorem lies_bd : liesAt Tryz.prog Tryz.prog.depth 76 (2 / Tryz.prog.cellsOf 76) 0 76 1 = true := by kernel_rfl
theorem copyCheck_any (B b : Nat) (p v : Value) (l : List Nat) (w : World) (hB : B ≤ b) (hb : w.heap[b]? = some (.cells #[p, v] 76 (0, 0))) (hp : p = .pointer none ∨ p = .pointer (some ⟨b, 0, none⟩)) (ho : w.ownsRow B 5 1 v l.length (cells8 l)) (hne : v.ownBlock ≠ some b) :
    Calls Tryz.prog 79 #[.pointer (some ⟨b, 0, none⟩)] w fun e w' => e = .returned (.tuple #[]) ∧ w'.heap[b]? = some (.cells #[.pointer (some ⟨b, 0, none⟩), v] 76 (0, 0)) ∧ w'.ownsRow B 5 1 v l.length (cells8 l) ∧ Below B w w' ∧ (∀ k, k ≠ b → w'.heap[k]? = w.heap[k]?) := by
  obtain ⟨j, hj, hjs⟩ := Option.map_eq_some_iff.1 info_bd
  have c0 : w.cell? ⟨b, 0, none⟩ = some p := by rw [Lib.cell_of_heap hb]; rfl
  rcases hp with rfl | rfl
  · have hbd : BuilderAt 76 5 B b (.pointer none) (cells8 l) w := ⟨hB, v, hb, by rw [show (cells8 l).length = l.length by simp [cells8]]; exact ho, hne⟩
    have hsh := hbd.shape
    have hfz := hbd.frozen0
    have HBD := Lib.hid hbd
    have HHB := Lib.hid hb
    clear hb ho hne hbd
    go_enter Tryz.func79, Tryz.ntmps79
    go_wp2
    rw [Lib.run_to_unsafe w ⟨b, 0, none⟩ Tryz.underlying73 Tryz.underlying166 hj (by rw [hjs]; decide) hsh (Nat.zero_lt_succ 1)]
    simp only [Result.andThen]
    rw [Oper.upon_value]
    go_wp2
    rw [run_callFunc_extern Tryz.func117 (by kernel_rfl) (by kernel_rfl) (by kernel_rfl) (e := Extern.AbiNoEscape.same) (by kernel_rfl)]
    rw [Lib.run_noEscape]
    simp only [Result.andThen]
    rw [Oper.upon_value]
    go_wp2
    rw [Lib.run_from_unsafe w ⟨b, 0, none⟩ Tryz.underlying166 Tryz.underlying73 hj hsh lies_bd]
    simp only [Result.andThen]
    rw [Oper.upon_value]
    go_wp2
    go_end0
    have hu := HBD.out.used (.pointer (some ⟨b, 0, none⟩))
    refine ⟨rfl, ?_, ?_, (Below.refl _ _).setCell hB _, fun k hk => Below.heap_setCell w _ _ k hk⟩
    · rw [Go.heap_setCell_same w b 0 _ _ _ HHB.out]
      rfl
    · obtain ⟨_, v', hv', ho', _⟩ := hu
      have e : v' = v := by
        rw [Go.heap_setCell_same w b 0 _ _ _ HHB.out] at hv'
        have := Option.some.inj hv'
        injection this with h1
        simp at h1
        exact h1.symm
      subst e
      rw [show (cells8 l).length = l.length by simp [cells8]] at ho'
      exact ho'
  · have HHB := Lib.hid hb
    have HO := Lib.hid ho
    clear hb ho hne
    go_enter Tryz.func79, Tryz.ntmps79
    go_wp2
    rw [Lib.run_neq_ptr_same w _ Tryz.underlying73 hj]
    go_wp2
    go_end0
    exact ⟨rfl, HHB.out, HO.out, Below.refl _ _, fun _ _ => rfl⟩

theorem row_keptE {w w' : World} {B n size : Nat} {e : TypeId} {v : Value} {l : List Value} (ho : w.ownsRow B e size v n l) (hk : ∀ g, v.ownBlock = some g → w'.heap[g]? = w.heap[g]?) : w'.ownsRow B e size v n l := by
  refine ⟨ho.1, ?_⟩
  rcases ho.2 with ⟨rfl, h⟩ | ⟨g, cap, cur, rfl, hg, hb, h⟩
  · exact .inl ⟨rfl, h⟩
  · exact .inr ⟨g, cap, cur, rfl, hg, (hk g rfl).trans hb, h⟩
theorem lt_of_heapE {w : World} {g : Nat} {o : Obj} (h : w.heap[g]? = some o) : g < w.heap.size := by
  rcases Nat.lt_or_ge g w.heap.size with hlt | hge
  · exact hlt
  · rw [Array.getElem?_eq_none hge] at h; cases h
theorem row_of {w : World} {B n : Nat} {e : TypeId} {z : Nat} {v : Value} {l : List Value} (h : w.ownsRow B e z v n l) : ∃ A c, v = .slice A n c := by
  rcases h.2 with ⟨rfl, rfl⟩ | ⟨g, cap, cur, rfl, _⟩
  · exact ⟨_, _, rfl⟩
  · exact ⟨_, _, rfl⟩
theorem Bd.below {w w' : World} {B b : Nat} {l : List Nat} (h : Bd w B b l) (hb : Below w.heap.size w w') : Bd w' B b l := by
  obtain ⟨hB, p, v, hh, hp, ho, hne⟩ := h
  exact ⟨hB, p, v, (hb.block b (lt_of_heapE hh)).trans hh, hp, row_keptE ho (fun g hg => hb.block g (ho.lt g hg).2), hne⟩
theorem Bd.lt {w : World} {B b : Nat} {l : List Nat} (h : Bd w B b l) : b < w.heap.size := by
  obtain ⟨_, p, v, hh, _⟩ := h
  exact lt_of_heapE hh
theorem bdLen_any (B b : Nat) (l : List Nat) (w : World) (h : Bd w B b l) :
    Calls Tryz.prog 42 #[.pointer (some ⟨b, 0, none⟩)] w fun e w' => e = .returned (.int .i64 (l.length : Nat)) ∧ w' = w := by
  obtain ⟨_, p, v, hh, _, ho, _⟩ := h
  obtain ⟨A, cp, rfl⟩ := row_of ho
  have c1 : w.cell? ⟨b, 1, none⟩ = some (.slice A l.length cp) := by rw [Lib.cell_of_heap hh]; rfl
  clear hh ho
  go_enter Tryz.func42, Tryz.ntmps42
  go_wp2
  go_ret
  exact ⟨rfl, rfl⟩
theorem strCells_nums (s : ByteArray) : Lib.strCells s = cells8 (nums s) := by
  unfold Lib.strCells cells8 nums
  rw [List.map_map]
  rfl
set_option maxHeartbeats 4000000 in
theorem writeString_any (B b : Nat) (s : ByteArray) (l : List Nat) (w : World) (hs : s.size ≤ 1000000) (hl : l.length ≤ 1000000) (hBw : B ≤ w.heap.size) (h : Bd w B b l) :
    Calls Tryz.prog 43 #[.pointer (some ⟨b, 0, none⟩), .string s] w fun e w' => e = .returned (.tuple #[.int .i64 (s.size : Nat), .nilIface]) ∧ Bd w' B b (l ++ nums s) ∧ Below B w w' ∧ (∀ k c T fz, w.heap[k]? = some (.cells c T fz) → T ≠ 5 → k ≠ b → w'.heap[k]? = some (.cells c T fz)) := by
  obtain ⟨hB, p, v, hb, hp, ho, hne⟩ := h
  obtain ⟨i0, hi, hz0, hz1, hz2⟩ := info_parts info8
  have HCK := Lib.hid (copyCheck_any B b p v l w hB hb hp ho hne)
  have HNE := Lib.hid hne
  clear hb hp ho hne
  go_enter Tryz.func43, Tryz.ntmps43
  go_wp2_with fail
  refine (HCK.out).mono ?_
  rintro e w1 ⟨rfl, hb1, ho1, hbw, hk1⟩
  have c1 : w1.cell? ⟨b, 1, none⟩ = some v := by rw [Lib.cell_of_heap hb1]; rfl
  have HB1 := Lib.hid hb1
  have HO1 := Lib.hid ho1
  have HBW := Lib.hid hbw
  have HK1 := Lib.hid hk1
  have HS1 : Hid (B ≤ w1.heap.size) := Nat.le_trans hBw hbw.size
  clear hb1 hbw hk1
  obtain ⟨A, cp, rfl⟩ := row_of ho1
  clear ho1
  go_wp2_with (at_builtin; refine Lib.wpList_append_own_string _ rfl (.tmp 12) (.tmp 13) 74 9 rfl B 5 i0 Tryz.underlying74 Tryz.underlying9 hi hz0 hz1 hz2 _ l.length (cells8 l) rfl HO1.out s rfl ?c3 ?c4 ?c5 ?_)
  case c3 => unfold maxLen; omega
  case c4 => omega
  case c5 => exact HS1.out
  intro v2 w2 hown hgrow hat
  have hown2 : w2.ownsRow B 5 1 v2 (l ++ nums s).length (cells8 (l ++ nums s)) := by
    rw [List.length_append, cells8_app, nums_len, ← strCells_nums]
    exact hown
  have h2 : w2.heap[b]? = some (.cells #[.pointer (some ⟨b, 0, none⟩), .slice A l.length cp] 76 (0, 0)) := by
    rw [hgrow.block b (lt_of_heapE HB1.out) (fun e => HNE.out e.symm)]
    exact HB1.out
  have hne2 : v2.ownBlock ≠ some b := Lib.ownBlock_ne hown2 h2 (by decide)
  have d1 : w2.cell? ⟨b, 1, none⟩ = some (.slice A l.length cp) := by rw [Lib.cell_of_heap h2]; rfl
  have df : w2.frozen? ⟨b, 1, none⟩ = false := Lib.frozen_of_heap h2 1
  have H3 : Hid (Bd (w2.setCell ⟨b, 1, none⟩ v2) B b (l ++ nums s)) := by
    refine ⟨hB, .pointer (some ⟨b, 0, none⟩), v2, ?_, .inr rfl, ?_, hne2⟩
    · rw [Go.heap_setCell_same w2 b 1 _ _ _ h2]
      rfl
    · have h3 : (w2.setCell ⟨b, 1, none⟩ v2).ownsRow B 5 1 v2 (l ++ nums s).length (cells8 (l ++ nums s)) := hown2.kept (row := some b) ⟨rfl, rfl, rfl, by simp, fun i _ hi => Below.heap_setCell w2 _ _ i (fun e => hi (by rw [e]))⟩ (.inr hne2)
      exact h3
  have H4 := Lib.hid ((HBW.out.grown hgrow HS1.out (fun g hg => (HO1.out.lt g hg).1)).setCell (p := ⟨b, 1, none⟩) hB v2)
  have H5 : Hid (∀ k c T fz, w.heap[k]? = some (.cells c T fz) → T ≠ 5 → k ≠ b → (w2.setCell ⟨b, 1, none⟩ v2).heap[k]? = some (.cells c T fz)) := by
    intro k c T fz hk hT hkb
    have e1 := (HK1.out k hkb).trans hk
    rw [Below.heap_setCell w2 _ _ k hkb, hgrow.block k (lt_of_heapE e1) (fun e => ?_)]
    · exact e1
    · obtain ⟨c', fz', h'⟩ := Lib.ownsRowF_kind (World.ownsRowF_of HO1.out) k e.symm
      rw [e1] at h'
      injection h' with h'
      injection h' with _ h2 _
      exact hT h2
  obtain ⟨A2, cp2, rfl⟩ := row_of hown2
  have hnl : Hid ((l ++ nums s).length = l.length + (nums s).length) := by show _ = _; rw [List.length_append]
  rw [hnl.out] at H3 H4 H5
  clear hown hown2 hgrow hat h2 hne2
  go_wp2_with fail
  go_ret2
  exact ⟨rfl, H3.out, H4.out, H5.out⟩
theorem bdString_any (B b : Nat) (l : List Nat) (w : World) (hl : ∀ x ∈ l, x < 256) (hBw : B ≤ w.heap.size) (h : Bd w B b l) :
    Calls Tryz.prog 45 #[.pointer (some ⟨b, 0, none⟩)] w fun e w' => e = .returned (.string (text l)) ∧ Below B w w' := by
  obtain ⟨hB, p, v, hb, hp, ho, hne⟩ := h
  have hc : Lib.byteCells (l.map UInt8.ofNat) = cells8 l := by
    unfold Lib.byteCells cells8
    rw [List.map_map]
    apply List.map_congr_left
    intro x hx
    show Value.int .u8 ((UInt8.ofNat x).toNat : Int) = _
    rw [UInt8.toNat_ofNat_of_lt' (hl x hx)]
  have hib : Lib.IsBuilder 76 5 B b (Lib.byteCells (l.map UInt8.ofNat)) w := by
    rw [hc]
    have hq : BuilderAt 76 5 B b p (cells8 l) w := ⟨hB, v, hb, by rw [show (cells8 l).length = l.length by simp [cells8]]; exact ho, hne⟩
    rcases hp with rfl | rfl
    · exact .inl hq
    · exact .inr hq
  exact sh_Builder_String_any B b (l.map UInt8.ofNat) w hib hBw
theorem zero_bdE : ∀ w : World, (zeroValue 76).run Tryz.prog w = .ok (.agg #[.pointer none, .slice none 0 0]) w := fun _ => by kernel_rfl
theorem bd_freshE (w : World) : Bd (w.alloc (.cells #[.pointer none, .slice none 0 0] 76)) w.heap.size w.heap.size [] :=
  ⟨Nat.le_refl _, .pointer none, .slice none 0 0, heap_alloc_new w _, .inl rfl, World.ownsRow_nil _ _ _ _, by simp [Value.ownBlock]⟩
end Go.Proofs.YtpkhpaklhfomkaaGreatDoor

namespace Go.Proofs.YtpkhpaklhfomkaaGreatDoor
set_option maxRecDepth 100000
set_option linter.unusedSimpArgs false
open Go.RowKit Go.Joins Go.Deep Go.Op
/-- Numbers as bytes, one behind the other. -/
def lesL (k : Nat) (l : List Nat) : List Nat := l.flatMap fun x => le x k
theorem lesL_len (k : Nat) (l : List Nat) : (lesL k l).length = k * l.length := by
  induction l with
  | nil => rfl
  | cons x l ih =>
    have e : lesL k (x :: l) = le x k ++ lesL k l := by simp [lesL]
    rw [e, List.length_append, ih, le_len, List.length_cons, Nat.mul_succ, Nat.add_comm]
theorem lesL_lt (k : Nat) (l : List Nat) : ∀ x ∈ lesL k l, x < 256 := by
  intro x hx
  unfold lesL at hx
  obtain ⟨y, _, hy⟩ := List.mem_flatMap.1 hx
  exact le_lt _ _ x hy
set_option maxHeartbeats 2000000 in
theorem row2_any (A : Option Addr) (c : Nat) (l : List Nat) (hl : l.length ≤ 20) (hb : ∀ x ∈ l, x < 65536) (w : World) (hr : RdI w .u16 A l) :
    Calls Tryz.prog 161 #[.func (.func 120) #[] #[], .slice A l.length c] w fun e w' => e = .returned (.string (text (lesL 2 l))) ∧ Below w.heap.size w w' := by
  have HR := Lib.hid hr
  have HFR := Lib.hid (bd_freshE w)
  have HB0 := Lib.hid ((Below.refl w.heap.size w).alloc (Nat.le_refl _) (.cells #[.pointer none, .slice none 0 0] 76))
  have HS0 : Hid (w.heap.size + 1 ≤ (w.alloc (.cells #[.pointer none, .slice none 0 0] 76)).heap.size) := by show _ ≤ _; simp
  have HGET := Lib.hid (fun (k : Nat) (h : k < l.length) => List.getElem?_eq_getElem h)
  have HBD := Lib.hid (fun (k : Nat) (h : k < l.length) => hb _ (List.getElem_mem h))
  have HT := Lib.hid (fun (k x : Nat) (h : l[k]? = some x) => show lesL 2 (l.take (k + 1)) = lesL 2 (l.take k) ++ le x 2 by rw [take_snoc h]; simp [lesL])
  have HLL := Lib.hid (fun k => lesL_len 2 (l.take k))
  have HLT := Lib.hid (fun l => lesL_lt 2 l)
  have HALL : Hid (l.take l.length = l) := by show _ = _; rw [List.take_length]
  have HTL := Lib.hid (fun k => show (l.take k).length ≤ l.length by rw [List.length_take]; omega)
  clear hr hb
  go_enter Tryz.func161, Tryz.ntmps161
  go_wp2_with fail
  generalize w.alloc (.cells #[.pointer none, .slice none 0 0] 76) = w0 at *
  go_loopw [10] (fun i wr => ∃ k : Nat, k ≤ l.length ∧ i = .int .i64 (k : Nat) ∧ Bd wr w.heap.size w.heap.size (lesL 2 (l.take k)) ∧ Below w.heap.size w wr) (fun i _ => l.length - (intOf i).toNat)
  case atStart => exact ⟨0, Nat.zero_le _, rfl, HFR.out, HB0.out⟩
  case round =>
    clear HFR HB0 HS0
    obtain ⟨k, hk, rfl, hbd, hbel⟩ := hrel
    have hlen := HLL.out k
    have htl := HTL.out k
    have HD := Lib.hid hbd
    have HB := Lib.hid hbel
    clear hbd hbel
    generalize hM : lesL 2 (l.take k) = M at *
    have HM := Lib.hid hM
    clear hM
    by_cases hlt : k < l.length
    · have hx := HGET.out k hlt
      have hxb := HBD.out k hlt
      have hst := HT.out k _ hx
      obtain ⟨g, rfl⟩ := HR.out.slice (by omega)
      have hc := (HR.out.below HB.out).at hx
      generalize l[k] = x at *
      rw [HM.out] at hst
      have HST := Lib.hid hst
      clear hx hst
      go_wp2_with fail
      refine (two_any x hxb _).mono ?_; rintro e w1 ⟨rfl, hb1⟩
      have HD1 := Lib.hid (HD.out.below hb1)
      have HB1 := Lib.hid (below_then HB.out hb1)
      have hz : (text (le x 2)).size ≤ 1000000 := by rw [text_size, le_len]; omega
      have hn : nums (text (le x 2)) = le x 2 := nums_text _ (le_lt _ _)
      have HWS := Lib.hid (writeString_any w.heap.size w.heap.size (text (le x 2)) M w1 hz (by omega) HB1.out.size HD1.out)
      rw [hn] at HWS
      clear hb1 hz hn
      go_wp2_with fail
      refine (HWS.out).mono ?_; rintro e w2 ⟨rfl, hd2, hb2, _⟩
      have HD2 := Lib.hid hd2
      have HB2 := Lib.hid (HB1.out.trans hb2)
      clear hd2 hb2
      go_wp2_with fail
      go_roundw
      case rel => exact ⟨k + 1, by omega, by go_num, by rw [HST.out]; exact HD2.out, HB2.out⟩
      case measure => simp [intOf]; omega
    · obtain rfl : k = l.length := by omega
      have hM := HM.out
      rw [HALL.out] at hM
      subst hM
      have HSG := Lib.hid (bdString_any _ _ _ _ (HLT.out l) HB.out.size HD.out)
      clear hlen htl
      go_wp2_with fail
      refine (HSG.out).mono ?_; rintro e w2 ⟨rfl, hb2⟩
      have HB2 := Lib.hid (HB.out.trans hb2)
      clear hb2
      go_wp2_with fail
      go_ret
      exact ⟨rfl, HB2.out⟩
set_option maxHeartbeats 2000000 in
theorem row4_any (A : Option Addr) (c : Nat) (l : List Nat) (hl : l.length ≤ 20) (hb : ∀ x ∈ l, x < 4294967296) (w : World) (hr : RdI w .u32 A l) :
    Calls Tryz.prog 162 #[.func (.func 122) #[] #[], .slice A l.length c] w fun e w' => e = .returned (.string (text (lesL 4 l))) ∧ Below w.heap.size w w' := by
  have HR := Lib.hid hr
  have HFR := Lib.hid (bd_freshE w)
  have HB0 := Lib.hid ((Below.refl w.heap.size w).alloc (Nat.le_refl _) (.cells #[.pointer none, .slice none 0 0] 76))
  have HS0 : Hid (w.heap.size + 1 ≤ (w.alloc (.cells #[.pointer none, .slice none 0 0] 76)).heap.size) := by show _ ≤ _; simp
  have HGET := Lib.hid (fun (k : Nat) (h : k < l.length) => List.getElem?_eq_getElem h)
  have HBD := Lib.hid (fun (k : Nat) (h : k < l.length) => hb _ (List.getElem_mem h))
  have HT := Lib.hid (fun (k x : Nat) (h : l[k]? = some x) => show lesL 4 (l.take (k + 1)) = lesL 4 (l.take k) ++ le x 4 by rw [take_snoc h]; simp [lesL])
  have HLL := Lib.hid (fun k => lesL_len 4 (l.take k))
  have HLT := Lib.hid (fun l => lesL_lt 4 l)
  have HALL : Hid (l.take l.length = l) := by show _ = _; rw [List.take_length]
  have HTL := Lib.hid (fun k => show (l.take k).length ≤ l.length by rw [List.length_take]; omega)
  clear hr hb
  go_enter Tryz.func162, Tryz.ntmps162
  go_wp2_with fail
  generalize w.alloc (.cells #[.pointer none, .slice none 0 0] 76) = w0 at *
  go_loopw [10] (fun i wr => ∃ k : Nat, k ≤ l.length ∧ i = .int .i64 (k : Nat) ∧ Bd wr w.heap.size w.heap.size (lesL 4 (l.take k)) ∧ Below w.heap.size w wr) (fun i _ => l.length - (intOf i).toNat)
  case atStart => exact ⟨0, Nat.zero_le _, rfl, HFR.out, HB0.out⟩
  case round =>
    clear HFR HB0 HS0
    obtain ⟨k, hk, rfl, hbd, hbel⟩ := hrel
    have hlen := HLL.out k
    have htl := HTL.out k
    have HD := Lib.hid hbd
    have HB := Lib.hid hbel
    clear hbd hbel
    generalize hM : lesL 4 (l.take k) = M at *
    have HM := Lib.hid hM
    clear hM
    by_cases hlt : k < l.length
    · have hx := HGET.out k hlt
      have hxb := HBD.out k hlt
      have hst := HT.out k _ hx
      obtain ⟨g, rfl⟩ := HR.out.slice (by omega)
      have hc := (HR.out.below HB.out).at hx
      generalize l[k] = x at *
      rw [HM.out] at hst
      have HST := Lib.hid hst
      clear hx hst
      go_wp2_with fail
      refine (four_any x hxb _).mono ?_; rintro e w1 ⟨rfl, hb1⟩
      have HD1 := Lib.hid (HD.out.below hb1)
      have HB1 := Lib.hid (below_then HB.out hb1)
      have hz : (text (le x 4)).size ≤ 1000000 := by rw [text_size, le_len]; omega
      have hn : nums (text (le x 4)) = le x 4 := nums_text _ (le_lt _ _)
      have HWS := Lib.hid (writeString_any w.heap.size w.heap.size (text (le x 4)) M w1 hz (by omega) HB1.out.size HD1.out)
      rw [hn] at HWS
      clear hb1 hz hn
      go_wp2_with fail
      refine (HWS.out).mono ?_; rintro e w2 ⟨rfl, hd2, hb2, _⟩
      have HD2 := Lib.hid hd2
      have HB2 := Lib.hid (HB1.out.trans hb2)
      clear hd2 hb2
      go_wp2_with fail
      go_roundw
      case rel => exact ⟨k + 1, by omega, by go_num, by rw [HST.out]; exact HD2.out, HB2.out⟩
      case measure => simp [intOf]; omega
    · obtain rfl : k = l.length := by omega
      have hM := HM.out
      rw [HALL.out] at hM
      subst hM
      have HSG := Lib.hid (bdString_any _ _ _ _ (HLT.out l) HB.out.size HD.out)
      clear hlen htl
      go_wp2_with fail
      refine (HSG.out).mono ?_; rintro e w2 ⟨rfl, hb2⟩
      have HB2 := Lib.hid (HB.out.trans hb2)
      clear hb2
      go_wp2_with fail
      go_ret
      exact ⟨rfl, HB2.out⟩
end Go.Proofs.YtpkhpaklhfomkaaGreatDoor
