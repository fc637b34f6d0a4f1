/-
  Contracts: the Builder's copyCheck, Len, WriteString, String.
  Contract: Print.
  Contract: the document's Print.
  Contracts: Same of one and the same fields, few, awake.
  Where a field is: mathematics; contracts: place, Find.
  Slices of fields and of IDs as they come in.
  Contracts: Contains, Without.
  Contracts: Grow, Concat of three rows of fields.
-/
import Derived.Test.YtijfcmlgohbndaaGreatDoorPkAB
import Derived.Test.YtijfcmlgohbndaaGreatDoorShelf
import Derived.Lib.OthersKept
import Derived.Lib.AppendStr
import Derived.Deep.RegionHeld3
import Derived.Deep.DeepCutAuto
import Derived.Deep.DrawnRows
import Derived.Laws.StructEq
import Derived.Test.YtijfcmlgohbndaaGreatDoorPkAA
import Derived.Deep.Slices
import Derived.Deep.Strs
import Derived.ArgAppend
import Derived.Deep.SlicePairs
import Derived.Lib.AppendZerosOnto
import Derived.Laws.OwnMore

namespace Go.Proofs.YtijfcmlgohbndaaGreatDoor
set_option maxRecDepth 100000
open Go.RowKit Go.Deep Go.Joins Go.Lib

/-- A Builder in block b, so many bytes in it. -/
def Bd (w : World) (B b : Nat) (l : List Nat) : Prop :=
  B ≤ b ∧ ∃ p v, w.heap[b]? = some (.cells #[p, v] 170 (0, 0)) ∧ (p = .pointer none ∨ p = .pointer (some ⟨b, 0, none⟩)) ∧ w.ownsRow B 5 1 v l.length (cells8 l) ∧ v.ownBlock ≠ some b
theorem info_bd : (Tryz.prog.info? 170).map (·.size) = some 2 := by kernel_rfl
theorem lies_bd : liesAt Tryz.prog Tryz.prog.depth 170 (2 / Tryz.prog.cellsOf 170) 0 170 1 = true := by kernel_rfl
theorem copyCheck_any (B b : Nat) (p v : Value) (l : List Nat) (w : World) (hB : B ≤ b) (hb : w.heap[b]? = some (.cells #[p, v] 170 (0, 0))) (hp : p = .pointer none ∨ p = .pointer (some ⟨b, 0, none⟩)) (ho : w.ownsRow B 5 1 v l.length (cells8 l)) (hne : v.ownBlock ≠ some b) :
    Calls Tryz.prog 105 #[.pointer (some ⟨b, 0, none⟩)] w fun e w' => e = .returned (.tuple #[]) ∧ w'.heap[b]? = some (.cells #[.pointer (some ⟨b, 0, none⟩), v] 170 (0, 0)) ∧ w'.ownsRow B 5 1 v l.length (cells8 l) ∧ Below B w w' ∧ (∀ k, k ≠ b → w'.heap[k]? = w.heap[k]?) := by
  obtain ⟨j, hj, hjs⟩ := Option.map_eq_some_iff.1 info_bd
  have c0 : w.cell? ⟨b, 0, none⟩ = some p := by rw [Lib.cell_of_heap hb]; rfl
  rcases hp with rfl | rfl
  · have hbd : BuilderAt 170 5 B b (.pointer none) (cells8 l) w := ⟨hB, v, hb, by rw [show (cells8 l).length = l.length by simp [cells8]]; exact ho, hne⟩
    have hsh := hbd.shape
    have hfz := hbd.frozen0
    have HBD := Lib.hid hbd
    have HHB := Lib.hid hb
    clear hb ho hne hbd
    go_enter Tryz.func105, Tryz.ntmps105
    go_wp2
    rw [Lib.run_to_unsafe w ⟨b, 0, none⟩ Tryz.underlying167 Tryz.underlying202 hj (by rw [hjs]; decide) hsh (Nat.zero_lt_succ 1)]
    simp only [Result.andThen]
    rw [Oper.upon_value]
    go_wp2
    rw [run_callFunc_extern Tryz.func121 (by kernel_rfl) (by kernel_rfl) (by kernel_rfl) (e := Extern.AbiNoEscape.same) (by kernel_rfl)]
    rw [Lib.run_noEscape]
    simp only [Result.andThen]
    rw [Oper.upon_value]
    go_wp2
    rw [Lib.run_from_unsafe w ⟨b, 0, none⟩ Tryz.underlying202 Tryz.underlying167 hj hsh lies_bd]
    simp only [Result.andThen]
    rw [Oper.upon_value]
    go_wp2
    go_end0
    have hu := HBD.out.used (.pointer (some ⟨b, 0, none⟩))
    refine ⟨rfl, ?_, ?_, (Below.refl _ _).setCell hB _, fun k hk => Below.heap_setCell w _ _ k hk⟩
    · rw [Go.heap_setCell_same w b 0 _ _ _ HHB.out]
      rfl
    · obtain ⟨_, v', hv', ho', _⟩ := hu
      have e : v' = v := by
        rw [Go.heap_setCell_same w b 0 _ _ _ HHB.out] at hv'
        have := Option.some.inj hv'
        injection this with h1
        simp at h1
        exact h1.symm
      subst e
      rw [show (cells8 l).length = l.length by simp [cells8]] at ho'
      exact ho'
  · have HHB := Lib.hid hb
    have HO := Lib.hid ho
    clear hb ho hne
    go_enter Tryz.func105, Tryz.ntmps105
    go_wp2
    rw [Lib.run_neq_ptr_same w _ Tryz.underlying167 hj]
    go_wp2
    go_end0
    exact ⟨rfl, HHB.out, HO.out, Below.refl _ _, fun _ _ => rfl⟩

theorem row_keptE {w w' : World} {B n size : Nat} {e : TypeId} {v : Value} {l : List Value} (ho : w.ownsRow B e size v n l) (hk : ∀ g, v.ownBlock = some g → w'.heap[g]? = w.heap[g]?) : w'.ownsRow B e size v n l := by
  refine ⟨ho.1, ?_⟩
  rcases ho.2 with ⟨rfl, h⟩ | ⟨g, cap, cur, rfl, hg, hb, h⟩
  · exact .inl ⟨rfl, h⟩
  · exact .inr ⟨g, cap, cur, rfl, hg, (hk g rfl).trans hb, h⟩
theorem lt_of_heapE {w : World} {g : Nat} {o : Obj} (h : w.heap[g]? = some o) : g < w.heap.size := by
  rcases Nat.lt_or_ge g w.heap.size with hlt | hge
  · exact hlt
  · rw [Array.getElem?_eq_none hge] at h; cases h
theorem row_of {w : World} {B n : Nat} {e : TypeId} {z : Nat} {v : Value} {l : List Value} (h : w.ownsRow B e z v n l) : ∃ A c, v = .slice A n c := by
  rcases h.2 with ⟨rfl, rfl⟩ | ⟨g, cap, cur, rfl, _⟩
  · exact ⟨_, _, rfl⟩
  · exact ⟨_, _, rfl⟩
theorem Bd.below {w w' : World} {B b : Nat} {l : List Nat} (h : Bd w B b l) (hb : Below w.heap.size w w') : Bd w' B b l := by
  obtain ⟨hB, p, v, hh, hp, ho, hne⟩ := h
  exact ⟨hB, p, v, (hb.block b (lt_of_heapE hh)).trans hh, hp, row_keptE ho (fun g hg => hb.block g (ho.lt g hg).2), hne⟩
theorem Bd.lt {w : World} {B b : Nat} {l : List Nat} (h : Bd w B b l) : b < w.heap.size := by
  obtain ⟨_, p, v, hh, _⟩ := h
  exact lt_of_heapE hh
theorem strCells_nums (s : ByteArray) : Lib.strCells s = cells8 (nums s) := by
  unfold Lib.strCells cells8 nums
  rw [List.map_map]
  rfl
theorem bdString_any (B b : Nat) (l : List Nat) (w : World) (hl : ∀ x ∈ l, x < 256) (hBw : B ≤ w.heap.size) (h : Bd w B b l) :
    Calls Tryz.prog 84 #[.pointer (some ⟨b, 0, none⟩)] w fun e w' => e = .returned (.string (text l)) ∧ Below B w w' := by
  obtain ⟨hB, p, v, hb, hp, ho, hne⟩ := h
  have hc : Lib.byteCells (l.map UInt8.ofNat) = cells8 l := by
    unfold Lib.byteCells cells8
    rw [List.map_map]
    apply List.map_congr_left
    intro x hx
    show Value.int .u8 ((UInt8.ofNat x).toNat : Int) = _
    rw [UInt8.toNat_ofNat_of_lt' (hl x hx)]
  have hib : Lib.IsBuilder 170 5 B b (Lib.byteCells (l.map UInt8.ofNat)) w := by
    rw [hc]
    have hq : BuilderAt 170 5 B b p (cells8 l) w := ⟨hB, v, hb, by rw [show (cells8 l).length = l.length by simp [cells8]]; exact ho, hne⟩
    rcases hp with rfl | rfl
    · exact .inl hq
    · exact .inr hq
  exact sh_Builder_String_any B b (l.map UInt8.ofNat) w hib hBw
theorem zero_bdE : ∀ w : World, (zeroValue 170).run Tryz.prog w = .ok (.agg #[.pointer none, .slice none 0 0]) w := fun _ => by kernel_rfl
theorem bd_freshE (w : World) : Bd (w.alloc (.cells #[.pointer none, .slice none 0 0] 170)) w.heap.size w.heap.size [] :=
  ⟨Nat.le_refl _, .pointer none, .slice none 0 0, heap_alloc_new w _, .inl rfl, World.ownsRow_nil _ _ _ _, by simp [Value.ownBlock]⟩
end Go.Proofs.YtijfcmlgohbndaaGreatDoor

namespace Go.Proofs.YtijfcmlgohbndaaGreatDoor
set_option maxRecDepth 100000
open Go.RowKit Go.Joins Go.Deep

theorem info_fd2 : (Tryz.prog.info? 140).map (·.size) = some 2 := by kernel_rfl
theorem prt_drop {l : List Fd} {k : Nat} (hk : k < l.length) {acc : List Nat} (h : acc.length + 4 + (l[k]).d.size ≤ 65535) : prt (l.drop k) acc = prt (l.drop (k + 1)) (acc ++ bytesF l[k]) := by
  rw [List.drop_eq_getElem_cons hk, prt, if_pos h]
theorem prt_no {l : List Fd} {k : Nat} (hk : k < l.length) {acc : List Nat} (h : ¬ acc.length + 4 + (l[k]).d.size ≤ 65535) : prt (l.drop k) acc = none := by
  rw [List.drop_eq_getElem_cons hk, prt, if_neg h]
theorem prtR_no {l : List Fd} (h : prt l [] = none) : prtT l = [] ∧ prtE l = 5 := by
  unfold prtT prtE
  rw [h]
  exact ⟨rfl, rfl⟩
theorem prtR_yes {l : List Fd} {o : List Nat} (h : prt l [] = some o) : prtT l = o ∧ prtE l = 0 := by
  unfold prtT prtE
  rw [h]
  exact ⟨rfl, rfl⟩
theorem fd_box (t : Fd) (w : World) : (w.alloc (.cells #[.int .u16 (t.id : Nat), .string t.d] 140)).cell? ⟨w.heap.size, 0, none⟩ = some (.int .u16 (t.id : Nat)) ∧ (w.alloc (.cells #[.int .u16 (t.id : Nat), .string t.d] 140)).cell? ⟨w.heap.size, 1, none⟩ = some (.string t.d) := by
  constructor
  · rw [cell_of_row _ _ 0 _ _ _ (heap_alloc_new w _)]; rfl
  · rw [cell_of_row _ _ 1 _ _ _ (heap_alloc_new w _)]; rfl
end Go.Proofs.YtijfcmlgohbndaaGreatDoor

namespace Go.Proofs.YtijfcmlgohbndaaGreatDoor
set_option maxRecDepth 100000
open Go.RowKit Go.Joins Go.Deep
attribute [local go_sem ↓] Go.wp_at_zero Go.wp_at_succ
attribute [local go_sem] ByteArray.size_append

theorem text_app (a b : List Nat) : text (a ++ b) = text a ++ text b := by
  unfold text
  rw [List.map_append]
  apply ByteArray.ext
  simp [ByteArray.data_append]
theorem text_bytesF (acc : List Nat) (f : Fd) : text (acc ++ bytesF f) = text acc ++ text (le f.id 2) ++ text (le f.d.size 2) ++ f.d := by
  unfold bytesF
  rw [text_app, text_app, text_app, text_nums]
  simp only [ByteArray.append_assoc]
end Go.Proofs.YtijfcmlgohbndaaGreatDoor

namespace Go.Proofs.YtijfcmlgohbndaaGreatDoor
set_option maxRecDepth 100000
open Go.RowKit Go.Joins Go.Deep

def fewB (l : List Fd) : Bool := decide (∀ f ∈ l, l.length ≤ 60 ∧ f.d.size ≤ 70000)
theorem fewB_true {l : List Fd} (h : ∀ i (hi : i < l.length), l.length ≤ 60 ∧ l[i].d.size ≤ 70000) : fewB l = true := decide_eq_true fun f hf => by
  obtain ⟨i, hi, rfl⟩ := List.mem_iff_getElem.1 hf
  exact h i hi
theorem fewB_false {l : List Fd} {i : Nat} (hi : i < l.length) (h : ¬ (l.length ≤ 60 ∧ l[i].d.size ≤ 70000)) : fewB l = false := decide_eq_false fun k => h (k _ (List.getElem_mem hi))
def ex13 : ByteArray := ⟨#[1, 0, 2, 0, 97, 98]⟩
theorem ex13_parL : parL ex13 = [⟨1, ⟨#[97, 98]⟩⟩] ∧ parE ex13 = 0 := by
  have e : prs ex13 0 [] = some [⟨1, ⟨#[97, 98]⟩⟩] := by
    have h1 : idA ex13 (0 + 2) = 2 := by decide +kernel
    rw [prs_step (by rw [h1]; decide), h1, prs_end (by decide)]
    congr 2
  unfold parL parE
  rw [e]
  exact ⟨rfl, rfl⟩
end Go.Proofs.YtijfcmlgohbndaaGreatDoor

namespace Go.Proofs.YtijfcmlgohbndaaGreatDoor
set_option maxRecDepth 100000
open Go.RowKit Go.Joins Go.Deep

/-- Where the first field of an ID stands; how many there are, if none is. -/
def fx (id : Nat) : List Fd → Nat
  | [] => 0
  | f :: l => if f.id = id then 0 else fx id l + 1
theorem fx_yes {id : Nat} {f : Fd} {l : List Fd} (h : f.id = id) : fx id (f :: l) = 0 := if_pos h
theorem fx_no {id : Nat} {f : Fd} {l : List Fd} (h : f.id ≠ id) : fx id (f :: l) = fx id l + 1 := if_neg h
theorem fx_le (id : Nat) : ∀ l, fx id l ≤ l.length
  | [] => Nat.le_refl _
  | f :: l => by
    unfold fx
    split
    · exact Nat.zero_le _
    · have := fx_le id l
      simp only [List.length_cons]
      omega
theorem fx_hit (id : Nat) : ∀ (l : List Fd) (i : Nat) (h : i < l.length), l[i].id = id → (∀ j (hj : j < l.length), j < i → l[j].id ≠ id) → fx id l = i
  | f :: l, 0, _, h1, _ => fx_yes h1
  | f :: l, i + 1, h, h1, h2 => by
    have h0 : f.id ≠ id := h2 0 (by simp) (by omega)
    rw [fx_no h0, fx_hit id l i (by simpa using h) (by simpa using h1) fun j hj hji => h2 (j + 1) (by simpa using hj) (by omega)]
theorem fx_none (id : Nat) : ∀ (l : List Fd), (∀ j (hj : j < l.length), l[j].id ≠ id) → fx id l = l.length
  | [], _ => rfl
  | f :: l, h => by
    have h0 : f.id ≠ id := h 0 (by simp)
    rw [fx_no h0, fx_none id l fun j hj => h (j + 1) (by simpa using hj)]
    rfl
theorem fx_at (id : Nat) : ∀ (l : List Fd) (h : fx id l < l.length), l[fx id l].id = id
  | f :: l, h => by
    by_cases h0 : f.id = id
    · have e : fx id (f :: l) = 0 := fx_yes h0
      simp only [e, List.getElem_cons_zero]
      exact h0
    · have e : fx id (f :: l) = fx id l + 1 := fx_no h0
      simp only [e, List.getElem_cons_succ]
      exact fx_at id l (by rw [e] at h; simpa using h)
/-- Without the fields of some IDs. -/
def woL (l : List Fd) (ids : List Nat) : List Fd := l.filter fun f => !ids.contains f.id
/-- With a field in its place. -/
def putL (l : List Fd) (f : Fd) : List Fd := l.take (fx f.id l) ++ ([f] ++ woL (l.drop (fx f.id l)) [f.id])
theorem take_fx (id : Nat) : ∀ l : List Fd, ∀ x ∈ l.take (fx id l), x.id ≠ id
  | [], x, hx => by simp at hx
  | f :: l, x, hx => by
    by_cases h0 : f.id = id
    · have e : fx id (f :: l) = 0 := fx_yes h0
      rw [e] at hx
      simp at hx
    · have e : fx id (f :: l) = fx id l + 1 := fx_no h0
      rw [e, List.take_succ_cons] at hx
      rcases List.mem_cons.1 hx with rfl | hx
      · exact h0
      · exact take_fx id l x hx
theorem fx_append (id : Nat) : ∀ (l m : List Fd), (∀ x ∈ l, x.id ≠ id) → fx id (l ++ m) = l.length + fx id m
  | [], m, _ => by simp
  | f :: l, m, h => by
    rw [List.cons_append, fx_no (h f (by simp)), fx_append id l m fun x hx => h x (by simp [hx])]
    simp only [List.length_cons]
    omega
theorem fx_put (l : List Fd) (f : Fd) : fx f.id (putL l f) = (l.take (fx f.id l)).length := by
  unfold putL
  rw [fx_append _ _ _ (take_fx f.id l)]
  show _ + fx f.id (f :: woL _ _) = _
  rw [fx_yes rfl]
  rfl
theorem put_len (l : List Fd) (f : Fd) : fx f.id (putL l f) < (putL l f).length := by
  rw [fx_put]
  unfold putL
  simp
theorem put_at (l : List Fd) (f : Fd) : (putL l f)[fx f.id (putL l f)]'(put_len l f) = f := by
  have e := fx_put l f
  simp only [e]
  unfold putL
  rw [List.getElem_append_right (Nat.le_refl _)]
  simp
theorem put_le (l : List Fd) (f : Fd) : (putL l f).length ≤ l.length + 1 := by
  unfold putL woL
  have h1 := List.length_filter_le (fun g : Fd => !([f.id].contains g.id)) (l.drop (fx f.id l))
  simp only [List.length_append, List.length_take, List.length_drop, List.length_cons, List.length_nil] at h1 ⊢
  have := fx_le f.id l
  omega
theorem wo_put (l : List Fd) (f : Fd) : (woL (putL l f) [f.id]).length + 1 = (putL l f).length := by
  have h1 : woL (l.take (fx f.id l)) [f.id] = l.take (fx f.id l) := by
    unfold woL
    rw [List.filter_eq_self]
    intro x hx
    have := take_fx f.id l x hx
    simp [this]
  have h2 : woL (woL (l.drop (fx f.id l)) [f.id]) [f.id] = woL (l.drop (fx f.id l)) [f.id] := by
    unfold woL
    rw [List.filter_filter]
    congr 1
    funext x
    simp
  have h3 : woL (putL l f) [f.id] = l.take (fx f.id l) ++ woL (l.drop (fx f.id l)) [f.id] := by
    rw [← h1, ← h2]
    unfold putL woL
    simp [List.filter_append]
  rw [h3]
  unfold putL
  simp only [List.length_append, List.length_cons, List.length_nil]
  omega
theorem put_ok {l : List Fd} {f : Fd} (h : ∀ x ∈ l, FdOk x) (hf : FdOk f) : ∀ x ∈ putL l f, FdOk x := by
  intro x hx
  unfold putL at hx
  rcases List.mem_append.1 hx with hx | hx
  · exact h x (List.mem_of_mem_take hx)
  · rcases List.mem_append.1 hx with hx | hx
    · simp at hx; subst hx; exact hf
    · exact h x (List.mem_of_mem_drop (List.mem_filter.1 hx).1)

theorem eqb_nat (a b : Nat) : (((a : Nat) : Int) == ((b : Nat) : Int)) = decide (a = b) := by
  rw [Bool.eq_iff_iff, beq_iff_eq, decide_eq_true_iff]
  omega
theorem clo13_any (f : Fd) (id gid : Nat) (w : World) (hg : gid < w.heap.size) (hc : w.cell? ⟨gid, 0, none⟩ = some (.int .u16 (id : Nat))) :
    Calls Tryz.prog 114 #[valF f, .pointer (some ⟨gid, 0, none⟩)] w fun e w' => e = .returned (.bool (decide (f.id = id))) ∧ Below w.heap.size w w' := by
  obtain ⟨d0, d1⟩ := fd_box f w
  have he := eqb_nat f.id id
  have hb := (Below.refl w.heap.size w).alloc (Nat.le_refl _) (.cells #[.int .u16 (f.id : Nat), .string f.d] 140)
  have hc1 : (w.alloc (.cells #[.int .u16 (f.id : Nat), .string f.d] 140)).cell? ⟨gid, 0, none⟩ = some (.int .u16 (id : Nat)) := (hb.cell (p := ⟨gid, 0, none⟩) hg).trans hc
  have HB := Lib.hid hb
  have hit := info_fd2
  unfold valF
  clear hb hc
  go_enter Tryz.func114, Tryz.ntmps114
  go_wp2
  go_ret
  exact ⟨by rw [← he]; rfl, HB.out⟩
/-- What IndexFunc answers. -/
def ixR (id : Nat) (l : List Fd) : Int := if fx id l < l.length then ((fx id l : Nat) : Int) else -1
theorem ixR_hit {id : Nat} {l : List Fd} {k : Nat} (h : fx id l = k) (hk : k < l.length) : ixR id l = (k : Int) := by
  unfold ixR
  rw [h, if_pos hk]
theorem ixR_none {id : Nat} {l : List Fd} (h : fx id l = l.length) : ixR id l = -1 := by
  unfold ixR
  rw [if_neg (by omega)]
set_option maxHeartbeats 4000000 in
theorem indexFunc13_any (A : Option Addr) (cap : Nat) (l : List Fd) (id gid : Nat) (w : World) (hF : Fds w A l) (hl : l.length ≤ 1000000) (hg : gid < w.heap.size) (hc : w.cell? ⟨gid, 0, none⟩ = some (.int .u16 (id : Nat))) :
    Calls Tryz.prog 113 #[.slice A l.length cap, .func (.func 114) #[] #[.pointer (some ⟨gid, 0, none⟩)]] w fun e w' => e = .returned (.int .i64 (ixR id l)) ∧ Below w.heap.size w w' := by
  have hit := info_fd2
  have HF := Lib.hid hF
  have HCL := Lib.hid (fun (f : Fd) (w1 : World) h => clo13_any f id gid w1 h)
  have HC := Lib.hid hc
  have HG := Lib.hid hg
  have HHI := Lib.hid (fx_hit id l)
  have HNO := Lib.hid (fx_none id l)
  clear hF hc hg
  go_enter Tryz.func113, Tryz.ntmps113
  go_wp2_with fail
  go_loopw [8] (fun i wr => ∃ k : Nat, k ≤ l.length ∧ i = .int .i64 (k : Nat) ∧ Hid (∀ j (hj : j < l.length), j < k → l[j].id ≠ id) ∧ Hid (Below w.heap.size w wr)) (fun i _ => l.length - (intOf i).toNat)
  case atStart => exact ⟨0, Nat.zero_le _, rfl, fun j _ h => absurd h (by omega), Below.refl _ _⟩
  case round =>
    obtain ⟨k, hk, rfl, HP, HB⟩ := hrel
    by_cases hkn : k < l.length
    · obtain ⟨b, off, rfl, hbl, hcc⟩ := (HF.out.below (Nat.le_refl _) HB.out) (by omega)
      obtain ⟨c0, c1⟩ := hcc k hkn
      have HY : Hid (l[k].id = id → fx id l = k) := fun h => HHI.out k hkn h HP.out
      have HP2 : Hid (l[k].id ≠ id → ∀ j (hj : j < l.length), j < k + 1 → l[j].id ≠ id) := fun h j hj hjk => by
        by_cases e : j = k
        · subst e; exact h
        · exact HP.out j hj (by omega)
      have HCK := Lib.hid (HCL.out l[k] wr (Nat.lt_of_lt_of_le HG.out HB.out.size) ((HB.out.cell (p := ⟨gid, 0, none⟩) HG.out).trans HC.out))
      clear hcc
      generalize l[k] = t at *
      obtain ⟨tid, td⟩ := t
      dsimp only at c0 c1 HY HP2 HCK
      unfold valF at HCK
      dsimp only at HCK
      by_cases hid : tid = id
      · rw [decide_eq_true hid] at HCK
        have HR := Lib.hid (ixR_hit (HY.out hid) hkn)
        have HID := Lib.hid hid
        clear HY HP2 HP hid
        go_wp2_with fail
        refine (HCK.out).mono ?_
        rintro e w2 ⟨rfl, hb2⟩
        have HB2 := Lib.hid (below_then HB.out hb2)
        clear hb2
        go_wp2_with fail
        go_ret
        exact ⟨by rw [HR.out]; rfl, HB2.out⟩
      · rw [decide_eq_false hid] at HCK
        have HP3 := Lib.hid (HP2.out hid)
        clear HY HP2 HP
        go_wp2_with fail
        refine (HCK.out).mono ?_
        rintro e w2 ⟨rfl, hb2⟩
        have HB2 := Lib.hid (below_then HB.out hb2)
        clear hb2
        go_wp2_with fail
        go_roundw
        case rel => exact ⟨k + 1, by omega, by go_num, HP3.out, HB2.out⟩
        case measure => simp [intOf]; omega
    · obtain rfl : k = l.length := by omega
      have HR := Lib.hid (ixR_none (HNO.out fun j hj => HP.out j hj hj))
      go_wp2_with fail
      go_ret
      exact ⟨by rw [HR.out]; rfl, HB.out⟩
set_option maxHeartbeats 2000000 in
theorem place_any (A : Option Addr) (cap : Nat) (l : List Fd) (id : Nat) (w : World) (hF : Fds w A l) (hl : l.length ≤ 1000000) :
    Calls Tryz.prog 93 #[.slice A l.length cap, .int .u16 (id : Nat)] w fun e w' => e = .returned (.int .i64 (fx id l : Nat)) ∧ Below w.heap.size w w' := by
  have hmf : ∀ (fn : Fn) (first cap : Array Value) (w : World), (Instr.makeFunc fn first cap).run Tryz.prog w = .ok (.func fn first cap) w := fun _ _ _ _ => rfl
  have hb := (Below.refl w.heap.size w).alloc (Nat.le_refl _) (.cells #[.int .u16 (id : Nat)] 48)
  have HX := Lib.hid (indexFunc13_any A cap l id w.heap.size (w.alloc (.cells #[.int .u16 (id : Nat)] 48)) (hF.below (Nat.le_refl _) hb) hl (by simp) (by rw [cell_of_row _ _ 0 _ _ _ (heap_alloc_new w _)]; rfl))
  have HB := Lib.hid hb
  have hle := fx_le id l
  clear hF hb
  go_enter Tryz.func93, Tryz.ntmps93
  by_cases hm : fx id l < l.length
  · have HXX := HX.out
    rw [ixR_hit rfl hm] at HXX
    have HX2 := Lib.hid HXX
    clear HX HXX
    generalize fx id l = m at *
    have hm0 : decide ((m : Int) < 0) = false := decide_eq_false (by omega)
    go_wp2_with fail
    refine (HX2.out).mono ?_
    rintro e w2 ⟨rfl, hb2⟩
    have HB2 := Lib.hid (below_then HB.out hb2)
    clear hb2
    go_wp2_with fail
    go_ret
    exact ⟨rfl, HB2.out⟩
  · have he : fx id l = l.length := by omega
    have HXX := HX.out
    rw [ixR_none he] at HXX
    have HX2 := Lib.hid HXX
    have HE := Lib.hid he
    clear HX HXX hm hle he
    go_wp2_with fail
    refine (HX2.out).mono ?_
    rintro e w2 ⟨rfl, hb2⟩
    have HB2 := Lib.hid (below_then HB.out hb2)
    clear hb2
    go_wp2_with fail
    go_ret
    exact ⟨by rw [HE.out]; rfl, HB2.out⟩
/-- What Find answers. -/
def fndD (l : List Fd) (id : Nat) : ByteArray := ((l[fx id l]?).getD ⟨0, ⟨#[]⟩⟩).d
def fndB (l : List Fd) (id : Nat) : Bool := decide (fx id l < l.length)
set_option maxHeartbeats 2000000 in
theorem find13_any (A : Option Addr) (cap : Nat) (l : List Fd) (id : Nat) (w : World) (hF : Fds w A l) (hl : l.length ≤ 1000000) :
    Calls Tryz.prog 64 #[.slice A l.length cap, .int .u16 (id : Nat)] w fun e w' => e = .returned (.tuple #[.string (fndD l id), .bool (fndB l id)]) ∧ Below w.heap.size w w' := by
  have hit := info_fd2
  have HP := Lib.hid (place_any A cap l id w hF hl)
  have HF := Lib.hid hF
  clear hF
  by_cases hm : fx id l < l.length
  · have hD : fndD l id = l[fx id l].d := by unfold fndD; rw [List.getElem?_eq_getElem hm]; rfl
    have HD := Lib.hid hD
    have HBB : Hid (fndB l id = true) := decide_eq_true hm
    have hne : (((fx id l : Nat) : Int) == (l.length : Int)) = false := by rw [beq_eq_false_iff_ne]; omega
    have HFE := Lib.hid (fun (w1 : World) (h : Fds w1 A l) => h (by omega))
    clear hD
    go_enter Tryz.func64, Tryz.ntmps64
    go_wp2_with fail
    refine (HP.out).mono ?_
    rintro e w2 ⟨rfl, hb2⟩
    obtain ⟨b, off, rfl, _, hcc⟩ := HFE.out w2 (HF.out.below (Nat.le_refl _) hb2)
    obtain ⟨c0, c1⟩ := hcc _ hm
    have HB2 := Lib.hid hb2
    obtain ⟨dd, hdd⟩ : ∃ x, x = fndD l id := ⟨_, rfl⟩
    rw [← HD.out, ← hdd] at c1
    have HDD := Lib.hid hdd
    clear hcc hb2 HP HF HFE HD hdd
    have i1 : (0 : Int) ≤ ((fx id l : Nat) : Int) := by omega
    have i2 : ((fx id l : Nat) : Int) < (l.length : Int) := by omega
    generalize fx id l = m at *
    go_wp2_with fail
    go_ret2
    rw [HBB.out, ← HDD.out]
    exact ⟨rfl, HB2.out⟩
  · have he : fx id l = l.length := by have := fx_le id l; omega
    have HD : Hid (fndD l id = ⟨#[]⟩) := by
      show _ = _
      unfold fndD
      rw [List.getElem?_eq_none (by omega)]
      rfl
    have HBB : Hid (fndB l id = false) := decide_eq_false hm
    rw [he] at HP
    go_enter Tryz.func64, Tryz.ntmps64
    go_wp2_with fail
    refine (HP.out).mono ?_
    rintro e w2 ⟨rfl, hb2⟩
    go_wp2_with fail
    go_ret2
    rw [HBB.out, HD.out]
    exact ⟨rfl, hb2⟩
end Go.Proofs.YtijfcmlgohbndaaGreatDoor

namespace Go.Proofs.YtijfcmlgohbndaaGreatDoor
set_option maxRecDepth 100000
open Go.Joins Go.RowKit Go.Deep Go.ChangeShapes Go.WideShapes

theorem cells_fd : Tryz.prog.cellsOf 140 = 2 := by kernel_rfl
theorem cells_u16 : Tryz.prog.cellsOf 48 = 1 := by kernel_rfl
theorem cells_str : Tryz.prog.cellsOf 9 = 1 := by kernel_rfl
/-- A slice of fields is one. -/
theorem fds_row {H : Type} {enc : TypeId × Value → H} {W : World} {fuel : Nat} {a : Option Addr} {len cap : Nat} {x : DataW H × List MemPlace} (h : DataW.trod enc Tryz.prog W 0 (fun _ => true) true fuel 67 [.slice a len cap] = some x) : ∃ l : List Fd, len = l.length ∧ Fds W a l ∧ (∀ f ∈ l, FdOk f) ∧ (a = none → len = 0 ∧ cap = 0) ∧ len ≤ cap := by
  rcases open_slice Tryz.underlying67 h with ⟨hcs, _⟩ | ⟨ad, len', cap', m, n, D, Pl, hcs, _, hl, hm, hmm, _, hel⟩
  · simp at hcs
    obtain ⟨rfl, rfl, rfl⟩ := hcs
    exact ⟨[], rfl, Fds.nil _ _, fun f hf => (by cases hf), fun _ => ⟨rfl, rfl⟩, Nat.le_refl _⟩
  · simp at hcs
    obtain ⟨rfl, rfl, rfl⟩ := hcs
    have hm2 : len ≤ m := by rw [hmm]; simp; exact hl
    have each : ∀ i, i < len → ∃ t : Fd, FdOk t ∧ W.cell? (ad.add (i * 2)) = some (.int .u16 (t.id : Nat)) ∧ W.cell? (ad.add (i * 2 + 1)) = some (.string t.d) := by
      intro i hi
      obtain ⟨cs', h1, h2⟩ := hel i (by omega)
      rw [cells_fd] at h1
      obtain ⟨_, hlen, hcell⟩ := World.cells?_some h1
      obtain ⟨xs, k, hk, hxy, _, hxl, hf⟩ := DataW.trod_struct Tryz.underlying140 h2
      match xs, hxl, cs', hlen with
      | [y0, y1], _, [v0, v1], _ =>
        have g0 := hf 0 _ rfl
        have g1 := hf 1 _ rfl
        simp [cells_u16, cells_str] at g0 g1
        have e0 := hcell 0 (by omega)
        have e1 := hcell 1 (by omega)
        rw [add_add] at e0 e1
        obtain ⟨z0, q0, _, w0⟩ := DataW.trod_int Tryz.underlying48 g0
        obtain ⟨z1, q1, _, w1⟩ := DataW.trod_string Tryz.underlying9 g1
        simp at q0 q1
        subst q0 q1
        have b0 : IntKind.u16.min ≤ z0 ∧ z0 ≤ IntKind.u16.max := by simpa [Lit.wf] using w0
        rw [show IntKind.u16.min = 0 by decide, show IntKind.u16.max = 65535 by decide] at b0
        refine ⟨⟨z0.toNat, z1⟩, ⟨by show z0.toNat < 65536; omega, w1⟩, ?_, ?_⟩
        · show _ = some (Value.int .u16 ((z0.toNat : Nat) : Int))
          rw [Int.toNat_of_nonneg b0.1]; simpa using e0
        · simpa using e1
    obtain ⟨f, hf⟩ := choose_lt each
    refine ⟨(List.range len).map f, by simp, fun hpos => ?_, fun t ht => ?_, fun h => (by cases h), hl⟩
    · rw [List.length_map, List.length_range] at hpos
      obtain ⟨b, off, spot⟩ := ad
      have hz := (hf 0 hpos).2.1
      have hspot : spot = none := by simpa [Addr.add] using World.cell?_spot hz
      subst hspot
      refine ⟨b, off, rfl, block_lt_of_cell hz, fun i hi => ?_⟩
      rw [List.length_map, List.length_range] at hi
      obtain ⟨h0, c0, c1⟩ := hf i hi
      rw [Addr.add_lit] at c0 c1
      simp only [List.getElem_map, List.getElem_range]
      exact ⟨c0, by rw [← Nat.add_assoc] at c1; exact c1⟩
    · obtain ⟨i, hi, rfl⟩ := List.mem_map.1 ht
      exact (hf i (by simpa using hi)).1
/-- A slice of IDs. -/
def Ids (w : World) (A : Option Addr) (l : List Nat) : Prop := 0 < l.length → ∃ b off, A = some ⟨b, off, none⟩ ∧ b < w.heap.size ∧ ∀ i (h : i < l.length), w.cell? ⟨b, off + i, none⟩ = some (.int .u16 (l[i] : Nat))
theorem Ids.below {w w' : World} {B : Nat} {A : Option Addr} {l : List Nat} (h : Ids w A l) (hB : w.heap.size ≤ B) (hb : Below B w w') : Ids w' A l := fun hn => by
  obtain ⟨b, off, e, hlt, hc⟩ := h hn
  have hl := Nat.lt_of_lt_of_le hlt hB
  exact ⟨b, off, e, Nat.lt_of_lt_of_le hlt hb.size, fun i hi => (hb.cell (p := ⟨b, off + i, none⟩) hl).trans (hc i hi)⟩
end Go.Proofs.YtijfcmlgohbndaaGreatDoor

namespace Go.Proofs.YtijfcmlgohbndaaGreatDoor
set_option maxRecDepth 100000
open Go.RowKit Go.Joins Go.Deep

/-- A slice that is nil is empty and has no room. -/
def Nil0 (A : Option Addr) (n cap : Nat) : Prop := A = none → n = 0 ∧ cap = 0
theorem slice_of_own0 {w : World} {B : Nat} {T : TypeId} {v : Value} {l : List Fd} (h : w.ownsRow B T 2 v l.length (cellsF l)) : ∃ A cap, v = .slice A l.length cap ∧ Nil0 A l.length cap := by
  rcases ownsRow_forms h with ⟨he, h0⟩ | ⟨g2, cap2, he⟩
  · exact ⟨none, 0, by rw [he, h0], fun _ => ⟨h0, rfl⟩⟩
  · exact ⟨some ⟨g2, 0, none⟩, cap2, he, fun e => by cases e⟩
theorem wo_take {l : List Fd} {ids : List Nat} {k : Nat} (hk : k < l.length) : woL (l.take (k + 1)) ids = if decide ((l[k]).id ∈ ids) = true then woL (l.take k) ids else woL (l.take k) ids ++ [l[k]] := by
  unfold woL
  rw [List.take_succ_eq_append_getElem hk, List.filter_append]
  by_cases h : (l[k]).id ∈ ids
  · rw [if_pos (decide_eq_true h)]
    simp [h]
  · rw [if_neg (by simpa using h)]
    simp [h]
end Go.Proofs.YtijfcmlgohbndaaGreatDoor

namespace Go.Proofs.YtijfcmlgohbndaaGreatDoor
set_option maxRecDepth 100000
open Go.RowKit Go.Joins Go.Deep

theorem zeroCells_size (z : Array Value) (n : Nat) : (Builtin.zeroCells z n).size = n * z.size := by
  simp [Builtin.zeroCells]
set_option maxHeartbeats 2000000 in
theorem grow13_any (B n : Nat) (h1 : 1 ≤ n) (hn : n ≤ 100000) (w : World) (hB : B ≤ w.heap.size) :
    Calls Tryz.prog 98 #[.slice none 0 0, .int .i64 n] w fun e w' => ∃ G, e = .returned (.slice (some ⟨w.heap.size, 0, none⟩) 0 G) ∧ w'.ownsRow B 140 2 (.slice (some ⟨w.heap.size, 0, none⟩) 0 G) 0 [] ∧ Below w.heap.size w w' := by
  obtain ⟨i0, hi, hz0, hz1, hz2⟩ := info_parts parts_fd
  have h3 : ¬ ((n : Int) < 0) := by omega
  have h4 : (n : Int) > 0 := by omega
  have hold : (Builtin.firstCells i0.size 0 (.slice none 0 0)).run Tryz.prog w.drew = .ok (#[] : Array Value) w.drew := run_firstCells_none w.drew i0.size 0 0 0
  have hrz : ∀ ty, (Builtin.append_ #[67, 3] ty #[.slice none 0 0, .int .i64 (n : Int)]).run Tryz.prog w =
      .ok (.slice (some ⟨w.heap.size, 0, none⟩) n (grownCap w n 0 140)) (w.drew.alloc (.cells (#[] ++ Builtin.zeroCells (Value.agg #[.int .u16 0, .string ⟨#[]⟩]).cells n ++ Builtin.zeroCells (Value.agg #[.int .u16 0, .string ⟨#[]⟩]).cells (grownCap w n 0 140 - n)) 140)) := fun ty => by
    have h := Lib.run_append_grow_zeros w 67 3 ty 140 i0 (.agg #[.int .u16 0, .string ⟨#[]⟩]) .i64 .i64 Tryz.underlying67 Tryz.underlying3 hi hz0 none 0 0 [] (by simpa using hold) n (by omega) (by omega) (by omega) (by omega) (by rw [hz2]; omega) (by rw [Nat.zero_add]; exact growslice_fits (by omega) (by rw [hz2]; omega))
    rw [Nat.zero_add] at h
    exact h
  have hGn : n ≤ grownCap w n 0 140 := grownCap_ge w _ _ _
  have hGm := grownCap_le_maxLen w n 0 140 (by unfold maxLen; omega)
  obtain ⟨G, hG⟩ : ∃ G, G = grownCap w n 0 140 := ⟨_, rfl⟩
  rw [← hG] at hrz hGn hGm
  have HGM := Lib.hid hGm
  have hG63 : G ≤ 9223372036854775807 := by unfold maxLen at hGm; omega
  have hzc : (Value.agg #[.int .u16 0, .string ⟨#[]⟩]).cells = #[Value.int .u16 0, .string ⟨#[]⟩] := rfl
  rw [hzc] at hrz
  have HW : Hid ((w.alloc (.cells (Builtin.zeroCells #[Value.int .u16 0, .string ⟨#[]⟩] n ++ Builtin.zeroCells #[Value.int .u16 0, .string ⟨#[]⟩] (G - n)) 140)).drew.ownsRow B 140 2 (.slice (some ⟨w.heap.size, 0, none⟩) 0 G) 0 []) := by
    refine ⟨rfl, .inr ⟨w.heap.size, G, _, rfl, hB, heap_alloc_new w _, Nat.zero_le _, hGm, ?_, rfl⟩⟩
    rw [Array.size_append, zeroCells_size, zeroCells_size]
    show n * 2 + (G - n) * 2 = G * 2
    omega
  have HBW : Hid (Below w.heap.size w (w.alloc (.cells (Builtin.zeroCells #[Value.int .u16 0, .string ⟨#[]⟩] n ++ Builtin.zeroCells #[Value.int .u16 0, .string ⟨#[]⟩] (G - n)) 140)).drew) := ((Below.refl _ _).alloc (Nat.le_refl _) _).drew
  clear hold hG hGm hzc
  go_enter Tryz.func98, Tryz.ntmps98
  go_wp2_with (at_builtin; refine Lib.wpList_append_run _ rfl _ _ _ _ rfl _ _ rfl rfl _ _ (hrz _) ?_)
  go_ret
  exact ⟨G, rfl, HW.out, HBW.out⟩

/-- The first k rows, one behind the other. -/
def joinF (rs : Nat → List Fd) : Nat → List Fd
  | 0 => []
  | k + 1 => joinF rs k ++ rs k
theorem joinF_mono (rs : Nat → List Fd) (k : Nat) : ∀ d, (joinF rs k).length ≤ (joinF rs (k + d)).length
  | 0 => Nat.le_refl _
  | d + 1 => by
    rw [← Nat.add_assoc, joinF, List.length_append]
    have := joinF_mono rs k d
    omega
theorem cellsF_news {w : World} {ad : Addr} {l : List Fd} (h : Fds w (some ad) l) : ∀ q u, (cellsF l)[q]? = some u → w.cell? (ad.add q) = some u := by
  intro q u hu
  have hql := (List.getElem?_eq_some_iff.1 hu).1
  rw [cellsF_len] at hql
  obtain ⟨b, off, e, _, hc⟩ := h (by omega)
  injection e with e
  subst e
  rw [Addr.add_lit]
  have hi : q / 2 < l.length := by omega
  have hg := cellsF_get l (q / 2) hi
  have hcc := hc (q / 2) hi
  rcases (by omega : q = q / 2 * 2 ∨ q = q / 2 * 2 + 1) with e | e
  · rw [e, hg.1] at hu
    rw [e, ← hu]
    exact hcc.1
  · rw [e, hg.2] at hu
    rw [e, ← hu, ← Nat.add_assoc]
    exact hcc.2
theorem cellsF_ones (l : List Fd) : ∀ u ∈ cellsF l, u.oneCell' = true := by
  induction l with
  | nil => intro u hu; cases hu
  | cons x l ih =>
    intro u hu
    simp only [cellsF, List.mem_cons] at hu
    rcases hu with rfl | rfl | hu
    · rfl
    · rfl
    · exact ih u hu
theorem nil_of_own {w : World} {B : Nat} {T : TypeId} {A : Option Addr} {cap : Nat} {l : List Fd} (h : w.ownsRow B T 2 (.slice A l.length cap) l.length (cellsF l)) : Nil0 A l.length cap := by
  obtain ⟨A2, c2, he, hn⟩ := slice_of_own0 h
  injection he with h1 h2 h3
  subst h1 h3
  exact hn
set_option maxHeartbeats 4000000 in
theorem concat13_any (gc n : Nat) (As : Nat → Option Addr) (cp : Nat → Nat) (rs : Nat → List Fd) (hn : n ≤ 10) (hpos : 1 ≤ (joinF rs n).length) (htot : (joinF rs n).length ≤ 50000) (w : World) (hgc : gc < w.heap.size)
    (hc : ∀ i, i < n → w.cell? ⟨gc, i, none⟩ = some (.slice (As i) (rs i).length (cp i))) (hr : ∀ i, i < n → Fds w (As i) (rs i)) (h0 : ∀ i, i < n → Nil0 (As i) (rs i).length (cp i)) :
    Calls Tryz.prog 67 #[.slice (some ⟨gc, 0, none⟩) n n] w fun e w' => ∃ A cap, e = .returned (.slice A (joinF rs n).length cap) ∧ Fds w' A (joinF rs n) ∧ Nil0 A (joinF rs n).length cap ∧ Below w.heap.size w w' := by
  have HC := Lib.hid hc
  have HR := Lib.hid hr
  have H0 := Lib.hid h0
  have hmono : ∀ k, k ≤ n → (joinF rs k).length ≤ (joinF rs n).length := fun k hk => by
    have := joinF_mono rs k (n - k)
    rwa [show k + (n - k) = n by omega] at this
  have HMO := Lib.hid hmono
  have HTOT := Lib.hid htot
  have HJ := Lib.hid (fun k => show joinF rs (k + 1) = joinF rs k ++ rs k from rfl)
  have HG := Lib.hid (grow13_any w.heap.size (joinF rs n).length hpos (by omega) w (Nat.le_refl _))
  clear hc hr hmono htot h0 hpos
  go_enter Tryz.func67, Tryz.ntmps67
  go_wp2_with fail
  go_loop [3, 11] (fun t i => ∃ k : Nat, k ≤ n ∧ i = .int .i64 (k : Nat) ∧ t = .int .i64 ((joinF rs k).length : Nat)) (fun _ i => n - (intOf i).toNat)
  case atStart => exact ⟨0, Nat.zero_le _, rfl, rfl⟩
  case round =>
    obtain ⟨k, hk, rfl, rfl⟩ := hrel
    by_cases hlt : k < n
    · have hcell := HC.out k hlt
      have hm1 := HMO.out (k + 1) (by omega)
      have hm2 := HMO.out k hk
      have hj := congrArg List.length (HJ.out k)
      rw [List.length_append] at hj
      have HJL := Lib.hid hj
      have htt := HTOT.out
      have hll : (rs k).length ≤ 100000 := by omega
      have hkk : (joinF rs k).length ≤ 100000 := by omega
      clear hm1 hm2 hj htt
      generalize (joinF rs k).length = a at *
      generalize (rs k).length = b at *
      generalize As k = A1 at *
      go_wp2_with fail
      go_round
      case rel => exact ⟨k + 1, by omega, by go_num, by rw [HJL.out]; go_num⟩
      case measure => simp [intOf]; omega
    · obtain rfl : k = n := by omega
      have htt := HTOT.out
      go_wp2_with fail
      refine (HG.out).mono ?_; rintro e w1 ⟨G, rfl, hown, hb⟩
      have HO1 := Lib.hid hown
      have HB1 := Lib.hid hb
      clear hown hb HG
      obtain ⟨i0, hi, hz0, hz1, hz2⟩ := info_parts parts_fd
      go_wp2_with fail
      go_loopw [6, 27] (fun v i wr => ∃ j, j ≤ k ∧ i = .int .i64 (j : Nat) ∧ Hid (wr.ownsRow w.heap.size 140 2 v (joinF rs j).length (cellsF (joinF rs j))) ∧ Hid (Below w.heap.size w wr)) (fun _ i _ => k - (intOf i).toNat)
      case atStart => exact ⟨0, Nat.zero_le _, rfl, HO1.out, HB1.out⟩
      case round =>
        obtain ⟨j, hj, rfl, HO, HB⟩ := hrel
        obtain ⟨A2, cp2, rfl⟩ := slice_of_own HO.out
        by_cases hjk : j < k
        · have hcell : wr.cell? ⟨gc, j, none⟩ = some (.slice (As j) (rs j).length (cp j)) := (HB.out.cell (p := ⟨gc, j, none⟩) hgc).trans (HC.out j hjk)
          have HRJ := Lib.hid ((HR.out j hjk).below (Nat.le_refl _) HB.out)
          have HN0 := Lib.hid (H0.out j hjk)
          have hm1 := HMO.out (j + 1) (by omega)
          have hJ := congrArg List.length (HJ.out j)
          rw [List.length_append] at hJ
          have HJJ := Lib.hid (HJ.out j)
          have hsum : (joinF rs j).length + (rs j).length ≤ 50000 := by omega
          have hbase : w.heap.size ≤ wr.heap.size := HB.out.size
          have HCL := Lib.hid (cellsF_len (rs j))
          have HON := Lib.hid (cellsF_ones (rs j))
          clear hm1 hJ
          generalize As j = A1 at *
          cases A1 with
          | none =>
            obtain ⟨hz, hcz⟩ := HN0.out rfl
            have hnil : rs j = [] := List.eq_nil_of_length_eq_zero hz
            rw [hz, hcz] at hcell
            have HNIL := Lib.hid hnil
            have HRN := Lib.hid (fun ty => run_append_owned_none wr w.heap.size 67 ty 140 i0 2 Tryz.underlying67 hi _ _ _ HO.out)
            have HJ2 : Hid (joinF rs (j + 1) = joinF rs j) := by show _ = _; rw [HJJ.out, HNIL.out, List.append_nil]
            clear hnil HJJ HRJ
            go_wp2_with (at_builtin; refine Lib.wpList_append_run _ rfl _ _ _ _ rfl _ _ rfl rfl _ _ (HRN.out _) ?_)
            go_roundw
            case rel => exact ⟨j + 1, by omega, by go_num, by rw [HJ2.out]; exact HO.out, HB.out⟩
            case measure => simp [intOf]; omega
          | some ad =>
            have HNW := Lib.hid (cellsF_news HRJ.out)
            generalize hNE : cellsF (rs j) = news at *
            generalize hLE : (rs j).length = b at *
            have HLE := Lib.hid hLE
            have HNE := Lib.hid hNE
            clear hNE hLE
            generalize hLA : (joinF rs j).length = a at *
            have HLA := Lib.hid hLA
            clear hLA
            go_wp2_with (at_builtin; refine wpList_append_own_at _ rfl (.tmp 31) (.tmp 32) _ rfl w.heap.size 140 i0 (.agg #[.int .u16 0, .string ⟨#[]⟩]) 2 24 Tryz.underlying67 hi hz0 hz1 hz2 rfl (by decide) _ a (cellsF (joinF rs j)) rfl HO.out ad b (cp j) news rfl HCL.out HNW.out HON.out (by unfold maxLen; omega) (by omega) hbase ?_)
            intro v2 w2 hown hgrow _ hat
            have HB2 := Lib.hid (HB.out.grown hgrow hbase (fun q hq => (HO.out.lt q hq).1))
            have HO2 : Hid (w2.ownsRow w.heap.size 140 2 v2 (joinF rs (j + 1)).length (cellsF (joinF rs (j + 1)))) := by
              show World.ownsRow _ _ _ _ _ _ _
              rw [HJJ.out, cellsF_app, HNE.out, List.length_append, HLA.out, HLE.out]
              exact hown
            clear hown hgrow hat
            go_wp2_with fail
            go_roundw
            case rel => exact ⟨j + 1, by omega, by go_num, HO2.out, HB2.out⟩
            case measure => simp [intOf]; omega
        · obtain rfl : j = k := by omega
          have HN0 := Lib.hid (nil_of_own HO.out)
          go_wp2_with fail
          go_ret
          exact ⟨A2, cp2, rfl, fds_of_own HO.out, HN0.out, HB.out⟩
end Go.Proofs.YtijfcmlgohbndaaGreatDoor
