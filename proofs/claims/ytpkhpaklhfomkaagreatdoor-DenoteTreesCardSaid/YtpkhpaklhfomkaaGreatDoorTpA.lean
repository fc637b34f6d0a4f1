/-
  Trees: slices.Clone, IndexFunc, DeleteFunc over items, with the whole room of a slice kept track of.
-/
import Derived.Test.YtpkhpaklhfomkaaGreatDoorItC
import Derived.Deep.Cut
import Derived.Lib.Walk
namespace Go.Proofs.YtpkhpaklhfomkaaGreatDoor
set_option maxRecDepth 100000
set_option linter.unusedSimpArgs false
set_option linter.unusedVariables false
open Go.RowKit Go.Joins Go.Deep
open Go.Lib hiding intOf
/-- A block of so many items. -/
def BK (w : World) (g c : Nat) : Prop := ∃ cur, w.heap[g]? = some (.cells cur 33 (0, 0)) ∧ cur.size = c * 8 ∧ c ≤ maxLen
theorem BK.below {w w' : World} {g c : Nat} (h : BK w g c) (hb : Below w.heap.size w w') : BK w' g c := by
  obtain ⟨cur, h1, h2⟩ := h
  exact ⟨cur, (hb.block g (lt_of_block h1)).trans h1, h2⟩
theorem BK.store1 {w : World} {g c : Nat} (h : BK w g c) (o : Nat) (v : Value) : BK (w.setCell ⟨g, o, none⟩ v) g c := by
  obtain ⟨cur, h1, h2⟩ := h
  refine ⟨cur.setIfInBounds o v, ?_, by rw [Array.size_setIfInBounds]; exact h2⟩
  show (w.heap.modify g _)[g]? = _
  rw [Array.getElem?_modify, if_pos rfl, h1]
  rfl
theorem BK.store {g c : Nat} : ∀ (vs : List Value) (o : Nat) (w : World), BK w g c → BK (w.setCells g o vs) g c
  | [], _, _, h => h
  | v :: r, o, w, h => by rw [World.setCells]; exact BK.store r (o + 1) _ (h.store1 o v)
/-- Items in a block of their own, with its room. -/
def IC (w : World) (g c : Nat) (l : List Itm) : Prop := IO w g l ∧ BK w g c
theorem IC.below {w w' : World} {g c : Nat} {l : List Itm} (h : IC w g c l) (hb : Below w.heap.size w w') : IC w' g c l := ⟨h.1.below hb, h.2.below hb⟩
theorem IC.store {w : World} {g c : Nat} {l : List Itm} (h : IC w g c l) (k : Nat) (y : Itm) (hk : k < l.length) : IC (w.setCells g (k * 8) y.cellsL) g c (l.set k y) := ⟨h.1.store k y hk, h.2.store _ _ _⟩
theorem IC.itms {w : World} {g c : Nat} {l : List Itm} (h : IC w g c l) : Itms w (some ⟨g, 0, none⟩) l := h.1.itms
theorem below_al (w : World) (o : Obj) : Below w.heap.size w (w.alloc o) := (Below.refl _ _).alloc (Nat.le_refl _) o
theorem any_take {α : Type} (l : List α) (p : α → Bool) (k : Nat) (h : k < l.length) : (l.take (k + 1)).any p = ((l.take k).any p || p l[k]) := by
  rw [List.take_succ_eq_append_getElem h, List.any_append]
  simp
set_option maxHeartbeats 8000000 in
theorem indexP_any (I : World → Prop) (hI : ∀ w1 w2, I w1 → Below w1.heap.size w1 w2 → I w2) (p : Itm → Bool) (l : List Itm) (A : Option Addr) (c g : Nat) (w : World) (hl : l.length ≤ 1000000)
    (hP : ∀ x ∈ l, ∀ w1, I w1 → Calls Tryz.prog 101 #[.agg x.cells, .pointer (some ⟨g, 0, none⟩)] w1 fun e w' => e = .returned (.bool (p x)) ∧ Below w1.heap.size w1 w') (hw : I w) (hR : Itms w A l) :
    Calls Tryz.prog 50 #[.slice A l.length c, .func (.func 101) #[] #[.pointer (some ⟨g, 0, none⟩)]] w
      fun e w' => Below w.heap.size w w' ∧ ((e = .returned (.int .i64 (-1)) ∧ l.any p = false) ∨ ∃ (k : Nat) (h : k < l.length), e = .returned (.int .i64 k) ∧ p l[k] = true ∧ (l.take k).any p = false) := by
  have hir := info_item
  have HP := Lib.hid hP
  have HI := Lib.hid hI
  have HW := Lib.hid hw
  have HR := Lib.hid hR
  clear hP hI hw hR
  go_enter Tryz.func50, Tryz.ntmps50
  go_wp2_with fail
  go_loopw [5, 8] (fun _ i wr => ∃ k : Nat, k ≤ l.length ∧ i = .int .i64 (k : Nat) ∧ Hid ((l.take k).any p = false) ∧ Hid (Below w.heap.size w wr)) (fun _ i _ => l.length - (intOf i).toNat)
  case atStart => exact ⟨0, Nat.zero_le _, rfl, by show List.any [] _ = _; rfl, Below.refl _ _⟩
  case round =>
    obtain ⟨k, hk, rfl, HF, HB⟩ := hrel
    by_cases hlt : k < l.length
    · obtain ⟨b, off, rfl, hb, hcc⟩ := (HR.out.below HB.out) (by omega)
      obtain ⟨c0, c1, c2, c3, c4, c5, c6, c7⟩ := hcc k l[k] (List.getElem?_eq_getElem hlt)
      have HQ := Lib.hid (any_take l p k hlt)
      have HCL := Lib.hid (HP.out l[k] (List.getElem_mem hlt) wr (HI.out _ _ HW.out HB.out))
      have HE : Hid (p l[k] = p l[k]) := rfl
      generalize hp : p l[k] = pv at *
      have HPV := Lib.hid hp
      simp only [Itm.cells] at HCL
      generalize l[k] = x at c0 c1 c2 c3 c4 c5 c6 c7 HCL
      clear hcc hp
      obtain ⟨x0, x1, x2, x3, x4, x5, x6, x7⟩ := x
      dsimp only at c0 c1 c2 c3 c4 c5 c6 c7 HCL
      go_wp2_with fail
      refine HCL.out.mono ?_; rintro e w5 ⟨rfl, hb5⟩
      have HB5 := Lib.hid (below_then HB.out hb5)
      clear hb5
      cases pv with
      | true =>
        go_wp2_with fail
        go_ret
        exact ⟨HB5.out, .inr ⟨k, hlt, rfl, HPV.out, HF.out⟩⟩
      | false =>
        go_wp2_with fail
        go_roundw
        case rel => exact ⟨k + 1, by omega, by go_num, by show _ = _; rw [HQ.out, HF.out]; rfl, HB5⟩
        case measure => simp [intOf]; omega
    · obtain rfl : k = l.length := by omega
      go_wp2_with fail
      go_ret
      refine ⟨HB.out, .inl ⟨rfl, ?_⟩⟩
      have h := HF.out
      rw [List.take_length] at h
      exact h
set_option maxHeartbeats 8000000 in
theorem indexW_any (I : World → Prop) (hI : ∀ w1 w2, I w1 → Below w1.heap.size w1 w2 → I w2) (p : Itm → Bool) (l : List Itm) (A : Option Addr) (c g : Nat) (w : World) (hl : l.length ≤ 1000000)
    (hP : ∀ x ∈ l, ∀ w1, I w1 → Calls Tryz.prog 141 #[.agg x.cells, .pointer (some ⟨g, 0, none⟩)] w1 fun e w' => e = .returned (.bool (p x)) ∧ Below w1.heap.size w1 w') (hw : I w) (hR : Itms w A l) :
    Calls Tryz.prog 50 #[.slice A l.length c, .func (.func 141) #[] #[.pointer (some ⟨g, 0, none⟩)]] w
      fun e w' => Below w.heap.size w w' ∧ ((e = .returned (.int .i64 (-1)) ∧ l.any p = false) ∨ ∃ (k : Nat) (h : k < l.length), e = .returned (.int .i64 k) ∧ p l[k] = true ∧ (l.take k).any p = false) := by
  have hir := info_item
  have HP := Lib.hid hP
  have HI := Lib.hid hI
  have HW := Lib.hid hw
  have HR := Lib.hid hR
  clear hP hI hw hR
  go_enter Tryz.func50, Tryz.ntmps50
  go_wp2_with fail
  go_loopw [5, 8] (fun _ i wr => ∃ k : Nat, k ≤ l.length ∧ i = .int .i64 (k : Nat) ∧ Hid ((l.take k).any p = false) ∧ Hid (Below w.heap.size w wr)) (fun _ i _ => l.length - (intOf i).toNat)
  case atStart => exact ⟨0, Nat.zero_le _, rfl, by show List.any [] _ = _; rfl, Below.refl _ _⟩
  case round =>
    obtain ⟨k, hk, rfl, HF, HB⟩ := hrel
    by_cases hlt : k < l.length
    · obtain ⟨b, off, rfl, hb, hcc⟩ := (HR.out.below HB.out) (by omega)
      obtain ⟨c0, c1, c2, c3, c4, c5, c6, c7⟩ := hcc k l[k] (List.getElem?_eq_getElem hlt)
      have HQ := Lib.hid (any_take l p k hlt)
      have HCL := Lib.hid (HP.out l[k] (List.getElem_mem hlt) wr (HI.out _ _ HW.out HB.out))
      have HE : Hid (p l[k] = p l[k]) := rfl
      generalize hp : p l[k] = pv at *
      have HPV := Lib.hid hp
      simp only [Itm.cells] at HCL
      generalize l[k] = x at c0 c1 c2 c3 c4 c5 c6 c7 HCL
      clear hcc hp
      obtain ⟨x0, x1, x2, x3, x4, x5, x6, x7⟩ := x
      dsimp only at c0 c1 c2 c3 c4 c5 c6 c7 HCL
      go_wp2_with fail
      refine HCL.out.mono ?_; rintro e w5 ⟨rfl, hb5⟩
      have HB5 := Lib.hid (below_then HB.out hb5)
      clear hb5
      cases pv with
      | true =>
        go_wp2_with fail
        go_ret
        exact ⟨HB5.out, .inr ⟨k, hlt, rfl, HPV.out, HF.out⟩⟩
      | false =>
        go_wp2_with fail
        go_roundw
        case rel => exact ⟨k + 1, by omega, by go_num, by show _ = _; rw [HQ.out, HF.out]; rfl, HB5⟩
        case measure => simp [intOf]; omega
    · obtain rfl : k = l.length := by omega
      go_wp2_with fail
      go_ret
      refine ⟨HB.out, .inl ⟨rfl, ?_⟩⟩
      have h := HF.out
      rw [List.take_length] at h
      exact h
theorem zero_item (w : World) : (zeroValue 33).run Tryz.prog w = .ok (.agg #[.string ⟨#[]⟩, .int .i64 0, .int .u32 0, .int .u32 0, .int .u32 0, .int .i64 0, .int .i64 0, .string ⟨#[]⟩]) w := by kernel_rfl
/-- The cells of so many zero items. -/
theorem zeroCells_sizeI (z : Array Value) (n : Nat) : (Builtin.zeroCells z n).size = n * z.size := by
  unfold Builtin.zeroCells
  simp
theorem run_clear_items {w : World} {g : Nat} {l : List Itm} (h : IO w g l) (i c : Nat) (hi : i ≤ l.length) (ty : TypeId) :
    ∃ zs : List Value, (Builtin.clear_ #[22] ty #[.slice (some ⟨g, i * 8, none⟩) (l.length - i) c]).run Tryz.prog w = .ok (.tuple #[]) (w.setCells g (i * 8) zs) := by
  by_cases hz : l.length - i = 0
  · refine ⟨[], ?_⟩
    rw [hz]
    simp [Builtin.clear_, run_underlying Tryz.underlying22, World.setCells]
  · refine ⟨(Builtin.zeroCells #[.string ⟨#[]⟩, .int .i64 0, .int .u32 0, .int .u32 0, .int .u32 0, .int .i64 0, .int .i64 0, .string ⟨#[]⟩] (l.length - i)).toList, ?_⟩
    have hlen : (Builtin.zeroCells #[Value.string ⟨#[]⟩, .int .i64 0, .int .u32 0, .int .u32 0, .int .u32 0, .int .i64 0, .int .i64 0, .string ⟨#[]⟩] (l.length - i)).toList.length = (l.length - i) * 8 := by
      rw [Array.length_toList, zeroCells_sizeI]; rfl
    have hone : ∀ v ∈ (Builtin.zeroCells #[Value.string ⟨#[]⟩, .int .i64 0, .int .u32 0, .int .u32 0, .int .u32 0, .int .i64 0, .int .i64 0, .string ⟨#[]⟩] (l.length - i)).toList, v.oneCell' = true := by
      intro v hv
      rw [Builtin.zeroCells, Array.toList_map, List.mem_map] at hv
      obtain ⟨j, _, rfl⟩ := hv
      have h8 : j % 8 < 8 := Nat.mod_lt _ (by decide)
      show ((#[Value.string ⟨#[]⟩, .int .i64 0, .int .u32 0, .int .u32 0, .int .u32 0, .int .i64 0, .int .i64 0, .string ⟨#[]⟩] : Array Value)[j % 8]!).oneCell' = true
      generalize j % 8 = q at h8
      have h9 : q = 0 ∨ q = 1 ∨ q = 2 ∨ q = 3 ∨ q = 4 ∨ q = 5 ∨ q = 6 ∨ q = 7 := by omega
      rcases h9 with rfl | rfl | rfl | rfl | rfl | rfl | rfl | rfl <;> simp [Value.oneCell']
    have hth : ∀ j, j < (l.length - i) * 8 → (w.cell? ⟨g, i * 8 + j, none⟩).isSome = true ∧ w.frozen? ⟨g, i * 8 + j, none⟩ = false := fun j hj => by
      have hk : i + j / 8 < l.length := by omega
      have := (h.2 (i + j / 8) _ (List.getElem?_eq_getElem hk)).2 (j % 8) (Nat.mod_lt _ (by decide))
      rwa [show (i + j / 8) * 8 + j % 8 = i * 8 + j by omega] at this
    have hst := run_storeCells_cells (P := Tryz.prog) g (i * 8) _ 0 w (fun j hj => by rw [hlen] at hj; exact (hth j hj).1) (fun j hj => by rw [hlen] at hj; exact (hth j hj).2) hone
    obtain ⟨n, hn⟩ : ∃ n, l.length - i = n + 1 := ⟨l.length - i - 1, by omega⟩
    rw [hn] at hst ⊢
    simp only [Nat.add_zero] at hst
    simp [Builtin.clear_, run_underlying Tryz.underlying22, zero_item, Value.cells, hst]
theorem filter_snoc {α : Type} (q : α → Bool) (l : List α) (k : Nat) (h : k < l.length) : (l.take (k + 1)).filter q = (l.take k).filter q ++ (if q l[k] then [l[k]] else []) := by
  rw [List.take_succ_eq_append_getElem h, List.filter_append]
  congr 1
  by_cases hq : q l[k] = true
  · rw [if_pos hq, List.filter_cons_of_pos hq]; rfl
  · rw [if_neg hq, List.filter_cons_of_neg hq]; rfl
theorem filter_none {α : Type} (p : α → Bool) (l : List α) (h : l.any p = false) : l.filter (fun x => !p x) = l := by
  rw [List.filter_eq_self]
  intro x hx
  have := List.any_eq_false.1 h x hx
  simpa using this
set_option maxHeartbeats 4000000 in
theorem deleteW_nil (A : Option Addr) (cap gf : Nat) (w : World) :
    Calls Tryz.prog 24 #[.slice A 0 cap, .func (.func 141) #[] #[.pointer (some ⟨gf, 0, none⟩)]] w
      fun e w' => e = .returned (.slice A 0 cap) ∧ Below w.heap.size w w' := by
  have HC := Lib.hid (indexW_any (fun w1 => True) (fun w1 w2 h k => trivial) (fun _ => false) [] A cap gf w (Nat.zero_le _) (fun x hx => by cases hx) trivial (Itms.nil _ _))
  have hz : ([] : List Itm).length = 0 := rfl
  rw [hz] at HC
  go_enter Tryz.func24, Tryz.ntmps24
  go_wp2_with fail
  refine HC.out.mono ?_; rintro e w1 ⟨hb1, hcase⟩
  rcases hcase with ⟨rfl, _⟩ | ⟨k, hk, _⟩
  · have HB := Lib.hid hb1
    clear hb1
    go_wp2_with fail
    go_ret
    exact ⟨rfl, HB.out⟩
  · exact absurd hk (by simp)
set_option maxHeartbeats 8000000 in
theorem deleteW_any (w0 : World) (p : Itm → Bool) (l : List Itm) (g cap gf : Nat) (w : World) (hl : l.length ≤ 100000) (hcap : l.length ≤ cap) (hg : w0.heap.size ≤ g)
    (hP : ∀ x ∈ l, ∀ w1, Below w0.heap.size w0 w1 → Calls Tryz.prog 141 #[.agg x.cells, .pointer (some ⟨gf, 0, none⟩)] w1 fun e w' => e = .returned (.bool (p x)) ∧ Below w1.heap.size w1 w') (hw : Below w0.heap.size w0 w) (hO : IC w g cap l) :
    Calls Tryz.prog 24 #[.slice (some ⟨g, 0, none⟩) l.length cap, .func (.func 141) #[] #[.pointer (some ⟨gf, 0, none⟩)]] w
      fun e w' => e = .returned (.slice (some ⟨g, 0, none⟩) (l.filter (fun x => !p x)).length cap) ∧ IC w' g cap (l.filter (fun x => !p x)) ∧ Below w0.heap.size w0 w' := by
  have hir := info_item
  have HC := Lib.hid (indexW_any (fun w1 => Below w0.heap.size w0 w1) (fun w1 w2 h k => below_then h k) p l (some ⟨g, 0, none⟩) cap gf w (by omega) hP hw hO.itms)
  have HP := Lib.hid hP
  have HW := Lib.hid hw
  have HO := Lib.hid hO
  have HG := Lib.hid hg
  obtain ⟨q, hq⟩ : ∃ q : Itm → Bool, q = fun x => !p x := ⟨_, rfl⟩
  have HQ := Lib.hid hq
  rw [← hq]
  have HN := Lib.hid (filter_none p l)
  rw [← hq] at HN
  clear hP hw hO hg hq
  go_enter Tryz.func24, Tryz.ntmps24
  go_wp2_with fail
  refine HC.out.mono ?_; rintro e w1 ⟨hb1, hcase⟩
  have HB1 := Lib.hid (below_then HW.out hb1)
  have HO1 := Lib.hid (HO.out.below hb1)
  clear hb1 HC
  rcases hcase with ⟨rfl, hno⟩ | ⟨k, hk, rfl, hpk, hbef⟩
  · have HE := Lib.hid (HN.out hno)
    clear hno
    go_wp2_with fail
    go_ret
    rw [HE.out]
    exact ⟨rfl, HO1.out, HB1.out⟩
  · have HS : Hid (∃ (i j : Nat) (dk : List Itm), Value.int .i64 (k : Nat) = .int .i64 (i : Nat) ∧ Value.int .i64 ((k : Int) + 1) = .int .i64 (j : Nat) ∧ j ≤ l.length ∧ i < j ∧ Hid (dk.length = l.length) ∧ Hid (dk.take i = (l.take j).filter q) ∧ Hid (∀ t, j ≤ t → dk[t]? = l[t]?) ∧ Hid (IC w1 g cap dk) ∧ Hid (Below w0.heap.size w0 w1)) :=
      ⟨k, k + 1, l, rfl, by go_num, by omega, by omega, rfl, by
        show l.take k = _
        rw [filter_snoc q l k hk, HQ.out]
        simp only [hpk, Bool.not_true, Bool.false_eq_true, if_false, List.append_nil]
        exact (filter_none p (l.take k) hbef).symm, fun t _ => rfl, HO1, HB1⟩
    have hne : ((k : Int) == -1) = false := beq_eq_false_iff_ne.2 (by omega)
    have hk62 : (k : Int) + 1 < 9223372036854775807 := by omega
    clear hpk hbef HN HO1 HB1 HO HW
    go_wp2_with fail
    go_loopw [5, 6, 7] (fun v5 v6 _ wr => ∃ (i j : Nat) (dk : List Itm), v5 = .int .i64 (i : Nat) ∧ v6 = .int .i64 (j : Nat) ∧ j ≤ l.length ∧ i < j ∧ Hid (dk.length = l.length) ∧ Hid (dk.take i = (l.take j).filter q) ∧ Hid (∀ t, j ≤ t → dk[t]? = l[t]?) ∧ Hid (IC wr g cap dk) ∧ Hid (Below w0.heap.size w0 wr)) (fun _ v _ _ => l.length - (intOf v).toNat)
    case atStart => exact HS.out
    case round =>
      clear HS hne hk62
      obtain ⟨i, j, dk, rfl, rfl, hj, hij, HL, HT, HR, HI, HB⟩ := hrel
      by_cases hlt : j < l.length
      · have hd : decide ((j : Int) < (l.length : Int)) = true := decide_eq_true (by omega)
        have hjx : dk[j]? = some l[j] := (HR.out j (Nat.le_refl _)).trans (List.getElem?_eq_getElem hlt)
        have hr := (HI.out.1.2 j l[j] hjx).1
        have c0 := hr 0 _ rfl
        have c1 := hr 1 _ rfl
        have c2 := hr 2 _ rfl
        have c3 := hr 3 _ rfl
        have c4 := hr 4 _ rfl
        have c5 := hr 5 _ rfl
        have c6 := hr 6 _ rfl
        have c7 := hr 7 _ rfl
        rw [Nat.add_zero] at c0
        have hbx := below_al wr (.cells l[j].cells 33)
        have hx0 := heap_alloc_new wr (.cells l[j].cells 33)
        have HBX := Lib.hid (HB.out.alloc HB.out.size (.cells l[j].cells 33))
        have HCL := Lib.hid (HP.out l[j] (List.getElem_mem hlt) _ HBX.out)
        have HIX := Lib.hid (HI.out.below hbx)
        have HF := Lib.hid (filter_snoc q l j hlt)
        have HX := Lib.hid hx0
        have HQx : Hid (q l[j] = !p l[j]) := by show q l[j] = _; rw [HQ.out]
        have hi62 : (i : Int) + 1 < 9223372036854775807 := by omega
        have hj62 : (j : Int) + 1 < 9223372036854775807 := by omega
        generalize hp : p l[j] = pv at *
        have HIN : Hid (i < dk.length) := by show _ < _; rw [HL.out]; omega
        clear hjx hr hbx hx0 hp
        simp only [Itm.cells] at HCL HX HBX HIX
        have HLX : Hid (q l[j] = !pv) := HQx
        generalize hxx : l[j] = x at *
        have HXX := Lib.hid hxx
        clear hxx HQx
        obtain ⟨x0, x1, x2, x3, x4, x5, x6, x7⟩ := x
        dsimp only at c0 c1 c2 c3 c4 c5 c6 c7 HCL HX HBX HIX
        go_upto_region 8 with fail
        generalize hgp : wr.heap.size = gp at *
        generalize wr.alloc (.cells #[.string x0, .int .i64 x1, .int .u32 x2, .int .u32 x3, .int .u32 x4, .int .i64 x5, .int .i64 x6, .string x7] 33) = wx at *
        go_wp2_with (refine wpList_load_row rfl 33 (.tmp 7) rfl gp rfl 33 _ (0, 0) _ HX.out Tryz.underlying33 rfl info_item ?_)
        refine HCL.out.mono ?_; rintro e w5 ⟨rfl, hb5⟩
        have HB5 := Lib.hid (below_then HBX.out hb5)
        have HI5 := Lib.hid (HIX.out.below hb5)
        have HX5 := Lib.hid ((hb5.block gp (lt_of_block HX.out)).trans HX.out)
        clear hb5 HCL HX HIX HBX HI c0 c1 c2 c3 c4 c5 c6 c7 hgp
        cases pv with
        | true =>
          have HT2 : Hid (dk.take i = (l.take (j + 1)).filter q) := by
            show _ = _
            have h := HF.out
            rw [HLX.out] at h
            rw [h, HT.out]
            simp
          have HR2 : Hid (∀ t, j + 1 ≤ t → dk[t]? = l[t]?) := fun t ht => HR.out t (by omega)
          clear HT HR HF HLX HXX
          go_wp2_with fail
          go_roundw
          case rel => exact ⟨i, j + 1, dk, rfl, by go_num, by omega, by omega, HL, HT2, HR2, HI5, HB5⟩
          case measure => simp [intOf]; omega
        | false =>
          have hth := (HI5.out.1.2 i dk[i] (List.getElem?_eq_getElem HIN.out)).2
          have HTH := Lib.hid hth
          obtain ⟨y, hy⟩ : ∃ y : Itm, y = ⟨x0, x1, x2, x3, x4, x5, x6, x7⟩ := ⟨_, rfl⟩
          have HI6 := Lib.hid (HI5.out.store i y HIN.out)
          have HB6 := Lib.hid (below_setCells' HG.out y.cellsL (i * 8) w5 HB5.out)
          have HT2 : Hid ((dk.set i y).take (i + 1) = (l.take (j + 1)).filter q) := by
            show _ = _
            have h := HF.out
            rw [HLX.out] at h
            rw [h, ← HT.out, List.take_succ_eq_append_getElem (by rw [List.length_set]; exact HIN.out), List.take_set_of_le (Nat.le_refl _), List.getElem_set_self, hy]
            simp
          have HR2 : Hid (∀ t, j + 1 ≤ t → (dk.set i y)[t]? = l[t]?) := fun t ht => by
            rw [List.getElem?_set_ne (by omega)]
            exact HR.out t (by omega)
          have HL2 : Hid ((dk.set i y).length = l.length) := by show _ = _; rw [List.length_set]; exact HL.out
          have hyl : y.cellsL = (#[.string x0, .int .i64 x1, .int .u32 x2, .int .u32 x3, .int .u32 x4, .int .i64 x5, .int .i64 x6, .string x7] : Array Value).toList := by rw [hy]; rfl
          rw [hyl] at HI6 HB6
          clear HT HR HF HLX HXX hth hyl hy HI5 HB5
          have hin : i < l.length := by omega
          go_wp2_with (first | refine wpList_load_row rfl 33 (.tmp 7) rfl gp rfl 33 _ (0, 0) _ HX5.out Tryz.underlying33 rfl info_item ?_ | refine wpList_store_mid rfl 33 (.tmp 33) (.tmp 32) rfl g (i * 8) _ rfl rfl HTH.out info_item (by simp [Value.oneCell']) ?_; generalize w5.setCells g (i * 8) _ = w6 at *)
          go_roundw
          case rel => exact ⟨i + 1, j + 1, dk.set i y, by go_num, by go_num, by omega, by omega, HL2, HT2, HR2, HI6, HB6⟩
          case measure => simp [intOf]; omega
      · obtain rfl : j = l.length := by omega
        have hd : decide ((l.length : Int) < (l.length : Int)) = false := decide_eq_false (by omega)
        have hIl := HI.out
        obtain ⟨zs, hz⟩ := run_clear_items HI.out.1 i (cap - i) (by rw [HL.out]; omega) 0
        rw [HL.out] at hz
        have hin : i < l.length := hij
        have hHE : (l.filter q).length = i ∧ l.filter q = dk.take i := by
          have h := HT.out
          rw [List.take_length] at h
          rw [← h]
          exact ⟨by rw [List.length_take, HL.out]; omega, rfl⟩
        have HE := Lib.hid hHE
        have HIO : Hid (IC (wr.setCells g (i * 8) zs) g cap (dk.take i)) := by
          refine ⟨?_, hIl.2.store _ _ _⟩
          refine ⟨by rw [size_setCells]; exact hIl.1.1, fun t x hx => ?_⟩
          have ht : t < i := by have := (List.getElem?_eq_some_iff.1 hx).1; rw [List.length_take] at this; omega
          rw [List.getElem?_take, if_pos ht] at hx
          have h2 := hIl.1.2 t x hx
          have e2 : x.cellsL.length = 8 := rfl
          exact ⟨World.rangeAt_setCells_apart h2.1 _ _ _ (by rw [e2]; omega), World.there_setCells h2.2 _ _ _⟩
        have HBZ := Lib.hid (below_setCells' HG.out zs (i * 8) wr HB.out)
        clear hIl hHE HT HR HL HI HB
        go_upto_region 11 with fail
        go_wp2_with fail
        generalize wr.setCells g (i * 8) zs = w6 at *
        go_ret
        rw [HE.out.2]
        refine ⟨?_, HIO.out, HBZ.out⟩
        rw [← HE.out.2, HE.out.1]
        rfl
end Go.Proofs.YtpkhpaklhfomkaaGreatDoor
