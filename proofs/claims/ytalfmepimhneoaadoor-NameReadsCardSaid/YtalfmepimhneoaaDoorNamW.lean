/-
  Contracts: the Builder's copyCheck, WriteByte, WriteRune.
-/
import Derived.Test.YtalfmepimhneoaaDoorNamV
import Derived.Test.YtalfmepimhneoaaDoorNamJ
import Derived.Maps.AppendAt
namespace Go.Proofs.YtalfmepimhneoaaDoor
set_option maxRecDepth 100000
open Go.RowKit Go.Deep Go.Joins Go.Lib

/-- A Builder in block b, so many bytes in it. -/
def Bd (w : World) (B b : Nat) (l : List Nat) : Prop :=
  B ≤ b ∧ ∃ p v, w.heap[b]? = some (.cells #[p, v] 64 (0, 0)) ∧ (p = .pointer none ∨ p = .pointer (some ⟨b, 0, none⟩)) ∧ w.ownsRow B 5 1 v l.length (cells8 l) ∧ v.ownBlock ≠ some b
/-- Iterators stay. -/
def Its (w w' : World) : Prop := ∀ (k : Nat) s pos, w.heap[k]? = some (.stringIter s pos) → w'.heap[k]? = some (.stringIter s pos)
theorem Its.refl (w : World) : Its w w := fun _ _ _ h => h
theorem Its.trans {a b c : World} (h : Its a b) (k : Its b c) : Its a c := fun i s p e => k i s p (h i s p e)
theorem info_bd : (Tryd.prog.info? 64).map (·.size) = some 2 := by kernel_rfl
theorem lies_bd : liesAt Tryd.prog Tryd.prog.depth 64 (2 / Tryd.prog.cellsOf 64) 0 64 1 = true := by kernel_rfl
theorem copyCheck_any (B b : Nat) (p v : Value) (l : List Nat) (w : World) (hB : B ≤ b) (hb : w.heap[b]? = some (.cells #[p, v] 64 (0, 0))) (hp : p = .pointer none ∨ p = .pointer (some ⟨b, 0, none⟩)) (ho : w.ownsRow B 5 1 v l.length (cells8 l)) (hne : v.ownBlock ≠ some b) :
    Calls Tryd.prog 75 #[.pointer (some ⟨b, 0, none⟩)] w fun e w' => e = .returned (.tuple #[]) ∧ w'.heap[b]? = some (.cells #[.pointer (some ⟨b, 0, none⟩), v] 64 (0, 0)) ∧ w'.ownsRow B 5 1 v l.length (cells8 l) ∧ Below B w w' ∧ (∀ k, k ≠ b → w'.heap[k]? = w.heap[k]?) := by
  obtain ⟨j, hj, hjs⟩ := Option.map_eq_some_iff.1 info_bd
  have c0 : w.cell? ⟨b, 0, none⟩ = some p := by rw [Lib.cell_of_heap hb]; rfl
  rcases hp with rfl | rfl
  · have hbd : BuilderAt 64 5 B b (.pointer none) (cells8 l) w := ⟨hB, v, hb, by rw [show (cells8 l).length = l.length by simp [cells8]]; exact ho, hne⟩
    have hsh := hbd.shape
    have hfz := hbd.frozen0
    have HBD := Lib.hid hbd
    have HHB := Lib.hid hb
    clear hb ho hne hbd
    go_enter Tryd.func75, Tryd.ntmps75
    go_wp2
    rw [Lib.run_to_unsafe w ⟨b, 0, none⟩ Tryd.underlying62 Tryd.underlying125 hj (by rw [hjs]; decide) hsh (Nat.zero_lt_succ 1)]
    simp only [Result.andThen]
    rw [Oper.upon_value]
    go_wp2
    rw [run_callFunc_extern Tryd.func95 (by kernel_rfl) (by kernel_rfl) (by kernel_rfl) (e := Extern.AbiNoEscape.same) (by kernel_rfl)]
    rw [Lib.run_noEscape]
    simp only [Result.andThen]
    rw [Oper.upon_value]
    go_wp2
    rw [Lib.run_from_unsafe w ⟨b, 0, none⟩ Tryd.underlying125 Tryd.underlying62 hj hsh lies_bd]
    simp only [Result.andThen]
    rw [Oper.upon_value]
    go_wp2
    go_end0
    have hu := HBD.out.used (.pointer (some ⟨b, 0, none⟩))
    refine ⟨rfl, ?_, ?_, (Below.refl _ _).setCell hB _, fun k hk => Below.heap_setCell w _ _ k hk⟩
    · rw [Go.heap_setCell_same w b 0 _ _ _ HHB.out]
      rfl
    · obtain ⟨_, v', hv', ho', _⟩ := hu
      have e : v' = v := by
        rw [Go.heap_setCell_same w b 0 _ _ _ HHB.out] at hv'
        have := Option.some.inj hv'
        injection this with h1
        simp at h1
        exact h1.symm
      subst e
      rw [show (cells8 l).length = l.length by simp [cells8]] at ho'
      exact ho'
  · have HHB := Lib.hid hb
    have HO := Lib.hid ho
    clear hb ho hne
    go_enter Tryd.func75, Tryd.ntmps75
    go_wp2
    rw [Lib.run_neq_ptr_same w _ Tryd.underlying62 hj]
    go_wp2
    go_end0
    exact ⟨rfl, HHB.out, HO.out, Below.refl _ _, fun _ _ => rfl⟩

theorem own_kind {w : World} {B n : Nat} {e : TypeId} {v : Value} {xs : List Value} (h : w.ownsRow B e 1 v n xs) : ∀ g, v.ownBlock = some g → ∃ c fz, w.heap[g]? = some (.cells c e fz) := Lib.ownsRowF_kind (World.ownsRowF_of h)
/-- What a write into a Builder leaves. -/
theorem bd_put {w w1 w2 : World} {B b : Nat} {v v2 : Value} {l m : List Nat} {o : Obj} (hB : B ≤ b) (_ : B ≤ w.heap.size) (hb0 : ∃ p, w.heap[b]? = some (.cells #[p, v] 64 (0, 0))) (ho0 : w.ownsRow B 5 1 v l.length (cells8 l)) (hb1 : w1.heap[b]? = some (.cells #[.pointer (some ⟨b, 0, none⟩), v] 64 (0, 0))) (hbw : Below B w w1) (hk : ∀ k, k ≠ b → w1.heap[k]? = w.heap[k]?) (hne : v.ownBlock ≠ some b)
    (ho2 : w2.ownsRow B 5 1 v2 m.length (cells8 m)) (hg : (w1.alloc o).grownBy w2 v.ownBlock) :
    w2.heap[b]? = some (.cells #[.pointer (some ⟨b, 0, none⟩), v] 64 (0, 0)) ∧ Bd (w2.setCell ⟨b, 1, none⟩ v2) B b m ∧ Below B w (w2.setCell ⟨b, 1, none⟩ v2) ∧ Its w (w2.setCell ⟨b, 1, none⟩ v2) := by
  have hbs : b < w1.heap.size := (Array.getElem?_eq_some_iff.1 hb1).1
  have h2 : w2.heap[b]? = some (.cells #[.pointer (some ⟨b, 0, none⟩), v] 64 (0, 0)) := by
    rw [hg.block b (by simp; omega) (fun e => hne e.symm), Below.heap_alloc w1 o b hbs]
    exact hb1
  have hne2 : v2.ownBlock ≠ some b := Lib.ownBlock_ne ho2 h2 (by decide)
  refine ⟨h2, ⟨hB, .pointer (some ⟨b, 0, none⟩), v2, ?_, .inr rfl, ?_, hne2⟩, ?_, ?_⟩
  · rw [Go.heap_setCell_same w2 b 1 _ _ _ h2]
    rfl
  · have h3 : (w2.setCell ⟨b, 1, none⟩ v2).ownsRow B 5 1 v2 m.length (cells8 m) := ho2.kept (row := some b) ⟨rfl, rfl, rfl, by simp, fun i _ hi => Below.heap_setCell w2 _ _ i (fun e => hi (by rw [e]))⟩ (.inr hne2)
    exact h3
  · exact (((hbw.trans ((Below.refl _ _).alloc (by have := hbw.size; omega) o)).grown hg (by have := hbw.size; simp; omega) (fun g hgo => (ho0.lt g hgo).1))).setCell hB _
  · intro k s pos hks
    have n1 : k ≠ b := by
      rintro rfl
      obtain ⟨p, hp⟩ := hb0
      rw [hp] at hks
      cases hks
    have n2 : v.ownBlock ≠ some k := fun e => by
      obtain ⟨c, fz, h⟩ := own_kind ho0 k e
      rw [h] at hks
      cases hks
    have hk1 : w1.heap[k]? = some (.stringIter s pos) := (hk k n1).trans hks
    have hkl : k < w1.heap.size := (Array.getElem?_eq_some_iff.1 hk1).1
    rw [Below.heap_setCell w2 _ _ k n1, hg.block k (by simp; omega) (fun e => n2 e.symm), Below.heap_alloc w1 o k hkl]
    exact hk1
set_option maxHeartbeats 4000000 in
theorem writeByte_any (B b c : Nat) (l : List Nat) (w : World) (_ : c < 256) (hl : l.length ≤ 1000000) (hBw : B ≤ w.heap.size) (h : Bd w B b l) :
    Calls Tryd.prog 50 #[.pointer (some ⟨b, 0, none⟩), .int .u8 (c : Nat)] w fun e w' => e = .returned .nilIface ∧ Bd w' B b (l ++ [c]) ∧ Below B w w' ∧ Its w w' := by
  obtain ⟨hB, p, v, hb, hp, ho, hne⟩ := h
  obtain ⟨i0, hi, hz0, hz1, hz2⟩ := info_parts info8
  have HCK := Lib.hid (copyCheck_any B b p v l w hB hb hp ho hne)
  have HB0 : Hid (∃ p, w.heap[b]? = some (.cells #[p, v] 64 (0, 0))) := ⟨p, hb⟩
  have HO := Lib.hid ho
  have HNE := Lib.hid hne
  clear hb hp ho hne
  go_enter Tryd.func50, Tryd.ntmps50
  go_wp2_with fail
  refine (HCK.out).mono ?_
  rintro e w1 ⟨rfl, hb1, ho1, hbw, hk1⟩
  have c1 : w1.cell? ⟨b, 1, none⟩ = some v := by rw [Lib.cell_of_heap hb1]; rfl
  have HB1 := Lib.hid hb1
  have HO1 := Lib.hid ho1
  have HBW := Lib.hid hbw
  have HK1 := Lib.hid hk1
  have HS1 : Hid (B ≤ w1.heap.size) := Nat.le_trans hBw hbw.size
  clear hb1 hbw hk1
  obtain ⟨A, cp, rfl⟩ := row_slice ho1
  clear ho1
  go_wp2_with (at_builtin; refine wpList_append_own_at _ rfl (.tmp 11) (.tmp 13) _ rfl B 5 i0 (.int .u8 0) 1 1 Tryd.underlying31 hi hz0 hz1 hz2 rfl (by decide) _ l.length (cells8 l) rfl (HO1.out.alloc _) ⟨w1.heap.size, 0, none⟩ 1 1 [.int .u8 (c : Nat)] rfl rfl ?c1 ?c2 ?c3 ?c4 ?c5 ?_)
  case c1 => exact cell_one_new _ _ _
  case c2 => intro u hu; simp at hu; subst hu; rfl
  case c3 => unfold maxLen; omega
  case c4 => omega
  case c5 => have := HS1.out; simp; omega
  intro v2 w2 hown hgrow _ hat
  have hown2 : w2.ownsRow B 5 1 v2 (l ++ [c]).length (cells8 (l ++ [c])) := by
    rw [List.length_append, cells8_app]
    exact hown
  obtain ⟨h2, h3, h4, h5⟩ := bd_put hB hBw HB0.out HO.out HB1.out HBW.out HK1.out HNE.out hown2 hgrow
  have d1 : w2.cell? ⟨b, 1, none⟩ = some (.slice A l.length cp) := by rw [Lib.cell_of_heap h2]; rfl
  have df : w2.frozen? ⟨b, 1, none⟩ = false := Lib.frozen_of_heap h2 1
  have H3 := Lib.hid h3
  have H4 := Lib.hid h4
  have H5 := Lib.hid h5
  have hnl : Hid ((l ++ [c]).length = l.length + 1) := by show _ = _; simp
  obtain ⟨A2, cp2, rfl⟩ := row_slice hown2
  rw [hnl.out] at H3 H4 H5
  clear hown hown2 hgrow hat h2 h3 h4 h5
  go_wp2_with fail
  go_ret
  exact ⟨rfl, H3.out, H4.out, H5.out⟩

/-- A rune's bytes. -/
def encN (r : Nat) : List Nat := (encodeRuneZ (r : Int)).map Int.toNat
theorem enc_cells (r : Nat) : runeCells (r : Int) = cells8 (encN r) := by
  unfold runeCells cells8 encN encodeRuneZ
  repeat' split
  all_goals simp only [List.map_cons, List.map_nil]
  all_goals congr 1
  all_goals first
    | rfl
    | (congr 1; omega)
    | (congr 1
       · congr 1; omega
       · congr 1
         · congr 1; omega
         · first | rfl | (congr 1; (first | rfl | (congr 1; omega))))
theorem enc_len (r : Nat) : (encN r).length ≤ 4 ∧ 1 ≤ (encN r).length := by
  unfold encN encodeRuneZ
  repeat' split
  all_goals simp
set_option maxHeartbeats 4000000 in
theorem writeRune_any (B b r : Nat) (l : List Nat) (w : World) (hr : r ≤ 2147483647) (hl : l.length ≤ 1000000) (hBw : B ≤ w.heap.size) (h : Bd w B b l) :
    Calls Tryd.prog 43 #[.pointer (some ⟨b, 0, none⟩), .int .i32 (r : Nat)] w fun e w' => (∃ x, e = .returned (.tuple #[.int .i64 x, .nilIface])) ∧ Bd w' B b (l ++ encN r) ∧ Below B w w' ∧ Its w w' := by
  obtain ⟨hB, p, v, hb, hp, ho, hne⟩ := h
  have HCK := Lib.hid (copyCheck_any B b p v l w hB hb hp ho hne)
  have HB0 : Hid (∃ p, w.heap[b]? = some (.cells #[p, v] 64 (0, 0))) := ⟨p, hb⟩
  have HO := Lib.hid ho
  have HNE := Lib.hid hne
  clear hb hp ho hne
  go_enter Tryd.func43, Tryd.ntmps43
  go_wp2_with fail
  refine (HCK.out).mono ?_
  rintro e w1 ⟨rfl, hb1, ho1, hbw, hk1⟩
  have c1 : w1.cell? ⟨b, 1, none⟩ = some v := by rw [Lib.cell_of_heap hb1]; rfl
  have HB1 := Lib.hid hb1
  have HO1 := Lib.hid ho1
  have HBW := Lib.hid hbw
  have HK1 := Lib.hid hk1
  have HS1 : Hid (B ≤ w1.heap.size) := Nat.le_trans hBw hbw.size
  clear hb1 hbw hk1
  obtain ⟨A, cp, rfl⟩ := row_slice ho1
  clear ho1
  go_wp2_with fail
  refine (sh_utf8_AppendRune_plain B _ l.length (cells8 l) (r : Int) (by omega) (by omega) w1 HO1.out (by omega) HS1.out).mono ?_
  rintro e w2 ⟨v2, rfl, hown, o, hgrow⟩
  have hown2 : w2.ownsRow B 5 1 v2 (l ++ encN r).length (cells8 (l ++ encN r)) := by
    rw [enc_cells] at hown
    rw [List.length_append, cells8_app]
    rw [show (cells8 (encN r)).length = (encN r).length by simp [cells8]] at hown
    exact hown
  obtain ⟨h2, h3, h4, h5⟩ := bd_put hB hBw HB0.out HO.out HB1.out HBW.out HK1.out HNE.out hown2 hgrow
  have hel := (enc_len r).1
  have hll : (l ++ encN r).length ≤ 1000004 := by rw [List.length_append]; omega
  generalize (l ++ encN r).length = nl at *
  obtain ⟨A2, cp2, rfl⟩ := row_slice hown2
  have d1 : w2.cell? ⟨b, 1, none⟩ = some (.slice A l.length cp) := by rw [Lib.cell_of_heap h2]; rfl
  have df : w2.frozen? ⟨b, 1, none⟩ = false := Lib.frozen_of_heap h2 1
  have d2 : (w2.setCell ⟨b, 1, none⟩ (.slice A2 nl cp2)).cell? ⟨b, 1, none⟩ = some (.slice A2 nl cp2) := World.cell?_setCell_same _ _ _ d1
  have H3 := Lib.hid h3
  have H4 := Lib.hid h4
  have H5 := Lib.hid h5
  clear hown hown2 hgrow h2 h3 h4 h5
  go_wp2_with fail
  go_ret2
  exact ⟨⟨_, rfl⟩, H3.out, H4.out, H5.out⟩
theorem bdString_any (B b : Nat) (l : List Nat) (w : World) (hl : ∀ x ∈ l, x < 256) (hBw : B ≤ w.heap.size) (h : Bd w B b l) :
    Calls Tryd.prog 45 #[.pointer (some ⟨b, 0, none⟩)] w fun e w' => e = .returned (.string (text l)) ∧ Below B w w' := by
  obtain ⟨hB, p, v, hb, hp, ho, hne⟩ := h
  have hc : Lib.byteCells (l.map UInt8.ofNat) = cells8 l := by
    unfold Lib.byteCells cells8
    rw [List.map_map]
    apply List.map_congr_left
    intro x hx
    show Value.int .u8 ((UInt8.ofNat x).toNat : Int) = _
    rw [UInt8.toNat_ofNat_of_lt' (hl x hx)]
  have hib : Lib.IsBuilder 64 5 B b (Lib.byteCells (l.map UInt8.ofNat)) w := by
    rw [hc]
    have hq : BuilderAt 64 5 B b p (cells8 l) w := ⟨hB, v, hb, by rw [show (cells8 l).length = l.length by simp [cells8]]; exact ho, hne⟩
    rcases hp with rfl | rfl
    · exact .inl hq
    · exact .inr hq
  exact sh_Builder_String_any B b (l.map UInt8.ofNat) w hib hBw
end Go.Proofs.YtalfmepimhneoaaDoor
