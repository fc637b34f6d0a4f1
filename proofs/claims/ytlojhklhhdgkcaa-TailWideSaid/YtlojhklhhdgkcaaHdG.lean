/-
  Contracts (over header): the Builder's copyCheck, Len, WriteString, String.
-/
import Derived.Test.YtlojhklhhdgkcaaHdF
import Derived.Test.YtlojhklhhdgkcaaShelf
import Derived.Lib.OthersKept
import Derived.Lib.AppendStr
namespace Go.Proofs.Ytlojhklhhdgkcaa
set_option maxRecDepth 100000
open Go.RowKit Go.Deep Go.Joins Go.Lib

/-- A Builder in block b, so many bytes in it. -/
def Bd (w : World) (B b : Nat) (l : List Nat) : Prop :=
  B ≤ b ∧ ∃ p v, w.heap[b]? = some (.cells #[p, v] 67 (0, 0)) ∧ (p = .pointer none ∨ p = .pointer (some ⟨b, 0, none⟩)) ∧ w.ownsRow B 5 1 v l.length (cells8 l) ∧ v.ownBlock ≠ some b
theorem info_bd : (Try.prog.info? 67).map (·.size) = some 2 := by kernel_rfl
theorem lies_bd : liesAt Try.prog Try.prog.depth 67 (2 / Try.prog.cellsOf 67) 0 67 1 = true := by kernel_rfl
theorem copyCheck_any (B b : Nat) (p v : Value) (l : List Nat) (w : World) (hB : B ≤ b) (hb : w.heap[b]? = some (.cells #[p, v] 67 (0, 0))) (hp : p = .pointer none ∨ p = .pointer (some ⟨b, 0, none⟩)) (ho : w.ownsRow B 5 1 v l.length (cells8 l)) (hne : v.ownBlock ≠ some b) :
    Calls Try.prog 40 #[.pointer (some ⟨b, 0, none⟩)] w fun e w' => e = .returned (.tuple #[]) ∧ w'.heap[b]? = some (.cells #[.pointer (some ⟨b, 0, none⟩), v] 67 (0, 0)) ∧ w'.ownsRow B 5 1 v l.length (cells8 l) ∧ Below B w w' ∧ (∀ k, k ≠ b → w'.heap[k]? = w.heap[k]?) := by
  obtain ⟨j, hj, hjs⟩ := Option.map_eq_some_iff.1 info_bd
  have c0 : w.cell? ⟨b, 0, none⟩ = some p := by rw [Lib.cell_of_heap hb]; rfl
  rcases hp with rfl | rfl
  · have hbd : BuilderAt 67 5 B b (.pointer none) (cells8 l) w := ⟨hB, v, hb, by rw [show (cells8 l).length = l.length by simp [cells8]]; exact ho, hne⟩
    have hsh := hbd.shape
    have hfz := hbd.frozen0
    have HBD := Lib.hid hbd
    have HHB := Lib.hid hb
    clear hb ho hne hbd
    go_enter Try.func40, Try.ntmps40
    go_wp2
    rw [Lib.run_to_unsafe w ⟨b, 0, none⟩ Try.underlying65 Try.underlying81 hj (by rw [hjs]; decide) hsh (Nat.zero_lt_succ 1)]
    simp only [Result.andThen]
    rw [Oper.upon_value]
    go_wp2
    rw [run_callFunc_extern Try.func41 (by kernel_rfl) (by kernel_rfl) (by kernel_rfl) (e := Extern.AbiNoEscape.same) (by kernel_rfl)]
    rw [Lib.run_noEscape]
    simp only [Result.andThen]
    rw [Oper.upon_value]
    go_wp2
    rw [Lib.run_from_unsafe w ⟨b, 0, none⟩ Try.underlying81 Try.underlying65 hj hsh lies_bd]
    simp only [Result.andThen]
    rw [Oper.upon_value]
    go_wp2
    go_end0
    have hu := HBD.out.used (.pointer (some ⟨b, 0, none⟩))
    refine ⟨rfl, ?_, ?_, (Below.refl _ _).setCell hB _, fun k hk => Below.heap_setCell w _ _ k hk⟩
    · rw [Go.heap_setCell_same w b 0 _ _ _ HHB.out]
      rfl
    · obtain ⟨_, v', hv', ho', _⟩ := hu
      have e : v' = v := by
        rw [Go.heap_setCell_same w b 0 _ _ _ HHB.out] at hv'
        have := Option.some.inj hv'
        injection this with h1
        simp at h1
        exact h1.symm
      subst e
      rw [show (cells8 l).length = l.length by simp [cells8]] at ho'
      exact ho'
  · have HHB := Lib.hid hb
    have HO := Lib.hid ho
    clear hb ho hne
    go_enter Try.func40, Try.ntmps40
    go_wp2
    rw [Lib.run_neq_ptr_same w _ Try.underlying65 hj]
    go_wp2
    go_end0
    exact ⟨rfl, HHB.out, HO.out, Below.refl _ _, fun _ _ => rfl⟩

theorem row_keptE {w w' : World} {B n size : Nat} {e : TypeId} {v : Value} {l : List Value} (ho : w.ownsRow B e size v n l) (hk : ∀ g, v.ownBlock = some g → w'.heap[g]? = w.heap[g]?) : w'.ownsRow B e size v n l := by
  refine ⟨ho.1, ?_⟩
  rcases ho.2 with ⟨rfl, h⟩ | ⟨g, cap, cur, rfl, hg, hb, h⟩
  · exact .inl ⟨rfl, h⟩
  · exact .inr ⟨g, cap, cur, rfl, hg, (hk g rfl).trans hb, h⟩
theorem lt_of_heapE {w : World} {g : Nat} {o : Obj} (h : w.heap[g]? = some o) : g < w.heap.size := by
  rcases Nat.lt_or_ge g w.heap.size with hlt | hge
  · exact hlt
  · rw [Array.getElem?_eq_none hge] at h; cases h
theorem row_of {w : World} {B n : Nat} {e : TypeId} {z : Nat} {v : Value} {l : List Value} (h : w.ownsRow B e z v n l) : ∃ A c, v = .slice A n c := by
  rcases h.2 with ⟨rfl, rfl⟩ | ⟨g, cap, cur, rfl, _⟩
  · exact ⟨_, _, rfl⟩
  · exact ⟨_, _, rfl⟩
theorem Bd.below {w w' : World} {B b : Nat} {l : List Nat} (h : Bd w B b l) (hb : Below w.heap.size w w') : Bd w' B b l := by
  obtain ⟨hB, p, v, hh, hp, ho, hne⟩ := h
  exact ⟨hB, p, v, (hb.block b (lt_of_heapE hh)).trans hh, hp, row_keptE ho (fun g hg => hb.block g (ho.lt g hg).2), hne⟩
theorem Bd.lt {w : World} {B b : Nat} {l : List Nat} (h : Bd w B b l) : b < w.heap.size := by
  obtain ⟨_, p, v, hh, _⟩ := h
  exact lt_of_heapE hh
theorem strCells_nums (s : ByteArray) : Lib.strCells s = cells8 (nums s) := by
  unfold Lib.strCells cells8 nums
  rw [List.map_map]
  rfl
set_option maxHeartbeats 4000000 in
theorem writeString_any (B b : Nat) (s : ByteArray) (l : List Nat) (w : World) (hs : s.size ≤ 1000000) (hl : l.length ≤ 1000000) (hBw : B ≤ w.heap.size) (h : Bd w B b l) :
    Calls Try.prog 33 #[.pointer (some ⟨b, 0, none⟩), .string s] w fun e w' => e = .returned (.tuple #[.int .i64 (s.size : Nat), .nilIface]) ∧ Bd w' B b (l ++ nums s) ∧ Below B w w' ∧ (∀ k c T fz, w.heap[k]? = some (.cells c T fz) → T ≠ 5 → k ≠ b → w'.heap[k]? = some (.cells c T fz)) := by
  obtain ⟨hB, p, v, hb, hp, ho, hne⟩ := h
  obtain ⟨i0, hi, hz0, hz1, hz2⟩ := info_parts info8
  have HCK := Lib.hid (copyCheck_any B b p v l w hB hb hp ho hne)
  have HNE := Lib.hid hne
  clear hb hp ho hne
  go_enter Try.func33, Try.ntmps33
  go_wp2_with fail
  refine (HCK.out).mono ?_
  rintro e w1 ⟨rfl, hb1, ho1, hbw, hk1⟩
  have c1 : w1.cell? ⟨b, 1, none⟩ = some v := by rw [Lib.cell_of_heap hb1]; rfl
  have HB1 := Lib.hid hb1
  have HO1 := Lib.hid ho1
  have HBW := Lib.hid hbw
  have HK1 := Lib.hid hk1
  have HS1 : Hid (B ≤ w1.heap.size) := Nat.le_trans hBw hbw.size
  clear hb1 hbw hk1
  obtain ⟨A, cp, rfl⟩ := row_of ho1
  clear ho1
  go_wp2_with (at_builtin; refine Lib.wpList_append_own_string _ rfl (.tmp 12) (.tmp 13) 33 9 rfl B 5 i0 Try.underlying33 Try.underlying9 hi hz0 hz1 hz2 _ l.length (cells8 l) rfl HO1.out s rfl ?c3 ?c4 ?c5 ?_)
  case c3 => unfold maxLen; omega
  case c4 => omega
  case c5 => exact HS1.out
  intro v2 w2 hown hgrow hat
  have hown2 : w2.ownsRow B 5 1 v2 (l ++ nums s).length (cells8 (l ++ nums s)) := by
    rw [List.length_append, cells8_app, nums_len, ← strCells_nums]
    exact hown
  have h2 : w2.heap[b]? = some (.cells #[.pointer (some ⟨b, 0, none⟩), .slice A l.length cp] 67 (0, 0)) := by
    rw [hgrow.block b (lt_of_heapE HB1.out) (fun e => HNE.out e.symm)]
    exact HB1.out
  have hne2 : v2.ownBlock ≠ some b := Lib.ownBlock_ne hown2 h2 (by decide)
  have d1 : w2.cell? ⟨b, 1, none⟩ = some (.slice A l.length cp) := by rw [Lib.cell_of_heap h2]; rfl
  have df : w2.frozen? ⟨b, 1, none⟩ = false := Lib.frozen_of_heap h2 1
  have H3 : Hid (Bd (w2.setCell ⟨b, 1, none⟩ v2) B b (l ++ nums s)) := by
    refine ⟨hB, .pointer (some ⟨b, 0, none⟩), v2, ?_, .inr rfl, ?_, hne2⟩
    · rw [Go.heap_setCell_same w2 b 1 _ _ _ h2]
      rfl
    · have h3 : (w2.setCell ⟨b, 1, none⟩ v2).ownsRow B 5 1 v2 (l ++ nums s).length (cells8 (l ++ nums s)) := hown2.kept (row := some b) ⟨rfl, rfl, rfl, by simp, fun i _ hi => Below.heap_setCell w2 _ _ i (fun e => hi (by rw [e]))⟩ (.inr hne2)
      exact h3
  have H4 := Lib.hid ((HBW.out.grown hgrow HS1.out (fun g hg => (HO1.out.lt g hg).1)).setCell (p := ⟨b, 1, none⟩) hB v2)
  have H5 : Hid (∀ k c T fz, w.heap[k]? = some (.cells c T fz) → T ≠ 5 → k ≠ b → (w2.setCell ⟨b, 1, none⟩ v2).heap[k]? = some (.cells c T fz)) := by
    intro k c T fz hk hT hkb
    have e1 := (HK1.out k hkb).trans hk
    rw [Below.heap_setCell w2 _ _ k hkb, hgrow.block k (lt_of_heapE e1) (fun e => ?_)]
    · exact e1
    · obtain ⟨c', fz', h'⟩ := Lib.ownsRowF_kind (World.ownsRowF_of HO1.out) k e.symm
      rw [e1] at h'
      injection h' with h'
      injection h' with _ h2 _
      exact hT h2
  obtain ⟨A2, cp2, rfl⟩ := row_of hown2
  have hnl : Hid ((l ++ nums s).length = l.length + (nums s).length) := by show _ = _; rw [List.length_append]
  rw [hnl.out] at H3 H4 H5
  clear hown hown2 hgrow hat h2 hne2
  go_wp2_with fail
  go_ret2
  exact ⟨rfl, H3.out, H4.out, H5.out⟩
theorem bdString_any (B b : Nat) (l : List Nat) (w : World) (hl : ∀ x ∈ l, x < 256) (hBw : B ≤ w.heap.size) (h : Bd w B b l) :
    Calls Try.prog 34 #[.pointer (some ⟨b, 0, none⟩)] w fun e w' => e = .returned (.string (text l)) ∧ Below B w w' := by
  obtain ⟨hB, p, v, hb, hp, ho, hne⟩ := h
  have hc : Lib.byteCells (l.map UInt8.ofNat) = cells8 l := by
    unfold Lib.byteCells cells8
    rw [List.map_map]
    apply List.map_congr_left
    intro x hx
    show Value.int .u8 ((UInt8.ofNat x).toNat : Int) = _
    rw [UInt8.toNat_ofNat_of_lt' (hl x hx)]
  have hib : Lib.IsBuilder 67 5 B b (Lib.byteCells (l.map UInt8.ofNat)) w := by
    rw [hc]
    have hq : BuilderAt 67 5 B b p (cells8 l) w := ⟨hB, v, hb, by rw [show (cells8 l).length = l.length by simp [cells8]]; exact ho, hne⟩
    rcases hp with rfl | rfl
    · exact .inl hq
    · exact .inr hq
  exact sh_Builder_String_any B b (l.map UInt8.ofNat) w hib hBw
theorem zero_bdE : ∀ w : World, (zeroValue 67).run Try.prog w = .ok (.agg #[.pointer none, .slice none 0 0]) w := fun _ => by kernel_rfl
theorem bd_freshE (w : World) : Bd (w.alloc (.cells #[.pointer none, .slice none 0 0] 67)) w.heap.size w.heap.size [] :=
  ⟨Nat.le_refl _, .pointer none, .slice none 0 0, heap_alloc_new w _, .inl rfl, World.ownsRow_nil _ _ _ _, by simp [Value.ownBlock]⟩
end Go.Proofs.Ytlojhklhhdgkcaa
