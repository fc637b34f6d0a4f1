/-
  Contracts: the Builder's copyCheck, WriteByte, WriteRune.
  Contracts: Decode, Encode.
  An entry's name as a text.
  An entry's path.
  The times that an entry's fields tell.
  Days, months and years by mathematics.
-/
import Derived.Test.YtijfcmlgohbndaaGreatDoorPkAI
import Derived.Test.YtijfcmlgohbndaaGreatDoorPkAJ
import Derived.Maps.AppendAt
import Derived.Test.YtijfcmlgohbndaaGreatDoorPkAE
import Derived.Test.YtijfcmlgohbndaaGreatDoorPkAF
import Derived.Test.YtijfcmlgohbndaaGreatDoorPkAA

namespace Go.Proofs.YtijfcmlgohbndaaGreatDoor
set_option maxRecDepth 100000
open Go.RowKit Go.Deep Go.Joins Go.Lib

/-- A Builder in block b, so many bytes in it. -/
def BdN (w : World) (B b : Nat) (l : List Nat) : Prop :=
  B ≤ b ∧ ∃ p v, w.heap[b]? = some (.cells #[p, v] 170 (0, 0)) ∧ (p = .pointer none ∨ p = .pointer (some ⟨b, 0, none⟩)) ∧ w.ownsRow B 5 1 v l.length (cells8 l) ∧ v.ownBlock ≠ some b
/-- Iterators stay. -/
def Its (w w' : World) : Prop := ∀ (k : Nat) s pos, w.heap[k]? = some (.stringIter s pos) → w'.heap[k]? = some (.stringIter s pos)
theorem Its.refl (w : World) : Its w w := fun _ _ _ h => h
theorem Its.trans {a b c : World} (h : Its a b) (k : Its b c) : Its a c := fun i s p e => k i s p (h i s p e)
theorem info_bdN : (Tryz.prog.info? 170).map (·.size) = some 2 := by kernel_rfl
theorem lies_bdN : liesAt Tryz.prog Tryz.prog.depth 170 (2 / Tryz.prog.cellsOf 170) 0 170 1 = true := by kernel_rfl
theorem copyCheck_anyN (B b : Nat) (p v : Value) (l : List Nat) (w : World) (hB : B ≤ b) (hb : w.heap[b]? = some (.cells #[p, v] 170 (0, 0))) (hp : p = .pointer none ∨ p = .pointer (some ⟨b, 0, none⟩)) (ho : w.ownsRow B 5 1 v l.length (cells8 l)) (hne : v.ownBlock ≠ some b) :
    Calls Tryz.prog 105 #[.pointer (some ⟨b, 0, none⟩)] w fun e w' => e = .returned (.tuple #[]) ∧ w'.heap[b]? = some (.cells #[.pointer (some ⟨b, 0, none⟩), v] 170 (0, 0)) ∧ w'.ownsRow B 5 1 v l.length (cells8 l) ∧ Below B w w' ∧ (∀ k, k ≠ b → w'.heap[k]? = w.heap[k]?) := by
  obtain ⟨j, hj, hjs⟩ := Option.map_eq_some_iff.1 info_bdN
  have c0 : w.cell? ⟨b, 0, none⟩ = some p := by rw [Lib.cell_of_heap hb]; rfl
  rcases hp with rfl | rfl
  · have hbd : BuilderAt 170 5 B b (.pointer none) (cells8 l) w := ⟨hB, v, hb, by rw [show (cells8 l).length = l.length by simp [cells8]]; exact ho, hne⟩
    have hsh := hbd.shape
    have hfz := hbd.frozen0
    have HBD := Lib.hid hbd
    have HHB := Lib.hid hb
    clear hb ho hne hbd
    go_enter Tryz.func105, Tryz.ntmps105
    go_wp2
    rw [Lib.run_to_unsafe w ⟨b, 0, none⟩ Tryz.underlying167 Tryz.underlying202 hj (by rw [hjs]; decide) hsh (Nat.zero_lt_succ 1)]
    simp only [Result.andThen]
    rw [Oper.upon_value]
    go_wp2
    rw [run_callFunc_extern Tryz.func121 (by kernel_rfl) (by kernel_rfl) (by kernel_rfl) (e := Extern.AbiNoEscape.same) (by kernel_rfl)]
    rw [Lib.run_noEscape]
    simp only [Result.andThen]
    rw [Oper.upon_value]
    go_wp2
    rw [Lib.run_from_unsafe w ⟨b, 0, none⟩ Tryz.underlying202 Tryz.underlying167 hj hsh lies_bdN]
    simp only [Result.andThen]
    rw [Oper.upon_value]
    go_wp2
    go_end0
    have hu := HBD.out.used (.pointer (some ⟨b, 0, none⟩))
    refine ⟨rfl, ?_, ?_, (Below.refl _ _).setCell hB _, fun k hk => Below.heap_setCell w _ _ k hk⟩
    · rw [Go.heap_setCell_same w b 0 _ _ _ HHB.out]
      rfl
    · obtain ⟨_, v', hv', ho', _⟩ := hu
      have e : v' = v := by
        rw [Go.heap_setCell_same w b 0 _ _ _ HHB.out] at hv'
        have := Option.some.inj hv'
        injection this with h1
        simp at h1
        exact h1.symm
      subst e
      rw [show (cells8 l).length = l.length by simp [cells8]] at ho'
      exact ho'
  · have HHB := Lib.hid hb
    have HO := Lib.hid ho
    clear hb ho hne
    go_enter Tryz.func105, Tryz.ntmps105
    go_wp2
    rw [Lib.run_neq_ptr_same w _ Tryz.underlying167 hj]
    go_wp2
    go_end0
    exact ⟨rfl, HHB.out, HO.out, Below.refl _ _, fun _ _ => rfl⟩

theorem own_kind {w : World} {B n : Nat} {e : TypeId} {v : Value} {xs : List Value} (h : w.ownsRow B e 1 v n xs) : ∀ g, v.ownBlock = some g → ∃ c fz, w.heap[g]? = some (.cells c e fz) := Lib.ownsRowF_kind (World.ownsRowF_of h)
/-- What a write into a Builder leaves. -/
theorem bd_put {w w1 w2 : World} {B b : Nat} {v v2 : Value} {l m : List Nat} {o : Obj} (hB : B ≤ b) (_ : B ≤ w.heap.size) (hb0 : ∃ p, w.heap[b]? = some (.cells #[p, v] 170 (0, 0))) (ho0 : w.ownsRow B 5 1 v l.length (cells8 l)) (hb1 : w1.heap[b]? = some (.cells #[.pointer (some ⟨b, 0, none⟩), v] 170 (0, 0))) (hbw : Below B w w1) (hk : ∀ k, k ≠ b → w1.heap[k]? = w.heap[k]?) (hne : v.ownBlock ≠ some b)
    (ho2 : w2.ownsRow B 5 1 v2 m.length (cells8 m)) (hg : (w1.alloc o).grownBy w2 v.ownBlock) :
    w2.heap[b]? = some (.cells #[.pointer (some ⟨b, 0, none⟩), v] 170 (0, 0)) ∧ BdN (w2.setCell ⟨b, 1, none⟩ v2) B b m ∧ Below B w (w2.setCell ⟨b, 1, none⟩ v2) ∧ Its w (w2.setCell ⟨b, 1, none⟩ v2) := by
  have hbs : b < w1.heap.size := (Array.getElem?_eq_some_iff.1 hb1).1
  have h2 : w2.heap[b]? = some (.cells #[.pointer (some ⟨b, 0, none⟩), v] 170 (0, 0)) := by
    rw [hg.block b (by simp; omega) (fun e => hne e.symm), Below.heap_alloc w1 o b hbs]
    exact hb1
  have hne2 : v2.ownBlock ≠ some b := Lib.ownBlock_ne ho2 h2 (by decide)
  refine ⟨h2, ⟨hB, .pointer (some ⟨b, 0, none⟩), v2, ?_, .inr rfl, ?_, hne2⟩, ?_, ?_⟩
  · rw [Go.heap_setCell_same w2 b 1 _ _ _ h2]
    rfl
  · have h3 : (w2.setCell ⟨b, 1, none⟩ v2).ownsRow B 5 1 v2 m.length (cells8 m) := ho2.kept (row := some b) ⟨rfl, rfl, rfl, by simp, fun i _ hi => Below.heap_setCell w2 _ _ i (fun e => hi (by rw [e]))⟩ (.inr hne2)
    exact h3
  · exact (((hbw.trans ((Below.refl _ _).alloc (by have := hbw.size; omega) o)).grown hg (by have := hbw.size; simp; omega) (fun g hgo => (ho0.lt g hgo).1))).setCell hB _
  · intro k s pos hks
    have n1 : k ≠ b := by
      rintro rfl
      obtain ⟨p, hp⟩ := hb0
      rw [hp] at hks
      cases hks
    have n2 : v.ownBlock ≠ some k := fun e => by
      obtain ⟨c, fz, h⟩ := own_kind ho0 k e
      rw [h] at hks
      cases hks
    have hk1 : w1.heap[k]? = some (.stringIter s pos) := (hk k n1).trans hks
    have hkl : k < w1.heap.size := (Array.getElem?_eq_some_iff.1 hk1).1
    rw [Below.heap_setCell w2 _ _ k n1, hg.block k (by simp; omega) (fun e => n2 e.symm), Below.heap_alloc w1 o k hkl]
    exact hk1
/-- A rune's bytes. -/
def encN (r : Nat) : List Nat := (encodeRuneZ (r : Int)).map Int.toNat
theorem enc_cells (r : Nat) : runeCells (r : Int) = cells8 (encN r) := by
  unfold runeCells cells8 encN encodeRuneZ
  repeat' split
  all_goals simp only [List.map_cons, List.map_nil]
  all_goals congr 1
  all_goals first
    | rfl
    | (congr 1; omega)
    | (congr 1
       · congr 1; omega
       · congr 1
         · congr 1; omega
         · first | rfl | (congr 1; (first | rfl | (congr 1; omega))))
theorem enc_len (r : Nat) : (encN r).length ≤ 4 ∧ 1 ≤ (encN r).length := by
  unfold encN encodeRuneZ
  repeat' split
  all_goals simp
set_option maxHeartbeats 4000000 in
theorem writeRune_any (B b r : Nat) (l : List Nat) (w : World) (hr : r ≤ 2147483647) (hl : l.length ≤ 1000000) (hBw : B ≤ w.heap.size) (h : BdN w B b l) :
    Calls Tryz.prog 82 #[.pointer (some ⟨b, 0, none⟩), .int .i32 (r : Nat)] w fun e w' => (∃ x, e = .returned (.tuple #[.int .i64 x, .nilIface])) ∧ BdN w' B b (l ++ encN r) ∧ Below B w w' ∧ Its w w' := by
  obtain ⟨hB, p, v, hb, hp, ho, hne⟩ := h
  have HCK := Lib.hid (copyCheck_anyN B b p v l w hB hb hp ho hne)
  have HB0 : Hid (∃ p, w.heap[b]? = some (.cells #[p, v] 170 (0, 0))) := ⟨p, hb⟩
  have HO := Lib.hid ho
  have HNE := Lib.hid hne
  clear hb hp ho hne
  go_enter Tryz.func82, Tryz.ntmps82
  go_wp2_with fail
  refine (HCK.out).mono ?_
  rintro e w1 ⟨rfl, hb1, ho1, hbw, hk1⟩
  have c1 : w1.cell? ⟨b, 1, none⟩ = some v := by rw [Lib.cell_of_heap hb1]; rfl
  have HB1 := Lib.hid hb1
  have HO1 := Lib.hid ho1
  have HBW := Lib.hid hbw
  have HK1 := Lib.hid hk1
  have HS1 : Hid (B ≤ w1.heap.size) := Nat.le_trans hBw hbw.size
  clear hb1 hbw hk1
  obtain ⟨A, cp, rfl⟩ := row_slice ho1
  clear ho1
  go_wp2_with fail
  refine (sh_utf8_AppendRune_plain B _ l.length (cells8 l) (r : Int) (by omega) (by omega) w1 HO1.out (by omega) HS1.out).mono ?_
  rintro e w2 ⟨v2, rfl, hown, o, hgrow⟩
  have hown2 : w2.ownsRow B 5 1 v2 (l ++ encN r).length (cells8 (l ++ encN r)) := by
    rw [enc_cells] at hown
    rw [List.length_append, cells8_app]
    rw [show (cells8 (encN r)).length = (encN r).length by simp [cells8]] at hown
    exact hown
  obtain ⟨h2, h3, h4, h5⟩ := bd_put hB hBw HB0.out HO.out HB1.out HBW.out HK1.out HNE.out hown2 hgrow
  have hel := (enc_len r).1
  have hll : (l ++ encN r).length ≤ 1000004 := by rw [List.length_append]; omega
  generalize (l ++ encN r).length = nl at *
  obtain ⟨A2, cp2, rfl⟩ := row_slice hown2
  have d1 : w2.cell? ⟨b, 1, none⟩ = some (.slice A l.length cp) := by rw [Lib.cell_of_heap h2]; rfl
  have df : w2.frozen? ⟨b, 1, none⟩ = false := Lib.frozen_of_heap h2 1
  have d2 : (w2.setCell ⟨b, 1, none⟩ (.slice A2 nl cp2)).cell? ⟨b, 1, none⟩ = some (.slice A2 nl cp2) := World.cell?_setCell_same _ _ _ d1
  have H3 := Lib.hid h3
  have H4 := Lib.hid h4
  have H5 := Lib.hid h5
  clear hown hown2 hgrow h2 h3 h4 h5
  go_wp2_with fail
  go_ret2
  exact ⟨⟨_, rfl⟩, H3.out, H4.out, H5.out⟩
theorem bdString_anyN (B b : Nat) (l : List Nat) (w : World) (hl : ∀ x ∈ l, x < 256) (hBw : B ≤ w.heap.size) (h : BdN w B b l) :
    Calls Tryz.prog 84 #[.pointer (some ⟨b, 0, none⟩)] w fun e w' => e = .returned (.string (text l)) ∧ Below B w w' := by
  obtain ⟨hB, p, v, hb, hp, ho, hne⟩ := h
  have hc : Lib.byteCells (l.map UInt8.ofNat) = cells8 l := by
    unfold Lib.byteCells cells8
    rw [List.map_map]
    apply List.map_congr_left
    intro x hx
    show Value.int .u8 ((UInt8.ofNat x).toNat : Int) = _
    rw [UInt8.toNat_ofNat_of_lt' (hl x hx)]
  have hib : Lib.IsBuilder 170 5 B b (Lib.byteCells (l.map UInt8.ofNat)) w := by
    rw [hc]
    have hq : BuilderAt 170 5 B b p (cells8 l) w := ⟨hB, v, hb, by rw [show (cells8 l).length = l.length by simp [cells8]]; exact ho, hne⟩
    rcases hp with rfl | rfl
    · exact .inl hq
    · exact .inr hq
  exact sh_Builder_String_any B b (l.map UInt8.ofNat) w hib hBw
end Go.Proofs.YtijfcmlgohbndaaGreatDoor

namespace Go.Proofs.YtijfcmlgohbndaaGreatDoor
set_option maxRecDepth 100000
open Go.RowKit Go.Deep Go.Joins Go.Lib

/-- A name's bytes by CP437 as a text's. -/
def decL (l : List Nat) : List Nat := l.flatMap fun b => encN (cpN b)
theorem decL_snoc (l : List Nat) (b : Nat) : decL (l ++ [b]) = decL l ++ encN (cpN b) := by simp [decL]
theorem decL_len (l : List Nat) : (decL l).length ≤ 4 * l.length := by
  induction l with
  | nil => simp [decL]
  | cons b r ih =>
    have := (enc_len (cpN b)).1
    simp only [decL, List.flatMap_cons, List.length_append, List.length_cons] at ih ⊢
    omega
theorem cpN_lt {b : Nat} (h : b < 256) : cpN b < 55296 := by
  unfold cpN
  split
  · omega
  · exact (cpL_facts _ (by omega)).2
theorem enc_lt (r : Nat) (hr : r ≤ 1114111) : ∀ x ∈ encN r, x < 256 := by
  unfold encN encodeRuneZ
  repeat' split
  all_goals
    intro x hx
    simp at hx
    omega
theorem decL_lt (s : ByteArray) : ∀ x ∈ decL (nums s), x < 256 := by
  intro x hx
  unfold decL at hx
  obtain ⟨b, hb, hx⟩ := List.mem_flatMap.1 hx
  exact enc_lt _ (by have := cpN_lt (nums_lt s b hb); omega) x hx
theorem zero_bd : ∀ w : World, (zeroValue 170).run Tryz.prog w = .ok (.agg #[.pointer none, .slice none 0 0]) w := fun _ => by kernel_rfl
theorem bd_fresh (w : World) : BdN (w.alloc (.cells #[.pointer none, .slice none 0 0] 170)) w.heap.size w.heap.size [] :=
  ⟨Nat.le_refl _, .pointer none, .slice none 0 0, heap_alloc_new w _, .inl rfl, World.ownsRow_nil _ _ _ _, by simp [Value.ownBlock]⟩
set_option maxHeartbeats 4000000 in
theorem decode_cp (s : ByteArray) (w : World) (hs : s.size ≤ 100000) (hU : Upper w) :
    Calls Tryz.prog 59 #[.string s, .bool false] w fun e w' => e = .returned (.tuple #[.string (text (decL (nums s))), .int .i64 0]) ∧ Below w.heap.size w w' := by
  have HU := Lib.hid hU
  have HRU := Lib.hid (fun b hb w h => runeOf_any b hb w h)
  have HWR := Lib.hid (fun B b r l w hr hl hBw h => writeRune_any B b r l w hr hl hBw h)
  have HF := Lib.hid (bd_fresh w)
  have hz := zero_bd
  clear hU
  go_enter Tryz.func59, Tryz.ntmps59
  go_wp2_with fail
  go_loopw [14] (fun i wr => ∃ k : Nat, k ≤ s.size ∧ i = .int .i64 (k : Nat) ∧ Hid (BdN wr w.heap.size w.heap.size (decL ((nums s).take k))) ∧ Hid (Below w.heap.size w wr) ∧ Hid (w.heap.size + 1 ≤ wr.heap.size)) (fun i _ => s.size - (intOf i).toNat)
  case atStart => exact ⟨0, Nat.zero_le _, rfl, HF.out, (Below.refl _ _).alloc (Nat.le_refl _) _, by show _ ≤ _; simp⟩
  case round =>
    obtain ⟨k, hk, rfl, HB, HW, HS⟩ := hrel
    by_cases hks : k < s.size
    · have hlt : s[k].toNat < 256 := s[k].toNat_lt
      have HSN : Hid (decL ((nums s).take (k + 1)) = decL ((nums s).take k) ++ encN (cpN s[k].toNat)) := by show _ = _; rw [nums_snoc s k hks, decL_snoc]
      have hdl : (decL ((nums s).take k)).length ≤ 1000000 := by
        have := decL_len ((nums s).take k)
        rw [List.length_take, nums_len] at this
        omega
      have hcp := cpN_lt hlt
      generalize decL ((nums s).take k) = d at *
      go_wp2_with fail
      refine (HRU.out _ hlt _ (HU.out.below HW.out)).mono ?_
      rintro e w1 ⟨rfl, rfl⟩
      generalize cpN s[k].toNat = r at *
      go_wp2_with fail
      refine (HWR.out w.heap.size w.heap.size r d _ (by omega) hdl HW.out.size HB.out).mono ?_
      rintro e w2 ⟨⟨x, rfl⟩, hbd, hbw, _⟩
      have HB2 : Hid (BdN w2 w.heap.size w.heap.size (decL ((nums s).take (k + 1)))) := by show BdN _ _ _ _; rw [HSN.out]; exact hbd
      have HW2 := Lib.hid (HW.out.trans hbw)
      have HS2 : Hid (w.heap.size + 1 ≤ w2.heap.size) := Nat.le_trans HS.out hbw.size
      clear hbd hbw
      go_wp2_with fail
      go_roundw
      case rel => exact ⟨k + 1, by omega, by go_num, HB2, HW2, HS2⟩
      case measure => simp [intOf]; omega
    · obtain rfl : k = s.size := by omega
      have hall : (nums s).take s.size = nums s := by rw [← nums_len]; exact List.take_length
      rw [hall] at HB
      have HST := Lib.hid (bdString_anyN w.heap.size w.heap.size (decL (nums s)) wr (decL_lt s) HW.out.size HB.out)
      go_wp2_with fail
      refine (HST.out).mono ?_
      rintro e w1 ⟨rfl, hbw⟩
      have HW2 := Lib.hid (HW.out.trans hbw)
      clear hbw
      go_wp2_with fail
      go_ret2
      exact ⟨rfl, HW2.out⟩
theorem decode_utf8N (s : ByteArray) (w : World) :
    Calls Tryz.prog 59 #[.string s, .bool true] w fun e w' => e = .returned (if straysB s = true then .tuple #[.string .empty, .int .i64 20] else .tuple #[.string s, .int .i64 0]) ∧ Below w.heap.size w w' := by
  have HS := Lib.hid (fun w => strays_any s w)
  cases hst : straysB s with
  | true =>
    rw [hst] at HS
    rw [if_pos rfl]
    go_enter Tryz.func59, Tryz.ntmps59
    go_wp2_with fail
    refine (HS.out _).mono ?_
    rintro e w1 ⟨rfl, hb⟩
    go_wp2_with fail
    go_ret2
    exact ⟨rfl, hb⟩
  | false =>
    rw [hst] at HS
    rw [if_neg (by decide)]
    go_enter Tryz.func59, Tryz.ntmps59
    go_wp2_with fail
    refine (HS.out _).mono ?_
    rintro e w1 ⟨rfl, hb⟩
    go_wp2_with fail
    go_ret2
    exact ⟨rfl, hb⟩
end Go.Proofs.YtijfcmlgohbndaaGreatDoor

namespace Go.Proofs.YtijfcmlgohbndaaGreatDoor
set_option maxRecDepth 100000
set_option linter.unusedSimpArgs false
set_option linter.unusedVariables false
open Go.RowKit Go.Joins Go.Deep
/-- Does an entry say that its name is UTF-8? -/
def utfB (E : Ent) : Bool := !(bits .and .u16 (E.flags : Int) 2048 == 0)
/-- A text, or an error. -/
def txU (s : ByteArray) : ByteArray × Int := if straysB s = true then (⟨#[]⟩, 20) else (s, 0)
def txC (s : ByteArray) : ByteArray × Int := (text (decL (nums s)), 0)
def txP (d s : ByteArray) : ByteArray × Int :=
  if ¬ (5 ≤ d.size ∧ (nums d).getD 0 0 = 1) then (⟨#[]⟩, 24)
  else if pthN d ≠ sum 0 s then txC s
  else if straysB (d.extract 5 d.size) = true then (⟨#[]⟩, 20) else (d.extract 5 d.size, 0)
def txtV (l : List Fd) (E : Ent) : ByteArray × Int :=
  if utfB E = true then txU E.nm else if fndB l 28789 = false then txC E.nm else txP (fndD l 28789) E.nm
theorem decU_form (s : ByteArray) : (if straysB s = true then (.tuple #[.string .empty, .int .i64 20] : Value) else .tuple #[.string s, .int .i64 0]) = .tuple #[.string (txU s).1, .int .i64 (txU s).2] := by
  unfold txU
  split <;> rfl
theorem pthR_cases (d s : ByteArray) : (∃ p z, pthR d s = .tuple #[.string p, .bool true, .int .i64 z] ∧ txP d s = (p, z)) ∨ (∃ p z, z ≠ 0 ∧ pthR d s = .tuple #[.string p, .bool false, .int .i64 z] ∧ txP d s = (p, z)) ∨ (pthR d s = .tuple #[.string ⟨#[]⟩, .bool false, .int .i64 0] ∧ txP d s = txC s) := by
  unfold pthR txP
  by_cases h1 : 5 ≤ d.size ∧ (nums d).getD 0 0 = 1
  · rw [if_neg (not_not_intro h1), if_neg (not_not_intro h1)]
    by_cases h2 : pthN d ≠ sum 0 s
    · rw [if_pos h2, if_pos h2]
      exact .inr (.inr ⟨rfl, rfl⟩)
    · rw [if_neg h2, if_neg h2]
      by_cases h3 : straysB (d.extract 5 d.size) = true
      · rw [if_pos h3, if_pos h3]
        exact .inr (.inl ⟨_, _, by decide, rfl, rfl⟩)
      · rw [if_neg h3, if_neg h3]
        exact .inl ⟨_, _, rfl, rfl⟩
  · rw [if_pos h1, if_pos h1]
    exact .inr (.inl ⟨_, _, by decide, rfl, rfl⟩)
set_option maxHeartbeats 8000000 in
theorem text_any (F : Array Value) (l1 l2 : List Fd) (E : Ent) (hnm : E.nm.size ≤ 100000) (h1 : l1.length ≤ 16384) (h2 : l2.length ≤ 16384) (w : World) (hU : Upper w) (hF : FsV w F l1 l2) (hD : (fndD (l1 ++ l2) 28789).size ≤ maxLen) :
    Calls Tryz.prog 36 #[.agg F, .agg E.cells] w fun e w' => e = .returned (.tuple #[.string (txtV (l1 ++ l2) E).1, .int .i64 (txtV (l1 ++ l2) E).2]) ∧ Below w.heap.size w w' := by
  have HFI := Lib.hid (fun id w1 (hb : Below w.heap.size w w1) => findE_any F l1 l2 id h1 h2 w1 (hF.below hb))
  have HUP := Lib.hid (fun w1 (hb : Below w.heap.size w w1) => hU.below hb)
  obtain ⟨A1, c1, A2, c2, rfl, hf1, hn1, hf2, hn2⟩ := hF
  obtain ⟨V, hV⟩ : ∃ V, V = txtV (l1 ++ l2) E := ⟨_, rfl⟩
  rw [← hV]
  have HDC := Lib.hid (fun w1 h => decode_cp E.nm w1 hnm h)
  have HDU := Lib.hid (fun w1 => by have h := decode_utf8N E.nm w1; rw [decU_form] at h; exact h)
  have HPP := Lib.hid (fun w1 => parsePath_any (fndD (l1 ++ l2) 28789) E.nm hD (by unfold maxLen; omega) w1)
  have HPC := Lib.hid (pthR_cases (fndD (l1 ++ l2) 28789) E.nm)
  unfold txtV utfB at hV
  have HV := Lib.hid hV
  clear hV
  generalize l1 ++ l2 = L at *
  generalize l1.length = n1 at *
  generalize l2.length = n2 at *
  clear hf1 hn1 hf2 hn2 hU
  obtain ⟨w1, hw1⟩ : ∃ w1, w1 = w.alloc (.cells #[.slice A1 n1 c1, .slice A2 n2 c2] 69) := ⟨_, rfl⟩
  obtain ⟨w2, hw2⟩ : ∃ w2, w2 = w1.alloc (.cells E.cells 51) := ⟨_, rfl⟩
  have hb1 : Below w.heap.size w w1 := by rw [hw1]; exact (Below.refl _ _).alloc (Nat.le_refl _) _
  have hb12 : Below w1.heap.size w1 w2 := by rw [hw2]; exact (Below.refl _ _).alloc (Nat.le_refl _) _
  have hsz : w1.heap.size = w.heap.size + 1 := by rw [hw1]; simp only [World.alloc, Array.size_push]
  have hx1 : w1.heap[w.heap.size]? = some (.cells #[.slice A1 n1 c1, .slice A2 n2 c2] 69 (0, 0)) := by rw [hw1]; exact heap_alloc_new w _
  have HX2 := Lib.hid ((hb12.block _ (lt_of_block hx1)).trans hx1)
  have HY2 : Hid (w2.heap[w.heap.size + 1]? = some (.cells E.cells 51 (0, 0))) := by show _ = _; rw [hw2, ← hsz]; exact heap_alloc_new w1 _
  have HB2 := Lib.hid (below_then hb1 hb12)
  rw [hw1] at hw2
  simp only [Ent.cells] at hw2 HY2 ⊢
  have HW2 := Lib.hid hw2
  clear hw1 hw2 hb1 hb12 hsz hx1
  go_enter Tryz.func36, Tryz.ntmps36
  go_upto_region 1 with fail
  rw [← HW2.out]
  clear HW2
  go_wp2_with (refine wpList_load_row rfl 69 (.tmp 2) rfl w.heap.size rfl 69 _ (0, 0) _ HX2.out Tryz.underlying69 rfl info_fields ?_)
  refine (HFI.out _ w2 HB2.out).mono ?_; rintro e w3 ⟨rfl, hb3⟩
  have hy3 := (hb3.block _ (lt_of_block HY2.out)).trans HY2.out
  have HY3 := Lib.hid hy3
  have HB3 := Lib.hid (below_then HB2.out hb3)
  have HU3 := Lib.hid (HUP.out w3 HB3.out)
  have y0 : w3.cell? ⟨w.heap.size + 1, 0, none⟩ = some (.string E.nm) := cell_of_row _ _ 0 _ _ _ hy3
  have y3 : w3.cell? ⟨w.heap.size + 1, 3, none⟩ = some (.int .u16 (E.flags : Nat)) := cell_of_row _ _ 3 _ _ _ hy3
  clear hb3 HX2 HY2 HB2 HFI HUP hy3
  generalize fndB L 28789 = B at *
  by_cases hz : bits .and .u16 (E.flags : Int) 2048 = 0
  · have bz : (bits .and .u16 (E.flags : Int) 2048 != 0) = false := by rw [hz]; rfl
    have HZ := Lib.hid hz
    clear hz
    cases B with
    | false =>
      have HVV : Hid (V = txC E.nm) := by show _ = _; rw [HV.out, HZ.out]; rfl
      clear HV HPP HPC HDU
      go_wp2_with fail
      refine (HDC.out _ HU3.out).mono ?_; rintro e w4 ⟨rfl, hb4⟩
      have HB4 := Lib.hid (below_then HB3.out hb4)
      clear HDC hb4 HB3 HY3 y0 y3
      go_wp2_with fail
      go_ret2
      rw [HVV.out]
      exact ⟨rfl, HB4.out⟩
    | true =>
      have HVV : Hid (V = txP (fndD L 28789) E.nm) := by show _ = _; rw [HV.out, HZ.out]; rfl
      clear HV HDU
      generalize fndD L 28789 = D at *
      go_wp2_with fail
      refine (HPP.out _).mono ?_; rintro e w4 ⟨rfl, hb4⟩
      have HB4 := Lib.hid (below_then HB3.out hb4)
      have HU4 := Lib.hid (HU3.out.below hb4)
      have hy4 := (hb4.block _ (lt_of_block HY3.out)).trans HY3.out
      have y0 : w4.cell? ⟨w.heap.size + 1, 0, none⟩ = some (.string E.nm) := cell_of_row _ _ 0 _ _ _ hy4
      clear HPP hb4 HB3 HU3 HY3 y3 hy4
      rcases HPC.out with ⟨p, z, hp, ht⟩ | ⟨p, z, hz0, hp, ht⟩ | ⟨hp, ht⟩
      · rw [hp]
        have HVE : Hid (V = (p, z)) := HVV.out.trans ht
        clear HPC HDC hp ht HVV
        go_wp2_with fail
        go_ret2
        rw [HVE.out]
        exact ⟨rfl, HB4.out⟩
      · rw [hp]
        have HVE : Hid (V = (p, z)) := HVV.out.trans ht
        have hzb : (z != 0) = true := bne_iff_ne.2 hz0
        clear HPC HDC hp ht HVV
        go_wp2_with fail
        go_ret2
        rw [HVE.out]
        exact ⟨rfl, HB4.out⟩
      · rw [hp]
        have HVE : Hid (V = txC E.nm) := HVV.out.trans ht
        clear HPC hp ht HVV
        go_wp2_with fail
        refine (HDC.out _ HU4.out).mono ?_; rintro e w5 ⟨rfl, hb5⟩
        have HB5 := Lib.hid (below_then HB4.out hb5)
        clear HDC hb5 HB4 y0
        go_wp2_with fail
        go_ret2
        rw [HVE.out]
        exact ⟨rfl, HB5.out⟩
  · have bz : (bits .and .u16 (E.flags : Int) 2048 != 0) = true := bne_iff_ne.2 hz
    have bz2 : (bits .and .u16 (E.flags : Int) 2048 == 0) = false := beq_eq_false_iff_ne.2 hz
    have HVV : Hid (V = txU E.nm) := by show _ = _; rw [HV.out, bz2]; rfl
    clear HV HPP HPC HDC
    go_wp2_with fail
    refine (HDU.out _).mono ?_; rintro e w4 ⟨rfl, hb4⟩
    have HB4 := Lib.hid (below_then HB3.out hb4)
    clear HDU hb4 HB3 HY3 y0 y3
    go_wp2_with fail
    go_ret2
    rw [HVV.out]
    exact ⟨rfl, HB4.out⟩
end Go.Proofs.YtijfcmlgohbndaaGreatDoor

namespace Go.Proofs.YtijfcmlgohbndaaGreatDoor
set_option maxRecDepth 100000
set_option linter.unusedSimpArgs false
set_option linter.unusedVariables false
open Go.RowKit Go.Joins Go.Deep
def patV (l : List Fd) (E : Ent) : ByteArray × Bool × Int := if (txtV l E).2 = 0 then chkV (txtV l E).1 else (⟨#[]⟩, false, (txtV l E).2)
set_option maxHeartbeats 8000000 in
theorem path_any (F : Array Value) (l1 l2 : List Fd) (E : Ent) (hnm : E.nm.size ≤ 100000) (h1 : l1.length ≤ 16384) (h2 : l2.length ≤ 16384) (w : World) (hU : Upper w) (hE : Env w) (hF : FsV w F l1 l2) (hD : (fndD (l1 ++ l2) 28789).size ≤ maxLen) (hT : (txtV (l1 ++ l2) E).1.size ≤ 9223372036854775807) :
    Calls Tryz.prog 22 #[.agg F, .agg E.cells] w fun e w' => e = .returned (.tuple #[.string (patV (l1 ++ l2) E).1, .bool (patV (l1 ++ l2) E).2.1, .int .i64 (patV (l1 ++ l2) E).2.2]) ∧ Below w.heap.size w w' := by
  obtain ⟨w1, hw1⟩ : ∃ w1, w1 = w.alloc (.cells F 69) := ⟨_, rfl⟩
  obtain ⟨w2, hw2⟩ : ∃ w2, w2 = w1.alloc (.cells E.cells 51) := ⟨_, rfl⟩
  have hb1 : Below w.heap.size w w1 := by rw [hw1]; exact (Below.refl _ _).alloc (Nat.le_refl _) _
  have hb12 : Below w1.heap.size w1 w2 := by rw [hw2]; exact (Below.refl _ _).alloc (Nat.le_refl _) _
  have hb2 := below_then hb1 hb12
  have HB2 := Lib.hid hb2
  have HTX := Lib.hid (text_any F l1 l2 E hnm h1 h2 w (hU) (hF) hD)
  have HTX2 := Lib.hid (text_any F l1 l2 E hnm h1 h2 w2 (hU.below hb2) (hF.below hb2) hD)
  have HE := Lib.hid (fun w3 (hb : Below w.heap.size w w3) => hE.below hb)
  obtain ⟨A1, c1, A2, c2, rfl, hf1, hn1, hf2, hn2⟩ := hF
  obtain ⟨V, hV⟩ : ∃ V, V = patV (l1 ++ l2) E := ⟨_, rfl⟩
  rw [← hV]
  unfold patV at hV
  have HCK := Lib.hid (fun w3 h => check_any (txtV (l1 ++ l2) E).1 w3 hT h)
  have HV := Lib.hid hV
  clear hT hV hD hb1 hb12 hb2 hf1 hn1 hf2 hn2 hU hE
  generalize txtV (l1 ++ l2) E = T at *
  generalize l1.length = n1 at *
  generalize l2.length = n2 at *
  rw [hw1] at hw2
  simp only [Ent.cells] at hw2 HTX HTX2 ⊢
  have HW2 := Lib.hid hw2
  clear hw1 hw2
  go_enter Tryz.func22, Tryz.ntmps22
  go_wp2_with fail
  rw [← HW2.out]
  clear HW2
  refine HTX2.out.mono ?_; rintro e w3 ⟨rfl, hb3⟩
  have HB3 := Lib.hid (below_then HB2.out hb3)
  have HE3 := Lib.hid (HE.out w3 HB3.out)
  clear hb3 HTX HTX2 HB2 HE
  obtain ⟨p, z⟩ := T
  by_cases hz : z = 0
  · subst hz
    have HVV : Hid (V = chkV p) := by show _ = _; rw [HV.out]; rfl
    go_wp2_with fail
    refine (HCK.out _ HE3.out).mono ?_; rintro e w4 ⟨rfl, hb4⟩
    have HB4 := Lib.hid (below_then HB3.out hb4)
    clear hb4 HCK HV
    go_wp2_with fail
    go_ret3
    rw [HVV.out]
    exact ⟨rfl, HB4.out⟩
  · have bz : (z != 0) = true := bne_iff_ne.2 hz
    have HVV : Hid (V = (⟨#[]⟩, false, z)) := by show _ = _; rw [HV.out, if_neg hz]
    clear HCK HV
    go_wp2_with fail
    go_ret3
    rw [HVV.out]
    exact ⟨rfl, HB3.out⟩
end Go.Proofs.YtijfcmlgohbndaaGreatDoor

namespace Go.Proofs.YtijfcmlgohbndaaGreatDoor
set_option maxRecDepth 100000
set_option linter.unusedSimpArgs false
set_option linter.unusedVariables false
open Go.RowKit Go.Joins Go.Deep
/-- A stamp of a field, with an error. -/
structure StT where
  f : Int
  a : Int
  b : Int
  c : Int
  z : Int
def StT.val (x : StT) : Value := .tuple #[.agg #[.int .u8 x.f, .int .i32 x.a, .int .i32 x.b, .int .i32 x.c], .int .i64 x.z]
def stT (s : ByteArray) (c : Bool) : StT := if stOk s ((nums s).getD 0 0) c = true then ⟨((nums s).getD 0 0 : Nat), vk s ((nums s).getD 0 0) c 0, vk s ((nums s).getD 0 0) c 1, vk s ((nums s).getD 0 0) c 2, 0⟩ else ⟨0, 0, 0, 0, 24⟩
theorem stRes_T (s : ByteArray) (c : Bool) : stRes s c = (stT s c).val := by
  unfold stRes stT StT.val
  simp only []
  split <;> rfl
def StT.cut (x : StT) : StT := { x with f := bits .and .u8 x.f 1 }
def tolV (l1 l2 : List Fd) : StT := if fndB l1 21589 = true then stT (fndD l1 21589) false else if fndB l2 21589 = true then (stT (fndD l2 21589) true).cut else ⟨0, 0, 0, 0, 0⟩
theorem info_stampM : (Tryz.prog.info? 112).map (·.size) = some 4 := by kernel_rfl
set_option maxHeartbeats 8000000 in
theorem told_any (F : Array Value) (l1 l2 : List Fd) (h1 : l1.length ≤ 16384) (h2 : l2.length ≤ 16384) (w : World) (hF : FsV w F l1 l2) (hD1 : (fndD l1 21589).size ≤ maxLen) (hD2 : (fndD l2 21589).size ≤ maxLen) :
    Calls Tryz.prog 39 #[.agg F] w fun e w' => e = .returned (tolV l1 l2).val ∧ Below w.heap.size w w' := by
  obtain ⟨A1, c1, A2, c2, rfl, hf1, hn1, hf2, hn2⟩ := hF
  have HP1 := Lib.hid (fun w1 => by have h := parseStamp_st (fndD l1 21589) false hD1 w1; rw [stRes_T] at h; exact h)
  have HP2 := Lib.hid (fun w1 => by have h := parseStamp_st (fndD l2 21589) true hD2 w1; rw [stRes_T] at h; exact h)
  have HF1 := Lib.hid (fun w1 (hb : Below w.heap.size w w1) => find13_any A1 c1 l1 21589 w1 (hf1.below (Nat.le_refl _) hb) (by omega))
  have HF2 := Lib.hid (fun w1 (hb : Below w.heap.size w w1) => find13_any A2 c2 l2 21589 w1 (hf2.below (Nat.le_refl _) hb) (by omega))
  obtain ⟨V, hV⟩ : ∃ V, V = tolV l1 l2 := ⟨_, rfl⟩
  rw [← hV]
  unfold tolV at hV
  have HV := Lib.hid hV
  clear hV hf1 hf2 hn1 hn2 hD1 hD2
  generalize fndB l1 21589 = B1 at *
  generalize fndB l2 21589 = B2 at *
  generalize stT (fndD l1 21589) false = S1 at *
  generalize stT (fndD l2 21589) true = S2 at *
  generalize fndD l1 21589 = D1 at *
  generalize fndD l2 21589 = D2 at *
  generalize l1.length = n1 at *
  generalize l2.length = n2 at *
  obtain ⟨w1, hw1⟩ : ∃ w1, w1 = w.alloc (.cells #[.slice A1 n1 c1, .slice A2 n2 c2] 69) := ⟨_, rfl⟩
  obtain ⟨w2, hw2⟩ : ∃ w2, w2 = w1.alloc (.cells #[.int .u8 0, .int .i32 0, .int .i32 0, .int .i32 0] 112) := ⟨_, rfl⟩
  have hb1 : Below w.heap.size w w1 := by rw [hw1]; exact (Below.refl _ _).alloc (Nat.le_refl _) _
  have hb12 : Below w1.heap.size w1 w2 := by rw [hw2]; exact (Below.refl _ _).alloc (Nat.le_refl _) _
  have hsz : w1.heap.size = w.heap.size + 1 := by rw [hw1]; simp only [World.alloc, Array.size_push]
  have hx1 : w1.heap[w.heap.size]? = some (.cells #[.slice A1 n1 c1, .slice A2 n2 c2] 69 (0, 0)) := by rw [hw1]; exact heap_alloc_new w _
  have HX2 := Lib.hid ((hb12.block _ (lt_of_block hx1)).trans hx1)
  have HY2 : Hid (w2.heap[w.heap.size + 1]? = some (.cells #[.int .u8 0, .int .i32 0, .int .i32 0, .int .i32 0] 112 (0, 0))) := by show _ = _; rw [hw2, ← hsz]; exact heap_alloc_new w1 _
  have HB2 := Lib.hid (below_then hb1 hb12)
  rw [hw1] at hw2
  have HW2 := Lib.hid hw2
  clear hw1 hw2 hb1 hb12 hsz hx1
  go_enter Tryz.func39, Tryz.ntmps39
  go_wp2_with fail
  rw [← HW2.out]
  clear HW2
  refine (HF1.out w2 HB2.out).mono ?_; rintro e w3 ⟨rfl, hb3⟩
  have HX3 := Lib.hid ((hb3.block _ (lt_of_block HX2.out)).trans HX2.out)
  have HY3 := Lib.hid ((hb3.block _ (lt_of_block HY2.out)).trans HY2.out)
  have HB3 := Lib.hid (below_then HB2.out hb3)
  clear hb3 HX2 HY2 HB2 HF1
  cases B1 with
  | true =>
    have HVV : Hid (V = S1) := by show _ = _; rw [HV.out]; rfl
    clear HV HF2 HP2
    go_wp2_with fail
    refine (HP1.out w3).mono ?_; rintro e w4 ⟨rfl, hb4⟩
    have HY4 := Lib.hid ((hb4.block _ (lt_of_block HY3.out)).trans HY3.out)
    have HB4 := Lib.hid (below_then HB3.out hb4)
    clear hb4 HX3 HY3 HB3 HP1
    unfold StT.val
    go_wp2_with (refine wpList_store_row rfl 112 (.tmp 2) _ rfl (w.heap.size + 1) #[.int .u8 S1.f, .int .i32 S1.a, .int .i32 S1.b, .int .i32 S1.c] rfl rfl 112 _ HY4.out info_stampM rfl (by simp [Value.oneCell']) ?_)
    have HY5 := Lib.hid (setRow_heap _ _ _ #[.int .u8 S1.f, .int .i32 S1.a, .int .i32 S1.b, .int .i32 S1.c] _ _ HY4.out)
    exact bodyPost_ret (results_ct_rowF rfl _ _ (w.heap.size + 1) 112 _ (0, 0) _ rfl HY5.out Tryz.underlying112 rfl info_stampM) rfl ⟨by rw [HVV.out]; rfl, below_setRow HB4.out (Nat.le_succ _) _⟩
  | false =>
    have x1 : w3.cell? ⟨w.heap.size, 1, none⟩ = some (.slice A2 n2 c2) := cell_of_row _ _ 1 _ _ _ HX3.out
    go_wp2_with fail
    refine (HF2.out w3 HB3.out).mono ?_; rintro e w4 ⟨rfl, hb4⟩
    have HY4 := Lib.hid ((hb4.block _ (lt_of_block HY3.out)).trans HY3.out)
    have HB4 := Lib.hid (below_then HB3.out hb4)
    clear hb4 HX3 HY3 HB3 HF2 x1
    cases B2 with
    | false =>
      have HVV : Hid (V = ⟨0, 0, 0, 0, 0⟩) := by show _ = _; rw [HV.out]; rfl
      clear HV HP1 HP2
      go_wp2_with (refine wpList_store_row rfl 112 (.tmp 2) _ rfl (w.heap.size + 1) #[.int .u8 0, .int .i32 0, .int .i32 0, .int .i32 0] rfl rfl 112 _ HY4.out info_stampM rfl (by simp [Value.oneCell']) ?_)
      have HY5 := Lib.hid (setRow_heap _ _ _ #[.int .u8 0, .int .i32 0, .int .i32 0, .int .i32 0] _ _ HY4.out)
      exact bodyPost_ret (results_ct_rowF rfl _ _ (w.heap.size + 1) 112 _ (0, 0) _ rfl HY5.out Tryz.underlying112 rfl info_stampM) rfl ⟨by rw [HVV.out]; rfl, below_setRow HB4.out (Nat.le_succ _) _⟩
    | true =>
      have HVV : Hid (V = S2.cut) := by show _ = _; rw [HV.out]; rfl
      clear HV HP1
      go_wp2_with fail
      refine (HP2.out w4).mono ?_; rintro e w5 ⟨rfl, hb5⟩
      have HY5 := Lib.hid ((hb5.block _ (lt_of_block HY4.out)).trans HY4.out)
      have HB5 := Lib.hid (below_then HB4.out hb5)
      clear hb5 HY4 HB4 HP2
      unfold StT.val
      have hlt5 : w.heap.size + 1 < w5.heap.size := lt_of_block HY5.out
      go_wp2_with (refine wpList_store_row rfl 112 (.tmp 2) (.tmp 39) rfl (w.heap.size + 1) #[.int .u8 (bits .and .u8 S2.f 1), .int .i32 S2.a, .int .i32 S2.b, .int .i32 S2.c] rfl rfl 112 (#[.int .u8 0, .int .i32 0, .int .i32 0, .int .i32 0]) ?hy info_stampM rfl (by simp [Value.oneCell']) ?_)
      case hy => exact (((Below.refl w5.heap.size w5).alloc (Nat.le_refl _) _).block _ hlt5).trans HY5.out
      have HB6 := Lib.hid (HB5.out.alloc HB5.out.size (.cells #[.int .u8 (bits .and .u8 S2.f 1), .int .i32 S2.a, .int .i32 S2.b, .int .i32 S2.c] 112))
      have HY6 := Lib.hid ((((Below.refl w5.heap.size w5).alloc (Nat.le_refl _) (.cells #[.int .u8 (bits .and .u8 S2.f 1), .int .i32 S2.a, .int .i32 S2.b, .int .i32 S2.c] 112)).block _ hlt5).trans HY5.out)
      have HY7 := Lib.hid (setRow_heap _ _ _ #[.int .u8 (bits .and .u8 S2.f 1), .int .i32 S2.a, .int .i32 S2.b, .int .i32 S2.c] _ _ HY6.out)
      exact bodyPost_ret (results_ct_rowF rfl _ _ (w.heap.size + 1) 112 _ (0, 0) _ rfl HY7.out Tryz.underlying112 rfl info_stampM) rfl ⟨by rw [HVV.out]; rfl, below_setRow HB6.out (Nat.le_succ _) _⟩
end Go.Proofs.YtijfcmlgohbndaaGreatDoor

namespace Go.Proofs.YtijfcmlgohbndaaGreatDoor

def leapB (y : Nat) : Bool := y % 4 == 0 && y % 100 != 0 || y % 400 == 0
def lpN (y : Nat) : Nat := if leapB y = true then 1 else 0
/-- Days of a year. -/
def yl (y : Nat) : Nat := 365 + lpN y
/-- Days ahead of a year, from the first one on. -/
def dbf (y : Nat) : Nat := 365 * (y - 1) + (y - 1) / 4 - (y - 1) / 100 + (y - 1) / 400
theorem lpN_le (y : Nat) : lpN y ≤ 1 := by unfold lpN; split <;> omega
theorem leap_iff (y : Nat) : leapB y = true ↔ y % 4 = 0 ∧ ¬ y % 100 = 0 ∨ y % 400 = 0 := by
  unfold leapB
  simp
theorem lpN_eq (y : Nat) : lpN y = if y % 4 = 0 ∧ ¬ y % 100 = 0 ∨ y % 400 = 0 then 1 else 0 := by
  unfold lpN
  by_cases h : leapB y = true
  · rw [if_pos h, if_pos ((leap_iff y).1 h)]
  · rw [if_neg h, if_neg (fun k => h ((leap_iff y).2 k))]
theorem step_div (n k : Nat) (hk : 1 < k) : (n + 1) / k = n / k + (if (n + 1) % k = 0 then 1 else 0) := by
  have h1 := Nat.div_add_mod (n + 1) k
  have h2 := Nat.div_add_mod n k
  have h3 := Nat.mod_lt n (show 0 < k by omega)
  split
  · rename_i h
    rw [h] at h1
    refine Nat.div_eq_of_lt_le ?_ ?_
    · rw [Nat.add_mul, Nat.one_mul, Nat.mul_comm]
      have : n / k < (n + 1) / k := by
        apply Decidable.byContradiction
        intro hn
        have := Nat.mul_le_mul_left k (Nat.le_of_not_lt hn)
        omega
      have := Nat.mul_le_mul_left k this
      rw [Nat.mul_succ] at this
      omega
    · rw [Nat.add_mul, Nat.add_mul, Nat.one_mul, Nat.mul_comm]
      omega
  · rename_i h
    have hm : n % k + 1 < k := by
      apply Decidable.byContradiction
      intro hn
      apply h
      have e : n + 1 = k * (n / k + 1) := by rw [Nat.mul_succ]; omega
      rw [e, Nat.mul_mod_right]
    refine Nat.div_eq_of_lt_le ?_ ?_
    · rw [Nat.add_zero, Nat.mul_comm]; omega
    · rw [Nat.add_zero, Nat.succ_mul, Nat.mul_comm]; omega
theorem dbf_succ (y : Nat) (h : 1 ≤ y) : dbf (y + 1) = dbf y + yl y := by
  obtain ⟨n, rfl⟩ : ∃ n, y = n + 1 := ⟨y - 1, by omega⟩
  unfold yl
  rw [lpN_eq]
  unfold dbf
  rw [Nat.add_sub_cancel, Nat.add_sub_cancel, step_div n 4 (by omega), step_div n 100 (by omega), step_div n 400 (by omega)]
  have i1 : (n + 1) % 400 = 0 → (n + 1) % 100 = 0 := fun h => by omega
  have i2 : (n + 1) % 100 = 0 → (n + 1) % 4 = 0 := fun h => by omega
  have i3 : n / 100 ≤ n / 4 := by omega
  generalize n / 4 = a at *
  generalize n / 100 = b at *
  generalize n / 400 = c at *
  generalize (n + 1) % 4 = p at *
  generalize (n + 1) % 100 = q at *
  generalize (n + 1) % 400 = r at *
  by_cases h4 : p = 0 <;> by_cases h1 : q = 0 <;> by_cases h0 : r = 0 <;> simp [h4, h1, h0] at * <;> omega
theorem dbf_one : dbf 1 = 0 := rfl
theorem dbf_last : dbf 10000 = 3652059 := rfl
theorem dbf_mono (a b : Nat) (h1 : 1 ≤ a) (h : a ≤ b) : dbf a ≤ dbf b := by
  induction b with
  | zero => omega
  | succ b ih =>
    by_cases e : a = b + 1
    · rw [e]; exact Nat.le_refl _
    · have := ih (by omega)
      have := dbf_succ b (by omega)
      omega
theorem dbf_strict (a b : Nat) (h1 : 1 ≤ a) (h : a < b) : dbf a + yl a ≤ dbf b := by
  have := dbf_mono (a + 1) b (by omega) h
  have := dbf_succ a h1
  omega
theorem dbf_ge (y : Nat) (h : 1 ≤ y) : 365 * (y - 1) ≤ dbf y ∧ dbf y ≤ 366 * (y - 1) := by
  unfold dbf
  omega
theorem year_ex (D : Nat) : ∃ y, 1 ≤ y ∧ dbf y ≤ D ∧ D < dbf y + yl y := by
  induction D with
  | zero => exact ⟨1, by omega, by decide, by decide⟩
  | succ D ih =>
    obtain ⟨y, h1, h2, h3⟩ := ih
    have hs := dbf_succ y h1
    by_cases h : D + 1 < dbf y + yl y
    · exact ⟨y, h1, by omega, h⟩
    · have : 1 ≤ yl (y + 1) := by unfold yl; omega
      exact ⟨y + 1, by omega, by omega, by omega⟩

/-- Days of a month. -/
def ml (y m : Nat) : Nat := if m = 2 then 28 + lpN y else if m = 4 ∨ m = 6 ∨ m = 9 ∨ m = 11 then 30 else 31
theorem ml_bd (y m : Nat) : 28 ≤ ml y m ∧ ml y m ≤ 31 := by
  have := lpN_le y
  unfold ml
  repeat' split
  all_goals omega
/-- Days of a year ahead of a month. -/
def mb (y : Nat) : Nat → Nat
  | 0 => 0
  | m + 1 => if m = 0 then 0 else mb y m + ml y m
theorem mb_one (y : Nat) : mb y 1 = 0 := rfl
theorem mb_succ (y m : Nat) (h : 1 ≤ m) : mb y (m + 1) = mb y m + ml y m := by
  rw [mb, if_neg (by omega)]
theorem mb_vals (y : Nat) : mb y 2 = 31 ∧ mb y 3 = 59 + lpN y ∧ mb y 4 = 90 + lpN y ∧ mb y 5 = 120 + lpN y ∧ mb y 6 = 151 + lpN y ∧ mb y 7 = 181 + lpN y ∧ mb y 8 = 212 + lpN y ∧ mb y 9 = 243 + lpN y ∧ mb y 10 = 273 + lpN y ∧ mb y 11 = 304 + lpN y ∧ mb y 12 = 334 + lpN y ∧ mb y 13 = 365 + lpN y := by
  simp [mb, ml]
  omega
theorem mb_end (y : Nat) : mb y 13 = yl y := (mb_vals y).2.2.2.2.2.2.2.2.2.2.2
theorem mb_mono (y a b : Nat) (h1 : 1 ≤ a) (h : a ≤ b) : mb y a ≤ mb y b := by
  induction b with
  | zero => omega
  | succ b ih =>
    by_cases e : a = b + 1
    · rw [e]; exact Nat.le_refl _
    · have := ih (by omega)
      have := mb_succ y b (by omega)
      omega
theorem mb_strict (y a b : Nat) (h1 : 1 ≤ a) (h : a < b) : mb y a + ml y a ≤ mb y b := by
  have := mb_mono y (a + 1) b (by omega) h
  have := mb_succ y a h1
  omega
theorem mb_le (y m : Nat) (h1 : 1 ≤ m) (h : m ≤ 12) : mb y m + ml y m ≤ 366 := by
  have := mb_strict y m 13 h1 (by omega)
  have := mb_end y
  have := lpN_le y
  unfold yl at *
  omega
theorem month_ex (y r : Nat) (h : r < yl y) : ∃ m, 1 ≤ m ∧ m ≤ 12 ∧ mb y m ≤ r ∧ r < mb y m + ml y m := by
  have key : ∀ k, k ≤ 12 → r < mb y (k + 1) → ∃ m, 1 ≤ m ∧ m ≤ k ∧ mb y m ≤ r ∧ r < mb y m + ml y m := by
    intro k
    induction k with
    | zero => intro _ h; rw [mb_one] at h; omega
    | succ k ih =>
      intro hk h
      by_cases e : r < mb y (k + 1)
      · obtain ⟨m, a, b, c, d⟩ := ih (by omega) e
        exact ⟨m, a, by omega, c, d⟩
      · rw [mb_succ y (k + 1) (by omega)] at h
        exact ⟨k + 1, by omega, by omega, by omega, h⟩
  exact key 12 (by omega) (by rw [mb_end]; exact h)

/-- A date that there is: year, month, day, second of the day. -/
structure IsDate (y m d s : Nat) : Prop where
  y1 : 1 ≤ y
  y2 : y ≤ 9999
  m1 : 1 ≤ m
  m2 : m ≤ 12
  d1 : 1 ≤ d
  d2 : d ≤ ml y m
  s2 : s < 86400
/-- Its time, from the first second of the year 1 on. -/
def timeN (y m d s : Nat) : Nat := (dbf y + mb y m + (d - 1)) * 86400 + s
theorem IsDate.lt {y m d s : Nat} (h : IsDate y m d s) : dbf y + mb y m + (d - 1) < dbf y + yl y := by
  have := mb_strict y m 13 h.m1 (by have := h.m2; omega)
  have := mb_end y
  have := h.d1
  have := h.d2
  omega
theorem IsDate.days {y m d s : Nat} (h : IsDate y m d s) : dbf y + mb y m + (d - 1) < 3652059 := by
  have h1 := h.lt
  have h2 := dbf_strict y 10000 h.y1 (by have := h.y2; omega)
  rw [dbf_last] at h2
  omega
theorem IsDate.time {y m d s : Nat} (h : IsDate y m d s) : timeN y m d s < 315537897600 := by
  have := h.days
  have := h.s2
  unfold timeN
  omega
theorem date_ex (T : Nat) (h : T < 315537897600) : ∃ y m d s, IsDate y m d s ∧ timeN y m d s = T := by
  obtain ⟨y, hy1, hy2, hy3⟩ := year_ex (T / 86400)
  obtain ⟨m, hm1, hm2, hm3, hm4⟩ := month_ex y (T / 86400 - dbf y) (by omega)
  refine ⟨y, m, T / 86400 - dbf y - mb y m + 1, T % 86400, ⟨hy1, ?_, hm1, hm2, by omega, by omega, by omega⟩, ?_⟩
  · apply Decidable.byContradiction
    intro hn
    have := dbf_mono 10000 y (by omega) (by omega)
    rw [dbf_last] at this
    omega
  · unfold timeN
    omega
/-- Later dates have later times. -/
theorem time_lt_day {y m d s y' m' d' s' : Nat} (h : IsDate y m d s) (h' : IsDate y' m' d' s') (k : y < y' ∨ y = y' ∧ (m < m' ∨ m = m' ∧ d < d')) : timeN y m d s + (86400 - s) ≤ timeN y' m' d' s' := by
  have hs := h.s2
  have hl := h.lt
  have hd := h.d1
  have hd2 := h.d2
  have hd' := h'.d1
  have : dbf y + mb y m + (d - 1) + 1 ≤ dbf y' + mb y' m' + (d' - 1) := by
    rcases k with k | ⟨rfl, k | ⟨rfl, k⟩⟩
    · have := dbf_strict y y' h.y1 k
      omega
    · have := mb_strict y m m' h.m1 k
      omega
    · omega
  unfold timeN
  omega
theorem date_le {y m d s y' m' d' s' : Nat} (h : IsDate y m d s) (h' : IsDate y' m' d' s') (k : timeN y m d s ≤ timeN y' m' d' s') : y < y' ∨ y = y' ∧ (m < m' ∨ m = m' ∧ (d < d' ∨ d = d' ∧ s ≤ s')) := by
  have hs := h.s2
  have hs' := h'.s2
  by_cases h1 : y < y' ∨ y = y' ∧ (m < m' ∨ m = m' ∧ d < d')
  · rcases h1 with h1 | ⟨h1, h2 | ⟨h2, h3⟩⟩
    · exact .inl h1
    · exact .inr ⟨h1, .inl h2⟩
    · exact .inr ⟨h1, .inr ⟨h2, .inl h3⟩⟩
  · by_cases h2 : y' < y ∨ y' = y ∧ (m' < m ∨ m' = m ∧ d' < d)
    · have := time_lt_day h' h h2
      omega
    · obtain rfl : y = y' := by omega
      obtain rfl : m = m' := by omega
      obtain rfl : d = d' := by omega
      refine .inr ⟨rfl, .inr ⟨rfl, .inr ⟨rfl, ?_⟩⟩⟩
      unfold timeN at k
      omega
theorem date_uniq {y m d s y' m' d' s' : Nat} (h : IsDate y m d s) (h' : IsDate y' m' d' s') (k : timeN y m d s = timeN y' m' d' s') : y = y' ∧ m = m' ∧ d = d' ∧ s = s' := by
  have h1 := date_le h h' (by omega)
  have h2 := date_le h' h (by omega)
  omega
end Go.Proofs.YtijfcmlgohbndaaGreatDoor
