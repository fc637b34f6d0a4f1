/-
  A path that was checked is right, and so are its parents; what Check answers of what is right.
  Contracts: the document's Parts.
  Contracts: the Builder's copyCheck, WriteByte, WriteRune.
-/
import Derived.Test.YtjnoapbddifcpaaGreatDoorPkCB
import Derived.Test.YtjnoapbddifcpaaGreatDoorPkAB
import Derived.Maps.AppendAt

namespace Go.Proofs.YtjnoapbddifcpaaGreatDoor
set_option maxRecDepth 100000
open Go.RowKit Go.Lib

theorem nums_take (s : ByteArray) (k : Nat) : nums (s.extract 0 k) = (nums s).take k := by unfold nums; rw [Lib.extract_from_zero, List.map_take]
/-- A path that is right. -/
def Right (u : ByteArray) : Prop := readN u = 0 ∧ harmN u = 0
theorem read_zero (s : ByteArray) : readN s = 0 ↔ s.size ≤ 65535 ∧ nums s ≠ [] ∧ straysB s = false := by
  unfold readN
  by_cases h1 : 65535 < s.size
  · rw [decide_eq_true h1, if_pos rfl]
    constructor
    · intro h; exact absurd h (by decide)
    · intro h; omega
  · rw [decide_eq_false h1, if_neg (by decide), isEmpty_nums2]
    constructor
    · intro h
      refine ⟨by omega, ?_, ?_⟩
      · intro e; rw [e] at h; exact absurd h (by simp)
      · cases e : straysB s with
        | false => rfl
        | true => rw [e] at h; exact absurd h (by simp)
    · rintro ⟨_, h2, h3⟩
      rw [h3]
      cases e : nums s with
      | nil => exact absurd e h2
      | cons a b => rfl
theorem suffix_nums (s : ByteArray) : dirB s = true ↔ ∃ a, nums s = a ++ [47] := by
  unfold dirB hasSuffix
  rw [List.isSuffixOf_iff_suffix]
  constructor
  · rintro ⟨t, ht⟩
    exact ⟨t.map UInt8.toNat, by unfold nums; rw [← ht, List.map_append]; rfl⟩
  · rintro ⟨a, ha⟩
    refine ⟨s.data.toList.take a.length, toNat_list_inj _ _ ?_⟩
    rw [List.map_append, List.map_take]
    show (nums s).take a.length ++ [47] = nums s
    rw [ha, List.take_left]
theorem path_false {s : ByteArray} (h : dirB s = false) : pathB s = s := by
  unfold pathB trimSuffix
  unfold dirB at h
  rw [h, if_neg (by decide)]
theorem path_true {s : ByteArray} (h : dirB s = true) : ∃ (k : Nat) (hk : k < s.size), s[k].toNat = 47 ∧ k + 1 = s.size ∧ pathB s = s.extract 0 k := by
  obtain ⟨a, ha⟩ := (suffix_nums s).1 h
  have hl : s.size = a.length + 1 := by rw [← nums_len, ha]; simp
  have hk : a.length < s.size := by omega
  refine ⟨a.length, hk, ?_, hl.symm, ?_⟩
  · have h2 := nums_get s a.length hk
    rw [ha, List.getElem?_append_right (Nat.le_refl _)] at h2
    simpa using h2.symm
  · unfold pathB trimSuffix
    unfold dirB at h
    rw [h, if_pos rfl]
    apply ByteArray.ext
    apply Array.toList_inj.1
    rw [Lib.extract_from_zero]
    have : s.data.toList.length - [(47 : UInt8)].length = a.length := by
      rw [Array.length_toList]
      show s.size - 1 = _
      omega
    rw [this]
theorem empty_of_size {s : ByteArray} (h : s.size = 0) : nums s = [] := List.length_eq_zero_iff.1 (by rw [nums_len]; exact h)
/-- One of a path's parents, or it. -/
def Ahead (p u : ByteArray) : Prop := nums p = nums u ∨ ∃ r, nums p = nums u ++ 47 :: r
theorem Ahead.under {p u : ByteArray} (h : Ahead p u) : undB p u = true := by
  have hd : ∃ t : List UInt8, p.data.toList = u.data.toList ++ t ∧ (t = [] ∨ ∃ q, t = 47 :: q) := by
    rcases h with h | ⟨r, h⟩
    · exact ⟨[], by rw [List.append_nil]; exact toNat_list_inj _ _ h, .inl rfl⟩
    · have h1 : p.data.toList.take u.data.toList.length = u.data.toList := toNat_list_inj _ _ (by
        rw [List.map_take]
        show (nums p).take _ = nums u
        rw [h, show u.data.toList.length = (nums u).length by simp [nums], List.take_left])
      have h2 : (p.data.toList.drop u.data.toList.length).map UInt8.toNat = 47 :: r := by
        rw [List.map_drop]
        show (nums p).drop _ = _
        rw [h, show u.data.toList.length = (nums u).length by simp [nums], List.drop_left]
      refine ⟨p.data.toList.drop u.data.toList.length, ?_, .inr ?_⟩
      · conv => lhs; rw [← List.take_append_drop u.data.toList.length p.data.toList, h1]
      · cases e : p.data.toList.drop u.data.toList.length with
        | nil => rw [e] at h2; cases h2
        | cons x q =>
          rw [e, List.map_cons] at h2
          injection h2 with h3 _
          exact ⟨q, by rw [show x = 47 from UInt8.toNat_inj.1 h3]⟩
  obtain ⟨t, ht, hq⟩ := hd
  unfold undB
  have h1 : Lib.hasPrefix p.data.toList u.data.toList = true := by
    unfold Lib.hasPrefix
    rw [List.isPrefixOf_iff_prefix]
    exact ⟨t, ht.symm⟩
  have h2 : Lib.trimPrefix p.data.toList u.data.toList = t := by
    unfold Lib.trimPrefix
    rw [h1, if_pos rfl, ht, List.drop_left]
  rw [h1, h2]
  rcases hq with rfl | ⟨q, rfl⟩
  · simp
  · have : Lib.hasPrefix (47 :: q) [47] = true := by unfold Lib.hasPrefix; rfl
    rw [this]
    simp
end Go.Proofs.YtjnoapbddifcpaaGreatDoor

namespace Go.Proofs.YtjnoapbddifcpaaGreatDoor
set_option maxRecDepth 100000
open Go.RowKit Go.Deep Go.Joins Go.Lib

theorem row_slice {w : World} {B n z : Nat} {e : TypeId} {v : Value} {l : List Value} (h : w.ownsRow B e z v n l) : ∃ A c, v = .slice A n c := by
  rcases h.2 with ⟨rfl, rfl⟩ | ⟨g, cap, cur, rfl, _⟩
  · exact ⟨_, _, rfl⟩
  · exact ⟨_, _, rfl⟩
def strC (ss : List (List Nat)) : List Value := ss.map fun l => Value.string (text l)
theorem info9 : (Tryz.prog.info? 9).map (fun i => (i.zero, i.size, i.bytes)) = some (some (.string ByteArray.empty), 1, 16) := by kernel_rfl
theorem text_snoc (l : List Nat) (s : ByteArray) (k : Nat) (h : k < s.size) : text l ++ s.extract k (k + 1) = text (l ++ [s[k].toNat]) := by
  have e : s.extract k (k + 1) = text [s[k].toNat] := by
    have h1 : nums (s.extract k (k + 1)) = [s[k].toNat] := by
      unfold nums
      rw [Lib.extract_data]
      rw [List.map_take, List.map_drop]
      show ((nums s).drop k).take _ = _
      rw [nums_dropN s k h, show k + 1 - k = 1 by omega]
      rfl
    rw [← text_nums (s.extract k (k + 1)), h1]
  rw [e]
  apply ByteArray.ext
  simp [text]
theorem foldl_le : ∀ (l : List Nat) (x : List (List Nat) × List Nat), (l.foldl stepP x).1.length ≤ x.1.length + l.length
  | [], x => Nat.le_refl _
  | c :: r, x => by
    rw [List.foldl_cons]
    have h := foldl_le r (stepP x c)
    have h2 : (stepP x c).1.length ≤ x.1.length + 1 := by
      unfold stepP
      split
      · simp
      · show x.1.length ≤ _; omega
    rw [List.length_cons]
    omega
theorem ptS_le (l : List Nat) : (ptS l).1.length ≤ l.length := by
  have := foldl_le l ([], [])
  simpa [ptS] using this
theorem foldl_le2 : ∀ (l : List Nat) (x : List (List Nat) × List Nat), (l.foldl stepP x).2.length ≤ x.2.length + l.length
  | [], x => Nat.le_refl _
  | c :: r, x => by
    rw [List.foldl_cons]
    have h := foldl_le2 r (stepP x c)
    have h2 : (stepP x c).2.length ≤ x.2.length + 1 := by
      unfold stepP
      split
      · simp
      · simp
    rw [List.length_cons]
    omega
theorem ptS_le2 (l : List Nat) : (ptS l).2.length ≤ l.length := by
  have := foldl_le2 l ([], [])
  simpa [ptS] using this
theorem parts_done (l : List Nat) (h : l ≠ []) : (ptS l).1 ++ [(ptS l).2] = partsL l := by
  rw [ptS_end]; unfold partsL; rw [if_neg h]
set_option maxHeartbeats 8000000 in
theorem rparts_any (s : ByteArray) (w : World) (hs : s.size ≤ 100000) :
    Calls Tryz.prog 120 #[.string s] w fun e w' => ∃ v, e = .returned v ∧ w'.ownsRow w.heap.size 9 1 v (partsL (nums s)).length (strC (partsL (nums s))) ∧ Below w.heap.size w w' := by
  obtain ⟨i0, hi, hz0, hz1, hz2⟩ := info_parts info9
  by_cases h0 : s.size = 0
  · have g0 : ((s.size : Int) == 0) = true := by rw [beq_iff_eq]; omega
    have hp : partsL (nums s) = [] := by rw [empty_of_size h0]; rfl
    go_enter Tryz.func120, Tryz.ntmps120
    go_wp2
    go_ret
    rw [hp]
    exact ⟨_, rfl, World.ownsRow_nil _ _ _ _, Below.refl _ _⟩
  · have g0 : ((s.size : Int) == 0) = false := by rw [beq_eq_false_iff_ne]; omega
    have HPD := Lib.hid (parts_done (nums s) (fun e => h0 (by rw [← nums_len, e]; rfl)))
    clear h0
    go_enter Tryz.func120, Tryz.ntmps120
    go_wp2_with fail
    go_loopw [5, 3, 4] (fun i l p wr => ∃ k : Nat, k ≤ s.size ∧ i = .int .i64 (k : Nat) ∧ p = .string (text (ptS ((nums s).take k)).2) ∧ Hid (wr.ownsRow w.heap.size 9 1 l (ptS ((nums s).take k)).1.length (strC (ptS ((nums s).take k)).1)) ∧ Hid (Below w.heap.size w wr)) (fun i _ _ _ => s.size - (intOf i).toNat)
    case atStart => exact ⟨0, Nat.zero_le _, rfl, rfl, World.ownsRow_nil _ _ _ _, Below.refl _ _⟩
    case round =>
      obtain ⟨k, hk, rfl, rfl, HO, HB⟩ := hrel
      have hle : (ptS ((nums s).take k)).1.length ≤ 100000 := by
        have := ptS_le ((nums s).take k)
        rw [List.length_take, nums_len] at this
        omega
      have hle2 : (ptS ((nums s).take k)).2.length ≤ 100000 := by
        have := ptS_le2 ((nums s).take k)
        rw [List.length_take, nums_len] at this
        omega
      have HWS := Lib.hid HB.out.size
      by_cases hks : k < s.size
      · have hsn : ptS ((nums s).take (k + 1)) = stepP (ptS ((nums s).take k)) s[k].toNat := by rw [nums_snoc s k hks, ptS_snoc]
        have HSN := Lib.hid hsn
        clear hsn
        have HTX := Lib.hid (fun l => text_snoc l s k hks)
        generalize ptS ((nums s).take k) = P at *
        obtain ⟨L, p⟩ := P
        have ho := HO.out
        simp only at ho hle hle2
        by_cases h47 : s[k].toNat = 47
        · have hb47 : ((s[k].toNat : Int) == 47) = true := by rw [h47]; rfl
          have HS2 : Hid (ptS ((nums s).take (k + 1)) = (L ++ [p], [])) := by show _ = _; rw [HSN.out]; unfold stepP; rw [if_pos h47]
          clear h47
          obtain ⟨A2, cp2, rfl⟩ := row_slice ho
          clear ho
          go_wp2_with (at_builtin; refine wpList_append_own_at _ rfl (.tmp 19) (.tmp 21) _ rfl w.heap.size 9 i0 (.string ByteArray.empty) 1 16 Tryz.underlying22 hi hz0 hz1 hz2 rfl (by decide) _ L.length (strC L) rfl (HO.out.alloc _) ⟨wr.heap.size, 0, none⟩ 1 1 [.string (text p)] rfl rfl ?c1 ?c2 ?c3 ?c4 ?c5 ?_)
          case c2 => rfl
          case c3 => unfold maxLen; omega
          case c4 => omega
          case c5 => have := HWS.out; simp; omega
          intro v2 w3 hown hgrow _ hat
          have HB3 : Hid (Below w.heap.size w w3) := (HB.out.alloc HWS.out _).grown hgrow (by have := HWS.out; simp; omega) fun g hg => (HO.out.lt g hg).1
          have HO3 : Hid (w3.ownsRow w.heap.size 9 1 v2 (L ++ [p]).length (strC (L ++ [p]))) := by
            show World.ownsRow _ _ _ _ _ _ _
            rw [List.length_append]
            unfold strC
            rw [List.map_append]
            exact hown
          clear hown hgrow hat
          go_wp2_with fail
          go_roundw
          case rel =>
            refine ⟨k + 1, by omega, by go_num, ?_, ?_, HB3⟩
            · rw [HS2.out]; rfl
            · rw [HS2.out]; exact HO3
          case measure => simp [intOf]; omega
        · have hb47 : ((s[k].toNat : Int) == 47) = false := by rw [beq_eq_false_iff_ne]; omega
          have HS2 : Hid (ptS ((nums s).take (k + 1)) = (L, p ++ [s[k].toNat])) := by show _ = _; rw [HSN.out]; unfold stepP; rw [if_neg h47]
          obtain ⟨q, hq, hqi⟩ : ∃ q : Nat, k + 1 = q ∧ ((k : Int) + 1) = (q : Int) := ⟨k + 1, rfl, by omega⟩
          rw [hq] at HTX
          have HQ := Lib.hid hq
          have hkq : k ≤ q := by omega
          have hqs : q ≤ s.size := by omega
          have hcat : ¬ 9223372036854775807 < (text p).size + (q - k) := by rw [text_size]; omega
          clear h47 ho hq hle2
          go_wp2_with fail
          go_roundw
          case rel =>
            refine ⟨k + 1, by omega, by have := HQ.out; subst this; go_num, ?_, ?_, HB⟩
            · rw [HS2.out, HTX.out]
            · rw [HS2.out]; exact HO
          case measure => simp [intOf]; omega
      · obtain rfl : k = s.size := by omega
        have hall : (nums s).take s.size = nums s := by rw [← nums_len]; exact List.take_length
        rw [hall] at HO hle ⊢
        clear hle2
        generalize ptS (nums s) = P at *
        obtain ⟨L, p⟩ := P
        have ho := HO.out
        simp only at ho hle
        obtain ⟨A2, cp2, rfl⟩ := row_slice ho
        clear ho
        go_wp2_with (at_builtin; refine wpList_append_own_at _ rfl (.tmp 30) (.tmp 32) _ rfl w.heap.size 9 i0 (.string ByteArray.empty) 1 16 Tryz.underlying22 hi hz0 hz1 hz2 rfl (by decide) _ L.length (strC L) rfl (HO.out.alloc _) ⟨wr.heap.size, 0, none⟩ 1 1 [.string (text p)] rfl rfl ?d1 ?d2 ?d3 ?d4 ?d5 ?_)
        case d2 => rfl
        case d3 => unfold maxLen; omega
        case d4 => omega
        case d5 => have := HWS.out; simp; omega
        intro v2 w3 hown hgrow _ hat
        have HB3 : Hid (Below w.heap.size w w3) := (HB.out.alloc HWS.out _).grown hgrow (by have := HWS.out; simp; omega) fun g hg => (HO.out.lt g hg).1
        have HO3 : Hid (w3.ownsRow w.heap.size 9 1 v2 (L ++ [p]).length (strC (L ++ [p]))) := by
          show World.ownsRow _ _ _ _ _ _ _
          rw [List.length_append]
          unfold strC
          rw [List.map_append]
          exact hown
        clear hown hgrow hat
        go_wp2_with fail
        go_ret
        have hpd : L ++ [p] = partsL (nums s) := HPD.out
        rw [← hpd]
        exact ⟨v2, rfl, HO3.out, HB3.out⟩
end Go.Proofs.YtjnoapbddifcpaaGreatDoor

namespace Go.Proofs.YtjnoapbddifcpaaGreatDoor
set_option maxRecDepth 100000
open Go.RowKit Go.Deep Go.Joins Go.Lib

/-- A Builder in block b, so many bytes in it. -/
def BdN (w : World) (B b : Nat) (l : List Nat) : Prop :=
  B ≤ b ∧ ∃ p v, w.heap[b]? = some (.cells #[p, v] 251 (0, 0)) ∧ (p = .pointer none ∨ p = .pointer (some ⟨b, 0, none⟩)) ∧ w.ownsRow B 5 1 v l.length (cells8 l) ∧ v.ownBlock ≠ some b
/-- Iterators stay. -/
def Its (w w' : World) : Prop := ∀ (k : Nat) s pos, w.heap[k]? = some (.stringIter s pos) → w'.heap[k]? = some (.stringIter s pos)
theorem Its.refl (w : World) : Its w w := fun _ _ _ h => h
theorem Its.trans {a b c : World} (h : Its a b) (k : Its b c) : Its a c := fun i s p e => k i s p (h i s p e)
theorem info_bdN : (Tryz.prog.info? 251).map (·.size) = some 2 := by kernel_rfl
theorem lies_bdN : liesAt Tryz.prog Tryz.prog.depth 251 (2 / Tryz.prog.cellsOf 251) 0 251 1 = true := by kernel_rfl
theorem copyCheck_anyN (B b : Nat) (p v : Value) (l : List Nat) (w : World) (hB : B ≤ b) (hb : w.heap[b]? = some (.cells #[p, v] 251 (0, 0))) (hp : p = .pointer none ∨ p = .pointer (some ⟨b, 0, none⟩)) (ho : w.ownsRow B 5 1 v l.length (cells8 l)) (hne : v.ownBlock ≠ some b) :
    Calls Tryz.prog 171 #[.pointer (some ⟨b, 0, none⟩)] w fun e w' => e = .returned (.tuple #[]) ∧ w'.heap[b]? = some (.cells #[.pointer (some ⟨b, 0, none⟩), v] 251 (0, 0)) ∧ w'.ownsRow B 5 1 v l.length (cells8 l) ∧ Below B w w' ∧ (∀ k, k ≠ b → w'.heap[k]? = w.heap[k]?) := by
  obtain ⟨j, hj, hjs⟩ := Option.map_eq_some_iff.1 info_bdN
  have c0 : w.cell? ⟨b, 0, none⟩ = some p := by rw [Lib.cell_of_heap hb]; rfl
  rcases hp with rfl | rfl
  · have hbd : BuilderAt 251 5 B b (.pointer none) (cells8 l) w := ⟨hB, v, hb, by rw [show (cells8 l).length = l.length by simp [cells8]]; exact ho, hne⟩
    have hsh := hbd.shape
    have hfz := hbd.frozen0
    have HBD := Lib.hid hbd
    have HHB := Lib.hid hb
    clear hb ho hne hbd
    go_enter Tryz.func171, Tryz.ntmps171
    go_wp2
    rw [Lib.run_to_unsafe w ⟨b, 0, none⟩ Tryz.underlying249 Tryz.underlying287 hj (by rw [hjs]; decide) hsh (Nat.zero_lt_succ 1)]
    simp only [Result.andThen]
    rw [Oper.upon_value]
    go_wp2
    rw [run_callFunc_extern Tryz.func187 (by kernel_rfl) (by kernel_rfl) (by kernel_rfl) (e := Extern.AbiNoEscape.same) (by kernel_rfl)]
    rw [Lib.run_noEscape]
    simp only [Result.andThen]
    rw [Oper.upon_value]
    go_wp2
    rw [Lib.run_from_unsafe w ⟨b, 0, none⟩ Tryz.underlying287 Tryz.underlying249 hj hsh lies_bdN]
    simp only [Result.andThen]
    rw [Oper.upon_value]
    go_wp2
    go_end0
    have hu := HBD.out.used (.pointer (some ⟨b, 0, none⟩))
    refine ⟨rfl, ?_, ?_, (Below.refl _ _).setCell hB _, fun k hk => Below.heap_setCell w _ _ k hk⟩
    · rw [Go.heap_setCell_same w b 0 _ _ _ HHB.out]
      rfl
    · obtain ⟨_, v', hv', ho', _⟩ := hu
      have e : v' = v := by
        rw [Go.heap_setCell_same w b 0 _ _ _ HHB.out] at hv'
        have := Option.some.inj hv'
        injection this with h1
        simp at h1
        exact h1.symm
      subst e
      rw [show (cells8 l).length = l.length by simp [cells8]] at ho'
      exact ho'
  · have HHB := Lib.hid hb
    have HO := Lib.hid ho
    clear hb ho hne
    go_enter Tryz.func171, Tryz.ntmps171
    go_wp2
    rw [Lib.run_neq_ptr_same w _ Tryz.underlying249 hj]
    go_wp2
    go_end0
    exact ⟨rfl, HHB.out, HO.out, Below.refl _ _, fun _ _ => rfl⟩

theorem own_kind {w : World} {B n : Nat} {e : TypeId} {v : Value} {xs : List Value} (h : w.ownsRow B e 1 v n xs) : ∀ g, v.ownBlock = some g → ∃ c fz, w.heap[g]? = some (.cells c e fz) := Lib.ownsRowF_kind (World.ownsRowF_of h)
/-- What a write into a Builder leaves. -/
theorem bd_put {w w1 w2 : World} {B b : Nat} {v v2 : Value} {l m : List Nat} {o : Obj} (hB : B ≤ b) (_ : B ≤ w.heap.size) (hb0 : ∃ p, w.heap[b]? = some (.cells #[p, v] 251 (0, 0))) (ho0 : w.ownsRow B 5 1 v l.length (cells8 l)) (hb1 : w1.heap[b]? = some (.cells #[.pointer (some ⟨b, 0, none⟩), v] 251 (0, 0))) (hbw : Below B w w1) (hk : ∀ k, k ≠ b → w1.heap[k]? = w.heap[k]?) (hne : v.ownBlock ≠ some b)
    (ho2 : w2.ownsRow B 5 1 v2 m.length (cells8 m)) (hg : (w1.alloc o).grownBy w2 v.ownBlock) :
    w2.heap[b]? = some (.cells #[.pointer (some ⟨b, 0, none⟩), v] 251 (0, 0)) ∧ BdN (w2.setCell ⟨b, 1, none⟩ v2) B b m ∧ Below B w (w2.setCell ⟨b, 1, none⟩ v2) ∧ Its w (w2.setCell ⟨b, 1, none⟩ v2) := by
  have hbs : b < w1.heap.size := (Array.getElem?_eq_some_iff.1 hb1).1
  have h2 : w2.heap[b]? = some (.cells #[.pointer (some ⟨b, 0, none⟩), v] 251 (0, 0)) := by
    rw [hg.block b (by simp; omega) (fun e => hne e.symm), Below.heap_alloc w1 o b hbs]
    exact hb1
  have hne2 : v2.ownBlock ≠ some b := Lib.ownBlock_ne ho2 h2 (by decide)
  refine ⟨h2, ⟨hB, .pointer (some ⟨b, 0, none⟩), v2, ?_, .inr rfl, ?_, hne2⟩, ?_, ?_⟩
  · rw [Go.heap_setCell_same w2 b 1 _ _ _ h2]
    rfl
  · have h3 : (w2.setCell ⟨b, 1, none⟩ v2).ownsRow B 5 1 v2 m.length (cells8 m) := ho2.kept (row := some b) ⟨rfl, rfl, rfl, by simp, fun i _ hi => Below.heap_setCell w2 _ _ i (fun e => hi (by rw [e]))⟩ (.inr hne2)
    exact h3
  · exact (((hbw.trans ((Below.refl _ _).alloc (by have := hbw.size; omega) o)).grown hg (by have := hbw.size; simp; omega) (fun g hgo => (ho0.lt g hgo).1))).setCell hB _
  · intro k s pos hks
    have n1 : k ≠ b := by
      rintro rfl
      obtain ⟨p, hp⟩ := hb0
      rw [hp] at hks
      cases hks
    have n2 : v.ownBlock ≠ some k := fun e => by
      obtain ⟨c, fz, h⟩ := own_kind ho0 k e
      rw [h] at hks
      cases hks
    have hk1 : w1.heap[k]? = some (.stringIter s pos) := (hk k n1).trans hks
    have hkl : k < w1.heap.size := (Array.getElem?_eq_some_iff.1 hk1).1
    rw [Below.heap_setCell w2 _ _ k n1, hg.block k (by simp; omega) (fun e => n2 e.symm), Below.heap_alloc w1 o k hkl]
    exact hk1
/-- A rune's bytes. -/
def encN (r : Nat) : List Nat := (encodeRuneZ (r : Int)).map Int.toNat
theorem enc_cells (r : Nat) : runeCells (r : Int) = cells8 (encN r) := by
  unfold runeCells cells8 encN encodeRuneZ
  repeat' split
  all_goals simp only [List.map_cons, List.map_nil]
  all_goals congr 1
  all_goals first
    | rfl
    | (congr 1; omega)
    | (congr 1
       · congr 1; omega
       · congr 1
         · congr 1; omega
         · first | rfl | (congr 1; (first | rfl | (congr 1; omega))))
theorem enc_len (r : Nat) : (encN r).length ≤ 4 ∧ 1 ≤ (encN r).length := by
  unfold encN encodeRuneZ
  repeat' split
  all_goals simp
set_option maxHeartbeats 4000000 in
theorem writeRune_any (B b r : Nat) (l : List Nat) (w : World) (hr : r ≤ 2147483647) (hl : l.length ≤ 1000000) (hBw : B ≤ w.heap.size) (h : BdN w B b l) :
    Calls Tryz.prog 143 #[.pointer (some ⟨b, 0, none⟩), .int .i32 (r : Nat)] w fun e w' => (∃ x, e = .returned (.tuple #[.int .i64 x, .nilIface])) ∧ BdN w' B b (l ++ encN r) ∧ Below B w w' ∧ Its w w' := by
  obtain ⟨hB, p, v, hb, hp, ho, hne⟩ := h
  have HCK := Lib.hid (copyCheck_anyN B b p v l w hB hb hp ho hne)
  have HB0 : Hid (∃ p, w.heap[b]? = some (.cells #[p, v] 251 (0, 0))) := ⟨p, hb⟩
  have HO := Lib.hid ho
  have HNE := Lib.hid hne
  clear hb hp ho hne
  go_enter Tryz.func143, Tryz.ntmps143
  go_wp2_with fail
  refine (HCK.out).mono ?_
  rintro e w1 ⟨rfl, hb1, ho1, hbw, hk1⟩
  have c1 : w1.cell? ⟨b, 1, none⟩ = some v := by rw [Lib.cell_of_heap hb1]; rfl
  have HB1 := Lib.hid hb1
  have HO1 := Lib.hid ho1
  have HBW := Lib.hid hbw
  have HK1 := Lib.hid hk1
  have HS1 : Hid (B ≤ w1.heap.size) := Nat.le_trans hBw hbw.size
  clear hb1 hbw hk1
  obtain ⟨A, cp, rfl⟩ := row_slice ho1
  clear ho1
  go_wp2_with fail
  refine (sh_utf8_AppendRune_plain B _ l.length (cells8 l) (r : Int) (by omega) (by omega) w1 HO1.out (by omega) HS1.out).mono ?_
  rintro e w2 ⟨v2, rfl, hown, o, hgrow⟩
  have hown2 : w2.ownsRow B 5 1 v2 (l ++ encN r).length (cells8 (l ++ encN r)) := by
    rw [enc_cells] at hown
    rw [List.length_append, cells8_app]
    rw [show (cells8 (encN r)).length = (encN r).length by simp [cells8]] at hown
    exact hown
  obtain ⟨h2, h3, h4, h5⟩ := bd_put hB hBw HB0.out HO.out HB1.out HBW.out HK1.out HNE.out hown2 hgrow
  have hel := (enc_len r).1
  have hll : (l ++ encN r).length ≤ 1000004 := by rw [List.length_append]; omega
  generalize (l ++ encN r).length = nl at *
  obtain ⟨A2, cp2, rfl⟩ := row_slice hown2
  have d1 : w2.cell? ⟨b, 1, none⟩ = some (.slice A l.length cp) := by rw [Lib.cell_of_heap h2]; rfl
  have df : w2.frozen? ⟨b, 1, none⟩ = false := Lib.frozen_of_heap h2 1
  have d2 : (w2.setCell ⟨b, 1, none⟩ (.slice A2 nl cp2)).cell? ⟨b, 1, none⟩ = some (.slice A2 nl cp2) := World.cell?_setCell_same _ _ _ d1
  have H3 := Lib.hid h3
  have H4 := Lib.hid h4
  have H5 := Lib.hid h5
  clear hown hown2 hgrow h2 h3 h4 h5
  go_wp2_with fail
  go_ret2
  exact ⟨⟨_, rfl⟩, H3.out, H4.out, H5.out⟩
theorem bdString_anyN (B b : Nat) (l : List Nat) (w : World) (hl : ∀ x ∈ l, x < 256) (hBw : B ≤ w.heap.size) (h : BdN w B b l) :
    Calls Tryz.prog 145 #[.pointer (some ⟨b, 0, none⟩)] w fun e w' => e = .returned (.string (text l)) ∧ Below B w w' := by
  obtain ⟨hB, p, v, hb, hp, ho, hne⟩ := h
  have hc : Lib.byteCells (l.map UInt8.ofNat) = cells8 l := by
    unfold Lib.byteCells cells8
    rw [List.map_map]
    apply List.map_congr_left
    intro x hx
    show Value.int .u8 ((UInt8.ofNat x).toNat : Int) = _
    rw [UInt8.toNat_ofNat_of_lt' (hl x hx)]
  have hib : Lib.IsBuilder 251 5 B b (Lib.byteCells (l.map UInt8.ofNat)) w := by
    rw [hc]
    have hq : BuilderAt 251 5 B b p (cells8 l) w := ⟨hB, v, hb, by rw [show (cells8 l).length = l.length by simp [cells8]]; exact ho, hne⟩
    rcases hp with rfl | rfl
    · exact .inl hq
    · exact .inr hq
  exact sh_Builder_String_any B b (l.map UInt8.ofNat) w hib hBw
end Go.Proofs.YtjnoapbddifcpaaGreatDoor
