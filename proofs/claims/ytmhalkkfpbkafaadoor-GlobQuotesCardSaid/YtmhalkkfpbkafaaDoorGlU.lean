/-
  Glob: the Builder's WriteByte and String; Quote, on both sides.
-/
import Derived.Test.YtmhalkkfpbkafaaDoorGlQ
namespace Go.Proofs.YtmhalkkfpbkafaaDoor
set_option maxRecDepth 100000
set_option linter.unusedSimpArgs false
open Go.RowKit Go.Deep Go.Joins
open Go.Lib hiding intOf

/-- A Builder in block b, so many bytes in it. -/
def Bd (w : World) (B b : Nat) (l : List Nat) : Prop :=
  B ≤ b ∧ ∃ p v, w.heap[b]? = some (.cells #[p, v] 71 (0, 0)) ∧ (p = .pointer none ∨ p = .pointer (some ⟨b, 0, none⟩)) ∧ w.ownsRow B 5 1 v l.length (cells8 l) ∧ v.ownBlock ≠ some b
/-- Iterators stay. -/
def Its (w w' : World) : Prop := ∀ (k : Nat) s pos, w.heap[k]? = some (.stringIter s pos) → w'.heap[k]? = some (.stringIter s pos)
theorem Its.refl (w : World) : Its w w := fun _ _ _ h => h
theorem Its.trans {a b c : World} (h : Its a b) (k : Its b c) : Its a c := fun i s p e => k i s p (h i s p e)
theorem info_bd : (Tryd.prog.info? 71).map (·.size) = some 2 := by kernel_rfl
theorem lies_bd : liesAt Tryd.prog Tryd.prog.depth 71 (2 / Tryd.prog.cellsOf 71) 0 71 1 = true := by kernel_rfl
theorem copyCheck_any (B b : Nat) (p v : Value) (l : List Nat) (w : World) (hB : B ≤ b) (hb : w.heap[b]? = some (.cells #[p, v] 71 (0, 0))) (hp : p = .pointer none ∨ p = .pointer (some ⟨b, 0, none⟩)) (ho : w.ownsRow B 5 1 v l.length (cells8 l)) (hne : v.ownBlock ≠ some b) :
    Calls Tryd.prog 62 #[.pointer (some ⟨b, 0, none⟩)] w fun e w' => e = .returned (.tuple #[]) ∧ w'.heap[b]? = some (.cells #[.pointer (some ⟨b, 0, none⟩), v] 71 (0, 0)) ∧ w'.ownsRow B 5 1 v l.length (cells8 l) ∧ Below B w w' ∧ (∀ k, k ≠ b → w'.heap[k]? = w.heap[k]?) := by
  obtain ⟨j, hj, hjs⟩ := Option.map_eq_some_iff.1 info_bd
  have c0 : w.cell? ⟨b, 0, none⟩ = some p := by rw [Lib.cell_of_heap hb]; rfl
  rcases hp with rfl | rfl
  · have hbd : BuilderAt 71 5 B b (.pointer none) (cells8 l) w := ⟨hB, v, hb, by rw [show (cells8 l).length = l.length by simp [cells8]]; exact ho, hne⟩
    have hsh := hbd.shape
    have hfz := hbd.frozen0
    have HBD := Lib.hid hbd
    have HHB := Lib.hid hb
    clear hb ho hne hbd
    go_enter Tryd.func62, Tryd.ntmps62
    go_wp2
    rw [Lib.run_to_unsafe w ⟨b, 0, none⟩ Tryd.underlying69 Tryd.underlying142 hj (by rw [hjs]; decide) hsh (Nat.zero_lt_succ 1)]
    simp only [Result.andThen]
    rw [Oper.upon_value]
    go_wp2
    rw [run_callFunc_extern Tryd.func79 (by kernel_rfl) (by kernel_rfl) (by kernel_rfl) (e := Extern.AbiNoEscape.same) (by kernel_rfl)]
    rw [Lib.run_noEscape]
    simp only [Result.andThen]
    rw [Oper.upon_value]
    go_wp2
    rw [Lib.run_from_unsafe w ⟨b, 0, none⟩ Tryd.underlying142 Tryd.underlying69 hj hsh lies_bd]
    simp only [Result.andThen]
    rw [Oper.upon_value]
    go_wp2
    go_end0
    have hu := HBD.out.used (.pointer (some ⟨b, 0, none⟩))
    refine ⟨rfl, ?_, ?_, (Below.refl _ _).setCell hB _, fun k hk => Below.heap_setCell w _ _ k hk⟩
    · rw [Go.heap_setCell_same w b 0 _ _ _ HHB.out]
      rfl
    · obtain ⟨_, v', hv', ho', _⟩ := hu
      have e : v' = v := by
        rw [Go.heap_setCell_same w b 0 _ _ _ HHB.out] at hv'
        have := Option.some.inj hv'
        injection this with h1
        simp at h1
        exact h1.symm
      subst e
      rw [show (cells8 l).length = l.length by simp [cells8]] at ho'
      exact ho'
  · have HHB := Lib.hid hb
    have HO := Lib.hid ho
    clear hb ho hne
    go_enter Tryd.func62, Tryd.ntmps62
    go_wp2
    rw [Lib.run_neq_ptr_same w _ Tryd.underlying69 hj]
    go_wp2
    go_end0
    exact ⟨rfl, HHB.out, HO.out, Below.refl _ _, fun _ _ => rfl⟩

theorem own_kind {w : World} {B n : Nat} {e : TypeId} {v : Value} {xs : List Value} (h : w.ownsRow B e 1 v n xs) : ∀ g, v.ownBlock = some g → ∃ c fz, w.heap[g]? = some (.cells c e fz) := Lib.ownsRowF_kind (World.ownsRowF_of h)
/-- What a write into a Builder leaves. -/
theorem bd_put {w w1 w2 : World} {B b : Nat} {v v2 : Value} {l m : List Nat} {o : Obj} (hB : B ≤ b) (_ : B ≤ w.heap.size) (hb0 : ∃ p, w.heap[b]? = some (.cells #[p, v] 71 (0, 0))) (ho0 : w.ownsRow B 5 1 v l.length (cells8 l)) (hb1 : w1.heap[b]? = some (.cells #[.pointer (some ⟨b, 0, none⟩), v] 71 (0, 0))) (hbw : Below B w w1) (hk : ∀ k, k ≠ b → w1.heap[k]? = w.heap[k]?) (hne : v.ownBlock ≠ some b)
    (ho2 : w2.ownsRow B 5 1 v2 m.length (cells8 m)) (hg : (w1.alloc o).grownBy w2 v.ownBlock) :
    w2.heap[b]? = some (.cells #[.pointer (some ⟨b, 0, none⟩), v] 71 (0, 0)) ∧ Bd (w2.setCell ⟨b, 1, none⟩ v2) B b m ∧ Below B w (w2.setCell ⟨b, 1, none⟩ v2) ∧ Its w (w2.setCell ⟨b, 1, none⟩ v2) := by
  have hbs : b < w1.heap.size := (Array.getElem?_eq_some_iff.1 hb1).1
  have h2 : w2.heap[b]? = some (.cells #[.pointer (some ⟨b, 0, none⟩), v] 71 (0, 0)) := by
    rw [hg.block b (by simp; omega) (fun e => hne e.symm), Below.heap_alloc w1 o b hbs]
    exact hb1
  have hne2 : v2.ownBlock ≠ some b := Lib.ownBlock_ne ho2 h2 (by decide)
  refine ⟨h2, ⟨hB, .pointer (some ⟨b, 0, none⟩), v2, ?_, .inr rfl, ?_, hne2⟩, ?_, ?_⟩
  · rw [Go.heap_setCell_same w2 b 1 _ _ _ h2]
    rfl
  · have h3 : (w2.setCell ⟨b, 1, none⟩ v2).ownsRow B 5 1 v2 m.length (cells8 m) := ho2.kept (row := some b) ⟨rfl, rfl, rfl, by simp, fun i _ hi => Below.heap_setCell w2 _ _ i (fun e => hi (by rw [e]))⟩ (.inr hne2)
    exact h3
  · exact (((hbw.trans ((Below.refl _ _).alloc (by have := hbw.size; omega) o)).grown hg (by have := hbw.size; simp; omega) (fun g hgo => (ho0.lt g hgo).1))).setCell hB _
  · intro k s pos hks
    have n1 : k ≠ b := by
      rintro rfl
      obtain ⟨p, hp⟩ := hb0
      rw [hp] at hks
      cases hks
    have n2 : v.ownBlock ≠ some k := fun e => by
      obtain ⟨c, fz, h⟩ := own_kind ho0 k e
      rw [h] at hks
      cases hks
    have hk1 : w1.heap[k]? = some (.stringIter s pos) := (hk k n1).trans hks
    have hkl : k < w1.heap.size := (Array.getElem?_eq_some_iff.1 hk1).1
    rw [Below.heap_setCell w2 _ _ k n1, hg.block k (by simp; omega) (fun e => n2 e.symm), Below.heap_alloc w1 o k hkl]
    exact hk1
set_option maxHeartbeats 4000000 in
theorem writeByte_any (B b c : Nat) (l : List Nat) (w : World) (_ : c < 256) (hl : l.length ≤ 1000000) (hBw : B ≤ w.heap.size) (h : Bd w B b l) :
    Calls Tryd.prog 31 #[.pointer (some ⟨b, 0, none⟩), .int .u8 (c : Nat)] w fun e w' => e = .returned .nilIface ∧ Bd w' B b (l ++ [c]) ∧ Below B w w' ∧ Its w w' := by
  obtain ⟨hB, p, v, hb, hp, ho, hne⟩ := h
  obtain ⟨i0, hi, hz0, hz1, hz2⟩ := info_parts info8
  have HCK := Lib.hid (copyCheck_any B b p v l w hB hb hp ho hne)
  have HB0 : Hid (∃ p, w.heap[b]? = some (.cells #[p, v] 71 (0, 0))) := ⟨p, hb⟩
  have HO := Lib.hid ho
  have HNE := Lib.hid hne
  clear hb hp ho hne
  go_enter Tryd.func31, Tryd.ntmps31
  go_wp2_with fail
  refine (HCK.out).mono ?_
  rintro e w1 ⟨rfl, hb1, ho1, hbw, hk1⟩
  have c1 : w1.cell? ⟨b, 1, none⟩ = some v := by rw [Lib.cell_of_heap hb1]; rfl
  have HB1 := Lib.hid hb1
  have HO1 := Lib.hid ho1
  have HBW := Lib.hid hbw
  have HK1 := Lib.hid hk1
  have HS1 : Hid (B ≤ w1.heap.size) := Nat.le_trans hBw hbw.size
  clear hb1 hbw hk1
  obtain ⟨A, cp, rfl⟩ := row_slice2 ho1
  clear ho1
  go_wp2_with (at_builtin; refine wpList_append_own_at _ rfl (.tmp 11) (.tmp 13) _ rfl B 5 i0 (.int .u8 0) 1 1 Tryd.underlying24 hi hz0 hz1 hz2 rfl (by decide) _ l.length (cells8 l) rfl (HO1.out.alloc _) ⟨w1.heap.size, 0, none⟩ 1 1 [.int .u8 (c : Nat)] rfl rfl ?c1 ?c2 ?c3 ?c4 ?c5 ?_)
  case c1 => exact cell_one_new _ _ _
  case c2 => intro u hu; simp at hu; subst hu; rfl
  case c3 => unfold maxLen; omega
  case c4 => omega
  case c5 => have := HS1.out; simp; omega
  intro v2 w2 hown hgrow _ hat
  have hown2 : w2.ownsRow B 5 1 v2 (l ++ [c]).length (cells8 (l ++ [c])) := by
    rw [List.length_append, cells8_app]
    exact hown
  obtain ⟨h2, h3, h4, h5⟩ := bd_put hB hBw HB0.out HO.out HB1.out HBW.out HK1.out HNE.out hown2 hgrow
  have d1 : w2.cell? ⟨b, 1, none⟩ = some (.slice A l.length cp) := by rw [Lib.cell_of_heap h2]; rfl
  have df : w2.frozen? ⟨b, 1, none⟩ = false := Lib.frozen_of_heap h2 1
  have H3 := Lib.hid h3
  have H4 := Lib.hid h4
  have H5 := Lib.hid h5
  have hnl : Hid ((l ++ [c]).length = l.length + 1) := by show _ = _; simp
  obtain ⟨A2, cp2, rfl⟩ := row_slice2 hown2
  rw [hnl.out] at H3 H4 H5
  clear hown hown2 hgrow hat h2 h3 h4 h5
  go_wp2_with fail
  go_ret
  exact ⟨rfl, H3.out, H4.out, H5.out⟩

theorem bdString_any (B b : Nat) (l : List Nat) (w : World) (hl : ∀ x ∈ l, x < 256) (hBw : B ≤ w.heap.size) (h : Bd w B b l) :
    Calls Tryd.prog 32 #[.pointer (some ⟨b, 0, none⟩)] w fun e w' => e = .returned (.string (text l)) ∧ Below B w w' := by
  obtain ⟨hB, p, v, hb, hp, ho, hne⟩ := h
  have hc : Lib.byteCells (l.map UInt8.ofNat) = cells8 l := by
    unfold Lib.byteCells cells8
    rw [List.map_map]
    apply List.map_congr_left
    intro x hx
    show Value.int .u8 ((UInt8.ofNat x).toNat : Int) = _
    rw [UInt8.toNat_ofNat_of_lt' (hl x hx)]
  have hib : Lib.IsBuilder 71 5 B b (Lib.byteCells (l.map UInt8.ofNat)) w := by
    rw [hc]
    have hq : BuilderAt 71 5 B b p (cells8 l) w := ⟨hB, v, hb, by rw [show (cells8 l).length = l.length by simp [cells8]]; exact ho, hne⟩
    rcases hp with rfl | rfl
    · exact .inl hq
    · exact .inr hq
  exact sh_Builder_String_any B b (l.map UInt8.ofNat) w hib hBw
theorem zero_bdE : ∀ w : World, (zeroValue 71).run Tryd.prog w = .ok (.agg #[.pointer none, .slice none 0 0]) w := fun _ => by kernel_rfl
theorem bd_freshE (w : World) : Bd (w.alloc (.cells #[.pointer none, .slice none 0 0] 71)) w.heap.size w.heap.size [] :=
  ⟨Nat.le_refl _, .pointer none, .slice none 0 0, heap_alloc_new w _, .inl rfl, World.ownsRow_nil _ _ _ _, by simp [Value.ownBlock]⟩
/-- A byte of a quote. -/
def quo1 (c : Nat) : List Nat := if c = 42 ∨ c = 63 ∨ c = 91 ∨ c = 92 then [92, c] else [c]
def quoL : List Nat → List Nat
  | [] => []
  | c :: l => quo1 c ++ quoL l
theorem quoL_snoc (l : List Nat) (c : Nat) : quoL (l ++ [c]) = quoL l ++ quo1 c := by
  induction l with
  | nil => simp [quoL]
  | cons x l ih => simp only [List.cons_append, quoL, ih, List.append_assoc]
theorem quo1_lt {c : Nat} (h : c < 256) : ∀ x ∈ quo1 c, x < 256 := by
  unfold quo1
  split
  · intro x hx; simp at hx; omega
  · intro x hx; simp at hx; omega
theorem quoL_lt : ∀ l : List Nat, (∀ x ∈ l, x < 256) → ∀ x ∈ quoL l, x < 256
  | [], _ => fun x hx => by cases hx
  | c :: l, h => fun x hx => by
    rcases List.mem_append.1 hx with hx | hx
    · exact quo1_lt (h c (by simp)) x hx
    · exact quoL_lt l (fun y hy => h y (by simp [hy])) x hx
theorem quoL_len : ∀ l : List Nat, (quoL l).length ≤ l.length * 2
  | [] => Nat.le_refl _
  | c :: l => by
    have := quoL_len l
    have h : (quo1 c).length ≤ 2 := by unfold quo1; split <;> simp
    simp only [quoL, List.length_append, List.length_cons]
    omega
theorem nums_lt256 (s : ByteArray) : ∀ x ∈ nums s, x < 256 := by
  intro x hx
  obtain ⟨u, _, rfl⟩ := List.mem_map.1 hx
  exact u.toNat_lt
set_option maxHeartbeats 8000000 in
theorem rquote_any (s : ByteArray) (hs : s.size ≤ 100000) (w : World) :
    Calls Tryd.prog 10 #[.string s] w fun e w' => e = .returned (.string (text (quoL (nums s)))) ∧ Below w.heap.size w w' := by
  obtain ⟨i0, hi, hz0, hz1, hz2⟩ := info_parts info8
  go_enter Tryd.func10, Tryd.ntmps10
  go_wp2_with fail
  go_loopw [3, 4] (fun v i wr => ∃ (k : Nat) (l : List Nat), i = .int .i64 (k : Nat) ∧ k ≤ s.size ∧ Hid (l = quoL ((nums s).take k)) ∧ l.length ≤ k * 2 ∧ Hid (wr.ownsRow w.heap.size 5 1 v l.length (cells8 l)) ∧ Hid (Below w.heap.size w wr)) (fun _ i _ => s.size - (intOf i).toNat)
  case atStart => exact ⟨0, [], rfl, Nat.zero_le _, rfl, Nat.le_refl _, World.ownsRow_nil _ _ _ _, Below.refl _ _⟩
  case round =>
    obtain ⟨k, l, rfl, hk, HL, hll, HO, HB⟩ := hrel
    obtain ⟨A2, c2, rfl⟩ := row_slice2 HO.out
    by_cases hks : k < s.size
    · have gk : decide ((k : Int) < (s.size : Int)) = true := decide_eq_true (by omega)
      have hlt : s[k].toNat < 256 := s[k].toNat_lt
      have HSN : Hid (quoL ((nums s).take (k + 1)) = l ++ quo1 s[k].toNat) := by show _ = _; rw [nums_snoc s k hks, quoL_snoc, HL.out]
      by_cases hq : s[k].toNat = 42 ∨ s[k].toNat = 63 ∨ s[k].toNat = 91 ∨ s[k].toNat = 92
      · have hsn := HSN.out
        unfold quo1 at hsn
        rw [if_pos hq] at hsn
        have HS2 : Hid (l ++ [92] ++ [s[k].toNat] = quoL ((nums s).take (k + 1))) := by show _ = _; rw [hsn, List.append_assoc]; rfl
        have hcs : l.length + 1 ≤ 1000000 := by omega
        rcases hq with hq | hq | hq | hq
        · have q0 : ((s[k].toNat : Int) == 42) = true := by rw [beq_iff_eq]; omega
          have q63 : ((s[k].toNat : Int) == 63) = false := by rw [beq_eq_false_iff_ne]; omega
          have q91 : ((s[k].toNat : Int) == 91) = false := by rw [beq_eq_false_iff_ne]; omega
          have q92 : ((s[k].toNat : Int) == 92) = false := by rw [beq_eq_false_iff_ne]; omega
          clear hsn hq HSN
          have HX7 := Lib.hid (heap_alloc_new wr (.cells #[.int .u8 92] 5))
          have HO7 := Lib.hid (HO.out.alloc (.cells #[.int .u8 92] 5))
          have HB7 : Hid (Below w.heap.size w (wr.alloc (.cells #[.int .u8 92] 5))) := HB.out.alloc HB.out.size _
          have HS7 : Hid (w.heap.size ≤ (wr.alloc (.cells #[.int .u8 92] 5)).heap.size) := HB7.out.size
          have HLT := Lib.hid HO.out.lt
          go_upto_region 7 with (at_builtin; go_must (refine wpList_append_own_at _ rfl (.tmp 33) (.tmp 34) _ rfl w.heap.size 5 i0 (.int .u8 0) 1 1 Tryd.underlying24 hi hz0 hz1 hz2 rfl (by decide) (.slice A2 l.length c2) l.length _ rfl HO7.out ⟨wr.heap.size, 0, none⟩ 1 1 [.int .u8 92] rfl rfl (by exact news1 HX7.out) (by intro u hu; simp at hu; subst hu; rfl) (by unfold maxLen; omega) (by omega) (by exact HS7.out) ?_; intro v' w8 hown' hgrow hnil' hloc; have HO8 := Lib.hid hown'; have HB8 := Lib.hid (HB7.out.grown hgrow HS7.out (fun q hq => (HLT.out q hq).1)); obtain ⟨A8, c8, rfl⟩ := row_slice2 hown'; have HL8 := Lib.hid (hgrow.size); clear hown' hgrow hnil' hloc))
          have HO8' : Hid (w8.ownsRow w.heap.size 5 1 (.slice A8 (l ++ [92]).length c8) (l ++ [92]).length (cells8 (l ++ [92]))) := by
            show World.ownsRow _ _ _ _ _ _ _
            rw [List.length_append, cells8_app]
            exact HO8.out
          clear HX7 HO7 HB7 HS7 HLT
          have HX7 := Lib.hid (heap_alloc_new w8 (.cells #[.int .u8 (s[k].toNat : Nat)] 5))
          have HO7 := Lib.hid (HO8.out.alloc (.cells #[.int .u8 (s[k].toNat : Nat)] 5))
          have HB7 : Hid (Below w.heap.size w (w8.alloc (.cells #[.int .u8 (s[k].toNat : Nat)] 5))) := HB8.out.alloc HB8.out.size _
          have HS7 : Hid (w.heap.size ≤ (w8.alloc (.cells #[.int .u8 (s[k].toNat : Nat)] 5)).heap.size) := HB7.out.size
          have HLT := Lib.hid HO8.out.lt
          go_wp2_with (at_builtin; go_must (refine wpList_append_own_at _ rfl (.tmp 36) (.tmp 40) _ rfl w.heap.size 5 i0 (.int .u8 0) 1 1 Tryd.underlying24 hi hz0 hz1 hz2 rfl (by decide) (.slice A8 (l.length + 1) c8) (l.length + 1) _ rfl HO7.out ⟨w8.heap.size, 0, none⟩ 1 1 [.int .u8 (s[k].toNat : Nat)] rfl rfl (by exact news1 HX7.out) (by intro u hu; simp at hu; subst hu; rfl) (by unfold maxLen; omega) (by omega) (by exact HS7.out) ?_; intro v' w9 hown' hgrow hnil' hloc; have HO9 := Lib.hid hown'; have HB9 := Lib.hid (HB7.out.grown hgrow HS7.out (fun q hq => (HLT.out q hq).1)); clear hown' hgrow hnil' hloc))
          go_roundw
          case rel =>
            refine ⟨k + 1, l ++ [92] ++ [s[k].toNat], by go_num, by omega, HS2.out, by rw [List.length_append, List.length_append]; show l.length + 1 + 1 ≤ _; omega, ?_, HB9⟩
            show World.ownsRow _ _ _ _ _ _ _
            rw [List.length_append, List.length_append, cells8_app, cells8_app]
            exact HO9.out
          case measure => simp [intOf]; omega
        · have q0 : ((s[k].toNat : Int) == 63) = true := by rw [beq_iff_eq]; omega
          have q42 : ((s[k].toNat : Int) == 42) = false := by rw [beq_eq_false_iff_ne]; omega
          have q91 : ((s[k].toNat : Int) == 91) = false := by rw [beq_eq_false_iff_ne]; omega
          have q92 : ((s[k].toNat : Int) == 92) = false := by rw [beq_eq_false_iff_ne]; omega
          clear hsn hq HSN
          have HX7 := Lib.hid (heap_alloc_new wr (.cells #[.int .u8 92] 5))
          have HO7 := Lib.hid (HO.out.alloc (.cells #[.int .u8 92] 5))
          have HB7 : Hid (Below w.heap.size w (wr.alloc (.cells #[.int .u8 92] 5))) := HB.out.alloc HB.out.size _
          have HS7 : Hid (w.heap.size ≤ (wr.alloc (.cells #[.int .u8 92] 5)).heap.size) := HB7.out.size
          have HLT := Lib.hid HO.out.lt
          go_upto_region 7 with (at_builtin; go_must (refine wpList_append_own_at _ rfl (.tmp 33) (.tmp 34) _ rfl w.heap.size 5 i0 (.int .u8 0) 1 1 Tryd.underlying24 hi hz0 hz1 hz2 rfl (by decide) (.slice A2 l.length c2) l.length _ rfl HO7.out ⟨wr.heap.size, 0, none⟩ 1 1 [.int .u8 92] rfl rfl (by exact news1 HX7.out) (by intro u hu; simp at hu; subst hu; rfl) (by unfold maxLen; omega) (by omega) (by exact HS7.out) ?_; intro v' w8 hown' hgrow hnil' hloc; have HO8 := Lib.hid hown'; have HB8 := Lib.hid (HB7.out.grown hgrow HS7.out (fun q hq => (HLT.out q hq).1)); obtain ⟨A8, c8, rfl⟩ := row_slice2 hown'; have HL8 := Lib.hid (hgrow.size); clear hown' hgrow hnil' hloc))
          have HO8' : Hid (w8.ownsRow w.heap.size 5 1 (.slice A8 (l ++ [92]).length c8) (l ++ [92]).length (cells8 (l ++ [92]))) := by
            show World.ownsRow _ _ _ _ _ _ _
            rw [List.length_append, cells8_app]
            exact HO8.out
          clear HX7 HO7 HB7 HS7 HLT
          have HX7 := Lib.hid (heap_alloc_new w8 (.cells #[.int .u8 (s[k].toNat : Nat)] 5))
          have HO7 := Lib.hid (HO8.out.alloc (.cells #[.int .u8 (s[k].toNat : Nat)] 5))
          have HB7 : Hid (Below w.heap.size w (w8.alloc (.cells #[.int .u8 (s[k].toNat : Nat)] 5))) := HB8.out.alloc HB8.out.size _
          have HS7 : Hid (w.heap.size ≤ (w8.alloc (.cells #[.int .u8 (s[k].toNat : Nat)] 5)).heap.size) := HB7.out.size
          have HLT := Lib.hid HO8.out.lt
          go_wp2_with (at_builtin; go_must (refine wpList_append_own_at _ rfl (.tmp 36) (.tmp 40) _ rfl w.heap.size 5 i0 (.int .u8 0) 1 1 Tryd.underlying24 hi hz0 hz1 hz2 rfl (by decide) (.slice A8 (l.length + 1) c8) (l.length + 1) _ rfl HO7.out ⟨w8.heap.size, 0, none⟩ 1 1 [.int .u8 (s[k].toNat : Nat)] rfl rfl (by exact news1 HX7.out) (by intro u hu; simp at hu; subst hu; rfl) (by unfold maxLen; omega) (by omega) (by exact HS7.out) ?_; intro v' w9 hown' hgrow hnil' hloc; have HO9 := Lib.hid hown'; have HB9 := Lib.hid (HB7.out.grown hgrow HS7.out (fun q hq => (HLT.out q hq).1)); clear hown' hgrow hnil' hloc))
          go_roundw
          case rel =>
            refine ⟨k + 1, l ++ [92] ++ [s[k].toNat], by go_num, by omega, HS2.out, by rw [List.length_append, List.length_append]; show l.length + 1 + 1 ≤ _; omega, ?_, HB9⟩
            show World.ownsRow _ _ _ _ _ _ _
            rw [List.length_append, List.length_append, cells8_app, cells8_app]
            exact HO9.out
          case measure => simp [intOf]; omega
        · have q0 : ((s[k].toNat : Int) == 91) = true := by rw [beq_iff_eq]; omega
          have q42 : ((s[k].toNat : Int) == 42) = false := by rw [beq_eq_false_iff_ne]; omega
          have q63 : ((s[k].toNat : Int) == 63) = false := by rw [beq_eq_false_iff_ne]; omega
          have q92 : ((s[k].toNat : Int) == 92) = false := by rw [beq_eq_false_iff_ne]; omega
          clear hsn hq HSN
          have HX7 := Lib.hid (heap_alloc_new wr (.cells #[.int .u8 92] 5))
          have HO7 := Lib.hid (HO.out.alloc (.cells #[.int .u8 92] 5))
          have HB7 : Hid (Below w.heap.size w (wr.alloc (.cells #[.int .u8 92] 5))) := HB.out.alloc HB.out.size _
          have HS7 : Hid (w.heap.size ≤ (wr.alloc (.cells #[.int .u8 92] 5)).heap.size) := HB7.out.size
          have HLT := Lib.hid HO.out.lt
          go_upto_region 7 with (at_builtin; go_must (refine wpList_append_own_at _ rfl (.tmp 33) (.tmp 34) _ rfl w.heap.size 5 i0 (.int .u8 0) 1 1 Tryd.underlying24 hi hz0 hz1 hz2 rfl (by decide) (.slice A2 l.length c2) l.length _ rfl HO7.out ⟨wr.heap.size, 0, none⟩ 1 1 [.int .u8 92] rfl rfl (by exact news1 HX7.out) (by intro u hu; simp at hu; subst hu; rfl) (by unfold maxLen; omega) (by omega) (by exact HS7.out) ?_; intro v' w8 hown' hgrow hnil' hloc; have HO8 := Lib.hid hown'; have HB8 := Lib.hid (HB7.out.grown hgrow HS7.out (fun q hq => (HLT.out q hq).1)); obtain ⟨A8, c8, rfl⟩ := row_slice2 hown'; have HL8 := Lib.hid (hgrow.size); clear hown' hgrow hnil' hloc))
          have HO8' : Hid (w8.ownsRow w.heap.size 5 1 (.slice A8 (l ++ [92]).length c8) (l ++ [92]).length (cells8 (l ++ [92]))) := by
            show World.ownsRow _ _ _ _ _ _ _
            rw [List.length_append, cells8_app]
            exact HO8.out
          clear HX7 HO7 HB7 HS7 HLT
          have HX7 := Lib.hid (heap_alloc_new w8 (.cells #[.int .u8 (s[k].toNat : Nat)] 5))
          have HO7 := Lib.hid (HO8.out.alloc (.cells #[.int .u8 (s[k].toNat : Nat)] 5))
          have HB7 : Hid (Below w.heap.size w (w8.alloc (.cells #[.int .u8 (s[k].toNat : Nat)] 5))) := HB8.out.alloc HB8.out.size _
          have HS7 : Hid (w.heap.size ≤ (w8.alloc (.cells #[.int .u8 (s[k].toNat : Nat)] 5)).heap.size) := HB7.out.size
          have HLT := Lib.hid HO8.out.lt
          go_wp2_with (at_builtin; go_must (refine wpList_append_own_at _ rfl (.tmp 36) (.tmp 40) _ rfl w.heap.size 5 i0 (.int .u8 0) 1 1 Tryd.underlying24 hi hz0 hz1 hz2 rfl (by decide) (.slice A8 (l.length + 1) c8) (l.length + 1) _ rfl HO7.out ⟨w8.heap.size, 0, none⟩ 1 1 [.int .u8 (s[k].toNat : Nat)] rfl rfl (by exact news1 HX7.out) (by intro u hu; simp at hu; subst hu; rfl) (by unfold maxLen; omega) (by omega) (by exact HS7.out) ?_; intro v' w9 hown' hgrow hnil' hloc; have HO9 := Lib.hid hown'; have HB9 := Lib.hid (HB7.out.grown hgrow HS7.out (fun q hq => (HLT.out q hq).1)); clear hown' hgrow hnil' hloc))
          go_roundw
          case rel =>
            refine ⟨k + 1, l ++ [92] ++ [s[k].toNat], by go_num, by omega, HS2.out, by rw [List.length_append, List.length_append]; show l.length + 1 + 1 ≤ _; omega, ?_, HB9⟩
            show World.ownsRow _ _ _ _ _ _ _
            rw [List.length_append, List.length_append, cells8_app, cells8_app]
            exact HO9.out
          case measure => simp [intOf]; omega
        · have q0 : ((s[k].toNat : Int) == 92) = true := by rw [beq_iff_eq]; omega
          have q42 : ((s[k].toNat : Int) == 42) = false := by rw [beq_eq_false_iff_ne]; omega
          have q63 : ((s[k].toNat : Int) == 63) = false := by rw [beq_eq_false_iff_ne]; omega
          have q91 : ((s[k].toNat : Int) == 91) = false := by rw [beq_eq_false_iff_ne]; omega
          clear hsn hq HSN
          have HX7 := Lib.hid (heap_alloc_new wr (.cells #[.int .u8 92] 5))
          have HO7 := Lib.hid (HO.out.alloc (.cells #[.int .u8 92] 5))
          have HB7 : Hid (Below w.heap.size w (wr.alloc (.cells #[.int .u8 92] 5))) := HB.out.alloc HB.out.size _
          have HS7 : Hid (w.heap.size ≤ (wr.alloc (.cells #[.int .u8 92] 5)).heap.size) := HB7.out.size
          have HLT := Lib.hid HO.out.lt
          go_upto_region 7 with (at_builtin; go_must (refine wpList_append_own_at _ rfl (.tmp 33) (.tmp 34) _ rfl w.heap.size 5 i0 (.int .u8 0) 1 1 Tryd.underlying24 hi hz0 hz1 hz2 rfl (by decide) (.slice A2 l.length c2) l.length _ rfl HO7.out ⟨wr.heap.size, 0, none⟩ 1 1 [.int .u8 92] rfl rfl (by exact news1 HX7.out) (by intro u hu; simp at hu; subst hu; rfl) (by unfold maxLen; omega) (by omega) (by exact HS7.out) ?_; intro v' w8 hown' hgrow hnil' hloc; have HO8 := Lib.hid hown'; have HB8 := Lib.hid (HB7.out.grown hgrow HS7.out (fun q hq => (HLT.out q hq).1)); obtain ⟨A8, c8, rfl⟩ := row_slice2 hown'; have HL8 := Lib.hid (hgrow.size); clear hown' hgrow hnil' hloc))
          have HO8' : Hid (w8.ownsRow w.heap.size 5 1 (.slice A8 (l ++ [92]).length c8) (l ++ [92]).length (cells8 (l ++ [92]))) := by
            show World.ownsRow _ _ _ _ _ _ _
            rw [List.length_append, cells8_app]
            exact HO8.out
          clear HX7 HO7 HB7 HS7 HLT
          have HX7 := Lib.hid (heap_alloc_new w8 (.cells #[.int .u8 (s[k].toNat : Nat)] 5))
          have HO7 := Lib.hid (HO8.out.alloc (.cells #[.int .u8 (s[k].toNat : Nat)] 5))
          have HB7 : Hid (Below w.heap.size w (w8.alloc (.cells #[.int .u8 (s[k].toNat : Nat)] 5))) := HB8.out.alloc HB8.out.size _
          have HS7 : Hid (w.heap.size ≤ (w8.alloc (.cells #[.int .u8 (s[k].toNat : Nat)] 5)).heap.size) := HB7.out.size
          have HLT := Lib.hid HO8.out.lt
          go_wp2_with (at_builtin; go_must (refine wpList_append_own_at _ rfl (.tmp 36) (.tmp 40) _ rfl w.heap.size 5 i0 (.int .u8 0) 1 1 Tryd.underlying24 hi hz0 hz1 hz2 rfl (by decide) (.slice A8 (l.length + 1) c8) (l.length + 1) _ rfl HO7.out ⟨w8.heap.size, 0, none⟩ 1 1 [.int .u8 (s[k].toNat : Nat)] rfl rfl (by exact news1 HX7.out) (by intro u hu; simp at hu; subst hu; rfl) (by unfold maxLen; omega) (by omega) (by exact HS7.out) ?_; intro v' w9 hown' hgrow hnil' hloc; have HO9 := Lib.hid hown'; have HB9 := Lib.hid (HB7.out.grown hgrow HS7.out (fun q hq => (HLT.out q hq).1)); clear hown' hgrow hnil' hloc))
          go_roundw
          case rel =>
            refine ⟨k + 1, l ++ [92] ++ [s[k].toNat], by go_num, by omega, HS2.out, by rw [List.length_append, List.length_append]; show l.length + 1 + 1 ≤ _; omega, ?_, HB9⟩
            show World.ownsRow _ _ _ _ _ _ _
            rw [List.length_append, List.length_append, cells8_app, cells8_app]
            exact HO9.out
          case measure => simp [intOf]; omega
      · have hsn := HSN.out
        unfold quo1 at hsn
        rw [if_neg hq] at hsn
        have HS2 : Hid (l ++ [s[k].toNat] = quoL ((nums s).take (k + 1))) := hsn.symm
        have q1 : ((s[k].toNat : Int) == 42) = false := by rw [beq_eq_false_iff_ne]; omega
        have q2 : ((s[k].toNat : Int) == 63) = false := by rw [beq_eq_false_iff_ne]; omega
        have q3 : ((s[k].toNat : Int) == 91) = false := by rw [beq_eq_false_iff_ne]; omega
        have q4 : ((s[k].toNat : Int) == 92) = false := by rw [beq_eq_false_iff_ne]; omega
        clear hsn hq HSN
        have HX7 := Lib.hid (heap_alloc_new wr (.cells #[.int .u8 (s[k].toNat : Nat)] 5))
        have HO7 := Lib.hid (HO.out.alloc (.cells #[.int .u8 (s[k].toNat : Nat)] 5))
        have HB7 : Hid (Below w.heap.size w (wr.alloc (.cells #[.int .u8 (s[k].toNat : Nat)] 5))) := HB.out.alloc HB.out.size _
        have HS7 : Hid (w.heap.size ≤ (wr.alloc (.cells #[.int .u8 (s[k].toNat : Nat)] 5)).heap.size) := HB7.out.size
        have HLT := Lib.hid HO.out.lt
        go_wp2_with (at_builtin; go_must (refine wpList_append_own_at _ rfl (.tmp 36) (.tmp 40) _ rfl w.heap.size 5 i0 (.int .u8 0) 1 1 Tryd.underlying24 hi hz0 hz1 hz2 rfl (by decide) (.slice A2 l.length c2) l.length _ rfl HO7.out ⟨wr.heap.size, 0, none⟩ 1 1 [.int .u8 (s[k].toNat : Nat)] rfl rfl (by exact news1 HX7.out) (by intro u hu; simp at hu; subst hu; rfl) (by unfold maxLen; omega) (by omega) (by exact HS7.out) ?_; intro v' w8 hown' hgrow hnil' hloc; have HO8 := Lib.hid hown'; have HB8 := Lib.hid (HB7.out.grown hgrow HS7.out (fun q hq => (HLT.out q hq).1)); clear hown' hgrow hnil' hloc))
        go_roundw
        case rel =>
          refine ⟨k + 1, l ++ [s[k].toNat], by go_num, by omega, HS2.out, by rw [List.length_append]; show l.length + 1 ≤ _; omega, ?_, HB8⟩
          show World.ownsRow _ _ _ _ _ _ _
          rw [List.length_append, cells8_app]
          exact HO8.out
        case measure => simp [intOf]; omega
    · obtain rfl : k = s.size := by omega
      have hl2 : l = quoL (nums s) := by
        rw [HL.out, ← nums_len, List.take_length]
      have hst := string_of_own HO.out (by rw [hl2]; exact quoL_lt _ (nums_lt256 s))
      have gk : decide ((s.size : Int) < (s.size : Int)) = false := decide_eq_false (by omega)
      have HL2 := Lib.hid hl2
      clear hl2
      go_wp2_with fail
      go_ret
      exact ⟨by show Ending.returned (.string (text l)) = _; rw [HL2.out], HB.out⟩
end Go.Proofs.YtmhalkkfpbkafaaDoor
