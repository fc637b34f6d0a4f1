/-
  Trees: the document's Differ.
-/
import Derived.Test.YtmeapijckncoeaaGreatDoorPkAA
import Derived.Test.YtmeapijckncoeaaGreatDoorPkBF
import Derived.Test.YtmeapijckncoeaaGreatDoorFmC
namespace Go.Proofs.YtmeapijckncoeaaGreatDoor
set_option maxRecDepth 100000
set_option linter.unusedSimpArgs false
set_option linter.unusedVariables false
open Go.RowKit Go.Joins Go.Deep Go.WideMaps
open Go.Lib hiding intOf
theorem eqq_nodeT (X Y : Itm) (w : World) : (Op.equalIn 10000 25 (.agg #[.int .i64 X.k, .int .u32 X.m, .int .u32 X.u, .int .u32 X.g, .int .i64 X.t, .int .i64 X.a, .string X.d]) (.agg #[.int .i64 Y.k, .int .u32 Y.m, .int .u32 Y.u, .int .u32 Y.g, .int .i64 Y.t, .int .i64 Y.a, .string Y.d])).run Tryz.prog w = .ok (nodB X Y) w := by
  rw [run_equalIn_struct w 9999 25 _ _ (by kernel_rfl) (by kernel_rfl)]
  unfold nodB
  simp [go_sem, Program.fieldsOf, Tryz.underlying25]
  (repeat' split) <;> simp_all
theorem fndV_lok (l : List Itm) (p : ByteArray) : fndV l p = .tuple #[.agg (lokN l p).node, .bool (fndQ l p).isSome] := by
  unfold fndV lokN fndQ
  cases l.find? (fun X => X.s.toList == p.toList) <;> rfl
/-- Has a path the same node in both? -/
def alkB (a b : List Itm) (p : ByteArray) : Bool := (fndQ a p).isSome && ((fndQ b p).isSome && nodB (lokN a p) (lokN b p))
def lstT (out : List ByteArray) : ByteArray := out[out.length - 1]?.getD ⟨#[]⟩
def lstB (out : List ByteArray) (p : ByteArray) : Bool := decide (0 < out.length) && ((lstT out).toList == p.toList)
def difT (a b : List Itm) (out : List ByteArray) (x : Itm) : List ByteArray := if (alkB a b x.s || lstB out x.s) = true then out else out ++ [x.s]
/-- Where two differ, of items in order. -/
def difS (a b : List Itm) (S : List Itm) : List ByteArray := S.foldl (difT a b) []
theorem dif_snoc (a b S : List Itm) (x : Itm) : difS a b (S ++ [x]) = difT a b (difS a b S) x := by simp [difS]
theorem difT_len (a b : List Itm) (out : List ByteArray) (x : Itm) : (difT a b out x).length ≤ out.length + 1 := by
  unfold difT
  split
  · omega
  · rw [List.length_append, List.length_singleton]; omega
theorem dif_len (a b S : List Itm) : ∀ k, k ≤ S.length → (difS a b (S.take k)).length ≤ k
  | 0, _ => Nat.le_refl _
  | k + 1, h => by
    rw [List.take_succ_eq_append_getElem (by omega), dif_snoc]
    have := dif_len a b S k (by omega)
    have := difT_len a b (difS a b (S.take k)) (S[k]'(by omega))
    omega
theorem own_keepD {w w' : World} {base size n : Nat} {e : TypeId} {v : Value} {xs : List Value} (h : w.ownsRow base e size v n xs) (hb : Below w.heap.size w w') : w'.ownsRow base e size v n xs :=
  h.kept (row := none) ⟨hb.os, hb.tape, hb.output, hb.size, fun i hi _ => hb.block i hi⟩ (by cases hv : v.ownBlock <;> simp)
set_option maxHeartbeats 64000000 in
theorem rdiffer_any (A B : Option Addr) (cA cB : Nat) (a b : List Itm) (w : World) (hA : Itms w A a) (hB : Itms w B b) (hla : a.length ≤ 400) (hlb : b.length ≤ 400) (hsa : ∀ x ∈ a, x.s.size ≤ 100000) (hsb : ∀ x ∈ b, x.s.size ≤ 100000) :
    Calls Tryz.prog 11 #[.slice A a.length cA, .slice B b.length cB] w fun e w' => ∃ V, e = .returned V ∧ w'.ownsRow w.heap.size 9 1 V (difS a b (sortI (a ++ b))).length ((difS a b (sortI (a ++ b))).map .string) ∧ Below w.heap.size w w' := by
  obtain ⟨i0, hi, hz0, hz1, hz2⟩ : ∃ i0, Tryz.prog.info? 9 = some i0 ∧ i0.zero = some (.string ⟨#[]⟩) ∧ i0.size = 1 ∧ i0.bytes = 16 := by
    have h : (Tryz.prog.info? 9).map (fun i => (i.zero, i.size, i.bytes)) = some (some (.string ⟨#[]⟩), 1, 16) := by kernel_rfl
    cases hq : Tryz.prog.info? 9 with
    | none => rw [hq] at h; cases h
    | some i =>
      rw [hq] at h
      simp only [Option.map_some, Option.some.injEq, Prod.mk.injEq] at h
      exact ⟨i, rfl, h.1, h.2.1, h.2.2⟩
  have hir := info_item
  have hinod := info_nodeT
  have HA := Lib.hid (fun w1 (hb : Below w.heap.size w w1) => hA.below hb)
  have HB := Lib.hid (fun w1 (hb : Below w.heap.size w w1) => hB.below hb)
  have HSA := Lib.hid hsa
  have HSB := Lib.hid hsb
  have HO0 : Hid (w.ownsRow w.heap.size 42 8 (.slice none 0 0) ([] : List Itm).length (cellsI [])) := World.ownsRow_nil _ _ _ _
  have HA0 := Lib.hid hA
  obtain ⟨S, hS⟩ : ∃ S, S = sortI (a ++ b) := ⟨_, rfl⟩
  rw [← hS]
  have HSE := Lib.hid hS
  clear hA hB hsa hsb hS
  go_enter Tryz.func11, Tryz.ntmps11
  go_wp2_with (at_builtin; refine wpList_append_itms rfl _ _ rfl w.heap.size (.slice none 0 0) [] rfl HO0.out A a.length cA a rfl rfl HA0.out ?qa1 ?qa2 ?_)
  case qa1 => show 0 + _ ≤ _; omega
  case qa2 => exact Nat.le_refl _
  intro v1 w1 ho1 hg1
  have HB1 : Hid (Below w.heap.size w w1) := (Below.refl w.heap.size w).grown hg1 (Nat.le_refl _) (fun q hq => by cases hq)
  have HO1 : Hid (w1.ownsRow w.heap.size 42 8 v1 a.length (cellsI a)) := ho1
  have HB1B := Lib.hid (HB.out w1 HB1.out)
  clear ho1 hg1 HO0 HA0
  go_wp2_with (at_builtin; refine wpList_append_itms rfl _ _ rfl w.heap.size v1 a rfl HO1.out B b.length cB b rfl rfl HB1B.out ?qb1 ?qb2 ?_)
  case qb1 => omega
  case qb2 => exact HB1.out.size
  intro v2 w2 ho2 hg2
  have HB2 : Hid (Below w.heap.size w w2) := HB1.out.grown hg2 HB1.out.size (fun q hq => (HO1.out.lt q hq).1)
  have ho2 : w2.ownsRow w.heap.size 42 8 v2 (a ++ b).length (cellsI (a ++ b)) := by rw [List.length_append]; exact ho2
  obtain ⟨A2, c2, hv2, hN2⟩ := own_newI ho2
  subst hv2
  have HSO := Lib.hid (rsort_any A2 c2 (a ++ b) w2 hN2.itms (by rw [List.length_append]; omega) (fun x hx => by
    rcases List.mem_append.1 hx with h | h
    · exact HSA.out x h
    · exact HSB.out x h))
  have hS := HSE.out
  have HSL : Hid ((a ++ b).length = S.length) := by show _ = _; rw [hS, sortI_len]
  have HSS : Hid (∀ x ∈ S, x.s.size ≤ 100000) := fun x hx => by
    rw [hS] at hx
    rcases List.mem_append.1 (sortI_mem _ x hx) with h | h
    · exact HSA.out x h
    · exact HSB.out x h
  have HL8 : Hid (S.length ≤ 800) := by show _ ≤ _; rw [← HSL.out, List.length_append]; omega
  rw [← hS] at HSO
  clear ho2 hg2 hN2 HO1 HB1B hS
  have HAB : Hid ((a ++ b).length ≤ 800) := by show _ ≤ _; rw [List.length_append]; omega
  clear HSE
  generalize a ++ b = AB at *
  go_wp2_with fail
  refine HSO.out.mono ?_; rintro e W3 ⟨A3, c3, rfl, hN3, hb3⟩
  rw [HSL.out]
  have HI3 := Lib.hid hN3.itms
  have HB3 := Lib.hid (below_then HB2.out hb3)
  clear hN3 hb3 HSO HSL HSA HSB HB2 HB1
  go_wp2_with fail
  go_loopw [6, 22] (fun v6 v22 wr => ∃ (k : Nat) (V : Value), k ≤ S.length ∧ V = v6 ∧ v22 = .int .i64 (k : Nat) ∧ Hid (wr.ownsRow W3.heap.size 9 1 V (difS a b (S.take k)).length ((difS a b (S.take k)).map .string)) ∧ Hid (Below W3.heap.size W3 wr)) (fun _ v _ => S.length - (intOf v).toNat)
  case atStart => exact ⟨0, _, Nat.zero_le _, rfl, rfl, World.ownsRow_nil _ _ _ _, Below.refl _ _⟩
  case round =>
    obtain ⟨k, V, hk, rfl, rfl, HO, HBR⟩ := hrel
    have HBW := Lib.hid (below_then HB3.out HBR.out)
    by_cases hkn : k < S.length
    case neg =>
      obtain rfl : k = S.length := by omega
      have hd : decide ((S.length : Int) < (S.length : Int)) = false := decide_eq_false (by omega)
      have HTK : Hid (S.take S.length = S) := List.take_length
      rw [HTK.out] at HO
      go_wp2_with fail
      go_ret
      exact ⟨_, rfl, own_lower HO.out HB3.out.size, HBW.out⟩
    have hd : decide ((k : Int) < (S.length : Int)) = true := decide_eq_true (by omega)
    obtain ⟨b1, off1, rfl, hb1, hcc⟩ := (HI3.out.below HBR.out) (by omega)
    obtain ⟨c0, c1, c2', c3', c4, c5, c6, c7⟩ := hcc k S[k] (List.getElem?_eq_getElem hkn)
    have HDT : Hid (difS a b (S.take (k + 1)) = difT a b (difS a b (S.take k)) S[k]) := by show _ = _; rw [List.take_succ_eq_append_getElem hkn, dif_snoc]
    have HOL := Lib.hid (dif_len a b S k hk)
    have HK8 : Hid (k < 800) := by show _ < _; have := HL8.out; omega
    obtain ⟨W4, hW4⟩ : ∃ W4, W4 = wr.alloc (.cells S[k].cells 42) := ⟨_, rfl⟩
    have hb4 : Below wr.heap.size wr W4 := by rw [hW4]; exact below_al wr _
    have HX4 : Hid (W4.heap[wr.heap.size]? = some (.cells S[k].cells 42 (0, 0))) := by show _ = _; rw [hW4]; exact heap_alloc_new wr _
    have HO4 := Lib.hid (own_keepD HO.out hb4)
    have HBR4 := Lib.hid (below_then HBR.out hb4)
    have HB4 := Lib.hid (below_then HBW.out hb4)
    generalize S[k] = X at *
    generalize hOU : difS a b (S.take k) = OU at *
    have HF1 := Lib.hid (rfind_any A cA a X.s W4 (HA.out W4 HB4.out) (by omega))
    have HF2 := Lib.hid (fun w5 (h : Below w.heap.size w w5) => rfind_any B cB b X.s w5 (HB.out w5 h) (by omega))
    simp only [fndV_lok] at HF1 HF2
    have HAK : Hid (alkB a b X.s = ((fndQ a X.s).isSome && ((fndQ b X.s).isSome && nodB (lokN a X.s) (lokN b X.s)))) := rfl
    unfold difT at HDT
    rw [HAK.out] at HDT
    generalize lokN a X.s = N1 at *
    generalize lokN b X.s = N2 at *
    generalize (fndQ a X.s).isSome = f1 at *
    generalize (fndQ b X.s).isSome = f2 at *
    have heq := eqq_nodeT N1 N2
    simp only [Itm.cells] at hW4
    simp only [Itm.node] at HF1 HF2
    have HW4 := Lib.hid hW4
    clear hcc hb4 hW4 HO HAK hOU
    generalize hgx : wr.heap.size = gx at *
    go_upto_region 8 with fail
    rw [← HW4.out]
    clear HW4 c0 c1 c2' c3' c4 c5 c6 c7
    obtain ⟨x0, _⟩ := cells_of_box HX4.out
    go_wp2_with fail
    refine HF1.out.mono ?_; rintro e w5 ⟨rfl, hb5⟩
    obtain ⟨W6, hW6⟩ : ∃ W6, W6 = w5.alloc (.cells #[.int .i64 N1.k, .int .u32 N1.m, .int .u32 N1.u, .int .u32 N1.g, .int .i64 N1.t, .int .i64 N1.a, .string N1.d] 25) := ⟨_, rfl⟩
    have hb6 : Below w5.heap.size w5 W6 := by rw [hW6]; exact below_al w5 _
    have HN6 : Hid (W6.heap[w5.heap.size]? = some (.cells #[.int .i64 N1.k, .int .u32 N1.m, .int .u32 N1.u, .int .u32 N1.g, .int .i64 N1.t, .int .i64 N1.a, .string N1.d] 25 (0, 0))) := by show _ = _; rw [hW6]; exact heap_alloc_new w5 _
    have hb46 := below_then hb5 hb6
    have HX6 := Lib.hid ((hb46.block _ (lt_of_block HX4.out)).trans HX4.out)
    have HO6 := Lib.hid (own_keepD HO4.out hb46)
    have HBR6 := Lib.hid (below_then HBR4.out hb46)
    have HB6 := Lib.hid (below_then HB4.out hb46)
    have HW6 := Lib.hid hW6
    clear hb5 hb6 hb46 hW6 HX4 HO4 HBR4 HB4 HF1 x0
    generalize hgy : w5.heap.size = gy at *
    go_upto_region 9 with fail
    rw [← HW6.out]
    clear HW6
    obtain ⟨x0, _⟩ := cells_of_box HX6.out
    go_wp2_with fail
    refine (HF2.out W6 HB6.out).mono ?_; rintro e w7 ⟨rfl, hb7⟩
    obtain ⟨W8, hW8⟩ : ∃ W8, W8 = w7.alloc (.cells #[.int .i64 N2.k, .int .u32 N2.m, .int .u32 N2.u, .int .u32 N2.g, .int .i64 N2.t, .int .i64 N2.a, .string N2.d] 25) := ⟨_, rfl⟩
    have hb8 : Below w7.heap.size w7 W8 := by rw [hW8]; exact below_al w7 _
    have HM8 : Hid (W8.heap[w7.heap.size]? = some (.cells #[.int .i64 N2.k, .int .u32 N2.m, .int .u32 N2.u, .int .u32 N2.g, .int .i64 N2.t, .int .i64 N2.a, .string N2.d] 25 (0, 0))) := by show _ = _; rw [hW8]; exact heap_alloc_new w7 _
    have hb68 := below_then hb7 hb8
    have HX8 := Lib.hid ((hb68.block _ (lt_of_block HX6.out)).trans HX6.out)
    have HN8 := Lib.hid ((hb68.block _ (lt_of_block HN6.out)).trans HN6.out)
    have HO8 := Lib.hid (own_keepD HO6.out hb68)
    have HBR8 := Lib.hid (below_then HBR6.out hb68)
    have HB8 := Lib.hid (below_then HB6.out hb68)
    have HW8 := Lib.hid hW8
    clear hb7 hb8 hb68 hW8 HX6 HN6 HO6 HBR6 HB6 HF2 x0
    generalize hgz : w7.heap.size = gz at *
    go_upto_region 10 with fail
    rw [← HW8.out]
    clear HW8
    obtain ⟨x0, _⟩ := cells_of_box HX8.out
    have n0 := (cell_of_row _ _ 0 _ _ _ HN8.out).trans (show _ = some (Value.int .i64 N1.k) from rfl)
    have n1 := (cell_of_row _ _ 1 _ _ _ HN8.out).trans (show _ = some (Value.int .u32 N1.m) from rfl)
    have n2 := (cell_of_row _ _ 2 _ _ _ HN8.out).trans (show _ = some (Value.int .u32 N1.u) from rfl)
    have n3 := (cell_of_row _ _ 3 _ _ _ HN8.out).trans (show _ = some (Value.int .u32 N1.g) from rfl)
    have n4 := (cell_of_row _ _ 4 _ _ _ HN8.out).trans (show _ = some (Value.int .i64 N1.t) from rfl)
    have n5 := (cell_of_row _ _ 5 _ _ _ HN8.out).trans (show _ = some (Value.int .i64 N1.a) from rfl)
    have n6 := (cell_of_row _ _ 6 _ _ _ HN8.out).trans (show _ = some (Value.string N1.d) from rfl)
    have m0 := (cell_of_row _ _ 0 _ _ _ HM8.out).trans (show _ = some (Value.int .i64 N2.k) from rfl)
    have m1 := (cell_of_row _ _ 1 _ _ _ HM8.out).trans (show _ = some (Value.int .u32 N2.m) from rfl)
    have m2 := (cell_of_row _ _ 2 _ _ _ HM8.out).trans (show _ = some (Value.int .u32 N2.u) from rfl)
    have m3 := (cell_of_row _ _ 3 _ _ _ HM8.out).trans (show _ = some (Value.int .u32 N2.g) from rfl)
    have m4 := (cell_of_row _ _ 4 _ _ _ HM8.out).trans (show _ = some (Value.int .i64 N2.t) from rfl)
    have m5 := (cell_of_row _ _ 5 _ _ _ HM8.out).trans (show _ = some (Value.int .i64 N2.a) from rfl)
    have m6 := (cell_of_row _ _ 6 _ _ _ HM8.out).trans (show _ = some (Value.string N2.d) from rfl)
    clear HN8 HM8
    have hk8 : k < 800 := HK8.out
    have hol : OU.length ≤ k := HOL.out
    obtain ⟨AV, cV, hV⟩ : ∃ AV cV, V = .slice AV OU.length cV := by
      rcases HO8.out.2 with ⟨he, h0⟩ | ⟨g, cap, cur, he, _⟩
      · exact ⟨none, 0, by rw [he, h0]⟩
      · exact ⟨_, _, he⟩
    subst hV
    have HLS : Hid (∀ j, OU.length = j + 1 → ∃ gv, AV = some ⟨gv, 0, none⟩ ∧ gv < W8.heap.size ∧ W8.cell? ⟨gv, j, none⟩ = some (.string (lstT OU))) := fun j hj => by
      rcases HO8.out.2 with ⟨he, h0⟩ | ⟨g, cap, cur, he, _⟩
      · omega
      · injection he with he1 he2 he3
        subst he1
        refine ⟨g, rfl, (HO8.out.lt g rfl).2, ?_⟩
        rw [HO8.out.cellAt j (by rw [Nat.mul_one]; omega), List.getElem?_map]
        unfold lstT
        rw [show OU.length - 1 = j by omega, List.getElem?_eq_getElem (by omega)]
        rfl
    cases f1 with
    | false =>
      simp only [Bool.false_and, Bool.and_false, Bool.true_and, Bool.false_or, Bool.true_or] at HDT
      rcases Nat.eq_zero_or_pos OU.length with h0 | h0
      · have hj : OU.length = 0 := h0
        have hp0 : decide ((0 : Int) > 0) = false := rfl
        have HDE : Hid (difS a b (S.take (k + 1)) = OU ++ [X.s]) := by show _ = _; rw [HDT.out, if_neg (by unfold lstB; rw [hj]; simp)]
        clear HDT HLS
        rw [hj] at HO8 ⊢
        go_wp2_with fail
        go_quiet (fail)
        have hbq : Below W8.heap.size W8 (W8.drewN nq) := below_drewN (Below.refl _ _) nq
        have HX9 := Lib.hid ((hbq.block _ (lt_of_block HX8.out)).trans HX8.out)
        have HO9 := Lib.hid (own_keepD HO8.out hbq)
        have HBR9 := Lib.hid (below_then HBR8.out hbq)
        have HB9 := Lib.hid (below_then HB8.out hbq)
        clear hbq HX8 HO8 HBR8 HB8 x0 n0 n1 n2 n3 n4 n5 n6 m0 m1 m2 m3 m4 m5 m6
        generalize W8.drewN nq = Q8 at *
        obtain ⟨x0, _⟩ := cells_of_box HX9.out
        have HOA := Lib.hid (HO9.out.alloc (.cells #[.string X.s] 9))
        have HBRA := Lib.hid (below_then HBR9.out (below_al Q8 (.cells #[.string X.s] 9)))
        have HBA := Lib.hid (below_then HB9.out (below_al Q8 (.cells #[.string X.s] 9)))
        have HQA : Hid (∀ j u, [Value.string X.s][j]? = some u → (Q8.alloc (.cells #[.string X.s] 9)).cell? ((⟨Q8.heap.size, 0, none⟩ : Addr).add j) = some u) := fun j u hj => by
          rw [Addr.add_lit, Nat.zero_add, cell_of_row _ _ j _ _ _ (heap_alloc_new Q8 _)]
          simpa using hj
        have HBWS : Hid (w.heap.size ≤ W3.heap.size) := HB3.out.size
        clear HO9 HBR9 HB9
        go_wp2_with (at_builtin; refine wpList_append_own _ rfl _ _ 32 rfl W3.heap.size 9 i0 (.string ⟨#[]⟩) 1 16 Tryz.underlying32 hi hz0 hz1 hz2 rfl (by decide) _ _ _ rfl HOA.out ⟨Q8.heap.size, 0, none⟩ 1 1 [.string X.s] rfl ?qc1 ?qc2 ?qc3 ?qc4 ?qc5 ?qc6 ?_)
        case qc1 => rfl
        case qc2 => exact HQA.out
        case qc3 => intro u hu; simp at hu; subst hu; rfl
        case qc4 => have := hol; have := hk8; unfold maxLen; omega
        case qc5 => have := hol; have := hk8; omega
        case qc6 => exact HBRA.out.size
        intro v10 w10 hown10 hgrow10 _
        have HO10 : Hid (w10.ownsRow W3.heap.size 9 1 v10 (OU ++ [X.s]).length ((OU ++ [X.s]).map .string)) := by
          show World.ownsRow _ _ _ _ _ _ _
          rw [List.length_append, List.map_append]
          first | exact hown10 | (rw [hj]; exact hown10)
        have HBR10 : Hid (Below W3.heap.size W3 w10) := HBRA.out.grown hgrow10 HBRA.out.size (fun z hz => (HOA.out.lt z hz).1)
        clear hown10 hgrow10 HOA HBRA HBA HQA
        go_wp2_with fail
        go_roundw
        case rel => exact ⟨k + 1, _, by omega, rfl, by go_num, by show World.ownsRow _ _ _ _ _ _ _; rw [HDE.out]; exact HO10.out, HBR10⟩
        case measure => simp [intOf]; omega
      · obtain ⟨j, hj⟩ : ∃ j, OU.length = j + 1 := ⟨OU.length - 1, by omega⟩
        obtain ⟨gv, rfl, hgv, cl⟩ := HLS.out j hj
        have hj8 : j < 800 := by omega
        have hp0 : decide ((((j + 1 : Nat)) : Int) > 0) = true := decide_eq_true (by omega)
        have hp1 : decide ((0 : Int) < ((j + 1 : Nat) : Int)) = true := decide_eq_true (by omega)
        have hp2 : decide ((0 : Int) < (j : Int) + 1) = true := decide_eq_true (by omega)
        have hI1 : IntKind.i64.wrap ((j : Int) + 1 - 1) = j := by rw [IntKind.wrap_i64]; omega
        have hI2 : IntKind.i64.wrap (((j + 1 : Nat) : Int) - 1) = j := by rw [IntKind.wrap_i64]; omega
        have hI3 : IntKind.i64.wrap (j : Int) = j := by rw [IntKind.wrap_i64]; omega
        have hjj : (j : Int) < (j : Int) + 1 := by omega
        cases hl : ((lstT OU).toList == X.s.toList) with
        | true =>
          have HDE : Hid (difS a b (S.take (k + 1)) = OU) := by show _ = _; rw [HDT.out, if_pos (by unfold lstB; rw [hj, hl]; simp)]
          clear HDT HLS
          generalize lstT OU = LT at *
          rw [hj] at HO8 ⊢
          go_wp2_with fail
          go_quiet (fail)
          have hbq : Below W8.heap.size W8 (W8.drewN nq) := below_drewN (Below.refl _ _) nq
          have HX9 := Lib.hid ((hbq.block _ (lt_of_block HX8.out)).trans HX8.out)
          have HO9 := Lib.hid (own_keepD HO8.out hbq)
          have HBR9 := Lib.hid (below_then HBR8.out hbq)
          have HB9 := Lib.hid (below_then HB8.out hbq)
          clear hbq HX8 HO8 HBR8 HB8 x0 n0 n1 n2 n3 n4 n5 n6 m0 m1 m2 m3 m4 m5 m6
          generalize W8.drewN nq = Q8 at *
          go_wp2_with fail
          go_roundw
          case rel => exact ⟨k + 1, _, by omega, rfl, by go_num, by show World.ownsRow _ _ _ _ _ _ _; rw [HDE.out]; first | exact HO9.out | (rw [hj]; exact HO9.out), HBR9⟩
          case measure => simp [intOf]; omega
        | false =>
          have HDE : Hid (difS a b (S.take (k + 1)) = OU ++ [X.s]) := by show _ = _; rw [HDT.out, if_neg (by unfold lstB; rw [hl]; simp)]
          clear HDT HLS
          generalize lstT OU = LT at *
          rw [hj] at HO8 ⊢
          go_wp2_with fail
          go_quiet (fail)
          have hbq : Below W8.heap.size W8 (W8.drewN nq) := below_drewN (Below.refl _ _) nq
          have HX9 := Lib.hid ((hbq.block _ (lt_of_block HX8.out)).trans HX8.out)
          have HO9 := Lib.hid (own_keepD HO8.out hbq)
          have HBR9 := Lib.hid (below_then HBR8.out hbq)
          have HB9 := Lib.hid (below_then HB8.out hbq)
          clear hbq HX8 HO8 HBR8 HB8 x0 n0 n1 n2 n3 n4 n5 n6 m0 m1 m2 m3 m4 m5 m6
          generalize W8.drewN nq = Q8 at *
          obtain ⟨x0, _⟩ := cells_of_box HX9.out
          have HOA := Lib.hid (HO9.out.alloc (.cells #[.string X.s] 9))
          have HBRA := Lib.hid (below_then HBR9.out (below_al Q8 (.cells #[.string X.s] 9)))
          have HBA := Lib.hid (below_then HB9.out (below_al Q8 (.cells #[.string X.s] 9)))
          have HQA : Hid (∀ j u, [Value.string X.s][j]? = some u → (Q8.alloc (.cells #[.string X.s] 9)).cell? ((⟨Q8.heap.size, 0, none⟩ : Addr).add j) = some u) := fun j u hj => by
            rw [Addr.add_lit, Nat.zero_add, cell_of_row _ _ j _ _ _ (heap_alloc_new Q8 _)]
            simpa using hj
          have HBWS : Hid (w.heap.size ≤ W3.heap.size) := HB3.out.size
          clear HO9 HBR9 HB9
          go_wp2_with (at_builtin; refine wpList_append_own _ rfl _ _ 32 rfl W3.heap.size 9 i0 (.string ⟨#[]⟩) 1 16 Tryz.underlying32 hi hz0 hz1 hz2 rfl (by decide) _ _ _ rfl HOA.out ⟨Q8.heap.size, 0, none⟩ 1 1 [.string X.s] rfl ?qc1 ?qc2 ?qc3 ?qc4 ?qc5 ?qc6 ?_)
          case qc1 => rfl
          case qc2 => exact HQA.out
          case qc3 => intro u hu; simp at hu; subst hu; rfl
          case qc4 => have := hol; have := hk8; unfold maxLen; omega
          case qc5 => have := hol; have := hk8; omega
          case qc6 => exact HBRA.out.size
          intro v10 w10 hown10 hgrow10 _
          have HO10 : Hid (w10.ownsRow W3.heap.size 9 1 v10 (OU ++ [X.s]).length ((OU ++ [X.s]).map .string)) := by
            show World.ownsRow _ _ _ _ _ _ _
            rw [List.length_append, List.map_append]
            first | exact hown10 | (rw [hj]; exact hown10)
          have HBR10 : Hid (Below W3.heap.size W3 w10) := HBRA.out.grown hgrow10 HBRA.out.size (fun z hz => (HOA.out.lt z hz).1)
          clear hown10 hgrow10 HOA HBRA HBA HQA
          go_wp2_with fail
          go_roundw
          case rel => exact ⟨k + 1, _, by omega, rfl, by go_num, by show World.ownsRow _ _ _ _ _ _ _; rw [HDE.out]; exact HO10.out, HBR10⟩
          case measure => simp [intOf]; omega
    | true =>
      cases f2 with
      | false =>
        simp only [Bool.false_and, Bool.and_false, Bool.true_and, Bool.false_or, Bool.true_or] at HDT
        rcases Nat.eq_zero_or_pos OU.length with h0 | h0
        · have hj : OU.length = 0 := h0
          have hp0 : decide ((0 : Int) > 0) = false := rfl
          have HDE : Hid (difS a b (S.take (k + 1)) = OU ++ [X.s]) := by show _ = _; rw [HDT.out, if_neg (by unfold lstB; rw [hj]; simp)]
          clear HDT HLS
          rw [hj] at HO8 ⊢
          go_wp2_with fail
          go_quiet (fail)
          have hbq : Below W8.heap.size W8 (W8.drewN nq) := below_drewN (Below.refl _ _) nq
          have HX9 := Lib.hid ((hbq.block _ (lt_of_block HX8.out)).trans HX8.out)
          have HO9 := Lib.hid (own_keepD HO8.out hbq)
          have HBR9 := Lib.hid (below_then HBR8.out hbq)
          have HB9 := Lib.hid (below_then HB8.out hbq)
          clear hbq HX8 HO8 HBR8 HB8 x0 n0 n1 n2 n3 n4 n5 n6 m0 m1 m2 m3 m4 m5 m6
          generalize W8.drewN nq = Q8 at *
          obtain ⟨x0, _⟩ := cells_of_box HX9.out
          have HOA := Lib.hid (HO9.out.alloc (.cells #[.string X.s] 9))
          have HBRA := Lib.hid (below_then HBR9.out (below_al Q8 (.cells #[.string X.s] 9)))
          have HBA := Lib.hid (below_then HB9.out (below_al Q8 (.cells #[.string X.s] 9)))
          have HQA : Hid (∀ j u, [Value.string X.s][j]? = some u → (Q8.alloc (.cells #[.string X.s] 9)).cell? ((⟨Q8.heap.size, 0, none⟩ : Addr).add j) = some u) := fun j u hj => by
            rw [Addr.add_lit, Nat.zero_add, cell_of_row _ _ j _ _ _ (heap_alloc_new Q8 _)]
            simpa using hj
          have HBWS : Hid (w.heap.size ≤ W3.heap.size) := HB3.out.size
          clear HO9 HBR9 HB9
          go_wp2_with (at_builtin; refine wpList_append_own _ rfl _ _ 32 rfl W3.heap.size 9 i0 (.string ⟨#[]⟩) 1 16 Tryz.underlying32 hi hz0 hz1 hz2 rfl (by decide) _ _ _ rfl HOA.out ⟨Q8.heap.size, 0, none⟩ 1 1 [.string X.s] rfl ?qc1 ?qc2 ?qc3 ?qc4 ?qc5 ?qc6 ?_)
          case qc1 => rfl
          case qc2 => exact HQA.out
          case qc3 => intro u hu; simp at hu; subst hu; rfl
          case qc4 => have := hol; have := hk8; unfold maxLen; omega
          case qc5 => have := hol; have := hk8; omega
          case qc6 => exact HBRA.out.size
          intro v10 w10 hown10 hgrow10 _
          have HO10 : Hid (w10.ownsRow W3.heap.size 9 1 v10 (OU ++ [X.s]).length ((OU ++ [X.s]).map .string)) := by
            show World.ownsRow _ _ _ _ _ _ _
            rw [List.length_append, List.map_append]
            first | exact hown10 | (rw [hj]; exact hown10)
          have HBR10 : Hid (Below W3.heap.size W3 w10) := HBRA.out.grown hgrow10 HBRA.out.size (fun z hz => (HOA.out.lt z hz).1)
          clear hown10 hgrow10 HOA HBRA HBA HQA
          go_wp2_with fail
          go_roundw
          case rel => exact ⟨k + 1, _, by omega, rfl, by go_num, by show World.ownsRow _ _ _ _ _ _ _; rw [HDE.out]; exact HO10.out, HBR10⟩
          case measure => simp [intOf]; omega
        · obtain ⟨j, hj⟩ : ∃ j, OU.length = j + 1 := ⟨OU.length - 1, by omega⟩
          obtain ⟨gv, rfl, hgv, cl⟩ := HLS.out j hj
          have hj8 : j < 800 := by omega
          have hp0 : decide ((((j + 1 : Nat)) : Int) > 0) = true := decide_eq_true (by omega)
          have hp1 : decide ((0 : Int) < ((j + 1 : Nat) : Int)) = true := decide_eq_true (by omega)
          have hp2 : decide ((0 : Int) < (j : Int) + 1) = true := decide_eq_true (by omega)
          have hI1 : IntKind.i64.wrap ((j : Int) + 1 - 1) = j := by rw [IntKind.wrap_i64]; omega
          have hI2 : IntKind.i64.wrap (((j + 1 : Nat) : Int) - 1) = j := by rw [IntKind.wrap_i64]; omega
          have hI3 : IntKind.i64.wrap (j : Int) = j := by rw [IntKind.wrap_i64]; omega
          have hjj : (j : Int) < (j : Int) + 1 := by omega
          cases hl : ((lstT OU).toList == X.s.toList) with
          | true =>
            have HDE : Hid (difS a b (S.take (k + 1)) = OU) := by show _ = _; rw [HDT.out, if_pos (by unfold lstB; rw [hj, hl]; simp)]
            clear HDT HLS
            generalize lstT OU = LT at *
            rw [hj] at HO8 ⊢
            go_wp2_with fail
            go_quiet (fail)
            have hbq : Below W8.heap.size W8 (W8.drewN nq) := below_drewN (Below.refl _ _) nq
            have HX9 := Lib.hid ((hbq.block _ (lt_of_block HX8.out)).trans HX8.out)
            have HO9 := Lib.hid (own_keepD HO8.out hbq)
            have HBR9 := Lib.hid (below_then HBR8.out hbq)
            have HB9 := Lib.hid (below_then HB8.out hbq)
            clear hbq HX8 HO8 HBR8 HB8 x0 n0 n1 n2 n3 n4 n5 n6 m0 m1 m2 m3 m4 m5 m6
            generalize W8.drewN nq = Q8 at *
            go_wp2_with fail
            go_roundw
            case rel => exact ⟨k + 1, _, by omega, rfl, by go_num, by show World.ownsRow _ _ _ _ _ _ _; rw [HDE.out]; first | exact HO9.out | (rw [hj]; exact HO9.out), HBR9⟩
            case measure => simp [intOf]; omega
          | false =>
            have HDE : Hid (difS a b (S.take (k + 1)) = OU ++ [X.s]) := by show _ = _; rw [HDT.out, if_neg (by unfold lstB; rw [hl]; simp)]
            clear HDT HLS
            generalize lstT OU = LT at *
            rw [hj] at HO8 ⊢
            go_wp2_with fail
            go_quiet (fail)
            have hbq : Below W8.heap.size W8 (W8.drewN nq) := below_drewN (Below.refl _ _) nq
            have HX9 := Lib.hid ((hbq.block _ (lt_of_block HX8.out)).trans HX8.out)
            have HO9 := Lib.hid (own_keepD HO8.out hbq)
            have HBR9 := Lib.hid (below_then HBR8.out hbq)
            have HB9 := Lib.hid (below_then HB8.out hbq)
            clear hbq HX8 HO8 HBR8 HB8 x0 n0 n1 n2 n3 n4 n5 n6 m0 m1 m2 m3 m4 m5 m6
            generalize W8.drewN nq = Q8 at *
            obtain ⟨x0, _⟩ := cells_of_box HX9.out
            have HOA := Lib.hid (HO9.out.alloc (.cells #[.string X.s] 9))
            have HBRA := Lib.hid (below_then HBR9.out (below_al Q8 (.cells #[.string X.s] 9)))
            have HBA := Lib.hid (below_then HB9.out (below_al Q8 (.cells #[.string X.s] 9)))
            have HQA : Hid (∀ j u, [Value.string X.s][j]? = some u → (Q8.alloc (.cells #[.string X.s] 9)).cell? ((⟨Q8.heap.size, 0, none⟩ : Addr).add j) = some u) := fun j u hj => by
              rw [Addr.add_lit, Nat.zero_add, cell_of_row _ _ j _ _ _ (heap_alloc_new Q8 _)]
              simpa using hj
            have HBWS : Hid (w.heap.size ≤ W3.heap.size) := HB3.out.size
            clear HO9 HBR9 HB9
            go_wp2_with (at_builtin; refine wpList_append_own _ rfl _ _ 32 rfl W3.heap.size 9 i0 (.string ⟨#[]⟩) 1 16 Tryz.underlying32 hi hz0 hz1 hz2 rfl (by decide) _ _ _ rfl HOA.out ⟨Q8.heap.size, 0, none⟩ 1 1 [.string X.s] rfl ?qc1 ?qc2 ?qc3 ?qc4 ?qc5 ?qc6 ?_)
            case qc1 => rfl
            case qc2 => exact HQA.out
            case qc3 => intro u hu; simp at hu; subst hu; rfl
            case qc4 => have := hol; have := hk8; unfold maxLen; omega
            case qc5 => have := hol; have := hk8; omega
            case qc6 => exact HBRA.out.size
            intro v10 w10 hown10 hgrow10 _
            have HO10 : Hid (w10.ownsRow W3.heap.size 9 1 v10 (OU ++ [X.s]).length ((OU ++ [X.s]).map .string)) := by
              show World.ownsRow _ _ _ _ _ _ _
              rw [List.length_append, List.map_append]
              first | exact hown10 | (rw [hj]; exact hown10)
            have HBR10 : Hid (Below W3.heap.size W3 w10) := HBRA.out.grown hgrow10 HBRA.out.size (fun z hz => (HOA.out.lt z hz).1)
            clear hown10 hgrow10 HOA HBRA HBA HQA
            go_wp2_with fail
            go_roundw
            case rel => exact ⟨k + 1, _, by omega, rfl, by go_num, by show World.ownsRow _ _ _ _ _ _ _; rw [HDE.out]; exact HO10.out, HBR10⟩
            case measure => simp [intOf]; omega
      | true =>
        cases hE : nodB N1 N2 with
        | false =>
          rw [hE] at heq HDT
          simp only [Bool.false_and, Bool.and_false, Bool.true_and, Bool.false_or, Bool.true_or] at HDT
          rcases Nat.eq_zero_or_pos OU.length with h0 | h0
          · have hj : OU.length = 0 := h0
            have hp0 : decide ((0 : Int) > 0) = false := rfl
            have HDE : Hid (difS a b (S.take (k + 1)) = OU ++ [X.s]) := by show _ = _; rw [HDT.out, if_neg (by unfold lstB; rw [hj]; simp)]
            clear HDT HLS
            rw [hj] at HO8 ⊢
            go_wp2_with fail
            go_quiet (fail)
            have hbq : Below W8.heap.size W8 (W8.drewN nq) := below_drewN (Below.refl _ _) nq
            have HX9 := Lib.hid ((hbq.block _ (lt_of_block HX8.out)).trans HX8.out)
            have HO9 := Lib.hid (own_keepD HO8.out hbq)
            have HBR9 := Lib.hid (below_then HBR8.out hbq)
            have HB9 := Lib.hid (below_then HB8.out hbq)
            clear hbq HX8 HO8 HBR8 HB8 x0 n0 n1 n2 n3 n4 n5 n6 m0 m1 m2 m3 m4 m5 m6
            generalize W8.drewN nq = Q8 at *
            obtain ⟨x0, _⟩ := cells_of_box HX9.out
            have HOA := Lib.hid (HO9.out.alloc (.cells #[.string X.s] 9))
            have HBRA := Lib.hid (below_then HBR9.out (below_al Q8 (.cells #[.string X.s] 9)))
            have HBA := Lib.hid (below_then HB9.out (below_al Q8 (.cells #[.string X.s] 9)))
            have HQA : Hid (∀ j u, [Value.string X.s][j]? = some u → (Q8.alloc (.cells #[.string X.s] 9)).cell? ((⟨Q8.heap.size, 0, none⟩ : Addr).add j) = some u) := fun j u hj => by
              rw [Addr.add_lit, Nat.zero_add, cell_of_row _ _ j _ _ _ (heap_alloc_new Q8 _)]
              simpa using hj
            have HBWS : Hid (w.heap.size ≤ W3.heap.size) := HB3.out.size
            clear HO9 HBR9 HB9
            go_wp2_with (at_builtin; refine wpList_append_own _ rfl _ _ 32 rfl W3.heap.size 9 i0 (.string ⟨#[]⟩) 1 16 Tryz.underlying32 hi hz0 hz1 hz2 rfl (by decide) _ _ _ rfl HOA.out ⟨Q8.heap.size, 0, none⟩ 1 1 [.string X.s] rfl ?qc1 ?qc2 ?qc3 ?qc4 ?qc5 ?qc6 ?_)
            case qc1 => rfl
            case qc2 => exact HQA.out
            case qc3 => intro u hu; simp at hu; subst hu; rfl
            case qc4 => have := hol; have := hk8; unfold maxLen; omega
            case qc5 => have := hol; have := hk8; omega
            case qc6 => exact HBRA.out.size
            intro v10 w10 hown10 hgrow10 _
            have HO10 : Hid (w10.ownsRow W3.heap.size 9 1 v10 (OU ++ [X.s]).length ((OU ++ [X.s]).map .string)) := by
              show World.ownsRow _ _ _ _ _ _ _
              rw [List.length_append, List.map_append]
              first | exact hown10 | (rw [hj]; exact hown10)
            have HBR10 : Hid (Below W3.heap.size W3 w10) := HBRA.out.grown hgrow10 HBRA.out.size (fun z hz => (HOA.out.lt z hz).1)
            clear hown10 hgrow10 HOA HBRA HBA HQA
            go_wp2_with fail
            go_roundw
            case rel => exact ⟨k + 1, _, by omega, rfl, by go_num, by show World.ownsRow _ _ _ _ _ _ _; rw [HDE.out]; exact HO10.out, HBR10⟩
            case measure => simp [intOf]; omega
          · obtain ⟨j, hj⟩ : ∃ j, OU.length = j + 1 := ⟨OU.length - 1, by omega⟩
            obtain ⟨gv, rfl, hgv, cl⟩ := HLS.out j hj
            have hj8 : j < 800 := by omega
            have hp0 : decide ((((j + 1 : Nat)) : Int) > 0) = true := decide_eq_true (by omega)
            have hp1 : decide ((0 : Int) < ((j + 1 : Nat) : Int)) = true := decide_eq_true (by omega)
            have hp2 : decide ((0 : Int) < (j : Int) + 1) = true := decide_eq_true (by omega)
            have hI1 : IntKind.i64.wrap ((j : Int) + 1 - 1) = j := by rw [IntKind.wrap_i64]; omega
            have hI2 : IntKind.i64.wrap (((j + 1 : Nat) : Int) - 1) = j := by rw [IntKind.wrap_i64]; omega
            have hI3 : IntKind.i64.wrap (j : Int) = j := by rw [IntKind.wrap_i64]; omega
            have hjj : (j : Int) < (j : Int) + 1 := by omega
            cases hl : ((lstT OU).toList == X.s.toList) with
            | true =>
              have HDE : Hid (difS a b (S.take (k + 1)) = OU) := by show _ = _; rw [HDT.out, if_pos (by unfold lstB; rw [hj, hl]; simp)]
              clear HDT HLS
              generalize lstT OU = LT at *
              rw [hj] at HO8 ⊢
              go_wp2_with fail
              go_quiet (fail)
              have hbq : Below W8.heap.size W8 (W8.drewN nq) := below_drewN (Below.refl _ _) nq
              have HX9 := Lib.hid ((hbq.block _ (lt_of_block HX8.out)).trans HX8.out)
              have HO9 := Lib.hid (own_keepD HO8.out hbq)
              have HBR9 := Lib.hid (below_then HBR8.out hbq)
              have HB9 := Lib.hid (below_then HB8.out hbq)
              clear hbq HX8 HO8 HBR8 HB8 x0 n0 n1 n2 n3 n4 n5 n6 m0 m1 m2 m3 m4 m5 m6
              generalize W8.drewN nq = Q8 at *
              go_wp2_with fail
              go_roundw
              case rel => exact ⟨k + 1, _, by omega, rfl, by go_num, by show World.ownsRow _ _ _ _ _ _ _; rw [HDE.out]; first | exact HO9.out | (rw [hj]; exact HO9.out), HBR9⟩
              case measure => simp [intOf]; omega
            | false =>
              have HDE : Hid (difS a b (S.take (k + 1)) = OU ++ [X.s]) := by show _ = _; rw [HDT.out, if_neg (by unfold lstB; rw [hl]; simp)]
              clear HDT HLS
              generalize lstT OU = LT at *
              rw [hj] at HO8 ⊢
              go_wp2_with fail
              go_quiet (fail)
              have hbq : Below W8.heap.size W8 (W8.drewN nq) := below_drewN (Below.refl _ _) nq
              have HX9 := Lib.hid ((hbq.block _ (lt_of_block HX8.out)).trans HX8.out)
              have HO9 := Lib.hid (own_keepD HO8.out hbq)
              have HBR9 := Lib.hid (below_then HBR8.out hbq)
              have HB9 := Lib.hid (below_then HB8.out hbq)
              clear hbq HX8 HO8 HBR8 HB8 x0 n0 n1 n2 n3 n4 n5 n6 m0 m1 m2 m3 m4 m5 m6
              generalize W8.drewN nq = Q8 at *
              obtain ⟨x0, _⟩ := cells_of_box HX9.out
              have HOA := Lib.hid (HO9.out.alloc (.cells #[.string X.s] 9))
              have HBRA := Lib.hid (below_then HBR9.out (below_al Q8 (.cells #[.string X.s] 9)))
              have HBA := Lib.hid (below_then HB9.out (below_al Q8 (.cells #[.string X.s] 9)))
              have HQA : Hid (∀ j u, [Value.string X.s][j]? = some u → (Q8.alloc (.cells #[.string X.s] 9)).cell? ((⟨Q8.heap.size, 0, none⟩ : Addr).add j) = some u) := fun j u hj => by
                rw [Addr.add_lit, Nat.zero_add, cell_of_row _ _ j _ _ _ (heap_alloc_new Q8 _)]
                simpa using hj
              have HBWS : Hid (w.heap.size ≤ W3.heap.size) := HB3.out.size
              clear HO9 HBR9 HB9
              go_wp2_with (at_builtin; refine wpList_append_own _ rfl _ _ 32 rfl W3.heap.size 9 i0 (.string ⟨#[]⟩) 1 16 Tryz.underlying32 hi hz0 hz1 hz2 rfl (by decide) _ _ _ rfl HOA.out ⟨Q8.heap.size, 0, none⟩ 1 1 [.string X.s] rfl ?qc1 ?qc2 ?qc3 ?qc4 ?qc5 ?qc6 ?_)
              case qc1 => rfl
              case qc2 => exact HQA.out
              case qc3 => intro u hu; simp at hu; subst hu; rfl
              case qc4 => have := hol; have := hk8; unfold maxLen; omega
              case qc5 => have := hol; have := hk8; omega
              case qc6 => exact HBRA.out.size
              intro v10 w10 hown10 hgrow10 _
              have HO10 : Hid (w10.ownsRow W3.heap.size 9 1 v10 (OU ++ [X.s]).length ((OU ++ [X.s]).map .string)) := by
                show World.ownsRow _ _ _ _ _ _ _
                rw [List.length_append, List.map_append]
                first | exact hown10 | (rw [hj]; exact hown10)
              have HBR10 : Hid (Below W3.heap.size W3 w10) := HBRA.out.grown hgrow10 HBRA.out.size (fun z hz => (HOA.out.lt z hz).1)
              clear hown10 hgrow10 HOA HBRA HBA HQA
              go_wp2_with fail
              go_roundw
              case rel => exact ⟨k + 1, _, by omega, rfl, by go_num, by show World.ownsRow _ _ _ _ _ _ _; rw [HDE.out]; exact HO10.out, HBR10⟩
              case measure => simp [intOf]; omega
        | true =>
          rw [hE] at heq HDT
          simp only [Bool.false_and, Bool.and_false, Bool.true_and, Bool.false_or, Bool.true_or] at HDT
          have HDE : Hid (difS a b (S.take (k + 1)) = OU) := by show _ = _; rw [HDT.out, if_pos (by first | trivial | rfl)]
          clear HDT HLS
          go_wp2_with fail
          go_quiet (fail)
          have hbq : Below W8.heap.size W8 (W8.drewN nq) := below_drewN (Below.refl _ _) nq
          have HX9 := Lib.hid ((hbq.block _ (lt_of_block HX8.out)).trans HX8.out)
          have HO9 := Lib.hid (own_keepD HO8.out hbq)
          have HBR9 := Lib.hid (below_then HBR8.out hbq)
          have HB9 := Lib.hid (below_then HB8.out hbq)
          clear hbq HX8 HO8 HBR8 HB8 x0 n0 n1 n2 n3 n4 n5 n6 m0 m1 m2 m3 m4 m5 m6
          generalize W8.drewN nq = Q8 at *
          go_wp2_with fail
          go_roundw
          case rel => exact ⟨k + 1, _, by omega, rfl, by go_num, by show World.ownsRow _ _ _ _ _ _ _; rw [HDE.out]; first | exact HO9.out | (rw [hj]; exact HO9.out), HBR9⟩
          case measure => simp [intOf]; omega
end Go.Proofs.YtmeapijckncoeaaGreatDoor
