/-
  TreeDoes: the walk (awake's contract is a premise hAW).
-/
import Derived.Test.YtmeapijckncoeaaGreatDoorPkBI
import Derived.Test.YtmeapijckncoeaaGreatDoorPkBJ
import Derived.Test.YtmeapijckncoeaaGreatDoorPkCA
import Derived.Test.YtmeapijckncoeaaGreatDoorPkBF
import Derived.Test.YtmeapijckncoeaaGreatDoorPkBA
namespace Go.Proofs.YtmeapijckncoeaaGreatDoor
set_option maxRecDepth 100000
set_option linter.unusedSimpArgs false
set_option linter.unusedVariables false
open Go.RowKit Go.Joins Go.Deep
open Go.Lib hiding intOf
theorem few_both {l : List Itm} (h : FewP l) : l.length ≤ 60 ∧ ∀ x ∈ l, x.s.size ≤ 1000 := by
  refine ⟨?_, fun x hx => (h x hx).2.1⟩
  cases l with
  | nil => decide
  | cons x l => exact (h x (by simp)).1
theorem sam_self (l : List Itm) : samB l l = true := by
  unfold samB
  rw [decide_eq_true rfl, Bool.true_and, List.all_eq_true]
  intro k _
  unfold itmB nodB
  simp
theorem newI_lower {w : World} {B B' : Nat} {A : Option Addr} {l : List Itm} (h : NewI w B A l) (hb : B' ≤ B) : NewI w B' A l := by
  rcases h with h | ⟨g, hg, hB, hi⟩
  · exact .inl h
  · exact .inr ⟨g, hg, Nat.le_trans hb hB, hi⟩
theorem fil_len (D : Itm) (l : List Itm) (hl : l.length ≤ 60) (hs : ∀ x ∈ l, x.s.size ≤ 1000) : (filL D l).length ≤ 1000000 := by
  have h := impL_len l 1000 hs
  have h2 : l.length * 1000 ≤ 60 * 1000 := Nat.mul_le_mul_right _ hl
  unfold filL
  rw [sortI_len, List.length_append, List.length_map]
  omega
theorem rsameT_any (A B : Option Addr) (cA cB : Nat) (l : List Itm) (w : World) (hA : Itms w A l) (hB : Itms w B l) (hl : l.length ≤ 1000000) :
    Calls Tryz.prog 12 #[.slice A l.length cA, .slice B l.length cB] w fun e w' => e = .returned (.bool true) ∧ ∃ d, w' = w.drewN d := by
  have h := rsameQ_any A B cA cB l l w hA hB hl hl
  rw [sam_self] at h
  exact h
/-- Texts in a row of their own. -/
def StrR (w : World) (A : Option Addr) (l : List ByteArray) : Prop := ∀ (k : Nat) (hk : k < l.length), ∃ g, A = some ⟨g, 0, none⟩ ∧ g < w.heap.size ∧ w.cell? ⟨g, k, none⟩ = some (.string l[k])
theorem strs_own {w : World} {B : Nat} {l : List ByteArray} {v : Value} (h : w.ownsRow B 9 1 v l.length (l.map .string)) : ∃ A c, v = .slice A l.length c ∧ StrR w A l := by
  rcases h.2 with ⟨he, h0⟩ | ⟨g, cap, cur, he, _⟩
  · exact ⟨none, 0, by rw [he, h0], fun k hk => by omega⟩
  · subst he
    refine ⟨_, _, rfl, fun k hk => ⟨g, rfl, (h.lt g rfl).2, ?_⟩⟩
    rw [h.cellAt k (by rw [Nat.mul_one]; exact hk), List.getElem?_map, List.getElem?_eq_getElem hk]
    rfl
theorem StrR.below {w w' : World} {A : Option Addr} {l : List ByteArray} (h : StrR w A l) (hb : Below w.heap.size w w') : StrR w' A l := fun k hk => by
  obtain ⟨g, e, hg, hc⟩ := h k hk
  exact ⟨g, e, Nat.lt_of_lt_of_le hg hb.size, (hb.cell (p := ⟨g, k, none⟩) hg).trans hc⟩
theorem putL_len (l : List Itm) (y : Itm) : (putL l y).length ≤ l.length + 1 := by
  have h1 : (putL l y).length = (putR l y.s).length + 1 := insI_len _ _ _ List.findIdx_le_length
  have h2 : (putR l y.s).length ≤ l.length := List.length_filter_le _ _
  omega
theorem node_eq (X : Itm) (w : World) : (Op.equalIn 10000 25 (.agg #[.int .i64 X.k, .int .u32 X.m, .int .u32 X.u, .int .u32 X.g, .int .i64 X.t, .int .i64 X.a, .string X.d]) (.agg #[.int .i64 X.k, .int .u32 X.m, .int .u32 X.u, .int .u32 X.g, .int .i64 X.t, .int .i64 X.a, .string X.d])).run Tryz.prog w = .ok true w := by
  rw [eqq_nodeT]
  unfold nodB
  simp
set_option maxHeartbeats 4000000 in
theorem rput16_any (A : Option Addr) (c : Nat) (l : List Itm) (X : Itm) (w : World) (hR : Itms w A l) (hl : l.length ≤ 100000) (hs : ∀ x ∈ l, x.s.size ≤ 100000) (hx : X.s.size ≤ 100000) :
    Calls Tryz.prog 16 #[.slice A l.length c, .string X.s, .agg X.node] w fun e w' => ∃ A' c', e = .returned (.slice A' (putL l X).length c') ∧ NewI w' w.heap.size A' (putL l X) ∧ Below w.heap.size w w' := by
  have hinod := info_nodeT
  obtain ⟨w1, hw1⟩ : ∃ w1, w1 = w.alloc (.cells X.node 25) := ⟨_, rfl⟩
  have hb1 : Below w.heap.size w w1 := by rw [hw1]; exact below_al w _
  have hx1 : w1.heap[w.heap.size]? = some (.cells X.node 25 (0, 0)) := by rw [hw1]; exact heap_alloc_new w _
  have HX1 := Lib.hid hx1
  have HP := Lib.hid (rput_any A c l X w1 (hR.below hb1) hl hs hx)
  have HB1 := Lib.hid hb1
  have hnode : X.node = #[.int .i64 X.k, .int .u32 X.m, .int .u32 X.u, .int .u32 X.g, .int .i64 X.t, .int .i64 X.a, .string X.d] := rfl
  rw [hnode] at hw1 HP HX1 ⊢
  have HW1 := Lib.hid hw1
  clear hR hs hw1 hb1 hx1 hnode
  go_enter Tryz.func16, Tryz.ntmps16
  go_upto_region 1 with fail
  rw [← HW1.out]
  go_wp2_with (refine wpList_load_row rfl 25 (.tmp 5) rfl w.heap.size rfl 25 _ (0, 0) _ HX1.out Tryz.underlying25 rfl info_nodeT ?_)
  refine HP.out.mono ?_; rintro e w2 ⟨A2, c2, rfl, hN2, hb2⟩
  have HN2 := Lib.hid hN2
  have HB2 := Lib.hid (below_then HB1.out hb2)
  have HG : Hid (w.heap.size ≤ w1.heap.size) := HB1.out.size
  clear hN2 hb2 HP
  go_wp2_with fail
  go_ret
  exact ⟨A2, c2, rfl, newI_lower HN2.out HG.out, HB2.out⟩

/-- What the answer goes by. -/
def TdS (w : World) (A B AX AF AG : Option Addr) (l m FL : List Itm) (N y : Itm) (g6 g8 : Nat) (ww : World) : Prop :=
  Below w.heap.size w ww ∧ Itms ww A l ∧ Itms ww B m ∧ Itms ww AX l ∧ Itms ww AF FL ∧ Itms ww AG FL ∧ ww.heap[g6]? = some (.cells #[.int .i64 N.k, .int .u32 N.m, .int .u32 N.u, .int .u32 N.g, .int .i64 N.t, .int .i64 N.a, .string N.d] 25 (0, 0)) ∧ ww.heap[g8]? = some (.cells #[.int .i64 N.k, .int .u32 N.m, .int .u32 N.u, .int .u32 N.g, .int .i64 N.t, .int .i64 N.a, .string N.d] 25 (0, 0)) ∧ ww.heap[w.heap.size]? = some (.cells #[.int .i64 y.k, .int .u32 y.m, .int .u32 y.u, .int .u32 y.g, .int .i64 y.t, .int .i64 y.a, .string y.d] 25 (0, 0))
theorem TdS.next {w x z : World} {A B AX AF AG : Option Addr} {l m FL : List Itm} {N y : Itm} {g6 g8 : Nat} (h : TdS w A B AX AF AG l m FL N y g6 g8 x) (hb : Below x.heap.size x z) : TdS w A B AX AF AG l m FL N y g6 g8 z := by
  obtain ⟨h1, h2, h3, h4, h5, h6, h7, h8, h9⟩ := h
  exact ⟨below_then h1 hb, h2.below hb, h3.below hb, h4.below hb, h5.below hb, h6.below hb, (hb.block _ (lt_of_block h7)).trans h7, (hb.block _ (lt_of_block h8)).trans h8, (hb.block _ (lt_of_block h9)).trans h9⟩
set_option maxHeartbeats 64000000 in
theorem treeDoes_core (A B : Option Addr) (cA cB : Nat) (l m : List Itm) (y D : Itm) (w : World) (hA : Itms w A l) (hB : Itms w B m) (hl : l.length ≤ 9223372036854775807) (hm : m.length ≤ 9223372036854775807) (hE : Env w)
    (hAW : ∀ w1, Below w.heap.size w w1 → Calls Tryz.prog 4 #[] w1 fun e w' => e = .returned (.bool true) ∧ Below w1.heap.size w1 w') :
    Calls Tryz.prog 3 #[.slice A l.length cA, .slice B m.length cB, .string y.s, .agg y.node, .agg D.node] w fun e w' => e = .returned (.bool true) ∧ Below w.heap.size w w' := by
  have hir := info_item
  have hinod := info_nodeT
  obtain ⟨W1, hW1⟩ : ∃ W1, W1 = w.alloc (.cells y.node 25) := ⟨_, rfl⟩
  obtain ⟨W2, hW2⟩ : ∃ W2, W2 = W1.alloc (.cells D.node 25) := ⟨_, rfl⟩
  have hb1 : Below w.heap.size w W1 := by rw [hW1]; exact below_al w _
  have hb12 : Below W1.heap.size W1 W2 := by rw [hW2]; exact below_al W1 _
  have hsz : W1.heap.size = w.heap.size + 1 := by rw [hW1]; simp only [World.alloc, Array.size_push]
  have hx1 : W1.heap[w.heap.size]? = some (.cells y.node 25 (0, 0)) := by rw [hW1]; exact heap_alloc_new w _
  have HY := Lib.hid ((hb12.block _ (lt_of_block hx1)).trans hx1)
  have HD : Hid (W2.heap[w.heap.size + 1]? = some (.cells D.node 25 (0, 0))) := by show _ = _; rw [hW2, ← hsz]; exact heap_alloc_new W1 _
  have HW := Lib.hid (below_then hb1 hb12)
  have HA := Lib.hid (Itms.below hA HW.out)
  have HB := Lib.hid (Itms.below hB HW.out)
  have HAW := Lib.hid (hAW W2 HW.out)
  have HEN := Lib.hid (fun w1 (hb : Below w.heap.size w w1) => hE.below hb)
  have HFA := Lib.hid (fun w1 (h : Itms w1 A l) => fewI_any A cA l w1 h hl)
  have HFB := Lib.hid (fun w1 (h : Itms w1 B m) => fewI_any B cB m w1 h hm)
  rw [hW1] at hW2
  have hnode : y.node = #[.int .i64 y.k, .int .u32 y.m, .int .u32 y.u, .int .u32 y.g, .int .i64 y.t, .int .i64 y.a, .string y.d] := rfl
  have hnodD : D.node = #[.int .i64 D.k, .int .u32 D.m, .int .u32 D.u, .int .u32 D.g, .int .i64 D.t, .int .i64 D.a, .string D.d] := rfl
  obtain ⟨p, hp⟩ : ∃ p, p = y.s := ⟨_, rfl⟩
  have HP := Lib.hid hp
  rw [← hp]
  rw [hnode, hnodD] at hW2
  have HW2 := Lib.hid hW2
  clear hp hAW hA hB hb1 hb12 hsz hx1 hW1 hW2 hE
  rw [hnode, hnodD]
  go_enter Tryz.func3, Tryz.ntmps3
  go_upto_region 1 with fail
  rw [← HW2.out]
  clear HW2
  rw [hnode] at HY
  rw [hnodD] at HD
  go_wp2_with fail
  refine HAW.out.mono ?_; rintro e w2 ⟨rfl, hb⟩
  have HW := Lib.hid (below_then HW.out hb)
  have HA := Lib.hid (Itms.below HA.out hb)
  have HB := Lib.hid (Itms.below HB.out hb)
  have HY := Lib.hid ((hb.block _ (lt_of_block HY.out)).trans HY.out)
  have HD := Lib.hid ((hb.block _ (lt_of_block HD.out)).trans HD.out)
  clear hb HAW
  have HF := Lib.hid (HFA.out w2 HA.out)
  by_cases hf : FewP l
  case neg =>
    rw [decide_eq_false hf] at HF
    go_wp2_with fail
    refine HF.out.mono ?_; rintro e w3 ⟨rfl, hb3⟩
    have HB3 := Lib.hid (below_then HW.out hb3)
    clear hb3 HF HFA HFB
    go_wp2_with fail
    go_ret
    exact ⟨rfl, HB3.out⟩
  rw [decide_eq_true hf] at HF
  obtain ⟨hl1, hs1⟩ := few_both hf
  have HS := Lib.hid hs1
  have HLD : Hid (∀ x ∈ l, x.d.size ≤ 9223372036854775807) := fun x hx => by have := (hf x hx).2.2; omega
  clear hf hs1 HFA
  go_wp2_with fail
  refine HF.out.mono ?_; rintro e w3 ⟨rfl, hb⟩
  have HW := Lib.hid (below_then HW.out hb)
  have HA := Lib.hid (Itms.below HA.out hb)
  have HB := Lib.hid (Itms.below HB.out hb)
  have HY := Lib.hid ((hb.block _ (lt_of_block HY.out)).trans HY.out)
  have HD := Lib.hid ((hb.block _ (lt_of_block HD.out)).trans HD.out)
  clear hb HF
  have HG := Lib.hid (HFB.out w3 HB.out)
  by_cases hg : FewP m
  case neg =>
    rw [decide_eq_false hg] at HG
    go_wp2_with fail
    refine HG.out.mono ?_; rintro e w4 ⟨rfl, hb3⟩
    have HB3 := Lib.hid (below_then HW.out hb3)
    clear hb3 HG HFB
    go_wp2_with fail
    go_ret
    exact ⟨rfl, HB3.out⟩
  rw [decide_eq_true hg] at HG
  obtain ⟨hm1, hsm1⟩ := few_both hg
  have HSM := Lib.hid hsm1
  clear hg hsm1 HFB
  go_wp2_with fail
  refine HG.out.mono ?_; rintro e w4 ⟨rfl, hb⟩
  have HW := Lib.hid (below_then HW.out hb)
  have HA := Lib.hid (Itms.below HA.out hb)
  have HB := Lib.hid (Itms.below HB.out hb)
  have HY := Lib.hid ((hb.block _ (lt_of_block HY.out)).trans HY.out)
  have HD := Lib.hid ((hb.block _ (lt_of_block HD.out)).trans HD.out)
  clear hb HG
  by_cases hp1 : 1000 < p.size
  case pos =>
    have hp2 : (1000 : Int) < (p.size : Int) := by omega
    go_wp2_with fail
    go_ret
    exact ⟨rfl, HW.out⟩
  have hp2 : ¬ (1000 : Int) < (p.size : Int) := by omega
  have hs5 : ∀ x ∈ l, x.s.size ≤ 100000 := fun x hx => by have := HS.out x hx; omega
  have HS5 := Lib.hid hs5
  have HSM5 : Hid (∀ x ∈ m, x.s.size ≤ 100000) := fun x hx => by have := HSM.out x hx; omega
  have hys : y.s.size ≤ 100000 := by have := HP.out; rw [← this]; omega
  clear hs5
  have HO0 : Hid (w4.ownsRow w.heap.size 42 8 (.slice none 0 0) ([] : List Itm).length (cellsI [])) := World.ownsRow_nil _ _ _ _
  have HA0 := HA
  go_wp2_with (at_builtin; refine wpList_append_itms rfl _ _ rfl w.heap.size (.slice none 0 0) [] rfl HO0.out A l.length cA l rfl rfl HA0.out ?qa1 ?qa2 ?_)
  case qa1 => show 0 + _ ≤ _; omega
  case qa2 => exact HW.out.size
  intro v5 w5 ho5 hg5
  have ho5 : w5.ownsRow w.heap.size 42 8 v5 l.length (cellsI l) := ho5
  have hb : Below w4.heap.size w4 w5 := (Below.refl w4.heap.size w4).grown hg5 (Nat.le_refl _) (fun q hq => by cases hq)
  obtain ⟨AX, cX, hv5, hN5⟩ := own_newI ho5
  subst hv5
  have HW := Lib.hid (below_then HW.out hb)
  have HA := Lib.hid (Itms.below HA.out hb)
  have HB := Lib.hid (Itms.below HB.out hb)
  have HY := Lib.hid ((hb.block _ (lt_of_block HY.out)).trans HY.out)
  have HD := Lib.hid ((hb.block _ (lt_of_block HD.out)).trans HD.out)
  have HX := Lib.hid hN5.itms
  clear hb ho5 hg5 hN5 HO0 HA0
  have HT := Lib.hid (tfind_any A cA l p w5 HA.out (by omega))
  have HT2 := Lib.hid (fun w1 (h : Itms w1 A l) => rfind_any A cA l p w1 h (by omega))
  simp only [fndV_lok, Itm.node] at HT HT2
  generalize lokN l p = N at *
  generalize (fndQ l p).isSome = f at *
  go_wp2_with fail
  refine HT.out.mono ?_; rintro e w6 ⟨rfl, hb⟩
  have HW := Lib.hid (below_then HW.out hb)
  have HA := Lib.hid (Itms.below HA.out hb)
  have HB := Lib.hid (Itms.below HB.out hb)
  have HY := Lib.hid ((hb.block _ (lt_of_block HY.out)).trans HY.out)
  have HD := Lib.hid ((hb.block _ (lt_of_block HD.out)).trans HD.out)
  have HX := Lib.hid (Itms.below HX.out hb)
  clear hb HT
  have heqN := node_eq N
  obtain ⟨w7, hwn⟩ : ∃ w7, w7 = w6.alloc (.cells #[.int .i64 N.k, .int .u32 N.m, .int .u32 N.u, .int .u32 N.g, .int .i64 N.t, .int .i64 N.a, .string N.d] 25) := ⟨_, rfl⟩
  have hb : Below w6.heap.size w6 w7 := by rw [hwn]; exact below_al w6 _
  have HW := Lib.hid (below_then HW.out hb)
  have HA := Lib.hid (Itms.below HA.out hb)
  have HB := Lib.hid (Itms.below HB.out hb)
  have HY := Lib.hid ((hb.block _ (lt_of_block HY.out)).trans HY.out)
  have HD := Lib.hid ((hb.block _ (lt_of_block HD.out)).trans HD.out)
  have HX := Lib.hid (Itms.below HX.out hb)
  have HN1 : Hid (w7.heap[w6.heap.size]? = some (.cells #[.int .i64 N.k, .int .u32 N.m, .int .u32 N.u, .int .u32 N.g, .int .i64 N.t, .int .i64 N.a, .string N.d] 25 (0, 0))) := by show _ = _; rw [hwn]; exact heap_alloc_new w6 _
  have HWN := Lib.hid hwn
  clear hb hwn
  go_upto_region 7 with fail
  rw [← HWN.out]
  clear HWN
  generalize hg6 : w6.heap.size = g6 at *
  clear hg6
  have HTT := Lib.hid (HT2.out w7 HA.out)
  clear HT2
  go_wp2_with fail
  refine HTT.out.mono ?_; rintro e w8 ⟨rfl, hb⟩
  have HW := Lib.hid (below_then HW.out hb)
  have HA := Lib.hid (Itms.below HA.out hb)
  have HB := Lib.hid (Itms.below HB.out hb)
  have HY := Lib.hid ((hb.block _ (lt_of_block HY.out)).trans HY.out)
  have HD := Lib.hid ((hb.block _ (lt_of_block HD.out)).trans HD.out)
  have HX := Lib.hid (Itms.below HX.out hb)
  have HN1 := Lib.hid ((hb.block _ (lt_of_block HN1.out)).trans HN1.out)
  clear hb HTT
  obtain ⟨w9, hwn⟩ : ∃ w9, w9 = w8.alloc (.cells #[.int .i64 N.k, .int .u32 N.m, .int .u32 N.u, .int .u32 N.g, .int .i64 N.t, .int .i64 N.a, .string N.d] 25) := ⟨_, rfl⟩
  have hb : Below w8.heap.size w8 w9 := by rw [hwn]; exact below_al w8 _
  have HW := Lib.hid (below_then HW.out hb)
  have HA := Lib.hid (Itms.below HA.out hb)
  have HB := Lib.hid (Itms.below HB.out hb)
  have HY := Lib.hid ((hb.block _ (lt_of_block HY.out)).trans HY.out)
  have HD := Lib.hid ((hb.block _ (lt_of_block HD.out)).trans HD.out)
  have HX := Lib.hid (Itms.below HX.out hb)
  have HN1 := Lib.hid ((hb.block _ (lt_of_block HN1.out)).trans HN1.out)
  have HN2 : Hid (w9.heap[w8.heap.size]? = some (.cells #[.int .i64 N.k, .int .u32 N.m, .int .u32 N.u, .int .u32 N.g, .int .i64 N.t, .int .i64 N.a, .string N.d] 25 (0, 0))) := by show _ = _; rw [hwn]; exact heap_alloc_new w8 _
  have HWN := Lib.hid hwn
  clear hb hwn
  go_upto_region 8 with fail
  rw [← HWN.out]
  clear HWN
  generalize hg8 : w8.heap.size = g8 at *
  clear hg8
  have HT := Lib.hid (tfill_any A cA l D w9 HA.out (by omega) (fun x hx => by have := HS.out x hx; omega))
  have HT2 := Lib.hid (fun w1 (h : Itms w1 A l) => by have k := rfill_any A cA l D w1 h hl1 HS.out; rw [rfV_eq] at k; exact k)
  rw [hnodD] at HT HT2
  have HLF : Hid ((filL D l).length ≤ 1000000) := by show _ ≤ _; exact fil_len D l hl1 HS.out
  generalize filL D l = FL at *
  generalize impB l = FB at *
  go_wp2_with (refine wpList_load_row rfl 25 (.tmp 9) rfl (w.heap.size + 1) rfl 25 _ (0, 0) _ HD.out Tryz.underlying25 rfl info_nodeT ?_)
  refine HT.out.mono ?_; rintro e w10 ⟨A10, c10, rfl, hN, hb⟩
  have HW := Lib.hid (below_then HW.out hb)
  have HA := Lib.hid (Itms.below HA.out hb)
  have HB := Lib.hid (Itms.below HB.out hb)
  have HY := Lib.hid ((hb.block _ (lt_of_block HY.out)).trans HY.out)
  have HD := Lib.hid ((hb.block _ (lt_of_block HD.out)).trans HD.out)
  have HX := Lib.hid (Itms.below HX.out hb)
  have HN1 := Lib.hid ((hb.block _ (lt_of_block HN1.out)).trans HN1.out)
  have HN2 := Lib.hid ((hb.block _ (lt_of_block HN2.out)).trans HN2.out)
  have HF1 := Lib.hid hN.itms
  have HTT := Lib.hid (HT2.out w10 HA.out)
  clear hb hN HT HT2
  go_wp2_with (refine wpList_load_row rfl 25 (.tmp 9) rfl (w.heap.size + 1) rfl 25 _ (0, 0) _ HD.out Tryz.underlying25 rfl info_nodeT ?_)
  refine HTT.out.mono ?_; rintro e w11 ⟨A11, c11, rfl, hN, hb⟩
  have HW := Lib.hid (below_then HW.out hb)
  have HA := Lib.hid (Itms.below HA.out hb)
  have HB := Lib.hid (Itms.below HB.out hb)
  have HY := Lib.hid ((hb.block _ (lt_of_block HY.out)).trans HY.out)
  have HD := Lib.hid ((hb.block _ (lt_of_block HD.out)).trans HD.out)
  have HX := Lib.hid (Itms.below HX.out hb)
  have HN1 := Lib.hid ((hb.block _ (lt_of_block HN1.out)).trans HN1.out)
  have HN2 := Lib.hid ((hb.block _ (lt_of_block HN2.out)).trans HN2.out)
  have HF1 := Lib.hid (Itms.below HF1.out hb)
  have HF2 := Lib.hid hN.itms
  clear hb hN HTT
  have HT := Lib.hid (tdiffer_any A B cA cB l m w11 HA.out HB.out (by omega) (by omega) HS5.out HSM5.out)
  have HT2 := Lib.hid (fun w1 (h : Itms w1 A l) (h2 : Itms w1 B m) => rdiffer_any A B cA cB l m w1 h h2 (by omega) (by omega) HS5.out HSM5.out)
  have HLD2 : Hid ((difS l m (sortI (l ++ m))).length ≤ 200) := by
    show _ ≤ _
    have h := dif_len l m (sortI (l ++ m)) _ (Nat.le_refl _)
    rw [List.take_length, sortI_len, List.length_append] at h
    omega
  generalize difS l m (sortI (l ++ m)) = DS at *
  go_wp2_with fail
  refine HT.out.mono ?_; rintro e w12 ⟨V1, rfl, ho, hb⟩
  have HW := Lib.hid (below_then HW.out hb)
  have HA := Lib.hid (Itms.below HA.out hb)
  have HB := Lib.hid (Itms.below HB.out hb)
  have HY := Lib.hid ((hb.block _ (lt_of_block HY.out)).trans HY.out)
  have HD := Lib.hid ((hb.block _ (lt_of_block HD.out)).trans HD.out)
  have HX := Lib.hid (Itms.below HX.out hb)
  have HN1 := Lib.hid ((hb.block _ (lt_of_block HN1.out)).trans HN1.out)
  have HN2 := Lib.hid ((hb.block _ (lt_of_block HN2.out)).trans HN2.out)
  have HF1 := Lib.hid (Itms.below HF1.out hb)
  have HF2 := Lib.hid (Itms.below HF2.out hb)
  have HO1 := Lib.hid ho
  have HTT := Lib.hid (HT2.out w12 HA.out HB.out)
  clear hb ho HT HT2
  go_wp2_with fail
  refine HTT.out.mono ?_; rintro e w13 ⟨V2, rfl, ho, hb⟩
  have HW := Lib.hid (below_then HW.out hb)
  have HA := Lib.hid (Itms.below HA.out hb)
  have HB := Lib.hid (Itms.below HB.out hb)
  have HY := Lib.hid ((hb.block _ (lt_of_block HY.out)).trans HY.out)
  have HD := Lib.hid ((hb.block _ (lt_of_block HD.out)).trans HD.out)
  have HX := Lib.hid (Itms.below HX.out hb)
  have HN1 := Lib.hid ((hb.block _ (lt_of_block HN1.out)).trans HN1.out)
  have HN2 := Lib.hid ((hb.block _ (lt_of_block HN2.out)).trans HN2.out)
  have HF1 := Lib.hid (Itms.below HF1.out hb)
  have HF2 := Lib.hid (Itms.below HF2.out hb)
  have HO1 := Lib.hid (own_keepD HO1.out hb)
  have HO2 := Lib.hid ho
  clear hb ho HTT
  obtain ⟨Z1, d1, hv1, hz1⟩ := strs_own HO1.out
  obtain ⟨Z2, d2, hv2, hz2⟩ := strs_own HO2.out
  subst hv1
  subst hv2
  have HZ1 := Lib.hid hz1
  have HZ2 := Lib.hid hz2
  clear hz1 hz2 HO1 HO2
  have hdd : ((DS.length : Int) != (DS.length : Int)) = false := by simp
  go_upto_region 13 with fail
  go_wp2_with fail
  go_loopw [77] (fun v77 wr => ∃ k : Nat, k ≤ DS.length ∧ v77 = .int .i64 (k : Nat) ∧ Hid (Below w13.heap.size w13 wr)) (fun v _ => DS.length - (intOf v).toNat)
  case atStart => exact ⟨0, Nat.zero_le _, rfl, Below.refl _ _⟩
  case round =>
    obtain ⟨k, hk, rfl, HBR⟩ := hrel
    by_cases hkn : k < DS.length
    case pos =>
      have hd : decide ((k : Int) < (DS.length : Int)) = true := decide_eq_true (by omega)
      obtain ⟨g1, rfl, hg1, hc1⟩ := (HZ1.out.below HBR.out) k hkn
      obtain ⟨g2, rfl, hg2, hc2⟩ := (HZ2.out.below HBR.out) k hkn
      generalize DS[k] = X at *
      have hk2 : k < 200 := by have := HLD2.out; omega
      go_wp2_with fail
      go_quiet (fail)
      go_wp2_with fail
      go_roundw
      case rel => exact ⟨k + 1, by omega, by go_num, below_drewN HBR.out _⟩
      case measure => simp [intOf]; omega
    obtain rfl : k = DS.length := by omega
    have hd : decide ((DS.length : Int) < (DS.length : Int)) = false := decide_eq_false (by omega)
    have hb := HBR.out
    have HW := Lib.hid (below_then HW.out hb)
    have HA := Lib.hid (Itms.below HA.out hb)
    have HB := Lib.hid (Itms.below HB.out hb)
    have HY := Lib.hid ((hb.block _ (lt_of_block HY.out)).trans HY.out)
    have HD := Lib.hid ((hb.block _ (lt_of_block HD.out)).trans HD.out)
    have HX := Lib.hid (Itms.below HX.out hb)
    have HN1 := Lib.hid ((hb.block _ (lt_of_block HN1.out)).trans HN1.out)
    have HN2 := Lib.hid ((hb.block _ (lt_of_block HN2.out)).trans HN2.out)
    have HF1 := Lib.hid (Itms.below HF1.out hb)
    have HF2 := Lib.hid (Itms.below HF2.out hb)
    clear hb HBR HZ1 HZ2 HLD2 hdd
    have hS0 : (TdS w A B AX A10 A11 l m FL N y g6 g8) wr.drew := ⟨HW.out.drew, HA.out.below (Below.refl _ _).drew, HB.out.below (Below.refl _ _).drew, HX.out.below (Below.refl _ _).drew, HF1.out.below (Below.refl _ _).drew, HF2.out.below (Below.refl _ _).drew, HN1.out, HN2.out, HY.out⟩
    have HTR := Lib.hid (fun w1 (h : Itms w1 A l) (hb : Below w.heap.size w w1) => by have k := tright_any A cA l w1 h (HEN.out w1 hb) (by omega) HS5.out; rw [rgtT_eq] at k; exact k)
    have HRR := Lib.hid (fun w1 (h : Itms w1 A l) => right16_any A cA l w1 h (by omega) HS5.out)
    generalize (!(l.any datL) && rgtI l) = RB at *
    have HPU := Lib.hid (fun w1 (h : Itms w1 A l) => tput_any A cA l y w1 h (by omega) (fun x hx => by have := HS5.out x hx; omega))
    have HPR := Lib.hid (fun w1 (h : Itms w1 A l) => rput16_any A cA l y w1 h (by omega) HS5.out hys)
    have HPL : Hid ((putL l y).length ≤ 1000000) := by show _ ≤ _; have := putL_len l y; omega
    rw [hnode, ← HP.out] at HPU HPR
    generalize putL l y = PL at *
    have HDU := Lib.hid (fun w1 (h : Itms w1 A l) => tdrop_any A cA l p w1 h (by omega))
    have HDR := Lib.hid (fun w1 (h : Itms w1 A l) => rdrop_any A cA l p w1 h (by omega))
    have HDL : Hid ((drpL p l).length ≤ 1000000) := by show _ ≤ _; have : (drpL p l).length ≤ l.length := List.length_filter_le _ _; omega
    generalize drpL p l = DL at *
    have hsl := sortI_len l
    have HSU := Lib.hid (fun w1 (h : Itms w1 A l) => tsort_any A cA l w1 h (by omega) (fun x hx => by have := HS5.out x hx; omega))
    have HSR := Lib.hid (fun w1 (h : Itms w1 A l) => rsort_any A cA l w1 h (by omega) HS5.out)
    generalize hSL : sortI l = SL at *
    have HSLN := Lib.hid hsl
    have HSLL : Hid (SL.length ≤ 1000000) := by show _ ≤ _; omega
    clear hSL hsl
    have HBU := Lib.hid (fun w1 (h : Itms w1 A l) => tbytes_any A cA l w1 h (by omega) HLD.out)
    have HBR2 := Lib.hid (fun w1 (h : Itms w1 A l) => rbytes_any A cA l w1 h (by omega) HLD.out)
    generalize bytM l = BN at *
    have HSA := Lib.hid (fun w1 (h : Itms w1 A l) (h2 : Itms w1 B m) => tsame_any A B cA cB l m w1 h h2 (by omega) (by omega))
    have HSB := Lib.hid (fun w1 (h : Itms w1 A l) (h2 : Itms w1 B m) => rsameQ_any A B cA cB l m w1 h h2 (by omega) (by omega))
    have HLL : Hid (l.length ≤ 1000000) := by show _ ≤ _; omega
    generalize samB l m = SB at *
    clear HW HA HB HX HF1 HF2 HN1 HN2 HY HD HEN HS HS5 HSM HSM5 HLD hys heqN HP
    go_wp2_with fail
    try simp only [List.append_eq, List.cons_append, List.nil_append]
    refine wp_region_held_drew (S := TdS w A B AX A10 A11 l m FL N y g6 g8) (by kernel_rfl) hS0 (fun hSA => ?_)
    clear hS0
    generalize wr.drew = q0 at *
    refine wpAnyH_take (i := 0) (v := .agg #[.int .i64 N.k, .int .u32 N.m, .int .u32 N.u, .int .u32 N.g, .int .i64 N.t, .int .i64 N.a, .string N.d]) rfl (by kernel_rfl) (by kernel_rfl) (by kernel_rfl) (fun _ _ _ h => h) (Or.inl ⟨by kernel_rfl, ?_⟩) (by assumption) ?_
    · intro ww hSw
      obtain ⟨_, _, _, _, _, _, h7, h8, h9⟩ := hSw
      have hc0 : ww.cell? ⟨g6, 0, none⟩ = some (.int .i64 N.k) := by rw [Lib.cell_of_heap h7]; rfl
      have hc1 : ww.cell? ⟨g6, 1, none⟩ = some (.int .u32 N.m) := by rw [Lib.cell_of_heap h7]; rfl
      have hc2 : ww.cell? ⟨g6, 2, none⟩ = some (.int .u32 N.u) := by rw [Lib.cell_of_heap h7]; rfl
      have hc3 : ww.cell? ⟨g6, 3, none⟩ = some (.int .u32 N.g) := by rw [Lib.cell_of_heap h7]; rfl
      have hc4 : ww.cell? ⟨g6, 4, none⟩ = some (.int .i64 N.t) := by rw [Lib.cell_of_heap h7]; rfl
      have hc5 : ww.cell? ⟨g6, 5, none⟩ = some (.int .i64 N.a) := by rw [Lib.cell_of_heap h7]; rfl
      have hc6 : ww.cell? ⟨g6, 6, none⟩ = some (.string N.d) := by rw [Lib.cell_of_heap h7]; rfl
      clear h7 h8 h9
      go_simp
      all_goals (try assumption)
      all_goals (try rfl)
    try simp only [Act.put, List.setIfInBounds_toArray, List.set_cons_zero, List.set_cons_succ, List.getElem_toArray, List.getElem_cons_succ, List.getElem_cons_zero]
    refine wpAnyH_take (i := 1) (v := .agg #[.int .i64 N.k, .int .u32 N.m, .int .u32 N.u, .int .u32 N.g, .int .i64 N.t, .int .i64 N.a, .string N.d]) rfl (by kernel_rfl) (by kernel_rfl) (by kernel_rfl) (fun _ _ _ h => h) (Or.inl ⟨by kernel_rfl, ?_⟩) (by assumption) ?_
    · intro ww hSw
      obtain ⟨_, _, _, _, _, _, h7, h8, h9⟩ := hSw
      have hc0 : ww.cell? ⟨g8, 0, none⟩ = some (.int .i64 N.k) := by rw [Lib.cell_of_heap h8]; rfl
      have hc1 : ww.cell? ⟨g8, 1, none⟩ = some (.int .u32 N.m) := by rw [Lib.cell_of_heap h8]; rfl
      have hc2 : ww.cell? ⟨g8, 2, none⟩ = some (.int .u32 N.u) := by rw [Lib.cell_of_heap h8]; rfl
      have hc3 : ww.cell? ⟨g8, 3, none⟩ = some (.int .u32 N.g) := by rw [Lib.cell_of_heap h8]; rfl
      have hc4 : ww.cell? ⟨g8, 4, none⟩ = some (.int .i64 N.t) := by rw [Lib.cell_of_heap h8]; rfl
      have hc5 : ww.cell? ⟨g8, 5, none⟩ = some (.int .i64 N.a) := by rw [Lib.cell_of_heap h8]; rfl
      have hc6 : ww.cell? ⟨g8, 6, none⟩ = some (.string N.d) := by rw [Lib.cell_of_heap h8]; rfl
      clear h7 h8 h9
      go_simp
      all_goals (try assumption)
      all_goals (try rfl)
    try simp only [Act.put, List.setIfInBounds_toArray, List.set_cons_zero, List.set_cons_succ, List.getElem_toArray, List.getElem_cons_succ, List.getElem_cons_zero]
    refine wpAnyH_take (i := 2) (v := .bool true) rfl (by kernel_rfl) (by kernel_rfl) (by kernel_rfl) (fun _ _ _ h => h) (Or.inl ⟨by kernel_rfl, ?_⟩) (by assumption) ?_
    · intro ww hSw
      obtain ⟨_, _, _, _, _, _, h7, h8, h9⟩ := hSw
      have heq := node_eq N ww
      clear h7 h8 h9
      go_simp
      all_goals (try assumption)
      all_goals (try rfl)
    try simp only [Act.put, List.setIfInBounds_toArray, List.set_cons_zero, List.set_cons_succ, List.getElem_toArray, List.getElem_cons_succ, List.getElem_cons_zero]
    refine wpAnyH_take (i := 3) (v := .bool true) rfl (by kernel_rfl) (by kernel_rfl) (by kernel_rfl) (fun _ _ _ h => h) (Or.inl ⟨by kernel_rfl, ?_⟩) (by assumption) ?_
    · intro ww hSw
      obtain ⟨_, _, _, _, _, _, h7, h8, h9⟩ := hSw
      clear h7 h8 h9
      go_simp
      all_goals (try assumption)
      all_goals (try rfl)
    try simp only [Act.put, List.setIfInBounds_toArray, List.set_cons_zero, List.set_cons_succ, List.getElem_toArray, List.getElem_cons_succ, List.getElem_cons_zero]
    refine wpAnyH_take (i := 4) (v := .bool f) rfl (by kernel_rfl) (by kernel_rfl) (by kernel_rfl) (fun _ _ _ h => h) (Or.inl ⟨by kernel_rfl, ?_⟩) (by assumption) ?_
    · intro ww hSw
      obtain ⟨_, _, _, _, _, _, h7, h8, h9⟩ := hSw
      clear h7 h8 h9
      go_simp
      all_goals (try assumption)
      all_goals (try rfl)
    try simp only [Act.put, List.setIfInBounds_toArray, List.set_cons_zero, List.set_cons_succ, List.getElem_toArray, List.getElem_cons_succ, List.getElem_cons_zero]
    refine wpAnyH_take (i := 5) (v := .bool f) rfl (by kernel_rfl) (by kernel_rfl) (by kernel_rfl) (fun _ _ _ h => h) (Or.inl ⟨by kernel_rfl, ?_⟩) (by assumption) ?_
    · intro ww hSw
      obtain ⟨_, _, _, _, _, _, h7, h8, h9⟩ := hSw
      clear h7 h8 h9
      go_simp
      all_goals (try assumption)
      all_goals (try rfl)
    try simp only [Act.put, List.setIfInBounds_toArray, List.set_cons_zero, List.set_cons_succ, List.getElem_toArray, List.getElem_cons_succ, List.getElem_cons_zero]
    refine wpAnyH_take (i := 6) (v := .bool true) rfl (by kernel_rfl) (by kernel_rfl) (by kernel_rfl) (fun _ _ _ h => h) (Or.inl ⟨by kernel_rfl, ?_⟩) (by assumption) ?_
    · intro ww hSw
      obtain ⟨_, _, _, _, _, _, h7, h8, h9⟩ := hSw
      clear h7 h8 h9
      go_simp
      all_goals (try assumption)
      all_goals (try rfl)
    try simp only [Act.put, List.setIfInBounds_toArray, List.set_cons_zero, List.set_cons_succ, List.getElem_toArray, List.getElem_cons_succ, List.getElem_cons_zero]
    refine wpAnyH_take (i := 7) (v := .bool true) rfl (by kernel_rfl) (by kernel_rfl) (by kernel_rfl) (fun _ _ _ h => h) (Or.inl ⟨by kernel_rfl, ?_⟩) (by assumption) ?_
    · intro ww hSw
      obtain ⟨_, _, _, _, _, _, h7, h8, h9⟩ := hSw
      clear h7 h8 h9
      go_simp
      all_goals (try assumption)
      all_goals (try rfl)
    try simp only [Act.put, List.setIfInBounds_toArray, List.set_cons_zero, List.set_cons_succ, List.getElem_toArray, List.getElem_cons_succ, List.getElem_cons_zero]
    refine wpAnyH_take (i := 8) (v := .bool true) rfl (by kernel_rfl) (by kernel_rfl) (by kernel_rfl) (fun _ _ _ h => h) (Or.inl ⟨by kernel_rfl, ?_⟩) (by assumption) ?_
    · intro ww hSw
      obtain ⟨_, _, _, _, _, _, h7, h8, h9⟩ := hSw
      clear h7 h8 h9
      go_simp
      all_goals (try assumption)
      all_goals (try rfl)
    try simp only [Act.put, List.setIfInBounds_toArray, List.set_cons_zero, List.set_cons_succ, List.getElem_toArray, List.getElem_cons_succ, List.getElem_cons_zero]
    refine wpAnyH_take (i := 9) (v := .slice A10 FL.length c10) rfl (by kernel_rfl) (by kernel_rfl) (by kernel_rfl) (fun _ _ _ h => h) (Or.inl ⟨by kernel_rfl, ?_⟩) (by assumption) ?_
    · intro ww hSw
      obtain ⟨_, _, _, _, _, _, h7, h8, h9⟩ := hSw
      clear h7 h8 h9
      go_simp
      all_goals (try assumption)
      all_goals (try rfl)
    try simp only [Act.put, List.setIfInBounds_toArray, List.set_cons_zero, List.set_cons_succ, List.getElem_toArray, List.getElem_cons_succ, List.getElem_cons_zero]
    refine wpAnyH_take (i := 10) (v := .slice A11 FL.length c11) rfl (by kernel_rfl) (by kernel_rfl) (by kernel_rfl) (fun _ _ _ h => h) (Or.inl ⟨by kernel_rfl, ?_⟩) (by assumption) ?_
    · intro ww hSw
      obtain ⟨_, _, _, _, _, _, h7, h8, h9⟩ := hSw
      clear h7 h8 h9
      go_simp
      all_goals (try assumption)
      all_goals (try rfl)
    try simp only [Act.put, List.setIfInBounds_toArray, List.set_cons_zero, List.set_cons_succ, List.getElem_toArray, List.getElem_cons_succ, List.getElem_cons_zero]
    refine wpAnyH_ready (rs := [11]) (by kernel_rfl) (by simp) ?_
    refine AllReadyH.cons rfl (fun K hK => ?_) AllReadyH.nil
    go_simp
    refine (rsameT_any A10 A11 c10 c11 FL q0 hSA.2.2.2.2.1 hSA.2.2.2.2.2.1 HLF.out).mono ?_
    rintro e q1 ⟨rfl, d1, rfl⟩
    have hbq1 : Below q0.heap.size q0 (q0.drewN d1) := below_drewN (Below.refl _ _) d1
    have hSq1 := hSA.next hbq1
    refine hK.out _ _ hSq1 (fun hTq1 => ?_)
    clear hK K
    try simp only [Act.put, List.setIfInBounds_toArray, List.set_cons_zero, List.set_cons_succ, List.getElem_toArray, List.getElem_cons_succ, List.getElem_cons_zero]
    generalize q0.drewN d1 = q1 at *
    refine wpAnyH_take (i := 12) (v := .bool true) rfl (by kernel_rfl) (by kernel_rfl) (by kernel_rfl) (fun _ _ _ h => h) (Or.inl ⟨by kernel_rfl, ?_⟩) (by assumption) ?_
    · intro ww hSw
      obtain ⟨_, _, _, _, _, _, h7, h8, h9⟩ := hSw
      clear h7 h8 h9
      go_simp
      all_goals (try assumption)
      all_goals (try rfl)
    try simp only [Act.put, List.setIfInBounds_toArray, List.set_cons_zero, List.set_cons_succ, List.getElem_toArray, List.getElem_cons_succ, List.getElem_cons_zero]
    refine wpAnyH_take (i := 13) (v := .bool true) rfl (by kernel_rfl) (by kernel_rfl) (by kernel_rfl) (fun _ _ _ h => h) (Or.inl ⟨by kernel_rfl, ?_⟩) (by assumption) ?_
    · intro ww hSw
      obtain ⟨_, _, _, _, _, _, h7, h8, h9⟩ := hSw
      clear h7 h8 h9
      go_simp
      all_goals (try assumption)
      all_goals (try rfl)
    try simp only [Act.put, List.setIfInBounds_toArray, List.set_cons_zero, List.set_cons_succ, List.getElem_toArray, List.getElem_cons_succ, List.getElem_cons_zero]
    refine wpAnyH_take (i := 14) (v := .bool FB) rfl (by kernel_rfl) (by kernel_rfl) (by kernel_rfl) (fun _ _ _ h => h) (Or.inl ⟨by kernel_rfl, ?_⟩) (by assumption) ?_
    · intro ww hSw
      obtain ⟨_, _, _, _, _, _, h7, h8, h9⟩ := hSw
      clear h7 h8 h9
      go_simp
      all_goals (try assumption)
      all_goals (try rfl)
    try simp only [Act.put, List.setIfInBounds_toArray, List.set_cons_zero, List.set_cons_succ, List.getElem_toArray, List.getElem_cons_succ, List.getElem_cons_zero]
    refine wpAnyH_take (i := 15) (v := .bool FB) rfl (by kernel_rfl) (by kernel_rfl) (by kernel_rfl) (fun _ _ _ h => h) (Or.inl ⟨by kernel_rfl, ?_⟩) (by assumption) ?_
    · intro ww hSw
      obtain ⟨_, _, _, _, _, _, h7, h8, h9⟩ := hSw
      clear h7 h8 h9
      go_simp
      all_goals (try assumption)
      all_goals (try rfl)
    try simp only [Act.put, List.setIfInBounds_toArray, List.set_cons_zero, List.set_cons_succ, List.getElem_toArray, List.getElem_cons_succ, List.getElem_cons_zero]
    refine wpAnyH_take (i := 16) (v := .bool true) rfl (by kernel_rfl) (by kernel_rfl) (by kernel_rfl) (fun _ _ _ h => h) (Or.inl ⟨by kernel_rfl, ?_⟩) (by assumption) ?_
    · intro ww hSw
      obtain ⟨_, _, _, _, _, _, h7, h8, h9⟩ := hSw
      clear h7 h8 h9
      go_simp
      all_goals (try assumption)
      all_goals (try rfl)
    try simp only [Act.put, List.setIfInBounds_toArray, List.set_cons_zero, List.set_cons_succ, List.getElem_toArray, List.getElem_cons_succ, List.getElem_cons_zero]
    refine wpAnyH_take (i := 17) (v := .bool true) rfl (by kernel_rfl) (by kernel_rfl) (by kernel_rfl) (fun _ _ _ h => h) (Or.inl ⟨by kernel_rfl, ?_⟩) (by assumption) ?_
    · intro ww hSw
      obtain ⟨_, _, _, _, _, _, h7, h8, h9⟩ := hSw
      clear h7 h8 h9
      go_simp
      all_goals (try assumption)
      all_goals (try rfl)
    try simp only [Act.put, List.setIfInBounds_toArray, List.set_cons_zero, List.set_cons_succ, List.getElem_toArray, List.getElem_cons_succ, List.getElem_cons_zero]
    refine wpAnyH_take (i := 18) (v := .bool true) rfl (by kernel_rfl) (by kernel_rfl) (by kernel_rfl) (fun _ _ _ h => h) (Or.inl ⟨by kernel_rfl, ?_⟩) (by assumption) ?_
    · intro ww hSw
      obtain ⟨_, _, _, _, _, _, h7, h8, h9⟩ := hSw
      clear h7 h8 h9
      go_simp
      all_goals (try assumption)
      all_goals (try rfl)
    try simp only [Act.put, List.setIfInBounds_toArray, List.set_cons_zero, List.set_cons_succ, List.getElem_toArray, List.getElem_cons_succ, List.getElem_cons_zero]
    refine wpAnyH_take (i := 19) (v := .slice A l.length cA) rfl (by kernel_rfl) (by kernel_rfl) (by kernel_rfl) (fun _ _ _ h => h) (Or.inl ⟨by kernel_rfl, ?_⟩) (by assumption) ?_
    · intro ww hSw
      obtain ⟨_, _, _, _, _, _, h7, h8, h9⟩ := hSw
      clear h7 h8 h9
      go_simp
      all_goals (try assumption)
      all_goals (try rfl)
    try simp only [Act.put, List.setIfInBounds_toArray, List.set_cons_zero, List.set_cons_succ, List.getElem_toArray, List.getElem_cons_succ, List.getElem_cons_zero]
    refine wpAnyH_take (i := 21) (v := .slice A l.length cA) rfl (by kernel_rfl) (by kernel_rfl) (by kernel_rfl) (fun _ _ _ h => h) (Or.inl ⟨by kernel_rfl, ?_⟩) (by assumption) ?_
    · intro ww hSw
      obtain ⟨_, _, _, _, _, _, h7, h8, h9⟩ := hSw
      clear h7 h8 h9
      go_simp
      all_goals (try assumption)
      all_goals (try rfl)
    try simp only [Act.put, List.setIfInBounds_toArray, List.set_cons_zero, List.set_cons_succ, List.getElem_toArray, List.getElem_cons_succ, List.getElem_cons_zero]
    refine wpAnyH_ready (rs := [20]) (by kernel_rfl) (by simp) ?_
    refine AllReadyH.cons rfl (fun K hK => ?_) AllReadyH.nil
    go_simp
    refine (HTR.out q1 hSq1.2.1 hSq1.1).mono ?_
    rintro e q2 ⟨rfl, hbq2⟩
    have hSq2 := hSq1.next hbq2
    refine hK.out _ _ hSq2 (fun hTq2 => ?_)
    clear hK K
    try simp only [Act.put, List.setIfInBounds_toArray, List.set_cons_zero, List.set_cons_succ, List.getElem_toArray, List.getElem_cons_succ, List.getElem_cons_zero]
    refine wpAnyH_ready (rs := [22]) (by kernel_rfl) (by simp) ?_
    refine AllReadyH.cons rfl (fun K hK => ?_) AllReadyH.nil
    go_simp
    refine (HRR.out q2 hSq2.2.1).mono ?_
    rintro e q3 ⟨rfl, hbq3⟩
    have hSq3 := hSq2.next hbq3
    refine hK.out _ _ hSq3 (fun hTq3 => ?_)
    clear hK K
    try simp only [Act.put, List.setIfInBounds_toArray, List.set_cons_zero, List.set_cons_succ, List.getElem_toArray, List.getElem_cons_succ, List.getElem_cons_zero]
    refine wpAnyH_take (i := 23) (v := .bool true) rfl (by kernel_rfl) (by kernel_rfl) (by kernel_rfl) (fun _ _ _ h => h) (Or.inl ⟨by kernel_rfl, ?_⟩) (by assumption) ?_
    · intro ww hSw
      obtain ⟨_, _, _, _, _, _, h7, h8, h9⟩ := hSw
      clear h7 h8 h9
      go_simp
      all_goals (try assumption)
      all_goals (try rfl)
    try simp only [Act.put, List.setIfInBounds_toArray, List.set_cons_zero, List.set_cons_succ, List.getElem_toArray, List.getElem_cons_succ, List.getElem_cons_zero]
    refine wpAnyH_take (i := 24) (v := .bool true) rfl (by kernel_rfl) (by kernel_rfl) (by kernel_rfl) (fun _ _ _ h => h) (Or.inl ⟨by kernel_rfl, ?_⟩) (by assumption) ?_
    · intro ww hSw
      obtain ⟨_, _, _, _, _, _, h7, h8, h9⟩ := hSw
      clear h7 h8 h9
      go_simp
      all_goals (try assumption)
      all_goals (try rfl)
    try simp only [Act.put, List.setIfInBounds_toArray, List.set_cons_zero, List.set_cons_succ, List.getElem_toArray, List.getElem_cons_succ, List.getElem_cons_zero]
    refine wpAnyH_take (i := 25) (v := .bool true) rfl (by kernel_rfl) (by kernel_rfl) (by kernel_rfl) (fun _ _ _ h => h) (Or.inl ⟨by kernel_rfl, ?_⟩) (by assumption) ?_
    · intro ww hSw
      obtain ⟨_, _, _, _, _, _, h7, h8, h9⟩ := hSw
      clear h7 h8 h9
      go_simp
      all_goals (try assumption)
      all_goals (try rfl)
    try simp only [Act.put, List.setIfInBounds_toArray, List.set_cons_zero, List.set_cons_succ, List.getElem_toArray, List.getElem_cons_succ, List.getElem_cons_zero]
    refine wpAnyH_take (i := 26) (v := .slice A l.length cA) rfl (by kernel_rfl) (by kernel_rfl) (by kernel_rfl) (fun _ _ _ h => h) (Or.inl ⟨by kernel_rfl, ?_⟩) (by assumption) ?_
    · intro ww hSw
      obtain ⟨_, _, _, _, _, _, h7, h8, h9⟩ := hSw
      clear h7 h8 h9
      go_simp
      all_goals (try assumption)
      all_goals (try rfl)
    try simp only [Act.put, List.setIfInBounds_toArray, List.set_cons_zero, List.set_cons_succ, List.getElem_toArray, List.getElem_cons_succ, List.getElem_cons_zero]
    refine wpAnyH_take (i := 27) (v := .string p) rfl (by kernel_rfl) (by kernel_rfl) (by kernel_rfl) (fun _ _ _ h => h) (Or.inl ⟨by kernel_rfl, ?_⟩) (by assumption) ?_
    · intro ww hSw
      obtain ⟨_, _, _, _, _, _, h7, h8, h9⟩ := hSw
      clear h7 h8 h9
      go_simp
      all_goals (try assumption)
      all_goals (try rfl)
    try simp only [Act.put, List.setIfInBounds_toArray, List.set_cons_zero, List.set_cons_succ, List.getElem_toArray, List.getElem_cons_succ, List.getElem_cons_zero]
    refine wpAnyH_take (i := 28) (v := .agg #[.int .i64 y.k, .int .u32 y.m, .int .u32 y.u, .int .u32 y.g, .int .i64 y.t, .int .i64 y.a, .string y.d]) rfl (by kernel_rfl) (by kernel_rfl) (by kernel_rfl) (fun _ _ _ h => h) (Or.inl ⟨by kernel_rfl, ?_⟩) (by assumption) ?_
    · intro ww hSw
      obtain ⟨_, _, _, _, _, _, h7, h8, h9⟩ := hSw
      have hc0 : ww.cell? ⟨w.heap.size, 0, none⟩ = some (.int .i64 y.k) := by rw [Lib.cell_of_heap h9]; rfl
      have hc1 : ww.cell? ⟨w.heap.size, 1, none⟩ = some (.int .u32 y.m) := by rw [Lib.cell_of_heap h9]; rfl
      have hc2 : ww.cell? ⟨w.heap.size, 2, none⟩ = some (.int .u32 y.u) := by rw [Lib.cell_of_heap h9]; rfl
      have hc3 : ww.cell? ⟨w.heap.size, 3, none⟩ = some (.int .u32 y.g) := by rw [Lib.cell_of_heap h9]; rfl
      have hc4 : ww.cell? ⟨w.heap.size, 4, none⟩ = some (.int .i64 y.t) := by rw [Lib.cell_of_heap h9]; rfl
      have hc5 : ww.cell? ⟨w.heap.size, 5, none⟩ = some (.int .i64 y.a) := by rw [Lib.cell_of_heap h9]; rfl
      have hc6 : ww.cell? ⟨w.heap.size, 6, none⟩ = some (.string y.d) := by rw [Lib.cell_of_heap h9]; rfl
      clear h7 h8 h9
      go_simp
      all_goals (try assumption)
      all_goals (try rfl)
    try simp only [Act.put, List.setIfInBounds_toArray, List.set_cons_zero, List.set_cons_succ, List.getElem_toArray, List.getElem_cons_succ, List.getElem_cons_zero]
    refine wpAnyH_take (i := 30) (v := .slice A l.length cA) rfl (by kernel_rfl) (by kernel_rfl) (by kernel_rfl) (fun _ _ _ h => h) (Or.inl ⟨by kernel_rfl, ?_⟩) (by assumption) ?_
    · intro ww hSw
      obtain ⟨_, _, _, _, _, _, h7, h8, h9⟩ := hSw
      clear h7 h8 h9
      go_simp
      all_goals (try assumption)
      all_goals (try rfl)
    try simp only [Act.put, List.setIfInBounds_toArray, List.set_cons_zero, List.set_cons_succ, List.getElem_toArray, List.getElem_cons_succ, List.getElem_cons_zero]
    refine wpAnyH_take (i := 31) (v := .string p) rfl (by kernel_rfl) (by kernel_rfl) (by kernel_rfl) (fun _ _ _ h => h) (Or.inl ⟨by kernel_rfl, ?_⟩) (by assumption) ?_
    · intro ww hSw
      obtain ⟨_, _, _, _, _, _, h7, h8, h9⟩ := hSw
      clear h7 h8 h9
      go_simp
      all_goals (try assumption)
      all_goals (try rfl)
    try simp only [Act.put, List.setIfInBounds_toArray, List.set_cons_zero, List.set_cons_succ, List.getElem_toArray, List.getElem_cons_succ, List.getElem_cons_zero]
    refine wpAnyH_take (i := 32) (v := .agg #[.int .i64 y.k, .int .u32 y.m, .int .u32 y.u, .int .u32 y.g, .int .i64 y.t, .int .i64 y.a, .string y.d]) rfl (by kernel_rfl) (by kernel_rfl) (by kernel_rfl) (fun _ _ _ h => h) (Or.inl ⟨by kernel_rfl, ?_⟩) (by assumption) ?_
    · intro ww hSw
      obtain ⟨_, _, _, _, _, _, h7, h8, h9⟩ := hSw
      have hc0 : ww.cell? ⟨w.heap.size, 0, none⟩ = some (.int .i64 y.k) := by rw [Lib.cell_of_heap h9]; rfl
      have hc1 : ww.cell? ⟨w.heap.size, 1, none⟩ = some (.int .u32 y.m) := by rw [Lib.cell_of_heap h9]; rfl
      have hc2 : ww.cell? ⟨w.heap.size, 2, none⟩ = some (.int .u32 y.u) := by rw [Lib.cell_of_heap h9]; rfl
      have hc3 : ww.cell? ⟨w.heap.size, 3, none⟩ = some (.int .u32 y.g) := by rw [Lib.cell_of_heap h9]; rfl
      have hc4 : ww.cell? ⟨w.heap.size, 4, none⟩ = some (.int .i64 y.t) := by rw [Lib.cell_of_heap h9]; rfl
      have hc5 : ww.cell? ⟨w.heap.size, 5, none⟩ = some (.int .i64 y.a) := by rw [Lib.cell_of_heap h9]; rfl
      have hc6 : ww.cell? ⟨w.heap.size, 6, none⟩ = some (.string y.d) := by rw [Lib.cell_of_heap h9]; rfl
      clear h7 h8 h9
      go_simp
      all_goals (try assumption)
      all_goals (try rfl)
    try simp only [Act.put, List.setIfInBounds_toArray, List.set_cons_zero, List.set_cons_succ, List.getElem_toArray, List.getElem_cons_succ, List.getElem_cons_zero]
    refine wpAnyH_ready (rs := [29]) (by kernel_rfl) (by simp) ?_
    refine AllReadyH.cons rfl (fun K hK => ?_) AllReadyH.nil
    go_simp
    refine (HPU.out q3 hSq3.2.1).mono ?_
    rintro e q4 ⟨A4, c4, rfl, hN4, hbq4⟩
    have hSq4 := hSq3.next hbq4
    refine hK.out _ _ hSq4 (fun hTq4 => ?_)
    clear hK K
    try simp only [Act.put, List.setIfInBounds_toArray, List.set_cons_zero, List.set_cons_succ, List.getElem_toArray, List.getElem_cons_succ, List.getElem_cons_zero]
    refine wpAnyH_ready (rs := [33]) (by kernel_rfl) (by simp) ?_
    refine AllReadyH.cons rfl (fun K hK => ?_) AllReadyH.nil
    go_simp
    refine (HPR.out q4 hSq4.2.1).mono ?_
    rintro e q5 ⟨A5, c5, rfl, hN5, hbq5⟩
    have hSq5 := hSq4.next hbq5
    refine hK.out _ _ hSq5 (fun hTq5 => ?_)
    clear hK K
    try simp only [Act.put, List.setIfInBounds_toArray, List.set_cons_zero, List.set_cons_succ, List.getElem_toArray, List.getElem_cons_succ, List.getElem_cons_zero]
    refine wpAnyH_ready (rs := [34]) (by kernel_rfl) (by simp) ?_
    refine AllReadyH.cons rfl (fun K hK => ?_) AllReadyH.nil
    go_simp
    refine (rsameT_any A4 A5 c4 c5 PL q5 (hN4.itms.below hbq5) hN5.itms HPL.out).mono ?_
    rintro e q6 ⟨rfl, d6, rfl⟩
    have hbq6 : Below q5.heap.size q5 (q5.drewN d6) := below_drewN (Below.refl _ _) d6
    have hSq6 := hSq5.next hbq6
    refine hK.out _ _ hSq6 (fun hTq6 => ?_)
    clear hK K
    try simp only [Act.put, List.setIfInBounds_toArray, List.set_cons_zero, List.set_cons_succ, List.getElem_toArray, List.getElem_cons_succ, List.getElem_cons_zero]
    generalize q5.drewN d6 = q6 at *
    refine wpAnyH_take (i := 35) (v := .bool true) rfl (by kernel_rfl) (by kernel_rfl) (by kernel_rfl) (fun _ _ _ h => h) (Or.inl ⟨by kernel_rfl, ?_⟩) (by assumption) ?_
    · intro ww hSw
      obtain ⟨_, _, _, _, _, _, h7, h8, h9⟩ := hSw
      clear h7 h8 h9
      go_simp
      all_goals (try assumption)
      all_goals (try rfl)
    try simp only [Act.put, List.setIfInBounds_toArray, List.set_cons_zero, List.set_cons_succ, List.getElem_toArray, List.getElem_cons_succ, List.getElem_cons_zero]
    refine wpAnyH_take (i := 36) (v := .bool true) rfl (by kernel_rfl) (by kernel_rfl) (by kernel_rfl) (fun _ _ _ h => h) (Or.inl ⟨by kernel_rfl, ?_⟩) (by assumption) ?_
    · intro ww hSw
      obtain ⟨_, _, _, _, _, _, h7, h8, h9⟩ := hSw
      clear h7 h8 h9
      go_simp
      all_goals (try assumption)
      all_goals (try rfl)
    try simp only [Act.put, List.setIfInBounds_toArray, List.set_cons_zero, List.set_cons_succ, List.getElem_toArray, List.getElem_cons_succ, List.getElem_cons_zero]
    refine wpAnyH_take (i := 37) (v := .slice A l.length cA) rfl (by kernel_rfl) (by kernel_rfl) (by kernel_rfl) (fun _ _ _ h => h) (Or.inl ⟨by kernel_rfl, ?_⟩) (by assumption) ?_
    · intro ww hSw
      obtain ⟨_, _, _, _, _, _, h7, h8, h9⟩ := hSw
      clear h7 h8 h9
      go_simp
      all_goals (try assumption)
      all_goals (try rfl)
    try simp only [Act.put, List.setIfInBounds_toArray, List.set_cons_zero, List.set_cons_succ, List.getElem_toArray, List.getElem_cons_succ, List.getElem_cons_zero]
    refine wpAnyH_take (i := 38) (v := .string p) rfl (by kernel_rfl) (by kernel_rfl) (by kernel_rfl) (fun _ _ _ h => h) (Or.inl ⟨by kernel_rfl, ?_⟩) (by assumption) ?_
    · intro ww hSw
      obtain ⟨_, _, _, _, _, _, h7, h8, h9⟩ := hSw
      clear h7 h8 h9
      go_simp
      all_goals (try assumption)
      all_goals (try rfl)
    try simp only [Act.put, List.setIfInBounds_toArray, List.set_cons_zero, List.set_cons_succ, List.getElem_toArray, List.getElem_cons_succ, List.getElem_cons_zero]
    refine wpAnyH_take (i := 40) (v := .slice A l.length cA) rfl (by kernel_rfl) (by kernel_rfl) (by kernel_rfl) (fun _ _ _ h => h) (Or.inl ⟨by kernel_rfl, ?_⟩) (by assumption) ?_
    · intro ww hSw
      obtain ⟨_, _, _, _, _, _, h7, h8, h9⟩ := hSw
      clear h7 h8 h9
      go_simp
      all_goals (try assumption)
      all_goals (try rfl)
    try simp only [Act.put, List.setIfInBounds_toArray, List.set_cons_zero, List.set_cons_succ, List.getElem_toArray, List.getElem_cons_succ, List.getElem_cons_zero]
    refine wpAnyH_take (i := 41) (v := .string p) rfl (by kernel_rfl) (by kernel_rfl) (by kernel_rfl) (fun _ _ _ h => h) (Or.inl ⟨by kernel_rfl, ?_⟩) (by assumption) ?_
    · intro ww hSw
      obtain ⟨_, _, _, _, _, _, h7, h8, h9⟩ := hSw
      clear h7 h8 h9
      go_simp
      all_goals (try assumption)
      all_goals (try rfl)
    try simp only [Act.put, List.setIfInBounds_toArray, List.set_cons_zero, List.set_cons_succ, List.getElem_toArray, List.getElem_cons_succ, List.getElem_cons_zero]
    refine wpAnyH_ready (rs := [39]) (by kernel_rfl) (by simp) ?_
    refine AllReadyH.cons rfl (fun K hK => ?_) AllReadyH.nil
    go_simp
    refine (HDU.out q6 hSq6.2.1).mono ?_
    rintro e q7 ⟨A7, c7, rfl, hN7, hbq7⟩
    have hSq7 := hSq6.next hbq7
    refine hK.out _ _ hSq7 (fun hTq7 => ?_)
    clear hK K
    try simp only [Act.put, List.setIfInBounds_toArray, List.set_cons_zero, List.set_cons_succ, List.getElem_toArray, List.getElem_cons_succ, List.getElem_cons_zero]
    refine wpAnyH_ready (rs := [42]) (by kernel_rfl) (by simp) ?_
    refine AllReadyH.cons rfl (fun K hK => ?_) AllReadyH.nil
    go_simp
    refine (HDR.out q7 hSq7.2.1).mono ?_
    rintro e q8 ⟨A8, c8, rfl, hN8, hbq8⟩
    have hSq8 := hSq7.next hbq8
    refine hK.out _ _ hSq8 (fun hTq8 => ?_)
    clear hK K
    try simp only [Act.put, List.setIfInBounds_toArray, List.set_cons_zero, List.set_cons_succ, List.getElem_toArray, List.getElem_cons_succ, List.getElem_cons_zero]
    refine wpAnyH_ready (rs := [43]) (by kernel_rfl) (by simp) ?_
    refine AllReadyH.cons rfl (fun K hK => ?_) AllReadyH.nil
    go_simp
    refine (rsameT_any A7 A8 c7 c8 DL q8 (hN7.itms.below hbq8) hN8.itms HDL.out).mono ?_
    rintro e q9 ⟨rfl, d9, rfl⟩
    have hbq9 : Below q8.heap.size q8 (q8.drewN d9) := below_drewN (Below.refl _ _) d9
    have hSq9 := hSq8.next hbq9
    refine hK.out _ _ hSq9 (fun hTq9 => ?_)
    clear hK K
    try simp only [Act.put, List.setIfInBounds_toArray, List.set_cons_zero, List.set_cons_succ, List.getElem_toArray, List.getElem_cons_succ, List.getElem_cons_zero]
    generalize q8.drewN d9 = q9 at *
    refine wpAnyH_take (i := 44) (v := .bool true) rfl (by kernel_rfl) (by kernel_rfl) (by kernel_rfl) (fun _ _ _ h => h) (Or.inl ⟨by kernel_rfl, ?_⟩) (by assumption) ?_
    · intro ww hSw
      obtain ⟨_, _, _, _, _, _, h7, h8, h9⟩ := hSw
      clear h7 h8 h9
      go_simp
      all_goals (try assumption)
      all_goals (try rfl)
    try simp only [Act.put, List.setIfInBounds_toArray, List.set_cons_zero, List.set_cons_succ, List.getElem_toArray, List.getElem_cons_succ, List.getElem_cons_zero]
    refine wpAnyH_take (i := 45) (v := .bool true) rfl (by kernel_rfl) (by kernel_rfl) (by kernel_rfl) (fun _ _ _ h => h) (Or.inl ⟨by kernel_rfl, ?_⟩) (by assumption) ?_
    · intro ww hSw
      obtain ⟨_, _, _, _, _, _, h7, h8, h9⟩ := hSw
      clear h7 h8 h9
      go_simp
      all_goals (try assumption)
      all_goals (try rfl)
    try simp only [Act.put, List.setIfInBounds_toArray, List.set_cons_zero, List.set_cons_succ, List.getElem_toArray, List.getElem_cons_succ, List.getElem_cons_zero]
    refine wpAnyH_take (i := 46) (v := .slice A l.length cA) rfl (by kernel_rfl) (by kernel_rfl) (by kernel_rfl) (fun _ _ _ h => h) (Or.inl ⟨by kernel_rfl, ?_⟩) (by assumption) ?_
    · intro ww hSw
      obtain ⟨_, _, _, _, _, _, h7, h8, h9⟩ := hSw
      clear h7 h8 h9
      go_simp
      all_goals (try assumption)
      all_goals (try rfl)
    try simp only [Act.put, List.setIfInBounds_toArray, List.set_cons_zero, List.set_cons_succ, List.getElem_toArray, List.getElem_cons_succ, List.getElem_cons_zero]
    refine wpAnyH_take (i := 48) (v := .slice A l.length cA) rfl (by kernel_rfl) (by kernel_rfl) (by kernel_rfl) (fun _ _ _ h => h) (Or.inl ⟨by kernel_rfl, ?_⟩) (by assumption) ?_
    · intro ww hSw
      obtain ⟨_, _, _, _, _, _, h7, h8, h9⟩ := hSw
      clear h7 h8 h9
      go_simp
      all_goals (try assumption)
      all_goals (try rfl)
    try simp only [Act.put, List.setIfInBounds_toArray, List.set_cons_zero, List.set_cons_succ, List.getElem_toArray, List.getElem_cons_succ, List.getElem_cons_zero]
    refine wpAnyH_ready (rs := [47]) (by kernel_rfl) (by simp) ?_
    refine AllReadyH.cons rfl (fun K hK => ?_) AllReadyH.nil
    go_simp
    refine (HSU.out q9 hSq9.2.1).mono ?_
    rintro e q10 ⟨A10, c10, rfl, hN10, hbq10⟩
    have hSq10 := hSq9.next hbq10
    refine hK.out _ _ hSq10 (fun hTq10 => ?_)
    clear hK K
    try simp only [Act.put, List.setIfInBounds_toArray, List.set_cons_zero, List.set_cons_succ, List.getElem_toArray, List.getElem_cons_succ, List.getElem_cons_zero]
    refine wpAnyH_ready (rs := [49]) (by kernel_rfl) (by simp) ?_
    refine AllReadyH.cons rfl (fun K hK => ?_) AllReadyH.nil
    go_simp
    refine (HSR.out q10 hSq10.2.1).mono ?_
    rintro e q11 ⟨A11, c11, rfl, hN11, hbq11⟩
    have hSq11 := hSq10.next hbq11
    refine hK.out _ _ hSq11 (fun hTq11 => ?_)
    clear hK K
    try simp only [Act.put, List.setIfInBounds_toArray, List.set_cons_zero, List.set_cons_succ, List.getElem_toArray, List.getElem_cons_succ, List.getElem_cons_zero]
    rw [← HSLN.out]
    refine wpAnyH_ready (rs := [50]) (by kernel_rfl) (by simp) ?_
    refine AllReadyH.cons rfl (fun K hK => ?_) AllReadyH.nil
    go_simp
    refine (rsameT_any A10 A11 c10 c11 SL q11 (hN10.itms.below hbq11) hN11.itms HSLL.out).mono ?_
    rintro e q12 ⟨rfl, d12, rfl⟩
    have hbq12 : Below q11.heap.size q11 (q11.drewN d12) := below_drewN (Below.refl _ _) d12
    have hSq12 := hSq11.next hbq12
    refine hK.out _ _ hSq12 (fun hTq12 => ?_)
    clear hK K
    try simp only [Act.put, List.setIfInBounds_toArray, List.set_cons_zero, List.set_cons_succ, List.getElem_toArray, List.getElem_cons_succ, List.getElem_cons_zero]
    generalize q11.drewN d12 = q12 at *
    refine wpAnyH_take (i := 51) (v := .bool true) rfl (by kernel_rfl) (by kernel_rfl) (by kernel_rfl) (fun _ _ _ h => h) (Or.inl ⟨by kernel_rfl, ?_⟩) (by assumption) ?_
    · intro ww hSw
      obtain ⟨_, _, _, _, _, _, h7, h8, h9⟩ := hSw
      clear h7 h8 h9
      go_simp
      all_goals (try assumption)
      all_goals (try rfl)
    try simp only [Act.put, List.setIfInBounds_toArray, List.set_cons_zero, List.set_cons_succ, List.getElem_toArray, List.getElem_cons_succ, List.getElem_cons_zero]
    refine wpAnyH_take (i := 52) (v := .bool true) rfl (by kernel_rfl) (by kernel_rfl) (by kernel_rfl) (fun _ _ _ h => h) (Or.inl ⟨by kernel_rfl, ?_⟩) (by assumption) ?_
    · intro ww hSw
      obtain ⟨_, _, _, _, _, _, h7, h8, h9⟩ := hSw
      clear h7 h8 h9
      go_simp
      all_goals (try assumption)
      all_goals (try rfl)
    try simp only [Act.put, List.setIfInBounds_toArray, List.set_cons_zero, List.set_cons_succ, List.getElem_toArray, List.getElem_cons_succ, List.getElem_cons_zero]
    refine wpAnyH_take (i := 53) (v := .slice A l.length cA) rfl (by kernel_rfl) (by kernel_rfl) (by kernel_rfl) (fun _ _ _ h => h) (Or.inl ⟨by kernel_rfl, ?_⟩) (by assumption) ?_
    · intro ww hSw
      obtain ⟨_, _, _, _, _, _, h7, h8, h9⟩ := hSw
      clear h7 h8 h9
      go_simp
      all_goals (try assumption)
      all_goals (try rfl)
    try simp only [Act.put, List.setIfInBounds_toArray, List.set_cons_zero, List.set_cons_succ, List.getElem_toArray, List.getElem_cons_succ, List.getElem_cons_zero]
    refine wpAnyH_take (i := 55) (v := .slice A l.length cA) rfl (by kernel_rfl) (by kernel_rfl) (by kernel_rfl) (fun _ _ _ h => h) (Or.inl ⟨by kernel_rfl, ?_⟩) (by assumption) ?_
    · intro ww hSw
      obtain ⟨_, _, _, _, _, _, h7, h8, h9⟩ := hSw
      clear h7 h8 h9
      go_simp
      all_goals (try assumption)
      all_goals (try rfl)
    try simp only [Act.put, List.setIfInBounds_toArray, List.set_cons_zero, List.set_cons_succ, List.getElem_toArray, List.getElem_cons_succ, List.getElem_cons_zero]
    refine wpAnyH_ready (rs := [54]) (by kernel_rfl) (by simp) ?_
    refine AllReadyH.cons rfl (fun K hK => ?_) AllReadyH.nil
    go_simp
    refine (HBU.out q12 hSq12.2.1).mono ?_
    rintro e q13 ⟨rfl, hbq13⟩
    have hSq13 := hSq12.next hbq13
    refine hK.out _ _ hSq13 (fun hTq13 => ?_)
    clear hK K
    try simp only [Act.put, List.setIfInBounds_toArray, List.set_cons_zero, List.set_cons_succ, List.getElem_toArray, List.getElem_cons_succ, List.getElem_cons_zero]
    refine wpAnyH_ready (rs := [56]) (by kernel_rfl) (by simp) ?_
    refine AllReadyH.cons rfl (fun K hK => ?_) AllReadyH.nil
    go_simp
    refine (HBR2.out q13 hSq13.2.1).mono ?_
    rintro e q14 ⟨rfl, hbq14⟩
    have hSq14 := hSq13.next hbq14
    refine hK.out _ _ hSq14 (fun hTq14 => ?_)
    clear hK K
    try simp only [Act.put, List.setIfInBounds_toArray, List.set_cons_zero, List.set_cons_succ, List.getElem_toArray, List.getElem_cons_succ, List.getElem_cons_zero]
    refine wpAnyH_take (i := 57) (v := .bool true) rfl (by kernel_rfl) (by kernel_rfl) (by kernel_rfl) (fun _ _ _ h => h) (Or.inl ⟨by kernel_rfl, ?_⟩) (by assumption) ?_
    · intro ww hSw
      obtain ⟨_, _, _, _, _, _, h7, h8, h9⟩ := hSw
      clear h7 h8 h9
      go_simp
      all_goals (try assumption)
      all_goals (try rfl)
    try simp only [Act.put, List.setIfInBounds_toArray, List.set_cons_zero, List.set_cons_succ, List.getElem_toArray, List.getElem_cons_succ, List.getElem_cons_zero]
    refine wpAnyH_take (i := 58) (v := .bool true) rfl (by kernel_rfl) (by kernel_rfl) (by kernel_rfl) (fun _ _ _ h => h) (Or.inl ⟨by kernel_rfl, ?_⟩) (by assumption) ?_
    · intro ww hSw
      obtain ⟨_, _, _, _, _, _, h7, h8, h9⟩ := hSw
      clear h7 h8 h9
      go_simp
      all_goals (try assumption)
      all_goals (try rfl)
    try simp only [Act.put, List.setIfInBounds_toArray, List.set_cons_zero, List.set_cons_succ, List.getElem_toArray, List.getElem_cons_succ, List.getElem_cons_zero]
    refine wpAnyH_take (i := 59) (v := .bool true) rfl (by kernel_rfl) (by kernel_rfl) (by kernel_rfl) (fun _ _ _ h => h) (Or.inl ⟨by kernel_rfl, ?_⟩) (by assumption) ?_
    · intro ww hSw
      obtain ⟨_, _, _, _, _, _, h7, h8, h9⟩ := hSw
      clear h7 h8 h9
      go_simp
      all_goals (try assumption)
      all_goals (try rfl)
    try simp only [Act.put, List.setIfInBounds_toArray, List.set_cons_zero, List.set_cons_succ, List.getElem_toArray, List.getElem_cons_succ, List.getElem_cons_zero]
    refine wpAnyH_take (i := 60) (v := .slice A l.length cA) rfl (by kernel_rfl) (by kernel_rfl) (by kernel_rfl) (fun _ _ _ h => h) (Or.inl ⟨by kernel_rfl, ?_⟩) (by assumption) ?_
    · intro ww hSw
      obtain ⟨_, _, _, _, _, _, h7, h8, h9⟩ := hSw
      clear h7 h8 h9
      go_simp
      all_goals (try assumption)
      all_goals (try rfl)
    try simp only [Act.put, List.setIfInBounds_toArray, List.set_cons_zero, List.set_cons_succ, List.getElem_toArray, List.getElem_cons_succ, List.getElem_cons_zero]
    refine wpAnyH_take (i := 61) (v := .slice B m.length cB) rfl (by kernel_rfl) (by kernel_rfl) (by kernel_rfl) (fun _ _ _ h => h) (Or.inl ⟨by kernel_rfl, ?_⟩) (by assumption) ?_
    · intro ww hSw
      obtain ⟨_, _, _, _, _, _, h7, h8, h9⟩ := hSw
      clear h7 h8 h9
      go_simp
      all_goals (try assumption)
      all_goals (try rfl)
    try simp only [Act.put, List.setIfInBounds_toArray, List.set_cons_zero, List.set_cons_succ, List.getElem_toArray, List.getElem_cons_succ, List.getElem_cons_zero]
    refine wpAnyH_take (i := 63) (v := .slice A l.length cA) rfl (by kernel_rfl) (by kernel_rfl) (by kernel_rfl) (fun _ _ _ h => h) (Or.inl ⟨by kernel_rfl, ?_⟩) (by assumption) ?_
    · intro ww hSw
      obtain ⟨_, _, _, _, _, _, h7, h8, h9⟩ := hSw
      clear h7 h8 h9
      go_simp
      all_goals (try assumption)
      all_goals (try rfl)
    try simp only [Act.put, List.setIfInBounds_toArray, List.set_cons_zero, List.set_cons_succ, List.getElem_toArray, List.getElem_cons_succ, List.getElem_cons_zero]
    refine wpAnyH_take (i := 64) (v := .slice B m.length cB) rfl (by kernel_rfl) (by kernel_rfl) (by kernel_rfl) (fun _ _ _ h => h) (Or.inl ⟨by kernel_rfl, ?_⟩) (by assumption) ?_
    · intro ww hSw
      obtain ⟨_, _, _, _, _, _, h7, h8, h9⟩ := hSw
      clear h7 h8 h9
      go_simp
      all_goals (try assumption)
      all_goals (try rfl)
    try simp only [Act.put, List.setIfInBounds_toArray, List.set_cons_zero, List.set_cons_succ, List.getElem_toArray, List.getElem_cons_succ, List.getElem_cons_zero]
    refine wpAnyH_ready (rs := [62]) (by kernel_rfl) (by simp) ?_
    refine AllReadyH.cons rfl (fun K hK => ?_) AllReadyH.nil
    go_simp
    refine (HSA.out q14 hSq14.2.1 hSq14.2.2.1).mono ?_
    rintro e q15 ⟨rfl, d15, rfl⟩
    have hbq15 : Below q14.heap.size q14 (q14.drewN d15) := below_drewN (Below.refl _ _) d15
    have hSq15 := hSq14.next hbq15
    refine hK.out _ _ hSq15 (fun hTq15 => ?_)
    clear hK K
    try simp only [Act.put, List.setIfInBounds_toArray, List.set_cons_zero, List.set_cons_succ, List.getElem_toArray, List.getElem_cons_succ, List.getElem_cons_zero]
    generalize q14.drewN d15 = q15 at *
    refine wpAnyH_ready (rs := [65]) (by kernel_rfl) (by simp) ?_
    refine AllReadyH.cons rfl (fun K hK => ?_) AllReadyH.nil
    go_simp
    refine (HSB.out q15 hSq15.2.1 hSq15.2.2.1).mono ?_
    rintro e q16 ⟨rfl, d16, rfl⟩
    have hbq16 : Below q15.heap.size q15 (q15.drewN d16) := below_drewN (Below.refl _ _) d16
    have hSq16 := hSq15.next hbq16
    refine hK.out _ _ hSq16 (fun hTq16 => ?_)
    clear hK K
    try simp only [Act.put, List.setIfInBounds_toArray, List.set_cons_zero, List.set_cons_succ, List.getElem_toArray, List.getElem_cons_succ, List.getElem_cons_zero]
    generalize q15.drewN d16 = q16 at *
    refine wpAnyH_take (i := 66) (v := .bool true) rfl (by kernel_rfl) (by kernel_rfl) (by kernel_rfl) (fun _ _ _ h => h) (Or.inl ⟨by kernel_rfl, ?_⟩) (by assumption) ?_
    · intro ww hSw
      obtain ⟨_, _, _, _, _, _, h7, h8, h9⟩ := hSw
      clear h7 h8 h9
      go_simp
      all_goals (try assumption)
      all_goals (try rfl)
    try simp only [Act.put, List.setIfInBounds_toArray, List.set_cons_zero, List.set_cons_succ, List.getElem_toArray, List.getElem_cons_succ, List.getElem_cons_zero]
    refine wpAnyH_take (i := 67) (v := .bool true) rfl (by kernel_rfl) (by kernel_rfl) (by kernel_rfl) (fun _ _ _ h => h) (Or.inl ⟨by kernel_rfl, ?_⟩) (by assumption) ?_
    · intro ww hSw
      obtain ⟨_, _, _, _, _, _, h7, h8, h9⟩ := hSw
      clear h7 h8 h9
      go_simp
      all_goals (try assumption)
      all_goals (try rfl)
    try simp only [Act.put, List.setIfInBounds_toArray, List.set_cons_zero, List.set_cons_succ, List.getElem_toArray, List.getElem_cons_succ, List.getElem_cons_zero]
    refine wpAnyH_take (i := 68) (v := .bool true) rfl (by kernel_rfl) (by kernel_rfl) (by kernel_rfl) (fun _ _ _ h => h) (Or.inl ⟨by kernel_rfl, ?_⟩) (by assumption) ?_
    · intro ww hSw
      obtain ⟨_, _, _, _, _, _, h7, h8, h9⟩ := hSw
      clear h7 h8 h9
      go_simp
      all_goals (try assumption)
      all_goals (try rfl)
    try simp only [Act.put, List.setIfInBounds_toArray, List.set_cons_zero, List.set_cons_succ, List.getElem_toArray, List.getElem_cons_succ, List.getElem_cons_zero]
    refine wpAnyH_take (i := 69) (v := .slice A l.length cA) rfl (by kernel_rfl) (by kernel_rfl) (by kernel_rfl) (fun _ _ _ h => h) (Or.inl ⟨by kernel_rfl, ?_⟩) (by assumption) ?_
    · intro ww hSw
      obtain ⟨_, _, _, _, _, _, h7, h8, h9⟩ := hSw
      clear h7 h8 h9
      go_simp
      all_goals (try assumption)
      all_goals (try rfl)
    try simp only [Act.put, List.setIfInBounds_toArray, List.set_cons_zero, List.set_cons_succ, List.getElem_toArray, List.getElem_cons_succ, List.getElem_cons_zero]
    refine wpAnyH_take (i := 70) (v := .slice AX l.length cX) rfl (by kernel_rfl) (by kernel_rfl) (by kernel_rfl) (fun _ _ _ h => h) (Or.inl ⟨by kernel_rfl, ?_⟩) (by assumption) ?_
    · intro ww hSw
      obtain ⟨_, _, _, _, _, _, h7, h8, h9⟩ := hSw
      clear h7 h8 h9
      go_simp
      all_goals (try assumption)
      all_goals (try rfl)
    try simp only [Act.put, List.setIfInBounds_toArray, List.set_cons_zero, List.set_cons_succ, List.getElem_toArray, List.getElem_cons_succ, List.getElem_cons_zero]
    refine wpAnyH_ready (rs := [71]) (by kernel_rfl) (by simp) ?_
    refine AllReadyH.cons rfl (fun K hK => ?_) AllReadyH.nil
    go_simp
    refine (rsameT_any A AX cA cX l q16 hSq16.2.1 hSq16.2.2.2.1 HLL.out).mono ?_
    rintro e q17 ⟨rfl, d17, rfl⟩
    have hbq17 : Below q16.heap.size q16 (q16.drewN d17) := below_drewN (Below.refl _ _) d17
    have hSq17 := hSq16.next hbq17
    refine hK.out _ _ hSq17 (fun hTq17 => ?_)
    clear hK K
    try simp only [Act.put, List.setIfInBounds_toArray, List.set_cons_zero, List.set_cons_succ, List.getElem_toArray, List.getElem_cons_succ, List.getElem_cons_zero]
    generalize q16.drewN d17 = q17 at *
    refine wpAnyH_take (i := 72) (v := .bool true) rfl (by kernel_rfl) (by kernel_rfl) (by kernel_rfl) (fun _ _ _ h => h) (Or.inl ⟨by kernel_rfl, ?_⟩) (by assumption) ?_
    · intro ww hSw
      obtain ⟨_, _, _, _, _, _, h7, h8, h9⟩ := hSw
      clear h7 h8 h9
      go_simp
      all_goals (try assumption)
      all_goals (try rfl)
    try simp only [Act.put, List.setIfInBounds_toArray, List.set_cons_zero, List.set_cons_succ, List.getElem_toArray, List.getElem_cons_succ, List.getElem_cons_zero]
    refine wpAnyH_take (i := 73) (v := .bool true) rfl (by kernel_rfl) (by kernel_rfl) (by kernel_rfl) (fun _ _ _ h => h) (Or.inl ⟨by kernel_rfl, ?_⟩) (by assumption) ?_
    · intro ww hSw
      obtain ⟨_, _, _, _, _, _, h7, h8, h9⟩ := hSw
      clear h7 h8 h9
      go_simp
      all_goals (try assumption)
      all_goals (try rfl)
    try simp only [Act.put, List.setIfInBounds_toArray, List.set_cons_zero, List.set_cons_succ, List.getElem_toArray, List.getElem_cons_succ, List.getElem_cons_zero]
    have HFI := Lib.hid hSq17.1
    refine wpAnyH_done (by kernel_rfl) ?_ _
    go_wp2_with fail
    go_ret
    exact ⟨rfl, HFI.out⟩
end Go.Proofs.YtmeapijckncoeaaGreatDoor
