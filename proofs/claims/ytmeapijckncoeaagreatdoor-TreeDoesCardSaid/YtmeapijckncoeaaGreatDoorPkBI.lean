/-
  Trees: Differ: what is collected by going through two maps, and sorted.
  Trees: what is left of items (the document's Without and Drop); how many bytes they have.
-/
import Derived.Test.YtmeapijckncoeaaGreatDoorPkBH
import Derived.Maps.RangeWalk
import Derived.Maps.OwnSet
import Derived.Test.YtmeapijckncoeaaGreatDoorPkBF
import Derived.Test.YtmeapijckncoeaaGreatDoorFmC

namespace Go.Proofs.YtmeapijckncoeaaGreatDoor
set_option maxRecDepth 100000
set_option linter.unusedSimpArgs false
set_option linter.unusedVariables false
open Go.RowKit Go.Joins Go.Deep Go.WideMaps
open Go.Lib hiding intOf
theorem nodeR_form : ∀ v y, nodeR v = some y → ∃ X : Itm, v = nodV X := by
  intro v y h
  unfold nodeR at h
  by_cases hc : ∃ Y : Itm, v = nodV Y
  · exact hc
  · rw [dif_neg hc] at h
    cases h
theorem keyF_str {key : Value} {kl : Lit} (h : keyOf Tryz.prog 9 key = some kl) : ∃ s : ByteArray, key = .string s ∧ kl = keyT s := by
  cases key <;> simp [keyOf, Tryz.underlying9, mapKey] at h
  rename_i s
  exact ⟨s, rfl, h.2.symm⟩
theorem keyF_inv : ∀ key kl, keyOf Tryz.prog 9 key = some kl → ∃ s : ByteArray, key = .string s := fun key kl h => by
  obtain ⟨s, hs, _⟩ := keyF_str h
  exact ⟨s, hs⟩
theorem keyF_lit {s : ByteArray} {kl : Lit} (h : keyOf Tryz.prog 9 (.string s) = some kl) : kl = keyT s := by
  obtain ⟨x, hx, hk⟩ := keyF_str h
  injection hx with hx
  subst hx
  exact hk
theorem idx_come {l : List Itm} {x : ByteArray} {X : Itm} {y : DataW Unit × List MemPlace} (hv : nodeR (nodV X) = some y) (hat : ∀ zd, (idxD l).atKey (keyT x) zd = y.1) : (fndQ l x).isSome = true ∧ nodV X = nodV (lokN l x) := by
  rw [nodeR_mk] at hv
  injection hv with hv
  subst hv
  have h1 := Maps.has_true_of_atKey hat
  rw [idx_has] at h1
  refine ⟨h1, ?_⟩
  have h2 := hat (nodD itm0)
  rw [idx_at] at h2
  unfold lokN
  cases e : fndQ l x with
  | none => rw [e] at h1; cases h1
  | some Z =>
    rw [e] at h2
    exact (nodD_inj h2).symm
theorem MapI.turn {w w' : World} {gm : Nat} {l : List Itm} {row : Option Nat} (h : MapI w gm l) (hg : w.grownBy w' row) (hn : some gm ≠ row) : MapI w' gm l := by
  obtain ⟨n, hn', ho⟩ := h
  exact ⟨n, hn', ho.kept hg hn⟩
theorem ranges_below {w w' : World} {b r n : Nat} {D : DataW Unit} {left : Lit → Bool} {cnt : Nat} (h : w.ranges Tryz.prog 9 nodeR b r n D left cnt) (hb : Below w.heap.size w w') : w'.ranges Tryz.prog 9 nodeR b r n D left cnt :=
  h.kept (row := none) ⟨hb.os, hb.tape, hb.output, hb.size, fun i hi _ => hb.block i hi⟩ (by simp) (by simp)
theorem own_turn {w w' : World} {base : Nat} {v : Value} {xs : List Value} {m : Nat} {row : Option Nat} (h : w.ownsRow base 9 1 v m xs) (hg : w.grownBy w' row) (hn : ∀ r, row = some r → some r ≠ v.ownBlock) : w'.ownsRow base 9 1 v m xs :=
  h.kept hg (by
    cases row with
    | none => cases hv : v.ownBlock <;> simp
    | some r =>
      have := hn r rfl
      cases hv : v.ownBlock with
      | none => simp
      | some q => rw [hv] at this; exact .inr fun k => this k.symm)
theorem map_ne_row {w : World} {base : Nat} {v : Value} {xs : List Value} {m gm : Nat} {l : List Itm} (h : w.ownsRow base 9 1 v m xs) (hm : MapI w gm l) : some gm ≠ v.ownBlock := by
  obtain ⟨n, _, es, clock, hb, _⟩ := hm
  rcases h.2 with ⟨rfl, _⟩ | ⟨g, cap, cur, rfl, _, hb2, _⟩
  · simp [Value.ownBlock]
  · intro e1
    have : gm = g := by simpa [Value.ownBlock] using e1
    subst this
    rw [hb] at hb2
    cases hb2
theorem ranges_ne_row {w : World} {base : Nat} {v : Value} {xs : List Value} {m b r n : Nat} {D : DataW Unit} {left : Lit → Bool} {cnt : Nat} (h : w.ownsRow base 9 1 v m xs) (hm : w.ranges Tryz.prog 9 nodeR b r n D left cnt) : some b ≠ v.ownBlock := by
  obtain ⟨es, clock, _, _, _, hb, _⟩ := hm
  rcases h.2 with ⟨rfl, _⟩ | ⟨g, cap, cur, rfl, _, hb2, _⟩
  · simp [Value.ownBlock]
  · intro e1
    have : b = g := by simpa [Value.ownBlock] using e1
    subst this
    rw [hb] at hb2
    cases hb2
theorem lift_out {a b : List Itm} {n : Nat} (hsa : ∀ x ∈ a, x.s.size ≤ n) (hsb : ∀ x ∈ b, x.s.size ≤ n) {p : ByteArray} (h : ∃ x ∈ a ++ b, x.s = p) : p.size ≤ n := by
  obtain ⟨x, hx, rfl⟩ := h
  rcases List.mem_append.1 hx with h | h
  · exact hsa x h
  · exact hsb x h
theorem nodB_comm (X Y : Itm) : nodB X Y = nodB Y X := by
  unfold nodB
  rw [Bool.eq_iff_iff]
  simp only [Bool.and_eq_true, beq_iff_eq]
  constructor <;> (rintro ⟨h1, h2, h3, h4, h5, h6, h7⟩; exact ⟨h1.symm, h2.symm, h3.symm, h4.symm, h5.symm, h6.symm, h7.symm⟩)
set_option maxHeartbeats 32000000 in
theorem tdiffer_any (A B : Option Addr) (cA cB : Nat) (a b : List Itm) (w : World) (hA : Itms w A a) (hB : Itms w B b) (hla : a.length ≤ 400) (hlb : b.length ≤ 400) (hsa : ∀ x ∈ a, x.s.size ≤ 100000) (hsb : ∀ x ∈ b, x.s.size ≤ 100000) :
    Calls Tryz.prog 10 #[.slice A a.length cA, .slice B b.length cB] w fun e w' => ∃ V, e = .returned V ∧ w'.ownsRow w.heap.size 9 1 V (difS a b (sortI (a ++ b))).length ((difS a b (sortI (a ++ b))).map .string) ∧ Below w.heap.size w w' := by
  obtain ⟨i0, hi, hz0, hz1, hz2⟩ : ∃ i0, Tryz.prog.info? 9 = some i0 ∧ i0.zero = some (.string ⟨#[]⟩) ∧ i0.size = 1 ∧ i0.bytes = 16 := by
    have h : (Tryz.prog.info? 9).map (fun i => (i.zero, i.size, i.bytes)) = some (some (.string ⟨#[]⟩), 1, 16) := by kernel_rfl
    cases hq : Tryz.prog.info? 9 with
    | none => rw [hq] at h; cases h
    | some i =>
      rw [hq] at h
      simp only [Option.map_some, Option.some.injEq, Prod.mk.injEq] at h
      exact ⟨i, rfl, h.1, h.2.1, h.2.2⟩
  have hinod := info_nodeT
  have HT1 := Lib.hid (tindex_any A cA a w hA (by omega) (fun x hx => by have := hsa x hx; omega))
  have HT2 := Lib.hid (fun w1 (hb : Below w.heap.size w w1) => tindex_any B cB b w1 (hB.below hb) (by omega) (fun x hx => by have := hsb x hx; omega))
  have HPS : Hid (∀ p, (∃ x ∈ a ++ b, x.s = p) → p.size ≤ 100000) := fun p h => lift_out hsa hsb h
  obtain ⟨DF, hDF⟩ : ∃ DF, DF = difS a b (sortI (a ++ b)) := ⟨_, rfl⟩
  rw [← hDF]
  have HDF := Lib.hid hDF
  have HLA := Lib.hid hla
  have HLB := Lib.hid hlb
  clear hA hB hsa hsb hDF hla hlb
  generalize hga : a.length = na at *
  generalize hgb : b.length = nb at *
  have HNA := Lib.hid hga
  have HNB := Lib.hid hgb
  clear hga hgb
  go_enter Tryz.func10, Tryz.ntmps10
  go_wp2_with fail
  refine HT1.out.mono ?_; rintro e w1 ⟨ga, rfl, hga, hM1, hb1⟩
  have HB1 := Lib.hid hb1
  have HM1 := Lib.hid hM1
  have HG1 := Lib.hid hga
  clear HT1 hga hM1 hb1
  go_wp2_with fail
  refine (HT2.out w1 HB1.out).mono ?_; rintro e w2 ⟨gb, rfl, hgb, hM2, hb2⟩
  have HB2 := Lib.hid (below_then HB1.out hb2)
  have HMB2 := Lib.hid hM2
  have HMA2 := Lib.hid (HM1.out.below hb2)
  have HGB2 := Lib.hid (MapI.lt hM2)
  have HGA2 := Lib.hid (MapI.lt HMA2.out)
  have HG2 : Hid (w.heap.size ≤ gb) := Nat.le_trans HB1.out.size hgb
  have HBW2 := Lib.hid HB2.out.size
  clear HT2 HM1 hgb hM2 hb2 HB1
  obtain ⟨n1, hn1, ho1⟩ := HMA2.out
  have HOW1 := Lib.hid ho1
  have HN1 : Hid (Maps.size (idxD a) ≤ 400) := by show _ ≤ _; have := ho1.size_le; have := HLA.out; have := HNA.out; omega
  have HN1A : Hid (n1 ≤ a.length) := hn1
  have HR1 : Hid (w.heap.size ≤ w2.heap.size) := HB2.out.size
  clear hn1 ho1
  go_wp2_with (at_range; refine wpList_range_own _ rfl _ 47 rfl 9 25 keyF Tryz.underlying47 nodeR ga n1 (idxD a) rfl HOW1.out ?_; intro w3 hrg3 hg3 hs3)
  go_frame
  have HRG3 := Lib.hid hrg3
  have HB3 : Hid (Below w.heap.size w w3) := HB2.out.grown hg3 HB2.out.size (fun q hq => by cases hq)
  have HMB3 := Lib.hid (MapI.turn HMB2.out hg3 (by simp))
  have HMA3 := Lib.hid (MapI.turn HMA2.out hg3 (by simp))
  clear hrg3 hg3 hs3 HOW1 HMA2 HMB2 HB2
  generalize w2.heap.size = r1 at *
  go_loopw [7] (fun v7 wr => ∃ (left : Lit → Bool) (cnt : Nat) (out : List ByteArray) (V : Value), V = v7 ∧ Hid (wr.ranges Tryz.prog 9 nodeR ga r1 n1 (idxD a) left cnt) ∧ Hid (Out1 a b left out) ∧ Hid (out.length + cnt ≤ 400) ∧ Hid (wr.ownsRow w.heap.size 9 1 V out.length (out.map .string)) ∧ Hid (MapI wr gb b) ∧ Hid (Below w.heap.size w wr)) (fun _ wr => wr.rangeLeft ga r1)
  case atStart => exact ⟨_, _, [], _, rfl, HRG3, Out1.start a b, by show 0 + _ ≤ _; have := HN1.out; omega, World.ownsRow_nil _ _ _ _, HMB3, HB3⟩
  case round =>
    obtain ⟨left, cnt, out, V, rfl, HRG, HOU, HLN, HO, HMB, HBW⟩ := hrel
    clear HRG3 HMB3 HB3
    go_wp2_with (at_next; refine wpList_next_ranges _ rfl _ rfl 9 keyF nodeR Value.string (fun X : Itm => nodV X) keyF_inv nodeR_form ga r1 n1 (idxD a) left cnt rfl HRG.out ?_ ?_)
    · intro hc0 hl0
      have HO20 := Lib.hid (Out2.start HOU.out hl0)
      have HMBW := HMB
      obtain ⟨n2, hn2, ho2⟩ := HMB.out
      have HOW2 := Lib.hid ho2
      have HN2 : Hid (Maps.size (idxD b) ≤ 400) := by show _ ≤ _; have := ho2.size_le; have := HLB.out; have := HNB.out; omega
      have HLO2 : Hid (out.length ≤ 400) := by show _ ≤ _; have := HLN.out; omega
      have HMA : Hid (MapI wr ga a) := ⟨n1, HN1A.out, HRG.out.owns⟩
      have HR2 : Hid (w.heap.size ≤ wr.heap.size) := HBW.out.size
      have HGA2' : Hid (ga < wr.heap.size) := MapI.lt HMA.out
      clear hn2 ho2 hl0 hc0 HOU HLN HRG HMB
      go_wp2_with (at_range; refine wpList_range_own _ rfl _ 47 rfl 9 25 keyF Tryz.underlying47 nodeR gb n2 (idxD b) rfl HOW2.out ?_; intro w5 hrg5 hg5 hs5)
      go_frame
      have HRG5 := Lib.hid hrg5
      have HB5 : Hid (Below w.heap.size w w5) := HBW.out.grown hg5 HBW.out.size (fun q hq => by cases hq)
      have HMA5 := Lib.hid (MapI.turn HMA.out hg5 (by simp))
      have HO5 := Lib.hid (own_turn HO.out hg5 (fun r hr => by cases hr))
      clear hrg5 hg5 hs5 HOW2 HMA HMBW HBW HO
      generalize wr.heap.size = r2 at *
      have HL5 : Hid (out.length + Maps.size (idxD b) ≤ 800) := by show _ ≤ _; have := HN2.out; have := HLO2.out; omega
      go_loopw [7] (fun v7 wr => ∃ (left : Lit → Bool) (cnt : Nat) (out : List ByteArray) (V : Value), V = v7 ∧ Hid (wr.ranges Tryz.prog 9 nodeR gb r2 n2 (idxD b) left cnt) ∧ Hid (Out2 a b left out) ∧ Hid (out.length + cnt ≤ 800) ∧ Hid (wr.ownsRow w.heap.size 9 1 V out.length (out.map .string)) ∧ Hid (MapI wr ga a) ∧ Hid (Below w.heap.size w wr)) (fun _ wr => wr.rangeLeft gb r2)
      case atStart => exact ⟨_, _, out, _, rfl, HRG5, HO20, HL5, HO5, HMA5, HB5⟩
      case round =>
        clear HL5 HO5 HMA5 HB5 HRG5 HO20 HLO2
        obtain ⟨left, cnt, out, V, rfl, HRG, HOU, HLN, HO, HMB, HBW⟩ := hrel
        go_wp2_with (at_next; refine wpList_next_ranges _ rfl _ rfl 9 keyF nodeR Value.string (fun X : Itm => nodV X) keyF_inv nodeR_form gb r2 n2 (idxD b) left cnt rfl HRG.out ?_ ?_)
        · intro hc0 hl0
          have HEND := Lib.hid (fun (L : List ByteArray) (hp : L.Perm out) (hs : L.Pairwise (fun a b => ordT a b ≤ 0)) => Out2.sorted HOU.out hl0 hp hs)
          have HSF := Lib.hid (sortF_any V out w.heap.size wr HO.out (fun p hp => HPS.out p (HOU.out.mem hp)) (by have := HLN.out; omega))
          have HOE := HO
          clear hc0 hl0 HOU HRG HMB HO
          go_wp2_with fail
          refine HSF.out.mono ?_; rintro e w6 ⟨rfl, L, hp, hs, hown, hgrow⟩
          have hDL : DF = L := by rw [HDF.out]; exact HEND.out L hp hs
          have HO6 : Hid (w6.ownsRow w.heap.size 9 1 V DF.length (DF.map .string)) := by show World.ownsRow _ _ _ _ _ _ _; rw [hDL]; exact hown
          have HB6 : Hid (Below w.heap.size w w6) := HBW.out.grown hgrow HBW.out.size (fun z hz => (HOE.out.lt z hz).1)
          clear hp hs hown hgrow hDL HSF HEND HOE HBW
          go_wp2_with fail
          go_ret
          exact ⟨V, rfl, HO6.out, HB6.out⟩
        · skip
          intro x X kl yd yp w4 cnt4 hkey hlk hv hat hrg4 hlt hg4 hs4 hen
          obtain rfl := keyF_lit hkey
          obtain ⟨hsx, hXe⟩ := idx_come hv hat
          rw [hXe] at hen
          rw [hXe]
          have HSX := Lib.hid hsx
          have HLK := Lib.hid hlk
          have HKY := Lib.hid hkey
          have HLT := Lib.hid hlt
          have HLE := Lib.hid HRG.out.left_eq
          have HRG4 := Lib.hid hrg4
          have HO4 := Lib.hid (own_turn HO.out hg4 (fun r hr => by injection hr with hr; subst hr; exact row_ne_iter HO.out HRG.out))
          have HMB4 := Lib.hid (MapI.turn HMB.out hg4 (by intro k; injection k with k; have := HGA2'.out; omega))
          have HB4 : Hid (Below w.heap.size w w4) := HBW.out.grown hg4 HBW.out.size (fun q hq => by injection hq with hq; subst hq; exact HR2.out)
          have HLO : Hid (out.length ≤ 800) := by show _ ≤ _; have := HLN.out; omega
          have HH := Lib.hid (idx_has a x)
          have HVV : Hid (∀ v ps, nodeR v = some ((idxD a).atKey (keyT x) (nodD itm0), ps) → v = nodV (lokN a x)) := fun v ps h => idx_val _ _ h
          clear hkey hlk hv hat hrg4 hlt hg4 hs4 hsx hXe HO HMB HBW HRG

          unfold nodV at hen
          obtain ⟨n3, hn3, ho3⟩ := HMB4.out
          have HOW := Lib.hid ho3
          clear hn3 ho3
          generalize lokN b x = N1 at *
          generalize hN2 : lokN a x = N2 at *
          obtain ⟨W7, hW⟩ : ∃ W7, W7 = w4.alloc (.cells #[.int .i64 N2.k, .int .u32 N2.m, .int .u32 N2.u, .int .u32 N2.g, .int .i64 N2.t, .int .i64 N2.a, .string N2.d] 25) := ⟨_, rfl⟩
          have hb7 : Below w4.heap.size w4 W7 := by rw [hW]; exact below_al w4 _
          have HRG7 := Lib.hid (ranges_below HRG4.out hb7)
          have HO7 := Lib.hid (own_keepD HO4.out hb7)
          have HMB7 := Lib.hid (MapI.below HMB4.out hb7)
          have HB7 := Lib.hid (below_then HB4.out hb7)
          have HW7 := Lib.hid hW
          generalize hff : (fndQ a x).isSome = F at *
          have HFF := Lib.hid hff
          clear hb7 hW hN2 hff HRG4 HO4 HMB4 HB4
          go_upto_region 13 with (at_lookup; refine wpList_lookup_own_ok _ rfl _ _ 47 rfl 9 25 keyF Tryz.underlying47 nodeR (zero_nodeF _) (nodD itm0) [] (nodeR_mk itm0) ga n3 _ rfl HOW.out _ _ rfl HKY.out ?_; intro v ps hv; obtain rfl := HVV.out v ps hv; rw [HH.out]; unfold nodV)
          rw [← HW7.out]
          clear HW7 HOW HVV HH hen
          cases F with
          | true =>
            have HOS := Lib.hid (Out2.skip HOU.out HLK.out HFF.out)
            have HL10 : Hid (out.length + cnt4 ≤ 800) := by show _ ≤ _; have := HLN.out; have := HLT.out; omega
            go_wp2_with fail
            go_roundw
            case rel => exact ⟨_, cnt4, _, _, rfl, HRG7, HOS, HL10, HO7, HMB7, HB7⟩
            case measure => first | (rw [HRG7.out.left_eq, HLE.out]; exact HLT.out) | (simp only [HRG7.out.left_eq, HLE.out]; exact HLT.out)
          | false =>
            have HOS := Lib.hid (Out2.more HOU.out HSX.out HLK.out HFF.out)
            have HOA := Lib.hid (HO7.out.alloc (.cells #[.string x] 9))
            have HBA := Lib.hid (below_then HB7.out (below_al W7 (.cells #[.string x] 9)))
            have HRGA := Lib.hid (ranges_below HRG7.out (below_al W7 (.cells #[.string x] 9)))
            have HMBA := Lib.hid (MapI.below HMB7.out (below_al W7 (.cells #[.string x] 9)))
            have HQA : Hid (∀ j u, [Value.string x][j]? = some u → (W7.alloc (.cells #[.string x] 9)).cell? ((⟨W7.heap.size, 0, none⟩ : Addr).add j) = some u) := fun j u hj => by
              rw [Addr.add_lit, Nat.zero_add, cell_of_row _ _ j _ _ _ (heap_alloc_new W7 _)]
              simpa using hj
            have hol : out.length ≤ 800 := HLO.out
            clear HO7 HB7 HRG7 HMB7
            go_wp2_with (at_builtin; refine wpList_append_own _ rfl _ _ 32 rfl w.heap.size 9 i0 (.string ⟨#[]⟩) 1 16 Tryz.underlying32 hi hz0 hz1 hz2 rfl (by decide) _ _ _ rfl HOA.out ⟨W7.heap.size, 0, none⟩ 1 1 [.string x] rfl ?qc1 ?qc2 ?qc3 ?qc4 ?qc5 ?qc6 ?_)
            case qc1 => rfl
            case qc2 => exact HQA.out
            case qc3 => intro u hu; simp at hu; subst hu; rfl
            case qc4 => have := hol; unfold maxLen; omega
            case qc5 => have := hol; omega
            case qc6 => exact HBA.out.size
            intro v10 w10 hown10 hgrow10 _
            have HO10 : Hid (w10.ownsRow w.heap.size 9 1 v10 (out ++ [x]).length ((out ++ [x]).map .string)) := by
              show World.ownsRow _ _ _ _ _ _ _
              rw [List.length_append, List.map_append]
              exact hown10
            have HB10 : Hid (Below w.heap.size w w10) := HBA.out.grown hgrow10 HBA.out.size (fun z hz => (HOA.out.lt z hz).1)
            have HRG10 := Lib.hid (HRGA.out.kept hgrow10 (ranges_ne_row HOA.out HRGA.out) (row_ne_iter HOA.out HRGA.out))
            have HMB10 := Lib.hid (MapI.turn HMBA.out hgrow10 (map_ne_row HOA.out HMBA.out))
            have HL10 : Hid ((out ++ [x]).length + cnt4 ≤ 800) := by show _ ≤ _; rw [List.length_append, List.length_singleton]; have := HLN.out; have := HLT.out; omega
            clear hown10 hgrow10 HOA HBA HRGA HMBA HQA
            go_wp2_with fail
            go_roundw
            case rel => exact ⟨_, cnt4, _, _, rfl, HRG10, HOS, HL10, HO10, HMB10, HB10⟩
            case measure => first | (rw [HRG10.out.left_eq, HLE.out]; exact HLT.out) | (simp only [HRG10.out.left_eq, HLE.out]; exact HLT.out)
    · skip
      intro x X kl yd yp w4 cnt4 hkey hlk hv hat hrg4 hlt hg4 hs4 hen
      obtain rfl := keyF_lit hkey
      obtain ⟨hsx, hXe⟩ := idx_come hv hat
      rw [hXe] at hen
      rw [hXe]
      have HSX := Lib.hid hsx
      have HLK := Lib.hid hlk
      have HKY := Lib.hid hkey
      have HLT := Lib.hid hlt
      have HLE := Lib.hid HRG.out.left_eq
      have HRG4 := Lib.hid hrg4
      have HO4 := Lib.hid (own_turn HO.out hg4 (fun r hr => by injection hr with hr; subst hr; exact row_ne_iter HO.out HRG.out))
      have HMB4 := Lib.hid (MapI.turn HMB.out hg4 (by intro k; injection k with k; have := HGB2.out; omega))
      have HB4 : Hid (Below w.heap.size w w4) := HBW.out.grown hg4 HBW.out.size (fun q hq => by injection hq with hq; subst hq; exact HR1.out)
      have HLO : Hid (out.length ≤ 800) := by show _ ≤ _; have := HLN.out; omega
      have HH := Lib.hid (idx_has b x)
      have HVV : Hid (∀ v ps, nodeR v = some ((idxD b).atKey (keyT x) (nodD itm0), ps) → v = nodV (lokN b x)) := fun v ps h => idx_val _ _ h
      clear hkey hlk hv hat hrg4 hlt hg4 hs4 hsx hXe HO HMB HBW HRG

      unfold nodV at hen
      obtain ⟨n3, hn3, ho3⟩ := HMB4.out
      clear hn3
      have HAK : Hid (alkB a b x = ((fndQ a x).isSome && ((fndQ b x).isSome && nodB (lokN a x) (lokN b x)))) := rfl
      generalize lokN a x = N1 at *
      generalize lokN b x = N2 at *
      obtain ⟨W5, hW⟩ : ∃ W5, W5 = w4.alloc (.cells #[.int .i64 N1.k, .int .u32 N1.m, .int .u32 N1.u, .int .u32 N1.g, .int .i64 N1.t, .int .i64 N1.a, .string N1.d] 25) := ⟨_, rfl⟩
      have hb5 : Below w4.heap.size w4 W5 := by rw [hW]; exact below_al w4 _
      have HX5 : Hid (W5.heap[w4.heap.size]? = some (.cells #[.int .i64 N1.k, .int .u32 N1.m, .int .u32 N1.u, .int .u32 N1.g, .int .i64 N1.t, .int .i64 N1.a, .string N1.d] 25 (0, 0))) := by show _ = _; rw [hW]; exact heap_alloc_new w4 _
      have HRG5 := Lib.hid (ranges_below HRG4.out hb5)
      have HO5 := Lib.hid (own_keepD HO4.out hb5)
      have HMB5 := Lib.hid (MapI.below HMB4.out hb5)
      have HB5 := Lib.hid (below_then HB4.out hb5)
      have HOW := Lib.hid (ownsMapF ho3 hb5)
      have HW5 := Lib.hid hW
      generalize hff : (fndQ b x).isSome = F at *
      clear hb5 hW hff HRG4 HO4 HMB4 HB4 ho3
      go_upto_region 6 with fail
      rw [← HW5.out]
      clear HW5 hen
      generalize w4.heap.size = g4 at *
      obtain ⟨W7, hW⟩ : ∃ W7, W7 = W5.alloc (.cells #[.int .i64 N2.k, .int .u32 N2.m, .int .u32 N2.u, .int .u32 N2.g, .int .i64 N2.t, .int .i64 N2.a, .string N2.d] 25) := ⟨_, rfl⟩
      have hb7 : Below W5.heap.size W5 W7 := by rw [hW]; exact below_al W5 _
      have HX7 : Hid (W7.heap[W5.heap.size]? = some (.cells #[.int .i64 N2.k, .int .u32 N2.m, .int .u32 N2.u, .int .u32 N2.g, .int .i64 N2.t, .int .i64 N2.a, .string N2.d] 25 (0, 0))) := by show _ = _; rw [hW]; exact heap_alloc_new W5 _
      have HY7 := Lib.hid ((hb7.block _ (lt_of_block HX5.out)).trans HX5.out)
      have HRG7 := Lib.hid (ranges_below HRG5.out hb7)
      have HO7 := Lib.hid (own_keepD HO5.out hb7)
      have HMB7 := Lib.hid (MapI.below HMB5.out hb7)
      have HB7 := Lib.hid (below_then HB5.out hb7)
      have HW7 := Lib.hid hW
      clear hb7 hW HX5 HRG5 HO5 HMB5 HB5
      go_upto_region 7 with (at_lookup; refine wpList_lookup_own_ok _ rfl _ _ 47 rfl 9 25 keyF Tryz.underlying47 nodeR (zero_nodeF _) (nodD itm0) [] (nodeR_mk itm0) gb n3 _ rfl HOW.out _ _ rfl HKY.out ?_; intro v ps hv; obtain rfl := HVV.out v ps hv; rw [HH.out]; unfold nodV)
      rw [← HW7.out]
      clear HW7 HOW HVV HH
      generalize W5.heap.size = g5 at *
      have n0 := (cell_of_row _ _ 0 _ _ _ HY7.out).trans (show _ = some (Value.int .i64 N1.k) from rfl)
      have n1 := (cell_of_row _ _ 1 _ _ _ HY7.out).trans (show _ = some (Value.int .u32 N1.m) from rfl)
      have n2 := (cell_of_row _ _ 2 _ _ _ HY7.out).trans (show _ = some (Value.int .u32 N1.u) from rfl)
      have n3 := (cell_of_row _ _ 3 _ _ _ HY7.out).trans (show _ = some (Value.int .u32 N1.g) from rfl)
      have n4 := (cell_of_row _ _ 4 _ _ _ HY7.out).trans (show _ = some (Value.int .i64 N1.t) from rfl)
      have n5 := (cell_of_row _ _ 5 _ _ _ HY7.out).trans (show _ = some (Value.int .i64 N1.a) from rfl)
      have n6 := (cell_of_row _ _ 6 _ _ _ HY7.out).trans (show _ = some (Value.string N1.d) from rfl)
      have m0 := (cell_of_row _ _ 0 _ _ _ HX7.out).trans (show _ = some (Value.int .i64 N2.k) from rfl)
      have m1 := (cell_of_row _ _ 1 _ _ _ HX7.out).trans (show _ = some (Value.int .u32 N2.m) from rfl)
      have m2 := (cell_of_row _ _ 2 _ _ _ HX7.out).trans (show _ = some (Value.int .u32 N2.u) from rfl)
      have m3 := (cell_of_row _ _ 3 _ _ _ HX7.out).trans (show _ = some (Value.int .u32 N2.g) from rfl)
      have m4 := (cell_of_row _ _ 4 _ _ _ HX7.out).trans (show _ = some (Value.int .i64 N2.t) from rfl)
      have m5 := (cell_of_row _ _ 5 _ _ _ HX7.out).trans (show _ = some (Value.int .i64 N2.a) from rfl)
      have m6 := (cell_of_row _ _ 6 _ _ _ HX7.out).trans (show _ = some (Value.string N2.d) from rfl)
      have heq := eqq_nodeT N2 N1
      clear HX7 HY7
      cases F with
      | false =>
        have HAF : Hid (alkB a b x = false) := by show _ = _; rw [HAK.out]; simp
        have HOS := Lib.hid (Out1.more HOU.out HSX.out HLK.out HAF.out)
        clear HAK heq
        go_upto_region 8 with fail
        have HOA := Lib.hid (HO7.out.alloc (.cells #[.string x] 9))
        have HBA := Lib.hid (below_then HB7.out (below_al W7 (.cells #[.string x] 9)))
        have HRGA := Lib.hid (ranges_below HRG7.out (below_al W7 (.cells #[.string x] 9)))
        have HMBA := Lib.hid (MapI.below HMB7.out (below_al W7 (.cells #[.string x] 9)))
        have HQA : Hid (∀ j u, [Value.string x][j]? = some u → (W7.alloc (.cells #[.string x] 9)).cell? ((⟨W7.heap.size, 0, none⟩ : Addr).add j) = some u) := fun j u hj => by
          rw [Addr.add_lit, Nat.zero_add, cell_of_row _ _ j _ _ _ (heap_alloc_new W7 _)]
          simpa using hj
        have hol : out.length ≤ 800 := HLO.out
        clear HO7 HB7 HRG7 HMB7
        go_wp2_with (at_builtin; refine wpList_append_own _ rfl _ _ 32 rfl w.heap.size 9 i0 (.string ⟨#[]⟩) 1 16 Tryz.underlying32 hi hz0 hz1 hz2 rfl (by decide) _ _ _ rfl HOA.out ⟨W7.heap.size, 0, none⟩ 1 1 [.string x] rfl ?qc1 ?qc2 ?qc3 ?qc4 ?qc5 ?qc6 ?_)
        case qc1 => rfl
        case qc2 => exact HQA.out
        case qc3 => intro u hu; simp at hu; subst hu; rfl
        case qc4 => have := hol; unfold maxLen; omega
        case qc5 => have := hol; omega
        case qc6 => exact HBA.out.size
        intro v10 w10 hown10 hgrow10 _
        have HO10 : Hid (w10.ownsRow w.heap.size 9 1 v10 (out ++ [x]).length ((out ++ [x]).map .string)) := by
          show World.ownsRow _ _ _ _ _ _ _
          rw [List.length_append, List.map_append]
          exact hown10
        have HB10 : Hid (Below w.heap.size w w10) := HBA.out.grown hgrow10 HBA.out.size (fun z hz => (HOA.out.lt z hz).1)
        have HRG10 := Lib.hid (HRGA.out.kept hgrow10 (ranges_ne_row HOA.out HRGA.out) (row_ne_iter HOA.out HRGA.out))
        have HMB10 := Lib.hid (MapI.turn HMBA.out hgrow10 (map_ne_row HOA.out HMBA.out))
        have HL10 : Hid ((out ++ [x]).length + cnt4 ≤ 400) := by show _ ≤ _; rw [List.length_append, List.length_singleton]; have := HLN.out; have := HLT.out; omega
        clear hown10 hgrow10 HOA HBA HRGA HMBA HQA
        go_wp2_with fail
        go_roundw
        case rel => exact ⟨_, cnt4, _, _, rfl, HRG10, HOS, HL10, HO10, HMB10, HB10⟩
        case measure => first | (rw [HRG10.out.left_eq, HLE.out]; exact HLT.out) | (simp only [HRG10.out.left_eq, HLE.out]; exact HLT.out)
      | true =>
        cases hq : nodB N2 N1 with
        | true =>
          have HAT : Hid (alkB a b x = true) := by show _ = _; rw [HAK.out, HSX.out, nodB_comm, hq]; rfl
          have HOS := Lib.hid (Out1.skip HOU.out HLK.out HAT.out)
          rw [hq] at heq
          clear HAK hq
          have HL10 : Hid (out.length + cnt4 ≤ 400) := by show _ ≤ _; have := HLN.out; have := HLT.out; omega
          go_wp2_with fail
          go_roundw
          case rel => exact ⟨_, cnt4, _, _, rfl, HRG7, HOS, HL10, HO7, HMB7, HB7⟩
          case measure => first | (rw [HRG7.out.left_eq, HLE.out]; exact HLT.out) | (simp only [HRG7.out.left_eq, HLE.out]; exact HLT.out)
        | false =>
          have HAF : Hid (alkB a b x = false) := by show _ = _; rw [HAK.out, HSX.out, nodB_comm, hq]; rfl
          have HOS := Lib.hid (Out1.more HOU.out HSX.out HLK.out HAF.out)
          rw [hq] at heq
          clear HAK hq
          go_upto_region 8 with fail
          have HOA := Lib.hid (HO7.out.alloc (.cells #[.string x] 9))
          have HBA := Lib.hid (below_then HB7.out (below_al W7 (.cells #[.string x] 9)))
          have HRGA := Lib.hid (ranges_below HRG7.out (below_al W7 (.cells #[.string x] 9)))
          have HMBA := Lib.hid (MapI.below HMB7.out (below_al W7 (.cells #[.string x] 9)))
          have HQA : Hid (∀ j u, [Value.string x][j]? = some u → (W7.alloc (.cells #[.string x] 9)).cell? ((⟨W7.heap.size, 0, none⟩ : Addr).add j) = some u) := fun j u hj => by
            rw [Addr.add_lit, Nat.zero_add, cell_of_row _ _ j _ _ _ (heap_alloc_new W7 _)]
            simpa using hj
          have hol : out.length ≤ 800 := HLO.out
          clear HO7 HB7 HRG7 HMB7
          go_wp2_with (at_builtin; refine wpList_append_own _ rfl _ _ 32 rfl w.heap.size 9 i0 (.string ⟨#[]⟩) 1 16 Tryz.underlying32 hi hz0 hz1 hz2 rfl (by decide) _ _ _ rfl HOA.out ⟨W7.heap.size, 0, none⟩ 1 1 [.string x] rfl ?qc1 ?qc2 ?qc3 ?qc4 ?qc5 ?qc6 ?_)
          case qc1 => rfl
          case qc2 => exact HQA.out
          case qc3 => intro u hu; simp at hu; subst hu; rfl
          case qc4 => have := hol; unfold maxLen; omega
          case qc5 => have := hol; omega
          case qc6 => exact HBA.out.size
          intro v10 w10 hown10 hgrow10 _
          have HO10 : Hid (w10.ownsRow w.heap.size 9 1 v10 (out ++ [x]).length ((out ++ [x]).map .string)) := by
            show World.ownsRow _ _ _ _ _ _ _
            rw [List.length_append, List.map_append]
            exact hown10
          have HB10 : Hid (Below w.heap.size w w10) := HBA.out.grown hgrow10 HBA.out.size (fun z hz => (HOA.out.lt z hz).1)
          have HRG10 := Lib.hid (HRGA.out.kept hgrow10 (ranges_ne_row HOA.out HRGA.out) (row_ne_iter HOA.out HRGA.out))
          have HMB10 := Lib.hid (MapI.turn HMBA.out hgrow10 (map_ne_row HOA.out HMBA.out))
          have HL10 : Hid ((out ++ [x]).length + cnt4 ≤ 400) := by show _ ≤ _; rw [List.length_append, List.length_singleton]; have := HLN.out; have := HLT.out; omega
          clear hown10 hgrow10 HOA HBA HRGA HMBA HQA
          go_wp2_with fail
          go_roundw
          case rel => exact ⟨_, cnt4, _, _, rfl, HRG10, HOS, HL10, HO10, HMB10, HB10⟩
          case measure => first | (rw [HRG10.out.left_eq, HLE.out]; exact HLT.out) | (simp only [HRG10.out.left_eq, HLE.out]; exact HLT.out)
end Go.Proofs.YtmeapijckncoeaaGreatDoor

namespace Go.Proofs.YtmeapijckncoeaaGreatDoor
set_option maxRecDepth 100000
set_option linter.unusedSimpArgs false
set_option linter.unusedVariables false
open Go.RowKit Go.Joins Go.Deep
open Go.Lib hiding intOf
theorem own_newD {w : World} {B : Nat} {l : List Itm} {v : Value} (h : w.ownsRow B 42 8 v l.length (cellsI l)) : ∃ A' c', v = .slice A' l.length c' ∧ NewI w B A' l := by
  rcases h.2 with ⟨he, h0⟩ | ⟨g2, cap2, cur, he, hbg, _⟩
  · exact ⟨none, 0, by rw [he, h0], .inl (List.eq_nil_of_length_eq_zero h0)⟩
  · refine ⟨some ⟨g2, 0, none⟩, cap2, he, .inr ⟨g2, rfl, hbg, ?_⟩⟩
    rw [he] at h
    exact io_of_own h
/-- Those that such a test leaves. -/
def lefI (f : Itm → Bool) (l : List Itm) : List Itm := l.filter fun x => !f x
theorem lef_snoc (f : Itm → Bool) (l : List Itm) (k : Nat) (h : k < l.length) : lefI f (l.take (k + 1)) = lefI f (l.take k) ++ (if f l[k] = true then [] else [l[k]]) := by
  unfold lefI
  rw [List.take_succ_eq_append_getElem h, List.filter_append]
  congr 1
  by_cases e : f l[k] = true
  · rw [if_pos e, List.filter_cons_of_neg (by rw [e]; decide)]; rfl
  · rw [if_neg e, List.filter_cons_of_pos (by rw [Bool.eq_false_iff.2 e]; rfl)]; rfl
theorem lef_le (f : Itm → Bool) (l : List Itm) (k : Nat) : (lefI f (l.take k)).length ≤ k := by
  refine Nat.le_trans (List.length_filter_le _ _) ?_
  rw [List.length_take]
  omega
theorem lef_put (l : List Itm) (p : ByteArray) : lefI (fun X => X.s.toList == p.toList) l = putR l p := rfl
theorem lef_drp (l : List Itm) (p : ByteArray) : lefI (fun X => undB X.s p) l = drpL p l := rfl
set_option maxHeartbeats 16000000 in
theorem rwithout_any (A : Option Addr) (c : Nat) (l : List Itm) (p : ByteArray) (w : World) (hR : Itms w A l) (hl : l.length ≤ 1000000) :
    Calls Tryz.prog 47 #[.slice A l.length c, .string p] w fun e w' => ∃ A' c', e = .returned (.slice A' (putR l p).length c') ∧ NewI w' w.heap.size A' (putR l p) ∧ Below w.heap.size w w' := by
  obtain ⟨i0, hi, hz0, hz1, hz2⟩ := partsI
  have hir := info_item
  have HR := Lib.hid (fun w1 (hb : Below w.heap.size w w1) => hR.below hb)
  skip
  obtain ⟨F, hF⟩ : ∃ F : Itm → Bool, F = fun X => X.s.toList == p.toList := ⟨_, rfl⟩
  rw [show putR l p = lefI F l from by rw [hF]; rfl]
  have HF : Hid (∀ X, F X = (X.s.toList == p.toList)) := fun X => by rw [hF]
  clear hR hF
  go_enter Tryz.func47, Tryz.ntmps47
  go_wp2_with fail
  go_loopw [5, 10] (fun v5 v10 wr => ∃ (k : Nat) (V : Value), k ≤ l.length ∧ V = v5 ∧ v10 = .int .i64 (k : Nat) ∧ Hid (wr.ownsRow w.heap.size 42 8 V (lefI F (l.take k)).length (cellsI (lefI F (l.take k)))) ∧ Hid (Below w.heap.size w wr)) (fun _ v _ => l.length - (intOf v).toNat)
  case atStart => exact ⟨0, _, Nat.zero_le _, rfl, rfl, World.ownsRow_nil _ _ _ _, Below.refl _ _⟩
  case round =>
    obtain ⟨k, V, hk, rfl, rfl, HO, HBR⟩ := hrel
    by_cases hkn : k < l.length
    case neg =>
      obtain rfl : k = l.length := by omega
      have hd : decide ((l.length : Int) < (l.length : Int)) = false := decide_eq_false (by omega)
      have HTK : Hid (l.take l.length = l) := List.take_length
      rw [HTK.out] at HO
      obtain ⟨A7, c7, hv7, hN7⟩ := own_newD HO.out
      have HN7 := Lib.hid hN7
      subst hv7
      clear hN7 HO
      go_wp2_with fail
      go_ret
      exact ⟨A7, c7, rfl, HN7.out, HBR.out⟩
    have hd : decide ((k : Int) < (l.length : Int)) = true := decide_eq_true (by omega)
    obtain ⟨b, off, rfl, hb, hcc⟩ := (HR.out wr HBR.out) (by omega)
    obtain ⟨c0, c1, c2, c3, c4, c5, c6, c7⟩ := hcc k l[k] (List.getElem?_eq_getElem hkn)
    have HSN := Lib.hid (lef_snoc F l k hkn)
    have HLE := Lib.hid (lef_le F l k)
    have HLL : Hid (k ≤ 1000000) := by show _ ≤ _; omega
    obtain ⟨W2, hW2⟩ : ∃ W2, W2 = wr.alloc (.cells l[k].cells 42) := ⟨_, rfl⟩
    have hb2 : Below wr.heap.size wr W2 := by rw [hW2]; exact below_al wr _
    have HX2 : Hid (W2.heap[wr.heap.size]? = some (.cells l[k].cells 42 (0, 0))) := by show _ = _; rw [hW2]; exact heap_alloc_new wr _
    have HO2 : Hid (W2.ownsRow w.heap.size 42 8 V (lefI F (l.take k)).length (cellsI (lefI F (l.take k)))) := own_belowI HO.out hb2
    have HB2 := Lib.hid (below_then HBR.out hb2)
    generalize lefI F (l.take k) = L at *
    generalize l[k] = X at *
    have HFX := Lib.hid (HF.out X)
    simp only [Itm.cells] at hW2
    have HW2 := Lib.hid hW2
    clear hcc hb2 hW2 HO HBR
    generalize hgx : wr.heap.size = gx at *
    go_upto_region 5 with fail
    rw [← HW2.out]
    clear HW2 c0 c1 c2 c3 c4 c5 c6 c7
    obtain ⟨x0, x1, x2, x3, x4, x5, x6, x7⟩ := cells_of_box HX2.out
    by_cases hbd : (X.s.toList == p.toList) = true
    · have HNE : Hid (lefI F (l.take (k + 1)) = L) := by show _ = _; rw [HSN.out, if_pos (by rw [HFX.out]; exact hbd), List.append_nil]
      clear HSN
      go_wp2_with fail
      go_roundw
      case rel => exact ⟨k + 1, _, by omega, rfl, by go_num, by rw [HNE.out]; exact HO2, HB2⟩
      case measure => simp [intOf]; omega
    · have hbd := Bool.eq_false_iff.2 hbd
      have HNE : Hid (lefI F (l.take (k + 1)) = L ++ [X]) := by show _ = _; rw [HSN.out, if_neg (by rw [HFX.out, hbd]; decide)]
      have HO6 := Lib.hid (HO2.out.alloc (.cells X.cells 42))
      have HQ6 := Lib.hid (news_box W2 X)
      have HB6 := Lib.hid (HB2.out.alloc HB2.out.size (.cells X.cells 42))
      simp only [Itm.cells] at HO6 HQ6 HB6
      clear HSN HO2
      go_wp2_with (at_builtin; refine wpList_append_own _ rfl _ _ 22 rfl w.heap.size 42 i0 (.agg #[.string ⟨#[]⟩, .int .i64 0, .int .u32 0, .int .u32 0, .int .u32 0, .int .i64 0, .int .i64 0, .string ⟨#[]⟩]) 8 72 Tryz.underlying22 hi hz0 hz1 hz2 rfl (by decide) _ _ _ rfl HO6.out ⟨W2.heap.size, 0, none⟩ 1 1 X.cellsL rfl ?qc1 ?qc2 ?qc3 ?qc4 ?qc5 ?qc6 ?_)
      case qc1 => rfl
      case qc2 => exact HQ6.out
      case qc3 => exact one_box X
      case qc4 => have := HLE.out; have := HLL.out; unfold maxLen; omega
      case qc5 => have := HLE.out; have := HLL.out; omega
      case qc6 => exact HB6.out.size
      intro v7 w7 hown7 hgrow7 _
      have HB7 : Hid (Below w.heap.size w w7) := HB6.out.grown hgrow7 HB6.out.size (fun q hq => (HO6.out.lt q hq).1)
      have HO7 : Hid (w7.ownsRow w.heap.size 42 8 v7 (lefI F (l.take (k + 1))).length (cellsI (lefI F (l.take (k + 1))))) := by
        show World.ownsRow _ _ _ _ _ _ _
        rw [HNE.out, ← cells_snoc, List.length_append]
        exact hown7
      clear hown7 hgrow7 HO6 HQ6 HB6
      go_wp2_with fail
      go_roundw
      case rel => exact ⟨k + 1, _, by omega, rfl, by go_num, HO7, HB7⟩
      case measure => simp [intOf]; omega
set_option maxHeartbeats 16000000 in
theorem rdrop_any (A : Option Addr) (c : Nat) (l : List Itm) (p : ByteArray) (w : World) (hR : Itms w A l) (hl : l.length ≤ 1000000) :
    Calls Tryz.prog 18 #[.slice A l.length c, .string p] w fun e w' => ∃ A' c', e = .returned (.slice A' (drpL p l).length c') ∧ NewI w' w.heap.size A' (drpL p l) ∧ Below w.heap.size w w' := by
  obtain ⟨i0, hi, hz0, hz1, hz2⟩ := partsI
  have hir := info_item
  have HR := Lib.hid (fun w1 (hb : Below w.heap.size w w1) => hR.below hb)
  skip
  obtain ⟨F, hF⟩ : ∃ F : Itm → Bool, F = fun X => undB X.s p := ⟨_, rfl⟩
  rw [show drpL p l = lefI F l from by rw [hF]; rfl]
  have HF : Hid (∀ X, F X = (undB X.s p)) := fun X => by rw [hF]
  clear hR hF
  go_enter Tryz.func18, Tryz.ntmps18
  go_wp2_with fail
  go_loopw [5, 10] (fun v5 v10 wr => ∃ (k : Nat) (V : Value), k ≤ l.length ∧ V = v5 ∧ v10 = .int .i64 (k : Nat) ∧ Hid (wr.ownsRow w.heap.size 42 8 V (lefI F (l.take k)).length (cellsI (lefI F (l.take k)))) ∧ Hid (Below w.heap.size w wr)) (fun _ v _ => l.length - (intOf v).toNat)
  case atStart => exact ⟨0, _, Nat.zero_le _, rfl, rfl, World.ownsRow_nil _ _ _ _, Below.refl _ _⟩
  case round =>
    obtain ⟨k, V, hk, rfl, rfl, HO, HBR⟩ := hrel
    by_cases hkn : k < l.length
    case neg =>
      obtain rfl : k = l.length := by omega
      have hd : decide ((l.length : Int) < (l.length : Int)) = false := decide_eq_false (by omega)
      have HTK : Hid (l.take l.length = l) := List.take_length
      rw [HTK.out] at HO
      obtain ⟨A7, c7, hv7, hN7⟩ := own_newD HO.out
      have HN7 := Lib.hid hN7
      subst hv7
      clear hN7 HO
      go_wp2_with fail
      go_ret
      exact ⟨A7, c7, rfl, HN7.out, HBR.out⟩
    have hd : decide ((k : Int) < (l.length : Int)) = true := decide_eq_true (by omega)
    obtain ⟨b, off, rfl, hb, hcc⟩ := (HR.out wr HBR.out) (by omega)
    obtain ⟨c0, c1, c2, c3, c4, c5, c6, c7⟩ := hcc k l[k] (List.getElem?_eq_getElem hkn)
    have HSN := Lib.hid (lef_snoc F l k hkn)
    have HLE := Lib.hid (lef_le F l k)
    have HLL : Hid (k ≤ 1000000) := by show _ ≤ _; omega
    obtain ⟨W2, hW2⟩ : ∃ W2, W2 = wr.alloc (.cells l[k].cells 42) := ⟨_, rfl⟩
    have hb2 : Below wr.heap.size wr W2 := by rw [hW2]; exact below_al wr _
    have HX2 : Hid (W2.heap[wr.heap.size]? = some (.cells l[k].cells 42 (0, 0))) := by show _ = _; rw [hW2]; exact heap_alloc_new wr _
    have HO2 : Hid (W2.ownsRow w.heap.size 42 8 V (lefI F (l.take k)).length (cellsI (lefI F (l.take k)))) := own_belowI HO.out hb2
    have HB2 := Lib.hid (below_then HBR.out hb2)
    generalize lefI F (l.take k) = L at *
    generalize l[k] = X at *
    have HFX := Lib.hid (HF.out X)
    simp only [Itm.cells] at hW2
    have HW2 := Lib.hid hW2
    clear hcc hb2 hW2 HO HBR
    generalize hgx : wr.heap.size = gx at *
    go_upto_region 5 with fail
    rw [← HW2.out]
    clear HW2 c0 c1 c2 c3 c4 c5 c6 c7
    obtain ⟨x0, x1, x2, x3, x4, x5, x6, x7⟩ := cells_of_box HX2.out
    by_cases hbd : (undB X.s p) = true
    · have HNE : Hid (lefI F (l.take (k + 1)) = L) := by show _ = _; rw [HSN.out, if_pos (by rw [HFX.out]; exact hbd), List.append_nil]
      clear HSN
      have HU := Lib.hid (runder_any X.s p W2)
      rw [hbd] at HU
      go_wp2_with fail
      refine HU.out.mono ?_; rintro e w3 ⟨rfl, hw3⟩; rw [hw3]; clear hw3
      go_wp2_with fail
      go_roundw
      case rel => exact ⟨k + 1, _, by omega, rfl, by go_num, by rw [HNE.out]; exact HO2, HB2⟩
      case measure => simp [intOf]; omega
    · have hbd := Bool.eq_false_iff.2 hbd
      have HNE : Hid (lefI F (l.take (k + 1)) = L ++ [X]) := by show _ = _; rw [HSN.out, if_neg (by rw [HFX.out, hbd]; decide)]
      have HO6 := Lib.hid (HO2.out.alloc (.cells X.cells 42))
      have HQ6 := Lib.hid (news_box W2 X)
      have HB6 := Lib.hid (HB2.out.alloc HB2.out.size (.cells X.cells 42))
      simp only [Itm.cells] at HO6 HQ6 HB6
      clear HSN HO2
      have HU := Lib.hid (runder_any X.s p W2)
      rw [hbd] at HU
      go_wp2_with fail
      refine HU.out.mono ?_; rintro e w3 ⟨rfl, hw3⟩; rw [hw3]; clear hw3
      go_wp2_with (at_builtin; refine wpList_append_own _ rfl _ _ 22 rfl w.heap.size 42 i0 (.agg #[.string ⟨#[]⟩, .int .i64 0, .int .u32 0, .int .u32 0, .int .u32 0, .int .i64 0, .int .i64 0, .string ⟨#[]⟩]) 8 72 Tryz.underlying22 hi hz0 hz1 hz2 rfl (by decide) _ _ _ rfl HO6.out ⟨W2.heap.size, 0, none⟩ 1 1 X.cellsL rfl ?qc1 ?qc2 ?qc3 ?qc4 ?qc5 ?qc6 ?_)
      case qc1 => rfl
      case qc2 => exact HQ6.out
      case qc3 => exact one_box X
      case qc4 => have := HLE.out; have := HLL.out; unfold maxLen; omega
      case qc5 => have := HLE.out; have := HLL.out; omega
      case qc6 => exact HB6.out.size
      intro v7 w7 hown7 hgrow7 _
      have HB7 : Hid (Below w.heap.size w w7) := HB6.out.grown hgrow7 HB6.out.size (fun q hq => (HO6.out.lt q hq).1)
      have HO7 : Hid (w7.ownsRow w.heap.size 42 8 v7 (lefI F (l.take (k + 1))).length (cellsI (lefI F (l.take (k + 1))))) := by
        show World.ownsRow _ _ _ _ _ _ _
        rw [HNE.out, ← cells_snoc, List.length_append]
        exact hown7
      clear hown7 hgrow7 HO6 HQ6 HB6
      go_wp2_with fail
      go_roundw
      case rel => exact ⟨k + 1, _, by omega, rfl, by go_num, HO7, HB7⟩
      case measure => simp [intOf]; omega
end Go.Proofs.YtmeapijckncoeaaGreatDoor
