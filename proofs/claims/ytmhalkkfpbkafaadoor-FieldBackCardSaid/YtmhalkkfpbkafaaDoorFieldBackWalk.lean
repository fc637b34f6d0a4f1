/-
  The walk of FieldBack.
-/
import Derived.Test.YtmhalkkfpbkafaaDoorFbM
import Derived.Test.YtmhalkkfpbkafaaDoorFlI
import Derived.Deep.RegionHeld3
import Derived.Laws.StructEq
namespace Go.Proofs.YtmhalkkfpbkafaaDoor
set_option maxRecDepth 100000
set_option linter.unusedSimpArgs false
open Go.RowKit Go.Deep Go.Joins

theorem info_asked : (Tryd.prog.info? 55).map (·.size) = some 4 := by kernel_rfl
theorem cellAlB {w : World} {p : Addr} {u : Value} {o : Obj} (h : w.cell? p = some u) : (w.alloc o).cell? p = some u := by
  have hlt := block_lt_of_cell h
  exact (((Below.refl w.heap.size w).alloc (Nat.le_refl _) o).cell hlt).trans h
theorem step_store_row {P : Program} {ops : Array Oper} {o : Oper} {a : Act} {w : World} {K : Act → World → Prop} {Q : Exit → Act → World → Prop} {E : Prop} (hgd : o.guard = none) (ty : TypeId) (x y : Operand) (ho : o.op = .store ty x y)
    (g : Nat) (cells : Array Value) (hx : a.eval x = .pointer (some ⟨g, 0, none⟩)) (hy : a.eval y = .agg cells) (t : TypeId) (old : Array Value) (hg : w.heap[g]? = some (.cells old t (0, 0))) (hi : (P.info? ty).map (·.size) = some cells.size)
    (hold : old.size = cells.size) (h1 : cells.all (·.oneCell') = true) (h : K (a.put o.dst undef) (w.setRow g cells)) : if Region.wanted o (yielded ops a.tmps) = true then Oper.wp P o a w K Q else E := by
  rw [if_pos (by simp [Region.wanted, hgd])]
  exact wp_store_row ty x y ho g cells hx hy t old hg hi hold h1 h
/-- A block of four cells. -/
def Four (w : World) (g : Nat) (T : TypeId) (a b c d : Value) : Prop := w.heap[g]? = some (.cells #[a, b, c, d] T (0, 0))
section
variable {w w2 : World} {g : Nat} {T : TypeId} {a b c d : Value}
theorem Four.lt (h : Four w g T a b c d) : g < w.heap.size := lt_of_heap h
theorem Four.c0 (h : Four w g T a b c d) : w.cell? ⟨g, 0, none⟩ = some a := by rw [cell_of_row _ _ 0 _ _ _ h]; rfl
theorem Four.c1 (h : Four w g T a b c d) : w.cell? ⟨g, 1, none⟩ = some b := by rw [cell_of_row _ _ 1 _ _ _ h]; rfl
theorem Four.c2 (h : Four w g T a b c d) : w.cell? ⟨g, 2, none⟩ = some c := by rw [cell_of_row _ _ 2 _ _ _ h]; rfl
theorem Four.c3 (h : Four w g T a b c d) : w.cell? ⟨g, 3, none⟩ = some d := by rw [cell_of_row _ _ 3 _ _ _ h]; rfl
theorem Four.next (h : Four w g T a b c d) (hb : Below w.heap.size w w2) : Four w2 g T a b c d := (hb.block _ h.lt).trans h
theorem Four.al (h : Four w g T a b c d) (o : Obj) : Four (w.alloc o) g T a b c d := (Below.heap_alloc w o g h.lt).trans h
theorem Four.row (h : Four w g T a b c d) {g2 : Nat} (hn : g ≠ g2) (cs : Array Value) : Four (w.setRow g2 cs) g T a b c d := (setRow_other _ _ _ _ hn).trans h
theorem Four.rows (h : Four w g T a b c d) (a' b' c' d' : Value) : Four (w.setRow g #[a', b', c', d']) g T a' b' c' d' := setRow_heap _ _ _ _ _ _ h
theorem Four.new (w : World) : Four (w.alloc (.cells #[a, b, c, d] T)) w.heap.size T a b c d := heap_alloc_new w _
end
set_option maxHeartbeats 8000000 in
theorem fieldBack_walk (a b c d : Int) (f x y z : Int) (us gr : Int) (path raw : ByteArray) (ha : (Lit.int .u64 a).wf = true) (hb : (Lit.int .u64 b).wf = true) (hc : (Lit.int .u64 c).wf = true) (hd : (Lit.int .u32 d).wf = true) (_hf : (Lit.int .u8 f).wf = true) (hx : (Lit.int .i32 x).wf = true) (hy : (Lit.int .i32 y).wf = true) (hz : (Lit.int .i32 z).wf = true) (hus : (Lit.int .u32 us).wf = true) (hgr : (Lit.int .u32 gr).wf = true) (_hp : path.size ≤ maxLen) (hr : raw.size ≤ maxLen) (w : World) :
    Calls Tryd.prog 7 #[.agg #[.int .u64 a, .int .u64 b, .int .u64 c, .int .u32 d], .agg #[.int .u8 f, .int .i32 x, .int .i32 y, .int .i32 z], .int .u32 us, .int .u32 gr, .string path, .string raw] w fun e w' => e = .returned (.bool true) ∧ Below w.heap.size w w' := by
  obtain ⟨va, rfl, hva⟩ := nat_u64 ha
  obtain ⟨vb, rfl, hvb⟩ := nat_u64 hb
  obtain ⟨vc, rfl, hvc⟩ := nat_u64 hc
  obtain ⟨vd, rfl, hvd⟩ := nat_u32 hd
  obtain ⟨vu, rfl, hvu⟩ := nat_u32 hus
  obtain ⟨vg, rfl, hvg⟩ := nat_u32 hgr
  have bx : -2147483648 ≤ x ∧ x ≤ 2147483647 := by have := hx; simp [Lit.wf] at this; rw [show IntKind.i32.min = -2147483648 by decide, show IntKind.i32.max = 2147483647 by decide] at this; exact this
  have byy : -2147483648 ≤ y ∧ y ≤ 2147483647 := by have := hy; simp [Lit.wf] at this; rw [show IntKind.i32.min = -2147483648 by decide, show IntKind.i32.max = 2147483647 by decide] at this; exact this
  have bz : -2147483648 ≤ z ∧ z ≤ 2147483647 := by have := hz; simp [Lit.wf] at this; rw [show IntKind.i32.min = -2147483648 by decide, show IntKind.i32.max = 2147483647 by decide] at this; exact this
  obtain ⟨V, hV0, hV1, hV2, hV3⟩ : ∃ V : Nat → Nat, V 0 = va ∧ V 1 = vb ∧ V 2 = vc ∧ V 3 = vd := ⟨fun k => if k = 0 then va else if k = 1 then vb else if k = 2 then vc else vd, rfl, rfl, rfl, rfl⟩
  obtain ⟨X, hX0, hX1, hX2, hXb⟩ : ∃ X : Nat → Int, X 0 = x ∧ X 1 = y ∧ X 2 = z ∧ ∀ k, -2147483648 ≤ X k ∧ X k ≤ 2147483647 := ⟨fun k => if k = 0 then x else if k = 1 then y else z, rfl, rfl, rfl, fun k => by
    dsimp only
    repeat' split
    all_goals assumption⟩
  have HPW := Lib.hid (fun w1 => printWide_any true true true true V (by omega) (by omega) (by omega) (by omega) w1)
  have HRW := Lib.hid (fun w1 => parseWide_w (pwT allQ V 4) true true true true (by have := pwT_size allQ V 4; unfold maxLen; omega) w1)
  have hwb := wide_back V (by omega) (by omega) (by omega) (by omega)
  rw [show qk true true true true = allQ from rfl] at HPW HRW
  rw [hwb] at HRW
  rw [hV0, hV1, hV2, hV3] at HPW HRW
  have HPSf := Lib.hid (fun w1 => printStamp_any 7 (by omega) false X hXb w1)
  have HPSt := Lib.hid (fun w1 => printStamp_any 7 (by omega) true X hXb w1)
  have HRSf := Lib.hid (fun w1 => parseStamp_st (psT 7 false X 3) false (by have := psT_size 7 false X 3; unfold maxLen; omega) w1)
  have HRSt := Lib.hid (fun w1 => parseStamp_st (psT 7 true X 3) true (by have := psT_size 7 true X 3; unfold maxLen; omega) w1)
  rw [stamp_back_f X hXb] at HRSf
  rw [stamp_back_t X hXb] at HRSt
  rw [hX0, hX1, hX2] at HPSf HPSt HRSf
  rw [hX0] at HRSt
  have HPO := Lib.hid (fun w1 => printOwner_any vu vg hvu hvg w1)
  have HRO := Lib.hid (fun w1 => parseOwner_any (ownT vu vg) (by have h := own_nums vu vg; rw [← nums_len, h]; simp [le_len, maxLen]) w1)
  rw [own_back vu vg hvu hvg] at HRO
  generalize pwT allQ V 4 = TW at *
  generalize psT 7 false X 3 = TF at *
  generalize psT 7 true X 3 = TT at *
  generalize ownT vu vg = TO at *
  have HR := Lib.hid hr
  have HAW := Lib.hid (fun w1 => awake14_any w1)
  have B0 := Lib.hid (((Below.refl w.heap.size w).alloc (Nat.le_refl _) (.cells #[.int .u64 (va : Nat), .int .u64 (vb : Nat), .int .u64 (vc : Nat), .int .u32 (vd : Nat)] 51)).alloc (by simp) (.cells #[.int .u8 f, .int .i32 x, .int .i32 y, .int .i32 z] 53))
  have P0 := Lib.hid ((Four.new (T := 51) (a := .int .u64 (va : Nat)) (b := .int .u64 (vb : Nat)) (c := .int .u64 (vc : Nat)) (d := .int .u32 (vd : Nat)) w).al (.cells #[.int .u8 f, .int .i32 x, .int .i32 y, .int .i32 z] 53))
  have Q0 := Four.new (T := 53) (a := .int .u8 f) (b := .int .i32 x) (c := .int .i32 y) (d := .int .i32 z) (w.alloc (.cells #[.int .u64 (va : Nat), .int .u64 (vb : Nat), .int .u64 (vc : Nat), .int .u32 (vd : Nat)] 51))
  rw [show (w.alloc (.cells #[.int .u64 (va : Nat), .int .u64 (vb : Nat), .int .u64 (vc : Nat), .int .u32 (vd : Nat)] 51)).heap.size = w.heap.size + 1 by simp] at Q0
  have Q0 := Lib.hid Q0
  have hiw := info_wide
  have his := info_stamp
  have hia := info_asked
  clear ha hb hc hd hx hy hz hus hgr hwb hV0 hV1 hV2 hV3 hX0 hX1 hX2 hXb hr bx byy bz hva hvb hvc hvd hvu hvg
  clear V X
  go_enter Tryd.func7, Tryd.ntmps7
  go_wp2_with fail
  generalize (w.alloc (.cells #[.int .u64 (va : Nat), .int .u64 (vb : Nat), .int .u64 (vc : Nat), .int .u32 (vd : Nat)] 51)).alloc (.cells #[.int .u8 f, .int .i32 x, .int .i32 y, .int .i32 z] 53) = w0 at *
  refine (HAW.out _).mono ?_; rintro e w1 ⟨rfl, h1⟩
  have B1 := Lib.hid (B0.out.trans (h1.mono B0.out.size))
  have P1 := Lib.hid (P0.out.next h1)
  have Q1 := Lib.hid (Q0.out.next h1)
  clear h1 HAW B0 P0 Q0
  by_cases c1 : 2000 < raw.size
  · go_wp2_with fail
    go_ret
    exact ⟨rfl, B1.out⟩
  · by_cases c2 : 2000 < path.size
    · go_wp2_with fail
      go_ret
      exact ⟨rfl, B1.out⟩
    · have HPP := Lib.hid (fun w1 => printPath_any path raw (by omega) HR.out w1)
      have hptz : (ptT path raw).size ≤ maxLen := by
        have h := pt_nums path raw
        have h2 : (ptT path raw).size = 5 + path.size := by rw [← nums_len, h]; simp [le_len, nums_len]; omega
        unfold maxLen
        omega
      have HRP := Lib.hid (fun w1 => parsePath_any (ptT path raw) raw hptz HR.out w1)
      rw [path_back path raw] at HRP
      have HST := Lib.hid (fun w1 => rstrays_any path w1 (by omega))
      clear hptz
      generalize ptT path raw = TP at *
      generalize straysB path = sb at *
      have B2 := Lib.hid (B1.out.alloc B1.out.size (.cells #[.bool true, .bool true, .bool true, .bool true] 55))
      have P2 := Lib.hid (P1.out.al (.cells #[.bool true, .bool true, .bool true, .bool true] 55))
      have Q2 := Lib.hid (Q1.out.al (.cells #[.bool true, .bool true, .bool true, .bool true] 55))
      have A2 := Lib.hid (Four.new (T := 55) (a := .bool true) (b := .bool true) (c := .bool true) (d := .bool true) w1)
      have hzw := zero_wide
      have hzs := zero_stamp
      go_upto_region 6 with fail
      generalize w1.alloc (.cells #[.bool true, .bool true, .bool true, .bool true] 55) = w2 at *
      go_cut [14, 15] from 38 to 45 (fun p er wx => ∃ g, p = .pointer (some ⟨g, 0, none⟩) ∧ er = .int .i64 0 ∧ Hid (Below w.heap.size w wx) ∧ Hid (Four wx w.heap.size 51 (.int .u64 (va : Nat)) (.int .u64 (vb : Nat)) (.int .u64 (vc : Nat)) (.int .u32 (vd : Nat))) ∧ Hid (Four wx (w.heap.size + 1) 53 (.int .u8 f) (.int .i32 x) (.int .i32 y) (.int .i32 z)) ∧ Hid (Four wx g 51 (.int .u64 (va : Nat)) (.int .u64 (vb : Nat)) (.int .u64 (vc : Nat)) (.int .u32 (vd : Nat))) ∧ Hid (w.heap.size + 1 < g))
      case first => as_aux_lemma =>
        have Bv := Lib.hid (B2.out.drew)
        have Pv : Hid (Four w2.drew w.heap.size 51 (.int .u64 (va : Nat)) (.int .u64 (vb : Nat)) (.int .u64 (vc : Nat)) (.int .u32 (vd : Nat))) := P2.out
        have Qv : Hid (Four w2.drew (w.heap.size + 1) 53 (.int .u8 f) (.int .i32 x) (.int .i32 y) (.int .i32 z)) := Q2.out
        have Av : Hid (Four w2.drew w1.heap.size 55 (.bool true) (.bool true) (.bool true) (.bool true)) := A2.out
        refine wp_region_held_drew (S := fun ww => Four ww w.heap.size 51 (.int .u64 (va : Nat)) (.int .u64 (vb : Nat)) (.int .u64 (vc : Nat)) (.int .u32 (vd : Nat)) ∧ Four ww w1.heap.size 55 (.bool true) (.bool true) (.bool true) (.bool true)) (by kernel_rfl) ⟨Pv.out, Av.out⟩ (fun hH1 => ?_)
        generalize w2.drew = wv at *
        refine wpAnyH_take (i := 0) (v := ?_) rfl (by kernel_rfl) (by kernel_rfl) (by kernel_rfl) (fun _ _ _ h => h) (Or.inl ⟨by kernel_rfl, ?_⟩) (by assumption) ?_
        rotate_left
        · intro ww hSw
          have s00 := hSw.1.c0
          have s01 := hSw.1.c1
          have s02 := hSw.1.c2
          have s03 := hSw.1.c3
          have s10 := hSw.2.c0
          have s11 := hSw.2.c1
          have s12 := hSw.2.c2
          have s13 := hSw.2.c3
          go_simp
          try with_reducible rfl
        try simp only [Act.put, List.setIfInBounds_toArray, List.set_cons_zero, List.set_cons_succ, List.getElem_toArray, List.getElem_cons_succ, List.getElem_cons_zero]
        refine wpAnyH_take (i := 1) (v := ?_) rfl (by kernel_rfl) (by kernel_rfl) (by kernel_rfl) (fun _ _ _ h => h) (Or.inl ⟨by kernel_rfl, ?_⟩) (by assumption) ?_
        rotate_left
        · intro ww hSw
          have s00 := hSw.1.c0
          have s01 := hSw.1.c1
          have s02 := hSw.1.c2
          have s03 := hSw.1.c3
          have s10 := hSw.2.c0
          have s11 := hSw.2.c1
          have s12 := hSw.2.c2
          have s13 := hSw.2.c3
          go_simp
          try with_reducible rfl
        try simp only [Act.put, List.setIfInBounds_toArray, List.set_cons_zero, List.set_cons_succ, List.getElem_toArray, List.getElem_cons_succ, List.getElem_cons_zero]
        refine wpAnyH_take (i := 3) (v := ?_) rfl (by kernel_rfl) (by kernel_rfl) (by kernel_rfl) (fun _ _ _ h => h) (Or.inl ⟨by kernel_rfl, ?_⟩) (by assumption) ?_
        rotate_left
        · intro ww hSw
          have s00 := hSw.1.c0
          have s01 := hSw.1.c1
          have s02 := hSw.1.c2
          have s03 := hSw.1.c3
          have s10 := hSw.2.c0
          have s11 := hSw.2.c1
          have s12 := hSw.2.c2
          have s13 := hSw.2.c3
          go_simp
          try with_reducible rfl
        try simp only [Act.put, List.setIfInBounds_toArray, List.set_cons_zero, List.set_cons_succ, List.getElem_toArray, List.getElem_cons_succ, List.getElem_cons_zero]
        refine wpAnyH_ready (rs := [2, 8]) (by kernel_rfl) (by simp) ?_
        refine AllReadyH.cons rfl (fun K hK => ?_) (AllReadyH.cons rfl (fun K hK => ?_) (AllReadyH.nil))
        · go_simp
          refine (HPW.out _).mono ?_
          rintro e wa ⟨rfl, ha⟩
          have Ba := Lib.hid (below_then Bv.out ha)
          have Pa := Lib.hid (Pv.out.next ha)
          have Qa := Lib.hid (Qv.out.next ha)
          have Aa := Lib.hid (Av.out.next ha)
          refine hK.out _ _ ⟨Pa.out, Aa.out⟩ (fun hHa => ?_)
          clear hK K ha
          try simp only [Act.put, List.setIfInBounds_toArray, List.set_cons_zero, List.set_cons_succ, List.getElem_toArray, List.getElem_cons_succ, List.getElem_cons_zero]
          refine wpAnyH_ready (rs := [4, 8]) (by kernel_rfl) (by simp) ?_
          refine AllReadyH.cons rfl (fun K hK => ?_) (AllReadyH.cons rfl (fun K hK => ?_) (AllReadyH.nil))
          · go_simp
            refine (HRW.out _).mono ?_
            rintro e wb ⟨rfl, hb⟩
            have Bb := Lib.hid (below_then Ba.out hb)
            have Pb := Lib.hid (Pa.out.next hb)
            have Qb := Lib.hid (Qa.out.next hb)
            have Ab := Lib.hid (Aa.out.next hb)
            refine hK.out _ _ ⟨Pb.out, Ab.out⟩ (fun hHb => ?_)
            clear hK K hb
            try simp only [Act.put, List.setIfInBounds_toArray, List.set_cons_zero, List.set_cons_succ, List.getElem_toArray, List.getElem_cons_succ, List.getElem_cons_zero]
            refine wpAnyH_take (i := 5) (v := ?_) rfl (by kernel_rfl) (by kernel_rfl) (by kernel_rfl) (fun _ _ _ h => h) (Or.inl ⟨by kernel_rfl, ?_⟩) (by assumption) ?_
            rotate_left
            · intro ww hSw
              have s00 := hSw.1.c0
              have s01 := hSw.1.c1
              have s02 := hSw.1.c2
              have s03 := hSw.1.c3
              have s10 := hSw.2.c0
              have s11 := hSw.2.c1
              have s12 := hSw.2.c2
              have s13 := hSw.2.c3
              go_simp
              try with_reducible rfl
            try simp only [Act.put, List.setIfInBounds_toArray, List.set_cons_zero, List.set_cons_succ, List.getElem_toArray, List.getElem_cons_succ, List.getElem_cons_zero]
            refine wpAnyH_take (i := 6) (v := ?_) rfl (by kernel_rfl) (by kernel_rfl) (by kernel_rfl) (fun _ _ _ h => h) (Or.inl ⟨by kernel_rfl, ?_⟩) (by assumption) ?_
            rotate_left
            · intro ww hSw
              have s00 := hSw.1.c0
              have s01 := hSw.1.c1
              have s02 := hSw.1.c2
              have s03 := hSw.1.c3
              have s10 := hSw.2.c0
              have s11 := hSw.2.c1
              have s12 := hSw.2.c2
              have s13 := hSw.2.c3
              go_simp
              try with_reducible rfl
            try simp only [Act.put, List.setIfInBounds_toArray, List.set_cons_zero, List.set_cons_succ, List.getElem_toArray, List.getElem_cons_succ, List.getElem_cons_zero]
            refine wpAnyH_take (i := 7) (v := ?_) rfl (by kernel_rfl) (by kernel_rfl) (by kernel_rfl) (fun _ _ _ h => h) (Or.inl ⟨by kernel_rfl, ?_⟩) (by assumption) ?_
            rotate_left
            · intro ww hSw
              have s00 := hSw.1.c0
              have s01 := hSw.1.c1
              have s02 := hSw.1.c2
              have s03 := hSw.1.c3
              have s10 := hSw.2.c0
              have s11 := hSw.2.c1
              have s12 := hSw.2.c2
              have s13 := hSw.2.c3
              go_simp
              try with_reducible rfl
            try simp only [Act.put, List.setIfInBounds_toArray, List.set_cons_zero, List.set_cons_succ, List.getElem_toArray, List.getElem_cons_succ, List.getElem_cons_zero]
            refine wpAnyH_ready (rs := [8]) (by kernel_rfl) (by simp) ?_
            refine AllReadyH.cons rfl (fun K hK => ?_) (AllReadyH.nil)
            go_simp
            have Bc := Lib.hid (Bb.out.alloc Bb.out.size (.cells #[.int .u64 0, .int .u64 0, .int .u64 0, .int .u32 0] 51))
            have Pc := Lib.hid (Pb.out.al (.cells #[.int .u64 0, .int .u64 0, .int .u64 0, .int .u32 0] 51))
            have Qc := Lib.hid (Qb.out.al (.cells #[.int .u64 0, .int .u64 0, .int .u64 0, .int .u32 0] 51))
            have Ac := Lib.hid (Ab.out.al (.cells #[.int .u64 0, .int .u64 0, .int .u64 0, .int .u32 0] 51))
            have Xc := Lib.hid (Four.new (T := 51) (a := .int .u64 0) (b := .int .u64 0) (c := .int .u64 0) (d := .int .u32 0) wb)
            have Lc : Hid (w.heap.size + 1 < wb.heap.size) := Qb.out.lt
            have LcP := Lib.hid (Nat.ne_of_lt Pb.out.lt)
            have LcQ := Lib.hid (Nat.ne_of_lt Qb.out.lt)
            have LcA := Lib.hid (Nat.ne_of_lt Ab.out.lt)
            refine hK.out _ _ ⟨Pc.out, Ac.out⟩ (fun hHc => ?_)
            clear hK K
            try simp only [Act.put, List.setIfInBounds_toArray, List.set_cons_zero, List.set_cons_succ, List.getElem_toArray, List.getElem_cons_succ, List.getElem_cons_zero]
            refine wpAnyH_ready (rs := [9]) (by kernel_rfl) (by simp) ?_
            refine AllReadyH.cons rfl (fun K hK => ?_) (AllReadyH.nil)
            go_simp
            have Bd := Lib.hid (Bb.out.alloc Bb.out.size (.cells #[.int .u64 (va : Nat), .int .u64 (vb : Nat), .int .u64 (vc : Nat), .int .u32 (vd : Nat)] 51))
            have Pd := Lib.hid (Pb.out.al (.cells #[.int .u64 (va : Nat), .int .u64 (vb : Nat), .int .u64 (vc : Nat), .int .u32 (vd : Nat)] 51))
            have Qd := Lib.hid (Qb.out.al (.cells #[.int .u64 (va : Nat), .int .u64 (vb : Nat), .int .u64 (vc : Nat), .int .u32 (vd : Nat)] 51))
            have Ad := Lib.hid (Ab.out.al (.cells #[.int .u64 (va : Nat), .int .u64 (vb : Nat), .int .u64 (vc : Nat), .int .u32 (vd : Nat)] 51))
            have Xd := Lib.hid (Four.new (T := 51) (a := .int .u64 (va : Nat)) (b := .int .u64 (vb : Nat)) (c := .int .u64 (vc : Nat)) (d := .int .u32 (vd : Nat)) wb)
            refine hK.out _ _ ⟨Pd.out, Ad.out⟩ (fun hHd => ?_)
            clear hK K
            try simp only [Act.put, List.setIfInBounds_toArray, List.set_cons_zero, List.set_cons_succ, List.getElem_toArray, List.getElem_cons_succ, List.getElem_cons_zero]
            refine wpAnyH_take (i := 10) (v := ?_) rfl (by kernel_rfl) (by kernel_rfl) (by kernel_rfl) (fun _ _ _ h => h) (Or.inl ⟨by kernel_rfl, ?_⟩) (by assumption) ?_
            rotate_left
            · intro ww hSw
              have s00 := hSw.1.c0
              have s01 := hSw.1.c1
              have s02 := hSw.1.c2
              have s03 := hSw.1.c3
              have s10 := hSw.2.c0
              have s11 := hSw.2.c1
              have s12 := hSw.2.c2
              have s13 := hSw.2.c3
              go_simp
              try with_reducible rfl
            try simp only [Act.put, List.setIfInBounds_toArray, List.set_cons_zero, List.set_cons_succ, List.getElem_toArray, List.getElem_cons_succ, List.getElem_cons_zero]
            refine wpAnyH_done (by kernel_rfl) ?_ _
            go_wp2_with fail
            go_meet
            exact ⟨_, rfl, rfl, Bd, Pd, Qd, Xd, Lc⟩
          · go_simp
            have Bb := Lib.hid (Ba.out.alloc Ba.out.size (.cells #[.int .u64 0, .int .u64 0, .int .u64 0, .int .u32 0] 51))
            have Pb := Lib.hid (Pa.out.al (.cells #[.int .u64 0, .int .u64 0, .int .u64 0, .int .u32 0] 51))
            have Qb := Lib.hid (Qa.out.al (.cells #[.int .u64 0, .int .u64 0, .int .u64 0, .int .u32 0] 51))
            have Ab := Lib.hid (Aa.out.al (.cells #[.int .u64 0, .int .u64 0, .int .u64 0, .int .u32 0] 51))
            have Xb := Lib.hid (Four.new (T := 51) (a := .int .u64 0) (b := .int .u64 0) (c := .int .u64 0) (d := .int .u32 0) wa)
            have Lb : Hid (w.heap.size + 1 < wa.heap.size) := Qa.out.lt
            have LbP := Lib.hid (Nat.ne_of_lt Pa.out.lt)
            have LbQ := Lib.hid (Nat.ne_of_lt Qa.out.lt)
            have LbA := Lib.hid (Nat.ne_of_lt Aa.out.lt)
            refine hK.out _ _ ⟨Pb.out, Ab.out⟩ (fun hHb => ?_)
            clear hK K
            try simp only [Act.put, List.setIfInBounds_toArray, List.set_cons_zero, List.set_cons_succ, List.getElem_toArray, List.getElem_cons_succ, List.getElem_cons_zero]
            refine wpAnyH_ready (rs := [4]) (by kernel_rfl) (by simp) ?_
            refine AllReadyH.cons rfl (fun K hK => ?_) (AllReadyH.nil)
            go_simp
            refine (HRW.out _).mono ?_
            rintro e wc ⟨rfl, hc⟩
            have Bc := Lib.hid (below_then Bb.out hc)
            have Pc := Lib.hid (Pb.out.next hc)
            have Qc := Lib.hid (Qb.out.next hc)
            have Ac := Lib.hid (Ab.out.next hc)
            have Xc := Lib.hid (Xb.out.next hc)
            refine hK.out _ _ ⟨Pc.out, Ac.out⟩ (fun hHc => ?_)
            clear hK K hc
            try simp only [Act.put, List.setIfInBounds_toArray, List.set_cons_zero, List.set_cons_succ, List.getElem_toArray, List.getElem_cons_succ, List.getElem_cons_zero]
            refine wpAnyH_take (i := 5) (v := ?_) rfl (by kernel_rfl) (by kernel_rfl) (by kernel_rfl) (fun _ _ _ h => h) (Or.inl ⟨by kernel_rfl, ?_⟩) (by assumption) ?_
            rotate_left
            · intro ww hSw
              have s00 := hSw.1.c0
              have s01 := hSw.1.c1
              have s02 := hSw.1.c2
              have s03 := hSw.1.c3
              have s10 := hSw.2.c0
              have s11 := hSw.2.c1
              have s12 := hSw.2.c2
              have s13 := hSw.2.c3
              go_simp
              try with_reducible rfl
            try simp only [Act.put, List.setIfInBounds_toArray, List.set_cons_zero, List.set_cons_succ, List.getElem_toArray, List.getElem_cons_succ, List.getElem_cons_zero]
            refine wpAnyH_take (i := 6) (v := ?_) rfl (by kernel_rfl) (by kernel_rfl) (by kernel_rfl) (fun _ _ _ h => h) (Or.inl ⟨by kernel_rfl, ?_⟩) (by assumption) ?_
            rotate_left
            · intro ww hSw
              have s00 := hSw.1.c0
              have s01 := hSw.1.c1
              have s02 := hSw.1.c2
              have s03 := hSw.1.c3
              have s10 := hSw.2.c0
              have s11 := hSw.2.c1
              have s12 := hSw.2.c2
              have s13 := hSw.2.c3
              go_simp
              try with_reducible rfl
            try simp only [Act.put, List.setIfInBounds_toArray, List.set_cons_zero, List.set_cons_succ, List.getElem_toArray, List.getElem_cons_succ, List.getElem_cons_zero]
            refine wpAnyH_take (i := 7) (v := ?_) rfl (by kernel_rfl) (by kernel_rfl) (by kernel_rfl) (fun _ _ _ h => h) (Or.inl ⟨by kernel_rfl, ?_⟩) (by assumption) ?_
            rotate_left
            · intro ww hSw
              have s00 := hSw.1.c0
              have s01 := hSw.1.c1
              have s02 := hSw.1.c2
              have s03 := hSw.1.c3
              have s10 := hSw.2.c0
              have s11 := hSw.2.c1
              have s12 := hSw.2.c2
              have s13 := hSw.2.c3
              go_simp
              try with_reducible rfl
            try simp only [Act.put, List.setIfInBounds_toArray, List.set_cons_zero, List.set_cons_succ, List.getElem_toArray, List.getElem_cons_succ, List.getElem_cons_zero]
            refine wpAnyH_ready (rs := [9]) (by kernel_rfl) (by simp) ?_
            refine AllReadyH.cons rfl (fun K hK => ?_) (AllReadyH.nil)
            refine step_store_row rfl 51 (.tmp 14) (.tmp 44) rfl wa.heap.size #[.int .u64 (va : Nat), .int .u64 (vb : Nat), .int .u64 (vc : Nat), .int .u32 (vd : Nat)] rfl rfl 51 #[.int .u64 0, .int .u64 0, .int .u64 0, .int .u32 0] Xc.out (by kernel_rfl) rfl (by simp [Value.oneCell']) ?_
            have Bd := Lib.hid (below_setRow Bc.out (g := wa.heap.size) (by have := Lb.out; omega) #[.int .u64 (va : Nat), .int .u64 (vb : Nat), .int .u64 (vc : Nat), .int .u32 (vd : Nat)])
            have Pd := Lib.hid (Pc.out.row LbP.out #[.int .u64 (va : Nat), .int .u64 (vb : Nat), .int .u64 (vc : Nat), .int .u32 (vd : Nat)])
            have Qd := Lib.hid (Qc.out.row LbQ.out #[.int .u64 (va : Nat), .int .u64 (vb : Nat), .int .u64 (vc : Nat), .int .u32 (vd : Nat)])
            have Ad := Lib.hid (Ac.out.row LbA.out #[.int .u64 (va : Nat), .int .u64 (vb : Nat), .int .u64 (vc : Nat), .int .u32 (vd : Nat)])
            have Xd := Lib.hid (Xc.out.rows (.int .u64 (va : Nat)) (.int .u64 (vb : Nat)) (.int .u64 (vc : Nat)) (.int .u32 (vd : Nat)))
            refine hK.out _ _ ⟨Pd.out, Ad.out⟩ (fun hHd => ?_)
            clear hK K
            try simp only [Act.put, List.setIfInBounds_toArray, List.set_cons_zero, List.set_cons_succ, List.getElem_toArray, List.getElem_cons_succ, List.getElem_cons_zero]
            refine wpAnyH_take (i := 10) (v := ?_) rfl (by kernel_rfl) (by kernel_rfl) (by kernel_rfl) (fun _ _ _ h => h) (Or.inl ⟨by kernel_rfl, ?_⟩) (by assumption) ?_
            rotate_left
            · intro ww hSw
              have s00 := hSw.1.c0
              have s01 := hSw.1.c1
              have s02 := hSw.1.c2
              have s03 := hSw.1.c3
              have s10 := hSw.2.c0
              have s11 := hSw.2.c1
              have s12 := hSw.2.c2
              have s13 := hSw.2.c3
              go_simp
              try with_reducible rfl
            try simp only [Act.put, List.setIfInBounds_toArray, List.set_cons_zero, List.set_cons_succ, List.getElem_toArray, List.getElem_cons_succ, List.getElem_cons_zero]
            refine wpAnyH_done (by kernel_rfl) ?_ _
            go_wp2_with fail
            go_meet
            exact ⟨_, rfl, rfl, Bd, Pd, Qd, Xd, Lb⟩
        · go_simp
          have Ba := Lib.hid (Bv.out.alloc Bv.out.size (.cells #[.int .u64 0, .int .u64 0, .int .u64 0, .int .u32 0] 51))
          have Pa := Lib.hid (Pv.out.al (.cells #[.int .u64 0, .int .u64 0, .int .u64 0, .int .u32 0] 51))
          have Qa := Lib.hid (Qv.out.al (.cells #[.int .u64 0, .int .u64 0, .int .u64 0, .int .u32 0] 51))
          have Aa := Lib.hid (Av.out.al (.cells #[.int .u64 0, .int .u64 0, .int .u64 0, .int .u32 0] 51))
          have Xa := Lib.hid (Four.new (T := 51) (a := .int .u64 0) (b := .int .u64 0) (c := .int .u64 0) (d := .int .u32 0) wv)
          have La : Hid (w.heap.size + 1 < wv.heap.size) := Qv.out.lt
          have LaP := Lib.hid (Nat.ne_of_lt Pv.out.lt)
          have LaQ := Lib.hid (Nat.ne_of_lt Qv.out.lt)
          have LaA := Lib.hid (Nat.ne_of_lt Av.out.lt)
          refine hK.out _ _ ⟨Pa.out, Aa.out⟩ (fun hHa => ?_)
          clear hK K
          try simp only [Act.put, List.setIfInBounds_toArray, List.set_cons_zero, List.set_cons_succ, List.getElem_toArray, List.getElem_cons_succ, List.getElem_cons_zero]
          refine wpAnyH_ready (rs := [2]) (by kernel_rfl) (by simp) ?_
          refine AllReadyH.cons rfl (fun K hK => ?_) (AllReadyH.nil)
          go_simp
          refine (HPW.out _).mono ?_
          rintro e wb ⟨rfl, hb⟩
          have Bb := Lib.hid (below_then Ba.out hb)
          have Pb := Lib.hid (Pa.out.next hb)
          have Qb := Lib.hid (Qa.out.next hb)
          have Ab := Lib.hid (Aa.out.next hb)
          have Xb := Lib.hid (Xa.out.next hb)
          refine hK.out _ _ ⟨Pb.out, Ab.out⟩ (fun hHb => ?_)
          clear hK K hb
          try simp only [Act.put, List.setIfInBounds_toArray, List.set_cons_zero, List.set_cons_succ, List.getElem_toArray, List.getElem_cons_succ, List.getElem_cons_zero]
          refine wpAnyH_ready (rs := [4]) (by kernel_rfl) (by simp) ?_
          refine AllReadyH.cons rfl (fun K hK => ?_) (AllReadyH.nil)
          go_simp
          refine (HRW.out _).mono ?_
          rintro e wc ⟨rfl, hc⟩
          have Bc := Lib.hid (below_then Bb.out hc)
          have Pc := Lib.hid (Pb.out.next hc)
          have Qc := Lib.hid (Qb.out.next hc)
          have Ac := Lib.hid (Ab.out.next hc)
          have Xc := Lib.hid (Xb.out.next hc)
          refine hK.out _ _ ⟨Pc.out, Ac.out⟩ (fun hHc => ?_)
          clear hK K hc
          try simp only [Act.put, List.setIfInBounds_toArray, List.set_cons_zero, List.set_cons_succ, List.getElem_toArray, List.getElem_cons_succ, List.getElem_cons_zero]
          refine wpAnyH_take (i := 5) (v := ?_) rfl (by kernel_rfl) (by kernel_rfl) (by kernel_rfl) (fun _ _ _ h => h) (Or.inl ⟨by kernel_rfl, ?_⟩) (by assumption) ?_
          rotate_left
          · intro ww hSw
            have s00 := hSw.1.c0
            have s01 := hSw.1.c1
            have s02 := hSw.1.c2
            have s03 := hSw.1.c3
            have s10 := hSw.2.c0
            have s11 := hSw.2.c1
            have s12 := hSw.2.c2
            have s13 := hSw.2.c3
            go_simp
            try with_reducible rfl
          try simp only [Act.put, List.setIfInBounds_toArray, List.set_cons_zero, List.set_cons_succ, List.getElem_toArray, List.getElem_cons_succ, List.getElem_cons_zero]
          refine wpAnyH_take (i := 6) (v := ?_) rfl (by kernel_rfl) (by kernel_rfl) (by kernel_rfl) (fun _ _ _ h => h) (Or.inl ⟨by kernel_rfl, ?_⟩) (by assumption) ?_
          rotate_left
          · intro ww hSw
            have s00 := hSw.1.c0
            have s01 := hSw.1.c1
            have s02 := hSw.1.c2
            have s03 := hSw.1.c3
            have s10 := hSw.2.c0
            have s11 := hSw.2.c1
            have s12 := hSw.2.c2
            have s13 := hSw.2.c3
            go_simp
            try with_reducible rfl
          try simp only [Act.put, List.setIfInBounds_toArray, List.set_cons_zero, List.set_cons_succ, List.getElem_toArray, List.getElem_cons_succ, List.getElem_cons_zero]
          refine wpAnyH_take (i := 7) (v := ?_) rfl (by kernel_rfl) (by kernel_rfl) (by kernel_rfl) (fun _ _ _ h => h) (Or.inl ⟨by kernel_rfl, ?_⟩) (by assumption) ?_
          rotate_left
          · intro ww hSw
            have s00 := hSw.1.c0
            have s01 := hSw.1.c1
            have s02 := hSw.1.c2
            have s03 := hSw.1.c3
            have s10 := hSw.2.c0
            have s11 := hSw.2.c1
            have s12 := hSw.2.c2
            have s13 := hSw.2.c3
            go_simp
            try with_reducible rfl
          try simp only [Act.put, List.setIfInBounds_toArray, List.set_cons_zero, List.set_cons_succ, List.getElem_toArray, List.getElem_cons_succ, List.getElem_cons_zero]
          refine wpAnyH_ready (rs := [9]) (by kernel_rfl) (by simp) ?_
          refine AllReadyH.cons rfl (fun K hK => ?_) (AllReadyH.nil)
          refine step_store_row rfl 51 (.tmp 14) (.tmp 44) rfl wv.heap.size #[.int .u64 (va : Nat), .int .u64 (vb : Nat), .int .u64 (vc : Nat), .int .u32 (vd : Nat)] rfl rfl 51 #[.int .u64 0, .int .u64 0, .int .u64 0, .int .u32 0] Xc.out (by kernel_rfl) rfl (by simp [Value.oneCell']) ?_
          have Bd := Lib.hid (below_setRow Bc.out (g := wv.heap.size) (by have := La.out; omega) #[.int .u64 (va : Nat), .int .u64 (vb : Nat), .int .u64 (vc : Nat), .int .u32 (vd : Nat)])
          have Pd := Lib.hid (Pc.out.row LaP.out #[.int .u64 (va : Nat), .int .u64 (vb : Nat), .int .u64 (vc : Nat), .int .u32 (vd : Nat)])
          have Qd := Lib.hid (Qc.out.row LaQ.out #[.int .u64 (va : Nat), .int .u64 (vb : Nat), .int .u64 (vc : Nat), .int .u32 (vd : Nat)])
          have Ad := Lib.hid (Ac.out.row LaA.out #[.int .u64 (va : Nat), .int .u64 (vb : Nat), .int .u64 (vc : Nat), .int .u32 (vd : Nat)])
          have Xd := Lib.hid (Xc.out.rows (.int .u64 (va : Nat)) (.int .u64 (vb : Nat)) (.int .u64 (vc : Nat)) (.int .u32 (vd : Nat)))
          refine hK.out _ _ ⟨Pd.out, Ad.out⟩ (fun hHd => ?_)
          clear hK K
          try simp only [Act.put, List.setIfInBounds_toArray, List.set_cons_zero, List.set_cons_succ, List.getElem_toArray, List.getElem_cons_succ, List.getElem_cons_zero]
          refine wpAnyH_take (i := 10) (v := ?_) rfl (by kernel_rfl) (by kernel_rfl) (by kernel_rfl) (fun _ _ _ h => h) (Or.inl ⟨by kernel_rfl, ?_⟩) (by assumption) ?_
          rotate_left
          · intro ww hSw
            have s00 := hSw.1.c0
            have s01 := hSw.1.c1
            have s02 := hSw.1.c2
            have s03 := hSw.1.c3
            have s10 := hSw.2.c0
            have s11 := hSw.2.c1
            have s12 := hSw.2.c2
            have s13 := hSw.2.c3
            go_simp
            try with_reducible rfl
          try simp only [Act.put, List.setIfInBounds_toArray, List.set_cons_zero, List.set_cons_succ, List.getElem_toArray, List.getElem_cons_succ, List.getElem_cons_zero]
          refine wpAnyH_done (by kernel_rfl) ?_ _
          go_wp2_with fail
          go_meet
          exact ⟨_, rfl, rfl, Bd, Pd, Qd, Xd, La⟩
      case rest =>
        obtain ⟨g14, rfl, rfl, B3, P3, Q3, N3, L3⟩ := hcut
        generalize wc = w3 at *
        clear B2 P2 Q2 A2 B1 P1 Q1 HPW HRW
        have d0 := Q3.out.c0
        have f0 := frozen_of_row _ _ 0 _ _ Q3.out
        go_upto_region 8 with fail
        have B4 := Lib.hid (B3.out.setCell (p := ⟨w.heap.size + 1, 0, none⟩) (by simp) (.int .u8 7))
        have P4 : Hid (Four (w3.setCell ⟨w.heap.size + 1, 0, none⟩ (.int .u8 7)) w.heap.size 51 (.int .u64 (va : Nat)) (.int .u64 (vb : Nat)) (.int .u64 (vc : Nat)) (.int .u32 (vd : Nat))) := (heap_setCell_other _ _ _ _ (by simp)).trans P3.out
        have Q4 : Hid (Four (w3.setCell ⟨w.heap.size + 1, 0, none⟩ (.int .u8 7)) (w.heap.size + 1) 53 (.int .u8 7) (.int .i32 x) (.int .i32 y) (.int .i32 z)) := heap_setCell_same _ _ 0 _ _ _ Q3.out
        have N4 : Hid (Four (w3.setCell ⟨w.heap.size + 1, 0, none⟩ (.int .u8 7)) g14 51 (.int .u64 (va : Nat)) (.int .u64 (vb : Nat)) (.int .u64 (vc : Nat)) (.int .u32 (vd : Nat))) := (heap_setCell_other _ _ _ _ (by have := L3.out; show g14 ≠ w.heap.size + 1; omega)).trans N3.out
        clear d0 f0 B3 P3 Q3 N3
        generalize w3.setCell ⟨w.heap.size + 1, 0, none⟩ (.int .u8 7) = w4 at *
        have q04 := Q4.out.c0
        have q14 := Q4.out.c1
        have q24 := Q4.out.c2
        have q34 := Q4.out.c3
        go_wp2_with fail
        refine (HPSf.out _).mono ?_; rintro e wa ⟨rfl, ha⟩
        have Ba := Lib.hid (below_then B4.out ha)
        have Pa := Lib.hid (P4.out.next ha)
        have Qa := Lib.hid (Q4.out.next ha)
        have Na := Lib.hid (N4.out.next ha)
        clear ha
        go_wp2_with fail
        refine (HRSf.out _).mono ?_; rintro e wb ⟨rfl, hb⟩
        have Bb := Lib.hid (below_then Ba.out hb)
        have Pb := Lib.hid (Pa.out.next hb)
        have Qb := Lib.hid (Qa.out.next hb)
        have Nb := Lib.hid (Na.out.next hb)
        clear hb
        have B5 := Lib.hid (Bb.out.alloc Bb.out.size (.cells #[.int .u8 7, .int .i32 x, .int .i32 y, .int .i32 z] 53))
        have P5 := Lib.hid (Pb.out.al (.cells #[.int .u8 7, .int .i32 x, .int .i32 y, .int .i32 z] 53))
        have Q5 := Lib.hid (Qb.out.al (.cells #[.int .u8 7, .int .i32 x, .int .i32 y, .int .i32 z] 53))
        have N5 := Lib.hid (Nb.out.al (.cells #[.int .u8 7, .int .i32 x, .int .i32 y, .int .i32 z] 53))
        have M5 := Lib.hid (Four.new (T := 53) (a := .int .u8 7) (b := .int .i32 x) (c := .int .i32 y) (d := .int .i32 z) wb)
        have q05 := Q5.out.c0
        have q15 := Q5.out.c1
        have q25 := Q5.out.c2
        have q35 := Q5.out.c3
        go_wp2_with fail
        generalize hgb : wb.heap.size = g16 at *
        clear hgb
        generalize wb.alloc (.cells #[.int .u8 7, .int .i32 x, .int .i32 y, .int .i32 z] 53) = w5 at *
        refine (HPSt.out _).mono ?_; rintro e wc ⟨rfl, hc⟩
        have Bc := Lib.hid (below_then B5.out hc)
        have Pc := Lib.hid (P5.out.next hc)
        have Qc := Lib.hid (Q5.out.next hc)
        have Nc := Lib.hid (N5.out.next hc)
        have Mc := Lib.hid (M5.out.next hc)
        clear hc
        go_wp2_with fail
        refine (HRSt.out _).mono ?_; rintro e wd ⟨rfl, hd⟩
        have Bd := Lib.hid (below_then Bc.out hd)
        have Pd := Lib.hid (Pc.out.next hd)
        have Qd := Lib.hid (Qc.out.next hd)
        have Nd := Lib.hid (Nc.out.next hd)
        have Md := Lib.hid (Mc.out.next hd)
        clear hd
        have B6 := Lib.hid (Bd.out.alloc Bd.out.size (.cells #[.int .u8 7, .int .i32 x, .int .i32 0, .int .i32 0] 53))
        have P6 := Lib.hid (Pd.out.al (.cells #[.int .u8 7, .int .i32 x, .int .i32 0, .int .i32 0] 53))
        have Q6 := Lib.hid (Qd.out.al (.cells #[.int .u8 7, .int .i32 x, .int .i32 0, .int .i32 0] 53))
        have N6 := Lib.hid (Nd.out.al (.cells #[.int .u8 7, .int .i32 x, .int .i32 0, .int .i32 0] 53))
        have M6 := Lib.hid (Md.out.al (.cells #[.int .u8 7, .int .i32 x, .int .i32 0, .int .i32 0] 53))
        have O6 := Lib.hid (Four.new (T := 53) (a := .int .u8 7) (b := .int .i32 x) (c := .int .i32 0) (d := .int .i32 0) wd)
        go_wp2_with fail
        generalize hgd : wd.heap.size = g18 at *
        clear hgd
        generalize wd.alloc (.cells #[.int .u8 7, .int .i32 x, .int .i32 0, .int .i32 0] 53) = w6 at *
        cases sb with
        | true => as_aux_lemma =>
          rw [if_pos rfl] at HRP
          refine (HPO.out _).mono ?_; rintro e w7 ⟨rfl, h7⟩
          have B7 := Lib.hid (below_then B6.out h7)
          have P7 := Lib.hid (P6.out.next h7)
          have Q7 := Lib.hid (Q6.out.next h7)
          have N7 := Lib.hid (N6.out.next h7)
          have M7 := Lib.hid (M6.out.next h7)
          have O7 := Lib.hid (O6.out.next h7)
          clear h7
          go_wp2_with fail
          refine (HRO.out _).mono ?_; rintro e w8 ⟨rfl, h8⟩
          have B8 := Lib.hid (below_then B7.out h8)
          have P8 := Lib.hid (P7.out.next h8)
          have Q8 := Lib.hid (Q7.out.next h8)
          have N8 := Lib.hid (N7.out.next h8)
          have M8 := Lib.hid (M7.out.next h8)
          have O8 := Lib.hid (O7.out.next h8)
          clear h8
          go_wp2_with fail
          refine (HPP.out _).mono ?_; rintro e w9 ⟨rfl, h9⟩
          have B9 := Lib.hid (below_then B8.out h9)
          have P9 := Lib.hid (P8.out.next h9)
          have Q9 := Lib.hid (Q8.out.next h9)
          have N9 := Lib.hid (N8.out.next h9)
          have M9 := Lib.hid (M8.out.next h9)
          have O9 := Lib.hid (O8.out.next h9)
          clear h9
          go_wp2_with fail
          refine (HRP.out _).mono ?_; rintro e wx ⟨rfl, hx⟩
          have Bx := Lib.hid (below_then B9.out hx)
          have Px := P9.out.next hx
          have Qx := Q9.out.next hx
          have Nx := N9.out.next hx
          have Mx := M9.out.next hx
          have Ox := O9.out.next hx
          have px0 := Px.c0
          have px1 := Px.c1
          have px2 := Px.c2
          have px3 := Px.c3
          have qx0 := Qx.c0
          have qx1 := Qx.c1
          have qx2 := Qx.c2
          have qx3 := Qx.c3
          have nx0 := Nx.c0
          have nx1 := Nx.c1
          have nx2 := Nx.c2
          have nx3 := Nx.c3
          have mx0 := Mx.c0
          have mx1 := Mx.c1
          have mx2 := Mx.c2
          have mx3 := Mx.c3
          have ox0 := Ox.c0
          have ox1 := Ox.c1
          have ox2 := Ox.c2
          have ox3 := Ox.c3
          clear hx Px Qx Nx Mx Ox
          go_wp2_with fail
          refine (HST.out _).mono ?_; rintro e wy ⟨rfl, rfl⟩
          go_wp2_with fail
          all_goals
            go_ret
            exact ⟨rfl, Bx.out⟩
        | false => as_aux_lemma =>
          rw [if_neg (by simp)] at HRP
          refine (HPO.out _).mono ?_; rintro e w7 ⟨rfl, h7⟩
          have B7 := Lib.hid (below_then B6.out h7)
          have P7 := Lib.hid (P6.out.next h7)
          have Q7 := Lib.hid (Q6.out.next h7)
          have N7 := Lib.hid (N6.out.next h7)
          have M7 := Lib.hid (M6.out.next h7)
          have O7 := Lib.hid (O6.out.next h7)
          clear h7
          go_wp2_with fail
          refine (HRO.out _).mono ?_; rintro e w8 ⟨rfl, h8⟩
          have B8 := Lib.hid (below_then B7.out h8)
          have P8 := Lib.hid (P7.out.next h8)
          have Q8 := Lib.hid (Q7.out.next h8)
          have N8 := Lib.hid (N7.out.next h8)
          have M8 := Lib.hid (M7.out.next h8)
          have O8 := Lib.hid (O7.out.next h8)
          clear h8
          go_wp2_with fail
          refine (HPP.out _).mono ?_; rintro e w9 ⟨rfl, h9⟩
          have B9 := Lib.hid (below_then B8.out h9)
          have P9 := Lib.hid (P8.out.next h9)
          have Q9 := Lib.hid (Q8.out.next h9)
          have N9 := Lib.hid (N8.out.next h9)
          have M9 := Lib.hid (M8.out.next h9)
          have O9 := Lib.hid (O8.out.next h9)
          clear h9
          go_wp2_with fail
          refine (HRP.out _).mono ?_; rintro e wx ⟨rfl, hx⟩
          have Bx := Lib.hid (below_then B9.out hx)
          have Px := P9.out.next hx
          have Qx := Q9.out.next hx
          have Nx := N9.out.next hx
          have Mx := M9.out.next hx
          have Ox := O9.out.next hx
          have px0 := Px.c0
          have px1 := Px.c1
          have px2 := Px.c2
          have px3 := Px.c3
          have qx0 := Qx.c0
          have qx1 := Qx.c1
          have qx2 := Qx.c2
          have qx3 := Qx.c3
          have nx0 := Nx.c0
          have nx1 := Nx.c1
          have nx2 := Nx.c2
          have nx3 := Nx.c3
          have mx0 := Mx.c0
          have mx1 := Mx.c1
          have mx2 := Mx.c2
          have mx3 := Mx.c3
          have ox0 := Ox.c0
          have ox1 := Ox.c1
          have ox2 := Ox.c2
          have ox3 := Ox.c3
          clear hx Px Qx Nx Mx Ox
          go_wp2_with fail
          refine (HST.out _).mono ?_; rintro e wy ⟨rfl, rfl⟩
          go_wp2_with fail
          all_goals
            go_ret
            exact ⟨rfl, Bx.out⟩
end Go.Proofs.YtmhalkkfpbkafaaDoor
