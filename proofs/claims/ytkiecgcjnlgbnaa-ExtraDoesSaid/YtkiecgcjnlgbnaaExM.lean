/-
  Contract: Put.
-/
import Derived.Test.YtkiecgcjnlgbnaaExL
import Derived.Deep.RegionHeld3
namespace Go.Proofs.Ytkiecgcjnlgbnaa
set_option maxRecDepth 100000
set_option linter.unusedSimpArgs false
open Go.RowKit Go.Joins Go.Deep

theorem cell_al {w : World} {p : Addr} {u : Value} {o : Obj} (h : w.cell? p = some u) : (w.alloc o).cell? p = some u := by
  have hlt := block_lt_of_cell h
  exact (((Below.refl w.heap.size w).alloc (Nat.le_refl _) o).cell hlt).trans h
theorem heap_alloc2_at (w : World) (o : Obj) (c : Array Value) {T : TypeId} : ((w.alloc o).alloc (.cells c T)).heap[w.heap.size + 1]? = some (.cells c T (0, 0)) := by
  have h := heap_alloc_new (w.alloc o) (.cells c T)
  rw [show (w.alloc o).heap.size = w.heap.size + 1 by simp] at h
  exact h
/-- The cells of a boxed field. -/
def SC (gf fid : Nat) (fd : ByteArray) (w : World) : Prop := w.cell? ⟨gf, 0, none⟩ = some (.int .u16 (fid : Nat)) ∧ w.cell? ⟨gf, 1, none⟩ = some (.string fd)
/-- What stands behind Without, called in a. -/
structure StW (w1 a : World) (fid : Nat) (A2 : Option Addr) (c2 : Nat) (r : List Fd) (b : World) : Prop where
  fds : Fds b A2 (woL r [fid])
  nil : Nil0 A2 (woL r [fid]).length c2
  bel : Below w1.heap.size w1 b
  keep : ∀ (y : Nat) (o : Obj), a.heap[y]? = some o → b.heap[y]? = some o
theorem wo_step (w1 a : World) (x gf fid : Nat) (fd : ByteArray) (Ad : Option Addr) (n c : Nat) (r : List Fd) (hn : n = r.length) (hr : r.length ≤ 100000) (hF : Fds w1 Ad r) (hgf : gf < w1.heap.size) (h0 : w1.cell? ⟨gf, 0, none⟩ = some (.int .u16 (fid : Nat))) (h1 : w1.cell? ⟨gf, 1, none⟩ = some (.string fd)) (hb : Below w1.heap.size w1 a) (hid : a.heap[x]? = some (.cells #[.int .u16 (fid : Nat)] 36 (0, 0))) :
    Calls Try.prog 17 #[.slice Ad n c, .slice (some ⟨x, 0, none⟩) 1 1] a fun e b => ∃ A2 c2, e = .returned (.slice A2 (woL r [fid]).length c2) ∧ (b.cell? ⟨gf, 0, none⟩ = some (.int .u16 (fid : Nat)) ∧ b.cell? ⟨gf, 1, none⟩ = some (.string fd)) ∧ StW w1 a fid A2 c2 r b := by
  subst hn
  have hI : Ids a (some ⟨x, 0, none⟩) [fid] := fun _ => ⟨x, 0, rfl, lt_of_heapE hid, fun i hi => by
    simp at hi
    subst hi
    rw [Nat.zero_add, cell_of_row _ _ 0 _ _ _ hid]
    rfl⟩
  refine (without_any Ad _ c 1 r [fid] a (hF.below (Nat.le_refl _) hb) hI hr (by simp)).mono fun e b ⟨A2, c2, he, hf, hn, hk⟩ => ?_
  have hkb : Below w1.heap.size w1 b := below_then hb hk
  exact ⟨A2, c2, he, ⟨(hkb.cell (p := ⟨gf, 0, none⟩) hgf).trans h0, (hkb.cell (p := ⟨gf, 1, none⟩) hgf).trans h1⟩, hf, hn, hkb, fun y o hy => (hk.block _ (lt_of_heapE hy)).trans hy⟩
/-- What stands behind Concat. -/
structure StC (w1 : World) (A3 : Option Addr) (c3 n3 : Nat) (pl : List Fd) (b : World) : Prop where
  len : n3 = pl.length
  fds : Fds b A3 pl
  nil : Nil0 A3 pl.length c3
  bel : Below w1.heap.size w1 b
theorem co_step (w1 b : World) (g : Nat) (hg : g = b.heap.size) (y gf fid : Nat) (fd : ByteArray) (A A2 : Option Addr) (m cap n2 c2 : Nat) (l1 r : List Fd) (hm : m = l1.length) (hn2 : n2 = (woL r [fid]).length) (hF1 : Fds w1 A l1) (hN1 : Nil0 A l1.length cap) (ht : l1.length + r.length ≤ 10000) (hgf : gf < w1.heap.size) (h0 : w1.cell? ⟨gf, 0, none⟩ = some (.int .u16 (fid : Nat))) (h1 : w1.cell? ⟨gf, 1, none⟩ = some (.string fd)) (hff : Fds b A2 (woL r [fid])) (hfn : Nil0 A2 (woL r [fid]).length c2) (hfb : Below w1.heap.size w1 b) (hfx : b.heap[y]? = some (.cells #[.int .u16 (fid : Nat), .string fd] 38 (0, 0))) :
    Calls Try.prog 34 #[.slice (some ⟨g, 0, none⟩) 3 3] (b.alloc (.cells #[.slice A m cap, .slice (some ⟨y, 0, none⟩) 1 1, .slice A2 n2 c2] 22)) fun e w' => ∃ A3 c3 n3, e = .returned (.slice A3 n3 c3) ∧ StC w1 A3 c3 n3 (l1 ++ ([(⟨fid, fd⟩ : Fd)] ++ woL r [fid])) w' ∧ (w'.cell? ⟨gf, 0, none⟩ = some (.int .u16 (fid : Nat)) ∧ w'.cell? ⟨gf, 1, none⟩ = some (.string fd)) := by
  subst hm hn2 hg
  have hba := (Below.refl b.heap.size b).alloc (Nat.le_refl _) (.cells #[.slice A l1.length cap, .slice (some ⟨y, 0, none⟩) 1 1, .slice A2 (woL r [fid]).length c2] 22)
  have hx := heap_alloc_new b (.cells #[.slice A l1.length cap, .slice (some ⟨y, 0, none⟩) 1 1, .slice A2 (woL r [fid]).length c2] 22)
  generalize b.alloc (.cells #[.slice A l1.length cap, .slice (some ⟨y, 0, none⟩) 1 1, .slice A2 (woL r [fid]).length c2] 22) = a at *
  have hb1 := below_then hfb hba
  have hbx := (hba.block _ (lt_of_heapE hfx)).trans hfx
  have hF : Fds a (some ⟨y, 0, none⟩) [⟨fid, fd⟩] := fun _ => ⟨y, 0, rfl, lt_of_heapE hbx, fun i hi => by
    simp at hi
    subst hi
    constructor
    · rw [cell_of_row _ _ _ _ _ _ hbx]; rfl
    · rw [cell_of_row _ _ _ _ _ _ hbx]; rfl⟩
  have hj : joinF (fun i => if i = 0 then l1 else if i = 1 then [⟨fid, fd⟩] else woL r [fid]) 3 = l1 ++ ([⟨fid, fd⟩] ++ woL r [fid]) := by
    simp [joinF]
  have hwl : (woL r [fid]).length ≤ r.length := List.length_filter_le _ _
  have hc := concat13_any b.heap.size 3 (fun i => if i = 0 then A else if i = 1 then some ⟨y, 0, none⟩ else A2) (fun i => if i = 0 then cap else if i = 1 then 1 else c2) (fun i => if i = 0 then l1 else if i = 1 then [⟨fid, fd⟩] else woL r [fid]) (by omega) (by rw [hj]; simp; omega) (by rw [hj]; simp; omega) a (lt_of_heapE hx)
    (fun i hi => by
      have : i = 0 ∨ i = 1 ∨ i = 2 := by omega
      rcases this with rfl | rfl | rfl
      · rw [cell_of_row _ _ 0 _ _ _ hx]; rfl
      · rw [cell_of_row _ _ 1 _ _ _ hx]; rfl
      · rw [cell_of_row _ _ 2 _ _ _ hx]; rfl)
    (fun i hi => by
      have : i = 0 ∨ i = 1 ∨ i = 2 := by omega
      rcases this with rfl | rfl | rfl
      · exact hF1.below (Nat.le_refl _) hb1
      · exact hF
      · exact hff.below (Nat.le_refl _) hba)
    (fun i hi => by
      have : i = 0 ∨ i = 1 ∨ i = 2 := by omega
      rcases this with rfl | rfl | rfl
      · exact hN1
      · exact fun e => by cases e
      · exact hfn)
  rw [hj] at hc
  exact hc.mono fun e b2 ⟨A3, c3, he, hf, hn, hk⟩ => ⟨A3, c3, _, he, ⟨rfl, hf, hn, below_then hb1 hk⟩, ((below_then hb1 hk).cell (p := ⟨gf, 0, none⟩) hgf).trans h0, ((below_then hb1 hk).cell (p := ⟨gf, 1, none⟩) hgf).trans h1⟩
set_option maxHeartbeats 8000000 in
theorem put_any (A : Option Addr) (cap : Nat) (l : List Fd) (f : Fd) (w : World) (hF : Fds w A l) (hl : l.length ≤ 10000) (hn : Nil0 A l.length cap) (hcap : l.length ≤ cap) :
    Calls Try.prog 19 #[.slice A l.length cap, .agg #[.int .u16 (f.id : Nat), .string f.d]] w fun e w' => ∃ A2 c2, e = .returned (.slice A2 (putL l f).length c2) ∧ Fds w' A2 (putL l f) ∧ Nil0 A2 (putL l f).length c2 ∧ Below w.heap.size w w' := by
  have hit := info_fd2
  obtain ⟨d0, d1⟩ := fd_box f w
  have hb := (Below.refl w.heap.size w).alloc (Nat.le_refl _) (.cells #[.int .u16 (f.id : Nat), .string f.d] 38)
  have HP := Lib.hid (place_any A cap l f.id _ (hF.below (Nat.le_refl _) hb) (by omega))
  have HF := Lib.hid hF
  have HB := Lib.hid hb
  have HX := Lib.hid (heap_alloc_new w (.cells #[.int .u16 (f.id : Nat), .string f.d] 38))
  have hle := fx_le f.id l
  have hpu : putL l f = l.take (fx f.id l) ++ ([f] ++ woL (l.drop (fx f.id l)) [f.id]) := rfl
  obtain ⟨fid, fd⟩ := f
  dsimp only at *
  clear hF hb
  have HPU := Lib.hid hpu
  clear hpu
  generalize fx fid l = m at *
  generalize hpl : putL l ⟨fid, fd⟩ = pl at HPU
  have HPL := Lib.hid hpl
  clear hpl
  go_enter Try.func19, Try.ntmps19
  go_wp2_with fail
  refine (HP.out).mono ?_
  rintro e w1 ⟨rfl, hb1⟩
  have hx1 := (hb1.block _ (lt_of_heapE HX.out)).trans HX.out
  have HB1 := Lib.hid (below_then HB.out hb1)
  have HF1 := Lib.hid (HF.out.below (Nat.le_refl _) HB1.out)
  have x0 : w1.cell? ⟨w.heap.size, 0, none⟩ = some (.int .u16 (fid : Nat)) := by rw [cell_of_row _ _ 0 _ _ _ hx1]; rfl
  have x1 : w1.cell? ⟨w.heap.size, 1, none⟩ = some (.string fd) := by rw [cell_of_row _ _ 1 _ _ _ hx1]; rfl
  have HX1 := Lib.hid hx1
  have i1 : (0 : Int) ≤ (m : Int) := by omega
  have i2 : (m : Int) ≤ (l.length : Int) := by omega
  have i3 : (l.length : Int) ≤ (cap : Int) := by omega
  have i4 : (m : Int) ≤ (cap : Int) := by omega
  clear hx1 hb1 d0 d1 HP HX
  have hml : m = (l.take m).length := by rw [List.length_take]; omega
  have hdl : l.length - m = (l.drop m).length := by rw [List.length_drop]
  have HTK : Hid (Fds w1.drew A (l.take m)) := HF1.out.take m
  have HLT : Hid (w.heap.size < w1.heap.size) := lt_of_heapE HX1.out
  have HLEN : Hid ((l.take m).length + (l.drop m).length ≤ 10000) := by show _ ≤ _; rw [← hml, ← hdl]; omega
  have HDR : Hid ((l.drop m).length ≤ 100000) := by show _ ≤ _; rw [← hdl]; omega
  have HML := Lib.hid hml
  have HDL := Lib.hid hdl
  clear hml hdl
  have HBv := Lib.hid HB1.out.drew
  have HFv : Hid (Fds w1.drew A l) := HF1.out
  have HLTv : Hid (w.heap.size < w1.drew.heap.size) := HLT.out
  have BC := Lib.hid ((Below.refl w1.drew.heap.size w1.drew).alloc (Nat.le_refl _) (.cells #[.int .u16 (fid : Nat)] 36))
  have BA := Lib.hid (((Below.refl w1.drew.heap.size w1.drew).alloc (Nat.le_refl _) (.cells #[.int .u16 (fid : Nat), .string fd] 38)).alloc (by simp) (.cells #[.int .u16 (fid : Nat)] 36))
  have BB := Lib.hid (((Below.refl w1.drew.heap.size w1.drew).alloc (Nat.le_refl _) (.cells #[.int .u16 (fid : Nat)] 36)).alloc (by simp) (.cells #[.int .u16 (fid : Nat), .string fd] 38))
  have IC : Hid ((w1.drew.alloc (.cells #[.int .u16 (fid : Nat)] 36)).heap[w1.drew.heap.size]? = some (.cells #[.int .u16 (fid : Nat)] 36 (0, 0))) := heap_alloc_new w1.drew _
  have IA : Hid (((w1.drew.alloc (.cells #[.int .u16 (fid : Nat), .string fd] 38)).alloc (.cells #[.int .u16 (fid : Nat)] 36)).heap[w1.drew.heap.size + 1]? = some (.cells #[.int .u16 (fid : Nat)] 36 (0, 0))) := heap_alloc2_at w1.drew _ _
  have IB : Hid (((w1.drew.alloc (.cells #[.int .u16 (fid : Nat)] 36)).alloc (.cells #[.int .u16 (fid : Nat), .string fd] 38)).heap[w1.drew.heap.size]? = some (.cells #[.int .u16 (fid : Nat)] 36 (0, 0))) := (Below.heap_alloc _ _ _ (by simp)).trans (heap_alloc_new w1.drew _)
  have FA : Hid (((w1.drew.alloc (.cells #[.int .u16 (fid : Nat), .string fd] 38)).alloc (.cells #[.int .u16 (fid : Nat)] 36)).heap[w1.drew.heap.size]? = some (.cells #[.int .u16 (fid : Nat), .string fd] 38 (0, 0))) := (Below.heap_alloc _ _ _ (by simp)).trans (heap_alloc_new w1.drew _)
  have FB : Hid (((w1.drew.alloc (.cells #[.int .u16 (fid : Nat)] 36)).alloc (.cells #[.int .u16 (fid : Nat), .string fd] 38)).heap[w1.drew.heap.size + 1]? = some (.cells #[.int .u16 (fid : Nat), .string fd] 38 (0, 0))) := heap_alloc2_at w1.drew _ _
  cases A with
  | none =>
    obtain ⟨hl0, hc0⟩ := hn rfl
    obtain rfl : l = [] := List.eq_nil_of_length_eq_zero hl0
    subst hc0
    obtain rfl : m = 0 := by simpa using hle
    have HN1 : Hid (Nil0 none ([] : List Fd).length 0) := fun _ => ⟨rfl, rfl⟩
    have HCO := Lib.hid (fun b g hg y A2 c2 h1 h2 h3 h4 => co_step w1.drew b g hg y w.heap.size fid fd none A2 0 0 _ c2 [] [] rfl rfl (Fds.nil _ _) HN1.out (by simp) HLTv.out x0 x1 h1 h2 h3 h4)
    have HWO := Lib.hid (fun a x h1 h2 => wo_step w1.drew a x w.heap.size fid fd none 0 0 [] rfl (by simp) (Fds.nil _ _) HLTv.out x0 x1 h1 h2)
    go_upto_region 2 with fail
    refine wp_region_held_drew (S := (fun ww => ww.cell? ⟨w.heap.size, 0, none⟩ = some (.int .u16 (fid : Nat)) ∧ ww.cell? ⟨w.heap.size, 1, none⟩ = some (.string fd))) (by kernel_rfl) ⟨x0, x1⟩ (fun hH1 => ?_)
    have k0 := hH1.1
    have k1 := hH1.2
    generalize w1.drew = v at *
    refine wpAnyH_take (i := 0) (v := ?_) rfl (by kernel_rfl) (by kernel_rfl) (by kernel_rfl) (fun _ _ _ h => h) (Or.inl ⟨by kernel_rfl, ?_⟩) (by assumption) ?_
    rotate_left
    · intro ww hSw
      obtain ⟨s0, s1⟩ := hSw
      go_simp
      try with_reducible rfl
    try simp only [Act.put, List.setIfInBounds_toArray, List.set_cons_zero, List.set_cons_succ, List.getElem_toArray, List.getElem_cons_succ, List.getElem_cons_zero]
    refine wpAnyH_take (i := 1) (v := ?_) rfl (by kernel_rfl) (by kernel_rfl) (by kernel_rfl) (fun _ _ _ h => h) (Or.inl ⟨by kernel_rfl, ?_⟩) (by assumption) ?_
    rotate_left
    · intro ww hSw
      obtain ⟨s0, s1⟩ := hSw
      go_simp
      try with_reducible rfl
    try simp only [Act.put, List.setIfInBounds_toArray, List.set_cons_zero, List.set_cons_succ, List.getElem_toArray, List.getElem_cons_succ, List.getElem_cons_zero]
    refine wpAnyH_take (i := 2) (v := ?_) rfl (by kernel_rfl) (by kernel_rfl) (by kernel_rfl) (fun _ _ _ h => h) (Or.inl ⟨by kernel_rfl, ?_⟩) (by assumption) ?_
    rotate_left
    · intro ww hSw
      obtain ⟨s0, s1⟩ := hSw
      go_simp
      try with_reducible rfl
    try simp only [Act.put, List.setIfInBounds_toArray, List.set_cons_zero, List.set_cons_succ, List.getElem_toArray, List.getElem_cons_succ, List.getElem_cons_zero]
    refine wpAnyH_take (i := 3) (v := ?_) rfl (by kernel_rfl) (by kernel_rfl) (by kernel_rfl) (fun _ _ _ h => h) (Or.inl ⟨by kernel_rfl, ?_⟩) (by assumption) ?_
    rotate_left
    · intro ww hSw
      obtain ⟨s0, s1⟩ := hSw
      go_simp
      try with_reducible rfl
    try simp only [Act.put, List.setIfInBounds_toArray, List.set_cons_zero, List.set_cons_succ, List.getElem_toArray, List.getElem_cons_succ, List.getElem_cons_zero]
    refine wpAnyH_take (i := 5) (v := ?_) rfl (by kernel_rfl) (by kernel_rfl) (by kernel_rfl) (fun _ _ _ h => h) (Or.inl ⟨by kernel_rfl, ?_⟩) (by assumption) ?_
    rotate_left
    · intro ww hSw
      obtain ⟨s0, s1⟩ := hSw
      go_simp
      try with_reducible rfl
    try simp only [Act.put, List.setIfInBounds_toArray, List.set_cons_zero, List.set_cons_succ, List.getElem_toArray, List.getElem_cons_succ, List.getElem_cons_zero]
    refine wpAnyH_take (i := 6) (v := ?_) rfl (by kernel_rfl) (by kernel_rfl) (by kernel_rfl) (fun _ _ _ h => h) (Or.inl ⟨by kernel_rfl, ?_⟩) (by assumption) ?_
    rotate_left
    · intro ww hSw
      obtain ⟨s0, s1⟩ := hSw
      go_simp
      try with_reducible rfl
    try simp only [Act.put, List.setIfInBounds_toArray, List.set_cons_zero, List.set_cons_succ, List.getElem_toArray, List.getElem_cons_succ, List.getElem_cons_zero]
    refine wpAnyH_take (i := 7) (v := ?_) rfl (by kernel_rfl) (by kernel_rfl) (by kernel_rfl) (fun _ _ _ h => h) (Or.inl ⟨by kernel_rfl, ?_⟩) (by assumption) ?_
    rotate_left
    · intro ww hSw
      obtain ⟨s0, s1⟩ := hSw
      go_simp
      try with_reducible rfl
    try simp only [Act.put, List.setIfInBounds_toArray, List.set_cons_zero, List.set_cons_succ, List.getElem_toArray, List.getElem_cons_succ, List.getElem_cons_zero]
    refine wpAnyH_take (i := 8) (v := ?_) rfl (by kernel_rfl) (by kernel_rfl) (by kernel_rfl) (fun _ _ _ h => h) (Or.inl ⟨by kernel_rfl, ?_⟩) (by assumption) ?_
    rotate_left
    · intro ww hSw
      obtain ⟨s0, s1⟩ := hSw
      go_simp
      try with_reducible rfl
    try simp only [Act.put, List.setIfInBounds_toArray, List.set_cons_zero, List.set_cons_succ, List.getElem_toArray, List.getElem_cons_succ, List.getElem_cons_zero]
    refine wpAnyH_take (i := 9) (v := ?_) rfl (by kernel_rfl) (by kernel_rfl) (by kernel_rfl) (fun _ _ _ h => h) (Or.inl ⟨by kernel_rfl, ?_⟩) (by assumption) ?_
    rotate_left
    · intro ww hSw
      obtain ⟨s0, s1⟩ := hSw
      go_simp
      try with_reducible rfl
    try simp only [Act.put, List.setIfInBounds_toArray, List.set_cons_zero, List.set_cons_succ, List.getElem_toArray, List.getElem_cons_succ, List.getElem_cons_zero]
    refine wpAnyH_ready (rs := [4, 10]) (by kernel_rfl) (by simp) ?_
    refine AllReadyH.cons rfl (fun K hK => ?_) (AllReadyH.cons rfl (fun K hK => ?_) (AllReadyH.nil))
    · go_simp
      refine hK.out _ _ (by first | exact ⟨k0.alloc _, k1.alloc _⟩ | exact ⟨cell_al k0, cell_al k1⟩) (fun hH2 => ?_)
      clear hK K
      have k0 := hH2.1
      have k1 := hH2.2
      try simp only [Act.put, List.setIfInBounds_toArray, List.set_cons_zero, List.set_cons_succ, List.getElem_toArray, List.getElem_cons_succ, List.getElem_cons_zero]
      refine wpAnyH_ready (rs := [10]) (by kernel_rfl) (by simp) ?_
      refine AllReadyH.cons rfl (fun K hK => ?_) (AllReadyH.nil)
      go_simp
      refine hK.out _ _ (by first | exact ⟨k0.alloc _, k1.alloc _⟩ | exact ⟨cell_al k0, cell_al k1⟩) (fun hH2 => ?_)
      clear hK K
      have k0 := hH2.1
      have k1 := hH2.2
      try simp only [Act.put, List.setIfInBounds_toArray, List.set_cons_zero, List.set_cons_succ, List.getElem_toArray, List.getElem_cons_succ, List.getElem_cons_zero]
      refine wpAnyH_ready (rs := [11]) (by kernel_rfl) (by simp) ?_
      refine AllReadyH.cons rfl (fun K hK => ?_) (AllReadyH.nil)
      go_simp
      refine (HWO.out _ _ BA.out IA.out).mono ?_
      rintro e wy ⟨A2, c2, rfl, ⟨n0, n1⟩, nst⟩
      refine hK.out _ _ ⟨n0, n1⟩ (fun hH3 => ?_)
      clear hK K
      have HST := Lib.hid nst
      clear nst
      try simp only [Act.put, List.setIfInBounds_toArray, List.set_cons_zero, List.set_cons_succ, List.getElem_toArray, List.getElem_cons_succ, List.getElem_cons_zero]
      refine wpAnyH_ready (rs := [12]) (by kernel_rfl) (by simp) ?_
      refine AllReadyH.cons rfl (fun K hK => ?_) (AllReadyH.nil)
      go_simp
      refine hK.out _ _ ⟨cell_al n0, cell_al n1⟩ (fun hH5 => ?_)
      clear hK K
      try simp only [Act.put, List.setIfInBounds_toArray, List.set_cons_zero, List.set_cons_succ, List.getElem_toArray, List.getElem_cons_succ, List.getElem_cons_zero]
      refine wpAnyH_ready (rs := [13]) (by kernel_rfl) (by simp) ?_
      refine AllReadyH.cons rfl (fun K hK => ?_) (AllReadyH.nil)
      go_simp
      refine (HCO.out _ _ (by first | rfl | simp) _ _ _ HST.out.fds HST.out.nil HST.out.bel (HST.out.keep _ _ FA.out)).mono ?_
      rintro e wz ⟨A3, c3, n3, rfl, nsc, ⟨m0, m1⟩⟩
      refine hK.out _ _ ⟨m0, m1⟩ (fun hH4 => ?_)
      clear hK K
      have HNS := Lib.hid nsc
      clear nsc
      try simp only [Act.put, List.setIfInBounds_toArray, List.set_cons_zero, List.set_cons_succ, List.getElem_toArray, List.getElem_cons_succ, List.getElem_cons_zero]
      refine wpAnyH_take (i := 14) (v := ?_) rfl (by kernel_rfl) (by kernel_rfl) (by kernel_rfl) (fun _ _ _ h => h) (Or.inl ⟨by kernel_rfl, ?_⟩) (by assumption) ?_
      rotate_left
      · intro ww hSw
        obtain ⟨s0, s1⟩ := hSw
        go_simp
        try with_reducible rfl
      try simp only [Act.put, List.setIfInBounds_toArray, List.set_cons_zero, List.set_cons_succ, List.getElem_toArray, List.getElem_cons_succ, List.getElem_cons_zero]
      refine wpAnyH_done (by kernel_rfl) ?_ _
      have HNT : Hid (StC v A3 c3 n3 pl wz) := by
        show StC _ _ _ _ _ _
        rw [HPU.out]
        exact HNS.out
      clear HNS HCO HWO HST
      go_wp2_with fail
      go_ret
      exact ⟨A3, c3, by rw [← HNT.out.len]; rfl, HNT.out.fds, HNT.out.nil, below_then HBv.out HNT.out.bel⟩
    · go_simp
      refine hK.out _ _ (by first | exact ⟨k0.alloc _, k1.alloc _⟩ | exact ⟨cell_al k0, cell_al k1⟩) (fun hH2 => ?_)
      clear hK K
      have k0 := hH2.1
      have k1 := hH2.2
      try simp only [Act.put, List.setIfInBounds_toArray, List.set_cons_zero, List.set_cons_succ, List.getElem_toArray, List.getElem_cons_succ, List.getElem_cons_zero]
      refine wpAnyH_ready (rs := [4, 11]) (by kernel_rfl) (by simp) ?_
      refine AllReadyH.cons rfl (fun K hK => ?_) (AllReadyH.cons rfl (fun K hK => ?_) (AllReadyH.nil))
      · go_simp
        refine hK.out _ _ (by first | exact ⟨k0.alloc _, k1.alloc _⟩ | exact ⟨cell_al k0, cell_al k1⟩) (fun hH2 => ?_)
        clear hK K
        have k0 := hH2.1
        have k1 := hH2.2
        try simp only [Act.put, List.setIfInBounds_toArray, List.set_cons_zero, List.set_cons_succ, List.getElem_toArray, List.getElem_cons_succ, List.getElem_cons_zero]
        refine wpAnyH_ready (rs := [11]) (by kernel_rfl) (by simp) ?_
        refine AllReadyH.cons rfl (fun K hK => ?_) (AllReadyH.nil)
        go_simp
        refine (HWO.out _ _ BB.out IB.out).mono ?_
        rintro e wy ⟨A2, c2, rfl, ⟨n0, n1⟩, nst⟩
        refine hK.out _ _ ⟨n0, n1⟩ (fun hH3 => ?_)
        clear hK K
        have HST := Lib.hid nst
        clear nst
        try simp only [Act.put, List.setIfInBounds_toArray, List.set_cons_zero, List.set_cons_succ, List.getElem_toArray, List.getElem_cons_succ, List.getElem_cons_zero]
        refine wpAnyH_ready (rs := [12]) (by kernel_rfl) (by simp) ?_
        refine AllReadyH.cons rfl (fun K hK => ?_) (AllReadyH.nil)
        go_simp
        refine hK.out _ _ ⟨cell_al n0, cell_al n1⟩ (fun hH5 => ?_)
        clear hK K
        try simp only [Act.put, List.setIfInBounds_toArray, List.set_cons_zero, List.set_cons_succ, List.getElem_toArray, List.getElem_cons_succ, List.getElem_cons_zero]
        refine wpAnyH_ready (rs := [13]) (by kernel_rfl) (by simp) ?_
        refine AllReadyH.cons rfl (fun K hK => ?_) (AllReadyH.nil)
        go_simp
        refine (HCO.out _ _ (by first | rfl | simp) _ _ _ HST.out.fds HST.out.nil HST.out.bel (HST.out.keep _ _ FB.out)).mono ?_
        rintro e wz ⟨A3, c3, n3, rfl, nsc, ⟨m0, m1⟩⟩
        refine hK.out _ _ ⟨m0, m1⟩ (fun hH4 => ?_)
        clear hK K
        have HNS := Lib.hid nsc
        clear nsc
        try simp only [Act.put, List.setIfInBounds_toArray, List.set_cons_zero, List.set_cons_succ, List.getElem_toArray, List.getElem_cons_succ, List.getElem_cons_zero]
        refine wpAnyH_take (i := 14) (v := ?_) rfl (by kernel_rfl) (by kernel_rfl) (by kernel_rfl) (fun _ _ _ h => h) (Or.inl ⟨by kernel_rfl, ?_⟩) (by assumption) ?_
        rotate_left
        · intro ww hSw
          obtain ⟨s0, s1⟩ := hSw
          go_simp
          try with_reducible rfl
        try simp only [Act.put, List.setIfInBounds_toArray, List.set_cons_zero, List.set_cons_succ, List.getElem_toArray, List.getElem_cons_succ, List.getElem_cons_zero]
        refine wpAnyH_done (by kernel_rfl) ?_ _
        have HNT : Hid (StC v A3 c3 n3 pl wz) := by
          show StC _ _ _ _ _ _
          rw [HPU.out]
          exact HNS.out
        clear HNS HCO HWO HST
        go_wp2_with fail
        go_ret
        exact ⟨A3, c3, by rw [← HNT.out.len]; rfl, HNT.out.fds, HNT.out.nil, below_then HBv.out HNT.out.bel⟩
      · go_simp
        refine (HWO.out _ _ BC.out IC.out).mono ?_
        rintro e wy ⟨A2, c2, rfl, ⟨n0, n1⟩, nst⟩
        refine hK.out _ _ ⟨n0, n1⟩ (fun hH3 => ?_)
        clear hK K
        have HST := Lib.hid nst
        clear nst
        try simp only [Act.put, List.setIfInBounds_toArray, List.set_cons_zero, List.set_cons_succ, List.getElem_toArray, List.getElem_cons_succ, List.getElem_cons_zero]
        have C1 := Lib.hid (HST.out.fds.below (Nat.le_refl _) ((Below.refl wy.heap.size wy).alloc (Nat.le_refl _) (.cells #[.int .u16 (fid : Nat), .string fd] 38)))
        have C2 := Lib.hid (HST.out.bel.alloc HST.out.bel.size (.cells #[.int .u16 (fid : Nat), .string fd] 38))
        have C3 := Lib.hid (heap_alloc_new wy (.cells #[.int .u16 (fid : Nat), .string fd] 38))
        refine wpAnyH_ready (rs := [4]) (by kernel_rfl) (by simp) ?_
        refine AllReadyH.cons rfl (fun K hK => ?_) (AllReadyH.nil)
        go_simp
        refine hK.out _ _ ⟨cell_al n0, cell_al n1⟩ (fun hH5 => ?_)
        clear hK K
        try simp only [Act.put, List.setIfInBounds_toArray, List.set_cons_zero, List.set_cons_succ, List.getElem_toArray, List.getElem_cons_succ, List.getElem_cons_zero]
        have p0 := hH5.1
        have p1 := hH5.2
        clear hH5
        refine wpAnyH_ready (rs := [12]) (by kernel_rfl) (by simp) ?_
        refine AllReadyH.cons rfl (fun K hK => ?_) (AllReadyH.nil)
        go_simp
        refine hK.out _ _ ⟨cell_al p0, cell_al p1⟩ (fun hH6 => ?_)
        clear hK K
        try simp only [Act.put, List.setIfInBounds_toArray, List.set_cons_zero, List.set_cons_succ, List.getElem_toArray, List.getElem_cons_succ, List.getElem_cons_zero]
        refine wpAnyH_ready (rs := [13]) (by kernel_rfl) (by simp) ?_
        refine AllReadyH.cons rfl (fun K hK => ?_) (AllReadyH.nil)
        go_simp
        refine (HCO.out _ _ (by first | rfl | simp) _ _ _ C1.out HST.out.nil C2.out C3.out).mono ?_
        rintro e wz ⟨A3, c3, n3, rfl, nsc, ⟨m0, m1⟩⟩
        refine hK.out _ _ ⟨m0, m1⟩ (fun hH4 => ?_)
        clear hK K
        have HNS := Lib.hid nsc
        clear nsc
        try simp only [Act.put, List.setIfInBounds_toArray, List.set_cons_zero, List.set_cons_succ, List.getElem_toArray, List.getElem_cons_succ, List.getElem_cons_zero]
        refine wpAnyH_take (i := 14) (v := ?_) rfl (by kernel_rfl) (by kernel_rfl) (by kernel_rfl) (fun _ _ _ h => h) (Or.inl ⟨by kernel_rfl, ?_⟩) (by assumption) ?_
        rotate_left
        · intro ww hSw
          obtain ⟨s0, s1⟩ := hSw
          go_simp
          try with_reducible rfl
        try simp only [Act.put, List.setIfInBounds_toArray, List.set_cons_zero, List.set_cons_succ, List.getElem_toArray, List.getElem_cons_succ, List.getElem_cons_zero]
        refine wpAnyH_done (by kernel_rfl) ?_ _
        have HNT : Hid (StC v A3 c3 n3 pl wz) := by
          show StC _ _ _ _ _ _
          rw [HPU.out]
          exact HNS.out
        clear HNS HCO HWO HST
        go_wp2_with fail
        go_ret
        exact ⟨A3, c3, by rw [← HNT.out.len]; rfl, HNT.out.fds, HNT.out.nil, below_then HBv.out HNT.out.bel⟩
  | some ad =>
    have HN1 : Hid (Nil0 (some ad) (l.take m).length cap) := fun e => by cases e
    have HCO := Lib.hid (fun b g hg y A2 c2 h1 h2 h3 h4 => co_step w1.drew b g hg y w.heap.size fid fd (some ad) A2 m cap _ c2 (l.take m) (l.drop m) HML.out rfl HTK.out HN1.out HLEN.out HLTv.out x0 x1 h1 h2 h3 h4)
    by_cases hcm : cap = m
    · have hct : (cap = m) = True := eq_true hcm
      have HFD : Hid (Fds w1.drew (some ad) (l.drop m)) := by
        show Fds _ _ _
        intro hp
        rw [List.length_drop] at hp
        omega
      clear hcm
      have HWO := Lib.hid (fun a x h1 h2 => wo_step w1.drew a x w.heap.size fid fd (some ad) (l.length - m) (cap - m) (l.drop m) HDL.out HDR.out HFD.out HLTv.out x0 x1 h1 h2)
      go_upto_region 2 with fail
      refine wp_region_held_drew (S := (fun ww => ww.cell? ⟨w.heap.size, 0, none⟩ = some (.int .u16 (fid : Nat)) ∧ ww.cell? ⟨w.heap.size, 1, none⟩ = some (.string fd))) (by kernel_rfl) ⟨x0, x1⟩ (fun hH1 => ?_)
      have k0 := hH1.1
      have k1 := hH1.2
      generalize w1.drew = v at *
      refine wpAnyH_take (i := 0) (v := ?_) rfl (by kernel_rfl) (by kernel_rfl) (by kernel_rfl) (fun _ _ _ h => h) (Or.inl ⟨by kernel_rfl, ?_⟩) (by assumption) ?_
      rotate_left
      · intro ww hSw
        obtain ⟨s0, s1⟩ := hSw
        go_simp
        try with_reducible rfl
      try simp only [Act.put, List.setIfInBounds_toArray, List.set_cons_zero, List.set_cons_succ, List.getElem_toArray, List.getElem_cons_succ, List.getElem_cons_zero]
      refine wpAnyH_take (i := 1) (v := ?_) rfl (by kernel_rfl) (by kernel_rfl) (by kernel_rfl) (fun _ _ _ h => h) (Or.inl ⟨by kernel_rfl, ?_⟩) (by assumption) ?_
      rotate_left
      · intro ww hSw
        obtain ⟨s0, s1⟩ := hSw
        go_simp
        try with_reducible rfl
      try simp only [Act.put, List.setIfInBounds_toArray, List.set_cons_zero, List.set_cons_succ, List.getElem_toArray, List.getElem_cons_succ, List.getElem_cons_zero]
      refine wpAnyH_take (i := 2) (v := ?_) rfl (by kernel_rfl) (by kernel_rfl) (by kernel_rfl) (fun _ _ _ h => h) (Or.inl ⟨by kernel_rfl, ?_⟩) (by assumption) ?_
      rotate_left
      · intro ww hSw
        obtain ⟨s0, s1⟩ := hSw
        go_simp
        try with_reducible rfl
      try simp only [Act.put, List.setIfInBounds_toArray, List.set_cons_zero, List.set_cons_succ, List.getElem_toArray, List.getElem_cons_succ, List.getElem_cons_zero]
      refine wpAnyH_take (i := 3) (v := ?_) rfl (by kernel_rfl) (by kernel_rfl) (by kernel_rfl) (fun _ _ _ h => h) (Or.inl ⟨by kernel_rfl, ?_⟩) (by assumption) ?_
      rotate_left
      · intro ww hSw
        obtain ⟨s0, s1⟩ := hSw
        go_simp
        try with_reducible rfl
      try simp only [Act.put, List.setIfInBounds_toArray, List.set_cons_zero, List.set_cons_succ, List.getElem_toArray, List.getElem_cons_succ, List.getElem_cons_zero]
      refine wpAnyH_take (i := 5) (v := ?_) rfl (by kernel_rfl) (by kernel_rfl) (by kernel_rfl) (fun _ _ _ h => h) (Or.inl ⟨by kernel_rfl, ?_⟩) (by assumption) ?_
      rotate_left
      · intro ww hSw
        obtain ⟨s0, s1⟩ := hSw
        go_simp
        try with_reducible rfl
      try simp only [Act.put, List.setIfInBounds_toArray, List.set_cons_zero, List.set_cons_succ, List.getElem_toArray, List.getElem_cons_succ, List.getElem_cons_zero]
      refine wpAnyH_take (i := 6) (v := ?_) rfl (by kernel_rfl) (by kernel_rfl) (by kernel_rfl) (fun _ _ _ h => h) (Or.inl ⟨by kernel_rfl, ?_⟩) (by assumption) ?_
      rotate_left
      · intro ww hSw
        obtain ⟨s0, s1⟩ := hSw
        go_simp
        try with_reducible rfl
      try simp only [Act.put, List.setIfInBounds_toArray, List.set_cons_zero, List.set_cons_succ, List.getElem_toArray, List.getElem_cons_succ, List.getElem_cons_zero]
      refine wpAnyH_take (i := 7) (v := ?_) rfl (by kernel_rfl) (by kernel_rfl) (by kernel_rfl) (fun _ _ _ h => h) (Or.inl ⟨by kernel_rfl, ?_⟩) (by assumption) ?_
      rotate_left
      · intro ww hSw
        obtain ⟨s0, s1⟩ := hSw
        go_simp
        try with_reducible rfl
      try simp only [Act.put, List.setIfInBounds_toArray, List.set_cons_zero, List.set_cons_succ, List.getElem_toArray, List.getElem_cons_succ, List.getElem_cons_zero]
      refine wpAnyH_take (i := 8) (v := ?_) rfl (by kernel_rfl) (by kernel_rfl) (by kernel_rfl) (fun _ _ _ h => h) (Or.inl ⟨by kernel_rfl, ?_⟩) (by assumption) ?_
      rotate_left
      · intro ww hSw
        obtain ⟨s0, s1⟩ := hSw
        go_simp
        try with_reducible rfl
      try simp only [Act.put, List.setIfInBounds_toArray, List.set_cons_zero, List.set_cons_succ, List.getElem_toArray, List.getElem_cons_succ, List.getElem_cons_zero]
      refine wpAnyH_take (i := 9) (v := ?_) rfl (by kernel_rfl) (by kernel_rfl) (by kernel_rfl) (fun _ _ _ h => h) (Or.inl ⟨by kernel_rfl, ?_⟩) (by assumption) ?_
      rotate_left
      · intro ww hSw
        obtain ⟨s0, s1⟩ := hSw
        go_simp
        try with_reducible rfl
      try simp only [Act.put, List.setIfInBounds_toArray, List.set_cons_zero, List.set_cons_succ, List.getElem_toArray, List.getElem_cons_succ, List.getElem_cons_zero]
      refine wpAnyH_ready (rs := [4, 10]) (by kernel_rfl) (by simp) ?_
      refine AllReadyH.cons rfl (fun K hK => ?_) (AllReadyH.cons rfl (fun K hK => ?_) (AllReadyH.nil))
      · go_simp
        refine hK.out _ _ (by first | exact ⟨k0.alloc _, k1.alloc _⟩ | exact ⟨cell_al k0, cell_al k1⟩) (fun hH2 => ?_)
        clear hK K
        have k0 := hH2.1
        have k1 := hH2.2
        try simp only [Act.put, List.setIfInBounds_toArray, List.set_cons_zero, List.set_cons_succ, List.getElem_toArray, List.getElem_cons_succ, List.getElem_cons_zero]
        refine wpAnyH_ready (rs := [10]) (by kernel_rfl) (by simp) ?_
        refine AllReadyH.cons rfl (fun K hK => ?_) (AllReadyH.nil)
        go_simp
        refine hK.out _ _ (by first | exact ⟨k0.alloc _, k1.alloc _⟩ | exact ⟨cell_al k0, cell_al k1⟩) (fun hH2 => ?_)
        clear hK K
        have k0 := hH2.1
        have k1 := hH2.2
        try simp only [Act.put, List.setIfInBounds_toArray, List.set_cons_zero, List.set_cons_succ, List.getElem_toArray, List.getElem_cons_succ, List.getElem_cons_zero]
        refine wpAnyH_ready (rs := [11]) (by kernel_rfl) (by simp) ?_
        refine AllReadyH.cons rfl (fun K hK => ?_) (AllReadyH.nil)
        go_simp
        refine (HWO.out _ _ BA.out IA.out).mono ?_
        rintro e wy ⟨A2, c2, rfl, ⟨n0, n1⟩, nst⟩
        refine hK.out _ _ ⟨n0, n1⟩ (fun hH3 => ?_)
        clear hK K
        have HST := Lib.hid nst
        clear nst
        try simp only [Act.put, List.setIfInBounds_toArray, List.set_cons_zero, List.set_cons_succ, List.getElem_toArray, List.getElem_cons_succ, List.getElem_cons_zero]
        refine wpAnyH_ready (rs := [12]) (by kernel_rfl) (by simp) ?_
        refine AllReadyH.cons rfl (fun K hK => ?_) (AllReadyH.nil)
        go_simp
        refine hK.out _ _ ⟨cell_al n0, cell_al n1⟩ (fun hH5 => ?_)
        clear hK K
        try simp only [Act.put, List.setIfInBounds_toArray, List.set_cons_zero, List.set_cons_succ, List.getElem_toArray, List.getElem_cons_succ, List.getElem_cons_zero]
        refine wpAnyH_ready (rs := [13]) (by kernel_rfl) (by simp) ?_
        refine AllReadyH.cons rfl (fun K hK => ?_) (AllReadyH.nil)
        go_simp
        refine (HCO.out _ _ (by first | rfl | simp) _ _ _ HST.out.fds HST.out.nil HST.out.bel (HST.out.keep _ _ FA.out)).mono ?_
        rintro e wz ⟨A3, c3, n3, rfl, nsc, ⟨m0, m1⟩⟩
        refine hK.out _ _ ⟨m0, m1⟩ (fun hH4 => ?_)
        clear hK K
        have HNS := Lib.hid nsc
        clear nsc
        try simp only [Act.put, List.setIfInBounds_toArray, List.set_cons_zero, List.set_cons_succ, List.getElem_toArray, List.getElem_cons_succ, List.getElem_cons_zero]
        refine wpAnyH_take (i := 14) (v := ?_) rfl (by kernel_rfl) (by kernel_rfl) (by kernel_rfl) (fun _ _ _ h => h) (Or.inl ⟨by kernel_rfl, ?_⟩) (by assumption) ?_
        rotate_left
        · intro ww hSw
          obtain ⟨s0, s1⟩ := hSw
          go_simp
          try with_reducible rfl
        try simp only [Act.put, List.setIfInBounds_toArray, List.set_cons_zero, List.set_cons_succ, List.getElem_toArray, List.getElem_cons_succ, List.getElem_cons_zero]
        refine wpAnyH_done (by kernel_rfl) ?_ _
        have HNT : Hid (StC v A3 c3 n3 pl wz) := by
          show StC _ _ _ _ _ _
          rw [HPU.out]
          exact HNS.out
        clear HNS HCO HWO HST
        go_wp2_with fail
        go_ret
        exact ⟨A3, c3, by rw [← HNT.out.len]; rfl, HNT.out.fds, HNT.out.nil, below_then HBv.out HNT.out.bel⟩
      · go_simp
        refine hK.out _ _ (by first | exact ⟨k0.alloc _, k1.alloc _⟩ | exact ⟨cell_al k0, cell_al k1⟩) (fun hH2 => ?_)
        clear hK K
        have k0 := hH2.1
        have k1 := hH2.2
        try simp only [Act.put, List.setIfInBounds_toArray, List.set_cons_zero, List.set_cons_succ, List.getElem_toArray, List.getElem_cons_succ, List.getElem_cons_zero]
        refine wpAnyH_ready (rs := [4, 11]) (by kernel_rfl) (by simp) ?_
        refine AllReadyH.cons rfl (fun K hK => ?_) (AllReadyH.cons rfl (fun K hK => ?_) (AllReadyH.nil))
        · go_simp
          refine hK.out _ _ (by first | exact ⟨k0.alloc _, k1.alloc _⟩ | exact ⟨cell_al k0, cell_al k1⟩) (fun hH2 => ?_)
          clear hK K
          have k0 := hH2.1
          have k1 := hH2.2
          try simp only [Act.put, List.setIfInBounds_toArray, List.set_cons_zero, List.set_cons_succ, List.getElem_toArray, List.getElem_cons_succ, List.getElem_cons_zero]
          refine wpAnyH_ready (rs := [11]) (by kernel_rfl) (by simp) ?_
          refine AllReadyH.cons rfl (fun K hK => ?_) (AllReadyH.nil)
          go_simp
          refine (HWO.out _ _ BB.out IB.out).mono ?_
          rintro e wy ⟨A2, c2, rfl, ⟨n0, n1⟩, nst⟩
          refine hK.out _ _ ⟨n0, n1⟩ (fun hH3 => ?_)
          clear hK K
          have HST := Lib.hid nst
          clear nst
          try simp only [Act.put, List.setIfInBounds_toArray, List.set_cons_zero, List.set_cons_succ, List.getElem_toArray, List.getElem_cons_succ, List.getElem_cons_zero]
          refine wpAnyH_ready (rs := [12]) (by kernel_rfl) (by simp) ?_
          refine AllReadyH.cons rfl (fun K hK => ?_) (AllReadyH.nil)
          go_simp
          refine hK.out _ _ ⟨cell_al n0, cell_al n1⟩ (fun hH5 => ?_)
          clear hK K
          try simp only [Act.put, List.setIfInBounds_toArray, List.set_cons_zero, List.set_cons_succ, List.getElem_toArray, List.getElem_cons_succ, List.getElem_cons_zero]
          refine wpAnyH_ready (rs := [13]) (by kernel_rfl) (by simp) ?_
          refine AllReadyH.cons rfl (fun K hK => ?_) (AllReadyH.nil)
          go_simp
          refine (HCO.out _ _ (by first | rfl | simp) _ _ _ HST.out.fds HST.out.nil HST.out.bel (HST.out.keep _ _ FB.out)).mono ?_
          rintro e wz ⟨A3, c3, n3, rfl, nsc, ⟨m0, m1⟩⟩
          refine hK.out _ _ ⟨m0, m1⟩ (fun hH4 => ?_)
          clear hK K
          have HNS := Lib.hid nsc
          clear nsc
          try simp only [Act.put, List.setIfInBounds_toArray, List.set_cons_zero, List.set_cons_succ, List.getElem_toArray, List.getElem_cons_succ, List.getElem_cons_zero]
          refine wpAnyH_take (i := 14) (v := ?_) rfl (by kernel_rfl) (by kernel_rfl) (by kernel_rfl) (fun _ _ _ h => h) (Or.inl ⟨by kernel_rfl, ?_⟩) (by assumption) ?_
          rotate_left
          · intro ww hSw
            obtain ⟨s0, s1⟩ := hSw
            go_simp
            try with_reducible rfl
          try simp only [Act.put, List.setIfInBounds_toArray, List.set_cons_zero, List.set_cons_succ, List.getElem_toArray, List.getElem_cons_succ, List.getElem_cons_zero]
          refine wpAnyH_done (by kernel_rfl) ?_ _
          have HNT : Hid (StC v A3 c3 n3 pl wz) := by
            show StC _ _ _ _ _ _
            rw [HPU.out]
            exact HNS.out
          clear HNS HCO HWO HST
          go_wp2_with fail
          go_ret
          exact ⟨A3, c3, by rw [← HNT.out.len]; rfl, HNT.out.fds, HNT.out.nil, below_then HBv.out HNT.out.bel⟩
        · go_simp
          refine (HWO.out _ _ BC.out IC.out).mono ?_
          rintro e wy ⟨A2, c2, rfl, ⟨n0, n1⟩, nst⟩
          refine hK.out _ _ ⟨n0, n1⟩ (fun hH3 => ?_)
          clear hK K
          have HST := Lib.hid nst
          clear nst
          try simp only [Act.put, List.setIfInBounds_toArray, List.set_cons_zero, List.set_cons_succ, List.getElem_toArray, List.getElem_cons_succ, List.getElem_cons_zero]
          have C1 := Lib.hid (HST.out.fds.below (Nat.le_refl _) ((Below.refl wy.heap.size wy).alloc (Nat.le_refl _) (.cells #[.int .u16 (fid : Nat), .string fd] 38)))
          have C2 := Lib.hid (HST.out.bel.alloc HST.out.bel.size (.cells #[.int .u16 (fid : Nat), .string fd] 38))
          have C3 := Lib.hid (heap_alloc_new wy (.cells #[.int .u16 (fid : Nat), .string fd] 38))
          refine wpAnyH_ready (rs := [4]) (by kernel_rfl) (by simp) ?_
          refine AllReadyH.cons rfl (fun K hK => ?_) (AllReadyH.nil)
          go_simp
          refine hK.out _ _ ⟨cell_al n0, cell_al n1⟩ (fun hH5 => ?_)
          clear hK K
          try simp only [Act.put, List.setIfInBounds_toArray, List.set_cons_zero, List.set_cons_succ, List.getElem_toArray, List.getElem_cons_succ, List.getElem_cons_zero]
          have p0 := hH5.1
          have p1 := hH5.2
          clear hH5
          refine wpAnyH_ready (rs := [12]) (by kernel_rfl) (by simp) ?_
          refine AllReadyH.cons rfl (fun K hK => ?_) (AllReadyH.nil)
          go_simp
          refine hK.out _ _ ⟨cell_al p0, cell_al p1⟩ (fun hH6 => ?_)
          clear hK K
          try simp only [Act.put, List.setIfInBounds_toArray, List.set_cons_zero, List.set_cons_succ, List.getElem_toArray, List.getElem_cons_succ, List.getElem_cons_zero]
          refine wpAnyH_ready (rs := [13]) (by kernel_rfl) (by simp) ?_
          refine AllReadyH.cons rfl (fun K hK => ?_) (AllReadyH.nil)
          go_simp
          refine (HCO.out _ _ (by first | rfl | simp) _ _ _ C1.out HST.out.nil C2.out C3.out).mono ?_
          rintro e wz ⟨A3, c3, n3, rfl, nsc, ⟨m0, m1⟩⟩
          refine hK.out _ _ ⟨m0, m1⟩ (fun hH4 => ?_)
          clear hK K
          have HNS := Lib.hid nsc
          clear nsc
          try simp only [Act.put, List.setIfInBounds_toArray, List.set_cons_zero, List.set_cons_succ, List.getElem_toArray, List.getElem_cons_succ, List.getElem_cons_zero]
          refine wpAnyH_take (i := 14) (v := ?_) rfl (by kernel_rfl) (by kernel_rfl) (by kernel_rfl) (fun _ _ _ h => h) (Or.inl ⟨by kernel_rfl, ?_⟩) (by assumption) ?_
          rotate_left
          · intro ww hSw
            obtain ⟨s0, s1⟩ := hSw
            go_simp
            try with_reducible rfl
          try simp only [Act.put, List.setIfInBounds_toArray, List.set_cons_zero, List.set_cons_succ, List.getElem_toArray, List.getElem_cons_succ, List.getElem_cons_zero]
          refine wpAnyH_done (by kernel_rfl) ?_ _
          have HNT : Hid (StC v A3 c3 n3 pl wz) := by
            show StC _ _ _ _ _ _
            rw [HPU.out]
            exact HNS.out
          clear HNS HCO HWO HST
          go_wp2_with fail
          go_ret
          exact ⟨A3, c3, by rw [← HNT.out.len]; rfl, HNT.out.fds, HNT.out.nil, below_then HBv.out HNT.out.bel⟩
    · have HFD : Hid (Fds w1.drew (some (ad.add (m * 2))) (l.drop m)) := by
        show Fds _ _ _
        intro hp
        rw [List.length_drop] at hp
        obtain ⟨b, off, e, _⟩ := HFv.out (by omega)
        injection e with e
        subst e
        have h2 := HFv.out.drop m
        rw [Addr.add_lit]
        exact h2 (by rw [List.length_drop]; exact hp)
      have HWO := Lib.hid (fun a x h1 h2 => wo_step w1.drew a x w.heap.size fid fd (some (ad.add (m * 2))) (l.length - m) (cap - m) (l.drop m) HDL.out HDR.out HFD.out HLTv.out x0 x1 h1 h2)
      go_upto_region 2 with fail
      refine wp_region_held_drew (S := (fun ww => ww.cell? ⟨w.heap.size, 0, none⟩ = some (.int .u16 (fid : Nat)) ∧ ww.cell? ⟨w.heap.size, 1, none⟩ = some (.string fd))) (by kernel_rfl) ⟨x0, x1⟩ (fun hH1 => ?_)
      have k0 := hH1.1
      have k1 := hH1.2
      generalize w1.drew = v at *
      refine wpAnyH_take (i := 0) (v := ?_) rfl (by kernel_rfl) (by kernel_rfl) (by kernel_rfl) (fun _ _ _ h => h) (Or.inl ⟨by kernel_rfl, ?_⟩) (by assumption) ?_
      rotate_left
      · intro ww hSw
        obtain ⟨s0, s1⟩ := hSw
        go_simp
        try with_reducible rfl
      try simp only [Act.put, List.setIfInBounds_toArray, List.set_cons_zero, List.set_cons_succ, List.getElem_toArray, List.getElem_cons_succ, List.getElem_cons_zero]
      refine wpAnyH_take (i := 1) (v := ?_) rfl (by kernel_rfl) (by kernel_rfl) (by kernel_rfl) (fun _ _ _ h => h) (Or.inl ⟨by kernel_rfl, ?_⟩) (by assumption) ?_
      rotate_left
      · intro ww hSw
        obtain ⟨s0, s1⟩ := hSw
        go_simp
        try with_reducible rfl
      try simp only [Act.put, List.setIfInBounds_toArray, List.set_cons_zero, List.set_cons_succ, List.getElem_toArray, List.getElem_cons_succ, List.getElem_cons_zero]
      refine wpAnyH_take (i := 2) (v := ?_) rfl (by kernel_rfl) (by kernel_rfl) (by kernel_rfl) (fun _ _ _ h => h) (Or.inl ⟨by kernel_rfl, ?_⟩) (by assumption) ?_
      rotate_left
      · intro ww hSw
        obtain ⟨s0, s1⟩ := hSw
        go_simp
        try with_reducible rfl
      try simp only [Act.put, List.setIfInBounds_toArray, List.set_cons_zero, List.set_cons_succ, List.getElem_toArray, List.getElem_cons_succ, List.getElem_cons_zero]
      refine wpAnyH_take (i := 3) (v := ?_) rfl (by kernel_rfl) (by kernel_rfl) (by kernel_rfl) (fun _ _ _ h => h) (Or.inl ⟨by kernel_rfl, ?_⟩) (by assumption) ?_
      rotate_left
      · intro ww hSw
        obtain ⟨s0, s1⟩ := hSw
        go_simp
        try with_reducible rfl
      try simp only [Act.put, List.setIfInBounds_toArray, List.set_cons_zero, List.set_cons_succ, List.getElem_toArray, List.getElem_cons_succ, List.getElem_cons_zero]
      refine wpAnyH_take (i := 5) (v := ?_) rfl (by kernel_rfl) (by kernel_rfl) (by kernel_rfl) (fun _ _ _ h => h) (Or.inl ⟨by kernel_rfl, ?_⟩) (by assumption) ?_
      rotate_left
      · intro ww hSw
        obtain ⟨s0, s1⟩ := hSw
        go_simp
        try with_reducible rfl
      try simp only [Act.put, List.setIfInBounds_toArray, List.set_cons_zero, List.set_cons_succ, List.getElem_toArray, List.getElem_cons_succ, List.getElem_cons_zero]
      refine wpAnyH_take (i := 6) (v := ?_) rfl (by kernel_rfl) (by kernel_rfl) (by kernel_rfl) (fun _ _ _ h => h) (Or.inl ⟨by kernel_rfl, ?_⟩) (by assumption) ?_
      rotate_left
      · intro ww hSw
        obtain ⟨s0, s1⟩ := hSw
        go_simp
        try with_reducible rfl
      try simp only [Act.put, List.setIfInBounds_toArray, List.set_cons_zero, List.set_cons_succ, List.getElem_toArray, List.getElem_cons_succ, List.getElem_cons_zero]
      refine wpAnyH_take (i := 7) (v := ?_) rfl (by kernel_rfl) (by kernel_rfl) (by kernel_rfl) (fun _ _ _ h => h) (Or.inl ⟨by kernel_rfl, ?_⟩) (by assumption) ?_
      rotate_left
      · intro ww hSw
        obtain ⟨s0, s1⟩ := hSw
        go_simp
        try with_reducible rfl
      try simp only [Act.put, List.setIfInBounds_toArray, List.set_cons_zero, List.set_cons_succ, List.getElem_toArray, List.getElem_cons_succ, List.getElem_cons_zero]
      refine wpAnyH_take (i := 8) (v := ?_) rfl (by kernel_rfl) (by kernel_rfl) (by kernel_rfl) (fun _ _ _ h => h) (Or.inl ⟨by kernel_rfl, ?_⟩) (by assumption) ?_
      rotate_left
      · intro ww hSw
        obtain ⟨s0, s1⟩ := hSw
        go_simp
        try with_reducible rfl
      try simp only [Act.put, List.setIfInBounds_toArray, List.set_cons_zero, List.set_cons_succ, List.getElem_toArray, List.getElem_cons_succ, List.getElem_cons_zero]
      refine wpAnyH_take (i := 9) (v := ?_) rfl (by kernel_rfl) (by kernel_rfl) (by kernel_rfl) (fun _ _ _ h => h) (Or.inl ⟨by kernel_rfl, ?_⟩) (by assumption) ?_
      rotate_left
      · intro ww hSw
        obtain ⟨s0, s1⟩ := hSw
        go_simp
        try with_reducible rfl
      try simp only [Act.put, List.setIfInBounds_toArray, List.set_cons_zero, List.set_cons_succ, List.getElem_toArray, List.getElem_cons_succ, List.getElem_cons_zero]
      refine wpAnyH_ready (rs := [4, 10]) (by kernel_rfl) (by simp) ?_
      refine AllReadyH.cons rfl (fun K hK => ?_) (AllReadyH.cons rfl (fun K hK => ?_) (AllReadyH.nil))
      · go_simp
        refine hK.out _ _ (by first | exact ⟨k0.alloc _, k1.alloc _⟩ | exact ⟨cell_al k0, cell_al k1⟩) (fun hH2 => ?_)
        clear hK K
        have k0 := hH2.1
        have k1 := hH2.2
        try simp only [Act.put, List.setIfInBounds_toArray, List.set_cons_zero, List.set_cons_succ, List.getElem_toArray, List.getElem_cons_succ, List.getElem_cons_zero]
        refine wpAnyH_ready (rs := [10]) (by kernel_rfl) (by simp) ?_
        refine AllReadyH.cons rfl (fun K hK => ?_) (AllReadyH.nil)
        go_simp
        refine hK.out _ _ (by first | exact ⟨k0.alloc _, k1.alloc _⟩ | exact ⟨cell_al k0, cell_al k1⟩) (fun hH2 => ?_)
        clear hK K
        have k0 := hH2.1
        have k1 := hH2.2
        try simp only [Act.put, List.setIfInBounds_toArray, List.set_cons_zero, List.set_cons_succ, List.getElem_toArray, List.getElem_cons_succ, List.getElem_cons_zero]
        refine wpAnyH_ready (rs := [11]) (by kernel_rfl) (by simp) ?_
        refine AllReadyH.cons rfl (fun K hK => ?_) (AllReadyH.nil)
        go_simp
        refine (HWO.out _ _ BA.out IA.out).mono ?_
        rintro e wy ⟨A2, c2, rfl, ⟨n0, n1⟩, nst⟩
        refine hK.out _ _ ⟨n0, n1⟩ (fun hH3 => ?_)
        clear hK K
        have HST := Lib.hid nst
        clear nst
        try simp only [Act.put, List.setIfInBounds_toArray, List.set_cons_zero, List.set_cons_succ, List.getElem_toArray, List.getElem_cons_succ, List.getElem_cons_zero]
        refine wpAnyH_ready (rs := [12]) (by kernel_rfl) (by simp) ?_
        refine AllReadyH.cons rfl (fun K hK => ?_) (AllReadyH.nil)
        go_simp
        refine hK.out _ _ ⟨cell_al n0, cell_al n1⟩ (fun hH5 => ?_)
        clear hK K
        try simp only [Act.put, List.setIfInBounds_toArray, List.set_cons_zero, List.set_cons_succ, List.getElem_toArray, List.getElem_cons_succ, List.getElem_cons_zero]
        refine wpAnyH_ready (rs := [13]) (by kernel_rfl) (by simp) ?_
        refine AllReadyH.cons rfl (fun K hK => ?_) (AllReadyH.nil)
        go_simp
        refine (HCO.out _ _ (by first | rfl | simp) _ _ _ HST.out.fds HST.out.nil HST.out.bel (HST.out.keep _ _ FA.out)).mono ?_
        rintro e wz ⟨A3, c3, n3, rfl, nsc, ⟨m0, m1⟩⟩
        refine hK.out _ _ ⟨m0, m1⟩ (fun hH4 => ?_)
        clear hK K
        have HNS := Lib.hid nsc
        clear nsc
        try simp only [Act.put, List.setIfInBounds_toArray, List.set_cons_zero, List.set_cons_succ, List.getElem_toArray, List.getElem_cons_succ, List.getElem_cons_zero]
        refine wpAnyH_take (i := 14) (v := ?_) rfl (by kernel_rfl) (by kernel_rfl) (by kernel_rfl) (fun _ _ _ h => h) (Or.inl ⟨by kernel_rfl, ?_⟩) (by assumption) ?_
        rotate_left
        · intro ww hSw
          obtain ⟨s0, s1⟩ := hSw
          go_simp
          try with_reducible rfl
        try simp only [Act.put, List.setIfInBounds_toArray, List.set_cons_zero, List.set_cons_succ, List.getElem_toArray, List.getElem_cons_succ, List.getElem_cons_zero]
        refine wpAnyH_done (by kernel_rfl) ?_ _
        have HNT : Hid (StC v A3 c3 n3 pl wz) := by
          show StC _ _ _ _ _ _
          rw [HPU.out]
          exact HNS.out
        clear HNS HCO HWO HST
        go_wp2_with fail
        go_ret
        exact ⟨A3, c3, by rw [← HNT.out.len]; rfl, HNT.out.fds, HNT.out.nil, below_then HBv.out HNT.out.bel⟩
      · go_simp
        refine hK.out _ _ (by first | exact ⟨k0.alloc _, k1.alloc _⟩ | exact ⟨cell_al k0, cell_al k1⟩) (fun hH2 => ?_)
        clear hK K
        have k0 := hH2.1
        have k1 := hH2.2
        try simp only [Act.put, List.setIfInBounds_toArray, List.set_cons_zero, List.set_cons_succ, List.getElem_toArray, List.getElem_cons_succ, List.getElem_cons_zero]
        refine wpAnyH_ready (rs := [4, 11]) (by kernel_rfl) (by simp) ?_
        refine AllReadyH.cons rfl (fun K hK => ?_) (AllReadyH.cons rfl (fun K hK => ?_) (AllReadyH.nil))
        · go_simp
          refine hK.out _ _ (by first | exact ⟨k0.alloc _, k1.alloc _⟩ | exact ⟨cell_al k0, cell_al k1⟩) (fun hH2 => ?_)
          clear hK K
          have k0 := hH2.1
          have k1 := hH2.2
          try simp only [Act.put, List.setIfInBounds_toArray, List.set_cons_zero, List.set_cons_succ, List.getElem_toArray, List.getElem_cons_succ, List.getElem_cons_zero]
          refine wpAnyH_ready (rs := [11]) (by kernel_rfl) (by simp) ?_
          refine AllReadyH.cons rfl (fun K hK => ?_) (AllReadyH.nil)
          go_simp
          refine (HWO.out _ _ BB.out IB.out).mono ?_
          rintro e wy ⟨A2, c2, rfl, ⟨n0, n1⟩, nst⟩
          refine hK.out _ _ ⟨n0, n1⟩ (fun hH3 => ?_)
          clear hK K
          have HST := Lib.hid nst
          clear nst
          try simp only [Act.put, List.setIfInBounds_toArray, List.set_cons_zero, List.set_cons_succ, List.getElem_toArray, List.getElem_cons_succ, List.getElem_cons_zero]
          refine wpAnyH_ready (rs := [12]) (by kernel_rfl) (by simp) ?_
          refine AllReadyH.cons rfl (fun K hK => ?_) (AllReadyH.nil)
          go_simp
          refine hK.out _ _ ⟨cell_al n0, cell_al n1⟩ (fun hH5 => ?_)
          clear hK K
          try simp only [Act.put, List.setIfInBounds_toArray, List.set_cons_zero, List.set_cons_succ, List.getElem_toArray, List.getElem_cons_succ, List.getElem_cons_zero]
          refine wpAnyH_ready (rs := [13]) (by kernel_rfl) (by simp) ?_
          refine AllReadyH.cons rfl (fun K hK => ?_) (AllReadyH.nil)
          go_simp
          refine (HCO.out _ _ (by first | rfl | simp) _ _ _ HST.out.fds HST.out.nil HST.out.bel (HST.out.keep _ _ FB.out)).mono ?_
          rintro e wz ⟨A3, c3, n3, rfl, nsc, ⟨m0, m1⟩⟩
          refine hK.out _ _ ⟨m0, m1⟩ (fun hH4 => ?_)
          clear hK K
          have HNS := Lib.hid nsc
          clear nsc
          try simp only [Act.put, List.setIfInBounds_toArray, List.set_cons_zero, List.set_cons_succ, List.getElem_toArray, List.getElem_cons_succ, List.getElem_cons_zero]
          refine wpAnyH_take (i := 14) (v := ?_) rfl (by kernel_rfl) (by kernel_rfl) (by kernel_rfl) (fun _ _ _ h => h) (Or.inl ⟨by kernel_rfl, ?_⟩) (by assumption) ?_
          rotate_left
          · intro ww hSw
            obtain ⟨s0, s1⟩ := hSw
            go_simp
            try with_reducible rfl
          try simp only [Act.put, List.setIfInBounds_toArray, List.set_cons_zero, List.set_cons_succ, List.getElem_toArray, List.getElem_cons_succ, List.getElem_cons_zero]
          refine wpAnyH_done (by kernel_rfl) ?_ _
          have HNT : Hid (StC v A3 c3 n3 pl wz) := by
            show StC _ _ _ _ _ _
            rw [HPU.out]
            exact HNS.out
          clear HNS HCO HWO HST
          go_wp2_with fail
          go_ret
          exact ⟨A3, c3, by rw [← HNT.out.len]; rfl, HNT.out.fds, HNT.out.nil, below_then HBv.out HNT.out.bel⟩
        · go_simp
          refine (HWO.out _ _ BC.out IC.out).mono ?_
          rintro e wy ⟨A2, c2, rfl, ⟨n0, n1⟩, nst⟩
          refine hK.out _ _ ⟨n0, n1⟩ (fun hH3 => ?_)
          clear hK K
          have HST := Lib.hid nst
          clear nst
          try simp only [Act.put, List.setIfInBounds_toArray, List.set_cons_zero, List.set_cons_succ, List.getElem_toArray, List.getElem_cons_succ, List.getElem_cons_zero]
          have C1 := Lib.hid (HST.out.fds.below (Nat.le_refl _) ((Below.refl wy.heap.size wy).alloc (Nat.le_refl _) (.cells #[.int .u16 (fid : Nat), .string fd] 38)))
          have C2 := Lib.hid (HST.out.bel.alloc HST.out.bel.size (.cells #[.int .u16 (fid : Nat), .string fd] 38))
          have C3 := Lib.hid (heap_alloc_new wy (.cells #[.int .u16 (fid : Nat), .string fd] 38))
          refine wpAnyH_ready (rs := [4]) (by kernel_rfl) (by simp) ?_
          refine AllReadyH.cons rfl (fun K hK => ?_) (AllReadyH.nil)
          go_simp
          refine hK.out _ _ ⟨cell_al n0, cell_al n1⟩ (fun hH5 => ?_)
          clear hK K
          try simp only [Act.put, List.setIfInBounds_toArray, List.set_cons_zero, List.set_cons_succ, List.getElem_toArray, List.getElem_cons_succ, List.getElem_cons_zero]
          have p0 := hH5.1
          have p1 := hH5.2
          clear hH5
          refine wpAnyH_ready (rs := [12]) (by kernel_rfl) (by simp) ?_
          refine AllReadyH.cons rfl (fun K hK => ?_) (AllReadyH.nil)
          go_simp
          refine hK.out _ _ ⟨cell_al p0, cell_al p1⟩ (fun hH6 => ?_)
          clear hK K
          try simp only [Act.put, List.setIfInBounds_toArray, List.set_cons_zero, List.set_cons_succ, List.getElem_toArray, List.getElem_cons_succ, List.getElem_cons_zero]
          refine wpAnyH_ready (rs := [13]) (by kernel_rfl) (by simp) ?_
          refine AllReadyH.cons rfl (fun K hK => ?_) (AllReadyH.nil)
          go_simp
          refine (HCO.out _ _ (by first | rfl | simp) _ _ _ C1.out HST.out.nil C2.out C3.out).mono ?_
          rintro e wz ⟨A3, c3, n3, rfl, nsc, ⟨m0, m1⟩⟩
          refine hK.out _ _ ⟨m0, m1⟩ (fun hH4 => ?_)
          clear hK K
          have HNS := Lib.hid nsc
          clear nsc
          try simp only [Act.put, List.setIfInBounds_toArray, List.set_cons_zero, List.set_cons_succ, List.getElem_toArray, List.getElem_cons_succ, List.getElem_cons_zero]
          refine wpAnyH_take (i := 14) (v := ?_) rfl (by kernel_rfl) (by kernel_rfl) (by kernel_rfl) (fun _ _ _ h => h) (Or.inl ⟨by kernel_rfl, ?_⟩) (by assumption) ?_
          rotate_left
          · intro ww hSw
            obtain ⟨s0, s1⟩ := hSw
            go_simp
            try with_reducible rfl
          try simp only [Act.put, List.setIfInBounds_toArray, List.set_cons_zero, List.set_cons_succ, List.getElem_toArray, List.getElem_cons_succ, List.getElem_cons_zero]
          refine wpAnyH_done (by kernel_rfl) ?_ _
          have HNT : Hid (StC v A3 c3 n3 pl wz) := by
            show StC _ _ _ _ _ _
            rw [HPU.out]
            exact HNS.out
          clear HNS HCO HWO HST
          go_wp2_with fail
          go_ret
          exact ⟨A3, c3, by rw [← HNT.out.len]; rfl, HNT.out.fds, HNT.out.nil, below_then HBv.out HNT.out.bel⟩
end Go.Proofs.Ytkiecgcjnlgbnaa
