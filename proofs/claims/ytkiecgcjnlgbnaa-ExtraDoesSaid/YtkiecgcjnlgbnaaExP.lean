/-
  Contract: the document's Put.
-/
import Derived.Test.YtkiecgcjnlgbnaaExO
namespace Go.Proofs.Ytkiecgcjnlgbnaa
set_option maxRecDepth 100000
open Go.RowKit Go.Joins Go.Deep

/-- What the document's Put has behind a beginning: was the field put? the row. -/
def pD (p : List Fd) (f : Fd) : Bool := decide (fx f.id p < p.length)
def pO (p : List Fd) (f : Fd) : List Fd := if pD p f = true then putL p f else p
theorem pD_all {p : List Fd} {f : Fd} (h : pD p f = false) : ∀ x ∈ p, x.id ≠ f.id := by
  have h1 := of_decide_eq_false h
  have h2 := fx_le f.id p
  have h3 : fx f.id p = p.length := by omega
  intro x hx
  have := take_fx f.id p x
  rw [h3, List.take_length] at this
  exact this hx
theorem fx_grow {p : List Fd} {f x : Fd} (h : pD p f = true) : fx f.id (p ++ [x]) = fx f.id p := by
  have h1 : fx f.id p < p.length := of_decide_eq_true h
  refine fx_hit f.id (p ++ [x]) _ (by rw [List.length_append]; omega) ?_ fun j hj hji => ?_
  · rw [List.getElem_append_left h1]
    exact fx_at f.id p h1
  · rw [List.getElem_append_left (by omega)]
    have hm : p[j]'(by omega) ∈ p.take (fx f.id p) := by
      rw [List.mem_take_iff_getElem]
      exact ⟨j, by omega, rfl⟩
    exact take_fx f.id p _ hm
theorem put_more {p : List Fd} {f x : Fd} (h : pD p f = true) : putL (p ++ [x]) f = putL p f ++ woL [x] [f.id] := by
  have h1 : fx f.id p < p.length := of_decide_eq_true h
  unfold putL
  rw [fx_grow h, List.take_append_of_le_length (by omega), List.drop_append_of_le_length (by omega)]
  unfold woL
  rw [List.filter_append]
  simp
theorem put_new {p : List Fd} {f x : Fd} (h : pD p f = false) (hx : x.id = f.id) : fx f.id (p ++ [x]) = p.length ∧ putL (p ++ [x]) f = p ++ [f] := by
  have h0 := fx_append f.id p [x] (pD_all h)
  rw [fx_yes hx, Nat.add_zero] at h0
  refine ⟨h0, ?_⟩
  unfold putL
  rw [h0, List.take_left, List.drop_left]
  have : woL [x] [f.id] = [] := by simp [woL, hx]
  rw [this]
  rfl
theorem pD_other {p : List Fd} {f x : Fd} (hx : x.id ≠ f.id) : pD (p ++ [x]) f = pD p f := by
  cases h : pD p f with
  | true =>
    have h1 : fx f.id p < p.length := of_decide_eq_true h
    exact decide_eq_true (by rw [fx_grow h, List.length_append]; omega)
  | false =>
    have h0 := fx_append f.id p [x] (pD_all h)
    rw [fx_no hx] at h0
    exact decide_eq_false (by rw [h0, List.length_append]; simp [fx])
theorem pO_other {p : List Fd} {f x : Fd} (hx : x.id ≠ f.id) : pO (p ++ [x]) f = pO p f ++ [x] := by
  unfold pO
  rw [pD_other hx]
  cases h : pD p f with
  | true =>
    rw [if_pos rfl, if_pos rfl, put_more h]
    simp [woL, hx]
  | false => rw [if_neg (by decide), if_neg (by decide)]
theorem pO_new {p : List Fd} {f x : Fd} (h : pD p f = false) (hx : x.id = f.id) : pD (p ++ [x]) f = true ∧ pO (p ++ [x]) f = pO p f ++ [f] := by
  obtain ⟨h1, h2⟩ := put_new h hx
  have h3 : pD (p ++ [x]) f = true := decide_eq_true (by rw [h1, List.length_append]; simp)
  refine ⟨h3, ?_⟩
  unfold pO
  rw [h3, if_pos rfl, h2, h, if_neg (by decide)]
theorem pO_again {p : List Fd} {f x : Fd} (h : pD p f = true) (hx : x.id = f.id) : pD (p ++ [x]) f = true ∧ pO (p ++ [x]) f = pO p f := by
  have h1 : fx f.id p < p.length := of_decide_eq_true h
  have h3 : pD (p ++ [x]) f = true := decide_eq_true (by rw [fx_grow h, List.length_append]; omega)
  refine ⟨h3, ?_⟩
  unfold pO
  rw [h3, if_pos rfl, h, if_pos rfl, put_more h]
  simp [woL, hx]
theorem pO_end {p : List Fd} {f : Fd} : putL p f = if pD p f = true then pO p f else pO p f ++ [f] := by
  cases h : pD p f with
  | true =>
    rw [if_pos rfl]
    unfold pO
    rw [h, if_pos rfl]
  | false =>
    rw [if_neg (by decide)]
    have h1 := of_decide_eq_false h
    have h2 := fx_le f.id p
    have h3 : fx f.id p = p.length := by omega
    unfold pO putL
    rw [h, if_neg (by decide), h3, List.take_length, List.drop_length]
    rfl
theorem pO_len (p : List Fd) (f : Fd) : (pO p f).length ≤ p.length + 1 := by
  unfold pO
  split
  · exact put_le p f
  · omega
theorem heap_at2 (w : World) (o : Obj) (c : Array Value) {T : TypeId} : ((w.alloc o).alloc (.cells c T)).heap[w.heap.size + 1]? = some (.cells c T (0, 0)) := by
  have h := heap_alloc_new (w.alloc o) (.cells c T)
  rw [show (w.alloc o).heap.size = w.heap.size + 1 by simp] at h
  exact h
/-- A step of the document's Put. -/
structure PS (w wr : World) (v : Value) (fid : Nat) (fd : ByteArray) (o : List Fd) : Prop where
  row : wr.ownsRow (w.heap.size + 1) 38 2 v o.length (cellsF o)
  bel : Below w.heap.size w wr
  box : wr.heap[w.heap.size]? = some (.cells #[.int .u16 (fid : Nat), .string fd] 38 (0, 0))
theorem PS.alloc {w wr : World} {v : Value} {fid : Nat} {fd : ByteArray} {o : List Fd} (h : PS w wr v fid fd o) (ob : Obj) : PS w (wr.alloc ob) v fid fd o :=
  ⟨h.row.alloc ob, h.bel.alloc h.bel.size ob, (Below.heap_alloc _ _ _ (lt_of_heapE h.box)).trans h.box⟩
theorem PS.put {w wr w2 : World} {v v2 : Value} {fid : Nat} {fd : ByteArray} {o : List Fd} {g : Fd} (h : PS w wr v fid fd o) (hr : w2.ownsRow (w.heap.size + 1) 38 2 v2 (o.length + 1) (cellsF o ++ [.int .u16 (g.id : Nat), .string g.d])) (hg : wr.grownBy w2 v.ownBlock) : PS w w2 v2 fid fd (o ++ [g]) := by
  refine ⟨?_, h.bel.grown hg h.bel.size (fun q hq => by have := (h.row.lt q hq).1; omega), ?_⟩
  · rw [List.length_append, cellsF_app]
    exact hr
  · rw [hg.block _ (lt_of_heapE h.box) (fun e => by have := (h.row.lt _ e.symm).1; omega)]
    exact h.box
set_option maxHeartbeats 8000000 in
theorem rput_any (A : Option Addr) (cap : Nat) (l : List Fd) (f : Fd) (w : World) (hF : Fds w A l) (hl : l.length ≤ 10000) :
    Calls Try.prog 20 #[.slice A l.length cap, .agg #[.int .u16 (f.id : Nat), .string f.d]] w fun e w' => ∃ A2 c2, e = .returned (.slice A2 (putL l f).length c2) ∧ Fds w' A2 (putL l f) ∧ Below w.heap.size w w' := by
  obtain ⟨i0, hi, hz0, hz1, hz2⟩ := info_parts parts_fd
  have hit := info_fd2
  have HPO1 := Lib.hid (fun k (hk : k < l.length) (h : (l[k]).id ≠ f.id) => show pD (l.take (k + 1)) f = pD (l.take k) f ∧ pO (l.take (k + 1)) f = pO (l.take k) f ++ [l[k]] from by rw [List.take_succ_eq_append_getElem hk]; exact ⟨pD_other h, pO_other h⟩)
  have HPO2 := Lib.hid (fun k (hk : k < l.length) (hd : pD (l.take k) f = false) (h : (l[k]).id = f.id) => show pD (l.take (k + 1)) f = true ∧ pO (l.take (k + 1)) f = pO (l.take k) f ++ [f] from by rw [List.take_succ_eq_append_getElem hk]; exact pO_new hd h)
  have HPO3 := Lib.hid (fun k (hk : k < l.length) (hd : pD (l.take k) f = true) (h : (l[k]).id = f.id) => show pD (l.take (k + 1)) f = true ∧ pO (l.take (k + 1)) f = pO (l.take k) f from by rw [List.take_succ_eq_append_getElem hk]; exact pO_again hd h)
  have HEND := Lib.hid (@pO_end l f)
  have HLEN := Lib.hid (fun k => pO_len (l.take k) f)
  have HS0 := Lib.hid (show PS w (w.alloc (.cells #[.int .u16 (f.id : Nat), .string f.d] 38)) (.slice none 0 0) f.id f.d [] from ⟨World.ownsRow_nil _ _ _ _, (Below.refl _ _).alloc (Nat.le_refl _) _, heap_alloc_new w _⟩)
  have HF0 := Lib.hid (hF.below (Nat.le_refl _) ((Below.refl w.heap.size w).alloc (Nat.le_refl _) (.cells #[.int .u16 (f.id : Nat), .string f.d] 38)))
  have h00 : pD (l.take 0) f = false ∧ pO (l.take 0) f = [] := ⟨rfl, rfl⟩
  have H00 := Lib.hid h00
  have HF := Lib.hid hF
  clear hF h00
  generalize hpl : putL l f = pl at HEND
  have HPL := Lib.hid hpl
  clear hpl
  obtain ⟨fid, fd⟩ := f
  dsimp only at *
  go_enter Try.func20, Try.ntmps20
  go_wp2_with fail
  generalize w.alloc (.cells #[.int .u16 (fid : Nat), .string fd] 38) = w0 at *
  clear HF0
  go_loopw [5, 6, 11] (fun v dn i wr => ∃ k : Nat, k ≤ l.length ∧ i = .int .i64 (k : Nat) ∧ dn = .bool (pD (l.take k) ⟨fid, fd⟩) ∧ Hid (PS w wr v fid fd (pO (l.take k) ⟨fid, fd⟩))) (fun _ _ i _ => l.length - (intOf i).toNat)
  case atStart => exact ⟨0, Nat.zero_le _, rfl, by rw [H00.out.1], by rw [H00.out.2]; exact HS0.out⟩
  case round =>
    obtain ⟨k, hk, rfl, rfl, HS⟩ := hrel
    have hol := HLEN.out k
    rw [List.length_take] at hol
    obtain ⟨A2, cp2, rfl⟩ := slice_of_own HS.out.row
    by_cases hkn : k < l.length
    · obtain ⟨b, off, rfl, hbl, hc⟩ := (HF.out.below (Nat.le_refl _) HS.out.bel) (by omega)
      obtain ⟨c0, c1⟩ := hc k hkn
      have HP1 := Lib.hid (HPO1.out k hkn)
      have HP2 := Lib.hid (HPO2.out k hkn)
      have HP3 := Lib.hid (HPO3.out k hkn)
      clear hc
      have hbox := fd_box l[k] wr
      generalize l[k] = t at *
      generalize pO (l.take k) ⟨fid, fd⟩ = o at *
      obtain ⟨tid, td⟩ := t
      dsimp only at c0 c1 hbox HP1 HP2 HP3
      obtain ⟨d0, d1⟩ := hbox
      have HS1 := Lib.hid (HS.out.alloc (.cells #[.int .u16 (tid : Nat), .string td] 38))
      have f0 : (wr.alloc (.cells #[.int .u16 (tid : Nat), .string td] 38)).cell? ⟨w.heap.size, 0, none⟩ = some (.int .u16 (fid : Nat)) := by rw [cell_of_row _ _ 0 _ _ _ HS1.out.box]; rfl
      have f1 : (wr.alloc (.cells #[.int .u16 (tid : Nat), .string td] 38)).cell? ⟨w.heap.size, 1, none⟩ = some (.string fd) := by rw [cell_of_row _ _ 1 _ _ _ HS1.out.box]; rfl
      have hbz : w.heap.size ≤ wr.heap.size := HS.out.bel.size
      have hbs : w.heap.size + 1 ≤ (wr.alloc (.cells #[.int .u16 (tid : Nat), .string td] 38)).heap.size := by have := HS.out.bel.size; simp; omega
      by_cases hid : tid = fid
      · have he : ((tid : Int) != (fid : Int)) = false := by rw [hid]; simp
        cases hd : pD (l.take k) ⟨fid, fd⟩ with
        | true =>
          obtain ⟨g1, g2⟩ := HP3.out hd hid
          have G1 := Lib.hid g1
          have G2 := Lib.hid g2
          clear g1 g2 HP1 HP2 HP3 hd hid
          go_wp2_with fail
          go_roundw
          case rel => exact ⟨k + 1, by omega, by go_num, by rw [G1.out], by rw [G2.out]; exact HS1.out⟩
          case measure => simp [intOf]; omega
        | false =>
          obtain ⟨g1, g2⟩ := HP2.out hd hid
          have G1 := Lib.hid g1
          have G2 := Lib.hid g2
          clear g1 g2 HP1 HP2 HP3 hd hid
          have HX5 : Hid (((wr.alloc (.cells #[.int .u16 (tid : Nat), .string td] 38)).alloc (.cells #[.int .u16 (fid : Nat), .string fd] 38)).heap[wr.heap.size + 1]? = some (.cells #[.int .u16 (fid : Nat), .string fd] 38 (0, 0))) := heap_at2 wr _ _
          go_wp2_with (at_builtin; go_must (refine wpList_append_own_at _ rfl (.tmp 26) (.tmp 28) _ rfl (w.heap.size + 1) 38 i0 (.agg #[.int .u16 0, .string ⟨#[]⟩]) 2 24 Try.underlying22 hi hz0 hz1 hz2 rfl (by decide) (.slice A2 o.length cp2) o.length _ rfl ((HS1.out.alloc _).row) ⟨wr.heap.size + 1, 0, none⟩ 1 1 [.int .u16 (fid : Nat), .string fd] rfl rfl (cells2 HX5.out) (cellF_one ⟨fid, fd⟩) (by unfold maxLen; omega) (by omega) (by simp; omega) ?_; intro v' w6 hown' hgrow hnil hloc))
          have HS6 := Lib.hid ((HS1.out.alloc _).put (g := ⟨fid, fd⟩) hown' hgrow)
          clear hown' hgrow hnil hloc
          go_wp2_with fail
          go_roundw
          case rel => exact ⟨k + 1, by omega, by go_num, by rw [G1.out], by rw [G2.out]; exact HS6.out⟩
          case measure => simp [intOf]; omega
      · have he : ((tid : Int) != (fid : Int)) = true := by rw [bne_iff_ne]; omega
        obtain ⟨g1, g2⟩ := HP1.out hid
        have G1 := Lib.hid g1
        have G2 := Lib.hid g2
        clear g1 g2 HP1 HP2 HP3 hid
        have HX5 : Hid (((wr.alloc (.cells #[.int .u16 (tid : Nat), .string td] 38)).alloc (.cells #[.int .u16 (tid : Nat), .string td] 38)).heap[wr.heap.size + 1]? = some (.cells #[.int .u16 (tid : Nat), .string td] 38 (0, 0))) := heap_at2 wr _ _
        generalize hdd : pD (l.take k) ⟨fid, fd⟩ = dd at *
        clear hdd
        go_wp2_with (at_builtin; go_must (refine wpList_append_own_at _ rfl (.tmp 20) (.tmp 22) _ rfl (w.heap.size + 1) 38 i0 (.agg #[.int .u16 0, .string ⟨#[]⟩]) 2 24 Try.underlying22 hi hz0 hz1 hz2 rfl (by decide) (.slice A2 o.length cp2) o.length _ rfl ((HS1.out.alloc _).row) ⟨wr.heap.size + 1, 0, none⟩ 1 1 [.int .u16 (tid : Nat), .string td] rfl rfl (cells2 HX5.out) (cellF_one ⟨tid, td⟩) (by unfold maxLen; omega) (by omega) (by simp; omega) ?_; intro v' w6 hown' hgrow hnil hloc))
        have HS6 := Lib.hid ((HS1.out.alloc _).put (g := ⟨tid, td⟩) hown' hgrow)
        clear hown' hgrow hnil hloc
        go_wp2_with fail
        go_roundw
        case rel => exact ⟨k + 1, by omega, by go_num, by rw [G1.out], by rw [G2.out]; exact HS6.out⟩
        case measure => simp [intOf]; omega
    · obtain rfl : k = l.length := by omega
      rw [List.take_length] at HS
      rw [List.take_length]
      have f0 : wr.cell? ⟨w.heap.size, 0, none⟩ = some (.int .u16 (fid : Nat)) := by rw [cell_of_row _ _ 0 _ _ _ HS.out.box]; rfl
      have f1 : wr.cell? ⟨w.heap.size, 1, none⟩ = some (.string fd) := by rw [cell_of_row _ _ 1 _ _ _ HS.out.box]; rfl
      have hbs : w.heap.size + 1 ≤ wr.heap.size := lt_of_heapE HS.out.box
      have hol2 := HLEN.out l.length
      rw [List.take_length] at hol2
      cases hd : pD l ⟨fid, fd⟩ with
      | true =>
        have HE := HEND.out
        rw [hd, if_pos rfl] at HE
        have HE2 := Lib.hid HE
        clear HE
        rw [List.take_length] at *
        go_wp2_with fail
        go_ret
        rw [HE2.out]
        exact ⟨A2, cp2, rfl, fds_of_own HS.out.row, HS.out.bel⟩
      | false =>
        have HE := HEND.out
        rw [hd, if_neg (by decide)] at HE
        have HE2 := Lib.hid HE
        clear HE
        rw [List.take_length] at *
        generalize pO l ⟨fid, fd⟩ = o at *
        have HX5 := Lib.hid (heap_alloc_new wr (.cells #[.int .u16 (fid : Nat), .string fd] 38))
        go_wp2_with (at_builtin; go_must (refine wpList_append_own_at _ rfl (.tmp 33) (.tmp 35) _ rfl (w.heap.size + 1) 38 i0 (.agg #[.int .u16 0, .string ⟨#[]⟩]) 2 24 Try.underlying22 hi hz0 hz1 hz2 rfl (by decide) (.slice A2 o.length cp2) o.length _ rfl ((HS.out.alloc _).row) ⟨wr.heap.size, 0, none⟩ 1 1 [.int .u16 (fid : Nat), .string fd] rfl rfl (cells2 HX5.out) (cellF_one ⟨fid, fd⟩) (by unfold maxLen; omega) (by omega) (by simp; omega) ?_; intro v' w6 hown' hgrow hnil hloc))
        have HS6 := Lib.hid ((HS.out.alloc _).put (g := ⟨fid, fd⟩) hown' hgrow)
        clear hown' hgrow hnil hloc
        obtain ⟨A3, cp3, hv⟩ := slice_of_own HS6.out.row
        subst hv
        go_wp2_with fail
        go_ret
        rw [HE2.out]
        exact ⟨A3, cp3, rfl, fds_of_own HS6.out.row, HS6.out.bel⟩
end Go.Proofs.Ytkiecgcjnlgbnaa
