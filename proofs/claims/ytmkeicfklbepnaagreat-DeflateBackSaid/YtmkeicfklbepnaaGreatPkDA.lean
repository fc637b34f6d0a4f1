/-
 Contracts: the codes of a dynamic block.
 Contracts: the codes of a dynamic block: the walk.
-/
import Derived.Test.YtmkeicfklbepnaaGreatPkBH

namespace Go.Proofs.YtmkeicfklbepnaaGreat
set_option maxRecDepth 100000
open Go.RowKit Go.Deep Go.Joins

/-- k bits were wanted from a on. -/
def RdS (w : World) (gr : Nat) (s : ByteArray) (a k : Nat) : Prop := (a + k ≤ 8 * s.size ∧ Rd 83 w gr s (a + k) 0) ∨ (8 * s.size < a + k ∧ ∃ a', a' ≤ 8 * s.size ∧ Rd 83 w gr s a' 3)
theorem readS (w : World) (gr : Nat) (s : ByteArray) (a k n : Nat) (hs : s.size ≤ 1000000) (hn : n ≤ 32) (h : RdS w gr s a k) :
  Calls Tryz.prog 35 #[.pointer (some ⟨gr, 0, none⟩), .int .i64 (n : Nat)] w fun r w' => ∃ v : Nat, r = .returned (.int .u32 (v : Nat)) ∧ v < 2 ^ n ∧ w.grownBy w' (some gr) ∧ RdS w' gr s a (k + n) ∧ (a + (k + n) ≤ 8 * s.size → v = bitsAt (num s) (a + k) n) := by
 rcases h with ⟨h1, h2⟩ | ⟨h1, a', h2, h3⟩
 ·by_cases hk : a + (k + n) ≤ 8 * s.size
  ·refine (read_ok gr s (a + k) n hs hn (by omega) w h2).mono ?_
   rintro r w' ⟨rfl, hr, hg⟩
   exact ⟨_, rfl, bitsAt_lt _ _ n, hg, .inl ⟨hk, by rw [← Nat.add_assoc]; exact hr⟩, fun _ => rfl⟩
  ·refine (read_short gr s (a + k) n hs h1 hn (by omega) w h2).mono ?_
   rintro r w' ⟨rfl, hr, hg⟩
   exact ⟨0, rfl, Nat.two_pow_pos n, hg, .inr ⟨by omega, _, h1, hr⟩, fun h => absurd h hk⟩
 ·refine (read_bad gr s a' n 3 hs h2 (by omega) w h3).mono ?_
  rintro r w' ⟨rfl, hr, hg⟩
  exact ⟨0, rfl, Nat.two_pow_pos n, hg, .inr ⟨by omega, _, h2, hr⟩, fun h => absurd h (by omega)⟩
theorem RdS.rd {w : World} {gr : Nat} {s : ByteArray} {a k : Nat} (h : RdS w gr s a k) : ∃ a' e', Rd 83 w gr s a' e' := by
 rcases h with ⟨_, h⟩ | ⟨_, a', _, h⟩
 ·exact ⟨_, _, h⟩
 ·exact ⟨_, _, h⟩
/-- What stands behind the three numbers. -/
noncomputable def dynR (x y z : Nat) : Mm (Cod × Cod) := if 286 < 257 + x ∨ 30 < 1 + y then failM 10 else bindM (outerM (4 + z)) fun c => bindM (rowM c (257 + x + (1 + y))) fun l =>
  if l.getD 256 0 = 0 then failM 10 else bindM (pairM (codL (l.take (257 + x))) (codL (l.drop (257 + x)))) fun _ => retM (codL (l.take (257 + x)), codL (l.drop (257 + x)))
theorem dyn_ok (src : Src) (a : Nat) (o : List Nat) (h : a + 14 ≤ src.L) : dynamicM src a o = dynR (bitsAt src.N a 5) (bitsAt src.N (a + 5) 5) (bitsAt src.N (a + 10) 4) src (a + 14) o := by
 unfold dynamicM
 rw [bind_ok (show readM1 5 src a o = _ from if_pos (by omega)), bind_ok (show readM1 5 src (a + 5) o = _ from if_pos (by omega)), bind_ok (show readM1 4 src (a + 5 + 5) o = _ from if_pos (by omega))]
 rfl
theorem dyn_short (src : Src) (a : Nat) (o : List Nat) (h : src.L < a + 14) : dynamicM src a o = .error 3 := by
 unfold dynamicM
 by_cases h1 : a + 5 ≤ src.L
 ·rw [bind_ok (show readM1 5 src a o = _ from if_pos h1)]
  by_cases h2 : a + 5 + 5 ≤ src.L
  ·rw [bind_ok (show readM1 5 src (a + 5) o = _ from if_pos h2), bind_err (show readM1 4 src (a + 5 + 5) o = _ from if_neg (by omega))]
  ·rw [bind_err (show readM1 5 src (a + 5) o = _ from if_neg h2)]
 ·rw [bind_err (show readM1 5 src a o = _ from if_neg h1)]
theorem bind_inv {α β : Type} {m : Mm α} {f : α → Mm β} {s : Src} {a : Nat} {o : List Nat} {p : β × Nat × List Nat} (h : bindM m f s a o = .ok p) : ∃ x a1 o1, m s a o = .ok (x, a1, o1) ∧ f x s a1 o1 = .ok p := by
 unfold bindM at h
 split at h
 ·cases h
 ·exact ⟨_, _, _, ‹_›, h⟩
theorem ret_inv {α : Type} {x y : α} {s : Src} {a a1 : Nat} {o o1 : List Nat} (h : retM x s a o = .ok (y, a1, o1)) : x = y ∧ a = a1 ∧ o = o1 := by
 unfold retM at h
 injection h with h
 cases h
 exact ⟨rfl, rfl, rfl⟩
theorem row_inl {c : Cod} {many : Nat} {src : Src} {row l : List Nat} {a a1 : Nat} {o o1 : List Nat} (h : rowStep c many row src a o = .ok (.inl l, a1, o1)) : o1 = o := by
 unfold rowStep at h
 split at h
 ·obtain ⟨x, a2, o2, h2, h⟩ := bind_inv h
  obtain ⟨p, a3, o3, h3, h⟩ := bind_inv h
  obtain ⟨_, _, rfl⟩ := ret_inv h
  rw [(run_o h3).1, sign_same h2]
 ·split at h
  ·cases h
  ·cases h
theorem row_inr {c : Cod} {many : Nat} {src : Src} {row l : List Nat} {a a1 : Nat} {o o1 : List Nat} (h : rowStep c many row src a o = .ok (.inr l, a1, o1)) : o1 = o ∧ l.length = many := by
 unfold rowStep at h
 split at h
 ·obtain ⟨x, a2, o2, h2, h⟩ := bind_inv h
  obtain ⟨p, a3, o3, h3, h⟩ := bind_inv h
  obtain ⟨h, _⟩ := ret_inv h
  cases h
 ·split at h
  ·cases h
  ·obtain ⟨h4, _, h5⟩ := ret_inv h
   injection h4 with h4
   subst h4
   exact ⟨h5.symm, by omega⟩
theorem it_row (c : Cod) (many : Nat) (src : Src) : ∀ k row a o l a1 o1, itM (rowStep c many) src k row a o = some (.ok (l, a1, o1)) → o1 = o ∧ l.length = many
 | 0, row, a, o, l, a1, o1, h => by cases h
 | k + 1, row, a, o, l, a1, o1, h => by
  rw [itM] at h
  split at h
  ·cases h
  ·rename_i y a2 o2 hb
   injection h with h
   injection h with h
   cases h
   exact row_inr hb
  ·rename_i c1 a2 o2 hb
   have e1 := it_row c many src k _ _ _ l a1 o1 h
   rw [row_inl hb] at e1
   exact e1
theorem row_len {c : Cod} {many : Nat} {src : Src} {a a1 : Nat} {o o1 l : List Nat} (h : rowM c many src a o = .ok (l, a1, o1)) : o1 = o ∧ l.length = many := by
 obtain ⟨k, hk⟩ := loop_ok h
 exact it_row c many src k _ _ _ _ _ _ hk
theorem make_inv {c : Cod} {op : Bool} {src : Src} {a a1 : Nat} {o o1 : List Nat} {u : Unit} (h : makeM c op src a o = .ok (u, a1, o1)) : a1 = a ∧ o1 = o ∧ may c op := by
 unfold makeM at h
 split at h
 ·obtain ⟨_, h1, h2⟩ := ret_inv h
  exact ⟨h1.symm, h2.symm, ‹_›⟩
 ·cases h
theorem outer_n {told : Nat} {src : Src} {a a1 : Nat} {o o1 : List Nat} {c : Cod} (ha : a ≤ src.L) (h : outerM told src a o = .ok (c, a1, o1)) : c.n = 19 ∧ o1 = o := by
 unfold outerM at h
 obtain ⟨l, a2, o2, h2, h⟩ := bind_inv h
 obtain ⟨u, a3, o3, h3, h⟩ := bind_inv h
 obtain ⟨rfl, _, rfl⟩ := ret_inv h
 refine ⟨rfl, ?_⟩
 rw [(make_inv h3).2.1]
 rw [threes_eq src a o told ha] at h2
 split at h2
 ·injection h2 with h2
  cases h2
  rfl
 ·cases h2
end Go.Proofs.YtmkeicfklbepnaaGreat

namespace Go.Proofs.YtmkeicfklbepnaaGreat
set_option maxRecDepth 100000
open Go.RowKit Go.Deep Go.Joins

def dyOk (p : Cod × Cod) (r : Ending) (w' : World) : Prop := ∃ gs gd, r = .returned (.tuple #[CsV gs gd, .int .i64 0]) ∧ CdC w' gs p.1 ∧ CdC w' gd p.2
def dyBad (e : Nat) (r : Ending) : Prop := ∃ p q, r = .returned (.tuple #[.agg #[.pointer p, .pointer q], .int .i64 (e : Nat)])
theorem RdS.below {w w' : World} {B gr a k : Nat} {s : ByteArray} (h : RdS w gr s a k) (hb : Below B w w') (hg : gr < B) : RdS w' gr s a k := by
 rcases h with ⟨h1, h2⟩ | ⟨h1, a', h2, h3⟩
 ·exact .inl ⟨h1, h2.below hb hg⟩
 ·exact .inr ⟨h1, a', h2, h3.below hb hg⟩
theorem codL_15 (l : List Nat) (h : ∀ y ∈ l, y ≤ 15) : ∀ i, i < (codL l).n → (codL l).ls i ≤ 15 := fun i hi => by
 show l.getD i 0 ≤ 15
 rw [List.getD_eq_getElem?_getD, List.getElem?_eq_getElem (show i < l.length from hi)]
 exact h _ (List.getElem_mem _)
theorem pair_yes {c d : Cod} (h1 : may c true) (h2 : may d true) {src : Src} {a : Nat} {o : List Nat} : pairM c d src a o = .ok ((), a, o) := by
 unfold pairM bindM makeM
 rw [if_pos h1]
 show (if may d true then _ else _ : Mm Unit) src a o = _
 rw [if_pos h2]
 rfl
theorem pair_not1 {c d : Cod} (h1 : ¬ may c true) {src : Src} {a : Nat} {o : List Nat} : pairM c d src a o = .error 10 := by
 unfold pairM bindM makeM
 rw [if_neg h1]
 rfl
theorem pair_not2 {c d : Cod} (h1 : may c true) (h2 : ¬ may d true) {src : Src} {a : Nat} {o : List Nat} : pairM c d src a o = .error 10 := by
 unfold pairM bindM makeM
 rw [if_pos h1]
 show (if may d true then _ else _ : Mm Unit) src a o = _
 rw [if_neg h2]
 rfl
/-- A row's two parts. -/
theorem lens_parts {w : World} {B gA cap : Nat} {l : List Nat} (h : w.ownsRow B 5 1 (.slice (some ⟨gA, 0, none⟩) l.length cap) l.length (cells8 l)) (h15 : ∀ y ∈ l, y ≤ 15) (k : Nat) (hk : k ≤ l.length) :
  Lens w (some ⟨gA, 0, none⟩) (codL (l.take k)).n (codL (l.take k)).ls ∧ Lens w (some ⟨gA, k, none⟩) (codL (l.drop k)).n (codL (l.drop k)).ls := by
 have hlt := (h.lt gA rfl).2
 have hc : ∀ i, i < l.length → w.cell? ⟨gA, i, none⟩ = some (.int .u8 (l.getD i 0 : Nat)) ∧ l.getD i 0 < 256 := fun i hi => by
  have h1 := h.cellAt i (by omega)
  refine ⟨?_, bytes_get (fun x hx => by have := h15 x hx; omega) hi⟩
  rw [h1]
  simp only [cells8, List.getElem?_map, List.getElem?_eq_getElem hi, Option.map_some, List.getD_eq_getElem?_getD, Option.getD_some]
 refine ⟨fun _ => ⟨gA, 0, rfl, hlt, fun i hi => ?_⟩, fun _ => ⟨gA, k, rfl, hlt, fun i hi => ?_⟩⟩
 ·have hi' : i < (l.take k).length := hi
  rw [List.length_take] at hi'
  have h2 : (codL (l.take k)).ls i = l.getD i 0 := by
   show (l.take k).getD i 0 = l.getD i 0
   rw [List.getD_eq_getElem?_getD, List.getD_eq_getElem?_getD, List.getElem?_take_of_lt (by omega)]
  rw [h2, Nat.zero_add]
  exact hc i (by omega)
 ·have hi' : i < (l.drop k).length := hi
  rw [List.length_drop] at hi'
  have h2 : (codL (l.drop k)).ls i = l.getD (k + i) 0 := by
   show (l.drop k).getD i 0 = l.getD (k + i) 0
   rw [List.getD_eq_getElem?_getD, List.getD_eq_getElem?_getD, List.getElem?_drop]
  rw [h2]
  exact hc (k + i) (by omega)

set_option maxHeartbeats 8000000 in
theorem idynamic_any (g gr a lim : Nat) (s : ByteArray) (o : List Nat) (hs : s.size ≤ 1000000) (ha : a ≤ 8 * s.size) (w : World) (hp : Pin w g gr) (hr : Rd 83 w gr s a 0) :
  Calls Tryz.prog 40 #[.pointer (some ⟨g, 0, none⟩)] w (PRW w gr s dyOk dyBad (dynamicM (srcOf s lim) a o)) := by
 have HDO := Lib.hid (fun h => dyn_ok (srcOf s lim) a o h)
 have HDS := Lib.hid (fun h => dyn_short (srcOf s lim) a o h)
 generalize dynamicM (srcOf s lim) a o = AN at *
 have hb0 : Below w.heap.size w (w.alloc (.cells #[.pointer none, .pointer none] 90)) := (Below.refl _ _).alloc (Nat.le_refl _) _
 have hp0 := hp.below hb0 hp.lt
 have hr0 := hr.below hb0 hr.lt
 have c0 := hp0.c0
 have hrs : RdS (w.alloc (.cells #[.pointer none, .pointer none] 90)) gr s a 0 := .inl ⟨ha, hr0⟩
 have HRS0 := Lib.hid (readS _ gr s a 0 5 hs (by omega) hrs)
 have HRB : Hid ((w.alloc (.cells #[.pointer none, .pointer none] 90)).heap[w.heap.size]? = some (.cells #[.pointer none, .pointer none] 90 (0, 0))) := heap_alloc_new w _
 have HP0 := Lib.hid hp0
 have HR0 := Lib.hid hr0
 have HB0 := Lib.hid hb0
 clear hp hr hp0 hr0 hb0 hrs
 go_enter Tryz.func40, Tryz.ntmps40
 go_wp2_with fail
 refine (HRS0.out).mono ?_; rintro e w1 ⟨x, rfl, hx, hg1, hst1, hxv⟩
 have HG01 : Hid (w.grownBy w1 (some gr)) := grown_then (grown_of_below HB0.out) hg1
 have HP1 := Lib.hid (HP0.out.grown HR0.out hg1)
 have hrb1 := (hg1.block _ (lt_of_heap HRB.out) (by intro hh; injection hh with hh; exact blk_ne HRB.out HR0.out (by decide) hh)).trans HRB.out
 have HRB1 := Lib.hid hrb1
 have HS1 := Lib.hid hst1
 have HXV := Lib.hid hxv
 have c1 := HP1.out.c0
 have HRD1 := Lib.hid (readS w1 gr s a (0 + 5) 5 hs (by omega) hst1)
 clear hg1 hrb1 hst1 hxv HRS0 HP0 HR0 HRB c0
 generalize hw0 : w.alloc (.cells #[.pointer none, .pointer none] 90) = w0 at *
 clear hw0
 have hx32 : x < 32 := hx
 obtain ⟨sg, hsg, hsgn⟩ : ∃ sg : Nat, (257 : Int) + (x : Int) = (sg : Int) ∧ sg = 257 + x := ⟨257 + x, by omega, rfl⟩
 have HSG := Lib.hid hsgn
 have hsgb : sg ≤ 288 := by omega
 clear hsgn hx
 go_wp2_with fail
 refine (HRD1.out).mono ?_; rintro e w2 ⟨y, rfl, hy, hg2, hst2, hyv⟩
 have HG02 := Lib.hid (grown_then HG01.out hg2)
 obtain ⟨a1, e1, hrd1⟩ := HS1.out.rd
 have HP2 := Lib.hid (HP1.out.grown hrd1 hg2)
 have hrb2 := (hg2.block _ (lt_of_heap HRB1.out) (by intro hh; injection hh with hh; exact blk_ne HRB1.out hrd1 (by decide) hh)).trans HRB1.out
 have HRB2 := Lib.hid hrb2
 have HS2 := Lib.hid hst2
 have HYV := Lib.hid hyv
 have c2 := HP2.out.c0
 have HRD2 := Lib.hid (readS w2 gr s a (0 + 5 + 5) 4 hs (by omega) hst2)
 clear hg2 hrb2 hst2 hyv hrd1 HRD1 HP1 HRB1 HS1 HG01 c1
 have hy32 : y < 32 := hy
 obtain ⟨ds, hds, hdsn⟩ : ∃ ds : Nat, (1 : Int) + (y : Int) = (ds : Int) ∧ ds = 1 + y := ⟨1 + y, by omega, rfl⟩
 have HDN := Lib.hid hdsn
 have hdsb : ds ≤ 32 := by omega
 clear hdsn hy
 go_wp2_with fail
 refine (HRD2.out).mono ?_; rintro e w3 ⟨z, rfl, hz, hg3, hst3, hzv⟩
 have HG03 := Lib.hid (grown_then HG02.out hg3)
 obtain ⟨a2, e2, hrd2⟩ := HS2.out.rd
 have HP3 := Lib.hid (HP2.out.grown hrd2 hg3)
 have hrb3 := (hg3.block _ (lt_of_heap HRB2.out) (by intro hh; injection hh with hh; exact blk_ne HRB2.out hrd2 (by decide) hh)).trans HRB2.out
 have HRB3 := Lib.hid hrb3
 have HS3 := Lib.hid hst3
 have HZV := Lib.hid hzv
 have c3 := HP3.out.c0
 clear hg3 hrb3 hst3 hzv hrd2 HRD2 HP2 HRB2 HS2 HG02 c2
 have hz16 : z < 16 := hz
 obtain ⟨td, htd, htdn⟩ : ∃ td : Nat, (4 : Int) + (z : Int) = (td : Int) ∧ td = 4 + z := ⟨4 + z, by omega, rfl⟩
 have HTD := Lib.hid htdn
 have htdb : td ≤ 19 := by omega
 clear htdn hz
 have r0 : w3.cell? ⟨w.heap.size, 0, none⟩ = some (.pointer none) := by rw [cell_of_row w3 _ 0 _ _ _ HRB3.out]; rfl
 have r1 : w3.cell? ⟨w.heap.size, 1, none⟩ = some (.pointer none) := by rw [cell_of_row w3 _ 1 _ _ _ HRB3.out]; rfl
 have rf0 := frozen_of_row w3 _ 0 _ _ HRB3.out
 have rf1 := frozen_of_row w3 _ 1 _ _ HRB3.out
 rcases HS3.out with ⟨h14, hrd3⟩ | ⟨h14, a3, ha3, hrd3⟩
 ·have hxv := HXV.out (by omega)
  have hyv := HYV.out (by omega)
  have hzv := HZV.out (by omega)
  have h14' : a + 14 ≤ 8 * s.size := by omega
  have HAN : Hid (AN = dynR x y z (srcOf s lim) (a + 14) o) := by
   rw [hxv, hyv, hzv]
   exact HDO.out h14'
  have hrd3' : Rd 83 w3 gr s (a + 14) 0 := hrd3
  have HER := Lib.hid (err_any gr s (a + 14) 0 w3 hrd3')
  have HRD3 := Lib.hid hrd3'
  clear hrd3 hrd3' hxv hyv hzv HXV HYV HZV HDO HDS HS3
  go_wp2_with fail
  refine (HER.out).mono ?_; rintro e w4 ⟨rfl, rfl⟩
  by_cases hsb : 286 < sg
  ·have HE : Hid (AN = .error 10) := HAN.out.trans (by unfold dynR; rw [if_pos (.inl (by have := HSG.out; omega))]; rfl)
   have hsbi : decide ((286 : Int) < (sg : Int)) = true := decide_eq_true (by omega)
   go_wp2
   have hr9 := two_cells (x := .pointer none) (y := .pointer none) HRB3.out
   have hg9 : w.grownBy ((w3.setCell ⟨w.heap.size, 0, none⟩ (.pointer none)).setCell ⟨w.heap.size, 1, none⟩ (.pointer none)) (some gr) := grown_new (grown_new HG03.out (Nat.le_refl _) _ _) (Nat.le_refl _) _ _
   generalize (w3.setCell ⟨w.heap.size, 0, none⟩ (.pointer none)).setCell ⟨w.heap.size, 1, none⟩ (.pointer none) = w9 at *
   have e0' : w9.cell? ⟨w.heap.size, 0, none⟩ = some (.pointer none) := by rw [cell_of_row w9 _ 0 _ _ _ hr9]; rfl
   have e1' : w9.cell? ⟨w.heap.size, 1, none⟩ = some (.pointer none) := by rw [cell_of_row w9 _ 1 _ _ _ hr9]; rfl
   exact bodyPost_ret (v := .tuple #[.agg #[.pointer none, .pointer none], .int .i64 10]) (by simp [results, Tryz.results40, go_sem, e0', e1']) rfl (.err HE.out hg9 ⟨none, none, rfl⟩ (by omega) (by omega))
  ·have hsbi : decide ((286 : Int) < (sg : Int)) = false := decide_eq_false (by omega)
   by_cases hdb : 30 < ds
   ·have HE : Hid (AN = .error 10) := HAN.out.trans (by unfold dynR; rw [if_pos (.inr (by have := HDN.out; omega))]; rfl)
    have hdbi : decide ((30 : Int) < (ds : Int)) = true := decide_eq_true (by omega)
    go_wp2
    have hr9 := two_cells (x := .pointer none) (y := .pointer none) HRB3.out
    have hg9 : w.grownBy ((w3.setCell ⟨w.heap.size, 0, none⟩ (.pointer none)).setCell ⟨w.heap.size, 1, none⟩ (.pointer none)) (some gr) := grown_new (grown_new HG03.out (Nat.le_refl _) _ _) (Nat.le_refl _) _ _
    generalize (w3.setCell ⟨w.heap.size, 0, none⟩ (.pointer none)).setCell ⟨w.heap.size, 1, none⟩ (.pointer none) = w9 at *
    have e0' : w9.cell? ⟨w.heap.size, 0, none⟩ = some (.pointer none) := by rw [cell_of_row w9 _ 0 _ _ _ hr9]; rfl
    have e1' : w9.cell? ⟨w.heap.size, 1, none⟩ = some (.pointer none) := by rw [cell_of_row w9 _ 1 _ _ _ hr9]; rfl
    exact bodyPost_ret (v := .tuple #[.agg #[.pointer none, .pointer none], .int .i64 10]) (by simp [results, Tryz.results40, go_sem, e0', e1']) rfl (.err HE.out hg9 ⟨none, none, rfl⟩ (by omega) (by omega))
   ·have hdbi : decide ((30 : Int) < (ds : Int)) = false := decide_eq_false (by omega)
    obtain ⟨nn, hnn, hnnn⟩ : ∃ nn : Nat, (sg : Int) + (ds : Int) = (nn : Int) ∧ nn = sg + ds := ⟨sg + ds, by omega, rfl⟩
    have HNN := Lib.hid hnnn
    have hsg257 : 257 ≤ sg := by have := HSG.out; omega
    have hds1 : 1 ≤ ds := by have := HDN.out; omega
    have hnnb : nn ≤ 316 ∧ sg < nn := by omega
    obtain ⟨hnnb, hsn⟩ := hnnb
    clear hnnn
    have HAN2 : Hid (AN = bindM (outerM td) (fun c => bindM (rowM c nn) fun l => if l.getD 256 0 = 0 then failM 10 else bindM (pairM (codL (l.take sg)) (codL (l.drop sg))) fun _ => retM (codL (l.take sg), codL (l.drop sg))) (srcOf s lim) (a + 14) o) := by
     show _ = _
     rw [HNN.out, HSG.out, HDN.out, HTD.out]
     refine HAN.out.trans ?_
     unfold dynR
     rw [if_neg (by have := HSG.out; have := HDN.out; omega)]
    have HOU := Lib.hid (outer_any g gr (a + 14) td lim s o hs h14' htdb w3 HP3.out HRD3.out)
    clear HAN HER
    go_wp2_with fail
    refine (HOU.out).mono ?_; rintro e w4 hpr
    cases hn : outerM td (srcOf s lim) (a + 14) o with
    | error k =>
     obtain ⟨hg4, hbad, hk0, hk1⟩ := hpr.of_err hn
     unfold ouBad at hbad
     subst hbad
     have HE := Lib.hid (HAN2.out.trans (bind_err hn))
     have hne : ((k : Int) == 0) = false := by rw [beq_eq_false_iff_ne]; omega
     have HG4 := Lib.hid (grown_then HG03.out hg4)
     have HRB4 : Hid (w4.heap[w.heap.size]? = some (.cells #[.pointer none, .pointer none] 90 (0, 0))) := (hg4.block _ (lt_of_heap HRB3.out) (by intro hh; injection hh with hh; exact blk_ne HRB3.out HRD3.out (by decide) hh)).trans HRB3.out
     have r0 : w4.cell? ⟨w.heap.size, 0, none⟩ = some (.pointer none) := by rw [cell_of_row w4 _ 0 _ _ _ HRB4.out]; rfl
     have r1 : w4.cell? ⟨w.heap.size, 1, none⟩ = some (.pointer none) := by rw [cell_of_row w4 _ 1 _ _ _ HRB4.out]; rfl
     have rf0 := frozen_of_row w4 _ 0 _ _ HRB4.out
     have rf1 := frozen_of_row w4 _ 1 _ _ HRB4.out
     clear hn hpr hg4
     go_wp2
     have hr9 := two_cells (x := .pointer none) (y := .pointer none) HRB4.out
     have hg9 : w.grownBy ((w4.setCell ⟨w.heap.size, 0, none⟩ (.pointer none)).setCell ⟨w.heap.size, 1, none⟩ (.pointer none)) (some gr) := grown_new (grown_new HG4.out (Nat.le_refl _) _ _) (Nat.le_refl _) _ _
     generalize (w4.setCell ⟨w.heap.size, 0, none⟩ (.pointer none)).setCell ⟨w.heap.size, 1, none⟩ (.pointer none) = w9 at *
     have e0' : w9.cell? ⟨w.heap.size, 0, none⟩ = some (.pointer none) := by rw [cell_of_row w9 _ 0 _ _ _ hr9]; rfl
     have e1' : w9.cell? ⟨w.heap.size, 1, none⟩ = some (.pointer none) := by rw [cell_of_row w9 _ 1 _ _ _ hr9]; rfl
     exact bodyPost_ret (v := .tuple #[.agg #[.pointer none, .pointer none], .int .i64 (k : Nat)]) (by simp [results, Tryz.results40, go_sem, e0', e1']) rfl (.err HE.out hg9 ⟨none, none, rfl⟩ hk0 hk1)
    | ok q =>
     obtain ⟨c, a5, o5⟩ := q
     obtain ⟨hcn, rfl⟩ := outer_n (src := srcOf s lim) h14' hn
     obtain ⟨hg4, ⟨gc, rfl, hcd⟩, hr4, ha5⟩ := hpr.of_ok hn
     have HAN3 := Lib.hid (HAN2.out.trans (bind_ok hn))
     have HG4 := Lib.hid (grown_then HG03.out hg4)
     have HRB4 : Hid (w4.heap[w.heap.size]? = some (.cells #[.pointer none, .pointer none] 90 (0, 0))) := (hg4.block _ (lt_of_heap HRB3.out) (by intro hh; injection hh with hh; exact blk_ne HRB3.out HRD3.out (by decide) hh)).trans HRB3.out
     have HP4 := Lib.hid (HP3.out.grown HRD3.out hg4)
     have HR4 := Lib.hid hr4
     have HRW := Lib.hid (row_any g gr gc a5 nn lim s o5 c hs ha5 (by omega) (by omega) w4 HP4.out hr4 hcd)
     clear hn hpr hg4 hr4 hcd HAN2 HOU hcn r0 r1 rf0 rf1
     go_wp2_with fail
     refine (HRW.out).mono ?_; rintro e w5 hpr
     cases hn : rowM c nn (srcOf s lim) a5 o5 with
     | error k =>
      obtain ⟨hg5, hbad, hk0, hk1⟩ := hpr.of_err hn
      unfold rwBad at hbad
      subst hbad
      have HE := Lib.hid (HAN3.out.trans (bind_err hn))
      have hne : ((k : Int) == 0) = false := by rw [beq_eq_false_iff_ne]; omega
      have HG5 := Lib.hid (grown_then HG4.out hg5)
      have HRB5 : Hid (w5.heap[w.heap.size]? = some (.cells #[.pointer none, .pointer none] 90 (0, 0))) := (hg5.block _ (lt_of_heap HRB4.out) (by intro hh; injection hh with hh; exact blk_ne HRB4.out HR4.out (by decide) hh)).trans HRB4.out
      have r0 : w5.cell? ⟨w.heap.size, 0, none⟩ = some (.pointer none) := by rw [cell_of_row w5 _ 0 _ _ _ HRB5.out]; rfl
      have r1 : w5.cell? ⟨w.heap.size, 1, none⟩ = some (.pointer none) := by rw [cell_of_row w5 _ 1 _ _ _ HRB5.out]; rfl
      have rf0 := frozen_of_row w5 _ 0 _ _ HRB5.out
      have rf1 := frozen_of_row w5 _ 1 _ _ HRB5.out
      clear hn hpr hg5
      go_wp2
      have hr9 := two_cells (x := .pointer none) (y := .pointer none) HRB5.out
      have hg9 : w.grownBy ((w5.setCell ⟨w.heap.size, 0, none⟩ (.pointer none)).setCell ⟨w.heap.size, 1, none⟩ (.pointer none)) (some gr) := grown_new (grown_new HG5.out (Nat.le_refl _) _ _) (Nat.le_refl _) _ _
      generalize (w5.setCell ⟨w.heap.size, 0, none⟩ (.pointer none)).setCell ⟨w.heap.size, 1, none⟩ (.pointer none) = w9 at *
      have e0' : w9.cell? ⟨w.heap.size, 0, none⟩ = some (.pointer none) := by rw [cell_of_row w9 _ 0 _ _ _ hr9]; rfl
      have e1' : w9.cell? ⟨w.heap.size, 1, none⟩ = some (.pointer none) := by rw [cell_of_row w9 _ 1 _ _ _ hr9]; rfl
      exact bodyPost_ret (v := .tuple #[.agg #[.pointer none, .pointer none], .int .i64 (k : Nat)]) (by simp [results, Tryz.results40, go_sem, e0', e1']) rfl (.err HE.out hg9 ⟨none, none, rfl⟩ hk0 hk1)
     | ok q =>
      obtain ⟨l, a6, o6⟩ := q
      obtain ⟨ho6, hll⟩ := row_len hn
      subst ho6
      obtain ⟨hg5, ⟨⟨A, cap, rfl, ho5⟩, h15⟩, hr5, ha6⟩ := hpr.of_ok hn
      obtain ⟨gA, rfl⟩ : ∃ gA, A = some ⟨gA, 0, none⟩ := by
       rcases ownsRow_forms ho5 with ⟨h1, h2⟩ | ⟨g2, cap2, h1⟩
       ·omega
       ·injection h1 with h1 _ _
        exact ⟨g2, h1⟩
      have hcap : l.length ≤ cap := by
       rcases ho5.2 with ⟨h0, _⟩ | ⟨g2, cap2, cur, h0, _, _, hnc, _⟩
       ·cases h0
       ·injection h0 with _ _ h0
        omega
      have HAN4 := Lib.hid (HAN3.out.trans (bind_ok hn))
      have HG5 := Lib.hid (grown_then HG4.out hg5)
      have HRB5 : Hid (w5.heap[w.heap.size]? = some (.cells #[.pointer none, .pointer none] 90 (0, 0))) := (hg5.block _ (lt_of_heap HRB4.out) (by intro hh; injection hh with hh; exact blk_ne HRB4.out HR4.out (by decide) hh)).trans HRB4.out
      have r0 : w5.cell? ⟨w.heap.size, 0, none⟩ = some (.pointer none) := by rw [cell_of_row w5 _ 0 _ _ _ HRB5.out]; rfl
      have r1 : w5.cell? ⟨w.heap.size, 1, none⟩ = some (.pointer none) := by rw [cell_of_row w5 _ 1 _ _ _ HRB5.out]; rfl
      have rf0 := frozen_of_row w5 _ 0 _ _ HRB5.out
      have rf1 := frozen_of_row w5 _ 1 _ _ HRB5.out
      have HR5 := Lib.hid hr5
      have HO5 := Lib.hid ho5
      have H15 := Lib.hid h15
      have hcell : w5.cell? ⟨gA, 256, none⟩ = some (.int .u8 (l.getD 256 0 : Nat)) := by
       have h1 := ho5.cellAt 256 (by omega)
       rw [h1]
       simp only [cells8, List.getElem?_map, List.getElem?_eq_getElem (show 256 < l.length by omega), Option.map_some, List.getD_eq_getElem?_getD, Option.getD_some]
      have hidx : 256 < nn := by omega
      rw [hll] at hcap
      have HLL := Lib.hid hll
      clear hn hpr hg5 hr5 ho5 h15 HAN3 HRW HRB4 HG4 HP4 HR4
      rw [hll]
      clear hll
      by_cases hq : l.getD 256 0 = 0
      ·have HE : Hid (AN = .error 10) := HAN4.out.trans (by rw [if_pos hq]; rfl)
       rw [hq] at hcell
       clear hq
       go_wp2
       have hr9 := two_cells (x := .pointer none) (y := .pointer none) HRB5.out
       have hg9 : w.grownBy ((w5.setCell ⟨w.heap.size, 0, none⟩ (.pointer none)).setCell ⟨w.heap.size, 1, none⟩ (.pointer none)) (some gr) := grown_new (grown_new HG5.out (Nat.le_refl _) _ _) (Nat.le_refl _) _ _
       generalize (w5.setCell ⟨w.heap.size, 0, none⟩ (.pointer none)).setCell ⟨w.heap.size, 1, none⟩ (.pointer none) = w9 at *
       have e0' : w9.cell? ⟨w.heap.size, 0, none⟩ = some (.pointer none) := by rw [cell_of_row w9 _ 0 _ _ _ hr9]; rfl
       have e1' : w9.cell? ⟨w.heap.size, 1, none⟩ = some (.pointer none) := by rw [cell_of_row w9 _ 1 _ _ _ hr9]; rfl
       exact bodyPost_ret (v := .tuple #[.agg #[.pointer none, .pointer none], .int .i64 10]) (by simp [results, Tryz.results40, go_sem, e0', e1']) rfl (.err HE.out hg9 ⟨none, none, rfl⟩ (by omega) (by omega))
      ·have hqn : ((l.getD 256 0 : Nat) : Int) ≠ 0 := by omega
       have hqb : (((l.getD 256 0 : Nat) : Int) == 0) = false := by rw [beq_eq_false_iff_ne]; exact hqn
       have HAN5 : Hid (AN = bindM (pairM (codL (l.take sg)) (codL (l.drop sg))) (fun _ => retM (codL (l.take sg), codL (l.drop sg))) (srcOf s lim) a6 o6) := HAN4.out.trans (by rw [if_neg hq])
       have hsl : sg ≤ l.length := by have := HLL.out; omega
       obtain ⟨hL1, hL2⟩ := lens_parts HO5.out H15.out sg hsl
       have hn1 : (codL (l.take sg)).n = sg := by show (l.take sg).length = sg; rw [List.length_take]; omega
       have hn2 : (codL (l.drop sg)).n = nn - sg := by show (l.drop sg).length = nn - sg; rw [List.length_drop, HLL.out]
       have h15a := codL_15 (l.take sg) (fun y hy => H15.out y (List.mem_of_mem_take hy))
       have h15b := codL_15 (l.drop sg) (fun y hy => H15.out y (List.mem_of_mem_drop hy))
       generalize l.getD 256 0 = q at *
       have hck : ¬ cap = sg := by omega
       have hs0 : (0 : Int) ≤ (sg : Int) := by omega
       have hs1 : (sg : Int) ≤ (nn : Int) := by omega
       have hs2 : (nn : Int) ≤ (cap : Int) := by omega
       have hs3 : (sg : Int) ≤ (cap : Int) := by omega
       by_cases hm1 : may (codL (l.take sg)) true
       ·by_cases hm2 : may (codL (l.drop sg)) true
        ·have HPR := Lib.hid (pair_ok (some ⟨gA, 0, none⟩) (some ⟨gA, sg, none⟩) cap (cap - sg) (codL (l.take sg)) (codL (l.drop sg)) (by omega) (by omega) h15a h15b hm1 hm2 w5.drew (hL1.drewN 1) (hL2.drewN 1))
         rw [hn1, hn2] at HPR
         have HRBD : Hid (w5.drew.heap[w.heap.size]? = some (.cells #[.pointer none, .pointer none] 90 (0, 0))) := HRB5.out
         have HG5D : Hid (w.grownBy w5.drew (some gr)) := grown_then HG5.out (grown_drewN _ 1 _)
         have HR5D : Hid (Rd 83 w5.drew gr s a6 0) := HR5.out
         have HAN6 : Hid (AN = .ok ((codL (l.take sg), codL (l.drop sg)), a6, o6)) := HAN5.out.trans (bind_ok (pair_yes hm1 hm2))
         clear hL1 hL2 h15a h15b hn1 hn2 r0 r1 rf0 rf1
         go_wp2_with fail
         go_region_held3 (fun w' => True) (first | trivial) (first | (go_at_call 66; refine (HPR.out).mono ?_; rintro e w6 ⟨⟨gs, gd, rfl, hcs, hcd⟩, hb6⟩; unfold CsV; have hrb6 := (hb6.block _ (lt_of_heap HRBD.out)).trans HRBD.out; have q0 : w6.cell? ⟨w.heap.size, 0, none⟩ = some (.pointer none) := (by rw [cell_of_row w6 _ 0 _ _ _ hrb6]; rfl); have q1 : w6.cell? ⟨w.heap.size, 1, none⟩ = some (.pointer none) := (by rw [cell_of_row w6 _ 1 _ _ _ hrb6]; rfl); have qf0 := frozen_of_row w6 _ 0 _ _ hrb6; have qf1 := frozen_of_row w6 _ 1 _ _ hrb6))
         all_goals
          have hr9 := two_cells (x := .pointer (some ⟨gs, 0, none⟩)) (y := .pointer (some ⟨gd, 0, none⟩)) hrb6
          have hg9 : w.grownBy ((w6.setCell ⟨w.heap.size, 0, none⟩ (.pointer (some ⟨gs, 0, none⟩))).setCell ⟨w.heap.size, 1, none⟩ (.pointer (some ⟨gd, 0, none⟩))) (some gr) := grown_new (grown_new (grown_then HG5D.out (grown_of_below hb6)) (Nat.le_refl _) _ _) (Nat.le_refl _) _ _
          have hrd9 : Rd 83 ((w6.setCell ⟨w.heap.size, 0, none⟩ (.pointer (some ⟨gs, 0, none⟩))).setCell ⟨w.heap.size, 1, none⟩ (.pointer (some ⟨gd, 0, none⟩))) gr s a6 0 := ((HR5D.out.below hb6 HR5D.out.lt).set_other (Ne.symm (blk_ne hrb6 (HR5D.out.below hb6 HR5D.out.lt) (by decide)))).set_other (Ne.symm (blk_ne hrb6 (HR5D.out.below hb6 HR5D.out.lt) (by decide)))
          have hn9 := (near_set (i := 0) (v := .pointer (some ⟨gs, 0, none⟩)) hrb6 (by decide) (by decide)).then (near_set (i := 1) (v := .pointer (some ⟨gd, 0, none⟩)) (heap_setCell_same w6 w.heap.size 0 _ _ (.pointer (some ⟨gs, 0, none⟩)) hrb6) (by decide) (by decide))
          have hcs9 := hcs.near hn9
          have hcd9 := hcd.near hn9
          clear hcs hcd hn9
          generalize (w6.setCell ⟨w.heap.size, 0, none⟩ (.pointer (some ⟨gs, 0, none⟩))).setCell ⟨w.heap.size, 1, none⟩ (.pointer (some ⟨gd, 0, none⟩)) = w9 at *
          have e0' : w9.cell? ⟨w.heap.size, 0, none⟩ = some (.pointer (some ⟨gs, 0, none⟩)) := by rw [cell_of_row w9 _ 0 _ _ _ hr9]; rfl
          have e1' : w9.cell? ⟨w.heap.size, 1, none⟩ = some (.pointer (some ⟨gd, 0, none⟩)) := by rw [cell_of_row w9 _ 1 _ _ _ hr9]; rfl
          clear hrb6 q0 q1 qf0 qf1 hr9
          go_wp2
          exact bodyPost_ret (v := .tuple #[.agg #[.pointer (some ⟨gs, 0, none⟩), .pointer (some ⟨gd, 0, none⟩)], .int .i64 0]) (by simp [results, Tryz.results40, go_sem, e0', e1']) rfl (.ok HAN6.out hg9 ⟨gs, gd, rfl, hcs9, hcd9⟩ hrd9 ha6)
        ·have HPR := Lib.hid (pair_no2 (some ⟨gA, 0, none⟩) (some ⟨gA, sg, none⟩) cap (cap - sg) (codL (l.take sg)) (codL (l.drop sg)) (by omega) (by omega) h15a h15b hm1 hm2 w5.drew (hL1.drewN 1) (hL2.drewN 1))
         rw [hn1, hn2] at HPR
         have HRBD : Hid (w5.drew.heap[w.heap.size]? = some (.cells #[.pointer none, .pointer none] 90 (0, 0))) := HRB5.out
         have HG5D : Hid (w.grownBy w5.drew (some gr)) := grown_then HG5.out (grown_drewN _ 1 _)
         have HR5D : Hid (Rd 83 w5.drew gr s a6 0) := HR5.out
         have HAN6 : Hid (AN = .error 10) := HAN5.out.trans (bind_err (pair_not2 hm1 hm2))
         clear hL1 hL2 h15a h15b hn1 hn2 r0 r1 rf0 rf1
         go_wp2_with fail
         go_region_held3 (fun w' => True) (first | trivial) (first | (go_at_call 66; refine (HPR.out).mono ?_; rintro e w6 ⟨⟨p1, p2, rfl⟩, hb6⟩; have hrb6 := (hb6.block _ (lt_of_heap HRBD.out)).trans HRBD.out; have q0 : w6.cell? ⟨w.heap.size, 0, none⟩ = some (.pointer none) := (by rw [cell_of_row w6 _ 0 _ _ _ hrb6]; rfl); have q1 : w6.cell? ⟨w.heap.size, 1, none⟩ = some (.pointer none) := (by rw [cell_of_row w6 _ 1 _ _ _ hrb6]; rfl); have qf0 := frozen_of_row w6 _ 0 _ _ hrb6; have qf1 := frozen_of_row w6 _ 1 _ _ hrb6))
         all_goals
          have hr9 := two_cells (x := .pointer p1) (y := .pointer p2) hrb6
          have hg9 : w.grownBy ((w6.setCell ⟨w.heap.size, 0, none⟩ (.pointer p1)).setCell ⟨w.heap.size, 1, none⟩ (.pointer p2)) (some gr) := grown_new (grown_new (grown_then HG5D.out (grown_of_below hb6)) (Nat.le_refl _) _ _) (Nat.le_refl _) _ _
          have hrd9 : Rd 83 ((w6.setCell ⟨w.heap.size, 0, none⟩ (.pointer p1)).setCell ⟨w.heap.size, 1, none⟩ (.pointer p2)) gr s a6 0 := ((HR5D.out.below hb6 HR5D.out.lt).set_other (Ne.symm (blk_ne hrb6 (HR5D.out.below hb6 HR5D.out.lt) (by decide)))).set_other (Ne.symm (blk_ne hrb6 (HR5D.out.below hb6 HR5D.out.lt) (by decide)))
          clear hrd9
          generalize (w6.setCell ⟨w.heap.size, 0, none⟩ (.pointer p1)).setCell ⟨w.heap.size, 1, none⟩ (.pointer p2) = w9 at *
          have e0' : w9.cell? ⟨w.heap.size, 0, none⟩ = some (.pointer p1) := by rw [cell_of_row w9 _ 0 _ _ _ hr9]; rfl
          have e1' : w9.cell? ⟨w.heap.size, 1, none⟩ = some (.pointer p2) := by rw [cell_of_row w9 _ 1 _ _ _ hr9]; rfl
          clear hrb6 q0 q1 qf0 qf1 hr9
          go_wp2
          exact bodyPost_ret (v := .tuple #[.agg #[.pointer p1, .pointer p2], .int .i64 10]) (by simp [results, Tryz.results40, go_sem, e0', e1']) rfl (.err HAN6.out hg9 ⟨_, _, rfl⟩ (by omega) (by omega))
       ·have HPR := Lib.hid (pair_no1 (some ⟨gA, 0, none⟩) (some ⟨gA, sg, none⟩) cap (cap - sg) (nn - sg) (codL (l.take sg)) (by omega) h15a hm1 w5.drew (hL1.drewN 1))
        rw [hn1] at HPR
        have HRBD : Hid (w5.drew.heap[w.heap.size]? = some (.cells #[.pointer none, .pointer none] 90 (0, 0))) := HRB5.out
        have HG5D : Hid (w.grownBy w5.drew (some gr)) := grown_then HG5.out (grown_drewN _ 1 _)
        have HR5D : Hid (Rd 83 w5.drew gr s a6 0) := HR5.out
        have HAN6 : Hid (AN = .error 10) := HAN5.out.trans (bind_err (pair_not1 hm1))
        clear hL1 hL2 h15a h15b hn1 hn2 r0 r1 rf0 rf1
        go_wp2_with fail
        go_region_held3 (fun w' => True) (first | trivial) (first | (go_at_call 66; refine (HPR.out).mono ?_; rintro e w6 ⟨⟨p1, p2, rfl⟩, hb6⟩; have hrb6 := (hb6.block _ (lt_of_heap HRBD.out)).trans HRBD.out; have q0 : w6.cell? ⟨w.heap.size, 0, none⟩ = some (.pointer none) := (by rw [cell_of_row w6 _ 0 _ _ _ hrb6]; rfl); have q1 : w6.cell? ⟨w.heap.size, 1, none⟩ = some (.pointer none) := (by rw [cell_of_row w6 _ 1 _ _ _ hrb6]; rfl); have qf0 := frozen_of_row w6 _ 0 _ _ hrb6; have qf1 := frozen_of_row w6 _ 1 _ _ hrb6))
        all_goals
         have hr9 := two_cells (x := .pointer p1) (y := .pointer p2) hrb6
         have hg9 : w.grownBy ((w6.setCell ⟨w.heap.size, 0, none⟩ (.pointer p1)).setCell ⟨w.heap.size, 1, none⟩ (.pointer p2)) (some gr) := grown_new (grown_new (grown_then HG5D.out (grown_of_below hb6)) (Nat.le_refl _) _ _) (Nat.le_refl _) _ _
         have hrd9 : Rd 83 ((w6.setCell ⟨w.heap.size, 0, none⟩ (.pointer p1)).setCell ⟨w.heap.size, 1, none⟩ (.pointer p2)) gr s a6 0 := ((HR5D.out.below hb6 HR5D.out.lt).set_other (Ne.symm (blk_ne hrb6 (HR5D.out.below hb6 HR5D.out.lt) (by decide)))).set_other (Ne.symm (blk_ne hrb6 (HR5D.out.below hb6 HR5D.out.lt) (by decide)))
         clear hrd9
         generalize (w6.setCell ⟨w.heap.size, 0, none⟩ (.pointer p1)).setCell ⟨w.heap.size, 1, none⟩ (.pointer p2) = w9 at *
         have e0' : w9.cell? ⟨w.heap.size, 0, none⟩ = some (.pointer p1) := by rw [cell_of_row w9 _ 0 _ _ _ hr9]; rfl
         have e1' : w9.cell? ⟨w.heap.size, 1, none⟩ = some (.pointer p2) := by rw [cell_of_row w9 _ 1 _ _ _ hr9]; rfl
         clear hrb6 q0 q1 qf0 qf1 hr9
         go_wp2
         exact bodyPost_ret (v := .tuple #[.agg #[.pointer p1, .pointer p2], .int .i64 10]) (by simp [results, Tryz.results40, go_sem, e0', e1']) rfl (.err HAN6.out hg9 ⟨_, _, rfl⟩ (by omega) (by omega))
 ·have HAN := Lib.hid (HDS.out (show 8 * s.size < a + 14 by omega))
  have HER := Lib.hid (err_any gr s a3 3 w3 hrd3)
  clear hrd3 HXV HYV HZV
  go_wp2_with fail
  refine (HER.out).mono ?_; rintro e w4 ⟨rfl, rfl⟩
  go_wp2
  have hr9 := two_cells (x := .pointer none) (y := .pointer none) HRB3.out
  have hg9 : w.grownBy ((w3.setCell ⟨w.heap.size, 0, none⟩ (.pointer none)).setCell ⟨w.heap.size, 1, none⟩ (.pointer none)) (some gr) := grown_new (grown_new HG03.out (Nat.le_refl _) _ _) (Nat.le_refl _) _ _
  generalize (w3.setCell ⟨w.heap.size, 0, none⟩ (.pointer none)).setCell ⟨w.heap.size, 1, none⟩ (.pointer none) = w9 at *
  have e0' : w9.cell? ⟨w.heap.size, 0, none⟩ = some (.pointer none) := by rw [cell_of_row w9 _ 0 _ _ _ hr9]; rfl
  have e1' : w9.cell? ⟨w.heap.size, 1, none⟩ = some (.pointer none) := by rw [cell_of_row w9 _ 1 _ _ _ hr9]; rfl
  exact bodyPost_ret (v := .tuple #[.agg #[.pointer none, .pointer none], .int .i64 3]) (by simp [results, Tryz.results40, go_sem, e0', e1']) rfl (.err HAN.out hg9 ⟨none, none, rfl⟩ (by omega) (by omega))
end Go.Proofs.YtmkeicfklbepnaaGreat
