/-
 block: a row of lengths put.
-/
import Derived.Test.YtmkeicfklbepnaaGreatPkCE
import Derived.Test.YtmkeicfklbepnaaGreatPkCF
import Derived.Deep.DeepCutAuto
namespace Go.Proofs.YtmkeicfklbepnaaGreat.Ij
set_option maxRecDepth 100000
open Go.RowKit Go.Deep Go.Joins

def ordV : Array Value := (orderL.map fun x => Value.int .i64 (x : Nat)).toArray
theorem info_ord : (Tryz.prog.info? 160).map (·.size) = some 19 := by kernel_rfl
theorem ord_one : ordV.all (·.oneCell') = true := by kernel_rfl
def zeroA : Array Value := (List.replicate 19 (Value.int .i64 0)).toArray
theorem zero_arr (w : World) : (zeroValue 160).run Tryz.prog w = .ok (.agg zeroA) w := by kernel_rfl
theorem order_any (w : World) : Calls Tryz.prog 98 #[] w fun e w' => e = .returned (.agg ordV) ∧ Below w.heap.size w w' := by
 have hz := zero_arr
 go_enter Tryz.func98, Tryz.ntmps98
 go_wp2_with (refine wpList_store_row rfl 160 (.tmp 0) (.tmp 1) rfl w.heap.size ordV rfl rfl 160 zeroA (heap_alloc_new w _) info_ord rfl ord_one ?_)
 exact bodyPost_ret (results_cell_row rfl _ _ w.heap.size 160 ordV (0, 0) _ rfl (setRow_heap _ _ _ ordV _ _ (heap_alloc_new w _)) Tryz.underlying160 rfl info_ord) rfl ⟨rfl, below_setRow ((Below.refl _ _).alloc (Nat.le_refl _) _) (Nat.le_refl _) _⟩
end Go.Proofs.YtmkeicfklbepnaaGreat.Ij

namespace Go.Proofs.YtmkeicfklbepnaaGreat
set_option maxRecDepth 100000
open Go.RowKit Go.Joins Go.Deep

/-- A row of bytes that lies in a block. -/
def RowAt (w : World) (g n : Nat) (ls : Nat → Nat) : Prop := g < w.heap.size ∧ ∀ i, i < n → w.cell? ⟨g, i, none⟩ = some (.int .u8 (ls i : Nat)) ∧ ls i < 256
theorem RowAt.lens {w : World} {g n : Nat} {ls : Nat → Nat} (h : RowAt w g n ls) (m : Nat) (hm : m ≤ n) : Lens w (some ⟨g, 0, none⟩) m ls := fun _ =>
 ⟨g, 0, rfl, h.1, fun i hi => by rw [Nat.zero_add]; exact h.2 i (by omega)⟩
theorem RowAt.stay {w w' : World} {g n : Nat} {ls : Nat → Nat} (h : RowAt w g n ls) (hb : w'.heap[g]? = w.heap[g]?) (hs : w.heap.size ≤ w'.heap.size) : RowAt w' g n ls :=
 ⟨Nat.lt_of_lt_of_le h.1 hs, fun i hi => ⟨(World.cell?_of_block (a := ⟨g, i, none⟩) hb).trans (h.2 i hi).1, (h.2 i hi).2⟩⟩
theorem RowAt.below {w w' : World} {g n : Nat} {ls : Nat → Nat} (h : RowAt w g n ls) (hb : Below w.heap.size w w') : RowAt w' g n ls := h.stay (hb.block g h.1) hb.size
theorem RowAt.upd {w w' : World} {g n gw : Nat} {r r' : Option Nat} {ls : Nat → Nat} (h : RowAt w g n ls) (hu : Upd gw r r' w w') (h1 : g ≠ gw) (h2 : some g ≠ r) : RowAt w' g n ls :=
 h.stay (hu.1.block g h.1 (fun e => e.elim h1 h2)) hu.1.size
theorem RowAt.ext {w : World} {g n : Nat} {ls ls' : Nat → Nat} (h : RowAt w g n ls) (he : ∀ i, i < n → ls i = ls' i) : RowAt w g n ls' :=
 ⟨h.1, fun i hi => by rw [← he i hi]; exact h.2 i hi⟩
theorem isLen_row {w : World} {g n : Nat} {f : Nat → Nat} (h : We.IsLen w g n f) (h256 : ∀ i, i < n → f i < 256) : RowAt w g n f := ⟨We.lt_of_cells h, fun i hi => ⟨h.cell i hi, h256 i hi⟩⟩
theorem upd_below {w w' : World} {g : Nat} {r : Option Nat} (h : Below w.heap.size w w') : Upd g r r w w' := ⟨kept_below h, .inl rfl⟩
theorem WrB.below {w w' : World} {B g : Nat} {r : Option Nat} {P : Bs} (h : WrB w B g r P) (hb : Below w.heap.size w w') : WrB w' B g r P := Wr.stay h fun i hi _ => hb.block i hi
theorem Pcs.upd {w w' : World} {A : Option Addr} {K n B g : Nat} {r r' : Option Nat} {P : Bs} {row : Nat → Nat} (h : Pcs w A K row n) (hw : WrB w B g r P) (hu : Upd g r r' w w') : Pcs w' A K row n :=
 h.stay fun _ _ hb => (farW_upd hw hu).cells hb (by decide) (by decide)
/-- What was written since a world. -/
theorem wr_since {w wS wr : World} {B gw g : Nat} {r rS r1 : Option Nat} {P : Bs} (hw : WrB w B gw r P) (hg : w.heap.size ≤ g) (hgS : g < wS.heap.size) (hS : some g ≠ rS) (h2 : Upd gw rS r1 wS wr) : g ≠ gw ∧ some g ≠ r1 := by
 refine ⟨fun e => ?_, fun e => ?_⟩
 ·have := Wr.lt hw
  omega
 ·rcases h2.2 with h | ⟨j, h, hj⟩
  ·exact hS (e.trans h)
  ·rw [h] at e
   injection e with e
   omega
theorem wr_new_ne {w : World} {B gw g : Nat} {r : Option Nat} {P : Bs} (hw : WrB w B gw r P) (hg : w.heap.size ≤ g) : g ≠ gw ∧ some g ≠ r := by
 refine ⟨fun e => ?_, fun e => ?_⟩
 ·have := Wr.lt hw
  omega
 ·have := Wr.row_lt hw g e
  omega
/-- The rows of lengths in their order. -/
def ordList (L : Nat → Nat) : Nat → List Nat
 | 0 => []
 | k + 1 => ordList L k ++ [ordF L k]
theorem ordList_len (L : Nat → Nat) : ∀ k, (ordList L k).length = k
 | 0 => rfl
 | k + 1 => by rw [ordList, List.length_append, ordList_len L k]; rfl
theorem ordList_get (L : Nat → Nat) : ∀ k i, i < k → (ordList L k).getD i 0 = ordF L i
 | 0, i, h => by omega
 | k + 1, i, h => by
  rw [ordList, List.getD_eq_getElem?_getD]
  by_cases e : i < k
  ·rw [List.getElem?_append_left (by rw [ordList_len]; exact e), ← List.getD_eq_getElem?_getD, ordList_get L k i e]
  ·obtain rfl : i = k := by omega
   rw [List.getElem?_append_right (by rw [ordList_len]; exact Nat.le_refl _), ordList_len, Nat.sub_self]
   rfl
theorem info8r : (Tryz.prog.info? 5).map (fun i => (i.zero, i.size, i.bytes)) = some (some (.int .u8 0), 1, 1) := by kernel_rfl

theorem run_index_ord (W : World) : ∀ k : Nat, k < 19 → (Instr.index 160 (.agg Ij.ordV) (.int .i64 (k : Nat))).run Tryz.prog W = .ok (.int .i64 ((orderL.getD k 0 : Nat) : Int)) W
 | 0, _ => by kernel_rfl
 | 1, _ => by kernel_rfl
 | 2, _ => by kernel_rfl
 | 3, _ => by kernel_rfl
 | 4, _ => by kernel_rfl
 | 5, _ => by kernel_rfl
 | 6, _ => by kernel_rfl
 | 7, _ => by kernel_rfl
 | 8, _ => by kernel_rfl
 | 9, _ => by kernel_rfl
 | 10, _ => by kernel_rfl
 | 11, _ => by kernel_rfl
 | 12, _ => by kernel_rfl
 | 13, _ => by kernel_rfl
 | 14, _ => by kernel_rfl
 | 15, _ => by kernel_rfl
 | 16, _ => by kernel_rfl
 | 17, _ => by kernel_rfl
 | 18, _ => by kernel_rfl
 | k + 19, h => by omega

set_option maxHeartbeats 1000000 in
theorem putRow_any (Bw gw n cap : Nat) (A : Option Addr) (row : Nat → Nat) (r : Option Nat) (P : Bs) (hn : n ≤ 400) (h258 : 258 ≤ n) (h15 : ∀ i, i < n → row i ≤ 15) (hz : ∃ i, i < n ∧ row i ≠ 0) (hL : P.2 ≤ 100000000) (w : World) (hB : Bw ≤ w.heap.size) (hR : Lens w A n row) (hw : WrB w Bw gw r P) :
  Calls Tryz.prog 90 #[.pointer (some ⟨gw, 0, none⟩), .slice A n cap] w fun e w' => e = .returned (.tuple #[]) ∧ Emits w Bw gw r (P.app (rowBs row n)) w' := by
 have HP := Lib.hid (pieces_any A n cap row (by omega) w hR)
 have hsp := split_ex row n
 have HSP := Lib.hid hsp
 have hmay := rowC_may h258 h15 hz
 have HMAY := Lib.hid hmay
 have HPB := Lib.hid (fun i (hi : i < kN row n) => pc_bd row n (pzN row n i) (by have := h15 _ (hsp.2 i hi); omega))
 have HPR := Lib.hid (fun i (hi : i < kN row n) => (pc_bd row n (pzN row n i) (by have := h15 _ (hsp.2 i hi); omega)).2.2.1)
 have HL7 := Lib.hid (rowL_le row n)
 have HOR := Lib.hid (fun W => Ij.order_any W)
 have hza := Ij.zero_arr
 have hmk : ∀ W : World, (Instr.makeSlice 147 (.int .i64 19) (.int .i64 19)).run Tryz.prog W = .ok (.slice (some ⟨W.heap.size, 0, none⟩) 19 19) (W.alloc (.cells (madeCells #[.int .u32 0] 19) 84)) := fun W => run_make_row' (P := Tryz.prog) 147 84 (.int .u32 0) 4 Tryz.underlying147 info32 rfl .i64 .i64 19 (by omega) (by omega) W
 have HW := Lib.hid hw
 have hzp := zero_pc
 have hip := info_pc
 clear hR hw hsp hmay h15 hz h258
 go_enter Tryz.func90, Tryz.ntmps90
 go_wp2_with fail
 refine (HP.out).mono ?_; rintro e w1 ⟨K, A1, c1, rfl, hKn, hsp1, hpc, hb1⟩
 obtain rfl := kN_of hsp1
 have HPC1 := Lib.hid hpc
 have HB1 := Lib.hid hb1
 clear hpc hb1 hsp1 HP
 go_wp2_with fail
 refine (HOR.out _).mono ?_; rintro e w2 ⟨rfl, hb2⟩
 have HB2 := Lib.hid (HB1.out.trans (hb2.mono HB1.out.size))
 have HPC2 := Lib.hid (HPC1.out.stay (w' := w2) (fun i cs h => (hb2.block i (lt_of_heap h)).trans h))
 clear hb2
 go_wp2_with (refine wpList_store_row rfl 160 (.tmp 5) (.tmp 22) rfl w2.heap.size Ij.ordV rfl rfl 160 Ij.zeroA (heap_alloc_new w2 _) Ij.info_ord rfl Ij.ord_one ?_)
 have hbx : Below w2.heap.size w2 ((w2.alloc (.cells Ij.zeroA 160)).setRow w2.heap.size Ij.ordV) := below_setRow ((Below.refl _ _).alloc (Nat.le_refl _) _) (Nat.le_refl _) _
 have HO3 : Hid (((w2.alloc (.cells Ij.zeroA 160)).setRow w2.heap.size Ij.ordV).heap[w2.heap.size]? = some (.cells Ij.ordV 160 (0, 0))) := setRow_heap _ _ _ Ij.ordV _ _ (heap_alloc_new w2 _)
 have HPC3 := Lib.hid (HPC2.out.stay (fun i cs h => (hbx.block i (lt_of_heap h)).trans h))
 have HB3 := Lib.hid (HB2.out.trans (hbx.mono HB2.out.size))
 have hs3 : ((w2.alloc (.cells Ij.zeroA 160)).setRow w2.heap.size Ij.ordV).heap.size = w2.heap.size + 1 := by simp
 generalize (w2.alloc (.cells Ij.zeroA 160)).setRow w2.heap.size Ij.ordV = w3 at *
 generalize w2.heap.size = gO at *
 have HS3 := Lib.hid hs3
 clear hs3
 clear hbx HPC1 HPC2 HB1 HB2 HOR hza
 have hby : Below w3.heap.size w3 (w3.alloc (.cells (madeCells #[.int .u32 0] 19) 84)) := (Below.refl _ _).alloc (Nat.le_refl _) _
 have hr4 : IsRowU (w3.alloc (.cells (madeCells #[.int .u32 0] 19) 84)) w3.heap.size 19 (fun _ => 0) := by
  show _ = _
  rw [← rowU_made]
  exact heap_alloc_new w3 _
 have HR4 := Lib.hid hr4
 have HO4 := Lib.hid ((hby.block gO (lt_of_heap HO3.out)).trans HO3.out)
 have HPC4 := Lib.hid (HPC3.out.stay (fun i cs h => (hby.block i (lt_of_heap h)).trans h))
 have HB4 := Lib.hid (HB3.out.trans (hby.mono HB3.out.size))
 have HGC : Hid (w.heap.size ≤ w3.heap.size) := HB3.out.size
 clear hby hr4 HO3 HPC3 HB3
 go_wp2_with fail
 generalize w3.alloc (.cells (madeCells #[.int .u32 0] 19) 84) = w4 at *
 have hgC := HS3.out
 generalize w3.heap.size = gC at *
 rw [← hgC]
 have HGO := Lib.hid hgC
 clear hgC HS3
 go_loopw [26] (fun i wr => ∃ k : Nat, k ≤ kN row n ∧ i = .int .i64 (k : Nat) ∧ Hid (IsRowU wr gC 19 (cntP row n k)) ∧ Hid (Kept (fun j => j = gC) w4 wr)) (fun i _ => kN row n - (intOf i).toNat)
 case atStart => exact ⟨0, Nat.zero_le _, rfl, HR4, Kept.refl _ _⟩
 case round =>
  obtain ⟨k, hk, rfl, HC, HK⟩ := hrel
  by_cases hkn : k < kN row n
  ·obtain ⟨b, rfl, ⟨cs, hbb⟩, hpcs⟩ := HPC4.out (by omega)
   have hne : b ≠ gC := fun e => by
    subst e
    have h := HR4.out
    unfold IsRowU at h
    rw [hbb] at h
    injection h with h
    injection h with _ h _
    revert h
    decide
   have hce : ∀ j, wr.cell? ⟨b, j, none⟩ = w4.cell? ⟨b, j, none⟩ := fun j => World.cell?_of_block (a := ⟨b, j, none⟩) (HK.out.block b (lt_of_heap hbb) hne)
   obtain ⟨c0, c1, c2⟩ := hpcs k hkn
   rw [← hce] at c0 c1 c2
   have hsg := (HPB.out k hkn).1
   have hcl := cntP_le row n k (pkN row n k).sg
   have HST : Hid (cntP row n (k + 1) = bump (cntP row n k) (pkN row n k).sg) := rfl
   have hsg2 : (pkN row n k).sg < 19 := hsg
   clear hpcs hbb hce hne hsg
   generalize pkN row n k = T at *
   obtain ⟨ts, tm, tr, tn⟩ := T
   dsimp only at *
   have HC6 : Hid (IsRowU (wr.alloc (.cells #[.int .i64 (ts : Nat), .int .i64 (tm : Nat), .int .u32 (tr : Nat)] 175)) gC 19 (cntP row n k)) := HC.out.alloc _
   have HK6 : Hid (Kept (fun j => j = gC) w4 (wr.alloc (.cells #[.int .i64 (ts : Nat), .int .i64 (tm : Nat), .int .u32 (tr : Nat)] 175))) := HK.out.then (kept_alloc (fun _ => False) wr _) (fun _ _ e => e.elim)
   have HX6 : Hid ((wr.alloc (.cells #[.int .i64 (ts : Nat), .int .i64 (tm : Nat), .int .u32 (tr : Nat)] 175)).heap[wr.heap.size]? = some (.cells #[.int .i64 (ts : Nat), .int .i64 (tm : Nat), .int .u32 (tr : Nat)] 175 (0, 0))) := heap_alloc_new wr _
   go_upto_region 6 with fail
   generalize wr.alloc (.cells #[.int .i64 (ts : Nat), .int .i64 (tm : Nat), .int .u32 (tr : Nat)] 175) = w6 at *
   have k0 := (cell_of_row _ _ 0 _ _ _ HX6.out).trans (show _ = some (Value.int .i64 (ts : Nat)) from rfl)
   have u0 := HC6.out.cell ts hsg2
   have uf := HC6.out.frozen ts
   have hsum : ((cntP row n k ts : Nat) : Int) + 1 = ((cntP row n k ts + 1 : Nat) : Int) := by omega
   have hwu : IntKind.u32.wrap ((cntP row n k ts + 1 : Nat) : Int) = ((cntP row n k ts + 1 : Nat) : Int) := by rw [IntKind.wrap_u32]; omega
   have HN6 : Hid (IsRowU (w6.setCell ⟨gC, ts, none⟩ (.int .u32 ((cntP row n k ts + 1 : Nat) : Int))) gC 19 (bump (cntP row n k) ts)) := HC6.out.set ts _ hsg2
   have HKN := Lib.hid (HK6.out.then (kept_set w6 gC ts (.int .u32 ((cntP row n k ts + 1 : Nat) : Int))) (fun _ _ e => e))
   have htI : (ts : Int) < 19 := by omega
   generalize cntP row n k ts + 1 = v1 at *
   generalize cntP row n k ts = v0 at *
   go_wp2_with fail
   go_roundw
   case rel => exact ⟨k + 1, by omega, by go_num, by rw [HST.out]; exact HN6, HKN⟩
   case measure => simp [intOf]; omega
  ·obtain rfl : k = kN row n := by omega
   have hB5 : Below w.heap.size w wr := HB4.out.trans (HK.out.below (fun i e => by rw [e]; exact HGC.out) HB4.out.size)
   have HB5 := Lib.hid hB5
   have HO5 : Hid (wr.heap[gO]? = some (.cells Ij.ordV 160 (0, 0))) := (HK.out.block gO (lt_of_heap HO4.out) (fun e => by
    have h := HR4.out
    unfold IsRowU at h
    rw [← e, HO4.out] at h
    injection h with h
    injection h with _ h _
    revert h
    decide)).trans HO4.out
   have HPC5 := Lib.hid (HPC4.out.stay (w' := wr) (fun i cs h => (HK.out.block i (lt_of_heap h) (fun e => by
    have h2 := HR4.out
    unfold IsRowU at h2
    rw [← e, h] at h2
    injection h2 with h2
    injection h2 with _ h2 _
    revert h2
    decide)).trans h))
   have hcts : We.Cts wr (some ⟨gC, 0, none⟩) 19 (cntP row n (kN row n)) := fun _ => ⟨gC, 0, rfl, HC.out.lt, fun i hi => ⟨by rw [Nat.zero_add]; exact HC.out.cell i hi, by have := cntP_le row n (kN row n) i; omega⟩⟩
   have HWG := Lib.hid (We.weigh_any (some ⟨gC, 0, none⟩) 19 19 7 (cntP row n (kN row n)) wr hcts (by omega) (by omega) (by omega) (rowL_pow row n))
   clear hcts hB5 HK HC
   rw [show ((7 : Nat) : Int) = 7 from rfl] at HWG
   go_wp2_with fail
   (with_reducible refine (HWG.out).mono ?_); rintro e w5 ⟨gl, rfl, hlen, hgl, hb5⟩
   have HROW : Hid (RowAt w5 gl 19 (rowL row n)) := isLen_row hlen (fun i hi => Nat.lt_of_le_of_lt (HL7.out i hi) (by decide))
   have HB6 := Lib.hid (HB5.out.trans (hb5.mono HB5.out.size))
   have HGL : Hid (w.heap.size ≤ gl) := Nat.le_trans HB5.out.size hgl
   have HO6 := Lib.hid ((hb5.block gO (lt_of_heap HO5.out)).trans HO5.out)
   have HPC6 := Lib.hid (HPC5.out.stay (fun i cs h => (hb5.block i (lt_of_heap h)).trans h))
   clear hlen hgl hb5 HWG HB5 HO5 HPC5 HR4 HO4 HPC4 HB4
   go_wp2_with (refine wpList_load_row rfl 160 (.tmp 5) rfl gO rfl 160 Ij.ordV (0, 0) _ HO6.out Tryz.underlying160 rfl Ij.info_ord ?_)
   have HB0 : Hid (w.heap.size ≤ w5.heap.size) := HB6.out.size
   obtain ⟨i8, hi8, h80, h81, h82⟩ := info_parts info8r
   go_loopw [11, 44] (fun v i wr => ∃ k : Nat, k ≤ 19 ∧ i = .int .i64 (k : Nat) ∧ Hid (wr.ownsRow w5.heap.size 5 1 v k (cells8 (ordList (rowL row n) k))) ∧ Hid (Below w5.heap.size w5 wr)) (fun _ i _ => 19 - (intOf i).toNat)
   case atStart => exact ⟨0, Nat.zero_le _, rfl, World.ownsRow_nil _ _ _ _, Below.refl _ _⟩
   case round =>
    obtain ⟨k, hk, rfl, HO, HB⟩ := hrel
    by_cases hkn : k < 19
    ·have hix := run_index_ord wr k hkn
     have ho19 := ord_lt19 k hkn
     have HLS : Hid (cells8 (ordList (rowL row n) (k + 1)) = cells8 (ordList (rowL row n) k) ++ [.int .u8 (rowL row n (orderL.getD k 0) : Nat)]) := by
      show _ = _
      rw [ordList, cells8_app]
      rfl
     have cl := ((HROW.out.below HB.out).2 (orderL.getD k 0) ho19).1
     generalize orderL.getD k 0 = q at *
     generalize rowL row n q = x at *
     have hqI : (q : Int) < 19 := by omega
     obtain ⟨A2, cp2, rfl⟩ := row_slice' HO.out
     have HSZ : Hid (w5.heap.size ≤ wr.heap.size) := HB.out.size
     go_wp2_with (at_builtin; go_must (refine wpList_append_own _ rfl _ _ 37 rfl w5.heap.size 5 i8 (.int .u8 0) 1 1 Tryz.underlying37 hi8 h80 h81 h82 rfl (by decide) _ _ _ rfl (HO.out.alloc _) ⟨wr.heap.size, 0, none⟩ 1 1 [.int .u8 (x : Nat)] rfl rfl ?c1 ?c2 ?c3 ?c4 ?c5 ?_))
     case c1 =>
      intro j u hj
      match j, hj with
      | 0, hj => simp at hj; subst hj; simp [Addr.add]
     case c2 => intro u hu; simp at hu; subst hu; rfl
     case c3 => unfold maxLen; omega
     case c4 => omega
     case c5 => have := HSZ.out; simp; omega
     intro v' w6 hown6 hgrow6 _
     have HO6' := Lib.hid hown6
     have HB7 : Hid (Below w5.heap.size w5 w6) := (HB.out.alloc HSZ.out _).grown hgrow6 (by have := HSZ.out; simp; omega) (fun h e => (HO.out.lt h e).1)
     clear hown6 hgrow6
     go_wp2_with fail
     go_roundw
     case rel => exact ⟨k + 1, by omega, by go_num, by rw [HLS.out]; exact HO6', HB7⟩
     case measure => simp [intOf]; omega
    ·obtain rfl : k = 19 := by omega
     obtain ⟨A2, cp2, rfl⟩ := row_slice' HO.out
     obtain ⟨g2, rfl⟩ : ∃ g2, A2 = some ⟨g2, 0, none⟩ := by
      rcases ownsRow_forms HO.out with ⟨h0, h1⟩ | ⟨g2, cap2, h1⟩
      ·omega
      ·injection h1 with h1 _ _
       exact ⟨g2, h1⟩
     have hcp : 19 ≤ cp2 := by
      rcases HO.out.2 with ⟨h0, _⟩ | ⟨g3, cap3, cur, hv, _, _, h1, _⟩
      ·cases h0
      ·injection hv with _ _ h3
       omega
     have ho2 := own_cells8 HO.out (ordList_len (rowL row n) 19)
     have HRO : Hid (RowAt wr g2 19 (ordF (rowL row n))) := ⟨ho2.1, fun i hi => ⟨by rw [ho2.2 i hi, ordList_get _ 19 i hi], by have := HL7.out _ (ord_lt19 i hi); show rowL row n (orderL.getD i 0) < 256; omega⟩⟩
     have HG2 : Hid (w.heap.size ≤ g2) := Nat.le_trans HB6.out.size (HO.out.lt g2 rfl).1
     have HRL := Lib.hid (HROW.out.below HB.out)
     have HPC7 := Lib.hid (HPC6.out.stay (w' := wr) (fun i cs h => (HB.out.block i (lt_of_heap h)).trans h))
     have HB7 := Lib.hid (HB6.out.trans (HB.out.mono HB6.out.size))
     have HSH := Lib.hid (short_any (some ⟨g2, 0, none⟩) 19 cp2 4 (ordF (rowL row n)) (by omega) (by omega) hcp wr (HRO.out.lens 19 (Nat.le_refl _)))
     have hh : shrN (ordF (rowL row n)) 4 19 = rowH row n := rfl
     have hh4 := shrN_ge (ordF (rowL row n)) 4 19 (by omega)
     have hh19 := shrN_le (ordF (rowL row n)) 4 19
     rw [hh] at HSH hh4 hh19
     rw [show ((4 : Nat) : Int) = 4 from rfl] at HSH
     have hcpl := HO.out
     clear hh hcpl ho2 hcp HPC6 HROW HB6
     generalize hHH : rowH row n = H at *
     have HH := Lib.hid hHH
     clear hHH
     have hws : WrB wr Bw gw r P := Wr.stay HW.out fun i hi _ => HB7.out.block i hi
     have HWR0 := Lib.hid (write_b Bw gw (H - 4) 4 r P (by omega) (by omega) (by omega) wr (Nat.le_trans hB HB7.out.size) hws)
     have HWS := Lib.hid hws
     have hq1 : ((H : Nat) : Int) - 4 = ((H - 4 : Nat) : Int) := by omega
     have hq2 : IntKind.u32.wrap ((H - 4 : Nat) : Int) = ((H - 4 : Nat) : Int) := by rw [IntKind.wrap_u32]; omega
     rw [show ((4 : Nat) : Int) = 4 from rfl] at HWR0
     clear hws
     go_wp2_with fail
     (with_reducible refine (HSH.out).mono ?_); rintro e w7 ⟨rfl, rfl⟩
     go_wp2_with fail
     (with_reducible refine (HWR0.out).mono ?_); rintro e w7 ⟨rfl, r7, hw7, hu7⟩
     have hne2 := wr_new_ne HW.out HG2.out
     have hne3 := wr_new_ne HW.out HGL.out
     have hn2 := wr_since HW.out HG2.out HRO.out.1 hne2.2 hu7
     have hn3 := wr_since HW.out HGL.out HRL.out.1 hne3.2 hu7
     have HN2 := Lib.hid hn2
     have HN3 := Lib.hid hn3
     have HRO7 := Lib.hid (HRO.out.upd hu7 hne2.1 hne2.2)
     have HRL7 := Lib.hid (HRL.out.upd hu7 hne3.1 hne3.2)
     have HPC8 := Lib.hid (HPC7.out.upd HWS.out hu7)
     have HU7 := Lib.hid ((upd_below (g := gw) (r := r) HB7.out).then hu7)
     have HW7 := Lib.hid hw7
     have HBW7 : Hid (Bw ≤ w7.heap.size) := Nat.le_trans (Nat.le_trans hB HB7.out.size) hu7.1.size
     clear hw7 hu7 hne2 hne3 hn2 hn3 HSH HWR0 HRO HRL HPC7 HWS HO HB HB7
     generalize hQ0 : P.app (wB (H - 4) 4) = Q0 at *
     have hQ0l : Q0.2 ≤ 100000004 := by rw [← hQ0]; show P.2 + 4 ≤ _; omega
     have HQ0 := Lib.hid hQ0
     clear hQ0
     go_wp2_with fail
     go_loopw [65] (fun i wr3 => ∃ (k : Nat) (r3 : Option Nat), k ≤ H ∧ i = .int .i64 (k : Nat) ∧ Hid (WrB wr3 Bw gw r3 (Q0.app (threeB (rowL row n) k))) ∧ Hid (Upd gw r7 r3 w7 wr3)) (fun i _ => H - (intOf i).toNat)
     case atStart => exact ⟨0, r7, Nat.zero_le _, rfl, by rw [Hid, threeB, bs_nil]; exact HW7.out, Upd.refl _ _ _⟩
     case round =>
      obtain ⟨k, r3, hk3, rfl, HWk, HUk⟩ := hrel
      have hlen3 := threeB_len (rowL row n) k
      by_cases hkh : k < H
      ·have ck := ((HRO7.out.upd HUk.out HN2.out.1 HN2.out.2).2 k (by omega))
       have HST : Hid (threeB (rowL row n) (k + 1) = (threeB (rowL row n) k).app (wB (ordF (rowL row n) k) 3)) := rfl
       have hQk : (Q0.app (threeB (rowL row n) k)).2 ≤ 200000000 := by show Q0.2 + (threeB (rowL row n) k).2 ≤ _; omega
       have c1k := ck.1
       have hx256 := ck.2
       have HWR3 := Lib.hid (write_b Bw gw (ordF (rowL row n) k) 3 r3 _ (by omega) (by omega) (by omega) wr (Nat.le_trans HBW7.out HUk.out.1.size) HWk.out)
       rw [show ((3 : Nat) : Int) = 3 from rfl] at HWR3
       clear ck hlen3 hQk
       generalize ordF (rowL row n) k = x at *
       have hxw : IntKind.u32.wrap (x : Int) = (x : Int) := by rw [IntKind.wrap_u32]; omega
       go_wp2_with fail
       (with_reducible refine (HWR3.out).mono ?_); rintro e w8 ⟨rfl, r8, hw8, hu8⟩
       have HW8 := Lib.hid hw8
       have HU8 := Lib.hid (HUk.out.then hu8)
       clear hw8 hu8
       go_wp2_with fail
       go_roundw
       case rel => exact ⟨k + 1, r8, by omega, by go_num, by rw [Hid, HST.out, ← bs_assoc]; exact HW8.out, HU8⟩
       case measure => simp [intOf]; omega
      ·obtain rfl : k = H := by omega
       have HRLk := Lib.hid (HRL7.out.upd HUk.out HN3.out.1 HN3.out.2)
       have HNEW := Lib.hid (code_new (some ⟨gl, 0, none⟩) 19 false (rowC row n) (show (19 : Nat) ≤ 4096 by omega) (fun i hi => Nat.le_trans (HL7.out i hi) (by omega)) HMAY.out wr (HRLk.out.lens 19 (Nat.le_refl _)))
       have HPC9 := Lib.hid (HPC8.out.upd HW7.out HUk.out)
       have hQk : (Q0.app (threeB (rowL row n) k)).2 ≤ 100000100 := by show Q0.2 + (threeB (rowL row n) k).2 ≤ _; omega
       have HBk : Hid (Bw ≤ wr.heap.size) := Nat.le_trans HBW7.out HUk.out.1.size
       generalize hQ1 : Q0.app (threeB (rowL row n) k) = Q1 at *
       have HQ1 := Lib.hid hQ1
       clear hlen3 hQ1
       go_wp2_with fail
       (refine (HNEW.out).mono ?_); rintro e w8 ⟨gc, rfl, hcd, hb8⟩
       have HCD := Lib.hid hcd
       have HW8 := Lib.hid (HWk.out.below hb8)
       have HU8 := Lib.hid (HU7.out.then (HUk.out.then (upd_below hb8)))
       have HPC10 := Lib.hid (HPC9.out.upd HWk.out (upd_below (g := gw) (r := r3) hb8))
       have HB8 : Hid (Bw ≤ w8.heap.size) := Nat.le_trans HBk.out hb8.size
       clear hcd hb8 HNEW HWk HUk HPC9 HPC8 HW7 HU7 HRLk
       go_wp2_with fail
       go_loopw [81] (fun i wr4 => ∃ (k4 : Nat) (r4 : Option Nat), k4 ≤ kN row n ∧ i = .int .i64 (k4 : Nat) ∧ Hid (WrB wr4 Bw gw r4 (Q1.app (pcB (rowC row n) row n k4))) ∧ Hid (Upd gw r r4 w wr4) ∧ Hid (CodeAt wr4 gc (rowC row n)) ∧ Hid (Pcs wr4 A1 (kN row n) row n) ∧ Hid (Bw ≤ wr4.heap.size)) (fun i _ => kN row n - (intOf i).toNat)
       case atStart => exact ⟨0, r3, Nat.zero_le _, rfl, by rw [Hid, pcB, bs_nil]; exact HW8.out, HU8, HCD, HPC10, HB8⟩
       case round =>
        obtain ⟨k4, r4, hk4, rfl, HWk, HUk, HCk, HPk, HBk4⟩ := hrel
        by_cases hkn4 : k4 < kN row n
        ·obtain ⟨b, rfl, _, hpcs⟩ := HPk.out (by omega)
         obtain ⟨c0, c1', c2'⟩ := hpcs k4 hkn4
         have hpb := HPB.out k4 hkn4
         have hmo : (pkN row n k4).mo ≤ 7 := hpb.2.1
         have hre : (pkN row n k4).re < 128 := hpb.2.2.1
         have hpl := pcB_le (rowC row n) row n (fun i hi => HL7.out i hi) k4 (fun i hi => (HPB.out i (by omega)).2.1)
         have hQk4 : (Q1.app (pcB (rowC row n) row n k4)).2 ≤ 200000000 := by show Q1.2 + (pcB (rowC row n) row n k4).2 ≤ _; omega
         have HST : Hid (pcB (rowC row n) row n (k4 + 1) = (pcB (rowC row n) row n k4).app ((sgB (rowC row n) (pkN row n k4).sg).app (wB (pkN row n k4).re (pkN row n k4).mo))) := rfl
         clear hpcs hpb hpl
         generalize pkN row n k4 = T at *
         obtain ⟨ts, tm, tr, tn⟩ := T
         dsimp only at *
         have hba : Below wr.heap.size wr (wr.alloc (.cells #[.int .i64 (ts : Nat), .int .i64 (tm : Nat), .int .u32 (tr : Nat)] 175)) := (Below.refl _ _).alloc (Nat.le_refl _) _
         have HX6 : Hid ((wr.alloc (.cells #[.int .i64 (ts : Nat), .int .i64 (tm : Nat), .int .u32 (tr : Nat)] 175)).heap[wr.heap.size]? = some (.cells #[.int .i64 (ts : Nat), .int .i64 (tm : Nat), .int .u32 (tr : Nat)] 175 (0, 0))) := heap_alloc_new wr _
         have HW6 := Lib.hid (HWk.out.below hba)
         have HU6 := Lib.hid (HUk.out.then (upd_below (g := gw) (r := r4) hba))
         have HC6 := Lib.hid (HCk.out.far (farW_below hba))
         have HP6 := Lib.hid (HPk.out.upd HWk.out (upd_below (g := gw) (r := r4) hba))
         have HB6 : Hid (Bw ≤ (wr.alloc (.cells #[.int .i64 (ts : Nat), .int .i64 (tm : Nat), .int .u32 (tr : Nat)] 175)).heap.size) := Nat.le_trans HBk4.out hba.size
         clear hba
         go_upto_region 26 with fail
         generalize wr.alloc (.cells #[.int .i64 (ts : Nat), .int .i64 (tm : Nat), .int .u32 (tr : Nat)] 175) = w6 at *
         have k0 := (cell_of_row _ _ 0 _ _ _ HX6.out).trans (show _ = some (Value.int .i64 (ts : Nat)) from rfl)
         have k1 := (cell_of_row _ _ 1 _ _ _ HX6.out).trans (show _ = some (Value.int .i64 (tm : Nat)) from rfl)
         have k2 := (cell_of_row _ _ 2 _ _ _ HX6.out).trans (show _ = some (Value.int .u32 (tr : Nat)) from rfl)
         have HNM := Lib.hid (bnumber_any gw gc ts tm tr Bw r4 _ (rowC row n) (by omega) (by omega) (by omega) w6 HB6.out HC6.out HW6.out)
         clear hQk4
         go_wp2_with fail
         (with_reducible refine (HNM.out).mono ?_); rintro e w9 ⟨rfl, r9, hw9, hu9⟩
         have HW9 := Lib.hid hw9
         have HU9 := Lib.hid (HU6.out.then hu9)
         have HC9 := Lib.hid (HC6.out.far (farW_upd HW6.out hu9))
         have HP9 := Lib.hid (HP6.out.upd HW6.out hu9)
         have HB9 : Hid (Bw ≤ w9.heap.size) := Nat.le_trans HB6.out hu9.1.size
         clear hw9 hu9 k0 k1 k2
         go_wp2_with fail
         go_roundw
         case rel => exact ⟨k4 + 1, r9, by omega, by go_num, by rw [Hid, HST.out, ← bs_assoc, ← bs_assoc]; exact HW9.out, HU9, HC9, HP9, HB9⟩
         case measure => simp [intOf]; omega
        ·obtain rfl : k4 = kN row n := by omega
         have HFIN : Hid (Emits w Bw gw r (P.app (rowBs row n)) wr) := by
          refine ⟨r4, ?_, HUk.out⟩
          have h := HWk.out
          rw [← HQ1.out, ← HQ0.out] at h
          unfold rowBs
          rw [HH.out, ← bs_assoc, ← bs_assoc]
          exact h
         go_wp2_with fail
         go_end0
         exact ⟨rfl, HFIN.out⟩
end Go.Proofs.YtmkeicfklbepnaaGreat
