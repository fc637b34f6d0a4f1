/-
 Words as keys of a map: what a code's map holds.
 Contract of New.
-/
import Derived.Test.YtmkeicfklbepnaaGreatPkAA
import Derived.Maps.OwnSet
import Derived.DeepKeys4
import Derived.MapViews
import Derived.Deep.AppendLies
import Derived.Deep.RegionLaw
import Derived.Deep.RegionHeld3
import Derived.Lib.SmallJoins
import Derived.Carry
import Derived.Deep.CutBlock
import Derived.Deep.DeepCutAuto

namespace Go.Proofs.YtmkeicfklbepnaaGreat
set_option maxRecDepth 100000
open Go.RowKit Go.Deep Go.ChangeMaps Go.ChangeShapes Go.WideShapes Go.MapKept
open Go.Maps (Keyed IsMap has)

theorem laid_out : laidOutB Tryz.prog = true := by kernel_rfl
theorem word_row : (151 : TypeId) < Tryz.prog.types.size := of_decide_eq_true (by kernel_rfl)
theorem word_cells : Tryz.prog.cellsOf 151 = 2 := by kernel_rfl
theorem u8_cells : Tryz.prog.cellsOf 5 = 1 := by kernel_rfl
theorem u32_cells : Tryz.prog.cellsOf 84 = 1 := by kernel_rfl
theorem word_deep : Tryz.prog.keyTypeAt (Tryz.prog.types.size + 1) 151 = true := by kernel_rfl
theorem word_wide : (match Tryz.prog.underlying 151 with | some (.array _ _) | some (.struct _) => true | _ => false) = true := by rw [Tryz.underlying151]
theorem word_law : Keyed Tryz.prog 151 := Keyed.of_law (deep_law_laid laid_out (m := 2) (by omega) word_row (by kernel_rfl) word_wide)

/-- A word as a value. -/
def wv (l x : Nat) : Value := .agg #[.int .u8 (l : Nat), .int .u32 (x : Nat)]
theorem wv_key (l x : Nat) (hl : l < 256) (hx : x < 4294967296) : ∃ k, keyOf Tryz.prog 151 (wv l x) = some k := by
 have hw0 : (Lit.int .u8 (l : Nat)).wf = true := WalkArith.wf_u8 (by omega)
 have hw1 : (Lit.int .u32 (x : Nat)).wf = true := WalkArith.wf_u32 (by omega)
 have hf : (wv l x).formed Tryz.prog 151 = true := by simp [wv, Value.formed, Tryz.underlying151, word_cells]
 have hd : DataW.trod (fun _ => ()) Tryz.prog (default : World) 0 (fun _ => false) false 2 151 [.int .u8 (l : Nat), .int .u32 (x : Nat)] = some (.agg [.lit (.int .u8 (l : Nat)), .lit (.int .u32 (x : Nat))], [] ++ []) :=
  trod_struct2_mk (y0 := (.lit (.int .u8 (l : Nat)), [])) (y1 := (.lit (.int .u32 (x : Nat)), [])) Tryz.underlying151 (by rw [word_cells]; rfl)
   (by
    change DataW.trod _ _ _ _ _ _ _ 5 ((List.drop 0 _).take (Tryz.prog.cellsOf 5)) = _
    rw [u8_cells]
    exact trod_int_mk 0 Tryz.underlying5 hw0)
   (by
    change DataW.trod _ _ _ _ _ _ _ 84 ((List.drop 1 _).take (Tryz.prog.cellsOf 84)) = _
    rw [u32_cells]
    exact trod_int_mk 0 Tryz.underlying84 hw1)
 exact ⟨_, (keyOf_asKey word_deep word_wide hf ⟨2, by simpa [wv, Value.cells] using hd⟩).1⟩
/-- What a word reads as, as a key. -/
noncomputable def kk (l x : Nat) : Lit := (keyOf Tryz.prog 151 (wv l x)).getD (.bool true)
theorem kk_of (l x : Nat) (hl : l < 256) (hx : x < 4294967296) : keyOf Tryz.prog 151 (wv l x) = some (kk l x) := by
 obtain ⟨k, h⟩ := wv_key l x hl hx
 unfold kk
 rw [h]
 rfl
theorem kk_inj (l x l' x' : Nat) (hl : l < 256) (hx : x < 4294967296) (hl' : l' < 256) (hx' : x' < 4294967296) (h : kk l x = kk l' x') : l = l' ∧ x = x' := by
 have e := word_law.inj (kk_of l x hl hx) (h ▸ kk_of l' x' hl' hx')
 unfold wv at e
 simp at e
 omega

/-- The sign of a word, among the first k signs: the last one. -/
def findW (ls W : Nat → Nat) (l x : Nat) : Nat → Option Nat
 | 0 => none
 | k + 1 => if ls k ≠ 0 ∧ ls k = l ∧ W k = x then some k else findW ls W l x k
/-- What the map holds behind the first k signs. -/
noncomputable def codeMap (ls W : Nat → Nat) : Nat → DataW Unit
 | 0 => .map []
 | k + 1 => if ls k = 0 then codeMap ls W k else (codeMap ls W k).put (kk (ls k) (W k)) (.lit (.int .i64 (k : Nat)))
theorem codeMap_isMap (ls W : Nat → Nat) : ∀ k, IsMap (codeMap ls W k)
 | 0 => ⟨_, rfl⟩
 | k + 1 => by
  rw [codeMap]
  split
  ·exact codeMap_isMap ls W k
  ·obtain ⟨es, h⟩ := codeMap_isMap ls W k
   rw [h]
   exact ⟨_, rfl⟩
theorem codeMap_has (ls W : Nat → Nat) (l x : Nat) (hl : l < 256) (hx : x < 4294967296) : ∀ k, (∀ i, i < k → ls i < 256 ∧ W i < 4294967296) →
  has (codeMap ls W k) (kk l x) = (findW ls W l x k).isSome ∧ ∀ z, (codeMap ls W k).atKey (kk l x) z = (match findW ls W l x k with | some i => .lit (.int .i64 (i : Nat)) | none => z)
 | 0, _ => ⟨rfl, fun z => rfl⟩
 | k + 1, h => by
  obtain ⟨ih1, ih2⟩ := codeMap_has ls W l x hl hx k (fun i hi => h i (by omega))
  obtain ⟨hk1, hk2⟩ := h k (by omega)
  rw [codeMap, findW]
  by_cases h0 : ls k = 0
  ·rw [if_pos h0, if_neg (fun hh => hh.1 h0)]
   exact ⟨ih1, ih2⟩
  ·rw [if_neg h0]
   by_cases hm : ls k = l ∧ W k = x
   ·rw [if_pos ⟨h0, hm⟩]
    obtain ⟨rfl, rfl⟩ := hm
    have hk := word_law.key (kk_of (ls k) (W k) hk1 hk2)
    refine ⟨by rw [Maps.has_put_same (codeMap_isMap ls W k) hk]; rfl, fun z => ?_⟩
    rw [Maps.atKey_put_same (codeMap_isMap ls W k) hk]
   ·rw [if_neg (fun hh => hm hh.2)]
    have hne : kk l x ≠ kk (ls k) (W k) := fun e => hm (by
     obtain ⟨e1, e2⟩ := kk_inj l x (ls k) (W k) hl hx hk1 hk2 e
     exact ⟨e1.symm, e2.symm⟩)
    refine ⟨by rw [Maps.has_put_other hne]; exact ih1, fun z => ?_⟩
    rw [Maps.atKey_put_other hne]
    exact ih2 z
end Go.Proofs.YtmkeicfklbepnaaGreat

namespace Go.Proofs.YtmkeicfklbepnaaGreat
set_option maxRecDepth 100000
open Go.RowKit Go.Deep Go.ChangeMaps Go.Joins
open Go.Maps (Keyed IsMap has)

theorem lt_of_heap {w : World} {g : Nat} {o : Obj} (h : w.heap[g]? = some o) : g < w.heap.size := by
 rcases Nat.lt_or_ge g w.heap.size with hlt | hge
 ·exact hlt
 ·rw [Array.getElem?_eq_none hge] at h; cases h
/-- A row is no block of another make. -/
theorem row_ne' {w : World} {B g n size : Nat} {e T : TypeId} {v : Value} {l : List Value} {cs : Array Value} (hT : T ≠ e) (ho : w.ownsRow B e size v n l) (hh : w.heap[g]? = some (.cells cs T (0, 0))) : v.ownBlock ≠ some g := by
 rcases ho.2 with ⟨rfl, _⟩ | ⟨g', cap, cur, rfl, _, hb, _⟩
 ·simp [Value.ownBlock]
 ·intro he
  have e : g' = g := by simpa [Value.ownBlock] using he
  subst e
  rw [hh] at hb
  simp at hb
  exact hT hb.2
theorem row_kept' {w w' : World} {B n size : Nat} {e : TypeId} {v : Value} {l : List Value} (ho : w.ownsRow B e size v n l) (hk : ∀ g, v.ownBlock = some g → w'.heap[g]? = w.heap[g]?) : w'.ownsRow B e size v n l := by
 refine ⟨ho.1, ?_⟩
 rcases ho.2 with ⟨rfl, h⟩ | ⟨g, cap, cur, rfl, hg, hb, h⟩
 ·exact .inl ⟨rfl, h⟩
 ·exact .inr ⟨g, cap, cur, rfl, hg, (hk g rfl).trans hb, h⟩
/-- The cells of the first k words. -/
def wcells (ls W : Nat → Nat) : Nat → List Value
 | 0 => []
 | k + 1 => wcells ls W k ++ [.int .u8 (ls k : Nat), .int .u32 (W k : Nat)]
theorem wcells_len (ls W : Nat → Nat) (k : Nat) : (wcells ls W k).length = k * 2 := by
 induction k with
 | zero => rfl
 | succ k ih => simp [wcells, ih]; omega
theorem wcells_at (ls W : Nat → Nat) : ∀ k i, i < k → (wcells ls W k)[i * 2]? = some (.int .u8 (ls i : Nat)) ∧ (wcells ls W k)[i * 2 + 1]? = some (.int .u32 (W i : Nat))
 | 0, i, h => by omega
 | k + 1, i, h => by
  rw [wcells]
  by_cases hi : i < k
  ·obtain ⟨h1, h2⟩ := wcells_at ls W k i hi
   rw [List.getElem?_append_left (by rw [wcells_len]; omega), List.getElem?_append_left (by rw [wcells_len]; omega)]
   exact ⟨h1, h2⟩
  ·obtain rfl : i = k := by omega
   rw [List.getElem?_append_right (by rw [wcells_len]; exact Nat.le_refl _), List.getElem?_append_right (by rw [wcells_len]; omega), wcells_len]
   simp
theorem infoW : (Tryz.prog.info? 151).map (fun i => (i.zero, i.size, i.bytes)) = some (some (.agg #[.int .u8 0, .int .u32 0]), 2, 8) := by kernel_rfl

/-- A code in its making: k words. -/
def Cd0 (w : World) (B g bm : Nat) (ls W : Nat → Nat) (k mx : Nat) : Prop :=
 ∃ A c, w.heap[g]? = some (.cells #[.slice A k c, .map (some bm), .int .u8 (mx : Nat)] 155 (0, 0)) ∧ w.ownsRow B 151 2 (.slice A k c) k (wcells ls W k) ∧
  w.ownsMap Tryz.prog 151 (plainElem Tryz.prog 3) bm k (codeMap ls W k) ∧ B ≤ g ∧ B ≤ bm
/-- A map is no row of cells. -/
theorem map_ne {w : World} {bm g n : Nat} {D : DataW Unit} {cs : Array Value} {T : TypeId} {fz : Nat × Nat} (h : w.ownsMap Tryz.prog 151 (plainElem Tryz.prog 3) bm n D) (hb : w.heap[g]? = some (.cells cs T fz)) : g ≠ bm := by
 rintro rfl
 obtain ⟨es, clock, hm, _⟩ := h
 rw [hb] at hm
 cases hm
theorem map_stay {w w' : World} {bm n : Nat} {D : DataW Unit} (h : w.ownsMap Tryz.prog 151 (plainElem Tryz.prog 3) bm n D) (hb : w'.heap[bm]? = w.heap[bm]?) : w'.ownsMap Tryz.prog 151 (plainElem Tryz.prog 3) bm n D := by
 obtain ⟨es, clock, hm, r⟩ := h
 exact ⟨es, clock, hb.trans hm, r⟩
theorem map_lt {w : World} {bm n : Nat} {D : DataW Unit} (h : w.ownsMap Tryz.prog 151 (plainElem Tryz.prog 3) bm n D) : bm < w.heap.size := by
 obtain ⟨es, clock, hm, _⟩ := h
 exact lt_of_heap hm

theorem wordN_le (ls : Nat → Nat) (n : Nat) (h : ∀ i, i < n → ls i ≤ 15) (hf : fillN ls n ≤ 32768) (i : Nat) (hi : i < n) : wordN ls n i ≤ 32768 := by
 unfold wordN
 by_cases h0 : ls i = 0
 ·rw [if_pos h0]
  exact Nat.zero_le _
 ·rw [if_neg h0]
  have h1 := firstN_small ls n h hf (ls i) (h i hi)
  rw [if_neg h0] at h1
  have h2 := cntN_mono ls (ls i) i (n - i)
  rw [show i + (n - i) = n by omega] at h2
  omega

theorem map_row {w : World} {bm n B m size : Nat} {D : DataW Unit} {e : TypeId} {v : Value} {l : List Value} (h : w.ownsMap Tryz.prog 151 (plainElem Tryz.prog 3) bm n D) (ho : w.ownsRow B e size v m l) : v.ownBlock ≠ some bm := by
 rcases ho.2 with ⟨rfl, _⟩ | ⟨g', cap, cur, rfl, _, hb, _⟩
 ·simp [Value.ownBlock]
 ·intro he
  have e : g' = bm := by simpa [Value.ownBlock] using he
  exact map_ne h hb e

theorem new_err (A : Option Addr) (n cap : Nat) (open_ : Bool) (x : Int) (hx : x ≠ 0) (w : World) (h : Calls Tryz.prog 109 #[.slice A n cap] w fun e w' => e = .returned (.tuple #[.slice none 0 0, .int .i64 x]) ∧ w = w') :
  Calls Tryz.prog 96 #[.slice A n cap, .bool open_] w fun e w' => e = .returned (.tuple #[.pointer none, .int .i64 x]) ∧ w = w' := by
 have H := Lib.hid h
 have hx' : (x == 0) = false := by rw [beq_eq_false_iff_ne]; exact hx
 clear h hx
 go_enter Tryz.func96, Tryz.ntmps96
 go_wp2_with (go_at_call 109; refine (H.out).mono ?_; rintro e w' ⟨rfl, rfl⟩)
 go_ret2
 exact ⟨rfl, rfl⟩

set_option maxRecDepth 100000 in
set_option maxHeartbeats 8000000 in
theorem new_ok (A : Option Addr) (n cap : Nat) (open_ : Bool) (ls : Nat → Nat) (hn : n ≤ 4096) (w : World) (hL : Lens w A n ls) (h15 : ∀ i, i < n → ls i ≤ 15) (hf : fillN ls n ≤ 32768)
  (hacc : fillN ls n = 32768 ∨ open_ = true ∧ sumN ls n ≤ 1) :
  Calls Tryz.prog 96 #[.slice A n cap, .bool open_] w fun e w' => ∃ g, e = .returned (.tuple #[.pointer (some ⟨g, 0, none⟩), .int .i64 0]) ∧ (∃ bm, Cd0 w' w.heap.size g bm ls (wordN ls n) n (if n = 0 then 0 else maxN ls (n - 1))) ∧ Below w.heap.size w w' := by
 have HW := Lib.hid (words_ok A n cap ls hn w hL h15 hf)
 have HF := Lib.hid (fun w' (h : Below w.heap.size w w') => fill_ok A n cap ls hn w' (hL.below (Nat.le_refl _) h) h15)
 have HO := Lib.hid (fun w' (h : Below w.heap.size w w') => open_any A n cap ls hn w' (hL.below (Nat.le_refl _) h) h15)
 have HMX := Lib.hid (fun (h0 : 0 < n) w' (h : Below w.heap.size w w') => max_any A n cap ls h0 hn w' (hL.below (Nat.le_refl _) h))
 have HL := Lib.hid hL
 have H15 := Lib.hid h15
 have HWL := Lib.hid (fun i (hi : i < n) => wordN_le ls n h15 hf i hi)
 have hmm := @run_makeMap Tryz.prog
 clear hL h15
 go_enter Tryz.func96, Tryz.ntmps96
 go_wp2_with fail
 refine (HW.out).mono ?_; rintro e w1 ⟨rfl, hr1, hb1⟩
 have HR1 := Lib.hid hr1
 have HB1 := Lib.hid hb1
 clear hr1 hb1 HW
 by_cases hw : fillN ls n = 32768
 ·clear hacc
  go_wp2_with (first | (go_at_call 110; refine (HF.out _ HB1.out).mono ?_; rintro e w' ⟨rfl, rfl⟩) | (go_at_call 111; refine (HO.out _ HB1.out).mono ?_; rintro e w' ⟨rfl, rfl⟩))
  have hg0 : Below w.heap.size w ((w1.alloc (.map #[] 0)).alloc (.cells #[.slice none 0 0, .map (some w1.heap.size), .int .u8 0] 155)) := (HB1.out.alloc HB1.out.size _).alloc (by have := HB1.out.size; simp; omega) _
  have hcd : Cd0 ((w1.alloc (.map #[] 0)).alloc (.cells #[.slice none 0 0, .map (some w1.heap.size), .int .u8 0] 155)) w.heap.size (w1.heap.size + 1) w1.heap.size ls (wordN ls n) 0 0 :=
   ⟨none, 0, heap_alloc2_new _ _ _, World.ownsRow_nil _ _ _ _, map_stay (World.ownsMap_made w1 _ _ _) (Below.heap_alloc _ _ _ (by simp)), Nat.le_trans HB1.out.size (Nat.le_succ _), HB1.out.size⟩
  have hr2 := (HR1.out.alloc (.map #[] 0)).alloc (.cells #[.slice none 0 0, .map (some w1.heap.size), .int .u8 0] 155)
  have HGN := Lib.hid HR1.out.lt
  generalize (w1.alloc (.map #[] 0)).alloc (.cells #[.slice none 0 0, .map (some w1.heap.size), .int .u8 0] 155) = W2 at *
  generalize w1.heap.size = bm at *
  clear hmm
  have HI : Hid (Cd0 W2 w.heap.size (bm + 1) bm ls (wordN ls n) 0 0 ∧ IsRowU W2 w.heap.size n (wordN ls n) ∧ Below w.heap.size w W2) := ⟨hcd, hr2, hg0⟩
  clear hcd hr2 hg0 HR1 HB1
  obtain ⟨i0, hi, hz0, hz1, hz2⟩ := info_parts infoW
  go_wp2
  go_loopw [42] (fun i wr => ∃ k : Nat, k ≤ n ∧ i = .int .i64 k ∧ Cd0 wr w.heap.size (bm + 1) bm ls (wordN ls n) k 0 ∧ IsRowU wr w.heap.size n (wordN ls n) ∧ Below w.heap.size w wr) (fun i _ => n - (intOf i).toNat)
  case atStart => exact ⟨0, Nat.zero_le _, rfl, HI.out⟩
  case round =>
   obtain ⟨k, hk, rfl, hcd, hr, hb⟩ := hrel
   have HCD := Lib.hid hcd
   have HR := Lib.hid hr
   have HB := Lib.hid hb
   by_cases hlt : k < n
   ·obtain ⟨b, off, rfl, hbl, hc⟩ := HL.out (by omega)
    have hcell := (hb.cell (p := ⟨b, off + k, none⟩) hbl).trans (hc k hlt).1
    have hl := H15.out k hlt
    have hwk := hr.cell k hlt
    clear hcd hr hb hc
    generalize hWW : wordN ls n = W at *
    have hwl : W k ≤ 32768 := HWL.out k hlt
    have hk4 : k ≤ 4096 := by omega
    go_wp2
    obtain ⟨A', c, hb0, ho0, hm0, hBg, hBm⟩ := HCD.out
    have hgl := lt_of_heap hb0
    have hml := map_lt hm0
    have hb1 : (wr.alloc (.cells #[.int .u8 (ls k : Nat), .int .u32 (W k : Nat)] 151)).heap[bm + 1]? = _ := (Below.heap_alloc wr _ _ hgl).trans hb0
    have hm1 := map_stay hm0 (Below.heap_alloc wr (.cells #[.int .u8 (ls k : Nat), .int .u32 (W k : Nat)] 151) bm hml)
    have ho1 := ho0.alloc (.cells #[.int .u8 (ls k : Nat), .int .u32 (W k : Nat)] 151)
    have hr1 := HR.out.alloc (.cells #[.int .u8 (ls k : Nat), .int .u32 (W k : Nat)] 151)
    have hbl1 := HB.out.alloc HB.out.size (.cells #[.int .u8 (ls k : Nat), .int .u32 (W k : Nat)] 151)
    have he1 : (wr.alloc (.cells #[.int .u8 (ls k : Nat), .int .u32 (W k : Nat)] 151)).heap[wr.heap.size]? = _ := heap_alloc_new wr _
    have hga : bm + 1 < wr.heap.size := hgl
    have hol : ∀ x, (Value.slice A' k c).ownBlock = some x → x ≠ wr.heap.size := fun x hx => by
     have := (ho0.lt x hx).2
     omega
    generalize wr.alloc (.cells #[.int .u8 (ls k : Nat), .int .u32 (W k : Nat)] 151) = W3 at *
    generalize wr.heap.size = ga at *
    have c0 : W3.cell? ⟨bm + 1, 0, none⟩ = some (.slice A' k c) := by rw [cell_of_row W3 _ 0 _ _ _ hb1]; rfl
    have e0 : W3.cell? ⟨ga, 0, none⟩ = some (.int .u8 (ls k : Nat)) := by rw [cell_of_row W3 _ 0 _ _ _ he1]; rfl
    have e1 : W3.cell? ⟨ga, 1, none⟩ = some (.int .u32 (W k : Nat)) := by rw [cell_of_row W3 _ 1 _ _ _ he1]; rfl
    have c0a : (W3.alloc (.cells #[.int .u8 (ls k : Nat), .int .u32 (W k : Nat)] 151)).cell? ⟨bm + 1, 0, none⟩ = some (.slice A' k c) := by rw [World.cell?_alloc_lt _ _ _ (lt_of_heap hb1)]; exact c0
    have HB1 := Lib.hid hb1
    have HM1 := Lib.hid hm1
    have HO1 := Lib.hid ho1
    have HR1 := Lib.hid hr1
    have HBL1 := Lib.hid hbl1
    have HE1 := Lib.hid he1
    have HOL := Lib.hid hol
    have HBG := Lib.hid hBg
    have HBM := Lib.hid hBm
    clear hol hBg hBm hb0 ho0 hm0 hb1 hm1 ho1 hr1 hbl1 he1 HCD HR HB hwk hcell hWW
    go_region_law ((refine step_append_lies _ (by rfl) (.tmp 57) (.tmp 59) _ (by rfl) w.heap.size 151 i0 (.agg #[.int .u8 0, .int .u32 0]) 2 8 Tryz.underlying152 hi hz0 hz1 hz2 rfl (by decide) (.slice A' k c) k (wcells ls W k) (by rfl) (HO1.out.alloc _).drew ⟨W3.heap.size, 0, none⟩ 1 1 [.int .u8 (ls k : Nat), .int .u32 (W k : Nat)] (by rfl) rfl (by exact World.news_of_block (heap_alloc_new _ _)) (by intro u hu; simp at hu; rcases hu with rfl | rfl <;> rfl) (by omega) (by unfold maxLen; omega) (by omega) (by have := HBL1.out.size; simp; omega) (W3.heap.size + 1) (by simp) ?_; intro g2 cap2 w2 hown hgrow hat hlt2; have hne := row_ne' (by decide) HO1.out HB1.out; have hb2 := (hgrow.block (bm + 1) (by have := lt_of_heap HB1.out; simp; omega) (Ne.symm hne)).trans ((Below.heap_alloc W3 _ _ (lt_of_heap HB1.out)).trans HB1.out); have k0 := cell_of_row w2 (bm + 1) 0 _ _ _ hb2; have kf := frozen_of_row w2 (bm + 1) 0 _ _ hb2))
    all_goals
     have hn2 : g2 ≠ bm + 1 := fun e => row_ne' (by decide) hown hb2 (by simp [Value.ownBlock, e])
     have hb3 := heap_setCell_same w2 (bm + 1) 0 _ _ (.slice (some ⟨g2, 0, none⟩) (k + 1) cap2) hb2
     have ho3 := row_kept' (w' := w2.setCell ⟨bm + 1, 0, none⟩ (.slice (some ⟨g2, 0, none⟩) (k + 1) cap2)) hown (fun b hb => Below.heap_setCell _ _ _ _ (by simp [Value.ownBlock] at hb; subst hb; exact hn2))
     have hm3 := map_stay (w' := w2.setCell ⟨bm + 1, 0, none⟩ (.slice (some ⟨g2, 0, none⟩) (k + 1) cap2)) HM1.out (((Below.heap_setCell _ _ _ _ (show bm ≠ bm + 1 by omega)).trans (hgrow.block bm (by have := map_lt HM1.out; simp; omega) (Ne.symm (map_row HM1.out HO1.out)))).trans (Below.heap_alloc W3 _ bm (map_lt HM1.out)))
     have hr3 : IsRowU (w2.setCell ⟨bm + 1, 0, none⟩ (.slice (some ⟨g2, 0, none⟩) (k + 1) cap2)) w.heap.size n W := (((Below.heap_setCell _ _ _ _ (show w.heap.size ≠ bm + 1 by have := HGN.out; omega)).trans (hgrow.block w.heap.size (by have := HR1.out.lt; simp; omega) (Ne.symm (row_ne' (by decide) HO1.out HR1.out)))).trans (Below.heap_alloc W3 _ _ HR1.out.lt)).trans HR1.out
     have he3 : (w2.setCell ⟨bm + 1, 0, none⟩ (.slice (some ⟨g2, 0, none⟩) (k + 1) cap2)).heap[ga]? = some (.cells #[.int .u8 (ls k : Nat), .int .u32 (W k : Nat)] 151 (0, 0)) := (((Below.heap_setCell _ _ _ _ (show ga ≠ bm + 1 by omega)).trans (hgrow.block ga (by have := lt_of_heap HE1.out; simp; omega) (fun e => HOL.out ga e.symm rfl))).trans (Below.heap_alloc W3 _ _ (lt_of_heap HE1.out))).trans HE1.out
     have hbl3 : Below w.heap.size w (w2.setCell ⟨bm + 1, 0, none⟩ (.slice (some ⟨g2, 0, none⟩) (k + 1) cap2)) := (((HBL1.out.alloc HBL1.out.size _).drew).grown hgrow (by have := HBL1.out.size; simp; omega) (fun x hx => (HO1.out.lt x hx).1)).setCell (by have := HGN.out; simp; omega) _
     generalize w2.setCell ⟨bm + 1, 0, none⟩ (.slice (some ⟨g2, 0, none⟩) (k + 1) cap2) = w3 at *
     have HB3 := Lib.hid hb3
     have HO3 := Lib.hid ho3
     have HM3 := Lib.hid hm3
     have HR3 := Lib.hid hr3
     have HBL3 := Lib.hid hbl3
     have m1 : w3.cell? ⟨bm + 1, 1, none⟩ = some (.map (some bm)) := by rw [cell_of_row w3 _ 1 _ _ _ hb3]; rfl
     have x0 : w3.cell? ⟨ga, 0, none⟩ = some (.int .u8 (ls k : Nat)) := by rw [cell_of_row w3 _ 0 _ _ _ he3]; rfl
     have x1 : w3.cell? ⟨ga, 1, none⟩ = some (.int .u32 (W k : Nat)) := by rw [cell_of_row w3 _ 1 _ _ _ he3]; rfl
     clear hb3 ho3 hm3 hr3 he3 hbl3 hown hgrow hat hlt2 hne hb2 k0 kf c0 e0 e1 c0a
     by_cases h0 : ls k = 0
     ·have HCM : Hid (codeMap ls W (k + 1) = codeMap ls W k) := if_pos h0
      rw [h0] at x0
      go_wp2
      go_roundw
      case rel =>
       refine ⟨k + 1, by omega, by go_num, ⟨_, _, HB3.out, HO3.out, ?_, HBG.out, HBM.out⟩, HR3.out, HBL3.out⟩
       rw [HCM.out]
       exact HM3.out.mono (by omega)
      case measure => simp [intOf]; omega
     ·have HCM : Hid (codeMap ls W (k + 1) = (codeMap ls W k).put (kk (ls k) (W k)) (.lit (.int .i64 (k : Nat)))) := if_neg h0
      have hpos : 0 < ls k := by omega
      go_wp2
      go_still_tail 6, (by kernel_rfl)
      change wpList _ _ _ _ _ w3.drew
      have HM4 : Hid (w3.drew.ownsMap Tryz.prog 151 (plainElem Tryz.prog 3) bm k (codeMap ls W k)) := HM3
      have HB4 : Hid (w3.drew.heap[bm + 1]? = some (.cells #[.slice (some ⟨g2, 0, none⟩) (k + 1) cap2, .map (some bm), .int .u8 (0 : Nat)] 155 (0, 0))) := HB3
      have HO4 : Hid (w3.drew.ownsRow w.heap.size 151 2 (.slice (some ⟨g2, 0, none⟩) (k + 1) cap2) (k + 1) (wcells ls W k ++ [.int .u8 (ls k : Nat), .int .u32 (W k : Nat)])) := HO3
      have HR4 : Hid (IsRowU w3.drew w.heap.size n W) := HR3
      have HBL4 : Hid (Below w.heap.size w w3.drew) := HBL3.out.drew
      generalize w3.drew = w4 at *
      refine wpList_mapUpdate_own _ rfl _ _ _ 153 rfl 151 3 word_law Tryz.underlying153 (plainElem Tryz.prog 3) bm k (codeMap ls W k) rfl HM4.out (by unfold maxLen; omega) _ _ (kk (ls k) (W k)) rfl rfl (kk_of _ _ (by omega) (by omega)) (.lit (.int .i64 (k : Nat))) [] (plainElem_int Tryz.underlying3 (WalkArith.wf_i64 (by omega))) ?_
      intro w5 hm5 hg5
      have HM5 := Lib.hid hm5
      have HB5 : Hid (w5.heap[bm + 1]? = some (.cells #[.slice (some ⟨g2, 0, none⟩) (k + 1) cap2, .map (some bm), .int .u8 (0 : Nat)] 155 (0, 0))) := (hg5.block (bm + 1) (lt_of_heap HB4.out) (by intro h; injection h with h; omega)).trans HB4.out
      have HO5 := Lib.hid (row_kept' (w' := w5) HO4.out (fun b hb => hg5.block b (HO4.out.lt b hb).2 (fun h => map_row HM4.out HO4.out (hb.trans h))))
      have HR5 : Hid (IsRowU w5 w.heap.size n W) := (hg5.block _ HR4.out.lt (by intro h; injection h with h; have := HGN.out; omega)).trans HR4.out
      have HBL5 := Lib.hid (HBL4.out.grown hg5 HBL4.out.size (by intro x hx; injection hx with hx; have := HGN.out; omega))
      clear hm5 hg5 HM4 HB4 HO4 HR4 HBL4
      go_wp2
      go_roundw
      case rel =>
       refine ⟨k + 1, by omega, by go_num, ⟨_, _, HB5.out, HO5.out, ?_, HBG.out, HBM.out⟩, HR5.out, HBL5.out⟩
       rw [HCM.out]
       exact HM5.out
      case measure => simp [intOf]; omega
   ·obtain rfl : k = n := by omega
    obtain ⟨A', c, hb0, ho0, hm0, hBg, hBm⟩ := HCD.out
    have f2 := frozen_of_row wr (bm + 1) 2 _ _ hb0
    have c2 : wr.cell? ⟨bm + 1, 2, none⟩ = some (.int .u8 0) := by rw [cell_of_row wr _ 2 _ _ _ hb0]; rfl
    have HB0 := Lib.hid hb0
    have HO0 := Lib.hid ho0
    have HM0 := Lib.hid hm0
    clear hcd hr hb hb0 ho0 hm0
    by_cases h0 : k = 0
    ·have HZ : Hid ((if k = 0 then 0 else maxN ls (k - 1)) = 0) := if_pos h0
     subst h0
     go_wp2
     go_ret2
     refine ⟨bm + 1, rfl, ⟨bm, ?_⟩, HB.out⟩
     try rw [HZ.out]
     exact ⟨A', c, HB0.out, HO0.out, HM0.out, hBg, hBm⟩
    ·have HZ : Hid ((if k = 0 then 0 else maxN ls (k - 1)) = maxN ls (k - 1)) := if_neg h0
     have hpos : 0 < k := by omega
     have HMX2 := Lib.hid (HMX.out hpos wr HB.out)
     obtain ⟨mx, hmx⟩ : ∃ mx, maxN ls (k - 1) = mx := ⟨_, rfl⟩
     rw [hmx] at HMX2
     have HME := Lib.hid hmx
     clear hmx
     go_wp2_with (go_at_call 112; refine (HMX2.out).mono ?_; rintro e w' ⟨rfl, rfl⟩)
     go_ret2
     refine ⟨bm + 1, rfl, ⟨bm, ?_⟩, HB.out.setCell (show w.heap.size ≤ bm + 1 by have := HGN.out; omega) _⟩
     try rw [HZ.out]
     rw [HME.out]
     have hne := row_ne' (by decide) HO0.out HB0.out
     exact ⟨A', c, heap_setCell_same wr (bm + 1) 2 _ _ _ HB0.out, row_kept' HO0.out (fun b hb => Below.heap_setCell _ _ _ _ (fun e => hne (by rw [hb, e]))), map_stay HM0.out (Below.heap_setCell _ _ _ _ (show bm ≠ bm + 1 by omega)), hBg, hBm⟩
 ·have hacc2 : open_ = true ∧ sumN ls n ≤ 1 := by
   rcases hacc with h | h
   ·exact absurd h hw
   ·exact h
  obtain ⟨rfl, hs1⟩ := hacc2
  have hwl : fillN ls n < 32768 := by omega
  have hd1 : decide (sumN ls n ≤ 1) = true := decide_eq_true hs1
  rw [hd1] at HO
  have hd2 : decide ((fillN ls n : Int) < 32768) = true := decide_eq_true (by omega)
  clear hacc hw hs1 hd1
  generalize fillN ls n = F at *
  go_wp2_with (first | (go_at_call 110; refine (HF.out _ HB1.out).mono ?_; rintro e w' ⟨rfl, rfl⟩) | (go_at_call 111; refine (HO.out _ HB1.out).mono ?_; rintro e w' ⟨rfl, rfl⟩))
  clear hwl hd2 hf HF HO
  have hg0 : Below w.heap.size w ((w1.alloc (.map #[] 0)).alloc (.cells #[.slice none 0 0, .map (some w1.heap.size), .int .u8 0] 155)) := (HB1.out.alloc HB1.out.size _).alloc (by have := HB1.out.size; simp; omega) _
  have hcd : Cd0 ((w1.alloc (.map #[] 0)).alloc (.cells #[.slice none 0 0, .map (some w1.heap.size), .int .u8 0] 155)) w.heap.size (w1.heap.size + 1) w1.heap.size ls (wordN ls n) 0 0 :=
   ⟨none, 0, heap_alloc2_new _ _ _, World.ownsRow_nil _ _ _ _, map_stay (World.ownsMap_made w1 _ _ _) (Below.heap_alloc _ _ _ (by simp)), Nat.le_trans HB1.out.size (Nat.le_succ _), HB1.out.size⟩
  have hr2 := (HR1.out.alloc (.map #[] 0)).alloc (.cells #[.slice none 0 0, .map (some w1.heap.size), .int .u8 0] 155)
  have HGN := Lib.hid HR1.out.lt
  generalize (w1.alloc (.map #[] 0)).alloc (.cells #[.slice none 0 0, .map (some w1.heap.size), .int .u8 0] 155) = W2 at *
  generalize w1.heap.size = bm at *
  clear hmm
  have HI : Hid (Cd0 W2 w.heap.size (bm + 1) bm ls (wordN ls n) 0 0 ∧ IsRowU W2 w.heap.size n (wordN ls n) ∧ Below w.heap.size w W2) := ⟨hcd, hr2, hg0⟩
  clear hcd hr2 hg0 HR1 HB1
  obtain ⟨i0, hi, hz0, hz1, hz2⟩ := info_parts infoW
  go_wp2
  go_loopw [42] (fun i wr => ∃ k : Nat, k ≤ n ∧ i = .int .i64 k ∧ Cd0 wr w.heap.size (bm + 1) bm ls (wordN ls n) k 0 ∧ IsRowU wr w.heap.size n (wordN ls n) ∧ Below w.heap.size w wr) (fun i _ => n - (intOf i).toNat)
  case atStart => exact ⟨0, Nat.zero_le _, rfl, HI.out⟩
  case round =>
   obtain ⟨k, hk, rfl, hcd, hr, hb⟩ := hrel
   have HCD := Lib.hid hcd
   have HR := Lib.hid hr
   have HB := Lib.hid hb
   by_cases hlt : k < n
   ·obtain ⟨b, off, rfl, hbl, hc⟩ := HL.out (by omega)
    have hcell := (hb.cell (p := ⟨b, off + k, none⟩) hbl).trans (hc k hlt).1
    have hl := H15.out k hlt
    have hwk := hr.cell k hlt
    clear hcd hr hb hc
    generalize hWW : wordN ls n = W at *
    have hwl : W k ≤ 32768 := HWL.out k hlt
    have hk4 : k ≤ 4096 := by omega
    go_wp2
    obtain ⟨A', c, hb0, ho0, hm0, hBg, hBm⟩ := HCD.out
    have hgl := lt_of_heap hb0
    have hml := map_lt hm0
    have hb1 : (wr.alloc (.cells #[.int .u8 (ls k : Nat), .int .u32 (W k : Nat)] 151)).heap[bm + 1]? = _ := (Below.heap_alloc wr _ _ hgl).trans hb0
    have hm1 := map_stay hm0 (Below.heap_alloc wr (.cells #[.int .u8 (ls k : Nat), .int .u32 (W k : Nat)] 151) bm hml)
    have ho1 := ho0.alloc (.cells #[.int .u8 (ls k : Nat), .int .u32 (W k : Nat)] 151)
    have hr1 := HR.out.alloc (.cells #[.int .u8 (ls k : Nat), .int .u32 (W k : Nat)] 151)
    have hbl1 := HB.out.alloc HB.out.size (.cells #[.int .u8 (ls k : Nat), .int .u32 (W k : Nat)] 151)
    have he1 : (wr.alloc (.cells #[.int .u8 (ls k : Nat), .int .u32 (W k : Nat)] 151)).heap[wr.heap.size]? = _ := heap_alloc_new wr _
    have hga : bm + 1 < wr.heap.size := hgl
    have hol : ∀ x, (Value.slice A' k c).ownBlock = some x → x ≠ wr.heap.size := fun x hx => by
     have := (ho0.lt x hx).2
     omega
    generalize wr.alloc (.cells #[.int .u8 (ls k : Nat), .int .u32 (W k : Nat)] 151) = W3 at *
    generalize wr.heap.size = ga at *
    have c0 : W3.cell? ⟨bm + 1, 0, none⟩ = some (.slice A' k c) := by rw [cell_of_row W3 _ 0 _ _ _ hb1]; rfl
    have e0 : W3.cell? ⟨ga, 0, none⟩ = some (.int .u8 (ls k : Nat)) := by rw [cell_of_row W3 _ 0 _ _ _ he1]; rfl
    have e1 : W3.cell? ⟨ga, 1, none⟩ = some (.int .u32 (W k : Nat)) := by rw [cell_of_row W3 _ 1 _ _ _ he1]; rfl
    have c0a : (W3.alloc (.cells #[.int .u8 (ls k : Nat), .int .u32 (W k : Nat)] 151)).cell? ⟨bm + 1, 0, none⟩ = some (.slice A' k c) := by rw [World.cell?_alloc_lt _ _ _ (lt_of_heap hb1)]; exact c0
    have HB1 := Lib.hid hb1
    have HM1 := Lib.hid hm1
    have HO1 := Lib.hid ho1
    have HR1 := Lib.hid hr1
    have HBL1 := Lib.hid hbl1
    have HE1 := Lib.hid he1
    have HOL := Lib.hid hol
    have HBG := Lib.hid hBg
    have HBM := Lib.hid hBm
    clear hol hBg hBm hb0 ho0 hm0 hb1 hm1 ho1 hr1 hbl1 he1 HCD HR HB hwk hcell hWW
    go_region_law ((refine step_append_lies _ (by rfl) (.tmp 57) (.tmp 59) _ (by rfl) w.heap.size 151 i0 (.agg #[.int .u8 0, .int .u32 0]) 2 8 Tryz.underlying152 hi hz0 hz1 hz2 rfl (by decide) (.slice A' k c) k (wcells ls W k) (by rfl) (HO1.out.alloc _).drew ⟨W3.heap.size, 0, none⟩ 1 1 [.int .u8 (ls k : Nat), .int .u32 (W k : Nat)] (by rfl) rfl (by exact World.news_of_block (heap_alloc_new _ _)) (by intro u hu; simp at hu; rcases hu with rfl | rfl <;> rfl) (by omega) (by unfold maxLen; omega) (by omega) (by have := HBL1.out.size; simp; omega) (W3.heap.size + 1) (by simp) ?_; intro g2 cap2 w2 hown hgrow hat hlt2; have hne := row_ne' (by decide) HO1.out HB1.out; have hb2 := (hgrow.block (bm + 1) (by have := lt_of_heap HB1.out; simp; omega) (Ne.symm hne)).trans ((Below.heap_alloc W3 _ _ (lt_of_heap HB1.out)).trans HB1.out); have k0 := cell_of_row w2 (bm + 1) 0 _ _ _ hb2; have kf := frozen_of_row w2 (bm + 1) 0 _ _ hb2))
    all_goals
     have hn2 : g2 ≠ bm + 1 := fun e => row_ne' (by decide) hown hb2 (by simp [Value.ownBlock, e])
     have hb3 := heap_setCell_same w2 (bm + 1) 0 _ _ (.slice (some ⟨g2, 0, none⟩) (k + 1) cap2) hb2
     have ho3 := row_kept' (w' := w2.setCell ⟨bm + 1, 0, none⟩ (.slice (some ⟨g2, 0, none⟩) (k + 1) cap2)) hown (fun b hb => Below.heap_setCell _ _ _ _ (by simp [Value.ownBlock] at hb; subst hb; exact hn2))
     have hm3 := map_stay (w' := w2.setCell ⟨bm + 1, 0, none⟩ (.slice (some ⟨g2, 0, none⟩) (k + 1) cap2)) HM1.out (((Below.heap_setCell _ _ _ _ (show bm ≠ bm + 1 by omega)).trans (hgrow.block bm (by have := map_lt HM1.out; simp; omega) (Ne.symm (map_row HM1.out HO1.out)))).trans (Below.heap_alloc W3 _ bm (map_lt HM1.out)))
     have hr3 : IsRowU (w2.setCell ⟨bm + 1, 0, none⟩ (.slice (some ⟨g2, 0, none⟩) (k + 1) cap2)) w.heap.size n W := (((Below.heap_setCell _ _ _ _ (show w.heap.size ≠ bm + 1 by have := HGN.out; omega)).trans (hgrow.block w.heap.size (by have := HR1.out.lt; simp; omega) (Ne.symm (row_ne' (by decide) HO1.out HR1.out)))).trans (Below.heap_alloc W3 _ _ HR1.out.lt)).trans HR1.out
     have he3 : (w2.setCell ⟨bm + 1, 0, none⟩ (.slice (some ⟨g2, 0, none⟩) (k + 1) cap2)).heap[ga]? = some (.cells #[.int .u8 (ls k : Nat), .int .u32 (W k : Nat)] 151 (0, 0)) := (((Below.heap_setCell _ _ _ _ (show ga ≠ bm + 1 by omega)).trans (hgrow.block ga (by have := lt_of_heap HE1.out; simp; omega) (fun e => HOL.out ga e.symm rfl))).trans (Below.heap_alloc W3 _ _ (lt_of_heap HE1.out))).trans HE1.out
     have hbl3 : Below w.heap.size w (w2.setCell ⟨bm + 1, 0, none⟩ (.slice (some ⟨g2, 0, none⟩) (k + 1) cap2)) := (((HBL1.out.alloc HBL1.out.size _).drew).grown hgrow (by have := HBL1.out.size; simp; omega) (fun x hx => (HO1.out.lt x hx).1)).setCell (by have := HGN.out; simp; omega) _
     generalize w2.setCell ⟨bm + 1, 0, none⟩ (.slice (some ⟨g2, 0, none⟩) (k + 1) cap2) = w3 at *
     have HB3 := Lib.hid hb3
     have HO3 := Lib.hid ho3
     have HM3 := Lib.hid hm3
     have HR3 := Lib.hid hr3
     have HBL3 := Lib.hid hbl3
     have m1 : w3.cell? ⟨bm + 1, 1, none⟩ = some (.map (some bm)) := by rw [cell_of_row w3 _ 1 _ _ _ hb3]; rfl
     have x0 : w3.cell? ⟨ga, 0, none⟩ = some (.int .u8 (ls k : Nat)) := by rw [cell_of_row w3 _ 0 _ _ _ he3]; rfl
     have x1 : w3.cell? ⟨ga, 1, none⟩ = some (.int .u32 (W k : Nat)) := by rw [cell_of_row w3 _ 1 _ _ _ he3]; rfl
     clear hb3 ho3 hm3 hr3 he3 hbl3 hown hgrow hat hlt2 hne hb2 k0 kf c0 e0 e1 c0a
     by_cases h0 : ls k = 0
     ·have HCM : Hid (codeMap ls W (k + 1) = codeMap ls W k) := if_pos h0
      rw [h0] at x0
      go_wp2
      go_roundw
      case rel =>
       refine ⟨k + 1, by omega, by go_num, ⟨_, _, HB3.out, HO3.out, ?_, HBG.out, HBM.out⟩, HR3.out, HBL3.out⟩
       rw [HCM.out]
       exact HM3.out.mono (by omega)
      case measure => simp [intOf]; omega
     ·have HCM : Hid (codeMap ls W (k + 1) = (codeMap ls W k).put (kk (ls k) (W k)) (.lit (.int .i64 (k : Nat)))) := if_neg h0
      have hpos : 0 < ls k := by omega
      go_wp2
      go_still_tail 6, (by kernel_rfl)
      change wpList _ _ _ _ _ w3.drew
      have HM4 : Hid (w3.drew.ownsMap Tryz.prog 151 (plainElem Tryz.prog 3) bm k (codeMap ls W k)) := HM3
      have HB4 : Hid (w3.drew.heap[bm + 1]? = some (.cells #[.slice (some ⟨g2, 0, none⟩) (k + 1) cap2, .map (some bm), .int .u8 (0 : Nat)] 155 (0, 0))) := HB3
      have HO4 : Hid (w3.drew.ownsRow w.heap.size 151 2 (.slice (some ⟨g2, 0, none⟩) (k + 1) cap2) (k + 1) (wcells ls W k ++ [.int .u8 (ls k : Nat), .int .u32 (W k : Nat)])) := HO3
      have HR4 : Hid (IsRowU w3.drew w.heap.size n W) := HR3
      have HBL4 : Hid (Below w.heap.size w w3.drew) := HBL3.out.drew
      generalize w3.drew = w4 at *
      refine wpList_mapUpdate_own _ rfl _ _ _ 153 rfl 151 3 word_law Tryz.underlying153 (plainElem Tryz.prog 3) bm k (codeMap ls W k) rfl HM4.out (by unfold maxLen; omega) _ _ (kk (ls k) (W k)) rfl rfl (kk_of _ _ (by omega) (by omega)) (.lit (.int .i64 (k : Nat))) [] (plainElem_int Tryz.underlying3 (WalkArith.wf_i64 (by omega))) ?_
      intro w5 hm5 hg5
      have HM5 := Lib.hid hm5
      have HB5 : Hid (w5.heap[bm + 1]? = some (.cells #[.slice (some ⟨g2, 0, none⟩) (k + 1) cap2, .map (some bm), .int .u8 (0 : Nat)] 155 (0, 0))) := (hg5.block (bm + 1) (lt_of_heap HB4.out) (by intro h; injection h with h; omega)).trans HB4.out
      have HO5 := Lib.hid (row_kept' (w' := w5) HO4.out (fun b hb => hg5.block b (HO4.out.lt b hb).2 (fun h => map_row HM4.out HO4.out (hb.trans h))))
      have HR5 : Hid (IsRowU w5 w.heap.size n W) := (hg5.block _ HR4.out.lt (by intro h; injection h with h; have := HGN.out; omega)).trans HR4.out
      have HBL5 := Lib.hid (HBL4.out.grown hg5 HBL4.out.size (by intro x hx; injection hx with hx; have := HGN.out; omega))
      clear hm5 hg5 HM4 HB4 HO4 HR4 HBL4
      go_wp2
      go_roundw
      case rel =>
       refine ⟨k + 1, by omega, by go_num, ⟨_, _, HB5.out, HO5.out, ?_, HBG.out, HBM.out⟩, HR5.out, HBL5.out⟩
       rw [HCM.out]
       exact HM5.out
      case measure => simp [intOf]; omega
   ·obtain rfl : k = n := by omega
    obtain ⟨A', c, hb0, ho0, hm0, hBg, hBm⟩ := HCD.out
    have f2 := frozen_of_row wr (bm + 1) 2 _ _ hb0
    have c2 : wr.cell? ⟨bm + 1, 2, none⟩ = some (.int .u8 0) := by rw [cell_of_row wr _ 2 _ _ _ hb0]; rfl
    have HB0 := Lib.hid hb0
    have HO0 := Lib.hid ho0
    have HM0 := Lib.hid hm0
    clear hcd hr hb hb0 ho0 hm0
    by_cases h0 : k = 0
    ·have HZ : Hid ((if k = 0 then 0 else maxN ls (k - 1)) = 0) := if_pos h0
     subst h0
     go_wp2
     go_ret2
     refine ⟨bm + 1, rfl, ⟨bm, ?_⟩, HB.out⟩
     try rw [HZ.out]
     exact ⟨A', c, HB0.out, HO0.out, HM0.out, hBg, hBm⟩
    ·have HZ : Hid ((if k = 0 then 0 else maxN ls (k - 1)) = maxN ls (k - 1)) := if_neg h0
     have hpos : 0 < k := by omega
     have HMX2 := Lib.hid (HMX.out hpos wr HB.out)
     obtain ⟨mx, hmx⟩ : ∃ mx, maxN ls (k - 1) = mx := ⟨_, rfl⟩
     rw [hmx] at HMX2
     have HME := Lib.hid hmx
     clear hmx
     go_wp2_with (go_at_call 112; refine (HMX2.out).mono ?_; rintro e w' ⟨rfl, rfl⟩)
     go_ret2
     refine ⟨bm + 1, rfl, ⟨bm, ?_⟩, HB.out.setCell (show w.heap.size ≤ bm + 1 by have := HGN.out; omega) _⟩
     try rw [HZ.out]
     rw [HME.out]
     have hne := row_ne' (by decide) HO0.out HB0.out
     exact ⟨A', c, heap_setCell_same wr (bm + 1) 2 _ _ _ HB0.out, row_kept' HO0.out (fun b hb => Below.heap_setCell _ _ _ _ (fun e => hne (by rw [hb, e]))), map_stay HM0.out (Below.heap_setCell _ _ _ _ (show bm ≠ bm + 1 by omega)), hBg, hBm⟩
end Go.Proofs.YtmkeicfklbepnaaGreat
