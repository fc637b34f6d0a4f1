/-
  Contract of Words.
  Words as keys of a map: what a code's map holds.
-/
import Derived.Test.YtopjmagbcnglhaaPkAA
import Derived.Deep.OwnRows
import Derived.Laws.OwnMore
import Derived.Maps.OwnSet
import Derived.DeepKeys4
import Derived.MapViews

namespace Go.Proofs.Ytopjmagbcnglhaa
open Go.RowKit Go.Deep

/-- The word of a sign, as a number (0, where it has none). -/
def wordN (ls : Nat → Nat) (n i : Nat) : Nat := if ls i = 0 then 0 else firstN ls n (ls i) + cntN ls (ls i) i
theorem cntN_mono (ls : Nat → Nat) (l k : Nat) : ∀ d, cntN ls l k ≤ cntN ls l (k + d)
  | 0 => Nat.le_refl _
  | d + 1 => by
    have := cntN_mono ls l k d
    rw [← Nat.add_assoc, cntN]
    omega

/-- A row of numbers of 32 bits. -/
def rowU (n : Nat) (f : Nat → Nat) : Array Value := ((List.range n).map fun i => Value.int .u32 (f i : Nat)).toArray
theorem rowU_size (n : Nat) (f : Nat → Nat) : (rowU n f).size = n := by simp [rowU]
theorem rowU_at (n : Nat) (f : Nat → Nat) (i : Nat) (hi : i < n) : (rowU n f)[i]? = some (.int .u32 (f i : Nat)) := by
  unfold rowU
  simp [List.getElem?_range hi]
theorem rowU_ext (n : Nat) (f g : Nat → Nat) (h : ∀ i, i < n → f i = g i) : rowU n f = rowU n g := by
  unfold rowU
  congr 1
  apply List.map_congr_left
  intro i hi
  rw [h i (by simpa using hi)]
theorem rowU_set (n : Nat) (f : Nat → Nat) (k x : Nat) (hk : k < n) : (rowU n f).setIfInBounds k (.int .u32 (x : Nat)) = rowU n (fun i => if i = k then x else f i) := by
  apply Array.ext_getElem?
  intro i
  rw [Array.getElem?_setIfInBounds, rowU_size]
  by_cases hi : i < n
  · by_cases h : k = i
    · subst h
      rw [if_pos rfl, if_pos hi, rowU_at _ _ _ hi, if_pos rfl]
    · rw [if_neg h, rowU_at _ _ _ hi, rowU_at _ _ _ hi, if_neg (fun e => h e.symm)]
  · have hn : ∀ g : Nat → Nat, (rowU n g)[i]? = none := fun g => by rw [Array.getElem?_eq_none_iff, rowU_size]; omega
    rw [hn, hn]
    by_cases h : k = i
    · rw [if_pos h, if_neg (by omega)]
    · rw [if_neg h]
theorem rowU_made (n : Nat) : madeCells #[.int .u32 0] n = rowU n (fun _ => 0) := by
  apply Array.ext'
  rw [toList_madeCells_one]
  unfold rowU
  rw [List.map_const', List.length_range]
  rfl
theorem info32 : (Try.prog.info? 42).map (fun i => (i.zero, i.size, i.bytes)) = some (some (.int .u32 0), 1, 4) := by kernel_rfl
/-- A block that is such a row. -/
def IsRowU (w : World) (g n : Nat) (f : Nat → Nat) : Prop := w.heap[g]? = some (.cells (rowU n f) 42 (0, 0))
section
variable {w w' : World} {g n : Nat} {f : Nat → Nat}
theorem IsRowU.cell (h : IsRowU w g n f) (i : Nat) (hi : i < n) : w.cell? ⟨g, i, none⟩ = some (.int .u32 (f i : Nat)) := by
  rw [cell_of_row w g i _ _ _ h, rowU_at n f i hi]
theorem IsRowU.frozen (h : IsRowU w g n f) (i : Nat) : w.frozen? ⟨g, i, none⟩ = false := frozen_of_row w g i _ _ h
theorem IsRowU.lt (h : IsRowU w g n f) : g < w.heap.size := by
  rcases Nat.lt_or_ge g w.heap.size with hlt | hge
  · exact hlt
  · unfold IsRowU at h; rw [Array.getElem?_eq_none hge] at h; cases h
theorem IsRowU.set (h : IsRowU w g n f) (k x : Nat) (hk : k < n) : IsRowU (w.setCell ⟨g, k, none⟩ (.int .u32 (x : Nat))) g n (fun i => if i = k then x else f i) := by
  have e := heap_setCell_same w g k _ _ (.int .u32 (x : Nat)) h
  rw [rowU_set n f k x hk] at e
  exact e
theorem IsRowU.other (h : IsRowU w g n f) (a : Addr) (v : Value) (hne : g ≠ a.block) : IsRowU (w.setCell a v) g n f := (heap_setCell_other w a g v hne).trans h
theorem IsRowU.below {B : Nat} (h : IsRowU w g n f) (hb : Below B w w') (hg : g < B) : IsRowU w' g n f := (hb.block g hg).trans h
theorem IsRowU.alloc (h : IsRowU w g n f) (o : Obj) : IsRowU (w.alloc o) g n f := (Below.heap_alloc w o g h.lt).trans h
theorem IsRowU.ext {f' : Nat → Nat} (h : IsRowU w g n f) (e : ∀ i, i < n → f i = f' i) : IsRowU w g n f' := by
  unfold IsRowU at *
  rw [← rowU_ext n f f' e]
  exact h
theorem IsRowU.setRow_other (h : IsRowU w g n f) (g' : Nat) (cs : Array Value) (hne : g ≠ g') : IsRowU (w.setRow g' cs) g n f := (Go.setRow_other w g' g cs hne).trans h
end

theorem words_many (A : Option Addr) (n cap : Nat) (h : 4096 < n) (w : World) :
    Calls Try.prog 70 #[.slice A n cap] w fun e w' => e = .returned (.tuple #[.slice none 0 0, .int .i64 6]) ∧ w = w' := by
  go_enter Try.func70, Try.ntmps70
  go_wp2_with (go_at_call 71; refine (fill_many A n cap h _).mono ?_; rintro e w' ⟨rfl, rfl⟩)
  go_ret2
  exact ⟨rfl, rfl⟩
theorem words_bad (A : Option Addr) (n cap : Nat) (ls : Nat → Nat) (hn : n ≤ 4096) (w : World) (hL : Lens w A n ls) (h15 : ¬ ∀ i, i < n → ls i ≤ 15) :
    Calls Try.prog 70 #[.slice A n cap] w fun e w' => e = .returned (.tuple #[.slice none 0 0, .int .i64 8]) ∧ w = w' := by
  have HF := Lib.hid (fill_bad A n cap ls hn w hL h15)
  clear hL h15
  go_enter Try.func70, Try.ntmps70
  go_wp2_with (go_at_call 71; refine (HF.out).mono ?_; rintro e w' ⟨rfl, rfl⟩)
  go_ret2
  exact ⟨rfl, rfl⟩
theorem words_over (A : Option Addr) (n cap : Nat) (ls : Nat → Nat) (hn : n ≤ 4096) (w : World) (hL : Lens w A n ls) (h15 : ∀ i, i < n → ls i ≤ 15) (hf : 32768 < fillN ls n) :
    Calls Try.prog 70 #[.slice A n cap] w fun e w' => e = .returned (.tuple #[.slice none 0 0, .int .i64 10]) ∧ w = w' := by
  have HF := Lib.hid (fill_ok A n cap ls hn w hL h15)
  clear hL h15
  go_enter Try.func70, Try.ntmps70
  go_wp2_with (go_at_call 71; refine (HF.out).mono ?_; rintro e w' ⟨rfl, rfl⟩)
  go_ret2
  exact ⟨rfl, rfl⟩

set_option maxRecDepth 100000 in
set_option maxHeartbeats 4000000 in
theorem words_ok (A : Option Addr) (n cap : Nat) (ls : Nat → Nat) (hn : n ≤ 4096) (w : World) (hL : Lens w A n ls) (h15 : ∀ i, i < n → ls i ≤ 15) (hf : fillN ls n ≤ 32768) :
    Calls Try.prog 70 #[.slice A n cap] w fun e w' => e = .returned (.tuple #[.slice (some ⟨w.heap.size, 0, none⟩) n n, .int .i64 0]) ∧ IsRowU w' w.heap.size n (wordN ls n) ∧ Below w.heap.size w w' := by
  have HF := Lib.hid (fill_ok A n cap ls hn w hL h15)
  have hL1 : Lens (w.alloc (.cells (madeCells #[.int .u32 0] n) 42)) A n ls := hL.below (Nat.le_refl _) ((Below.refl _ _).alloc (Nat.le_refl _) _)
  have HFS := Lib.hid (firsts_any A n cap ls hn _ hL1 h15 hf)
  have HL := Lib.hid hL
  have H15 := Lib.hid h15
  have HSM := Lib.hid (firstN_small ls n h15 hf)
  have hmk := run_make_row' (P := Try.prog) 95 42 (.int .u32 0) 4 Try.underlying95 info32 rfl .i64 .i64 n (by omega) (by omega)
  have hr0 : IsRowU (w.alloc (.cells (madeCells #[.int .u32 0] n) 42)) w.heap.size n (fun _ => 0) := by
    show _ = _
    rw [← rowU_made]
    exact heap_alloc_new w _
  have HR0 := Lib.hid hr0
  have hb0 : Below w.heap.size w (w.alloc (.cells (madeCells #[.int .u32 0] n) 42)) := (Below.refl _ _).alloc (Nat.le_refl _) _
  have HB0 := Lib.hid hb0
  have hz := zero_table
  clear hL h15 hL1 hr0 hb0
  go_enter Try.func70, Try.ntmps70
  go_wp2_with (go_at_call 71; refine (HF.out).mono ?_; rintro e w' ⟨rfl, rfl⟩)
  refine (HFS.out).mono ?_; rintro e w1 ⟨rfl, hb1⟩
  have HR1 := Lib.hid (HR0.out.below hb1 HR0.out.lt)
  have HB1 := Lib.hid (HB0.out.trans (hb1.mono (by simp)))
  have HS1 := Lib.hid (Nat.lt_of_lt_of_le HR0.out.lt hb1.size)
  clear hb1 HFS hmk
  go_wp2_with (refine wpList_store_row rfl 148 (.tmp 7) (.tmp 24) rfl w1.heap.size (tab (firstN ls n)) rfl rfl 148 (tab fun _ => 0) (heap_alloc_new w1 _) (by rw [tab_size]; exact info_table) (by rw [tab_size, tab_size]) (tab_one _) ?_)
  have ht : IsTab ((w1.alloc (.cells (tab fun _ => 0) 148)).setRow w1.heap.size (tab (firstN ls n))) w1.heap.size (firstN ls n) := setRow_heap _ _ _ (tab (firstN ls n)) _ _ (heap_alloc_new w1 _)
  have HI : Hid (IsRowU ((w1.alloc (.cells (tab fun _ => 0) 148)).setRow w1.heap.size (tab (firstN ls n))) w.heap.size n (fun i => if i < 0 then wordN ls n i else 0) ∧ IsTab ((w1.alloc (.cells (tab fun _ => 0) 148)).setRow w1.heap.size (tab (firstN ls n))) w1.heap.size (fun l => firstN ls n l + (if l = 0 then 0 else cntN ls l 0)) ∧ Below w.heap.size w ((w1.alloc (.cells (tab fun _ => 0) 148)).setRow w1.heap.size (tab (firstN ls n)))) :=
    ⟨((HR1.out.alloc _).setRow_other _ _ (Nat.ne_of_lt HS1.out)).ext (fun i _ => by rw [if_neg (by omega)]), ht.ext (fun l _ => by simp [cntN]), below_setRow (below_alloc HB1.out _) (Nat.le_of_lt HS1.out) _⟩
  generalize (w1.alloc (.cells (tab fun _ => 0) 148)).setRow w1.heap.size (tab (firstN ls n)) = W2 at *
  generalize w1.heap.size = gn at *
  clear ht HR1 HB1 hz
  go_wp2
  go_loopw [27] (fun i wr => ∃ k : Nat, k ≤ n ∧ i = .int .i64 k ∧ IsRowU wr w.heap.size n (fun i => if i < k then wordN ls n i else 0) ∧ IsTab wr gn (fun l => firstN ls n l + (if l = 0 then 0 else cntN ls l k)) ∧ Below w.heap.size w wr) (fun i _ => n - (intOf i).toNat)
  case atStart => exact ⟨0, Nat.zero_le _, rfl, HI.out⟩
  case round =>
    obtain ⟨k, hk, rfl, hr, ht, hb⟩ := hrel
    have HR := Lib.hid hr
    have HT := Lib.hid ht
    have HB := Lib.hid hb
    by_cases hlt : k < n
    · obtain ⟨b, off, rfl, hbl, hc⟩ := HL.out (by omega)
      have hcell := (hb.cell (p := ⟨b, off + k, none⟩) hbl).trans (hc k hlt).1
      have hl := H15.out k hlt
      have hsm := HSM.out (ls k) hl
      by_cases h0 : ls k = 0
      · have HW0 : Hid (wordN ls n k = 0) := if_pos h0
        have hext : ∀ l, l < 16 → firstN ls n l + (if l = 0 then 0 else cntN ls l k) = firstN ls n l + (if l = 0 then 0 else cntN ls l (k + 1)) := fun l _ => by
          by_cases e : l = 0
          · rw [if_pos e, if_pos e]
          · rw [if_neg e, if_neg e, cntN, if_neg (by omega)]
            rfl
        have HEXT := Lib.hid hext
        rw [h0] at hcell
        clear hr ht hb hc hsm hext
        go_wp2
        go_roundw
        case rel =>
          refine ⟨k + 1, by omega, by go_num, HR.out.ext (fun i _ => ?_), HT.out.ext HEXT.out, HB.out⟩
          by_cases e : i < k
          · rw [if_pos e, if_pos (by omega)]
          · by_cases e2 : i = k
            · subst e2
              rw [if_neg e, if_pos (by omega), HW0.out]
            · rw [if_neg e, if_neg (by omega)]
        case measure => simp [intOf]; omega
      · have hm := cntN_mono ls (ls k) k (n - k)
        rw [show k + (n - k) = n by omega] at hm
        have hcw := ht.cell (ls k) (by omega)
        simp only [if_neg h0] at hcw hsm
        have hft := ht.frozen (ls k)
        have HW : Hid (wordN ls n k = firstN ls n (ls k) + cntN ls (ls k) k) := if_neg h0
        have hrc := hr.cell k hlt
        have hrf := hr.frozen k
        have HSR := Lib.hid (fun x => hr.set k x hlt)
        have HST := Lib.hid (fun (w2 : World) (h : IsTab w2 gn (fun l => firstN ls n l + (if l = 0 then 0 else cntN ls l k))) x => h.set (ls k) x (by omega))
        have hext : ∀ l, l < 16 → (if l = ls k then firstN ls n (ls k) + cntN ls (ls k) k + 1 else firstN ls n l + (if l = 0 then 0 else cntN ls l k)) = firstN ls n l + (if l = 0 then 0 else cntN ls l (k + 1)) := fun l _ => by
          by_cases e : l = ls k
          · subst e
            rw [if_pos rfl, if_neg h0, cntN, if_pos rfl]
            omega
          · rw [if_neg e]
            by_cases e0 : l = 0
            · rw [if_pos e0, if_pos e0]
            · rw [if_neg e0, if_neg e0, cntN, if_neg (fun h => e h.symm)]
              rfl
        have HEXT := Lib.hid hext
        have hgne : w.heap.size ≠ gn := Nat.ne_of_lt HS1.out
        have hcw2 : (wr.setCell ⟨w.heap.size, k, none⟩ (.int .u32 (firstN ls n (ls k) + cntN ls (ls k) k : Nat))).cell? ⟨gn, ls k, none⟩ = some (.int .u32 (firstN ls n (ls k) + cntN ls (ls k) k : Nat)) := by
          rw [World.cell?_setCell_other _ _ _ _ (by intro h; injection h with h; exact hgne h)]
          exact hcw
        clear hr ht hb hc hext
        generalize hll : ls k = l at *
        generalize hx : firstN ls n l + cntN ls l k = x at *
        have HX := Lib.hid hx
        have hx32 : x ≤ 32768 := by omega
        clear hsm hm hx hll
        go_wp2
        go_roundw
        case rel =>
          refine ⟨k + 1, by omega, by go_num, ?_, ?_, (HB.out.setCell (Nat.le_refl _) _).setCell (Nat.le_of_lt HS1.out) _⟩
          · refine ((HSR.out x).other _ _ hgne).ext (fun i _ => ?_)
            by_cases e : i = k
            · subst e
              rw [if_pos rfl, if_pos (by omega), HW.out]
            · rw [if_neg e]
              by_cases e2 : i < k
              · rw [if_pos e2, if_pos (by omega)]
              · rw [if_neg e2, if_neg (by omega)]
          · exact (HST.out _ (HT.out.other _ _ (fun e => hgne e.symm)) (x + 1)).ext HEXT.out
        case measure => simp [intOf]; omega
    · obtain rfl : k = n := by omega
      clear hr ht hb
      go_wp2
      go_ret2
      exact ⟨rfl, HR.out.ext (fun i hi => by rw [if_pos hi]), HB.out⟩
end Go.Proofs.Ytopjmagbcnglhaa

namespace Go.Proofs.Ytopjmagbcnglhaa
set_option maxRecDepth 100000
open Go.RowKit Go.Deep Go.ChangeMaps Go.ChangeShapes Go.WideShapes Go.MapKept
open Go.Maps (Keyed IsMap has)

theorem laid_out : laidOutB Try.prog = true := by kernel_rfl
theorem word_row : (110 : TypeId) < Try.prog.types.size := of_decide_eq_true (by kernel_rfl)
theorem word_cells : Try.prog.cellsOf 110 = 2 := by kernel_rfl
theorem u8_cells : Try.prog.cellsOf 5 = 1 := by kernel_rfl
theorem u32_cells : Try.prog.cellsOf 42 = 1 := by kernel_rfl
theorem word_deep : Try.prog.keyTypeAt (Try.prog.types.size + 1) 110 = true := by kernel_rfl
theorem word_wide : (match Try.prog.underlying 110 with | some (.array _ _) | some (.struct _) => true | _ => false) = true := by rw [Try.underlying110]
theorem word_law : Keyed Try.prog 110 := Keyed.of_law (deep_law_laid laid_out (m := 2) (by omega) word_row (by kernel_rfl) word_wide)

/-- A word as a value. -/
def wv (l x : Nat) : Value := .agg #[.int .u8 (l : Nat), .int .u32 (x : Nat)]
theorem wv_key (l x : Nat) (hl : l < 256) (hx : x < 4294967296) : ∃ k, keyOf Try.prog 110 (wv l x) = some k := by
  have hw0 : (Lit.int .u8 (l : Nat)).wf = true := WalkArith.wf_u8 (by omega)
  have hw1 : (Lit.int .u32 (x : Nat)).wf = true := WalkArith.wf_u32 (by omega)
  have hf : (wv l x).formed Try.prog 110 = true := by simp [wv, Value.formed, Try.underlying110, word_cells]
  have hd : DataW.trod (fun _ => ()) Try.prog (default : World) 0 (fun _ => false) false 2 110 [.int .u8 (l : Nat), .int .u32 (x : Nat)] = some (.agg [.lit (.int .u8 (l : Nat)), .lit (.int .u32 (x : Nat))], [] ++ []) :=
    trod_struct2_mk (y0 := (.lit (.int .u8 (l : Nat)), [])) (y1 := (.lit (.int .u32 (x : Nat)), [])) Try.underlying110 (by rw [word_cells]; rfl)
      (by
        change DataW.trod _ _ _ _ _ _ _ 5 ((List.drop 0 _).take (Try.prog.cellsOf 5)) = _
        rw [u8_cells]
        exact trod_int_mk 0 Try.underlying5 hw0)
      (by
        change DataW.trod _ _ _ _ _ _ _ 42 ((List.drop 1 _).take (Try.prog.cellsOf 42)) = _
        rw [u32_cells]
        exact trod_int_mk 0 Try.underlying42 hw1)
  exact ⟨_, (keyOf_asKey word_deep word_wide hf ⟨2, by simpa [wv, Value.cells] using hd⟩).1⟩
/-- What a word reads as, as a key. -/
noncomputable def kk (l x : Nat) : Lit := (keyOf Try.prog 110 (wv l x)).getD (.bool true)
theorem kk_of (l x : Nat) (hl : l < 256) (hx : x < 4294967296) : keyOf Try.prog 110 (wv l x) = some (kk l x) := by
  obtain ⟨k, h⟩ := wv_key l x hl hx
  unfold kk
  rw [h]
  rfl
theorem kk_inj (l x l' x' : Nat) (hl : l < 256) (hx : x < 4294967296) (hl' : l' < 256) (hx' : x' < 4294967296) (h : kk l x = kk l' x') : l = l' ∧ x = x' := by
  have e := word_law.inj (kk_of l x hl hx) (h ▸ kk_of l' x' hl' hx')
  unfold wv at e
  simp at e
  omega

/-- The sign of a word, among the first k signs: the last one. -/
def findW (ls W : Nat → Nat) (l x : Nat) : Nat → Option Nat
  | 0 => none
  | k + 1 => if ls k ≠ 0 ∧ ls k = l ∧ W k = x then some k else findW ls W l x k
/-- What the map holds behind the first k signs. -/
noncomputable def codeMap (ls W : Nat → Nat) : Nat → DataW Unit
  | 0 => .map []
  | k + 1 => if ls k = 0 then codeMap ls W k else (codeMap ls W k).put (kk (ls k) (W k)) (.lit (.int .i64 (k : Nat)))
theorem codeMap_isMap (ls W : Nat → Nat) : ∀ k, IsMap (codeMap ls W k)
  | 0 => ⟨_, rfl⟩
  | k + 1 => by
    rw [codeMap]
    split
    · exact codeMap_isMap ls W k
    · obtain ⟨es, h⟩ := codeMap_isMap ls W k
      rw [h]
      exact ⟨_, rfl⟩
theorem codeMap_has (ls W : Nat → Nat) (l x : Nat) (hl : l < 256) (hx : x < 4294967296) : ∀ k, (∀ i, i < k → ls i < 256 ∧ W i < 4294967296) →
    has (codeMap ls W k) (kk l x) = (findW ls W l x k).isSome ∧ ∀ z, (codeMap ls W k).atKey (kk l x) z = (match findW ls W l x k with | some i => .lit (.int .i64 (i : Nat)) | none => z)
  | 0, _ => ⟨rfl, fun z => rfl⟩
  | k + 1, h => by
    obtain ⟨ih1, ih2⟩ := codeMap_has ls W l x hl hx k (fun i hi => h i (by omega))
    obtain ⟨hk1, hk2⟩ := h k (by omega)
    rw [codeMap, findW]
    by_cases h0 : ls k = 0
    · rw [if_pos h0, if_neg (fun hh => hh.1 h0)]
      exact ⟨ih1, ih2⟩
    · rw [if_neg h0]
      by_cases hm : ls k = l ∧ W k = x
      · rw [if_pos ⟨h0, hm⟩]
        obtain ⟨rfl, rfl⟩ := hm
        have hk := word_law.key (kk_of (ls k) (W k) hk1 hk2)
        refine ⟨by rw [Maps.has_put_same (codeMap_isMap ls W k) hk]; rfl, fun z => ?_⟩
        rw [Maps.atKey_put_same (codeMap_isMap ls W k) hk]
      · rw [if_neg (fun hh => hm hh.2)]
        have hne : kk l x ≠ kk (ls k) (W k) := fun e => hm (by
          obtain ⟨e1, e2⟩ := kk_inj l x (ls k) (W k) hl hx hk1 hk2 e
          exact ⟨e1.symm, e2.symm⟩)
        refine ⟨by rw [Maps.has_put_other hne]; exact ih1, fun z => ?_⟩
        rw [Maps.atKey_put_other hne]
        exact ih2 z
end Go.Proofs.Ytopjmagbcnglhaa
