/-
  Words as keys of a map: what a code's map holds.
-/
import Derived.Test.YtfhbkidceombbaaPreC
import Derived.Maps.OwnSet
import Derived.DeepKeys4
import Derived.MapViews
namespace Go.Proofs.Ytfhbkidceombbaa
set_option maxRecDepth 100000
open Go.RowKit Go.Deep Go.ChangeMaps Go.ChangeShapes Go.WideShapes Go.MapKept
open Go.Maps (Keyed IsMap has)

theorem laid_out : laidOutB Try.prog = true := by kernel_rfl
theorem word_row : (142 : TypeId) < Try.prog.types.size := of_decide_eq_true (by kernel_rfl)
theorem word_cells : Try.prog.cellsOf 142 = 2 := by kernel_rfl
theorem u8_cells : Try.prog.cellsOf 5 = 1 := by kernel_rfl
theorem u32_cells : Try.prog.cellsOf 54 = 1 := by kernel_rfl
theorem word_deep : Try.prog.keyTypeAt (Try.prog.types.size + 1) 142 = true := by kernel_rfl
theorem word_wide : (match Try.prog.underlying 142 with | some (.array _ _) | some (.struct _) => true | _ => false) = true := by rw [Try.underlying142]
theorem word_law : Keyed Try.prog 142 := Keyed.of_law (deep_law_laid laid_out (m := 2) (by omega) word_row (by kernel_rfl) word_wide)

/-- A word as a value. -/
def wv (l x : Nat) : Value := .agg #[.int .u8 (l : Nat), .int .u32 (x : Nat)]
theorem wv_key (l x : Nat) (hl : l < 256) (hx : x < 4294967296) : ∃ k, keyOf Try.prog 142 (wv l x) = some k := by
  have hw0 : (Lit.int .u8 (l : Nat)).wf = true := WalkArith.wf_u8 (by omega)
  have hw1 : (Lit.int .u32 (x : Nat)).wf = true := WalkArith.wf_u32 (by omega)
  have hf : (wv l x).formed Try.prog 142 = true := by simp [wv, Value.formed, Try.underlying142, word_cells]
  have hd : DataW.trod (fun _ => ()) Try.prog (default : World) 0 (fun _ => false) false 2 142 [.int .u8 (l : Nat), .int .u32 (x : Nat)] = some (.agg [.lit (.int .u8 (l : Nat)), .lit (.int .u32 (x : Nat))], [] ++ []) :=
    trod_struct2_mk (y0 := (.lit (.int .u8 (l : Nat)), [])) (y1 := (.lit (.int .u32 (x : Nat)), [])) Try.underlying142 (by rw [word_cells]; rfl)
      (by
        change DataW.trod _ _ _ _ _ _ _ 5 ((List.drop 0 _).take (Try.prog.cellsOf 5)) = _
        rw [u8_cells]
        exact trod_int_mk 0 Try.underlying5 hw0)
      (by
        change DataW.trod _ _ _ _ _ _ _ 54 ((List.drop 1 _).take (Try.prog.cellsOf 54)) = _
        rw [u32_cells]
        exact trod_int_mk 0 Try.underlying54 hw1)
  exact ⟨_, (keyOf_asKey word_deep word_wide hf ⟨2, by simpa [wv, Value.cells] using hd⟩).1⟩
/-- What a word reads as, as a key. -/
noncomputable def kk (l x : Nat) : Lit := (keyOf Try.prog 142 (wv l x)).getD (.bool true)
theorem kk_of (l x : Nat) (hl : l < 256) (hx : x < 4294967296) : keyOf Try.prog 142 (wv l x) = some (kk l x) := by
  obtain ⟨k, h⟩ := wv_key l x hl hx
  unfold kk
  rw [h]
  rfl
theorem kk_inj (l x l' x' : Nat) (hl : l < 256) (hx : x < 4294967296) (hl' : l' < 256) (hx' : x' < 4294967296) (h : kk l x = kk l' x') : l = l' ∧ x = x' := by
  have e := word_law.inj (kk_of l x hl hx) (h ▸ kk_of l' x' hl' hx')
  unfold wv at e
  simp at e
  omega

/-- The sign of a word, among the first k signs: the last one. -/
def findW (ls W : Nat → Nat) (l x : Nat) : Nat → Option Nat
  | 0 => none
  | k + 1 => if ls k ≠ 0 ∧ ls k = l ∧ W k = x then some k else findW ls W l x k
/-- What the map holds behind the first k signs. -/
noncomputable def codeMap (ls W : Nat → Nat) : Nat → DataW Unit
  | 0 => .map []
  | k + 1 => if ls k = 0 then codeMap ls W k else (codeMap ls W k).put (kk (ls k) (W k)) (.lit (.int .i64 (k : Nat)))
theorem codeMap_isMap (ls W : Nat → Nat) : ∀ k, IsMap (codeMap ls W k)
  | 0 => ⟨_, rfl⟩
  | k + 1 => by
    rw [codeMap]
    split
    · exact codeMap_isMap ls W k
    · obtain ⟨es, h⟩ := codeMap_isMap ls W k
      rw [h]
      exact ⟨_, rfl⟩
theorem codeMap_has (ls W : Nat → Nat) (l x : Nat) (hl : l < 256) (hx : x < 4294967296) : ∀ k, (∀ i, i < k → ls i < 256 ∧ W i < 4294967296) →
    has (codeMap ls W k) (kk l x) = (findW ls W l x k).isSome ∧ ∀ z, (codeMap ls W k).atKey (kk l x) z = (match findW ls W l x k with | some i => .lit (.int .i64 (i : Nat)) | none => z)
  | 0, _ => ⟨rfl, fun z => rfl⟩
  | k + 1, h => by
    obtain ⟨ih1, ih2⟩ := codeMap_has ls W l x hl hx k (fun i hi => h i (by omega))
    obtain ⟨hk1, hk2⟩ := h k (by omega)
    rw [codeMap, findW]
    by_cases h0 : ls k = 0
    · rw [if_pos h0, if_neg (fun hh => hh.1 h0)]
      exact ⟨ih1, ih2⟩
    · rw [if_neg h0]
      by_cases hm : ls k = l ∧ W k = x
      · rw [if_pos ⟨h0, hm⟩]
        obtain ⟨rfl, rfl⟩ := hm
        have hk := word_law.key (kk_of (ls k) (W k) hk1 hk2)
        refine ⟨by rw [Maps.has_put_same (codeMap_isMap ls W k) hk]; rfl, fun z => ?_⟩
        rw [Maps.atKey_put_same (codeMap_isMap ls W k) hk]
      · rw [if_neg (fun hh => hm hh.2)]
        have hne : kk l x ≠ kk (ls k) (W k) := fun e => hm (by
          obtain ⟨e1, e2⟩ := kk_inj l x (ls k) (W k) hl hx hk1 hk2 e
          exact ⟨e1.symm, e2.symm⟩)
        refine ⟨by rw [Maps.has_put_other hne]; exact ih1, fun z => ?_⟩
        rw [Maps.atKey_put_other hne]
        exact ih2 z
end Go.Proofs.Ytfhbkidceombbaa
