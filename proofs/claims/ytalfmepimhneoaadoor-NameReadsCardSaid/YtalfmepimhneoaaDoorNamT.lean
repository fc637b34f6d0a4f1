/-
  CP437's upper half: what the package-level variable holds; contracts: runeOf, byteOf.
-/
import Derived.Test.YtalfmepimhneoaaDoorNamE
import Derived.Test.YtalfmepimhneoaaDoorDoor
import Derived.Lib.LaidTab
import Derived.Laws.Rows
namespace Go.Proofs.YtalfmepimhneoaaDoor
set_option maxRecDepth 100000
open Go.RowKit Go.Deep Go.Joins Go.Lib

def cpL : List Nat := [
  199, 252, 233, 226, 228, 224, 229, 231, 234, 235, 232, 239, 238, 236, 196, 197,
  201, 230, 198, 244, 246, 242, 251, 249, 255, 214, 220, 162, 163, 165, 8359, 402,
  225, 237, 243, 250, 241, 209, 170, 186, 191, 8976, 172, 189, 188, 161, 171, 187,
  9617, 9618, 9619, 9474, 9508, 9569, 9570, 9558, 9557, 9571, 9553, 9559, 9565, 9564, 9563, 9488,
  9492, 9524, 9516, 9500, 9472, 9532, 9566, 9567, 9562, 9556, 9577, 9574, 9568, 9552, 9580, 9575,
  9576, 9572, 9573, 9561, 9560, 9554, 9555, 9579, 9578, 9496, 9484, 9608, 9604, 9612, 9616, 9600,
  945, 223, 915, 960, 931, 963, 181, 964, 934, 920, 937, 948, 8734, 966, 949, 8745,
  8801, 177, 8805, 8804, 8992, 8993, 247, 8776, 176, 8729, 183, 8730, 8319, 178, 9632, 160]
theorem cpL_len : cpL.length = 128 := by decide
theorem cpL_facts : ∀ i, i < 128 → 128 ≤ cpL.getD i 0 ∧ cpL.getD i 0 < 55296 := by decide
theorem cpL_nodup : cpL.Nodup := by decide
def upV : Array Value := (cpL.map fun (n : Nat) => Value.int .i32 (n : Nat)).toArray
/-- What name.upper holds. -/
def Upper (w : World) : Prop := ∃ t fr, w.heap[2]? = some (.cells upV t fr)
theorem Upper.below {w w' : World} (h : Upper w) (hb : Below w.heap.size w w') : Upper w' := by
  obtain ⟨t, fr, h⟩ := h
  exact ⟨t, fr, (hb.block _ (Array.getElem?_eq_some_iff.1 h).1).trans h⟩
theorem upV_at (k : Nat) (hk : k < 128) : upV[k]? = some (.int .i32 ((cpL.getD k 0 : Nat) : Int)) := by
  unfold upV
  rw [List.getElem?_toArray, List.getElem?_map, List.getElem?_eq_getElem (by rw [cpL_len]; exact hk), List.getD_eq_getElem?_getD, List.getElem?_eq_getElem (by rw [cpL_len]; exact hk)]
  rfl
theorem Upper.cell {w : World} (h : Upper w) (k : Nat) (hk : k < 128) : w.cell? ⟨2, k, none⟩ = some (.int .i32 ((cpL.getD k 0 : Nat) : Int)) := by
  obtain ⟨t, fr, h⟩ := h
  rw [Lib.cell_of_heap h]
  exact upV_at k hk
theorem upper_eq : (Rows.laid_portmanteau_name_upper : DataW Unit) = tabData .i32 (cpL.map fun (n : Nat) => (n : Int)) := by kernel_rfl
theorem upper_of {W : World} (h : laidMetH Tryd.prog tabs3 W) : Upper W := by
  rw [MakeChecks.laidMetH_plain _ _ _ (by kernel_rfl)] at h
  obtain ⟨ps, hv, _⟩ := h
  have h1 := LaidVars_reads hv _ Rows.laid_portmanteau_name_upper (.tail _ (.head _))
  rw [upper_eq] at h1
  obtain ⟨g, t, cs, fuel, p, hg, hty, hvar, hd⟩ := h1
  obtain rfl := Option.some.inj ((show Tryd.prog.globalNamed _ = some 2 by kernel_rfl).symm.trans hg)
  obtain rfl := Option.some.inj ((show (Tryd.prog.globals[2]?).map (·.type) = some 114 by kernel_rfl).symm.trans hty)
  have hcs := cells_of_tab (n := 128) (e := 21) Tryd.underlying114 Tryd.underlying21 (by kernel_rfl) (by kernel_rfl) hd
  have he : cs = upV := by
    apply Array.toList_inj.1
    rw [hcs]
    unfold upV
    rw [List.map_map]
    rfl
  subst he
  unfold World.var? at hvar
  rw [hg] at hvar
  simp only [Option.bind_some] at hvar
  split at hvar
  · rename_i cs t fr hh
    injection hvar with e
    subst e
    exact ⟨t, fr, hh⟩
  · cases hvar

/-- A byte's rune by CP437. -/
def cpN (b : Nat) : Nat := if b < 128 then b else cpL.getD (b - 128) 0
theorem runeOf_any (b : Nat) (hb : b < 256) (w : World) (hU : Upper w) :
    Calls Tryd.prog 44 #[.int .u8 (b : Nat)] w fun e w' => e = .returned (.int .i32 (cpN b : Nat)) ∧ w' = w := by
  by_cases h : b < 128
  · have hw : IntKind.i32.wrap (b : Int) = (b : Int) := by unfold IntKind.wrap; simp [IntKind.bits, IntKind.signed]; omega
    have HX : Hid (cpN b = b) := by show _ = _; unfold cpN; rw [if_pos h]
    go_enter Tryd.func44, Tryd.ntmps44
    go_wp2_with fail
    go_ret
    rw [HX.out]
    exact ⟨rfl, rfl⟩
  · have HX : Hid (cpN b = cpL.getD (b - 128) 0) := by show _ = _; unfold cpN; rw [if_neg h]
    obtain ⟨k, hk⟩ : ∃ k, b - 128 = k := ⟨_, rfl⟩
    have hki : (b : Int) - 128 = (k : Int) := by omega
    have hw : IntKind.u8.wrap (k : Int) = (k : Int) := by unfold IntKind.wrap; simp [IntKind.bits, IntKind.signed]; omega
    have hk1 : k < 128 := by omega
    have hc := hU.cell k hk1
    rw [hk] at HX
    clear hk hU
    generalize cpL.getD k 0 = x at *
    go_enter Tryd.func44, Tryd.ntmps44
    go_wp2_with fail
    go_ret
    rw [HX.out]
    exact ⟨rfl, rfl⟩
end Go.Proofs.YtalfmepimhneoaaDoor
