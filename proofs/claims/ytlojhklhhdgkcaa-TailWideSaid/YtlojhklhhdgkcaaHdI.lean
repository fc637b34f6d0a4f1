/-
  Contracts of package header: lengths. A region whose calls and new rows come in any order, told by states.
-/
import Derived.Test.YtlojhklhhdgkcaaHdH
import Derived.Deep.RegionHeld3
namespace Go.Proofs.Ytlojhklhhdgkcaa
set_option maxRecDepth 100000
set_option linter.unusedSimpArgs false
open Go.RowKit Go.Joins Go.Deep Go.Op

/-- A region of which only so many states come up: each is left for one of a lesser rank. -/
theorem dag_ind {P : Program} {md : Region.Mode} {ops : Array Oper} {Q : Exit → Act → World → Prop} {S : World → Prop} {St : Type} (rank fuel : St → Nat) (lst : St → Array Bool) (act : St → Act) (Ok : St → World → Prop)
    (step : ∀ σ w, Ok σ w → (∀ σ' w', rank σ' < rank σ → Ok σ' w' → wpAnyH P md ops Q S (fuel σ') (lst σ') (act σ') w') → wpAnyH P md ops Q S (fuel σ) (lst σ) (act σ) w) :
    ∀ σ w, Ok σ w → wpAnyH P md ops Q S (fuel σ) (lst σ) (act σ) w := by
  have key : ∀ n σ w, rank σ < n → Ok σ w → wpAnyH P md ops Q S (fuel σ) (lst σ) (act σ) w := by
    intro n
    induction n with
    | zero => intro σ w h; omega
    | succ n ih => exact fun σ w h hok => step σ w hok (fun σ' w' hr hok' => ih σ' w' (by omega) hok')
  exact fun σ w hok => key _ σ w (Nat.lt_succ_self _) hok
/-- A state: its number, the blocks of the rows that were made. -/
structure Stt where
  k : Nat
  g1 : Nat
  g2 : Nat
  g3 : Nat
  g4 : Nat

theorem RdS.at {w : World} {g : Nat} {l : List ByteArray} (h : RdS w (some ⟨g, 0, none⟩) l) {i : Nat} {x : ByteArray} (hx : l[i]? = some x) : w.cell? ⟨g, i, none⟩ = some (.string x) := by
  obtain ⟨g', e, _, hc⟩ := h (List.length_pos_of_mem (List.mem_of_getElem? hx))
  injection e with e
  injection e with e
  subst e
  exact hc i x hx
theorem RdS.slice {w : World} {A : Option Addr} {l : List ByteArray} (h : RdS w A l) (h0 : 0 < l.length) : ∃ g, A = some ⟨g, 0, none⟩ := by
  obtain ⟨g, e, _⟩ := h h0
  exact ⟨g, e⟩
theorem RdS.of_heap {w : World} {e : TypeId} {g : Nat} {l : List ByteArray} {cs : Array Value} (h : w.heap[g]? = some (.cells cs e (0, 0))) (hc : cs.toList = strV l) : RdS w (some ⟨g, 0, none⟩) l := fun _ => by
  refine ⟨g, rfl, lt_of_some h, fun i x hx => ?_⟩
  rw [Lib.cell_of_heap h, ← Array.getElem?_toList, hc]
  unfold strV
  rw [List.getElem?_map, hx]
  rfl
theorem take_snoc' {α : Type} {l : List α} {k : Nat} {x : α} (h : l[k]? = some x) : l.take (k + 1) = l.take k ++ [x] := by
  rw [List.take_add_one, h]
  rfl
/-- Are none too long? -/
def fitsT (ss : List ByteArray) : Bool := ss.all fun s => decide (s.size ≤ 65535)
def lenV (ss : List ByteArray) : Value := if fitsT ss = true then .tuple #[.string (text (lesL 2 (ss.map (·.size)))), .bool true] else .tuple #[.string ⟨#[]⟩, .bool false]
theorem info16 : (Try.prog.info? 23).map (fun i => (i.zero, i.size, i.bytes)) = some (some (.int .u16 0), 1, 2) := by kernel_rfl
end Go.Proofs.Ytlojhklhhdgkcaa
