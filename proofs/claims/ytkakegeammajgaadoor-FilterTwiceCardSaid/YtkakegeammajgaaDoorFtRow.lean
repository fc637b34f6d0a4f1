/-
  The walk of FilterTwice as the frame wants it.
-/
import Derived.Test.YtkakegeammajgaaDoorFilterTwiceWalk
import Derived.Test.YtkakegeammajgaaDoorFiRow
import Derived.Test.YtkakegeammajgaaDoorItR
namespace Go.Proofs.YtkakegeammajgaaDoor
set_option maxRecDepth 100000
set_option linter.unusedVariables false
open Go.RowKit Go.Joins Go.Deep
theorem itms_row' {H : Type} {enc : TypeId × Value → H} {W : World} {fuel : Nat} {a : Option Addr} {len cap : Nat} {x : DataW H × List MemPlace} (h : DataW.trod enc Tryd.prog W 0 (fun _ => true) true fuel 23 [.slice a len cap] = some x) : ∃ l : List Itm, len = l.length ∧ Itms W a l ∧ ((∀ f ∈ l, ItmOk f) ∧ l.length ≤ maxLen) ∧ (a = none → len = 0 ∧ cap = 0) ∧ len ≤ cap := by
  obtain ⟨l, h1, h2, h3, h4, h5⟩ := itms_row h
  refine ⟨l, h1, h2, ⟨h3, ?_⟩, h4, h5⟩
  rw [← h1]
  exact itms_len h
theorem filterTwice_walk (a0 : Option Addr) (cap0 : Nat) (l0 : List ByteArray) (a1 : Option Addr) (cap1 : Nat) (l1 : List ByteArray) (a2 : Option Addr) (cap2 : Nat) (l2 : List Itm) (w : World)
    (hp0 : TxS w a0 l0) (ho0 : a0 = none → l0 = []) (hn0 : l0.length ≤ maxLen) (hc0 : l0.length ≤ cap0) (hp1 : TxS w a1 l1) (ho1 : a1 = none → l1 = []) (hn1 : l1.length ≤ maxLen) (hc1 : l1.length ≤ cap1) (hp2 : Itms w a2 l2) (ho2 : (∀ f ∈ l2, ItmOk f) ∧ l2.length ≤ maxLen) (hn2 : a2 = none → l2.length = 0 ∧ cap2 = 0) (hc2 : l2.length ≤ cap2) (hT : Tabs w) :
    Calls Tryd.prog 3 #[.slice a0 l0.length cap0, .slice a1 l1.length cap1, .slice a2 l2.length cap2] w fun e w' => e = .returned (.bool true) ∧ Below w.heap.size w w' :=
  filterTwice_core a0 a1 a2 cap0 cap1 cap2 l0 l1 l2 hn0 hn1 ho2.2 w hp0 hp1 hp2 hT
end Go.Proofs.YtkakegeammajgaaDoor
