/-
  The document's Parse of a header.
-/
import Derived.Test.YtlojhklhhdgkcaaHdE
namespace Go.Proofs.Ytlojhklhhdgkcaa
set_option maxRecDepth 100000
set_option linter.unusedSimpArgs false
open Go.RowKit Go.Joins Go.Deep Go.Op

section
variable (s : ByteArray) (L : List Nat)
def txE : Nat → List Nat → Nat
  | n, [] => n
  | n, t :: ts => txE (n + L.getD t 0) ts
def txF : Nat → List Nat → Bool
  | _, [] => true
  | n, t :: ts => decide (n + L.getD t 0 ≤ s.size) && txF (n + L.getD t 0) ts
def txT : Nat → List Nat → List ByteArray
  | _, [] => []
  | n, t :: ts => tAt s n (L.getD t 0) :: txT (n + L.getD t 0) ts
set_option linter.unusedVariables false in
theorem txE_app : ∀ (a b : List Nat) (n : Nat), txE L n (a ++ b) = txE L (txE L n a) b
  | [], _, _ => rfl
  | _ :: a, b, _ => txE_app a b _
theorem txF_app : ∀ (a b : List Nat) (n : Nat), txF s L n (a ++ b) = (txF s L n a && txF s L (txE L n a) b)
  | [], _, _ => by simp [txF, txE]
  | x :: a, b, n => by simp only [List.cons_append, txF, txE, txF_app a b, Bool.and_assoc]
theorem txT_app : ∀ (a b : List Nat) (n : Nat), txT s L n (a ++ b) = txT s L n a ++ txT s L (txE L n a) b
  | [], _, _ => rfl
  | x :: a, b, n => by simp only [List.cons_append, txT, txE, txT_app a b]
theorem txT_len : ∀ (a : List Nat) (n : Nat), (txT s L n a).length = a.length
  | [], _ => rfl
  | x :: a, n => by simp only [txT, List.length_cons, txT_len a]
theorem txE_le : ∀ (a : List Nat) (n : Nat), txF s L n a = true → n ≤ s.size → txE L n a ≤ s.size
  | [], n, _, h => h
  | x :: a, n, h, _ => by
    simp only [txF, Bool.and_eq_true, decide_eq_true_iff] at h
    exact txE_le a _ h.2 h.1
theorem txF_take (ts : List Nat) (k n : Nat) (h : txF s L n ts = true) : txF s L n (ts.take k) = true := by
  rw [← List.take_append_drop k ts, txF_app] at h
  exact (Bool.and_eq_true _ _ ▸ h).1
end
def strV (l : List ByteArray) : List Value := l.map fun x => Value.string x
theorem strV_app (l m : List ByteArray) : strV (l ++ m) = strV l ++ strV m := by simp [strV]
/-- What a slice of texts holds. -/
def RdS (w : World) (A : Option Addr) (l : List ByteArray) : Prop := 0 < l.length → ∃ g, A = some ⟨g, 0, none⟩ ∧ g < w.heap.size ∧ ∀ (i : Nat) (x : ByteArray), l[i]? = some x → w.cell? ⟨g, i, none⟩ = some (.string x)
theorem RdS.below {w w' : World} {A : Option Addr} {l : List ByteArray} (h : RdS w A l) (hb : Below w.heap.size w w') : RdS w' A l := fun h0 => by
  obtain ⟨g, e, hlt, hc⟩ := h h0
  exact ⟨g, e, Nat.lt_of_lt_of_le hlt hb.size, fun i x hx => (hb.cell (p := ⟨g, i, none⟩) hlt).trans (hc i x hx)⟩
theorem RdS.of_own {w : World} {B : Nat} {e : TypeId} {A : Option Addr} {c : Nat} {l : List ByteArray} (h : w.ownsRow B e 1 (.slice A l.length c) l.length (strV l)) : RdS w A l := fun h0 => by
  rcases h.2 with ⟨h1, h2⟩ | ⟨g, cap, cur, h1, h2, h3, _⟩
  · omega
  · injection h1 with h1 h4 h5
    subst h1
    refine ⟨g, rfl, lt_of_some h3, fun i x hx => ?_⟩
    have hi : i < l.length := (List.getElem?_eq_some_iff.1 hx).1
    rw [h.cellAt i (by omega)]
    unfold strV
    rw [List.getElem?_map, hx]
    rfl
theorem infoS : (Try.prog.info? 9).map (fun i => (i.zero, i.size, i.bytes)) = some (some (.string ByteArray.empty), 1, 16) := by kernel_rfl
/-- Does it read? -/
def okR (s : ByteArray) (ws : List Nat) (first : Nat) (ts : List Nat) : Prop := 4 ≤ s.size ∧ nAt s 0 4 = first ∧ ws.sum ≤ s.size ∧ txF s (rowN s 0 ws) ws.sum ts = true
def erR (s : ByteArray) (first : Nat) : Nat := if 4 ≤ s.size ∧ nAt s 0 4 ≠ first then 4 else 3
def noR (s : ByteArray) (first : Nat) : Value := .tuple #[.slice none 0 0, .slice none 0 0, .int .i64 0, .int .i64 (erR s first : Nat)]
/-- What the document's Parse answers. -/
def PostR (s : ByteArray) (ws : List Nat) (first : Nat) (ts : List Nat) (e : Ending) (w w' : World) : Prop :=
  (okR s ws first ts ∧ (∃ A2 c2 A3 c3, e = .returned (.tuple #[.slice A2 ws.length c2, .slice A3 ts.length c3, .int .i64 (txE (rowN s 0 ws) ws.sum ts : Nat), .int .i64 0]) ∧ RdI w' .u64 A2 (rowN s 0 ws) ∧ RdS w' A3 (txT s (rowN s 0 ws) ws.sum ts)) ∨ ¬ okR s ws first ts ∧ e = .returned (noR s first)) ∧ Below w.heap.size w w'
theorem results_tmp4' {P : Program} {fn : Func} {p q r t : Tmp} (h : fn.results = #[.tmp p, .tmp q, .tmp r, .tmp t]) (tmps : Array Value) (w : World) : (results fn tmps).run P w = .ok (.tuple #[tmps.getD p undef, tmps.getD q undef, tmps.getD r undef, tmps.getD t undef]) w := by
  simp [results, h]
end Go.Proofs.Ytlojhklhhdgkcaa
