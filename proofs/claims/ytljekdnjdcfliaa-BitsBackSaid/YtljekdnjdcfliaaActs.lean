/-
  A script of calls that came in: its cells.
-/
import Derived.Test.YtljekdnjdcfliaaKit
import Derived.Below
import Derived.ProofKit
import Derived.OpenShut
import Derived.Deep.Slices
namespace Go.Proofs.Ytljekdnjdcfliaa
set_option maxRecDepth 100000
open Go.RowKit Go.ChangeShapes Go.WideShapes Go.Deep

/-- One call of the script. -/
structure Act where
  D : Int
  N : Int
  V : Nat
  S : ByteArray
instance : Inhabited Act := ⟨⟨0, 0, 0, ⟨#[]⟩⟩⟩
/-- .. as a value. -/
def Act.cells (a : Act) : Array Value := #[.int .i64 a.D, .int .i64 a.N, .int .u32 (a.V : Nat), .string a.S]
def Act.Ok (a : Act) : Prop := (Lit.int .i64 a.D).wf = true ∧ (Lit.int .i64 a.N).wf = true ∧ a.V < 4294967296 ∧ a.S.size ≤ maxLen
/-- The cells of element i behind an address. -/
structure ActAt (w : World) (b o : Nat) (a : Act) : Prop where
  c0 : w.cell? ⟨b, o, none⟩ = some (.int .i64 a.D)
  c1 : w.cell? ⟨b, o + 1, none⟩ = some (.int .i64 a.N)
  c2 : w.cell? ⟨b, o + 2, none⟩ = some (.int .u32 (a.V : Nat))
  c3 : w.cell? ⟨b, o + 3, none⟩ = some (.string a.S)
  ok : a.Ok
def IsActs (w : World) (p : Option Addr) (len : Nat) (f : Nat → Act) : Prop := 0 < len → ∃ b off, p = some ⟨b, off, none⟩ ∧ b < w.heap.size ∧ ∀ i, i < len → ActAt w b (off + i * 4) (f i)
theorem ActAt.below {w w' : World} {B b o : Nat} {a : Act} (h : ActAt w b o a) (hb : Below B w w') (hlt : b < B) : ActAt w' b o a :=
  ⟨(hb.cell (p := ⟨b, o, none⟩) hlt).trans h.c0, (hb.cell (p := ⟨b, o + 1, none⟩) hlt).trans h.c1, (hb.cell (p := ⟨b, o + 2, none⟩) hlt).trans h.c2, (hb.cell (p := ⟨b, o + 3, none⟩) hlt).trans h.c3, h.ok⟩

theorem cells_act : Try.prog.cellsOf 31 = 4 := by kernel_rfl
theorem cells_int : Try.prog.cellsOf 3 = 1 := by kernel_rfl
theorem cells_u32 : Try.prog.cellsOf 29 = 1 := by kernel_rfl
theorem cells_str : Try.prog.cellsOf 9 = 1 := by kernel_rfl

/-- One element, out of what reads as it. -/
theorem act_of {H : Type} {enc : TypeId × Value → H} {w : World} {base : Nat} {spare : Nat → Bool} {held : Bool} {fuel : Nat} {a : Addr} {cs : List Value} {x : DataW H × List MemPlace}
    (hc : w.cells? base a (Try.prog.cellsOf 31) = some cs) (h : DataW.trod enc Try.prog w base spare held fuel 31 cs = some x) :
    ∃ ac : Act, a.spot = none ∧ ActAt w a.block a.off ac := by
  rw [cells_act] at hc
  obtain ⟨_, hlen, hcell⟩ := World.cells?_some hc
  obtain ⟨xs, n, _, _, _, hxl, hf⟩ := DataW.trod_struct Try.underlying31 h
  match xs, hxl, cs, hlen with
  | [y0, y1, y2, y3], _, [v0, v1, v2, v3], _ =>
    have g0 := hf 0 _ rfl
    have g1 := hf 1 _ rfl
    have g2 := hf 2 _ rfl
    have g3 := hf 3 _ rfl
    change DataW.trod enc Try.prog w base spare held n 3 (([v0, v1, v2, v3].drop 0).take (Try.prog.cellsOf 3)) = some y0 at g0
    change DataW.trod enc Try.prog w base spare held n 3 (([v0, v1, v2, v3].drop 1).take (Try.prog.cellsOf 3)) = some y1 at g1
    change DataW.trod enc Try.prog w base spare held n 29 (([v0, v1, v2, v3].drop 2).take (Try.prog.cellsOf 29)) = some y2 at g2
    change DataW.trod enc Try.prog w base spare held n 9 (([v0, v1, v2, v3].drop 3).take (Try.prog.cellsOf 9)) = some y3 at g3
    rw [cells_int] at g0 g1
    rw [cells_u32] at g2
    rw [cells_str] at g3
    obtain ⟨d, e0, _, w0⟩ := DataW.trod_int Try.underlying3 g0
    obtain ⟨k, e1, _, w1⟩ := DataW.trod_int Try.underlying3 g1
    obtain ⟨u, e2, _, w2⟩ := DataW.trod_int Try.underlying29 g2
    obtain ⟨s, e3, _, w3⟩ := DataW.trod_string Try.underlying9 g3
    simp at e0 e1 e2 e3
    subst e0 e1 e2 e3
    obtain ⟨v, rfl, hv⟩ := nat_u32 w2
    have q0 := hcell 0 (by omega)
    have q1 := hcell 1 (by omega)
    have q2 := hcell 2 (by omega)
    have q3 := hcell 3 (by omega)
    obtain ⟨b, o, spot⟩ := a
    have hspot : spot = none := by simpa [Addr.add] using World.cell?_spot q0
    subst hspot
    rw [Addr.add_lit] at q0 q1 q2 q3
    exact ⟨⟨d, k, v, s⟩, rfl, q0, q1, q2, q3, w0, w1, hv, w3⟩

theorem open_acts {H : Type} {enc : TypeId × Value → H} {W : World} {spare : Nat → Bool} {held : Bool} {p : Option Addr} {len cap : Nat} {d : DataW H} {pl : List MemPlace}
    (h : DataW.Trod enc Try.prog W 0 spare held 22 (.slice p len cap) d pl) : ∃ f, IsActs W p len f := by
  obtain ⟨fuel, hf⟩ := h
  rcases open_slice Try.underlying22 hf with ⟨hcs, _⟩ | ⟨a, len', cap', m, n, D, Pl, hcs, _, hl, hm, hmm, _, hel⟩
  · simp [Value.cells] at hcs
    obtain ⟨rfl, rfl, rfl⟩ := hcs
    exact ⟨fun _ => default, fun h => by omega⟩
  · simp [Value.cells] at hcs
    obtain ⟨rfl, rfl, rfl⟩ := hcs
    have hm2 : len ≤ m := by rw [hmm]; split <;> omega
    have each : ∀ i, i < len → ∃ ac : Act, (a.add (i * 4)).spot = none ∧ ActAt W (a.add (i * 4)).block (a.add (i * 4)).off ac := fun i hi => by
      obtain ⟨cs', h1, h2⟩ := hel i (by omega)
      have r := act_of h1 h2
      rw [cells_act] at r
      exact r
    obtain ⟨f, hf⟩ := choose_lt each
    refine ⟨f, fun hpos => ?_⟩
    obtain ⟨b, off, spot⟩ := a
    have h0 := (hf 0 hpos).1
    have hspot : spot = none := by simpa [Addr.add] using h0
    subst hspot
    refine ⟨b, off, rfl, ?_, fun i hi => ?_⟩
    · have hc := (hf 0 hpos).2.c0
      rw [Addr.add_lit] at hc
      exact block_lt_of_cell hc
    · have hc := (hf i hi).2
      rw [Addr.add_lit] at hc
      exact hc
end Go.Proofs.Ytljekdnjdcfliaa
