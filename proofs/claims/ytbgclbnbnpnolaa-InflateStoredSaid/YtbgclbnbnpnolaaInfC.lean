/-
  Contracts: a stream's room, one byte of it.
-/
import Derived.Test.YtbgclbnbnpnolaaInfB
import Derived.Test.YtbgclbnbnpnolaaBitsX
namespace Go.Proofs.Ytbgclbnbnpnolaa
set_option maxRecDepth 100000
open Go.RowKit Go.Deep Go.Joins

/-- The fixed codes, where they were made. -/
def Fix (w : World) (p : Value) : Prop := p = .pointer none ∨ ∃ gf gs gd, p = .pointer (some ⟨gf, 0, none⟩) ∧ w.heap[gf]? = some (.cells #[.pointer (some ⟨gs, 0, none⟩), .pointer (some ⟨gd, 0, none⟩)] 112 (0, 0)) ∧ CdC w gs fixS ∧ CdC w gd fixD
theorem Fix.far {w w' : World} {p : Value} (h : Fix w p) (hf : Far w w') : Fix w' p := by
  rcases h with h | ⟨gf, gs, gd, h1, h2, h3, h4⟩
  · exact .inl h
  · exact .inr ⟨gf, gs, gd, h1, hf.cells h2 (by decide) (by decide) (by decide), h3.far hf, h4.far hf⟩
/-- A stream: what its blocks hold. -/
def Sm (w : World) (B g gr : Nat) (r : Option Nat) (s : ByteArray) (a lim : Nat) (o : List Nat) : Prop :=
  ∃ v p, w.heap[g]? = some (.cells #[.pointer (some ⟨gr, 0, none⟩), v, .int .i64 (lim : Nat), p] 94 (0, 0)) ∧ w.ownsRow B 5 1 v o.length (cells8 o) ∧ v.ownBlock = r ∧ Rd 81 w gr s a 0 ∧ Fix w p ∧ (B ≤ g ∧ B ≤ gr ∧ o.length ≤ lim ∧ a ≤ 8 * s.size ∧ ∀ x ∈ o, x < 256)
def UpS (g gr : Nat) (r r' : Option Nat) (w w' : World) : Prop := Kept (fun i => i = g ∨ i = gr ∨ some i = r) w w' ∧ (r' = r ∨ ∃ j, r' = some j ∧ w.heap.size ≤ j)
theorem UpS.refl (g gr : Nat) (r : Option Nat) (w : World) : UpS g gr r r w w := ⟨Kept.refl _ _, .inl rfl⟩
theorem UpS.then {g gr : Nat} {r r1 r2 : Option Nat} {w w1 w2 : World} (h : UpS g gr r r1 w w1) (k : UpS g gr r1 r2 w1 w2) : UpS g gr r r2 w w2 := by
  refine ⟨h.1.then k.1 fun i hi e => ?_, ?_⟩
  · rcases e with e | e | e
    · exact .inl e
    · exact .inr (.inl e)
    · rcases h.2 with h2 | ⟨j, h2, h3⟩
      · exact .inr (.inr (e.trans h2))
      · rw [h2] at e
        injection e with e
        omega
  · rcases k.2 with k2 | ⟨j, k2, k3⟩
    · rcases h.2 with h2 | ⟨j, h2, h3⟩
      · exact .inl (k2.trans h2)
      · exact .inr ⟨j, k2.trans h2, h3⟩
    · exact .inr ⟨j, k2, Nat.le_trans h.1.size k3⟩
theorem ups_read {g gr : Nat} {r : Option Nat} {w w' : World} (h : w.grownBy w' (some gr)) : UpS g gr r r w w' := ⟨(kept_grown h).more fun i e => by injection e with e; exact .inr (.inl e), .inl rfl⟩
theorem ups_drewN {g gr : Nat} {r : Option Nat} (w : World) (d : Nat) : UpS g gr r r w (w.drewN d) := ⟨kept_drewN _ w d, .inl rfl⟩
theorem ups_below {g gr : Nat} {r : Option Nat} {w w' : World} (h : Below w.heap.size w w') : UpS g gr r r w w' := ⟨kept_below h, .inl rfl⟩
section
variable {w w' : World} {B g gr a lim : Nat} {r r' : Option Nat} {s : ByteArray} {o : List Nat}
theorem Sm.pin (h : Sm w B g gr r s a lim o) : Pin w g gr := by
  obtain ⟨v, p, hb, _⟩ := h
  exact ⟨_, _, _, hb⟩
theorem Sm.rd (h : Sm w B g gr r s a lim o) : Rd 81 w gr s a 0 := by
  obtain ⟨v, p, _, _, _, h, _⟩ := h
  exact h
theorem Sm.le (h : Sm w B g gr r s a lim o) : a ≤ 8 * s.size := by
  obtain ⟨v, p, _, _, _, _, _, h⟩ := h
  exact h.2.2.2.1
theorem Sm.room (h : Sm w B g gr r s a lim o) : o.length ≤ lim := by
  obtain ⟨v, p, _, _, _, _, _, h⟩ := h
  exact h.2.2.1
theorem Sm.ge (h : Sm w B g gr r s a lim o) : ∀ i, (i = g ∨ i = gr ∨ some i = r) → B ≤ i := by
  obtain ⟨v, p, _, ho, hr, _, _, h⟩ := h
  rintro i (rfl | rfl | e)
  · exact h.1
  · exact h.2.1
  · rcases ho.2 with ⟨rfl, _⟩ | ⟨g', cap, cur, rfl, hg, _⟩
    · rw [← hr] at e
      simp [Value.ownBlock] at e
    · rw [← hr] at e
      simp [Value.ownBlock] at e
      omega
theorem UpS.below (h : UpS g gr r r' w w') (hS : Sm w B g gr r s a lim o) (hB : B ≤ w.heap.size) : Below B w w' := h.1.below hS.ge hB
theorem UpS.far (h : UpS g gr r r' w w') (hS : Sm w B g gr r s a lim o) : Far w w' := by
  obtain ⟨v, p, hb, ho, hr, hR, _⟩ := hS
  refine ⟨h.1.size, fun i x h0 h1 h2 h3 => (h.1.block i (lt_of_heap h0) ?_).trans h0⟩
  rintro (rfl | rfl | e)
  · rw [hb] at h0
    injection h0 with h0
    exact h1 _ _ h0.symm
  · unfold Rd at hR
    rw [hR] at h0
    injection h0 with h0
    exact h2 _ _ h0.symm
  · rcases ho.2 with ⟨rfl, _⟩ | ⟨g', cap, cur, rfl, hg, hb2, _⟩
    · rw [← hr] at e
      simp [Value.ownBlock] at e
    · rw [← hr] at e
      simp [Value.ownBlock] at e
      subst e
      rw [hb2] at h0
      injection h0 with h0
      exact h3 _ _ h0.symm
/-- A stream behind a call that turned its reader alone. -/
theorem Sm.read {a1 : Nat} (h : Sm w B g gr r s a lim o) (hg : w.grownBy w' (some gr)) (hr : Rd 81 w' gr s a1 0) (ha : a1 ≤ 8 * s.size) : Sm w' B g gr r s a1 lim o := by
  have hpn := h.pin
  have hrd := h.rd
  obtain ⟨v, p, hb, ho, hv, hR, hx, h1, h2, h3, h4, h5⟩ := h
  refine ⟨v, p, (hg.block g (lt_of_heap hb) (by intro e; injection e with e; exact blk_ne hb hR (by decide) e)).trans hb, row_kept ho fun b e => ?_, hv, hr, hx.far (far_read hR hg), h1, h2, h3, ha, h5⟩
  refine hg.block b (ho.lt b e).2 (fun hh => ?_)
  exact row_ne (by decide) ho hR (by rw [e, hh])
theorem Sm.drewN (h : Sm w B g gr r s a lim o) (d : Nat) : Sm (w.drewN d) B g gr r s a lim o := by
  obtain ⟨v, p, hb, ho, hv, hR, hx, h1⟩ := h
  exact ⟨v, p, hb, row_kept ho fun _ _ => rfl, hv, hR, hx.far (far_below (below_drewN (Below.refl _ _) d)), h1⟩
theorem Sm.below (h : Sm w B g gr r s a lim o) (hb : Below w.heap.size w w') : Sm w' B g gr r s a lim o := by
  obtain ⟨v, p, hb0, ho, hv, hR, hx, h1⟩ := h
  exact ⟨v, p, (hb.block g (lt_of_heap hb0)).trans hb0, row_kept ho fun b e => hb.block b (ho.lt b e).2, hv, hR.below hb hR.lt, hx.far (far_below hb), h1⟩
end
/-- What became of a call that turns a stream. -/
def PS {α : Type} (w : World) (B g gr : Nat) (r : Option Nat) (s : ByteArray) (lim : Nat) (val : α → Ending → Prop) (bad : Nat → Ending → Prop) (ans : Ans α) (e : Ending) (w' : World) : Prop :=
  ∃ r', UpS g gr r r' w w' ∧ match ans with
    | .ok (x, a1, o1) => val x e ∧ Sm w' B g gr r' s a1 lim o1
    | .error k => bad k e ∧ k ≠ 0 ∧ k < 100
theorem PS.ok {α : Type} {w w' : World} {B g gr : Nat} {r : Option Nat} {s : ByteArray} {lim : Nat} {val : α → Ending → Prop} {bad : Nat → Ending → Prop} {ans : Ans α} {e : Ending} {x : α} {a1 : Nat} {o1 : List Nat} (r' : Option Nat) (h : ans = .ok (x, a1, o1)) (hu : UpS g gr r r' w w') (hv : val x e) (hs : Sm w' B g gr r' s a1 lim o1) : PS w B g gr r s lim val bad ans e w' := by
  subst h
  exact ⟨r', hu, hv, hs⟩
theorem PS.err {α : Type} {w w' : World} {B g gr : Nat} {r : Option Nat} {s : ByteArray} {lim : Nat} {val : α → Ending → Prop} {bad : Nat → Ending → Prop} {ans : Ans α} {e : Ending} {k : Nat} (r' : Option Nat) (h : ans = .error k) (hu : UpS g gr r r' w w') (hv : bad k e) (hk : k ≠ 0) (h1 : k < 100) : PS w B g gr r s lim val bad ans e w' := by
  subst h
  exact ⟨r', hu, hv, hk, h1⟩
theorem bind_ok {α β : Type} {m : Mm α} {f : α → Mm β} {s : Src} {a a1 : Nat} {o o1 : List Nat} {x : α} (h : m s a o = .ok (x, a1, o1)) : bindM m f s a o = f x s a1 o1 := by unfold bindM; rw [h]
theorem bind_err {α β : Type} {m : Mm α} {f : α → Mm β} {s : Src} {a : Nat} {o : List Nat} {e : Nat} (h : m s a o = .error e) : bindM m f s a o = .error e := by unfold bindM; rw [h]

theorem room_any (B g gr a lim many : Nat) (r : Option Nat) (s : ByteArray) (o : List Nat) (hl : lim ≤ 1000000000) (hm : many ≤ 1000000) (w : World) (hS : Sm w B g gr r s a lim o) :
    Calls Try.prog 62 #[.pointer (some ⟨g, 0, none⟩), .int .i64 many] w fun e w' => e = .returned (.int .i64 (if o.length + many ≤ lim then 0 else 14 : Int)) ∧ ∃ d, w' = w.drewN d := by
  have hroom := hS.room
  obtain ⟨v, p, hb, ho, _⟩ := hS
  obtain ⟨A, c, rfl⟩ := row_slice ho
  have c1 : w.cell? ⟨g, 1, none⟩ = some (.slice A o.length c) := by rw [cell_of_row w g 1 _ _ _ hb]; rfl
  have c2 : w.cell? ⟨g, 2, none⟩ = some (.int .i64 lim) := by rw [cell_of_row w g 2 _ _ _ hb]; rfl
  generalize o.length = k at *
  clear hb ho
  by_cases h : k + many ≤ lim
  · have hd : decide ((lim : Int) - (k : Int) < (many : Int)) = false := decide_eq_false (by omega)
    rw [if_pos h]
    go_enter Try.func62, Try.ntmps62
    go_wp2
    go_quiet (fail)
    go_wp2
    go_ret
    exact ⟨rfl, _, rfl⟩
  · have hd : decide ((lim : Int) - (k : Int) < (many : Int)) = true := decide_eq_true (by omega)
    rw [if_neg h]
    go_enter Try.func62, Try.ntmps62
    go_wp2
    go_quiet (fail)
    go_wp2
    go_ret
    exact ⟨rfl, _, rfl⟩

/-- A stream with one byte more. -/
theorem Sm.grow {w w2 : World} {B g gr a lim : Nat} {r : Option Nat} {s : ByteArray} {o : List Nat} {v v2 p : Value} {x : Nat} (h : Sm w B g gr r s a lim o) (hb : w.heap[g]? = some (.cells #[.pointer (some ⟨gr, 0, none⟩), v, .int .i64 (lim : Nat), p] 94 (0, 0)))
    (W : World) (hW : Below w.heap.size w W) (hg : W.grownBy w2 v.ownBlock) (ho : w2.ownsRow B 5 1 v2 (o.length + 1) (cells8 o ++ [.int .u8 (x : Nat)])) (hx : x < 256) (hl : o.length + 1 ≤ lim) (hat : v2.ownBlock = v.ownBlock ∨ ∃ j, v2.ownBlock = some j ∧ w.heap.size ≤ j) :
    Sm (w2.setCell ⟨g, 1, none⟩ v2) B g gr v2.ownBlock s a lim (o ++ [x]) ∧ UpS g gr r v2.ownBlock w (w2.setCell ⟨g, 1, none⟩ v2) := by
  have hSm := h
  have hge := h.ge
  obtain ⟨v', p', hb', ho', hv, hR, hfx, h1, h2, h3, h4, h5⟩ := h
  rw [hb] at hb'
  simp at hb'
  obtain ⟨rfl, rfl⟩ := hb'
  have hne : v.ownBlock ≠ some g := row_ne (by decide) ho' hb
  have hner : v.ownBlock ≠ some gr := row_ne (by decide) ho' hR
  have hgs := lt_of_heap hb
  have hb2 : w2.heap[g]? = some (.cells #[.pointer (some ⟨gr, 0, none⟩), v, .int .i64 (lim : Nat), p] 94 (0, 0)) := (hg.block g (Nat.lt_of_lt_of_le hgs hW.size) (fun e => hne e.symm)).trans ((hW.block g hgs).trans hb)
  have hR2 : Rd 81 w2 gr s a 0 := (hg.block gr (Nat.lt_of_lt_of_le hR.lt hW.size) (fun e => hner e.symm)).trans ((hW.block gr hR.lt).trans hR)
  have hne2 : v2.ownBlock ≠ some g := row_ne (by decide) ho hb2
  have hgr : g ≠ gr := blk_ne hb hR (by decide)
  have hb3 := heap_setCell_same w2 g 1 _ _ v2 hb2
  have hU : UpS g gr r v2.ownBlock w (w2.setCell ⟨g, 1, none⟩ v2) := by
    refine ⟨((kept_below hW).then (kept_grown hg) (fun i _ e => ?_)).then (kept_set w2 g 1 _) (fun i _ e => .inl e), ?_⟩
    · rw [hv] at e
      exact .inr (.inr e)
    · rcases hat with e | ⟨j, e, hj⟩
      · exact .inl (e.trans hv)
      · exact .inr ⟨j, e, hj⟩
  refine ⟨⟨v2, p, hb3, ?_, rfl, (Below.heap_setCell _ _ _ _ (Ne.symm hgr)).trans hR2, hfx.far (hU.far hSm), h1, h2, by simpa using hl, h4, ?_⟩, hU⟩
  · rw [List.length_append, cells8_app]
    exact row_kept ho fun b hb => Below.heap_setCell _ _ _ _ (fun e => hne2 (by rw [hb, e]))
  · intro y hy
    rw [List.mem_append] at hy
    rcases hy with hy | hy
    · exact h5 y hy
    · simp at hy
      omega

def okE (r : Ending) : Prop := r = .returned (.int .i64 0)
def badE (k : Nat) (r : Ending) : Prop := r = .returned (.int .i64 (k : Nat))
set_option maxHeartbeats 2000000 in
theorem one_any (B g gr a lim b : Nat) (r : Option Nat) (s : ByteArray) (o : List Nat) (hl : lim ≤ 1000000000) (hb256 : b < 256) (w : World) (hB : B ≤ w.heap.size) (hS : Sm w B g gr r s a lim o) :
    Calls Try.prog 64 #[.pointer (some ⟨g, 0, none⟩), .int .u8 b] w (PS w B g gr r s lim (fun _ => okE) badE (putM b (srcOf s lim) a o)) := by
  have HRM := Lib.hid (room_any B g gr a lim 1 r s o hl (by omega) w hS)
  have HS := Lib.hid hS
  by_cases h : o.length + 1 ≤ lim
  · have HM : Hid (putM b (srcOf s lim) a o = .ok ((), a, o ++ [b])) := if_pos h
    rw [if_pos h] at HRM
    obtain ⟨v, p, hb, ho, hrest⟩ := hS
    have HB0 := Lib.hid hb
    have HO := Lib.hid ho
    clear hb ho hrest
    obtain ⟨i0, hi, hz0, hz1, hz2⟩ := info_parts info8
    have HLE := Lib.hid h
    go_enter Try.func64, Try.ntmps64
    go_wp2_with fail
    refine (HRM.out).mono ?_; rintro e w1 ⟨rfl, d, rfl⟩
    have hb1 : (w.drewN d).heap[g]? = some (.cells #[.pointer (some ⟨gr, 0, none⟩), v, .int .i64 (lim : Nat), p] 94 (0, 0)) := HB0.out
    have ho1 : (w.drewN d).ownsRow B 5 1 v o.length (cells8 o) := row_kept HO.out fun _ _ => rfl
    have hW1 : Below w.heap.size w (w.drewN d) := below_drewN (Below.refl _ _) d
    have hsz : (w.drewN d).heap.size = w.heap.size := rfl
    generalize w.drewN d = w1 at *
    have c1 : w1.cell? ⟨g, 1, none⟩ = some v := by rw [cell_of_row w1 g 1 _ _ _ hb1]; rfl
    have HB1 := Lib.hid hb1
    have HO1 := Lib.hid ho1
    have HW1 := Lib.hid hW1
    have HSZ := Lib.hid hsz
    have hk : o.length ≤ 1000000000 := by omega
    clear hb1 ho1 hW1 hsz
    go_wp2_with (at_builtin; refine wpList_append_own_at _ rfl (.tmp 15) (.tmp 17) _ rfl B 5 i0 (.int .u8 0) 1 1 Try.underlying22 hi hz0 hz1 hz2 rfl (by decide) _ o.length (cells8 o) rfl (HO1.out.alloc _) ⟨w1.heap.size, 0, none⟩ 1 1 [.int .u8 (b : Nat)] rfl rfl ?c1 ?c2 ?c3 ?c4 ?c5 ?_)
    case c1 => exact cell_one_new _ _ _
    case c2 => intro u hu; simp at hu; subst hu; rfl
    case c3 => unfold maxLen; omega
    case c4 => omega
    case c5 => have := HSZ.out; simp; omega
    intro v2 w2 hown hgrow _ hat
    obtain ⟨A2, cp2, rfl⟩ := row_slice hown
    have hW : Below w.heap.size w (w1.alloc (.cells #[.int .u8 (b : Nat)] 5)) := HW1.out.alloc (by have := HSZ.out; omega) _
    have hG := HS.out.grow HB0.out _ hW hgrow hown hb256 HLE.out (by
      rcases hat with e | e
      · exact .inl e
      · exact .inr ⟨_, e, by have := HSZ.out; simp; omega⟩)
    have hne := row_ne (by decide) HO1.out HB1.out
    have hb2 := after_append (w2 := w2) HB1.out (by exact ⟨hgrow.os, hgrow.tape, hgrow.output, hgrow.size, hgrow.block⟩) hne
    have k1 : w2.cell? ⟨g, 1, none⟩ = some v := by rw [cell_of_row w2 g 1 _ _ _ hb2]; rfl
    have kf := frozen_of_row w2 g 1 _ _ hb2
    have HG := Lib.hid hG
    clear hown hgrow hat hG hb2 hW hne
    go_wp2
    go_ret
    exact .ok _ HM.out HG.out.2 rfl HG.out.1
  · have HM : Hid (putM b (srcOf s lim) a o = .error 14) := if_neg h
    rw [if_neg h] at HRM
    clear hS
    go_enter Try.func64, Try.ntmps64
    go_wp2_with fail
    refine (HRM.out).mono ?_; rintro e w1 ⟨rfl, d, rfl⟩
    go_wp2
    go_ret
    exact .err r HM.out (ups_drewN w d) rfl (by omega) (by omega)
end Go.Proofs.Ytbgclbnbnpnolaa
