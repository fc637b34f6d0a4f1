/-
  Rows of atoms that came in, appended to a row of the call's own.
-/
import Derived.Test.YtpmielookhacoaaDoorGlAC
import Derived.Deep.AppendLies
namespace Go.Proofs.YtpmielookhacoaaDoor
set_option maxRecDepth 100000
set_option linter.unusedSimpArgs false
set_option linter.unusedVariables false
open Go.RowKit Go.Joins Go.Deep
def AtmG (w : World) (x : Atm) (V : Value) : Prop := ∃ A c, V = .slice A x.rs.length c ∧ Rgs w .i32 A x.rs
theorem AtmG.keep {w w' : World} {x : Atm} {V : Value} (h : AtmG w x V) (hk : ∀ A l, Rgs w .i32 A l → Rgs w' .i32 A l) : AtmG w' x V := by
  obtain ⟨A, c, e, hr⟩ := h
  exact ⟨A, c, e, hk _ _ hr⟩
theorem qs_of_ats {w : World} {A : Option Addr} : ∀ {ats : List Atm}, Ats w A ats → ∃ qs : List (Atm × Value), qs.map (·.1) = ats ∧ (∀ q ∈ qs, AtmG w q.1 q.2) ∧ (0 < ats.length → ∃ b off, A = some ⟨b, off, none⟩ ∧ b < w.heap.size ∧ ∀ j u, (cellsA qs)[j]? = some u → w.cell? ((⟨b, off, none⟩ : Addr).add j) = some u)
  | [], _ => ⟨[], rfl, (fun q hq => by cases hq), fun h => absurd h (Nat.lt_irrefl 0)⟩
  | x :: l, h => by
    obtain ⟨b, off, e, hlt, hc⟩ := h (Nat.succ_pos _)
    have hcc : ∀ (i : Nat) (y : Atm), (x :: l)[i]? = some y → ∃ V, AtmG w y V ∧ w.cell? ⟨b, off + i * 4, none⟩ = some (.int .i64 y.k) ∧ w.cell? ⟨b, off + i * 4 + 1, none⟩ = some (.int .i32 y.r) ∧ w.cell? ⟨b, off + i * 4 + 2, none⟩ = some (.bool y.n) ∧ w.cell? ⟨b, off + i * 4 + 3, none⟩ = some V := fun i y hy => by
      obtain ⟨c0, c1, c2, Ai, ci, c3, hr⟩ := hc i y hy
      exact ⟨_, ⟨Ai, ci, rfl, hr⟩, c0, c1, c2, c3⟩
    clear hc h
    -- the rows, from any place on
    have key : ∀ (m : List Atm) (o : Nat), (∀ (i : Nat) (y : Atm), m[i]? = some y → ∃ V, AtmG w y V ∧ w.cell? ⟨b, o + i * 4, none⟩ = some (.int .i64 y.k) ∧ w.cell? ⟨b, o + i * 4 + 1, none⟩ = some (.int .i32 y.r) ∧ w.cell? ⟨b, o + i * 4 + 2, none⟩ = some (.bool y.n) ∧ w.cell? ⟨b, o + i * 4 + 3, none⟩ = some V) →
        ∃ qs : List (Atm × Value), qs.map (·.1) = m ∧ (∀ q ∈ qs, AtmG w q.1 q.2) ∧ ∀ j u, (cellsA qs)[j]? = some u → w.cell? ⟨b, o + j, none⟩ = some u := by
      intro m
      induction m with
      | nil => exact fun o _ => ⟨[], rfl, (fun q hq => by cases hq), fun j u hu => by simp [cellsA] at hu⟩
      | cons y m ih =>
        intro o hm
        obtain ⟨V, hV, c0, c1, c2, c3⟩ := hm 0 y rfl
        obtain ⟨qs, h1, h2, h3⟩ := ih (o + 4) (fun i z hz => by
          obtain ⟨V', hV', k0, k1, k2, k3⟩ := hm (i + 1) z (by simpa using hz)
          rw [show o + (i + 1) * 4 = o + 4 + i * 4 by omega] at k0 k1 k2 k3
          exact ⟨V', hV', k0, k1, k2, k3⟩)
        refine ⟨(y, V) :: qs, by rw [List.map_cons, h1], fun q hq => ?_, fun j u hu => ?_⟩
        · rcases List.mem_cons.1 hq with rfl | hq
          · exact hV
          · exact h2 q hq
        · rw [Nat.zero_mul, Nat.add_zero] at c0 c1 c2 c3
          match j, hu with
          | 0, hu => rw [← show Value.int .i64 y.k = u by simpa [cellsA] using hu]; exact c0
          | 1, hu => rw [← show Value.int .i32 y.r = u by simpa [cellsA] using hu]; exact c1
          | 2, hu => rw [← show Value.bool y.n = u by simpa [cellsA] using hu]; exact c2
          | 3, hu => rw [← show V = u by simpa [cellsA] using hu]; exact c3
          | j + 4, hu =>
            have := h3 j u (by simpa [cellsA] using hu)
            rw [show o + (j + 4) = o + 4 + j by omega]
            exact this
    obtain ⟨qs, h1, h2, h3⟩ := key (x :: l) off hcc
    exact ⟨qs, h1, h2, fun _ => ⟨b, off, e, hlt, fun j u hu => by rw [Addr.add_lit]; exact h3 j u hu⟩⟩
theorem cellsA_one : ∀ (qs : List (Atm × Value)), (∀ q ∈ qs, q.2.oneCell' = true) → ∀ u ∈ cellsA qs, u.oneCell' = true
  | [], _, u, hu => by cases hu
  | q :: l, h, u, hu => by
    simp only [cellsA, List.mem_cons] at hu
    rcases hu with rfl | rfl | rfl | rfl | hu
    · rfl
    · rfl
    · rfl
    · exact h q (List.mem_cons_self ..)
    · exact cellsA_one l (fun q hq => h q (List.mem_cons_of_mem _ hq)) u hu
theorem ats_of_own' {w : World} {B c : Nat} {T : TypeId} {A : Option Addr} {qs : List (Atm × Value)} (h : w.ownsRow B T 4 (.slice A qs.length c) qs.length (cellsA qs)) (hr : ∀ q ∈ qs, AtmG w q.1 q.2) : Ats w A (qs.map (·.1)) := fun h0 => by
  rw [List.length_map] at h0
  obtain ⟨b, e, hlt, hc⟩ := own_cells h h0
  refine ⟨b, 0, e, hlt, fun i x hx => ?_⟩
  rw [List.getElem?_map] at hx
  obtain ⟨q, hq, rfl⟩ := Option.map_eq_some_iff.1 hx
  obtain ⟨g0, g1, g2, g3⟩ := cellsA_get qs i q hq
  obtain ⟨Ai, ci, e2, hrb⟩ := hr q (List.mem_of_getElem? hq)
  rw [Nat.zero_add]
  exact ⟨hc _ _ g0, hc _ _ g1, hc _ _ g2, Ai, ci, by rw [← e2]; exact hc _ _ g3, hrb⟩
/-- append of no atoms, out of nil. -/
theorem run_append_none (v : Value) (B n c : Nat) (xs : List Value) (w : World) (hown : w.ownsRow B 28 4 v n xs) :
    (Builtin.append_ #[22, 22] 22 #[v, .slice none 0 c]).run Tryd.prog w = .ok v w := by
  obtain ⟨i0, hi, hz0, hz1, hz2⟩ := parts_of parts_atom
  rcases hown.2 with ⟨rfl, rfl⟩ | ⟨g, cap, cur, rfl, _, _, hnc, _⟩
  · simp [Builtin.append_, run_underlying Tryd.underlying22, run_underlying Tryd.underlying28, sizeOf, typeInfo, hi, Builtin.lenOf, Builtin.firstCells, loadCells, loadCellsFrom]
  · simp [Builtin.append_, run_underlying Tryd.underlying22, run_underlying Tryd.underlying28, sizeOf, typeInfo, hi, Builtin.lenOf, Builtin.firstCells, loadCells, loadCellsFrom, hnc, storeCells]
/-- append of atoms that came in, at a step of a region that draws. -/
theorem step_ats {ops : Array Oper} {o : Oper} {a : Act} {w : World} {K : Act → World → Prop} {Q : Exit → Act → World → Prop} {E : Prop} (w0 : World) (hk0 : Below w0.heap.size w0 w) (hgd : o.guard = none) (s x : Operand) (hty : o.type = 22)
    (ho : o.op = .call { callee := .builtin .append, args := #[s, x], argTypes := #[22, 22] })
    (B : Nat) (v : Value) (n : Nat) (qs : List (Atm × Value)) (hn : n = qs.length) (hs : a.eval s = v) (hown : w.ownsRow B 28 4 v n (cellsA qs)) (A : Option Addr) (m c : Nat) (ats : List Atm) (hm : m = ats.length) (hx : a.eval x = .slice A m c) (hA : Ats w0 A ats) (hl : ats.length ≤ 60) (hq : qs.length ≤ 60) (hB : B ≤ w.heap.size)
    (h : ∀ v' w' rs, rs.map (·.1) = ats → (∀ q ∈ rs, AtmG w0 q.1 q.2) → w'.ownsRow B 28 4 v' (n + m) (cellsA (qs ++ rs)) → w.grownBy w' v.ownBlock → K (a.put o.dst v') w') :
    if Region.wanted o (yielded ops a.tmps) = true then Oper.wp Tryd.prog o a w K Q else E := by
  have hw : Region.wanted o (yielded ops a.tmps) = true := by simp [Region.wanted, hgd]
  rw [if_pos hw]
  subst hn hm
  obtain ⟨i0, hi, hz0, hz1, hz2⟩ := parts_of parts_atom
  obtain ⟨rs, h1, h2, h3⟩ := qs_of_ats hA
  have hrl : rs.length = ats.length := by rw [← h1, List.length_map]
  have fin : ∀ v' w', (Builtin.append_ #[22, 22] o.type #[v, .slice A ats.length c]).run Tryd.prog w = .ok v' w' → K (a.put o.dst v') w' → Oper.wp Tryd.prog o a w K Q := fun v' w' hr hk => by
    unfold Oper.wp execOp
    simp only [ho, resolve, invoke, builtin, Sem.run_bind, Sem.run_pure, Result.andThen_ok, List.map_toArray, List.map_cons, List.map_nil, hs, hx, hr]
    exact hk
  by_cases h0 : 0 < ats.length
  · obtain ⟨b, off, rfl, hbl, hc0⟩ := h3 h0
    have hc : ∀ j u, (cellsA rs)[j]? = some u → w.cell? ((⟨b, off, none⟩ : Addr).add j) = some u := fun j u hu => by
      have h := hc0 j u hu
      rw [Addr.add_lit] at h ⊢
      exact (hk0.cell (p := ⟨b, off + j, none⟩) hbl).trans h
    obtain ⟨v', w', hr, k1, k2, _, _⟩ := run_append_own_at (P := Tryd.prog) w B 22 o.type 28 i0 (.agg #[.int .i64 0, .int .i32 0, .bool false, .slice none 0 0]) 4 40 Tryd.underlying22 hi hz0 hz1 hz2 rfl (by decide) v qs.length _ hown ⟨b, off, none⟩ ats.length c (cellsA rs) (by rw [cellsA_len, hrl]) hc (cellsA_one rs (fun q hq => by obtain ⟨A, c, e, _⟩ := h2 q hq; rw [e]; rfl)) (by unfold maxLen; omega) (by omega) hB
    exact fin v' w' hr (h v' w' rs h1 h2 (by rw [cellsA_app]; exact k1) k2)
  · have hz : ats.length = 0 := by omega
    have hrz : rs = [] := List.eq_nil_of_length_eq_zero (by omega)
    subst hrz
    cases A with
    | none =>
      refine fin v w (by rw [hz, hty]; exact run_append_none v B _ c _ w hown) (h v w [] h1 h2 (by rw [hz, List.append_nil, Nat.add_zero]; exact hown) (World.grownBy.refl _ _))
    | some ad =>
      obtain ⟨v', w', hr, k1, k2, _, _⟩ := run_append_own_at (P := Tryd.prog) w B 22 o.type 28 i0 (.agg #[.int .i64 0, .int .i32 0, .bool false, .slice none 0 0]) 4 40 Tryd.underlying22 hi hz0 hz1 hz2 rfl (by decide) v qs.length _ hown ad ats.length c [] (by rw [hz]; rfl) (fun j u hu => by simp at hu) (fun u hu => by cases hu) (by unfold maxLen; omega) (by omega) hB
      exact fin v' w' hr (h v' w' [] h1 h2 (by rw [List.append_nil]; simpa using k1) k2)
end Go.Proofs.YtpmielookhacoaaDoor
