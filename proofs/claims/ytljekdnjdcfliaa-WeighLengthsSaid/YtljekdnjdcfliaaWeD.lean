/-
  A range over an iterator whose k-th value is known: what a caller's loop comes to; slices.Backward over the rows.
-/
import Derived.Test.YtljekdnjdcfliaaWeC
import Derived.RangeFuncNested
import Derived.RangeFuncBound
import Derived.RangeFuncCalls
import Derived.RangeFuncLeaves
import Derived.OwnWalkIn
import Derived.TacticsInMore
import Derived.LoopNIn
import Derived.LoopIn
namespace Go.Proofs.Ytljekdnjdcfliaa
open Go.RowKit
attribute [local go_sem] Oper.semAt_some

/-- The rounds are numbered: the k-th is handed 'en k'; the body goes through. -/
theorem range_counted {F : Fence} {n : Nat} {P : Program} {g : Operand} {ps : Array Tmp} {assign body : Code} {Q : Exit → Act → World → Prop} {a : Act} {w : World}
    (hro : F.round = none) (h1 : 1 ≤ n) {gf : Nat} {lb : Array Value} (hg : a.eval g = .func (.func gf) #[] lb) (hFg : F.fn gf) (eg : ∀ args w, (callFunc gf args).run P w = .ok (.enter gf args) w)
    (N : Nat) (en : Nat → Array Value) (hps : ∀ k, (en k).size = ps.size) (I : Nat → World → Prop) (hI : OwnFrom w.heap.size I) (h0 : I 0 w)
    (hit : ∀ (l : Nat) (J : Nat → World → Prop) (W : World), (∀ k W, J k W → I k W) →
      (∀ k W, J k W → k < N → YieldAt F (n - 1 - 1) P l (en k) W fun e W' => e = .returned (.bool true) ∧ J (k + 1) W') → J 0 W →
      CallsIn F (n - 1) P gf (#[.func (.yield l) #[] #[]] ++ lb) W fun e W' => (∃ v, e = .returned v) ∧ J N W')
    (a₁ : Nat → Act)
    (hassign : ∀ (l k : Nat) (W : World) (K : Act → World → Prop), K (a₁ k) W →
      assign.wpIn (F.inRound l) (n - 1 - 1) P (Exit.then K (fun _ _ _ => False)) { tmps := (ps.zip (en k)).foldl (fun t (p, v) => t.setIfInBounds p v) a.tmps, defers := [] } W)
    (hbody : ∀ (l k : Nat) (W : World), I k W → k < N → body.wpIn (F.inRound l) (n - 1 - 1) P (fun e _ W' => e = .normal ∧ KeepsOthers W W' ∧ I (k + 1) W') (a₁ k) W)
    (hdone : ∀ (D : Nat) (W : World), w.heap.size ≤ D → I N W → W.heap[D]? = some (.deferred (some [])) → Q .normal { a with defers := { target := .collected D, args := #[] } :: a.defers } W) :
    (Code.rangeFunc g ps assign body).wpIn F n P Q a w := by
  refine wpIn_rangeFunc ?_
  intro fn hfn
  rw [hro]
  -- the two blocks that the statement lays: the rounds' deferred calls, the loop's record
  generalize hrd : (fun (st : LoopState) => ({ state := st, pending := none, fn, tmps := a.tmps, params := ps, assign, body, defers := w.heap.size } : Loop)) = rd
  have rst : ∀ st, (rd st).state = st := fun st => by rw [← hrd]
  have rpe : ∀ st, (rd st).pending = none := fun st => by rw [← hrd]
  generalize hV : (w.alloc (.deferred (some []))).alloc (.loop (rd .ready)) = V
  have hVl : V.heap[w.heap.size + 1]? = some (.loop (rd .ready)) := by
    have := World.alloc_heap_new (w.alloc (.deferred (some []))) (.loop (rd .ready))
    rw [hV, World.size_alloc] at this
    exact this
  have hVd : V.heap[w.heap.size]? = some (.deferred (some [])) := by
    rw [← hV]
    exact (Below.heap_alloc _ _ _ (by simp)).trans (World.alloc_heap_new w _)
  have hVI : I 0 V := by rw [← hV]; exact hI.alloc _ (hI.alloc _ h0)
  refine ⟨w.heap.size + 1, [{ target := .collected w.heap.size, args := #[] }], V, { target := .fn (.func gf) lb, args := #[.func (.yield (w.heap.size + 1)) #[] #[]] }, V, gf,
    #[.func (.yield (w.heap.size + 1)) #[] #[]] ++ lb, V, ?_, ?_, ?_, ?_, fun _ => h1, ?_⟩
  · rw [← hV, ← hrd]; exact run_enterLoop_outer _ _ _ _ _
  · simp only [resolve, hg]; simp [go_sem]
  · intro f' hf'; simp [Target.leads] at hf'; subst hf'; exact hFg
  · simp [invoke, go_sem, eg]
  · refine (hit (w.heap.size + 1) (fun k W => I k W ∧ W.heap[w.heap.size + 1]? = some (.loop (rd .ready)) ∧ W.heap[w.heap.size]? = some (.deferred (some []))) V (fun _ _ h => h.1) ?_ ⟨hVI, hVl, hVd⟩).mono ?_
    · rintro k W ⟨hi, hl, hd⟩ hk
      have hlt : w.heap.size + 1 < W.heap.size := (Array.getElem?_eq_some_iff.1 hl).1
      have hy := run_yield (P := P) (args := en k) hl (by rw [← hrd]; exact hps k)
      rw [← hrd] at hy
      refine ⟨fn, _, assign, body, hy, roundIn_of_wpIn hfn (hassign _ k W _ ⟨_, run_beginRound hl (rst _), ?_⟩)⟩
      have hb : ({ rd .ready with state := .busy } : Loop) = rd .busy := by rw [← hrd]
      rw [hb]
      have hl2 : (W.putObj (w.heap.size + 1) (.loop (rd .busy))).heap[w.heap.size + 1]? = some (.loop (rd .busy)) := World.putObj_heap_same hlt
      have hd2 : (W.putObj (w.heap.size + 1) (.loop (rd .busy))).heap[w.heap.size]? = some (.deferred (some [])) := (World.putObj_heap_other (by omega)).trans hd
      refine wpIn_mono (hbody _ k _ (hI.putObj _ hi (by omega) hl rfl) hk) ?_
      rintro e a3 W3 ⟨rfl, hk3, hi3⟩
      have hl3 := hk3.same _ _ hl2 rfl
      have hd3 := hk3.same _ _ hd2 rfl
      have hr : ({ rd .busy with state := .ready, pending := none } : Loop) = rd .ready := by rw [← hrd]
      have he := run_endRound (P := P) none hl3
      simp only [Option.isNone_none, if_true] at he
      rw [hr] at he
      exact ⟨_, _, he, rfl, hI.putObj _ hi3 (by omega) hl3 rfl, World.putObj_heap_same (Array.getElem?_eq_some_iff.1 hl3).1, (World.putObj_heap_other (by omega)).trans hd3⟩
    · rintro e W2 ⟨⟨v, rfl⟩, hi, hl, hd⟩
      have he := run_endLoop (P := P) hl (by rw [rst]; simp)
      rw [rpe] at he
      exact ⟨none, _, he, hdone _ _ (Nat.le_refl _) (hI.putObj _ hi (by omega) hl rfl) ((World.putObj_heap_other (by omega)).trans hd)⟩

set_option maxRecDepth 100000 in
set_option maxHeartbeats 4000000 in
/-- slices.Backward's function: the last row first. -/
theorem back1_in (n : Nat) (h2 : 1 ≤ n) (l p g N cap : Nat) (hN : N ≤ 1000) (vals : Nat → Value) (J : Nat → World → Prop)
    (hJ : ∀ k W, J k W → W.cell? ⟨p, 0, none⟩ = some (.slice (some ⟨g, 0, none⟩) N cap) ∧ ∀ j, j < N → W.cell? ⟨g, j, none⟩ = some (vals j))
    (hone : ∀ j, j < N → ∃ A len cp, vals j = .slice A len cp)
    (hY : ∀ k W, J k W → k < N → YieldAt Fence.wide (n - 1) Try.prog l #[.int .i64 ((N - 1 - k : Nat) : Int), vals (N - 1 - k)] W fun e W' => e = .returned (.bool true) ∧ J (k + 1) W')
    (W : World) (h0 : J 0 W) :
    CallsIn Fence.wide n Try.prog 71 (#[.func (.yield l) #[] #[]] ++ #[.pointer (some ⟨p, 0, none⟩)]) W fun e W' => (∃ v, e = .returned v) ∧ J N W' := by
  refine callsIn_of_wp Try.func71 rfl trivial ?_ rfl
  simp only [Try.ntmps71, List.size_toArray, List.length_cons, List.length_nil, Nat.reduceAdd, Nat.reduceSub, Array.replicate_succ, Array.replicate_zero, List.push_toArray, List.append_toArray, List.nil_append, List.cons_append]
  have c0 := (hJ 0 W h0).1
  gi_wp2
  gi_loopw [3] (fun i wr => ∃ k : Nat, k ≤ N ∧ i = .int .i64 ((N : Int) - 1 - k) ∧ J k wr) (fun i _ => (intOf i + 1).toNat)
  case atStart => exact ⟨0, Nat.zero_le _, by go_num, h0⟩
  case round =>
    obtain ⟨k, hk, rfl, hj⟩ := hrel
    by_cases hlt : k < N
    · obtain ⟨c0, c1⟩ := hJ k wr hj
      have c2 := c1 (N - 1 - k) (by omega)
      obtain ⟨A, len, cp, hv⟩ := hone (N - 1 - k) (by omega)
      obtain ⟨fn, tmps, assign, body, hy, hR⟩ := hY k wr hj hlt
      rw [hv] at c2 hy
      have ei : ((N - 1 - k : Nat) : Int) = (N : Int) - 1 - k := by omega
      rw [ei] at hy
      have hge : (0 : Int) ≤ (N : Int) - 1 - k := by omega
      have hlt2 : (N : Int) - 1 - k < N := by omega
      have ht : ((N : Int) - 1 - k).toNat = N - 1 - k := by omega
      gi_wp2
      refine hR.mono ?_
      rintro e W3 ⟨rfl, hJ3⟩
      gi_wp2
      go_roundw
      case rel => exact ⟨k + 1, by omega, by go_num, hJ3⟩
      case measure => simp [intOf]; omega
    · obtain rfl : k = N := by omega
      gi_wp2
      go_end0
      exact ⟨⟨_, rfl⟩, hj⟩
theorem back_any (v : Value) (w : World) (hv : ∃ A len cp, v = .slice A len cp) :
    Calls Try.prog 65 #[v] w fun e w' => e = .returned (.func (.func 71) #[] #[.pointer (some ⟨w.heap.size, 0, none⟩)]) ∧ w' = w.alloc (.cells #[v] 103) := by
  obtain ⟨A, len, cp, rfl⟩ := hv
  have hmf : ∀ (fn : Fn) (first cap : Array Value) (w : World), (Instr.makeFunc fn first cap).run Try.prog w = .ok (.func fn first cap) w := fun _ _ _ _ => rfl
  go_enter Try.func65, Try.ntmps65
  go_wp2
  go_ret
  exact ⟨rfl, rfl⟩
end Go.Proofs.Ytljekdnjdcfliaa
