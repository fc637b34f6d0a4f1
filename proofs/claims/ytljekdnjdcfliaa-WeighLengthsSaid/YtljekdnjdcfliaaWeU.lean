/-
  weigh: contract of coming.
-/
import Derived.Test.YtljekdnjdcfliaaWeT
namespace Go.Proofs.Ytljekdnjdcfliaa
open Go.RowKit

/-- The signs that come, in their order. -/
def comeL (f : Nat → Nat) : Nat → List Nat
  | 0 => []
  | n + 1 => if 0 < f n then comeL f n ++ [n] else comeL f n
theorem comeL_lt (f : Nat → Nat) (n : Nat) : ∀ x ∈ comeL f n, x < n ∧ 0 < f x := by
  induction n with
  | zero => simp [comeL]
  | succ n ih =>
    intro x hx
    rw [comeL] at hx
    split at hx
    · rcases List.mem_append.1 hx with hx | hx
      · have := ih x hx; omega
      · simp at hx; subst hx; omega
    · have := ih x hx; omega
theorem comeL_mem (f : Nat → Nat) (n i : Nat) (hi : i < n) (h : 0 < f i) : i ∈ comeL f n := by
  induction n with
  | zero => omega
  | succ n ih =>
    rw [comeL]
    by_cases e : i = n
    · subst e; rw [if_pos h]; simp
    · have := ih (by omega)
      split <;> simp [this]
theorem comeL_le (f : Nat → Nat) (n : Nat) : (comeL f n).length ≤ n := by
  induction n with
  | zero => simp [comeL]
  | succ n ih => rw [comeL]; split <;> (try simp only [List.length_append, List.length_cons, List.length_nil]) <;> omega
theorem comeL_nodup (f : Nat → Nat) (n : Nat) : (comeL f n).Nodup := by
  induction n with
  | zero => simp [comeL]
  | succ n ih =>
    rw [comeL]
    split
    · rw [List.nodup_append]
      refine ⟨ih, by simp, ?_⟩
      intro a ha b hb e
      simp at hb
      have := comeL_lt f n a ha
      omega
    · exact ih
theorem info_i64 : (Try.prog.info? 3).map (fun i => (i.zero, i.size, i.bytes)) = some (some (.int .i64 0), 1, 8) := by kernel_rfl

set_option maxRecDepth 100000 in
set_option maxHeartbeats 8000000 in
theorem coming_any (A : Option Addr) (n capA : Nat) (f : Nat → Nat) (w : World) (hC : Cts w A n f) (hn : n ≤ 400) (hsym : ∀ base gd m cap pc, 20 < m → m ≤ (comeL f n).length → SymOk base gd m cap pc n f) :
    Calls Try.prog 53 #[.slice A n capA] w fun e w' => ∃ S v, e = .returned v ∧ S.Perm (comeL f n) ∧ SrtOn f 0 S.length S ∧ ((S = [] ∧ v = .slice none 0 0) ∨ ∃ gd cap, v = .slice (some ⟨gd, 0, none⟩) S.length cap ∧ w.heap.size < gd ∧ SnO w' (w.heap.size + 1) gd S.length cap S) ∧ Below w.heap.size w w' := by
  have hmf : ∀ (fn : Fn) (first cap : Array Value) (w : World), (Instr.makeFunc fn first cap).run Try.prog w = .ok (.func fn first cap) w := fun _ _ _ _ => rfl
  obtain ⟨i0, hi, hz0, hz1, hz2⟩ := info_parts info_i64
  have hb1 := below_alloc (Below.refl w.heap.size w) (.cells #[.slice A n capA] 65)
  have c0 := cell_new w (.slice A n capA) 65
  have hs1 : (w.alloc (.cells #[.slice A n capA] 65)).heap.size = w.heap.size + 1 := by simp
  have HC := Lib.hid hC
  have HY := Lib.hid hsym
  clear hC hsym
  go_enter Try.func53, Try.ntmps53
  go_wp2_with fail
  generalize w.alloc (.cells #[.slice A n capA] 65) = w1 at *
  have HI : Hid (Below w.heap.size w w1 ∧ w1.cell? ⟨w.heap.size, 0, none⟩ = some (.slice A n capA) ∧ w1.heap.size = w.heap.size + 1) := ⟨hb1, c0, hs1⟩
  clear hb1 c0 hs1
  go_loopw [3, 8] (fun v i wr => ∃ k : Nat, k ≤ n ∧ i = .int .i64 k ∧ wr.ownsRow (w.heap.size + 1) 3 1 v (comeL f k).length ((comeL f k).map iv) ∧ wr.cell? ⟨w.heap.size, 0, none⟩ = some (.slice A n capA) ∧ w.heap.size < wr.heap.size ∧ Below w.heap.size w wr) (fun _ i _ => n - (intOf i).toNat)
  case atStart => exact ⟨0, Nat.zero_le _, rfl, World.ownsRow_nil _ _ _ _, HI.out.2.1, by have := HI.out.2.2; omega, HI.out.1⟩
  case round =>
    obtain ⟨k, hk, rfl, hown, hc, hsz, hb⟩ := hrel
    have HO := Lib.hid hown
    have HB := Lib.hid hb
    have HCL := Lib.hid hc
    have hlen := comeL_le f k
    clear hown hb hc
    by_cases hlt : k < n
    · obtain ⟨bk, off, rfl, hbl, hcc⟩ := HC.out (by omega)
      have c1 := (HB.out.cell (p := ⟨bk, off + k, none⟩) hbl).trans (hcc k hlt).1
      clear hcc
      by_cases hf : 0 < f k
      · have HST : Hid (comeL f (k + 1) = comeL f k ++ [k]) := by rw [Hid, comeL, if_pos hf]
        go_wp2_with (at_builtin; refine wpList_append_own _ rfl _ _ 44 rfl (w.heap.size + 1) 3 i0 (.int .i64 0) 1 8 Try.underlying44 hi hz0 hz1 hz2 rfl (by decide) _ _ _ rfl (HO.out.alloc _) ⟨wr.heap.size, 0, none⟩ 1 1 [.int .i64 (k : Nat)] rfl rfl ?c1 ?c2 ?c3 ?c4 ?c5 ?_)
        case c1 =>
          intro j u hj
          match j, hj with
          | 0, hj => simp at hj; subst hj; simp [Addr.add]
        case c2 => intro u hu; simp at hu; subst hu; rfl
        case c3 => unfold maxLen; omega
        case c4 => omega
        case c5 => simp; omega
        intro v' w2 hown2 hgrow2 _
        have HOW := Lib.hid (fun h => (HO.out.lt h))
        have hne : ∀ vv : Value, (∀ h, vv.ownBlock = some h → w.heap.size + 1 ≤ h) → some w.heap.size ≠ vv.ownBlock := fun vv hv e => by have := hv _ e.symm; omega
        go_wp2
        go_roundw
        case rel =>
          refine ⟨k + 1, by omega, by go_num, by rw [HST.out]; simpa [iv] using hown2, ?_, by have := hgrow2.size; simp at this; omega, (below_alloc HB.out _).grown hgrow2 (by simp; omega) (fun h e => by have := (HOW.out h e).1; omega)⟩
          refine (World.cell?_of_block (a := ⟨w.heap.size, 0, none⟩) (hgrow2.block w.heap.size (by simp; omega) (hne _ (fun h e => (HOW.out h e).1)))).trans ?_
          exact (World.cell?_of_block (a := ⟨w.heap.size, 0, none⟩) (Below.heap_alloc _ _ _ hsz)).trans HCL.out
        case measure => simp [intOf]; omega
      · have hf0 : f k = 0 := by omega
        have HST : Hid (comeL f (k + 1) = comeL f k) := by rw [Hid, comeL, if_neg hf]
        rw [hf0] at c1
        go_wp2
        go_roundw
        case rel => exact ⟨k + 1, by omega, by go_num, by rw [HST.out]; exact HO.out, HCL.out, hsz, HB.out⟩
        case measure => simp [intOf]; omega
    · obtain rfl : k = n := by omega
      have ho := HO.out
      obtain ⟨_, ⟨rfl, hz⟩ | ⟨g, cap, cur, rfl, hbg, hgh, _⟩⟩ := ho
      · have hnil : comeL f k = [] := List.eq_nil_of_length_eq_zero hz
        go_wp2_with fail
        refine (sort_nil w.heap.size wr).mono ?_
        rintro e w2 ⟨rfl, rfl⟩
        go_wp2_with fail
        go_ret
        exact ⟨[], _, rfl, by rw [hnil], fun i j _ _ h => by simp at h, .inl ⟨rfl, rfl⟩, HB.out⟩
      · have hlen2 := hlen
        have HCM : Hid (CmpOk wr g w.heap.size k f) := fun w3 hg3 a b ha hb =>
          cmp_any w.heap.size A k capA f a b w3 (HC.out.below (Nat.le_refl _) (HB.out.grown hg3 (by omega) (fun h e => by cases e; omega)))
            ((World.cell?_of_block (a := ⟨w.heap.size, 0, none⟩) (hg3.block w.heap.size hsz (by intro e; injection e with e; omega))).trans HCL.out) ha hb
        have HSO := Lib.hid (sort_any (w.heap.size + 1) g (comeL f k).length cap w.heap.size k f (comeL f k) wr ⟨rfl, HO.out⟩ (fun x hx => (comeL_lt f k x hx).1) HCM.out (by omega) (fun h20 => HY.out _ _ _ _ _ h20 (Nat.le_refl _)))
        clear hgh
        go_wp2_with fail
        refine (HSO.out).mono ?_
        rintro e w2 ⟨rfl, S', ho2, hm2, hs2, hg2⟩
        have hl : S'.length = (comeL f k).length := hm2.len
        go_wp2_with fail
        go_ret
        exact ⟨S', _, rfl, hm2.perm, by rw [hl]; exact hs2, .inr ⟨g, cap, by rw [hl]; rfl, by omega, by rw [hl]; exact ho2⟩, HB.out.grown hg2 (by omega) (fun h e => by cases e; omega)⟩
end Go.Proofs.Ytljekdnjdcfliaa
