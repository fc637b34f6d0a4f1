/-
  The chapter's examples of layer 6.
-/
import Derived.Test.YtbgclbnbnpnolaaInfT
import Derived.Test.YtbgclbnbnpnolaaPreF
namespace Go.Proofs.Ytbgclbnbnpnolaa
set_option maxRecDepth 100000
open Go.RowKit Go.Deep Go.Joins

/-- A word that stands next is the next sign. -/
theorem sign_hit (c : Cod) (src : Src) (a p : Nat) (o : List Nat) (hp : p < c.n) (h1 : 1 ≤ c.ls p) (hv : rev (src.N / 2 ^ a) (c.ls p) = c.W p) (hmx : c.ls p ≤ c.mx) (hL : a + c.ls p ≤ src.L) : signM c src a o = .ok (p, a + c.ls p, o) := by
  cases hs : srch c (src.N / 2 ^ a) (min c.mx (src.L - a)) 1 with
  | some q =>
    obtain ⟨i, l⟩ := q
    obtain ⟨g1, g2, g3⟩ := srch_lt c _ _ _ _ _ hs
    have hb := srch_before c _ _ _ _ _ hs
    obtain ⟨h2, _, h3⟩ := sign_right c.ls c.n (src.N / 2 ^ a) p c.mx (src.L - a) l 0 (i : Nat) hp h1 hv hmx (by omega) (.inl ⟨i, rfl, rfl, g1, by omega, by omega, g3, fun k hk1 hk2 => hb k hk1 (by omega)⟩)
    obtain rfl : i = p := by omega
    subst h3
    unfold signM
    rw [hs]
  | none =>
    exfalso
    have hall : ∀ k l, srch c (src.N / 2 ^ a) k l = none → ∀ j, l ≤ j → j < l + k → findW c.ls c.W j (rev (src.N / 2 ^ a) j) c.n = none := by
      intro k
      induction k with
      | zero => intro l _ j h1 h2; omega
      | succ k ih =>
        intro l h j h1 h2
        rw [srch] at h
        split at h
        · cases h
        · rename_i hf
          by_cases e : j = l
          · subst e
            exact hf
          · exact ih (l + 1) h j (by omega) (by omega)
    exact find_some c.ls c.W (c.ls p) (rev (src.N / 2 ^ a) (c.ls p)) (by omega) c.n p hp rfl hv.symm (hall _ _ hs (c.ls p) h1 (by omega))
theorem fx_mx : fixS.mx = 9 := by decide +kernel
theorem fx_end : fixS.W 256 = 0 := by decide +kernel
theorem fx_a : fixS.W 97 = 145 := by decide +kernel
theorem block_fixed {src : Src} {a : Nat} {o : List Nat} (h : a + 3 ≤ src.L) (h1 : bitsAt src.N a 1 = 1) (h2 : bitsAt src.N (a + 1) 2 = 1) {a1 : Nat} {o1 : List Nat} (hs : signsM fixS fixD src (a + 3) o = .ok ((), a1, o1)) : blockM src a o = .ok (true, a1, o1) := by
  rw [blk_ok src a o h, h1, h2]
  exact bind_ok hs
theorem infl_last {src : Src} {a1 : Nat} {o1 : List Nat} (h : blockM src 0 [] = .ok (true, a1, o1)) : inflM src 0 [] = .ok ((), a1, o1) :=
  loop_of (.done (show blockStep () src 0 [] = .ok (.inr (), a1, o1) from (bind_ok h).trans rfl))
theorem infl_ex1 : inflM (srcOf ⟨#[3, 0]⟩ 9) 0 [] = .ok ((), 10, []) :=
  infl_last (block_fixed (by decide) (by decide) (by decide) (loop_of (.done (step_end _ _ _ _ 10 _ _ (sign_hit fixS _ 3 256 [] (by decide) (by decide) (by rw [fx_end]; decide) (by rw [fx_mx]; decide) (by decide))))))
theorem infl_ex2 : inflM (srcOf ⟨#[75, 4, 0]⟩ 9) 0 [] = .ok ((), 18, [97]) :=
  infl_last (block_fixed (by decide) (by decide) (by decide) (loop_of (.more ((step_byte _ _ _ _ 97 11 _ _ (sign_hit fixS _ 3 97 [] (by decide) (by decide) (by rw [fx_a]; decide) (by rw [fx_mx]; decide) (by decide)) (by decide)).trans rfl)
    (.done (step_end _ _ _ _ 18 _ _ (sign_hit fixS _ 11 256 [97] (by decide) (by decide) (by rw [fx_end]; decide) (by rw [fx_mx]; decide) (by decide)))))))
theorem inf_ex1 (w : World) : Calls Try.prog 26 #[.string ⟨#[3, 0]⟩, .int .i64 9] w fun e w' => e = .returned (.tuple #[.string ⟨#[]⟩, .int .i64 2, .int .i64 0]) ∧ Below w.heap.size w w' := by
  have h := inflate_all ⟨#[3, 0]⟩ 9 (by decide) (by decide) w
  rw [show (9 : Int).toNat = 9 from rfl, infl_ex1] at h
  exact h
theorem inf_ex2 (w : World) : Calls Try.prog 26 #[.string ⟨#[75, 4, 0]⟩, .int .i64 9] w fun e w' => e = .returned (.tuple #[.string ⟨#[97]⟩, .int .i64 3, .int .i64 0]) ∧ Below w.heap.size w w' := by
  have h := inflate_all ⟨#[75, 4, 0]⟩ 9 (by decide) (by decide) w
  rw [show (9 : Int).toNat = 9 from rfl, infl_ex2] at h
  exact h
theorem awake6_any (w : World) : Calls Try.prog 20 #[] w fun e w' => e = .returned (.bool true) ∧ Below w.heap.size w w' := by
  go_enter Try.func20, Try.ntmps20
  go_wp2_with fail
  refine (inf_ex1 _).mono ?_; rintro e w1 ⟨rfl, hb1⟩
  have HB1 := Lib.hid hb1
  clear hb1
  go_wp2_with fail
  refine (inf_ex2 _).mono ?_; rintro e w2 ⟨rfl, hb2⟩
  have HB2 := Lib.hid (below_then HB1.out hb2)
  clear hb2
  go_wp2
  go_ret
  exact ⟨rfl, HB2.out⟩
end Go.Proofs.Ytbgclbnbnpnolaa
