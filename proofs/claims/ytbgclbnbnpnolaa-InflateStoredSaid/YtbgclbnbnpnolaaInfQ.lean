/-
  Contracts: the codes of a dynamic block.
-/
import Derived.Test.YtbgclbnbnpnolaaInfP
namespace Go.Proofs.Ytbgclbnbnpnolaa
set_option maxRecDepth 100000
open Go.RowKit Go.Deep Go.Joins

/-- k bits were wanted from a on. -/
def RdS (w : World) (gr : Nat) (s : ByteArray) (a k : Nat) : Prop := (a + k ≤ 8 * s.size ∧ Rd 81 w gr s (a + k) 0) ∨ (8 * s.size < a + k ∧ ∃ a', a' ≤ 8 * s.size ∧ Rd 81 w gr s a' 3)
theorem readS (w : World) (gr : Nat) (s : ByteArray) (a k n : Nat) (hs : s.size ≤ 1000000) (hn : n ≤ 32) (h : RdS w gr s a k) :
    Calls Try.prog 53 #[.pointer (some ⟨gr, 0, none⟩), .int .i64 (n : Nat)] w fun r w' => ∃ v : Nat, r = .returned (.int .u32 (v : Nat)) ∧ v < 2 ^ n ∧ w.grownBy w' (some gr) ∧ RdS w' gr s a (k + n) ∧ (a + (k + n) ≤ 8 * s.size → v = bitsAt (num s) (a + k) n) := by
  rcases h with ⟨h1, h2⟩ | ⟨h1, a', h2, h3⟩
  · by_cases hk : a + (k + n) ≤ 8 * s.size
    · refine (read_ok gr s (a + k) n hs hn (by omega) w h2).mono ?_
      rintro r w' ⟨rfl, hr, hg⟩
      exact ⟨_, rfl, bitsAt_lt _ _ n, hg, .inl ⟨hk, by rw [← Nat.add_assoc]; exact hr⟩, fun _ => rfl⟩
    · refine (read_short gr s (a + k) n hs h1 hn (by omega) w h2).mono ?_
      rintro r w' ⟨rfl, hr, hg⟩
      exact ⟨0, rfl, Nat.two_pow_pos n, hg, .inr ⟨by omega, _, h1, hr⟩, fun h => absurd h hk⟩
  · refine (read_bad gr s a' n 3 hs h2 (by omega) w h3).mono ?_
    rintro r w' ⟨rfl, hr, hg⟩
    exact ⟨0, rfl, Nat.two_pow_pos n, hg, .inr ⟨by omega, _, h2, hr⟩, fun h => absurd h (by omega)⟩
theorem RdS.rd {w : World} {gr : Nat} {s : ByteArray} {a k : Nat} (h : RdS w gr s a k) : ∃ a' e', Rd 81 w gr s a' e' := by
  rcases h with ⟨_, h⟩ | ⟨_, a', _, h⟩
  · exact ⟨_, _, h⟩
  · exact ⟨_, _, h⟩
/-- What stands behind the three numbers. -/
noncomputable def dynR (x y z : Nat) : Mm (Cod × Cod) := if 286 < 257 + x ∨ 30 < 1 + y then failM 10 else bindM (outerM (4 + z)) fun c => bindM (rowM c (257 + x + (1 + y))) fun l =>
    if l.getD 256 0 = 0 then failM 10 else bindM (pairM (codL (l.take (257 + x))) (codL (l.drop (257 + x)))) fun _ => retM (codL (l.take (257 + x)), codL (l.drop (257 + x)))
theorem dyn_ok (src : Src) (a : Nat) (o : List Nat) (h : a + 14 ≤ src.L) : dynamicM src a o = dynR (bitsAt src.N a 5) (bitsAt src.N (a + 5) 5) (bitsAt src.N (a + 10) 4) src (a + 14) o := by
  unfold dynamicM
  rw [bind_ok (show readM1 5 src a o = _ from if_pos (by omega)), bind_ok (show readM1 5 src (a + 5) o = _ from if_pos (by omega)), bind_ok (show readM1 4 src (a + 5 + 5) o = _ from if_pos (by omega))]
  rfl
theorem dyn_short (src : Src) (a : Nat) (o : List Nat) (h : src.L < a + 14) : dynamicM src a o = .error 3 := by
  unfold dynamicM
  by_cases h1 : a + 5 ≤ src.L
  · rw [bind_ok (show readM1 5 src a o = _ from if_pos h1)]
    by_cases h2 : a + 5 + 5 ≤ src.L
    · rw [bind_ok (show readM1 5 src (a + 5) o = _ from if_pos h2), bind_err (show readM1 4 src (a + 5 + 5) o = _ from if_neg (by omega))]
    · rw [bind_err (show readM1 5 src (a + 5) o = _ from if_neg h2)]
  · rw [bind_err (show readM1 5 src a o = _ from if_neg h1)]
theorem bind_inv {α β : Type} {m : Mm α} {f : α → Mm β} {s : Src} {a : Nat} {o : List Nat} {p : β × Nat × List Nat} (h : bindM m f s a o = .ok p) : ∃ x a1 o1, m s a o = .ok (x, a1, o1) ∧ f x s a1 o1 = .ok p := by
  unfold bindM at h
  split at h
  · cases h
  · exact ⟨_, _, _, ‹_›, h⟩
theorem ret_inv {α : Type} {x y : α} {s : Src} {a a1 : Nat} {o o1 : List Nat} (h : retM x s a o = .ok (y, a1, o1)) : x = y ∧ a = a1 ∧ o = o1 := by
  unfold retM at h
  injection h with h
  cases h
  exact ⟨rfl, rfl, rfl⟩
theorem row_inl {c : Cod} {many : Nat} {src : Src} {row l : List Nat} {a a1 : Nat} {o o1 : List Nat} (h : rowStep c many row src a o = .ok (.inl l, a1, o1)) : o1 = o := by
  unfold rowStep at h
  split at h
  · obtain ⟨x, a2, o2, h2, h⟩ := bind_inv h
    obtain ⟨p, a3, o3, h3, h⟩ := bind_inv h
    obtain ⟨_, _, rfl⟩ := ret_inv h
    rw [(run_o h3).1, sign_same h2]
  · split at h
    · cases h
    · cases h
theorem row_inr {c : Cod} {many : Nat} {src : Src} {row l : List Nat} {a a1 : Nat} {o o1 : List Nat} (h : rowStep c many row src a o = .ok (.inr l, a1, o1)) : o1 = o ∧ l.length = many := by
  unfold rowStep at h
  split at h
  · obtain ⟨x, a2, o2, h2, h⟩ := bind_inv h
    obtain ⟨p, a3, o3, h3, h⟩ := bind_inv h
    obtain ⟨h, _⟩ := ret_inv h
    cases h
  · split at h
    · cases h
    · obtain ⟨h4, _, h5⟩ := ret_inv h
      injection h4 with h4
      subst h4
      exact ⟨h5.symm, by omega⟩
theorem it_row (c : Cod) (many : Nat) (src : Src) : ∀ k row a o l a1 o1, itM (rowStep c many) src k row a o = some (.ok (l, a1, o1)) → o1 = o ∧ l.length = many
  | 0, row, a, o, l, a1, o1, h => by cases h
  | k + 1, row, a, o, l, a1, o1, h => by
    rw [itM] at h
    split at h
    · cases h
    · rename_i y a2 o2 hb
      injection h with h
      injection h with h
      cases h
      exact row_inr hb
    · rename_i c1 a2 o2 hb
      have e1 := it_row c many src k _ _ _ l a1 o1 h
      rw [row_inl hb] at e1
      exact e1
theorem row_len {c : Cod} {many : Nat} {src : Src} {a a1 : Nat} {o o1 l : List Nat} (h : rowM c many src a o = .ok (l, a1, o1)) : o1 = o ∧ l.length = many := by
  obtain ⟨k, hk⟩ := loop_ok h
  exact it_row c many src k _ _ _ _ _ _ hk
theorem make_inv {c : Cod} {op : Bool} {src : Src} {a a1 : Nat} {o o1 : List Nat} {u : Unit} (h : makeM c op src a o = .ok (u, a1, o1)) : a1 = a ∧ o1 = o ∧ may c op := by
  unfold makeM at h
  split at h
  · obtain ⟨_, h1, h2⟩ := ret_inv h
    exact ⟨h1.symm, h2.symm, ‹_›⟩
  · cases h
theorem outer_n {told : Nat} {src : Src} {a a1 : Nat} {o o1 : List Nat} {c : Cod} (ha : a ≤ src.L) (h : outerM told src a o = .ok (c, a1, o1)) : c.n = 19 ∧ o1 = o := by
  unfold outerM at h
  obtain ⟨l, a2, o2, h2, h⟩ := bind_inv h
  obtain ⟨u, a3, o3, h3, h⟩ := bind_inv h
  obtain ⟨rfl, _, rfl⟩ := ret_inv h
  refine ⟨rfl, ?_⟩
  rw [(make_inv h3).2.1]
  rw [threes_eq src a o told ha] at h2
  split at h2
  · injection h2 with h2
    cases h2
    rfl
  · cases h2
end Go.Proofs.Ytbgclbnbnpnolaa
