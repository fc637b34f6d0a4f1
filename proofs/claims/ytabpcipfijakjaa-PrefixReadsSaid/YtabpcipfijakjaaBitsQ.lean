/-
  Contracts: the document's writer: Write, Align, Bytes.
-/
import Derived.Test.YtabpcipfijakjaaBitsX
namespace Go.Proofs.Ytabpcipfijakjaa
set_option maxRecDepth 100000
open Go.RowKit Go.Joins

/-- The lowest k bits of a number, one by one. -/
def bl (M : Nat) : Nat → List Nat
  | 0 => []
  | k + 1 => bl M k ++ [M / 2 ^ k % 2]
theorem bl_len (M k : Nat) : (bl M k).length = k := by
  induction k with
  | zero => rfl
  | succ k ih => simp [bl, ih]
theorem bl_get (M : Nat) : ∀ k i, i < k → (bl M k)[i]? = some (M / 2 ^ i % 2)
  | 0, i, h => by omega
  | k + 1, i, h => by
    rw [bl]
    by_cases hi : i < k
    · rw [List.getElem?_append_left (by rw [bl_len]; exact hi), bl_get M k i hi]
    · obtain rfl : i = k := by omega
      rw [List.getElem?_append_right (by rw [bl_len]; exact Nat.le_refl _), bl_len]
      simp
theorem bl_mod (M N k : Nat) (h : M % 2 ^ k = N % 2 ^ k) : bl M k = bl N k := by
  induction k with
  | zero => rfl
  | succ k ih =>
    have hk : M % 2 ^ k = N % 2 ^ k := by
      have h1 := congrArg (· % 2 ^ k) h
      simpa [Nat.mod_mod_of_dvd _ (Nat.pow_dvd_pow 2 (Nat.le_succ k))] using h1
    rw [bl, bl, ih hk]
    have h1 := congrArg (· / 2 ^ k) h
    simp only [Nat.pow_succ, Nat.mod_mul_right_div_self] at h1
    rw [h1]
theorem bl_put (M L x : Nat) (hM : M < 2 ^ L) : bl (M + x * 2 ^ L) (L + 1) = bl M L ++ [x % 2] := by
  rw [bl, bl_mod (M + x * 2 ^ L) M L (by rw [Nat.add_mul_mod_self_right]), Nat.add_mul_div_right _ _ (Nat.two_pow_pos L), Nat.div_eq_of_lt hM, Nat.zero_add]

/-- The document's writer: L bits, which are the number M. -/
def Qr (w : World) (B g : Nat) (r : Option Nat) (M L : Nat) : Prop :=
  M < 2 ^ L ∧ ∃ v, w.heap[g]? = some (.cells #[v] 48 (0, 0)) ∧ w.ownsRow B 5 1 v L (cells8 (bl M L)) ∧ v.ownBlock = r ∧ B ≤ g

theorem bit_mul (v i : Nat) : v % 2 ^ (i + 1) = v % 2 ^ i + v / 2 ^ i % 2 * 2 ^ i := by rw [Nat.mod_pow_succ, Nat.mul_comm]
theorem step_bits (M L v i : Nat) : M + v % 2 ^ (i + 1) * 2 ^ L = M + v % 2 ^ i * 2 ^ L + v / 2 ^ i % 2 * 2 ^ (L + i) := by
  rw [bit_mul, Nat.add_mul, Nat.add_assoc, Nat.mul_assoc, ← Nat.pow_add, Nat.add_comm i L]
theorem mod_lt_put (M L v i : Nat) (hM : M < 2 ^ L) : M + v % 2 ^ i * 2 ^ L < 2 ^ (L + i) := put_lt M L _ i hM (Nat.mod_lt _ (Nat.two_pow_pos i))

/-- One bit put behind: the world behind it. -/
theorem q_put {w w2 : World} {B g g2 cap L M x : Nat} {r : Option Nat} {v : Value} {o : Obj} (hM : M < 2 ^ L) (hx : x < 2) (hb : w.heap[g]? = some (.cells #[v] 48 (0, 0))) (hr : v.ownBlock = r) (hBg : B ≤ g)
    (hne : v.ownBlock ≠ some g)
    (hown : w2.ownsRow B 5 1 (.slice (some ⟨g2, 0, none⟩) (L + 1) cap) (L + 1) (cells8 (bl M L) ++ [.int .u8 (x : Nat)])) (hg : (w.alloc o).grownBy w2 v.ownBlock) (hat : v.ownBlock = some g2 ∨ g2 = w.heap.size + 1) :
    Qr (w2.setCell ⟨g, 0, none⟩ (.slice (some ⟨g2, 0, none⟩) (L + 1) cap)) B g (some g2) (M + x * 2 ^ L) (L + 1) ∧ Upd g r (some g2) w (w2.setCell ⟨g, 0, none⟩ (.slice (some ⟨g2, 0, none⟩) (L + 1) cap)) := by
  have hb2 : w2.heap[g]? = some (.cells #[v] 48 (0, 0)) := (hg.block g (by have := lt_of_block' hb; simp; omega) (Ne.symm hne)).trans ((Below.heap_alloc w o g (lt_of_block' hb)).trans hb)
  have hne2 := row_ne (by decide) hown hb2
  have hn2 : g2 ≠ g := fun e => hne2 (by simp [Value.ownBlock, e])
  refine ⟨⟨?_, _, heap_setCell_same w2 g 0 _ _ _ hb2, ?_, rfl, hBg⟩, ?_, ?_⟩
  · exact put_lt M L x 1 hM hx
  · rw [bl_put M L x hM, cells8_app, Nat.mod_eq_of_lt hx]
    exact row_kept hown fun b hb' => Below.heap_setCell _ _ _ _ (by simp [Value.ownBlock] at hb'; subst hb'; exact hn2)
  · refine ((kept_alloc (fun i => i = g ∨ some i = r) w o).then (kept_grown hg) ?_).then (kept_set w2 g 0 _) (fun i _ e => .inl e)
    intro i _ e
    exact .inr (by rw [e, hr])
  · rcases hat with e | e
    · exact .inl (by rw [← e, hr])
    · exact .inr ⟨g2, rfl, by omega⟩

set_option maxHeartbeats 2000000 in
theorem rwrite_ok (B g : Nat) (r : Option Nat) (M L v n : Nat) (hL : L ≤ 1000000000) (hv : v < 4294967296) (hn : 1 ≤ n) (hn2 : n ≤ 32) (w : World) (hB : B ≤ w.heap.size) (hc : Qr w B g r M L) :
    Calls Try.prog 51 #[.pointer (some ⟨g, 0, none⟩), .int .u32 v, .int .i64 n] w fun e w' => e = .returned (.tuple #[]) ∧ ∃ r', Qr w' B g r' (M + v % 2 ^ n * 2 ^ L) (L + n) ∧ Upd g r r' w w' := by
  have hM := hc.1
  have HC := Lib.hid hc
  have HML := Lib.hid (fun i => mod_lt_put M L v i hM)
  have HST := Lib.hid (fun i => step_bits M L v i)
  have HM0 : Hid (M + v % 2 ^ 0 * 2 ^ L = M) := by show _ = _; simp [Nat.mod_one]
  obtain ⟨i0, hi, hz0, hz1, hz2⟩ := info_parts info8
  clear hc hM
  go_enter Try.func51, Try.ntmps51
  go_wp2
  go_loopw [1, 6] (fun x i wr => ∃ k r', k ≤ n ∧ i = .int .i64 k ∧ x = .int .u32 (v / 2 ^ k : Nat) ∧ Qr wr B g r' (M + v % 2 ^ k * 2 ^ L) (L + k) ∧ Upd g r r' w wr) (fun _ i _ => n - (intOf i).toNat)
  case atStart => exact ⟨0, r, Nat.zero_le _, rfl, by simp, by rw [HM0.out]; exact HC.out, Upd.refl _ _ _⟩
  case round =>
    obtain ⟨k, r', hk, rfl, rfl, hq, hU⟩ := hrel
    have HU := Lib.hid hU
    by_cases hlt : k < n
    · have HLk := Lib.hid (HML.out k)
      have HSk := Lib.hid (HST.out k)
      have HDk : Hid (v / 2 ^ k / 2 = v / 2 ^ (k + 1)) := by show _ = _; rw [Nat.div_div_eq_div_mul, Nat.pow_succ]
      have hy : v / 2 ^ k < 4294967296 := Nat.lt_of_le_of_lt (Nat.div_le_self _ _) hv
      obtain ⟨_, v0, hb0, ho0, hr0, hBg⟩ := hq
      generalize M + v % 2 ^ k * 2 ^ L = N at *
      have hne := row_ne (by decide) ho0 hb0
      have c0 : wr.cell? ⟨g, 0, none⟩ = some v0 := by rw [cell_of_row wr g 0 _ _ _ hb0]; rfl
      have hl1 : L + k ≤ 1000000032 := by omega
      generalize v / 2 ^ k = y at *
      obtain ⟨z, hzy, hz, hzl⟩ : ∃ z : Nat, y % 2 = z ∧ ((y : Int) % 2) = (z : Int) ∧ z < 2 := ⟨y % 2, rfl, by omega, by omega⟩
      have HZ := Lib.hid hzy
      have hz256 : (z : Int) % 256 = z := by omega
      have HB0 := Lib.hid hb0
      have HO0 := Lib.hid ho0
      have HR0 := Lib.hid hr0
      have HNE := Lib.hid hne
      clear hb0 ho0 hr0 hne hU hzy
      go_wp2_with (at_builtin; refine wpList_append_lies _ rfl (.tmp 22) (.tmp 26) _ rfl B 5 i0 (.int .u8 0) 1 1 Try.underlying22 hi hz0 hz1 hz2 rfl (by decide) v0 (L + k) (cells8 (bl N (L + k))) rfl (HO0.out.alloc _) ⟨wr.heap.size, 0, none⟩ 1 1 [.int .u8 (z : Nat)] rfl rfl (World.news_of_block (heap_alloc_new _ _)) (by intro u hu; simp at hu; subst hu; rfl) (by omega) (by unfold maxLen; omega) (by omega) (by have := HU.out.1.size; simp; omega) (wr.heap.size + 1) (by simp) ?_)
      intro g2 cap w2 hown hgrow hat hlt2
      have hp := q_put HLk.out hzl HB0.out HR0.out hBg HNE.out hown hgrow hat
      have hb2 : w2.heap[g]? = some (.cells #[v0] 48 (0, 0)) := (hgrow.block g (by have := lt_of_block' HB0.out; simp; omega) (Ne.symm HNE.out)).trans ((Below.heap_alloc wr _ g (lt_of_block' HB0.out)).trans HB0.out)
      have k0 : w2.cell? ⟨g, 0, none⟩ = some v0 := by rw [cell_of_row w2 g 0 _ _ _ hb2]; rfl
      have kf : w2.frozen? ⟨g, 0, none⟩ = false := frozen_of_row w2 g 0 _ _ hb2
      have HP := Lib.hid hp
      clear hown hgrow hat hb2 hp
      go_wp2
      go_roundw
      case rel =>
        refine ⟨k + 1, some g2, by omega, by go_num, ?_, ?_, HU.out.then HP.out.2⟩
        · rw [← HDk.out]
          go_num
        · rw [HSk.out, HZ.out]
          exact HP.out.1
      case measure => simp [intOf]; omega
    · obtain rfl : k = n := by omega
      have HQ := Lib.hid hq
      clear hq hU
      go_wp2
      go_end0
      exact ⟨rfl, r', HQ.out, HU.out⟩
theorem rwrite_any (B g : Nat) (r : Option Nat) (M L v : Nat) (n : Int) (hL : L ≤ 1000000000) (hv : v < 4294967296) (w : World) (hB : B ≤ w.heap.size) (hc : Qr w B g r M L) :
    Calls Try.prog 51 #[.pointer (some ⟨g, 0, none⟩), .int .u32 v, .int .i64 n] w fun e w' => e = .returned (.tuple #[]) ∧ ∃ r', Qr w' B g r' (wM M L v n) (wL L n) ∧ Upd g r r' w w' := by
  by_cases h : 1 ≤ n ∧ n ≤ 32
  · obtain ⟨m, rfl⟩ := Int.eq_ofNat_of_zero_le (show 0 ≤ n by omega)
    rw [show wM M L v (m : Nat) = M + v % 2 ^ m * 2 ^ L from if_pos h, show wL L (m : Nat) = L + m from if_pos h]
    exact rwrite_ok B g r M L v m hL hv (by omega) (by omega) w hB hc
  · rw [show wM M L v n = M from if_neg h, show wL L n = L from if_neg h]
    have HC := Lib.hid hc
    clear hc
    by_cases h1 : n < 1
    · go_enter Try.func51, Try.ntmps51
      go_wp2
      refine bodyPost_ret (results_none rfl _ _ _) rfl ?_
      exact ⟨rfl, r, HC.out, Upd.refl _ _ _⟩
    · have h2 : 32 < n := by omega
      clear h
      go_enter Try.func51, Try.ntmps51
      go_wp2
      refine bodyPost_ret (results_none rfl _ _ _) rfl ?_
      exact ⟨rfl, r, HC.out, Upd.refl _ _ _⟩

end Go.Proofs.Ytabpcipfijakjaa
