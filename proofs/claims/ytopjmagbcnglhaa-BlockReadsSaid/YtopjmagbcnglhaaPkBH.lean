/-
  block: a row without noughts at its end; the pieces of a row.
  Length and Put of any int (XPreZ's last part, alone).
  block: bits in a row (a number and how many); a code's words put; the signs of tokens put.
  Contracts: the document's signs of lengths and of distances.
  Contract: Find.
-/
import Derived.Test.YtopjmagbcnglhaaBlkK
import Derived.Test.YtopjmagbcnglhaaPkBG
import Derived.Deep.DeepMust
import Derived.Test.YtopjmagbcnglhaaPkAF
import Derived.Test.YtopjmagbcnglhaaPkAE
import Derived.Test.YtopjmagbcnglhaaBlkB
import Derived.Test.YtopjmagbcnglhaaPkBF
import Derived.Test.YtopjmagbcnglhaaPkAD

namespace Go.Proofs.Ytopjmagbcnglhaa
set_option maxRecDepth 100000
open Go.RowKit Go.Joins Go.Deep

def shrN (ls : Nat → Nat) (least : Nat) : Nat → Nat
  | 0 => 0
  | n + 1 => if least < n + 1 ∧ ls n = 0 then shrN ls least n else n + 1
theorem shrN_le (ls : Nat → Nat) (least : Nat) : ∀ n, shrN ls least n ≤ n
  | 0 => Nat.le_refl _
  | n + 1 => by
    rw [shrN]
    split
    · have := shrN_le ls least n; omega
    · exact Nat.le_refl _
theorem shrN_ge (ls : Nat → Nat) (least : Nat) : ∀ n, least ≤ n → least ≤ shrN ls least n
  | 0, h => by rw [shrN]; exact h
  | n + 1, h => by
    rw [shrN]
    split
    · rename_i hc; exact shrN_ge ls least n (by omega)
    · exact h
theorem shrN_zero (ls : Nat → Nat) (least : Nat) : ∀ n i, shrN ls least n ≤ i → i < n → ls i = 0
  | 0, i, _, h => by omega
  | n + 1, i, h1, h2 => by
    rw [shrN] at h1
    split at h1
    · rename_i hc
      by_cases e : i = n
      · subst e; exact hc.2
      · exact shrN_zero ls least n i h1 (by omega)
    · omega
def slN (v : Value) : Nat := match v with | .slice _ n _ => n | _ => 0
theorem slN_of (A : Option Addr) (n c : Nat) : slN (.slice A n c) = n := rfl
set_option maxHeartbeats 2000000 in
theorem short_any (A : Option Addr) (n cap least : Nat) (ls : Nat → Nat) (hn : n ≤ 1000) (hl : least ≤ 1000) (hcap : n ≤ cap) (w : World) (hL : Lens w A n ls) :
    Calls Try.prog 46 #[.slice A n cap, .int .i64 (least : Nat)] w fun e w' => e = .returned (.slice A (shrN ls least n) cap) ∧ w' = w := by
  have HL := Lib.hid hL
  clear hL
  go_enter Try.func46, Try.ntmps46
  go_wp2_with fail
  go_loopw [0] (fun v wr => ∃ k : Nat, k ≤ n ∧ v = .slice A k cap ∧ wr = w ∧ Hid (shrN ls least k = shrN ls least n)) (fun v _ => slN v)
  case atStart => exact ⟨n, Nat.le_refl _, rfl, rfl, rfl⟩
  case round =>
    obtain ⟨k, hk, rfl, rfl, HK⟩ := hrel
    by_cases hlt : least < k
    · obtain ⟨j, rfl⟩ : ∃ j, k = j + 1 := ⟨k - 1, by omega⟩
      obtain ⟨b, off, rfl, hbl, hc⟩ := HL.out (by omega)
      have c1 := (hc j (by omega)).1
      have h1 : ((j + 1 : Nat) : Int) - 1 = (j : Int) := by omega
      have h2 : IntKind.i64.wrap (((j + 1 : Nat) : Int) - 1) = (j : Int) := by rw [IntKind.wrap_i64]; omega
      have h3 : (j : Int) + 1 - 1 = (j : Int) := by omega
      have hg : decide ((least : Int) < ((j + 1 : Nat) : Int)) = true := decide_eq_true (by omega)
      have hg2 : decide ((least : Int) < (j : Int) + 1) = true := decide_eq_true (by omega)
      have hjc : j ≤ cap := by omega
      have hjI : (j : Int) ≤ cap := by omega
      clear hc
      by_cases hz : ls j = 0
      · have HS : Hid (shrN ls least j = shrN ls least n) := by
          rw [Hid, ← HK.out]
          conv => rhs; rw [shrN]
          rw [if_pos ⟨hlt, hz⟩]
        rw [hz] at c1
        go_wp2_with fail
        go_roundw
        case rel => exact ⟨j, by omega, rfl, by trivial, HS⟩
        case measure => simp [slN_of]
      · have HS : Hid (shrN ls least n = j + 1) := by
          rw [Hid, ← HK.out, shrN, if_neg (fun h => hz h.2)]
        have hd : (((ls j : Nat) : Int) == 0) = false := by rw [beq_eq_false_iff_ne]; omega
        clear hz
        generalize ls j = x at *
        go_wp2_with fail
        go_ret
        exact ⟨by rw [HS.out]; rfl, by trivial⟩
    · have HS : Hid (shrN ls least n = k) := by
        rw [Hid, ← HK.out]
        cases k with
        | zero => rfl
        | succ j => rw [shrN, if_neg (by omega)]
      have hg : decide ((least : Int) < (k : Int)) = false := decide_eq_false (by omega)
      go_wp2_with fail
      go_ret
      exact ⟨by rw [HS.out]; rfl, by trivial⟩

/-! ## All pieces -/
def pzN (row : Nat → Nat) (n : Nat) : Nat → Nat
  | 0 => 0
  | k + 1 => pzN row n k + (pcN row n (pzN row n k)).mn
def pkN (row : Nat → Nat) (n k : Nat) : Pc := pcN row n (pzN row n k)
theorem pc_mn (row : Nat → Nat) (n a : Nat) (h : a < n) : 1 ≤ (pcN row n a).mn ∧ a + (pcN row n a).mn ≤ n := by
  obtain ⟨h1, h2, _⟩ := alk_ge row n a h
  unfold pcN
  (repeat' split) <;> (dsimp only) <;> omega
theorem pc_bd (row : Nat → Nat) (n a : Nat) (h : row a < 16) : (pcN row n a).sg < 19 ∧ (pcN row n a).mo ≤ 7 ∧ (pcN row n a).re < 128 ∧ (n ≤ 1000 → a < n → (pcN row n a).re < 2 ^ (pcN row n a).mo) := by
  unfold pcN
  split
  · refine ⟨by dsimp only; omega, by dsimp only; omega, by dsimp only; omega, fun _ _ => by dsimp only; omega⟩
  · split
    · rename_i h1 h2
      refine ⟨by dsimp only; omega, by dsimp only; omega, by dsimp only; omega, fun _ _ => by dsimp only; omega⟩
    · split
      · refine ⟨by dsimp only; omega, by dsimp only; omega, by dsimp only; omega, fun _ _ => by dsimp only; omega⟩
      · refine ⟨by dsimp only; omega, by dsimp only; omega, by dsimp only; omega, fun _ _ => by dsimp only; omega⟩
/-- All of a row is told by so many pieces. -/
def Split1 (row : Nat → Nat) (n K : Nat) : Prop := pzN row n K = n ∧ ∀ j, j < K → pzN row n j < n
def cellP (p : Pc) : List Value := [.int .i64 (p.sg : Nat), .int .i64 (p.mo : Nat), .int .u32 (p.re : Nat)]
def pcCells (row : Nat → Nat) (n : Nat) : Nat → List Value
  | 0 => []
  | k + 1 => pcCells row n k ++ cellP (pkN row n k)
theorem pcCells_len (row : Nat → Nat) (n K : Nat) : (pcCells row n K).length = K * 3 := by
  induction K with
  | zero => rfl
  | succ K ih => rw [pcCells, List.length_append, ih]; simp [cellP]; omega
theorem pcCells_get (row : Nat → Nat) (n K i j : Nat) (hi : i < K) (hj : j < 3) : (pcCells row n K)[i * 3 + j]? = (cellP (pkN row n i))[j]? := by
  induction K with
  | zero => omega
  | succ K ih =>
    rw [pcCells]
    by_cases e : i = K
    · subst e
      rw [List.getElem?_append_right (by rw [pcCells_len]; omega), pcCells_len, show i * 3 + j - i * 3 = j by omega]
    · rw [List.getElem?_append_left (by rw [pcCells_len]; omega)]
      exact ih (by omega)
def Pcs (w : World) (A : Option Addr) (K : Nat) (row : Nat → Nat) (n : Nat) : Prop := 0 < K → ∃ b, A = some ⟨b, 0, none⟩ ∧ (∃ cs, w.heap[b]? = some (.cells cs 124 (0, 0))) ∧ ∀ i, i < K → w.cell? ⟨b, i * 3, none⟩ = some (.int .i64 ((pkN row n i).sg : Nat)) ∧ w.cell? ⟨b, i * 3 + 1, none⟩ = some (.int .i64 ((pkN row n i).mo : Nat)) ∧ w.cell? ⟨b, i * 3 + 2, none⟩ = some (.int .u32 ((pkN row n i).re : Nat))
theorem pcs_of_own {w : World} {B K c n : Nat} {A : Option Addr} {row : Nat → Nat} (h : w.ownsRow B 124 3 (.slice A K c) K (pcCells row n K)) : Pcs w A K row n := fun hn => by
  rcases h.2 with ⟨_, h0⟩ | ⟨g, cap, cur, hv, _, hg, _, _, _, htake⟩
  · omega
  · injection hv with hA _ _
    subst hA
    have hc : ∀ i j, i < K → j < 3 → w.cell? ⟨g, i * 3 + j, none⟩ = (cellP (pkN row n i))[j]? := fun i j hi hj => by
      rw [cell_of_row w g _ _ _ _ hg, ← pcCells_get row n K i j hi hj, ← htake, List.getElem?_take, if_pos (by omega)]
      simp
    refine ⟨g, rfl, ⟨_, hg⟩, fun i hi => ⟨?_, ?_, ?_⟩⟩
    · have := hc i 0 hi (by omega); simpa [cellP] using this
    · have := hc i 1 hi (by omega); simpa [cellP] using this
    · have := hc i 2 hi (by omega); simpa [cellP] using this
theorem Pcs.stay {w w' : World} {A : Option Addr} {K n : Nat} {row : Nat → Nat} (h : Pcs w A K row n) (hf : ∀ (i : Nat) (cs : Array Value), w.heap[i]? = some (.cells cs 124 (0, 0)) → w'.heap[i]? = some (.cells cs 124 (0, 0))) : Pcs w' A K row n := fun hn => by
  obtain ⟨b, h1, ⟨cs, h2⟩, h3⟩ := h hn
  have e : ∀ j, w'.cell? ⟨b, j, none⟩ = w.cell? ⟨b, j, none⟩ := fun j => World.cell?_of_block (a := ⟨b, j, none⟩) ((hf b cs h2).trans h2.symm)
  exact ⟨b, h1, ⟨cs, hf b cs h2⟩, fun i hi => ⟨(e _).trans (h3 i hi).1, (e _).trans (h3 i hi).2.1, (e _).trans (h3 i hi).2.2⟩⟩
theorem info_pc3 : (Try.prog.info? 124).map (fun i => (i.zero, i.size, i.bytes)) = some (some (.agg #[.int .i64 0, .int .i64 0, .int .u32 0]), 3, 24) := by kernel_rfl
theorem cellP_one (p : Pc) : ∀ u ∈ cellP p, u.oneCell' = true := by
  intro u hu
  simp [cellP] at hu
  rcases hu with rfl | rfl | rfl <;> rfl
set_option maxHeartbeats 4000000 in
theorem pieces_any (A : Option Addr) (n cap : Nat) (row : Nat → Nat) (hn : n ≤ 1000) (w : World) (hL : Lens w A n row) :
    Calls Try.prog 63 #[.slice A n cap] w fun e w' => ∃ K A2 c2, e = .returned (.slice A2 K c2) ∧ K ≤ n ∧ Split1 row n K ∧ Pcs w' A2 K row n ∧ Below w.heap.size w w' := by
  obtain ⟨i0, hi, hz0, hz1, hz2⟩ := info_parts info_pc3
  have hzp := zero_pc
  have HL := Lib.hid hL
  clear hL
  go_enter Try.func63, Try.ntmps63
  go_wp2_with fail
  go_loopw [3, 4] (fun v i wr => ∃ k : Nat, i = .int .i64 ((pzN row n k : Nat) : Int) ∧ k ≤ pzN row n k ∧ pzN row n k ≤ n ∧ Hid (∀ j, j < k → pzN row n j < n) ∧ Hid (wr.ownsRow w.heap.size 124 3 v k (pcCells row n k)) ∧ Hid (Below w.heap.size w wr)) (fun _ i _ => n - (intOf i).toNat)
  case atStart => exact ⟨0, rfl, Nat.le_refl _, Nat.zero_le _, fun j h => by omega, World.ownsRow_nil _ _ _ _, Below.refl _ _⟩
  case round =>
    obtain ⟨k, rfl, hkp, hpn, HJ, HO, HB⟩ := hrel
    have HPS : Hid (pzN row n (k + 1) = pzN row n k + (pkN row n k).mn) := rfl
    have HTS : Hid (pcCells row n (k + 1) = pcCells row n k ++ cellP (pkN row n k)) := rfl
    obtain ⟨A2, cp2, rfl⟩ := row_slice' HO.out
    by_cases hpl : pzN row n k < n
    · have HTA : Hid (Calls Try.prog 82 #[.slice A n cap, .int .i64 ((pzN row n k : Nat) : Int)] wr fun e w' => e = .returned (.tuple #[PcV (pkN row n k), .int .i64 ((pkN row n k).mn : Nat)]) ∧ Below wr.heap.size wr w') := first_any A n cap _ row hpl hn wr (HL.out.below (Nat.le_refl _) HB.out)
      have hmm : 1 ≤ (pkN row n k).mn ∧ pzN row n k + (pkN row n k).mn ≤ n := pc_mn row n _ hpl
      generalize hP : pzN row n k = P at *
      generalize pkN row n k = T at *
      have HP := Lib.hid hP
      clear hP
      obtain ⟨ts, tm, tr, tn⟩ := T
      unfold PcV at HTA
      dsimp only at *
      go_wp2_with fail
      refine (HTA.out).mono ?_
      rintro e w3 ⟨rfl, hb3⟩
      have hx4 := heap_alloc_new w3 (.cells #[.int .i64 (ts : Nat), .int .i64 (tm : Nat), .int .u32 (tr : Nat)] 124)
      have hb4 : Below wr.heap.size wr (w3.alloc (.cells #[.int .i64 (ts : Nat), .int .i64 (tm : Nat), .int .u32 (tr : Nat)] 124)) := hb3.alloc hb3.size _
      have hs4 : (w3.alloc (.cells #[.int .i64 (ts : Nat), .int .i64 (tm : Nat), .int .u32 (tr : Nat)] 124)).heap.size = w3.heap.size + 1 := by simp
      have hx5 := heap_alloc_new (w3.alloc (.cells #[.int .i64 (ts : Nat), .int .i64 (tm : Nat), .int .u32 (tr : Nat)] 124)) (.cells #[.int .i64 (ts : Nat), .int .i64 (tm : Nat), .int .u32 (tr : Nat)] 124)
      have hb5 : Below wr.heap.size wr ((w3.alloc (.cells #[.int .i64 (ts : Nat), .int .i64 (tm : Nat), .int .u32 (tr : Nat)] 124)).alloc (.cells #[.int .i64 (ts : Nat), .int .i64 (tm : Nat), .int .u32 (tr : Nat)] 124)) := hb4.alloc hb4.size _
      have hs5 : ((w3.alloc (.cells #[.int .i64 (ts : Nat), .int .i64 (tm : Nat), .int .u32 (tr : Nat)] 124)).alloc (.cells #[.int .i64 (ts : Nat), .int .i64 (tm : Nat), .int .u32 (tr : Nat)] 124)).heap.size = w3.heap.size + 2 := by simp
      rw [hs4] at hx5
      have ho5 := row_kept' HO.out (fun g hg => hb5.block g (HO.out.lt g hg).2)
      have HS3 : Hid (wr.heap.size ≤ w3.heap.size) := hb3.size
      have HX4 := Lib.hid hx4
      have HX5 := Lib.hid hx5
      have HS5 := Lib.hid hs5
      have HB5 := Lib.hid hb5
      have HO5 := Lib.hid ho5
      have hne : Hid (∀ gg, (Value.slice A2 k cp2).ownBlock = some gg → gg < wr.heap.size ∧ w.heap.size ≤ gg) := fun gg hg => ⟨(HO.out.lt gg hg).2, (HO.out.lt gg hg).1⟩
      clear hx4 hx5 hs5 hs4 hb5 hb4 hb3 ho5 HTA
      go_wp2_with first
        | (at_builtin; go_must (refine wpList_append_own_at _ rfl (.tmp 17) (.tmp 19) _ rfl w.heap.size 124 i0 (.agg #[.int .i64 0, .int .i64 0, .int .u32 0]) 3 24 Try.underlying119 hi hz0 hz1 hz2 rfl (by decide) (.slice A2 k cp2) k _ rfl HO5.out ⟨w3.heap.size + 1, 0, none⟩ 1 1 [.int .i64 (ts : Nat), .int .i64 (tm : Nat), .int .u32 (tr : Nat)] rfl rfl (cells3 HX5.out) (cellP_one ⟨ts, tm, tr, tn⟩) (by unfold maxLen; omega) (by omega) (by have h1 := HB.out.size; have h2 := HS3.out; have h3 := HS5.out; omega) ?_; intro v' w6 hown' hgrow hnil hloc; have HO6 := Lib.hid hown'; have HB6 := Lib.hid ((HB.out.trans (HB5.out.mono HB.out.size)).grown hgrow (by have h1 := HB.out.size; have h2 := HS3.out; have h3 := HS5.out; omega) (fun j hj => (hne.out j hj).2)); clear hown' hgrow hnil hloc))
      have hPW : (P : Int) + (tn : Int) = ((pzN row n (k + 1) : Nat) : Int) := by rw [HPS.out]; omega
      go_roundw
      case rel =>
        refine ⟨k + 1, by rw [hPW], by have := HPS.out; omega, by have := HPS.out; omega, ?_, ?_, HB6⟩
        · intro j hj
          by_cases e : j = k
          · subst e; rw [HP.out]; omega
          · exact HJ.out j (by omega)
        · show World.ownsRow _ _ _ _ _ _ _
          rw [HTS.out]
          exact HO6.out
      case measure => simp [intOf]; omega
    · have HFD : Hid (Split1 row n k) := ⟨by omega, HJ.out⟩
      have HTT := Lib.hid (pcs_of_own HO.out)
      have hP : pzN row n k = n := by omega
      have hkn : k ≤ n := by omega
      rw [hP]
      go_wp2
      go_ret
      exact ⟨k, A2, cp2, rfl, hkn, HFD.out, HTT.out, HB.out⟩
end Go.Proofs.Ytopjmagbcnglhaa

namespace Go.Proofs.Ytopjmagbcnglhaa
open Go.RowKit Go.Joins

theorem length_intI (B g bm n mx : Nat) (x : Int) (ls W : Nat → Nat) (hls : ∀ i, i < n → ls i < 256) (w : World) (hcd : Cd0 w B g bm ls W n mx) :
    Calls Try.prog 58 #[.pointer (some ⟨g, 0, none⟩), .int .i64 x] w fun e w' => e = .returned (.int .i64 (if 0 ≤ x ∧ x < n then (ls x.toNat : Int) else 0)) ∧ w = w' := by
  by_cases h : 0 ≤ x ∧ x < n
  · obtain ⟨k, rfl⟩ := Int.eq_ofNat_of_zero_le h.1
    rw [if_pos h, Int.toNat_natCast]
    exact length_any B g bm n mx k ls W (by omega) (hls k (by omega)) w hcd
  · rw [if_neg h]
    have HS := Lib.hid (signs_any B g bm n mx ls W w hcd)
    by_cases h0 : x < 0
    · clear h hcd
      go_enter Try.func58, Try.ntmps58
      go_wp2_with (go_at_call 74; refine (HS.out).mono ?_; rintro e w' ⟨rfl, rfl⟩)
      go_ret
      exact ⟨rfl, rfl⟩
    · have h1 : (n : Int) ≤ x := by omega
      clear h hcd
      go_enter Try.func58, Try.ntmps58
      go_wp2_with (go_at_call 74; refine (HS.out).mono ?_; rintro e w' ⟨rfl, rfl⟩)
      go_ret
      exact ⟨rfl, rfl⟩
theorem put_no_intI (B g bm n mx gw : Nat) (x : Int) (ls W : Nat → Nat) (hls : ∀ i, i < n → ls i < 256) (hx : x < 0 ∨ (n : Int) ≤ x ∨ ∃ k : Nat, x = (k : Nat) ∧ k < n ∧ ls k = 0) (w : World) (hcd : Cd0 w B g bm ls W n mx) :
    Calls Try.prog 42 #[.pointer (some ⟨g, 0, none⟩), .pointer (some ⟨gw, 0, none⟩), .int .i64 x] w fun e w' => e = .returned (.int .i64 2) ∧ w = w' := by
  have HL := Lib.hid (length_int B g bm n mx x ls W hls w hcd)
  have e0 : (if 0 ≤ x ∧ x < n then (ls x.toNat : Int) else 0) = 0 := by
    by_cases h : 0 ≤ x ∧ x < n
    · rw [if_pos h]
      rcases hx with h1 | h1 | ⟨k, rfl, _, h1⟩
      · omega
      · omega
      · rw [Int.toNat_natCast, h1]
        rfl
    · rw [if_neg h]
  rw [e0] at HL
  clear hcd hx e0
  go_enter Try.func42, Try.ntmps42
  go_wp2_with (go_at_call 58; refine (HL.out).mono ?_; rintro e w1 ⟨rfl, rfl⟩)
  go_ret
  exact ⟨rfl, rfl⟩
end Go.Proofs.Ytopjmagbcnglhaa

namespace Go.Proofs.Ytopjmagbcnglhaa
set_option maxRecDepth 100000
open Go.RowKit Go.Joins Go.Deep

/-- Bits: a number, and how many. -/
abbrev Bs := Nat × Nat
def Bs.app (p q : Bs) : Bs := (p.1 + q.1 * 2 ^ p.2, p.2 + q.2)
theorem bs_nil (p : Bs) : p.app (0, 0) = p := by
  unfold Bs.app
  simp
theorem nil_bs (p : Bs) : Bs.app (0, 0) p = p := by
  unfold Bs.app
  simp
theorem bs_assoc (p q r : Bs) : (p.app q).app r = p.app (q.app r) := by
  unfold Bs.app
  simp only [Nat.pow_add, Nat.add_mul, Nat.add_assoc, Prod.mk.injEq, Nat.add_left_cancel_iff, and_true]
  rw [Nat.mul_assoc, Nat.mul_comm (2 ^ q.2)]
/-- What a writer's number and its count of bits write. -/
def wB (v n : Nat) : Bs := (v % 2 ^ n, n)
/-- A sign's word. -/
def sgB (c : Cod) (i : Nat) : Bs := if i < c.n then (rev (c.W i) (c.ls i), c.ls i) else (0, 0)
/-- The writer has these bits. -/
def WrB (w : World) (B g : Nat) (r : Option Nat) (P : Bs) : Prop := Wr w B g r P.1 P.2
/-- .. and these more. -/
def Emits (w : World) (B g : Nat) (r : Option Nat) (P : Bs) (w' : World) : Prop := ∃ r', WrB w' B g r' P ∧ Upd g r r' w w'

/-- Blocks that are no writer's stay. -/
def FarW (w w' : World) : Prop := w.heap.size ≤ w'.heap.size ∧ ∀ (i : Nat) (o : Obj), w.heap[i]? = some o → (∀ cs f, o ≠ .cells cs 32 f) → (∀ cs f, o ≠ .cells cs 5 f) → w'.heap[i]? = some o
theorem FarW.refl (w : World) : FarW w w := ⟨Nat.le_refl _, fun _ _ h _ _ => h⟩
theorem FarW.then {w w1 w2 : World} (h : FarW w w1) (k : FarW w1 w2) : FarW w w2 := ⟨Nat.le_trans h.1 k.1, fun i o h0 h1 h2 => k.2 i o (h.2 i o h0 h1 h2) h1 h2⟩
theorem farW_below {w w' : World} (h : Below w.heap.size w w') : FarW w w' := ⟨h.size, fun i _ h0 _ _ => (h.block i (lt_of_heap h0)).trans h0⟩
theorem farW_upd {w w' : World} {B g M L : Nat} {r r' : Option Nat} (hw : Wr w B g r M L) (h : Upd g r r' w w') : FarW w w' := ⟨h.1.size, fun i o h0 h1 h2 => by
  refine (h.1.block i (lt_of_heap h0) ?_).trans h0
  obtain ⟨_, v, hb, ho, hr, _⟩ := hw
  rintro (e | e)
  · subst e
    rw [hb] at h0
    injection h0 with h0
    exact h1 _ _ h0.symm
  · rcases ho.2 with ⟨h3, _⟩ | ⟨g2, cap2, cur, h3, _, hb2, _⟩
    · rw [h3] at hr
      rw [← hr] at e
      cases e
    · rw [h3] at hr
      rw [← hr] at e
      injection e with e
      subst e
      rw [hb2] at h0
      injection h0 with h0
      exact h2 _ _ h0.symm⟩
/-- A code lies there. -/
def CodeAt (w : World) (g : Nat) (c : Cod) : Prop := (∃ B bm, Cd0 w B g bm c.ls c.W c.n c.mx) ∧ c.mx ≤ 15 ∧ c.n ≤ 4096 ∧ ∀ i, i < c.n → c.ls i ≤ 15 ∧ c.W i < 4294967296
theorem FarW.cells {w w' : World} (h : FarW w w') {i : Nat} {cs : Array Value} {T : TypeId} {f : Nat × Nat} (hb : w.heap[i]? = some (.cells cs T f)) (h1 : T ≠ 32) (h2 : T ≠ 5) : w'.heap[i]? = some (.cells cs T f) :=
  h.2 i _ hb (fun cs' f' e => by injection e with _ e _; exact h1 e) (fun cs' f' e => by injection e with _ e _; exact h2 e)
theorem CodeAt.far {w w' : World} {g : Nat} {c : Cod} (h : CodeAt w g c) (hf : FarW w w') : CodeAt w' g c := by
  obtain ⟨⟨B, bm, A, cp, hb0, ho, hm, h1, h2⟩, h3⟩ := h
  refine ⟨⟨B, bm, A, cp, hf.cells hb0 (by decide) (by decide), row_kept' ho (fun b e => ?_), map_stay hm ?_, h1, h2⟩, h3⟩
  · rcases ho.2 with ⟨h0, _⟩ | ⟨g2, cap2, cur, h0, _, hb2, _⟩
    · rw [h0] at e
      cases e
    · rw [h0] at e
      injection e with e
      subst e
      rw [hb2, hf.cells hb2 (by decide) (by decide)]
  · obtain ⟨es, clock, hm0, r⟩ := hm
    rw [hm0, hf.2 _ _ hm0 (fun cs f e => by cases e) (fun cs f e => by cases e)]
theorem code_new (A : Option Addr) (cap : Nat) (op : Bool) (c : Cod) (hn : c.n ≤ 4096) (h15 : ∀ i, i < c.n → c.ls i ≤ 15) (hm : may c op) (w : World) (hL : Lens w A c.n c.ls) :
    Calls Try.prog 56 #[.slice A c.n cap, .bool op] w fun e w' => ∃ g, e = .returned (.tuple #[.pointer (some ⟨g, 0, none⟩), .int .i64 0]) ∧ CodeAt w' g c ∧ Below w.heap.size w w' :=
  (new_ok A c.n cap op c.ls hn w hL h15 hm.1 hm.2).mono fun _ _ ⟨g, h1, ⟨bm, h2⟩, h3⟩ => ⟨g, h1, ⟨⟨_, bm, h2⟩, max_le c.ls c.n h15, hn, fun i hi => ⟨h15 i hi, by have : c.W i ≤ 32768 := wordN_le c.ls c.n h15 hm.1 i hi; omega⟩⟩, h3⟩

theorem sgB_le (c : Cod) (i : Nat) (h15 : ∀ i, i < c.n → c.ls i ≤ 15) : (sgB c i).2 ≤ 15 := by
  unfold sgB
  split
  · rename_i h; exact h15 i h
  · exact Nat.zero_le _
/-- Put of any sign. -/
theorem put_sg (gc i Bw gw : Nat) (r : Option Nat) (P : Bs) (c : Cod) (hL : P.2 ≤ 900000000) (w : World) (hB : Bw ≤ w.heap.size) (hc : CodeAt w gc c) (hw : WrB w Bw gw r P) :
    Calls Try.prog 42 #[.pointer (some ⟨gc, 0, none⟩), .pointer (some ⟨gw, 0, none⟩), .int .i64 (i : Nat)] w fun e w' => (∃ x : Int, e = .returned (.int .i64 x)) ∧ Emits w Bw gw r (P.app (sgB c i)) w' := by
  obtain ⟨⟨B, bm, hcd⟩, hmx, hn, h15⟩ := hc
  unfold sgB
  by_cases hi : i < c.n
  · rw [if_pos hi]
    have h2 := h15 i hi
    by_cases h0 : c.ls i = 0
    · refine (put_no B gc bm c.n c.mx i gw c.ls c.W hi h0 w hcd).mono ?_
      rintro e w' ⟨rfl, rfl⟩
      refine ⟨⟨_, rfl⟩, r, ?_, Upd.refl _ _ _⟩
      rw [h0, rev, bs_nil]
      exact hw
    · refine (put_ok B gc bm c.n c.mx i Bw gw P.1 P.2 r c.ls c.W hi (by omega) h2.1 h2.2 hL w hB hcd hw).mono ?_
      rintro e w' ⟨rfl, r', h3, h4⟩
      exact ⟨⟨_, rfl⟩, r', h3, h4⟩
  · rw [if_neg hi, bs_nil]
    refine (put_no_int B gc bm c.n c.mx gw (i : Nat) c.ls c.W (fun j hj => by have := (h15 j hj).1; omega) (.inr (.inl (by omega))) w hcd).mono ?_
    rintro e w' ⟨rfl, rfl⟩
    exact ⟨⟨_, rfl⟩, r, hw, Upd.refl _ _ _⟩
/-- Write of a number and any count up to 32. -/
theorem write_b (B g v n : Nat) (r : Option Nat) (P : Bs) (hL : P.2 ≤ 900000000) (hv : v < 4294967296) (hn : n ≤ 32) (w : World) (hB : B ≤ w.heap.size) (hw : WrB w B g r P) :
    Calls Try.prog 16 #[.pointer (some ⟨g, 0, none⟩), .int .u32 (v : Nat), .int .i64 (n : Nat)] w fun e w' => e = .returned (.tuple #[]) ∧ Emits w B g r (P.app (wB v n)) w' := by
  refine (write_any B g r P.1 P.2 v n (by omega) hv w hB hw).mono ?_
  rintro e w' ⟨rfl, r', h1, h2⟩
  refine ⟨rfl, r', ?_, h2⟩
  by_cases h0 : n = 0
  · subst h0
    have e1 : wM P.1 P.2 v ((0 : Nat) : Int) = P.1 := if_neg (by omega)
    have e2 : wL P.2 ((0 : Nat) : Int) = P.2 := if_neg (by omega)
    rw [e1, e2] at h1
    have : P.app (wB v 0) = P := by unfold wB; rw [Nat.pow_zero, Nat.mod_one, bs_nil]
    rw [this]
    exact h1
  · have e1 : wM P.1 P.2 v ((n : Nat) : Int) = P.1 + v % 2 ^ n * 2 ^ P.2 := by unfold wM; rw [if_pos (by omega), Int.toNat_natCast]
    have e2 : wL P.2 ((n : Nat) : Int) = P.2 + n := by unfold wL; rw [if_pos (by omega), Int.toNat_natCast]
    rw [e1, e2] at h1
    exact h1
theorem Emits.then {w w1 w2 : World} {B g : Nat} {r r1 : Option Nat} {P : Bs} (hu : Upd g r r1 w w1) (h : Emits w1 B g r1 P w2) : Emits w B g r P w2 := by
  obtain ⟨r2, h1, h2⟩ := h
  exact ⟨r2, h1, hu.then h2⟩

/-- Tokens below the writer. -/
def TokB (w : World) (B : Nat) (A : Option Addr) (n : Nat) (f : Nat → Tok) : Prop := 0 < n → ∃ b off, A = some ⟨b, off, none⟩ ∧ b < B ∧ b < w.heap.size ∧ ∀ i, i < n → TokOk (f i) ∧ w.cell? ⟨b, off + i * 3, none⟩ = some (.int .u8 ((f i).b : Nat)) ∧ w.cell? ⟨b, off + i * 3 + 1, none⟩ = some (.int .i64 (f i).l) ∧ w.cell? ⟨b, off + i * 3 + 2, none⟩ = some (.int .i64 (f i).d)
theorem TokB.toks {w : World} {B : Nat} {A : Option Addr} {n : Nat} {f : Nat → Tok} (h : TokB w B A n f) : Toks w A n f := fun hn => by
  obtain ⟨b, off, h1, _, h2, h3⟩ := h hn
  exact ⟨b, off, h1, h2, h3⟩
theorem Toks.tokB {w : World} {B : Nat} {A : Option Addr} {n : Nat} {f : Nat → Tok} (h : Toks w A n f) (hB : w.heap.size ≤ B) : TokB w B A n f := fun hn => by
  obtain ⟨b, off, h1, h2, h3⟩ := h hn
  exact ⟨b, off, h1, by omega, h2, h3⟩
theorem TokB.kept {w w' : World} {B : Nat} {A : Option Addr} {n : Nat} {f : Nat → Tok} {S : Nat → Prop} (h : TokB w B A n f) (hk : Kept S w w') (hs : ∀ i, S i → B ≤ i) : TokB w' B A n f := fun hn => by
  obtain ⟨b, off, h1, h2, h3, h4⟩ := h hn
  have e : ∀ j, w'.cell? ⟨b, j, none⟩ = w.cell? ⟨b, j, none⟩ := fun j => World.cell?_of_block (a := ⟨b, j, none⟩) (hk.block b h3 (fun hc => by have := hs b hc; omega))
  exact ⟨b, off, h1, h2, Nat.lt_of_lt_of_le h3 hk.size, fun i hi => ⟨(h4 i hi).1, (e _).trans (h4 i hi).2.1, (e _).trans (h4 i hi).2.2.1, (e _).trans (h4 i hi).2.2.2⟩⟩
theorem TokB.upd {w w' : World} {B g M L : Nat} {r r' : Option Nat} {A : Option Addr} {n : Nat} {f : Nat → Tok} (h : TokB w B A n f) (hw : Wr w B g r M L) (hu : Upd g r r' w w') : TokB w' B A n f := h.kept hu.1 hw.ge
theorem TokB.later {w w' : World} {B C : Nat} {A : Option Addr} {n : Nat} {f : Nat → Tok} (h : TokB w B A n f) (hb : Below C w w') (hC : w.heap.size ≤ C) : TokB w' B A n f := h.kept (S := fun _ => False) ⟨hb.os, hb.tape, hb.output, hb.size, fun i hi _ => hb.block i (by omega)⟩ (fun _ e => e.elim)

/-! ## The tokens' signs -/
def tokB (c d : Cod) (t : Tok) : Bs :=
  if t.l = 0 then sgB c t.b else
    (((sgB c (lsg t.l.toNat)).app (wB (t.l.toNat - (lenOf (lsg t.l.toNat)).1) (lenOf (lsg t.l.toNat)).2)).app (sgB d (dsg t.d.toNat))).app (wB (t.d.toNat - (distOf (dsg t.d.toNat)).1) (distOf (dsg t.d.toNat)).2)
def toksB (c d : Cod) (f : Nat → Tok) : Nat → Bs
  | 0 => (0, 0)
  | k + 1 => (toksB c d f k).app (tokB c d (f k))
theorem bnumber_any (gw gc i more rest Bw : Nat) (r : Option Nat) (P : Bs) (c : Cod) (hL : P.2 ≤ 800000000) (hm : more ≤ 32) (hr : rest < 4294967296) (w : World) (hB : Bw ≤ w.heap.size) (hc : CodeAt w gc c) (hw : WrB w Bw gw r P) :
    Calls Try.prog 43 #[.pointer (some ⟨gw, 0, none⟩), .pointer (some ⟨gc, 0, none⟩), .int .i64 (i : Nat), .int .i64 (more : Nat), .int .u32 (rest : Nat)] w fun e w' => e = .returned (.tuple #[]) ∧ Emits w Bw gw r ((P.app (sgB c i)).app (wB rest more)) w' := by
  have HP := Lib.hid (put_sg gc i Bw gw r P c (by omega) w hB hc hw)
  have hl := sgB_le c i (fun i hi => (hc.2.2.2 i hi).1)
  have hl2 : (P.app (sgB c i)).2 ≤ 900000000 := by show P.2 + (sgB c i).2 ≤ _; omega
  have HW := Lib.hid (fun r1 w1 (h1 : Bw ≤ w1.heap.size) (h2 : WrB w1 Bw gw r1 (P.app (sgB c i))) => write_b Bw gw rest more r1 (P.app (sgB c i)) hl2 hr hm w1 h1 h2)
  clear hc hw hl hl2
  go_enter Try.func43, Try.ntmps43
  go_wp2_with fail
  refine (HP.out).mono ?_; rintro e w1 ⟨⟨x, rfl⟩, r1, hw1, hu1⟩
  have HW1 := Lib.hid (HW.out r1 w1 (Nat.le_trans hB hu1.1.size) hw1)
  have HU1 := Lib.hid hu1
  clear hw1 hu1 HP HW
  go_wp2_with fail
  refine (HW1.out).mono ?_; rintro e w2 ⟨rfl, hem⟩
  have HE := Lib.hid (Emits.then HU1.out hem)
  clear hem
  go_wp2_with fail
  go_end0
  exact ⟨rfl, HE.out⟩
end Go.Proofs.Ytopjmagbcnglhaa

namespace Go.Proofs.Ytopjmagbcnglhaa
set_option maxRecDepth 100000
open Go.RowKit Go.Deep Go.Joins

theorem len_of (k : Nat) (hk : k < 285) (h : 257 ≤ k) : lenOf k = (lbN k, lmN k) := (lb_step k hk h).2.2.2.2.2
theorem lb_mono (j k : Nat) (h : j ≤ k) (hj : 257 ≤ j) (hk : k ≤ 285) : lbN j ≤ lbN k := by
  induction k with
  | zero => omega
  | succ k ih =>
    by_cases e : j = k + 1
    · subst e; exact Nat.le_refl _
    · have := ih (by omega) (by omega)
      have h2 := (lb_step k (by omega) (by omega)).1
      have := Nat.one_le_two_pow (n := lmN k)
      omega
end Go.Proofs.Ytopjmagbcnglhaa

namespace Go.Proofs.Ytopjmagbcnglhaa
set_option maxRecDepth 100000
open Go.Joins Go.RowKit Go.Deep

/-- What Find answers: the tokens, one behind the other, up to the text's end. -/
def Found (s : ByteArray) (t k : Nat) : Prop := posT (bt s) s.size (befT (bt s) s.size) t k = s.size ∧ ∀ j, j < k → posT (bt s) s.size (befT (bt s) s.size) t j < s.size
theorem tk_ok (s : ByteArray) (t k : Nat) (hs : s.size ≤ 10000) (hp : posT (bt s) s.size (befT (bt s) s.size) t k < s.size) : TokOk (tkT (bt s) s.size (befT (bt s) s.size) t k) ∧ 1 ≤ widT (tkT (bt s) s.size (befT (bt s) s.size) t k) ∧ posT (bt s) s.size (befT (bt s) s.size) t k + widT (tkT (bt s) s.size (befT (bt s) s.size) t k) ≤ s.size := by
  obtain ⟨h1, h2, h3, h4, h5⟩ := tok_ok (bt s) s.size t _ hp (by omega)
  have hw : 1 ≤ widT (tkT (bt s) s.size (befT (bt s) s.size) t k) := by unfold widT; omega
  obtain ⟨g1, g2, _⟩ := fits_zero h1
  refine ⟨?_, hw, ?_⟩
  · have hr := right_pos g1
    by_cases h0 : (tkT (bt s) s.size (befT (bt s) s.size) t k).l = 0
    · have hd := right_byte g1 h0
      have hb := h5 h0
      refine ⟨?_, by omega, by omega, ?_, ?_⟩
      · show (tokT _ _ _ _ _).b < 256; rw [hb]; exact bt_lt s _
      · show _ ≤ (tokT _ _ _ _ _).d; rw [hd]; omega
      · show (tokT _ _ _ _ _).d ≤ _; rw [hd]; omega
    · have hd := right_copy g1 h0
      have hr1 : 0 ≤ (tkT (bt s) s.size (befT (bt s) s.size) t k).l := hr.1
      have hr2 : (tkT (bt s) s.size (befT (bt s) s.size) t k).l ≤ 258 := hr.2
      refine ⟨?_, by omega, by omega, ?_, ?_⟩
      · show (tokT _ _ _ _ _).b < 256; rw [hd.1]; omega
      · show _ ≤ (tokT _ _ _ _ _).d; omega
      · show (tokT _ _ _ _ _).d ≤ _; omega
  · have : ((widT (tkT (bt s) s.size (befT (bt s) s.size) t k)).toNat : Int) = widT (tkT (bt s) s.size (befT (bt s) s.size) t k) := Int.toNat_of_nonneg (by omega)
    have h4' : posT (bt s) s.size (befT (bt s) s.size) t k + (widT (tkT (bt s) s.size (befT (bt s) s.size) t k)).toNat ≤ s.size := h4
    omega
end Go.Proofs.Ytopjmagbcnglhaa
