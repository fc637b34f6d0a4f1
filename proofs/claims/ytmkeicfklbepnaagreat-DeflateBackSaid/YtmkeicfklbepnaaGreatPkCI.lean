/-
 Layer 9's small calls: Bound on both sides, wide and Bytes of a token, length.
 Layer 9: how many bytes tokens are (length).
 Layer 9: slices.Clone of tokens.
 Layer 9: Split.
 Layer 9: Split of no token; what Split's parts are.
 Layer 9: Split of any tokens; tokens behind which 9,000 made ones and copies are put.
 The walk of MatchFinds: it returns true, whatever the text and the level.
 The walk of MatchSame: it returns true, whatever the texts and the level.
-/
import Derived.Test.YtmkeicfklbepnaaGreatPkCD
import Derived.Lib.LazyBuf
import Derived.Lib.AppendZerosOnto
import Derived.Laws.OwnMore

namespace Go.Proofs.YtmkeicfklbepnaaGreat
set_option maxRecDepth 100000
open Go.RowKit Go.Joins Go.Deep

def clampN (n : Int) : Nat := if 1048576 < n then 1048576 else n.toNat
def bndN (N : Nat) : Nat := N + 5 * ((N + 32767) / 32768 + 1)
theorem clampN_le (n : Int) : clampN n ≤ 1048576 := by unfold clampN; split <;> omega
set_option maxHeartbeats 4000000 in
theorem bound_any (n : Int) (w : World) : Calls Tryz.prog 8 #[.int .i64 n] w fun e w' => e = .returned (.int .i64 (bndN (clampN n) : Nat)) ∧ w' = w := by
 obtain ⟨N, hN⟩ : ∃ N, N = clampN n := ⟨_, rfl⟩
 rw [← hN]
 have hle := clampN_le n
 rw [← hN] at hle
 have HB := Lib.hid (show bndN N = N + 5 * ((N + 32767) / 32768 + 1) from rfl)
 generalize bndN N = Q at *
 unfold clampN at hN
 go_enter Tryz.func8, Tryz.ntmps8
 go_upto_region 2 with fail
 rw [show (if 1048576 < if n < 0 then 0 else n then 1048576 else if n < 0 then 0 else n) = (N : Int) from by rw [hN]; (repeat' split) <;> omega]
 clear hN
 go_wp2
 all_goals
  go_ret
  have hq : ((Q : Nat) : Int) = (N : Int) + 5 * (((N : Int) + 32768 - 1) / 32768 + 1) := by rw [HB.out]; omega
  refine ⟨?_, rfl⟩
  rw [hq]
  rfl
/-- How many bytes a token is; one that may not be counts as one. -/
def wdT (t : Tok) : Nat := if rightT t = true then (if t.l = 0 then 1 else t.l.toNat) else 1
set_option maxHeartbeats 4000000 in
theorem dwide_any (t : Tok) (w : World) : Calls Tryz.prog 31 #[valT t] w fun e w' => e = .returned (.int .i64 (wdT t : Nat)) ∧ Below w.heap.size w w' := by
 have HR := Lib.hid (right_any t)
 have hrc := fun h h0 => right_copy (t := t) h h0
 obtain ⟨W, hW⟩ : ∃ W, W = wdT t := ⟨_, rfl⟩
 rw [← hW]
 unfold wdT at hW
 obtain ⟨b, l, d⟩ := t
 unfold valT at *
 dsimp only at *
 have hx := heap_alloc_new w (.cells #[.int .u8 (b : Nat), .int .i64 l, .int .i64 d] 76)
 have hba : Below w.heap.size w (w.alloc (.cells #[.int .u8 (b : Nat), .int .i64 l, .int .i64 d] 76)) := (Below.refl _ _).alloc (Nat.le_refl _) _
 have hsz : (w.alloc (.cells #[.int .u8 (b : Nat), .int .i64 l, .int .i64 d] 76)).heap.size = w.heap.size + 1 := by simp
 have HX := Lib.hid hx
 have HBA := Lib.hid hba
 have HSZ := Lib.hid hsz
 have HW := Lib.hid hW
 have HRC := Lib.hid hrc
 clear hx hba hsz hW hrc
 generalize rightT ⟨b, l, d⟩ = r at *
 go_enter Tryz.func31, Tryz.ntmps31
 go_wp2_with fail
 generalize w.alloc (.cells #[.int .u8 (b : Nat), .int .i64 l, .int .i64 d] 76) = w6 at *
 (with_reducible refine (HR.out _).mono ?_); rintro e w7 ⟨rfl, hb7⟩
 have k1 := (cell_of_row _ _ 1 _ _ _ ((hb7.block w.heap.size (by have := HSZ.out; omega)).trans HX.out)).trans (show _ = some (Value.int .i64 l) from rfl)
 have HB7 := Lib.hid (HBA.out.trans (hb7.mono HBA.out.size))
 clear hb7
 cases r with
 | false =>
  have hW1 := HW.out.trans (if_neg (by simp))
  subst hW1
  go_wp2_with fail
  go_ret
  exact ⟨rfl, HB7.out⟩
 | true =>
  have hW1 := HW.out.trans (if_pos rfl)
  by_cases h0 : l = 0
  ·subst h0
   rw [if_pos rfl] at hW1
   subst hW1
   go_wp2_with fail
   go_ret
   exact ⟨rfl, HB7.out⟩
  ·obtain ⟨_, h3, h4, _⟩ := HRC.out rfl h0
   rw [if_neg h0] at hW1
   obtain ⟨m, rfl⟩ : ∃ m : Nat, l = (m : Nat) := ⟨l.toNat, by omega⟩
   rw [Int.toNat_natCast] at hW1
   subst hW1
   have hz : ((W : Int) == 0) = false := by rw [beq_eq_false_iff_ne]; omega
   have hg : decide ((W : Int) < 1) = false := decide_eq_false (by omega)
   have hg2 : decide (W < 1) = false := decide_eq_false (by omega)
   clear h0
   go_wp2_with fail
   go_ret
   exact ⟨rfl, HB7.out⟩
theorem bnd_0 : bndN (clampN 0) = 5 := by decide +kernel
theorem bnd_1 : bndN (clampN 1) = 11 := by decide +kernel
theorem awake9_any (w : World) : Calls Tryz.prog 4 #[] w fun e w' => e = .returned (.bool true) ∧ w = w' := by
 have h1 := bound_any 0 w
 have h2 := bound_any 1 w
 rw [bnd_0] at h1
 rw [bnd_1] at h2
 have H1 := Lib.hid h1
 have H2 := Lib.hid h2
 clear h1 h2
 go_enter Tryz.func4, Tryz.ntmps4
 go_wp2_with fail
 refine (H1.out).mono ?_; rintro e w1 ⟨rfl, rfl⟩
 go_wp2_with fail
 refine (H2.out).mono ?_; rintro e w1 ⟨rfl, rfl⟩
 go_wp2_with fail
 go_ret
 exact ⟨rfl, rfl⟩
end Go.Proofs.YtmkeicfklbepnaaGreat

namespace Go.Proofs.YtmkeicfklbepnaaGreat
set_option maxRecDepth 100000
open Go.RowKit Go.Joins Go.Deep

/-- How many bytes the first k tokens are. -/
def wsum (f : Nat → Tok) : Nat → Nat
 | 0 => 0
 | k + 1 => wsum f k + wdT (f k)
theorem wdT_le (t : Tok) : wdT t ≤ 258 := by
 unfold wdT
 cases h : rightT t with
 | false => rw [if_neg (by simp)]; omega
 | true =>
  rw [if_pos rfl]
  by_cases h0 : t.l = 0
  ·rw [if_pos h0]; omega
  ·obtain ⟨_, h1, h2, _⟩ := right_copy h h0
   rw [if_neg h0]; omega
theorem wsum_le (f : Nat → Tok) : ∀ k, wsum f k ≤ 258 * k
 | 0 => Nat.le_refl _
 | k + 1 => by
  have ih := wsum_le f k
  have h1 := wdT_le (f k)
  show wsum f k + wdT (f k) ≤ _
  omega
set_option maxHeartbeats 4000000 in
theorem dlength_any (A : Option Addr) (n cap : Nat) (f : Nat → Tok) (w : World) (hT : Toks w A n f) (hn : n ≤ 10000000) :
  Calls Tryz.prog 11 #[.slice A n cap] w fun e w' => e = .returned (.int .i64 (wsum f n : Nat)) ∧ Below w.heap.size w w' := by
 have hit := info_tok
 have HT := Lib.hid hT
 clear hT
 go_enter Tryz.func11, Tryz.ntmps11
 go_wp2_with fail
 go_loopw [3, 8] (fun v i wr => ∃ k : Nat, k ≤ n ∧ i = .int .i64 (k : Nat) ∧ v = .int .i64 (wsum f k : Nat) ∧ Hid (Below w.heap.size w wr)) (fun _ i _ => n - (intOf i).toNat)
 case atStart => exact ⟨0, Nat.zero_le _, rfl, rfl, Below.refl _ _⟩
 case round =>
  obtain ⟨k, hk, rfl, rfl, HB⟩ := hrel
  have hle := wsum_le f k
  by_cases hkn : k < n
  ·obtain ⟨b, off, rfl, hbl, hc⟩ := (HT.out.below (Nat.le_refl _) HB.out) (by omega)
   obtain ⟨hok, c0, c1, c2⟩ := hc k hkn
   have HS := Lib.hid (show wsum f (k + 1) = wsum f k + wdT (f k) from rfl)
   have hw := wdT_le (f k)
   have HWD := Lib.hid (dwide_any (f k))
   have HBA := Lib.hid (HB.out.trans (((Below.refl wr.heap.size wr).alloc (Nat.le_refl _) (.cells #[.int .u8 ((f k).b : Nat), .int .i64 (f k).l, .int .i64 (f k).d] 76)).mono HB.out.size))
   clear hc
   generalize hF1 : wsum f (k + 1) = F1 at *
   have HF1 := Lib.hid hF1
   clear hF1
   generalize wsum f k = F0 at *
   generalize wdT (f k) = T at *
   generalize f k = U at *
   obtain ⟨tb, tl, td⟩ := U
   unfold valT at HWD
   dsimp only at *
   have htb := hok.1
   clear hok
   go_wp2_with fail
   (with_reducible refine (HWD.out _).mono ?_); rintro e w8 ⟨rfl, hb8⟩
   have HB8 := Lib.hid (HBA.out.trans (hb8.mono HBA.out.size))
   clear hb8
   go_wp2_with fail
   go_roundw
   case rel => exact ⟨k + 1, by omega, by go_num, by rw [HF1.out, HS.out]; go_num, HB8⟩
   case measure => simp [intOf]; omega
  ·obtain rfl : k = n := by omega
   go_wp2_with fail
   go_ret
   exact ⟨rfl, HB.out⟩
end Go.Proofs.YtmkeicfklbepnaaGreat

namespace Go.Proofs.YtmkeicfklbepnaaGreat
set_option maxRecDepth 100000
open Go.RowKit Go.Joins Go.Deep

theorem tokCells_one (f : Nat → Tok) : ∀ n, ∀ u ∈ tokCells f n, u.oneCell' = true
 | 0, u, h => by cases h
 | n + 1, u, h => by
  rw [tokCells] at h
  rcases List.mem_append.1 h with h | h
  ·exact tokCells_one f n u h
  ·exact cellT_one (f n) u h
set_option maxHeartbeats 4000000 in
theorem clone_some (b off n cap : Nat) (f : Nat → Tok) (w : World) (hT : Toks w (some ⟨b, off, none⟩) n f) (hn : n ≤ 1000000) :
  Calls Tryz.prog 30 #[.slice (some ⟨b, off, none⟩) n cap] w fun e w' => ∃ v', e = .returned v' ∧ w'.ownsRow w.heap.size 76 3 v' n (tokCells f n) ∧ v' ≠ .slice none 0 0 ∧ Below w.heap.size w w' := by
 obtain ⟨i0, hi, hz0, hz1, hz2⟩ := info_parts info_tok3
 have HT := Lib.hid hT
 have q54 : ∀ (w : World) (a : Option Addr) (n c n' c' : Nat), (binOp .eql 32 (.slice a n c) (.slice none n' c')).run Tryz.prog w = .ok (.bool a.isNone) w := fun w a n c n' c' => Lib.run_eql_slice_nil w _ _ a n c n' c' Tryz.underlying32
 clear hT
 go_enter Tryz.func30, Tryz.ntmps30
 go_wp2_with (at_builtin; refine wpList_append_own _ rfl _ _ 32 rfl w.heap.size 76 i0 (.agg #[.int .u8 0, .int .i64 0, .int .i64 0]) 3 24 Tryz.underlying32 hi hz0 hz1 hz2 rfl (by decide) _ _ _ rfl (World.ownsRow_made w #[] 0 (Nat.le_refl _) (Nat.zero_le _) rfl) ⟨b, off, none⟩ n cap (tokCells f n) rfl ?qc1 ?qc2 ?qc3 ?qc4 ?qc5 ?qc6 ?_)
 case qc1 => exact tokCells_len f n
 case qc2 =>
  intro j u hj
  have h := toks_cells HT.out j u hj
  rw [Addr.add_lit] at h ⊢
  exact Lib.cell?_alloc_some _ h
 case qc3 =>
  intro u hu
  exact tokCells_one f n u hu
 case qc4 => unfold maxLen; omega
 case qc5 => omega
 case qc6 => simp
 intro v' w1 hown hgrow hnil
 go_wp2
 go_ret
 refine ⟨v', rfl, by simpa using hown, ?_, ?_⟩
 ·exact hnil
 ·exact ((Below.refl _ w).alloc (Nat.le_refl _) _).grown hgrow (by simp) (by intro k hk; simp [Value.ownBlock] at hk; omega)
theorem clone_none (n cap : Nat) (w : World) :
  Calls Tryz.prog 30 #[.slice none n cap] w fun e w' => e = .returned (.slice none 0 0) ∧ w' = w := by
 have q54 : ∀ (w : World) (a : Option Addr) (n c n' c' : Nat), (binOp .eql 32 (.slice a n c) (.slice none n' c')).run Tryz.prog w = .ok (.bool a.isNone) w := fun w a n c n' c' => Lib.run_eql_slice_nil w _ _ a n c n' c' Tryz.underlying32
 go_enter Tryz.func30, Tryz.ntmps30
 go_wp2
 go_ret
 exact ⟨rfl, rfl⟩
end Go.Proofs.YtmkeicfklbepnaaGreat

namespace Go.Proofs.YtmkeicfklbepnaaGreat
set_option maxRecDepth 100000
open Go.RowKit Go.Joins Go.Deep

/-- What Split holds behind k tokens: the parts that are done, where the next begins, how many bytes it has. -/
def spl (f : Nat → Tok) : Nat → List (Nat × Nat) × Nat × Nat
 | 0 => ([], 0, 0)
 | k + 1 => if 32768 < (spl f k).2.2 + wdT (f k) then ((spl f k).1 ++ [((spl f k).2.1, k)], k, wdT (f k)) else ((spl f k).1, (spl f k).2.1, (spl f k).2.2 + wdT (f k))
def partV (g : Nat) (p : Nat × Nat) : Value := .slice (some ⟨g, p.1 * 3, none⟩) (p.2 - p.1) (p.2 - p.1)
theorem spl_from (f : Nat → Tok) : ∀ k, (spl f k).2.1 ≤ k
 | 0 => Nat.le_refl _
 | k + 1 => by
  have ih := spl_from f k
  rw [spl]
  split
  ·show k ≤ k + 1; omega
  ·show (spl f k).2.1 ≤ k + 1; omega
theorem spl_many (f : Nat → Tok) : ∀ k, (spl f k).2.2 ≤ 32768
 | 0 => by show 0 ≤ _; omega
 | k + 1 => by
  have h1 := wdT_le (f k)
  rw [spl]
  split
  ·show wdT (f k) ≤ _; omega
  ·show (spl f k).2.2 + wdT (f k) ≤ _; omega
theorem spl_len (f : Nat → Tok) : ∀ k, (spl f k).1.length ≤ k
 | 0 => Nat.le_refl _
 | k + 1 => by
  have ih := spl_len f k
  rw [spl]
  split
  ·show ((spl f k).1 ++ _).length ≤ _; rw [List.length_append]; show _ + 1 ≤ _; omega
  ·show (spl f k).1.length ≤ _; omega
theorem spl_lt (f : Nat → Tok) (k : Nat) : (spl f (k + 1)).2.1 < k + 1 := by
 have ih := spl_from f k
 rw [spl]
 split
 ·show k < k + 1; omega
 ·show (spl f k).2.1 < k + 1; omega
theorem spl_big (f : Nat → Tok) : ∀ k, 32768 < (spl f k).2.2 + wdT (f k) → (spl f k).2.1 < k
 | 0, h => by
  have h1 := wdT_le (f 0)
  have h2 : (spl f 0).2.2 = 0 := rfl
  omega
 | k + 1, _ => spl_lt f k
theorem own_below {w w' : World} {base size n : Nat} {e : TypeId} {v : Value} {xs : List Value} (h : w.ownsRow base e size v n xs) (hb : Below w.heap.size w w') : w'.ownsRow base e size v n xs :=
 h.kept (row := none) ⟨hb.os, hb.tape, hb.output, hb.size, fun i hi _ => hb.block i hi⟩ (by cases hv : v.ownBlock <;> simp)
theorem info_toks3 : (Tryz.prog.info? 32).map (fun i => (i.zero, i.size, i.bytes)) = some (some (.slice none 0 0), 1, 24) := by kernel_rfl
set_option maxHeartbeats 8000000 in
theorem split_some (b off n cap : Nat) (f : Nat → Tok) (w : World) (hT : Toks w (some ⟨b, off, none⟩) n f) (h0 : 0 < n) (hn : n ≤ 100000) :
  Calls Tryz.prog 10 #[.slice (some ⟨b, off, none⟩) n cap] w fun e w' => ∃ g B A2 c2, w.heap.size ≤ B ∧ e = .returned (.slice A2 ((spl f n).1.length + 1) c2) ∧ w'.ownsRow B 32 1 (.slice A2 ((spl f n).1.length + 1) c2) ((spl f n).1.length + 1) (((spl f n).1 ++ [((spl f n).2.1, n)]).map (partV g)) ∧ Toks w' (some ⟨g, 0, none⟩) n f ∧ Below w.heap.size w w' := by
 obtain ⟨i0, hi, hz0, hz1, hz2⟩ := info_parts info_toks3
 have hit := info_tok
 have hok : Hid (∀ i, i < n → TokOk (f i)) := fun i hi => by
  obtain ⟨_, _, _, _, hc⟩ := hT h0
  exact (hc i hi).1
 have HCL := Lib.hid (clone_some b off n cap f w hT (by omega))
 clear hT
 go_enter Tryz.func10, Tryz.ntmps10
 go_wp2_with fail
 (with_reducible refine (HCL.out).mono ?_); rintro e w1 ⟨v', rfl, hown, hne, hb1⟩
 obtain ⟨g, cap2, cur, rfl, hgb, hgh, hgc, _⟩ : ∃ g cap2 cur, v' = .slice (some ⟨g, 0, none⟩) n cap2 ∧ w.heap.size ≤ g ∧ w1.heap[g]? = some (.cells cur 76 (0, 0)) ∧ n ≤ cap2 ∧ True := by
  rcases hown.2 with ⟨_, h⟩ | ⟨g, cap2, cur, h1, h2, h3, h4, _⟩
  ·omega
  ·exact ⟨g, cap2, cur, h1, h2, h3, h4, trivial⟩
 have HT := Lib.hid (toks_of_own hown hok.out)
 have HB1 := Lib.hid hb1
 clear hown hne hb1 hgh cur HCL
 go_wp2_with fail
 go_loopw [4, 5, 6, 13] (fun v4 v5 v6 i wr => ∃ k : Nat, k ≤ n ∧ i = .int .i64 (k : Nat) ∧ v5 = .int .i64 ((spl f k).2.1 : Nat) ∧ v6 = .int .i64 ((spl f k).2.2 : Nat) ∧ Hid (wr.ownsRow w1.heap.size 32 1 v4 (spl f k).1.length ((spl f k).1.map (partV g))) ∧ Hid (Below w1.heap.size w1 wr)) (fun _ _ _ i _ => n - (intOf i).toNat)
 case atStart => exact ⟨0, Nat.zero_le _, rfl, rfl, rfl, World.ownsRow_nil _ _ _ _, Below.refl _ _⟩
 case round =>
  obtain ⟨k, hk, rfl, rfl, rfl, HO, HB⟩ := hrel
  obtain ⟨A2, cp2, rfl⟩ := row_slice' HO.out
  have hF := spl_from f k
  have hM := spl_many f k
  have hL := spl_len f k
  by_cases hkn : k < n
  ·obtain ⟨b', off', hbo, hbl, hc⟩ := (HT.out.below (Nat.le_refl _) HB.out) (by omega)
   injection hbo with hbo
   injection hbo with e1 e2 e3
   subst e1 e2
   obtain ⟨hok', c0, c1, c2⟩ := hc k hkn
   rw [Nat.zero_add] at c0 c1 c2
   have hw := wdT_le (f k)
   have hKF := spl_big f k
   have HS := Lib.hid (show spl f (k + 1) = if 32768 < (spl f k).2.2 + wdT (f k) then ((spl f k).1 ++ [((spl f k).2.1, k)], k, wdT (f k)) else ((spl f k).1, (spl f k).2.1, (spl f k).2.2 + wdT (f k)) from rfl)
   have HWD := Lib.hid (dwide_any (f k))
   have hx := heap_alloc_new wr (.cells #[.int .u8 ((f k).b : Nat), .int .i64 (f k).l, .int .i64 (f k).d] 76)
   have HX := Lib.hid hx
   have HBA := Lib.hid (((Below.refl wr.heap.size wr).alloc (Nat.le_refl _) (.cells #[.int .u8 ((f k).b : Nat), .int .i64 (f k).l, .int .i64 (f k).d] 76)))
   have HSZ : Hid ((wr.alloc (.cells #[.int .u8 ((f k).b : Nat), .int .i64 (f k).l, .int .i64 (f k).d] 76)).heap.size = wr.heap.size + 1) := by show _ = _; simp
   clear hc hx
   generalize wdT (f k) = T at *
   generalize f k = U at *
   obtain ⟨tb, tl, td⟩ := U
   unfold valT at HWD
   dsimp only at *
   have htb := hok'.1
   clear hok'
   go_wp2_with fail
   generalize wr.alloc (.cells #[.int .u8 (tb : Nat), .int .i64 tl, .int .i64 td] 76) = w4 at *
   (with_reducible refine (HWD.out _).mono ?_); rintro e w5 ⟨rfl, hb5⟩
   have HB5 := Lib.hid (HBA.out.trans (hb5.mono HBA.out.size))
   have hx5 := (hb5.block wr.heap.size (by have := HSZ.out; omega)).trans HX.out
   have HX5 := Lib.hid hx5
   have k0 := (cell_of_row _ _ 0 _ _ _ hx5).trans (show _ = some (Value.int .u8 (tb : Nat)) from rfl)
   have k1 := (cell_of_row _ _ 1 _ _ _ hx5).trans (show _ = some (Value.int .i64 tl) from rfl)
   have k2 := (cell_of_row _ _ 2 _ _ _ hx5).trans (show _ = some (Value.int .i64 td) from rfl)
   clear hb5 hx5
   generalize hP : (spl f k).1 = P at *
   generalize hFr : (spl f k).2.1 = fr at *
   generalize hMa : (spl f k).2.2 = ma at *
   have HPP := Lib.hid hP
   clear hP hFr hMa
   by_cases hbig : 32768 < ma + T
   ·have g9 : decide ((32768 : Int) < (ma : Int) + (T : Int)) = true := decide_eq_true (by omega)
    have HS2 : Hid (spl f (k + 1) = (P ++ [(fr, k)], k, T)) := HS.out.trans (if_pos hbig)
    have hkf : ¬ k = fr := by have := hKF hbig; omega
    have HX7 := Lib.hid (heap_alloc_new w5 (.cells #[partV g (fr, k)] 32))
    have HO7 := Lib.hid ((own_below HO.out HB5.out).alloc (.cells #[partV g (fr, k)] 32))
    have HB7 : Hid (Below w1.heap.size w1 (w5.alloc (.cells #[partV g (fr, k)] 32))) := (HB.out.trans (HB5.out.mono HB.out.size)).alloc (Nat.le_trans HB.out.size HB5.out.size) _
    have HS7 : Hid (w1.heap.size ≤ (w5.alloc (.cells #[partV g (fr, k)] 32)).heap.size) := HB7.out.size
    have HX8 : Hid ((w5.alloc (.cells #[partV g (fr, k)] 32)).heap[wr.heap.size]? = some (.cells #[.int .u8 (tb : Nat), .int .i64 tl, .int .i64 td] 76)) := (heap_alloc_old _ _ (lt_of_heap HX5.out)).trans HX5.out
    have HLT := Lib.hid HO.out.lt
    go_wp2_with (at_builtin; go_must (refine wpList_append_own_at _ rfl (.tmp 23) (.tmp 29) _ rfl w1.heap.size 32 i0 (.slice none 0 0) 1 24 Tryz.underlying35 hi hz0 hz1 hz2 rfl (by decide) (.slice A2 P.length cp2) P.length _ rfl HO7.out ⟨w5.heap.size, 0, none⟩ 1 1 [partV g (fr, k)] rfl rfl (by exact World.news_of_block HX7.out) (by intro u hu; simp at hu; subst hu; rfl) (by unfold maxLen; omega) (by omega) (by exact HS7.out) ?_; intro v' w6 hown' hgrow hnil hloc; have HO8 := Lib.hid hown'; have HB8 := Lib.hid (HB7.out.grown hgrow HS7.out (fun j hj => (HLT.out j hj).1)); have HX9 := Lib.hid ((hgrow.block wr.heap.size (lt_of_heap HX8.out) (fun e => by have := (HLT.out _ e.symm).2; omega)).trans HX8.out); have q0 := (cell_of_row _ _ 0 _ _ _ HX9.out).trans (show _ = some (Value.int .u8 (tb : Nat)) from rfl); have q1 := (cell_of_row _ _ 1 _ _ _ HX9.out).trans (show _ = some (Value.int .i64 tl) from rfl); have q2 := (cell_of_row _ _ 2 _ _ _ HX9.out).trans (show _ = some (Value.int .i64 td) from rfl); clear hown' hgrow hnil hloc))
    (with_reducible refine (HWD.out _).mono ?_); rintro e w9 ⟨rfl, hb9⟩
    have HB9 := Lib.hid (HB8.out.trans (hb9.mono HB8.out.size))
    have HO9 := Lib.hid (own_below HO8.out hb9)
    clear hb9
    go_wp2_with fail
    go_roundw
    case rel =>
     refine ⟨k + 1, by omega, by go_num, ?_, ?_, ?_, HB9⟩
     ·rw [HS2.out]
     ·rw [HS2.out]
     ·show World.ownsRow _ _ _ _ _ _ _
      rw [HS2.out]
      simpa using HO9.out
    case measure => simp [intOf]; omega
   ·have g9 : decide ((32768 : Int) < (ma : Int) + (T : Int)) = false := decide_eq_false (by omega)
    have HS2 : Hid (spl f (k + 1) = (P, fr, ma + T)) := HS.out.trans (if_neg hbig)
    go_wp2_with fail
    (with_reducible refine (HWD.out _).mono ?_); rintro e w6 ⟨rfl, hb6⟩
    have HB6 := Lib.hid (HB5.out.trans (hb6.mono HB5.out.size))
    have HO6 := Lib.hid (own_below HO.out HB6.out)
    clear hb6
    go_wp2_with fail
    go_roundw
    case rel =>
     refine ⟨k + 1, by omega, by go_num, ?_, ?_, ?_, HB.out.trans (HB6.out.mono HB.out.size)⟩
     ·rw [HS2.out]
     ·rw [HS2.out]; go_num
     ·show World.ownsRow _ _ _ _ _ _ _
      rw [HS2.out]; exact HO6.out
    case measure => simp [intOf]; omega
  ·obtain rfl : k = n := by omega
   have hlt : (spl f k).2.1 < k := by
    obtain ⟨m, rfl⟩ : ∃ m, k = m + 1 := ⟨k - 1, by omega⟩
    exact spl_lt f m
   generalize hP : (spl f k).1 = P at *
   generalize hFr : (spl f k).2.1 = fr at *
   have HPP := Lib.hid hP
   have HFF := Lib.hid hFr
   clear hP hFr
   have HX7 := Lib.hid (heap_alloc_new wr (.cells #[partV g (fr, k)] 32))
   have HO7 := Lib.hid (HO.out.alloc (.cells #[partV g (fr, k)] 32))
   have HB7 : Hid (Below w1.heap.size w1 (wr.alloc (.cells #[partV g (fr, k)] 32))) := HB.out.alloc HB.out.size _
   have HS7 : Hid (w1.heap.size ≤ (wr.alloc (.cells #[partV g (fr, k)] 32)).heap.size) := HB7.out.size
   have HLT := Lib.hid HO.out.lt
   go_wp2_with (at_builtin; go_must (refine wpList_append_own_at _ rfl (.tmp 41) (.tmp 49) _ rfl w1.heap.size 32 i0 (.slice none 0 0) 1 24 Tryz.underlying35 hi hz0 hz1 hz2 rfl (by decide) (.slice A2 P.length cp2) P.length _ rfl HO7.out ⟨wr.heap.size, 0, none⟩ 1 1 [partV g (fr, k)] rfl rfl (by exact World.news_of_block HX7.out) (by intro u hu; simp at hu; subst hu; rfl) (by unfold maxLen; omega) (by omega) (by exact HS7.out) ?_; intro v' w6 hown' hgrow hnil hloc; have HO8 := Lib.hid hown'; have HB8 := Lib.hid (HB7.out.grown hgrow HS7.out (fun j hj => (HLT.out j hj).1)); clear hown' hgrow hnil hloc))
   obtain ⟨A3, cp3, rfl⟩ := row_slice' HO8.out
   go_ret
   rw [HPP.out, HFF.out]
   exact ⟨g, w1.heap.size, A3, cp3, HB1.out.size, rfl, by simpa using HO8.out, HT.out.below (Nat.le_refl _) HB8.out, HB1.out.trans (HB8.out.mono HB1.out.size)⟩
end Go.Proofs.YtmkeicfklbepnaaGreat

namespace Go.Proofs.YtmkeicfklbepnaaGreat
set_option maxRecDepth 100000
open Go.RowKit Go.Joins Go.Deep

set_option maxHeartbeats 4000000 in
theorem split_none (A : Option Addr) (cap : Nat) (w : World) (hA : ∀ a, A = some a → ∃ b off, a = ⟨b, off, none⟩) :
  Calls Tryz.prog 10 #[.slice A 0 cap] w fun e w' => e = .returned (.slice none 0 0) ∧ Below w.heap.size w w' := by
 have HC : Hid (Calls Tryz.prog 30 #[.slice A 0 cap] w fun e w' => ∃ A2 c2, e = .returned (.slice A2 0 c2) ∧ Below w.heap.size w w') := by
  show Calls _ _ _ _ _
  cases A with
  | none =>
   refine (clone_none 0 cap w).mono ?_
   rintro e w' ⟨rfl, rfl⟩
   exact ⟨none, 0, rfl, Below.refl _ _⟩
  | some a =>
   obtain ⟨b, off, rfl⟩ := hA a rfl
   refine (clone_some b off 0 cap (fun _ => ⟨0, 0, 0⟩) w (fun h => by omega) (by omega)).mono ?_
   rintro e w' ⟨v', rfl, hown, _, hb⟩
   obtain ⟨A2, c2, rfl⟩ := row_slice' hown
   exact ⟨A2, c2, rfl, hb⟩
 clear hA
 go_enter Tryz.func10, Tryz.ntmps10
 go_wp2_with fail
 (with_reducible refine (HC.out).mono ?_); rintro e w1 ⟨A2, c2, rfl, hb1⟩
 have HB1 := Lib.hid hb1
 clear hb1
 go_wp2_with fail
 go_loopw [4, 5, 6, 13] (fun v4 v5 v6 i wr => v4 = .slice none 0 0 ∧ v5 = .int .i64 0 ∧ v6 = .int .i64 0 ∧ i = .int .i64 0 ∧ wr = w1) (fun _ _ _ _ _ => 0)
 case atStart => exact ⟨rfl, rfl, rfl, rfl, rfl⟩
 case round =>
  obtain ⟨rfl, rfl, rfl, rfl, rfl⟩ := hrel
  go_wp2_with fail
  go_ret
  exact ⟨rfl, HB1.out⟩

/-! ## The parts -/
/-- All parts, the last one among them. -/
def partsOf (f : Nat → Tok) (n : Nat) : List (Nat × Nat) := if n = 0 then [] else (spl f n).1 ++ [((spl f n).2.1, n)]
/-- Where the part after these begins: the end of the last one. -/
def endsAt : List (Nat × Nat) → Nat → Nat
 | [], x => x
 | p :: ps, _ => endsAt ps p.2
/-- Each part begins where the one ahead of it ends. -/
def follow : List (Nat × Nat) → Nat → Prop
 | [], _ => True
 | p :: ps, x => p.1 = x ∧ follow ps p.2
end Go.Proofs.YtmkeicfklbepnaaGreat

namespace Go.Proofs.YtmkeicfklbepnaaGreat
set_option maxRecDepth 100000
open Go.RowKit Go.Joins Go.Deep

set_option maxHeartbeats 4000000 in
theorem clone_zero (a : Addr) (cap : Nat) (w : World) :
  Calls Tryz.prog 30 #[.slice (some a) 0 cap] w fun e w' => ∃ A2 c2, e = .returned (.slice A2 0 c2) ∧ Below w.heap.size w w' := by
 obtain ⟨i0, hi, hz0, hz1, hz2⟩ := info_parts info_tok3
 have q54 : ∀ (w : World) (a : Option Addr) (n c n' c' : Nat), (binOp .eql 32 (.slice a n c) (.slice none n' c')).run Tryz.prog w = .ok (.bool a.isNone) w := fun w a n c n' c' => Lib.run_eql_slice_nil w _ _ a n c n' c' Tryz.underlying32
 go_enter Tryz.func30, Tryz.ntmps30
 go_wp2_with (at_builtin; refine wpList_append_own _ rfl _ _ 32 rfl w.heap.size 76 i0 (.agg #[.int .u8 0, .int .i64 0, .int .i64 0]) 3 24 Tryz.underlying32 hi hz0 hz1 hz2 rfl (by decide) _ _ _ rfl (World.ownsRow_made w #[] 0 (Nat.le_refl _) (Nat.zero_le _) rfl) a 0 cap [] rfl ?qc1 ?qc2 ?qc3 ?qc4 ?qc5 ?qc6 ?_)
 case qc1 => rfl
 case qc2 => intro j u hj; simp at hj
 case qc3 => intro u hu; cases hu
 case qc4 => unfold maxLen; omega
 case qc5 => omega
 case qc6 => simp
 intro v' w1 hown hgrow hnil
 go_wp2
 go_ret
 obtain ⟨A2, c2, rfl⟩ := row_slice' hown
 refine ⟨A2, c2, by simp, ?_⟩
 exact ((Below.refl _ w).alloc (Nat.le_refl _) _).grown hgrow (by simp) (by intro k hk; simp [Value.ownBlock] at hk; omega)
set_option maxHeartbeats 4000000 in
theorem split_zero (A : Option Addr) (cap : Nat) (w : World) :
  Calls Tryz.prog 10 #[.slice A 0 cap] w fun e w' => e = .returned (.slice none 0 0) ∧ Below w.heap.size w w' := by
 have HC : Hid (Calls Tryz.prog 30 #[.slice A 0 cap] w fun e w' => ∃ A2 c2, e = .returned (.slice A2 0 c2) ∧ Below w.heap.size w w') := by
  show Calls _ _ _ _ _
  cases A with
  | none =>
   refine (clone_none 0 cap w).mono ?_
   rintro e w' ⟨rfl, rfl⟩
   exact ⟨none, 0, rfl, Below.refl _ _⟩
  | some a => exact clone_zero a cap w
 go_enter Tryz.func10, Tryz.ntmps10
 go_wp2_with fail
 (with_reducible refine (HC.out).mono ?_); rintro e w1 ⟨A2, c2, rfl, hb1⟩
 have HB1 := Lib.hid hb1
 clear hb1
 go_wp2_with fail
 go_loopw [4, 5, 6, 13] (fun v4 v5 v6 i wr => v4 = .slice none 0 0 ∧ v5 = .int .i64 0 ∧ v6 = .int .i64 0 ∧ i = .int .i64 0 ∧ wr = w1) (fun _ _ _ _ _ => 0)
 case atStart => exact ⟨rfl, rfl, rfl, rfl, rfl⟩
 case round =>
  obtain ⟨rfl, rfl, rfl, rfl, rfl⟩ := hrel
  go_wp2_with fail
  go_ret
  exact ⟨rfl, HB1.out⟩
theorem own_cell1 {w : World} {B n : Nat} {e : TypeId} {v : Value} {xs : List Value} (h : w.ownsRow B e 1 v n xs) (h0 : 0 < n) : ∃ b c, v = .slice (some ⟨b, 0, none⟩) n c ∧ b < w.heap.size ∧ ∀ i u, xs[i]? = some u → w.cell? ⟨b, i, none⟩ = some u := by
 rcases h.2 with ⟨_, h1⟩ | ⟨g, cap, cur, h1, _, h3, _, _, _, h7⟩
 ·omega
 ·refine ⟨g, cap, h1, lt_of_heap h3, fun i u hu => ?_⟩
  rw [cell_of_row _ _ i _ _ _ h3]
  rw [← h7, List.getElem?_take] at hu
  split at hu
  ·simpa using hu
  ·cases hu
/-- The parts as a row of slices over the tokens at block g. -/
def PRow (w : World) (A : Option Addr) (P : List (Nat × Nat)) (g : Nat) : Prop := 0 < P.length → ∃ b, A = some ⟨b, 0, none⟩ ∧ b < w.heap.size ∧ ∀ i, i < P.length → w.cell? ⟨b, i, none⟩ = some (partV g (P.getD i (0, 0)))
theorem PRow.below {w w' : World} {B : Nat} {A : Option Addr} {P : List (Nat × Nat)} {g : Nat} (h : PRow w A P g) (hB : w.heap.size ≤ B) (hb : Below B w w') : PRow w' A P g := fun h0 => by
 obtain ⟨b, e, hlt, hc⟩ := h h0
 exact ⟨b, e, Nat.lt_of_lt_of_le hlt hb.size, fun i hi => (hb.cell (p := ⟨b, i, none⟩) (Nat.lt_of_lt_of_le hlt hB)).trans (hc i hi)⟩
/-- Split, of any tokens. -/
theorem split_any (A : Option Addr) (n cap : Nat) (f : Nat → Tok) (w : World) (hT : Toks w A n f) (hn : n ≤ 100000) :
  Calls Tryz.prog 10 #[.slice A n cap] w fun e w' => ∃ g A2 c2, e = .returned (.slice A2 (partsOf f n).length c2) ∧ PRow w' A2 (partsOf f n) g ∧ Toks w' (some ⟨g, 0, none⟩) n f ∧ Below w.heap.size w w' := by
 by_cases h0 : n = 0
 ·subst h0
  refine (split_zero A cap w).mono ?_
  rintro e w' ⟨rfl, hb⟩
  exact ⟨0, none, 0, rfl, fun h => absurd h (by simp [partsOf]), fun h => by omega, hb⟩
 ·obtain ⟨b, off, rfl, _, _⟩ := hT (by omega)
  refine (split_some b off n cap f w hT (by omega) hn).mono ?_
  rintro e w' ⟨g, B, A2, c2, _, rfl, hown, ht, hb⟩
  have hP : partsOf f n = (spl f n).1 ++ [((spl f n).2.1, n)] := if_neg h0
  have hL : (partsOf f n).length = (spl f n).1.length + 1 := by rw [hP, List.length_append]; rfl
  refine ⟨g, A2, c2, by rw [hL], fun _ => ?_, ht, hb⟩
  obtain ⟨b2, c3, e3, hlt, hc⟩ := own_cell1 hown (by omega)
  injection e3 with e3 _ _
  refine ⟨b2, e3, hlt, fun i hi => hc i _ ?_⟩
  rw [← hP, List.getElem?_map, List.getD_eq_getElem?_getD, List.getElem?_eq_getElem hi]
  rfl
/-! ## More tokens -/
def moreT (f : Nat → Tok) (n m : Nat) (i : Nat) : Tok := if i < n then f i else if i < n + m then ⟨0, 0, 0⟩ else ⟨0, 258, 1⟩
end Go.Proofs.YtmkeicfklbepnaaGreat

namespace Go.Proofs.YtmkeicfklbepnaaGreat
set_option maxRecDepth 100000
open Go.Joins Go.RowKit Go.Deep

theorem preT_all (s : ByteArray) : text (preT (bt s) s.size) = s := by
 have h : preT (bt s) s.size = nums s := by
  apply List.ext_getElem?
  intro i
  unfold preT
  by_cases hi : i < s.size
  ·rw [List.getElem?_map, List.getElem?_range hi]
   have := nums_get s i hi
   rw [this]
   show some (bt s i) = _
   unfold bt
   rw [List.getD_eq_getElem?_getD, this]
   rfl
  ·rw [List.getElem?_eq_none (by simp; omega), List.getElem?_eq_none (by rw [nums_len]; omega)]
 rw [h, text_nums]
/-- What is found is the text. -/
theorem found_ok (s : ByteArray) (t k : Nat) (hs : s.size ≤ 10000) (h : Found s t k) : expE (tkT (bt s) s.size (befT (bt s) s.size) t) k = 0 ∧ text (expT (tkT (bt s) s.size (befT (bt s) s.size) t) k) = s ∧ k ≤ s.size := by
 obtain ⟨h1, h2, h3, _⟩ := run_ok (bt s) s.size t (by omega) k h.2
 refine ⟨h1, ?_, by rw [h.1] at h3; exact h3⟩
 rw [expT_ok h1, h2, h.1, preT_all]

end Go.Proofs.YtmkeicfklbepnaaGreat

namespace Go.Proofs.YtmkeicfklbepnaaGreat
set_option maxRecDepth 100000
open Go.Joins Go.RowKit Go.Deep

theorem found_one (s : ByteArray) (t j k : Nat) (h1 : Found s t j) (h2 : Found s t k) : j = k := by
 rcases Nat.lt_trichotomy j k with h | h | h
 ·have := h2.2 j h; have := h1.1; omega
 ·exact h
 ·have := h1.2 k h; have := h2.1; omega
end Go.Proofs.YtmkeicfklbepnaaGreat
