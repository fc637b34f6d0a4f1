/-
 Contracts: the program's writer: Write of any count, Align, Bytes, Len, Done; a writer that is none.
 Contracts: bits in the other order.
 Contracts: readers that are none; the chapter's example of layer 3.
 Contracts: codes that are none, readers that are none; the chapter's example of layer 4.
-/
import Derived.Test.YtmkeicfklbepnaaGreatPkAD
import Derived.Lib.AppendStr
import Derived.Laws.Concat
import Derived.Test.YtmkeicfklbepnaaGreatPkAC
import Derived.BigQuiet
import Derived.Test.YtmkeicfklbepnaaGreatPkAB

namespace Go.Proofs.YtmkeicfklbepnaaGreat
open Go.RowKit Go.Joins

theorem write_any (B g : Nat) (r : Option Nat) (M L v : Nat) (n : Int) (hL : L ≤ 1000000000) (hv : v < 4294967296) (w : World) (hB : B ≤ w.heap.size) (hc : Wr w B g r M L) :
  Calls Tryz.prog 52 #[.pointer (some ⟨g, 0, none⟩), .int .u32 v, .int .i64 n] w fun e w' => e = .returned (.tuple #[]) ∧ ∃ r', Wr w' B g r' (wM M L v n) (wL L n) ∧ Upd g r r' w w' := by
 by_cases h : 1 ≤ n ∧ n ≤ 32
 ·obtain ⟨m, rfl⟩ := Int.eq_ofNat_of_zero_le (show 0 ≤ n by omega)
  rw [show wM M L v (m : Nat) = M + v % 2 ^ m * 2 ^ L from if_pos h, show wL L (m : Nat) = L + m from if_pos h]
  exact write_ok B g r M L v m hL hv (by omega) (by omega) w hB hc
 ·rw [show wM M L v n = M from if_neg h, show wL L n = L from if_neg h]
  have HC := Lib.hid hc
  clear hc
  by_cases h1 : n < 1
  ·go_enter Tryz.func52, Tryz.ntmps52
   go_wp2
   refine bodyPost_ret (results_none rfl _ _ _) rfl ?_
   exact ⟨rfl, r, HC.out, Upd.refl _ _ _⟩
  ·have h2 : 32 < n := by omega
   clear h
   go_enter Tryz.func52, Tryz.ntmps52
   go_wp2
   refine bodyPost_ret (results_none rfl _ _ _) rfl ?_
   exact ⟨rfl, r, HC.out, Upd.refl _ _ _⟩
/-- The bits behind Align. -/
def up8 (L : Nat) : Nat := (L + 7) / 8 * 8
theorem up8_le (L : Nat) : up8 L ≤ L + 7 := by unfold up8; omega
theorem up8_ge (L : Nat) : L ≤ up8 L := by unfold up8; omega
theorem up8_mod (L : Nat) : up8 L % 8 = 0 := by unfold up8; omega

theorem walign_any (B g : Nat) (r : Option Nat) (M L : Nat) (hL : L ≤ 1000000000) (w : World) (hB : B ≤ w.heap.size) (hc : Wr w B g r M L) :
  Calls Tryz.prog 78 #[.pointer (some ⟨g, 0, none⟩)] w fun e w' => e = .returned (.tuple #[]) ∧ ∃ r', Wr w' B g r' M (up8 L) ∧ Upd g r r' w w' := by
 have hw := write_any B g r M L 0 ((up8 L - L : Nat) : Int) hL (by omega) w hB hc
 have e1 : wM M L 0 ((up8 L - L : Nat) : Int) = M := by unfold wM; simp
 have e2 : wL L ((up8 L - L : Nat) : Int) = up8 L := by
  have h1 := up8_ge L
  have h2 := up8_le L
  unfold wL
  split <;> omega
 rw [e1, e2] at hw
 have HW := Lib.hid hw
 obtain ⟨_, v0, hb0, _⟩ := hc
 have c2 : w.cell? ⟨g, 2, none⟩ = some (.int .i64 (L % 8 : Nat)) := by rw [cell_of_row w g 2 _ _ _ hb0]; rfl
 have hn7 : bits .and .i64 (-((L % 8 : Nat) : Int)) 7 = ((up8 L - L : Nat) : Int) := by
  rw [i64_and7]
  unfold up8
  omega
 have HN := Lib.hid hn7
 have hm : L % 8 < 8 := Nat.mod_lt _ (by omega)
 generalize L % 8 = m at *
 generalize up8 L - L = d at *
 clear hb0 hw hn7 e1 e2
 go_enter Tryz.func78, Tryz.ntmps78
 go_wp2_with fail
 rw [HN.out]
 refine (HW.out).mono ?_; rintro e w' ⟨rfl, h⟩
 have H := Lib.hid h
 clear h
 go_wp2_with fail
 go_end0
 exact ⟨rfl, H.out⟩
theorem strCells_eq (s : ByteArray) : Lib.strCells s = cells8 (nums s) := by
 unfold Lib.strCells cells8 nums
 rw [List.map_map]
 rfl
theorem le_app (M N k : Nat) (hM : M < 256 ^ k) : ∀ j, le (M + N * 256 ^ k) (k + j) = le M k ++ le N j
 | 0 => by
  rw [Nat.add_zero, le, List.append_nil]
  exact le_mod' _ _ _ (by rw [Nat.add_mul_mod_self_right])
 | j + 1 => by
  rw [← Nat.add_assoc, le, le_app M N k hM j, le, List.append_assoc]
  congr 3
  rw [Nat.pow_add, ← Nat.div_div_eq_div_mul, Nat.add_mul_div_right _ _ (Nat.pow_pos (by omega)), Nat.div_eq_of_lt hM, Nat.zero_add]

section
variable {P : Program} (w : World)
/-- A string's bytes put behind a row of the call's own: where the new row lies. -/
theorem run_append_str_at (base : Nat) (t u ty e : TypeId) (i : TypeInfo) (ht : P.underlying t = some (.slice e)) (hu : P.underlying u = some .string) (hi : P.info? e = some i) (hz : i.zero = some (.int .u8 0))
  (hsize : i.size = 1) (hby : i.bytes = 1) (v : Value) (n : Nat) (xs : List Value) (hown : w.ownsRow base e 1 v n xs) (s : ByteArray)
  (h63 : n + s.size ≤ maxLen) (hbytes : n + s.size ≤ 140737488355328) (hbase : base ≤ w.heap.size) :
  ∃ v' w', (Builtin.append_ #[t, u] ty #[v, .string s]).run P w = .ok v' w' ∧ w'.ownsRow base e 1 v' (n + s.size) (xs ++ Lib.strCells s) ∧ w.grownBy w' v.ownBlock ∧ (v'.ownBlock = v.ownBlock ∨ v'.ownBlock = some w.heap.size) := by
 obtain ⟨v', w', hr, ho, hg, hnil⟩ := Lib.run_append_own_string (P := P) w base t u ty e i ht hu hi hz hsize hby v n xs hown s h63 hbytes hbase
 refine ⟨v', w', hr, ho, hg, ?_⟩
 have hx : xs.length = n := by simpa using hown.1
 rcases hown.2 with ⟨rfl, rfl⟩ | ⟨g, cap, cur, rfl, hbg, hh, hnc, hcm, hcs, htake⟩
 ·by_cases h0 : s.size = 0
  ·exact .inl (by rw [hnil.2 ⟨rfl, h0⟩])
  ·have h2 := run_append_nil_string (P := P) w t u ty e i (.int .u8 0) ht hu hi hz s (by omega) (by unfold maxLen at h63; omega) (by rw [hby]; omega)
   rw [h2] at hr
   injection hr with h3 _
   exact .inr (by rw [← h3]; rfl)
 ·by_cases hroom : n + s.size ≤ cap
  ·have h2 := Lib.run_append_room_string (P := P) w t u ty e i ht hu hi hsize g n cap cur hh s hroom (by simpa using (by omega : n + s.size ≤ cur.size))
   rw [h2] at hr
   injection hr with h3 _
   exact .inl (by rw [← h3]; rfl)
  ·have h2 := Lib.run_append_grow_string (P := P) w t u ty e i (.int .u8 0) ht hu hi hz ⟨g, 0, none⟩ n cap xs (by rw [hsize]; omega) (hown.cells (g := g) rfl) s (by omega) (by unfold maxLen at h63; omega) (by rw [hby]; exact growslice_fits (by omega) (by omega))
   rw [h2] at hr
   injection hr with h3 _
   exact .inr (by rw [← h3]; rfl)
/-- .. at the operation. -/
theorem wpList_append_str_at {ops : Array Oper} {rest : List Oper} {o : Oper} {a : Act} {Q : Exit → Act → World → Prop} (hgd : o.guard = none) (sl x : Operand) (t u : TypeId)
  (ho : o.op = .call { callee := .builtin .append, args := #[sl, x], argTypes := #[t, u] })
  (base : Nat) (e : TypeId) (i : TypeInfo) (ht : P.underlying t = some (.slice e)) (hu : P.underlying u = some .string) (hi : P.info? e = some i) (hz : i.zero = some (.int .u8 0))
  (hsize : i.size = 1) (hby : i.bytes = 1) (v : Value) (n : Nat) (xs : List Value) (hs : a.eval sl = v) (hown : w.ownsRow base e 1 v n xs) (s : ByteArray) (hx : a.eval x = .string s)
  (h63 : n + s.size ≤ maxLen) (hbytes : n + s.size ≤ 140737488355328) (hbase : base ≤ w.heap.size)
  (h : ∀ v' w', w'.ownsRow base e 1 v' (n + s.size) (xs ++ Lib.strCells s) → w.grownBy w' v.ownBlock → (v'.ownBlock = v.ownBlock ∨ v'.ownBlock = some w.heap.size) → wpList P ops Q rest (a.put o.dst v') w') : wpList P ops Q (o :: rest) a w := by
 refine wpList_plain hgd fun K hK => ?_
 obtain ⟨v', w', hr, h2, h3, h4⟩ := run_append_str_at (P := P) w base t u o.type e i ht hu hi hz hsize hby v n xs hown s h63 hbytes hbase
 simp only [Oper.wp, execOp, ho, resolve, invoke, builtin, Sem.run_bind, Sem.run_pure, Result.andThen_ok, List.map_toArray, List.map_cons, List.map_nil, hs, hx, hr]
 exact hK _ _ (h v' w' h2 h3 h4)
end

theorem row_slice {w : World} {B n : Nat} {e : TypeId} {v : Value} {l : List Value} (h : w.ownsRow B e 1 v n l) : ∃ A c, v = .slice A n c := by
 rcases ownsRow_forms h with ⟨rfl, rfl⟩ | ⟨g, cap, rfl⟩
 ·exact ⟨_, _, rfl⟩
 ·exact ⟨_, _, rfl⟩

set_option maxHeartbeats 2000000 in
theorem wbytes_any (B g : Nat) (r : Option Nat) (M L : Nat) (s : ByteArray) (hL : L ≤ 900000000) (hs : s.size ≤ 1000000) (w : World) (hB : B ≤ w.heap.size) (hc : Wr w B g r M L) :
  Calls Tryz.prog 79 #[.pointer (some ⟨g, 0, none⟩), .string s] w fun e w' => e = .returned (.tuple #[]) ∧ ∃ r', Wr w' B g r' (M + num s * 2 ^ up8 L) (up8 L + 8 * s.size) ∧ Upd g r r' w w' := by
 have HA := Lib.hid (walign_any B g r M L (by omega) w hB hc)
 have hu7 := up8_le L
 have hu8 := up8_mod L
 clear hc
 generalize up8 L = K at *
 go_enter Tryz.func79, Tryz.ntmps79
 go_wp2_with fail
 refine (HA.out).mono ?_; rintro e w1 ⟨rfl, r1, hc, hU⟩
 obtain ⟨hM, v0, hb0, ho0, hr0, hBg⟩ := hc
 rw [hu8] at hb0
 have HU := Lib.hid hU
 have HM := Lib.hid hM
 clear hU HA hM
 have hk : K / 8 ≤ 1000000000 := by omega
 generalize hkk : K / 8 = k at *
 have hB1 : B ≤ w1.heap.size := Nat.le_trans hB HU.out.1.size
 have hne := row_ne (by decide) ho0 hb0
 have c0 : w1.cell? ⟨g, 0, none⟩ = some v0 := by rw [cell_of_row w1 g 0 _ _ _ hb0]; rfl
 have f0 : w1.frozen? ⟨g, 0, none⟩ = false := frozen_of_row w1 g 0 _ _ hb0
 have HB0 := Lib.hid hb0
 have HO0 := Lib.hid ho0
 have HR0 := Lib.hid hr0
 clear hr0
 obtain ⟨i0, hi, hz0, hz1, hz2⟩ := info_parts info8
 clear hb0 ho0
 go_wp2_with (at_builtin; refine wpList_append_str_at _ rfl (.tmp 12) (.tmp 13) _ _ rfl B 5 i0 Tryz.underlying37 Tryz.underlying9 hi hz0 hz1 hz2 v0 k _ rfl HO0.out s rfl (by unfold maxLen; omega) (by omega) hB1 ?_)
 intro v' w2 hown hgrow hat
 have hb2 := (hgrow.block g (lt_of_block' HB0.out) (Ne.symm hne)).trans HB0.out
 have k0 : w2.cell? ⟨g, 0, none⟩ = some v0 := by rw [cell_of_row w2 g 0 _ _ _ hb2]; rfl
 have kf : w2.frozen? ⟨g, 0, none⟩ = false := frozen_of_row w2 g 0 _ _ hb2
 obtain ⟨A, c, rfl⟩ := row_slice hown
 have HO := Lib.hid hown
 have HG := Lib.hid hgrow
 have HAt := Lib.hid hat
 have HB2 := Lib.hid hb2
 clear hown hgrow hat hb2
 go_wp2
 go_end0
 have hne2 := row_ne (by decide) HO.out HB2.out
 have hM256 : M < 256 ^ k := by rw [p256, ← hkk, show 8 * (K / 8) = K by omega]; exact HM.out
 have eK : (2 : Nat) ^ K = 256 ^ k := by rw [p256, ← hkk, show 8 * (K / 8) = K by omega]
 have hNl : num s < 256 ^ s.size := by rw [p256]; exact num_lt s
 have hlt : M + num s * 2 ^ K < 2 ^ (K + 8 * s.size) := put_lt M K (num s) (8 * s.size) HM.out (num_lt s)
 have ed : (K + 8 * s.size) / 8 = k + s.size := by omega
 have em : (K + 8 * s.size) % 8 = 0 := by omega
 refine ⟨rfl, (Value.slice A (k + s.size) c).ownBlock, ⟨hlt, ?_⟩, HU.out.then ⟨(kept_grown HG.out).more ?_ |>.then (kept_set w2 g 0 _) (fun i _ e => .inl e), ?_⟩⟩
 ·rw [ed, em]
  have hb3 := heap_setCell_same w2 g 0 _ _ (.slice A (k + s.size) c) HB2.out
  have hlt' : M + num s * 2 ^ K < 256 ^ (k + s.size) := by rw [p256, show 8 * (k + s.size) = K + 8 * s.size by omega]; exact hlt
  rw [Nat.div_eq_of_lt hM256] at hb3
  refine ⟨_, ?_, ?_, rfl, hBg⟩
  ·rw [Nat.div_eq_of_lt hlt']
   exact hb3
  ·rw [eK, le_app M (num s) k hM256, cells8_app, show le (num s) s.size = nums s from le_nums s, ← strCells_eq]
   exact row_kept HO.out fun b hb => Below.heap_setCell _ _ _ _ (fun e => hne2 (by rw [hb, e]))
 ·intro i e
  exact .inr (by rw [e, HR0.out])
 ·rcases HAt.out with e | e
  ·exact .inl (by rw [e, HR0.out])
  ·exact .inr ⟨_, e, Nat.le_refl _⟩
theorem wlen_any (B g : Nat) (r : Option Nat) (M L : Nat) (hL : L ≤ 1000000000) (w : World) (hc : Wr w B g r M L) :
  Calls Tryz.prog 33 #[.pointer (some ⟨g, 0, none⟩)] w fun e w' => e = .returned (.int .i64 (L : Nat)) ∧ ∃ d, w' = w.drewN d := by
 obtain ⟨hM, v0, hb0, ho0, hr0, hBg⟩ := hc
 obtain ⟨A, c, rfl⟩ := row_slice ho0
 have c0 : w.cell? ⟨g, 0, none⟩ = some (.slice A (L / 8) c) := by rw [cell_of_row w g 0 _ _ _ hb0]; rfl
 have c2 : w.cell? ⟨g, 2, none⟩ = some (.int .i64 (L % 8 : Nat)) := by rw [cell_of_row w g 2 _ _ _ hb0]; rfl
 have hLL : L = 8 * (L / 8) + L % 8 := by omega
 have HLL := Lib.hid hLL
 have hk : L / 8 ≤ 1000000000 := by omega
 have hm : L % 8 < 8 := Nat.mod_lt _ (by omega)
 generalize L / 8 = k at *
 generalize L % 8 = m at *
 clear hb0 ho0 hr0 hM hLL hL
 go_enter Tryz.func33, Tryz.ntmps33
 go_wp2
 go_quiet (fail)
 go_wp2
 go_ret
 have := HLL.out
 exact ⟨ret_eq (by omega), _, rfl⟩
theorem text_app (l m : List Nat) : text (l ++ m) = text l ++ text m := by
 apply ByteArray.ext
 simp [text]
theorem one_convert (w : World) (y : Nat) (hy : y < 256) : (convert 37 9 (.slice (some ⟨w.heap.size, 0, none⟩) 1 1)).run Tryz.prog (w.alloc (.cells #[.int .u8 (y : Nat)] 5)) = .ok (.string (text [y])) (w.alloc (.cells #[.int .u8 (y : Nat)] 5)) :=
 run_convert_bytes_back (P := Tryz.prog) _ 37 9 5 ⟨w.heap.size, 0, none⟩ 1 [UInt8.ofNat y] Tryz.underlying37 Tryz.underlying5 Tryz.underlying9 (fun j hj => by
  obtain rfl : j = 0 := by simpa using hj
  rw [Addr.add_lit, cell_of_row _ _ _ _ _ _ (heap_alloc_new w _)]
  have : (UInt8.ofNat y).toNat = y := Nat.mod_eq_of_lt hy
  simp [this])

set_option maxRecDepth 100000 in
theorem wdone_any (B g : Nat) (r : Option Nat) (M L : Nat) (hL : L ≤ 1000000000) (w : World) (hc : Wr w B g r M L) :
  Calls Tryz.prog 13 #[.pointer (some ⟨g, 0, none⟩)] w fun e w' => e = .returned (.string (text (le M ((L + 7) / 8)))) ∧ Below w.heap.size w w' := by
 obtain ⟨hM, v0, hb0, ho0, hr0, hBg⟩ := hc
 have hcv := string_of_own ho0 (le_lt M _)
 have hsz : (text (le M (L / 8))).size ≤ 125000000 := by rw [text_size, le_len]; omega
 have c0 : w.cell? ⟨g, 0, none⟩ = some v0 := by rw [cell_of_row w g 0 _ _ _ hb0]; rfl
 have c1 : w.cell? ⟨g, 1, none⟩ = some (.int .u64 (M / 256 ^ (L / 8) : Nat)) := by rw [cell_of_row w g 1 _ _ _ hb0]; rfl
 have c2 : w.cell? ⟨g, 2, none⟩ = some (.int .i64 (L % 8 : Nat)) := by rw [cell_of_row w g 2 _ _ _ hb0]; rfl
 have hql := div_lt M (L / 8) (L % 8) (by rw [show 8 * (L / 8) + L % 8 = L by omega]; exact hM)
 have hm : L % 8 < 8 := Nat.mod_lt _ (by omega)
 by_cases h0 : L % 8 = 0
 ·have HT : Hid ((L + 7) / 8 = L / 8) := by show _ = _; omega
  rw [h0] at c2
  generalize hTT : text (le M (L / 8)) = T at *
  have HTT := Lib.hid hTT
  clear hb0 ho0 hr0 hM hql hTT
  go_enter Tryz.func13, Tryz.ntmps13
  go_wp2
  go_ret
  exact ⟨by rw [HT.out, HTT.out]; rfl, Below.refl _ _⟩
 ·have HT : Hid (text (le M ((L + 7) / 8)) = text (le M (L / 8)) ++ text [M / 256 ^ (L / 8) % 256]) := by
   show _ = _
   rw [show (L + 7) / 8 = L / 8 + 1 by omega, le, text_app]
  have hq : M / 256 ^ (L / 8) < 256 := Nat.lt_of_lt_of_le hql (Nat.pow_le_pow_right (by omega) (show L % 8 ≤ 8 by omega))
  rw [Nat.mod_eq_of_lt hq] at HT
  have h1 := one_convert w _ hq
  have hs1 : (text [M / 256 ^ (L / 8)]).size = 1 := rfl
  generalize text [M / 256 ^ (L / 8)] = T1 at *
  generalize text (le M (L / 8)) = T at *
  generalize M / 256 ^ (L / 8) = q at *
  generalize L % 8 = m at *
  clear hb0 ho0 hr0 hM hql
  go_enter Tryz.func13, Tryz.ntmps13
  go_wp2
  go_ret
  exact ⟨by rw [HT.out]; rfl, (Below.refl _ _).alloc (Nat.le_refl _) _⟩
end Go.Proofs.YtmkeicfklbepnaaGreat

namespace Go.Proofs.YtmkeicfklbepnaaGreat
open Go.RowKit Go.Joins

/-- The lowest n bits in the other order. -/
def rev (v : Nat) : Nat → Nat
 | 0 => 0
 | k + 1 => rev v k * 2 + v / 2 ^ k % 2
theorem rev_lt (v n : Nat) : rev v n < 2 ^ n := by
 induction n with
 | zero => exact Nat.one_pos
 | succ k ih => rw [rev, Nat.pow_succ]; omega
theorem rev_bit (v n : Nat) : ∀ i, (rev v n).testBit i = (decide (i < n) && v.testBit (n - 1 - i)) := by
 induction n with
 | zero => intro i; simp [rev]
 | succ k ih =>
  intro i
  rw [rev]
  cases i with
  | zero =>
   rw [Nat.testBit_zero, show (rev v k * 2 + v / 2 ^ k % 2) % 2 = v / 2 ^ k % 2 by omega]
   simp [Nat.testBit_eq_decide_div_mod_eq]
  | succ i =>
   rw [Nat.testBit_succ, show (rev v k * 2 + v / 2 ^ k % 2) / 2 = rev v k by omega, ih i, show k + 1 - 1 - (i + 1) = k - 1 - i by omega]
   simp
/-- One step of the exchange. -/
def sw (s m x : Nat) : Nat := (x / 2 ^ s &&& m) ||| ((x &&& m) * 2 ^ s % 2 ^ 32)
theorem sw_lt (s m x : Nat) (hm : m < 2 ^ 32) : sw s m x < 2 ^ 32 := Nat.or_lt_two_pow (Nat.and_lt_two_pow _ hm) (Nat.mod_lt _ (by decide))
theorem sw_raw (s m x i : Nat) (hi : i < 32) : (sw s m x).testBit i = ((x.testBit (i + s) && m.testBit i) || (decide (s ≤ i) && x.testBit (i - s) && m.testBit (i - s))) := by
 unfold sw
 rw [Nat.testBit_or, Nat.testBit_and, Nat.testBit_mod_two_pow, Nat.testBit_mul_two_pow, Nat.testBit_and, ← Nat.shiftRight_eq_div_pow, Nat.testBit_shiftRight, Nat.add_comm s i]
 simp [hi, Bool.and_assoc]
/-- Where a bit comes from. -/
def pm (s m i : Nat) : Nat := if m.testBit i = true then i + s else i - s
theorem sw_bit (s m x : Nat) (h : ∀ i, i < 32 → (if m.testBit i = true then (s ≤ i → m.testBit (i - s) = false) else (s ≤ i ∧ m.testBit (i - s) = true))) (i : Nat) (hi : i < 32) :
  (sw s m x).testBit i = x.testBit (pm s m i) := by
 have h := h i hi
 rw [sw_raw s m x i hi]
 unfold pm
 by_cases hm : m.testBit i = true
 ·rw [if_pos hm] at h ⊢
  by_cases hs : s ≤ i
  ·simp [hm, h hs]
  ·simp [hm, hs]
 ·rw [if_neg hm] at h ⊢
  simp only [Bool.not_eq_true] at hm
  simp [hm, h.1, h.2]
def m1 : Nat := 1431655765
def m2 : Nat := 858993459
def m4 : Nat := 252645135
def m8 : Nat := 16711935
def m16 : Nat := 65535
theorem pm_all : ∀ i, i < 32 → pm 16 m16 i < 32 ∧ pm 8 m8 (pm 16 m16 i) < 32 ∧ pm 4 m4 (pm 8 m8 (pm 16 m16 i)) < 32 ∧ pm 2 m2 (pm 4 m4 (pm 8 m8 (pm 16 m16 i))) < 32 ∧ pm 1 m1 (pm 2 m2 (pm 4 m4 (pm 8 m8 (pm 16 m16 i)))) = 31 - i := by decide +kernel
def whole (x : Nat) : Nat := sw 16 m16 (sw 8 m8 (sw 4 m4 (sw 2 m2 (sw 1 m1 x))))
theorem whole_bit (x i : Nat) (hi : i < 32) : (whole x).testBit i = x.testBit (31 - i) := by
 obtain ⟨h1, h2, h3, h4, h5⟩ := pm_all i hi
 unfold whole
 rw [sw_bit 16 m16 _ (by decide +kernel) i hi, sw_bit 8 m8 _ (by decide +kernel) _ h1, sw_bit 4 m4 _ (by decide +kernel) _ h2, sw_bit 2 m2 _ (by decide +kernel) _ h3, sw_bit 1 m1 _ (by decide +kernel) _ h4, h5]
theorem whole_lt (x : Nat) : whole x < 2 ^ 32 := sw_lt _ _ _ (by decide)
theorem whole_rev (x : Nat) : whole x = rev x 32 := by
 apply Nat.eq_of_testBit_eq
 intro i
 rw [rev_bit]
 by_cases hi : i < 32
 ·rw [whole_bit x i hi, show 32 - 1 - i = 31 - i by omega]
  simp [hi]
 ·rw [Nat.testBit_lt_two_pow (Nat.lt_of_lt_of_le (whole_lt x) (Nat.pow_le_pow_right (by omega) (by omega)))]
  simp [hi]

theorem sw_walk (s m S : Nat) (hS : S = 2 ^ s) (x : Nat) (hx : x < 4294967296) (hm : m < 4294967296) :
  bits .or .u32 (bits .and .u32 ((x : Int) / (S : Nat)) (m : Nat)) (bits .and .u32 (x : Int) (m : Nat) * (S : Nat) % 4294967296) = (sw s m x : Nat) := by
 subst hS
 have h1 : x / 2 ^ s < 4294967296 := Nat.lt_of_le_of_lt (Nat.div_le_self _ _) hx
 have h2 : x / 2 ^ s &&& m < 2 ^ 32 := Nat.and_lt_two_pow _ hm
 have h3 : (x &&& m) * 2 ^ s % 2 ^ 32 < 2 ^ 32 := Nat.mod_lt _ (by decide)
 rw [show ((x : Int) / ((2 ^ s : Nat) : Int)) = ((x / 2 ^ s : Nat) : Int) by simp, u32_and_nat _ _ h1 hm, u32_and_nat _ _ hx hm,
  show (((x &&& m : Nat) : Int) * ((2 ^ s : Nat) : Int) % 4294967296) = (((x &&& m) * 2 ^ s % 2 ^ 32 : Nat) : Int) by simp, u32_or_nat _ _ h2 h3]
 rfl
theorem last_walk (x : Nat) (hx : x < 4294967296) : bits .or .u32 ((x : Int) / 65536) ((x : Int) * 65536 % 4294967296) = (sw 16 m16 x : Nat) := by
 have h1 : x / 65536 < 65536 := by omega
 rw [show ((x : Int) / 65536) = ((x / 65536 : Nat) : Int) by simp, show ((x : Int) * 65536 % 4294967296) = ((x * 65536 % 4294967296 : Nat) : Int) by simp, u32_or_nat _ _ (by omega) (by omega)]
 unfold sw m16
 rw [show (65535 : Nat) = 2 ^ 16 - 1 from rfl, Nat.and_two_pow_sub_one_eq_mod, Nat.and_two_pow_sub_one_eq_mod, show x / 2 ^ 16 % 2 ^ 16 = x / 65536 from Nat.mod_eq_of_lt h1,
  show x % 2 ^ 16 * 2 ^ 16 % 2 ^ 32 = x * 65536 % 4294967296 by omega]

theorem revb_any (x : Nat) (hx : x < 4294967296) (w : World) :
  Calls Tryz.prog 125 #[.int .u32 x] w fun e w' => e = .returned (.int .u32 (sw 16 m16 (sw 8 m8 x) : Nat)) ∧ w = w' := by
 have H1 := Lib.hid (sw_walk 8 m8 256 rfl x hx (by decide))
 have H2 := Lib.hid (last_walk (sw 8 m8 x) (sw_lt _ _ _ (by decide)))
 go_enter Tryz.func125, Tryz.ntmps125
 go_wp2
 go_ret
 refine ⟨ret_eq ?_, rfl⟩
 have h1 := H1.out
 have h2 := H2.out
 rw [← h1] at h2
 exact h2
theorem rev_any (x : Nat) (hx : x < 4294967296) (w : World) :
  Calls Tryz.prog 116 #[.int .u32 x] w fun e w' => e = .returned (.int .u32 (rev x 32 : Nat)) ∧ w = w' := by
 have H1 := Lib.hid (sw_walk 1 m1 2 rfl x hx (by decide))
 have H2 := Lib.hid (sw_walk 2 m2 4 rfl (sw 1 m1 x) (sw_lt _ _ _ (by decide)) (by decide))
 have H4 := Lib.hid (sw_walk 4 m4 16 rfl (sw 2 m2 (sw 1 m1 x)) (sw_lt _ _ _ (by decide)) (by decide))
 have HR := Lib.hid (fun w => revb_any (sw 4 m4 (sw 2 m2 (sw 1 m1 x))) (sw_lt _ _ _ (by decide)) w)
 have HW : Hid (sw 16 m16 (sw 8 m8 (sw 4 m4 (sw 2 m2 (sw 1 m1 x)))) = rev x 32) := whole_rev x
 have h1 := H1.out
 have h2 := H2.out
 have h4 := H4.out
 rw [← h1] at h2
 rw [← h2] at h4
 have HH := Lib.hid h4
 have HWl := Lib.hid (rev_lt x 32)
 clear h1 h2 h4
 go_enter Tryz.func116, Tryz.ntmps116
 go_wp2_with fail
 have h4 := HH.out
 simp only [m1, m2, m4, show ((2 : Nat) : Int) = 2 from rfl, show ((4 : Nat) : Int) = 4 from rfl, show ((16 : Nat) : Int) = 16 from rfl, show ((1431655765 : Nat) : Int) = 1431655765 from rfl, show ((858993459 : Nat) : Int) = 858993459 from rfl, show ((252645135 : Nat) : Int) = 252645135 from rfl] at h4
 rw [h4]
 refine (HR.out w).mono ?_; rintro e w' ⟨rfl, rfl⟩
 rw [HW.out]
 go_wp2_with fail
 go_ret
 exact ⟨rfl, rfl⟩

/-- What Turn answers. -/
def turnN (v : Nat) (n : Int) : Nat := if 1 ≤ n ∧ n ≤ 32 then rev v n.toNat else 0
theorem rev_div (v : Nat) : ∀ d n, rev v (n + d) / 2 ^ d = rev v n
 | 0, n => by simp
 | d + 1, n => by
  rw [← Nat.add_assoc, rev, Nat.pow_succ', ← Nat.div_div_eq_div_mul, show (rev v (n + d) * 2 + v / 2 ^ (n + d) % 2) / 2 = rev v (n + d) by omega, rev_div v d n]
theorem turn_ok (v n : Nat) (hv : v < 4294967296) (h1 : 1 ≤ n) (h2 : n ≤ 32) (w : World) :
  Calls Tryz.prog 102 #[.int .u32 v, .int .i64 n] w fun e w' => e = .returned (.int .u32 (rev v n : Nat)) ∧ w = w' := by
 have HR := Lib.hid (fun w => rev_any v hv w)
 have HD : Hid (rev v 32 / 2 ^ (32 - n) = rev v n) := by
  have := rev_div v (32 - n) n
  rw [show n + (32 - n) = 32 by omega] at this
  exact this
 have hl : rev v 32 < 4294967296 := rev_lt v 32
 generalize rev v 32 = q at *
 have hd : ((32 : Int) - n) = ((32 - n : Nat) : Int) := by omega
 go_enter Tryz.func102, Tryz.ntmps102
 go_wp2_with (go_at_call 116; refine (HR.out _).mono ?_; rintro e w' ⟨rfl, rfl⟩)
 go_ret
 refine ⟨ret_eq ?_, rfl⟩
 rw [← HD.out]
 simp
end Go.Proofs.YtmkeicfklbepnaaGreat

namespace Go.Proofs.YtmkeicfklbepnaaGreat
open Go.RowKit Go.Joins

/-- A writer that has just been made. -/
theorem wr_new (w : World) (B : Nat) (hB : B ≤ w.heap.size) : Wr (w.alloc (.cells #[.slice none 0 0, .int .u64 0, .int .i64 0] 40)) B w.heap.size none 0 0 :=
 ⟨by decide, .slice none 0 0, heap_alloc_new w _, World.ownsRow_nil _ _ _ _, rfl, hB⟩
theorem Kept.below0 {S : Nat → Prop} {B : Nat} {w w0 w1 : World} (hB : B ≤ w.heap.size) (h0 : Below B w0 w) (h : Kept S w w1) (hs : ∀ i, S i → B ≤ i) : Below B w0 w1 := h0.trans (h.below hs hB)
theorem Wr.ge {w : World} {B g M L : Nat} {r : Option Nat} (h : Wr w B g r M L) : ∀ i, (i = g ∨ some i = r) → B ≤ i := by
 obtain ⟨_, v, hb, ho, hr, hBg⟩ := h
 rintro i (rfl | e)
 ·exact hBg
 ·rcases ho.2 with ⟨rfl, _⟩ | ⟨g', cap, cur, rfl, hg, _⟩
  ·rw [← hr] at e
   simp [Value.ownBlock] at e
  ·rw [← hr] at e
   simp [Value.ownBlock] at e
   omega
theorem Wr.lt {w : World} {B g M L : Nat} {r : Option Nat} (h : Wr w B g r M L) : g < w.heap.size := by
 obtain ⟨_, v, hb, _⟩ := h
 exact lt_of_block' hb

theorem Wr.row_lt {w : World} {B g M L : Nat} {r : Option Nat} (h : Wr w B g r M L) : ∀ i, some i = r → i < w.heap.size := by
 obtain ⟨_, v, hb, ho, hr, hBg⟩ := h
 intro i e
 rcases ho.2 with ⟨rfl, _⟩ | ⟨g', cap, cur, rfl, hg, hh, _⟩
 ·rw [← hr] at e
  simp [Value.ownBlock] at e
 ·rw [← hr] at e
  simp [Value.ownBlock] at e
  subst e
  exact lt_of_block' hh
/-- A writer stays where its blocks do. -/
theorem Wr.stay {w w' : World} {B g M L : Nat} {r : Option Nat} (h : Wr w B g r M L) (hk : ∀ i, i < w.heap.size → (i = g ∨ some i = r) → w'.heap[i]? = w.heap[i]?) : Wr w' B g r M L := by
 have hg := h.lt
 have hrl := h.row_lt
 obtain ⟨hM, v, hb, ho, hr, hBg⟩ := h
 exact ⟨hM, v, (hk g hg (.inl rfl)).trans hb, row_kept ho fun b hb => hk b (hrl b (by rw [← hb, hr])) (.inr (by rw [← hb, hr])), hr, hBg⟩
theorem Wr.kept {w w' : World} {B g M L : Nat} {r : Option Nat} {S : Nat → Prop} (h : Wr w B g r M L) (hk : Kept S w w') (hs : ∀ i, (i = g ∨ some i = r) → ¬ S i) : Wr w' B g r M L :=
 h.stay fun i hi e => hk.block i hi (hs i e)
theorem Wr.alloc {w : World} {B g M L : Nat} {r : Option Nat} (h : Wr w B g r M L) (o : Obj) : Wr (w.alloc o) B g r M L := h.kept (kept_alloc (fun _ => False) w o) fun _ _ e => e

end Go.Proofs.YtmkeicfklbepnaaGreat

namespace Go.Proofs.YtmkeicfklbepnaaGreat
set_option maxRecDepth 100000
open Go.RowKit Go.Deep Go.Joins

theorem signs_nil (w : World) : Calls Tryz.prog 115 #[.pointer none] w fun e w' => e = .returned (.int .i64 0) ∧ w = w' := by
 go_enter Tryz.func115, Tryz.ntmps115
 go_wp2
 go_ret
 exact ⟨rfl, rfl⟩
theorem length_nil (w : World) : Calls Tryz.prog 101 #[.pointer none, .int .i64 0] w fun e w' => e = .returned (.int .i64 0) ∧ w = w' := by
 go_enter Tryz.func101, Tryz.ntmps101
 go_wp2_with (go_at_call 115; refine (signs_nil _).mono ?_; rintro e w' ⟨rfl, rfl⟩)
 go_ret
 exact ⟨rfl, rfl⟩
/-- Lengths written out. -/
def lit (l : List Nat) (i : Nat) : Nat := l.getD i 0
end Go.Proofs.YtmkeicfklbepnaaGreat
