/-
  Contracts: the program's writer: Write of any count, Align, Bytes, Len, Done; a writer that is none.
-/
import Derived.Test.YtfhbkidceombbaaBitsW
import Derived.Lib.AppendStr
import Derived.Laws.Concat
namespace Go.Proofs.Ytfhbkidceombbaa
open Go.RowKit Go.Joins

theorem write_any (B g : Nat) (r : Option Nat) (M L v : Nat) (n : Int) (hL : L ≤ 1000000000) (hv : v < 4294967296) (w : World) (hB : B ≤ w.heap.size) (hc : Wr w B g r M L) :
    Calls Try.prog 25 #[.pointer (some ⟨g, 0, none⟩), .int .u32 v, .int .i64 n] w fun e w' => e = .returned (.tuple #[]) ∧ ∃ r', Wr w' B g r' (wM M L v n) (wL L n) ∧ Upd g r r' w w' := by
  by_cases h : 1 ≤ n ∧ n ≤ 32
  · obtain ⟨m, rfl⟩ := Int.eq_ofNat_of_zero_le (show 0 ≤ n by omega)
    rw [show wM M L v (m : Nat) = M + v % 2 ^ m * 2 ^ L from if_pos h, show wL L (m : Nat) = L + m from if_pos h]
    exact write_ok B g r M L v m hL hv (by omega) (by omega) w hB hc
  · rw [show wM M L v n = M from if_neg h, show wL L n = L from if_neg h]
    have HC := Lib.hid hc
    clear hc
    by_cases h1 : n < 1
    · go_enter Try.func25, Try.ntmps25
      go_wp2
      refine bodyPost_ret (results_none rfl _ _ _) rfl ?_
      exact ⟨rfl, r, HC.out, Upd.refl _ _ _⟩
    · have h2 : 32 < n := by omega
      clear h
      go_enter Try.func25, Try.ntmps25
      go_wp2
      refine bodyPost_ret (results_none rfl _ _ _) rfl ?_
      exact ⟨rfl, r, HC.out, Upd.refl _ _ _⟩
theorem write_nil (v n : Int) (w : World) : Calls Try.prog 25 #[.pointer none, .int .u32 v, .int .i64 n] w fun e w' => e = .returned (.tuple #[]) ∧ w = w' := by
  go_enter Try.func25, Try.ntmps25
  go_wp2
  refine bodyPost_ret (results_none rfl _ _ _) rfl ?_
  exact ⟨rfl, rfl⟩

/-- The bits behind Align. -/
def up8 (L : Nat) : Nat := (L + 7) / 8 * 8
theorem up8_le (L : Nat) : up8 L ≤ L + 7 := by unfold up8; omega
theorem up8_ge (L : Nat) : L ≤ up8 L := by unfold up8; omega
theorem up8_mod (L : Nat) : up8 L % 8 = 0 := by unfold up8; omega

theorem walign_any (B g : Nat) (r : Option Nat) (M L : Nat) (hL : L ≤ 1000000000) (w : World) (hB : B ≤ w.heap.size) (hc : Wr w B g r M L) :
    Calls Try.prog 56 #[.pointer (some ⟨g, 0, none⟩)] w fun e w' => e = .returned (.tuple #[]) ∧ ∃ r', Wr w' B g r' M (up8 L) ∧ Upd g r r' w w' := by
  have hw := write_any B g r M L 0 ((up8 L - L : Nat) : Int) hL (by omega) w hB hc
  have e1 : wM M L 0 ((up8 L - L : Nat) : Int) = M := by unfold wM; simp
  have e2 : wL L ((up8 L - L : Nat) : Int) = up8 L := by
    have h1 := up8_ge L
    have h2 := up8_le L
    unfold wL
    split <;> omega
  rw [e1, e2] at hw
  have HW := Lib.hid hw
  obtain ⟨_, v0, hb0, _⟩ := hc
  have c2 : w.cell? ⟨g, 2, none⟩ = some (.int .i64 (L % 8 : Nat)) := by rw [cell_of_row w g 2 _ _ _ hb0]; rfl
  have hn7 : bits .and .i64 (-((L % 8 : Nat) : Int)) 7 = ((up8 L - L : Nat) : Int) := by
    rw [i64_and7]
    unfold up8
    omega
  have HN := Lib.hid hn7
  have hm : L % 8 < 8 := Nat.mod_lt _ (by omega)
  generalize L % 8 = m at *
  generalize up8 L - L = d at *
  clear hb0 hw hn7 e1 e2
  go_enter Try.func56, Try.ntmps56
  go_wp2_with fail
  rw [HN.out]
  refine (HW.out).mono ?_; rintro e w' ⟨rfl, h⟩
  have H := Lib.hid h
  clear h
  go_wp2_with fail
  go_end0
  exact ⟨rfl, H.out⟩
theorem walign_nil (w : World) : Calls Try.prog 56 #[.pointer none] w fun e w' => e = .returned (.tuple #[]) ∧ w = w' := by
  go_enter Try.func56, Try.ntmps56
  go_wp2
  go_end0
  exact ⟨rfl, rfl⟩

theorem strCells_eq (s : ByteArray) : Lib.strCells s = cells8 (nums s) := by
  unfold Lib.strCells cells8 nums
  rw [List.map_map]
  rfl
theorem le_app (M N k : Nat) (hM : M < 256 ^ k) : ∀ j, le (M + N * 256 ^ k) (k + j) = le M k ++ le N j
  | 0 => by
    rw [Nat.add_zero, le, List.append_nil]
    exact le_mod' _ _ _ (by rw [Nat.add_mul_mod_self_right])
  | j + 1 => by
    rw [← Nat.add_assoc, le, le_app M N k hM j, le, List.append_assoc]
    congr 3
    rw [Nat.pow_add, ← Nat.div_div_eq_div_mul, Nat.add_mul_div_right _ _ (Nat.pow_pos (by omega)), Nat.div_eq_of_lt hM, Nat.zero_add]

section
variable {P : Program} (w : World)
/-- A string's bytes put behind a row of the call's own: where the new row lies. -/
theorem run_append_str_at (base : Nat) (t u ty e : TypeId) (i : TypeInfo) (ht : P.underlying t = some (.slice e)) (hu : P.underlying u = some .string) (hi : P.info? e = some i) (hz : i.zero = some (.int .u8 0))
    (hsize : i.size = 1) (hby : i.bytes = 1) (v : Value) (n : Nat) (xs : List Value) (hown : w.ownsRow base e 1 v n xs) (s : ByteArray)
    (h63 : n + s.size ≤ maxLen) (hbytes : n + s.size ≤ 140737488355328) (hbase : base ≤ w.heap.size) :
    ∃ v' w', (Builtin.append_ #[t, u] ty #[v, .string s]).run P w = .ok v' w' ∧ w'.ownsRow base e 1 v' (n + s.size) (xs ++ Lib.strCells s) ∧ w.grownBy w' v.ownBlock ∧ (v'.ownBlock = v.ownBlock ∨ v'.ownBlock = some w.heap.size) := by
  obtain ⟨v', w', hr, ho, hg, hnil⟩ := Lib.run_append_own_string (P := P) w base t u ty e i ht hu hi hz hsize hby v n xs hown s h63 hbytes hbase
  refine ⟨v', w', hr, ho, hg, ?_⟩
  have hx : xs.length = n := by simpa using hown.1
  rcases hown.2 with ⟨rfl, rfl⟩ | ⟨g, cap, cur, rfl, hbg, hh, hnc, hcm, hcs, htake⟩
  · by_cases h0 : s.size = 0
    · exact .inl (by rw [hnil.2 ⟨rfl, h0⟩])
    · have h2 := run_append_nil_string (P := P) w t u ty e i (.int .u8 0) ht hu hi hz s (by omega) (by unfold maxLen at h63; omega) (by rw [hby]; omega)
      rw [h2] at hr
      injection hr with h3 _
      exact .inr (by rw [← h3]; rfl)
  · by_cases hroom : n + s.size ≤ cap
    · have h2 := Lib.run_append_room_string (P := P) w t u ty e i ht hu hi hsize g n cap cur hh s hroom (by simpa using (by omega : n + s.size ≤ cur.size))
      rw [h2] at hr
      injection hr with h3 _
      exact .inl (by rw [← h3]; rfl)
    · have h2 := Lib.run_append_grow_string (P := P) w t u ty e i (.int .u8 0) ht hu hi hz ⟨g, 0, none⟩ n cap xs (by rw [hsize]; omega) (hown.cells (g := g) rfl) s (by omega) (by unfold maxLen at h63; omega) (by rw [hby]; exact growslice_fits (by omega) (by omega))
      rw [h2] at hr
      injection hr with h3 _
      exact .inr (by rw [← h3]; rfl)
/-- .. at the operation. -/
theorem wpList_append_str_at {ops : Array Oper} {rest : List Oper} {o : Oper} {a : Act} {Q : Exit → Act → World → Prop} (hgd : o.guard = none) (sl x : Operand) (t u : TypeId)
    (ho : o.op = .call { callee := .builtin .append, args := #[sl, x], argTypes := #[t, u] })
    (base : Nat) (e : TypeId) (i : TypeInfo) (ht : P.underlying t = some (.slice e)) (hu : P.underlying u = some .string) (hi : P.info? e = some i) (hz : i.zero = some (.int .u8 0))
    (hsize : i.size = 1) (hby : i.bytes = 1) (v : Value) (n : Nat) (xs : List Value) (hs : a.eval sl = v) (hown : w.ownsRow base e 1 v n xs) (s : ByteArray) (hx : a.eval x = .string s)
    (h63 : n + s.size ≤ maxLen) (hbytes : n + s.size ≤ 140737488355328) (hbase : base ≤ w.heap.size)
    (h : ∀ v' w', w'.ownsRow base e 1 v' (n + s.size) (xs ++ Lib.strCells s) → w.grownBy w' v.ownBlock → (v'.ownBlock = v.ownBlock ∨ v'.ownBlock = some w.heap.size) → wpList P ops Q rest (a.put o.dst v') w') : wpList P ops Q (o :: rest) a w := by
  refine wpList_plain hgd fun K hK => ?_
  obtain ⟨v', w', hr, h2, h3, h4⟩ := run_append_str_at (P := P) w base t u o.type e i ht hu hi hz hsize hby v n xs hown s h63 hbytes hbase
  simp only [Oper.wp, execOp, ho, resolve, invoke, builtin, Sem.run_bind, Sem.run_pure, Result.andThen_ok, List.map_toArray, List.map_cons, List.map_nil, hs, hx, hr]
  exact hK _ _ (h v' w' h2 h3 h4)
end

theorem row_slice {w : World} {B n : Nat} {e : TypeId} {v : Value} {l : List Value} (h : w.ownsRow B e 1 v n l) : ∃ A c, v = .slice A n c := by
  rcases ownsRow_forms h with ⟨rfl, rfl⟩ | ⟨g, cap, rfl⟩
  · exact ⟨_, _, rfl⟩
  · exact ⟨_, _, rfl⟩

set_option maxHeartbeats 2000000 in
theorem wbytes_any (B g : Nat) (r : Option Nat) (M L : Nat) (s : ByteArray) (hL : L ≤ 900000000) (hs : s.size ≤ 1000000) (w : World) (hB : B ≤ w.heap.size) (hc : Wr w B g r M L) :
    Calls Try.prog 57 #[.pointer (some ⟨g, 0, none⟩), .string s] w fun e w' => e = .returned (.tuple #[]) ∧ ∃ r', Wr w' B g r' (M + num s * 2 ^ up8 L) (up8 L + 8 * s.size) ∧ Upd g r r' w w' := by
  have HA := Lib.hid (walign_any B g r M L (by omega) w hB hc)
  have hu7 := up8_le L
  have hu8 := up8_mod L
  clear hc
  generalize up8 L = K at *
  go_enter Try.func57, Try.ntmps57
  go_wp2_with fail
  refine (HA.out).mono ?_; rintro e w1 ⟨rfl, r1, hc, hU⟩
  obtain ⟨hM, v0, hb0, ho0, hr0, hBg⟩ := hc
  rw [hu8] at hb0
  have HU := Lib.hid hU
  have HM := Lib.hid hM
  clear hU HA hM
  have hk : K / 8 ≤ 1000000000 := by omega
  generalize hkk : K / 8 = k at *
  have hB1 : B ≤ w1.heap.size := Nat.le_trans hB HU.out.1.size
  have hne := row_ne (by decide) ho0 hb0
  have c0 : w1.cell? ⟨g, 0, none⟩ = some v0 := by rw [cell_of_row w1 g 0 _ _ _ hb0]; rfl
  have f0 : w1.frozen? ⟨g, 0, none⟩ = false := frozen_of_row w1 g 0 _ _ hb0
  have HB0 := Lib.hid hb0
  have HO0 := Lib.hid ho0
  have HR0 := Lib.hid hr0
  clear hr0
  obtain ⟨i0, hi, hz0, hz1, hz2⟩ := info_parts info8
  clear hb0 ho0
  go_wp2_with (at_builtin; refine wpList_append_str_at _ rfl (.tmp 12) (.tmp 13) _ _ rfl B 5 i0 Try.underlying29 Try.underlying9 hi hz0 hz1 hz2 v0 k _ rfl HO0.out s rfl (by unfold maxLen; omega) (by omega) hB1 ?_)
  intro v' w2 hown hgrow hat
  have hb2 := (hgrow.block g (lt_of_block' HB0.out) (Ne.symm hne)).trans HB0.out
  have k0 : w2.cell? ⟨g, 0, none⟩ = some v0 := by rw [cell_of_row w2 g 0 _ _ _ hb2]; rfl
  have kf : w2.frozen? ⟨g, 0, none⟩ = false := frozen_of_row w2 g 0 _ _ hb2
  obtain ⟨A, c, rfl⟩ := row_slice hown
  have HO := Lib.hid hown
  have HG := Lib.hid hgrow
  have HAt := Lib.hid hat
  have HB2 := Lib.hid hb2
  clear hown hgrow hat hb2
  go_wp2
  go_end0
  have hne2 := row_ne (by decide) HO.out HB2.out
  have hM256 : M < 256 ^ k := by rw [p256, ← hkk, show 8 * (K / 8) = K by omega]; exact HM.out
  have eK : (2 : Nat) ^ K = 256 ^ k := by rw [p256, ← hkk, show 8 * (K / 8) = K by omega]
  have hNl : num s < 256 ^ s.size := by rw [p256]; exact num_lt s
  have hlt : M + num s * 2 ^ K < 2 ^ (K + 8 * s.size) := put_lt M K (num s) (8 * s.size) HM.out (num_lt s)
  have ed : (K + 8 * s.size) / 8 = k + s.size := by omega
  have em : (K + 8 * s.size) % 8 = 0 := by omega
  refine ⟨rfl, (Value.slice A (k + s.size) c).ownBlock, ⟨hlt, ?_⟩, HU.out.then ⟨(kept_grown HG.out).more ?_ |>.then (kept_set w2 g 0 _) (fun i _ e => .inl e), ?_⟩⟩
  · rw [ed, em]
    have hb3 := heap_setCell_same w2 g 0 _ _ (.slice A (k + s.size) c) HB2.out
    have hlt' : M + num s * 2 ^ K < 256 ^ (k + s.size) := by rw [p256, show 8 * (k + s.size) = K + 8 * s.size by omega]; exact hlt
    rw [Nat.div_eq_of_lt hM256] at hb3
    refine ⟨_, ?_, ?_, rfl, hBg⟩
    · rw [Nat.div_eq_of_lt hlt']
      exact hb3
    · rw [eK, le_app M (num s) k hM256, cells8_app, show le (num s) s.size = nums s from le_nums s, ← strCells_eq]
      exact row_kept HO.out fun b hb => Below.heap_setCell _ _ _ _ (fun e => hne2 (by rw [hb, e]))
  · intro i e
    exact .inr (by rw [e, HR0.out])
  · rcases HAt.out with e | e
    · exact .inl (by rw [e, HR0.out])
    · exact .inr ⟨_, e, Nat.le_refl _⟩
theorem wbytes_nil (s : ByteArray) (w : World) : Calls Try.prog 57 #[.pointer none, .string s] w fun e w' => e = .returned (.tuple #[]) ∧ w = w' := by
  go_enter Try.func57, Try.ntmps57
  go_wp2
  refine bodyPost_ret (results_none rfl _ _ _) rfl ?_
  exact ⟨rfl, rfl⟩

theorem len_of_slice {w : World} {B n : Nat} {e : TypeId} {v : Value} {l : List Value} (h : w.ownsRow B e 1 v n l) : ∃ A c, v = .slice A n c := row_slice h
theorem wlen_any (B g : Nat) (r : Option Nat) (M L : Nat) (hL : L ≤ 1000000000) (w : World) (hc : Wr w B g r M L) :
    Calls Try.prog 10 #[.pointer (some ⟨g, 0, none⟩)] w fun e w' => e = .returned (.int .i64 (L : Nat)) ∧ ∃ d, w' = w.drewN d := by
  obtain ⟨hM, v0, hb0, ho0, hr0, hBg⟩ := hc
  obtain ⟨A, c, rfl⟩ := row_slice ho0
  have c0 : w.cell? ⟨g, 0, none⟩ = some (.slice A (L / 8) c) := by rw [cell_of_row w g 0 _ _ _ hb0]; rfl
  have c2 : w.cell? ⟨g, 2, none⟩ = some (.int .i64 (L % 8 : Nat)) := by rw [cell_of_row w g 2 _ _ _ hb0]; rfl
  have hLL : L = 8 * (L / 8) + L % 8 := by omega
  have HLL := Lib.hid hLL
  have hk : L / 8 ≤ 1000000000 := by omega
  have hm : L % 8 < 8 := Nat.mod_lt _ (by omega)
  generalize L / 8 = k at *
  generalize L % 8 = m at *
  clear hb0 ho0 hr0 hM hLL hL
  go_enter Try.func10, Try.ntmps10
  go_wp2
  go_quiet (fail)
  go_wp2
  go_ret
  have := HLL.out
  exact ⟨ret_eq (by omega), _, rfl⟩
theorem wlen_nil (w : World) : Calls Try.prog 10 #[.pointer none] w fun e w' => e = .returned (.int .i64 0) ∧ w = w' := by
  go_enter Try.func10, Try.ntmps10
  go_wp2
  go_ret
  exact ⟨rfl, rfl⟩

theorem text_app (l m : List Nat) : text (l ++ m) = text l ++ text m := by
  apply ByteArray.ext
  simp [text]
theorem one_convert (w : World) (y : Nat) (hy : y < 256) : (convert 29 9 (.slice (some ⟨w.heap.size, 0, none⟩) 1 1)).run Try.prog (w.alloc (.cells #[.int .u8 (y : Nat)] 5)) = .ok (.string (text [y])) (w.alloc (.cells #[.int .u8 (y : Nat)] 5)) :=
  run_convert_bytes_back (P := Try.prog) _ 29 9 5 ⟨w.heap.size, 0, none⟩ 1 [UInt8.ofNat y] Try.underlying29 Try.underlying5 Try.underlying9 (fun j hj => by
    obtain rfl : j = 0 := by simpa using hj
    rw [Addr.add_lit, cell_of_row _ _ _ _ _ _ (heap_alloc_new w _)]
    have : (UInt8.ofNat y).toNat = y := Nat.mod_eq_of_lt hy
    simp [this])

set_option maxRecDepth 100000 in
theorem wdone_any (B g : Nat) (r : Option Nat) (M L : Nat) (hL : L ≤ 1000000000) (w : World) (hc : Wr w B g r M L) :
    Calls Try.prog 13 #[.pointer (some ⟨g, 0, none⟩)] w fun e w' => e = .returned (.string (text (le M ((L + 7) / 8)))) ∧ Below w.heap.size w w' := by
  obtain ⟨hM, v0, hb0, ho0, hr0, hBg⟩ := hc
  have hcv := string_of_own ho0 (le_lt M _)
  have hsz : (text (le M (L / 8))).size ≤ 125000000 := by rw [text_size, le_len]; omega
  have c0 : w.cell? ⟨g, 0, none⟩ = some v0 := by rw [cell_of_row w g 0 _ _ _ hb0]; rfl
  have c1 : w.cell? ⟨g, 1, none⟩ = some (.int .u64 (M / 256 ^ (L / 8) : Nat)) := by rw [cell_of_row w g 1 _ _ _ hb0]; rfl
  have c2 : w.cell? ⟨g, 2, none⟩ = some (.int .i64 (L % 8 : Nat)) := by rw [cell_of_row w g 2 _ _ _ hb0]; rfl
  have hql := div_lt M (L / 8) (L % 8) (by rw [show 8 * (L / 8) + L % 8 = L by omega]; exact hM)
  have hm : L % 8 < 8 := Nat.mod_lt _ (by omega)
  by_cases h0 : L % 8 = 0
  · have HT : Hid ((L + 7) / 8 = L / 8) := by show _ = _; omega
    rw [h0] at c2
    generalize hTT : text (le M (L / 8)) = T at *
    have HTT := Lib.hid hTT
    clear hb0 ho0 hr0 hM hql hTT
    go_enter Try.func13, Try.ntmps13
    go_wp2
    go_ret
    exact ⟨by rw [HT.out, HTT.out]; rfl, Below.refl _ _⟩
  · have HT : Hid (text (le M ((L + 7) / 8)) = text (le M (L / 8)) ++ text [M / 256 ^ (L / 8) % 256]) := by
      show _ = _
      rw [show (L + 7) / 8 = L / 8 + 1 by omega, le, text_app]
    have hq : M / 256 ^ (L / 8) < 256 := Nat.lt_of_lt_of_le hql (Nat.pow_le_pow_right (by omega) (show L % 8 ≤ 8 by omega))
    rw [Nat.mod_eq_of_lt hq] at HT
    have h1 := one_convert w _ hq
    have hs1 : (text [M / 256 ^ (L / 8)]).size = 1 := rfl
    generalize text [M / 256 ^ (L / 8)] = T1 at *
    generalize text (le M (L / 8)) = T at *
    generalize M / 256 ^ (L / 8) = q at *
    generalize L % 8 = m at *
    clear hb0 ho0 hr0 hM hql
    go_enter Try.func13, Try.ntmps13
    go_wp2
    go_ret
    exact ⟨by rw [HT.out]; rfl, (Below.refl _ _).alloc (Nat.le_refl _) _⟩
theorem wdone_nil (w : World) : Calls Try.prog 13 #[.pointer none] w fun e w' => e = .returned (.string ⟨#[]⟩) ∧ w = w' := by
  go_enter Try.func13, Try.ntmps13
  go_wp2
  go_ret
  exact ⟨rfl, rfl⟩
end Go.Proofs.Ytfhbkidceombbaa
