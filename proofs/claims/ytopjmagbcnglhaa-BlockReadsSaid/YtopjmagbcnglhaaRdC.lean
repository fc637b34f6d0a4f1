/-
  Bits that stand at a place are read: a block of any kind; by mathematics.
-/
import Derived.Test.YtopjmagbcnglhaaPkCB
import Derived.Test.YtopjmagbcnglhaaPkBC
namespace Go.Proofs.Ytopjmagbcnglhaa
set_option maxRecDepth 100000
set_option linter.unusedVariables false
set_option linter.unusedSimpArgs false
theorem bindM_assoc {α β γ : Type} (m : Mm α) (f : α → Mm β) (g : β → Mm γ) : bindM (bindM m f) g = bindM m (fun x => bindM (f x) g) := by
  funext s a o
  unfold bindM
  cases m s a o with
  | error e => rfl
  | ok p => rfl
theorem bindM_ite {α β : Type} {p : Prop} [Decidable p] (m m' : Mm α) (g : α → Mm β) : bindM (if p then m else m') g = if p then bindM m g else bindM m' g := by split <;> rfl
theorem bindM_fail {α β : Type} (e : Nat) (g : α → Mm β) : bindM (failM e) g = failM e := rfl
theorem bindM_ret {α β : Type} (x : α) (g : α → Mm β) : bindM (retM x) g = g x := rfl
theorem dyn_eq : dynamicM = bindM dynLM fun p => bindM (pairM (codL p.1) (codL p.2)) fun _ => retM (codL p.1, codL p.2) := by
  unfold dynamicM dynLM
  simp only [bindM_assoc, bindM_ite, bindM_fail, bindM_ret]
theorem lstF_app (L : Nat → Nat) (a : Nat) : ∀ m, lstF L (a + m) = lstF L a ++ lstF (fun j => L (a + j)) m
  | 0 => by simp [lstF]
  | m + 1 => by rw [← Nat.add_assoc, lstF_succ, lstF_app L a m, lstF_succ, List.append_assoc]
theorem lstF_same {L L' : Nat → Nat} : ∀ m, (∀ i, i < m → L i = L' i) → lstF L m = lstF L' m
  | 0, _ => rfl
  | m + 1, h => by rw [lstF_succ, lstF_succ, lstF_same m (fun i hi => h i (by omega)), h m (by omega)]
theorem has_dyn {src : Src} {f : Nat → Tok} {n a : Nat} {o : List Nat} (h : Has src a (dynB f n)) : dynLM src a o = .ok ((lstF (dLS f n) (dHS f n), lstF (dLD f n) (dHD f n)), a + (dynB f n).2, o) := by
  obtain ⟨s1, s2⟩ := dHS_bd f n
  obtain ⟨d1, d2⟩ := dHD_bd f n
  obtain ⟨h1, h2⟩ := has_app (wf_app (wf_wB _ _) (wf_wB _ _)) h
  obtain ⟨h3, h4⟩ := has_app (wf_wB _ _) h1
  have r1 := has_read o h3
  have r2 := has_read o h4
  rw [Nat.mod_eq_of_lt (show dHS f n - 257 < 2 ^ 5 by omega)] at r1
  rw [Nat.mod_eq_of_lt (show dHD f n - 1 < 2 ^ 5 by omega)] at r2
  have q1 : (wB (dHS f n - 257) 5).2 = 5 := rfl
  have q2 : ((wB (dHS f n - 257) 5).app (wB (dHD f n - 1) 5)).2 = 10 := rfl
  rw [q1] at r2
  rw [q2] at h2
  obtain ⟨r3, r4, r5⟩ := has_row (o := o) (show 258 ≤ dHS f n + dHD f n by omega) (by omega) (dRow_le f n) (dRow_nz f n) h2
  have e1 : a + (dynB f n).2 = a + 10 + (rowBs (dRow f n) (dHS f n + dHD f n)).2 := by
    show a + (10 + _) = _
    omega
  rw [e1]
  unfold dynLM
  rw [bindR_ok r1, bindR_ok r2, show a + 5 + 5 = a + 10 by omega, bindR_ok r3, if_neg (by omega), bindR_ok r4, show 257 + (dHS f n - 257) + (1 + (dHD f n - 1)) = dHS f n + dHD f n by omega, bindR_ok r5, lstF_get _ _ _ (by omega)]
  have hz : dRow f n 256 ≠ 0 := by
    have h2 := (dLS_pos f n 256 (by omega)).2 (cA_256 f n)
    rw [dRow, if_pos (by omega)]
    omega
  rw [if_neg hz, show 257 + (dHS f n - 257) = dHS f n by omega, lstF_app, List.take_left' (lstF_len _ _), List.drop_left' (lstF_len _ _)]
  have c1 : lstF (dRow f n) (dHS f n) = lstF (dLS f n) (dHS f n) := lstF_same _ fun i hi => by unfold dRow; rw [if_pos hi]
  have c2 : lstF (fun j => dRow f n (dHS f n + j)) (dHD f n) = lstF (dLD f n) (dHD f n) := lstF_same _ fun i hi => by
    show dRow f n (dHS f n + i) = _
    unfold dRow
    rw [if_neg (by omega), show dHS f n + i - dHS f n = i by omega]
  rw [c1, c2]
  rfl
theorem dynS_may (f : Nat → Tok) (n : Nat) : may (dynS f n) true := may_shr (cA f n) 286 257 (by omega)
theorem dynD_may (f : Nat → Tok) (n : Nat) : may (dynD f n) true := may_shr (cB f n) 30 1 (by omega)
theorem has_dynamic {src : Src} {f : Nat → Tok} {n a : Nat} {o : List Nat} (h : Has src a (dynB f n)) : dynamicM src a o = .ok ((codL (lstF (dLS f n) (dHS f n)), codL (lstF (dLD f n) (dHD f n))), a + (dynB f n).2, o) := by
  rw [dyn_eq, bindR_ok (has_dyn h)]
  dsimp only
  unfold pairM makeM
  rw [if_pos (may_same (cod_lst _ _) (dynS_may f n)), if_pos (may_same (cod_lst _ _) (dynD_may f n))]
  rfl
theorem bump_ge (F : Nat → Nat) (j i : Nat) : F i ≤ bump F j i := by
  unfold bump
  split
  · rename_i e; subst e; omega
  · omega
theorem bump_at (F : Nat → Nat) (j : Nat) : 0 < bump F j j := by unfold bump; rw [if_pos rfl]; omega
theorem cA_up (f : Nat → Tok) (k i : Nat) : cA f k i ≤ cA f (k + 1) i := by
  rw [cA]
  split
  · split <;> exact bump_ge _ _ _
  · exact Nat.le_refl _
theorem cB_up (f : Nat → Tok) (k i : Nat) : cB f k i ≤ cB f (k + 1) i := by
  rw [cB]
  split
  · split
    · exact Nat.le_refl _
    · exact bump_ge _ _ _
  · exact Nat.le_refl _
theorem cA_pos (f : Nat → Tok) (i : Nat) (hr : rightT (f i) = true) : ∀ n, i < n → ((f i).l = 0 → 0 < cA f n (f i).b) ∧ ((f i).l ≠ 0 → 0 < cA f n (lsg (f i).l.toNat) ∧ 0 < cB f n (dsg (f i).d.toNat))
  | 0, h => by omega
  | n + 1, h => by
    by_cases e : i = n
    · subst e
      refine ⟨fun h0 => ?_, fun h0 => ⟨?_, ?_⟩⟩
      · rw [cA, if_pos hr, if_pos h0]; exact bump_at _ _
      · rw [cA, if_pos hr, if_neg h0]; exact bump_at _ _
      · rw [cB, if_pos hr, if_neg h0]; exact bump_at _ _
    · obtain ⟨h1, h2⟩ := cA_pos f i hr n (by omega)
      exact ⟨fun h0 => Nat.lt_of_lt_of_le (h1 h0) (cA_up _ _ _), fun h0 => ⟨Nat.lt_of_lt_of_le (h2 h0).1 (cA_up _ _ _), Nat.lt_of_lt_of_le (h2 h0).2 (cB_up _ _ _)⟩⟩
theorem shr_lt {L : Nat → Nat} {l m i : Nat} (hi : i < m) (h : L i ≠ 0) : i < shrN L l m := by
  by_cases h1 : i < shrN L l m
  · exact h1
  · exact absurd (shrN_zero L l m i (by omega) hi) h
theorem uses_dyn {f : Nat → Tok} {n i : Nat} (hi : i < n) (hr : rightT (f i) = true) (hb : (f i).b < 256) : UsesT (dynS f n) (dynD f n) (f i) := by
  obtain ⟨h1, h2⟩ := cA_pos f i hr n hi
  refine ⟨hr, fun h0 => ⟨hb, ?_⟩, fun h0 => ?_⟩
  · have h3 := (dLS_pos f n (f i).b (by omega)).2 (h1 h0)
    exact ⟨shr_lt (by omega) (by omega), h3⟩
  · obtain ⟨_, l1, l2, d1, d2⟩ := right_copy hr h0
    obtain ⟨e1, e2, _⟩ := lsg_ok (f i).l.toNat (by omega) (by omega)
    obtain ⟨g1, _⟩ := dsg_at (f i).d.toNat (by omega) (by omega)
    obtain ⟨k1, k2⟩ := h2 h0
    have h3 := (dLS_pos f n _ (show lsg (f i).l.toNat < 286 by omega)).2 k1
    have h4 := (dLD_pos f n _ (show dsg (f i).d.toNat < 30 by omega)).2 k2
    exact ⟨shr_lt (by omega) (by omega), h3, shr_lt (by omega) (by omega), h4⟩
theorem fixS_pos : ∀ i, i < 288 → 1 ≤ fixS.ls i := by decide +kernel
theorem fixD_pos : ∀ i, i < 32 → 1 ≤ fixD.ls i := by decide +kernel
theorem uses_fix {t : Tok} (hr : rightT t = true) (hb : t.b < 256) : UsesT fixS fixD t := by
  refine ⟨hr, fun h0 => ⟨hb, ?_, fixS_pos _ (by omega)⟩, fun h0 => ?_⟩
  · show t.b < 288; omega
  · obtain ⟨_, l1, l2, d1, d2⟩ := right_copy hr h0
    obtain ⟨e1, e2, _⟩ := lsg_ok t.l.toNat (by omega) (by omega)
    obtain ⟨g1, _⟩ := dsg_at t.d.toNat (by omega) (by omega)
    exact ⟨show _ < 288 by omega, fixS_pos _ (by omega), show _ < 32 by omega, fixD_pos _ (by omega)⟩
theorem fixS_ok : CodOk fixS := ⟨by decide, bx_15, bx_may.1⟩
theorem fixD_ok : CodOk fixD := ⟨by decide, bd_15, bd_may.1⟩
theorem dynS_ok (f : Nat → Tok) (n : Nat) : CodOk (dynS f n) := ⟨by have := (dHS_bd f n).2; show dHS f n ≤ 4096; omega, fun i hi => dLS_le f n i (by have := (dHS_bd f n).2; have : i < dHS f n := hi; omega), (dynS_may f n).1⟩
theorem dynD_ok (f : Nat → Tok) (n : Nat) : CodOk (dynD f n) := ⟨by have := (dHD_bd f n).2; show dHD f n ≤ 4096; omega, fun i hi => dLD_le f n i (by have := (dHD_bd f n).2; have : i < dHD f n := hi; omega), (dynD_may f n).1⟩
theorem bytesAt_shift (N a : Nat) : ∀ n, bytesAt N a n = bytesAt (N / 2 ^ a) 0 n
  | 0 => rfl
  | n + 1 => by
    rw [bytesAt, bytesAt, bytesAt_shift N a n]
    unfold bitsAt
    rw [Nat.zero_add, Nat.pow_add, Nat.div_div_eq_div_mul]
theorem has_bytes {src : Src} {a : Nat} {s : ByteArray} (h : Has src a (num s, 8 * s.size)) : bytesAt src.N a s.size = nums s := by
  have h1 : src.N / 2 ^ a % 2 ^ (8 * s.size) = num s := h.1
  have h2 := nums_extract s 0 s.size (by omega)
  rw [bytesAt_shift, bytesAt_agree (N' := num s) s.size (by rw [Nat.zero_add, h1, Nat.mod_eq_of_lt (num_lt s)])]
  rw [Nat.mul_zero] at h2
  rw [← h2, Nat.zero_add]
  congr 1
  apply ByteArray.ext
  simp
/-- What a block is read as. -/
def blkT (k : Nat) (f : Nat → Tok) (n : Nat) (s : ByteArray) : List Nat := if k = 0 then nums s else expO f n
theorem flag_lt (last : Bool) : (if last = true then 1 else 0) % 2 ^ 1 = if last = true then 1 else 0 := by cases last <;> rfl
theorem flag_eq (last : Bool) : (((if last = true then 1 else 0 : Nat)) == 1) = last := by cases last <;> rfl
theorem wf_align {P : Bs} (h : WfB P) : WfB (P.1, up8 P.2) := Nat.lt_of_lt_of_le h (Nat.pow_le_pow_right (by omega) (up8_ge P.2))
theorem has_align {src : Src} {P : Bs} (hw : WfB P) (h : Has src 0 (P.1, up8 P.2)) : Has src 0 P := by
  obtain ⟨h1, h2⟩ := h
  have h1' : src.N / 2 ^ 0 % 2 ^ up8 P.2 = P.1 := h1
  have h2' : 0 + up8 P.2 ≤ src.L := h2
  have := up8_ge P.2
  refine ⟨?_, by omega⟩
  show src.N / 2 ^ 0 % 2 ^ P.2 = P.1
  rw [← Nat.mod_mod_of_dvd (src.N / 2 ^ 0) (Nat.pow_dvd_pow 2 this), h1', Nat.mod_eq_of_lt hw]
/-- The two numbers ahead of a block. -/
theorem has_head {src : Src} {P : Bs} {b k : Nat} {o : List Nat} (hP : WfB P) (hb : b % 2 ^ 1 = b) (hk : k < 4) (h : Has src 0 ((P.app (wB b 1)).app (wB k 2))) : Has src 0 P ∧
    blockM src P.2 o = (if k = 0 then (bindM storedM fun _ => retM (b == 1)) else if k = 1 then (bindM (signsM fixS fixD) fun _ => retM (b == 1)) else if k = 2 then (bindM dynamicM fun p => bindM (signsM p.1 p.2) fun _ => retM (b == 1)) else failM 12) src (P.2 + 3) o := by
  obtain ⟨h1, h2⟩ := has_app (wf_app hP (wf_wB _ _)) h
  obtain ⟨h3, h4⟩ := has_app hP h1
  refine ⟨h3, ?_⟩
  have r1 := has_read o h4
  have r2 := has_read o h2
  have q : 0 + (P.app (wB b 1)).2 = P.2 + 1 := by show 0 + (P.2 + 1) = _; omega
  rw [q] at r2
  rw [Nat.zero_add, hb] at r1
  rw [Nat.mod_eq_of_lt (show k < 2 ^ 2 by omega)] at r2
  unfold blockM
  rw [bindR_ok r1, bindR_ok r2]
theorem has_stored {src : Src} {P : Bs} {s : ByteArray} {o : List Nat} (hP : WfB P) (hs : s.size ≤ 65535) (hl : o.length + s.size ≤ src.lim) (h : Has src 0 (stB s P)) : Has src 0 P ∧ storedM src P.2 o = .ok ((), (stB s P).2, o ++ nums s) := by
  obtain ⟨h1, h2⟩ := has_app (wf_app (wf_app (wf_align hP) (wf_wB _ _)) (wf_wB _ _)) h
  obtain ⟨h3, h4⟩ := has_app (wf_app (wf_align hP) (wf_wB _ _)) h1
  obtain ⟨h5, h6⟩ := has_app (wf_align hP) h3
  refine ⟨has_align hP h5, ?_⟩
  have r1 := has_read o h6
  have r2 := has_read o h4
  have e0 : (stB s P).2 = up8 P.2 + 16 + 16 + 8 * s.size := rfl
  have e1 : 0 + ((P.1, up8 P.2) : Bs).2 = up8 P.2 := by show 0 + up8 P.2 = _; omega
  have e2 : 0 + (Bs.app (P.1, up8 P.2) (wB s.size 16)).2 = up8 P.2 + 16 := by show 0 + (up8 P.2 + 16) = _; omega
  have e3 : 0 + ((Bs.app (P.1, up8 P.2) (wB s.size 16)).app (wB (65535 - s.size) 16)).2 = up8 P.2 + 16 + 16 := by show 0 + (up8 P.2 + 16 + 16) = _; omega
  rw [e1, Nat.mod_eq_of_lt (show s.size < 2 ^ 16 by omega)] at r1
  rw [e2, Nat.mod_eq_of_lt (show 65535 - s.size < 2 ^ 16 by omega)] at r2
  rw [e3] at h2
  rw [e0]
  unfold storedM
  rw [bindR_ok (show alignM src P.2 o = .ok ((), up8 P.2, o) from rfl), bindR_ok r1, bindR_ok r2, if_pos (by omega)]
  unfold storeM
  rw [if_pos hl, if_pos (show up8 P.2 + 16 + 16 + 8 * s.size ≤ src.L from h2.2), has_bytes h2]
/-- A block, read. -/
theorem has_block {src : Src} {P : Bs} {k n : Nat} {f : Nat → Tok} {s : ByteArray} {last : Bool} {o : List Nat} (hP : WfB P) (hk : k ≤ 2) (hs : k = 0 → s.size ≤ 65535) (hr : k ≠ 0 → ∀ i, i < n → rightT (f i) = true ∧ (f i).b < 256) (he : k ≠ 0 → expE f n = 0)
    (hl : o.length + (blkT k f n s).length ≤ src.lim) (h : Has src 0 (blkB k f n s last P)) : Has src 0 P ∧ blockM src P.2 o = .ok (last, (blkB k f n s last P).2, o ++ blkT k f n s) := by
  have hb : (if last = true then 1 else 0) % 2 ^ 1 = if last = true then 1 else 0 := flag_lt last
  have wf3 : WfB ((P.app (wB (if last = true then 1 else 0) 1)).app (wB k 2)) := wf_app (wf_app hP (wf_wB _ _)) (wf_wB _ _)
  have q3 : ((P.app (wB (if last = true then 1 else 0) 1)).app (wB k 2)).2 = P.2 + 3 := by show P.2 + 1 + 2 = _; omega
  unfold blkT at hl ⊢
  by_cases h0 : k = 0
  · rw [if_pos h0] at hl ⊢
    rw [nums_len] at hl
    have hB : blkB k f n s last P = stB s ((P.app (wB (if last = true then 1 else 0) 1)).app (wB k 2)) := by unfold blkB; rw [if_pos h0]
    rw [hB] at h ⊢
    obtain ⟨g1, g2⟩ := has_stored (o := o) wf3 (hs h0) hl h
    obtain ⟨g3, g4⟩ := has_head (o := o) hP hb (by omega) g1
    refine ⟨g3, ?_⟩
    rw [q3] at g2
    rw [g4, if_pos h0, bindR_ok g2, flag_eq]
    rfl
  · rw [if_neg h0] at hl ⊢
    by_cases h1 : k = 1
    · have hB : blkB k f n s last P = ((P.app (wB (if last = true then 1 else 0) 1)).app (wB k 2)).app ((toksB fixS fixD f n).app (sgB fixS 256)) := by unfold blkB; rw [if_neg h0, if_pos h1, bs_assoc]
      rw [hB] at h ⊢
      obtain ⟨g1, g2⟩ := has_app wf3 h
      obtain ⟨g3, g4⟩ := has_head (o := o) hP hb (by omega) g1
      refine ⟨g3, ?_⟩
      have g5 := has_signs (o := o) fixS_ok fixD_ok (fun i hi => uses_fix (hr h0 i hi).1 (hr h0 i hi).2) (he h0) hl (by decide) (fixS_pos 256 (by omega)) g2
      have e1 : (((P.app (wB (if last = true then 1 else 0) 1)).app (wB k 2)).app ((toksB fixS fixD f n).app (sgB fixS 256))).2 = P.2 + 3 + ((toksB fixS fixD f n).app (sgB fixS 256)).2 := by rw [← q3]; rfl
      rw [Nat.zero_add, q3] at g5
      rw [g4, if_neg h0, if_pos h1, bindR_ok g5, flag_eq, e1]
      rfl
    · have h2 : k = 2 := by omega
      have hB : blkB k f n s last P = (((P.app (wB (if last = true then 1 else 0) 1)).app (wB k 2)).app (dynB f n)).app ((toksB (dynS f n) (dynD f n) f n).app (sgB (dynS f n) 256)) := by unfold blkB; rw [if_neg h0, if_neg h1, bs_assoc _ (toksB _ _ _ _) _]
      have wfd : WfB (dynB f n) := wf_app (wf_app (wf_wB _ _) (wf_wB _ _)) (wf_app (wf_app (wf_wB _ _) (wf_threeB _ _)) (wf_pcB _ _ _ _))
      rw [hB] at h ⊢
      obtain ⟨g1, g2⟩ := has_app (wf_app wf3 wfd) h
      obtain ⟨g6, g7⟩ := has_app wf3 g1
      obtain ⟨g3, g4⟩ := has_head (o := o) hP hb (by omega) g6
      refine ⟨g3, ?_⟩
      rw [Nat.zero_add, q3] at g7
      have g8 := has_dynamic (o := o) g7
      have q4 : 0 + (((P.app (wB (if last = true then 1 else 0) 1)).app (wB k 2)).app (dynB f n)).2 = P.2 + 3 + (dynB f n).2 := by rw [← q3, Nat.zero_add]; rfl
      rw [q4, toksB_same (cod_lst (dLS f n) (dHS f n)) (cod_lst (dLD f n) (dHD f n)) f n |> fun e => (show toksB (dynS f n) (dynD f n) f n = _ from e), (show sgB (dynS f n) 256 = _ from sgB_same (cod_lst (dLS f n) (dHS f n)) 256)] at g2
      have hc2 := cod_lst (dLS f n) (dHS f n)
      have hd2 := cod_lst (dLD f n) (dHD f n)
      have hlt : 256 < dHS f n := by have := (dHS_bd f n).1; omega
      have hps : 1 ≤ dLS f n 256 := (dLS_pos f n 256 (by omega)).2 (cA_256 f n)
      have g5 := has_signs (o := o) ((dynS_ok f n).same hc2) ((dynD_ok f n).same hd2) (fun i hi => by
        obtain ⟨u1, u2, u3⟩ := uses_dyn hi (hr h0 i hi).1 (hr h0 i hi).2
        refine ⟨u1, fun z => ?_, fun z => ?_⟩
        · obtain ⟨v1, v2, v3⟩ := u2 z
          exact ⟨v1, by rw [← hc2.1]; exact v2, by rw [← hc2.2 _ v2]; exact v3⟩
        · obtain ⟨v1, v2, v3, v4⟩ := u3 z
          exact ⟨by rw [← hc2.1]; exact v1, by rw [← hc2.2 _ v1]; exact v2, by rw [← hd2.1]; exact v3, by rw [← hd2.2 _ v3]; exact v4⟩) (he h0) hl (by rw [← hc2.1]; exact hlt) (by rw [← hc2.2 _ hlt]; exact hps) g2
      have e1 : ((((P.app (wB (if last = true then 1 else 0) 1)).app (wB k 2)).app (dynB f n)).app ((toksB (dynS f n) (dynD f n) f n).app (sgB (dynS f n) 256))).2 = P.2 + 3 + (dynB f n).2 + ((toksB (codL (lstF (dLS f n) (dHS f n))) (codL (lstF (dLD f n) (dHD f n))) f n).app (sgB (codL (lstF (dLS f n) (dHS f n))) 256)).2 := by
        rw [← toksB_same hc2 hd2, ← sgB_same hc2, ← q3]
        rfl
      rw [g4, if_neg h0, if_neg h1, if_pos h2, bindR_ok g8]
      dsimp only
      rw [bindR_ok g5, flag_eq, e1]
      rfl
theorem infl_one {src : Src} {a1 : Nat} {o1 : List Nat} (h : blockM src 0 [] = .ok (true, a1, o1)) : inflM src 0 [] = .ok ((), a1, o1) :=
  loop_of (.done (show blockStep () src 0 [] = .ok (.inr (), a1, o1) from (bindR_ok h).trans rfl))
theorem infl_two {src : Src} {a1 a2 : Nat} {o1 o2 : List Nat} (h : blockM src 0 [] = .ok (false, a1, o1)) (k : blockM src a1 o1 = .ok (true, a2, o2)) : inflM src 0 [] = .ok ((), a2, o2) :=
  loop_of (.more (show blockStep () src 0 [] = .ok (.inl (), a1, o1) from (bindR_ok h).trans rfl) (.done (show blockStep () src a1 o1 = .ok (.inr (), a2, o2) from (bindR_ok k).trans rfl)))
theorem wf_stB (s : ByteArray) {P : Bs} (h : WfB P) : WfB (stB s P) := wf_app (wf_app (wf_app (wf_align h) (wf_wB _ _)) (wf_wB _ _)) (num_lt s)
theorem wf_blkB (k : Nat) (f : Nat → Tok) (n : Nat) (s : ByteArray) (last : Bool) {P : Bs} (h : WfB P) : WfB (blkB k f n s last P) := by
  have wf3 : WfB ((P.app (wB (if last = true then 1 else 0) 1)).app (wB k 2)) := wf_app (wf_app h (wf_wB _ _)) (wf_wB _ _)
  unfold blkB
  split
  · exact wf_stB s wf3
  · split
    · exact wf_app (wf_app wf3 (wf_toksB _ _ _ _)) (wf_sgB _ _)
    · exact wf_app (wf_app (wf_app wf3 (wf_app (wf_app (wf_wB _ _) (wf_wB _ _)) (wf_app (wf_app (wf_wB _ _) (wf_threeB _ _)) (wf_pcB _ _ _ _)))) (wf_toksB _ _ _ _)) (wf_sgB _ _)
end Go.Proofs.Ytopjmagbcnglhaa
