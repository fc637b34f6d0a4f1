/-
 Bits that stand at a place are read: numbers, signs, tokens; by mathematics.
 Bits that stand at a place are read: codes that are equal, rows of lengths, a dynamic block's head; by mathematics.
 Bits that stand at a place are read: a block of any kind; by mathematics.
-/
import Derived.Test.YtmkeicfklbepnaaGreatRfM
import Derived.Test.YtmkeicfklbepnaaGreatPkCG
import Derived.Test.YtmkeicfklbepnaaGreatPkBE

namespace Go.Proofs.YtmkeicfklbepnaaGreat
set_option maxRecDepth 100000
set_option linter.unusedVariables false
set_option linter.unusedSimpArgs false
/-- At a place of a source these bits stand. -/
def Has (src : Src) (a : Nat) (p : Bs) : Prop := bitsAt src.N a p.2 = p.1 ∧ a + p.2 ≤ src.L
def WfB (p : Bs) : Prop := p.1 < 2 ^ p.2
theorem wf_wB (v n : Nat) : WfB (wB v n) := Nat.mod_lt _ (Nat.two_pow_pos n)
theorem wf_nil : WfB (0, 0) := by unfold WfB; decide
theorem wf_app {p q : Bs} (hp : WfB p) (hq : WfB q) : WfB (p.app q) := by
 unfold WfB Bs.app at *
 show p.1 + q.1 * 2 ^ p.2 < 2 ^ (p.2 + q.2)
 rw [Nat.pow_add]
 have h1 : (q.1 + 1) * 2 ^ p.2 ≤ 2 ^ q.2 * 2 ^ p.2 := Nat.mul_le_mul_right _ hq
 rw [Nat.add_mul, Nat.one_mul] at h1
 rw [Nat.mul_comm (2 ^ p.2)]
 omega
theorem wf_sgB (c : Cod) (i : Nat) : WfB (sgB c i) := by
 unfold sgB
 split
 ·exact rev_lt _ _
 ·exact wf_nil
theorem has_app {src : Src} {a : Nat} {p q : Bs} (hp : WfB p) (h : Has src a (p.app q)) : Has src a p ∧ Has src (a + p.2) q := by
 obtain ⟨h1, h2⟩ := h
 have h2' : a + (p.2 + q.2) ≤ src.L := h2
 have h1' : src.N / 2 ^ a % 2 ^ (p.2 + q.2) = p.1 + q.1 * 2 ^ p.2 := h1
 have hp' : p.1 < 2 ^ p.2 := hp
 refine ⟨⟨?_, by omega⟩, ⟨?_, by omega⟩⟩
 ·show src.N / 2 ^ a % 2 ^ p.2 = p.1
  rw [← Nat.mod_mod_of_dvd (src.N / 2 ^ a) (Nat.pow_dvd_pow 2 (Nat.le_add_right p.2 q.2)), h1', Nat.add_mul_mod_self_right, Nat.mod_eq_of_lt hp']
 ·show src.N / 2 ^ (a + p.2) % 2 ^ q.2 = q.1
  rw [Nat.pow_add, ← Nat.div_div_eq_div_mul, ← Nat.mod_mul_right_div_self, ← Nat.pow_add, h1', Nat.add_mul_div_right _ _ (Nat.two_pow_pos _), Nat.div_eq_of_lt hp', Nat.zero_add]
theorem has_read {src : Src} {a v n : Nat} (o : List Nat) (h : Has src a (wB v n)) : readM1 n src a o = .ok (v % 2 ^ n, a + n, o) := by
 obtain ⟨h1, h2⟩ := h
 have h1' : bitsAt src.N a n = v % 2 ^ n := h1
 have h2' : a + n ≤ src.L := h2
 unfold readM1
 rw [if_pos h2', h1']
theorem rev_back (v n : Nat) : rev (rev v n) n = v % 2 ^ n := by
 apply Nat.eq_of_testBit_eq
 intro i
 rw [rev_bit, rev_bit, Nat.testBit_mod_two_pow]
 by_cases h : i < n
 ·simp only [h, decide_true, Bool.true_and]
  rw [show n - 1 - (n - 1 - i) = i by omega]
  simp [show n - 1 - i < n by omega]
 ·simp [h]
theorem has_sign {src : Src} {a i : Nat} {c : Cod} (o : List Nat) (hi : i < c.n) (h1 : 1 ≤ c.ls i) (h15 : ∀ i, i < c.n → c.ls i ≤ 15) (hf : fillN c.ls c.n ≤ 32768) (h : Has src a (sgB c i)) : signM c src a o = .ok (i, a + c.ls i, o) := by
 unfold sgB at h
 rw [if_pos hi] at h
 obtain ⟨h2, h3⟩ := h
 have h2' : src.N / 2 ^ a % 2 ^ c.ls i = rev (c.W i) (c.ls i) := h2
 refine sign_hit0 c src a i o hi h1 ?_ (le_max c.ls c.n i hi) h3
 rw [rev_mod, h2', rev_back]
 exact Nat.mod_eq_of_lt (word_lt0 c.ls c.n h15 hf i hi)
theorem sgB_len {c : Cod} {i : Nat} (hi : i < c.n) : (sgB c i).2 = c.ls i := by unfold sgB; rw [if_pos hi]
/-- A code may be used for these. -/
structure CodOk (c : Cod) : Prop where
 n : c.n ≤ 4096
 le : ∀ i, i < c.n → c.ls i ≤ 15
 fill : fillN c.ls c.n ≤ 32768
/-- All that a token asks has a word. -/
def UsesT (c d : Cod) (t : Tok) : Prop := rightT t = true ∧ (t.l = 0 → t.b < 256 ∧ t.b < c.n ∧ 1 ≤ c.ls t.b) ∧ (t.l ≠ 0 → lsg t.l.toNat < c.n ∧ 1 ≤ c.ls (lsg t.l.toNat) ∧ dsg t.d.toNat < d.n ∧ 1 ≤ d.ls (dsg t.d.toNat))
theorem copy_same (o : List Nat) (d : Nat) : ∀ k, copyL o d k = copyT o d k
 | 0 => rfl
 | k + 1 => by rw [copyL, copyT, copy_same o d k]
theorem dsg_at (n : Nat) (h1 : 1 ≤ n) (h2 : n ≤ 32768) : dsg n ≤ 29 ∧ (distOf (dsg n)).1 ≤ n ∧ n < (distOf (dsg n)).1 + 2 ^ (distOf (dsg n)).2 ∧ (distOf (dsg n)).1 ≠ 0 := by
 obtain ⟨h3, h4, h5⟩ := dsg_ok n h1 h2
 have h6 := fb_step (dsg n) (by omega)
 rw [h6.2.2.2.2.2]
 dsimp only
 refine ⟨h3, h4, by rw [← h6.1]; exact h5, ?_⟩
 unfold fbN
 omega
theorem wf_tokB (c d : Cod) (t : Tok) : WfB (tokB c d t) := by
 unfold tokB
 split
 ·exact wf_sgB _ _
 ·exact wf_app (wf_app (wf_app (wf_sgB _ _) (wf_wB _ _)) (wf_sgB _ _)) (wf_wB _ _)
theorem wf_toksB (c d : Cod) (f : Nat → Tok) : ∀ k, WfB (toksB c d f k)
 | 0 => wf_nil
 | k + 1 => wf_app (wf_toksB c d f k) (wf_tokB c d (f k))
theorem has_tok {src : Src} {a : Nat} {c d : Cod} {t : Tok} {o : List Nat} (hc : CodOk c) (hd : CodOk d) (hu : UsesT c d t) (hdist : t.d ≤ o.length) (hlim : (stepT o t).length ≤ src.lim) (h : Has src a (tokB c d t)) : stepM c d () src a o = .ok (.inl (), a + (tokB c d t).2, stepT o t) := by
 obtain ⟨hr, hu0, hu1⟩ := hu
 unfold tokB at h ⊢
 unfold stepT at hlim ⊢
 by_cases h0 : t.l = 0
 ·rw [if_pos h0] at h hlim ⊢
  rw [if_pos h0]
  obtain ⟨g1, g2, g3⟩ := hu0 h0
  rw [st_byte (has_sign o g2 g3 hc.le hc.fill h) g1, sgB_len g2]
  rw [List.length_append] at hlim
  rw [bindR_ok (show putM t.b src (a + c.ls t.b) o = .ok ((), a + c.ls t.b, o ++ [t.b]) from if_pos hlim)]
  rfl
 ·rw [if_neg h0] at h hlim ⊢
  rw [if_neg h0]
  obtain ⟨g1, g2, g3, g4⟩ := hu1 h0
  obtain ⟨_, l1, l2, d1, d2⟩ := right_copy hr h0
  obtain ⟨tb, tl, td⟩ := t
  dsimp only at *
  obtain ⟨L, rfl⟩ : ∃ L : Nat, tl = L := ⟨tl.toNat, by omega⟩
  obtain ⟨D, rfl⟩ : ∃ D : Nat, td = D := ⟨td.toNat, by omega⟩
  simp only [Int.toNat_natCast] at *
  obtain ⟨e1, e2, e3, e4, _⟩ := lsg_ok L (by omega) (by omega)
  obtain ⟨f1, f2, f3, f4⟩ := dsg_at D (by omega) (by omega)
  obtain ⟨ha, h4⟩ := has_app (wf_app (wf_app (wf_sgB _ _) (wf_wB _ _)) (wf_sgB _ _)) h
  obtain ⟨hb, h3⟩ := has_app (wf_app (wf_sgB _ _) (wf_wB _ _)) ha
  obtain ⟨h1, h2⟩ := has_app (wf_sgB _ _) hb
  have s1 := has_sign o g1 g2 hc.le hc.fill h1
  rw [st_again s1 (by omega)]
  have r1 := has_read o h2
  rw [sgB_len g1] at r1
  rw [Nat.mod_eq_of_lt (by omega)] at r1
  have hl0 : (lenOf (lsg L)).1 ≠ 0 := by
   have h9 : (lenOf (lsg L)).1 ≤ L := e3
   intro e
   have : ∀ k, k < 286 → 257 ≤ k → (lenOf k).1 ≠ 0 := by decide +kernel
   exact this (lsg L) (by omega) e1 e
  have q2 : (wB (L - (lenOf (lsg L)).1) (lenOf (lsg L)).2).2 = (lenOf (lsg L)).2 := rfl
  have q4 : (wB (D - (distOf (dsg D)).1) (distOf (dsg D)).2).2 = (distOf (dsg D)).2 := rfl
  have s3 := has_sign o g3 g4 hd.le hd.fill h3
  have r4 := has_read o h4
  have p3 : a + ((sgB c (lsg L)).app (wB (L - (lenOf (lsg L)).1) (lenOf (lsg L)).2)).2 = a + c.ls (lsg L) + (lenOf (lsg L)).2 := by
   show a + ((sgB c (lsg L)).2 + _) = _
   rw [sgB_len g1, q2]; omega
  have p4 : a + (((sgB c (lsg L)).app (wB (L - (lenOf (lsg L)).1) (lenOf (lsg L)).2)).app (sgB d (dsg D))).2 = a + c.ls (lsg L) + (lenOf (lsg L)).2 + d.ls (dsg D) := by
   show a + ((sgB c (lsg L)).2 + _ + (sgB d (dsg D)).2) = _
   rw [sgB_len g1, sgB_len g3, q2]; omega
  have p5 : a + ((((sgB c (lsg L)).app (wB (L - (lenOf (lsg L)).1) (lenOf (lsg L)).2)).app (sgB d (dsg D))).app (wB (D - (distOf (dsg D)).1) (distOf (dsg D)).2)).2 = a + c.ls (lsg L) + (lenOf (lsg L)).2 + d.ls (dsg D) + (distOf (dsg D)).2 := by
   rw [← p4]
   show a + (_ + _) = _
   rw [q4]; omega
  rw [p3] at s3
  rw [p4, Nat.mod_eq_of_lt (by omega)] at r4
  rw [p5]
  rw [copyT_len] at hlim
  have hw : againM (lsg L) d src (a + c.ls (lsg L)) o = .ok ((), a + c.ls (lsg L) + (lenOf (lsg L)).2 + d.ls (dsg D) + (distOf (dsg D)).2, copyT o D L) := by
   unfold againM
   rw [bindR_ok (x := L) (a1 := a + c.ls (lsg L) + (lenOf (lsg L)).2) (o1 := o) (by
    unfold numberM
    rw [if_neg hl0, bindR_ok r1]
    show Except.ok ((lenOf (lsg L)).1 + (L - (lenOf (lsg L)).1), _, _) = _
    rw [show (lenOf (lsg L)).1 + (L - (lenOf (lsg L)).1) = L by omega])]
   rw [bindR_ok s3]
   rw [bindR_ok (x := D) (a1 := a + c.ls (lsg L) + (lenOf (lsg L)).2 + d.ls (dsg D) + (distOf (dsg D)).2) (o1 := o) (by
    unfold numberM
    rw [if_neg f4, bindR_ok r4]
    show Except.ok ((distOf (dsg D)).1 + (D - (distOf (dsg D)).1), _, _) = _
    rw [show (distOf (dsg D)).1 + (D - (distOf (dsg D)).1) = D by omega])]
   unfold copyM
   rw [if_neg (by omega), if_pos hlim, copy_same]
  rw [bindR_ok hw]
  rfl
/-- Tokens behind a text. -/
theorem copyT_behind (o x : List Nat) (d : Nat) (h1 : 1 ≤ d) (h2 : d ≤ x.length) : ∀ k, copyT (o ++ x) d k = o ++ copyT x d k
 | 0 => rfl
 | k + 1 => by
  rw [copyT, copyT, copyT_behind o x d h1 h2 k, List.append_assoc]
  congr 2
  have hl := copyT_len x d k
  rw [List.length_append, List.getD_eq_getElem?_getD, List.getD_eq_getElem?_getD, List.getElem?_append_right (by omega)]
  rw [show o.length + (copyT x d k).length - d - o.length = (copyT x d k).length - d by omega]
theorem stepT_behind (o x : List Nat) (t : Tok) (hr : rightT t = true) (h : t.d ≤ x.length) : stepT (o ++ x) t = o ++ stepT x t := by
 unfold stepT
 by_cases h0 : t.l = 0
 ·rw [if_pos h0, if_pos h0, List.append_assoc]
 ·rw [if_neg h0, if_neg h0]
  obtain ⟨_, _, _, d1, _⟩ := right_copy hr h0
  exact copyT_behind o x _ (by omega) (by omega) _
theorem expO_mono (f : Nat → Tok) (k : Nat) (h : rightT (f k) = true) : (expO f k).length ≤ (expO f (k + 1)).length := by
 have h1 := stepT_len (expO f k) (f k) (right_pos h).1
 have h2 : (1 : Int) ≤ widT (f k) := by unfold widT; omega
 rw [expO]
 omega
theorem has_toks {src : Src} {c d : Cod} {f : Nat → Tok} {o : List Nat} (hc : CodOk c) (hd : CodOk d) (a : Nat) : ∀ n, (∀ i, i < n → UsesT c d (f i)) → expE f n = 0 → o.length + (expO f n).length ≤ src.lim → Has src a (toksB c d f n) →
  ∀ ans, Runs (stepM c d) src () (a + (toksB c d f n).2) (o ++ expO f n) ans → Runs (stepM c d) src () a o ans
 | 0, _, _, _, _, ans, h => by
  have e1 : a + (toksB c d f 0).2 = a := rfl
  have e2 : o ++ expO f 0 = o := List.append_nil o
  rw [e1, e2] at h
  exact h
 | n + 1, hu, he, hl, hh, ans, h => by
  have hr := (hu n (by omega)).1
  have hm := expO_mono f n hr
  obtain ⟨h1, h2⟩ := has_app (wf_toksB c d f n) hh
  have he0 : expE f n = 0 := expE_pre f (n + 1) n (by omega) he
  have hfit : fitsT (f n) (expO f n).length = 0 := by
   rw [expE, if_pos he0] at he
   exact he
  obtain ⟨_, hdist, _⟩ := fits_zero hfit
  refine has_toks hc hd a n (fun i hi => hu i (by omega)) he0 (by omega) h1 ans ?_
  have hst := stepT_behind o (expO f n) (f n) hr hdist
  have hok := has_tok (o := o ++ expO f n) hc hd (hu n (by omega)) (by rw [List.length_append]; omega) (by rw [hst, List.length_append]; exact hl) h2
  rw [hst] at hok
  refine .more hok ?_
  have e1 : a + (toksB c d f n).2 + (tokB c d (f n)).2 = a + (toksB c d f (n + 1)).2 := by rw [Nat.add_assoc]; rfl
  rw [e1]
  exact h
theorem has_signs {src : Src} {c d : Cod} {f : Nat → Tok} {o : List Nat} {a n : Nat} (hc : CodOk c) (hd : CodOk d) (hu : ∀ i, i < n → UsesT c d (f i)) (he : expE f n = 0) (hl : o.length + (expO f n).length ≤ src.lim) (h256 : 256 < c.n) (hw : 1 ≤ c.ls 256) (h : Has src a ((toksB c d f n).app (sgB c 256))) :
  signsM c d src a o = .ok ((), a + ((toksB c d f n).app (sgB c 256)).2, o ++ expO f n) := by
 obtain ⟨h1, h2⟩ := has_app (wf_toksB c d f n) h
 have hs := has_sign (o ++ expO f n) h256 hw hc.le hc.fill h2
 have e1 : a + (toksB c d f n).2 + c.ls 256 = a + ((toksB c d f n).app (sgB c 256)).2 := by
  show _ = a + ((toksB c d f n).2 + (sgB c 256).2)
  rw [sgB_len h256]; omega
 rw [e1] at hs
 exact loop_of (has_toks hc hd a n hu he hl h1 _ (.done (st_end hs)))
end Go.Proofs.YtmkeicfklbepnaaGreat

namespace Go.Proofs.YtmkeicfklbepnaaGreat
set_option maxRecDepth 100000
set_option linter.unusedVariables false
set_option linter.unusedSimpArgs false
/-- The same code, as far as it goes. -/
def CodEq (c c' : Cod) : Prop := c.n = c'.n ∧ ∀ i, i < c.n → c.ls i = c'.ls i
theorem fillN_same {f g : Nat → Nat} : ∀ n, (∀ i, i < n → f i = g i) → fillN f n = fillN g n
 | 0, _ => rfl
 | n + 1, h => by rw [fillN, fillN, fillN_same n (fun i hi => h i (by omega)), h n (by omega)]
theorem sumN_same {f g : Nat → Nat} : ∀ n, (∀ i, i < n → f i = g i) → sumN f n = sumN g n
 | 0, _ => rfl
 | n + 1, h => by rw [sumN, sumN, sumN_same n (fun i hi => h i (by omega)), h n (by omega)]
theorem cntN_same {f g : Nat → Nat} (l : Nat) : ∀ n, (∀ i, i < n → f i = g i) → cntN f l n = cntN g l n
 | 0, _ => rfl
 | n + 1, h => by rw [cntN, cntN, cntN_same l n (fun i hi => h i (by omega)), h n (by omega)]
theorem firstN_same {f g : Nat → Nat} {n : Nat} (h : ∀ i, i < n → f i = g i) : ∀ l, firstN f n l = firstN g n l
 | 0 => rfl
 | l + 1 => by rw [firstN, firstN, firstN_same h l, cntN_same l n h]
theorem sgB_same {c c' : Cod} (h : CodEq c c') (i : Nat) : sgB c i = sgB c' i := by
 obtain ⟨n, ls⟩ := c
 obtain ⟨n', ls'⟩ := c'
 obtain ⟨h1, h2⟩ := h
 dsimp only at h1 h2
 subst h1
 unfold sgB Cod.W wordN
 dsimp only
 by_cases hi : i < n
 ·rw [if_pos hi, if_pos hi]
  have e : ls i = ls' i := h2 i hi
  have e2 : ∀ l, firstN ls n l = firstN ls' n l := firstN_same h2
  have e3 : ∀ l, cntN ls l i = cntN ls' l i := fun l => cntN_same l i (fun j hj => h2 j (by omega))
  simp only [e, e2, e3]
 ·rw [if_neg hi, if_neg hi]
theorem may_same {c c' : Cod} {op : Bool} (h : CodEq c c') (hm : may c op) : may c' op := by
 obtain ⟨n, ls⟩ := c
 obtain ⟨n', ls'⟩ := c'
 obtain ⟨h1, h2⟩ := h
 dsimp only at h1 h2
 subst h1
 unfold may at *
 dsimp only at *
 rw [← fillN_same n h2, ← sumN_same n h2]
 exact hm
theorem CodOk.same {c c' : Cod} (h : CodEq c c') (hm : CodOk c) : CodOk c' := by
 obtain ⟨n, ls⟩ := c
 obtain ⟨n', ls'⟩ := c'
 obtain ⟨h1, h2⟩ := h
 dsimp only at h1 h2
 subst h1
 obtain ⟨q1, q2, q3⟩ := hm
 refine ⟨q1, fun i hi => ?_, ?_⟩
 ·show ls' i ≤ 15
  rw [← h2 i hi]; exact q2 i hi
 ·show fillN ls' n ≤ _
  rw [← fillN_same n h2]; exact q3
theorem tokB_same {c c' d d' : Cod} (h : CodEq c c') (k : CodEq d d') (t : Tok) : tokB c d t = tokB c' d' t := by
 unfold tokB
 rw [sgB_same h, sgB_same h, sgB_same k]
theorem toksB_same {c c' d d' : Cod} (h : CodEq c c') (k : CodEq d d') (f : Nat → Tok) : ∀ n, toksB c d f n = toksB c' d' f n
 | 0 => rfl
 | n + 1 => by rw [toksB, toksB, toksB_same h k f n, tokB_same h k]
theorem lstF_succ (L : Nat → Nat) (m : Nat) : lstF L (m + 1) = lstF L m ++ [L m] := by
 unfold lstF
 rw [List.range_succ, List.map_append]
 rfl
theorem cod_lst (L : Nat → Nat) (m : Nat) : CodEq ⟨m, L⟩ (codL (lstF L m)) := ⟨(lstF_len L m).symm, fun i hi => (lstF_get L m i hi).symm⟩
theorem wf_threeB (L : Nat → Nat) : ∀ k, WfB (threeB L k)
 | 0 => wf_nil
 | k + 1 => wf_app (wf_threeB L k) (wf_wB _ _)
theorem has_threes {src : Src} {a : Nat} {o : List Nat} {L : Nat → Nat} : ∀ k, (∀ i, i < k → ordF L i < 8) → Has src a (threeB L k) → threesM k src a o = .ok (lstF (ordF L) k, a + 3 * k, o)
 | 0, _, _ => rfl
 | k + 1, h8, h => by
  obtain ⟨h1, h2⟩ := has_app (wf_threeB L k) h
  rw [threeB_len] at h2
  rw [threesM, bindR_ok (has_threes k (fun i hi => h8 i (by omega)) h1), bindR_ok (has_read o h2), lstF_succ, Nat.mod_eq_of_lt (show ordF L k < 2 ^ 3 from h8 k (by omega)), Nat.mul_add, Nat.mul_one, ← Nat.add_assoc]
  rfl
theorem ord_find : ∀ i, i < 19 → orderL.getD (orderL.findIdx (· == i)) 0 = i ∧ orderL.findIdx (· == i) < 19 := by decide
theorem outer_same (L : Nat → Nat) (k : Nat) (hk : k ≤ 19) (h0 : ∀ i, k ≤ i → i < 19 → ordF L i = 0) : CodEq ⟨19, L⟩ (outerC (lstF (ordF L) k)) := by
 refine ⟨rfl, fun i hi => ?_⟩
 have hi' : i < 19 := hi
 obtain ⟨h1, h2⟩ := ord_find i hi'
 show L i = (lstF (ordF L) k).getD (orderL.findIdx (· == i)) 0
 have hq : ordF L (orderL.findIdx (· == i)) = L i := by
  show L _ = L i
  rw [h1]
 by_cases hlt : orderL.findIdx (· == i) < k
 ·rw [lstF_get _ _ _ hlt, hq]
 ·rw [← hq, h0 _ (by omega) h2, List.getD_eq_getElem?_getD, List.getElem?_eq_none (by rw [lstF_len]; omega)]
  rfl
theorem wf_pcB (c : Cod) (row : Nat → Nat) (n : Nat) : ∀ k, WfB (pcB c row n k)
 | 0 => wf_nil
 | k + 1 => wf_app (wf_pcB c row n k) (wf_app (wf_sgB _ _) (wf_wB _ _))
/-- What a piece's sign and number are. -/
theorem pc_run {row : Nat → Nat} {n a : Nat} (ha : a < n) (h15 : row a ≤ 15) : ∃ low, runOf (pcN row n a).sg (lstF row a) = (row a, low, (pcN row n a).mo) ∧ low + (pcN row n a).re = (pcN row n a).mn ∧ ¬ ((pcN row n a).sg = 16 ∧ (lstF row a).length = 0) ∧ ∀ j, j < (pcN row n a).mn → row (a + j) = row a := by
 obtain ⟨h1, h2, h3⟩ := alk_ge row n a ha
 unfold pcN
 split
 ·rename_i h
  exact ⟨11, by unfold runOf; dsimp only; rw [if_neg (by omega), if_neg (by omega), if_pos rfl, h.1], by dsimp only; omega, fun e => by have := e.1; dsimp only at this; omega, fun j hj => by dsimp only at hj; exact h3 j (by omega)⟩
 ·split
  ·rename_i hn h
   exact ⟨3, by unfold runOf; dsimp only; rw [if_neg (by omega), if_pos rfl, h.1], by dsimp only; omega, fun e => by have := e.1; dsimp only at this; omega, fun j hj => by dsimp only at hj; exact h3 j (by omega)⟩
  ·split
   ·rename_i h
    refine ⟨3, ?_, by dsimp only; omega, fun e => by have := e.2; rw [lstF_len] at this; omega, fun j hj => by dsimp only at hj; exact h3 j (by omega)⟩
    unfold runOf
    dsimp only
    rw [if_pos rfl, lstF_len, lstF_get row a (a - 1) (by omega), h.2.1]
   ·refine ⟨1, ?_, rfl, fun e => by have := e.1; dsimp only at this; omega, fun j hj => by dsimp only at hj; obtain rfl : j = 0 := (by omega); rfl⟩
    unfold runOf
    dsimp only
    rw [if_neg (by omega), if_neg (by omega), if_neg (by omega)]
theorem lstF_run {row : Nat → Nat} {a y : Nat} : ∀ m, (∀ j, j < m → row (a + j) = y) → lstF row (a + m) = lstF row a ++ List.replicate m y
 | 0, _ => by simp
 | m + 1, h => by rw [← Nat.add_assoc, lstF_succ, lstF_run m (fun j hj => h j (by omega)), h m (by omega), List.replicate_succ', List.append_assoc]
/-- The pieces' signs have words. -/
def UsesP (c : Cod) (row : Nat → Nat) (n k : Nat) : Prop := ∀ i, i < k → pzN row n i < n ∧ (pkN row n i).sg < c.n ∧ 1 ≤ c.ls (pkN row n i).sg
theorem has_pieces {src : Src} {c : Cod} {row : Nat → Nat} {n a : Nat} {o : List Nat} (hc : CodOk c) (hn : n ≤ 1000) (h15 : ∀ i, i < n → row i ≤ 15) : ∀ k, UsesP c row n k → Has src a (pcB c row n k) →
  ∀ ans, Runs (rowStep c n) src (lstF row (pzN row n k)) (a + (pcB c row n k).2) o ans → Runs (rowStep c n) src [] a o ans
 | 0, _, _, ans, h => h
 | k + 1, hu, hh, ans, h => by
  obtain ⟨h1, h2⟩ := has_app (wf_pcB c row n k) hh
  obtain ⟨h3, h4⟩ := has_app (wf_sgB _ _) h2
  obtain ⟨u1, u2, u3⟩ := hu k (by omega)
  refine has_pieces hc hn h15 k (fun i hi => hu i (by omega)) h1 ans ?_
  have hs := has_sign o u2 u3 hc.le hc.fill h3
  rw [sgB_len u2] at h4
  have hr := has_read o h4
  obtain ⟨low, r1, r2, r3, r4⟩ := pc_run u1 (h15 _ u1)
  have hre : (pkN row n k).re < 2 ^ (pkN row n k).mo := (pc_bd row n (pzN row n k) (by have := h15 _ u1; omega)).2.2.2 hn u1
  have hrm : runM (pkN row n k).sg (lstF row (pzN row n k)) src (a + (pcB c row n k).2 + c.ls (pkN row n k).sg) o = .ok ((row (pzN row n k), (pcN row n (pzN row n k)).mn), a + (pcB c row n k).2 + c.ls (pkN row n k).sg + (pkN row n k).mo, o) := by
   unfold runM
   rw [if_neg (show ¬ ((pkN row n k).sg = 16 ∧ (lstF row (pzN row n k)).length = 0) from r3), show runOf (pkN row n k).sg (lstF row (pzN row n k)) = (row (pzN row n k), low, (pkN row n k).mo) from r1]
   dsimp only
   rw [bindR_ok hr, Nat.mod_eq_of_lt hre]
   show Except.ok ((_, low + (pcN row n (pzN row n k)).re), _, _) = _
   rw [r2]
  have hst : rowStep c n (lstF row (pzN row n k)) src (a + (pcB c row n k).2) o = .ok (.inl (lstF row (pzN row n (k + 1))), a + (pcB c row n (k + 1)).2, o) := by
   unfold rowStep
   rw [if_pos (by rw [lstF_len]; exact u1), bindR_ok hs, bindR_ok hrm]
   rw [show pzN row n (k + 1) = pzN row n k + (pcN row n (pzN row n k)).mn from rfl, lstF_run _ r4]
   have e1 : a + (pcB c row n (k + 1)).2 = a + (pcB c row n k).2 + c.ls (pkN row n k).sg + (pkN row n k).mo := by
    show a + ((pcB c row n k).2 + ((sgB c (pkN row n k).sg).2 + (pkN row n k).mo)) = _
    rw [sgB_len u2]
    omega
   rw [e1]
   rfl
  exact .more hst h
theorem pcB_same {c c' : Cod} (h : CodEq c c') (row : Nat → Nat) (n : Nat) : ∀ k, pcB c row n k = pcB c' row n k
 | 0 => rfl
 | k + 1 => by rw [pcB, pcB, pcB_same h row n k, sgB_same h]
theorem usesP_row {row : Nat → Nat} {n : Nat} (h15 : ∀ i, i < n → row i ≤ 15) : UsesP (rowC row n) row n (kN row n) := fun i hi => by
 have h1 := (split_ex row n).2 i hi
 have h2 := (pc_bd row n (pzN row n i) (by have := h15 _ h1; omega)).1
 refine ⟨h1, h2, ?_⟩
 exact (We.lensF_iff _ 19 7 (by omega) (by omega) (rowL_pow row n) _ h2).1.2 (cntP_pos row n _ i hi)
theorem rowH_bd (row : Nat → Nat) (n : Nat) : 4 ≤ rowH row n ∧ rowH row n ≤ 19 := ⟨shrN_ge _ _ _ (by omega), shrN_le _ _ _⟩
theorem ordF_le (row : Nat → Nat) (n i : Nat) (hi : i < 19) : ordF (rowL row n) i ≤ 7 := rowL_le row n _ (ord_lt19 i hi)
theorem rowC_ok {row : Nat → Nat} {n : Nat} (hn : 258 ≤ n) (h15 : ∀ i, i < n → row i ≤ 15) (hz : ∃ i, i < n ∧ row i ≠ 0) : CodOk (rowC row n) := ⟨by show 19 ≤ 4096; omega, fun i hi => by have := rowL_le row n i hi; show rowL row n i ≤ 15; omega, (rowC_may hn h15 hz).1⟩
/-- A row's bits, read. -/
theorem has_row {src : Src} {row : Nat → Nat} {n a : Nat} {o : List Nat} (hn : 258 ≤ n) (hn2 : n ≤ 1000) (h15 : ∀ i, i < n → row i ≤ 15) (hz : ∃ i, i < n ∧ row i ≠ 0) (h : Has src a (rowBs row n)) :
  readM1 4 src a o = .ok (rowH row n - 4, a + 4, o) ∧ outerM (4 + (rowH row n - 4)) src (a + 4) o = .ok (outerC (lstF (ordF (rowL row n)) (rowH row n)), a + 4 + 3 * rowH row n, o) ∧
   rowM (outerC (lstF (ordF (rowL row n)) (rowH row n))) n src (a + 4 + 3 * rowH row n) o = .ok (lstF row n, a + (rowBs row n).2, o) := by
 obtain ⟨b1, b2⟩ := rowH_bd row n
 obtain ⟨h1, h2⟩ := has_app (wf_app (wf_wB _ _) (wf_threeB _ _)) h
 obtain ⟨h3, h4⟩ := has_app (wf_wB _ _) h1
 have r1 := has_read o h3
 rw [Nat.mod_eq_of_lt (show rowH row n - 4 < 2 ^ 4 by omega)] at r1
 have q1 : ((wB (rowH row n - 4) 4).app (threeB (rowL row n) (rowH row n))).2 = 4 + 3 * rowH row n := by
  show 4 + (threeB _ _).2 = _
  rw [threeB_len]
 rw [q1, ← Nat.add_assoc] at h2
 have hsame := outer_same (rowL row n) (rowH row n) b2 fun i hi hi2 => shrN_zero _ _ _ _ hi hi2
 have hmay := may_same hsame (rowC_may hn h15 hz)
 refine ⟨r1, ?_, ?_⟩
 ·rw [show a + (wB (rowH row n - 4) 4).2 = a + 4 from rfl] at h4
  rw [show 4 + (rowH row n - 4) = rowH row n by omega]
  unfold outerM
  rw [bindR_ok (has_threes (rowH row n) (fun i hi => by have := ordF_le row n i (by omega); omega) h4)]
  unfold makeM
  rw [if_pos hmay]
  rfl
 ·have hu := usesP_row h15
  have hok := rowC_ok hn h15 hz
  have hq : Has src (a + 4 + 3 * rowH row n) (pcB (outerC (lstF (ordF (rowL row n)) (rowH row n))) row n (kN row n)) := by
   rw [← pcB_same hsame]
   exact h2
  have e1 : a + (rowBs row n).2 = a + 4 + 3 * rowH row n + (pcB (outerC (lstF (ordF (rowL row n)) (rowH row n))) row n (kN row n)).2 := by
   rw [← pcB_same hsame]
   show a + (_ + (pcB (rowC row n) row n (kN row n)).2) = _
   rw [q1]
   show _ = a + 4 + 3 * rowH row n + (pcB (rowC row n) row n (kN row n)).2
   omega
  rw [e1]
  refine loop_of (has_pieces (hok.same hsame) hn2 h15 (kN row n) (fun i hi => ?_) hq _ (.done ?_))
  ·obtain ⟨u1, u2, u3⟩ := hu i hi
   refine ⟨u1, u2, ?_⟩
   rw [← hsame.2 _ u2]
   exact u3
  ·rw [(split_ex row n).1]
   unfold rowStep
   rw [if_neg (by rw [lstF_len]; omega), if_neg (by rw [lstF_len]; omega)]
   rfl
end Go.Proofs.YtmkeicfklbepnaaGreat

namespace Go.Proofs.YtmkeicfklbepnaaGreat
set_option maxRecDepth 100000
set_option linter.unusedVariables false
set_option linter.unusedSimpArgs false
theorem bindM_assoc {α β γ : Type} (m : Mm α) (f : α → Mm β) (g : β → Mm γ) : bindM (bindM m f) g = bindM m (fun x => bindM (f x) g) := by
 funext s a o
 unfold bindM
 cases m s a o with
 | error e => rfl
 | ok p => rfl
theorem bindM_ite {α β : Type} {p : Prop} [Decidable p] (m m' : Mm α) (g : α → Mm β) : bindM (if p then m else m') g = if p then bindM m g else bindM m' g := by split <;> rfl
theorem bindM_fail {α β : Type} (e : Nat) (g : α → Mm β) : bindM (failM e) g = failM e := rfl
theorem bindM_ret {α β : Type} (x : α) (g : α → Mm β) : bindM (retM x) g = g x := rfl
theorem dyn_eq : dynamicM = bindM dynLM fun p => bindM (pairM (codL p.1) (codL p.2)) fun _ => retM (codL p.1, codL p.2) := by
 unfold dynamicM dynLM
 simp only [bindM_assoc, bindM_ite, bindM_fail, bindM_ret]
theorem lstF_app (L : Nat → Nat) (a : Nat) : ∀ m, lstF L (a + m) = lstF L a ++ lstF (fun j => L (a + j)) m
 | 0 => by simp [lstF]
 | m + 1 => by rw [← Nat.add_assoc, lstF_succ, lstF_app L a m, lstF_succ, List.append_assoc]
theorem lstF_same {L L' : Nat → Nat} : ∀ m, (∀ i, i < m → L i = L' i) → lstF L m = lstF L' m
 | 0, _ => rfl
 | m + 1, h => by rw [lstF_succ, lstF_succ, lstF_same m (fun i hi => h i (by omega)), h m (by omega)]
theorem has_dyn {src : Src} {f : Nat → Tok} {n a : Nat} {o : List Nat} (h : Has src a (dynB f n)) : dynLM src a o = .ok ((lstF (dLS f n) (dHS f n), lstF (dLD f n) (dHD f n)), a + (dynB f n).2, o) := by
 obtain ⟨s1, s2⟩ := dHS_bd f n
 obtain ⟨d1, d2⟩ := dHD_bd f n
 obtain ⟨h1, h2⟩ := has_app (wf_app (wf_wB _ _) (wf_wB _ _)) h
 obtain ⟨h3, h4⟩ := has_app (wf_wB _ _) h1
 have r1 := has_read o h3
 have r2 := has_read o h4
 rw [Nat.mod_eq_of_lt (show dHS f n - 257 < 2 ^ 5 by omega)] at r1
 rw [Nat.mod_eq_of_lt (show dHD f n - 1 < 2 ^ 5 by omega)] at r2
 have q1 : (wB (dHS f n - 257) 5).2 = 5 := rfl
 have q2 : ((wB (dHS f n - 257) 5).app (wB (dHD f n - 1) 5)).2 = 10 := rfl
 rw [q1] at r2
 rw [q2] at h2
 obtain ⟨r3, r4, r5⟩ := has_row (o := o) (show 258 ≤ dHS f n + dHD f n by omega) (by omega) (dRow_le f n) (dRow_nz f n) h2
 have e1 : a + (dynB f n).2 = a + 10 + (rowBs (dRow f n) (dHS f n + dHD f n)).2 := by
  show a + (10 + _) = _
  omega
 rw [e1]
 unfold dynLM
 rw [bindR_ok r1, bindR_ok r2, show a + 5 + 5 = a + 10 by omega, bindR_ok r3, if_neg (by omega), bindR_ok r4, show 257 + (dHS f n - 257) + (1 + (dHD f n - 1)) = dHS f n + dHD f n by omega, bindR_ok r5, lstF_get _ _ _ (by omega)]
 have hz : dRow f n 256 ≠ 0 := by
  have h2 := (dLS_pos f n 256 (by omega)).2 (cA_256 f n)
  rw [dRow, if_pos (by omega)]
  omega
 rw [if_neg hz, show 257 + (dHS f n - 257) = dHS f n by omega, lstF_app, List.take_left' (lstF_len _ _), List.drop_left' (lstF_len _ _)]
 have c1 : lstF (dRow f n) (dHS f n) = lstF (dLS f n) (dHS f n) := lstF_same _ fun i hi => by unfold dRow; rw [if_pos hi]
 have c2 : lstF (fun j => dRow f n (dHS f n + j)) (dHD f n) = lstF (dLD f n) (dHD f n) := lstF_same _ fun i hi => by
  show dRow f n (dHS f n + i) = _
  unfold dRow
  rw [if_neg (by omega), show dHS f n + i - dHS f n = i by omega]
 rw [c1, c2]
 rfl
theorem dynS_may (f : Nat → Tok) (n : Nat) : may (dynS f n) true := may_shr (cA f n) 286 257 (by omega)
theorem dynD_may (f : Nat → Tok) (n : Nat) : may (dynD f n) true := may_shr (cB f n) 30 1 (by omega)
theorem has_dynamic {src : Src} {f : Nat → Tok} {n a : Nat} {o : List Nat} (h : Has src a (dynB f n)) : dynamicM src a o = .ok ((codL (lstF (dLS f n) (dHS f n)), codL (lstF (dLD f n) (dHD f n))), a + (dynB f n).2, o) := by
 rw [dyn_eq, bindR_ok (has_dyn h)]
 dsimp only
 unfold pairM makeM
 rw [if_pos (may_same (cod_lst _ _) (dynS_may f n)), if_pos (may_same (cod_lst _ _) (dynD_may f n))]
 rfl
theorem bump_ge (F : Nat → Nat) (j i : Nat) : F i ≤ bump F j i := by
 unfold bump
 split
 ·rename_i e; subst e; omega
 ·omega
theorem bump_at (F : Nat → Nat) (j : Nat) : 0 < bump F j j := by unfold bump; rw [if_pos rfl]; omega
theorem cA_up (f : Nat → Tok) (k i : Nat) : cA f k i ≤ cA f (k + 1) i := by
 rw [cA]
 split
 ·split <;> exact bump_ge _ _ _
 ·exact Nat.le_refl _
theorem cB_up (f : Nat → Tok) (k i : Nat) : cB f k i ≤ cB f (k + 1) i := by
 rw [cB]
 split
 ·split
  ·exact Nat.le_refl _
  ·exact bump_ge _ _ _
 ·exact Nat.le_refl _
theorem cA_pos (f : Nat → Tok) (i : Nat) (hr : rightT (f i) = true) : ∀ n, i < n → ((f i).l = 0 → 0 < cA f n (f i).b) ∧ ((f i).l ≠ 0 → 0 < cA f n (lsg (f i).l.toNat) ∧ 0 < cB f n (dsg (f i).d.toNat))
 | 0, h => by omega
 | n + 1, h => by
  by_cases e : i = n
  ·subst e
   refine ⟨fun h0 => ?_, fun h0 => ⟨?_, ?_⟩⟩
   ·rw [cA, if_pos hr, if_pos h0]; exact bump_at _ _
   ·rw [cA, if_pos hr, if_neg h0]; exact bump_at _ _
   ·rw [cB, if_pos hr, if_neg h0]; exact bump_at _ _
  ·obtain ⟨h1, h2⟩ := cA_pos f i hr n (by omega)
   exact ⟨fun h0 => Nat.lt_of_lt_of_le (h1 h0) (cA_up _ _ _), fun h0 => ⟨Nat.lt_of_lt_of_le (h2 h0).1 (cA_up _ _ _), Nat.lt_of_lt_of_le (h2 h0).2 (cB_up _ _ _)⟩⟩
theorem shr_lt {L : Nat → Nat} {l m i : Nat} (hi : i < m) (h : L i ≠ 0) : i < shrN L l m := by
 by_cases h1 : i < shrN L l m
 ·exact h1
 ·exact absurd (shrN_zero L l m i (by omega) hi) h
theorem uses_dyn {f : Nat → Tok} {n i : Nat} (hi : i < n) (hr : rightT (f i) = true) (hb : (f i).b < 256) : UsesT (dynS f n) (dynD f n) (f i) := by
 obtain ⟨h1, h2⟩ := cA_pos f i hr n hi
 refine ⟨hr, fun h0 => ⟨hb, ?_⟩, fun h0 => ?_⟩
 ·have h3 := (dLS_pos f n (f i).b (by omega)).2 (h1 h0)
  exact ⟨shr_lt (by omega) (by omega), h3⟩
 ·obtain ⟨_, l1, l2, d1, d2⟩ := right_copy hr h0
  obtain ⟨e1, e2, _⟩ := lsg_ok (f i).l.toNat (by omega) (by omega)
  obtain ⟨g1, _⟩ := dsg_at (f i).d.toNat (by omega) (by omega)
  obtain ⟨k1, k2⟩ := h2 h0
  have h3 := (dLS_pos f n _ (show lsg (f i).l.toNat < 286 by omega)).2 k1
  have h4 := (dLD_pos f n _ (show dsg (f i).d.toNat < 30 by omega)).2 k2
  exact ⟨shr_lt (by omega) (by omega), h3, shr_lt (by omega) (by omega), h4⟩
theorem fixS_pos : ∀ i, i < 288 → 1 ≤ fixS.ls i := by decide +kernel
theorem fixD_pos : ∀ i, i < 32 → 1 ≤ fixD.ls i := by decide +kernel
theorem uses_fix {t : Tok} (hr : rightT t = true) (hb : t.b < 256) : UsesT fixS fixD t := by
 refine ⟨hr, fun h0 => ⟨hb, ?_, fixS_pos _ (by omega)⟩, fun h0 => ?_⟩
 ·show t.b < 288; omega
 ·obtain ⟨_, l1, l2, d1, d2⟩ := right_copy hr h0
  obtain ⟨e1, e2, _⟩ := lsg_ok t.l.toNat (by omega) (by omega)
  obtain ⟨g1, _⟩ := dsg_at t.d.toNat (by omega) (by omega)
  exact ⟨show _ < 288 by omega, fixS_pos _ (by omega), show _ < 32 by omega, fixD_pos _ (by omega)⟩
theorem fixS_ok : CodOk fixS := ⟨by decide, bx_15, bx_may.1⟩
theorem fixD_ok : CodOk fixD := ⟨by decide, bd_15, bd_may.1⟩
theorem dynS_ok (f : Nat → Tok) (n : Nat) : CodOk (dynS f n) := ⟨by have := (dHS_bd f n).2; show dHS f n ≤ 4096; omega, fun i hi => dLS_le f n i (by have := (dHS_bd f n).2; have : i < dHS f n := hi; omega), (dynS_may f n).1⟩
theorem dynD_ok (f : Nat → Tok) (n : Nat) : CodOk (dynD f n) := ⟨by have := (dHD_bd f n).2; show dHD f n ≤ 4096; omega, fun i hi => dLD_le f n i (by have := (dHD_bd f n).2; have : i < dHD f n := hi; omega), (dynD_may f n).1⟩
theorem bytesAt_shift (N a : Nat) : ∀ n, bytesAt N a n = bytesAt (N / 2 ^ a) 0 n
 | 0 => rfl
 | n + 1 => by
  rw [bytesAt, bytesAt, bytesAt_shift N a n]
  unfold bitsAt
  rw [Nat.zero_add, Nat.pow_add, Nat.div_div_eq_div_mul]
theorem has_bytes {src : Src} {a : Nat} {s : ByteArray} (h : Has src a (num s, 8 * s.size)) : bytesAt src.N a s.size = nums s := by
 have h1 : src.N / 2 ^ a % 2 ^ (8 * s.size) = num s := h.1
 have h2 := nums_extract s 0 s.size (by omega)
 rw [bytesAt_shift, bytesAt_agree (N' := num s) s.size (by rw [Nat.zero_add, h1, Nat.mod_eq_of_lt (num_lt s)])]
 rw [Nat.mul_zero] at h2
 rw [← h2, Nat.zero_add]
 congr 1
 apply ByteArray.ext
 simp
/-- What a block is read as. -/
def blkT (k : Nat) (f : Nat → Tok) (n : Nat) (s : ByteArray) : List Nat := if k = 0 then nums s else expO f n
theorem flag_lt (last : Bool) : (if last = true then 1 else 0) % 2 ^ 1 = if last = true then 1 else 0 := by cases last <;> rfl
theorem flag_eq (last : Bool) : (((if last = true then 1 else 0 : Nat)) == 1) = last := by cases last <;> rfl
theorem wf_align {P : Bs} (h : WfB P) : WfB (P.1, up8 P.2) := Nat.lt_of_lt_of_le h (Nat.pow_le_pow_right (by omega) (up8_ge P.2))
theorem has_align {src : Src} {P : Bs} (hw : WfB P) (h : Has src 0 (P.1, up8 P.2)) : Has src 0 P := by
 obtain ⟨h1, h2⟩ := h
 have h1' : src.N / 2 ^ 0 % 2 ^ up8 P.2 = P.1 := h1
 have h2' : 0 + up8 P.2 ≤ src.L := h2
 have := up8_ge P.2
 refine ⟨?_, by omega⟩
 show src.N / 2 ^ 0 % 2 ^ P.2 = P.1
 rw [← Nat.mod_mod_of_dvd (src.N / 2 ^ 0) (Nat.pow_dvd_pow 2 this), h1', Nat.mod_eq_of_lt hw]
/-- The two numbers ahead of a block. -/
theorem has_head {src : Src} {P : Bs} {b k : Nat} {o : List Nat} (hP : WfB P) (hb : b % 2 ^ 1 = b) (hk : k < 4) (h : Has src 0 ((P.app (wB b 1)).app (wB k 2))) : Has src 0 P ∧
  blockM src P.2 o = (if k = 0 then (bindM storedM fun _ => retM (b == 1)) else if k = 1 then (bindM (signsM fixS fixD) fun _ => retM (b == 1)) else if k = 2 then (bindM dynamicM fun p => bindM (signsM p.1 p.2) fun _ => retM (b == 1)) else failM 12) src (P.2 + 3) o := by
 obtain ⟨h1, h2⟩ := has_app (wf_app hP (wf_wB _ _)) h
 obtain ⟨h3, h4⟩ := has_app hP h1
 refine ⟨h3, ?_⟩
 have r1 := has_read o h4
 have r2 := has_read o h2
 have q : 0 + (P.app (wB b 1)).2 = P.2 + 1 := by show 0 + (P.2 + 1) = _; omega
 rw [q] at r2
 rw [Nat.zero_add, hb] at r1
 rw [Nat.mod_eq_of_lt (show k < 2 ^ 2 by omega)] at r2
 unfold blockM
 rw [bindR_ok r1, bindR_ok r2]
theorem has_stored {src : Src} {P : Bs} {s : ByteArray} {o : List Nat} (hP : WfB P) (hs : s.size ≤ 65535) (hl : o.length + s.size ≤ src.lim) (h : Has src 0 (stB s P)) : Has src 0 P ∧ storedM src P.2 o = .ok ((), (stB s P).2, o ++ nums s) := by
 obtain ⟨h1, h2⟩ := has_app (wf_app (wf_app (wf_align hP) (wf_wB _ _)) (wf_wB _ _)) h
 obtain ⟨h3, h4⟩ := has_app (wf_app (wf_align hP) (wf_wB _ _)) h1
 obtain ⟨h5, h6⟩ := has_app (wf_align hP) h3
 refine ⟨has_align hP h5, ?_⟩
 have r1 := has_read o h6
 have r2 := has_read o h4
 have e0 : (stB s P).2 = up8 P.2 + 16 + 16 + 8 * s.size := rfl
 have e1 : 0 + ((P.1, up8 P.2) : Bs).2 = up8 P.2 := by show 0 + up8 P.2 = _; omega
 have e2 : 0 + (Bs.app (P.1, up8 P.2) (wB s.size 16)).2 = up8 P.2 + 16 := by show 0 + (up8 P.2 + 16) = _; omega
 have e3 : 0 + ((Bs.app (P.1, up8 P.2) (wB s.size 16)).app (wB (65535 - s.size) 16)).2 = up8 P.2 + 16 + 16 := by show 0 + (up8 P.2 + 16 + 16) = _; omega
 rw [e1, Nat.mod_eq_of_lt (show s.size < 2 ^ 16 by omega)] at r1
 rw [e2, Nat.mod_eq_of_lt (show 65535 - s.size < 2 ^ 16 by omega)] at r2
 rw [e3] at h2
 rw [e0]
 unfold storedM
 rw [bindR_ok (show alignM src P.2 o = .ok ((), up8 P.2, o) from rfl), bindR_ok r1, bindR_ok r2, if_pos (by omega)]
 unfold storeM
 rw [if_pos hl, if_pos (show up8 P.2 + 16 + 16 + 8 * s.size ≤ src.L from h2.2), has_bytes h2]
/-- A block, read. -/
theorem has_block {src : Src} {P : Bs} {k n : Nat} {f : Nat → Tok} {s : ByteArray} {last : Bool} {o : List Nat} (hP : WfB P) (hk : k ≤ 2) (hs : k = 0 → s.size ≤ 65535) (hr : k ≠ 0 → ∀ i, i < n → rightT (f i) = true ∧ (f i).b < 256) (he : k ≠ 0 → expE f n = 0)
  (hl : o.length + (blkT k f n s).length ≤ src.lim) (h : Has src 0 (blkB k f n s last P)) : Has src 0 P ∧ blockM src P.2 o = .ok (last, (blkB k f n s last P).2, o ++ blkT k f n s) := by
 have hb : (if last = true then 1 else 0) % 2 ^ 1 = if last = true then 1 else 0 := flag_lt last
 have wf3 : WfB ((P.app (wB (if last = true then 1 else 0) 1)).app (wB k 2)) := wf_app (wf_app hP (wf_wB _ _)) (wf_wB _ _)
 have q3 : ((P.app (wB (if last = true then 1 else 0) 1)).app (wB k 2)).2 = P.2 + 3 := by show P.2 + 1 + 2 = _; omega
 unfold blkT at hl ⊢
 by_cases h0 : k = 0
 ·rw [if_pos h0] at hl ⊢
  rw [nums_len] at hl
  have hB : blkB k f n s last P = stB s ((P.app (wB (if last = true then 1 else 0) 1)).app (wB k 2)) := by unfold blkB; rw [if_pos h0]
  rw [hB] at h ⊢
  obtain ⟨g1, g2⟩ := has_stored (o := o) wf3 (hs h0) hl h
  obtain ⟨g3, g4⟩ := has_head (o := o) hP hb (by omega) g1
  refine ⟨g3, ?_⟩
  rw [q3] at g2
  rw [g4, if_pos h0, bindR_ok g2, flag_eq]
  rfl
 ·rw [if_neg h0] at hl ⊢
  by_cases h1 : k = 1
  ·have hB : blkB k f n s last P = ((P.app (wB (if last = true then 1 else 0) 1)).app (wB k 2)).app ((toksB fixS fixD f n).app (sgB fixS 256)) := by unfold blkB; rw [if_neg h0, if_pos h1, bs_assoc]
   rw [hB] at h ⊢
   obtain ⟨g1, g2⟩ := has_app wf3 h
   obtain ⟨g3, g4⟩ := has_head (o := o) hP hb (by omega) g1
   refine ⟨g3, ?_⟩
   have g5 := has_signs (o := o) fixS_ok fixD_ok (fun i hi => uses_fix (hr h0 i hi).1 (hr h0 i hi).2) (he h0) hl (by decide) (fixS_pos 256 (by omega)) g2
   have e1 : (((P.app (wB (if last = true then 1 else 0) 1)).app (wB k 2)).app ((toksB fixS fixD f n).app (sgB fixS 256))).2 = P.2 + 3 + ((toksB fixS fixD f n).app (sgB fixS 256)).2 := by rw [← q3]; rfl
   rw [Nat.zero_add, q3] at g5
   rw [g4, if_neg h0, if_pos h1, bindR_ok g5, flag_eq, e1]
   rfl
  ·have h2 : k = 2 := by omega
   have hB : blkB k f n s last P = (((P.app (wB (if last = true then 1 else 0) 1)).app (wB k 2)).app (dynB f n)).app ((toksB (dynS f n) (dynD f n) f n).app (sgB (dynS f n) 256)) := by unfold blkB; rw [if_neg h0, if_neg h1, bs_assoc _ (toksB _ _ _ _) _]
   have wfd : WfB (dynB f n) := wf_app (wf_app (wf_wB _ _) (wf_wB _ _)) (wf_app (wf_app (wf_wB _ _) (wf_threeB _ _)) (wf_pcB _ _ _ _))
   rw [hB] at h ⊢
   obtain ⟨g1, g2⟩ := has_app (wf_app wf3 wfd) h
   obtain ⟨g6, g7⟩ := has_app wf3 g1
   obtain ⟨g3, g4⟩ := has_head (o := o) hP hb (by omega) g6
   refine ⟨g3, ?_⟩
   rw [Nat.zero_add, q3] at g7
   have g8 := has_dynamic (o := o) g7
   have q4 : 0 + (((P.app (wB (if last = true then 1 else 0) 1)).app (wB k 2)).app (dynB f n)).2 = P.2 + 3 + (dynB f n).2 := by rw [← q3, Nat.zero_add]; rfl
   rw [q4, toksB_same (cod_lst (dLS f n) (dHS f n)) (cod_lst (dLD f n) (dHD f n)) f n |> fun e => (show toksB (dynS f n) (dynD f n) f n = _ from e), (show sgB (dynS f n) 256 = _ from sgB_same (cod_lst (dLS f n) (dHS f n)) 256)] at g2
   have hc2 := cod_lst (dLS f n) (dHS f n)
   have hd2 := cod_lst (dLD f n) (dHD f n)
   have hlt : 256 < dHS f n := by have := (dHS_bd f n).1; omega
   have hps : 1 ≤ dLS f n 256 := (dLS_pos f n 256 (by omega)).2 (cA_256 f n)
   have g5 := has_signs (o := o) ((dynS_ok f n).same hc2) ((dynD_ok f n).same hd2) (fun i hi => by
    obtain ⟨u1, u2, u3⟩ := uses_dyn hi (hr h0 i hi).1 (hr h0 i hi).2
    refine ⟨u1, fun z => ?_, fun z => ?_⟩
    ·obtain ⟨v1, v2, v3⟩ := u2 z
     exact ⟨v1, by rw [← hc2.1]; exact v2, by rw [← hc2.2 _ v2]; exact v3⟩
    ·obtain ⟨v1, v2, v3, v4⟩ := u3 z
     exact ⟨by rw [← hc2.1]; exact v1, by rw [← hc2.2 _ v1]; exact v2, by rw [← hd2.1]; exact v3, by rw [← hd2.2 _ v3]; exact v4⟩) (he h0) hl (by rw [← hc2.1]; exact hlt) (by rw [← hc2.2 _ hlt]; exact hps) g2
   have e1 : ((((P.app (wB (if last = true then 1 else 0) 1)).app (wB k 2)).app (dynB f n)).app ((toksB (dynS f n) (dynD f n) f n).app (sgB (dynS f n) 256))).2 = P.2 + 3 + (dynB f n).2 + ((toksB (codL (lstF (dLS f n) (dHS f n))) (codL (lstF (dLD f n) (dHD f n))) f n).app (sgB (codL (lstF (dLS f n) (dHS f n))) 256)).2 := by
    rw [← toksB_same hc2 hd2, ← sgB_same hc2, ← q3]
    rfl
   rw [g4, if_neg h0, if_neg h1, if_pos h2, bindR_ok g8]
   dsimp only
   rw [bindR_ok g5, flag_eq, e1]
   rfl
theorem infl_one {src : Src} {a1 : Nat} {o1 : List Nat} (h : blockM src 0 [] = .ok (true, a1, o1)) : inflM src 0 [] = .ok ((), a1, o1) :=
 loop_of (.done (show blockStep () src 0 [] = .ok (.inr (), a1, o1) from (bindR_ok h).trans rfl))
theorem wf_stB (s : ByteArray) {P : Bs} (h : WfB P) : WfB (stB s P) := wf_app (wf_app (wf_app (wf_align h) (wf_wB _ _)) (wf_wB _ _)) (num_lt s)
theorem wf_blkB (k : Nat) (f : Nat → Tok) (n : Nat) (s : ByteArray) (last : Bool) {P : Bs} (h : WfB P) : WfB (blkB k f n s last P) := by
 have wf3 : WfB ((P.app (wB (if last = true then 1 else 0) 1)).app (wB k 2)) := wf_app (wf_app h (wf_wB _ _)) (wf_wB _ _)
 unfold blkB
 split
 ·exact wf_stB s wf3
 ·split
  ·exact wf_app (wf_app wf3 (wf_toksB _ _ _ _)) (wf_sgB _ _)
  ·exact wf_app (wf_app (wf_app wf3 (wf_app (wf_app (wf_wB _ _) (wf_wB _ _)) (wf_app (wf_app (wf_wB _ _) (wf_threeB _ _)) (wf_pcB _ _ _ _)))) (wf_toksB _ _ _ _)) (wf_sgB _ _)
end Go.Proofs.YtmkeicfklbepnaaGreat
