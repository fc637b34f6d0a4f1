/-
 Trees of words, by mathematics: what a list of places tells of the words that were laid into it.
 A tree of a code's words: laid word by word, bit by bit; read.
-/
import Derived.Test.YtmkeicfklbepnaaGreatPkAH

namespace Go.Proofs.YtmkeicfklbepnaaGreat
set_option maxRecDepth 100000
set_option linter.unusedVariables false
/-- The place that a node's bit leads to. -/
def nx (T : List Int) (n b : Nat) : Int := T.getD (2 * n + b) 0
/-- The node that l bits lead to, where each of them leads to one. -/
def node (T : List Int) : Nat → Nat → Option Nat
 | _, 0 => some 0
 | v, l + 1 => match node T (v / 2) l with
  | some n => if 0 < nx T n (v % 2) then some (nx T n (v % 2)).toNat else none
  | none => none
theorem node_snoc (T : List Int) (v l b : Nat) (hb : b < 2) : node T (2 * v + b) (l + 1) = match node T v l with
  | some n => if 0 < nx T n b then some (nx T n b).toNat else none
  | none => none := by
 rw [node, show (2 * v + b) / 2 = v by omega, show (2 * v + b) % 2 = b by omega]
structure TI (T : List Int) (m : Nat) (In : Nat → Nat → Prop) (Lf : Nat → Nat → Nat → Prop) : Prop where
 len : T.length = 2 * m
 pos : 0 < m
 nd : ∀ v l, v < 2 ^ l → ((∃ n, node T v l = some n) ↔ In v l)
 lt : ∀ v l n, node T v l = some n → n < m
 inj : ∀ l v l' v' n, v < 2 ^ l → v' < 2 ^ l' → node T v l = some n → node T v' l' = some n → v = v' ∧ l = l'
 neg : ∀ v l n b, v < 2 ^ l → b < 2 → node T v l = some n → nx T n b < 0 → ∃ i, Lf (2 * v + b) (l + 1) i
 leaf : ∀ v l n b i, v < 2 ^ l → b < 2 → node T v l = some n → Lf (2 * v + b) (l + 1) i → nx T n b = -1 - (i : Int)
 room : ∀ n b, m ≤ n → nx T n b = 0
 par : ∀ v l b i, v < 2 ^ l → b < 2 → Lf (2 * v + b) (l + 1) i → In v l
theorem TI.zero {T : List Int} {m : Nat} {In : Nat → Nat → Prop} {Lf : Nat → Nat → Nat → Prop} (h : TI T m In Lf) {v l n b : Nat} (hv : v < 2 ^ l) (hb : b < 2) (hn : node T v l = some n) (h1 : ¬ In (2 * v + b) (l + 1)) (h2 : ∀ i, ¬ Lf (2 * v + b) (l + 1) i) : nx T n b = 0 := by
 rcases Int.lt_trichotomy (nx T n b) 0 with h0 | h0 | h0
 ·obtain ⟨i, hi⟩ := h.neg v l n b hv hb hn h0
  exact absurd hi (h2 i)
 ·exact h0
 ·exfalso
  refine h1 ((h.nd (2 * v + b) (l + 1) (by rw [Nat.pow_succ]; omega)).1 ⟨(nx T n b).toNat, ?_⟩)
  rw [node_snoc T v l b hb, hn]
  exact if_pos h0
theorem TI.child {T : List Int} {m : Nat} {In : Nat → Nat → Prop} {Lf : Nat → Nat → Nat → Prop} (h : TI T m In Lf) {v l n b : Nat} (hv : v < 2 ^ l) (hb : b < 2) (hn : node T v l = some n) (h1 : In (2 * v + b) (l + 1)) : 0 < nx T n b ∧ node T (2 * v + b) (l + 1) = some (nx T n b).toNat := by
 obtain ⟨k, hk⟩ := (h.nd (2 * v + b) (l + 1) (by rw [Nat.pow_succ]; omega)).2 h1
 rw [node_snoc T v l b hb, hn] at hk ⊢
 dsimp only at hk ⊢
 by_cases h0 : 0 < nx T n b
 ·exact ⟨h0, if_pos h0⟩
 ·rw [if_neg h0] at hk
  cases hk
theorem TI.congr {T : List Int} {m : Nat} {In In' : Nat → Nat → Prop} {Lf Lf' : Nat → Nat → Nat → Prop} (h : TI T m In Lf) (h1 : ∀ v l, v < 2 ^ l → (In v l ↔ In' v l)) (h2 : ∀ v l i, v < 2 ^ l → (Lf v l i ↔ Lf' v l i)) : TI T m In' Lf' :=
 have hb2 : ∀ {v l b : Nat}, v < 2 ^ l → b < 2 → 2 * v + b < 2 ^ (l + 1) := fun hv hb => by rw [Nat.pow_succ]; omega
 ⟨h.len, h.pos, fun v l hv => (h.nd v l hv).trans (h1 v l hv), h.lt, h.inj, fun v l n b hv hb hn h0 => by
  obtain ⟨i, hi⟩ := h.neg v l n b hv hb hn h0
  exact ⟨i, (h2 _ _ i (hb2 hv hb)).1 hi⟩, fun v l n b i hv hb hn hi => h.leaf v l n b i hv hb hn ((h2 _ _ i (hb2 hv hb)).2 hi), h.room, fun v l b i hv hb hi => (h1 v l hv).1 (h.par v l b i hv hb ((h2 _ _ i (hb2 hv hb)).2 hi))⟩
/-- The empty tree. -/
theorem ti_empty : TI [0, 0] 1 (fun _ l => l = 0) (fun _ _ _ => False) := by
 have hz : ∀ n b, nx [0, 0] n b = 0 := fun n b => by
  unfold nx
  match 2 * n + b with
  | 0 => rfl
  | 1 => rfl
  | k + 2 => rfl
 have hn : ∀ l v, node [0, 0] v (l + 1) = none := fun l v => by
  rw [node]
  split
  ·rw [hz, if_neg (by omega)]
  ·rfl
 refine ⟨rfl, Nat.one_pos, fun v l hv => ?_, fun v l n h => ?_, fun l v l' v' n hv hv' h h' => ?_, fun v l n b _ _ _ h => ?_, fun v l n b i _ _ _ h => h.elim, fun n b _ => hz n b, fun v l b i _ _ h => h.elim⟩
 ·cases l with
  | zero => exact ⟨fun _ => rfl, fun _ => ⟨0, rfl⟩⟩
  | succ l =>
   show _ ↔ l + 1 = 0
   constructor
   ·rintro ⟨n, h⟩
    rw [hn] at h; cases h
   ·intro h; omega
 ·cases l with
  | zero => injection h with h; omega
  | succ l => rw [hn] at h; cases h
 ·cases l with
  | succ l => rw [hn] at h; cases h
  | zero =>
   cases l' with
   | succ l => rw [hn] at h'; cases h'
   | zero => exact ⟨by rw [Nat.pow_zero] at hv hv'; omega, rfl⟩
 ·rw [hz] at h; omega
theorem nx_set (T : List Int) (k : Nat) (x : Int) (hk : k < T.length) (n b : Nat) : nx (T.set k x) n b = if 2 * n + b = k then x else nx T n b := by
 unfold nx
 rw [List.getD_eq_getElem?_getD, List.getD_eq_getElem?_getD, List.getElem?_set]
 by_cases h : k = 2 * n + b
 ·subst h
  rw [if_pos rfl, if_pos hk, if_pos rfl]
  rfl
 ·rw [if_neg h, if_neg (fun e => h e.symm)]
theorem nx_more (T : List Int) (n b : Nat) : nx (T ++ [0, 0]) n b = nx T n b := by
 unfold nx
 rw [List.getD_eq_getElem?_getD, List.getD_eq_getElem?_getD]
 by_cases h : 2 * n + b < T.length
 ·rw [List.getElem?_append_left h]
 ·rw [List.getElem?_append_right (by omega), List.getElem?_eq_none (l := T) (by omega)]
  match 2 * n + b - T.length with
  | 0 => rfl
  | 1 => rfl
  | k + 2 => rfl
/-- A leaf more. -/
theorem TI.leafed {T : List Int} {m : Nat} {In : Nat → Nat → Prop} {Lf : Nat → Nat → Nat → Prop} (h : TI T m In Lf) {v l n b : Nat} (i : Nat) (hv : v < 2 ^ l) (hb : b < 2) (hn : node T v l = some n) (h0 : nx T n b = 0) (h2 : ∀ i, ¬ Lf (2 * v + b) (l + 1) i) :
  TI (T.set (2 * n + b) (-1 - (i : Int))) m In (fun x k j => Lf x k j ∨ (x = 2 * v + b ∧ k = l + 1 ∧ j = i)) := by
 have hnm := h.lt v l n hn
 have hlen := h.len
 have hx : ∀ n' b', b' < 2 → nx (T.set (2 * n + b) (-1 - (i : Int))) n' b' = if n' = n ∧ b' = b then -1 - (i : Int) else nx T n' b' := fun n' b' hb' => by
  rw [nx_set T _ _ (by omega)]
  by_cases e : n' = n ∧ b' = b
  ·rw [if_pos e, if_pos (by omega)]
  ·rw [if_neg e, if_neg (by omega)]
 have hnode : ∀ l' v', node (T.set (2 * n + b) (-1 - (i : Int))) v' l' = node T v' l' := by
  intro l'
  induction l' with
  | zero => intro v'; rfl
  | succ l' ih =>
   intro v'
   rw [node, node, ih]
   split
   ·rename_i k hk
    rw [hx k _ (Nat.mod_lt _ (by omega))]
    by_cases e : k = n ∧ v' % 2 = b
    ·rw [if_pos e, if_neg (by omega), e.1, e.2, h0, if_neg (by omega)]
    ·rw [if_neg e]
   ·rfl
 refine ⟨by rw [List.length_set]; exact hlen, h.pos, fun v' l' hv' => by rw [hnode]; exact h.nd v' l' hv', fun v' l' n' h' => h.lt v' l' n' (by rw [← hnode]; exact h'), fun l1 v1 l2 v2 n' h1 h2' k1 k2 => h.inj l1 v1 l2 v2 n' h1 h2' (by rw [← hnode]; exact k1) (by rw [← hnode]; exact k2), fun v' l' n' b' hv' hb' hn' hlt => ?_, fun v' l' n' b' j hv' hb' hn' hj => ?_, fun n' b' hle => ?_, fun v' l' b' j hv' hb' hj => ?_⟩
 ·rw [hnode] at hn'
  rw [hx n' b' hb'] at hlt
  by_cases e : n' = n ∧ b' = b
  ·obtain ⟨rfl, rfl⟩ := e
   obtain ⟨rfl, rfl⟩ := h.inj l' v' l v n' hv' hv hn' hn
   exact ⟨i, .inr ⟨rfl, rfl, rfl⟩⟩
  ·rw [if_neg e] at hlt
   obtain ⟨j, hj⟩ := h.neg v' l' n' b' hv' hb' hn' hlt
   exact ⟨j, .inl hj⟩
 ·rw [hnode] at hn'
  rw [hx n' b' hb']
  by_cases e : n' = n ∧ b' = b
  ·rw [if_pos e]
   obtain ⟨rfl, rfl⟩ := e
   obtain ⟨rfl, rfl⟩ := h.inj l' v' l v n' hv' hv hn' hn
   rcases hj with hj | ⟨_, _, rfl⟩
   ·exact absurd hj (h2 j)
   ·rfl
  ·rw [if_neg e]
   rcases hj with hj | ⟨e1, e2, _⟩
   ·exact h.leaf v' l' n' b' j hv' hb' hn' hj
   ·exfalso
    obtain rfl : l' = l := by omega
    obtain ⟨rfl, rfl⟩ : v' = v ∧ b' = b := by omega
    rw [hn] at hn'
    injection hn' with hn'
    exact e ⟨hn'.symm, rfl⟩
 ·rw [nx_set T _ _ (by omega), if_neg (by omega)]
  exact h.room n' b' hle
 ·rcases hj with hj | ⟨e1, e2, _⟩
  ·exact h.par v' l' b' j hv' hb' hj
  ·obtain rfl : l' = l := by omega
   obtain rfl : v' = v := by omega
   exact (h.nd v' l' hv').1 ⟨n, hn⟩
/-- A node more. -/
theorem TI.grown {T : List Int} {m : Nat} {In : Nat → Nat → Prop} {Lf : Nat → Nat → Nat → Prop} (h : TI T m In Lf) {v l n b : Nat} (hv : v < 2 ^ l) (hb : b < 2) (hn : node T v l = some n) (h0 : nx T n b = 0) (h2 : ∀ i, ¬ Lf (2 * v + b) (l + 1) i) :
  TI ((T ++ [0, 0]).set (2 * n + b) (m : Nat)) (m + 1) (fun x k => In x k ∨ (x = 2 * v + b ∧ k = l + 1)) Lf ∧ node ((T ++ [0, 0]).set (2 * n + b) (m : Nat)) (2 * v + b) (l + 1) = some m ∧ nx ((T ++ [0, 0]).set (2 * n + b) (m : Nat)) n b = (m : Nat) := by
 have hnm := h.lt v l n hn
 have hlen := h.len
 have hpos := h.pos
 have hlen2 : (T ++ [0, 0]).length = 2 * m + 2 := by rw [List.length_append, hlen]; rfl
 have hx : ∀ n' b', b' < 2 → nx ((T ++ [0, 0]).set (2 * n + b) (m : Nat)) n' b' = if n' = n ∧ b' = b then ((m : Nat) : Int) else nx T n' b' := fun n' b' hb' => by
  rw [nx_set _ _ _ (by omega), nx_more]
  by_cases e : n' = n ∧ b' = b
  ·rw [if_pos e, if_pos (by omega)]
  ·rw [if_neg e, if_neg (by omega)]
 have hvb : 2 * v + b < 2 ^ (l + 1) := by rw [Nat.pow_succ]; omega
 have hno : node T (2 * v + b) (l + 1) = none := by
  rw [node_snoc T v l b hb, hn]
  dsimp only
  rw [h0, if_neg (by omega)]
 have hnode : ∀ l' v', v' < 2 ^ l' → node ((T ++ [0, 0]).set (2 * n + b) (m : Nat)) v' l' = if v' = 2 * v + b ∧ l' = l + 1 then some m else node T v' l' := by
  intro l'
  induction l' with
  | zero => intro v' hv'; rw [if_neg (by omega)]; rfl
  | succ l' ih =>
   intro v' hv'
   have hv2 : v' / 2 < 2 ^ l' := by rw [Nat.pow_succ] at hv'; omega
   have hb2 : v' % 2 < 2 := Nat.mod_lt _ (by omega)
   rw [node, ih _ hv2]
   by_cases e : v' / 2 = 2 * v + b ∧ l' = l + 1
   ·rw [if_pos e]
    dsimp only
    rw [hx m _ hb2, if_neg (show ¬ (m = n ∧ v' % 2 = b) by omega), h.room m _ (Nat.le_refl _), if_neg (show ¬ (0 : Int) < 0 by omega), if_neg (show ¬ (v' = 2 * v + b ∧ l' + 1 = l + 1) by omega), node, e.1, e.2, hno]
   ·rw [if_neg e]
    cases hk : node T (v' / 2) l' with
    | none =>
     have hr : ¬ (v' = 2 * v + b ∧ l' + 1 = l + 1) := by
      rintro ⟨e1, e2⟩
      obtain rfl : l' = l := by omega
      rw [show v' / 2 = v by omega, hn] at hk
      cases hk
     rw [if_neg hr, node, hk]
    | some k =>
     dsimp only
     rw [hx k _ hb2]
     by_cases e3 : k = n ∧ v' % 2 = b
     ·obtain ⟨rfl, e4⟩ := e3
      obtain ⟨e5, rfl⟩ := h.inj l' (v' / 2) l v k hv2 hv hk hn
      have hin : (if k = k ∧ v' % 2 = b then ((m : Nat) : Int) else nx T k (v' % 2)) = (m : Nat) := if_pos ⟨rfl, e4⟩
      rw [hin, if_pos (show (0 : Int) < (m : Nat) by omega), if_pos (show v' = 2 * v + b ∧ l' + 1 = l' + 1 by omega)]
      simp
     ·have hr : ¬ (v' = 2 * v + b ∧ l' + 1 = l + 1) := by
       rintro ⟨e1, e2⟩
       obtain rfl : l' = l := by omega
       rw [show v' / 2 = v by omega, hn] at hk
       injection hk with hk
       exact e3 ⟨hk.symm, by omega⟩
      rw [if_neg e3, if_neg hr, node, hk]
 refine ⟨⟨by rw [List.length_set, hlen2]; omega, Nat.succ_pos _, fun v' l' hv' => ?_, fun v' l' n' h' => ?_, fun l1 v1 l2 v2 n' q1 q2 k1 k2 => ?_, fun v' l' n' b' hv' hb' hn' hlt => ?_, fun v' l' n' b' j hv' hb' hn' hj => ?_, fun n' b' hle => ?_, fun v' l' b' j hv' hb' hj => .inl (h.par v' l' b' j hv' hb' hj)⟩, by rw [hnode _ _ hvb, if_pos ⟨rfl, rfl⟩], by rw [hx n b hb, if_pos ⟨rfl, rfl⟩]⟩
 ·rw [hnode _ _ hv']
  by_cases e : v' = 2 * v + b ∧ l' = l + 1
  ·rw [if_pos e]
   exact ⟨fun _ => .inr e, fun _ => ⟨m, rfl⟩⟩
  ·rw [if_neg e, h.nd v' l' hv']
   exact ⟨.inl, fun h => h.resolve_right e⟩
 ·-- of any number, by its last bits
  have hmod : ∀ l' v', node ((T ++ [0, 0]).set (2 * n + b) (m : Nat)) v' l' = node ((T ++ [0, 0]).set (2 * n + b) (m : Nat)) (v' % 2 ^ l') l' := by
   intro l'
   induction l' with
   | zero => intro v'; rfl
   | succ l' ih =>
    intro v'
    have e1 : v' % 2 ^ (l' + 1) / 2 = v' / 2 % 2 ^ l' := by rw [Nat.pow_succ, Nat.mul_comm, Nat.mod_mul_right_div_self]
    have e2 : v' % 2 ^ (l' + 1) % 2 = v' % 2 := Nat.mod_mod_of_dvd _ ⟨2 ^ l', by rw [Nat.pow_succ, Nat.mul_comm]⟩
    rw [node, node, e1, e2, ih (v' / 2)]
  rw [hmod, hnode _ _ (Nat.mod_lt _ (Nat.two_pow_pos _))] at h'
  split at h'
  ·injection h' with h'; omega
  ·have := h.lt _ _ _ h'; omega
 ·rw [hnode _ _ q1] at k1
  rw [hnode _ _ q2] at k2
  by_cases e1 : v1 = 2 * v + b ∧ l1 = l + 1
  ·rw [if_pos e1] at k1
   injection k1 with k1
   by_cases e2 : v2 = 2 * v + b ∧ l2 = l + 1
   ·exact ⟨e1.1.trans e2.1.symm, e1.2.trans e2.2.symm⟩
   ·rw [if_neg e2] at k2
    have := h.lt _ _ _ k2; omega
  ·rw [if_neg e1] at k1
   by_cases e2 : v2 = 2 * v + b ∧ l2 = l + 1
   ·rw [if_pos e2] at k2
    injection k2 with k2
    have := h.lt _ _ _ k1; omega
   ·rw [if_neg e2] at k2
    exact h.inj _ _ _ _ _ q1 q2 k1 k2
 ·rw [hnode _ _ hv'] at hn'
  rw [hx n' b' hb'] at hlt
  split at hn'
  ·injection hn' with hn'
   subst hn'
   rw [if_neg (by omega), h.room _ _ (Nat.le_refl _)] at hlt
   omega
  ·split at hlt
   ·omega
   ·exact h.neg v' l' n' b' hv' hb' hn' hlt
 ·rw [hnode _ _ hv'] at hn'
  rw [hx n' b' hb']
  split at hn'
  ·rename_i e
   exfalso
   obtain ⟨k, hk⟩ := (h.nd v' l' hv').2 (h.par v' l' b' j hv' hb' hj)
   rw [e.1, e.2, hno] at hk
   cases hk
  ·rename_i e
   by_cases e3 : n' = n ∧ b' = b
   ·obtain ⟨rfl, rfl⟩ := e3
    obtain ⟨rfl, rfl⟩ := h.inj l' v' l v n' hv' hv hn' hn
    exact absurd hj (h2 j)
   ·rw [if_neg e3]
    exact h.leaf v' l' n' b' j hv' hb' hn' hj
 ·have e : ∀ k : Nat, nx ((T ++ [0, 0]).set (2 * n + b) (m : Nat)) n' b' = nx T n' b' := fun _ => by rw [nx_set _ _ _ (by omega), if_neg (by omega), nx_more]
  rw [e 0]
  exact h.room n' b' (by omega)
end Go.Proofs.YtmkeicfklbepnaaGreat

namespace Go.Proofs.YtmkeicfklbepnaaGreat
set_option maxRecDepth 100000
set_option linter.unusedVariables false
def InW (ls W : Nat → Nat) (k v l : Nat) : Prop := l = 0 ∨ ∃ i, i < k ∧ l < ls i ∧ W i / 2 ^ (ls i - l) = v
def LfW (ls W : Nat → Nat) (k v l i : Nat) : Prop := i < k ∧ ls i = l ∧ W i = v ∧ 1 ≤ l
/-- No word begins another. -/
def PFree (ls W : Nat → Nat) (n : Nat) : Prop := ∀ i j, i < n → j < n → 1 ≤ ls i → ls i ≤ ls j → W j / 2 ^ (ls j - ls i) = W i → i = j
/-- The tree of the first k signs' words. -/
def TW (ls W : Nat → Nat) (k : Nat) (T : List Int) (m : Nat) : Prop := TI T m (InW ls W k) (LfW ls W k)
/-- .. and of j bits of the next one's; where they lead. -/
def TWj (ls W : Nat → Nat) (k j : Nat) (T : List Int) (m at_ : Nat) : Prop :=
 TI T m (fun v l => InW ls W k v l ∨ (l ≤ j ∧ v = W k / 2 ^ (ls k - l))) (LfW ls W k) ∧ node T (W k / 2 ^ (ls k - j)) j = some at_
/-- The bit behind j bits. -/
def bitW (ls W : Nat → Nat) (k j : Nat) : Nat := W k / 2 ^ (ls k - 1 - j) % 2
theorem next_v (ls W : Nat → Nat) (k j : Nat) (h : j < ls k) : W k / 2 ^ (ls k - (j + 1)) = 2 * (W k / 2 ^ (ls k - j)) + bitW ls W k j := by
 unfold bitW
 have e : 2 ^ (ls k - j) = 2 ^ (ls k - (j + 1)) * 2 := by rw [← Nat.pow_succ]; congr 1; omega
 rw [e, ← Nat.div_div_eq_div_mul, show ls k - 1 - j = ls k - (j + 1) by omega]
 omega
theorem v_lt (ls W : Nat → Nat) (k j : Nat) (hW : W k < 2 ^ ls k) (h : j ≤ ls k) : W k / 2 ^ (ls k - j) < 2 ^ j := by
 rw [Nat.div_lt_iff_lt_mul (Nat.two_pow_pos _), ← Nat.pow_add]
 rw [show j + (ls k - j) = ls k by omega]
 exact hW
theorem bitW_lt (ls W : Nat → Nat) (k j : Nat) : bitW ls W k j < 2 := Nat.mod_lt _ (by omega)
theorem tw_zero (ls W : Nat → Nat) : TW ls W 0 [0, 0] 1 := by
 refine ti_empty.congr (fun v l _ => ⟨fun h => .inl h, fun h => ?_⟩) (fun v l i _ => ⟨fun h => h.elim, fun h => ?_⟩)
 ·rcases h with h | ⟨i, h, _⟩
  ·exact h
  ·omega
 ·have := h.1; omega
theorem tw_start {ls W : Nat → Nat} {k m : Nat} {T : List Int} (hW : W k < 2 ^ ls k) (h : TW ls W k T m) : TWj ls W k 0 T m 0 := by
 refine ⟨h.congr (fun v l hv => ⟨.inl, fun h => ?_⟩) (fun v l i _ => Iff.rfl), rfl⟩
 rcases h with h | ⟨h, _⟩
 ·exact h
 ·exact .inl (by omega)
theorem tw_skip {ls W : Nat → Nat} {k m : Nat} {T : List Int} (h0 : ls k = 0) (h : TW ls W k T m) : TW ls W (k + 1) T m := by
 refine h.congr (fun v l hv => ⟨fun h => ?_, fun h => ?_⟩) (fun v l i _ => ⟨fun h => ⟨by have := h.1; omega, h.2⟩, fun h => ?_⟩)
 ·rcases h with h | ⟨i, h1, h2⟩
  ·exact .inl h
  ·exact .inr ⟨i, by omega, h2⟩
 ·rcases h with h | ⟨i, h1, h2, h3⟩
  ·exact .inl h
  ·by_cases e : i = k
   ·subst e; omega
   ·exact .inr ⟨i, by omega, h2, h3⟩
 ·obtain ⟨h1, h2, h3, h4⟩ := h
  by_cases e : i = k
  ·subst e; omega
  ·exact ⟨by omega, h2, h3, h4⟩
theorem no_leaf {ls W : Nat → Nat} {n k j : Nat} (hp : PFree ls W n) (hk : k < n) (hj : j < ls k) (i : Nat) : ¬ LfW ls W k (2 * (W k / 2 ^ (ls k - j)) + bitW ls W k j) (j + 1) i := by
 rintro ⟨h1, h2, h3, h4⟩
 have := hp i k (by omega) hk (by omega) (by omega) (by rw [h2, next_v ls W k j hj, h3])
 omega
/-- A bit that isn't the word's last: the place leads on, or a node is made. -/
theorem tw_step {ls W : Nat → Nat} {n k j m at_ : Nat} {T : List Int} (hp : PFree ls W n) (hk : k < n) (hW : W k < 2 ^ ls k) (hj : j + 1 < ls k) (h : TWj ls W k j T m at_) :
  at_ < m ∧ T.length = 2 * m ∧ 0 ≤ nx T at_ (bitW ls W k j) ∧
  (nx T at_ (bitW ls W k j) = 0 → TWj ls W k (j + 1) ((T ++ [0, 0]).set (2 * at_ + bitW ls W k j) (m : Nat)) (m + 1) m ∧ nx ((T ++ [0, 0]).set (2 * at_ + bitW ls W k j) (m : Nat)) at_ (bitW ls W k j) = (m : Nat)) ∧
  (nx T at_ (bitW ls W k j) ≠ 0 → TWj ls W k (j + 1) T m (nx T at_ (bitW ls W k j)).toNat) := by
 obtain ⟨h, hn⟩ := h
 have hv := v_lt ls W k j hW (by omega)
 have hb := bitW_lt ls W k j
 have hnl := no_leaf hp hk (show j < ls k by omega)
 have hnx := next_v ls W k j (by omega)
 have hge : 0 ≤ nx T at_ (bitW ls W k j) := by
  by_cases h0 : nx T at_ (bitW ls W k j) < 0
  ·obtain ⟨i, hi⟩ := h.neg _ _ _ _ hv hb hn h0
   exact absurd hi (hnl i)
  ·omega
 have hin : ∀ v l, v < 2 ^ l → ((InW ls W k v l ∨ (l ≤ j ∧ v = W k / 2 ^ (ls k - l))) ∨ (v = 2 * (W k / 2 ^ (ls k - j)) + bitW ls W k j ∧ l = j + 1) ↔ InW ls W k v l ∨ (l ≤ j + 1 ∧ v = W k / 2 ^ (ls k - l))) := by
  intro v l _
  constructor
  ·rintro ((h | ⟨h1, h2⟩) | ⟨h1, rfl⟩)
   ·exact .inl h
   ·exact .inr ⟨by omega, h2⟩
   ·exact .inr ⟨Nat.le_refl _, by rw [h1, hnx]⟩
  ·rintro (h | ⟨h1, h2⟩)
   ·exact .inl (.inl h)
   ·by_cases e : l = j + 1
    ·subst e
     exact .inr ⟨by rw [h2, hnx], rfl⟩
    ·exact .inl (.inr ⟨by omega, h2⟩)
 refine ⟨h.lt _ _ _ hn, h.len, hge, fun h0 => ?_, fun h0 => ?_⟩
 ·obtain ⟨g1, g2, g3⟩ := h.grown hv hb hn h0 hnl
  exact ⟨⟨g1.congr hin (fun _ _ _ _ => Iff.rfl), by rw [hnx]; exact g2⟩, g3⟩
 ·have hc : node T (2 * (W k / 2 ^ (ls k - j)) + bitW ls W k j) (j + 1) = some (nx T at_ (bitW ls W k j)).toNat := by
   rw [node_snoc _ _ _ _ hb, hn]
   exact if_pos (by omega)
  refine ⟨h.congr (fun v l hv' => ⟨fun h' => ?_, fun h' => ?_⟩) (fun _ _ _ _ => Iff.rfl), by rw [hnx]; exact hc⟩
  ·exact (hin v l hv').1 (.inl h')
  ·rcases (hin v l hv').2 h' with h' | ⟨h1, h2⟩
   ·exact h'
   ·subst h2
    have := (h.nd v (j + 1) hv').1 ⟨_, by rw [h1]; exact hc⟩
    exact this
/-- .. the last one. -/
theorem tw_last {ls W : Nat → Nat} {n k j m at_ : Nat} {T : List Int} (hp : PFree ls W n) (hk : k < n) (hW : W k < 2 ^ ls k) (hj : j + 1 = ls k) (h : TWj ls W k j T m at_) :
  at_ < m ∧ T.length = 2 * m ∧ TW ls W (k + 1) (T.set (2 * at_ + bitW ls W k j) (-1 - (k : Int))) m := by
 obtain ⟨h, hn⟩ := h
 have hv := v_lt ls W k j hW (by omega)
 have hb := bitW_lt ls W k j
 have hnl := no_leaf hp hk (show j < ls k by omega)
 have hnx := next_v ls W k j (by omega)
 have hwk : 2 * (W k / 2 ^ (ls k - j)) + bitW ls W k j = W k := by rw [← hnx, show ls k - (j + 1) = 0 by omega, Nat.pow_zero, Nat.div_one]
 have h0 : nx T at_ (bitW ls W k j) = 0 := by
  refine h.zero hv hb hn ?_ hnl
  rintro ((h1 | ⟨i, h1, h2, h3⟩) | ⟨h1, _⟩)
  ·omega
  ·rw [hwk] at h3
   have := hp k i hk (by omega) (by omega) (by omega) (by rw [← hj]; exact h3)
   omega
  ·omega
 refine ⟨h.lt _ _ _ hn, h.len, (h.leafed k hv hb hn h0 hnl).congr (fun v l hv' => ⟨fun h' => ?_, fun h' => ?_⟩) (fun v l i hv' => ⟨fun h' => ?_, fun h' => ?_⟩)⟩
 ·rcases h' with (h1 | ⟨i, h1, h2⟩) | ⟨h1, h2⟩
  ·exact .inl h1
  ·exact .inr ⟨i, by omega, h2⟩
  ·exact .inr ⟨k, by omega, by omega, h2.symm⟩
 ·rcases h' with h1 | ⟨i, h1, h2, h3⟩
  ·exact .inl (.inl h1)
  ·by_cases e : i = k
   ·subst e
    exact .inr ⟨by omega, h3.symm⟩
   ·exact .inl (.inr ⟨i, by omega, h2, h3⟩)
 ·rcases h' with ⟨h1, h2⟩ | ⟨h1, h2, rfl⟩
  ·exact ⟨by omega, h2⟩
  ·exact ⟨by omega, by omega, by rw [h1, hwk], by omega⟩
 ·obtain ⟨h1, h2, h3, h4⟩ := h'
  by_cases e : i = k
  ·subst e
   exact .inr ⟨by rw [hwk, h3], by omega, rfl⟩
  ·exact .inl ⟨by omega, h2, h3, h4⟩
/-- What a place tells. -/
theorem tw_read {ls W : Nat → Nat} {n m v q at_ b : Nat} {T : List Int} (h : TW ls W n T m) (hv : v < 2 ^ q) (hb : b < 2) (hn : node T v q = some at_) :
  at_ < m ∧ T.length = 2 * m ∧
  (nx T at_ b < 0 → ∃ i, i < n ∧ ls i = q + 1 ∧ W i = 2 * v + b ∧ nx T at_ b = -1 - (i : Int)) ∧
  (0 < nx T at_ b → node T (2 * v + b) (q + 1) = some (nx T at_ b).toNat ∧ ∃ i, i < n ∧ q + 1 < ls i ∧ W i / 2 ^ (ls i - (q + 1)) = 2 * v + b) ∧
  (nx T at_ b = 0 → ∀ i, i < n → q + 1 ≤ ls i → W i / 2 ^ (ls i - (q + 1)) ≠ 2 * v + b) ∧
  (∀ i, i < n → ls i = q + 1 → W i = 2 * v + b → nx T at_ b = -1 - (i : Int)) := by
 have hvb : 2 * v + b < 2 ^ (q + 1) := by rw [Nat.pow_succ]; omega
 refine ⟨h.lt _ _ _ hn, h.len, fun h0 => ?_, fun h0 => ?_, fun h0 i hi hq he => ?_, fun i hi hq he => h.leaf v q at_ b i hv hb hn ⟨hi, hq, he, by omega⟩⟩
 ·obtain ⟨i, hi⟩ := h.neg v q at_ b hv hb hn h0
  exact ⟨i, hi.1, hi.2.1, hi.2.2.1, h.leaf v q at_ b i hv hb hn hi⟩
 ·have hc : node T (2 * v + b) (q + 1) = some (nx T at_ b).toNat := by
   rw [node_snoc _ _ _ _ hb, hn]
   exact if_pos h0
  refine ⟨hc, ?_⟩
  rcases (h.nd (2 * v + b) (q + 1) hvb).1 ⟨_, hc⟩ with h1 | h1
  ·omega
  ·exact h1
 ·by_cases hl : ls i = q + 1
  ·rw [hl, Nat.sub_self, Nat.pow_zero, Nat.div_one] at he
   have := h.leaf v q at_ b i hv hb hn ⟨hi, hl, he, by omega⟩
   omega
  ·have := (h.child hv hb hn (.inr ⟨i, hi, by omega, he⟩)).1
   omega
/-- Does a word go on from a node? -/
theorem tw_leads {ls W : Nat → Nat} {n m v q at_ : Nat} {T : List Int} (h : TW ls W n T m) (hv : v < 2 ^ q) (hn : node T v q = some at_) :
  (nx T at_ 0 ≠ 0 ∨ nx T at_ 1 ≠ 0) ↔ ∃ i, i < n ∧ q < ls i ∧ W i / 2 ^ (ls i - q) = v := by
 have key : ∀ b, b < 2 → nx T at_ b ≠ 0 → ∃ i, i < n ∧ q < ls i ∧ W i / 2 ^ (ls i - q) = v := fun b hb h0 => by
  obtain ⟨_, _, h1, h2, _, _⟩ := tw_read h hv hb hn
  rcases Int.lt_trichotomy (nx T at_ b) 0 with hl | hl | hl
  ·obtain ⟨i, i1, i2, i3, _⟩ := h1 hl
   exact ⟨i, i1, by omega, by rw [i2, i3, show q + 1 - q = 1 by omega, Nat.pow_one]; omega⟩
  ·exact absurd hl h0
  ·obtain ⟨_, i, i1, i2, i3⟩ := h2 hl
   refine ⟨i, i1, by omega, ?_⟩
   rw [show ls i - q = (ls i - (q + 1)) + 1 by omega, Nat.pow_succ, ← Nat.div_div_eq_div_mul, i3]
   omega
 constructor
 ·rintro (h0 | h0)
  ·exact key 0 (by omega) h0
  ·exact key 1 (by omega) h0
 ·rintro ⟨i, i1, i2, i3⟩
  have hb := Nat.mod_lt (W i / 2 ^ (ls i - (q + 1))) (show 2 > 0 by omega)
  have hs : W i / 2 ^ (ls i - (q + 1)) = 2 * v + W i / 2 ^ (ls i - (q + 1)) % 2 := by
   rw [show ls i - q = (ls i - (q + 1)) + 1 by omega, Nat.pow_succ, ← Nat.div_div_eq_div_mul] at i3
   omega
  obtain ⟨_, _, _, _, h3, _⟩ := tw_read h hv hb hn
  have h0 : nx T at_ (W i / 2 ^ (ls i - (q + 1)) % 2) ≠ 0 := fun h0 => h3 h0 i i1 (by omega) hs
  rcases (show W i / 2 ^ (ls i - (q + 1)) % 2 = 0 ∨ W i / 2 ^ (ls i - (q + 1)) % 2 = 1 by omega) with e | e
  ·rw [e] at h0; exact .inl h0
  ·rw [e] at h0; exact .inr h0
end Go.Proofs.YtmkeicfklbepnaaGreat
