/-
 Streams by mathematics: computations over bits, and what other bits, more of them or fewer, and another limit do to them.
 Contracts: the numbers that stand behind signs; what is read of a stream.
-/
import Derived.Test.YtmkeicfklbepnaaGreatPkAH
import Derived.Test.YtmkeicfklbepnaaGreatPkAG

namespace Go.Proofs.YtmkeicfklbepnaaGreat
set_option maxRecDepth 100000

/-- Where is read: the bits as a number, how many there are, how many bytes there may be. -/
structure Src where
 N : Nat
 L : Nat
 lim : Nat
/-- What a computation answers: a value, the place behind it, the bytes so far; or what is wrong. -/
abbrev Ans (α : Type) := Except Nat (α × Nat × List Nat)
abbrev Mm (α : Type) := Src → Nat → List Nat → Ans α

def retM {α : Type} (x : α) : Mm α := fun _ a o => .ok (x, a, o)
def failM {α : Type} (e : Nat) : Mm α := fun _ _ _ => .error e
def bindM {α β : Type} (m : Mm α) (f : α → Mm β) : Mm β := fun s a o => match m s a o with
 | .error e => .error e
 | .ok (x, a1, o1) => f x s a1 o1
def readM1 (n : Nat) : Mm Nat := fun s a o => if a + n ≤ s.L then .ok (bitsAt s.N a n, a + n, o) else .error 3
def alignM : Mm Unit := fun _ a o => .ok ((), (a + 7) / 8 * 8, o)
def putM (b : Nat) : Mm Unit := fun s a o => if o.length + 1 ≤ s.lim then .ok ((), a, o ++ [b]) else .error 14
/-- The bytes at a place, so many. -/
def bytesAt (N a : Nat) : Nat → List Nat
 | 0 => []
 | k + 1 => bytesAt N a k ++ [bitsAt N (a + 8 * k) 8]
def storeM (n : Nat) : Mm Unit := fun s a o => if o.length + n ≤ s.lim then (if a + 8 * n ≤ s.L then .ok ((), a + 8 * n, o ++ bytesAt s.N a n) else .error 3) else .error 14
/-- So many bytes that stand at a distance ahead, one by one. -/
def copyL (o : List Nat) (dist : Nat) : Nat → List Nat
 | 0 => o
 | k + 1 => copyL o dist k ++ [(copyL o dist k).getD ((copyL o dist k).length - dist) 0]
def copyM (n dist : Nat) : Mm Unit := fun s a o => if o.length < dist then .error 11 else if o.length + n ≤ s.lim then .ok ((), a, copyL o dist n) else .error 14

/-- A code: of how many signs, their words' lengths. -/
structure Cod where
 n : Nat
 ls : Nat → Nat
def Cod.W (c : Cod) : Nat → Nat := wordN c.ls c.n
def Cod.mx (c : Cod) : Nat := if c.n = 0 then 0 else maxN c.ls (c.n - 1)
/-- The first length, from l on, at which a word stands. -/
def srch (c : Cod) (X : Nat) : Nat → Nat → Option (Nat × Nat)
 | 0, _ => none
 | k + 1, l => match findW c.ls c.W l (rev X l) c.n with
  | some i => some (i, l)
  | none => srch c X k (l + 1)
def signM (c : Cod) : Mm Nat := fun s a o => match srch c (s.N / 2 ^ a) (min c.mx (s.L - a)) 1 with
 | some (i, l) => .ok (i, a + l, o)
 | none => if s.L - a < c.mx then .error 3 else .error 10

/-- A loop's first k rounds. -/
def itM {γ β : Type} (body : γ → Mm (γ ⊕ β)) (s : Src) : Nat → γ → Nat → List Nat → Option (Ans β)
 | 0, _, _, _ => none
 | k + 1, c, a, o => match body c s a o with
  | .error e => some (.error e)
  | .ok (.inr y, a1, o1) => some (.ok (y, a1, o1))
  | .ok (.inl c1, a1, o1) => itM body s k c1 a1 o1
/-- A loop comes to an answer. -/
def Runs {γ β : Type} (body : γ → Mm (γ ⊕ β)) (s : Src) (c : γ) (a : Nat) (o : List Nat) (r : Ans β) : Prop := ∃ k, itM body s k c a o = some r
theorem itM_more {γ β : Type} (body : γ → Mm (γ ⊕ β)) (s : Src) (r : Ans β) : ∀ k c a o, itM body s k c a o = some r → itM body s (k + 1) c a o = some r
 | 0, c, a, o, h => by cases h
 | k + 1, c, a, o, h => by
  rw [itM] at h ⊢
  split at h
  ·exact h
  ·exact h
  ·exact itM_more body s r k _ _ _ h
theorem itM_ge {γ β : Type} (body : γ → Mm (γ ⊕ β)) (s : Src) (r : Ans β) (k c a o) (h : itM body s k c a o = some r) : ∀ d, itM body s (k + d) c a o = some r
 | 0 => h
 | d + 1 => itM_more body s r (k + d) c a o (itM_ge body s r k c a o h d)
theorem Runs.det {γ β : Type} {body : γ → Mm (γ ⊕ β)} {s : Src} {c : γ} {a : Nat} {o : List Nat} {r r' : Ans β} (h : Runs body s c a o r) (h' : Runs body s c a o r') : r = r' := by
 obtain ⟨k, hk⟩ := h
 obtain ⟨k', hk'⟩ := h'
 have e1 := itM_ge body s r k c a o hk k'
 have e2 := itM_ge body s r' k' c a o hk' k
 rw [Nat.add_comm] at e2
 exact Option.some.inj (e1.symm.trans e2)
theorem Runs.err {γ β : Type} {body : γ → Mm (γ ⊕ β)} {s : Src} {c : γ} {a : Nat} {o : List Nat} {e : Nat} (h : body c s a o = .error e) : Runs body s c a o (.error e) := ⟨1, by rw [itM, h]⟩
theorem Runs.done {γ β : Type} {body : γ → Mm (γ ⊕ β)} {s : Src} {c : γ} {a a1 : Nat} {o o1 : List Nat} {y : β} (h : body c s a o = .ok (.inr y, a1, o1)) : Runs body s c a o (.ok (y, a1, o1)) := ⟨1, by rw [itM, h]⟩
theorem Runs.more {γ β : Type} {body : γ → Mm (γ ⊕ β)} {s : Src} {c c1 : γ} {a a1 : Nat} {o o1 : List Nat} {r : Ans β} (h : body c s a o = .ok (.inl c1, a1, o1)) (k : Runs body s c1 a1 o1 r) : Runs body s c a o r := by
 obtain ⟨k, hk⟩ := k
 exact ⟨k + 1, by rw [itM, h]; exact hk⟩
open Classical in
noncomputable def loopM {γ β : Type} (body : γ → Mm (γ ⊕ β)) (c : γ) : Mm β := fun s a o => if h : ∃ r, Runs body s c a o r then Classical.choose h else .error 99
theorem loop_of {γ β : Type} {body : γ → Mm (γ ⊕ β)} {s : Src} {c : γ} {a : Nat} {o : List Nat} {r : Ans β} (h : Runs body s c a o r) : loopM body c s a o = r := by
 have hx : ∃ r, Runs body s c a o r := ⟨r, h⟩
 unfold loopM
 rw [dif_pos hx]
 exact (Classical.choose_spec hx).det h
theorem loop_ok {γ β : Type} {body : γ → Mm (γ ⊕ β)} {s : Src} {c : γ} {a : Nat} {o : List Nat} {p : β × Nat × List Nat} (h : loopM body c s a o = .ok p) : Runs body s c a o (.ok p) := by
 unfold loopM at h
 split at h
 ·rename_i hx
  rw [← h]
  exact Classical.choose_spec hx
 ·cases h

/-- What a computation is to bits that are the same as far as it read, to a lesser limit, to bits that are cut. -/
structure Stable {α : Type} (m : Mm α) : Prop where
 grow : ∀ s a o x a1 o1, a ≤ s.L → s.L % 8 = 0 → m s a o = .ok (x, a1, o1) → a ≤ a1 ∧ a1 ≤ s.L ∧ o.length ≤ o1.length
 same : ∀ s s' a o x a1 o1, a ≤ s.L → s.L % 8 = 0 → m s a o = .ok (x, a1, o1) → s.N % 2 ^ a1 = s'.N % 2 ^ a1 → a1 ≤ s'.L → o1.length ≤ s'.lim → m s' a o = .ok (x, a1, o1)
 less : ∀ s s' a o x a1 o1, a ≤ s.L → s.L % 8 = 0 → m s a o = .ok (x, a1, o1) → s.N % 2 ^ a1 = s'.N % 2 ^ a1 → a1 ≤ s'.L → o.length ≤ s'.lim → s'.lim < o1.length → m s' a o = .error 14
 cut : ∀ s s' a o x a1 o1, a ≤ s.L → s.L % 8 = 0 → s'.L % 8 = 0 → m s a o = .ok (x, a1, o1) → s.N % 2 ^ s'.L = s'.N % 2 ^ s'.L → a ≤ s'.L → s'.L < a1 → o1.length ≤ s'.lim → m s' a o = .error 3

theorem agree_less {N N' k j : Nat} (h : N % 2 ^ k = N' % 2 ^ k) (hj : j ≤ k) : N % 2 ^ j = N' % 2 ^ j := by
 have hd : 2 ^ j ∣ 2 ^ k := Nat.pow_dvd_pow 2 hj
 rw [← Nat.mod_mod_of_dvd N hd, h, Nat.mod_mod_of_dvd N' hd]
theorem agree_bits {N N' a n : Nat} (h : N % 2 ^ (a + n) = N' % 2 ^ (a + n)) : bitsAt N a n = bitsAt N' a n := by
 have e : ∀ M : Nat, bitsAt M a n = M % 2 ^ (a + n) / 2 ^ a := fun M => by
  unfold bitsAt
  rw [Nat.pow_add, Nat.mod_mul_right_div_self]
 rw [e, e, h]

theorem stable_ret {α : Type} (x : α) : Stable (retM x) where
 grow := fun s a o y a1 o1 h _ e => by injection e with e; cases e; exact ⟨Nat.le_refl _, h, Nat.le_refl _⟩
 same := fun s s' a o y a1 o1 _ _ e _ _ _ => by injection e with e; cases e; rfl
 less := fun s s' a o y a1 o1 _ _ e _ _ h1 h2 => by injection e with e; cases e; omega
 cut := fun s s' a o y a1 o1 _ _ _ e _ h1 h2 _ => by injection e with e; cases e; omega
theorem stable_fail {α : Type} (e : Nat) : Stable (failM e : Mm α) where
 grow := fun s a o y a1 o1 _ _ e => by cases e
 same := fun s s' a o y a1 o1 _ _ e _ _ _ => by cases e
 less := fun s s' a o y a1 o1 _ _ e _ _ h1 h2 => by cases e
 cut := fun s s' a o y a1 o1 _ _ _ e _ h1 h2 _ => by cases e
theorem stable_bind {α β : Type} {m : Mm α} {f : α → Mm β} (hm : Stable m) (hf : ∀ x, Stable (f x)) : Stable (bindM m f) where
 grow := fun s a o y a2 o2 ha h8 e => by
  unfold bindM at e
  split at e
  ·cases e
  ·rename_i x a1 o1 e1
   obtain ⟨h1, h2, h3⟩ := hm.grow s a o x a1 o1 ha h8 e1
   obtain ⟨h4, h5, h6⟩ := (hf x).grow s a1 o1 y a2 o2 h2 h8 e
   exact ⟨by omega, h5, by omega⟩
 same := fun s s' a o y a2 o2 ha h8 e hN hL hlim => by
  unfold bindM at e ⊢
  split at e
  ·cases e
  ·rename_i x a1 o1 e1
   obtain ⟨h1, h2, h3⟩ := hm.grow s a o x a1 o1 ha h8 e1
   obtain ⟨h4, h5, h6⟩ := (hf x).grow s a1 o1 y a2 o2 h2 h8 e
   rw [hm.same s s' a o x a1 o1 ha h8 e1 (agree_less hN h4) (by omega) (by omega)]
   exact (hf x).same s s' a1 o1 y a2 o2 h2 h8 e hN hL hlim
 less := fun s s' a o y a2 o2 ha h8 e hN hL hlim hlt => by
  unfold bindM at e ⊢
  split at e
  ·cases e
  ·rename_i x a1 o1 e1
   obtain ⟨h1, h2, h3⟩ := hm.grow s a o x a1 o1 ha h8 e1
   obtain ⟨h4, h5, h6⟩ := (hf x).grow s a1 o1 y a2 o2 h2 h8 e
   by_cases hc : s'.lim < o1.length
   ·rw [hm.less s s' a o x a1 o1 ha h8 e1 (agree_less hN h4) (by omega) hlim hc]
   ·rw [hm.same s s' a o x a1 o1 ha h8 e1 (agree_less hN h4) (by omega) (by omega)]
    exact (hf x).less s s' a1 o1 y a2 o2 h2 h8 e hN hL (by omega) hlt
 cut := fun s s' a o y a2 o2 ha h8 h8' e hN hL hlt hlim => by
  unfold bindM at e ⊢
  split at e
  ·cases e
  ·rename_i x a1 o1 e1
   obtain ⟨h1, h2, h3⟩ := hm.grow s a o x a1 o1 ha h8 e1
   obtain ⟨h4, h5, h6⟩ := (hf x).grow s a1 o1 y a2 o2 h2 h8 e
   by_cases hc : s'.L < a1
   ·rw [hm.cut s s' a o x a1 o1 ha h8 h8' e1 hN hL hc (by omega)]
   ·rw [hm.same s s' a o x a1 o1 ha h8 e1 (agree_less hN (by omega)) (by omega) (by omega)]
    exact (hf x).cut s s' a1 o1 y a2 o2 h2 h8 h8' e hN (by omega) hlt hlim
theorem stable_ite {α : Type} {p : Prop} [Decidable p] {m m' : Mm α} (h : Stable m) (h' : Stable m') : Stable (if p then m else m') := by
 split
 ·exact h
 ·exact h'
theorem stable_read (n : Nat) : Stable (readM1 n) where
 grow := fun s a o y a1 o1 ha _ e => by
  unfold readM1 at e
  split at e
  ·injection e with e; cases e; exact ⟨by omega, by omega, Nat.le_refl _⟩
  ·cases e
 same := fun s s' a o y a1 o1 ha _ e hN hL hlim => by
  unfold readM1 at e ⊢
  split at e
  ·injection e with e; cases e; rw [if_pos hL, agree_bits hN]
  ·cases e
 less := fun s s' a o y a1 o1 ha _ e hN hL h1 h2 => by
  unfold readM1 at e
  split at e
  ·injection e with e; cases e; omega
  ·cases e
 cut := fun s s' a o y a1 o1 ha _ _ e hN hL h1 _ => by
  unfold readM1 at e ⊢
  split at e
  ·injection e with e; cases e; rw [if_neg (by omega)]
  ·cases e
theorem stable_align : Stable alignM where
 grow := fun s a o y a1 o1 ha _ e => by injection e with e; cases e; exact ⟨by omega, by omega, Nat.le_refl _⟩
 same := fun s s' a o y a1 o1 _ _ e _ _ _ => by injection e with e; cases e; rfl
 less := fun s s' a o y a1 o1 _ _ e _ _ h1 h2 => by injection e with e; cases e; omega
 cut := fun s s' a o y a1 o1 _ _ _ e _ h1 h2 _ => by injection e with e; cases e; omega
theorem stable_put (b : Nat) : Stable (putM b) where
 grow := fun s a o y a1 o1 ha _ e => by
  unfold putM at e
  split at e
  ·injection e with e; cases e; exact ⟨Nat.le_refl _, ha, by simp⟩
  ·cases e
 same := fun s s' a o y a1 o1 ha _ e hN hL hlim => by
  unfold putM at e ⊢
  split at e
  ·injection e with e; cases e; rw [if_pos (by simpa using hlim)]
  ·cases e
 less := fun s s' a o y a1 o1 ha _ e hN hL h1 h2 => by
  unfold putM at e ⊢
  split at e
  ·injection e with e; cases e; rw [if_neg (by simp at h2; omega)]
  ·cases e
 cut := fun s s' a o y a1 o1 ha _ _ e hN hL h1 _ => by
  unfold putM at e
  split at e
  ·injection e with e; cases e; omega
  ·cases e
theorem bytesAt_len (N a : Nat) : ∀ n, (bytesAt N a n).length = n
 | 0 => rfl
 | n + 1 => by rw [bytesAt, List.length_append, bytesAt_len N a n]; rfl
theorem bytesAt_agree {N N' a : Nat} : ∀ n, N % 2 ^ (a + 8 * n) = N' % 2 ^ (a + 8 * n) → bytesAt N a n = bytesAt N' a n
 | 0, _ => rfl
 | n + 1, h => by
  rw [bytesAt, bytesAt, bytesAt_agree n (agree_less h (by omega)), agree_bits (N := N) (N' := N') (agree_less h (by omega))]
theorem stable_store (n : Nat) : Stable (storeM n) where
 grow := fun s a o y a1 o1 ha _ e => by
  unfold storeM at e
  split at e
  ·split at e
   ·injection e with e; cases e; exact ⟨by omega, by omega, by simp⟩
   ·cases e
  ·cases e
 same := fun s s' a o y a1 o1 ha _ e hN hL hlim => by
  unfold storeM at e ⊢
  split at e
  ·split at e
   ·injection e with e; cases e
    rw [List.length_append, bytesAt_len] at hlim
    rw [if_pos hlim, if_pos hL, bytesAt_agree n hN]
   ·cases e
  ·cases e
 less := fun s s' a o y a1 o1 ha _ e hN hL h1 h2 => by
  unfold storeM at e ⊢
  split at e
  ·split at e
   ·injection e with e; cases e
    rw [List.length_append, bytesAt_len] at h2
    rw [if_neg (by omega)]
   ·cases e
  ·cases e
 cut := fun s s' a o y a1 o1 ha _ _ e hN hL h1 hlim => by
  unfold storeM at e ⊢
  split at e
  ·split at e
   ·injection e with e; cases e
    rw [List.length_append, bytesAt_len] at hlim
    rw [if_pos hlim, if_neg (by omega)]
   ·cases e
  ·cases e
theorem copyL_len (o : List Nat) (d : Nat) : ∀ n, (copyL o d n).length = o.length + n
 | 0 => rfl
 | n + 1 => by rw [copyL, List.length_append, copyL_len o d n]; rfl
theorem stable_copy (n d : Nat) : Stable (copyM n d) where
 grow := fun s a o y a1 o1 ha _ e => by
  unfold copyM at e
  split at e
  ·cases e
  ·split at e
   ·injection e with e; cases e; exact ⟨Nat.le_refl _, ha, by rw [copyL_len]; omega⟩
   ·cases e
 same := fun s s' a o y a1 o1 ha _ e hN hL hlim => by
  unfold copyM at e ⊢
  split at e
  ·cases e
  ·rename_i hd
   split at e
   ·injection e with e; cases e
    rw [copyL_len] at hlim
    rw [if_neg hd, if_pos hlim]
   ·cases e
 less := fun s s' a o y a1 o1 ha _ e hN hL h1 h2 => by
  unfold copyM at e ⊢
  split at e
  ·cases e
  ·rename_i hd
   split at e
   ·injection e with e; cases e
    rw [copyL_len] at h2
    rw [if_neg hd, if_neg (by omega)]
   ·cases e
 cut := fun s s' a o y a1 o1 ha _ _ e hN hL h1 hlim => by
  unfold copyM at e
  split at e
  ·cases e
  ·split at e
   ·injection e with e; cases e; omega
   ·cases e

theorem rev_agree {X X' : Nat} : ∀ l, X % 2 ^ l = X' % 2 ^ l → rev X l = rev X' l
 | 0, _ => rfl
 | l + 1, h => by
  have hd : X / 2 ^ l % 2 = X' / 2 ^ l % 2 := by
   have e : ∀ M : Nat, M / 2 ^ l % 2 = M % 2 ^ (l + 1) / 2 ^ l := fun M => by rw [Nat.pow_succ, Nat.mod_mul_right_div_self]
   rw [e, e, h]
  rw [rev, rev, rev_agree l (agree_less h (by omega)), hd]
/-- Bits that are the same in a row are the same from a place on. -/
theorem agree_div {N N' a l : Nat} (h : N % 2 ^ (a + l) = N' % 2 ^ (a + l)) : N / 2 ^ a % 2 ^ l = N' / 2 ^ a % 2 ^ l := agree_bits h
theorem srch_lt (c : Cod) (X : Nat) : ∀ k l i j, srch c X k l = some (i, j) → l ≤ j ∧ j < l + k ∧ findW c.ls c.W j (rev X j) c.n = some i
 | 0, l, i, j, h => by cases h
 | k + 1, l, i, j, h => by
  rw [srch] at h
  split at h
  ·rename_i hf
   injection h with h
   cases h
   exact ⟨Nat.le_refl _, by omega, hf⟩
  ·obtain ⟨h1, h2, h3⟩ := srch_lt c X k (l + 1) i j h
   exact ⟨by omega, by omega, h3⟩
theorem srch_none (c : Cod) (X : Nat) : ∀ k l, (∀ j, l ≤ j → j < l + k → findW c.ls c.W j (rev X j) c.n = none) → srch c X k l = none
 | 0, l, h => rfl
 | k + 1, l, h => by
  rw [srch, h l (Nat.le_refl _) (by omega)]
  exact srch_none c X k (l + 1) fun j h1 h2 => h j (by omega) (by omega)
theorem srch_before (c : Cod) (X : Nat) : ∀ k l i j, srch c X k l = some (i, j) → ∀ p, l ≤ p → p < j → findW c.ls c.W p (rev X p) c.n = none
 | 0, l, i, j, h => by cases h
 | k + 1, l, i, j, h => by
  intro p h1 h2
  rw [srch] at h
  split at h
  ·injection h with h
   cases h
   omega
  ·rename_i hf
   by_cases e : p = l
   ·subst e
    exact hf
   ·exact srch_before c X k (l + 1) i j h p (by omega) h2
theorem srch_some (c : Cod) (X i j : Nat) : ∀ k l, l ≤ j → j < l + k → (∀ p, l ≤ p → p < j → findW c.ls c.W p (rev X p) c.n = none) → findW c.ls c.W j (rev X j) c.n = some i → srch c X k l = some (i, j)
 | 0, l, h1, h2, _, _ => by omega
 | k + 1, l, h1, h2, h3, h4 => by
  rw [srch]
  by_cases e : l = j
  ·subst e
   rw [h4]
  ·rw [h3 l (Nat.le_refl _) (by omega)]
   exact srch_some c X i j k (l + 1) (by omega) (by omega) (fun p h5 h6 => h3 p (by omega) h6) h4
theorem sign_ok (c : Cod) (s : Src) (a : Nat) (o : List Nat) (x a1 : Nat) (o1 : List Nat) (h : signM c s a o = .ok (x, a1, o1)) : ∃ l, a1 = a + l ∧ o1 = o ∧ 1 ≤ l ∧ l ≤ c.mx ∧ a + l ≤ max a s.L ∧ srch c (s.N / 2 ^ a) (min c.mx (s.L - a)) 1 = some (x, l) := by
 unfold signM at h
 split at h
 ·rename_i i l hs
  injection h with h
  cases h
  obtain ⟨h1, h2, _⟩ := srch_lt c _ _ _ _ _ hs
  exact ⟨l, rfl, rfl, h1, by omega, by omega, hs⟩
 ·split at h <;> cases h
theorem sign_agree (c : Cod) (X X' k k' i l : Nat) (h : srch c X k 1 = some (i, l)) (hX : X % 2 ^ l = X' % 2 ^ l) (hk : l ≤ k') : srch c X' k' 1 = some (i, l) := by
 obtain ⟨h1, h2, h3⟩ := srch_lt c _ _ _ _ _ h
 refine srch_some c X' i l k' 1 h1 (by omega) (fun p h4 h5 => ?_) ?_
 ·rw [← rev_agree p (agree_less hX (by omega))]
  exact srch_before c X _ _ _ _ h p h4 h5
 ·rw [← rev_agree l hX]
  exact h3
theorem stable_sign (c : Cod) : Stable (signM c) where
 grow := fun s a o y a1 o1 ha _ e => by
  obtain ⟨l, rfl, rfl, h1, h2, h3, h4⟩ := sign_ok c s a o y a1 o1 e
  exact ⟨by omega, by omega, Nat.le_refl _⟩
 same := fun s s' a o y a1 o1 ha _ e hN hL hlim => by
  obtain ⟨l, rfl, rfl, h1, h2, h3, h4⟩ := sign_ok c s a o y a1 o1 e
  unfold signM
  rw [sign_agree c _ _ _ (min c.mx (s'.L - a)) _ _ h4 (agree_div hN) (by omega)]
 less := fun s s' a o y a1 o1 ha _ e hN hL h1 h2 => by
  obtain ⟨l, rfl, rfl, _⟩ := sign_ok c s a o y a1 o1 e
  omega
 cut := fun s s' a o y a1 o1 ha _ _ e hN hL hlt _ => by
  obtain ⟨l, rfl, rfl, h1, h2, h3, h4⟩ := sign_ok c s a o y a1 o1 e
  unfold signM
  rw [srch_none c (s'.N / 2 ^ a) (min c.mx (s'.L - a)) 1 (fun j h5 h6 => ?_)]
  ·show (if s'.L - a < c.mx then _ else _) = _
   rw [if_pos (by omega)]
  ·rw [← rev_agree (X := s.N / 2 ^ a) j (agree_div (agree_less hN (by omega)))]
   exact srch_before c _ _ _ _ _ h4 j h5 (by omega)
theorem stable_loop {γ β : Type} {body : γ → Mm (γ ⊕ β)} (hb : ∀ c, Stable (body c)) (c : γ) : Stable (loopM body c) := by
 have key : ∀ (s : Src) k c a o (p : β × Nat × List Nat), a ≤ s.L → s.L % 8 = 0 → itM body s k c a o = some (.ok p) →
   (a ≤ p.2.1 ∧ p.2.1 ≤ s.L ∧ o.length ≤ p.2.2.length) ∧
   (∀ s' : Src, s.N % 2 ^ p.2.1 = s'.N % 2 ^ p.2.1 → p.2.1 ≤ s'.L → p.2.2.length ≤ s'.lim → Runs body s' c a o (.ok p)) ∧
   (∀ s' : Src, s.N % 2 ^ p.2.1 = s'.N % 2 ^ p.2.1 → p.2.1 ≤ s'.L → o.length ≤ s'.lim → s'.lim < p.2.2.length → Runs body s' c a o (.error 14)) ∧
   (∀ s' : Src, s'.L % 8 = 0 → s.N % 2 ^ s'.L = s'.N % 2 ^ s'.L → a ≤ s'.L → s'.L < p.2.1 → p.2.2.length ≤ s'.lim → Runs body s' c a o (.error 3)) := by
  intro s k
  induction k with
  | zero => intro c a o p _ _ h; cases h
  | succ k ih =>
   intro c a o p ha h8 h
   rw [itM] at h
   split at h
   ·cases h
   ·rename_i y a1 o1 hbd
    injection h with h
    injection h with h
    subst h
    refine ⟨(hb c).grow _ _ _ _ _ _ ha h8 hbd, fun s' h1 h2 h3 => .done ((hb c).same _ s' _ _ _ _ _ ha h8 hbd h1 h2 h3), fun s' h1 h2 h3 h4 => .err ((hb c).less _ s' _ _ _ _ _ ha h8 hbd h1 h2 h3 h4), fun s' h1 h2 h3 h4 h5 => .err ((hb c).cut _ s' _ _ _ _ _ ha h8 h1 hbd h2 h3 h4 h5)⟩
   ·rename_i c1 a1 o1 hbd
    obtain ⟨g1, g2, g3⟩ := (hb c).grow _ _ _ _ _ _ ha h8 hbd
    obtain ⟨⟨i1, i2, i3⟩, j1, j2, j3⟩ := ih c1 a1 o1 p g2 h8 h
    refine ⟨⟨by omega, i2, by omega⟩, fun s' h1 h2 h3 => ?_, fun s' h1 h2 h3 h4 => ?_, fun s' h1 h2 h3 h4 h5 => ?_⟩
    ·exact .more ((hb c).same _ s' _ _ _ _ _ ha h8 hbd (agree_less h1 i1) (by omega) (by omega)) (j1 s' h1 h2 h3)
    ·by_cases hc : s'.lim < o1.length
     ·exact .err ((hb c).less _ s' _ _ _ _ _ ha h8 hbd (agree_less h1 i1) (by omega) h3 hc)
     ·exact .more ((hb c).same _ s' _ _ _ _ _ ha h8 hbd (agree_less h1 i1) (by omega) (by omega)) (j2 s' h1 h2 (by omega) h4)
    ·by_cases hc : s'.L < a1
     ·exact .err ((hb c).cut _ s' _ _ _ _ _ ha h8 h1 hbd h2 h3 hc (by omega))
     ·exact .more ((hb c).same _ s' _ _ _ _ _ ha h8 hbd (agree_less h2 (by omega)) (by omega) (by omega)) (j3 s' h1 h2 (by omega) h4 h5)
 refine ⟨fun s a o x a1 o1 ha h8 h => ?_, fun s s' a o x a1 o1 ha h8 h h1 h2 h3 => ?_, fun s s' a o x a1 o1 ha h8 h h1 h2 h3 h4 => ?_, fun s s' a o x a1 o1 ha h8 h8' h h1 h2 h3 h4 => ?_⟩
 ·obtain ⟨k, hk⟩ := loop_ok h
  exact (key s k c a o _ ha h8 hk).1
 ·obtain ⟨k, hk⟩ := loop_ok h
  exact loop_of ((key s k c a o _ ha h8 hk).2.1 s' h1 h2 h3)
 ·obtain ⟨k, hk⟩ := loop_ok h
  exact loop_of ((key s k c a o _ ha h8 hk).2.2.1 s' h1 h2 h3 h4)
 ·obtain ⟨k, hk⟩ := loop_ok h
  exact loop_of ((key s k c a o _ ha h8 hk).2.2.2 s' h8' h1 h2 h3 h4)

/-! The stream. -/
def climbN (sign many : Nat) : Nat × Nat := ((sign - (sign / many - 1) * many) * 2 ^ (sign / many - 1), sign / many - 1)
def lenOf (x : Nat) : Nat × Nat := if x < 257 ∨ 285 < x then (0, 0) else if x = 285 then (258, 0) else (3 + (climbN (x - 257) 4).1, (climbN (x - 257) 4).2)
def distOf (x : Nat) : Nat × Nat := if 29 < x then (0, 0) else (1 + (climbN x 2).1, (climbN x 2).2)
def numberM (p : Nat × Nat) : Mm Nat := if p.1 = 0 then failM 10 else bindM (readM1 p.2) fun v => retM (p.1 + v)
def againM (x : Nat) (d : Cod) : Mm Unit := bindM (numberM (lenOf x)) fun n => bindM (signM d) fun y => bindM (numberM (distOf y)) fun k => copyM n k
def stepM (c d : Cod) (_ : Unit) : Mm (Unit ⊕ Unit) := bindM (signM c) fun x => if x = 256 then retM (.inr ()) else if x < 256 then bindM (putM x) fun _ => retM (.inl ()) else bindM (againM x d) fun _ => retM (.inl ())
noncomputable def signsM (c d : Cod) : Mm Unit := loopM (stepM c d) ()
def storedM : Mm Unit := bindM alignM fun _ => bindM (readM1 16) fun n => bindM (readM1 16) fun t => if n = 65535 - t then storeM n else failM 13
/-- May such a code be? -/
def may (c : Cod) (op : Bool) : Prop := fillN c.ls c.n ≤ 32768 ∧ (fillN c.ls c.n = 32768 ∨ op = true ∧ sumN c.ls c.n ≤ 1)
instance (c : Cod) (op : Bool) : Decidable (may c op) := by unfold may; infer_instance
def makeM (c : Cod) (op : Bool) : Mm Unit := if may c op then retM () else failM 10
def pairM (c d : Cod) : Mm Unit := bindM (makeM c true) fun _ => makeM d true
def orderL : List Nat := [16, 17, 18, 0, 8, 7, 9, 6, 10, 5, 11, 4, 12, 3, 13, 2, 14, 1, 15]
/-- So many lengths of lengths. -/
def threesM : Nat → Mm (List Nat)
 | 0 => retM []
 | k + 1 => bindM (threesM k) fun l => bindM (readM1 3) fun x => retM (l ++ [x])
/-- The lengths of lengths that were told. -/
def outerC (l : List Nat) : Cod := ⟨19, fun i => l.getD (orderL.findIdx (· == i)) 0⟩
def outerM (told : Nat) : Mm Cod := bindM (threesM told) fun l => bindM (makeM (outerC l) false) fun _ => retM (outerC l)
/-- What a sign behind a row is: a length, how often at least, how many bits more. -/
def runOf (x : Nat) (row : List Nat) : Nat × Nat × Nat := if x = 16 then (row.getD (row.length - 1) 0, 3, 2) else if x = 17 then (0, 3, 3) else if x = 18 then (0, 11, 7) else (x, 1, 0)
def runM (x : Nat) (row : List Nat) : Mm (Nat × Nat) := if x = 16 ∧ row.length = 0 then failM 10 else bindM (readM1 (runOf x row).2.2) fun v => retM ((runOf x row).1, (runOf x row).2.1 + v)
def rowStep (c : Cod) (many : Nat) (row : List Nat) : Mm (List Nat ⊕ List Nat) := if row.length < many then (bindM (signM c) fun x => bindM (runM x row) fun p => retM (.inl (row ++ List.replicate p.2 p.1))) else if many < row.length then failM 10 else retM (.inr row)
noncomputable def rowM (c : Cod) (many : Nat) : Mm (List Nat) := loopM (rowStep c many) []
def codL (l : List Nat) : Cod := ⟨l.length, fun i => l.getD i 0⟩
noncomputable def dynamicM : Mm (Cod × Cod) := bindM (readM1 5) fun x => bindM (readM1 5) fun y => bindM (readM1 4) fun z =>
 if 286 < 257 + x ∨ 30 < 1 + y then failM 10 else bindM (outerM (4 + z)) fun c => bindM (rowM c (257 + x + (1 + y))) fun l =>
  if l.getD 256 0 = 0 then failM 10 else bindM (pairM (codL (l.take (257 + x))) (codL (l.drop (257 + x)))) fun _ => retM (codL (l.take (257 + x)), codL (l.drop (257 + x)))
def fixS : Cod := ⟨288, fun i => if i < 144 then 8 else if i < 256 then 9 else if i < 280 then 7 else if i < 288 then 8 else 0⟩
def fixD : Cod := ⟨32, fun i => if i < 32 then 5 else 0⟩
noncomputable def blockM : Mm Bool := bindM (readM1 1) fun b => bindM (readM1 2) fun k =>
 if k = 0 then (bindM storedM fun _ => retM (b == 1)) else if k = 1 then (bindM (signsM fixS fixD) fun _ => retM (b == 1)) else if k = 2 then (bindM dynamicM fun p => bindM (signsM p.1 p.2) fun _ => retM (b == 1)) else failM 12
noncomputable def blockStep (_ : Unit) : Mm (Unit ⊕ Unit) := bindM blockM fun last => if last = true then retM (.inr ()) else retM (.inl ())
noncomputable def inflM : Mm Unit := loopM blockStep ()

theorem stable_number (p : Nat × Nat) : Stable (numberM p) := stable_ite (stable_fail _) (stable_bind (stable_read _) fun _ => stable_ret _)
theorem stable_step (c d : Cod) (u : Unit) : Stable (stepM c d u) := stable_bind (stable_sign _) fun _ => stable_ite (stable_ret _) (stable_ite (stable_bind (stable_put _) fun _ => stable_ret _)
 (stable_bind (stable_bind (stable_number _) fun _ => stable_bind (stable_sign _) fun _ => stable_bind (stable_number _) fun _ => stable_copy _ _) fun _ => stable_ret _))
theorem stable_signs (c d : Cod) : Stable (signsM c d) := stable_loop (stable_step c d) ()
theorem stable_stored : Stable storedM := stable_bind stable_align fun _ => stable_bind (stable_read _) fun _ => stable_bind (stable_read _) fun _ => stable_ite (stable_store _) (stable_fail _)
theorem stable_make (c : Cod) (op : Bool) : Stable (makeM c op) := stable_ite (stable_ret _) (stable_fail _)
theorem stable_threes : ∀ k, Stable (threesM k)
 | 0 => stable_ret _
 | k + 1 => stable_bind (stable_threes k) fun _ => stable_bind (stable_read _) fun _ => stable_ret _
theorem stable_row (c : Cod) (many : Nat) : Stable (rowM c many) := stable_loop (fun _ => stable_ite (stable_bind (stable_sign _) fun _ => stable_bind (stable_ite (stable_fail _) (stable_bind (stable_read _) fun _ => stable_ret _)) fun _ => stable_ret _) (stable_ite (stable_fail _) (stable_ret _))) []
theorem stable_dynamic : Stable dynamicM := stable_bind (stable_read _) fun _ => stable_bind (stable_read _) fun _ => stable_bind (stable_read _) fun _ => stable_ite (stable_fail _)
 (stable_bind (stable_bind (stable_threes _) fun _ => stable_bind (stable_make _ _) fun _ => stable_ret _) fun _ => stable_bind (stable_row _ _) fun _ => stable_ite (stable_fail _) (stable_bind (stable_bind (stable_make _ _) fun _ => stable_make _ _) fun _ => stable_ret _))
end Go.Proofs.YtmkeicfklbepnaaGreat

namespace Go.Proofs.YtmkeicfklbepnaaGreat
set_option maxRecDepth 100000
open Go.RowKit Go.Deep Go.Joins

theorem ret2_eq {a b c d : Int} {k l : IntKind} (h : a = c) (h' : b = d) : Ending.returned (.tuple #[.int k a, .int l b]) = .returned (.tuple #[.int k c, .int l d]) := by rw [h, h']
theorem climb_walk (x many q p pm d : Nat) (hq : (x : Int).tdiv (many : Int) = (q : Int)) (hp : q - 1 = p) (hx : x ≤ 1000) (hq1 : q ≤ 1000) (hm : p ≤ 13) (hmany : 2 ≤ many ∧ many ≤ 4) (hpm : p * many = pm) (hpl : pm ≤ x) (hd : x - pm = d) (hd8 : d < 8) (w : World) :
  Calls Tryz.prog 108 #[.int .i64 x, .int .i64 many] w fun r w' => r = .returned (.tuple #[.int .i64 ((d * 2 ^ p : Nat) : Int), .int .i64 (p : Nat)]) ∧ w = w' := by
 have hmm2 : wrap64 (((p : Nat) : Int) * (many : Int)) = (pm : Int) := by
  rw [show ((p : Int) * (many : Int)) = ((p * many : Nat) : Int) by simp, hpm]
  unfold wrap64
  omega
 have h13 : (2 : Nat) ^ p ≤ 2 ^ 13 := Nat.pow_le_pow_right (by omega) hm
 have hdp : d * 2 ^ p ≤ 8 * 2 ^ 13 := Nat.mul_le_mul (by omega) h13
 have hw : wrap64 ((d : Int) * 2 ^ p) = ((d * 2 ^ p : Nat) : Int) := by
  rw [show ((d : Int) * 2 ^ p) = ((d * 2 ^ p : Nat) : Int) by simp]
  unfold wrap64
  omega
 have HW := Lib.hid hw
 obtain ⟨hma, hmb⟩ := hmany
 have hz : ¬ ((many : Int) = 0) := by omega
 have hne : ((many : Int) == 0) = false := by rw [beq_eq_false_iff_ne]; omega
 have hd2 : (x : Int) - (pm : Int) = (d : Int) := by omega
 have hw0 : d * 2 ^ p ≤ 65536 := hdp
 generalize hyy : d * 2 ^ p = y at *
 have HYY := Lib.hid hyy
 cases q with
 | zero =>
  obtain rfl : p = 0 := by omega
  obtain rfl : pm = 0 := by omega
  obtain rfl : x = d := by omega
  rw [Nat.pow_zero, Nat.mul_one] at hyy
  subst hyy
  clear HW hw h13 hdp hd hd2 hp hpm hmm2 HYY
  go_enter Tryz.func108, Tryz.ntmps108
  go_wp2
  go_ret2
  exact ⟨rfl, rfl⟩
 | succ q =>
  obtain rfl : q = p := by omega
  have hq2 : (x : Int).tdiv (many : Int) = (q : Int) + 1 := by rw [hq]; simp
  clear hw h13 hdp hd hp hpm hq hyy
  go_enter Tryz.func108, Tryz.ntmps108
  go_wp2
  go_ret2
  exact ⟨ret2_eq HW.out rfl, rfl⟩
theorem climb_any (x many : Nat) (hx : x ≤ 1000) (h2 : many = 2 ∨ many = 4) (hm : x / many - 1 ≤ 13) (w : World) :
  Calls Tryz.prog 108 #[.int .i64 x, .int .i64 many] w fun r w' => r = .returned (.tuple #[.int .i64 ((climbN x many).1 : Nat), .int .i64 ((climbN x many).2 : Nat)]) ∧ w = w' := by
 refine climb_walk x many (x / many) (x / many - 1) ((x / many - 1) * many) _ ?_ rfl hx (Nat.le_trans (Nat.div_le_self _ _) hx) hm (by omega) rfl ?_ rfl ?_ w
 ·rw [Int.tdiv_eq_ediv_of_nonneg (by omega)]; simp
 ·exact Nat.le_trans (Nat.mul_le_mul_right _ (Nat.sub_le _ _)) (Nat.div_mul_le_self x many)
 ·rcases h2 with rfl | rfl <;> omega

theorem lengths_any (x : Int) (w : World) :
  Calls Tryz.prog 94 #[.int .i64 x] w fun r w' => r = .returned (.tuple #[.int .i64 ((lenOf x.toNat).1 : Nat), .int .i64 ((lenOf x.toNat).2 : Nat)]) ∧ w = w' := by
 by_cases h0 : x < 257
 ·have HL : Hid (lenOf x.toNat = (0, 0)) := by show _ = _; unfold lenOf; rw [if_pos (by omega)]
  go_enter Tryz.func94, Tryz.ntmps94
  go_wp2
  go_ret2
  rw [HL.out]
  exact ⟨rfl, rfl⟩
 ·by_cases h1 : 285 < x
  ·have HL : Hid (lenOf x.toNat = (0, 0)) := by show _ = _; unfold lenOf; rw [if_pos (by omega)]
   go_enter Tryz.func94, Tryz.ntmps94
   go_wp2
   go_ret2
   rw [HL.out]
   exact ⟨rfl, rfl⟩
  ·by_cases h2 : x = 285
   ·subst h2
    go_enter Tryz.func94, Tryz.ntmps94
    go_wp2
    go_ret2
    exact ⟨rfl, rfl⟩
   ·obtain ⟨n, rfl⟩ : ∃ n : Nat, x = (n : Int) + 257 := ⟨(x - 257).toNat, by omega⟩
    have hn : n ≤ 27 := by omega
    have HL : Hid (lenOf ((n : Int) + 257).toNat = (3 + (climbN n 4).1, (climbN n 4).2)) := by
     show _ = _
     unfold lenOf
     rw [if_neg (by omega), if_neg (by omega), show ((n : Int) + 257).toNat - 257 = n by omega]
    have HC := Lib.hid (climb_any n 4 (by omega) (.inr rfl) (by omega))
    have hb : (climbN n 4).1 ≤ 1000 := by
     have : ∀ m, m ≤ 27 → (climbN m 4).1 ≤ 1000 := by decide
     exact this n hn
    have hne : ((n : Int) + 257 == 285) = false := by rw [beq_eq_false_iff_ne]; omega
    generalize (climbN n 4).1 = c1 at *
    generalize (climbN n 4).2 = c2 at *
    clear h2
    go_enter Tryz.func94, Tryz.ntmps94
    go_wp2_with (go_at_call 108; refine (HC.out _).mono ?_; rintro r w' ⟨rfl, rfl⟩)
    go_ret2
    rw [HL.out]
    exact ⟨ret2_eq (by simp) rfl, rfl⟩
theorem distances_any (x : Int) (w : World) :
  Calls Tryz.prog 95 #[.int .i64 x] w fun r w' => r = .returned (.tuple #[.int .i64 ((if x < 0 then 0 else (distOf x.toNat).1 : Nat) : Int), .int .i64 ((if x < 0 then 0 else (distOf x.toNat).2 : Nat) : Int)]) ∧ w = w' := by
 by_cases h0 : x < 0
 ·rw [if_pos h0, if_pos h0]
  go_enter Tryz.func95, Tryz.ntmps95
  go_wp2
  go_ret2
  exact ⟨rfl, rfl⟩
 ·rw [if_neg h0, if_neg h0]
  obtain ⟨n, rfl⟩ := Int.eq_ofNat_of_zero_le (show 0 ≤ x by omega)
  rw [Int.toNat_natCast]
  by_cases h1 : 29 < n
  ·have HL : Hid (distOf n = (0, 0)) := if_pos h1
   go_enter Tryz.func95, Tryz.ntmps95
   go_wp2
   go_ret2
   rw [HL.out]
   exact ⟨rfl, rfl⟩
  ·have HL : Hid (distOf n = (1 + (climbN n 2).1, (climbN n 2).2)) := if_neg h1
   have HC := Lib.hid (climb_any n 2 (by omega) (.inl rfl) (by omega))
   have hb : (climbN n 2).1 ≤ 32768 := by
    have : ∀ m, m ≤ 29 → (climbN m 2).1 ≤ 32768 := by decide
    exact this n (by omega)
   generalize (climbN n 2).1 = c1 at *
   generalize (climbN n 2).2 = c2 at *
   clear h0
   go_enter Tryz.func95, Tryz.ntmps95
   go_wp2_with (go_at_call 108; refine (HC.out _).mono ?_; rintro r w' ⟨rfl, rfl⟩)
   go_ret2
   rw [HL.out]
   exact ⟨ret2_eq (by simp) rfl, rfl⟩
theorem len_bound (x : Nat) : (lenOf x).1 ≤ 258 ∧ (lenOf x).2 ≤ 5 := by
 unfold lenOf
 split
 ·decide
 ·split
  ·decide
  ·have : ∀ m, m ≤ 27 → 3 + (climbN m 4).1 ≤ 258 ∧ (climbN m 4).2 ≤ 5 := by decide
   exact this (x - 257) (by omega)
theorem dist_bound (x : Nat) : (distOf x).1 ≤ 32768 ∧ (distOf x).2 ≤ 13 := by
 unfold distOf
 split
 ·decide
 ·have : ∀ m, m ≤ 29 → 1 + (climbN m 2).1 ≤ 32768 ∧ (climbN m 2).2 ≤ 13 := by decide
  exact this x (by omega)

/-! What is read. -/
/-- The stream's block: it has that reader. -/
def Pin (w : World) (g gr : Nat) : Prop := ∃ v l p, w.heap[g]? = some (.cells #[.pointer (some ⟨gr, 0, none⟩), v, l, p] 50 (0, 0))
theorem blk_ne {w : World} {g h : Nat} {cs cs' : Array Value} {T T' : TypeId} {f f' : Nat × Nat} (hg : w.heap[g]? = some (.cells cs T f)) (hh : w.heap[h]? = some (.cells cs' T' f')) (hT : T ≠ T') : g ≠ h := by
 rintro rfl
 rw [hg] at hh
 simp at hh
 exact hT hh.2.1
theorem Pin.c0 {w : World} {g gr : Nat} (h : Pin w g gr) : w.cell? ⟨g, 0, none⟩ = some (.pointer (some ⟨gr, 0, none⟩)) := by
 obtain ⟨v, l, p, hb⟩ := h
 rw [cell_of_row w g 0 _ _ _ hb]; rfl
theorem Pin.grown {w w' : World} {g gr : Nat} {s : ByteArray} {a e : Nat} (h : Pin w g gr) (hr : Rd 83 w gr s a e) (hg : w.grownBy w' (some gr)) : Pin w' g gr := by
 obtain ⟨v, l, p, hb⟩ := h
 exact ⟨v, l, p, (hg.block g (lt_of_heap hb) (by intro e; injection e with e; exact blk_ne hb hr (by decide) e)).trans hb⟩
theorem Pin.drewN {w : World} {g gr : Nat} (h : Pin w g gr) (d : Nat) : Pin (w.drewN d) g gr := h
theorem Pin.below {w w' : World} {B g gr : Nat} (h : Pin w g gr) (hb : Below B w w') (hg : g < B) : Pin w' g gr := by
 obtain ⟨v, l, p, hx⟩ := h
 exact ⟨v, l, p, (hb.block g hg).trans hx⟩
theorem Pin.lt {w : World} {g gr : Nat} (h : Pin w g gr) : g < w.heap.size := by
 obtain ⟨v, l, p, hx⟩ := h
 exact lt_of_heap hx

theorem read_ok (g : Nat) (s : ByteArray) (a n : Nat) (hs : s.size ≤ 1000000) (hn : n ≤ 32) (h : a + n ≤ 8 * s.size) (w : World) (hc : Rd 83 w g s a 0) :
  Calls Tryz.prog 35 #[.pointer (some ⟨g, 0, none⟩), .int .i64 n] w fun r w' => r = .returned (.int .u32 (bitsAt (num s) a n : Nat)) ∧ Rd 83 w' g s (a + n) 0 ∧ w.grownBy w' (some g) := by
 have e1 : readM s a 0 (n : Nat) = n := by unfold readM; rw [if_pos (by omega)]; simp
 have e2 : readE s a 0 (n : Nat) = 0 := by unfold readE; rw [if_neg (by omega), if_neg (by omega), if_pos (by omega)]
 have := read_any g s a 0 (n : Nat) hs (by omega) w hc
 rwa [e1, e2] at this
theorem read_short (g : Nat) (s : ByteArray) (a n : Nat) (hs : s.size ≤ 1000000) (ha : a ≤ 8 * s.size) (hn : n ≤ 32) (h : 8 * s.size < a + n) (w : World) (hc : Rd 83 w g s a 0) :
  Calls Tryz.prog 35 #[.pointer (some ⟨g, 0, none⟩), .int .i64 n] w fun r w' => r = .returned (.int .u32 0) ∧ Rd 83 w' g s a 3 ∧ w.grownBy w' (some g) := by
 have e1 : readM s a 0 (n : Nat) = 0 := by unfold readM; rw [if_neg (by omega)]
 have e2 : readE s a 0 (n : Nat) = 3 := by unfold readE; rw [if_neg (by omega), if_neg (by omega), if_neg (by omega)]
 have := read_any g s a 0 (n : Nat) hs ha w hc
 rwa [e1, e2, bitsAt_zero, Nat.add_zero] at this
theorem read_bad (g : Nat) (s : ByteArray) (a n e : Nat) (hs : s.size ≤ 1000000) (ha : a ≤ 8 * s.size) (he : e ≠ 0) (w : World) (hc : Rd 83 w g s a e) :
  Calls Tryz.prog 35 #[.pointer (some ⟨g, 0, none⟩), .int .i64 n] w fun r w' => r = .returned (.int .u32 0) ∧ Rd 83 w' g s a e ∧ w.grownBy w' (some g) := by
 have e1 : readM s a e (n : Nat) = 0 := by unfold readM; rw [if_neg (by omega)]
 have e2 : readE s a e (n : Nat) = e := by unfold readE; rw [if_pos he]
 have := read_any g s a e (n : Nat) hs ha w hc
 rwa [e1, e2, bitsAt_zero, Nat.add_zero] at this

/-- The bits of a text. -/
def srcOf (s : ByteArray) (lim : Nat) : Src := ⟨num s, 8 * s.size, lim⟩
/-- What became of a call that reads: its answer, and the reader's place. -/
def PR {α : Type} (w : World) (gr : Nat) (s : ByteArray) (val : α → Ending → Prop) (bad : Nat → Ending → Prop) (ans : Ans α) (r : Ending) (w' : World) : Prop :=
 w.grownBy w' (some gr) ∧ match ans with
  | .ok (x, a1, _) => val x r ∧ Rd 83 w' gr s a1 0 ∧ a1 ≤ 8 * s.size
  | .error e => bad e r ∧ e ≠ 0 ∧ e < 100
theorem PR.ok {α : Type} {w w' : World} {gr : Nat} {s : ByteArray} {val : α → Ending → Prop} {bad : Nat → Ending → Prop} {ans : Ans α} {r : Ending} {x : α} {a1 : Nat} {o1 : List Nat} (h : ans = .ok (x, a1, o1)) (hg : w.grownBy w' (some gr)) (hv : val x r) (hr : Rd 83 w' gr s a1 0) (ha : a1 ≤ 8 * s.size) : PR w gr s val bad ans r w' := by
 subst h
 exact ⟨hg, hv, hr, ha⟩
theorem PR.err {α : Type} {w w' : World} {gr : Nat} {s : ByteArray} {val : α → Ending → Prop} {bad : Nat → Ending → Prop} {ans : Ans α} {r : Ending} {e : Nat} (h : ans = .error e) (hg : w.grownBy w' (some gr)) (hv : bad e r) (he : e ≠ 0) (h1 : e < 100) : PR w gr s val bad ans r w' := by
 subst h
 exact ⟨hg, hv, he, h1⟩

theorem number_any (g gr a least more lim : Nat) (s : ByteArray) (o : List Nat) (hs : s.size ≤ 1000000) (ha : a ≤ 8 * s.size) (hl : least ≤ 100000) (hm : more ≤ 13) (w : World) (hp : Pin w g gr) (hr : Rd 83 w gr s a 0) :
  Calls Tryz.prog 93 #[.pointer (some ⟨g, 0, none⟩), .int .i64 least, .int .i64 more] w
   (PR w gr s (fun n r => r = .returned (.tuple #[.int .i64 (n : Nat), .int .i64 0])) (fun e r => ∃ x : Int, r = .returned (.tuple #[.int .i64 x, .int .i64 (e : Nat)])) (numberM (least, more) (srcOf s lim) a o)) := by
 by_cases h0 : least = 0
 ·subst h0
  have HM : Hid (numberM (0, more) (srcOf s lim) a o = .error 10) := rfl
  clear hp hr
  go_enter Tryz.func93, Tryz.ntmps93
  go_wp2
  go_ret2
  exact .err HM.out (World.grownBy.refl _ _) ⟨0, rfl⟩ (by omega) (by omega)
 ·have hne : ((least : Int) == 0) = false := by rw [beq_eq_false_iff_ne]; omega
  have c0 := hp.c0
  have HP := Lib.hid hp
  have HR := Lib.hid hr
  by_cases hb : a + more ≤ 8 * s.size
  ·have HM : Hid (numberM (least, more) (srcOf s lim) a o = .ok (least + bitsAt (num s) a more, a + more, o)) := by
    show _ = _
    unfold numberM bindM readM1 retM srcOf
    rw [if_neg h0]
    simp only [if_pos hb]
   have HRD := Lib.hid (read_ok gr s a more hs (by omega) hb w hr)
   have hbl : bitsAt (num s) a more ≤ 8192 := by
    have h1 := bitsAt_lt (num s) a more
    have h2 : 2 ^ more ≤ 2 ^ 13 := Nat.pow_le_pow_right (by omega) hm
    omega
   generalize bitsAt (num s) a more = v at *
   clear hp hr
   go_enter Tryz.func93, Tryz.ntmps93
   go_wp2_with fail
   refine (HRD.out).mono ?_; rintro r w1 ⟨rfl, hr1, hg1⟩
   have c1 := (HP.out.grown HR.out hg1).c0
   have HE := Lib.hid (err_any gr s (a + more) 0 w1 hr1)
   have HR1 := Lib.hid hr1
   have HG1 := Lib.hid hg1
   clear hr1 hg1
   go_wp2_with fail
   refine (HE.out).mono ?_; rintro r w2 ⟨rfl, rfl⟩
   go_wp2
   go_ret2
   exact .ok HM.out HG1.out (ret2_eq (by simp) rfl) HR1.out hb
  ·have HM : Hid (numberM (least, more) (srcOf s lim) a o = .error 3) := by
    show _ = _
    unfold numberM bindM readM1 retM srcOf
    rw [if_neg h0]
    simp only [if_neg hb]
   have HRD := Lib.hid (read_short gr s a more hs ha (by omega) (by omega) w hr)
   clear hp hr
   go_enter Tryz.func93, Tryz.ntmps93
   go_wp2_with fail
   refine (HRD.out).mono ?_; rintro r w1 ⟨rfl, hr1, hg1⟩
   have c1 := (HP.out.grown HR.out hg1).c0
   have HE := Lib.hid (err_any gr s a 3 w1 hr1)
   have HR1 := Lib.hid hr1
   have HG1 := Lib.hid hg1
   clear hr1 hg1
   go_wp2_with fail
   refine (HE.out).mono ?_; rintro r w2 ⟨rfl, rfl⟩
   go_wp2
   go_ret2
   exact .err HM.out HG1.out ⟨least, rfl⟩ (by omega) (by omega)
end Go.Proofs.YtmkeicfklbepnaaGreat
