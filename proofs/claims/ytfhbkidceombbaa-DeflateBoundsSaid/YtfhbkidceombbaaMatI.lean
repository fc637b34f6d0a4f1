/-
  Ranging over where triples begin.
-/
import Derived.Test.YtfhbkidceombbaaMatG
namespace Go.Proofs.Ytfhbkidceombbaa
set_option maxRecDepth 100000
open Go.RowKit Go.Deep Go.ChangeMaps Go.ChangeShapes Go.WideShapes Go.MapKept
open Go.Maps (Keyed IsMap has)
open Go.WideElems (Fit rd rg)

noncomputable def keyOfT (a : Nat → Nat) (p : Nat) : Lit := tk (a p) (a (p + 1)) (a (p + 2))
/-- How many places' keys have come. -/
noncomputable def cameN (a : Nat → Nat) (left : Lit → Bool) : Nat → Nat
  | 0 => 0
  | m + 1 => if left (keyOfT a m) = true then cameN a left m else cameN a left m + 1
theorem came_start (a : Nat → Nat) (left : Lit → Bool) : ∀ m, (∀ p, p < m → left (keyOfT a p) = true) → cameN a left m = 0
  | 0, _ => rfl
  | m + 1, h => by rw [cameN, if_pos (h m (by omega)), came_start a left m fun p hp => h p (by omega)]
theorem came_end (a : Nat → Nat) (left : Lit → Bool) (h : ∀ kl, left kl = false) : ∀ m, cameN a left m = m
  | 0 => rfl
  | m + 1 => by rw [cameN, if_neg (by rw [h]; decide), came_end a left h m]
theorem came_step (a : Nat → Nat) (ha : ∀ i, a i < 256) (left : Lit → Bool) (x y z : Nat) (hx : x < 256) (hy : y < 256) (hz : z < 256) (hl : left (tk x y z) = true) : ∀ m, cameN a (fun kl => left kl && !kl.sameKey (tk x y z)) m = cameN a left m + (places a x y z m).length
  | 0 => rfl
  | m + 1 => by
    have ih := came_step a ha left x y z hx hy hz hl m
    rw [cameN, cameN, places]
    by_cases e : a m = x ∧ a (m + 1) = y ∧ a (m + 2) = z
    · have hk : keyOfT a m = tk x y z := by unfold keyOfT; rw [e.1, e.2.1, e.2.2]
      have hs : (tk x y z).sameKey (tk x y z) = true := WideAt.sameKey_self (tri_law.key (tk_of x y z hx hy hz))
      rw [hk, hs, hl, if_pos e, if_neg (by simp), if_pos rfl, ih, List.length_append]
      simp
      omega
    · have hne : keyOfT a m ≠ tk x y z := fun h => e (by
        have := tk_inj _ _ _ _ _ _ (ha _) (ha _) (ha _) hx hy hz h
        exact this)
      have hs : (keyOfT a m).sameKey (tk x y z) = false := Maps.sameKey_ne hne
      rw [hs, if_neg e, ih]
      cases left (keyOfT a m) <;> simp
      omega
theorem came_le (a : Nat → Nat) (left : Lit → Bool) (m : Nat) : cameN a left m ≤ m := by
  induction m with
  | zero => exact Nat.le_refl _
  | succ m ih => rw [cameN]; split <;> omega

section
variable {H : Type} {P : Program} {w : World} {t k E : TypeId} {b : Nat} {base : Nat} {e : TypeId} {q : IntKind} {n : Nat} {D : DataW H}
theorem look_local {key : Value} {kl : Lit} (K : Keyed P k) (ht : P.underlying t = some (.map k E)) (hz : ∀ u : World, (zeroValue E).run P u = .ok (.slice none 0 0) u) (h : w.ownsGroups P k base e q b n D) (hn : n < maxLen) (hkey : keyOf P k key = some kl) :
    ∃ v zs, (∀ u : World, u.heap[b]? = w.heap[b]? → (Instr.lookup t (.map (some b)) key false).run P u = .ok v u) ∧ D.atKey kl .nil = rowDatum q v zs ∧ w.ownsInts base e q v zs ∧ zs.length ≤ n := by
  obtain ⟨v, zs, hrun, hat, hoi, hzl, _⟩ := h.at K ht (hz w) hn hkey
  obtain ⟨es, clock, hb, F, hs, rfl, hbb, hlen, hap⟩ := h
  refine ⟨v, zs, fun u hu => ?_, hat, hoi, hzl⟩
  rcases Maps.fit_look false K ht (hz w) hb F hkey with ⟨hr, hno, _⟩ | ⟨e0, y, hm0, h3, hr, _⟩
  · rw [hr] at hrun
    simp at hrun
    rcases Maps.fit_look false K ht (hz u) (hu.trans hb) F hkey with ⟨hr', _⟩ | ⟨e1, y1, hm1, h31, hr', _⟩
    · rw [hr', ← hrun]; rfl
    · exact absurd h31 (hno e1 hm1)
  · rw [hr] at hrun
    simp at hrun
    rcases Maps.fit_look false K ht (hz u) (hu.trans hb) F hkey with ⟨hr', hno, _⟩ | ⟨e1, y1, hm1, h31, hr', _⟩
    · exact absurd h3 (hno e0 hm0)
    · rw [hr', ← hrun]
      have := entry_eq_of_key ((stamped_iff es clock).1 F.stamped).2.2 hm1 hm0 (by rw [h31, h3])
      rw [this]
      rfl
end
/-- A slice, by its parts. -/
def mkS (p : Option Addr × Nat × Nat) : Value := .slice p.1 p.2.1 p.2.2
theorem inv_slice {w0 : World} {base : Nat} {e : TypeId} (v : Value) (y : DataW Unit × List MemPlace) (h : rowElem w0 base e .i64 v = some y) : ∃ c, v = mkS c := by
  obtain ⟨zs, ho, _⟩ := rowElem_inv h
  obtain ⟨A, c, rfl⟩ := row_slice ho.1
  exact ⟨(A, zs.length, c), rfl⟩
theorem inv_key (key : Value) (kl : Lit) (_ : keyOf Try.prog 184 key = some kl) : ∃ x, key = (fun v : Value => v) x := ⟨key, rfl⟩
/-- What comes at a key: where its triple begins. -/
theorem came_val (a : Nat → Nat) (ha : ∀ i, a i < 256) (m : Nat) {w0 : World} {base : Nat} {c : Option Addr × Nat × Nat} {kl : Lit} {y : DataW Unit × List MemPlace} (hl : has (gM a m) kl = true) (hv : rowElem w0 base 3 .i64 (mkS c) = some y) (hat : ∀ zd, (gM a m).atKey kl zd = y.1) :
    ∃ p, p < m ∧ kl = keyOfT a p ∧ w0.ownsInts base 3 .i64 (mkS c) (zsOf (places a (a p) (a (p + 1)) (a (p + 2)) m)) ∧ c.2.1 = (places a (a p) (a (p + 1)) (a (p + 2)) m).length := by
  obtain ⟨p, hp, hkl⟩ := (gM_has a ha kl m).1 hl
  obtain ⟨zs, ho, rfl⟩ := rowElem_inv hv
  have h1 := hat .nil
  rw [hkl, gM_at a ha _ _ _ (ha _) (ha _) (ha _)] at h1
  have hz := pd_inj ho h1
  subst hz
  refine ⟨p, hp, hkl, ho, ?_⟩
  obtain ⟨A, cp, h2⟩ := row_slice ho.1
  have h3 : c.2.1 = (zsOf (places a (a p) (a (p + 1)) (a (p + 2)) m)).length := by
    unfold mkS at h2
    injection h2
  rw [h3]
  simp [zsOf]
end Go.Proofs.Ytfhbkidceombbaa
