/-
  A stable sort, by mathematics: lists of places, what was moved, what is sorted, what is exchanged.
  A stable sort of items: the row by places, what compares.
  A stable sort of items: the insertion sort.
  A stable sort of items: the blocks of twenty, the merging.
  A stable sort of items: ranges exchanged, parts turned about.
  A stable sort of items: symMerge where the first part is one place.
  A stable sort of items: symMerge where the second part is one place.
-/
import Derived.Test.YtijfcmlgohbndaaGreatDoorPkAA
import Derived.Test.YtijfcmlgohbndaaGreatDoorPkAD
import Derived.BigQuiet
import Derived.Deep.RegionHeld3
import Derived.Deep.Cut
import Derived.Deep.CutBlock

namespace Go.Proofs.YtijfcmlgohbndaaGreatDoor.Is
set_option maxRecDepth 100000

def at0 (S : List Nat) (k : Nat) : Nat := S[k]?.getD 0
/-- Only what stands from a on, short of b, was moved. -/
structure Mov (a b : Nat) (S S' : List Nat) : Prop where
  len : S'.length = S.length
  perm : S'.Perm S
  out : ∀ k, k < a ∨ b ≤ k → at0 S' k = at0 S k
  ins : ∀ i, a ≤ i → i < b → ∃ i', a ≤ i' ∧ i' < b ∧ at0 S' i = at0 S i'
theorem Mov.refl (a b : Nat) (S : List Nat) : Mov a b S S := ⟨rfl, List.Perm.refl _, fun _ _ => rfl, fun i h1 h2 => ⟨i, h1, h2, rfl⟩⟩
theorem Mov.trans {a b : Nat} {S S' S'' : List Nat} (h : Mov a b S S') (k : Mov a b S' S'') : Mov a b S S'' :=
  ⟨k.len.trans h.len, k.perm.trans h.perm, fun i hi => (k.out i hi).trans (h.out i hi), fun i h1 h2 => by
    obtain ⟨i', h3, h4, h5⟩ := k.ins i h1 h2
    obtain ⟨i'', h6, h7, h8⟩ := h.ins i' h3 h4
    exact ⟨i'', h6, h7, h5.trans h8⟩⟩
theorem Mov.wide {a b a' b' : Nat} {S S' : List Nat} (h : Mov a b S S') (ha : a' ≤ a) (hb : b ≤ b') : Mov a' b' S S' :=
  ⟨h.len, h.perm, fun k hk => h.out k (by omega), fun i h1 h2 => by
    by_cases hi : a ≤ i ∧ i < b
    · obtain ⟨i', h3, h4, h5⟩ := h.ins i hi.1 hi.2
      exact ⟨i', by omega, by omega, h5⟩
    · exact ⟨i, h1, h2, h.out i (by omega)⟩⟩
def swp (S : List Nat) (i j : Nat) : List Nat := (S.set i (at0 S j)).set j (at0 S i)
theorem swp_at (S : List Nat) (i j k : Nat) (hi : i < S.length) (hj : j < S.length) : at0 (swp S i j) k = if k = j then at0 S i else if k = i then at0 S j else at0 S k := by
  unfold swp
  show (((S.set i (at0 S j)).set j (at0 S i))[k]?).getD 0 = _
  rw [List.getElem?_set, List.getElem?_set, List.length_set]
  by_cases h1 : j = k
  · subst h1; simp [hj]
  · have h1' : ¬ k = j := fun e => h1 e.symm
    by_cases h2 : i = k
    · subst h2; simp [h1, h1', hi]
    · have h2' : ¬ k = i := fun e => h2 e.symm
      simp [h1, h1', h2, h2', at0]
theorem swp_mov (S : List Nat) (a b i j : Nat) (hi : i < S.length) (hj : j < S.length) (h1 : a ≤ i ∧ i < b) (h2 : a ≤ j ∧ j < b) : Mov a b S (swp S i j) := by
  refine ⟨by simp [swp], ?_, fun k hk => ?_, fun k h3 h4 => ?_⟩
  · have e : ∀ k (h : k < S.length), at0 S k = S[k] := fun k h => by simp [at0, List.getElem?_eq_getElem h]
    unfold swp
    rw [e i hi, e j hj]
    exact List.set_set_perm hi hj
  · rw [swp_at S i j k hi hj, if_neg (by omega), if_neg (by omega)]
  · rw [swp_at S i j k hi hj]
    by_cases e1 : k = j
    · rw [if_pos e1]; exact ⟨i, h1.1, h1.2, rfl⟩
    · rw [if_neg e1]
      by_cases e2 : k = i
      · rw [if_pos e2]; exact ⟨j, h2.1, h2.2, rfl⟩
      · rw [if_neg e2]; exact ⟨k, h3, h4, rfl⟩
/-- Sorted by f from a on, short of b. -/
def SrtOn (f : Nat → Nat) (a b : Nat) (S : List Nat) : Prop := ∀ i j, a ≤ i → i ≤ j → j < b → f (at0 S i) ≤ f (at0 S j)
/-- The signs of the left part stand ahead of those of the right. -/
def Ord (a c b : Nat) (S : List Nat) : Prop := ∀ i j, a ≤ i → i < c → c ≤ j → j < b → at0 S i < at0 S j
theorem Mov.all {a b : Nat} {S S' : List Nat} {n : Nat} (h : Mov a b S S') (hx : ∀ x ∈ S, x < n) : ∀ x ∈ S', x < n := fun x hm => hx x (h.perm.mem_iff.1 hm)
/-- What lies elsewhere stays sorted. -/
theorem Mov.srt {f : Nat → Nat} {a b c d : Nat} {S S' : List Nat} (h : Mov a b S S') (hd : d ≤ a ∨ b ≤ c) (hs : SrtOn f c d S) : SrtOn f c d S' := fun i j h1 h2 h3 => by
  rw [h.out i (by omega), h.out j (by omega)]
  exact hs i j h1 h2 h3
/-- Where the signs come from: below A out of the same pair of blocks, from A on out of the same block. -/
def Org (m : Nat) (S S1 : List Nat) (A bs : Nat) : Prop := ∀ p, p < m → ∃ p', p' < m ∧ at0 S1 p = at0 S p' ∧ (p < A → p' / (2 * bs) = p / (2 * bs)) ∧ (A ≤ p → p' / bs = p / bs)
theorem div_in (bs k p : Nat) (h1 : bs * k ≤ p) (h2 : p < bs * k + bs) : p / bs = k := by
  apply Nat.div_eq_of_lt_le
  · rw [Nat.mul_comm]; exact h1
  · rw [Nat.mul_comm, Nat.mul_succ]; exact h2
theorem div_two (bs p q : Nat) (h : p / bs = q / bs) : p / (2 * bs) = q / (2 * bs) := by
  rw [Nat.mul_comm 2 bs, ← Nat.div_div_eq_div_mul, ← Nat.div_div_eq_div_mul, h]
theorem lt_of_div (bs p q : Nat) (h : p / bs < q / bs) : p < q := by
  apply Nat.lt_of_not_le
  intro h2
  have := Nat.div_le_div_right (c := bs) h2
  omega
theorem org_ord {m A bs k b : Nat} {S S1 : List Nat} (h : Org m S S1 A bs) (hA : A = 2 * bs * k) (hinc : ∀ p q, p < q → q < m → at0 S p < at0 S q) (hb : b ≤ m) (hb2 : b ≤ A + 2 * bs) : Ord A (A + bs) b S1 := fun i j h1 h2 h3 h4 => by
  obtain ⟨i', e1, e2, _, e3⟩ := h i (by omega)
  obtain ⟨j', g1, g2, _, g3⟩ := h j (by omega)
  have e4 := e3 h1
  have g4 := g3 (by omega)
  have hA2 : A = bs * (2 * k) := by rw [hA, Nat.mul_comm 2 bs, Nat.mul_assoc]
  have hA3 : bs * (2 * k + 1) = A + bs := by rw [Nat.mul_succ, hA2]
  rw [div_in bs (2 * k) i (by omega) (by omega)] at e4
  rw [div_in bs (2 * k + 1) j (by omega) (by omega)] at g4
  rw [e2, g2]
  exact hinc i' j' (lt_of_div bs i' j' (by omega)) g1
theorem org_step {m A bs k : Nat} {S S1 S2 : List Nat} (h : Org m S S1 A bs) (hA : A = 2 * bs * k) (hm : Mov A (A + 2 * bs) S1 S2) (hb : A + 2 * bs ≤ m) : Org m S S2 (A + 2 * bs) bs := fun p hp => by
  by_cases h1 : A ≤ p
  · by_cases h2 : p < A + 2 * bs
    · obtain ⟨p1, e1, e2, e3⟩ := hm.ins p h1 h2
      obtain ⟨p', g1, g2, _, g3⟩ := h p1 (by omega)
      refine ⟨p', g1, by rw [e3, g2], fun _ => ?_, fun h3 => by omega⟩
      rw [div_two bs p' p1 (g3 e1), div_in (2 * bs) k p1 (by omega) (by omega), div_in (2 * bs) k p (by omega) (by omega)]
    · obtain ⟨p', g1, g2, _, g3⟩ := h p hp
      exact ⟨p', g1, by rw [hm.out p (by omega), g2], fun h3 => by omega, fun _ => g3 h1⟩
  · obtain ⟨p', g1, g2, g3, _⟩ := h p hp
    exact ⟨p', g1, by rw [hm.out p (by omega), g2], fun _ => g3 (by omega), fun h3 => by omega⟩
theorem org_fin {m A bs k : Nat} {S S1 S2 : List Nat} (h : Org m S S1 A bs) (hA : A = 2 * bs * k) (hm : Mov A m S1 S2) (hb : m < A + 2 * bs) : Org m S S2 0 (2 * bs) := fun p hp => by
  by_cases h1 : A ≤ p
  · obtain ⟨p1, e1, e2, e3⟩ := hm.ins p h1 hp
    obtain ⟨p', g1, g2, _, g3⟩ := h p1 (by omega)
    refine ⟨p', g1, by rw [e3, g2], fun h3 => by omega, fun _ => ?_⟩
    rw [div_two bs p' p1 (g3 e1), div_in (2 * bs) k p1 (by omega) (by omega), div_in (2 * bs) k p (by omega) (by omega)]
  · obtain ⟨p', g1, g2, g3, _⟩ := h p hp
    exact ⟨p', g1, by rw [hm.out p (by omega), g2], fun h3 => by omega, fun _ => g3 (by omega)⟩
theorem org_ins {m A B k : Nat} {S S1 S2 : List Nat} (h : Org m S S1 0 20) (ht : ∀ q, A ≤ q → at0 S1 q = at0 S q) (hA : 20 * k = A) (hm : Mov A B S1 S2) (hb : B ≤ A + 20) (hbm : B ≤ m) : Org m S S2 0 20 := fun p hp => by
  by_cases h1 : A ≤ p ∧ p < B
  · obtain ⟨p1, e1, e2, e3⟩ := hm.ins p h1.1 h1.2
    exact ⟨p1, by omega, by rw [e3, ht p1 e1], fun h3 => by omega, fun _ => by omega⟩
  · obtain ⟨p', g1, g2, g3, g4⟩ := h p hp
    exact ⟨p', g1, by rw [hm.out p (by omega), g2], g3, g4⟩
theorem org_refl (m : Nat) (S : List Nat) : Org m S S 0 20 := fun p hp => ⟨p, hp, rfl, fun _ => rfl, fun _ => rfl⟩
/-- Where what stands at k comes from: two ranges exchanged. -/
def swI (x y n k : Nat) : Nat := if x ≤ k ∧ k < x + n then y + (k - x) else if y ≤ k ∧ k < y + n then x + (k - y) else k
/-- .. two neighbours exchanged: [x, y) and [y, z). -/
def rotI (x y z k : Nat) : Nat := if x ≤ k ∧ k < x + (z - y) then y + (k - x) else if x + (z - y) ≤ k ∧ k < z then k - (z - y) else k
theorem swI_zero (x y k : Nat) : swI x y 0 k = k := by unfold swI; (repeat' split) <;> omega
theorem swI_step (x y n i k : Nat) (hi : i < n) (hxy : x + n ≤ y) : (if k = y + i then swI x y i (x + i) else if k = x + i then swI x y i (y + i) else swI x y i k) = swI x y (i + 1) k := by
  unfold swI
  (repeat' split) <;> omega
/-- The first range the longer one. -/
theorem rot_a (c i j k : Nat) (hic : i ≤ c) (hj : 1 ≤ j) (h : j < i) : swI (c - i) c j (rotI (c - (i - j)) c (c + j) k) = rotI (c - i) c (c + j) k := by
  unfold swI rotI
  (repeat' split) <;> omega
/-- The second one. -/
theorem rot_b (c i j k : Nat) (hic : i ≤ c) (hi : 1 ≤ i) (h : i < j) : swI (c - i) (c + j - i) i (rotI (c - i) c (c + (j - i)) k) = rotI (c - i) c (c + j) k := by
  unfold swI rotI
  (repeat' split) <;> omega
theorem rot_c (c i k : Nat) (hic : i ≤ c) : swI (c - i) c i k = rotI (c - i) c (c + i) k := by
  unfold swI rotI
  (repeat' split) <;> omega
theorem half_lt {i j : Nat} (h : i < j) : i ≤ (i + j) / 2 ∧ (i + j) / 2 < j := by omega
theorem rotI_1 (s c e k : Nat) (h : k < s) (_ : s ≤ c) : rotI s c e k = k := by unfold rotI; (repeat' split) <;> omega
theorem rotI_2 (s c e k : Nat) (h1 : s ≤ k) (h2 : k < s + (e - c)) : rotI s c e k = c + (k - s) := by unfold rotI; rw [if_pos ⟨h1, h2⟩]
theorem rotI_3 (s c e k : Nat) (h1 : s + (e - c) ≤ k) (h2 : k < e) : rotI s c e k = k - (e - c) := by unfold rotI; rw [if_neg (by omega), if_pos ⟨h1, h2⟩]
theorem rotI_4 (s c e k : Nat) (h : e ≤ k) (hs : s ≤ c) (he : c ≤ e) : rotI s c e k = k := by unfold rotI; (repeat' split) <;> omega
theorem rotI_id (s c e k : Nat) (h : s = c ∨ e = c) : rotI s c e k = k := by unfold rotI; (repeat' split) <;> omega
/-- Behind the rotation: four sorted parts, and nothing on the left above the right. -/
theorem sym_parts {f : Nat → Nat} {a c b s e mid : Nat} {S S1 : List Nat} (hL : SrtOn f a c S) (hR : SrtOn f c b S) (has : a ≤ s) (hsc : s ≤ c) (hce : c ≤ e) (heb : e ≤ b) (hse : e + s = mid + c)
    (h1 : s = a ∨ e = b ∨ f (at0 S (s - 1)) ≤ f (at0 S e)) (h2 : s = c ∨ e = c ∨ f (at0 S (e - 1)) < f (at0 S s)) (hrot : ∀ k, at0 S1 k = at0 S (rotI s c e k)) :
    SrtOn f a s S1 ∧ SrtOn f s mid S1 ∧ SrtOn f mid e S1 ∧ SrtOn f e b S1 ∧ ∀ i j, a ≤ i → i < mid → mid ≤ j → j < b → f (at0 S1 i) ≤ f (at0 S1 j) := by
  refine ⟨fun i j g1 g2 g3 => ?_, fun i j g1 g2 g3 => ?_, fun i j g1 g2 g3 => ?_, fun i j g1 g2 g3 => ?_, fun i j g1 g2 g3 g4 => ?_⟩
  · rw [hrot, hrot, rotI_1 _ _ _ _ (by omega) hsc, rotI_1 _ _ _ _ g3 hsc]
    exact hL _ _ g1 g2 (by omega)
  · rw [hrot, hrot, rotI_2 _ _ _ _ g1 (by omega), rotI_2 _ _ _ _ (by omega) (by omega)]
    exact hR _ _ (by omega) (by omega) (by omega)
  · rw [hrot, hrot, rotI_3 _ _ _ _ (by omega) (by omega), rotI_3 _ _ _ _ (by omega) g3]
    exact hL _ _ (by omega) (by omega) (by omega)
  · rw [hrot, hrot, rotI_4 _ _ _ _ (by omega) hsc hce, rotI_4 _ _ _ _ (by omega) hsc hce]
    exact hR _ _ (by omega) g2 g3
  · rw [hrot, hrot]
    by_cases ei : i < s
    · rw [rotI_1 _ _ _ _ ei hsc]
      by_cases ej : j < e
      · rw [rotI_3 _ _ _ _ (by omega) ej]
        exact hL _ _ g1 (by omega) (by omega)
      · rw [rotI_4 _ _ _ _ (by omega) hsc hce]
        rcases h1 with h | h | h
        · omega
        · omega
        · exact Nat.le_trans (hL i (s - 1) g1 (by omega) (by omega)) (Nat.le_trans h (hR e j hce (by omega) g4))
    · rw [rotI_2 _ _ _ _ (by omega) (by omega)]
      by_cases ej : j < e
      · rw [rotI_3 _ _ _ _ (by omega) ej]
        rcases h2 with h | h | h
        · omega
        · omega
        · exact Nat.le_of_lt (Nat.lt_of_le_of_lt (hR (c + (i - s)) (e - 1) (by omega) (by omega) (by omega)) (Nat.lt_of_lt_of_le h (hL s (j - (e - c)) has (by omega) (by omega))))
      · rw [rotI_4 _ _ _ _ (by omega) hsc hce]
        exact hR _ _ (by omega) (by omega) g4
theorem sym_ord {a c b s e mid : Nat} {S S1 : List Nat} (ho : Ord a c b S) (has : a ≤ s) (hsc : s ≤ c) (hce : c ≤ e) (heb : e ≤ b) (hse : e + s = mid + c) (hrot : ∀ k, at0 S1 k = at0 S (rotI s c e k)) :
    Ord a s mid S1 ∧ Ord mid e b S1 := by
  refine ⟨fun i j h1 h2 h3 h4 => ?_, fun i j h1 h2 h3 h4 => ?_⟩
  · rw [hrot, hrot, rotI_1 _ _ _ _ h2 hsc, rotI_2 _ _ _ _ h3 (by omega)]
    exact ho _ _ h1 (by omega) (by omega) (by omega)
  · rw [hrot, hrot, rotI_3 _ _ _ _ (by omega) h2, rotI_4 _ _ _ _ h3 hsc hce]
    exact ho _ _ (by omega) (by omega) (by omega) h4
/-- The halves sorted, all is. -/
theorem sym_join {f : Nat → Nat} {a b mid : Nat} {S S1 S2 S3 : List Nat} (ham : a ≤ mid) (hmb : mid ≤ b) (hm0 : Mov a b S S1) (hm1 : Mov a mid S1 S2) (hs1 : SrtOn f a mid S2) (hm2 : Mov mid b S2 S3) (hs2 : SrtOn f mid b S3)
    (hx : ∀ i j, a ≤ i → i < mid → mid ≤ j → j < b → f (at0 S1 i) ≤ f (at0 S1 j)) : Mov a b S S3 ∧ SrtOn f a b S3 := by
  refine ⟨(hm0.trans (hm1.wide (Nat.le_refl _) hmb)).trans (hm2.wide ham (Nat.le_refl _)), fun i j g1 g2 g3 => ?_⟩
  by_cases ej : j < mid
  · exact hm2.srt (.inl (Nat.le_refl _)) hs1 i j g1 g2 ej
  · by_cases ei : i < mid
    · obtain ⟨j', k1, k2, k3⟩ := hm2.ins j (by omega) g3
      obtain ⟨i', l1, l2, l3⟩ := hm1.ins i g1 ei
      rw [hm2.out i (by omega), l3, k3, hm1.out j' (by omega)]
      exact hx i' j' l1 l2 k1 k2
    · exact hs2 i j (by omega) g2 g3
end Go.Proofs.YtijfcmlgohbndaaGreatDoor.Is

namespace Go.Proofs.YtijfcmlgohbndaaGreatDoor.Is
set_option maxRecDepth 100000
set_option linter.unusedSimpArgs false
set_option linter.unusedVariables false
open Go.RowKit Go.Joins Go.Deep
/-- The items' own row, by places. -/
def SnO (T : Nat → Itm) (w : World) (base gd m cap : Nat) (S : List Nat) : Prop := S.length = m ∧ IO w gd (S.map T)
theorem SnO.get {T : Nat → Itm} {w : World} {base gd m cap : Nat} {S : List Nat} (h : SnO T w base gd m cap S) (k : Nat) (hk : k < m) : (S.map T)[k]? = some (T (at0 S k)) := by
  rw [List.getElem?_map, at0, List.getElem?_eq_getElem (by rw [h.1]; exact hk)]
  rfl
theorem SnO.range {T : Nat → Itm} {w : World} {base gd m cap : Nat} {S : List Nat} (h : SnO T w base gd m cap S) (k : Nat) (hk : k < m) : w.rangeAt gd (k * 8) (T (at0 S k)).cellsL := (h.2.2 k _ (h.get k hk)).1
theorem SnO.there {T : Nat → Itm} {w : World} {base gd m cap : Nat} {S : List Nat} (h : SnO T w base gd m cap S) (k : Nat) (hk : k < m) : w.there gd (k * 8) 8 := (h.2.2 k _ (h.get k hk)).2
/-- An item's eight cells. -/
def C8 (w : World) (g o : Nat) (x : Itm) : Prop := w.cell? ⟨g, o, none⟩ = some (.string x.s) ∧ w.cell? ⟨g, o + 1, none⟩ = some (.int .i64 x.k) ∧ w.cell? ⟨g, o + 2, none⟩ = some (.int .u32 x.m) ∧ w.cell? ⟨g, o + 3, none⟩ = some (.int .u32 x.u) ∧ w.cell? ⟨g, o + 4, none⟩ = some (.int .u32 x.g) ∧ w.cell? ⟨g, o + 5, none⟩ = some (.int .i64 x.t) ∧ w.cell? ⟨g, o + 6, none⟩ = some (.int .i64 x.a) ∧ w.cell? ⟨g, o + 7, none⟩ = some (.string x.d)
theorem SnO.c8 {T : Nat → Itm} {w : World} {base gd m cap : Nat} {S : List Nat} (h : SnO T w base gd m cap S) (k : Nat) (hk : k < m) : C8 w gd (k * 8) (T (at0 S k)) := by
  have hr := h.range k hk
  exact ⟨hr 0 _ rfl, hr 1 _ rfl, hr 2 _ rfl, hr 3 _ rfl, hr 4 _ rfl, hr 5 _ rfl, hr 6 _ rfl, hr 7 _ rfl⟩
theorem SnO.drewN {T : Nat → Itm} {w : World} {base gd m cap : Nat} {S : List Nat} (h : SnO T w base gd m cap S) (d : Nat) : SnO T (w.drewN d) base gd m cap S := h
theorem SnO.drew {T : Nat → Itm} {w : World} {base gd m cap : Nat} {S : List Nat} (h : SnO T w base gd m cap S) : SnO T w.drew base gd m cap S := h
theorem SnO.below {T : Nat → Itm} {w w' : World} {base gd m cap : Nat} {S : List Nat} (h : SnO T w base gd m cap S) (hb : Below w.heap.size w w') : SnO T w' base gd m cap S := ⟨h.1, h.2.below hb⟩
theorem SnO.swap {T : Nat → Itm} {w : World} {base gd m cap : Nat} {S : List Nat} (h : SnO T w base gd m cap S) (i j : Nat) (hi : i < m) (hj : j < m) :
    SnO T ((w.setCells gd (i * 8) (T (at0 S j)).cellsL).setCells gd (j * 8) (T (at0 S i)).cellsL) base gd m cap (swp S i j) := by
  refine ⟨by simp [swp, h.1], ?_⟩
  have h1 := h.2.store i (T (at0 S j)) (by rw [List.length_map, h.1]; exact hi)
  have h2 := h1.store j (T (at0 S i)) (by rw [List.length_set, List.length_map, h.1]; exact hj)
  unfold swp
  rw [List.map_set, List.map_set]
  exact h2
theorem gdrewN (w : World) (d : Nat) (row : Option Nat) : w.grownBy (w.drewN d) row := ⟨rfl, rfl, rfl, Nat.le_refl _, fun _ _ _ => rfl⟩
theorem gset2 {a w : World} {b : Nat} (h : a.grownBy w (some b)) (i : Nat) (v : Value) : a.grownBy (w.setCell ⟨b, i, none⟩ v) (some b) :=
  ⟨h.os, h.tape, h.output, by simp; exact h.size, fun k hk hne => (Below.heap_setCell w _ v k (fun e => hne (by rw [e]))).trans (h.block k hk hne)⟩
theorem gsetC {a : World} {b : Nat} : ∀ (vs : List Value) (o : Nat) (w : World), a.grownBy w (some b) → a.grownBy (w.setCells b o vs) (some b)
  | [], _, _, h => h
  | v :: r, o, w, h => by rw [World.setCells]; exact gsetC r (o + 1) _ (gset2 h o v)
theorem gdrew {a w : World} {row : Option Nat} (h : a.grownBy w row) (d : Nat) : a.grownBy (w.drewN d) row := ⟨h.os, h.tape, h.output, h.size, h.block⟩
theorem gdrew1 {a w : World} {row : Option Nat} (h : a.grownBy w row) : a.grownBy w.drew row := ⟨h.os, h.tape, h.output, h.size, h.block⟩
theorem gbel {a w w' : World} {row : Option Nat} (h : a.grownBy w row) (hb : Below w.heap.size w w') : a.grownBy w' row :=
  ⟨hb.os.trans h.os, hb.tape.trans h.tape, hb.output.trans h.output, Nat.le_trans h.size hb.size, fun k hk hne => (hb.block k (Nat.lt_of_lt_of_le hk h.size)).trans (h.block k hk hne)⟩
theorem gtrans {w w1 w2 : World} {row : Option Nat} (h : w.grownBy w1 row) (k : w1.grownBy w2 row) : w.grownBy w2 row :=
  ⟨k.os.trans h.os, k.tape.trans h.tape, k.output.trans h.output, Nat.le_trans h.size k.size, fun i hi hne => (k.block i (Nat.lt_of_lt_of_le hi h.size) hne).trans (h.block i hi hne)⟩
end Go.Proofs.YtijfcmlgohbndaaGreatDoor.Is

namespace Go.Proofs.YtijfcmlgohbndaaGreatDoor.Is
set_option maxRecDepth 100000
set_option linter.unusedSimpArgs false
set_option linter.unusedVariables false
open Go.RowKit Go.Joins Go.Deep
theorem setC8 (w : World) (gd o : Nat) (X : Itm) : w.setCells gd o X.cellsL = ((((((((w.setCell ⟨gd, o, none⟩ (.string X.s)).setCell ⟨gd, o + 1, none⟩ (.int .i64 X.k)).setCell ⟨gd, o + 2, none⟩ (.int .u32 X.m)).setCell ⟨gd, o + 3, none⟩ (.int .u32 X.u)).setCell ⟨gd, o + 4, none⟩ (.int .u32 X.g)).setCell ⟨gd, o + 5, none⟩ (.int .i64 X.t)).setCell ⟨gd, o + 6, none⟩ (.int .i64 X.a)).setCell ⟨gd, o + 7, none⟩ (.string X.d)) := by
  simp only [Itm.cellsL, World.setCells, Nat.add_assoc, Nat.reduceAdd]
theorem and16 {a b c d e f g h a' b' c' d' e' f' g' h' : Prop} (k : (a ∧ b ∧ c ∧ d ∧ e ∧ f ∧ g ∧ h) ∧ (a' ∧ b' ∧ c' ∧ d' ∧ e' ∧ f' ∧ g' ∧ h')) : a ∧ b ∧ c ∧ d ∧ e ∧ f ∧ g ∧ h ∧ a' ∧ b' ∧ c' ∧ d' ∧ e' ∧ f' ∧ g' ∧ h' := by
  obtain ⟨⟨k0, k1, k2, k3, k4, k5, k6, k7⟩, l⟩ := k
  exact ⟨k0, k1, k2, k3, k4, k5, k6, k7, l⟩
end Go.Proofs.YtijfcmlgohbndaaGreatDoor.Is

namespace Go.Proofs.YtijfcmlgohbndaaGreatDoor.Is
set_option maxRecDepth 100000
set_option linter.unusedSimpArgs false
set_option linter.unusedVariables false
open Go.RowKit Go.Joins Go.Deep
end Go.Proofs.YtijfcmlgohbndaaGreatDoor.Is

namespace Go.Proofs.YtijfcmlgohbndaaGreatDoor.Is
set_option maxRecDepth 100000
set_option linter.unusedSimpArgs false
set_option linter.unusedVariables false
open Go.RowKit Go.Joins Go.Deep
end Go.Proofs.YtijfcmlgohbndaaGreatDoor.Is

namespace Go.Proofs.YtijfcmlgohbndaaGreatDoor.Is
set_option maxRecDepth 100000
set_option linter.unusedSimpArgs false
set_option linter.unusedVariables false
open Go.RowKit Go.Joins Go.Deep
end Go.Proofs.YtijfcmlgohbndaaGreatDoor.Is

namespace Go.Proofs.YtijfcmlgohbndaaGreatDoor.Is
set_option maxRecDepth 100000
set_option linter.unusedSimpArgs false
set_option linter.unusedVariables false
open Go.RowKit Go.Joins Go.Deep
end Go.Proofs.YtijfcmlgohbndaaGreatDoor.Is
