/-
 Contracts: the document's lengths and distances.
 The document's stream: what block wants: bytes appended, codes in memory, steps.
-/
import Derived.Test.YtmkeicfklbepnaaGreatPkAJ
import Derived.Test.YtmkeicfklbepnaaGreatPkBB

namespace Go.Proofs.YtmkeicfklbepnaaGreat
set_option maxRecDepth 100000
open Go.RowKit Go.Deep Go.Joins

def lbN (k : Nat) : Nat := 3 + (climbN (k - 257) 4).1
def lmN (k : Nat) : Nat := (climbN (k - 257) 4).2
def fbN (k : Nat) : Nat := 1 + (climbN k 2).1
def fmN (k : Nat) : Nat := (climbN k 2).2
theorem lb_step : ∀ k, k < 285 → 257 ≤ k → lbN (k + 1) = lbN k + 2 ^ lmN k ∧ lmN k ≤ 5 ∧ lbN k ≤ 300 ∧ (265 ≤ k → (k - 261) / 4 = lmN k) ∧ (k < 265 → lmN k = 0) ∧ lenOf k = (lbN k, lmN k) := by decide +kernel
theorem fb_step : ∀ k, k < 30 → fbN (k + 1) = fbN k + 2 ^ fmN k ∧ fmN k ≤ 13 ∧ fbN k ≤ 33000 ∧ (4 ≤ k → k / 2 - 1 = fmN k) ∧ (k < 4 → fmN k = 0) ∧ distOf k = (fbN k, fmN k) := by decide +kernel

set_option maxHeartbeats 2000000 in
theorem base_any (x : Int) (w : World) :
  Calls Tryz.prog 45 #[.int .i64 x] w fun r w' => r = .returned (.tuple #[.int .i64 ((lenOf x.toNat).1 : Nat), .int .i64 ((lenOf x.toNat).2 : Nat)]) ∧ w = w' := by
 by_cases h285 : x = 285
 ·subst h285
  go_enter Tryz.func45, Tryz.ntmps45
  go_wp2_with fail
  go_ret2
  exact ⟨rfl, rfl⟩
 generalize hG1 : (lenOf x.toNat).1 = G1
 generalize hG2 : (lenOf x.toNat).2 = G2
 have HG1 := Lib.hid hG1
 have HG2 := Lib.hid hG2
 clear hG1 hG2
 have h285b : (x == 285) = false := by rw [beq_eq_false_iff_ne]; exact h285
 have HZZ : Hid ((∀ j : Nat, 257 ≤ j → j < 285 → x ≠ j) → G1 = 0 ∧ G2 = 0) := fun h => by
  rw [← HG1.out, ← HG2.out]
  unfold lenOf
  rw [if_pos]
  ·exact ⟨rfl, rfl⟩
  rcases Nat.lt_or_ge x.toNat 257 with h1 | h1
  ·exact .inl h1
  ·rcases Nat.lt_or_ge 285 x.toNat with h2 | h2
   ·exact .inr h2
   ·exact absurd (show x = (x.toNat : Nat) by omega) (h x.toNat h1 (by omega))
 clear h285
 go_enter Tryz.func45, Tryz.ntmps45
 go_wp2_with fail
 go_loop [4, 5] (fun t i => ∃ k : Nat, 257 ≤ k ∧ k ≤ 285 ∧ i = .int .i64 (k : Nat) ∧ t = .int .i64 (lbN k : Nat) ∧ ∀ j : Nat, 257 ≤ j → j < k → x ≠ j) (fun _ i => 285 - (intOf i).toNat)
 case atStart => exact ⟨257, by omega, by omega, rfl, rfl, fun j h1 h2 => by omega⟩
 case round =>
  obtain ⟨k, hk0, hk, rfl, rfl, hne⟩ := hrel
  have HNE := Lib.hid hne
  clear hne
  by_cases hlt : k < 285
  ·obtain ⟨hs1, hs2, hs3, hs4, hs5, hs6⟩ := lb_step k hlt hk0
   have HS1 := Lib.hid hs1
   have HS6 := Lib.hid hs6
   have hge : 265 ≤ k → ((k : Int) - 261).tdiv 4 = (lmN k : Nat) := fun h => by
    have := hs4 h
    rw [Int.tdiv_eq_ediv_of_nonneg (by omega)]
    omega
   have hp2 : 2 ^ lmN k ≤ 2 ^ 5 := Nat.pow_le_pow_right (by omega) hs2
   have HP2 := Lib.hid hp2
   have HH : Hid ((k : Int) = x → G1 = lbN k ∧ G2 = lmN k) := fun h => by rw [← HG1.out, ← HG2.out, ← h, Int.toNat_natCast, HS6.out]; exact ⟨rfl, rfl⟩
   clear hs1 hs4 hs6 hp2
   generalize lbN k = b at *
   generalize lmN k = m at *
   by_cases hx : (k : Int) = x
   ·obtain ⟨e1, e2⟩ := HH.out hx
    have E1 := Lib.hid e1
    have E2 := Lib.hid e2
    have hxb : ((k : Int) == x) = true := by rw [beq_iff_eq]; exact hx
    clear e1 e2 hx
    by_cases ht : 265 ≤ k
    ·have hq := hge ht
     clear hge hs5
     go_wp2_with fail
     go_ret2
     rw [E1.out, E2.out]
     exact ⟨rfl, rfl⟩
    ·have hm0 := hs5 (by omega)
     subst hm0
     clear hge hs5
     go_wp2_with fail
     go_ret2
     rw [E1.out, E2.out]
     exact ⟨rfl, rfl⟩
   ·have hxb : ((k : Int) == x) = false := by rw [beq_eq_false_iff_ne]; exact hx
    have HNX : Hid (∀ j : Nat, 257 ≤ j → j < k + 1 → x ≠ j) := fun j h1 h2 => by
     by_cases e : j = k
     ·subst e
      exact fun h => hx h.symm
     ·exact HNE.out j h1 (by omega)
    clear hx
    by_cases ht : 265 ≤ k
    ·have hq := hge ht
     clear hge hs5
     go_wp2_with fail
     go_loop [7, 8] (fun t i => ∃ j : Nat, j ≤ m ∧ i = .int .i64 (j : Nat) ∧ t = .int .i64 ((2 ^ j : Nat) : Int)) (fun _ i => m - (intOf i).toNat)
     case atStart => exact ⟨0, Nat.zero_le _, rfl, rfl⟩
     case round =>
      obtain ⟨j, hj, rfl, rfl⟩ := hrel
      have hpj : 2 ^ j ≤ 2 ^ 5 := Nat.pow_le_pow_right (by omega) (by omega)
      have HPJ : Hid (2 ^ (j + 1) = 2 ^ j * 2) := Nat.pow_succ ..
      by_cases hjm : j < m
      ·generalize 2 ^ j = y at *
       go_wp2_with fail
       go_round
       case rel => exact ⟨j + 1, by omega, by go_num, by rw [HPJ.out]; go_num⟩
       case measure => simp [intOf]; omega
      ·have HS1' : Hid (lbN (k + 1) = b + 2 ^ j) := by
        have e : j = m := by omega
        rw [e]
        exact HS1
       clear HPJ
       generalize 2 ^ j = y at *
       go_wp2_with fail
       go_round
       case rel => exact ⟨k + 1, by omega, by omega, by go_num, by rw [HS1'.out]; go_num, HNX.out⟩
       case measure => simp [intOf]; omega
    ·have hm0 := hs5 (by omega)
     subst hm0
     clear hge hs5
     have HS1' : Hid (lbN (k + 1) = b + 1) := HS1.out
     go_wp2_with fail
     go_loop [7, 8] (fun t i => i = .int .i64 0 ∧ t = .int .i64 1) (fun _ _ => 0)
     case atStart => exact ⟨rfl, rfl⟩
     case round =>
      obtain ⟨rfl, rfl⟩ := hrel
      go_wp2_with fail
      go_round
      case rel => exact ⟨k + 1, by omega, by omega, by go_num, by rw [HS1'.out]; go_num, HNX.out⟩
      case measure => simp [intOf]; omega
  ·obtain rfl : k = 285 := by omega
   go_wp2_with fail
   go_ret2
   rw [(HZZ.out HNE.out).1, (HZZ.out HNE.out).2]
   exact ⟨rfl, rfl⟩

set_option maxHeartbeats 2000000 in
theorem far_any (x : Int) (w : World) :
  Calls Tryz.prog 46 #[.int .i64 x] w fun r w' => r = .returned (.tuple #[.int .i64 ((if x < 0 then 0 else (distOf x.toNat).1 : Nat) : Int), .int .i64 ((if x < 0 then 0 else (distOf x.toNat).2 : Nat) : Int)]) ∧ w = w' := by
 generalize hG1 : (if x < 0 then 0 else (distOf x.toNat).1) = G1
 generalize hG2 : (if x < 0 then 0 else (distOf x.toNat).2) = G2
 have HG1 := Lib.hid hG1
 have HG2 := Lib.hid hG2
 clear hG1 hG2
 have HZZ : Hid ((∀ j : Nat, 0 ≤ j → j < 30 → x ≠ j) → G1 = 0 ∧ G2 = 0) := fun h => by
  rw [← HG1.out, ← HG2.out]
  by_cases h0 : x < 0
  ·rw [if_pos h0, if_pos h0]
   exact ⟨rfl, rfl⟩
  ·rw [if_neg h0, if_neg h0]
   have h29 : 29 < x.toNat := by
    rcases Nat.lt_or_ge 29 x.toNat with h1 | h1
    ·exact h1
    ·exact absurd (show x = (x.toNat : Nat) by omega) (h x.toNat (Nat.zero_le _) (by omega))
   unfold distOf
   rw [if_pos h29]
   exact ⟨rfl, rfl⟩
 go_enter Tryz.func46, Tryz.ntmps46
 go_wp2_with fail
 go_loop [4, 5] (fun t i => ∃ k : Nat, 0 ≤ k ∧ k ≤ 30 ∧ i = .int .i64 (k : Nat) ∧ t = .int .i64 (fbN k : Nat) ∧ ∀ j : Nat, 0 ≤ j → j < k → x ≠ j) (fun _ i => 30 - (intOf i).toNat)
 case atStart => exact ⟨0, by omega, by omega, rfl, rfl, fun j h1 h2 => by omega⟩
 case round =>
  obtain ⟨k, hk0, hk, rfl, rfl, hne⟩ := hrel
  have HNE := Lib.hid hne
  clear hne
  by_cases hlt : k < 30
  ·obtain ⟨hs1, hs2, hs3, hs4, hs5, hs6⟩ := fb_step k hlt
   have HS1 := Lib.hid hs1
   have HS6 := Lib.hid hs6
   have hge : 4 ≤ k → (k : Int) / 2 - 1 = (fmN k : Nat) := fun h => by
    have := hs4 h
    omega
   have hp2 : 2 ^ fmN k ≤ 2 ^ 13 := Nat.pow_le_pow_right (by omega) hs2
   have HP2 := Lib.hid hp2
   have HH : Hid ((k : Int) = x → G1 = fbN k ∧ G2 = fmN k) := fun h => by rw [← HG1.out, ← HG2.out, ← h, if_neg (by omega), if_neg (by omega), Int.toNat_natCast, HS6.out]; exact ⟨rfl, rfl⟩
   clear hs1 hs4 hs6 hp2
   generalize fbN k = b at *
   generalize fmN k = m at *
   by_cases hx : (k : Int) = x
   ·obtain ⟨e1, e2⟩ := HH.out hx
    have E1 := Lib.hid e1
    have E2 := Lib.hid e2
    have hxb : ((k : Int) == x) = true := by rw [beq_iff_eq]; exact hx
    clear e1 e2 hx
    by_cases ht : 4 ≤ k
    ·have hq := hge ht
     clear hge hs5
     go_wp2_with fail
     go_ret2
     rw [E1.out, E2.out]
     exact ⟨rfl, rfl⟩
    ·have hm0 := hs5 (by omega)
     subst hm0
     clear hge hs5
     go_wp2_with fail
     go_ret2
     rw [E1.out, E2.out]
     exact ⟨rfl, rfl⟩
   ·have hxb : ((k : Int) == x) = false := by rw [beq_eq_false_iff_ne]; exact hx
    have HNX : Hid (∀ j : Nat, 0 ≤ j → j < k + 1 → x ≠ j) := fun j h1 h2 => by
     by_cases e : j = k
     ·subst e
      exact fun h => hx h.symm
     ·exact HNE.out j h1 (by omega)
    clear hx
    by_cases ht : 4 ≤ k
    ·have hq := hge ht
     clear hge hs5
     go_wp2_with fail
     go_loop [7, 8] (fun t i => ∃ j : Nat, j ≤ m ∧ i = .int .i64 (j : Nat) ∧ t = .int .i64 ((2 ^ j : Nat) : Int)) (fun _ i => m - (intOf i).toNat)
     case atStart => exact ⟨0, Nat.zero_le _, rfl, rfl⟩
     case round =>
      obtain ⟨j, hj, rfl, rfl⟩ := hrel
      have hpj : 2 ^ j ≤ 2 ^ 13 := Nat.pow_le_pow_right (by omega) (by omega)
      have HPJ : Hid (2 ^ (j + 1) = 2 ^ j * 2) := Nat.pow_succ ..
      by_cases hjm : j < m
      ·generalize 2 ^ j = y at *
       go_wp2_with fail
       go_round
       case rel => exact ⟨j + 1, by omega, by go_num, by rw [HPJ.out]; go_num⟩
       case measure => simp [intOf]; omega
      ·have HS1' : Hid (fbN (k + 1) = b + 2 ^ j) := by
        have e : j = m := by omega
        rw [e]
        exact HS1
       clear HPJ
       generalize 2 ^ j = y at *
       go_wp2_with fail
       go_round
       case rel => exact ⟨k + 1, by omega, by omega, by go_num, by rw [HS1'.out]; go_num, HNX.out⟩
       case measure => simp [intOf]; omega
    ·have hm0 := hs5 (by omega)
     subst hm0
     clear hge hs5
     have HS1' : Hid (fbN (k + 1) = b + 1) := HS1.out
     go_wp2_with fail
     go_loop [7, 8] (fun t i => i = .int .i64 0 ∧ t = .int .i64 1) (fun _ _ => 0)
     case atStart => exact ⟨rfl, rfl⟩
     case round =>
      obtain ⟨rfl, rfl⟩ := hrel
      go_wp2_with fail
      go_round
      case rel => exact ⟨k + 1, by omega, by omega, by go_num, by rw [HS1'.out]; go_num, HNX.out⟩
      case measure => simp [intOf]; omega
  ·obtain rfl : k = 30 := by omega
   go_wp2_with fail
   go_ret2
   rw [(HZZ.out HNE.out).1, (HZZ.out HNE.out).2]
   exact ⟨rfl, rfl⟩

end Go.Proofs.YtmkeicfklbepnaaGreat

namespace Go.Proofs.YtmkeicfklbepnaaGreat
set_option maxRecDepth 100000
set_option linter.unusedVariables false
set_option linter.unusedSimpArgs false
open Go.RowKit Go.Deep Go.Joins
theorem bindR_ok {α β : Type} {m : Mm α} {f : α → Mm β} {s : Src} {a a1 : Nat} {o o1 : List Nat} {x : α} (h : m s a o = .ok (x, a1, o1)) : bindM m f s a o = f x s a1 o1 := by unfold bindM; rw [h]
theorem bindR_err {α β : Type} {m : Mm α} {f : α → Mm β} {s : Src} {a : Nat} {o : List Nat} {e : Nat} (h : m s a o = .error e) : bindM m f s a o = .error e := by unfold bindM; rw [h]
theorem st_bad {c d : Cod} {s : Src} {a e : Nat} {o : List Nat} (h : signM c s a o = .error e) : stepM c d () s a o = .error e := bindR_err h
theorem st_end {c d : Cod} {s : Src} {a a1 : Nat} {o o1 : List Nat} (h : signM c s a o = .ok (256, a1, o1)) : stepM c d () s a o = .ok (.inr (), a1, o1) := by
 unfold stepM
 rw [bindR_ok h, if_pos rfl]
 rfl
theorem st_byte {c d : Cod} {s : Src} {a a1 x : Nat} {o o1 : List Nat} (h : signM c s a o = .ok (x, a1, o1)) (hx : x < 256) : stepM c d () s a o = bindM (putM x) (fun _ => retM (.inl ())) s a1 o1 := by
 unfold stepM
 rw [bindR_ok h, if_neg (by omega), if_pos hx]
theorem st_again {c d : Cod} {s : Src} {a a1 x : Nat} {o o1 : List Nat} (h : signM c s a o = .ok (x, a1, o1)) (hx : 256 < x) : stepM c d () s a o = bindM (againM x d) (fun _ => retM (.inl ())) s a1 o1 := by
 unfold stepM
 rw [bindR_ok h, if_neg (by omega), if_neg (by omega)]
/-- No block of the stream is of another type. -/
theorem RS.farT {w : World} {B g gr a : Nat} {r : Option Nat} {s : ByteArray} {lim : Int} {o : List Nat} (h : RS w B g gr r s lim a o) (i : Nat) (c : Array Value) (T : TypeId) (f : Nat × Nat) (h1 : T ≠ 59) (h2 : T ≠ 57) (h3 : T ≠ 5) (hi : i = g ∨ i = gr ∨ some i = r) : w.heap[i]? ≠ some (.cells c T f) := by
 obtain ⟨v, k1, k2, k3, k4, _⟩ := h
 intro he
 rcases hi with rfl | rfl | hi
 ·rw [k1] at he
  unfold stC at he
  injection he with he
  injection he with _ he
  exact h1 he.symm
 ·unfold Rd at k4
  rw [k4] at he
  injection he with he
  injection he with _ he
  exact h2 he.symm
 ·exact own_ne (cs := []) k2 he h3 (by rw [k3, ← hi])
theorem UpR.cells {w w' : World} {B g gr a : Nat} {r r' : Option Nat} {s : ByteArray} {lim : Int} {o : List Nat} (hu : UpR g gr r r' w w') (h : RS w B g gr r s lim a o) {i : Nat} {c : Array Value} {T : TypeId} {f : Nat × Nat} (hb : w.heap[i]? = some (.cells c T f)) (h1 : T ≠ 59) (h2 : T ≠ 57) (h3 : T ≠ 5) : w'.heap[i]? = some (.cells c T f) :=
 (hu.1.block i (lt_of_block hb) (fun hi => h.farT i c T f h1 h2 h3 hi hb)).trans hb
/-- A byte more. -/
theorem RS.grow {w wA w2 : World} {B g gr a b : Nat} {r : Option Nat} {s : ByteArray} {lim : Int} {o : List Nat} {v v2 : Value} (h : RS w B g gr r s lim a o) (hb : w.heap[g]? = some (stC gr v lim 0)) (hA : Below w.heap.size w wA) (hg : wA.grownBy w2 v.ownBlock) (ho : w2.ownsRow B 5 1 v2 (o.length + 1) (cells8 o ++ [.int .u8 (b : Nat)])) (hb256 : b < 256) (hl : o.length + 1 ≤ lim.toNat) (hat : v2.ownBlock = v.ownBlock ∨ ∃ j, v2.ownBlock = some j ∧ w.heap.size ≤ j) :
  w2.heap[g]? = some (stC gr v lim 0) ∧ RS (w2.setCell ⟨g, 1, none⟩ v2) B g gr v2.ownBlock s lim a (o ++ [b]) ∧ UpR g gr r v2.ownBlock w (w2.setCell ⟨g, 1, none⟩ v2) := by
 have hne0 := h.ne
 obtain ⟨v', k1, k2, k3, k4, k5, k6, k7, k8, k9⟩ := h
 have hvv : v = v' := by
  rw [hb] at k1
  injection k1 with k1
  unfold stC at k1
  injection k1 with k1
  simpa using k1
 subst hvv
 have hgs := lt_of_block hb
 have hne : v.ownBlock ≠ some g := own_ne (cs := []) k2 hb (by decide)
 have hner : v.ownBlock ≠ some gr := own_ne (cs := []) k2 k4 (by decide)
 have hb2 : w2.heap[g]? = some (stC gr v lim 0) := (hg.block g (Nat.lt_of_lt_of_le hgs hA.size) (fun e => hne e.symm)).trans ((hA.block g hgs).trans hb)
 have hR2 : Rd 57 w2 gr s a 0 := (hg.block gr (Nat.lt_of_lt_of_le k4.lt hA.size) (fun e => hner e.symm)).trans ((hA.block gr k4.lt).trans k4)
 have hne2 : v2.ownBlock ≠ some g := own_ne (cs := []) ho hb2 (by decide)
 refine ⟨hb2, ⟨v2, heap_setCell_same w2 g 1 _ _ v2 hb2, ?_, rfl, (Below.heap_setCell _ _ _ _ (Ne.symm hne0)).trans hR2, k5, k6, k7, ?_, by simpa using hl⟩, ⟨((kept_below hA).then (kept_grown hg) (fun i _ e => ?_)).then (kept_set w2 g 1 _) (fun i _ e => .inl e), ?_⟩⟩
 ·rw [List.length_append, cells8_app]
  exact own_keep (i := 0) ho (fun b hb => Below.heap_setCell _ _ _ _ (fun e => hne2 (by rw [hb, e]))) (by simp [World.setCell])
 ·intro y hy
  rw [List.mem_append] at hy
  rcases hy with hy | hy
  ·exact k8 y hy
  ·simp at hy
   omega
 ·rw [k3] at e
  exact .inr (.inr e)
 ·rcases hat with e | ⟨j, e, hj⟩
  ·exact .inl (e.trans k3)
  ·exact .inr ⟨j, e, hj⟩
/-- A code where its tree lies. -/
def CdT (w : World) (X : Value) (c : Cod) : Prop := ∃ T m A cap, X = .slice A T.length cap ∧ TW c.ls c.W c.n T m ∧ m ≤ 1000000 ∧ TabR w A T ∧ c.n ≤ 4096 ∧ (∀ i, i < c.n → c.ls i ≤ 15) ∧ may c true
theorem CdT.up {w w' : World} {B g gr a : Nat} {r r' : Option Nat} {s : ByteArray} {lim : Int} {o : List Nat} {X : Value} {c : Cod} (h : CdT w X c) (hS : RS w B g gr r s lim a o) (hu : UpR g gr r r' w w') : CdT w' X c := by
 obtain ⟨T, m, A, cap, h1, h2, h3, h4, h5⟩ := h
 exact ⟨T, m, A, cap, h1, h2, h3, h4.up hS hu, h5⟩
theorem CdT.below {w w' : World} {X : Value} {c : Cod} (h : CdT w X c) (hb : Below w.heap.size w w') : CdT w' X c := by
 obtain ⟨T, m, A, cap, h1, h2, h3, h4, h5⟩ := h
 exact ⟨T, m, A, cap, h1, h2, h3, h4.below hb, h5⟩
theorem rsign_cd (B g gr a : Nat) (r : Option Nat) (s : ByteArray) (lim : Int) (o : List Nat) (c : Cod) (X : Value) (hs : s.size ≤ 1000000) (w : World) (hB : B ≤ w.heap.size) (hS : RS w B g gr r s lim a o) (hX : CdT w X c) :
  Calls Tryz.prog 42 #[.pointer (some ⟨g, 0, none⟩), .agg #[X]] w fun e w' => OutR w B g gr r s lim (fun x e => e = .returned (.int .i64 (x : Nat))) (fun e => e = .returned (.int .i64 (-1))) (signM c (srcR s lim) a o) e w' := by
 obtain ⟨T, m, A, cap, rfl, h2, h3, h4, h5, h6, h7⟩ := hX
 exact rsign_st B g gr a m r s lim o c T A cap hs h5 h6 h7 h2 h3 w hB hS h4
theorem RS.ge {w : World} {B g gr a : Nat} {r : Option Nat} {s : ByteArray} {lim : Int} {o : List Nat} (h : RS w B g gr r s lim a o) : ∀ i, (i = g ∨ i = gr ∨ some i = r) → B ≤ i := by
 obtain ⟨v, k1, k2, k3, k4, k5, k6, _⟩ := h
 rintro i (rfl | rfl | e)
 ·exact k5
 ·exact k6
 ·rcases k2.2 with ⟨rfl, _⟩ | ⟨g', cap, cur, rfl, hg, _⟩
  ·rw [← k3] at e
   simp [Value.ownBlock] at e
  ·rw [← k3] at e
   simp [Value.ownBlock] at e
   omega
theorem UpR.below {w w' : World} {B g gr a : Nat} {r r' : Option Nat} {s : ByteArray} {lim : Int} {o : List Nat} (h : UpR g gr r r' w w') (hS : RS w B g gr r s lim a o) (hB : B ≤ w.heap.size) : Below B w w' := h.1.below hS.ge hB
theorem lenOf_le (x : Nat) : (lenOf x).1 ≤ 300 ∧ (lenOf x).2 ≤ 5 := by
 by_cases h : x < 286
 ·have key : ∀ x, x < 286 → (lenOf x).1 ≤ 300 ∧ (lenOf x).2 ≤ 5 := by decide +kernel
  exact key x h
 ·unfold lenOf
  rw [if_pos (by omega)]
  exact ⟨Nat.zero_le _, Nat.zero_le _⟩
theorem distOf_le (x : Nat) : (distOf x).1 ≤ 33000 ∧ (distOf x).2 ≤ 13 := by
 by_cases h : x < 30
 ·have key : ∀ x, x < 30 → (distOf x).1 ≤ 33000 ∧ (distOf x).2 ≤ 13 := by decide +kernel
  exact key x h
 ·unfold distOf
  rw [if_pos (by omega)]
  exact ⟨Nat.zero_le _, Nat.zero_le _⟩
theorem num_ok {p : Nat × Nat} {s : Src} {a : Nat} {o : List Nat} (h0 : p.1 ≠ 0) (h : a + p.2 ≤ s.L) : numberM p s a o = .ok (p.1 + bitsAt s.N a p.2, a + p.2, o) := by
 unfold numberM
 rw [if_neg h0]
 have : readM1 p.2 s a o = .ok (bitsAt s.N a p.2, a + p.2, o) := if_pos h
 rw [bindR_ok this]
 rfl
theorem num_err {p : Nat × Nat} {s : Src} {a : Nat} {o : List Nat} (h0 : p.1 ≠ 0) (h : ¬ a + p.2 ≤ s.L) : numberM p s a o = .error 3 := by
 unfold numberM
 rw [if_neg h0]
 have : readM1 p.2 s a o = .error 3 := if_neg h
 rw [bindR_err this]
theorem num_no {p : Nat × Nat} {s : Src} {a : Nat} {o : List Nat} (h0 : p.1 = 0) : numberM p s a o = .error 10 := by
 unfold numberM
 rw [if_pos h0]
 rfl
theorem bits_lt (N a n k : Nat) (h : n ≤ k) : bitsAt N a n < 2 ^ k := Nat.lt_of_lt_of_le (Nat.mod_lt _ (Nat.two_pow_pos n)) (Nat.pow_le_pow_right (by omega) h)
theorem CdT.form {w : World} {X : Value} {c : Cod} (h : CdT w X c) : ∃ A n cap, X = .slice A n cap := by
 obtain ⟨T, m, A, cap, h1, _⟩ := h
 exact ⟨A, _, cap, h1⟩
theorem own_form8 {w : World} {B n : Nat} {v : Value} {xs : List Value} (h : w.ownsRow B 5 1 v n xs) (hn : 0 < n) : ∃ g cap, v = .slice (some ⟨g, 0, none⟩) n cap ∧ B ≤ g ∧ g < w.heap.size ∧ ∀ i u, xs[i]? = some u → w.cell? ⟨g, i, none⟩ = some u := by
 rcases h.2 with ⟨_, h0⟩ | ⟨g, cap, cur, hv, hb, hg, h1, h2, h3, h4⟩
 ·omega
 ·refine ⟨g, cap, hv, hb, lt_of_block hg, fun i u hu => ?_⟩
  rw [cell_of_row w g i _ _ _ hg]
  have hi := (List.getElem?_eq_some_iff.1 hu).1
  rw [← h4, List.getElem?_take_of_lt (by rw [h.1] at hi; exact hi)] at hu
  rw [← Array.getElem?_toList]
  exact hu
theorem cells8_get (l : List Nat) (i : Nat) (h : i < l.length) : (cells8 l)[i]? = some (.int .u8 (l.getD i 0 : Nat)) := by
 unfold cells8
 rw [List.getElem?_map, List.getElem?_eq_getElem h, List.getD_eq_getElem?_getD, List.getElem?_eq_getElem h]
 rfl
theorem after_appR {w w2 : World} {o x : Obj} {g : Nat} {row : Option Nat} (hb : w.heap[g]? = some x) (hg : (w.alloc o).drew.grownBy w2 row) (hne : row ≠ some g) : w2.heap[g]? = some x := by
 have hl := lt_of_block hb
 have hs : (w.alloc o).drew.heap.size = w.heap.size + 1 := by simp
 exact (hg.block g (by omega) (fun e => hne e.symm)).trans ((Below.heap_alloc w o g hl).trans hb)
end Go.Proofs.YtmkeicfklbepnaaGreat
