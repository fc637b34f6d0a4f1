/-
 The document's Inflate: what its walk wants: bytes appended, what a block comes to.
-/
import Derived.Test.YtmkeicfklbepnaaGreatPkCH
namespace Go.Proofs.YtmkeicfklbepnaaGreat
set_option maxRecDepth 100000
set_option linter.unusedVariables false
set_option linter.unusedSimpArgs false
open Go.RowKit Go.Deep Go.Joins
/-- Bytes more. -/
theorem RS.growL {w W w2 : World} {B g gr a : Nat} {r : Option Nat} {s : ByteArray} {lim : Int} {o l : List Nat} {v v2 : Value} (h : RS w B g gr r s lim a o) (hb : w.heap[g]? = some (stC gr v lim 0)) (hA : Below w.heap.size w W) (hg : W.grownBy w2 v.ownBlock) (ho : w2.ownsRow B 5 1 v2 (o.length + l.length) (cells8 o ++ cells8 l)) (hx : ∀ x ∈ l, x < 256) (hl : o.length + l.length ≤ lim.toNat) (hat : v2.ownBlock = v.ownBlock ∨ ∃ j, v2.ownBlock = some j ∧ w.heap.size ≤ j) :
  RS (w2.setCell ⟨g, 1, none⟩ v2) B g gr v2.ownBlock s lim a (o ++ l) ∧ UpR g gr r v2.ownBlock w (w2.setCell ⟨g, 1, none⟩ v2) := by
 have hne0 := h.ne
 obtain ⟨v', k1, k2, k3, k4, k5, k6, k7, k8, k9⟩ := h
 have hvv : v = v' := by
  rw [hb] at k1
  injection k1 with k1
  unfold stC at k1
  injection k1 with k1
  simpa using k1
 subst hvv
 have hgs := lt_of_block hb
 have hne : v.ownBlock ≠ some g := own_ne (cs := []) k2 hb (by decide)
 have hner : v.ownBlock ≠ some gr := own_ne (cs := []) k2 k4 (by decide)
 have hb2 : w2.heap[g]? = some (stC gr v lim 0) := (hg.block g (Nat.lt_of_lt_of_le hgs hA.size) (fun e => hne e.symm)).trans ((hA.block g hgs).trans hb)
 have hR2 : Rd 57 w2 gr s a 0 := (hg.block gr (Nat.lt_of_lt_of_le k4.lt hA.size) (fun e => hner e.symm)).trans ((hA.block gr k4.lt).trans k4)
 have hne2 : v2.ownBlock ≠ some g := own_ne (cs := []) ho hb2 (by decide)
 refine ⟨⟨v2, heap_setCell_same w2 g 1 _ _ v2 hb2, ?_, rfl, (Below.heap_setCell _ _ _ _ (Ne.symm hne0)).trans hR2, k5, k6, k7, ?_, by simpa using hl⟩, ⟨((kept_below hA).then (kept_grown hg) (fun i _ e => ?_)).then (kept_set w2 g 1 _) (fun i _ e => .inl e), ?_⟩⟩
 ·rw [List.length_append, cells8_app]
  exact own_keep (i := 0) ho (fun b hb => Below.heap_setCell _ _ _ _ (fun e => hne2 (by rw [hb, e]))) (by simp [World.setCell])
 ·intro y hy
  rw [List.mem_append] at hy
  rcases hy with hy | hy
  ·exact k8 y hy
  ·exact hx y hy
 ·rw [k3] at e
  exact .inr (.inr e)
 ·rcases hat with e | ⟨j, e, hj⟩
  ·exact .inl (e.trans k3)
  ·exact .inr ⟨j, e, hj⟩
/-- A wrong stream, and its row grown. -/
theorem RB.growN {w W w2 : World} {B g gr n k : Nat} {r : Option Nat} {lim : Int} {xs ys : List Value} {v v2 : Value} (hb : w.heap[g]? = some (stC gr v lim (k : Nat))) (hk : k ≠ 0 ∧ k < 100) (hv : v.ownBlock = r) (how : w.ownsRow B 5 1 v n xs) (hA : Below w.heap.size w W) (hg : W.grownBy w2 v.ownBlock) (hat : v2.ownBlock = v.ownBlock ∨ ∃ j, v2.ownBlock = some j ∧ w.heap.size ≤ j) :
  RB (w2.setCell ⟨g, 1, none⟩ v2) g k ∧ UpR g gr r v2.ownBlock w (w2.setCell ⟨g, 1, none⟩ v2) := by
 have hgs := lt_of_block hb
 have hne : v.ownBlock ≠ some g := own_ne (cs := []) how hb (by decide)
 have hb2 : w2.heap[g]? = some (stC gr v lim (k : Nat)) := (hg.block g (Nat.lt_of_lt_of_le hgs hA.size) (fun e => hne e.symm)).trans ((hA.block g hgs).trans hb)
 refine ⟨⟨gr, v2, lim, heap_setCell_same w2 g 1 _ _ v2 hb2, hk⟩, ((kept_below hA).then (kept_grown hg) (fun i _ e => ?_)).then (kept_set w2 g 1 _) (fun i _ e => .inl e), ?_⟩
 ·rw [hv] at e
  exact .inr (.inr e)
 ·rcases hat with e | ⟨j, e, hj⟩
  ·exact .inl (e.trans hv)
  ·exact .inr ⟨j, e, hj⟩
theorem and_neg (n m : Nat) (h : n + m = 65535) : bits .and .i64 (n : Int) (m : Int) = 0 := by
 obtain rfl : m = 65535 - n := by omega
 have hn : n < 65536 := by omega
 have key : n &&& (65535 - n) = 0 := by
  apply Nat.eq_of_testBit_eq
  intro i
  have h2 := Nat.testBit_two_pow_sub_succ (n := 16) (x := n) (by exact hn) i
  rw [show (2 : Nat) ^ 16 - (n + 1) = 65535 - n by omega] at h2
  rw [Nat.testBit_and, h2, Nat.zero_testBit]
  cases n.testBit i <;> simp
 have e2 : bits .and .i64 (n : Int) ((65535 - n : Nat) : Int) = IntKind.i64.wrap ((BitVec.ofInt 64 (n : Int) &&& BitVec.ofInt 64 ((65535 - n : Nat) : Int)).toNat : Int) := rfl
 rw [e2, BitVec.toNat_and, BitVec.toNat_ofInt, BitVec.toNat_ofInt]
 rw [show ((n : Int) % ((2 ^ 64 : Nat) : Int)).toNat = n by omega, show (((65535 - n : Nat) : Int) % ((2 ^ 64 : Nat) : Int)).toNat = 65535 - n by omega, key]
 rfl
theorem rbytes_ok (g : Nat) (s : ByteArray) (a n : Nat) (hs : s.size ≤ 1000000) (h8 : a % 8 = 0) (h : a + 8 * n ≤ 8 * s.size) (w : World) (hc : Rd 57 w g s a 0) :
  Calls Tryz.prog 21 #[.pointer (some ⟨g, 0, none⟩), .int .i64 (n : Nat)] w fun r w' => r = .returned (.string (s.extract (a / 8) (a / 8 + n))) ∧ Rd 57 w' g s (a + 8 * n) 0 ∧ w.grownBy w' (some g) := by
 have hA : alignA a 0 = a := by unfold alignA; rw [if_pos rfl]; omega
 have hm : mayB s a 0 (n : Nat) = true := decide_eq_true ⟨rfl, by omega, by omega⟩
 have e1 : pieceB s a 0 (n : Nat) = s.extract (a / 8) (a / 8 + n) := by unfold pieceB; rw [if_pos hm]; simp
 have e2 : bytA s a 0 (n : Nat) = a + 8 * n := by unfold bytA; rw [if_pos hm]; simp
 have e3 : bytE s a 0 (n : Nat) = 0 := by unfold bytE; rw [if_neg (by omega), if_neg (by omega), if_pos (by omega)]
 have := rbytes_any g s a 0 (n : Nat) (WalkArith.wf_i64 (by omega)) hs (by omega) w hc
 rwa [hA, e1, e2, e3] at this
theorem rbytes_short (g : Nat) (s : ByteArray) (a n : Nat) (hn : n ≤ 1000000) (hs : s.size ≤ 1000000) (ha : a ≤ 8 * s.size) (h8 : a % 8 = 0) (h : 8 * s.size < a + 8 * n) (w : World) (hc : Rd 57 w g s a 0) :
  Calls Tryz.prog 21 #[.pointer (some ⟨g, 0, none⟩), .int .i64 (n : Nat)] w fun r w' => r = .returned (.string ⟨#[]⟩) ∧ Rd 57 w' g s a 3 ∧ w.grownBy w' (some g) := by
 have hA : alignA a 0 = a := by unfold alignA; rw [if_pos rfl]; omega
 have hm : ¬ mayB s a 0 (n : Nat) = true := fun h => by
  have := of_decide_eq_true h
  omega
 have e1 : pieceB s a 0 (n : Nat) = ⟨#[]⟩ := by unfold pieceB; rw [if_neg hm]
 have e2 : bytA s a 0 (n : Nat) = a := by unfold bytA; rw [if_neg hm]
 have e3 : bytE s a 0 (n : Nat) = 3 := by unfold bytE; rw [if_neg (by omega), if_neg (by omega), if_neg (by omega)]
 have := rbytes_any g s a 0 (n : Nat) (WalkArith.wf_i64 (by omega)) hs ha w hc
 rwa [hA, e1, e2, e3] at this
theorem RS.set0 {w : World} {B g gr a : Nat} {r : Option Nat} {s : ByteArray} {lim : Int} {o : List Nat} (h : RS w B g gr r s lim a o) : RS (w.setCell ⟨g, 3, none⟩ (.int .i64 0)) B g gr r s lim a o := by
 have hne := h.ne
 obtain ⟨v, q1, q2, q3, q4, q5⟩ := h
 refine ⟨v, heap_setCell_same w g 3 _ _ _ q1, own_keep (i := 0) q2 (fun b hb => Below.heap_setCell _ _ _ _ (fun e => ?_)) (by simp [World.setCell]), q3, (Below.heap_setCell _ _ _ _ (fun e => hne e.symm)).trans q4, q5⟩
 subst e
 exact own_ne (cs := []) q2 q1 (by decide) hb
theorem stableR (b k : Nat) : Stable (if k = 0 then (bindM storedM fun _ => retM (b == 1)) else if k = 1 then (bindM (signsM fixS fixD) fun _ => retM (b == 1)) else if k = 2 then (bindM dynamicM fun p => bindM (signsM p.1 p.2) fun _ => retM (b == 1)) else failM 12) := stable_ite (stable_bind stable_stored fun _ => stable_ret _) (stable_ite (stable_bind (stable_signs _ _) fun _ => stable_ret _) (stable_ite (stable_bind stable_dynamic fun _ => stable_bind (stable_signs _ _) fun _ => stable_ret _) (stable_fail _)))
/-- What a block leaves. -/
def BO (w0 : World) (B g gr : Nat) (r : Option Nat) (s : ByteArray) (lim : Int) (a x : Nat) (o : List Nat) (w : World) : Prop :=
 (∃ a2 o2 r2, RS w B g gr r2 s lim a2 o2 ∧ UpR g gr r r2 w0 w ∧ blockM (srcR s lim) a o = .ok (x == 1, a2, o2)) ∨ (∃ k r2, RB w g k ∧ UpR g gr r r2 w0 w ∧ blockM (srcR s lim) a o = .error k)
/-- What Inflate's loop keeps. -/
def InI (w0 w : World) (B g gr : Nat) (r0 : Option Nat) (s : ByteArray) (lim : Int) (AN : Ans Unit) : Prop :=
 (∃ a o r, RS w B g gr r s lim a o ∧ UpR g gr r0 r w0 w ∧ ∀ ans, Runs blockStep (srcR s lim) () a o ans → AN = ans) ∨ (∃ k r, RB w g k ∧ UpR g gr r0 r w0 w ∧ AN = .error k)
def rinfV : Ans Unit → Value
 | .ok (_, a, o) => .tuple #[.string (text o), .int .i64 ((a + 7) / 8 : Nat), .int .i64 0]
 | .error e => .tuple #[.string ⟨#[]⟩, .int .i64 0, .int .i64 (e : Nat)]
theorem blkHead {src : Src} {a x y : Nat} {o : List Nat} (h : a + 1 + 2 ≤ src.L) (hx : x = bitsAt src.N a 1) (hy : y = bitsAt src.N (a + 1) 2) :
  blockM src a o = (if y = 0 then (bindM storedM fun _ => retM (x == 1)) else if y = 1 then (bindM (signsM fixS fixD) fun _ => retM (x == 1)) else if y = 2 then (bindM dynamicM fun p => bindM (signsM p.1 p.2) fun _ => retM (x == 1)) else failM 12) src (a + 1 + 2) o := by
 subst hx hy
 unfold blockM
 rw [bindR_ok (read_yes (by omega)), bindR_ok (read_yes h)]
theorem blkGrow {src : Src} {a a1 : Nat} {o o1 : List Nat} {b : Bool} (h8 : src.L % 8 = 0) (h3 : a + 1 + 2 ≤ src.L) (h : blockM src a o = .ok (b, a1, o1)) : a < a1 := by
 rw [blkHead h3 rfl rfl] at h
 have := ((stableR _ _).grow src _ _ _ _ _ h3 h8 h).1
 omega
theorem blk_1 {src : Src} {a : Nat} {o : List Nat} (h : src.L < a + 1) : blockM src a o = .error 3 := bindR_err (read_no h)
theorem blk_2 {src : Src} {a : Nat} {o : List Nat} (h1 : a + 1 ≤ src.L) (h : src.L < a + 1 + 2) : blockM src a o = .error 3 := (bindR_ok (read_yes h1)).trans (bindR_err (read_no h))
section
variable {src : Src} {b n m : Nat} {o : List Nat}
def storedB : Mm Unit := bindM (readM1 16) fun n => bindM (readM1 16) fun t => if n = 65535 - t then storeM n else failM 13
theorem sto_1 (h : src.L < b + 16) : storedB src b o = .error 3 := bindR_err (read_no h)
theorem sto_2 (h1 : b + 16 ≤ src.L) (h : src.L < b + 16 + 16) : storedB src b o = .error 3 := (bindR_ok (read_yes h1)).trans (bindR_err (read_no h))
theorem sto_3 (h1 : b + 16 + 16 ≤ src.L) (hn : n = bitsAt src.N b 16) (hm : m = bitsAt src.N (b + 16) 16) : storedB src b o = (if n = 65535 - m then storeM n else failM 13) src (b + 16 + 16) o := by
 subst hn hm
 exact (bindR_ok (read_yes (by omega))).trans (bindR_ok (read_yes h1))
end
/-- A pair of codes where they lie, before they are made. -/
def PairAt (w : World) (v11 v12 : Value) (c d : Cod) : Prop := ∃ A1 c1 A2 c2, v11 = .slice A1 c.n c1 ∧ v12 = .slice A2 d.n c2 ∧ Lens w A1 c.n c.ls ∧ Lens w A2 d.n d.ls ∧ c.n ≤ 4096 ∧ d.n ≤ 4096 ∧ (∀ i, i < c.n → c.ls i ≤ 15) ∧ (∀ i, i < d.n → d.ls i ≤ 15)
/-- Behind the lengths of a pair of codes. -/
def K3 (w0 : World) (B g gr : Nat) (r : Option Nat) (s : ByteArray) (lim : Int) (a x : Nat) (o : List Nat) (v11 v12 : Value) (w : World) : Prop :=
 (∃ c d a2 o2 r2, PairAt w v11 v12 c d ∧ RS w B g gr r2 s lim a2 o2 ∧ UpR g gr r r2 w0 w ∧ blockM (srcR s lim) a o = bindM (pairM c d) (fun _ => bindM (signsM c d) fun _ => retM (x == 1)) (srcR s lim) a2 o2) ∨
 (∃ k r2, RB w g k ∧ UpR g gr r r2 w0 w ∧ blockM (srcR s lim) a o = .error k)
theorem bind_invR {α β : Type} {m : Mm α} {f : α → Mm β} {s : Src} {a : Nat} {o : List Nat} {p : β × Nat × List Nat} (h : bindM m f s a o = .ok p) : ∃ x a1 o1, m s a o = .ok (x, a1, o1) ∧ f x s a1 o1 = .ok p := by
 unfold bindM at h
 split at h
 ·cases h
 ·rename_i x a1 o1 e
  exact ⟨x, a1, o1, e, h⟩
theorem row_lenR {c : Cod} {many : Nat} {src : Src} {a a1 : Nat} {o o1 l : List Nat} (h : rowM c many src a o = .ok (l, a1, o1)) : l.length = many := by
 obtain ⟨k, hk⟩ := loop_ok h
 have key : ∀ k row a o, itM (rowStep c many) src k row a o = some (.ok (l, a1, o1)) → l.length = many := by
  intro k
  induction k with
  | zero => intro row a o h; cases h
  | succ k ih =>
   intro row a o h
   rw [itM] at h
   split at h
   ·cases h
   ·rename_i y a2 o2 hb
    injection h with h
    injection h with h
    injection h with h1 h2
    subst h1
    unfold rowStep at hb
    split at hb
    ·obtain ⟨_, _, _, _, h2⟩ := bind_invR hb
     obtain ⟨_, _, _, _, h4⟩ := bind_invR h2
     cases h4
    ·split at hb
     ·cases hb
     ·injection hb with hb
      injection hb with hb
      injection hb with hb
      subst hb
      omega
   ·exact ih _ _ _ h
 exact key k _ _ _ hk
theorem hdl_len {src : Src} {a a1 : Nat} {o o1 l1 l2 : List Nat} (h : dynLM src a o = .ok ((l1, l2), a1, o1)) : l1.length ≤ 400 ∧ l2.length ≤ 400 := by
 unfold dynLM at h
 obtain ⟨x, _, _, _, h⟩ := bind_invR h
 obtain ⟨y, _, _, _, h⟩ := bind_invR h
 obtain ⟨z, _, _, _, h⟩ := bind_invR h
 split at h
 ·cases h
 ·obtain ⟨c, _, _, _, h⟩ := bind_invR h
  obtain ⟨l, _, _, hr, h⟩ := bind_invR h
  split at h
  ·cases h
  ·injection h with h
   injection h with h _
   injection h with h1 h2
   have := row_lenR hr
   subst h1 h2
   rw [List.length_take, List.length_drop]
   omega
theorem getD_le (l : List Nat) (m : Nat) (h : ∀ y ∈ l, y ≤ m) (i : Nat) : l.getD i 0 ≤ m := by
 rw [List.getD_eq_getElem?_getD]
 cases hg : l[i]? with
 | none => simp
 | some y => exact h y (List.mem_of_getElem? hg)
end Go.Proofs.YtmkeicfklbepnaaGreat
