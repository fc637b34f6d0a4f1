/-
  Contracts: the document's ParseStamp; the two are one.
  ParseStamp: the program's answer is the document's.
  An entry's owner; the times that its fields tell.
  An entry's bare node.
-/
import Derived.Test.YtjnoapbddifcpaaGreatDoorFlE
import Derived.Test.YtjnoapbddifcpaaGreatDoorPkBG
import Derived.Test.YtjnoapbddifcpaaGreatDoorPkBH

namespace Go.Proofs.YtjnoapbddifcpaaGreatDoor
set_option maxRecDepth 100000
open Go.RowKit Go.Joins

theorem sgn_bd (n : Nat) (h : n < 4294967296) : -2147483648 ≤ sgn n ∧ sgn n ≤ 2147483647 := by
  unfold sgn
  split <;> omega
def sgnI (m : Int) : Int := if m < 2147483648 then m else m - 4294967296
theorem sgn_int (n : Nat) : sgn n = sgnI n := by
  unfold sgn sgnI
  split <;> split <;> omega
theorem signed_any (p : ByteArray) (h : p.size ≤ 4) (w : World) :
    Calls Tryz.prog 83 #[.string p] w fun e w' => e = .returned (.int .i32 (sgn (numL (nums p)))) ∧ w = w' := by
  have HN := Lib.hid (fun w => rnumber_any p (by omega) w)
  have hl := numL_lt _ (nums_lt p)
  rw [nums_len] at hl
  have hl2 : numL (nums p) < 4294967296 := Nat.lt_of_lt_of_le hl (Nat.pow_le_pow_right (n := 256) (by omega) h)
  rw [sgn_int]
  clear hl
  have h1 : 0 ≤ ((numL (nums p) : Nat) : Int) := by omega
  have h2 : ((numL (nums p) : Nat) : Int) ≤ 4294967295 := by omega
  clear hl2
  generalize ((numL (nums p) : Nat) : Int) = m at *
  by_cases hn : m < 2147483648
  · have HS : Hid (sgnI m = m) := if_pos hn
    go_enter Tryz.func83, Tryz.ntmps83
    go_wp2_with fail
    refine (HN.out _).mono ?_; rintro r w1 ⟨rfl, rfl⟩
    go_wp2_with fail
    go_ret
    exact ⟨ret_eq (by rw [HS.out]), rfl⟩
  · have HS : Hid (sgnI m = m - 4294967296) := if_neg hn
    go_enter Tryz.func83, Tryz.ntmps83
    go_wp2_with fail
    refine (HN.out _).mono ?_; rintro r w1 ⟨rfl, rfl⟩
    go_wp2_with fail
    go_ret
    exact ⟨ret_eq (by rw [HS.out]), rfl⟩

/-- Which times are told. -/
def tk (F : Nat) (c : Bool) (k : Nat) : Bool := decide (F / 2 ^ k % 2 = 1) && (decide (k = 0) || !c)
/-- Where a time stands. -/
def pk (F : Nat) (c : Bool) : Nat → Nat
  | 0 => 1
  | k + 1 => pk F c k + if tk F c k = true then 4 else 0
theorem pk_mono (F : Nat) (c : Bool) (j k : Nat) (h : j ≤ k) : pk F c j ≤ pk F c k := by
  induction k with
  | zero => obtain rfl : j = 0 := by omega
            exact Nat.le_refl _
  | succ k ih =>
    by_cases e : j = k + 1
    · rw [e]; exact Nat.le_refl _
    · have := ih (by omega)
      rw [pk]
      omega
theorem pk_bd (F : Nat) (c : Bool) (k : Nat) : 1 ≤ pk F c k ∧ pk F c k ≤ 1 + 4 * k := by
  induction k with
  | zero => exact ⟨Nat.le_refl _, Nat.le_refl _⟩
  | succ k ih =>
    rw [pk]
    split <;> omega
def vk (s : ByteArray) (F : Nat) (c : Bool) (k : Nat) : Int := if tk F c k = true then sgn (numL (((nums s).drop (pk F c k)).take 4)) else 0
def stOk (s : ByteArray) (F : Nat) (c : Bool) : Bool := decide (1 ≤ s.size ∧ F ≤ 7 ∧ pk F c 3 ≤ s.size ∧ (c = true ∨ pk F c 3 = s.size))
/-- What a stamp's bytes tell. -/
def stRes (s : ByteArray) (c : Bool) : Value :=
  let F := (nums s).getD 0 0
  if stOk s F c = true then .tuple #[.agg #[.int .u8 F, .int .i32 (vk s F c 0), .int .i32 (vk s F c 1), .int .i32 (vk s F c 2)], .int .i64 0] else .tuple #[.agg #[.int .u8 0, .int .i32 0, .int .i32 0, .int .i32 0], .int .i64 24]
theorem stRes_yes {s : ByteArray} {F : Nat} {c : Bool} (hF : (nums s).getD 0 0 = F) (h : 1 ≤ s.size ∧ F ≤ 7 ∧ pk F c 3 ≤ s.size ∧ (c = true ∨ pk F c 3 = s.size)) :
    stRes s c = .tuple #[.agg #[.int .u8 F, .int .i32 (vk s F c 0), .int .i32 (vk s F c 1), .int .i32 (vk s F c 2)], .int .i64 0] := by
  subst hF
  exact if_pos (decide_eq_true h)
theorem stRes_no {s : ByteArray} {F : Nat} {c : Bool} (hF : (nums s).getD 0 0 = F) (h : ¬ (1 ≤ s.size ∧ F ≤ 7 ∧ pk F c 3 ≤ s.size ∧ (c = true ∨ pk F c 3 = s.size))) :
    stRes s c = .tuple #[.agg #[.int .u8 0, .int .i32 0, .int .i32 0, .int .i32 0], .int .i64 24] := by
  subst hF
  exact if_neg (by unfold stOk; rw [decide_eq_true_iff]; exact h)

/-- The values that are laid behind k rounds. -/
def lk (s : ByteArray) (F : Nat) (c : Bool) (k j : Nat) : Int := if j < k then vk s F c j else 0
theorem lk_set (s : ByteArray) (F : Nat) (c : Bool) (k : Nat) (hk : k < 3) (T : Value) : (#[T, .int .i32 (lk s F c k 0), .int .i32 (lk s F c k 1), .int .i32 (lk s F c k 2)] : Array Value).setIfInBounds (1 + k) (.int .i32 (vk s F c k)) = #[T, .int .i32 (lk s F c (k + 1) 0), .int .i32 (lk s F c (k + 1) 1), .int .i32 (lk s F c (k + 1) 2)] := by
  have : k = 0 ∨ k = 1 ∨ k = 2 := by omega
  rcases this with rfl | rfl | rfl <;> simp [lk]
theorem lk_same (s : ByteArray) (F : Nat) (c : Bool) (k j : Nat) (h : tk F c k = false) : lk s F c (k + 1) j = lk s F c k j := by
  unfold lk
  by_cases h1 : j < k
  · rw [if_pos h1, if_pos (by omega)]
  · rw [if_neg h1]
    by_cases h2 : j = k
    · subst h2
      rw [if_pos (by omega)]
      unfold vk
      rw [h]
      rfl
    · rw [if_neg (by omega)]

theorem info_rstamp : (Tryz.prog.info? 130).map (·.size) = some 4 := by kernel_rfl
theorem zero_rstamp (w : World) : (zeroValue 130).run Tryz.prog w = .ok (.agg #[.int .u8 0, .int .i32 0, .int .i32 0, .int .i32 0]) w := by kernel_rfl
structure RX (w : World) (s : ByteArray) (F : Nat) (c : Bool) (k : Nat) (t : ByteArray) (wr : World) : Prop where
  txt : nums t = (nums s).drop (pk F c k)
  fit : pk F c k ≤ s.size
  res : wr.heap[w.heap.size]? = some (.cells #[.int .u8 0, .int .i32 0, .int .i32 0, .int .i32 0] 130 (0, 0))
  row : wr.heap[w.heap.size + 1]? = some (.cells #[.int .u8 F, .int .i32 (lk s F c k 0), .int .i32 (lk s F c k 1), .int .i32 (lk s F c k 2)] 130 (0, 0))
  bel : Below w.heap.size w wr

end Go.Proofs.YtjnoapbddifcpaaGreatDoor

namespace Go.Proofs.YtjnoapbddifcpaaGreatDoor
set_option maxRecDepth 100000
open Go.RowKit Go.Joins

/-! ### the program's answer is the document's -/
theorem ite_true4 : (if true = true then 4 else 0) = 4 := rfl
theorem stA_yes {s : ByteArray} {t : Bool} {a : Nat} (h : a + (if t = true then 4 else 0) ≤ s.size) : sA s t a 0 = a + (if t = true then 4 else 0) ∧ sE s t a 0 = 0 ∧ sV s t a 0 = if t = true then sgn (numL (((nums s).drop a).take 4)) else 0 := by
  cases t with
  | true =>
    rw [ite_true4] at h ⊢
    have e1 : sA s true a 0 = atB s a 0 (4 : Nat) := if_pos rfl
    have e2 : sE s true a 0 = errB s a 0 (4 : Nat) := if_pos rfl
    have e3 : sV s true a 0 = sgn (numB s a 0 4) := if_pos rfl
    have e4 : numB s a 0 4 = numL (((nums s).drop a).take 4) := by unfold numB; rw [nums_piece s a 4 h]
    rw [e1, e2, e3, e4, atB_yes s a 4 h, errB_yes s a 4 h, if_pos rfl]
    exact ⟨rfl, rfl, rfl⟩
  | false => exact ⟨if_neg (by decide), if_neg (by decide), (if_neg (by decide)).trans (if_neg (by decide)).symm⟩
theorem stE_zero {s : ByteArray} {t : Bool} {a e : Nat} (ha : a ≤ s.size) (h : sE s t a e = 0) : e = 0 ∧ a + (if t = true then 4 else 0) ≤ s.size := by
  cases t with
  | true =>
    obtain ⟨h1, _, h3, _⟩ := errB_zero (show errB s a e (4 : Nat) = 0 from h)
    exact ⟨h1, h3⟩
  | false => exact ⟨h, ha⟩
theorem sA_le {s : ByteArray} {t : Bool} {a e : Nat} (ha : a ≤ s.size) : sA s t a e ≤ s.size := by
  cases t with
  | true => exact atB_le s a e _ ha
  | false => exact ha
theorem told_tk (F : Nat) (c : Bool) : decide (toldN F c % 2 = 1) = tk F c 0 ∧ decide (toldN F c / 2 % 2 = 1) = tk F c 1 ∧ decide (toldN F c / 4 % 2 = 1) = tk F c 2 := by
  unfold tk toldN
  cases c with
  | true => 
    refine ⟨?_, ?_, ?_⟩
    · simp
    · simp
      try omega
    · simp
      try omega
  | false =>
    refine ⟨?_, ?_, ?_⟩ <;> simp <;> omega
theorem st_same (s : ByteArray) (c : Bool) {F a0 e0 a1 e1 a2 e2 a3 e3 : Nat} {v0 v1 v2 : Int}
    (hF : numB s 0 0 1 = F) (hA : atB s 0 0 (1 : Nat) = a0) (hE : errB s 0 0 (1 : Nat) = e0)
    (hA0 : sA s (tk F c 0) a0 e0 = a1) (hE0 : sE s (tk F c 0) a0 e0 = e1) (hV0 : sV s (tk F c 0) a0 e0 = v0)
    (hA1 : sA s (tk F c 1) a1 e1 = a2) (hE1 : sE s (tk F c 1) a1 e1 = e2) (hV1 : sV s (tk F c 1) a1 e1 = v1)
    (hA2 : sA s (tk F c 2) a2 e2 = a3) (hE2 : sE s (tk F c 2) a2 e2 = e3) (hV2 : sV s (tk F c 2) a2 e2 = v2) :
    spOut s c F a3 e3 v0 v1 v2 = stRes s c := by
  by_cases h1 : 1 ≤ s.size
  · have hF2 : (nums s).getD 0 0 = F := by rw [← hF]; exact (numB_one s 0 h1).symm
    have a0' : a0 = 1 := by rw [← hA]; exact atB_yes s 0 1 h1
    have e0' : e0 = 0 := by rw [← hE]; exact errB_yes s 0 1 h1
    subst a0' e0'
    have p1 : pk F c 1 = 1 + if tk F c 0 = true then 4 else 0 := rfl
    have p2 : pk F c 2 = pk F c 1 + if tk F c 1 = true then 4 else 0 := rfl
    have p3 : pk F c 3 = pk F c 2 + if tk F c 2 = true then 4 else 0 := rfl
    have m12 := pk_mono F c 1 2 (by omega)
    have m23 := pk_mono F c 2 3 (by omega)
    by_cases hp : pk F c 3 ≤ s.size
    · obtain ⟨x1, x2, x3⟩ := stA_yes (s := s) (t := tk F c 0) (a := 1) (by omega)
      have a1' : a1 = pk F c 1 := by rw [← hA0, x1, p1]
      have e1' : e1 = 0 := by rw [← hE0, x2]
      have v0' : v0 = vk s F c 0 := by rw [← hV0, x3]; rfl
      subst a1' e1'
      obtain ⟨y1, y2, y3⟩ := stA_yes (s := s) (t := tk F c 1) (a := pk F c 1) (by omega)
      have a2' : a2 = pk F c 2 := by rw [← hA1, y1, p2]
      have e2' : e2 = 0 := by rw [← hE1, y2]
      have v1' : v1 = vk s F c 1 := by rw [← hV1, y3]; rfl
      subst a2' e2'
      obtain ⟨z1, z2, z3⟩ := stA_yes (s := s) (t := tk F c 2) (a := pk F c 2) (by omega)
      have a3' : a3 = pk F c 3 := by rw [← hA2, z1, p3]
      have e3' : e3 = 0 := by rw [← hE2, z2]
      have v2' : v2 = vk s F c 2 := by rw [← hV2, z3]; rfl
      subst a3' e3' v0' v1' v2'
      by_cases hok : F ≤ 7 ∧ (c = true ∨ pk F c 3 = s.size)
      · rw [stRes_yes hF2 ⟨h1, hok.1, hp, hok.2⟩]
        exact if_pos ⟨rfl, hok.1, hok.2⟩
      · rw [stRes_no hF2 (fun h => hok ⟨h.2.1, h.2.2.2⟩)]
        exact if_neg (fun h => hok ⟨h.2.1, h.2.2⟩)
    · rw [stRes_no hF2 (fun h => hp h.2.2.1)]
      refine if_neg (fun h => hp ?_)
      have b1 : a1 ≤ s.size := by rw [← hA0]; exact sA_le h1
      have b2 : a2 ≤ s.size := by rw [← hA1]; exact sA_le b1
      have he3 : e3 = 0 := h.1
      rw [he3] at hE2
      obtain ⟨q2, w2⟩ := stE_zero b2 hE2
      rw [q2] at hE1
      obtain ⟨q1, w1⟩ := stE_zero b1 hE1
      rw [q1] at hE0
      obtain ⟨_, w0⟩ := stE_zero h1 hE0
      obtain ⟨x1, _, _⟩ := stA_yes (s := s) (t := tk F c 0) (a := 1) w0
      have a1' : a1 = pk F c 1 := by rw [← hA0, x1, p1]
      rw [a1'] at w1
      obtain ⟨y1, _, _⟩ := stA_yes (s := s) (t := tk F c 1) (a := pk F c 1) w1
      have a2' : a2 = pk F c 2 := by rw [← hA1, a1', q1, y1, p2]
      rw [a2'] at w2
      omega
  · rw [stRes_no rfl (fun h => h1 h.1)]
    refine if_neg (fun h => h1 ?_)
    have e0n : e0 = 3 := by
      rw [← hE]
      refine if_neg (fun k => h1 ?_)
      unfold mayB at k
      have := of_decide_eq_true k
      omega
    exfalso
    have key : ∀ t a, sE s t a 3 = 3 := fun t a => by
      cases t with
      | true =>
        refine (if_pos rfl).trans (if_neg (fun k => ?_))
        unfold mayB at k
        have := (of_decide_eq_true k).1
        omega
      | false => rfl
    rw [e0n, key] at hE0
    rw [← hE0, key] at hE1
    rw [← hE1, key] at hE2
    have := h.1
    omega
theorem parseStamp_st (s : ByteArray) (c : Bool) (hs : s.size ≤ maxLen) (w : World) :
    Calls Tryz.prog 112 #[.string s, .bool c] w fun e w' => e = .returned (stRes s c) ∧ Below w.heap.size w w' := by
  obtain ⟨t0, t1, t2⟩ := told_tk (numB s 0 0 1) c
  have h := parseStamp_any s c hs rfl rfl rfl rfl t0 t1 t2 rfl rfl rfl rfl rfl rfl rfl rfl rfl w
  rw [st_same s c rfl rfl rfl rfl rfl rfl rfl rfl rfl rfl rfl rfl] at h
  exact h
end Go.Proofs.YtjnoapbddifcpaaGreatDoor

namespace Go.Proofs.YtjnoapbddifcpaaGreatDoor
set_option maxRecDepth 100000
set_option linter.unusedSimpArgs false
set_option linter.unusedVariables false
open Go.RowKit Go.Joins Go.Deep
def oTri (s : ByteArray) : Int × Int × Int := if oOk s = true then (if oFit s = true then ((oU s : Nat), (oG s : Nat), 0) else (0, 0, 8)) else (0, 0, 24)
theorem oRes_tri (s : ByteArray) : oRes s = .tuple #[.int .u32 (oTri s).1, .int .u32 (oTri s).2.1, .int .i64 (oTri s).2.2] := by
  unfold oRes oTri
  split
  · split <;> rfl
  · rfl
def oldTri (s : ByteArray) : Int × Int × Int := if s.size = 0 then (0, 0, 0) else if s.size = 4 then ((numL ((nums s).take 2) : Nat), (numL ((nums s).drop 2) : Nat), 0) else (0, 0, 24)
theorem oldRes_tri (s : ByteArray) : oldRes s = .tuple #[.int .u32 (oldTri s).1, .int .u32 (oldTri s).2.1, .int .i64 (oldTri s).2.2] := by
  unfold oldRes oldTri
  split
  · rfl
  · split <;> rfl
/-- The owner that fields tell, or an error. -/
def ownTri (l : List Fd) : Int × Int × Int := if fndB l 30837 = true then oTri (fndD l 30837) else oldTri (fndD l 30805)
set_option maxHeartbeats 8000000 in
theorem owner_any (F : Array Value) (l1 l2 : List Fd) (h1 : l1.length ≤ 16384) (h2 : l2.length ≤ 16384) (w : World) (hF : FsV w F l1 l2) (hD : ∀ id, (fndD (l1 ++ l2) id).size ≤ maxLen) :
    Calls Tryz.prog 50 #[.agg F] w fun e w' => e = .returned (.tuple #[.int .u32 (ownTri (l1 ++ l2)).1, .int .u32 (ownTri (l1 ++ l2)).2.1, .int .i64 (ownTri (l1 ++ l2)).2.2]) ∧ Below w.heap.size w w' := by
  have HFI := Lib.hid (fun id w1 (hb : Below w.heap.size w w1) => findE_any F l1 l2 id h1 h2 w1 (hF.below hb))
  have HD := Lib.hid hD
  have hFF := hF
  obtain ⟨A1, c1, A2, c2, rfl, hf1, hn1, hf2, hn2⟩ := hF
  obtain ⟨V, hV⟩ : ∃ V, V = ownTri (l1 ++ l2) := ⟨_, rfl⟩
  rw [← hV]
  have HVT : Hid (fndB (l1 ++ l2) 30837 = true → V = oTri (fndD (l1 ++ l2) 30837)) := fun h => by rw [hV]; unfold ownTri; rw [if_pos h]
  have HVF : Hid (fndB (l1 ++ l2) 30837 = false → V = oldTri (fndD (l1 ++ l2) 30805)) := fun h => by rw [hV]; unfold ownTri; rw [h, if_neg (by decide)]
  generalize l1 ++ l2 = L at *
  generalize l1.length = n1 at *
  generalize l2.length = n2 at *
  clear hf1 hn1 hf2 hn2 hFF hD hV
  have HPO := Lib.hid (fun s hs w1 => by have h := parseOwner_any s hs w1; rw [oRes_tri] at h; exact h)
  have HPL := Lib.hid (fun s hs w1 => by have h := parseOld_any s hs w1; rw [oldRes_tri] at h; exact h)
  obtain ⟨w1, hw1⟩ : ∃ w1, w1 = w.alloc (.cells #[.slice A1 n1 c1, .slice A2 n2 c2] 110) := ⟨_, rfl⟩
  have HB1 : Hid (Below w.heap.size w w1) := by show Below _ _ _; rw [hw1]; exact (Below.refl _ _).alloc (Nat.le_refl _) _
  have HX1 : Hid (w1.heap[w.heap.size]? = some (.cells #[.slice A1 n1 c1, .slice A2 n2 c2] 110 (0, 0))) := by show _ = _; rw [hw1]; exact heap_alloc_new w _
  have HW1 := Lib.hid hw1
  have hir := info_fields
  clear hw1
  go_enter Tryz.func50, Tryz.ntmps50
  go_wp2_with fail
  rw [← HW1.out]
  clear HW1
  refine (HFI.out _ w1 HB1.out).mono ?_; rintro e w2 ⟨rfl, hb2⟩
  have HX2 := Lib.hid ((hb2.block _ (lt_of_block HX1.out)).trans HX1.out)
  have HB2 := Lib.hid (below_then HB1.out hb2)
  clear hb2 HX1 HB1
  generalize hB : fndB L 30837 = B at *
  have HBB := Lib.hid hB
  clear hB
  cases B with
  | true =>
    have HVV := Lib.hid (HVT.out rfl)
    have HP := Lib.hid (HPO.out _ (HD.out 30837))
    clear HPO HPL HVT HVF HFI HD
    generalize fndD L 30837 = D at *
    go_wp2_with fail
    refine (HP.out _).mono ?_; rintro e w3 ⟨rfl, hb3⟩
    have HB3 := Lib.hid (below_then HB2.out hb3)
    clear HP hb3 HB2
    rw [← HVV.out]
    obtain ⟨u, g, z⟩ := V
    go_wp2_with fail
    go_ret3
    exact ⟨rfl, HB3.out⟩
  | false =>
    have HVV := Lib.hid (HVF.out rfl)
    have HF2 := Lib.hid (HFI.out 30805 w2 HB2.out)
    have HP := Lib.hid (HPL.out _ (HD.out 30805))
    clear HPO HPL HVT HVF HFI HD
    generalize fndD L 30805 = D at *
    go_wp2_with (refine wpList_load_row rfl 110 (.tmp 1) rfl w.heap.size rfl 110 _ (0, 0) _ HX2.out Tryz.underlying110 rfl info_fields ?_)
    refine HF2.out.mono ?_; rintro e w3 ⟨rfl, hb3⟩
    have HB3 := Lib.hid (below_then HB2.out hb3)
    clear hb3 HB2 HF2
    go_wp2_with fail
    refine (HP.out _).mono ?_; rintro e w4 ⟨rfl, hb4⟩
    have HB4 := Lib.hid (below_then HB3.out hb4)
    clear HP hb4 HB3
    rw [← HVV.out]
    obtain ⟨u, g, z⟩ := V
    go_wp2_with fail
    go_ret3
    exact ⟨rfl, HB4.out⟩
end Go.Proofs.YtjnoapbddifcpaaGreatDoor

namespace Go.Proofs.YtjnoapbddifcpaaGreatDoor
set_option maxRecDepth 100000
set_option linter.unusedSimpArgs false
set_option linter.unusedVariables false
open Go.RowKit Go.Joins Go.Deep
def kinI (s : Int) : Int := if s = 4 then 1 else if s = 8 then 2 else if s = 10 then 3 else 0
theorem kindOf_any (s : Int) (w : World) : Calls Tryz.prog 72 #[.int .u32 s] w fun e w' => e = .returned (.int .i64 (kinI s)) ∧ w' = w := by
  by_cases h4 : s = 4
  · subst h4
    go_enter Tryz.func72, Tryz.ntmps72
    go_wp2_with fail
    go_ret
    exact ⟨rfl, rfl⟩
  by_cases h8 : s = 8
  · subst h8
    go_enter Tryz.func72, Tryz.ntmps72
    go_wp2_with fail
    go_ret
    exact ⟨rfl, rfl⟩
  by_cases h10 : s = 10
  · subst h10
    go_enter Tryz.func72, Tryz.ntmps72
    go_wp2_with fail
    go_ret
    exact ⟨rfl, rfl⟩
  have b4 : (s == 4) = false := beq_eq_false_iff_ne.2 h4
  have b8 : (s == 8) = false := beq_eq_false_iff_ne.2 h8
  have b10 : (s == 10) = false := beq_eq_false_iff_ne.2 h10
  have HK : Hid (kinI s = 0) := by show _ = _; unfold kinI; rw [if_neg h4, if_neg h8, if_neg h10]
  rw [HK.out]
  go_enter Tryz.func72, Tryz.ntmps72
  go_wp2_with fail
  go_ret
  exact ⟨rfl, rfl⟩
/-- Did Unix make it, and does it tell the node's sort? -/
def unxB (E : Ent) : Bool := decide ((E.made : Int) / 256 = 3) && !((E.outer : Int) / 268435456 == 0)
def barK (E : Ent) (d : Bool) : Int := if unxB E = true then kinI ((E.outer : Int) / 268435456) else if d = true then 1 else 2
def barM (E : Ent) (d : Bool) : Int := if unxB E = true then bits .and .u32 ((E.outer : Int) / 65536) 4095 else if d = true then 493 else 420
def barB (E : Ent) (d : Bool) : Bool := !(barK E d == 0) && (d == (barK E d == 1))
def barV (E : Ent) (d : Bool) : Value := if barB E d = true then .tuple #[.agg #[.int .i64 (barK E d), .int .u32 (barM E d), .int .u32 0, .int .u32 0, .int .i64 0, .int .i64 0, .string ⟨#[]⟩], .int .i64 0] else .tuple #[.agg #[.int .i64 0, .int .u32 0, .int .u32 0, .int .u32 0, .int .i64 0, .int .i64 0, .string ⟨#[]⟩], .int .i64 42]
theorem three_mid (w : World) (a b c : Obj) : (((w.alloc a).alloc b).alloc c).heap[w.heap.size + 1]? = some b := by
  have h1 : (w.alloc a).heap.size = w.heap.size + 1 := by simp only [World.alloc, Array.size_push]
  have h2 : ((w.alloc a).alloc b).heap[w.heap.size + 1]? = some b := by rw [← h1]; exact heap_alloc_new _ _
  exact (((Below.refl _ _).alloc (Nat.le_refl _) c).block _ (lt_of_block h2)).trans h2
theorem below_three (w : World) (a b c : Obj) : Below w.heap.size w (((w.alloc a).alloc b).alloc c) :=
  below_then (below_then ((Below.refl _ _).alloc (Nat.le_refl _) a) ((Below.refl _ _).alloc (Nat.le_refl _) b)) ((Below.refl _ _).alloc (Nat.le_refl _) c)
theorem info_nodeM : (Tryz.prog.info? 71).map (·.size) = some 7 := by kernel_rfl
set_option maxHeartbeats 8000000 in
theorem bare_any (E : Ent) (hE : EntOk E) (d : Bool) (w : World) :
    Calls Tryz.prog 48 #[.agg E.cells, .bool d] w fun e w' => e = .returned (barV E d) ∧ Below w.heap.size w w' := by
  have HKI := Lib.hid (fun s w1 => kindOf_any s w1)
  simp only [Ent.cells]
  by_cases hu : (E.made : Int) / 256 = 3
  · by_cases hs : (E.outer : Int) / 268435456 = 0
    · have bs : (((E.outer : Int) / 268435456) != 0) = false := by rw [hs]; rfl
      have HU : Hid (unxB E = false) := by show _ = _; unfold unxB; rw [hs]; simp
      have HVV : Hid (barV E d = .tuple #[.agg #[.int .i64 (if d = true then 1 else 2), .int .u32 (if d = true then 493 else 420), .int .u32 0, .int .u32 0, .int .i64 0, .int .i64 0, .string ⟨#[]⟩], .int .i64 0]) := by
        show _ = _
        unfold barV barB barK barM
        rw [HU.out]
        cases d <;> rfl
      clear hs
      cases d with
      | true =>
        go_enter Tryz.func48, Tryz.ntmps48
        go_wp2_with fail
        exact bodyPost_ret (results_ct_rowF rfl _ _ (w.heap.size + 1) 71 _ (0, 0) _ rfl (three_mid _ _ _ _) Tryz.underlying71 rfl info_nodeM) rfl ⟨by rw [HVV.out]; rfl, below_three _ _ _ _⟩
      | false =>
        go_enter Tryz.func48, Tryz.ntmps48
        go_wp2_with fail
        exact bodyPost_ret (results_ct_rowF rfl _ _ (w.heap.size + 1) 71 _ (0, 0) _ rfl (three_mid _ _ _ _) Tryz.underlying71 rfl info_nodeM) rfl ⟨by rw [HVV.out]; rfl, below_three _ _ _ _⟩
    · have bs : (((E.outer : Int) / 268435456) != 0) = true := bne_iff_ne.2 hs
      have HU : Hid (unxB E = true) := by show _ = _; unfold unxB; rw [decide_eq_true hu, beq_eq_false_iff_ne.2 hs]; rfl
      have HKE : Hid (barK E d = kinI ((E.outer : Int) / 268435456)) := by show _ = _; unfold barK; rw [HU.out]; rfl
      have HME : Hid (barM E d = bits .and .u32 ((E.outer : Int) / 65536) 4095) := by show _ = _; unfold barM; rw [HU.out]; rfl
      obtain ⟨K, hK⟩ : ∃ K, K = kinI ((E.outer : Int) / 268435456) := ⟨_, rfl⟩
      have HK2 := Lib.hid (fun w1 => by have h := HKI.out ((E.outer : Int) / 268435456) w1; rw [← hK] at h; exact h)
      have HVB : Hid (barV E d = if (!(K == 0) && (d == (K == 1))) = true then .tuple #[.agg #[.int .i64 K, .int .u32 (bits .and .u32 ((E.outer : Int) / 65536) 4095), .int .u32 0, .int .u32 0, .int .i64 0, .int .i64 0, .string ⟨#[]⟩], .int .i64 0] else .tuple #[.agg #[.int .i64 0, .int .u32 0, .int .u32 0, .int .u32 0, .int .i64 0, .int .i64 0, .string ⟨#[]⟩], .int .i64 42]) := by
        show _ = _
        unfold barV barB
        rw [HKE.out, HME.out, ← hK]
      clear hK hs HU HKE HME HKI
      by_cases k0 : K = 0
      · subst k0
        have HVV : Hid (barV E d = .tuple #[.agg #[.int .i64 0, .int .u32 0, .int .u32 0, .int .u32 0, .int .i64 0, .int .i64 0, .string ⟨#[]⟩], .int .i64 42]) := by show _ = _; rw [HVB.out]; rfl
        clear HVB
        cases d with
        | true =>
          go_enter Tryz.func48, Tryz.ntmps48
          go_upto_region 6 with fail
          go_region_with (go_at_call 72; refine (HK2.out _).mono ?_; rintro e wy ⟨rfl, rfl⟩)
          all_goals go_wp2_with fail
          all_goals exact bodyPost_ret (results_ct_rowF rfl _ _ (w.heap.size + 1) 71 _ (0, 0) _ rfl (three_mid _ _ _ _) Tryz.underlying71 rfl info_nodeM) rfl ⟨by rw [HVV.out]; rfl, by first | exact below_three _ _ _ _ | exact (below_three _ _ _ _).drew | exact below_drewN (below_three _ _ _ _) _⟩
        | false =>
          go_enter Tryz.func48, Tryz.ntmps48
          go_upto_region 6 with fail
          go_region_with (go_at_call 72; refine (HK2.out _).mono ?_; rintro e wy ⟨rfl, rfl⟩)
          all_goals go_wp2_with fail
          all_goals exact bodyPost_ret (results_ct_rowF rfl _ _ (w.heap.size + 1) 71 _ (0, 0) _ rfl (three_mid _ _ _ _) Tryz.underlying71 rfl info_nodeM) rfl ⟨by rw [HVV.out]; rfl, by first | exact below_three _ _ _ _ | exact (below_three _ _ _ _).drew | exact below_drewN (below_three _ _ _ _) _⟩
      by_cases k1 : K = 1
      · subst k1
        cases d with
        | true =>
          have HVV : Hid (barV E true = .tuple #[.agg #[.int .i64 1, .int .u32 (bits .and .u32 ((E.outer : Int) / 65536) 4095), .int .u32 0, .int .u32 0, .int .i64 0, .int .i64 0, .string ⟨#[]⟩], .int .i64 0]) := by show _ = _; rw [HVB.out]; rfl
          clear HVB
          go_enter Tryz.func48, Tryz.ntmps48
          go_upto_region 6 with fail
          go_region_with (go_at_call 72; refine (HK2.out _).mono ?_; rintro e wy ⟨rfl, rfl⟩)
          all_goals go_wp2_with fail
          all_goals exact bodyPost_ret (results_ct_rowF rfl _ _ (w.heap.size + 1) 71 _ (0, 0) _ rfl (three_mid _ _ _ _) Tryz.underlying71 rfl info_nodeM) rfl ⟨by rw [HVV.out]; rfl, by first | exact below_three _ _ _ _ | exact (below_three _ _ _ _).drew | exact below_drewN (below_three _ _ _ _) _⟩
        | false =>
          have HVV : Hid (barV E false = .tuple #[.agg #[.int .i64 0, .int .u32 0, .int .u32 0, .int .u32 0, .int .i64 0, .int .i64 0, .string ⟨#[]⟩], .int .i64 42]) := by show _ = _; rw [HVB.out]; rfl
          clear HVB
          go_enter Tryz.func48, Tryz.ntmps48
          go_upto_region 6 with fail
          go_region_with (go_at_call 72; refine (HK2.out _).mono ?_; rintro e wy ⟨rfl, rfl⟩)
          all_goals go_wp2_with fail
          all_goals exact bodyPost_ret (results_ct_rowF rfl _ _ (w.heap.size + 1) 71 _ (0, 0) _ rfl (three_mid _ _ _ _) Tryz.underlying71 rfl info_nodeM) rfl ⟨by rw [HVV.out]; rfl, by first | exact below_three _ _ _ _ | exact (below_three _ _ _ _).drew | exact below_drewN (below_three _ _ _ _) _⟩
      have b0 : (K == 0) = false := beq_eq_false_iff_ne.2 k0
      have b1 : (K == 1) = false := beq_eq_false_iff_ne.2 k1
      cases d with
      | true =>
        have HVV : Hid (barV E true = .tuple #[.agg #[.int .i64 0, .int .u32 0, .int .u32 0, .int .u32 0, .int .i64 0, .int .i64 0, .string ⟨#[]⟩], .int .i64 42]) := by show _ = _; rw [HVB.out, b0, b1]; rfl
        clear HVB
        go_enter Tryz.func48, Tryz.ntmps48
        go_upto_region 6 with fail
        go_region_with (go_at_call 72; refine (HK2.out _).mono ?_; rintro e wy ⟨rfl, rfl⟩)
        all_goals go_wp2_with fail
        all_goals exact bodyPost_ret (results_ct_rowF rfl _ _ (w.heap.size + 1) 71 _ (0, 0) _ rfl (three_mid _ _ _ _) Tryz.underlying71 rfl info_nodeM) rfl ⟨by rw [HVV.out]; rfl, by first | exact below_three _ _ _ _ | exact (below_three _ _ _ _).drew | exact below_drewN (below_three _ _ _ _) _⟩
      | false =>
        have HVV : Hid (barV E false = .tuple #[.agg #[.int .i64 K, .int .u32 (bits .and .u32 ((E.outer : Int) / 65536) 4095), .int .u32 0, .int .u32 0, .int .i64 0, .int .i64 0, .string ⟨#[]⟩], .int .i64 0]) := by show _ = _; rw [HVB.out, b0, b1]; rfl
        clear HVB
        go_enter Tryz.func48, Tryz.ntmps48
        go_upto_region 6 with fail
        go_region_with (go_at_call 72; refine (HK2.out _).mono ?_; rintro e wy ⟨rfl, rfl⟩)
        all_goals go_wp2_with fail
        all_goals exact bodyPost_ret (results_ct_rowF rfl _ _ (w.heap.size + 1) 71 _ (0, 0) _ rfl (three_mid _ _ _ _) Tryz.underlying71 rfl info_nodeM) rfl ⟨by rw [HVV.out]; rfl, by first | exact below_three _ _ _ _ | exact (below_three _ _ _ _).drew | exact below_drewN (below_three _ _ _ _) _⟩
  · have bu : (((E.made : Int) / 256) == 3) = false := beq_eq_false_iff_ne.2 hu
    have HU : Hid (unxB E = false) := by show _ = _; unfold unxB; rw [decide_eq_false hu]; rfl
    have HVV : Hid (barV E d = .tuple #[.agg #[.int .i64 (if d = true then 1 else 2), .int .u32 (if d = true then 493 else 420), .int .u32 0, .int .u32 0, .int .i64 0, .int .i64 0, .string ⟨#[]⟩], .int .i64 0]) := by
      show _ = _
      unfold barV barB barK barM
      rw [HU.out]
      cases d <;> rfl
    cases d with
    | true =>
      go_enter Tryz.func48, Tryz.ntmps48
      go_wp2_with fail
      exact bodyPost_ret (results_ct_rowF rfl _ _ (w.heap.size + 1) 71 _ (0, 0) _ rfl (three_mid _ _ _ _) Tryz.underlying71 rfl info_nodeM) rfl ⟨by rw [HVV.out]; rfl, below_three _ _ _ _⟩
    | false =>
      go_enter Tryz.func48, Tryz.ntmps48
      go_wp2_with fail
      exact bodyPost_ret (results_ct_rowF rfl _ _ (w.heap.size + 1) 71 _ (0, 0) _ rfl (three_mid _ _ _ _) Tryz.underlying71 rfl info_nodeM) rfl ⟨by rw [HVV.out]; rfl, below_three _ _ _ _⟩
end Go.Proofs.YtjnoapbddifcpaaGreatDoor
