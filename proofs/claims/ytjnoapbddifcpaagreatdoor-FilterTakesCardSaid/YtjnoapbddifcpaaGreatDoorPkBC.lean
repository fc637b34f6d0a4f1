/-
  Texts as numbers; what a cursor takes where there is enough.
  Fields: their cells; the fields that bytes are; the bytes of fields.
  Contracts of package field: through, owners.
  Contract: Parse.
  Contract: Parse.
-/
import Derived.Test.YtjnoapbddifcpaaGreatDoorPkBB
import Derived.Deep.DeepMust
import Derived.Maps.AppendAt
import Derived.Deep.LoopGhost

namespace Go.Proofs.YtjnoapbddifcpaaGreatDoor
set_option maxRecDepth 100000
open Go.RowKit Go.Joins

theorem map_inj : ∀ (l m : List UInt8), l.map UInt8.toNat = m.map UInt8.toNat → l = m
  | [], [], _ => rfl
  | [], _ :: _, h => by simp at h
  | _ :: _, [], h => by simp at h
  | x :: l, y :: m, h => by
    simp only [List.map_cons, List.cons.injEq] at h
    rw [UInt8.toNat_inj.1 h.1, map_inj l m h.2]
theorem nums_inj (a b : ByteArray) (h : nums a = nums b) : a = b := by
  have h2 : a.data.toList = b.data.toList := map_inj _ _ h
  cases a with
  | mk x => cases b with
    | mk y => exact congrArg ByteArray.mk (Array.toList_inj.1 h2)
theorem mayB_yes (s : ByteArray) (a k : Nat) (h : a + k ≤ s.size) : mayB s a 0 (k : Nat) = true := by
  unfold mayB
  exact decide_eq_true ⟨rfl, by omega, by omega⟩
theorem atB_yes (s : ByteArray) (a k : Nat) (h : a + k ≤ s.size) : atB s a 0 (k : Nat) = a + k := if_pos (mayB_yes s a k h)
theorem errB_yes (s : ByteArray) (a k : Nat) (h : a + k ≤ s.size) : errB s a 0 (k : Nat) = 0 := if_pos (mayB_yes s a k h)
theorem nums_piece (s : ByteArray) (a k : Nat) (h : a + k ≤ s.size) : nums (piece s a 0 (k : Nat)) = ((nums s).drop a).take k := by
  unfold piece
  rw [if_pos (mayB_yes s a k h), Int.toNat_natCast]
  unfold nums
  rw [ByteArray.data_extract]
  simp
end Go.Proofs.YtjnoapbddifcpaaGreatDoor

namespace Go.Proofs.YtjnoapbddifcpaaGreatDoor
set_option maxRecDepth 100000
open Go.RowKit Go.Joins Go.Deep

/-- A field. -/
structure Fd where
  id : Nat
  d : ByteArray
instance : Inhabited Fd := ⟨⟨0, ⟨#[]⟩⟩⟩
def cellF (f : Fd) : List Value := [.int .u16 (f.id : Nat), .string f.d]
def valF (f : Fd) : Value := .agg #[.int .u16 (f.id : Nat), .string f.d]
def FdOk (f : Fd) : Prop := f.id < 65536 ∧ f.d.size ≤ maxLen
/-- The cells of a row of fields. -/
def cellsF : List Fd → List Value
  | [] => []
  | f :: l => .int .u16 (f.id : Nat) :: .string f.d :: cellsF l
theorem cellsF_app (l m : List Fd) : cellsF (l ++ m) = cellsF l ++ cellsF m := by
  induction l with
  | nil => rfl
  | cons x l ih => simp only [List.cons_append, cellsF, ih]
theorem cellsF_len (l : List Fd) : (cellsF l).length = l.length * 2 := by
  induction l with
  | nil => rfl
  | cons x l ih => simp only [cellsF, List.length_cons, ih]; omega
theorem cellsF_get : ∀ (l : List Fd) (i : Nat) (h : i < l.length), (cellsF l)[i * 2]? = some (.int .u16 (l[i].id : Nat)) ∧ (cellsF l)[i * 2 + 1]? = some (.string l[i].d)
  | x :: l, 0, _ => ⟨rfl, rfl⟩
  | x :: l, i + 1, h => by
    have := cellsF_get l i (by simpa using h)
    rw [show (i + 1) * 2 = i * 2 + 2 by omega, show i * 2 + 2 + 1 = i * 2 + 1 + 2 by omega]
    simpa [cellsF] using this
/-- A slice of fields. -/
def Fds (w : World) (A : Option Addr) (l : List Fd) : Prop := 0 < l.length → ∃ b off, A = some ⟨b, off, none⟩ ∧ b < w.heap.size ∧ ∀ i (h : i < l.length), w.cell? ⟨b, off + i * 2, none⟩ = some (.int .u16 (l[i].id : Nat)) ∧ w.cell? ⟨b, off + i * 2 + 1, none⟩ = some (.string l[i].d)
theorem Fds.below {w w' : World} {B : Nat} {A : Option Addr} {l : List Fd} (h : Fds w A l) (hB : w.heap.size ≤ B) (hb : Below B w w') : Fds w' A l := fun hn => by
  obtain ⟨b, off, e, hlt, hc⟩ := h hn
  have hl := Nat.lt_of_lt_of_le hlt hB
  exact ⟨b, off, e, Nat.lt_of_lt_of_le hlt hb.size, fun i hi => ⟨(hb.cell (p := ⟨b, off + i * 2, none⟩) hl).trans (hc i hi).1, (hb.cell (p := ⟨b, off + i * 2 + 1, none⟩) hl).trans (hc i hi).2⟩⟩
theorem Fds.nil (w : World) (A : Option Addr) : Fds w A [] := fun h => absurd h (by decide)
theorem fds_of_own {w : World} {B : Nat} {A : Option Addr} {cap : Nat} {T : TypeId} {l : List Fd} (h : w.ownsRow B T 2 (.slice A l.length cap) l.length (cellsF l)) : Fds w A l := by
  intro hn
  rcases ownsRow_forms h with ⟨he, h0⟩ | ⟨g2, cap2, he⟩
  · omega
  · injection he with he _ _
    subst he
    have hlt := (h.lt g2 rfl).2
    refine ⟨g2, 0, rfl, hlt, fun i hi => ?_⟩
    have hg := cellsF_get l i hi
    have c0 := h.cellAt (i * 2) (by omega)
    have c1 := h.cellAt (i * 2 + 1) (by omega)
    rw [hg.1] at c0
    rw [hg.2] at c1
    rw [Nat.zero_add]
    exact ⟨c0, c1⟩
theorem slice_of_own {w : World} {B : Nat} {T : TypeId} {v : Value} {l : List Fd} (h : w.ownsRow B T 2 v l.length (cellsF l)) : ∃ A cap, v = .slice A l.length cap := by
  rcases ownsRow_forms h with ⟨he, h0⟩ | ⟨g2, cap2, he⟩
  · exact ⟨none, 0, by rw [he, h0]⟩
  · exact ⟨some ⟨g2, 0, none⟩, cap2, he⟩
theorem Fds.drop {w : World} {b off : Nat} {l : List Fd} (h : Fds w (some ⟨b, off, none⟩) l) (k : Nat) : Fds w (some ⟨b, off + k * 2, none⟩) (l.drop k) := fun hn => by
  rw [List.length_drop] at hn
  obtain ⟨b', off', e, hlt, hc⟩ := h (by omega)
  injection e with e
  injection e with e1 e2 _
  subst e1 e2
  refine ⟨b, off + k * 2, rfl, hlt, fun i hi => ?_⟩
  rw [List.length_drop] at hi
  have := hc (k + i) (by omega)
  rw [List.getElem_drop]
  rw [show off + k * 2 + i * 2 = off + (k + i) * 2 by omega]
  exact this
theorem Fds.take {w : World} {A : Option Addr} {l : List Fd} (h : Fds w A l) (k : Nat) : Fds w A (l.take k) := fun hn => by
  rw [List.length_take] at hn
  obtain ⟨b, off, e, hlt, hc⟩ := h (by omega)
  refine ⟨b, off, e, hlt, fun i hi => ?_⟩
  rw [List.length_take] at hi
  rw [List.getElem_take]
  exact hc i (by omega)

/-! ### What bytes are -/
theorem numL_take2 (l : List Nat) (hl : ∀ x ∈ l, x < 256) : numL (l.take 2) < 65536 := by
  have h := numL_lt (l.take 2) fun x hx => hl x (List.mem_of_mem_take hx)
  rw [List.length_take] at h
  exact Nat.lt_of_lt_of_le h (Nat.pow_le_pow_right (n := 256) (by omega) (show min 2 l.length ≤ 2 by omega))
def idA (s : ByteArray) (a : Nat) : Nat := numL (((nums s).drop a).take 2)
theorem idA_lt (s : ByteArray) (a : Nat) : idA s a < 65536 := numL_take2 _ fun x hx => nums_lt s x (List.mem_of_mem_drop hx)
def fdA (s : ByteArray) (a : Nat) : Fd := ⟨idA s a, s.extract (a + 4) (a + 4 + idA s (a + 2))⟩
/-- The fields that bytes are, from a place on. -/
def prs (s : ByteArray) (a : Nat) (acc : List Fd) : Option (List Fd) :=
  if s.size ≤ a then some acc else if a + 4 + idA s (a + 2) ≤ s.size then prs s (a + 4 + idA s (a + 2)) (acc ++ [fdA s a]) else none
termination_by s.size - a
theorem prs_end {s : ByteArray} {a : Nat} {acc : List Fd} (h : s.size ≤ a) : prs s a acc = some acc := by rw [prs, if_pos h]
theorem prs_step {s : ByteArray} {a : Nat} {acc : List Fd} (h : a + 4 + idA s (a + 2) ≤ s.size) : prs s a acc = prs s (a + 4 + idA s (a + 2)) (acc ++ [fdA s a]) := by
  rw [prs, if_neg (by omega), if_pos h]
theorem prs_no {s : ByteArray} {a : Nat} {acc : List Fd} (h0 : a < s.size) (h : ¬ a + 4 + idA s (a + 2) ≤ s.size) : prs s a acc = none := by
  rw [prs, if_neg (by omega), if_neg h]
def parL (s : ByteArray) : List Fd := if 65535 < s.size then [] else (prs s 0 []).getD []
def parE (s : ByteArray) : Nat := if 65535 < s.size then 5 else if (prs s 0 []).isSome then 0 else 24

/-! ### The bytes of fields -/
def bytesF (f : Fd) : List Nat := le f.id 2 ++ le f.d.size 2 ++ nums f.d
/-- The bytes of fields behind others; none where they are too many. -/
def prt : List Fd → List Nat → Option (List Nat)
  | [], acc => some acc
  | f :: l, acc => if acc.length + 4 + f.d.size ≤ 65535 then prt l (acc ++ bytesF f) else none
def prtT (l : List Fd) : List Nat := (prt l []).getD []
def prtE (l : List Fd) : Nat := if (prt l []).isSome then 0 else 5
end Go.Proofs.YtjnoapbddifcpaaGreatDoor

namespace Go.Proofs.YtjnoapbddifcpaaGreatDoor
set_option maxRecDepth 100000
open Go.RowKit Go.Joins

def nvB (p : ByteArray) : Nat := if p.size ≤ 8 then numL (nums p) else 0
def neB (p : ByteArray) : Nat := if p.size ≤ 8 then 0 else 5
theorem numL_64 (p : ByteArray) (h : p.size ≤ 8) : numL (nums p) < 18446744073709551616 := by
  have h1 := numL_lt _ (nums_lt p)
  rw [nums_len] at h1
  exact Nat.lt_of_lt_of_le h1 (Nat.pow_le_pow_right (n := 256) (by omega) (show p.size ≤ 8 by omega))
theorem nvB_lt (p : ByteArray) : nvB p < 18446744073709551616 := by
  unfold nvB
  split
  · rename_i h; exact numL_64 p h
  · omega
theorem number_gen (p : ByteArray) (hs : p.size ≤ maxLen) (w : World) :
    Calls Tryz.prog 115 #[.string p] w fun e w' => e = .returned (.tuple #[.int .u64 (nvB p : Nat), .int .i64 (neB p : Nat)]) ∧ w = w' := by
  by_cases h : p.size ≤ 8
  · rw [show nvB p = numL (nums p) from if_pos h, show neB p = 0 from if_pos h]
    exact number_any p h w
  · rw [show nvB p = 0 from if_neg h, show neB p = 5 from if_neg h]
    exact number_long p hs (by omega) w

def thrB (s : ByteArray) (a e : Nat) : Bool := decide (e = 0 ∧ a = s.size)
theorem through_any (g : Nat) (s : ByteArray) (a e : Nat) (hs : s.size ≤ maxLen) (ha : a ≤ s.size) (w : World) (hc : Cur w g s a e) :
    Calls Tryz.prog 117 #[.pointer (some ⟨g, 0, none⟩)] w fun r w' => r = .returned (.bool (thrB s a e)) ∧ ∃ d, w' = w.drewN d := by
  have HE := Lib.hid (err_any g s a e w hc)
  have HL := Lib.hid (left_any g s a e hs ha w hc)
  clear hc
  by_cases he : e = 0
  · have he' : ((e : Int) == 0) = true := by subst he; rfl
    have HT : Hid (thrB s a e = ((s.size : Int) - a == 0)) := by
      show _ = _
      unfold thrB
      rw [Bool.eq_iff_iff, decide_eq_true_iff, beq_iff_eq]
      omega
    clear he
    go_enter Tryz.func117, Tryz.ntmps117
    go_wp2_with fail
    refine (HE.out).mono ?_; rintro r w1 ⟨rfl, rfl⟩
    go_wp2_with fail
    refine (HL.out).mono ?_; rintro r w1 ⟨rfl, d, rfl⟩
    go_wp2_with fail
    go_ret
    exact ⟨by rw [HT.out]; rfl, d, rfl⟩
  · have he' : ((e : Int) == 0) = false := by rw [beq_eq_false_iff_ne]; omega
    have HT : Hid (thrB s a e = false) := decide_eq_false fun h => he h.1
    clear he
    go_enter Tryz.func117, Tryz.ntmps117
    go_wp2_with fail
    refine (HE.out).mono ?_; rintro r w1 ⟨rfl, rfl⟩
    go_wp2_with fail
    go_ret
    exact ⟨by rw [HT.out]; rfl, 0, rfl⟩

/-- A cursor that the call itself has made: its place, its error; what was there stays. -/
structure CI (w0 : World) (s : ByteArray) (a e : Nat) (w : World) : Prop where
  cur : Cur w w0.heap.size s a e
  bel : Below w0.heap.size w0 w
theorem CI.lt {w0 w : World} {s : ByteArray} {a e : Nat} (h : CI w0 s a e w) : w0.heap.size < w.heap.size := h.cur.lt
theorem CI.drewN {w0 w : World} {s : ByteArray} {a e : Nat} (h : CI w0 s a e w) (n : Nat) : CI w0 s a e (w.drewN n) := ⟨h.cur.drewN n, below_drewN h.bel n⟩
theorem CI.below {w0 w w' : World} {s : ByteArray} {a e : Nat} (h : CI w0 s a e w) (hb : Below w.heap.size w w') : CI w0 s a e w' := ⟨h.cur.below hb h.lt, below_then h.bel hb⟩
theorem CI.grown {w0 w w' : World} {s : ByteArray} {a e a' e' : Nat} (h : CI w0 s a e w) (hc : Cur w' w0.heap.size s a' e') (hg : w.grownBy w' (some w0.heap.size)) : CI w0 s a' e' w' :=
  ⟨hc, h.bel.grown hg h.bel.size (fun k hk => by injection hk with hk; subst hk; exact Nat.le_refl _)⟩
theorem over_ci (s : ByteArray) (w : World) :
    Calls Tryz.prog 101 #[.string s] w fun e w' => e = .returned (.pointer (some ⟨w.heap.size, 0, none⟩)) ∧ CI w s 0 0 w' :=
  (over_any s w).mono fun _ _ ⟨he, hw⟩ => ⟨he, by subst hw; exact ⟨heap_alloc_new _ _, (Below.refl _ _).alloc (Nat.le_refl _) _⟩⟩
theorem take_ci {w0 w : World} {s : ByteArray} {a e : Nat} (n : Int) (hs : s.size ≤ maxLen) (ha : a ≤ s.size) (hn : (Lit.int .i64 n).wf = true) (h : CI w0 s a e w) :
    Calls Tryz.prog 104 #[.pointer (some ⟨w0.heap.size, 0, none⟩), .int .i64 n] w fun r w' => r = .returned (.string (piece s a e n)) ∧ CI w0 s (atB s a e n) (errB s a e n) w' :=
  (take_any _ s a e n hs ha hn w h.cur).mono fun _ _ ⟨he, hc, hg⟩ => ⟨he, h.grown hc hg⟩
theorem one_ci {w0 w : World} {s : ByteArray} {a e : Nat} (hs : s.size ≤ maxLen) (ha : a ≤ s.size) (h : CI w0 s a e w) :
    Calls Tryz.prog 116 #[.pointer (some ⟨w0.heap.size, 0, none⟩)] w fun r w' => r = .returned (.int .u8 (numB s a e 1 : Nat)) ∧ CI w0 s (atB s a e (1 : Nat)) (errB s a e (1 : Nat)) w' :=
  (one_any _ s a e hs ha w h.cur).mono fun _ _ ⟨he, hc, hg⟩ => ⟨he, h.grown hc hg⟩
theorem two_ci {w0 w : World} {s : ByteArray} {a e : Nat} (hs : s.size ≤ maxLen) (ha : a ≤ s.size) (h : CI w0 s a e w) :
    Calls Tryz.prog 103 #[.pointer (some ⟨w0.heap.size, 0, none⟩)] w fun r w' => r = .returned (.int .u16 (numB s a e 2 : Nat)) ∧ CI w0 s (atB s a e (2 : Nat)) (errB s a e (2 : Nat)) w' :=
  (two_of _ s a e hs ha w h.cur).mono fun _ _ ⟨he, hc, hg⟩ => ⟨he, h.grown hc hg⟩
theorem four_ci {w0 w : World} {s : ByteArray} {a e : Nat} (hs : s.size ≤ maxLen) (ha : a ≤ s.size) (h : CI w0 s a e w) :
    Calls Tryz.prog 146 #[.pointer (some ⟨w0.heap.size, 0, none⟩)] w fun r w' => r = .returned (.int .u32 (numB s a e 4 : Nat)) ∧ CI w0 s (atB s a e (4 : Nat)) (errB s a e (4 : Nat)) w' :=
  (four_of _ s a e hs ha w h.cur).mono fun _ _ ⟨he, hc, hg⟩ => ⟨he, h.grown hc hg⟩
theorem err_ci {w0 w : World} {s : ByteArray} {a e : Nat} (h : CI w0 s a e w) :
    Calls Tryz.prog 105 #[.pointer (some ⟨w0.heap.size, 0, none⟩)] w fun r w' => r = .returned (.int .i64 (e : Nat)) ∧ w = w' := err_any _ s a e w h.cur
theorem left_ci {w0 w : World} {s : ByteArray} {a e : Nat} (hs : s.size ≤ maxLen) (ha : a ≤ s.size) (h : CI w0 s a e w) :
    Calls Tryz.prog 102 #[.pointer (some ⟨w0.heap.size, 0, none⟩)] w fun r w' => r = .returned (.int .i64 ((s.size : Int) - a)) ∧ ∃ d, w' = w.drewN d := left_any _ s a e hs ha w h.cur
theorem through_ci {w0 w : World} {s : ByteArray} {a e : Nat} (hs : s.size ≤ maxLen) (ha : a ≤ s.size) (h : CI w0 s a e w) :
    Calls Tryz.prog 117 #[.pointer (some ⟨w0.heap.size, 0, none⟩)] w fun r w' => r = .returned (.bool (thrB s a e)) ∧ ∃ d, w' = w.drewN d := through_any _ s a e hs ha w h.cur

theorem errB_zero {s : ByteArray} {a e : Nat} {n : Int} (h : errB s a e n = 0) : e = 0 ∧ 0 ≤ n ∧ a + n.toNat ≤ s.size ∧ atB s a e n = a + n.toNat := by
  unfold errB at h
  split at h
  · rename_i hm
    have hm' := hm
    unfold mayB at hm
    have := of_decide_eq_true hm
    refine ⟨this.1, by omega, by omega, ?_⟩
    unfold atB
    rw [if_pos hm']
  · cases h
theorem numB_one (s : ByteArray) (a : Nat) (h : a + 1 ≤ s.size) : numB s a 0 1 = (nums s).getD a 0 := by
  unfold numB
  rw [nums_piece s a 1 h]
  have hl : a < (nums s).length := by rw [nums_len]; omega
  rw [List.drop_eq_getElem_cons hl]
  simp only [List.take_succ_cons, List.take_zero, numL, List.getD_eq_getElem?_getD, List.getElem?_eq_getElem hl, Option.getD_some]
  omega

/-! ### PrintOwner -/
def ownT (u g : Nat) : ByteArray := (⟨#[1, 4]⟩ : ByteArray) ++ text (le u 4) ++ ⟨#[4]⟩ ++ text (le g 4)
end Go.Proofs.YtjnoapbddifcpaaGreatDoor

namespace Go.Proofs.YtjnoapbddifcpaaGreatDoor
set_option maxRecDepth 100000
open Go.RowKit Go.Joins Go.Deep

theorem numB_two (s : ByteArray) (a : Nat) (h : a + 2 ≤ s.size) : numB s a 0 2 = idA s a := by
  unfold numB idA
  rw [nums_piece s a 2 h]
/-- What a field's head and bytes are, as the cursor takes them. -/
theorem fit_case (s : ByteArray) (a : Nat) (ha : a < s.size) {a1 e1 a2 e2 n a3 e3 v : Nat} {p : ByteArray}
    (hv : numB s a 0 2 = v) (ha1 : atB s a 0 (2 : Nat) = a1) (he1 : errB s a 0 (2 : Nat) = e1) (hn : numB s a1 e1 2 = n) (ha2 : atB s a1 e1 (2 : Nat) = a2) (he2 : errB s a1 e1 (2 : Nat) = e2) (hp : piece s a2 e2 (n : Nat) = p) (ha3 : atB s a2 e2 (n : Nat) = a3) (he3 : errB s a2 e2 (n : Nat) = e3) :
    (e3 = 0 ∧ a + 4 + idA s (a + 2) ≤ s.size ∧ a3 = a + 4 + idA s (a + 2) ∧ (⟨v, p⟩ : Fd) = fdA s a) ∨ (e3 ≠ 0 ∧ ¬ a + 4 + idA s (a + 2) ≤ s.size) := by
  by_cases he : e3 = 0
  · left
    obtain ⟨z2, _, z2s, z2a⟩ := errB_zero (he3.trans he)
    rw [Int.toNat_natCast] at z2s z2a
    subst z2
    obtain ⟨z1, _, z1s, z1a⟩ := errB_zero he2
    rw [Int.toNat_natCast] at z1s z1a
    subst z1
    obtain ⟨_, _, z0s, z0a⟩ := errB_zero he1
    rw [Int.toNat_natCast] at z0s z0a
    rw [z0a] at ha1
    subst ha1
    rw [z1a] at ha2
    subst ha2
    have h2 := numB_two s (a + 2) z1s
    rw [hn] at h2
    subst h2
    refine ⟨he, by omega, by rw [← ha3, z2a], ?_⟩
    unfold fdA
    rw [← numB_two s a z0s, hv, ← hp]
    unfold piece
    rw [if_pos (mayB_yes s (a + 2 + 2) (idA s (a + 2)) z2s), Int.toNat_natCast]
  · right
    refine ⟨he, fun hfit => he ?_⟩
    have h1 := atB_yes s a 2 (by omega)
    have h2 := errB_yes s a 2 (by omega)
    rw [h1] at ha1
    rw [h2] at he1
    subst ha1 he1
    have h3 := atB_yes s (a + 2) 2 (by omega)
    have h4 := errB_yes s (a + 2) 2 (by omega)
    rw [h3] at ha2
    rw [h4] at he2
    subst ha2 he2
    rw [numB_two s (a + 2) (by omega)] at hn
    subst hn
    rw [← he3]
    exact errB_yes s (a + 4) (idA s (a + 2)) hfit
theorem parts_fd : (Tryz.prog.info? 172).map (fun i => (i.zero, i.size, i.bytes)) = some (some (.agg #[.int .u16 0, .string ⟨#[]⟩]), 2, 24) := by kernel_rfl
theorem cells2 {w : World} {g : Nat} {x y : Value} {T : TypeId} (h : w.heap[g]? = some (.cells #[x, y] T (0, 0))) : ∀ j u, [x, y][j]? = some u → w.cell? ((⟨g, 0, none⟩ : Addr).add j) = some u := by
  intro j u hj
  rw [Addr.add_lit, Nat.zero_add, cell_of_row w g j _ _ _ h]
  simpa using hj
theorem cellF_one (f : Fd) : ∀ u ∈ cellsF [f], u.oneCell' = true := by
  intro u hu
  simp [cellsF] at hu
  rcases hu with rfl | rfl <;> rfl
end Go.Proofs.YtjnoapbddifcpaaGreatDoor

namespace Go.Proofs.YtjnoapbddifcpaaGreatDoor
set_option maxRecDepth 100000
open Go.RowKit Go.Joins Go.Deep

/-- A cursor of the call's own, and a row of fields above it. -/
structure PX (w0 w : World) (s : ByteArray) (a e : Nat) (v : Value) (l : List Fd) : Prop where
  ci : CI w0 s a e w
  le : a ≤ s.size
  row : w.ownsRow (w0.heap.size + 1) 172 2 v l.length (cellsF l)
theorem PX.ne {w0 w : World} {s : ByteArray} {a e : Nat} {v : Value} {l : List Fd} (h : PX w0 w s a e v l) : v.ownBlock ≠ some w0.heap.size := fun k => by
  have := (h.row.lt _ k).1
  omega
theorem PX.grown {w0 w w' : World} {s : ByteArray} {a e a' e' : Nat} {v : Value} {l : List Fd} (h : PX w0 w s a e v l) (hc : Cur w' w0.heap.size s a' e') (hl : a' ≤ s.size) (hg : w.grownBy w' (some w0.heap.size)) : PX w0 w' s a' e' v l :=
  ⟨h.ci.grown hc hg, hl, h.row.kept hg (.inr h.ne)⟩
theorem PX.drewN {w0 w : World} {s : ByteArray} {a e : Nat} {v : Value} {l : List Fd} (h : PX w0 w s a e v l) (n : Nat) : PX w0 (w.drewN n) s a e v l := ⟨h.ci.drewN n, h.le, h.row⟩
theorem two_px {w0 w : World} {s : ByteArray} {a e : Nat} {v : Value} {l : List Fd} (hs : s.size ≤ maxLen) (h : PX w0 w s a e v l) :
    Calls Tryz.prog 103 #[.pointer (some ⟨w0.heap.size, 0, none⟩)] w fun r w' => r = .returned (.int .u16 (numB s a e 2 : Nat)) ∧ PX w0 w' s (atB s a e (2 : Nat)) (errB s a e (2 : Nat)) v l :=
  (two_of _ s a e hs h.le w h.ci.cur).mono fun _ _ ⟨he, hc, hg⟩ => ⟨he, h.grown hc (atB_le _ _ _ _ h.le) hg⟩
theorem take_px {w0 w : World} {s : ByteArray} {a e : Nat} {v : Value} {l : List Fd} (n : Nat) (hs : s.size ≤ maxLen) (hn : n < 65536) (h : PX w0 w s a e v l) :
    Calls Tryz.prog 104 #[.pointer (some ⟨w0.heap.size, 0, none⟩), .int .i64 (n : Nat)] w fun r w' => r = .returned (.string (piece s a e (n : Nat))) ∧ PX w0 w' s (atB s a e (n : Nat)) (errB s a e (n : Nat)) v l :=
  (take_any _ s a e n hs h.le (WalkArith.wf_i64 (by omega)) w h.ci.cur).mono fun _ _ ⟨he, hc, hg⟩ => ⟨he, h.grown hc (atB_le _ _ _ _ h.le) hg⟩

theorem parE_no {s : ByteArray} (h : s.size ≤ 65535) (k : prs s 0 [] = none) : parE s = 24 ∧ parL s = [] := by
  unfold parE parL
  have hn : ¬ 65535 < s.size := by omega
  rw [if_neg hn, if_neg hn, k]
  exact ⟨rfl, rfl⟩
theorem parE_yes {s : ByteArray} {l : List Fd} (h : s.size ≤ 65535) (k : prs s 0 [] = some l) : parE s = 0 ∧ parL s = l := by
  unfold parE parL
  have hn : ¬ 65535 < s.size := by omega
  rw [if_neg hn, if_neg hn, k]
  exact ⟨rfl, rfl⟩
end Go.Proofs.YtjnoapbddifcpaaGreatDoor
