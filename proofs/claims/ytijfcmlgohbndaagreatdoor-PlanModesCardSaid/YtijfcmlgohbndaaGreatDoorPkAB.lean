/-
  Contracts of package field: through, owners.
  Contract: Parse.
  Contract: Parse.
  Contract: the document's Parse.
-/
import Derived.Test.YtijfcmlgohbndaaGreatDoorPkAA
import Derived.Deep.LoopGhost

namespace Go.Proofs.YtijfcmlgohbndaaGreatDoor
set_option maxRecDepth 100000
open Go.RowKit Go.Joins

def nvB (p : ByteArray) : Nat := if p.size ≤ 8 then numL (nums p) else 0
def neB (p : ByteArray) : Nat := if p.size ≤ 8 then 0 else 5
theorem numL_64 (p : ByteArray) (h : p.size ≤ 8) : numL (nums p) < 18446744073709551616 := by
  have h1 := numL_lt _ (nums_lt p)
  rw [nums_len] at h1
  exact Nat.lt_of_lt_of_le h1 (Nat.pow_le_pow_right (n := 256) (by omega) (show p.size ≤ 8 by omega))
theorem nvB_lt (p : ByteArray) : nvB p < 18446744073709551616 := by
  unfold nvB
  split
  · rename_i h; exact numL_64 p h
  · omega
theorem number_gen (p : ByteArray) (hs : p.size ≤ maxLen) (w : World) :
    Calls Tryz.prog 68 #[.string p] w fun e w' => e = .returned (.tuple #[.int .u64 (nvB p : Nat), .int .i64 (neB p : Nat)]) ∧ w = w' := by
  by_cases h : p.size ≤ 8
  · rw [show nvB p = numL (nums p) from if_pos h, show neB p = 0 from if_pos h]
    exact number_any p h w
  · rw [show nvB p = 0 from if_neg h, show neB p = 5 from if_neg h]
    exact number_long p hs (by omega) w

def thrB (s : ByteArray) (a e : Nat) : Bool := decide (e = 0 ∧ a = s.size)
theorem through_any (g : Nat) (s : ByteArray) (a e : Nat) (hs : s.size ≤ maxLen) (ha : a ≤ s.size) (w : World) (hc : Cur w g s a e) :
    Calls Tryz.prog 70 #[.pointer (some ⟨g, 0, none⟩)] w fun r w' => r = .returned (.bool (thrB s a e)) ∧ ∃ d, w' = w.drewN d := by
  have HE := Lib.hid (err_any g s a e w hc)
  have HL := Lib.hid (left_any g s a e hs ha w hc)
  clear hc
  by_cases he : e = 0
  · have he' : ((e : Int) == 0) = true := by subst he; rfl
    have HT : Hid (thrB s a e = ((s.size : Int) - a == 0)) := by
      show _ = _
      unfold thrB
      rw [Bool.eq_iff_iff, decide_eq_true_iff, beq_iff_eq]
      omega
    clear he
    go_enter Tryz.func70, Tryz.ntmps70
    go_wp2_with fail
    refine (HE.out).mono ?_; rintro r w1 ⟨rfl, rfl⟩
    go_wp2_with fail
    refine (HL.out).mono ?_; rintro r w1 ⟨rfl, d, rfl⟩
    go_wp2_with fail
    go_ret
    exact ⟨by rw [HT.out]; rfl, d, rfl⟩
  · have he' : ((e : Int) == 0) = false := by rw [beq_eq_false_iff_ne]; omega
    have HT : Hid (thrB s a e = false) := decide_eq_false fun h => he h.1
    clear he
    go_enter Tryz.func70, Tryz.ntmps70
    go_wp2_with fail
    refine (HE.out).mono ?_; rintro r w1 ⟨rfl, rfl⟩
    go_wp2_with fail
    go_ret
    exact ⟨by rw [HT.out]; rfl, 0, rfl⟩

/-- A cursor that the call itself has made: its place, its error; what was there stays. -/
structure CI (w0 : World) (s : ByteArray) (a e : Nat) (w : World) : Prop where
  cur : Cur w w0.heap.size s a e
  bel : Below w0.heap.size w0 w
theorem CI.lt {w0 w : World} {s : ByteArray} {a e : Nat} (h : CI w0 s a e w) : w0.heap.size < w.heap.size := h.cur.lt
theorem CI.drewN {w0 w : World} {s : ByteArray} {a e : Nat} (h : CI w0 s a e w) (n : Nat) : CI w0 s a e (w.drewN n) := ⟨h.cur.drewN n, below_drewN h.bel n⟩
theorem CI.below {w0 w w' : World} {s : ByteArray} {a e : Nat} (h : CI w0 s a e w) (hb : Below w.heap.size w w') : CI w0 s a e w' := ⟨h.cur.below hb h.lt, below_then h.bel hb⟩
theorem CI.grown {w0 w w' : World} {s : ByteArray} {a e a' e' : Nat} (h : CI w0 s a e w) (hc : Cur w' w0.heap.size s a' e') (hg : w.grownBy w' (some w0.heap.size)) : CI w0 s a' e' w' :=
  ⟨hc, h.bel.grown hg h.bel.size (fun k hk => by injection hk with hk; subst hk; exact Nat.le_refl _)⟩
theorem over_ci (s : ByteArray) (w : World) :
    Calls Tryz.prog 54 #[.string s] w fun e w' => e = .returned (.pointer (some ⟨w.heap.size, 0, none⟩)) ∧ CI w s 0 0 w' :=
  (over_any s w).mono fun _ _ ⟨he, hw⟩ => ⟨he, by subst hw; exact ⟨heap_alloc_new _ _, (Below.refl _ _).alloc (Nat.le_refl _) _⟩⟩
theorem take_ci {w0 w : World} {s : ByteArray} {a e : Nat} (n : Int) (hs : s.size ≤ maxLen) (ha : a ≤ s.size) (hn : (Lit.int .i64 n).wf = true) (h : CI w0 s a e w) :
    Calls Tryz.prog 57 #[.pointer (some ⟨w0.heap.size, 0, none⟩), .int .i64 n] w fun r w' => r = .returned (.string (piece s a e n)) ∧ CI w0 s (atB s a e n) (errB s a e n) w' :=
  (take_any _ s a e n hs ha hn w h.cur).mono fun _ _ ⟨he, hc, hg⟩ => ⟨he, h.grown hc hg⟩
theorem one_ci {w0 w : World} {s : ByteArray} {a e : Nat} (hs : s.size ≤ maxLen) (ha : a ≤ s.size) (h : CI w0 s a e w) :
    Calls Tryz.prog 69 #[.pointer (some ⟨w0.heap.size, 0, none⟩)] w fun r w' => r = .returned (.int .u8 (numB s a e 1 : Nat)) ∧ CI w0 s (atB s a e (1 : Nat)) (errB s a e (1 : Nat)) w' :=
  (one_any _ s a e hs ha w h.cur).mono fun _ _ ⟨he, hc, hg⟩ => ⟨he, h.grown hc hg⟩
theorem two_ci {w0 w : World} {s : ByteArray} {a e : Nat} (hs : s.size ≤ maxLen) (ha : a ≤ s.size) (h : CI w0 s a e w) :
    Calls Tryz.prog 56 #[.pointer (some ⟨w0.heap.size, 0, none⟩)] w fun r w' => r = .returned (.int .u16 (numB s a e 2 : Nat)) ∧ CI w0 s (atB s a e (2 : Nat)) (errB s a e (2 : Nat)) w' :=
  (two_of _ s a e hs ha w h.cur).mono fun _ _ ⟨he, hc, hg⟩ => ⟨he, h.grown hc hg⟩
theorem four_ci {w0 w : World} {s : ByteArray} {a e : Nat} (hs : s.size ≤ maxLen) (ha : a ≤ s.size) (h : CI w0 s a e w) :
    Calls Tryz.prog 85 #[.pointer (some ⟨w0.heap.size, 0, none⟩)] w fun r w' => r = .returned (.int .u32 (numB s a e 4 : Nat)) ∧ CI w0 s (atB s a e (4 : Nat)) (errB s a e (4 : Nat)) w' :=
  (four_of _ s a e hs ha w h.cur).mono fun _ _ ⟨he, hc, hg⟩ => ⟨he, h.grown hc hg⟩
theorem err_ci {w0 w : World} {s : ByteArray} {a e : Nat} (h : CI w0 s a e w) :
    Calls Tryz.prog 58 #[.pointer (some ⟨w0.heap.size, 0, none⟩)] w fun r w' => r = .returned (.int .i64 (e : Nat)) ∧ w = w' := err_any _ s a e w h.cur
theorem left_ci {w0 w : World} {s : ByteArray} {a e : Nat} (hs : s.size ≤ maxLen) (ha : a ≤ s.size) (h : CI w0 s a e w) :
    Calls Tryz.prog 55 #[.pointer (some ⟨w0.heap.size, 0, none⟩)] w fun r w' => r = .returned (.int .i64 ((s.size : Int) - a)) ∧ ∃ d, w' = w.drewN d := left_any _ s a e hs ha w h.cur
theorem through_ci {w0 w : World} {s : ByteArray} {a e : Nat} (hs : s.size ≤ maxLen) (ha : a ≤ s.size) (h : CI w0 s a e w) :
    Calls Tryz.prog 70 #[.pointer (some ⟨w0.heap.size, 0, none⟩)] w fun r w' => r = .returned (.bool (thrB s a e)) ∧ ∃ d, w' = w.drewN d := through_any _ s a e hs ha w h.cur

theorem errB_zero {s : ByteArray} {a e : Nat} {n : Int} (h : errB s a e n = 0) : e = 0 ∧ 0 ≤ n ∧ a + n.toNat ≤ s.size ∧ atB s a e n = a + n.toNat := by
  unfold errB at h
  split at h
  · rename_i hm
    have hm' := hm
    unfold mayB at hm
    have := of_decide_eq_true hm
    refine ⟨this.1, by omega, by omega, ?_⟩
    unfold atB
    rw [if_pos hm']
  · cases h
theorem numB_one (s : ByteArray) (a : Nat) (h : a + 1 ≤ s.size) : numB s a 0 1 = (nums s).getD a 0 := by
  unfold numB
  rw [nums_piece s a 1 h]
  have hl : a < (nums s).length := by rw [nums_len]; omega
  rw [List.drop_eq_getElem_cons hl]
  simp only [List.take_succ_cons, List.take_zero, numL, List.getD_eq_getElem?_getD, List.getElem?_eq_getElem hl, Option.getD_some]
  omega

/-! ### PrintOwner -/
def ownT (u g : Nat) : ByteArray := (⟨#[1, 4]⟩ : ByteArray) ++ text (le u 4) ++ ⟨#[4]⟩ ++ text (le g 4)
end Go.Proofs.YtijfcmlgohbndaaGreatDoor

namespace Go.Proofs.YtijfcmlgohbndaaGreatDoor
set_option maxRecDepth 100000
open Go.RowKit Go.Joins Go.Deep

theorem numB_two (s : ByteArray) (a : Nat) (h : a + 2 ≤ s.size) : numB s a 0 2 = idA s a := by
  unfold numB idA
  rw [nums_piece s a 2 h]
/-- What a field's head and bytes are, as the cursor takes them. -/
theorem fit_case (s : ByteArray) (a : Nat) (ha : a < s.size) {a1 e1 a2 e2 n a3 e3 v : Nat} {p : ByteArray}
    (hv : numB s a 0 2 = v) (ha1 : atB s a 0 (2 : Nat) = a1) (he1 : errB s a 0 (2 : Nat) = e1) (hn : numB s a1 e1 2 = n) (ha2 : atB s a1 e1 (2 : Nat) = a2) (he2 : errB s a1 e1 (2 : Nat) = e2) (hp : piece s a2 e2 (n : Nat) = p) (ha3 : atB s a2 e2 (n : Nat) = a3) (he3 : errB s a2 e2 (n : Nat) = e3) :
    (e3 = 0 ∧ a + 4 + idA s (a + 2) ≤ s.size ∧ a3 = a + 4 + idA s (a + 2) ∧ (⟨v, p⟩ : Fd) = fdA s a) ∨ (e3 ≠ 0 ∧ ¬ a + 4 + idA s (a + 2) ≤ s.size) := by
  by_cases he : e3 = 0
  · left
    obtain ⟨z2, _, z2s, z2a⟩ := errB_zero (he3.trans he)
    rw [Int.toNat_natCast] at z2s z2a
    subst z2
    obtain ⟨z1, _, z1s, z1a⟩ := errB_zero he2
    rw [Int.toNat_natCast] at z1s z1a
    subst z1
    obtain ⟨_, _, z0s, z0a⟩ := errB_zero he1
    rw [Int.toNat_natCast] at z0s z0a
    rw [z0a] at ha1
    subst ha1
    rw [z1a] at ha2
    subst ha2
    have h2 := numB_two s (a + 2) z1s
    rw [hn] at h2
    subst h2
    refine ⟨he, by omega, by rw [← ha3, z2a], ?_⟩
    unfold fdA
    rw [← numB_two s a z0s, hv, ← hp]
    unfold piece
    rw [if_pos (mayB_yes s (a + 2 + 2) (idA s (a + 2)) z2s), Int.toNat_natCast]
  · right
    refine ⟨he, fun hfit => he ?_⟩
    have h1 := atB_yes s a 2 (by omega)
    have h2 := errB_yes s a 2 (by omega)
    rw [h1] at ha1
    rw [h2] at he1
    subst ha1 he1
    have h3 := atB_yes s (a + 2) 2 (by omega)
    have h4 := errB_yes s (a + 2) 2 (by omega)
    rw [h3] at ha2
    rw [h4] at he2
    subst ha2 he2
    rw [numB_two s (a + 2) (by omega)] at hn
    subst hn
    rw [← he3]
    exact errB_yes s (a + 4) (idA s (a + 2)) hfit
theorem parts_fd : (Tryz.prog.info? 140).map (fun i => (i.zero, i.size, i.bytes)) = some (some (.agg #[.int .u16 0, .string ⟨#[]⟩]), 2, 24) := by kernel_rfl
theorem cells2 {w : World} {g : Nat} {x y : Value} {T : TypeId} (h : w.heap[g]? = some (.cells #[x, y] T (0, 0))) : ∀ j u, [x, y][j]? = some u → w.cell? ((⟨g, 0, none⟩ : Addr).add j) = some u := by
  intro j u hj
  rw [Addr.add_lit, Nat.zero_add, cell_of_row w g j _ _ _ h]
  simpa using hj
theorem cellF_one (f : Fd) : ∀ u ∈ cellsF [f], u.oneCell' = true := by
  intro u hu
  simp [cellsF] at hu
  rcases hu with rfl | rfl <;> rfl
end Go.Proofs.YtijfcmlgohbndaaGreatDoor

namespace Go.Proofs.YtijfcmlgohbndaaGreatDoor
set_option maxRecDepth 100000
open Go.RowKit Go.Joins Go.Deep

/-- A cursor of the call's own, and a row of fields above it. -/
structure PX (w0 w : World) (s : ByteArray) (a e : Nat) (v : Value) (l : List Fd) : Prop where
  ci : CI w0 s a e w
  le : a ≤ s.size
  row : w.ownsRow (w0.heap.size + 1) 140 2 v l.length (cellsF l)
theorem PX.ne {w0 w : World} {s : ByteArray} {a e : Nat} {v : Value} {l : List Fd} (h : PX w0 w s a e v l) : v.ownBlock ≠ some w0.heap.size := fun k => by
  have := (h.row.lt _ k).1
  omega
theorem PX.grown {w0 w w' : World} {s : ByteArray} {a e a' e' : Nat} {v : Value} {l : List Fd} (h : PX w0 w s a e v l) (hc : Cur w' w0.heap.size s a' e') (hl : a' ≤ s.size) (hg : w.grownBy w' (some w0.heap.size)) : PX w0 w' s a' e' v l :=
  ⟨h.ci.grown hc hg, hl, h.row.kept hg (.inr h.ne)⟩
theorem PX.drewN {w0 w : World} {s : ByteArray} {a e : Nat} {v : Value} {l : List Fd} (h : PX w0 w s a e v l) (n : Nat) : PX w0 (w.drewN n) s a e v l := ⟨h.ci.drewN n, h.le, h.row⟩
theorem two_px {w0 w : World} {s : ByteArray} {a e : Nat} {v : Value} {l : List Fd} (hs : s.size ≤ maxLen) (h : PX w0 w s a e v l) :
    Calls Tryz.prog 56 #[.pointer (some ⟨w0.heap.size, 0, none⟩)] w fun r w' => r = .returned (.int .u16 (numB s a e 2 : Nat)) ∧ PX w0 w' s (atB s a e (2 : Nat)) (errB s a e (2 : Nat)) v l :=
  (two_of _ s a e hs h.le w h.ci.cur).mono fun _ _ ⟨he, hc, hg⟩ => ⟨he, h.grown hc (atB_le _ _ _ _ h.le) hg⟩
theorem take_px {w0 w : World} {s : ByteArray} {a e : Nat} {v : Value} {l : List Fd} (n : Nat) (hs : s.size ≤ maxLen) (hn : n < 65536) (h : PX w0 w s a e v l) :
    Calls Tryz.prog 57 #[.pointer (some ⟨w0.heap.size, 0, none⟩), .int .i64 (n : Nat)] w fun r w' => r = .returned (.string (piece s a e (n : Nat))) ∧ PX w0 w' s (atB s a e (n : Nat)) (errB s a e (n : Nat)) v l :=
  (take_any _ s a e n hs h.le (WalkArith.wf_i64 (by omega)) w h.ci.cur).mono fun _ _ ⟨he, hc, hg⟩ => ⟨he, h.grown hc (atB_le _ _ _ _ h.le) hg⟩

theorem parE_no {s : ByteArray} (h : s.size ≤ 65535) (k : prs s 0 [] = none) : parE s = 24 ∧ parL s = [] := by
  unfold parE parL
  have hn : ¬ 65535 < s.size := by omega
  rw [if_neg hn, if_neg hn, k]
  exact ⟨rfl, rfl⟩
theorem parE_yes {s : ByteArray} {l : List Fd} (h : s.size ≤ 65535) (k : prs s 0 [] = some l) : parE s = 0 ∧ parL s = l := by
  unfold parE parL
  have hn : ¬ 65535 < s.size := by omega
  rw [if_neg hn, if_neg hn, k]
  exact ⟨rfl, rfl⟩
set_option maxHeartbeats 2000000 in
theorem parse_any (s : ByteArray) (hs : s.size ≤ maxLen) (w : World) :
    Calls Tryz.prog 35 #[.string s] w fun e w' => ∃ A cap, e = .returned (.tuple #[.slice A (parL s).length cap, .int .i64 (parE s : Nat)]) ∧ Fds w' A (parL s) ∧ Below w.heap.size w w' := by
  by_cases h5 : 65535 < s.size
  · have HR : Hid (parL s = [] ∧ parE s = 5) := by
      show _ ∧ _
      unfold parL parE
      rw [if_pos h5, if_pos h5]
      exact ⟨rfl, rfl⟩
    unfold maxLen at hs
    go_enter Tryz.func35, Tryz.ntmps35
    go_wp2_with fail
    go_ret2
    rw [HR.out.1, HR.out.2]
    exact ⟨none, 0, rfl, Fds.nil _ _, Below.refl _ _⟩
  · have hs5 : s.size ≤ 65535 := by omega
    obtain ⟨i0, hi, hz0, hz1, hz2⟩ := info_parts parts_fd
    have HOV := Lib.hid (over_ci s w)
    have HNO := Lib.hid (fun k => parE_no hs5 k)
    have HYES := Lib.hid (fun l k => parE_yes (l := l) hs5 k)
    clear h5
    go_enter Tryz.func35, Tryz.ntmps35
    go_wp2_with fail
    refine (HOV.out).mono ?_
    rintro e w1 ⟨rfl, hci⟩
    have HP : Hid (PX w w1 s 0 0 (.slice none 0 0) []) := ⟨hci, Nat.zero_le _, World.ownsRow_nil _ _ _ _⟩
    have hB1 : Hid (w.heap.size + 1 ≤ w1.heap.size) := hci.lt
    clear hci HOV
    go_wp2_with fail
    go_loopg [4] s.size (fun gg v wr => ∃ (a : Nat) (l : List Fd), l.length ≤ a ∧ s.size - a ≤ gg ∧ Hid (prs s a l = prs s 0 []) ∧ Hid (PX w wr s a 0 v l) ∧ Hid (w.heap.size + 1 ≤ wr.heap.size))
    case atStart => exact ⟨0, [], Nat.le_refl _, by omega, rfl, HP.out, hB1.out⟩
    case round =>
      clear HP hB1
      obtain ⟨a, l, hla, hg, HQ, HP, hB1⟩ := hrel
      have hle := HP.out.le
      have HLF := Lib.hid (left_any _ s a 0 hs hle wr HP.out.ci.cur)
      by_cases hlt : a < s.size
      · have hpos : decide (0 < (s.size : Int) - (a : Int)) = true := decide_eq_true (by omega)
        go_wp2_with fail
        refine (HLF.out).mono ?_
        rintro e w2 ⟨rfl, d, rfl⟩
        have HP2 := Lib.hid (HP.out.drewN d)
        have HT1 := Lib.hid (two_px hs HP2.out)
        have hB2 : Hid (w.heap.size + 1 ≤ (wr.drewN d).heap.size) := hB1.out
        generalize wr.drewN d = w2 at *
        have hv1 := numB_lt s a 0 2
        have HC := Lib.hid (fun n (p : ByteArray) a2 e2 a3 e3 => fit_case s a hlt (a2 := a2) (e2 := e2) (a3 := a3) (e3 := e3) (n := n) (p := p) rfl rfl rfl)
        generalize numB s a 0 2 = v1 at *
        generalize atB s a 0 (2 : Nat) = a1 at *
        generalize errB s a 0 (2 : Nat) = e1 at *
        clear HLF HP hB1 hpos
        go_wp2_with fail
        refine (HT1.out).mono ?_
        rintro e w3 ⟨rfl, hp3⟩
        have HT2 := Lib.hid (two_px hs hp3)
        have hv2 := numB_lt s a1 e1 2
        have HC2 := Lib.hid (fun (p : ByteArray) a3 e3 => HC.out _ p _ _ a3 e3 rfl rfl rfl)
        generalize numB s a1 e1 2 = n at *
        generalize atB s a1 e1 (2 : Nat) = a2 at *
        generalize errB s a1 e1 (2 : Nat) = e2 at *
        clear HC HT1 hp3
        go_wp2_with fail
        refine (HT2.out).mono ?_
        rintro e w4 ⟨rfl, hp4⟩
        have HT3 := Lib.hid (take_px n hs (by omega) hp4)
        have HC3 := Lib.hid (HC2.out _ _ _ rfl rfl rfl)
        generalize piece s a2 e2 (n : Nat) = p at *
        generalize atB s a2 e2 (n : Nat) = a3 at *
        generalize errB s a2 e2 (n : Nat) = e3 at *
        clear HC2 HT2 hp4
        go_wp2_with fail
        refine (HT3.out).mono ?_
        rintro e w5 ⟨rfl, hp5⟩
        have HER := Lib.hid (err_ci hp5.ci)
        have HP5 := Lib.hid hp5
        clear HT3 hp5
        go_wp2_with fail
        refine (HER.out).mono ?_
        rintro e w6 ⟨rfl, rfl⟩
        rcases HC3.out with ⟨he, hfit, ha3, hfd⟩ | ⟨he, hfit⟩
        · subst he
          subst ha3
          have HQ2 := Lib.hid ((prs_step (acc := l) hfit).symm.trans HQ.out)
          have hfd' := hfd
          clear HC3 HQ
          obtain ⟨A, cap, rfl⟩ := slice_of_own HP5.out.row
          have hb5 : w.heap.size + 1 ≤ w5.heap.size := HP5.out.ci.lt
          have hx5 := heap_alloc_new w5 (.cells #[.int .u16 (v1 : Nat), .string p] 140)
          have HX5 := Lib.hid hx5
          have HB5 := Lib.hid hb5
          have HF := Lib.hid hfd
          clear hx5 hb5 hfd hfd' hle
          go_wp2_with (at_builtin; go_must (refine wpList_append_own_at _ rfl (.tmp 26) (.tmp 30) _ rfl (w.heap.size + 1) 140 i0 (.agg #[.int .u16 0, .string ⟨#[]⟩]) 2 24 Tryz.underlying67 hi hz0 hz1 hz2 rfl (by decide) (.slice A l.length cap) l.length _ rfl (HP5.out.row.alloc _) ⟨w5.heap.size, 0, none⟩ 1 1 [.int .u16 (v1 : Nat), .string p] rfl rfl (cells2 HX5.out) (cellF_one ⟨v1, p⟩) (by unfold maxLen; omega) (by omega) (by have h3 := HB5.out; simp; omega) ?_; intro v' w6 hown' hgrow hnil hloc))
          have HP6 : Hid (PX w w6 s (a + 4 + idA s (a + 2)) 0 v' (l ++ [fdA s a])) := by
            refine ⟨⟨?_, ?_⟩, hfit, ?_⟩
            · exact (HP5.out.ci.cur.alloc _).grown hgrow (fun k => HP5.out.ne k.symm)
            · exact (HP5.out.ci.bel.alloc (by have h3 := HB5.out; omega) _).grown hgrow (by have h3 := HB5.out; simp; omega) (fun g hg => by have := (HP5.out.row.lt g hg).1; omega)
            · rw [← HF.out, List.length_append, cellsF_app]
              exact hown'
          have HS6 : Hid (w.heap.size + 1 ≤ w6.heap.size) := HP6.out.ci.lt
          clear hown' hgrow hnil hloc
          go_wp2_with fail
          go_roundg (s.size - (a + 4 + idA s (a + 2)))
          case measure => omega
          case rel => exact ⟨_, _, by rw [List.length_append]; simp; omega, Nat.le_refl _, HQ2.out, HP6.out, HS6.out⟩
        · have heb : ((e3 : Int) != 0) = true := by rw [bne_iff_ne]; omega
          have HN := Lib.hid (HNO.out (HQ.out.symm.trans (prs_no hlt hfit)))
          clear HC3 HQ hfit
          go_wp2_with fail
          go_ret2
          rw [HN.out.1, HN.out.2]
          exact ⟨none, 0, rfl, Fds.nil _ _, HP5.out.ci.bel⟩
      · have hpos : decide (0 < (s.size : Int) - (a : Int)) = false := decide_eq_false (by omega)
        have HN := Lib.hid (HYES.out _ (HQ.out.symm.trans (prs_end (by omega))))
        obtain ⟨A, cap, rfl⟩ := slice_of_own HP.out.row
        go_wp2_with fail
        refine (HLF.out).mono ?_
        rintro e w2 ⟨rfl, d, rfl⟩
        go_wp2_with fail
        go_ret2
        rw [HN.out.1, HN.out.2]
        exact ⟨A, cap, rfl, fds_of_own (HP.out.drewN d).row, (HP.out.drewN d).ci.bel⟩
end Go.Proofs.YtijfcmlgohbndaaGreatDoor

namespace Go.Proofs.YtijfcmlgohbndaaGreatDoor
set_option maxRecDepth 100000
open Go.RowKit Go.Joins Go.Deep

theorem nums_extr (t : ByteArray) (a b : Nat) : nums (t.extract a b) = ((nums t).drop a).take (b - a) := by
  unfold nums
  rw [ByteArray.data_extract]
  simp
theorem rest_cut (s : ByteArray) (a i j : Nat) (h : a + j ≤ s.size) : (s.extract a s.size).extract i j = s.extract (a + i) (a + j) := by
  apply nums_inj
  rw [nums_extr, nums_extr, nums_extr, List.drop_take, List.take_take, List.drop_drop, show min (j - i) (s.size - a - i) = a + j - (a + i) by omega]
theorem rest_rest (s : ByteArray) (a i : Nat) (h : a + i ≤ s.size) : (s.extract a s.size).extract i (s.extract a s.size).size = s.extract (a + i) s.size := by
  have hz : (s.extract a s.size).size = s.size - a := by rw [ByteArray.size_extract]; omega
  rw [hz, rest_cut s a i (s.size - a) (by omega), show a + (s.size - a) = s.size by omega]
end Go.Proofs.YtijfcmlgohbndaaGreatDoor
