/-
  Contracts: what a sign behind a row of lengths is.
-/
import Derived.Test.YtbgclbnbnpnolaaInfG
namespace Go.Proofs.Ytbgclbnbnpnolaa
set_option maxRecDepth 100000
open Go.RowKit Go.Deep Go.Joins

def rnOk (p : Nat × Nat) (r : Ending) : Prop := r = .returned (.tuple #[.int .u8 (p.1 : Nat), .int .i64 (p.2 : Nat), .int .i64 0])
def rnBad (e : Nat) (r : Ending) : Prop := ∃ y z : Int, r = .returned (.tuple #[.int .u8 y, .int .i64 z, .int .i64 (e : Nat)])
theorem ret3_eq {a b c : Int} {k l m : IntKind} {v : Int} (h : v = b) : Ending.returned (.tuple #[.int k a, .int l v, .int m c]) = .returned (.tuple #[.int k a, .int l b, .int m c]) := by rw [h]
theorem run_eq (x : Nat) (row : List Nat) (p : Nat × Nat × Nat) (h : ¬ (x = 16 ∧ row.length = 0)) (hp : runOf x row = p) (src : Src) (a : Nat) (o : List Nat) : runM x row src a o = if a + p.2.2 ≤ src.L then .ok ((p.1, p.2.1 + bitsAt src.N a p.2.2), a + p.2.2, o) else .error 3 := by
  subst hp
  unfold runM
  rw [if_neg h]
  unfold bindM readM1 retM
  by_cases hc : a + (runOf x row).2.2 ≤ src.L
  · simp only [if_pos hc]
  · simp only [if_neg hc]
set_option maxHeartbeats 8000000 in
theorem run_any (g gr a lim x BR n cp : Nat) (A : Option Addr) (s : ByteArray) (o row : List Nat) (hs : s.size ≤ 1000000) (ha : a ≤ 8 * s.size) (hx : x < 19) (hn : n = row.length) (hn2 : n ≤ 10000) (h256 : ∀ y ∈ row, y < 256) (w : World) (hp : Pin w g gr) (hr : Rd 81 w gr s a 0) (ho : w.ownsRow BR 5 1 (.slice A n cp) n (cells8 row)) :
    Calls Try.prog 76 #[.pointer (some ⟨g, 0, none⟩), .int .i64 x, .slice A n cp] w (PR w gr s rnOk rnBad (runM x row (srcOf s lim) a o)) := by
  have c0 := hp.c0
  have HP := Lib.hid hp
  have HR := Lib.hid hr
  have HO := Lib.hid ho
  have HN := Lib.hid hn
  have H256 := Lib.hid h256
  have HRE := Lib.hid (fun p h1 h2 => run_eq x row p h1 h2 (srcOf s lim) a o)
  clear hp hr ho hn h256
  by_cases h16 : x = 16
  · subst h16
    by_cases h0 : n = 0
    · have HM : Hid (runM 16 row (srcOf s lim) a o = .error 10) := by
        show _ = _
        unfold runM
        rw [if_pos ⟨rfl, by rw [← HN.out]; exact h0⟩]
        rfl
      subst h0
      go_enter Try.func76, Try.ntmps76
      go_wp2
      go_ret3
      exact .err HM.out (World.grownBy.refl _ _) ⟨0, 0, rfl⟩ (by omega) (by omega)
    · have hpos : 0 < n := by omega
      obtain ⟨g2, hA⟩ : ∃ g2, A = some ⟨g2, 0, none⟩ := by
        rcases ownsRow_forms HO.out with ⟨h1, h2⟩ | ⟨g2, cap, h1⟩
        · omega
        · injection h1 with h1 _ _
          exact ⟨g2, h1⟩
      subst hA
      have hlast : n - 1 < row.length := by have := HN.out; omega
      have hcell : w.cell? ⟨g2, n - 1, none⟩ = some (.int .u8 ((row.getD (n - 1) 0 : Nat) : Int)) := by
        have := HO.out.cellAt (n - 1) (by omega)
        rw [this]
        simp only [cells8, List.getElem?_map, List.getElem?_eq_getElem hlast, Option.map_some, List.getD_eq_getElem?_getD, Option.getD_some]
      have hRO : runOf 16 row = (row.getD (n - 1) 0, 3, 2) := by rw [HN.out]; rfl
      have HRO := Lib.hid hRO
      obtain ⟨q, rfl⟩ : ∃ q, n = q + 1 := ⟨n - 1, by omega⟩
      replace hcell : w.cell? ⟨g2, q, none⟩ = some (.int .u8 ((row.getD q 0 : Nat) : Int)) := hcell
      have hlen : Hid (¬ (16 = 16 ∧ row.length = 0)) := fun h => by omega
      have HRO2 : Hid (runOf 16 row = (row.getD q 0, 3, 2)) := HRO.out
      generalize row.getD q 0 = y at *
      clear hRO HRO h0 hpos hlast
      have HAN := Lib.hid (HRE.out (y, 3, 2) hlen.out HRO2.out)
      by_cases hb : a + 2 ≤ 8 * s.size
      · have HM : Hid (runM 16 row (srcOf s lim) a o = .ok ((y, 3 + bitsAt (num s) a 2), a + 2, o)) := HAN.out.trans (if_pos hb)
        have HRD := Lib.hid (read_ok gr s a 2 hs (by omega) hb w HR.out)
        have hbl : bitsAt (num s) a 2 < 2 ^ 2 := bitsAt_lt (num s) a 2
        have hbl2 : bitsAt (num s) a 2 < 128 := by omega
        generalize bitsAt (num s) a 2 = v at *
        clear hbl
        go_enter Try.func76, Try.ntmps76
        go_wp2_with fail
        refine (HRD.out).mono ?_; rintro r w1 ⟨rfl, hr1, hg1⟩
        have c1 := (HP.out.grown HR.out hg1).c0
        have HE := Lib.hid (err_any gr s (a + 2) 0 w1 hr1)
        have HR1 := Lib.hid hr1
        have HG1 := Lib.hid hg1
        clear hr1 hg1
        go_wp2_with fail
        refine (HE.out).mono ?_; rintro r w2 ⟨rfl, rfl⟩
        go_wp2
        go_ret3
        exact .ok HM.out HG1.out (by first | exact rfl | exact ret3_eq (by simp)) HR1.out hb
      · have HM : Hid (runM 16 row (srcOf s lim) a o = .error 3) := HAN.out.trans (if_neg hb)
        have HRD := Lib.hid (read_short gr s a 2 hs ha (by omega) (by omega) w HR.out)
        go_enter Try.func76, Try.ntmps76
        go_wp2_with fail
        refine (HRD.out).mono ?_; rintro r w1 ⟨rfl, hr1, hg1⟩
        have c1 := (HP.out.grown HR.out hg1).c0
        have HE := Lib.hid (err_any gr s a 3 w1 hr1)
        have HR1 := Lib.hid hr1
        have HG1 := Lib.hid hg1
        clear hr1 hg1
        go_wp2_with fail
        refine (HE.out).mono ?_; rintro r w2 ⟨rfl, rfl⟩
        go_wp2
        go_ret3
        exact .err HM.out HG1.out ⟨_, _, rfl⟩ (by omega) (by omega)
  · by_cases h17 : x = 17
    · subst h17
      have HAN := Lib.hid (HRE.out (0, 3, 3) (fun h => by omega) rfl)
      by_cases hb : a + 3 ≤ 8 * s.size
      · have HM : Hid (runM 17 row (srcOf s lim) a o = .ok ((0, 3 + bitsAt (num s) a 3), a + 3, o)) := HAN.out.trans (if_pos hb)
        have HRD := Lib.hid (read_ok gr s a 3 hs (by omega) hb w HR.out)
        have hbl : bitsAt (num s) a 3 < 2 ^ 3 := bitsAt_lt (num s) a 3
        have hbl2 : bitsAt (num s) a 3 < 128 := by omega
        generalize bitsAt (num s) a 3 = v at *
        clear hbl
        go_enter Try.func76, Try.ntmps76
        go_wp2_with fail
        refine (HRD.out).mono ?_; rintro r w1 ⟨rfl, hr1, hg1⟩
        have c1 := (HP.out.grown HR.out hg1).c0
        have HE := Lib.hid (err_any gr s (a + 3) 0 w1 hr1)
        have HR1 := Lib.hid hr1
        have HG1 := Lib.hid hg1
        clear hr1 hg1
        go_wp2_with fail
        refine (HE.out).mono ?_; rintro r w2 ⟨rfl, rfl⟩
        go_wp2
        go_ret3
        exact .ok HM.out HG1.out (by first | exact rfl | exact ret3_eq (by simp)) HR1.out hb
      · have HM : Hid (runM 17 row (srcOf s lim) a o = .error 3) := HAN.out.trans (if_neg hb)
        have HRD := Lib.hid (read_short gr s a 3 hs ha (by omega) (by omega) w HR.out)
        go_enter Try.func76, Try.ntmps76
        go_wp2_with fail
        refine (HRD.out).mono ?_; rintro r w1 ⟨rfl, hr1, hg1⟩
        have c1 := (HP.out.grown HR.out hg1).c0
        have HE := Lib.hid (err_any gr s a 3 w1 hr1)
        have HR1 := Lib.hid hr1
        have HG1 := Lib.hid hg1
        clear hr1 hg1
        go_wp2_with fail
        refine (HE.out).mono ?_; rintro r w2 ⟨rfl, rfl⟩
        go_wp2
        go_ret3
        exact .err HM.out HG1.out ⟨_, _, rfl⟩ (by omega) (by omega)
    · by_cases h18 : x = 18
      · subst h18
        have HAN := Lib.hid (HRE.out (0, 11, 7) (fun h => by omega) rfl)
        by_cases hb : a + 7 ≤ 8 * s.size
        · have HM : Hid (runM 18 row (srcOf s lim) a o = .ok ((0, 11 + bitsAt (num s) a 7), a + 7, o)) := HAN.out.trans (if_pos hb)
          have HRD := Lib.hid (read_ok gr s a 7 hs (by omega) hb w HR.out)
          have hbl : bitsAt (num s) a 7 < 2 ^ 7 := bitsAt_lt (num s) a 7
          have hbl2 : bitsAt (num s) a 7 < 128 := by omega
          generalize bitsAt (num s) a 7 = v at *
          clear hbl
          go_enter Try.func76, Try.ntmps76
          go_wp2_with fail
          refine (HRD.out).mono ?_; rintro r w1 ⟨rfl, hr1, hg1⟩
          have c1 := (HP.out.grown HR.out hg1).c0
          have HE := Lib.hid (err_any gr s (a + 7) 0 w1 hr1)
          have HR1 := Lib.hid hr1
          have HG1 := Lib.hid hg1
          clear hr1 hg1
          go_wp2_with fail
          refine (HE.out).mono ?_; rintro r w2 ⟨rfl, rfl⟩
          go_wp2
          go_ret3
          exact .ok HM.out HG1.out (by first | exact rfl | exact ret3_eq (by simp)) HR1.out hb
        · have HM : Hid (runM 18 row (srcOf s lim) a o = .error 3) := HAN.out.trans (if_neg hb)
          have HRD := Lib.hid (read_short gr s a 7 hs ha (by omega) (by omega) w HR.out)
          go_enter Try.func76, Try.ntmps76
          go_wp2_with fail
          refine (HRD.out).mono ?_; rintro r w1 ⟨rfl, hr1, hg1⟩
          have c1 := (HP.out.grown HR.out hg1).c0
          have HE := Lib.hid (err_any gr s a 3 w1 hr1)
          have HR1 := Lib.hid hr1
          have HG1 := Lib.hid hg1
          clear hr1 hg1
          go_wp2_with fail
          refine (HE.out).mono ?_; rintro r w2 ⟨rfl, rfl⟩
          go_wp2
          go_ret3
          exact .err HM.out HG1.out ⟨_, _, rfl⟩ (by omega) (by omega)
      · have hx1 : ((x : Int) == 16) = false := by rw [beq_eq_false_iff_ne]; omega
        have hx2 : ((x : Int) == 17) = false := by rw [beq_eq_false_iff_ne]; omega
        have hx3 : ((x : Int) == 18) = false := by rw [beq_eq_false_iff_ne]; omega
        have hx4 : IntKind.u8.wrap (x : Int) = (x : Int) := by rw [IntKind.wrap_u8]; omega
        have hx5 : (x : Int) % 256 = (x : Int) := by omega
        have HRO : Hid (runOf x row = (x, 1, 0)) := by
          show _ = _
          unfold runOf
          rw [if_neg h16, if_neg h17, if_neg h18]
        have HNZ : Hid (¬ (x = 16 ∧ row.length = 0)) := fun h => h16 h.1
        have HAN := Lib.hid (HRE.out (x, 1, 0) HNZ.out HRO.out)
        by_cases hb : a + 0 ≤ 8 * s.size
        · have HM : Hid (runM x row (srcOf s lim) a o = .ok ((x, 1 + bitsAt (num s) a 0), a + 0, o)) := HAN.out.trans (if_pos hb)
          have HRD := Lib.hid (read_ok gr s a 0 hs (by omega) hb w HR.out)
          have hbl : bitsAt (num s) a 0 < 2 ^ 0 := bitsAt_lt (num s) a 0
          have hbl2 : bitsAt (num s) a 0 < 128 := by omega
          generalize bitsAt (num s) a 0 = v at *
          clear hbl
          go_enter Try.func76, Try.ntmps76
          go_wp2_with fail
          refine (HRD.out).mono ?_; rintro r w1 ⟨rfl, hr1, hg1⟩
          have c1 := (HP.out.grown HR.out hg1).c0
          have HE := Lib.hid (err_any gr s (a + 0) 0 w1 hr1)
          have HR1 := Lib.hid hr1
          have HG1 := Lib.hid hg1
          clear hr1 hg1
          go_wp2_with fail
          refine (HE.out).mono ?_; rintro r w2 ⟨rfl, rfl⟩
          go_wp2
          go_ret3
          exact .ok HM.out HG1.out (by first | exact rfl | exact ret3_eq (by simp)) HR1.out hb
        · exact absurd (show a + 0 ≤ 8 * s.size by omega) hb
end Go.Proofs.Ytbgclbnbnpnolaa
