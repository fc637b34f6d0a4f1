/-
  Contracts: Grow, Concat of three rows of fields.
  An entry's fields: Parse (none only where it is empty), Concat of rows that may be empty.
-/
import Derived.Test.YtjnoapbddifcpaaGreatDoorPkBD
import Derived.Lib.AppendZerosOnto
import Derived.Laws.OwnMore
import Derived.Test.YtjnoapbddifcpaaGreatDoorPkBC

namespace Go.Proofs.YtjnoapbddifcpaaGreatDoor
set_option maxRecDepth 100000
open Go.RowKit Go.Joins Go.Deep

theorem zeroCells_size (z : Array Value) (n : Nat) : (Builtin.zeroCells z n).size = n * z.size := by
  simp [Builtin.zeroCells]
set_option maxHeartbeats 2000000 in
theorem grow13_any (B n : Nat) (h1 : 1 ≤ n) (hn : n ≤ 100000) (w : World) (hB : B ≤ w.heap.size) :
    Calls Tryz.prog 159 #[.slice none 0 0, .int .i64 n] w fun e w' => ∃ G, e = .returned (.slice (some ⟨w.heap.size, 0, none⟩) 0 G) ∧ w'.ownsRow B 172 2 (.slice (some ⟨w.heap.size, 0, none⟩) 0 G) 0 [] ∧ Below w.heap.size w w' := by
  obtain ⟨i0, hi, hz0, hz1, hz2⟩ := info_parts parts_fd
  have h3 : ¬ ((n : Int) < 0) := by omega
  have h4 : (n : Int) > 0 := by omega
  have hold : (Builtin.firstCells i0.size 0 (.slice none 0 0)).run Tryz.prog w.drew = .ok (#[] : Array Value) w.drew := run_firstCells_none w.drew i0.size 0 0 0
  have hrz : ∀ ty, (Builtin.append_ #[108, 3] ty #[.slice none 0 0, .int .i64 (n : Int)]).run Tryz.prog w =
      .ok (.slice (some ⟨w.heap.size, 0, none⟩) n (grownCap w n 0 172)) (w.drew.alloc (.cells (#[] ++ Builtin.zeroCells (Value.agg #[.int .u16 0, .string ⟨#[]⟩]).cells n ++ Builtin.zeroCells (Value.agg #[.int .u16 0, .string ⟨#[]⟩]).cells (grownCap w n 0 172 - n)) 172)) := fun ty => by
    have h := Lib.run_append_grow_zeros w 108 3 ty 172 i0 (.agg #[.int .u16 0, .string ⟨#[]⟩]) .i64 .i64 Tryz.underlying108 Tryz.underlying3 hi hz0 none 0 0 [] (by simpa using hold) n (by omega) (by omega) (by omega) (by omega) (by rw [hz2]; omega) (by rw [Nat.zero_add]; exact growslice_fits (by omega) (by rw [hz2]; omega))
    rw [Nat.zero_add] at h
    exact h
  have hGn : n ≤ grownCap w n 0 172 := grownCap_ge w _ _ _
  have hGm := grownCap_le_maxLen w n 0 172 (by unfold maxLen; omega)
  obtain ⟨G, hG⟩ : ∃ G, G = grownCap w n 0 172 := ⟨_, rfl⟩
  rw [← hG] at hrz hGn hGm
  have HGM := Lib.hid hGm
  have hG63 : G ≤ 9223372036854775807 := by unfold maxLen at hGm; omega
  have hzc : (Value.agg #[.int .u16 0, .string ⟨#[]⟩]).cells = #[Value.int .u16 0, .string ⟨#[]⟩] := rfl
  rw [hzc] at hrz
  have HW : Hid ((w.alloc (.cells (Builtin.zeroCells #[Value.int .u16 0, .string ⟨#[]⟩] n ++ Builtin.zeroCells #[Value.int .u16 0, .string ⟨#[]⟩] (G - n)) 172)).drew.ownsRow B 172 2 (.slice (some ⟨w.heap.size, 0, none⟩) 0 G) 0 []) := by
    refine ⟨rfl, .inr ⟨w.heap.size, G, _, rfl, hB, heap_alloc_new w _, Nat.zero_le _, hGm, ?_, rfl⟩⟩
    rw [Array.size_append, zeroCells_size, zeroCells_size]
    show n * 2 + (G - n) * 2 = G * 2
    omega
  have HBW : Hid (Below w.heap.size w (w.alloc (.cells (Builtin.zeroCells #[Value.int .u16 0, .string ⟨#[]⟩] n ++ Builtin.zeroCells #[Value.int .u16 0, .string ⟨#[]⟩] (G - n)) 172)).drew) := ((Below.refl _ _).alloc (Nat.le_refl _) _).drew
  clear hold hG hGm hzc
  go_enter Tryz.func159, Tryz.ntmps159
  go_wp2_with (at_builtin; refine Lib.wpList_append_run _ rfl _ _ _ _ rfl _ _ rfl rfl _ _ (hrz _) ?_)
  go_ret
  exact ⟨G, rfl, HW.out, HBW.out⟩

/-- The first k rows, one behind the other. -/
def joinF (rs : Nat → List Fd) : Nat → List Fd
  | 0 => []
  | k + 1 => joinF rs k ++ rs k
theorem joinF_mono (rs : Nat → List Fd) (k : Nat) : ∀ d, (joinF rs k).length ≤ (joinF rs (k + d)).length
  | 0 => Nat.le_refl _
  | d + 1 => by
    rw [← Nat.add_assoc, joinF, List.length_append]
    have := joinF_mono rs k d
    omega
theorem cellsF_news {w : World} {ad : Addr} {l : List Fd} (h : Fds w (some ad) l) : ∀ q u, (cellsF l)[q]? = some u → w.cell? (ad.add q) = some u := by
  intro q u hu
  have hql := (List.getElem?_eq_some_iff.1 hu).1
  rw [cellsF_len] at hql
  obtain ⟨b, off, e, _, hc⟩ := h (by omega)
  injection e with e
  subst e
  rw [Addr.add_lit]
  have hi : q / 2 < l.length := by omega
  have hg := cellsF_get l (q / 2) hi
  have hcc := hc (q / 2) hi
  rcases (by omega : q = q / 2 * 2 ∨ q = q / 2 * 2 + 1) with e | e
  · rw [e, hg.1] at hu
    rw [e, ← hu]
    exact hcc.1
  · rw [e, hg.2] at hu
    rw [e, ← hu, ← Nat.add_assoc]
    exact hcc.2
theorem cellsF_ones (l : List Fd) : ∀ u ∈ cellsF l, u.oneCell' = true := by
  induction l with
  | nil => intro u hu; cases hu
  | cons x l ih =>
    intro u hu
    simp only [cellsF, List.mem_cons] at hu
    rcases hu with rfl | rfl | hu
    · rfl
    · rfl
    · exact ih u hu
theorem nil_of_own {w : World} {B : Nat} {T : TypeId} {A : Option Addr} {cap : Nat} {l : List Fd} (h : w.ownsRow B T 2 (.slice A l.length cap) l.length (cellsF l)) : Nil0 A l.length cap := by
  obtain ⟨A2, c2, he, hn⟩ := slice_of_own0 h
  injection he with h1 h2 h3
  subst h1 h3
  exact hn
end Go.Proofs.YtjnoapbddifcpaaGreatDoor

namespace Go.Proofs.YtjnoapbddifcpaaGreatDoor
set_option maxRecDepth 100000
set_option linter.unusedSimpArgs false
set_option linter.unusedVariables false
open Go.RowKit Go.Joins Go.Deep
/-- A row of fields lies in a block of its own. -/
def NewA (B : Nat) (A : Option Addr) : Prop := ∀ a, A = some a → B ≤ a.block
theorem new_of_own {w : World} {B B' : Nat} {T : TypeId} {A : Option Addr} {cap : Nat} {l : List Fd} (h : w.ownsRow B' T 2 (.slice A l.length cap) l.length (cellsF l)) (hB : B ≤ B') : NewA B A := fun a e => by
  rcases h.2 with ⟨he, h0⟩ | ⟨g, cap2, cur, he, hb, _⟩
  · injection he with h1
    rw [h1] at e
    cases e
  · injection he with h1
    rw [h1] at e
    injection e with e
    subst e
    exact Nat.le_trans hB hb
theorem Fds.setRow {w : World} {A : Option Addr} {l : List Fd} (h : Fds w A l) {g : Nat} (hn : NewA (g + 1) A) (cs : Array Value) : Fds (w.setRow g cs) A l := fun h0 => by
  obtain ⟨b, off, e, hlt, hc⟩ := h h0
  have hb : b ≠ g := by have : g + 1 ≤ b := hn _ e; omega
  exact ⟨b, off, e, by rw [setRow_size]; exact hlt, fun i hi => ⟨(cell_setRow_other w g cs ⟨b, off + i * 2, none⟩ hb).trans (hc i hi).1, (cell_setRow_other w g cs ⟨b, off + i * 2 + 1, none⟩ hb).trans (hc i hi).2⟩⟩
theorem growF_none (w : World) : Calls Tryz.prog 159 #[.slice none 0 0, .int .i64 0] w fun e w' => e = .returned (.slice none 0 0) ∧ w' = w := by
  go_enter Tryz.func159, Tryz.ntmps159
  go_wp2_with fail
  go_ret
  exact ⟨rfl, rfl⟩
theorem growF_any (n : Nat) (hn : n ≤ 100000) (w : World) :
    Calls Tryz.prog 159 #[.slice none 0 0, .int .i64 n] w fun e w' => ∃ V, e = .returned V ∧ w'.ownsRow w.heap.size 172 2 V 0 [] ∧ Below w.heap.size w w' := by
  by_cases h : n = 0
  · subst h
    refine (growF_none w).mono ?_; rintro e w1 ⟨rfl, rfl⟩
    exact ⟨_, rfl, World.ownsRow_nil _ _ _ _, Below.refl _ _⟩
  · refine (grow13_any w.heap.size n (by omega) hn w (Nat.le_refl _)).mono ?_; rintro e w1 ⟨G, rfl, h1, h2⟩
    exact ⟨_, rfl, h1, h2⟩
theorem prs_len4 (s : ByteArray) (a : Nat) (acc l : List Fd) (h : prs s a acc = some l) (ha : acc.length * 4 ≤ a) (hz : a ≤ s.size) : l.length * 4 ≤ s.size := by
  fun_induction prs s a acc with
  | case1 a acc h1 => injection h with h; subst h; omega
  | case2 a acc h1 h2 ih => exact ih h (by rw [List.length_append]; simp; omega) h2
  | case3 => cases h
theorem parL_len4 (s : ByteArray) : (parL s).length ≤ 16384 := by
  unfold parL
  split
  · simp
  · cases h : prs s 0 [] with
    | none => simp
    | some l =>
      have := prs_len4 s 0 [] l h (by simp) (Nat.zero_le _)
      show l.length ≤ _
      omega
set_option maxHeartbeats 4000000 in
theorem parse0_any (s : ByteArray) (hs : s.size ≤ maxLen) (w : World) :
    Calls Tryz.prog 69 #[.string s] w fun e w' => ∃ A cap, e = .returned (.tuple #[.slice A (parL s).length cap, .int .i64 (parE s : Nat)]) ∧ Fds w' A (parL s) ∧ Nil0 A (parL s).length cap ∧ NewA w.heap.size A ∧ Below w.heap.size w w' := by
  by_cases h5 : 65535 < s.size
  · have HR : Hid (parL s = [] ∧ parE s = 5) := by
      show _ ∧ _
      unfold parL parE
      rw [if_pos h5, if_pos h5]
      exact ⟨rfl, rfl⟩
    unfold maxLen at hs
    go_enter Tryz.func69, Tryz.ntmps69
    go_wp2_with fail
    go_ret2
    rw [HR.out.1, HR.out.2]
    exact ⟨none, 0, rfl, Fds.nil _ _, (fun _ => ⟨rfl, rfl⟩), (fun a e => by cases e), Below.refl _ _⟩
  · have hs5 : s.size ≤ 65535 := by omega
    obtain ⟨i0, hi, hz0, hz1, hz2⟩ := info_parts parts_fd
    have HOV := Lib.hid (over_ci s w)
    have HNO := Lib.hid (fun k => parE_no hs5 k)
    have HYES := Lib.hid (fun l k => parE_yes (l := l) hs5 k)
    clear h5
    go_enter Tryz.func69, Tryz.ntmps69
    go_wp2_with fail
    refine (HOV.out).mono ?_
    rintro e w1 ⟨rfl, hci⟩
    have HP : Hid (PX w w1 s 0 0 (.slice none 0 0) []) := ⟨hci, Nat.zero_le _, World.ownsRow_nil _ _ _ _⟩
    have hB1 : Hid (w.heap.size + 1 ≤ w1.heap.size) := hci.lt
    clear hci HOV
    go_wp2_with fail
    go_loopg [4] s.size (fun gg v wr => ∃ (a : Nat) (l : List Fd), l.length ≤ a ∧ s.size - a ≤ gg ∧ Hid (prs s a l = prs s 0 []) ∧ Hid (PX w wr s a 0 v l) ∧ Hid (w.heap.size + 1 ≤ wr.heap.size))
    case atStart => exact ⟨0, [], Nat.le_refl _, by omega, rfl, HP.out, hB1.out⟩
    case round =>
      clear HP hB1
      obtain ⟨a, l, hla, hg, HQ, HP, hB1⟩ := hrel
      have hle := HP.out.le
      have HLF := Lib.hid (left_any _ s a 0 hs hle wr HP.out.ci.cur)
      by_cases hlt : a < s.size
      · have hpos : decide (0 < (s.size : Int) - (a : Int)) = true := decide_eq_true (by omega)
        go_wp2_with fail
        refine (HLF.out).mono ?_
        rintro e w2 ⟨rfl, d, rfl⟩
        have HP2 := Lib.hid (HP.out.drewN d)
        have HT1 := Lib.hid (two_px hs HP2.out)
        have hB2 : Hid (w.heap.size + 1 ≤ (wr.drewN d).heap.size) := hB1.out
        generalize wr.drewN d = w2 at *
        have hv1 := numB_lt s a 0 2
        have HC := Lib.hid (fun n (p : ByteArray) a2 e2 a3 e3 => fit_case s a hlt (a2 := a2) (e2 := e2) (a3 := a3) (e3 := e3) (n := n) (p := p) rfl rfl rfl)
        generalize numB s a 0 2 = v1 at *
        generalize atB s a 0 (2 : Nat) = a1 at *
        generalize errB s a 0 (2 : Nat) = e1 at *
        clear HLF HP hB1 hpos
        go_wp2_with fail
        refine (HT1.out).mono ?_
        rintro e w3 ⟨rfl, hp3⟩
        have HT2 := Lib.hid (two_px hs hp3)
        have hv2 := numB_lt s a1 e1 2
        have HC2 := Lib.hid (fun (p : ByteArray) a3 e3 => HC.out _ p _ _ a3 e3 rfl rfl rfl)
        generalize numB s a1 e1 2 = n at *
        generalize atB s a1 e1 (2 : Nat) = a2 at *
        generalize errB s a1 e1 (2 : Nat) = e2 at *
        clear HC HT1 hp3
        go_wp2_with fail
        refine (HT2.out).mono ?_
        rintro e w4 ⟨rfl, hp4⟩
        have HT3 := Lib.hid (take_px n hs (by omega) hp4)
        have HC3 := Lib.hid (HC2.out _ _ _ rfl rfl rfl)
        generalize piece s a2 e2 (n : Nat) = p at *
        generalize atB s a2 e2 (n : Nat) = a3 at *
        generalize errB s a2 e2 (n : Nat) = e3 at *
        clear HC2 HT2 hp4
        go_wp2_with fail
        refine (HT3.out).mono ?_
        rintro e w5 ⟨rfl, hp5⟩
        have HER := Lib.hid (err_ci hp5.ci)
        have HP5 := Lib.hid hp5
        clear HT3 hp5
        go_wp2_with fail
        refine (HER.out).mono ?_
        rintro e w6 ⟨rfl, rfl⟩
        rcases HC3.out with ⟨he, hfit, ha3, hfd⟩ | ⟨he, hfit⟩
        · subst he
          subst ha3
          have HQ2 := Lib.hid ((prs_step (acc := l) hfit).symm.trans HQ.out)
          have hfd' := hfd
          clear HC3 HQ
          obtain ⟨A, cap, rfl⟩ := slice_of_own HP5.out.row
          have hb5 : w.heap.size + 1 ≤ w5.heap.size := HP5.out.ci.lt
          have hx5 := heap_alloc_new w5 (.cells #[.int .u16 (v1 : Nat), .string p] 172)
          have HX5 := Lib.hid hx5
          have HB5 := Lib.hid hb5
          have HF := Lib.hid hfd
          clear hx5 hb5 hfd hfd' hle
          go_wp2_with (at_builtin; go_must (refine wpList_append_own_at _ rfl (.tmp 26) (.tmp 30) _ rfl (w.heap.size + 1) 172 i0 (.agg #[.int .u16 0, .string ⟨#[]⟩]) 2 24 Tryz.underlying108 hi hz0 hz1 hz2 rfl (by decide) (.slice A l.length cap) l.length _ rfl (HP5.out.row.alloc _) ⟨w5.heap.size, 0, none⟩ 1 1 [.int .u16 (v1 : Nat), .string p] rfl rfl (cells2 HX5.out) (cellF_one ⟨v1, p⟩) (by unfold maxLen; omega) (by omega) (by have h3 := HB5.out; simp; omega) ?_; intro v' w6 hown' hgrow hnil hloc))
          have HP6 : Hid (PX w w6 s (a + 4 + idA s (a + 2)) 0 v' (l ++ [fdA s a])) := by
            refine ⟨⟨?_, ?_⟩, hfit, ?_⟩
            · exact (HP5.out.ci.cur.alloc _).grown hgrow (fun k => HP5.out.ne k.symm)
            · exact (HP5.out.ci.bel.alloc (by have h3 := HB5.out; omega) _).grown hgrow (by have h3 := HB5.out; simp; omega) (fun g hg => by have := (HP5.out.row.lt g hg).1; omega)
            · rw [← HF.out, List.length_append, cellsF_app]
              exact hown'
          have HS6 : Hid (w.heap.size + 1 ≤ w6.heap.size) := HP6.out.ci.lt
          clear hown' hgrow hnil hloc
          go_wp2_with fail
          go_roundg (s.size - (a + 4 + idA s (a + 2)))
          case measure => omega
          case rel => exact ⟨_, _, by rw [List.length_append]; simp; omega, Nat.le_refl _, HQ2.out, HP6.out, HS6.out⟩
        · have heb : ((e3 : Int) != 0) = true := by rw [bne_iff_ne]; omega
          have HN := Lib.hid (HNO.out (HQ.out.symm.trans (prs_no hlt hfit)))
          clear HC3 HQ hfit
          go_wp2_with fail
          go_ret2
          rw [HN.out.1, HN.out.2]
          exact ⟨none, 0, rfl, Fds.nil _ _, (fun _ => ⟨rfl, rfl⟩), (fun a e => by cases e), HP5.out.ci.bel⟩
      · have hpos : decide (0 < (s.size : Int) - (a : Int)) = false := decide_eq_false (by omega)
        have HN := Lib.hid (HYES.out _ (HQ.out.symm.trans (prs_end (by omega))))
        obtain ⟨A, cap, rfl⟩ := slice_of_own HP.out.row
        go_wp2_with fail
        refine (HLF.out).mono ?_
        rintro e w2 ⟨rfl, d, rfl⟩
        go_wp2_with fail
        go_ret2
        rw [HN.out.1, HN.out.2]
        exact ⟨A, cap, rfl, fds_of_own (HP.out.drewN d).row, nil_of_own (HP.out.drewN d).row, new_of_own (HP.out.drewN d).row (Nat.le_succ _), (HP.out.drewN d).ci.bel⟩
set_option maxHeartbeats 8000000 in
theorem concatF_any (gc n : Nat) (As : Nat → Option Addr) (cp : Nat → Nat) (rs : Nat → List Fd) (hn : n ≤ 10) (htot : (joinF rs n).length ≤ 50000) (w : World) (hgc : gc < w.heap.size)
    (hc : ∀ i, i < n → w.cell? ⟨gc, i, none⟩ = some (.slice (As i) (rs i).length (cp i))) (hr : ∀ i, i < n → Fds w (As i) (rs i)) (h0 : ∀ i, i < n → Nil0 (As i) (rs i).length (cp i)) :
    Calls Tryz.prog 114 #[.slice (some ⟨gc, 0, none⟩) n n] w fun e w' => ∃ A cap, e = .returned (.slice A (joinF rs n).length cap) ∧ Fds w' A (joinF rs n) ∧ Nil0 A (joinF rs n).length cap ∧ Below w.heap.size w w' := by
  have HC := Lib.hid hc
  have HR := Lib.hid hr
  have H0 := Lib.hid h0
  have hmono : ∀ k, k ≤ n → (joinF rs k).length ≤ (joinF rs n).length := fun k hk => by
    have := joinF_mono rs k (n - k)
    rwa [show k + (n - k) = n by omega] at this
  have HMO := Lib.hid hmono
  have HTOT := Lib.hid htot
  have HJ := Lib.hid (fun k => show joinF rs (k + 1) = joinF rs k ++ rs k from rfl)
  have HG := Lib.hid (growF_any (joinF rs n).length (by omega) w)
  clear hc hr hmono htot h0
  go_enter Tryz.func114, Tryz.ntmps114
  go_wp2_with fail
  go_loop [3, 11] (fun t i => ∃ k : Nat, k ≤ n ∧ i = .int .i64 (k : Nat) ∧ t = .int .i64 ((joinF rs k).length : Nat)) (fun _ i => n - (intOf i).toNat)
  case atStart => exact ⟨0, Nat.zero_le _, rfl, rfl⟩
  case round =>
    obtain ⟨k, hk, rfl, rfl⟩ := hrel
    by_cases hlt : k < n
    · have hcell := HC.out k hlt
      have hm1 := HMO.out (k + 1) (by omega)
      have hm2 := HMO.out k hk
      have hj := congrArg List.length (HJ.out k)
      rw [List.length_append] at hj
      have HJL := Lib.hid hj
      have htt := HTOT.out
      have hll : (rs k).length ≤ 100000 := by omega
      have hkk : (joinF rs k).length ≤ 100000 := by omega
      clear hm1 hm2 hj htt
      generalize (joinF rs k).length = a at *
      generalize (rs k).length = b at *
      generalize As k = A1 at *
      go_wp2_with fail
      go_round
      case rel => exact ⟨k + 1, by omega, by go_num, by rw [HJL.out]; go_num⟩
      case measure => simp [intOf]; omega
    · obtain rfl : k = n := by omega
      have htt := HTOT.out
      go_wp2_with fail
      refine (HG.out).mono ?_; rintro e w1 ⟨G, rfl, hown, hb⟩
      have HO1 := Lib.hid hown
      have HB1 := Lib.hid hb
      clear hown hb HG
      obtain ⟨i0, hi, hz0, hz1, hz2⟩ := info_parts parts_fd
      go_wp2_with fail
      go_loopw [6, 27] (fun v i wr => ∃ j, j ≤ k ∧ i = .int .i64 (j : Nat) ∧ Hid (wr.ownsRow w.heap.size 172 2 v (joinF rs j).length (cellsF (joinF rs j))) ∧ Hid (Below w.heap.size w wr)) (fun _ i _ => k - (intOf i).toNat)
      case atStart => exact ⟨0, Nat.zero_le _, rfl, HO1.out, HB1.out⟩
      case round =>
        obtain ⟨j, hj, rfl, HO, HB⟩ := hrel
        obtain ⟨A2, cp2, rfl⟩ := slice_of_own HO.out
        by_cases hjk : j < k
        · have hcell : wr.cell? ⟨gc, j, none⟩ = some (.slice (As j) (rs j).length (cp j)) := (HB.out.cell (p := ⟨gc, j, none⟩) hgc).trans (HC.out j hjk)
          have HRJ := Lib.hid ((HR.out j hjk).below (Nat.le_refl _) HB.out)
          have HN0 := Lib.hid (H0.out j hjk)
          have hm1 := HMO.out (j + 1) (by omega)
          have hJ := congrArg List.length (HJ.out j)
          rw [List.length_append] at hJ
          have HJJ := Lib.hid (HJ.out j)
          have hsum : (joinF rs j).length + (rs j).length ≤ 50000 := by omega
          have hbase : w.heap.size ≤ wr.heap.size := HB.out.size
          have HCL := Lib.hid (cellsF_len (rs j))
          have HON := Lib.hid (cellsF_ones (rs j))
          clear hm1 hJ
          generalize As j = A1 at *
          cases A1 with
          | none =>
            obtain ⟨hz, hcz⟩ := HN0.out rfl
            have hnil : rs j = [] := List.eq_nil_of_length_eq_zero hz
            rw [hz, hcz] at hcell
            have HNIL := Lib.hid hnil
            have HRN := Lib.hid (fun ty => run_append_owned_none wr w.heap.size 108 ty 172 i0 2 Tryz.underlying108 hi _ _ _ HO.out)
            have HJ2 : Hid (joinF rs (j + 1) = joinF rs j) := by show _ = _; rw [HJJ.out, HNIL.out, List.append_nil]
            clear hnil HJJ HRJ
            go_wp2_with (at_builtin; refine Lib.wpList_append_run _ rfl _ _ _ _ rfl _ _ rfl rfl _ _ (HRN.out _) ?_)
            go_roundw
            case rel => exact ⟨j + 1, by omega, by go_num, by rw [HJ2.out]; exact HO.out, HB.out⟩
            case measure => simp [intOf]; omega
          | some ad =>
            have HNW := Lib.hid (cellsF_news HRJ.out)
            generalize hNE : cellsF (rs j) = news at *
            generalize hLE : (rs j).length = b at *
            have HLE := Lib.hid hLE
            have HNE := Lib.hid hNE
            clear hNE hLE
            generalize hLA : (joinF rs j).length = a at *
            have HLA := Lib.hid hLA
            clear hLA
            go_wp2_with (at_builtin; refine wpList_append_own_at _ rfl (.tmp 31) (.tmp 32) _ rfl w.heap.size 172 i0 (.agg #[.int .u16 0, .string ⟨#[]⟩]) 2 24 Tryz.underlying108 hi hz0 hz1 hz2 rfl (by decide) _ a (cellsF (joinF rs j)) rfl HO.out ad b (cp j) news rfl HCL.out HNW.out HON.out (by unfold maxLen; omega) (by omega) hbase ?_)
            intro v2 w2 hown hgrow _ hat
            have HB2 := Lib.hid (HB.out.grown hgrow hbase (fun q hq => (HO.out.lt q hq).1))
            have HO2 : Hid (w2.ownsRow w.heap.size 172 2 v2 (joinF rs (j + 1)).length (cellsF (joinF rs (j + 1)))) := by
              show World.ownsRow _ _ _ _ _ _ _
              rw [HJJ.out, cellsF_app, HNE.out, List.length_append, HLA.out, HLE.out]
              exact hown
            clear hown hgrow hat
            go_wp2_with fail
            go_roundw
            case rel => exact ⟨j + 1, by omega, by go_num, HO2.out, HB2.out⟩
            case measure => simp [intOf]; omega
        · obtain rfl : j = k := by omega
          have HN0 := Lib.hid (nil_of_own HO.out)
          go_wp2_with fail
          go_ret
          exact ⟨A2, cp2, rfl, fds_of_own HO.out, HN0.out, HB.out⟩
end Go.Proofs.YtjnoapbddifcpaaGreatDoor
