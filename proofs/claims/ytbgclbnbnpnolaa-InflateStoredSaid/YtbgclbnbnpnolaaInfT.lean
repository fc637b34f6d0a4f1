/-
  Contract: Inflate.
-/
import Derived.Test.YtbgclbnbnpnolaaInfS
namespace Go.Proofs.Ytbgclbnbnpnolaa
set_option maxRecDepth 100000
open Go.RowKit Go.Deep Go.Joins

/-- What Inflate answers with. -/
def infV : Ans Unit → Value
  | .ok (_, a, o) => .tuple #[.string (text o), .int .i64 ((a + 7) / 8 : Nat), .int .i64 0]
  | .error e => .tuple #[.string ⟨#[]⟩, .int .i64 0, .int .i64 (e : Nat)]
theorem ret_inf (a : Nat) (o : List Nat) : Ending.returned (.tuple #[.string (text o), .int .i64 (((a : Int) + 8 - 1) / 8), .int .i64 0]) = .returned (infV (.ok ((), a, o))) := by
  unfold infV
  rw [show ((a : Int) + 8 - 1) / 8 = (((a + 7) / 8 : Nat) : Int) by omega]
theorem stable_blkR (b k : Nat) : Stable (blkR b k) := stable_ite (stable_bind stable_stored fun _ => stable_ret _) (stable_ite (stable_bind (stable_signs _ _) fun _ => stable_ret _) (stable_ite (stable_bind stable_dynamic fun _ => stable_bind (stable_signs _ _) fun _ => stable_ret _) (stable_fail _)))
theorem blk_grow {src : Src} {a a1 : Nat} {o o1 : List Nat} {b : Bool} (ha : a ≤ src.L) (h8 : src.L % 8 = 0) (h : blockM src a o = .ok (b, a1, o1)) : a < a1 := by
  by_cases h3 : a + 3 ≤ src.L
  · rw [blk_ok src a o h3] at h
    have := ((stable_blkR _ _).grow src _ _ _ _ _ h3 h8 h).1
    omega
  · rw [blk_short src a o (by omega)] at h
    cases h
set_option maxHeartbeats 8000000 in
theorem inflate_all (s : ByteArray) (limit : Int) (hs : s.size ≤ 1000000) (hl : limit ≤ 1000000000) (w : World) :
    Calls Try.prog 26 #[.string s, .int .i64 limit] w fun e w' => e = .returned (infV (inflM (srcOf s limit.toNat) 0 [])) ∧ Below w.heap.size w w' := by
  obtain ⟨lim, hlim, hlm⟩ : ∃ lim : Nat, max limit 0 = (lim : Int) ∧ limit.toNat = lim := ⟨limit.toNat, by omega, rfl⟩
  rw [hlm]
  have hl2 : lim ≤ 1000000000 := by omega
  have HRU : Hid (∀ ans, Runs blockStep (srcOf s lim) () 0 [] ans → inflM (srcOf s lim) 0 [] = ans) := fun ans h => loop_of h
  generalize inflM (srcOf s lim) 0 [] = AN at *
  have HLM := Lib.hid hlim
  clear hlm
  have HSZ := Lib.hid hs
  by_cases hneg : limit < 0
  · obtain rfl : lim = 0 := by omega
    have hmx : max limit 0 = 0 := by omega
    clear hlim
    go_enter Try.func26, Try.ntmps26
    go_wp2_with fail
    refine (over_any s _).mono ?_; rintro e w1 ⟨rfl, rfl⟩
    go_wp2_with fail
    have hb1 : Below w.heap.size w (w.alloc (.cells #[.string s, .int .i64 0, .int .i64 0] 81)) := (Below.refl _ _).alloc (Nat.le_refl _) _
    have hb2 : Below w.heap.size w ((w.alloc (.cells #[.string s, .int .i64 0, .int .i64 0] 81)).alloc (.cells #[.pointer (some ⟨w.heap.size, 0, none⟩), .slice none 0 0, .int .i64 0, .pointer none] 94)) := hb1.alloc hb1.size _
    have hrd2 : Rd 81 ((w.alloc (.cells #[.string s, .int .i64 0, .int .i64 0] 81)).alloc (.cells #[.pointer (some ⟨w.heap.size, 0, none⟩), .slice none 0 0, .int .i64 0, .pointer none] 94)) w.heap.size s 0 0 := (Below.heap_alloc _ _ _ (by simp)).trans (heap_alloc_new w _)
    have hsz1 : (w.alloc (.cells #[.string s, .int .i64 0, .int .i64 0] 81)).heap.size = w.heap.size + 1 := by simp
    have hst2 : ((w.alloc (.cells #[.string s, .int .i64 0, .int .i64 0] 81)).alloc (.cells #[.pointer (some ⟨w.heap.size, 0, none⟩), .slice none 0 0, .int .i64 0, .pointer none] 94)).heap[w.heap.size + 1]? = some (.cells #[.pointer (some ⟨w.heap.size, 0, none⟩), .slice none 0 0, .int .i64 ((0 : Nat) : Int), .pointer none] 94 (0, 0)) := by
      rw [← hsz1]
      exact heap_alloc_new _ _
    have hS : Sm ((w.alloc (.cells #[.string s, .int .i64 0, .int .i64 0] 81)).alloc (.cells #[.pointer (some ⟨w.heap.size, 0, none⟩), .slice none 0 0, .int .i64 0, .pointer none] 94)) w.heap.size (w.heap.size + 1) w.heap.size none s 0 0 [] := ⟨.slice none 0 0, .pointer none, hst2, World.ownsRow_nil _ _ _ _, rfl, hrd2, .inl rfl, by omega, Nat.le_refl _, Nat.zero_le _, Nat.zero_le _, fun x hx => by cases hx⟩
    generalize ((w.alloc (.cells #[.string s, .int .i64 0, .int .i64 0] 81)).alloc (.cells #[.pointer (some ⟨w.heap.size, 0, none⟩), .slice none 0 0, .int .i64 0, .pointer none] 94)) = w2 at *
    have HS2 := Lib.hid hS
    have HB2 := Lib.hid hb2
    clear hb1 hb2 hrd2 hsz1 hst2 hS
    go_loopw [8] (fun bb wr => ∃ (b : Bool) (a : Nat) (o : List Nat) (r : Option Nat), bb = .bool b ∧ (b = false → ∀ ans, Runs blockStep (srcOf s 0) () a o ans → AN = ans) ∧ (b = true → AN = .ok ((), a, o)) ∧ Sm wr w.heap.size (w.heap.size + 1) w.heap.size r s a 0 o ∧ Below w.heap.size w wr) (fun _ wr => 8 * s.size - rdAt w.heap.size wr)
    case atStart => exact ⟨false, 0, [], none, rfl, fun _ ans h => (HRU.out ans h), fun h => (by cases h), HS2.out, HB2.out⟩
    case round =>
      obtain ⟨b, a, o, r, rfl, hrun, hdone, hs, hb⟩ := hrel
      have HSA := Lib.hid hs
      have HBA := Lib.hid hb
      have HM := Lib.hid (rdAt_of hs.rd)
      have hale := hs.le
      cases b with
      | true =>
        have HE := Lib.hid (hdone rfl)
        have HAT := Lib.hid (at_any w.heap.size s a 0 wr hs.rd)
        have k0 := hs.pin.c0
        obtain ⟨v, p, hbk, ho, _, _, _, _, _, _, _, h256⟩ := hs
        obtain ⟨A, cp, rfl⟩ := row_slice ho
        have k1 : wr.cell? ⟨w.heap.size + 1, 1, none⟩ = some (.slice A o.length cp) := by rw [cell_of_row wr _ 1 _ _ _ hbk]; rfl
        have hcv := string_of_own ho h256
        clear hrun hdone hb hbk ho h256
        go_wp2_with fail
        refine (HAT.out).mono ?_; rintro e w3 ⟨rfl, rfl⟩
        go_wp2
        go_ret3
        exact ⟨(ret_inf a o).trans (by rw [HE.out]), HBA.out⟩
      | false =>
        have HRUN := Lib.hid (hrun rfl)
        have HBK := Lib.hid (block_any w.heap.size (w.heap.size + 1) w.heap.size a 0 r s o HSZ.out (by omega) wr hb.size hs)
        clear hrun hdone hs hb
        go_wp2_with fail
        refine (HBK.out).mono ?_; rintro e w3 hps
        cases hn : blockM (srcOf s 0) a o with
        | error k =>
          obtain ⟨r3, hu3, ⟨bb, rfl⟩, hk0, hk1⟩ := hps.of_err hn
          have HE := Lib.hid (HRUN.out _ (.err (show blockStep () (srcOf s 0) a o = _ from bind_err hn)))
          have hne : ((k : Int) == 0) = false := by rw [beq_eq_false_iff_ne]; omega
          have HB3 := Lib.hid (HBA.out.trans (hu3.below HSA.out HBA.out.size))
          clear hn hps hu3
          go_wp2
          go_ret3
          refine ⟨?_, HB3.out⟩
          rw [HE.out]
          rfl
        | ok q =>
          obtain ⟨bb, a3, o3⟩ := q
          obtain ⟨r3, hu3, hok, hs3⟩ := hps.of_ok hn
          unfold bkOk at hok
          subst hok
          have hlt := blk_grow (src := srcOf s 0) hale (by show 8 * s.size % 8 = 0; omega) hn
          have hle3 := hs3.le
          have HB3 := Lib.hid (HBA.out.trans (hu3.below HSA.out HBA.out.size))
          have HS3 := Lib.hid hs3
          have HF : Hid (bb = false → ∀ ans, Runs blockStep (srcOf s 0) () a3 o3 ans → AN = ans) := fun hbb ans h => by
            subst hbb
            exact HRUN.out ans (.more (show blockStep () (srcOf s 0) a o = .ok (.inl (), a3, o3) from (bind_ok hn).trans rfl) h)
          have HTR : Hid (bb = true → AN = .ok ((), a3, o3)) := fun hbb => by
            subst hbb
            exact HRUN.out _ (.done (show blockStep () (srcOf s 0) a o = .ok (.inr (), a3, o3) from (bind_ok hn).trans rfl))
          clear hn hps hu3 hs3
          go_wp2
          go_roundw
          case rel => exact ⟨bb, a3, o3, r3, rfl, HF.out, HTR.out, HS3.out, HB3.out⟩
          case measure =>
            rw [rdAt_of HS3.out.rd, HM.out]
            omega
  · have hmx : max limit 0 = limit := by omega
    obtain rfl : limit = (lim : Int) := by omega
    have hl0 : ¬ ((lim : Int) < 0) := by omega
    clear hlim hneg
    go_enter Try.func26, Try.ntmps26
    go_wp2_with fail
    refine (over_any s _).mono ?_; rintro e w1 ⟨rfl, rfl⟩
    go_wp2_with fail
    have hb1 : Below w.heap.size w (w.alloc (.cells #[.string s, .int .i64 0, .int .i64 0] 81)) := (Below.refl _ _).alloc (Nat.le_refl _) _
    have hb2 : Below w.heap.size w ((w.alloc (.cells #[.string s, .int .i64 0, .int .i64 0] 81)).alloc (.cells #[.pointer (some ⟨w.heap.size, 0, none⟩), .slice none 0 0, .int .i64 (lim : Nat), .pointer none] 94)) := hb1.alloc hb1.size _
    have hrd2 : Rd 81 ((w.alloc (.cells #[.string s, .int .i64 0, .int .i64 0] 81)).alloc (.cells #[.pointer (some ⟨w.heap.size, 0, none⟩), .slice none 0 0, .int .i64 (lim : Nat), .pointer none] 94)) w.heap.size s 0 0 := (Below.heap_alloc _ _ _ (by simp)).trans (heap_alloc_new w _)
    have hsz1 : (w.alloc (.cells #[.string s, .int .i64 0, .int .i64 0] 81)).heap.size = w.heap.size + 1 := by simp
    have hst2 : ((w.alloc (.cells #[.string s, .int .i64 0, .int .i64 0] 81)).alloc (.cells #[.pointer (some ⟨w.heap.size, 0, none⟩), .slice none 0 0, .int .i64 (lim : Nat), .pointer none] 94)).heap[w.heap.size + 1]? = some (.cells #[.pointer (some ⟨w.heap.size, 0, none⟩), .slice none 0 0, .int .i64 ((lim : Nat) : Int), .pointer none] 94 (0, 0)) := by
      rw [← hsz1]
      exact heap_alloc_new _ _
    have hS : Sm ((w.alloc (.cells #[.string s, .int .i64 0, .int .i64 0] 81)).alloc (.cells #[.pointer (some ⟨w.heap.size, 0, none⟩), .slice none 0 0, .int .i64 (lim : Nat), .pointer none] 94)) w.heap.size (w.heap.size + 1) w.heap.size none s 0 lim [] := ⟨.slice none 0 0, .pointer none, hst2, World.ownsRow_nil _ _ _ _, rfl, hrd2, .inl rfl, by omega, Nat.le_refl _, Nat.zero_le _, Nat.zero_le _, fun x hx => by cases hx⟩
    generalize ((w.alloc (.cells #[.string s, .int .i64 0, .int .i64 0] 81)).alloc (.cells #[.pointer (some ⟨w.heap.size, 0, none⟩), .slice none 0 0, .int .i64 (lim : Nat), .pointer none] 94)) = w2 at *
    have HS2 := Lib.hid hS
    have HB2 := Lib.hid hb2
    clear hb1 hb2 hrd2 hsz1 hst2 hS
    go_loopw [8] (fun bb wr => ∃ (b : Bool) (a : Nat) (o : List Nat) (r : Option Nat), bb = .bool b ∧ (b = false → ∀ ans, Runs blockStep (srcOf s lim) () a o ans → AN = ans) ∧ (b = true → AN = .ok ((), a, o)) ∧ Sm wr w.heap.size (w.heap.size + 1) w.heap.size r s a lim o ∧ Below w.heap.size w wr) (fun _ wr => 8 * s.size - rdAt w.heap.size wr)
    case atStart => exact ⟨false, 0, [], none, rfl, fun _ ans h => (HRU.out ans h), fun h => (by cases h), HS2.out, HB2.out⟩
    case round =>
      obtain ⟨b, a, o, r, rfl, hrun, hdone, hs, hb⟩ := hrel
      have HSA := Lib.hid hs
      have HBA := Lib.hid hb
      have HM := Lib.hid (rdAt_of hs.rd)
      have hale := hs.le
      cases b with
      | true =>
        have HE := Lib.hid (hdone rfl)
        have HAT := Lib.hid (at_any w.heap.size s a 0 wr hs.rd)
        have k0 := hs.pin.c0
        obtain ⟨v, p, hbk, ho, _, _, _, _, _, _, _, h256⟩ := hs
        obtain ⟨A, cp, rfl⟩ := row_slice ho
        have k1 : wr.cell? ⟨w.heap.size + 1, 1, none⟩ = some (.slice A o.length cp) := by rw [cell_of_row wr _ 1 _ _ _ hbk]; rfl
        have hcv := string_of_own ho h256
        clear hrun hdone hb hbk ho h256
        go_wp2_with fail
        refine (HAT.out).mono ?_; rintro e w3 ⟨rfl, rfl⟩
        go_wp2
        go_ret3
        exact ⟨(ret_inf a o).trans (by rw [HE.out]), HBA.out⟩
      | false =>
        have HRUN := Lib.hid (hrun rfl)
        have HBK := Lib.hid (block_any w.heap.size (w.heap.size + 1) w.heap.size a lim r s o HSZ.out (by omega) wr hb.size hs)
        clear hrun hdone hs hb
        go_wp2_with fail
        refine (HBK.out).mono ?_; rintro e w3 hps
        cases hn : blockM (srcOf s lim) a o with
        | error k =>
          obtain ⟨r3, hu3, ⟨bb, rfl⟩, hk0, hk1⟩ := hps.of_err hn
          have HE := Lib.hid (HRUN.out _ (.err (show blockStep () (srcOf s lim) a o = _ from bind_err hn)))
          have hne : ((k : Int) == 0) = false := by rw [beq_eq_false_iff_ne]; omega
          have HB3 := Lib.hid (HBA.out.trans (hu3.below HSA.out HBA.out.size))
          clear hn hps hu3
          go_wp2
          go_ret3
          refine ⟨?_, HB3.out⟩
          rw [HE.out]
          rfl
        | ok q =>
          obtain ⟨bb, a3, o3⟩ := q
          obtain ⟨r3, hu3, hok, hs3⟩ := hps.of_ok hn
          unfold bkOk at hok
          subst hok
          have hlt := blk_grow (src := srcOf s lim) hale (by show 8 * s.size % 8 = 0; omega) hn
          have hle3 := hs3.le
          have HB3 := Lib.hid (HBA.out.trans (hu3.below HSA.out HBA.out.size))
          have HS3 := Lib.hid hs3
          have HF : Hid (bb = false → ∀ ans, Runs blockStep (srcOf s lim) () a3 o3 ans → AN = ans) := fun hbb ans h => by
            subst hbb
            exact HRUN.out ans (.more (show blockStep () (srcOf s lim) a o = .ok (.inl (), a3, o3) from (bind_ok hn).trans rfl) h)
          have HTR : Hid (bb = true → AN = .ok ((), a3, o3)) := fun hbb => by
            subst hbb
            exact HRUN.out _ (.done (show blockStep () (srcOf s lim) a o = .ok (.inr (), a3, o3) from (bind_ok hn).trans rfl))
          clear hn hps hu3 hs3
          go_wp2
          go_roundw
          case rel => exact ⟨bb, a3, o3, r3, rfl, HF.out, HTR.out, HS3.out, HB3.out⟩
          case measure =>
            rw [rdAt_of HS3.out.rd, HM.out]
            omega
end Go.Proofs.Ytbgclbnbnpnolaa
