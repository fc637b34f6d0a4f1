/-
 slices.Repeat and slices.Concat of bytes (out of stage 4's XInfI and XInfJ; a row may have room).
 block: what is wrong with what is to be a block; a stored text put; two codes made; the fixed ones.
 block: the fixed codes.
-/
import Derived.Test.YtmkeicfklbepnaaGreatPkAE
import Derived.Test.YtmkeicfklbepnaaGreatPkAB
import Derived.Deep.RegionHeld3
import Derived.Laws.BitsAllLaws
import Derived.Laws.CopyOwn
import Derived.Deep.OwnRows
import Derived.Laws.OwnMore
import Derived.BigRegion
import Derived.Deep.DeepMust
import Derived.Lib.AppendZerosOnto
import Derived.Maps.AppendAt
import Derived.Test.YtmkeicfklbepnaaGreatPkCE

namespace Go.Proofs.YtmkeicfklbepnaaGreat.Ij
set_option maxRecDepth 100000
open Go.RowKit Go.Deep Go.Joins

theorem mul64_one (n : Nat) (hn : n ≤ 1000000) (w : World) : Calls Tryz.prog 114 #[.int .u64 1, .int .u64 n] w fun e w' => e = .returned (.tuple #[.int .u64 0, .int .u64 n]) ∧ w = w' := by
 have h1 : bits .and .u64 1 4294967295 = 1 := by decide
 have h2 : bits .and .u64 (n : Int) 4294967295 = (n : Int) := by
  have := u64_and_nat n 4294967295 (by omega) (by omega)
  rw [show (4294967295 : Nat) = 2 ^ 32 - 1 from rfl, Nat.and_two_pow_sub_one_eq_mod, Nat.mod_eq_of_lt (by omega)] at this
  exact this
 have h3 : bits .and .u64 0 4294967295 = 0 := by decide
 have h4 : (n : Int) / 4294967296 = 0 := by omega
 have h5 : (n : Int) / 2 ^ 32 = 0 := by omega
 go_enter Tryz.func114, Tryz.ntmps114
 go_wp2
 go_ret2
 exact ⟨by simp, rfl⟩
theorem mul_one (n : Nat) (hn : n ≤ 1000000) (w : World) : Calls Tryz.prog 100 #[.int .u64 1, .int .u64 n] w fun e w' => e = .returned (.tuple #[.int .u64 0, .int .u64 n]) ∧ w = w' := by
 go_enter Tryz.func100, Tryz.ntmps100
 go_wp2_with (go_at_call 114; refine (mul64_one n hn _).mono ?_; rintro e w' ⟨rfl, rfl⟩)
 go_ret2
 exact ⟨rfl, rfl⟩

/-- A row of bytes, so many of them laid down. -/
def fillB (n k x : Nat) : List Value := List.replicate k (.int .u8 (x : Nat)) ++ List.replicate (n - k) (.int .u8 0)
theorem fillB_len (n k x : Nat) (h : k ≤ n) : (fillB n k x).length = n := by simp [fillB]; omega
theorem fillB_at (n k x i : Nat) (h : i < k) : (fillB n k x)[i]? = some (.int .u8 (x : Nat)) := by
 unfold fillB
 rw [List.getElem?_append_left (by simpa using h), List.getElem?_replicate, if_pos h]
theorem fillB_zero (n x : Nat) : madeCells #[.int .u8 0] n = (fillB n 0 x).toArray := by
 apply Array.ext'
 rw [toList_madeCells_one]
 simp [fillB]
theorem fillB_splice (n k m x : Nat) (h : k + m ≤ n) : splice (fillB n k x) k (List.replicate m (.int .u8 (x : Nat))) = fillB n (k + m) x := by
 unfold splice fillB
 rw [List.length_replicate, List.take_append_of_le_length (by simp), List.take_of_length_le (by simp), List.drop_append, List.drop_eq_nil_of_le (by simp), List.length_replicate, List.drop_replicate, List.nil_append, ← List.append_assoc, List.replicate_append_replicate, show n - k - (k + m - k) = n - (k + m) by omega]
theorem fillB_full (n x : Nat) : fillB n n x = cells8 (List.replicate n x) := by simp [fillB, cells8]

set_option maxHeartbeats 4000000 in
theorem repeat_any (gx n x : Nat) (h1 : 1 ≤ n) (hn : n ≤ 1000) (w : World) (hgx : gx < w.heap.size) (hc : w.cell? ⟨gx, 0, none⟩ = some (.int .u8 (x : Nat))) :
  Calls Tryz.prog 81 #[.slice (some ⟨gx, 0, none⟩) 1 1, .int .i64 n] w fun e w' => e = .returned (.slice (some ⟨w.heap.size, 0, none⟩) n n) ∧ w'.heap[w.heap.size]? = some (.cells (cells8 (List.replicate n x)).toArray 5 (0, 0)) ∧ Below w.heap.size w w' := by
 have HM := Lib.hid (mul_one n (by omega))
 have hmk := run_make_row' (P := Tryz.prog) 37 5 (.int .u8 0) 1 Tryz.underlying37 info8 rfl .i64 .i64 n (by omega) (by omega)
 have hB0 : Below w.heap.size w (w.alloc (.cells (madeCells #[.int .u8 0] n) 5)) := (Below.refl _ _).alloc (Nat.le_refl _) _
 have hg0 : (w.alloc (.cells (madeCells #[.int .u8 0] n) 5)).heap[w.heap.size]? = some (.cells (fillB n 0 x).toArray 5 (0, 0)) := by rw [fillB_zero n x]; exact heap_alloc_new w _
 have hc0 : (w.alloc (.cells (madeCells #[.int .u8 0] n) 5)).cell? ⟨gx, 0, none⟩ = some (.int .u8 (x : Nat)) := (hB0.cell (p := ⟨gx, 0, none⟩) hgx).trans hc
 have HCC := Lib.hid hc
 have HB0 := Lib.hid hB0
 have HG0 := Lib.hid hg0
 have HC0 := Lib.hid hc0
 have hwn : IntKind.u64.wrap (n : Int) = (n : Int) := by rw [IntKind.wrap_u64]; omega
 have hwi : IntKind.i64.wrap (n : Int) = (n : Int) := by rw [IntKind.wrap_i64]; omega
 have hsz1 : (Tryz.prog.info? 5).map (·.size) = some 1 := by kernel_rfl
 clear hB0 hg0 hc0
 go_enter Tryz.func81, Tryz.ntmps81
 have hlt0 : decide ((n : Int) < 0) = false := decide_eq_false (by omega)
 have hlt1 : decide ((9223372036854775807 : Int) < (n : Int)) = false := decide_eq_false (by omega)
 go_wp2_with fail
 refine (HM.out _).mono ?_; rintro e w' ⟨rfl, rfl⟩
 go_wp2_with (with_reducible refine wpList_copy_splice rfl (.tmp 31) (.tmp 32) 37 37 rfl 5 Tryz.underlying37 hsz1 (some ⟨w.heap.size, 0, none⟩) (some ⟨gx, 0, none⟩) n n 1 1 rfl rfl w.heap.size 0 (fillB n 0 x) 5 HG0.out [.int .u8 (x : Nat)] ?c1 ?c2 ?c3 ?c4 w.heap.size w HB0.out (Nat.le_refl _) ?_)
 case c1 => show 1 = min 1 n; omega
 case c2 =>
  intro j v hj
  cases j with
  | zero =>
   simp at hj
   subst hj
   exact HCC.out
  | succ j => simp at hj
 case c3 => rw [fillB_len n 0 x (by omega)]; simp; omega
 case c4 => intro v hv; simp at hv; subst hv; rfl
 intro w1 hg1 hb1
 have HG1 : Hid (w1.heap[w.heap.size]? = some (.cells (fillB n 1 x).toArray 5 (0, 0))) := by
  have h := hg1.out
  have e := fillB_splice n 0 1 x (by omega)
  rw [show List.replicate 1 (Value.int .u8 (x : Nat)) = [.int .u8 (x : Nat)] from rfl] at e
  rw [e] at h
  exact h
 have HB1 := Lib.hid hb1
 clear hg1 hb1 hmk HG0 HC0 HB0 HM hc HCC
 go_wp2_with fail
 go_loopw [8] (fun i wr => ∃ k : Nat, 1 ≤ k ∧ k ≤ n ∧ i = .int .i64 (k : Nat) ∧ wr.heap[w.heap.size]? = some (.cells (fillB n k x).toArray 5 (0, 0)) ∧ Below w.heap.size w wr) (fun i _ => n - (intOf i).toNat)
 case atStart => exact ⟨1, Nat.le_refl _, h1, rfl, HG1.out, HB1.out⟩
 case round =>
  obtain ⟨k, hk1, hkn, rfl, hg, hb⟩ := hrel
  have HG := Lib.hid hg
  have HB := Lib.hid hb
  by_cases hlt : k < n
  ·obtain ⟨m, hm, hmn, hm0⟩ : ∃ m, m = min k (n - k) ∧ k + m ≤ n ∧ 0 < m := ⟨_, rfl, by omega, by omega⟩
   have HM := Lib.hid hm
   clear hg hb hm
   have hgo : goInt (List.replicate m (Value.int .u8 (x : Nat))).length = .int .i64 (m : Nat) := by rw [List.length_replicate]; rfl
   have hkm : IntKind.i64.wrap ((k : Int) + (m : Int)) = (k : Int) + (m : Int) := by rw [IntKind.wrap_i64]; omega
   have hkn1 : (k : Int) ≤ (n : Int) := by omega
   have hnk : ¬ n = k := by omega
   go_wp2_with fail
   have HSRC : Hid (∀ j v, (List.replicate m (Value.int .u8 (x : Nat)))[j]? = some v → wr.drew.cell? ((⟨w.heap.size, 0, none⟩ : Addr).add j) = some v) := by
    intro j v hj
    rw [List.getElem?_replicate] at hj
    split at hj
    ·injection hj with hj
     subst hj
     rw [Addr.add_lit, Nat.zero_add]
     refine (cell_of_row wr.drew w.heap.size j _ _ _ HG.out).trans ?_
     rw [List.getElem?_toArray]
     exact fillB_at n k x j (by have := HM.out; omega)
    ·cases hj
   have HFIT : Hid (k + (List.replicate m (Value.int .u8 (x : Nat))).length ≤ (fillB n k x).length) := by
    show _ ≤ _
    rw [List.length_replicate, fillB_len n k x (by omega)]
    exact hmn
   have HONE : Hid (∀ v ∈ List.replicate m (Value.int .u8 (x : Nat)), v.oneCell' = true) := by
    intro v hv
    rw [List.mem_replicate] at hv
    obtain ⟨_, rfl⟩ := hv
    rfl
   have HLEN : Hid ((List.replicate m (Value.int .u8 (x : Nat))).length = Nat.min k (n - k)) := by
    show _ = _
    rw [List.length_replicate]
    exact HM.out
   have HGD : Hid (wr.drew.heap[w.heap.size]? = some (.cells (fillB n k x).toArray 5 (0, 0))) := HG.out
   have HBD := Lib.hid (HB.out.drew)
   have HSPL := Lib.hid (fillB_splice n k m x hmn)
   obtain ⟨cs, hcs⟩ : ∃ cs, cs = List.replicate m (Value.int .u8 (x : Nat)) := ⟨_, rfl⟩
   rw [← hcs] at HSRC HFIT HONE HLEN HSPL hgo
   generalize fillB n k x = cur at *
   clear hcs
   go_region_law (first | (go_must (refine step_copy_splice (by rfl) (.tmp 41) (.tmp 44) 37 37 (by rfl) 5 Tryz.underlying37 hsz1 (some ⟨w.heap.size, k, none⟩) (some ⟨w.heap.size, 0, none⟩) (n - k) (n - k) k n (by simp [Act.eval, Act.put]) (by simp [Act.eval, Act.put]) w.heap.size k cur 5 (by exact HGD.out) cs (by exact HLEN.out) (fun _ => ⟨rfl, _, rfl, HSRC.out⟩) (by exact HFIT.out) (by exact HONE.out) w.heap.size w (by exact HBD.out) (Nat.le_refl _) ?_; intro w4 hg4 hb4; rw [hgo])) | fail)
   all_goals
    have HG5 : Hid (w4.heap[w.heap.size]? = some (.cells (fillB n (k + m) x).toArray 5 (0, 0))) := by
     have h := hg4.out
     rw [HSPL.out] at h
     exact h
    have HB5 := Lib.hid hb4
    clear hg4 hb4 HSPL HBD HGD HLEN HONE HFIT HSRC
    simp only [Act.put, List.getElem_toArray, List.getElem_cons_zero, List.getElem_cons_succ, List.setIfInBounds_toArray, List.set_cons_zero, List.set_cons_succ]
    go_wp2
    go_roundw
    case rel => exact ⟨k + m, by omega, hmn, by go_num, HG5.out, HB5.out⟩
    case measure => simp [intOf]; omega
  ·obtain rfl : k = n := by omega
   rw [fillB_full] at hg
   have HGF := Lib.hid hg
   clear hg hb HG
   go_wp2_with fail
   go_ret
   exact ⟨rfl, HGF.out, HB.out⟩
end Go.Proofs.YtmkeicfklbepnaaGreat.Ij

namespace Go.Proofs.YtmkeicfklbepnaaGreat.Ij
set_option maxRecDepth 100000
open Go.RowKit Go.Deep Go.Joins

set_option maxHeartbeats 2000000 in
theorem grow_any (B n : Nat) (h1 : 1 ≤ n) (hn : n ≤ 1000000) (w : World) (hB : B ≤ w.heap.size) :
  Calls Tryz.prog 97 #[.slice none 0 0, .int .i64 n] w fun e w' => ∃ G, e = .returned (.slice (some ⟨w.heap.size, 0, none⟩) 0 G) ∧ w'.ownsRow B 5 1 (.slice (some ⟨w.heap.size, 0, none⟩) 0 G) 0 [] ∧ Below w.heap.size w w' := by
 obtain ⟨i0, hi, hz0, hz1, hz2⟩ := info_parts info8
 have h3 : ¬ ((n : Int) < 0) := by omega
 have h4 : (n : Int) > 0 := by omega
 have hold : (Builtin.firstCells i0.size 0 (.slice none 0 0)).run Tryz.prog w.drew = .ok (#[] : Array Value) w.drew := run_firstCells_none w.drew i0.size 0 0 0
 have hrz : ∀ ty, (Builtin.append_ #[37, 3] ty #[.slice none 0 0, .int .i64 (n : Int)]).run Tryz.prog w =
   .ok (.slice (some ⟨w.heap.size, 0, none⟩) n (grownCap w n 0 5)) (w.drew.alloc (.cells (#[] ++ Builtin.zeroCells (Value.int .u8 0).cells n ++ Builtin.zeroCells (Value.int .u8 0).cells (grownCap w n 0 5 - n)) 5)) := fun ty => by
  have h := Lib.run_append_grow_zeros w 37 3 ty 5 i0 (.int .u8 0) .i64 .i64 Tryz.underlying37 Tryz.underlying3 hi hz0 none 0 0 [] (by simpa using hold) n (by omega) (by omega) (by omega) (by omega) (by rw [hz2]; omega) (by rw [Nat.zero_add]; exact growslice_fits (by omega) (by rw [hz2]; omega))
  rw [Nat.zero_add] at h
  exact h
 have hGn : n ≤ grownCap w n 0 5 := grownCap_ge w _ _ _
 have hGm := grownCap_le_maxLen w n 0 5 (by unfold maxLen; omega)
 obtain ⟨G, hG⟩ : ∃ G, G = grownCap w n 0 5 := ⟨_, rfl⟩
 rw [← hG] at hrz hGn hGm
 have HGM := Lib.hid hGm
 have hG63 : G ≤ 9223372036854775807 := by unfold maxLen at hGm; omega
 have HW : Hid ((w.alloc (.cells (Builtin.zeroCells #[Value.int .u8 0] n ++ Builtin.zeroCells #[Value.int .u8 0] (G - n)) 5)).drew.ownsRow B 5 1 (.slice (some ⟨w.heap.size, 0, none⟩) 0 G) 0 []) := by
  refine ⟨rfl, .inr ⟨w.heap.size, G, _, rfl, hB, heap_alloc_new w _, Nat.zero_le _, hGm, ?_, rfl⟩⟩
  simp [Builtin.zeroCells]
  omega
 have HBW : Hid (Below w.heap.size w (w.alloc (.cells (Builtin.zeroCells #[Value.int .u8 0] n ++ Builtin.zeroCells #[Value.int .u8 0] (G - n)) 5)).drew) := ((Below.refl _ _).alloc (Nat.le_refl _) _).drew
 clear hold hG hGm
 go_enter Tryz.func97, Tryz.ntmps97
 go_wp2_with (at_builtin; refine Lib.wpList_append_run _ rfl _ _ _ _ rfl _ _ rfl rfl _ _ (hrz _) ?_)
 go_ret
 exact ⟨G, rfl, HW.out, HBW.out⟩

/-- The first k rows, one behind the other. -/
def joinR (rs : Nat → List Nat) : Nat → List Nat
 | 0 => []
 | k + 1 => joinR rs k ++ rs k
theorem joinR_mono (rs : Nat → List Nat) (k : Nat) : ∀ d, (joinR rs k).length ≤ (joinR rs (k + d)).length
 | 0 => Nat.le_refl _
 | d + 1 => by
  rw [← Nat.add_assoc, joinR, List.length_append]
  have := joinR_mono rs k d
  omega
set_option maxHeartbeats 4000000 in
theorem concat_any (gc n : Nat) (gi cp : Nat → Nat) (rs : Nat → List Nat) (h0 : 1 ≤ n) (hn : n ≤ 10) (hlen : ∀ i, i < n → 1 ≤ (rs i).length) (htot : (joinR rs n).length ≤ 100000) (w : World) (hgc : gc < w.heap.size)
  (hc : ∀ i, i < n → w.cell? ⟨gc, i, none⟩ = some (.slice (some ⟨gi i, 0, none⟩) (rs i).length (cp i))) (hr : ∀ i, i < n → gi i < w.heap.size ∧ ∀ q u, (cells8 (rs i))[q]? = some u → w.cell? ⟨gi i, q, none⟩ = some u) :
  Calls Tryz.prog 67 #[.slice (some ⟨gc, 0, none⟩) n n] w fun e w' => ∃ g cap, e = .returned (.slice (some ⟨g, 0, none⟩) (joinR rs n).length cap) ∧ w'.ownsRow w.heap.size 5 1 (.slice (some ⟨g, 0, none⟩) (joinR rs n).length cap) (joinR rs n).length (cells8 (joinR rs n)) ∧ Below w.heap.size w w' := by
 have HC := Lib.hid hc
 have HR := Lib.hid hr
 have HL := Lib.hid hlen
 have hmono : ∀ k, k ≤ n → (joinR rs k).length ≤ (joinR rs n).length := fun k hk => by
  have := joinR_mono rs k (n - k)
  rwa [show k + (n - k) = n by omega] at this
 have HMO := Lib.hid hmono
 have HTOT := Lib.hid htot
 have hpos : 1 ≤ (joinR rs n).length := by
  have h1 := hmono 1 h0
  have h2 := hlen 0 (by omega)
  have h3 : (joinR rs 1).length = (rs 0).length := by rw [joinR, joinR, List.nil_append]
  omega
 have HPOS := Lib.hid hpos
 have HJ := Lib.hid (fun k => show joinR rs (k + 1) = joinR rs k ++ rs k from rfl)
 have HG := Lib.hid (grow_any w.heap.size (joinR rs n).length hpos (by omega) w (Nat.le_refl _))
 clear hc hr hlen hmono htot hpos
 go_enter Tryz.func67, Tryz.ntmps67
 go_wp2_with fail
 go_loop [3, 11] (fun t i => ∃ k : Nat, k ≤ n ∧ i = .int .i64 (k : Nat) ∧ t = .int .i64 ((joinR rs k).length : Nat)) (fun _ i => n - (intOf i).toNat)
 case atStart => exact ⟨0, Nat.zero_le _, rfl, rfl⟩
 case round =>
  obtain ⟨k, hk, rfl, rfl⟩ := hrel
  by_cases hlt : k < n
  ·have hcell := HC.out k hlt
   have hm1 := HMO.out (k + 1) (by omega)
   have hm2 := HMO.out k hk
   have hj := congrArg List.length (HJ.out k)
   rw [List.length_append] at hj
   have HJL := Lib.hid hj
   have htt := HTOT.out
   have hll : (rs k).length ≤ 100000 := by omega
   have hkk : (joinR rs k).length ≤ 100000 := by omega
   clear hm1 hm2 hj htt
   generalize (joinR rs k).length = a at *
   generalize (rs k).length = b at *
   go_wp2_with fail
   go_round
   case rel => exact ⟨k + 1, by omega, by go_num, by rw [HJL.out]; go_num⟩
   case measure => simp [intOf]; omega
  ·obtain rfl : k = n := by omega
   have htt := HTOT.out
   go_wp2_with fail
   refine (HG.out).mono ?_; rintro e w1 ⟨G, rfl, hown, hb⟩
   have HO1 := Lib.hid hown
   have HB1 := Lib.hid hb
   clear hown hb HG
   obtain ⟨i0, hi, hz0, hz1, hz2⟩ := info_parts info8
   go_wp2_with fail
   go_loopw [6, 27] (fun v i wr => ∃ j g cap, j ≤ k ∧ i = .int .i64 (j : Nat) ∧ v = .slice (some ⟨g, 0, none⟩) (joinR rs j).length cap ∧ wr.ownsRow w.heap.size 5 1 v (joinR rs j).length (cells8 (joinR rs j)) ∧ Below w.heap.size w wr) (fun _ i _ => k - (intOf i).toNat)
   case atStart => exact ⟨0, w.heap.size, G, Nat.zero_le _, rfl, rfl, HO1.out, HB1.out⟩
   case round =>
    obtain ⟨j, g, cap, hj, rfl, rfl, ho, hb⟩ := hrel
    have HO := Lib.hid ho
    have HB := Lib.hid hb
    by_cases hjk : j < k
    ·have hcell : wr.cell? ⟨gc, j, none⟩ = some (.slice (some ⟨gi j, 0, none⟩) (rs j).length (cp j)) := (hb.cell (p := ⟨gc, j, none⟩) hgc).trans (HC.out j hjk)
     have hgi := (HR.out j hjk).1
     have HRJ : Hid (∀ q u, (cells8 (rs j))[q]? = some u → wr.cell? ⟨gi j, q, none⟩ = some u) := fun q u hu => (hb.cell (p := ⟨gi j, q, none⟩) hgi).trans ((HR.out j hjk).2 q u hu)
     have hm1 := HMO.out (j + 1) (by omega)
     have hJ := congrArg List.length (HJ.out j)
     rw [List.length_append] at hJ
     have HJL := Lib.hid hJ
     have HJJ := Lib.hid (HJ.out j)
     have hll := HL.out j hjk
     have hsum : (joinR rs j).length + (rs j).length ≤ 100000 := by omega
     have hbase : w.heap.size ≤ wr.heap.size := hb.size
     have HCL : Hid ((cells8 (rs j)).length = (rs j).length) := by show _ = _; simp [cells8]
     have HON : Hid (∀ u ∈ cells8 (rs j), u.oneCell' = true) := by
      intro u hu
      unfold cells8 at hu
      rw [List.mem_map] at hu
      obtain ⟨_, _, rfl⟩ := hu
      rfl
     have HNW : Hid (∀ q u, (cells8 (rs j))[q]? = some u → wr.cell? ((⟨gi j, 0, none⟩ : Addr).add q) = some u) := by
      intro q u hu
      rw [Addr.add_lit, Nat.zero_add]
      exact HRJ.out q u hu
     clear ho hb hm1 hJ
     generalize hNE : cells8 (rs j) = news at *
     generalize hLE : (rs j).length = b at *
     generalize hLA : (joinR rs j).length = a at *
     have HNE := Lib.hid hNE
     clear hNE hLE hLA
     go_wp2_with (at_builtin; refine wpList_append_own_at _ rfl (.tmp 31) (.tmp 32) _ rfl w.heap.size 5 i0 (.int .u8 0) 1 1 Tryz.underlying37 hi hz0 hz1 hz2 rfl (by decide) _ a (cells8 (joinR rs j)) rfl HO.out ⟨gi j, 0, none⟩ b (cp j) news rfl ?c1 ?c2 ?c3 ?c4 ?c5 hbase ?_)
     case c1 => rw [HCL.out, Nat.mul_one]
     case c2 => exact HNW.out
     case c3 => exact HON.out
     case c4 => unfold maxLen; omega
     case c5 => omega
     intro v2 w2 hown hgrow _ hat
     have HB2 := Lib.hid (HB.out.grown hgrow hbase (by
      intro q hq
      have := HO.out.lt q hq
      exact this.1))
     obtain ⟨g2, cap2, hv2⟩ : ∃ g2 cap2, v2 = .slice (some ⟨g2, 0, none⟩) (a + b) cap2 := by
      rcases ownsRow_forms hown with ⟨rfl, h⟩ | ⟨g2, cap2, h⟩
      ·omega
      ·exact ⟨g2, cap2, h⟩
     subst hv2
     have HO2 : Hid (w2.ownsRow w.heap.size 5 1 (.slice (some ⟨g2, 0, none⟩) (a + b) cap2) (a + b) (cells8 (joinR rs (j + 1)))) := by
      show World.ownsRow _ _ _ _ _ _ _
      rw [HJJ.out, cells8_app, HNE.out]
      exact hown
     clear hown hgrow hat
     go_wp2
     go_roundw
     case rel => exact ⟨j + 1, g2, cap2, by omega, by go_num, by rw [HJL.out], by rw [HJL.out]; exact HO2.out, HB2.out⟩
     case measure => simp [intOf]; omega
    ·obtain rfl : j = k := by omega
     clear ho hb
     go_wp2_with fail
     go_ret
     exact ⟨g, cap, rfl, HO.out, HB.out⟩
end Go.Proofs.YtmkeicfklbepnaaGreat.Ij

namespace Go.Proofs.YtmkeicfklbepnaaGreat
set_option maxRecDepth 100000
open Go.RowKit Go.Joins Go.Deep

/-- The first that is wrong. -/
def chkE (kind : Int) (f : Nat → Tok) (n : Nat) (s : ByteArray) : Int := if kind < 0 ∨ 2 < kind then 2 else if ∀ i, i < n → rightT (f i) = true then (if kind = 0 ∧ 65535 < s.size then 5 else 0) else 8
set_option maxHeartbeats 1000000 in
theorem check_any (kind : Int) (A : Option Addr) (n cap : Nat) (f : Nat → Tok) (s : ByteArray) (w : World) (hT : Toks w A n f) (hn : n ≤ 1000000) :
  Calls Tryz.prog 51 #[.int .i64 kind, .slice A n cap, .string s] w fun e w' => e = .returned (.int .i64 (chkE kind f n s)) ∧ Below w.heap.size w w' := by
 obtain ⟨X, hX⟩ : ∃ X, X = chkE kind f n s := ⟨_, rfl⟩
 rw [← hX]
 unfold chkE at hX
 by_cases hk : kind < 0 ∨ 2 < kind
 ·rw [if_pos hk] at hX
  subst hX
  rcases hk with hk | hk
  ·have h2 : ¬ 2 < kind := by omega
   go_enter Tryz.func51, Tryz.ntmps51
   go_wp2
   go_ret
   exact ⟨rfl, Below.refl _ _⟩
  ·have h2 : ¬ kind < 0 := by omega
   go_enter Tryz.func51, Tryz.ntmps51
   go_wp2
   go_ret
   exact ⟨rfl, Below.refl _ _⟩
 ·rw [if_neg hk] at hX
  have HX := Lib.hid hX
  clear hX
  have h1 : ¬ kind < 0 := by omega
  have h2 : ¬ 2 < kind := by omega
  have hit := info_tok
  have HT := Lib.hid hT
  clear hT hk
  go_enter Tryz.func51, Tryz.ntmps51
  go_wp2_with fail
  go_loopw [17] (fun i wr => ∃ k : Nat, k ≤ n ∧ i = .int .i64 (k : Nat) ∧ Hid (∀ j, j < k → rightT (f j) = true) ∧ Hid (Below w.heap.size w wr)) (fun i _ => n - (intOf i).toNat)
  case atStart => exact ⟨0, Nat.zero_le _, rfl, fun j h => by omega, Below.refl _ _⟩
  case round =>
   obtain ⟨k, hk, rfl, HK, HB⟩ := hrel
   by_cases hkn : k < n
   ·obtain ⟨b, off, rfl, hbl, hc⟩ := (HT.out.below (Nat.le_refl _) HB.out) (by omega)
    obtain ⟨_, c0, c1, c2⟩ := hc k hkn
    have HRT := Lib.hid (right_any (f k))
    have HSTEP : Hid (rightT (f k) = true → ∀ j, j < k + 1 → rightT (f j) = true) := fun h j hj => by
     by_cases e : j = k
     ·subst e; exact h
     ·exact HK.out j (by omega)
    have HNO : Hid (rightT (f k) = false → ¬ ∀ i, i < n → rightT (f i) = true) := fun h h2 => by rw [h2 k hkn] at h; cases h
    have HBA := Lib.hid (HB.out.trans (((Below.refl wr.heap.size wr).alloc (Nat.le_refl _) (.cells #[.int .u8 ((f k).b : Nat), .int .i64 (f k).l, .int .i64 (f k).d] 76)).mono HB.out.size))
    have HSZ : Hid (w.heap.size ≤ (wr.alloc (.cells #[.int .u8 ((f k).b : Nat), .int .i64 (f k).l, .int .i64 (f k).d] 76)).heap.size) := HBA.out.size
    clear hc
    generalize f k = U at *
    generalize hrt : rightT U = r at *
    clear hrt
    obtain ⟨tb, tl, td⟩ := U
    unfold valT at HRT
    dsimp only at *
    go_wp2_with fail
    generalize wr.alloc (.cells #[.int .u8 (tb : Nat), .int .i64 tl, .int .i64 td] 76) = w6 at *
    refine (HRT.out _).mono ?_; rintro e w7 ⟨rfl, hb7⟩
    have HB7 := Lib.hid (HBA.out.trans (hb7.mono HSZ.out))
    clear hb7
    cases r with
    | false =>
     have hx8 : X = 8 := HX.out.trans (if_neg (HNO.out (by trivial)))
     subst hx8
     go_wp2_with fail
     go_ret
     exact ⟨rfl, HB7.out⟩
    | true =>
     go_wp2_with fail
     go_roundw
     case rel => exact ⟨k + 1, by omega, by go_num, HSTEP.out (by trivial), HB7⟩
     case measure => simp [intOf]; omega
   ·obtain rfl : k = n := by omega
    have HALL := HK
    by_cases h0 : kind = 0
    ·by_cases hs : 65535 < s.size
     ·have hx5 : X = 5 := HX.out.trans ((if_pos HALL.out).trans (if_pos ⟨h0, hs⟩))
      subst hx5 h0
      go_wp2_with fail
      go_ret
      exact ⟨rfl, HB.out⟩
     ·have hx0 : X = 0 := HX.out.trans ((if_pos HALL.out).trans (if_neg (by omega)))
      subst hx0 h0
      have hs2 : ¬ (65535 : Int) < s.size := by omega
      go_wp2_with fail
      go_ret
      exact ⟨rfl, HB.out⟩
    ·have hd : (kind == 0) = false := by rw [beq_eq_false_iff_ne]; exact h0
     have hx0 : X = 0 := HX.out.trans ((if_pos HALL.out).trans (if_neg (by omega)))
     subst hx0
     go_wp2_with fail
     go_ret
     exact ⟨rfl, HB.out⟩

theorem not32 (x : Nat) (hx : x < 4294967296) : bits .xor .u32 IntKind.u32.max (x : Int) = ((4294967295 - x : Nat) : Int) := by
 have h := u32_xor_nat 4294967295 x (by decide) hx
 rw [show ((4294967295 : Nat) : Int) = IntKind.u32.max from rfl] at h
 rw [h]
 congr 1
 apply Nat.eq_of_testBit_eq
 intro i
 have h1 := Nat.testBit_two_pow_sub_one 32 i
 have h2 := Nat.testBit_two_pow_sub_succ (n := 32) (x := x) (by exact hx) i
 rw [show (2 : Nat) ^ 32 - 1 = 4294967295 from rfl] at h1
 rw [show (2 : Nat) ^ 32 - (x + 1) = 4294967295 - x by omega] at h2
 rw [Nat.testBit_xor, h1, h2]
 by_cases hi : i < 32
 ·simp [hi]
 ·have : x.testBit i = false := Nat.testBit_lt_two_pow (Nat.lt_of_lt_of_le hx (show 4294967296 ≤ 2 ^ i from Nat.pow_le_pow_right (n := 2) (by omega) (show 32 ≤ i by omega)))
  simp [hi, this]
/-- A stored text behind bits. -/
def stB (s : ByteArray) (P : Bs) : Bs := (((Bs.app (P.1, up8 P.2) (wB s.size 16)).app (wB (65535 - s.size) 16)).app (num s, 8 * s.size))
set_option maxHeartbeats 1000000 in
theorem stored_put (Bw gw : Nat) (s : ByteArray) (r : Option Nat) (P : Bs) (hs : s.size ≤ 65535) (hL : P.2 ≤ 100000000) (w : World) (hB : Bw ≤ w.heap.size) (hw : WrB w Bw gw r P) :
  Calls Tryz.prog 53 #[.pointer (some ⟨gw, 0, none⟩), .string s] w fun e w' => e = .returned (.tuple #[]) ∧ Emits w Bw gw r (stB s P) w' := by
 have hu8 := up8_le P.2
 have hu9 := up8_ge P.2
 have hum := up8_mod P.2
 have HA := Lib.hid (walign_any Bw gw r P.1 P.2 (by omega) w hB hw)
 have H1 := Lib.hid (fun r1 w1 (h1 : Bw ≤ w1.heap.size) (h2 : WrB w1 Bw gw r1 (P.1, up8 P.2)) => write_b Bw gw s.size 16 r1 (P.1, up8 P.2) (by show up8 P.2 ≤ _; omega) (by omega) (by omega) w1 h1 h2)
 have H2 := Lib.hid (fun r1 w1 (h1 : Bw ≤ w1.heap.size) (h2 : WrB w1 Bw gw r1 (Bs.app (P.1, up8 P.2) (wB s.size 16))) => write_b Bw gw (4294967295 - s.size) 16 r1 (Bs.app (P.1, up8 P.2) (wB s.size 16)) (by show up8 P.2 + 16 ≤ _; omega) (by omega) (by omega) w1 h1 h2)
 have e2 : wB (4294967295 - s.size) 16 = wB (65535 - s.size) 16 := by
  unfold wB
  congr 1
  show (4294967295 - s.size) % 65536 = (65535 - s.size) % 65536
  omega
 rw [e2] at H2
 have H3 := Lib.hid (fun r1 w1 (h1 : Bw ≤ w1.heap.size) (h2 : WrB w1 Bw gw r1 ((Bs.app (P.1, up8 P.2) (wB s.size 16)).app (wB (65535 - s.size) 16))) => wbytes_any Bw gw r1 _ _ s (by show up8 P.2 + 16 + 16 ≤ _; omega) (by omega) w1 h1 h2)
 have e3 : up8 ((Bs.app (P.1, up8 P.2) (wB s.size 16)).app (wB (65535 - s.size) 16)).2 = ((Bs.app (P.1, up8 P.2) (wB s.size 16)).app (wB (65535 - s.size) 16)).2 := by
  show up8 (up8 P.2 + 16 + 16) = up8 P.2 + 16 + 16
  generalize up8 P.2 = u at *
  unfold up8
  omega
 rw [e3] at H3
 have hwu : IntKind.u32.wrap (s.size : Int) = (s.size : Int) := by rw [IntKind.wrap_u32]; omega
 clear hw hu8 hu9 hum e2 e3
 go_enter Tryz.func53, Tryz.ntmps53
 go_wp2_with fail
 refine (HA.out).mono ?_; rintro e w1 ⟨rfl, r1, hw1, hu1⟩
 have hB1 : Bw ≤ w1.heap.size := Nat.le_trans hB hu1.1.size
 have HC1 := Lib.hid (H1.out r1 w1 hB1 hw1)
 have HU1 := Lib.hid hu1
 clear hw1 hu1 HA H1
 go_wp2_with fail
 refine (HC1.out).mono ?_; rintro e w2 ⟨rfl, r2, hw2, hu2⟩
 have hB2 : Bw ≤ w2.heap.size := Nat.le_trans hB1 hu2.1.size
 have HC2 := Lib.hid (H2.out r2 w2 hB2 hw2)
 have HU2 := Lib.hid (HU1.out.then hu2)
 have hxor := not32 s.size (by omega)
 clear hw2 hu2 HC1 H2 HU1
 go_wp2_with fail
 refine (HC2.out).mono ?_; rintro e w3 ⟨rfl, r3, hw3, hu3⟩
 have hB3 : Bw ≤ w3.heap.size := Nat.le_trans hB2 hu3.1.size
 have HC3 := Lib.hid (H3.out r3 w3 hB3 hw3)
 have HU3 := Lib.hid (HU2.out.then hu3)
 clear hw3 hu3 HC2 H3 HU2 hxor
 go_wp2_with fail
 refine (HC3.out).mono ?_; rintro e w4 ⟨rfl, r4, hw4, hu4⟩
 have HE : Hid (Emits w Bw gw r (stB s P) w4) := Emits.then HU3.out ⟨r4, hw4, hu4⟩
 clear hw4 hu4
 go_wp2_with fail
 go_end0
 exact ⟨rfl, HE.out⟩

/-! ## Two codes -/
theorem two_cellsB {w : World} {g : Nat} {a b x y : Value} {T : TypeId} (h : w.heap[g]? = some (.cells #[a, b] T (0, 0))) : ((w.setCell ⟨g, 0, none⟩ x).setCell ⟨g, 1, none⟩ y).heap[g]? = some (.cells #[x, y] T (0, 0)) := by
 have h1 := heap_setCell_same w g 0 _ _ x h
 have h2 := heap_setCell_same _ g 1 _ _ y h1
 simpa using h2
theorem code_set {w : World} {g i gc : Nat} {v : Value} {cs : Array Value} {c : Cod} {f : Nat × Nat} (h : CodeAt w gc c) (hb : w.heap[g]? = some (.cells cs 107 f)) : CodeAt (w.setCell ⟨g, i, none⟩ v) gc c := by
 obtain ⟨⟨B, bm, A, cp, hb0, ho, hm, h1, h2⟩, h3⟩ := h
 have hne : ∀ {j : Nat} {o : Obj}, w.heap[j]? = some o → (∀ cs' f', o ≠ .cells cs' 107 f') → (w.setCell ⟨g, i, none⟩ v).heap[j]? = some o := fun {j} {o} h0 hn => by
  refine (Below.heap_setCell _ _ _ _ ?_).trans h0
  intro e
  have e2 : j = g := e
  subst e2
  rw [hb] at h0
  injection h0 with h0
  exact hn _ _ h0.symm
 refine ⟨⟨B, bm, A, cp, hne hb0 (fun cs' f' e => by injection e with _ e _; revert e; decide), row_kept' ho (fun b e => ?_), map_stay hm ?_, h1, h2⟩, h3⟩
 ·rcases ho.2 with ⟨h0, _⟩ | ⟨g2, cap2, cur, h0, _, hb2, _⟩
  ·rw [h0] at e
   cases e
  ·rw [h0] at e
   injection e with e
   subst e
   rw [hb2, hne hb2 (fun cs' f' e => by injection e with _ e _; revert e; decide)]
 ·obtain ⟨es, clock, hm0, r⟩ := hm
  rw [hm0, hne hm0 (fun cs' f' e => by cases e)]
/-- What is answered with two codes. -/
def CodsOk (c d : Cod) (e : Ending) (w' : World) : Prop := ∃ gs gd, e = .returned (CodV gs gd) ∧ CodeAt w' gs c ∧ CodeAt w' gd d
set_option maxHeartbeats 2000000 in
theorem bpair_ok (A1 A2 : Option Addr) (cap1 cap2 : Nat) (c d : Cod) (hnc : c.n ≤ 4096) (hnd : d.n ≤ 4096) (h15c : ∀ i, i < c.n → c.ls i ≤ 15) (h15d : ∀ i, i < d.n → d.ls i ≤ 15) (hmc : may c true) (hmd : may d true) (w : World) (hLc : Lens w A1 c.n c.ls) (hLd : Lens w A2 d.n d.ls) :
  Calls Tryz.prog 82 #[.slice A1 c.n cap1, .slice A2 d.n cap2] w fun e w' => CodsOk c d e w' ∧ Below w.heap.size w w' := by
 have hb0 : Below w.heap.size w (w.alloc (.cells #[.pointer none, .pointer none] 107)) := (Below.refl _ _).alloc (Nat.le_refl _) _
 have HRB : Hid ((w.alloc (.cells #[.pointer none, .pointer none] 107)).heap[w.heap.size]? = some (.cells #[.pointer none, .pointer none] 107 (0, 0))) := heap_alloc_new w _
 have HN1 := Lib.hid (code_new A1 cap1 true c hnc h15c hmc _ (hLc.below (Nat.le_refl _) hb0))
 have HN2 := Lib.hid (fun w1 (h : Below w.heap.size w w1) => code_new A2 cap2 true d hnd h15d hmd w1 (hLd.below (Nat.le_refl _) h))
 have HB0 := Lib.hid hb0
 clear hb0 hLc hLd hmc hmd h15c h15d
 go_enter Tryz.func82, Tryz.ntmps82
 go_wp2_with fail
 refine (HN1.out).mono ?_; rintro e w1 ⟨gs, rfl, hc1, hb1⟩
 have HB1 := Lib.hid (HB0.out.trans (hb1.mono (by simp)))
 have HR1 : Hid (w1.heap[w.heap.size]? = some (.cells #[.pointer none, .pointer none] 107 (0, 0))) := (hb1.block _ (by simp)).trans HRB.out
 have HC1 := Lib.hid hc1
 clear hc1 hb1 HRB
 go_wp2_with fail
 refine (HN2.out w1 HB1.out).mono ?_; rintro e w2 ⟨gd, rfl, hd2, hb2⟩
 have HB2 := Lib.hid (HB1.out.trans (hb2.mono HB1.out.size))
 have hr2 : w2.heap[w.heap.size]? = some (.cells #[.pointer none, .pointer none] 107 (0, 0)) := (hb2.block _ (lt_of_heap HR1.out)).trans HR1.out
 have HC2 := Lib.hid (HC1.out.far (farW_below hb2))
 have HD2 := Lib.hid hd2
 have f0 := frozen_of_row w2 _ 0 _ _ hr2
 have f1 := frozen_of_row w2 _ 1 _ _ hr2
 have e0 : w2.cell? ⟨w.heap.size, 0, none⟩ = some (.pointer none) := by rw [cell_of_row w2 _ 0 _ _ _ hr2]; rfl
 have e1 : w2.cell? ⟨w.heap.size, 1, none⟩ = some (.pointer none) := by rw [cell_of_row w2 _ 1 _ _ _ hr2]; rfl
 have HR2 := Lib.hid hr2
 clear hd2 hb2 hr2
 go_wp2
 have hr3 := two_cellsB (x := .pointer (some ⟨gs, 0, none⟩)) (y := .pointer (some ⟨gd, 0, none⟩)) HR2.out
 have hb3 : Below w.heap.size w ((w2.setCell ⟨w.heap.size, 0, none⟩ (.pointer (some ⟨gs, 0, none⟩))).setCell ⟨w.heap.size, 1, none⟩ (.pointer (some ⟨gd, 0, none⟩))) := (HB2.out.setCell (Nat.le_refl _) _).setCell (Nat.le_refl _) _
 have hq := heap_setCell_same w2 w.heap.size 0 _ _ (.pointer (some ⟨gs, 0, none⟩)) HR2.out
 have hc3 := code_set (i := 1) (v := .pointer (some ⟨gd, 0, none⟩)) (code_set (i := 0) (v := .pointer (some ⟨gs, 0, none⟩)) HC2.out HR2.out) hq
 have hd3 := code_set (i := 1) (v := .pointer (some ⟨gd, 0, none⟩)) (code_set (i := 0) (v := .pointer (some ⟨gs, 0, none⟩)) HD2.out HR2.out) hq
 generalize hw3 : (w2.setCell ⟨w.heap.size, 0, none⟩ (.pointer (some ⟨gs, 0, none⟩))).setCell ⟨w.heap.size, 1, none⟩ (.pointer (some ⟨gd, 0, none⟩)) = w3 at *
 refine bodyPost_ret (results_cell_row rfl _ _ w.heap.size 107 #[.pointer (some ⟨gs, 0, none⟩), .pointer (some ⟨gd, 0, none⟩)] (0, 0) _ rfl hr3 Tryz.underlying107 rfl info_bcodes) rfl ⟨⟨gs, gd, rfl, hc3, hd3⟩, hb3⟩
end Go.Proofs.YtmkeicfklbepnaaGreat

namespace Go.Proofs.YtmkeicfklbepnaaGreat
set_option maxRecDepth 100000
open Go.RowKit Go.Joins Go.Deep

theorem bsame_any (n x : Nat) (h1 : 1 ≤ n) (hn : n ≤ 1000) (w : World) :
  Calls Tryz.prog 80 #[.int .i64 n, .int .u8 x] w fun e w' => ∃ gB, e = .returned (.slice (some ⟨gB, 0, none⟩) n n) ∧ w'.heap[gB]? = some (.cells (cells8 (List.replicate n x)).toArray 5 (0, 0)) ∧ w.heap.size ≤ gB ∧ Below w.heap.size w w' := by
 have hb0 : Below w.heap.size w (w.alloc (.cells #[.int .u8 (x : Nat)] 5)) := (Below.refl _ _).alloc (Nat.le_refl _) _
 have hc0 : (w.alloc (.cells #[.int .u8 (x : Nat)] 5)).cell? ⟨w.heap.size, 0, none⟩ = some (.int .u8 (x : Nat)) := by rw [cell_of_row _ _ 0 _ _ _ (heap_alloc_new w _)]; rfl
 have HR := Lib.hid (Ij.repeat_any w.heap.size n x h1 hn (w.alloc (.cells #[.int .u8 (x : Nat)] 5)) (by simp) hc0)
 have HB := Lib.hid hb0
 clear hb0 hc0
 go_enter Tryz.func80, Tryz.ntmps80
 go_wp2_with fail
 refine (HR.out).mono ?_; rintro e w' ⟨rfl, hg, hb⟩
 have HG := Lib.hid hg
 have HB2 := Lib.hid (HB.out.trans (hb.mono (by simp)))
 clear hg hb
 go_wp2
 go_ret
 refine ⟨_, rfl, ?_, by simp, HB2.out⟩
 have h := HG.out
 simp only [World.size_alloc] at h
 exact h
theorem lens_bytes {w : World} {b n : Nat} {A : Option Addr} {l : List Nat} (hn : l.length = n) (hA : A = some ⟨b, 0, none⟩) (hb : b < w.heap.size) (hc : ∀ i, i < n → w.cell? ⟨b, i, none⟩ = some (.int .u8 ((l.getD i 0 : Nat) : Int))) (h256 : ∀ x ∈ l, x < 256) (ls : Nat → Nat) (hls : ∀ i, i < n → ls i = l.getD i 0) : Lens w A n ls := fun _ =>
 ⟨b, 0, hA, hb, fun i hi => ⟨by rw [Nat.zero_add, hc i hi, hls i hi], by
  have hi2 : i < l.length := by omega
  rw [hls i hi, List.getD_eq_getElem?_getD, List.getElem?_eq_getElem hi2, Option.getD_some]
  exact h256 _ (List.getElem_mem _)⟩⟩
theorem cells8_at (l : List Nat) (i : Nat) (hi : i < l.length) : (cells8 l)[i]? = some (.int .u8 ((l.getD i 0 : Nat) : Int)) := by
 rw [cells8, List.getElem?_map, List.getElem?_eq_getElem hi, List.getD_eq_getElem?_getD, List.getElem?_eq_getElem hi]
 rfl
theorem row_cells8 {w : World} {g : Nat} {l : List Nat} {T : TypeId} (h : w.heap[g]? = some (.cells (cells8 l).toArray T (0, 0))) (q : Nat) (u : Value) (hu : (cells8 l)[q]? = some u) : w.cell? ⟨g, q, none⟩ = some u := by
 rw [cell_of_row w g q _ _ _ h, List.getElem?_toArray]
 exact hu
theorem own_cells8 {w : World} {B n cap g : Nat} {l : List Nat} (h : w.ownsRow B 5 1 (.slice (some ⟨g, 0, none⟩) n cap) n (cells8 l)) (hn : l.length = n) : g < w.heap.size ∧ ∀ i, i < n → w.cell? ⟨g, i, none⟩ = some (.int .u8 ((l.getD i 0 : Nat) : Int)) := by
 refine ⟨(h.lt g rfl).2, fun i hi => ?_⟩
 rw [h.cellAt i (by omega), cells8_at l i (by omega)]

def bxR (i : Nat) : List Nat := if i = 0 then List.replicate 144 8 else if i = 1 then List.replicate 112 9 else if i = 2 then List.replicate 24 7 else List.replicate 8 8
theorem bx_len : (Ij.joinR bxR 4).length = 288 := by decide +kernel
theorem bx_256 : ∀ x ∈ Ij.joinR bxR 4, x < 256 := by decide +kernel
theorem bx_ls : ∀ i, i < 288 → fixS.ls i = (Ij.joinR bxR 4).getD i 0 := by decide +kernel
theorem bx_15 : ∀ i, i < fixS.n → fixS.ls i ≤ 15 := by decide +kernel
theorem bx_may : may fixS true := ⟨by decide +kernel, .inl (by decide +kernel)⟩
theorem bd_ls : ∀ i, i < 32 → fixD.ls i = (List.replicate 32 5).getD i 0 := by decide +kernel
theorem bd_15 : ∀ i, i < fixD.n → fixD.ls i ≤ 15 := by decide +kernel
theorem bd_may : may fixD true := ⟨by decide +kernel, .inl (by decide +kernel)⟩

set_option maxHeartbeats 4000000 in
theorem bfixed_any (w : World) : Calls Tryz.prog 54 #[] w fun e w' => CodsOk fixS fixD e w' ∧ Below w.heap.size w w' := by
 have hb0 : Below w.heap.size w (w.alloc (.cells #[.pointer none, .pointer none] 107)) := (Below.refl _ _).alloc (Nat.le_refl _) _
 have HRB : Hid ((w.alloc (.cells #[.pointer none, .pointer none] 107)).heap[w.heap.size]? = some (.cells #[.pointer none, .pointer none] 107 (0, 0))) := heap_alloc_new w _
 have HB0 := Lib.hid hb0
 have HSZ0 : Hid ((w.alloc (.cells #[.pointer none, .pointer none] 107)).heap.size = w.heap.size + 1) := by show _ = _; simp
 have HSA := Lib.hid (fun (x k : Nat) (hk : 1 ≤ k) (hk2 : k ≤ 1000) w1 => bsame_any k x hk hk2 w1)
 clear hb0
 go_enter Tryz.func54, Tryz.ntmps54
 go_wp2_with fail
 generalize w.alloc (.cells #[.pointer none, .pointer none] 107) = w0 at *
 refine (HSA.out 8 144 (by omega) (by omega) w0).mono ?_; rintro e w1 ⟨g1, rfl, hg, hge, hb⟩
 have HG1 := Lib.hid hg
 have HBL1 := Lib.hid hb
 clear hg hge hb
 go_wp2_with fail
 refine (HSA.out 9 112 (by omega) (by omega) w1).mono ?_; rintro e w2 ⟨g2, rfl, hg, hge, hb⟩
 have HG2 := Lib.hid hg
 have HBL2 := Lib.hid hb
 clear hg hge hb
 go_wp2_with fail
 refine (HSA.out 7 24 (by omega) (by omega) w2).mono ?_; rintro e w3 ⟨g3, rfl, hg, hge, hb⟩
 have HG3 := Lib.hid hg
 have HBL3 := Lib.hid hb
 clear hg hge hb
 go_wp2_with fail
 refine (HSA.out 8 8 (by omega) (by omega) w3).mono ?_; rintro e w4 ⟨g4, rfl, hg, hge, hb⟩
 have HG4 := Lib.hid hg
 have HBL4 := Lib.hid hb
 clear hg hge hb
 go_wp2_with fail
 have hb04 : Below w0.heap.size w0 w4 := ((HBL1.out.trans (HBL2.out.mono HBL1.out.size)).trans (HBL3.out.mono (Nat.le_trans HBL1.out.size HBL2.out.size))).trans (HBL4.out.mono (Nat.le_trans (Nat.le_trans HBL1.out.size HBL2.out.size) HBL3.out.size))
 have hb4a : Below w4.heap.size w4 (w4.alloc (.cells #[.slice (some ⟨g1, 0, none⟩) 144 144, .slice (some ⟨g2, 0, none⟩) 112 112, .slice (some ⟨g3, 0, none⟩) 24 24, .slice (some ⟨g4, 0, none⟩) 8 8] 37)) := (Below.refl _ _).alloc (Nat.le_refl _) _
 have i1 := (HBL2.out.block g1 (lt_of_heap HG1.out)).trans HG1.out
 have i2 := (HBL3.out.block g1 (lt_of_heap i1)).trans i1
 have i3 := (HBL4.out.block g1 (lt_of_heap i2)).trans i2
 have hk1 := (hb4a.block g1 (lt_of_heap i3)).trans i3
 have j1 := (HBL3.out.block g2 (lt_of_heap HG2.out)).trans HG2.out
 have j2 := (HBL4.out.block g2 (lt_of_heap j1)).trans j1
 have hk2 := (hb4a.block g2 (lt_of_heap j2)).trans j2
 have q1 := (HBL4.out.block g3 (lt_of_heap HG3.out)).trans HG3.out
 have hk3 := (hb4a.block g3 (lt_of_heap q1)).trans q1
 have hk4 := (hb4a.block g4 (lt_of_heap HG4.out)).trans HG4.out
 have hnew : (w4.alloc (.cells #[.slice (some ⟨g1, 0, none⟩) 144 144, .slice (some ⟨g2, 0, none⟩) 112 112, .slice (some ⟨g3, 0, none⟩) 24 24, .slice (some ⟨g4, 0, none⟩) 8 8] 37)).heap[w4.heap.size]? = _ := heap_alloc_new w4 _
 have HCON := Lib.hid (Ij.concat_any w4.heap.size 4 (fun i => if i = 0 then g1 else if i = 1 then g2 else if i = 2 then g3 else g4) (fun i => (bxR i).length) bxR (by omega) (by omega) (by decide) (by rw [bx_len]; omega) _ (lt_of_heap hnew)
  (fun i hi => by
   rw [cell_of_row _ _ i _ _ _ hnew]
   match i, hi with
   | 0, _ => rfl
   | 1, _ => rfl
   | 2, _ => rfl
   | 3, _ => rfl)
  (fun i hi => by
   match i, hi with
   | 0, _ => exact ⟨lt_of_heap hk1, row_cells8 hk1⟩
   | 1, _ => exact ⟨lt_of_heap hk2, row_cells8 hk2⟩
   | 2, _ => exact ⟨lt_of_heap hk3, row_cells8 hk3⟩
   | 3, _ => exact ⟨lt_of_heap hk4, row_cells8 hk4⟩))
 have HB5 := Lib.hid (hb04.trans (hb4a.mono hb04.size))
 clear hk1 hk2 hk3 hk4 hnew hb4a hb04 HG1 HG2 HG3 HG4 HBL1 HBL2 HBL3 HBL4 i1 i2 i3 j1 j2 q1
 rw [bx_len] at HCON
 generalize w4.alloc (.cells #[.slice (some ⟨g1, 0, none⟩) 144 144, .slice (some ⟨g2, 0, none⟩) 112 112, .slice (some ⟨g3, 0, none⟩) 24 24, .slice (some ⟨g4, 0, none⟩) 8 8] 37) = w5 at *
 refine (HCON.out).mono ?_; rintro e w6 ⟨gc, cap, rfl, hown, hb⟩
 have HO := Lib.hid hown
 have HB6 := Lib.hid (HB5.out.trans (hb.mono HB5.out.size))
 clear hown hb HCON
 go_wp2_with fail
 refine (HSA.out 5 32 (by omega) (by omega) w6).mono ?_; rintro e w7 ⟨g7, rfl, hg, hge, hb⟩
 have HO7 := Lib.hid (row_kept HO.out (fun q e => hb.block q (HO.out.lt q e).2))
 have HG7 := Lib.hid hg
 have HB7 := Lib.hid (HB6.out.trans (hb.mono HB6.out.size))
 clear hg hge hb
 have ho7 := own_cells8 HO7.out bx_len
 have hL1 : Lens w7 (some ⟨gc, 0, none⟩) fixS.n fixS.ls := lens_bytes (n := 288) bx_len rfl ho7.1 ho7.2 bx_256 fixS.ls bx_ls
 have hL2 : Lens w7 (some ⟨g7, 0, none⟩) fixD.n fixD.ls := lens_bytes (n := 32) (l := List.replicate 32 5) (by rfl) rfl (lt_of_heap HG7.out) (fun i hi => row_cells8 HG7.out i _ (cells8_at _ i (by rw [List.length_replicate]; exact hi))) (by decide) fixD.ls bd_ls
 have HPR := Lib.hid (bpair_ok (some ⟨gc, 0, none⟩) (some ⟨g7, 0, none⟩) cap 32 fixS fixD (by decide) (by decide) bx_15 bd_15 bx_may bd_may w7 hL1 hL2)
 clear hL1 hL2 ho7
 go_wp2_with fail
 refine (HPR.out).mono ?_; rintro e w8 ⟨⟨gs, gd, rfl, hcs, hcd⟩, hb⟩
 have HCS := Lib.hid hcs
 have HCD := Lib.hid hcd
 have HB8 := Lib.hid (HB7.out.trans (hb.mono HB7.out.size))
 clear hcs hcd hb HPR HO HO7 HG7 HB5 HB6 HB7 HSA
 unfold CodV
 have HR2 : Hid (w8.heap[w.heap.size]? = some (.cells #[.pointer none, .pointer none] 107 (0, 0))) := (HB8.out.block _ (lt_of_heap HRB.out)).trans HRB.out
 have hr2 := HR2.out
 have hbw : Hid (Below w.heap.size w w8) := HB0.out.trans (HB8.out.mono HB0.out.size)
 have f0 := frozen_of_row w8 _ 0 _ _ hr2
 have f1 := frozen_of_row w8 _ 1 _ _ hr2
 have e0 : w8.cell? ⟨w.heap.size, 0, none⟩ = some (.pointer none) := by rw [cell_of_row w8 _ 0 _ _ _ hr2]; rfl
 have e1 : w8.cell? ⟨w.heap.size, 1, none⟩ = some (.pointer none) := by rw [cell_of_row w8 _ 1 _ _ _ hr2]; rfl
 clear hr2
 go_wp2_with fail
 have hr3 := two_cellsB (x := .pointer (some ⟨gs, 0, none⟩)) (y := .pointer (some ⟨gd, 0, none⟩)) HR2.out
 have hb3 : Below w.heap.size w ((w8.setCell ⟨w.heap.size, 0, none⟩ (.pointer (some ⟨gs, 0, none⟩))).setCell ⟨w.heap.size, 1, none⟩ (.pointer (some ⟨gd, 0, none⟩))) := (hbw.out.setCell (Nat.le_refl _) _).setCell (Nat.le_refl _) _
 have hq := heap_setCell_same w8 w.heap.size 0 _ _ (.pointer (some ⟨gs, 0, none⟩)) HR2.out
 have hc3 := code_set (i := 1) (v := .pointer (some ⟨gd, 0, none⟩)) (code_set (i := 0) (v := .pointer (some ⟨gs, 0, none⟩)) HCS.out HR2.out) hq
 have hd3 := code_set (i := 1) (v := .pointer (some ⟨gd, 0, none⟩)) (code_set (i := 0) (v := .pointer (some ⟨gs, 0, none⟩)) HCD.out HR2.out) hq
 generalize hw3 : (w8.setCell ⟨w.heap.size, 0, none⟩ (.pointer (some ⟨gs, 0, none⟩))).setCell ⟨w.heap.size, 1, none⟩ (.pointer (some ⟨gd, 0, none⟩)) = w9 at *
 refine bodyPost_ret (results_cell_row rfl _ _ w.heap.size 107 #[.pointer (some ⟨gs, 0, none⟩), .pointer (some ⟨gd, 0, none⟩)] (0, 0) _ rfl hr3 Tryz.underlying107 rfl info_bcodes) rfl ⟨⟨gs, gd, rfl, hc3, hd3⟩, hb3⟩
end Go.Proofs.YtmkeicfklbepnaaGreat
