/-
  There and back, by mathematics: wide fields, stamps, owners, paths.
-/
import Derived.Test.YtmhalkkfpbkafaaDoorFpA
import Derived.Test.YtmhalkkfpbkafaaDoorFlL
namespace Go.Proofs.YtmhalkkfpbkafaaDoor
set_option maxRecDepth 100000
open Go.RowKit Go.Deep Go.Joins

theorem cut_at (a b c : List Nat) (n m : Nat) (ha : a.length = n) (hb : b.length = m) : ((a ++ (b ++ c)).drop n).take m = b := by
  rw [List.drop_left' ha, List.take_left' hb]
theorem le8 (n : Nat) (h : n < 18446744073709551616) : numL (le n 8) = n := by
  rw [numL_le]
  exact Nat.mod_eq_of_lt h
theorem le4 (n : Nat) (h : n < 4294967296) : numL (le n 4) = n := by
  rw [numL_le]
  exact Nat.mod_eq_of_lt h
theorem nums_cat (a b : ByteArray) : nums (a ++ b) = nums a ++ nums b := nums_append a b
theorem nums_le (n k : Nat) : nums (text (le n k)) = le n k := nums_text _ (le_lt _ _)
def allQ : Nat → Bool := qk true true true true
theorem allQ_true (k : Nat) : allQ k = true := by
  unfold allQ qk
  repeat' split
  all_goals rfl
theorem wide_nums (V : Nat → Nat) : nums (pwT allQ V 4) = le (V 0) 8 ++ (le (V 1) 8 ++ (le (V 2) 8 ++ le (V 3) 4)) := by
  simp only [pwT, allQ_true, if_true, nums_cat, nums_le]
  simp [nk, nums]
theorem wide_back (V : Nat → Nat) (h0 : V 0 < 18446744073709551616) (h1 : V 1 < 18446744073709551616) (h2 : V 2 < 18446744073709551616) (h3 : V 3 < 4294967296) :
    wRes (pwT allQ V 4) allQ .u32 = .tuple #[.agg #[.int .u64 (V 0 : Nat), .int .u64 (V 1 : Nat), .int .u64 (V 2 : Nat), .int .u32 (V 3 : Nat)], .int .i64 0] := by
  have hn := wide_nums V
  have hz : (pwT allQ V 4).size = 28 := by rw [← nums_len, hn]; simp [le_len]
  have w0 : wk allQ 0 = 0 := rfl
  have w1 : wk allQ 1 = 8 := by rw [wk, w0, allQ_true]; rfl
  have w2 : wk allQ 2 = 16 := by rw [wk, w1, allQ_true]; rfl
  have w3 : wk allQ 3 = 24 := by rw [wk, w2, allQ_true]; rfl
  have w4 : wk allQ 4 = 28 := by rw [wk, w3, allQ_true]; rfl
  have x0 : xk (pwT allQ V 4) allQ 0 = V 0 := by
    unfold xk
    rw [allQ_true, if_pos rfl, w0, hn]
    have := cut_at [] (le (V 0) 8) (le (V 1) 8 ++ (le (V 2) 8 ++ le (V 3) 4)) 0 8 rfl (le_len _ _)
    rw [List.nil_append] at this
    show numL (List.take 8 _) = _
    rw [this, le8 _ h0]
  have x1 : xk (pwT allQ V 4) allQ 1 = V 1 := by
    unfold xk
    rw [allQ_true, if_pos rfl, w1, hn]
    show numL (List.take 8 _) = _
    rw [cut_at (le (V 0) 8) (le (V 1) 8) (le (V 2) 8 ++ le (V 3) 4) 8 8 (le_len _ _) (le_len _ _), le8 _ h1]
  have x2 : xk (pwT allQ V 4) allQ 2 = V 2 := by
    unfold xk
    rw [allQ_true, if_pos rfl, w2, hn]
    show numL (List.take 8 _) = _
    rw [← List.append_assoc, cut_at (le (V 0) 8 ++ le (V 1) 8) (le (V 2) 8) (le (V 3) 4) 16 8 (by simp [le_len]) (le_len _ _), le8 _ h2]
  have x3 : xk (pwT allQ V 4) allQ 3 = V 3 := by
    unfold xk
    rw [allQ_true, if_pos rfl, w3, hn]
    show numL (List.take 4 _) = _
    have := cut_at (le (V 0) 8 ++ (le (V 1) 8 ++ le (V 2) 8)) (le (V 3) 4) [] 24 4 (by simp [le_len]) (le_len _ _)
    rw [List.append_nil, List.append_assoc, List.append_assoc] at this
    rw [this, le4 _ h3]
  unfold wRes
  rw [if_pos (by rw [w4, hz]), x0, x1, x2, x3]

theorem sgn_uN (v : Int) (h1 : -2147483648 ≤ v) (h2 : v ≤ 2147483647) : sgn (uN v) = v := by
  rw [sgn_int, uN_eq]
  unfold sgnI
  split <;> omega
theorem st_nums_f (V : Nat → Int) : nums (psT 7 false V 3) = [7] ++ (le (uN (V 0)) 4 ++ (le (uN (V 1)) 4 ++ le (uN (V 2)) 4)) := by
  have t0 : tk 7 false 0 = true := rfl
  have t1 : tk 7 false 1 = true := rfl
  have t2 : tk 7 false 2 = true := rfl
  simp only [psT, t0, t1, t2, if_true, nums_cat, nums_le]
  show le 7 1 ++ _ ++ _ ++ _ = _
  simp [le]
theorem st_nums_t (V : Nat → Int) : nums (psT 7 true V 3) = [7] ++ (le (uN (V 0)) 4 ++ []) := by
  have t0 : tk 7 true 0 = true := rfl
  have t1 : tk 7 true 1 = false := rfl
  have t2 : tk 7 true 2 = false := rfl
  simp only [psT, t0, t1, t2, if_true, Bool.false_eq_true, if_false, nums_cat, nums_le]
  show le 7 1 ++ _ = _
  simp [le]
theorem stamp_back_f (V : Nat → Int) (hV : ∀ k, -2147483648 ≤ V k ∧ V k ≤ 2147483647) :
    stRes (psT 7 false V 3) false = .tuple #[.agg #[.int .u8 7, .int .i32 (V 0), .int .i32 (V 1), .int .i32 (V 2)], .int .i64 0] := by
  have hn := st_nums_f V
  have hz : (psT 7 false V 3).size = 13 := by rw [← nums_len, hn]; simp [le_len]
  have hF : (nums (psT 7 false V 3)).getD 0 0 = 7 := by rw [hn]; rfl
  have p0 : pk 7 false 0 = 1 := rfl
  have p1 : pk 7 false 1 = 5 := rfl
  have p2 : pk 7 false 2 = 9 := rfl
  have p3 : pk 7 false 3 = 13 := rfl
  have v0 : vk (psT 7 false V 3) 7 false 0 = V 0 := by
    unfold vk
    rw [if_pos (show tk 7 false 0 = true from rfl), p0, hn, cut_at [7] (le (uN (V 0)) 4) _ 1 4 rfl (le_len _ _), le4 _ (uN_lt _), sgn_uN _ (hV 0).1 (hV 0).2]
  have v1 : vk (psT 7 false V 3) 7 false 1 = V 1 := by
    unfold vk
    rw [if_pos (show tk 7 false 1 = true from rfl), p1, hn, ← List.append_assoc, cut_at ([7] ++ le (uN (V 0)) 4) (le (uN (V 1)) 4) _ 5 4 (by simp [le_len]) (le_len _ _), le4 _ (uN_lt _), sgn_uN _ (hV 1).1 (hV 1).2]
  have v2 : vk (psT 7 false V 3) 7 false 2 = V 2 := by
    unfold vk
    have := cut_at ([7] ++ (le (uN (V 0)) 4 ++ le (uN (V 1)) 4)) (le (uN (V 2)) 4) [] 9 4 (by simp [le_len]) (le_len _ _)
    rw [List.append_nil, List.append_assoc, List.append_assoc] at this
    rw [if_pos (show tk 7 false 2 = true from rfl), p2, hn, this, le4 _ (uN_lt _), sgn_uN _ (hV 2).1 (hV 2).2]
  rw [stRes_yes hF ⟨by omega, by omega, by omega, .inr (by omega)⟩, v0, v1, v2]
  rfl
theorem stamp_back_t (V : Nat → Int) (hV : ∀ k, -2147483648 ≤ V k ∧ V k ≤ 2147483647) :
    stRes (psT 7 true V 3) true = .tuple #[.agg #[.int .u8 7, .int .i32 (V 0), .int .i32 0, .int .i32 0], .int .i64 0] := by
  have hn := st_nums_t V
  have hz : (psT 7 true V 3).size = 5 := by rw [← nums_len, hn]; simp [le_len]
  have hF : (nums (psT 7 true V 3)).getD 0 0 = 7 := by rw [hn]; rfl
  have p0 : pk 7 true 0 = 1 := rfl
  have p3 : pk 7 true 3 = 5 := rfl
  have v0 : vk (psT 7 true V 3) 7 true 0 = V 0 := by
    unfold vk
    rw [if_pos (show tk 7 true 0 = true from rfl), p0, hn, cut_at [7] (le (uN (V 0)) 4) _ 1 4 rfl (le_len _ _), le4 _ (uN_lt _), sgn_uN _ (hV 0).1 (hV 0).2]
  have v1 : vk (psT 7 true V 3) 7 true 1 = 0 := rfl
  have v2 : vk (psT 7 true V 3) 7 true 2 = 0 := rfl
  rw [stRes_yes hF ⟨by omega, by omega, by omega, .inl rfl⟩, v0, v1, v2]
  rfl

theorem own_nums (u g : Nat) : nums (ownT u g) = [1, 4] ++ (le u 4 ++ ([4] ++ (le g 4 ++ []))) := by
  unfold ownT
  simp only [nums_cat, nums_le]
  show [1, 4] ++ le u 4 ++ [4] ++ le g 4 = _
  simp [List.append_assoc]
theorem own_back (u g : Nat) (hu : u < 4294967296) (hg : g < 4294967296) : oRes (ownT u g) = .tuple #[.int .u32 (u : Nat), .int .u32 (g : Nat), .int .i64 0] := by
  have hn := own_nums u g
  have hz : (ownT u g).size = 11 := by rw [← nums_len, hn]; simp [le_len]
  have h0 : (nums (ownT u g)).getD 0 0 = 1 := by rw [hn]; rfl
  have h1 : oN1 (ownT u g) = 4 := by unfold oN1; rw [hn]; rfl
  have h2 : oN2 (ownT u g) = 4 := by
    unfold oN2
    rw [h1, hn, List.getD_eq_getElem?_getD, ← List.append_assoc, List.getElem?_append_right (by simp [le_len])]
    simp [le_len]
  have hU : oU (ownT u g) = u := by
    unfold oU
    rw [h1, hn, cut_at [1, 4] (le u 4) _ 2 4 rfl (le_len _ _), le4 _ hu]
  have hG : oG (ownT u g) = g := by
    unfold oG
    rw [h1, h2, hn, ← List.append_assoc, ← List.append_assoc, cut_at ([1, 4] ++ le u 4 ++ [4]) (le g 4) [] 7 4 (by simp [le_len]) (le_len _ _), le4 _ hg]
  unfold oRes
  rw [show oOk (ownT u g) = true from decide_eq_true ⟨by omega, h0, by omega, by omega⟩, if_pos rfl, show oFit (ownT u g) = true from decide_eq_true ⟨by omega, by omega⟩, if_pos rfl, hU, hG]

theorem pt_nums (path raw : ByteArray) : nums (ptT path raw) = [1] ++ (le (sum 0 raw) 4 ++ nums path) := by
  unfold ptT
  simp only [nums_cat, nums_le]
  show [1] ++ le (sum 0 raw) 4 ++ nums path = _
  rw [List.append_assoc]
theorem path_back (path raw : ByteArray) : pthR (ptT path raw) raw = if straysB path = true then .tuple #[.string ⟨#[]⟩, .bool false, .int .i64 20] else .tuple #[.string path, .bool true, .int .i64 0] := by
  have hn := pt_nums path raw
  have hz : (ptT path raw).size = 5 + path.size := by rw [← nums_len, hn]; simp [le_len, nums_len]; omega
  have h0 : (nums (ptT path raw)).getD 0 0 = 1 := by rw [hn]; rfl
  have hp : pthN (ptT path raw) = sum 0 raw := by
    unfold pthN
    rw [hn, cut_at [1] (le (sum 0 raw) 4) _ 1 4 rfl (le_len _ _), le4 _ (sum_lt 0 raw)]
  have he : (ptT path raw).extract 5 (ptT path raw).size = path := by
    apply nums_inj
    rw [nums_extp, hn, ← List.append_assoc, List.drop_left' (by simp [le_len]), List.take_of_length_le (by rw [nums_len]; omega)]
  rw [pth_rest ⟨by omega, h0⟩ hp, he]
end Go.Proofs.YtmhalkkfpbkafaaDoor
