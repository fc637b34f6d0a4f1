/-
  There and back, by mathematics: what is printed is parsed as it was, what is parsed is printed so.
-/
import Derived.Test.YtkiecgcjnlgbnaaExD
namespace Go.Proofs.Ytkiecgcjnlgbnaa
set_option maxRecDepth 100000
open Go.RowKit Go.Joins Go.Deep

def allB (l : List Fd) : List Nat := l.flatMap bytesF
theorem allB_cons (f : Fd) (l : List Fd) : allB (f :: l) = bytesF f ++ allB l := by simp [allB]
theorem prt_some : ∀ (l : List Fd) (acc o : List Nat), prt l acc = some o → acc.length ≤ 65535 → o = acc ++ allB l ∧ o.length ≤ 65535 ∧ ∀ f ∈ l, f.d.size ≤ 65531
  | [], acc, o, h, ha => by
    injection h with h
    subst h
    exact ⟨by simp [allB], ha, fun f hf => by cases hf⟩
  | f :: l, acc, o, h, ha => by
    unfold prt at h
    by_cases hf : acc.length + 4 + f.d.size ≤ 65535
    · rw [if_pos hf] at h
      obtain ⟨h1, h2, h3⟩ := prt_some l _ o h (by rw [List.length_append, bytesF_len]; omega)
      refine ⟨by rw [h1, allB_cons, List.append_assoc], h2, fun g hg => ?_⟩
      rcases List.mem_cons.1 hg with rfl | hg
      · omega
      · exact h3 g hg
    · rw [if_neg hf] at h
      cases h
theorem prt_all : ∀ (l : List Fd) (acc : List Nat), acc.length + (allB l).length ≤ 65535 → prt l acc = some (acc ++ allB l)
  | [], acc, _ => by simp [prt, allB]
  | f :: l, acc, h => by
    rw [allB_cons, List.length_append, bytesF_len] at h
    unfold prt
    rw [if_pos (by omega), prt_all l _ (by rw [List.length_append, bytesF_len]; omega), allB_cons, List.append_assoc]
theorem numL_le2 (n : Nat) (h : n < 65536) : numL (le n 2) = n := by
  rw [numL_le]
  exact Nat.mod_eq_of_lt h
theorem prs_bytes (s : ByteArray) : ∀ (l : List Fd) (pre : List Nat) (acc : List Fd), nums s = pre ++ allB l → (∀ f ∈ l, f.id < 65536 ∧ f.d.size < 65536) → prs s pre.length acc = some (acc ++ l)
  | [], pre, acc, h, _ => by
    have : s.size = pre.length := by rw [← nums_len, h]; simp [allB]
    rw [prs_end (by omega), List.append_nil]
  | f :: l, pre, acc, h, hok => by
    obtain ⟨hid, hsz⟩ := hok f (by simp)
    rw [allB_cons] at h
    have hlen : s.size = pre.length + (4 + f.d.size) + (allB l).length := by rw [← nums_len, h, List.length_append, List.length_append, bytesF_len]; omega
    have hd : (nums s).drop pre.length = le f.id 2 ++ (le f.d.size 2 ++ (nums f.d ++ allB l)) := by
      rw [h, List.drop_left]
      simp only [bytesF, List.append_assoc]
    have h1 : idA s pre.length = f.id := by
      unfold idA
      rw [hd, List.take_left' (le_len _ _)]
      exact numL_le2 _ hid
    have hd2 : (nums s).drop (pre.length + 2) = le f.d.size 2 ++ (nums f.d ++ allB l) := by
      rw [← List.drop_drop, hd, List.drop_left' (le_len _ _)]
    have h2 : idA s (pre.length + 2) = f.d.size := by
      unfold idA
      rw [hd2, List.take_left' (le_len _ _)]
      exact numL_le2 _ hsz
    have h3 : fdA s pre.length = f := by
      have he : s.extract (pre.length + 4) (pre.length + 4 + f.d.size) = f.d := by
        apply nums_inj
        rw [nums_extr, show pre.length + 4 = pre.length + 2 + 2 by omega, ← List.drop_drop, hd2, List.drop_left' (le_len _ _), show pre.length + 2 + 2 + f.d.size - (pre.length + 2 + 2) = f.d.size by omega, List.take_left' (nums_len _)]
      unfold fdA
      rw [h1, h2, he]
    rw [prs_step (by rw [h2]; omega), h2, h3, show pre.length + 4 + f.d.size = (pre ++ bytesF f).length by rw [List.length_append, bytesF_len]; omega]
    rw [prs_bytes s l (pre ++ bytesF f) (acc ++ [f]) (by rw [h, List.append_assoc]) fun g hg => hok g (by simp [hg])]
    simp
theorem bytes_prs (s : ByteArray) (a : Nat) (acc m : List Fd) (h : prs s a acc = some m) (ha : a ≤ s.size) : ∃ l, m = acc ++ l ∧ (nums s).drop a = allB l := by
  fun_induction prs s a acc with
  | case1 a acc h1 =>
    injection h with h
    subst h
    exact ⟨[], by simp, by rw [List.drop_eq_nil_of_le (by rw [nums_len]; exact h1)]; rfl⟩
  | case2 a acc h1 h2 ih =>
    obtain ⟨l, h3, h4⟩ := ih h h2
    refine ⟨fdA s a :: l, by rw [h3]; simp, ?_⟩
    rw [allB_cons, ← h4]
    have hl := nums_len s
    have e1 : le (idA s a) 2 = ((nums s).drop a).take 2 := by
      unfold idA
      rw [le_of_numL _ (fun x hx => nums_lt s x (List.mem_of_mem_drop (List.mem_of_mem_take hx))) 2 (by rw [List.length_take, List.length_drop, hl]; omega), List.take_take]
      rfl
    have hz : (s.extract (a + 4) (a + 4 + idA s (a + 2))).size = idA s (a + 2) := by rw [ByteArray.size_extract]; omega
    have e2 : le (idA s (a + 2)) 2 = ((nums s).drop (a + 2)).take 2 := by
      unfold idA
      rw [le_of_numL _ (fun x hx => nums_lt s x (List.mem_of_mem_drop (List.mem_of_mem_take hx))) 2 (by rw [List.length_take, List.length_drop, hl]; omega), List.take_take]
      rfl
    have e3 : bytesF (fdA s a) = ((nums s).drop a).take 2 ++ ((nums s).drop (a + 2)).take 2 ++ ((nums s).drop (a + 4)).take (idA s (a + 2)) := by
      unfold bytesF fdA
      show le (idA s a) 2 ++ le (s.extract (a + 4) (a + 4 + idA s (a + 2))).size 2 ++ nums (s.extract (a + 4) (a + 4 + idA s (a + 2))) = _
      rw [hz, e1, e2, nums_extr, show a + 4 + idA s (a + 2) - (a + 4) = idA s (a + 2) by omega]
    rw [e3]
    generalize idA s (a + 2) = n
    have k1 : (nums s).drop a = ((nums s).drop a).take 2 ++ (nums s).drop (a + 2) := by rw [← List.drop_drop, List.take_append_drop]
    have k2 : (nums s).drop (a + 2) = ((nums s).drop (a + 2)).take 2 ++ (nums s).drop (a + 4) := by rw [show a + 4 = a + 2 + 2 by omega, ← List.drop_drop (i := 2) (j := a + 2), List.take_append_drop]
    have k3 : (nums s).drop (a + 4) = ((nums s).drop (a + 4)).take n ++ (nums s).drop (a + 4 + n) := by rw [← List.drop_drop (i := n) (j := a + 4), List.take_append_drop]
    calc (nums s).drop a = ((nums s).drop a).take 2 ++ (nums s).drop (a + 2) := k1
      _ = ((nums s).drop a).take 2 ++ (((nums s).drop (a + 2)).take 2 ++ (nums s).drop (a + 4)) := by rw [← k2]
      _ = ((nums s).drop a).take 2 ++ (((nums s).drop (a + 2)).take 2 ++ (((nums s).drop (a + 4)).take n ++ (nums s).drop (a + 4 + n))) := by rw [← k3]
      _ = _ := by simp only [List.append_assoc]
  | case3 => cases h
theorem prtR_none {l : List Fd} (h : prt l [] = none) : prtE l = 5 := by
  unfold prtE
  rw [h]
  rfl
/-- What is printed is parsed as it was. -/
theorem print_parse {l : List Fd} (hok : ∀ f ∈ l, f.id < 65536) (h : prtE l = 0) : parL (text (prtT l)) = l ∧ parE (text (prtT l)) = 0 := by
  cases hp : prt l [] with
  | none =>
    have := (prtR_none hp)
    omega
  | some o =>
    obtain ⟨h1, h2, h3⟩ := prt_some l [] o hp (by simp)
    have hT : prtT l = o := by unfold prtT; rw [hp]; rfl
    rw [hT]
    have hlt : ∀ x ∈ o, x < 256 := by
      rw [h1]
      intro x hx
      simp only [List.nil_append, allB, List.mem_flatMap] at hx
      obtain ⟨f, _, hx⟩ := hx
      exact bytesF_lt f x hx
    have hn : nums (text o) = [] ++ allB l := by rw [nums_text o hlt]; exact h1
    have hprs := prs_bytes (text o) l [] [] hn fun f hf => ⟨hok f hf, by have := h3 f hf; omega⟩
    have hz : (text o).size ≤ 65535 := by rw [text_size]; exact h2
    have hr := parE_yes (s := text o) (l := l) hz hprs
    exact ⟨hr.2, hr.1⟩
/-- What is parsed is printed so. -/
theorem parse_print {s : ByteArray} (h : parE s = 0) : text (prtT (parL s)) = s ∧ prtE (parL s) = 0 := by
  have hz : s.size ≤ 65535 := by
    by_cases hz : 65535 < s.size
    · unfold parE at h
      rw [if_pos hz] at h
      omega
    · omega
  cases hp : prs s 0 [] with
  | none =>
    have := (parE_no hz hp).1
    omega
  | some m =>
    obtain ⟨l, h1, h2⟩ := bytes_prs s 0 [] m hp (Nat.zero_le _)
    have hm : parL s = m := (parE_yes hz hp).2
    rw [List.nil_append] at h1
    subst h1
    rw [List.drop_zero] at h2
    have hall := prt_all m [] (by rw [← h2, nums_len]; simpa using hz)
    rw [hm]
    unfold prtT prtE
    rw [hall]
    refine ⟨?_, rfl⟩
    show text ([] ++ allB m) = s
    rw [List.nil_append, ← h2, text_nums]
end Go.Proofs.Ytkiecgcjnlgbnaa
