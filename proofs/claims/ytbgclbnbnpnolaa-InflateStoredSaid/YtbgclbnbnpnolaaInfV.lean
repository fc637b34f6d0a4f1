/-
  Streams cut, or with more behind them: what Inflate answers.
-/
import Derived.Test.YtbgclbnbnpnolaaInfU
namespace Go.Proofs.Ytbgclbnbnpnolaa
set_option maxRecDepth 100000
open Go.RowKit Go.Deep Go.Joins

theorem nums_append (s t : ByteArray) : nums (s ++ t) = nums s ++ nums t := by simp [nums]
theorem num_append (s t : ByteArray) : num (s ++ t) = num s + num t * 2 ^ (8 * s.size) := by
  unfold num
  rw [nums_append, numL_app, nums_len, p256]
theorem nums_take0 (s : ByteArray) (n : Nat) : nums (s.extract 0 n) = (nums s).take n := by
  unfold nums
  rw [ByteArray.data_extract, Array.toList_extract, List.extract_eq_take_drop, Nat.sub_zero, List.drop_zero, List.map_take]
theorem num_take0 (s : ByteArray) (n : Nat) : num (s.extract 0 n) = num s % 2 ^ (8 * n) := by
  unfold num
  rw [nums_take0, numL_take _ (nums_lt s), p256]
theorem size_take0 (s : ByteArray) (n : Nat) (h : n ≤ s.size) : (s.extract 0 n).size = n := by rw [ByteArray.size_extract]; omega
theorem agree_behind (s t : ByteArray) (n A : Nat) (h : n ≤ s.size) (hA : A ≤ 8 * n) : num s % 2 ^ A = num (s.extract 0 n ++ t) % 2 ^ A := by
  rw [num_append, num_take0, size_take0 s n h]
  obtain ⟨d, hd⟩ : ∃ d, 8 * n = A + d := ⟨8 * n - A, by omega⟩
  rw [hd, show num t * 2 ^ (A + d) = num t * 2 ^ d * 2 ^ A by rw [Nat.pow_add, Nat.mul_assoc, Nat.mul_comm (2 ^ A)], Nat.add_mul_mod_self_right, Nat.mod_mod_of_dvd _ (Nat.pow_dvd_pow 2 (by omega))]
theorem infl_grow {s : ByteArray} {lim A : Nat} {o : List Nat} (h : inflM (srcOf s lim) 0 [] = .ok ((), A, o)) : A ≤ 8 * s.size := (stable_infl.grow _ 0 [] _ _ _ (Nat.zero_le _) (by show 8 * s.size % 8 = 0; omega) h).2.1
theorem infl_behind {s : ByteArray} (t : ByteArray) {lim A : Nat} {o : List Nat} (h : inflM (srcOf s lim) 0 [] = .ok ((), A, o)) : inflM (srcOf (s.extract 0 ((A + 7) / 8) ++ t) o.length) 0 [] = .ok ((), A, o) := by
  have hA := infl_grow h
  have hn : (A + 7) / 8 ≤ s.size := by omega
  refine stable_infl.same (srcOf s lim) _ 0 [] _ _ _ (Nat.zero_le _) (by show 8 * s.size % 8 = 0; omega) h (agree_behind s t _ A hn (by omega)) ?_ (Nat.le_refl _)
  show A ≤ 8 * (s.extract 0 ((A + 7) / 8) ++ t).size
  rw [ByteArray.size_append, size_take0 s _ hn]
  omega
theorem infl_less {s : ByteArray} {lim A : Nat} {o : List Nat} (h : inflM (srcOf s lim) 0 [] = .ok ((), A, o)) (h0 : 0 < o.length) : inflM (srcOf s (o.length - 1)) 0 [] = .error 14 :=
  stable_infl.less (srcOf s lim) (srcOf s (o.length - 1)) 0 [] _ _ _ (Nat.zero_le _) (by show 8 * s.size % 8 = 0; omega) h rfl (infl_grow h) (Nat.zero_le _) (by show o.length - 1 < o.length; omega)
theorem infl_cut {s : ByteArray} {lim A k : Nat} {o : List Nat} (h : inflM (srcOf s lim) 0 [] = .ok ((), A, o)) (hk : k < (A + 7) / 8) (hl : o.length ≤ lim) : inflM (srcOf (s.extract 0 k) lim) 0 [] = .error 3 := by
  have hA := infl_grow h
  have hks : k ≤ s.size := by omega
  have hL : (srcOf (s.extract 0 k) lim).L = 8 * k := by
    show 8 * (s.extract 0 k).size = 8 * k
    rw [size_take0 s k hks]
  refine stable_infl.cut (srcOf s lim) (srcOf (s.extract 0 k) lim) 0 [] _ _ _ (Nat.zero_le _) (by show 8 * s.size % 8 = 0; omega) (by rw [hL]; omega) h ?_ (Nat.zero_le _) (by rw [hL]; omega) hl
  rw [hL]
  show num s % 2 ^ (8 * k) = num (s.extract 0 k) % 2 ^ (8 * k)
  rw [num_take0, Nat.mod_mod]
/-- What comes out fits the limit; what is wrong is no 0. -/
structure Fine {α : Type} (m : Mm α) : Prop where
  room : ∀ s a o x a1 o1, o.length ≤ s.lim → m s a o = .ok (x, a1, o1) → o1.length ≤ s.lim
  err : ∀ s a o e, m s a o = .error e → e ≠ 0
theorem fine_ret {α : Type} (x : α) : Fine (retM x) := ⟨fun s a o y a1 o1 h e => (by injection e with e; cases e; exact h), fun s a o e h => (by cases h)⟩
theorem fine_fail {α : Type} (e : Nat) (h : e ≠ 0) : Fine (failM e : Mm α) := ⟨fun s a o y a1 o1 _ e => (by cases e), fun s a o k hk => (by injection hk with hk; omega)⟩
theorem fine_bind {α β : Type} {m : Mm α} {f : α → Mm β} (hm : Fine m) (hf : ∀ y, Fine (f y)) : Fine (bindM m f) := by
  refine ⟨fun s a o x a1 o1 h h1 => ?_, fun s a o e h => ?_⟩
  · obtain ⟨y, a2, o2, h2, h3⟩ := bind_inv h1
    exact (hf y).room s a2 o2 x a1 o1 (hm.room s a o y a2 o2 h h2) h3
  · unfold bindM at h
    split at h
    · rename_i e2 h2
      injection h with h
      subst h
      exact hm.err s a o _ h2
    · exact (hf _).err _ _ _ _ h
theorem fine_ite {α : Type} {p : Prop} [Decidable p] {m m' : Mm α} (h : Fine m) (h' : Fine m') : Fine (if p then m else m') := by
  split
  · exact h
  · exact h'
theorem fine_read (n : Nat) : Fine (readM1 n) := by
  refine ⟨fun s a o x a1 o1 h h1 => ?_, fun s a o e h => ?_⟩
  · unfold readM1 at h1
    split at h1
    · injection h1 with h1; cases h1; exact h
    · cases h1
  · unfold readM1 at h
    split at h
    · cases h
    · injection h with h; omega
theorem fine_align : Fine alignM := ⟨fun s a o y a1 o1 h e => (by injection e with e; cases e; exact h), fun s a o e h => (by cases h)⟩
theorem fine_put (b : Nat) : Fine (putM b) := by
  refine ⟨fun s a o x a1 o1 h h1 => ?_, fun s a o e h => ?_⟩
  · unfold putM at h1
    split at h1
    · injection h1 with h1; cases h1; simpa using ‹_›
    · cases h1
  · unfold putM at h
    split at h
    · cases h
    · injection h with h; omega
theorem fine_store (n : Nat) : Fine (storeM n) := by
  refine ⟨fun s a o x a1 o1 h h1 => ?_, fun s a o e h => ?_⟩
  · unfold storeM at h1
    split at h1
    · split at h1
      · injection h1 with h1; cases h1
        rw [List.length_append, bytesAt_len]
        assumption
      · cases h1
    · cases h1
  · unfold storeM at h
    split at h
    · split at h
      · cases h
      · injection h with h; omega
    · injection h with h; omega
theorem fine_copy (n d : Nat) : Fine (copyM n d) := by
  refine ⟨fun s a o x a1 o1 h h1 => ?_, fun s a o e h => ?_⟩
  · unfold copyM at h1
    split at h1
    · cases h1
    · split at h1
      · injection h1 with h1; cases h1
        rw [copyL_len]
        assumption
      · cases h1
  · unfold copyM at h
    split at h
    · injection h with h; omega
    · split at h
      · cases h
      · injection h with h; omega
theorem fine_sign (c : Cod) : Fine (signM c) := by
  refine ⟨fun s a o x a1 o1 h h1 => ?_, fun s a o e h => ?_⟩
  · rw [sign_same h1]
    exact h
  · unfold signM at h
    split at h
    · cases h
    · split at h
      · injection h with h; omega
      · injection h with h; omega
theorem fine_loop {γ β : Type} {body : γ → Mm (γ ⊕ β)} (hb : ∀ c, Fine (body c)) (c : γ) : Fine (loopM body c) := by
  have key : ∀ (s : Src) k c a o (r : Ans β), itM body s k c a o = some r → (∀ p, r = .ok p → o.length ≤ s.lim → p.2.2.length ≤ s.lim) ∧ (∀ e, r = .error e → e ≠ 0) := by
    intro s k
    induction k with
    | zero => intro c a o r h; cases h
    | succ k ih =>
      intro c a o r h
      rw [itM] at h
      split at h
      · rename_i e2 h2
        injection h with h
        subst h
        exact ⟨fun p hp => (by cases hp), fun e he => by injection he with he; subst he; exact (hb c).err _ _ _ _ h2⟩
      · rename_i y a1 o1 h2
        injection h with h
        subst h
        exact ⟨fun p hp ho => (by injection hp with hp; subst hp; exact (hb c).room _ _ _ _ _ _ ho h2), fun e he => (by cases he)⟩
      · rename_i c1 a1 o1 h2
        obtain ⟨i1, i2⟩ := ih c1 a1 o1 r h
        exact ⟨fun p hp ho => i1 p hp ((hb c).room _ _ _ _ _ _ ho h2), i2⟩
  refine ⟨fun s a o x a1 o1 h h1 => ?_, fun s a o e h => ?_⟩
  · obtain ⟨k, hk⟩ := loop_ok h1
    exact (key s k c a o _ hk).1 _ rfl h
  · unfold loopM at h
    split at h
    · rename_i hx
      obtain ⟨k, hk⟩ := Classical.choose_spec hx
      rw [h] at hk
      exact (key s k c a o _ hk).2 e rfl
    · injection h with h
      omega
theorem fine_number (p : Nat × Nat) : Fine (numberM p) := fine_ite (fine_fail _ (by omega)) (fine_bind (fine_read _) fun _ => fine_ret _)
theorem fine_signs (c d : Cod) : Fine (signsM c d) := fine_loop (fun _ => fine_bind (fine_sign _) fun _ => fine_ite (fine_ret _) (fine_ite (fine_bind (fine_put _) fun _ => fine_ret _)
  (fine_bind (fine_bind (fine_number _) fun _ => fine_bind (fine_sign _) fun _ => fine_bind (fine_number _) fun _ => fine_copy _ _) fun _ => fine_ret _))) ()
theorem fine_stored : Fine storedM := fine_bind fine_align fun _ => fine_bind (fine_read _) fun _ => fine_bind (fine_read _) fun _ => fine_ite (fine_store _) (fine_fail _ (by omega))
theorem fine_make (c : Cod) (op : Bool) : Fine (makeM c op) := fine_ite (fine_ret _) (fine_fail _ (by omega))
theorem fine_threes : ∀ k, Fine (threesM k)
  | 0 => fine_ret _
  | k + 1 => fine_bind (fine_threes k) fun _ => fine_bind (fine_read _) fun _ => fine_ret _
theorem fine_row (c : Cod) (many : Nat) : Fine (rowM c many) := fine_loop (fun _ => fine_ite (fine_bind (fine_sign _) fun _ => fine_bind (fine_ite (fine_fail _ (by omega)) (fine_bind (fine_read _) fun _ => fine_ret _)) fun _ => fine_ret _) (fine_ite (fine_fail _ (by omega)) (fine_ret _))) []
theorem fine_dynamic : Fine dynamicM := fine_bind (fine_read _) fun _ => fine_bind (fine_read _) fun _ => fine_bind (fine_read _) fun _ => fine_ite (fine_fail _ (by omega))
  (fine_bind (fine_bind (fine_threes _) fun _ => fine_bind (fine_make _ _) fun _ => fine_ret _) fun _ => fine_bind (fine_row _ _) fun _ => fine_ite (fine_fail _ (by omega)) (fine_bind (fine_bind (fine_make _ _) fun _ => fine_make _ _) fun _ => fine_ret _))
theorem fine_block : Fine blockM := fine_bind (fine_read _) fun _ => fine_bind (fine_read _) fun _ => fine_ite (fine_bind fine_stored fun _ => fine_ret _) (fine_ite (fine_bind (fine_signs _ _) fun _ => fine_ret _) (fine_ite (fine_bind fine_dynamic fun _ => fine_bind (fine_signs _ _) fun _ => fine_ret _) (fine_fail _ (by omega))))
theorem fine_infl : Fine inflM := fine_loop (fun _ => fine_bind fine_block fun _ => fine_ite (fine_ret _) (fine_ret _)) ()
theorem infl_room {s : ByteArray} {lim A : Nat} {o : List Nat} (h : inflM (srcOf s lim) 0 [] = .ok ((), A, o)) : o.length ≤ lim := fine_infl.room _ _ _ _ _ _ (Nat.zero_le _) h
theorem infl_err {s : ByteArray} {lim e : Nat} (h : inflM (srcOf s lim) 0 [] = .error e) : e ≠ 0 := fine_infl.err _ _ _ _ h
theorem infV_ok {A n : Nat} (o : List Nat) (h : (A + 7) / 8 = n) : infV (.ok ((), A, o)) = .tuple #[.string (text o), .int .i64 (n : Nat), .int .i64 0] := by
  subst h
  rfl
theorem infV_form (r : Ans Unit) : ∃ (b : ByteArray) (k e : Int), infV r = .tuple #[.string b, .int .i64 k, .int .i64 e] := by
  cases r with
  | error e => exact ⟨_, _, _, rfl⟩
  | ok q => exact ⟨_, _, _, rfl⟩
end Go.Proofs.Ytbgclbnbnpnolaa
