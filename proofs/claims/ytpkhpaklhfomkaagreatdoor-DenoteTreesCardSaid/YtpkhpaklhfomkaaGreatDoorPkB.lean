/-
  Numbers and texts at places; a cursor on its way through a header.
  Contracts of package header: done.
  Contracts of package header: begin.
  Contracts of package header: ParseLocal.
  Contracts of package header: ParseCentral.
  Contracts of package header: ParseDescriptor.
-/
import Derived.Test.YtpkhpaklhfomkaaGreatDoorPkA
import Derived.StillTailTactics
import Derived.Laws.Tables

namespace Go.Proofs.YtpkhpaklhfomkaaGreatDoor
set_option maxRecDepth 100000
open Go.RowKit Go.Joins

/-- The number of k bytes from a place on. -/
def nAt (s : ByteArray) (a k : Nat) : Nat := numL (((nums s).drop a).take k)
theorem nAt_lt (s : ByteArray) (a k : Nat) : nAt s a k < 256 ^ k := by
  have h := numL_lt (((nums s).drop a).take k) (fun x hx => nums_lt s x (List.mem_of_mem_drop (List.mem_of_mem_take hx)))
  refine Nat.lt_of_lt_of_le h (Nat.pow_le_pow_right (n := 256) (by omega) ?_)
  rw [List.length_take]
  omega
theorem numB_yes (s : ByteArray) (a k : Nat) (h : a + k ≤ s.size) : numB s a 0 k = nAt s a k := by
  unfold numB nAt
  rw [nums_piece s a k h]
/-- k bytes from a place on. -/
def tAt (s : ByteArray) (a k : Nat) : ByteArray := s.extract a (a + k)
theorem piece_yes (s : ByteArray) (a k : Nat) (h : a + k ≤ s.size) : piece s a 0 (k : Nat) = tAt s a k := by
  unfold piece
  rw [if_pos (mayB_yes s a k h), Int.toNat_natCast]
  rfl
theorem tAt_size (s : ByteArray) (a k : Nat) (h : a + k ≤ s.size) : (tAt s a k).size = k := by
  unfold tAt
  rw [ByteArray.size_extract]
  omega
theorem nums_tAt (s : ByteArray) (a k : Nat) : nums (tAt s a k) = ((nums s).drop a).take k := by
  unfold nums tAt
  rw [ByteArray.data_extract]
  simp
theorem tAt_num (s : ByteArray) (a k : Nat) : numL (nums (tAt s a k)) = nAt s a k := by
  rw [nums_tAt]
  rfl
/-- Bytes are the number's. -/
theorem tAt_le (s : ByteArray) (a k : Nat) (h : a + k ≤ s.size) : tAt s a k = text (le (nAt s a k) k) := by
  apply nums_inj
  rw [nums_text _ (le_lt _ _), nums_tAt]
  unfold nAt
  have hl : (((nums s).drop a).take k).length = k := by rw [List.length_take, List.length_drop, nums_len]; omega
  rw [le_of_numL _ (fun x hx => nums_lt s x (List.mem_of_mem_drop (List.mem_of_mem_take hx))) k (by rw [hl]; exact Nat.le_refl _), List.take_take, Nat.min_self]
theorem errB_no (s : ByteArray) (a e k : Nat) (h : e = 3 ∨ s.size < a + k) : errB s a e (k : Nat) = 3 := by
  unfold errB
  split
  · rename_i hm
    unfold mayB at hm
    have := of_decide_eq_true hm
    omega
  · rfl

theorem lt_of_some {w : World} {k : Nat} {o : Obj} (h : w.heap[k]? = some o) : k < w.heap.size := (Array.getElem?_eq_some_iff.1 h).1
/-- A cursor of the call's own on its way: as long as nothing was short it is at K and Q holds; else the header doesn't fit. -/
def Wk (w0 : World) (s : ByteArray) (F : Prop) (K : Nat) (Q : Prop) (w : World) : Prop :=
  ∃ a e, CI w0 s a e w ∧ a ≤ s.size ∧ ((e = 0 ∧ a = K ∧ Q) ∨ (e = 3 ∧ ¬ F))
theorem Wk.lt {w0 w : World} {s : ByteArray} {F Q : Prop} {K : Nat} (h : Wk w0 s F K Q w) : w0.heap.size < w.heap.size := by
  obtain ⟨a, e, hc, _⟩ := h
  exact hc.lt
theorem Wk.bel {w0 w : World} {s : ByteArray} {F Q : Prop} {K : Nat} (h : Wk w0 s F K Q w) : Below w0.heap.size w0 w := by
  obtain ⟨a, e, hc, _⟩ := h
  exact hc.bel
/-- What is made or written above the cursor. -/
theorem Wk.below {w0 w w' : World} {s : ByteArray} {F Q : Prop} {K : Nat} (h : Wk w0 s F K Q w) (hb : Below (w0.heap.size + 1) w w') : Wk w0 s F K Q w' := by
  obtain ⟨a, e, hc, h1, h2⟩ := h
  exact ⟨a, e, ⟨hc.cur.below hb (by omega), hc.bel.trans (hb.mono (by omega))⟩, h1, h2⟩
theorem wk_step {w0 w' : World} {s : ByteArray} {F Q : Prop} {K a e k : Nat} (hF : F → Q → K + k ≤ s.size) (h : (e = 0 ∧ a = K ∧ Q) ∨ (e = 3 ∧ ¬ F)) (ha : a ≤ s.size) {P : Prop} (hP : a + k ≤ s.size → e = 0 → P) (hc : CI w0 s (atB s a e (k : Nat)) (errB s a e (k : Nat)) w') :
    Wk w0 s F (K + k) (Q ∧ K + k ≤ s.size ∧ P) w' := by
  refine ⟨_, _, hc, atB_le s a e _ ha, ?_⟩
  rcases h with ⟨rfl, rfl, hq⟩ | ⟨rfl, hn⟩
  · by_cases hk : a + k ≤ s.size
    · exact .inl ⟨errB_yes s a k hk, atB_yes s a k hk, hq, hk, hP hk rfl⟩
    · exact .inr ⟨errB_no s a 0 k (.inr (by omega)), fun f => hk (hF f hq)⟩
  · exact .inr ⟨errB_no s a 3 k (.inl rfl), hn⟩
theorem two_wk {w0 w : World} {s : ByteArray} {F Q : Prop} {K : Nat} (hs : s.size ≤ maxLen) (h : Wk w0 s F K Q w) (hF : F → Q → K + 2 ≤ s.size) :
    Calls Tryz.prog 156 #[.pointer (some ⟨w0.heap.size, 0, none⟩)] w fun r w' => ∃ v : Nat, v < 65536 ∧ r = .returned (.int .u16 v) ∧ Wk w0 s F (K + 2) (Q ∧ K + 2 ≤ s.size ∧ v = nAt s K 2) w' ∧ w.grownBy w' (some w0.heap.size) := by
  obtain ⟨a, e, hc, ha, h⟩ := h
  refine (two_of _ s a e hs ha w hc.cur).mono fun r w' ⟨hr, hc', hg⟩ => ⟨numB s a e 2, numB_lt s a e 2, hr, wk_step (k := 2) hF h ha ?_ (hc.grown hc' hg), hg⟩
  intro hk he
  rcases h with ⟨_, rfl, _⟩ | ⟨h3, _⟩
  · rw [he]; exact numB_yes s a 2 hk
  · omega
theorem take_wk {w0 w : World} {s : ByteArray} {F Q : Prop} {K : Nat} (n : Nat) (hn : n < 65536) (hs : s.size ≤ maxLen) (h : Wk w0 s F K Q w) (hF : F → Q → K + n ≤ s.size) :
    Calls Tryz.prog 157 #[.pointer (some ⟨w0.heap.size, 0, none⟩), .int .i64 (n : Nat)] w fun r w' => ∃ p : ByteArray, p.size ≤ n ∧ r = .returned (.string p) ∧ Wk w0 s F (K + n) (Q ∧ K + n ≤ s.size ∧ p = tAt s K n) w' ∧ w.grownBy w' (some w0.heap.size) := by
  obtain ⟨a, e, hc, ha, h⟩ := h
  refine (take_any _ s a e n hs ha (WalkArith.wf_i64 (by omega)) w hc.cur).mono fun r w' ⟨hr, hc', hg⟩ => ⟨piece s a e n, by have := piece_size s a e (n : Nat); omega, hr, wk_step (k := n) hF h ha ?_ (hc.grown hc' hg), hg⟩
  intro hk he
  rcases h with ⟨_, rfl, _⟩ | ⟨h3, _⟩
  · rw [he]; exact piece_yes s a n hk
  · omega
/-- A block that is none of the cursor's stays. -/
theorem stays {w w' : World} {g k : Nat} {o : Obj} (hg : w.grownBy w' (some g)) (hne : k ≠ g) (h : w.heap[k]? = some o) : w'.heap[k]? = some o :=
  (hg.block k (lt_of_some h) (fun e => hne (Option.some.inj e))).trans h
/-- Does it begin with its four bytes, where there are four? -/
def begB (s : ByteArray) (k : Nat) : Bool := decide (s.size < 4) || decide (nAt s 0 4 = k)
theorem wk_fresh {w0 w : World} {s : ByteArray} {F : Prop} (k : Nat) (hF : F → 4 ≤ s.size) (hb : begB s k = true) (h : CI w0 s (atB s 0 0 (4 : Nat)) (errB s 0 0 (4 : Nat)) w) : Wk w0 s F 4 (4 ≤ s.size ∧ nAt s 0 4 = k) w := by
  refine ⟨_, _, h, atB_le s 0 0 _ (Nat.zero_le _), ?_⟩
  by_cases h4 : 4 ≤ s.size
  · refine .inl ⟨errB_yes s 0 4 (by omega), atB_yes s 0 4 (by omega), h4, ?_⟩
    unfold begB at hb
    rw [decide_eq_false (by omega), Bool.false_or, decide_eq_true_iff] at hb
    exact hb
  · exact .inr ⟨errB_no s 0 0 4 (.inr (by omega)), fun f => h4 (hF f)⟩
end Go.Proofs.YtpkhpaklhfomkaaGreatDoor

namespace Go.Proofs.YtpkhpaklhfomkaaGreatDoor
set_option maxRecDepth 100000
set_option linter.unusedSimpArgs false
open Go.RowKit Go.Joins Go.Deep Go.Op

/-- What three results come to: a struct that lies in a block, two numbers. -/
theorem results_ctt_row {P : Program} {fn : Func} {p u v : Tmp} {ty : TypeId} (h : fn.results = #[.cell p ty, .tmp u, .tmp v]) (tmps : Array Value) (w : World) (g : Nat) (t : TypeId) (cs : Array Value) (fr : Nat × Nat) (d : TypeDesc)
    (hp : tmps.getD p undef = .pointer (some ⟨g, 0, none⟩)) (hg : w.heap[g]? = some (.cells cs t fr))
    (hu : P.underlying ty = some d) (hd : (match d with | .struct _ | .array _ _ => true | _ => false) = true) (hi : (P.info? ty).map (·.size) = some cs.size) :
    (results fn tmps).run P w = .ok (.tuple #[.agg cs, tmps.getD u undef, tmps.getD v undef]) w := by
  have hp' : tmps[p]?.getD undef = .pointer (some ⟨g, 0, none⟩) := by simpa using hp
  simp [results, h, hp', asAddr, run_loadVar_row w g t ty cs fr d hg hu hd hi]
theorem heap_setRow_same (w : World) (g : Nat) (old cs : Array Value) (t : TypeId) (h : w.heap[g]? = some (.cells old t (0, 0))) : (w.setRow g cs).heap[g]? = some (.cells cs t (0, 0)) := setRow_heap _ _ _ _ _ _ h
theorem alloc_size (w : World) (o : Obj) : (w.alloc o).heap.size = w.heap.size + 1 := by simp
theorem heap_alloc_at {w : World} {o : Obj} {k : Nat} (h : k = w.heap.size) : (w.alloc o).heap[k]? = some o := by subst h; exact heap_alloc_new _ _
theorem info_L : (Tryz.prog.info? 158).map (·.size) = some 9 := by kernel_rfl
theorem one_L (f0 f1 f2 f3 f4 f5 f6 : Nat) (f7 f8 : ByteArray) : (#[.int .u16 (f0 : Nat), .int .u16 (f1 : Nat), .int .u16 (f2 : Nat), .int .u32 (f3 : Nat), .int .u32 (f4 : Nat), .int .u32 (f5 : Nat), .int .u32 (f6 : Nat), .string f7, .string f8] : Array Value).all (·.oneCell') = true := by simp [Value.oneCell']
theorem info_C : (Tryz.prog.info? 165).map (·.size) = some 15 := by kernel_rfl
theorem one_C (f0 f1 f2 f3 f4 f5 f6 f7 f8 f9 f10 f11 : Nat) (f12 f13 f14 : ByteArray) : (#[.int .u16 (f0 : Nat), .int .u16 (f1 : Nat), .int .u16 (f2 : Nat), .int .u16 (f3 : Nat), .int .u32 (f4 : Nat), .int .u32 (f5 : Nat), .int .u32 (f6 : Nat), .int .u32 (f7 : Nat), .int .u16 (f8 : Nat), .int .u16 (f9 : Nat), .int .u32 (f10 : Nat), .int .u32 (f11 : Nat), .string f12, .string f13, .string f14] : Array Value).all (·.oneCell') = true := by simp [Value.oneCell']
theorem one_D (f0 f1 f2 : Nat) : (#[.int .u32 (f0 : Nat), .int .u64 (f1 : Nat), .int .u64 (f2 : Nat)] : Array Value).all (·.oneCell') = true := by simp [Value.oneCell']
end Go.Proofs.YtpkhpaklhfomkaaGreatDoor

namespace Go.Proofs.YtpkhpaklhfomkaaGreatDoor
set_option maxRecDepth 100000
set_option linter.unusedSimpArgs false
open Go.RowKit Go.Joins Go.Deep Go.Op
theorem mark_beq {s M : ByteArray} {k : Nat} (hk : k < 4294967296) (hM : M = text (le k 4)) (h4 : 4 ≤ s.size) : ((tAt s 0 4).toList == M.toList) = decide (nAt s 0 4 = k) := by
  subst hM
  rw [tAt_le s 0 4 (by omega)]
  have hl := nAt_lt s 0 4
  by_cases h : nAt s 0 4 = k
  · rw [h, decide_eq_true rfl]
    exact beq_self_eq_true _
  · rw [decide_eq_false h, beq_eq_false_iff_ne, Lib.toList_data, Lib.toList_data]
    intro e
    have e2 : text (le (nAt s 0 4) 4) = text (le k 4) := ByteArray.ext (Array.toList_inj.1 e)
    have e3 := congrArg nums e2
    rw [nums_text _ (le_lt _ _), nums_text _ (le_lt _ _)] at e3
    have e4 := congrArg numL e3
    rw [numL_le, numL_le, Nat.mod_eq_of_lt hl, Nat.mod_eq_of_lt (by omega)] at e4
    exact h e4
end Go.Proofs.YtpkhpaklhfomkaaGreatDoor

namespace Go.Proofs.YtpkhpaklhfomkaaGreatDoor
set_option maxRecDepth 100000
set_option linter.unusedSimpArgs false
open Go.RowKit Go.Joins Go.Deep Go.Op
theorem below_then' {w w0 y : World} (h : Below w.heap.size w w0) (hs : w0.heap.size = w.heap.size + 1) (k : Below w0.heap.size w0 y) : Below w.heap.size w y := h.trans (k.mono (by omega))
/-- Does the header fit? -/
def fitL (s : ByteArray) : Prop := 30 + nAt s 26 2 + nAt s 28 2 ≤ s.size
instance (s : ByteArray) : Decidable (fitL s) := by unfold fitL; infer_instance
/-- Its fields. -/
def hdL (s : ByteArray) : Array Value := #[.int .u16 (nAt s 4 2 : Nat), .int .u16 (nAt s 6 2 : Nat), .int .u16 (nAt s 8 2 : Nat), .int .u32 (nAt s 10 4 : Nat), .int .u32 (nAt s 14 4 : Nat), .int .u32 (nAt s 18 4 : Nat), .int .u32 (nAt s 22 4 : Nat), .string (tAt s (30) (nAt s 26 2)), .string (tAt s (30 + nAt s 26 2) (nAt s 28 2))]
def endL (s : ByteArray) : Nat := 30 + nAt s 26 2 + nAt s 28 2
/-- What ParseLocal answers. -/
def psL (s : ByteArray) : Value := if begB s 67324752 = true then (if fitL s then .tuple #[.agg (hdL s), .int .i64 (endL s : Nat), .int .i64 0] else .tuple #[.agg #[.int .u16 0, .int .u16 0, .int .u16 0, .int .u32 0, .int .u32 0, .int .u32 0, .int .u32 0, .string ⟨#[]⟩, .string ⟨#[]⟩], .int .i64 0, .int .i64 3]) else .tuple #[.agg #[.int .u16 0, .int .u16 0, .int .u16 0, .int .u32 0, .int .u32 0, .int .u32 0, .int .u32 0, .string ⟨#[]⟩, .string ⟨#[]⟩], .int .i64 0, .int .i64 4]
theorem take_fitL0 {s : ByteArray} {v1 v2 v3 v4 v5 v6 v7 v8 v9 : Nat} (f : fitL s) (q : ((((((((((4 ≤ s.size ∧ nAt s 0 4 = 67324752) ∧ 4 + 2 ≤ s.size ∧ v1 = nAt s (4) 2) ∧ 4 + 2 + 2 ≤ s.size ∧ v2 = nAt s (4 + 2) 2) ∧ 4 + 2 + 2 + 2 ≤ s.size ∧ v3 = nAt s (4 + 2 + 2) 2) ∧ 4 + 2 + 2 + 2 + 4 ≤ s.size ∧ v4 = nAt s (4 + 2 + 2 + 2) 4) ∧ 4 + 2 + 2 + 2 + 4 + 4 ≤ s.size ∧ v5 = nAt s (4 + 2 + 2 + 2 + 4) 4) ∧ 4 + 2 + 2 + 2 + 4 + 4 + 4 ≤ s.size ∧ v6 = nAt s (4 + 2 + 2 + 2 + 4 + 4) 4) ∧ 4 + 2 + 2 + 2 + 4 + 4 + 4 + 4 ≤ s.size ∧ v7 = nAt s (4 + 2 + 2 + 2 + 4 + 4 + 4) 4) ∧ 4 + 2 + 2 + 2 + 4 + 4 + 4 + 4 + 2 ≤ s.size ∧ v8 = nAt s (4 + 2 + 2 + 2 + 4 + 4 + 4 + 4) 2) ∧ 4 + 2 + 2 + 2 + 4 + 4 + 4 + 4 + 2 + 2 ≤ s.size ∧ v9 = nAt s (4 + 2 + 2 + 2 + 4 + 4 + 4 + 4 + 2) 2)) : 4 + 2 + 2 + 2 + 4 + 4 + 4 + 4 + 2 + 2 + v8 ≤ s.size := by
  unfold fitL at f
  obtain ⟨⟨⟨⟨⟨⟨⟨⟨⟨⟨k0, e0⟩, k1, e1⟩, k2, e2⟩, k3, e3⟩, k4, e4⟩, k5, e5⟩, k6, e6⟩, k7, e7⟩, k8, e8⟩, k9, e9⟩ := q
  simp only [Nat.reduceAdd] at *
  omega
theorem take_fitL1 {s : ByteArray} {v1 v2 v3 v4 v5 v6 v7 v8 v9 : Nat} {v10 : ByteArray} (f : fitL s) (q : (((((((((((4 ≤ s.size ∧ nAt s 0 4 = 67324752) ∧ 4 + 2 ≤ s.size ∧ v1 = nAt s (4) 2) ∧ 4 + 2 + 2 ≤ s.size ∧ v2 = nAt s (4 + 2) 2) ∧ 4 + 2 + 2 + 2 ≤ s.size ∧ v3 = nAt s (4 + 2 + 2) 2) ∧ 4 + 2 + 2 + 2 + 4 ≤ s.size ∧ v4 = nAt s (4 + 2 + 2 + 2) 4) ∧ 4 + 2 + 2 + 2 + 4 + 4 ≤ s.size ∧ v5 = nAt s (4 + 2 + 2 + 2 + 4) 4) ∧ 4 + 2 + 2 + 2 + 4 + 4 + 4 ≤ s.size ∧ v6 = nAt s (4 + 2 + 2 + 2 + 4 + 4) 4) ∧ 4 + 2 + 2 + 2 + 4 + 4 + 4 + 4 ≤ s.size ∧ v7 = nAt s (4 + 2 + 2 + 2 + 4 + 4 + 4) 4) ∧ 4 + 2 + 2 + 2 + 4 + 4 + 4 + 4 + 2 ≤ s.size ∧ v8 = nAt s (4 + 2 + 2 + 2 + 4 + 4 + 4 + 4) 2) ∧ 4 + 2 + 2 + 2 + 4 + 4 + 4 + 4 + 2 + 2 ≤ s.size ∧ v9 = nAt s (4 + 2 + 2 + 2 + 4 + 4 + 4 + 4 + 2) 2) ∧ 4 + 2 + 2 + 2 + 4 + 4 + 4 + 4 + 2 + 2 + v8 ≤ s.size ∧ v10 = tAt s (4 + 2 + 2 + 2 + 4 + 4 + 4 + 4 + 2 + 2) v8)) : 4 + 2 + 2 + 2 + 4 + 4 + 4 + 4 + 2 + 2 + v8 + v9 ≤ s.size := by
  unfold fitL at f
  obtain ⟨⟨⟨⟨⟨⟨⟨⟨⟨⟨⟨k0, e0⟩, k1, e1⟩, k2, e2⟩, k3, e3⟩, k4, e4⟩, k5, e5⟩, k6, e6⟩, k7, e7⟩, k8, e8⟩, k9, e9⟩, k10, e10⟩ := q
  simp only [Nat.reduceAdd] at *
  omega
theorem psL_yes {s : ByteArray} {v1 v2 v3 v4 v5 v6 v7 v8 v9 : Nat} {v10 v11 : ByteArray} (hb : begB s 67324752 = true) (q : ((((((((((((4 ≤ s.size ∧ nAt s 0 4 = 67324752) ∧ 4 + 2 ≤ s.size ∧ v1 = nAt s (4) 2) ∧ 4 + 2 + 2 ≤ s.size ∧ v2 = nAt s (4 + 2) 2) ∧ 4 + 2 + 2 + 2 ≤ s.size ∧ v3 = nAt s (4 + 2 + 2) 2) ∧ 4 + 2 + 2 + 2 + 4 ≤ s.size ∧ v4 = nAt s (4 + 2 + 2 + 2) 4) ∧ 4 + 2 + 2 + 2 + 4 + 4 ≤ s.size ∧ v5 = nAt s (4 + 2 + 2 + 2 + 4) 4) ∧ 4 + 2 + 2 + 2 + 4 + 4 + 4 ≤ s.size ∧ v6 = nAt s (4 + 2 + 2 + 2 + 4 + 4) 4) ∧ 4 + 2 + 2 + 2 + 4 + 4 + 4 + 4 ≤ s.size ∧ v7 = nAt s (4 + 2 + 2 + 2 + 4 + 4 + 4) 4) ∧ 4 + 2 + 2 + 2 + 4 + 4 + 4 + 4 + 2 ≤ s.size ∧ v8 = nAt s (4 + 2 + 2 + 2 + 4 + 4 + 4 + 4) 2) ∧ 4 + 2 + 2 + 2 + 4 + 4 + 4 + 4 + 2 + 2 ≤ s.size ∧ v9 = nAt s (4 + 2 + 2 + 2 + 4 + 4 + 4 + 4 + 2) 2) ∧ 4 + 2 + 2 + 2 + 4 + 4 + 4 + 4 + 2 + 2 + v8 ≤ s.size ∧ v10 = tAt s (4 + 2 + 2 + 2 + 4 + 4 + 4 + 4 + 2 + 2) v8) ∧ 4 + 2 + 2 + 2 + 4 + 4 + 4 + 4 + 2 + 2 + v8 + v9 ≤ s.size ∧ v11 = tAt s (4 + 2 + 2 + 2 + 4 + 4 + 4 + 4 + 2 + 2 + v8) v9)) : psL s = .tuple #[.agg #[.int .u16 (v1 : Nat), .int .u16 (v2 : Nat), .int .u16 (v3 : Nat), .int .u32 (v4 : Nat), .int .u32 (v5 : Nat), .int .u32 (v6 : Nat), .int .u32 (v7 : Nat), .string v10, .string v11], .int .i64 ((4 + 2 + 2 + 2 + 4 + 4 + 4 + 4 + 2 + 2 + v8 + v9 : Nat)), .int .i64 0] := by
  obtain ⟨⟨⟨⟨⟨⟨⟨⟨⟨⟨⟨⟨k0, e0⟩, k1, e1⟩, k2, e2⟩, k3, e3⟩, k4, e4⟩, k5, e5⟩, k6, e6⟩, k7, e7⟩, k8, e8⟩, k9, e9⟩, k10, e10⟩, k11, e11⟩ := q
  unfold psL
  rw [if_pos hb, if_pos]
  · unfold hdL endL
    subst e11 e10 e9 e8 e7 e6 e5 e4 e3 e2 e1
    rfl
  · unfold fitL
    simp only [Nat.reduceAdd] at *
    omega
end Go.Proofs.YtpkhpaklhfomkaaGreatDoor

namespace Go.Proofs.YtpkhpaklhfomkaaGreatDoor
set_option maxRecDepth 100000
set_option linter.unusedSimpArgs false
open Go.RowKit Go.Joins Go.Deep Go.Op
/-- Does the header fit? -/
def fitC (s : ByteArray) : Prop := 46 + nAt s 28 2 + nAt s 30 2 + nAt s 32 2 ≤ s.size
instance (s : ByteArray) : Decidable (fitC s) := by unfold fitC; infer_instance
/-- Its fields. -/
def hdC (s : ByteArray) : Array Value := #[.int .u16 (nAt s 4 2 : Nat), .int .u16 (nAt s 6 2 : Nat), .int .u16 (nAt s 8 2 : Nat), .int .u16 (nAt s 10 2 : Nat), .int .u32 (nAt s 12 4 : Nat), .int .u32 (nAt s 16 4 : Nat), .int .u32 (nAt s 20 4 : Nat), .int .u32 (nAt s 24 4 : Nat), .int .u16 (nAt s 34 2 : Nat), .int .u16 (nAt s 36 2 : Nat), .int .u32 (nAt s 38 4 : Nat), .int .u32 (nAt s 42 4 : Nat), .string (tAt s (46) (nAt s 28 2)), .string (tAt s (46 + nAt s 28 2) (nAt s 30 2)), .string (tAt s (46 + nAt s 28 2 + nAt s 30 2) (nAt s 32 2))]
def endC (s : ByteArray) : Nat := 46 + nAt s 28 2 + nAt s 30 2 + nAt s 32 2
/-- What ParseCentral answers. -/
def psC (s : ByteArray) : Value := if begB s 33639248 = true then (if fitC s then .tuple #[.agg (hdC s), .int .i64 (endC s : Nat), .int .i64 0] else .tuple #[.agg #[.int .u16 0, .int .u16 0, .int .u16 0, .int .u16 0, .int .u32 0, .int .u32 0, .int .u32 0, .int .u32 0, .int .u16 0, .int .u16 0, .int .u32 0, .int .u32 0, .string ⟨#[]⟩, .string ⟨#[]⟩, .string ⟨#[]⟩], .int .i64 0, .int .i64 3]) else .tuple #[.agg #[.int .u16 0, .int .u16 0, .int .u16 0, .int .u16 0, .int .u32 0, .int .u32 0, .int .u32 0, .int .u32 0, .int .u16 0, .int .u16 0, .int .u32 0, .int .u32 0, .string ⟨#[]⟩, .string ⟨#[]⟩, .string ⟨#[]⟩], .int .i64 0, .int .i64 4]
theorem take_fitC0 {s : ByteArray} {v1 v2 v3 v4 v5 v6 v7 v8 v9 v10 v11 v12 v13 v14 v15 : Nat} (f : fitC s) (q : ((((((((((((((((4 ≤ s.size ∧ nAt s 0 4 = 33639248) ∧ 4 + 2 ≤ s.size ∧ v1 = nAt s (4) 2) ∧ 4 + 2 + 2 ≤ s.size ∧ v2 = nAt s (4 + 2) 2) ∧ 4 + 2 + 2 + 2 ≤ s.size ∧ v3 = nAt s (4 + 2 + 2) 2) ∧ 4 + 2 + 2 + 2 + 2 ≤ s.size ∧ v4 = nAt s (4 + 2 + 2 + 2) 2) ∧ 4 + 2 + 2 + 2 + 2 + 4 ≤ s.size ∧ v5 = nAt s (4 + 2 + 2 + 2 + 2) 4) ∧ 4 + 2 + 2 + 2 + 2 + 4 + 4 ≤ s.size ∧ v6 = nAt s (4 + 2 + 2 + 2 + 2 + 4) 4) ∧ 4 + 2 + 2 + 2 + 2 + 4 + 4 + 4 ≤ s.size ∧ v7 = nAt s (4 + 2 + 2 + 2 + 2 + 4 + 4) 4) ∧ 4 + 2 + 2 + 2 + 2 + 4 + 4 + 4 + 4 ≤ s.size ∧ v8 = nAt s (4 + 2 + 2 + 2 + 2 + 4 + 4 + 4) 4) ∧ 4 + 2 + 2 + 2 + 2 + 4 + 4 + 4 + 4 + 2 ≤ s.size ∧ v9 = nAt s (4 + 2 + 2 + 2 + 2 + 4 + 4 + 4 + 4) 2) ∧ 4 + 2 + 2 + 2 + 2 + 4 + 4 + 4 + 4 + 2 + 2 ≤ s.size ∧ v10 = nAt s (4 + 2 + 2 + 2 + 2 + 4 + 4 + 4 + 4 + 2) 2) ∧ 4 + 2 + 2 + 2 + 2 + 4 + 4 + 4 + 4 + 2 + 2 + 2 ≤ s.size ∧ v11 = nAt s (4 + 2 + 2 + 2 + 2 + 4 + 4 + 4 + 4 + 2 + 2) 2) ∧ 4 + 2 + 2 + 2 + 2 + 4 + 4 + 4 + 4 + 2 + 2 + 2 + 2 ≤ s.size ∧ v12 = nAt s (4 + 2 + 2 + 2 + 2 + 4 + 4 + 4 + 4 + 2 + 2 + 2) 2) ∧ 4 + 2 + 2 + 2 + 2 + 4 + 4 + 4 + 4 + 2 + 2 + 2 + 2 + 2 ≤ s.size ∧ v13 = nAt s (4 + 2 + 2 + 2 + 2 + 4 + 4 + 4 + 4 + 2 + 2 + 2 + 2) 2) ∧ 4 + 2 + 2 + 2 + 2 + 4 + 4 + 4 + 4 + 2 + 2 + 2 + 2 + 2 + 4 ≤ s.size ∧ v14 = nAt s (4 + 2 + 2 + 2 + 2 + 4 + 4 + 4 + 4 + 2 + 2 + 2 + 2 + 2) 4) ∧ 4 + 2 + 2 + 2 + 2 + 4 + 4 + 4 + 4 + 2 + 2 + 2 + 2 + 2 + 4 + 4 ≤ s.size ∧ v15 = nAt s (4 + 2 + 2 + 2 + 2 + 4 + 4 + 4 + 4 + 2 + 2 + 2 + 2 + 2 + 4) 4)) : 4 + 2 + 2 + 2 + 2 + 4 + 4 + 4 + 4 + 2 + 2 + 2 + 2 + 2 + 4 + 4 + v9 ≤ s.size := by
  unfold fitC at f
  obtain ⟨⟨⟨⟨⟨⟨⟨⟨⟨⟨⟨⟨⟨⟨⟨⟨k0, e0⟩, k1, e1⟩, k2, e2⟩, k3, e3⟩, k4, e4⟩, k5, e5⟩, k6, e6⟩, k7, e7⟩, k8, e8⟩, k9, e9⟩, k10, e10⟩, k11, e11⟩, k12, e12⟩, k13, e13⟩, k14, e14⟩, k15, e15⟩ := q
  simp only [Nat.reduceAdd] at *
  omega
theorem take_fitC1 {s : ByteArray} {v1 v2 v3 v4 v5 v6 v7 v8 v9 v10 v11 v12 v13 v14 v15 : Nat} {v16 : ByteArray} (f : fitC s) (q : (((((((((((((((((4 ≤ s.size ∧ nAt s 0 4 = 33639248) ∧ 4 + 2 ≤ s.size ∧ v1 = nAt s (4) 2) ∧ 4 + 2 + 2 ≤ s.size ∧ v2 = nAt s (4 + 2) 2) ∧ 4 + 2 + 2 + 2 ≤ s.size ∧ v3 = nAt s (4 + 2 + 2) 2) ∧ 4 + 2 + 2 + 2 + 2 ≤ s.size ∧ v4 = nAt s (4 + 2 + 2 + 2) 2) ∧ 4 + 2 + 2 + 2 + 2 + 4 ≤ s.size ∧ v5 = nAt s (4 + 2 + 2 + 2 + 2) 4) ∧ 4 + 2 + 2 + 2 + 2 + 4 + 4 ≤ s.size ∧ v6 = nAt s (4 + 2 + 2 + 2 + 2 + 4) 4) ∧ 4 + 2 + 2 + 2 + 2 + 4 + 4 + 4 ≤ s.size ∧ v7 = nAt s (4 + 2 + 2 + 2 + 2 + 4 + 4) 4) ∧ 4 + 2 + 2 + 2 + 2 + 4 + 4 + 4 + 4 ≤ s.size ∧ v8 = nAt s (4 + 2 + 2 + 2 + 2 + 4 + 4 + 4) 4) ∧ 4 + 2 + 2 + 2 + 2 + 4 + 4 + 4 + 4 + 2 ≤ s.size ∧ v9 = nAt s (4 + 2 + 2 + 2 + 2 + 4 + 4 + 4 + 4) 2) ∧ 4 + 2 + 2 + 2 + 2 + 4 + 4 + 4 + 4 + 2 + 2 ≤ s.size ∧ v10 = nAt s (4 + 2 + 2 + 2 + 2 + 4 + 4 + 4 + 4 + 2) 2) ∧ 4 + 2 + 2 + 2 + 2 + 4 + 4 + 4 + 4 + 2 + 2 + 2 ≤ s.size ∧ v11 = nAt s (4 + 2 + 2 + 2 + 2 + 4 + 4 + 4 + 4 + 2 + 2) 2) ∧ 4 + 2 + 2 + 2 + 2 + 4 + 4 + 4 + 4 + 2 + 2 + 2 + 2 ≤ s.size ∧ v12 = nAt s (4 + 2 + 2 + 2 + 2 + 4 + 4 + 4 + 4 + 2 + 2 + 2) 2) ∧ 4 + 2 + 2 + 2 + 2 + 4 + 4 + 4 + 4 + 2 + 2 + 2 + 2 + 2 ≤ s.size ∧ v13 = nAt s (4 + 2 + 2 + 2 + 2 + 4 + 4 + 4 + 4 + 2 + 2 + 2 + 2) 2) ∧ 4 + 2 + 2 + 2 + 2 + 4 + 4 + 4 + 4 + 2 + 2 + 2 + 2 + 2 + 4 ≤ s.size ∧ v14 = nAt s (4 + 2 + 2 + 2 + 2 + 4 + 4 + 4 + 4 + 2 + 2 + 2 + 2 + 2) 4) ∧ 4 + 2 + 2 + 2 + 2 + 4 + 4 + 4 + 4 + 2 + 2 + 2 + 2 + 2 + 4 + 4 ≤ s.size ∧ v15 = nAt s (4 + 2 + 2 + 2 + 2 + 4 + 4 + 4 + 4 + 2 + 2 + 2 + 2 + 2 + 4) 4) ∧ 4 + 2 + 2 + 2 + 2 + 4 + 4 + 4 + 4 + 2 + 2 + 2 + 2 + 2 + 4 + 4 + v9 ≤ s.size ∧ v16 = tAt s (4 + 2 + 2 + 2 + 2 + 4 + 4 + 4 + 4 + 2 + 2 + 2 + 2 + 2 + 4 + 4) v9)) : 4 + 2 + 2 + 2 + 2 + 4 + 4 + 4 + 4 + 2 + 2 + 2 + 2 + 2 + 4 + 4 + v9 + v10 ≤ s.size := by
  unfold fitC at f
  obtain ⟨⟨⟨⟨⟨⟨⟨⟨⟨⟨⟨⟨⟨⟨⟨⟨⟨k0, e0⟩, k1, e1⟩, k2, e2⟩, k3, e3⟩, k4, e4⟩, k5, e5⟩, k6, e6⟩, k7, e7⟩, k8, e8⟩, k9, e9⟩, k10, e10⟩, k11, e11⟩, k12, e12⟩, k13, e13⟩, k14, e14⟩, k15, e15⟩, k16, e16⟩ := q
  simp only [Nat.reduceAdd] at *
  omega
theorem take_fitC2 {s : ByteArray} {v1 v2 v3 v4 v5 v6 v7 v8 v9 v10 v11 v12 v13 v14 v15 : Nat} {v16 v17 : ByteArray} (f : fitC s) (q : ((((((((((((((((((4 ≤ s.size ∧ nAt s 0 4 = 33639248) ∧ 4 + 2 ≤ s.size ∧ v1 = nAt s (4) 2) ∧ 4 + 2 + 2 ≤ s.size ∧ v2 = nAt s (4 + 2) 2) ∧ 4 + 2 + 2 + 2 ≤ s.size ∧ v3 = nAt s (4 + 2 + 2) 2) ∧ 4 + 2 + 2 + 2 + 2 ≤ s.size ∧ v4 = nAt s (4 + 2 + 2 + 2) 2) ∧ 4 + 2 + 2 + 2 + 2 + 4 ≤ s.size ∧ v5 = nAt s (4 + 2 + 2 + 2 + 2) 4) ∧ 4 + 2 + 2 + 2 + 2 + 4 + 4 ≤ s.size ∧ v6 = nAt s (4 + 2 + 2 + 2 + 2 + 4) 4) ∧ 4 + 2 + 2 + 2 + 2 + 4 + 4 + 4 ≤ s.size ∧ v7 = nAt s (4 + 2 + 2 + 2 + 2 + 4 + 4) 4) ∧ 4 + 2 + 2 + 2 + 2 + 4 + 4 + 4 + 4 ≤ s.size ∧ v8 = nAt s (4 + 2 + 2 + 2 + 2 + 4 + 4 + 4) 4) ∧ 4 + 2 + 2 + 2 + 2 + 4 + 4 + 4 + 4 + 2 ≤ s.size ∧ v9 = nAt s (4 + 2 + 2 + 2 + 2 + 4 + 4 + 4 + 4) 2) ∧ 4 + 2 + 2 + 2 + 2 + 4 + 4 + 4 + 4 + 2 + 2 ≤ s.size ∧ v10 = nAt s (4 + 2 + 2 + 2 + 2 + 4 + 4 + 4 + 4 + 2) 2) ∧ 4 + 2 + 2 + 2 + 2 + 4 + 4 + 4 + 4 + 2 + 2 + 2 ≤ s.size ∧ v11 = nAt s (4 + 2 + 2 + 2 + 2 + 4 + 4 + 4 + 4 + 2 + 2) 2) ∧ 4 + 2 + 2 + 2 + 2 + 4 + 4 + 4 + 4 + 2 + 2 + 2 + 2 ≤ s.size ∧ v12 = nAt s (4 + 2 + 2 + 2 + 2 + 4 + 4 + 4 + 4 + 2 + 2 + 2) 2) ∧ 4 + 2 + 2 + 2 + 2 + 4 + 4 + 4 + 4 + 2 + 2 + 2 + 2 + 2 ≤ s.size ∧ v13 = nAt s (4 + 2 + 2 + 2 + 2 + 4 + 4 + 4 + 4 + 2 + 2 + 2 + 2) 2) ∧ 4 + 2 + 2 + 2 + 2 + 4 + 4 + 4 + 4 + 2 + 2 + 2 + 2 + 2 + 4 ≤ s.size ∧ v14 = nAt s (4 + 2 + 2 + 2 + 2 + 4 + 4 + 4 + 4 + 2 + 2 + 2 + 2 + 2) 4) ∧ 4 + 2 + 2 + 2 + 2 + 4 + 4 + 4 + 4 + 2 + 2 + 2 + 2 + 2 + 4 + 4 ≤ s.size ∧ v15 = nAt s (4 + 2 + 2 + 2 + 2 + 4 + 4 + 4 + 4 + 2 + 2 + 2 + 2 + 2 + 4) 4) ∧ 4 + 2 + 2 + 2 + 2 + 4 + 4 + 4 + 4 + 2 + 2 + 2 + 2 + 2 + 4 + 4 + v9 ≤ s.size ∧ v16 = tAt s (4 + 2 + 2 + 2 + 2 + 4 + 4 + 4 + 4 + 2 + 2 + 2 + 2 + 2 + 4 + 4) v9) ∧ 4 + 2 + 2 + 2 + 2 + 4 + 4 + 4 + 4 + 2 + 2 + 2 + 2 + 2 + 4 + 4 + v9 + v10 ≤ s.size ∧ v17 = tAt s (4 + 2 + 2 + 2 + 2 + 4 + 4 + 4 + 4 + 2 + 2 + 2 + 2 + 2 + 4 + 4 + v9) v10)) : 4 + 2 + 2 + 2 + 2 + 4 + 4 + 4 + 4 + 2 + 2 + 2 + 2 + 2 + 4 + 4 + v9 + v10 + v11 ≤ s.size := by
  unfold fitC at f
  obtain ⟨⟨⟨⟨⟨⟨⟨⟨⟨⟨⟨⟨⟨⟨⟨⟨⟨⟨k0, e0⟩, k1, e1⟩, k2, e2⟩, k3, e3⟩, k4, e4⟩, k5, e5⟩, k6, e6⟩, k7, e7⟩, k8, e8⟩, k9, e9⟩, k10, e10⟩, k11, e11⟩, k12, e12⟩, k13, e13⟩, k14, e14⟩, k15, e15⟩, k16, e16⟩, k17, e17⟩ := q
  simp only [Nat.reduceAdd] at *
  omega
theorem psC_yes {s : ByteArray} {v1 v2 v3 v4 v5 v6 v7 v8 v9 v10 v11 v12 v13 v14 v15 : Nat} {v16 v17 v18 : ByteArray} (hb : begB s 33639248 = true) (q : (((((((((((((((((((4 ≤ s.size ∧ nAt s 0 4 = 33639248) ∧ 4 + 2 ≤ s.size ∧ v1 = nAt s (4) 2) ∧ 4 + 2 + 2 ≤ s.size ∧ v2 = nAt s (4 + 2) 2) ∧ 4 + 2 + 2 + 2 ≤ s.size ∧ v3 = nAt s (4 + 2 + 2) 2) ∧ 4 + 2 + 2 + 2 + 2 ≤ s.size ∧ v4 = nAt s (4 + 2 + 2 + 2) 2) ∧ 4 + 2 + 2 + 2 + 2 + 4 ≤ s.size ∧ v5 = nAt s (4 + 2 + 2 + 2 + 2) 4) ∧ 4 + 2 + 2 + 2 + 2 + 4 + 4 ≤ s.size ∧ v6 = nAt s (4 + 2 + 2 + 2 + 2 + 4) 4) ∧ 4 + 2 + 2 + 2 + 2 + 4 + 4 + 4 ≤ s.size ∧ v7 = nAt s (4 + 2 + 2 + 2 + 2 + 4 + 4) 4) ∧ 4 + 2 + 2 + 2 + 2 + 4 + 4 + 4 + 4 ≤ s.size ∧ v8 = nAt s (4 + 2 + 2 + 2 + 2 + 4 + 4 + 4) 4) ∧ 4 + 2 + 2 + 2 + 2 + 4 + 4 + 4 + 4 + 2 ≤ s.size ∧ v9 = nAt s (4 + 2 + 2 + 2 + 2 + 4 + 4 + 4 + 4) 2) ∧ 4 + 2 + 2 + 2 + 2 + 4 + 4 + 4 + 4 + 2 + 2 ≤ s.size ∧ v10 = nAt s (4 + 2 + 2 + 2 + 2 + 4 + 4 + 4 + 4 + 2) 2) ∧ 4 + 2 + 2 + 2 + 2 + 4 + 4 + 4 + 4 + 2 + 2 + 2 ≤ s.size ∧ v11 = nAt s (4 + 2 + 2 + 2 + 2 + 4 + 4 + 4 + 4 + 2 + 2) 2) ∧ 4 + 2 + 2 + 2 + 2 + 4 + 4 + 4 + 4 + 2 + 2 + 2 + 2 ≤ s.size ∧ v12 = nAt s (4 + 2 + 2 + 2 + 2 + 4 + 4 + 4 + 4 + 2 + 2 + 2) 2) ∧ 4 + 2 + 2 + 2 + 2 + 4 + 4 + 4 + 4 + 2 + 2 + 2 + 2 + 2 ≤ s.size ∧ v13 = nAt s (4 + 2 + 2 + 2 + 2 + 4 + 4 + 4 + 4 + 2 + 2 + 2 + 2) 2) ∧ 4 + 2 + 2 + 2 + 2 + 4 + 4 + 4 + 4 + 2 + 2 + 2 + 2 + 2 + 4 ≤ s.size ∧ v14 = nAt s (4 + 2 + 2 + 2 + 2 + 4 + 4 + 4 + 4 + 2 + 2 + 2 + 2 + 2) 4) ∧ 4 + 2 + 2 + 2 + 2 + 4 + 4 + 4 + 4 + 2 + 2 + 2 + 2 + 2 + 4 + 4 ≤ s.size ∧ v15 = nAt s (4 + 2 + 2 + 2 + 2 + 4 + 4 + 4 + 4 + 2 + 2 + 2 + 2 + 2 + 4) 4) ∧ 4 + 2 + 2 + 2 + 2 + 4 + 4 + 4 + 4 + 2 + 2 + 2 + 2 + 2 + 4 + 4 + v9 ≤ s.size ∧ v16 = tAt s (4 + 2 + 2 + 2 + 2 + 4 + 4 + 4 + 4 + 2 + 2 + 2 + 2 + 2 + 4 + 4) v9) ∧ 4 + 2 + 2 + 2 + 2 + 4 + 4 + 4 + 4 + 2 + 2 + 2 + 2 + 2 + 4 + 4 + v9 + v10 ≤ s.size ∧ v17 = tAt s (4 + 2 + 2 + 2 + 2 + 4 + 4 + 4 + 4 + 2 + 2 + 2 + 2 + 2 + 4 + 4 + v9) v10) ∧ 4 + 2 + 2 + 2 + 2 + 4 + 4 + 4 + 4 + 2 + 2 + 2 + 2 + 2 + 4 + 4 + v9 + v10 + v11 ≤ s.size ∧ v18 = tAt s (4 + 2 + 2 + 2 + 2 + 4 + 4 + 4 + 4 + 2 + 2 + 2 + 2 + 2 + 4 + 4 + v9 + v10) v11)) : psC s = .tuple #[.agg #[.int .u16 (v1 : Nat), .int .u16 (v2 : Nat), .int .u16 (v3 : Nat), .int .u16 (v4 : Nat), .int .u32 (v5 : Nat), .int .u32 (v6 : Nat), .int .u32 (v7 : Nat), .int .u32 (v8 : Nat), .int .u16 (v12 : Nat), .int .u16 (v13 : Nat), .int .u32 (v14 : Nat), .int .u32 (v15 : Nat), .string v16, .string v17, .string v18], .int .i64 ((4 + 2 + 2 + 2 + 2 + 4 + 4 + 4 + 4 + 2 + 2 + 2 + 2 + 2 + 4 + 4 + v9 + v10 + v11 : Nat)), .int .i64 0] := by
  obtain ⟨⟨⟨⟨⟨⟨⟨⟨⟨⟨⟨⟨⟨⟨⟨⟨⟨⟨⟨k0, e0⟩, k1, e1⟩, k2, e2⟩, k3, e3⟩, k4, e4⟩, k5, e5⟩, k6, e6⟩, k7, e7⟩, k8, e8⟩, k9, e9⟩, k10, e10⟩, k11, e11⟩, k12, e12⟩, k13, e13⟩, k14, e14⟩, k15, e15⟩, k16, e16⟩, k17, e17⟩, k18, e18⟩ := q
  unfold psC
  rw [if_pos hb, if_pos]
  · unfold hdC endC
    subst e18 e17 e16 e15 e14 e13 e12 e11 e10 e9 e8 e7 e6 e5 e4 e3 e2 e1
    rfl
  · unfold fitC
    simp only [Nat.reduceAdd] at *
    omega
end Go.Proofs.YtpkhpaklhfomkaaGreatDoor

namespace Go.Proofs.YtpkhpaklhfomkaaGreatDoor
set_option maxRecDepth 100000
set_option linter.unusedSimpArgs false
open Go.RowKit Go.Joins Go.Deep Go.Op
/-- How many bytes each of its sizes has. -/
def dw (wide : Bool) : Nat := if wide then 8 else 4
def fitD (wide : Bool) (s : ByteArray) : Prop := 8 + dw wide + dw wide ≤ s.size
instance (wide : Bool) (s : ByteArray) : Decidable (fitD wide s) := by unfold fitD; infer_instance
def hdD (wide : Bool) (s : ByteArray) : Array Value := #[.int .u32 (nAt s 4 4 : Nat), .int .u64 (nAt s 8 (dw wide) : Nat), .int .u64 (nAt s (8 + dw wide) (dw wide) : Nat)]
def psD (wide : Bool) (s : ByteArray) : Value := if begB s 134695760 = true then (if fitD wide s then .tuple #[.agg (hdD wide s), .int .i64 (8 + dw wide + dw wide : Nat), .int .i64 0] else .tuple #[.agg #[.int .u32 0, .int .u64 0, .int .u64 0], .int .i64 0, .int .i64 3]) else .tuple #[.agg #[.int .u32 0, .int .u64 0, .int .u64 0], .int .i64 0, .int .i64 4]
theorem psD_yes {b : Bool} {s : ByteArray} {v1 v2 v3 : Nat} (hb : begB s 134695760 = true) (e1 : v1 = nAt s 4 4) (_ : 8 + dw b ≤ s.size) (e2 : v2 = nAt s 8 (dw b)) (k3 : 8 + dw b + dw b ≤ s.size) (e3 : v3 = nAt s (8 + dw b) (dw b)) : psD b s = .tuple #[.agg #[.int .u32 (v1 : Nat), .int .u64 (v2 : Nat), .int .u64 (v3 : Nat)], .int .i64 ((8 + dw b + dw b : Nat)), .int .i64 0] := by
  unfold psD
  rw [if_pos hb, if_pos (show fitD b s from k3)]
  unfold hdD
  subst e3 e2 e1
  rfl
end Go.Proofs.YtpkhpaklhfomkaaGreatDoor
