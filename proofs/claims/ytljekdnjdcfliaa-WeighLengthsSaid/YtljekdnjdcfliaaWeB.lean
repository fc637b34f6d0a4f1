/-
  weigh: contract of merge.
-/
import Derived.Test.YtljekdnjdcfliaaWeA
namespace Go.Proofs.Ytljekdnjdcfliaa
open Go.RowKit

/-- The cells of loads. -/
def ldC (l : List Ld) : List Value := l.flatMap fun x => [.int .u64 (x.1 : Nat), .bool x.2]
theorem ldC_append (a b : List Ld) : ldC (a ++ b) = ldC a ++ ldC b := by simp [ldC]
theorem ldC_length (l : List Ld) : (ldC l).length = l.length * 2 := by
  induction l with
  | nil => rfl
  | cons x l ih => simp only [ldC, List.flatMap_cons, List.length_append, List.length_cons, List.length_nil] at ih ⊢; omega
theorem ldC_get (l : List Ld) (i : Nat) (x : Ld) (h : l[i]? = some x) : (ldC l)[i * 2]? = some (.int .u64 (x.1 : Nat)) ∧ (ldC l)[i * 2 + 1]? = some (.bool x.2) := by
  induction l generalizing i with
  | nil => simp at h
  | cons y l ih =>
    cases i with
    | zero => simp at h; subst h; simp [ldC]
    | succ i =>
      have := ih i (by simpa using h)
      rw [show (i + 1) * 2 = i * 2 + 1 + 1 by omega]
      simpa [ldC] using this
theorem row_of_owns {w : World} {base g cap n : Nat} {l : List Ld} (h : w.ownsRow base 127 2 (.slice (some ⟨g, 0, none⟩) n cap) n (ldC l)) (hl : l.length = n) (hb : g < w.heap.size) : Row w (some ⟨g, 0, none⟩) l := fun _ =>
  ⟨g, 0, rfl, hb, by obtain ⟨_, h | ⟨g', _, cur, e, _, h2, _⟩⟩ := h; exact absurd h.1 (by simp); injection e with e; injection e with e; injection e with e; subst e; exact ⟨cur, h2⟩, fun i x hx => by
    obtain ⟨hlt, _⟩ := List.getElem?_eq_some_iff.1 hx
    obtain ⟨h1, h2⟩ := ldC_get l i x hx
    rw [← h1, ← h2, Nat.zero_add]
    exact ⟨h.cellAt _ (by omega), h.cellAt _ (by omega)⟩⟩

theorem mg_one {A B : List Ld} {i j : Nat} {a : Ld} (ha : A[i]? = some a) (h : B[j]? = none ∨ ∃ b, B[j]? = some b ∧ a.1 ≤ b.1) : mg (A.drop i) (B.drop j) = a :: mg (A.drop (i + 1)) (B.drop j) := by
  obtain ⟨hi, e⟩ := List.getElem?_eq_some_iff.1 ha
  rw [List.drop_eq_getElem_cons hi, e]
  rcases h with h | ⟨b, hb, hle⟩
  · rw [List.getElem?_eq_none_iff] at h
    rw [List.drop_eq_nil_of_le h, mg_nil_r, mg_nil_r]
  · obtain ⟨hj, e2⟩ := List.getElem?_eq_some_iff.1 hb
    rw [List.drop_eq_getElem_cons hj, e2, mg_cons, if_pos hle]
theorem mg_two {A B : List Ld} {i j : Nat} {b : Ld} (hb : B[j]? = some b) (h : A[i]? = none ∨ ∃ a, A[i]? = some a ∧ b.1 < a.1) : mg (A.drop i) (B.drop j) = b :: mg (A.drop i) (B.drop (j + 1)) := by
  obtain ⟨hj, e⟩ := List.getElem?_eq_some_iff.1 hb
  rw [List.drop_eq_getElem_cons hj, e]
  rcases h with h | ⟨a, ha, hle⟩
  · rw [List.getElem?_eq_none_iff] at h
    rw [List.drop_eq_nil_of_le h, mg_nil, mg_nil]
  · obtain ⟨hi, e2⟩ := List.getElem?_eq_some_iff.1 ha
    rw [List.drop_eq_getElem_cons hi, e2, mg_cons, if_neg (by omega)]
theorem info_ld : (Try.prog.info? 127).map (fun i => (i.zero, i.size, i.bytes)) = some (some (.agg #[.int .u64 0, .bool false]), 2, 16) := by kernel_rfl
theorem two_cells {w : World} {g : Nat} {a b : Value} {T : TypeId} {f : Nat × Nat} (h : w.heap[g]? = some (.cells #[a, b] T f)) : ∀ j u, ([a, b] : List Value)[j]? = some u → w.cell? ((⟨g, 0, none⟩ : Addr).add j) = some u := by
  intro j u hu
  rw [Addr.add_lit, cell_of_row w g (0 + j) _ _ _ h]
  match j, hu with
  | 0, hu => simpa using hu
  | 1, hu => simpa using hu
  | j + 2, hu => simp at hu
theorem two_one (x : Nat) (b : Bool) : ∀ u ∈ ([.int .u64 (x : Nat), .bool b] : List Value), u.oneCell' = true := by
  intro u hu
  simp at hu
  rcases hu with rfl | rfl <;> rfl

theorem gob {w w' : World} {row : Option Nat} (h : Below w.heap.size w w') : w.grownBy w' row := ⟨h.os, h.tape, h.output, h.size, fun i hi _ => h.block i hi⟩
theorem below_then' {W w w' : World} (h : Below W.heap.size W w) (k : Below w.heap.size w w') : Below W.heap.size W w' := below_then h k
/-- What one of the two functions answers, wherever memory has grown. -/
def Gives (f : Nat) (ps : Array Value) (l : List Ld) (w : World) : Prop := ∀ (i : Nat) (x : Ld), l[i]? = some x → ∀ w1, Below w.heap.size w w1 → Calls Try.prog f (#[.int .i64 i] ++ ps) w1 fun e w' => e = .returned (.agg #[.int .u64 (x.1 : Nat), .bool x.2]) ∧ Below w1.heap.size w1 w'

set_option maxRecDepth 100000 in
set_option maxHeartbeats 8000000 in
theorem merge_any (p1 p2 p3 : Nat) (a b : List Ld) (ha : a.length ≤ 1000) (hb : b.length ≤ 1000) (w : World)
    (hone : Gives 72 #[.pointer (some ⟨p1, 0, none⟩), .pointer (some ⟨p2, 0, none⟩)] a w) (htwo : Gives 73 #[.pointer (some ⟨p3, 0, none⟩)] b w) :
    Calls Try.prog 74 #[.int .i64 (a.length : Nat), .func (.func 72) #[] #[.pointer (some ⟨p1, 0, none⟩), .pointer (some ⟨p2, 0, none⟩)], .int .i64 (b.length : Nat), .func (.func 73) #[] #[.pointer (some ⟨p3, 0, none⟩)]] w
      fun e w' => ∃ A, e = .returned (.slice A (a.length + b.length) (a.length + b.length)) ∧ Row w' A (mg a b) ∧ Below w.heap.size w w' := by
  have H1 := Lib.hid hone
  have H2 := Lib.hid htwo
  clear hone htwo
  obtain ⟨i0, hi, hz0, hz1, hz2⟩ := info_parts info_ld
  have hfld : ∀ (x : Int) (b : Bool) (w : World), (Instr.field 127 (.agg #[.int .u64 x, .bool b]) 0).run Try.prog w = .ok (.int .u64 x) w := fun _ _ _ => by kernel_rfl
  generalize hm : a.length = m at *
  generalize hk : b.length = k at *
  have hw : IntKind.i64.wrap ((m : Int) + (k : Int)) = (m : Int) + k := by rw [IntKind.wrap_i64]; omega
  go_enter Try.func74, Try.ntmps74
  go_wp2_with (at_make; refine wpList_make_own _ rfl _ _ 120 rfl w.heap.size 127 i0 _ 2 Try.underlying120 hi hz0 hz1 _ _ _ (m + k) rfl rfl (by simp) ?b2 ?b3 (Nat.le_refl _) ?_)
  case b2 => rw [hz2]; omega
  case b3 => unfold maxLen; omega
  intro w0 hown0 hgrow0
  go_wp2
  have hb0 : Below w.heap.size w w0 := (Below.refl _ _).grown hgrow0 (Nat.le_refl _) (fun k h => by cases h)
  have HI0 : Hid (w0.ownsRow w.heap.size 127 2 (.slice (some ⟨w.heap.size, 0, none⟩) 0 (m + k)) 0 (ldC []) ∧ Below w.heap.size w w0) := ⟨hown0, hb0⟩
  clear hown0 hgrow0 hb0
  go_loopw [9, 10, 11] (fun out si sj wr => ∃ i j : Nat, i ≤ m ∧ j ≤ k ∧ si = .int .i64 i ∧ sj = .int .i64 j ∧ out = .slice (some ⟨w.heap.size, 0, none⟩) (i + j) (m + k) ∧ ∃ done,
      wr.ownsRow w.heap.size 127 2 (.slice (some ⟨w.heap.size, 0, none⟩) (i + j) (m + k)) (i + j) (ldC done) ∧ done ++ mg (a.drop i) (b.drop j) = mg a b ∧ Below w.heap.size w wr)
    (fun _ si sj _ => (m - (intOf si).toNat) + (k - (intOf sj).toNat))
  case atStart => exact ⟨0, 0, Nat.zero_le _, Nat.zero_le _, rfl, rfl, rfl, [], HI0.out.1, rfl, HI0.out.2⟩
  case round =>
    obtain ⟨i, j, hil, hjl, rfl, rfl, rfl, done, hown, hT, hbr⟩ := hrel
    have HO := Lib.hid hown
    have HT := Lib.hid hT
    have HBR := Lib.hid hbr
    have HBX : Hid (Below wr.heap.size wr wr) := Below.refl _ _
    clear hown hT hbr HI0
    by_cases hik : i < m
    · obtain ⟨x, hx⟩ : ∃ x, a[i]? = some x := ⟨_, List.getElem?_eq_getElem (by omega)⟩
      by_cases hjk : j < k
      · obtain ⟨y, hy⟩ : ∃ y, b[j]? = some y := ⟨_, List.getElem?_eq_getElem (by omega)⟩
        have hne : ¬ j = k := by omega
        have hneI : ¬ (j : Int) = (k : Int) := by omega
        have hdec : decide ((j : Int) = (k : Int)) = false := decide_eq_false (by omega)
        go_wp2_with fail
        refine (H1.out i x hx _ HBR.out).mono ?_
        rintro e w1 ⟨rfl, hb1⟩
        replace HBX := Lib.hid hb1
        clear hb1
        go_wp2_with fail
        refine (H2.out j y hy _ (below_then HBR.out HBX.out)).mono ?_
        rintro e w2 ⟨rfl, hb2⟩
        replace HBX := Lib.hid (below_then' HBX.out hb2)
        clear hb2
        by_cases hxy : x.1 ≤ y.1
        · have HST := Lib.hid (mg_one (j := j) hx (.inr ⟨y, hy, hxy⟩))
          go_wp2_with fail
          refine (H1.out i x hx _ (below_then HBR.out HBX.out)).mono ?_
          rintro e w3 ⟨rfl, hb3⟩
          have HO3 := Lib.hid (HO.out.kept (gob (row := none) (below_then' HBX.out hb3)) (.inr (by simp [Value.ownBlock])))
          have HB3 := Lib.hid (below_then HBR.out (below_then' HBX.out hb3))
          clear hb3 HO HBX HBR
          go_wp2_with (at_builtin; refine wpList_append_fits _ rfl (.tmp 43) (.tmp 47) 120 rfl w.heap.size 127 i0 2 Try.underlying120 hi hz1 w.heap.size (i + j) (m + k) _ rfl (HO3.out.alloc _) ⟨w3.heap.size, 0, none⟩ 1 1 [.int .u64 (x.1 : Nat), .bool x.2] rfl rfl (two_cells (heap_alloc_new _ _)) (two_one _ _) (by omega) ?_; intro w4 hown4 hgrow4)
          go_wp2
          go_roundw
          case rel => exact ⟨i + 1, j, by omega, by omega, by first | rfl | go_num, by first | rfl | go_num, by first | rfl | go_num, done ++ [x], by simpa [ldC_append, ldC, Nat.add_assoc, Nat.add_comm, Nat.add_left_comm] using hown4, by rw [List.append_assoc, List.singleton_append, ← HST.out]; exact HT.out, (below_alloc HB3.out _).grown hgrow4 (by have := HB3.out.size; simp; omega) (fun k hk => by cases hk; exact Nat.le_refl _)⟩
          case measure => simp [intOf]; omega
        · have HST := Lib.hid (mg_two (i := i) hy (.inr ⟨x, hx, by omega⟩))
          go_wp2_with fail
          refine (H2.out j y hy _ (below_then HBR.out HBX.out)).mono ?_
          rintro e w3 ⟨rfl, hb3⟩
          have HO3 := Lib.hid (HO.out.kept (gob (row := none) (below_then' HBX.out hb3)) (.inr (by simp [Value.ownBlock])))
          have HB3 := Lib.hid (below_then HBR.out (below_then' HBX.out hb3))
          clear hb3 HO HBX HBR
          go_wp2_with (at_builtin; refine wpList_append_fits _ rfl (.tmp 51) (.tmp 55) 120 rfl w.heap.size 127 i0 2 Try.underlying120 hi hz1 w.heap.size (i + j) (m + k) _ rfl (HO3.out.alloc _) ⟨w3.heap.size, 0, none⟩ 1 1 [.int .u64 (y.1 : Nat), .bool y.2] rfl rfl (two_cells (heap_alloc_new _ _)) (two_one _ _) (by omega) ?_; intro w4 hown4 hgrow4)
          go_wp2
          go_roundw
          case rel => exact ⟨i, j + 1, by omega, by omega, by first | rfl | go_num, by first | rfl | go_num, by first | rfl | go_num, done ++ [y], by simpa [ldC_append, ldC, Nat.add_assoc, Nat.add_comm, Nat.add_left_comm] using hown4, by rw [List.append_assoc, List.singleton_append, ← HST.out]; exact HT.out, (below_alloc HB3.out _).grown hgrow4 (by have := HB3.out.size; simp; omega) (fun k hk => by cases hk; exact Nat.le_refl _)⟩
          case measure => simp [intOf]; omega
      · obtain rfl : j = k := by omega
        have HST := Lib.hid (mg_one (B := b) (j := j) hx (.inl (by rw [List.getElem?_eq_none_iff]; omega)))
        go_wp2_with fail
        refine (H1.out i x hx _ (below_then HBR.out HBX.out)).mono ?_
        rintro e w3 ⟨rfl, hb3⟩
        have HO3 := Lib.hid (HO.out.kept (gob (row := none) (below_then' HBX.out hb3)) (.inr (by simp [Value.ownBlock])))
        have HB3 := Lib.hid (below_then HBR.out (below_then' HBX.out hb3))
        clear hb3 HO HBX HBR
        go_wp2_with (at_builtin; refine wpList_append_fits _ rfl (.tmp 43) (.tmp 47) 120 rfl w.heap.size 127 i0 2 Try.underlying120 hi hz1 w.heap.size (i + j) (m + j) _ rfl (HO3.out.alloc _) ⟨w3.heap.size, 0, none⟩ 1 1 [.int .u64 (x.1 : Nat), .bool x.2] rfl rfl (two_cells (heap_alloc_new _ _)) (two_one _ _) (by omega) ?_; intro w4 hown4 hgrow4)
        go_wp2
        go_roundw
        case rel => exact ⟨i + 1, j, by omega, by omega, by first | rfl | go_num, by first | rfl | go_num, by first | rfl | go_num, done ++ [x], by simpa [ldC_append, ldC, Nat.add_assoc, Nat.add_comm, Nat.add_left_comm] using hown4, by rw [List.append_assoc, List.singleton_append, ← HST.out]; exact HT.out, (below_alloc HB3.out _).grown hgrow4 (by have := HB3.out.size; simp; omega) (fun k hk => by cases hk; exact Nat.le_refl _)⟩
        case measure => simp [intOf]; omega
    · obtain rfl : i = m := by omega
      by_cases hjk : j < k
      · obtain ⟨y, hy⟩ : ∃ y, b[j]? = some y := ⟨_, List.getElem?_eq_getElem (by omega)⟩
        have hneI : ¬ (j : Int) = (k : Int) := by omega
        have HST := Lib.hid (mg_two (A := a) (i := i) hy (.inl (by rw [List.getElem?_eq_none_iff]; omega)))
        go_wp2_with fail
        refine (H2.out j y hy _ (below_then HBR.out HBX.out)).mono ?_
        rintro e w3 ⟨rfl, hb3⟩
        have HO3 := Lib.hid (HO.out.kept (gob (row := none) (below_then' HBX.out hb3)) (.inr (by simp [Value.ownBlock])))
        have HB3 := Lib.hid (below_then HBR.out (below_then' HBX.out hb3))
        clear hb3 HO HBX HBR
        go_wp2_with (at_builtin; refine wpList_append_fits _ rfl (.tmp 51) (.tmp 55) 120 rfl w.heap.size 127 i0 2 Try.underlying120 hi hz1 w.heap.size (i + j) (i + k) _ rfl (HO3.out.alloc _) ⟨w3.heap.size, 0, none⟩ 1 1 [.int .u64 (y.1 : Nat), .bool y.2] rfl rfl (two_cells (heap_alloc_new _ _)) (two_one _ _) (by omega) ?_; intro w4 hown4 hgrow4)
        go_wp2
        go_roundw
        case rel => exact ⟨i, j + 1, by omega, by omega, by first | rfl | go_num, by first | rfl | go_num, by first | rfl | go_num, done ++ [y], by simpa [ldC_append, ldC, Nat.add_assoc, Nat.add_comm, Nat.add_left_comm] using hown4, by rw [List.append_assoc, List.singleton_append, ← HST.out]; exact HT.out, (below_alloc HB3.out _).grown hgrow4 (by have := HB3.out.size; simp; omega) (fun k hk => by cases hk; exact Nat.le_refl _)⟩
        case measure => simp [intOf]; omega
      · obtain rfl : j = k := by omega
        go_wp2
        go_ret
        have hd : done = mg a b := by
          have := HT.out
          rw [List.drop_eq_nil_of_le (by omega), List.drop_eq_nil_of_le (by omega)] at this
          simpa [mg_nil] using this
        subst hd
        exact ⟨_, rfl, row_of_owns HO.out (by rw [mg_length, hm, hk]) (HO.out.lt _ rfl).2, HBR.out⟩
end Go.Proofs.Ytljekdnjdcfliaa
