/-
  The document's Fill, Come, insert, merge, over counts.
-/
import Derived.Test.YtljekdnjdcfliaaWeU
namespace Go.Proofs.Ytljekdnjdcfliaa
open Go.RowKit

set_option maxRecDepth 100000 in
set_option maxHeartbeats 4000000 in
theorem wfill_ok (A : Option Addr) (n cap : Nat) (ls : Nat → Nat) (hn : n ≤ 4096) (w : World) (hL : Lens w A n ls) (h15 : ∀ i, i < n → ls i ≤ 15) :
    Calls Try.prog 32 #[.slice A n cap] w fun e w' => e = .returned (.tuple #[.int .i64 (fillN ls n : Nat), .int .i64 0]) ∧ w = w' := by
  have HL := Lib.hid hL
  have H15 := Lib.hid h15
  clear hL h15
  go_enter Try.func32, Try.ntmps32
  go_wp2
  go_loop [4, 14] (fun x i => ∃ k, k ≤ n ∧ i = .int .i64 k ∧ x = .int .i64 (fillN ls k : Nat)) (fun _ i => n - (intOf i).toNat)
  case atStart => exact ⟨0, Nat.zero_le _, rfl, rfl⟩
  case round =>
    obtain ⟨k, hk, rfl, rfl⟩ := hrel
    by_cases hlt : k < n
    · obtain ⟨b, off, rfl, hb, hc⟩ := HL.out (by omega)
      obtain ⟨hcell, _⟩ := hc k hlt
      have hl := H15.out k hlt
      have hfl := fillN_le ls k
      have HS : Hid (fillN ls (k + 1) = fillN ls k + (if ls k = 0 then 0 else 2 ^ (15 - ls k))) := rfl
      generalize ls k = l at *
      generalize fillN ls k = F at *
      clear hc
      by_cases h0 : l = 0
      · subst h0
        go_wp2
        go_round
        case rel => exact ⟨k + 1, by omega, by go_num, by rw [HS.out]; simp⟩
        case measure => simp [intOf]; omega
      · have h0' : 0 < l := by omega
        go_wp2
        go_loop [7, 8] (fun y j => ∃ i : Nat, i ≤ l ∧ j = .int .i64 i ∧ y = .int .i64 (2 ^ (15 - i) : Nat)) (fun _ j => l - (intOf j).toNat)
        case atStart => exact ⟨0, Nat.zero_le _, rfl, rfl⟩
        case round =>
          obtain ⟨i, hi, rfl, rfl⟩ := hrel
          by_cases hil : i < l
          · have hp : 2 ^ (15 - i) = 2 * 2 ^ (15 - (i + 1)) := by rw [show 15 - i = (15 - (i + 1)) + 1 by omega, Nat.pow_succ]; omega
            have hp2 : 2 ^ (15 - (i + 1)) ≤ 32768 := Nat.pow_le_pow_right (n := 2) (by omega) (show 15 - (i + 1) ≤ 15 by omega)
            have HP : Hid (2 ^ (15 - (i + 1)) = 2 ^ (15 - (i + 1))) := rfl
            generalize 2 ^ (15 - i) = p at *
            generalize hpp : 2 ^ (15 - (i + 1)) = p2 at *
            have hd1 : (p : Int).tdiv 2 = (p2 : Int) := by rw [Int.tdiv_eq_ediv_of_nonneg (by omega)]; omega
            have hd2 : (p : Int) / 2 = (p2 : Int) := by omega
            have HPP := Lib.hid hpp
            clear hpp hp HP
            go_wp2
            go_round
            case rel => exact ⟨i + 1, by omega, by go_num, by rw [HPP.out]⟩
            case measure => simp [intOf]; omega
          · obtain rfl : i = l := by omega
            have hp2 : 2 ^ (15 - i) ≤ 32768 := Nat.pow_le_pow_right (n := 2) (by omega) (show 15 - i ≤ 15 by omega)
            generalize 2 ^ (15 - i) = p at *
            go_wp2
            go_round
            case rel => exact ⟨k + 1, by omega, by go_num, by rw [HS.out, if_neg h0]; simp⟩
            case measure => simp [intOf]; omega
    · obtain rfl : k = n := by omega
      go_wp2
      go_ret2
      exact ⟨rfl, rfl⟩

set_option maxRecDepth 100000 in
set_option maxHeartbeats 4000000 in
theorem come_any (A : Option Addr) (n cap : Nat) (f : Nat → Nat) (hn : n ≤ 1000) (w : World) (hC : Cts w A n f) :
    Calls Try.prog 31 #[.slice A n cap] w fun e w' => e = .returned (.int .i64 ((comeL f n).length : Nat)) ∧ w' = w := by
  have HC := Lib.hid hC
  clear hC
  go_enter Try.func31, Try.ntmps31
  go_wp2
  go_loop [3, 8] (fun x i => ∃ k, k ≤ n ∧ i = .int .i64 k ∧ x = .int .i64 ((comeL f k).length : Nat)) (fun _ i => n - (intOf i).toNat)
  case atStart => exact ⟨0, Nat.zero_le _, rfl, rfl⟩
  case round =>
    obtain ⟨k, hk, rfl, rfl⟩ := hrel
    by_cases hlt : k < n
    · obtain ⟨b, off, rfl, hb, hc⟩ := HC.out (by omega)
      have c1 := (hc k hlt).1
      have hle := comeL_le f k
      clear hc
      by_cases hf : 0 < f k
      · have HS : Hid ((comeL f (k + 1)).length = (comeL f k).length + 1) := by rw [Hid, comeL, if_pos hf]; simp
        generalize (comeL f k).length = q at *
        generalize f k = x at *
        go_wp2
        go_round
        case rel => exact ⟨k + 1, by omega, by go_num, by rw [HS.out]; go_num⟩
        case measure => simp [intOf]; omega
      · have hf0 : f k = 0 := by omega
        have HS : Hid ((comeL f (k + 1)).length = (comeL f k).length) := by rw [Hid, comeL, if_neg hf]
        rw [hf0] at c1
        generalize (comeL f k).length = q at *
        go_wp2
        go_round
        case rel => exact ⟨k + 1, by omega, by go_num, by rw [HS.out]⟩
        case measure => simp [intOf]; omega
    · obtain rfl : k = n := by omega
      go_wp2
      go_ret
      exact ⟨rfl, rfl⟩

/-! ## Slices of numbers of 64 bits -/
def Us (w : World) (A : Option Addr) (l : List Nat) : Prop := 0 < l.length → ∃ b off, A = some ⟨b, off, none⟩ ∧ b < w.heap.size ∧ ∀ i x, l[i]? = some x → w.cell? ⟨b, off + i, none⟩ = some (.int .u64 (x : Nat))
theorem Us.below {w w' : World} {B : Nat} {A : Option Addr} {l : List Nat} (h : Us w A l) (hB : w.heap.size ≤ B) (hb : Below B w w') : Us w' A l := fun hn => by
  obtain ⟨b, off, e, hlt, hc⟩ := h hn
  exact ⟨b, off, e, Nat.lt_of_lt_of_le hlt hb.size, fun i x hx => (hb.cell (p := ⟨b, off + i, none⟩) (Nat.lt_of_lt_of_le hlt hB)).trans (hc i x hx)⟩
def uV (l : List Nat) : List Value := l.map fun x => Value.int .u64 (x : Nat)
theorem uV_snoc (l : List Nat) (x : Nat) : uV (l ++ [x]) = uV l ++ [.int .u64 (x : Nat)] := by simp [uV]
theorem us_of_owns {w : World} {base : Nat} {v : Value} {l : List Nat} (h : w.ownsRow base 26 1 v l.length (uV l)) : ∃ A cap, v = .slice A l.length cap ∧ Us w A l := by
  have h' := h
  obtain ⟨_, ⟨rfl, hz⟩ | ⟨g, cap, cur, rfl, hb, hh, _⟩⟩ := h'
  · exact ⟨none, 0, by rw [hz], fun h => by omega⟩
  · refine ⟨_, cap, rfl, fun _ => ⟨g, 0, rfl, lt_of_cells hh, fun i x hx => ?_⟩⟩
    obtain ⟨hi, _⟩ := List.getElem?_eq_some_iff.1 hx
    rw [Nat.zero_add, h.cellAt i (by omega), uV, List.getElem?_map, hx]
    rfl
theorem info_u64 : (Try.prog.info? 26).map (fun i => (i.zero, i.size, i.bytes)) = some (some (.int .u64 0), 1, 8) := by kernel_rfl
theorem one_cell {w : World} {g : Nat} {v : Value} {T : TypeId} {fr : Nat × Nat} (h : w.heap[g]? = some (.cells #[v] T fr)) : ∀ j u, ([v] : List Value)[j]? = some u → w.cell? ((⟨g, 0, none⟩ : Addr).add j) = some u := by
  intro j u hu
  rw [Addr.add_lit, cell_of_row w g (0 + j) _ _ _ h]
  match j, hu with
  | 0, hu => simpa using hu
  | j + 1, hu => simp at hu
theorem one_one (x : Nat) : ∀ u ∈ ([.int .u64 (x : Nat)] : List Value), u.oneCell' = true := by
  intro u hu
  simp at hu
  subst hu
  rfl

def insL (n : Nat) : List Nat → List Nat
  | [] => [n]
  | x :: l => if n < x then n :: x :: l else x :: insL n l
theorem insL_length (n : Nat) (l : List Nat) : (insL n l).length = l.length + 1 := by
  induction l with
  | nil => rfl
  | cons x l ih => rw [insL]; split <;> simp [ih]
theorem insL_perm (n : Nat) (l : List Nat) : (insL n l).Perm (n :: l) := by
  induction l with
  | nil => exact List.Perm.refl _
  | cons x l ih =>
    rw [insL]
    split
    · exact List.Perm.refl _
    · exact (List.Perm.cons x ih).trans (List.Perm.swap n x l)
theorem insL_srt (n : Nat) (l : List Nat) (h : l.Pairwise (· ≤ ·)) : (insL n l).Pairwise (· ≤ ·) := by
  induction l with
  | nil => simp [insL]
  | cons x l ih =>
    have h' := List.pairwise_cons.1 h
    rw [insL]
    split
    · rename_i hx
      refine List.pairwise_cons.2 ⟨fun y hy => ?_, h⟩
      rcases List.mem_cons.1 hy with rfl | hy
      · omega
      · have := h'.1 y hy; omega
    · rename_i hx
      refine List.pairwise_cons.2 ⟨fun y hy => ?_, ih h'.2⟩
      rcases List.mem_cons.1 ((insL_perm n l).mem_iff.1 hy) with rfl | hy
      · omega
      · exact h'.1 y hy

set_option maxRecDepth 100000 in
set_option maxHeartbeats 8000000 in
theorem insert_any (A : Option Addr) (cap n : Nat) (l : List Nat) (hl : l.length ≤ 1000) (w : World) (hU : Us w A l) :
    Calls Try.prog 57 #[.slice A l.length cap, .int .u64 n] w fun e w' => ∃ B, (∃ c, e = .returned (.slice B (insL n l).length c)) ∧ Us w' B (insL n l) ∧ Below w.heap.size w w' := by
  have HU := Lib.hid hU
  clear hU
  obtain ⟨i0, hi, hz0, hz1, hz2⟩ := info_parts info_u64
  go_enter Try.func57, Try.ntmps57
  go_wp2
  go_loopw [5, 6, 11] (fun v d i wr => ∃ (k : Nat) (dn : Bool) (out : List Nat), k ≤ l.length ∧ i = .int .i64 k ∧ d = .bool dn ∧ out.length = (if dn then k + 1 else k) ∧ wr.ownsRow w.heap.size 26 1 v out.length (uV out) ∧ out ++ (if dn then l.drop k else insL n (l.drop k)) = insL n l ∧ Below w.heap.size w wr) (fun _ _ i _ => l.length - (intOf i).toNat)
  case atStart => exact ⟨0, false, [], Nat.zero_le _, rfl, rfl, rfl, World.ownsRow_nil _ _ _ _, by simp, Below.refl _ _⟩
  case round =>
    obtain ⟨k, dn, out, hk, rfl, rfl, hol, hown, hout, hb⟩ := hrel
    have HO := Lib.hid hown
    have HB := Lib.hid hb
    have HOU := Lib.hid hout
    clear hown hb hout
    by_cases hlt : k < l.length
    · obtain ⟨b, off, rfl, hbl, hc⟩ := HU.out (by omega)
      have hx := List.getElem?_eq_getElem hlt
      have c1 := (HB.out.cell (p := ⟨b, off + k, none⟩) hbl).trans (hc k _ hx)
      have HD : Hid (l.drop k = l[k] :: l.drop (k + 1)) := List.drop_eq_getElem_cons hlt
      clear hc hx
      generalize l[k] = x at *
      cases dn with
      | true =>
        have hol2 : out.length = k + 1 := hol
        have HN : Hid ((out ++ [x]) ++ (if true then l.drop (k + 1) else insL n (l.drop (k + 1))) = insL n l) := by rw [Hid, ← HOU.out, HD.out]; simp
        go_wp2_with (at_builtin; refine wpList_append_own _ rfl _ _ 107 rfl w.heap.size 26 i0 (.int .u64 0) 1 8 Try.underlying107 hi hz0 hz1 hz2 rfl (by decide) _ _ _ rfl (HO.out.alloc _) ⟨wr.heap.size, 0, none⟩ 1 1 [.int .u64 (x : Nat)] rfl rfl (one_cell (heap_alloc_new _ _)) (one_one x) (by unfold maxLen; omega) (by omega) (by have := HB.out.size; simp; omega) ?_)
        intro v' w3 hown3 hgrow3 _
        have HOW := Lib.hid (fun h => (HO.out.lt h))
        go_wp2
        go_roundw
        case rel => exact ⟨k + 1, true, out ++ [x], by omega, by go_num, rfl, by simp [hol2], by rw [uV_snoc]; simpa [hol2] using hown3, HN.out, (below_alloc HB.out _).grown hgrow3 (by have := HB.out.size; simp; omega) (fun h e => (HOW.out h e).1)⟩
        case measure => simp [intOf]; omega
      | false =>
        have hol2 : out.length = k := hol
        by_cases hnx : n < x
        · have HN : Hid (((out ++ [n]) ++ [x]) ++ (if true then l.drop (k + 1) else insL n (l.drop (k + 1))) = insL n l) := by rw [Hid, ← HOU.out, HD.out]; simp [insL, hnx]
          go_wp2_with (at_builtin; refine wpList_append_own _ rfl _ _ 107 rfl w.heap.size 26 i0 (.int .u64 0) 1 8 Try.underlying107 hi hz0 hz1 hz2 rfl (by decide) _ _ _ rfl (HO.out.alloc _) ⟨wr.heap.size, 0, none⟩ 1 1 [.int .u64 (n : Nat)] rfl rfl (one_cell (heap_alloc_new _ _)) (one_one n) (by unfold maxLen; omega) (by omega) (by have := HB.out.size; simp; omega) ?_)
          intro v' w3 hown3 hgrow3 _
          have HO3 := Lib.hid (show w3.ownsRow w.heap.size 26 1 v' (out ++ [n]).length (uV (out ++ [n])) by rw [uV_snoc]; simpa [hol2] using hown3)
          have hB3 := (below_alloc HB.out (.cells #[.int .u64 (n : Nat)] 26)).grown hgrow3 (by have := HB.out.size; simp; omega) (fun h e => (HO.out.lt h e).1)
          have HB3 := Lib.hid hB3
          clear hown3 hgrow3 HO HB hB3
          go_wp2_with (at_builtin; refine wpList_append_own _ rfl _ _ 107 rfl w.heap.size 26 i0 (.int .u64 0) 1 8 Try.underlying107 hi hz0 hz1 hz2 rfl (by decide) _ _ _ rfl (HO3.out.alloc _) ⟨w3.heap.size, 0, none⟩ 1 1 [.int .u64 (x : Nat)] rfl rfl (one_cell (heap_alloc_new _ _)) (one_one x) (by unfold maxLen; simp; omega) (by simp; omega) (by have := HB3.out.size; simp; omega) ?_)
          intro v4 w4 hown4 hgrow4 _
          have HOW := Lib.hid (fun h => (HO3.out.lt h))
          go_wp2
          go_roundw
          case rel => exact ⟨k + 1, true, (out ++ [n]) ++ [x], by omega, by go_num, rfl, by simp [hol2], by rw [uV_snoc]; simpa [hol2] using hown4, HN.out, (below_alloc HB3.out _).grown hgrow4 (by have := HB3.out.size; simp; omega) (fun h e => (HOW.out h e).1)⟩
          case measure => simp [intOf]; omega
        · have HN : Hid ((out ++ [x]) ++ (if false then l.drop (k + 1) else insL n (l.drop (k + 1))) = insL n l) := by rw [Hid, ← HOU.out, HD.out]; simp [insL, hnx]
          go_wp2_with (at_builtin; refine wpList_append_own _ rfl _ _ 107 rfl w.heap.size 26 i0 (.int .u64 0) 1 8 Try.underlying107 hi hz0 hz1 hz2 rfl (by decide) _ _ _ rfl (HO.out.alloc _) ⟨wr.heap.size, 0, none⟩ 1 1 [.int .u64 (x : Nat)] rfl rfl (one_cell (heap_alloc_new _ _)) (one_one x) (by unfold maxLen; omega) (by omega) (by have := HB.out.size; simp; omega) ?_)
          intro v' w3 hown3 hgrow3 _
          have HOW := Lib.hid (fun h => (HO.out.lt h))
          go_wp2
          go_roundw
          case rel => exact ⟨k + 1, false, out ++ [x], by omega, by go_num, rfl, by simp [hol2], by rw [uV_snoc]; simpa [hol2] using hown3, HN.out, (below_alloc HB.out _).grown hgrow3 (by have := HB.out.size; simp; omega) (fun h e => (HOW.out h e).1)⟩
          case measure => simp [intOf]; omega
    · obtain rfl : k = l.length := by omega
      cases dn with
      | true =>
        have hol2 : out.length = l.length + 1 := hol
        have he : out = insL n l := by rw [← HOU.out]; simp
        subst he
        obtain ⟨B, c, rfl, hus⟩ := us_of_owns HO.out
        go_wp2
        go_ret
        exact ⟨B, ⟨c, rfl⟩, hus, HB.out⟩
      | false =>
        have hol2 : out.length = l.length := hol
        have he : out ++ [n] = insL n l := by rw [← HOU.out]; simp [insL]
        have HE := Lib.hid he
        clear he
        go_wp2_with (at_builtin; refine wpList_append_own _ rfl _ _ 107 rfl w.heap.size 26 i0 (.int .u64 0) 1 8 Try.underlying107 hi hz0 hz1 hz2 rfl (by decide) _ _ _ rfl (HO.out.alloc _) ⟨wr.heap.size, 0, none⟩ 1 1 [.int .u64 (n : Nat)] rfl rfl (one_cell (heap_alloc_new _ _)) (one_one n) (by unfold maxLen; omega) (by omega) (by have := HB.out.size; simp; omega) ?_)
        intro v' w3 hown3 hgrow3 _
        have hO3 : w3.ownsRow w.heap.size 26 1 v' (insL n l).length (uV (insL n l)) := by rw [← HE.out, uV_snoc]; simpa [hol2] using hown3
        obtain ⟨B, c, rfl, hus⟩ := us_of_owns hO3
        have HB3 := Lib.hid ((below_alloc HB.out (.cells #[.int .u64 (n : Nat)] 26)).grown hgrow3 (by have := HB.out.size; simp; omega) (fun h e => (HO.out.lt h e).1))
        clear hown3 hgrow3 hO3
        go_wp2
        go_ret
        exact ⟨B, ⟨c, rfl⟩, hus, HB3.out⟩
end Go.Proofs.Ytljekdnjdcfliaa
