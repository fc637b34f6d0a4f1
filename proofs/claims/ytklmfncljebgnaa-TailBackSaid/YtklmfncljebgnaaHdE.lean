/-
  The document's headers: sums of widths, rows of numbers.
-/
import Derived.Test.YtklmfncljebgnaaHdD
import Derived.Laws.OwnMore
import Derived.Laws.AppendOwn
namespace Go.Proofs.Ytklmfncljebgnaa
set_option maxRecDepth 100000
set_option linter.unusedSimpArgs false
open Go.RowKit Go.Joins Go.Deep Go.Op

/-- What a slice of numbers holds. -/
def RdI (w : World) (K : IntKind) (A : Option Addr) (l : List Nat) : Prop := 0 < l.length → ∃ g, A = some ⟨g, 0, none⟩ ∧ g < w.heap.size ∧ ∀ (i x : Nat), l[i]? = some x → w.cell? ⟨g, i, none⟩ = some (.int K (x : Nat))
theorem RdI.below {w w' : World} {K : IntKind} {A : Option Addr} {l : List Nat} (h : RdI w K A l) (hb : Below w.heap.size w w') : RdI w' K A l := fun h0 => by
  obtain ⟨g, e, hlt, hc⟩ := h h0
  exact ⟨g, e, Nat.lt_of_lt_of_le hlt hb.size, fun i x hx => (hb.cell (p := ⟨g, i, none⟩) hlt).trans (hc i x hx)⟩
theorem RdI.drewN {w : World} {K : IntKind} {A : Option Addr} {l : List Nat} (h : RdI w K A l) (n : Nat) : RdI (w.drewN n) K A l := h
theorem RdI.at {w : World} {K : IntKind} {g : Nat} {l : List Nat} (h : RdI w K (some ⟨g, 0, none⟩) l) {i x : Nat} (hx : l[i]? = some x) : w.cell? ⟨g, i, none⟩ = some (.int K (x : Nat)) := by
  obtain ⟨g', e, _, hc⟩ := h (List.length_pos_of_mem (List.mem_of_getElem? hx))
  injection e with e
  injection e with e
  subst e
  exact hc i x hx
def cellsK (K : IntKind) (l : List Nat) : List Value := l.map fun x => Value.int K (x : Nat)
theorem cellsK_app (K : IntKind) (l m : List Nat) : cellsK K (l ++ m) = cellsK K l ++ cellsK K m := by simp [cellsK]
theorem cellsK_len (K : IntKind) (l : List Nat) : (cellsK K l).length = l.length := by simp [cellsK]
theorem RdI.of_own {w : World} {B : Nat} {K : IntKind} {e : TypeId} {A : Option Addr} {c : Nat} {l : List Nat} (h : w.ownsRow B e 1 (.slice A l.length c) l.length (cellsK K l)) : RdI w K A l := fun h0 => by
  rcases h.2 with ⟨h1, h2⟩ | ⟨g, cap, cur, h1, h2, h3, _⟩
  · omega
  · injection h1 with h1 h4 h5
    subst h1
    refine ⟨g, rfl, lt_of_some h3, fun i x hx => ?_⟩
    have hi : i < l.length := (List.getElem?_eq_some_iff.1 hx).1
    rw [h.cellAt i (by omega)]
    unfold cellsK
    rw [List.getElem?_map, hx]
    rfl
theorem RdI.of_heap {w : World} {K : IntKind} {e : TypeId} {g : Nat} {l : List Nat} {cs : Array Value} (h : w.heap[g]? = some (.cells cs e (0, 0))) (hc : cs.toList = cellsK K l) : RdI w K (some ⟨g, 0, none⟩) l := fun _ => by
  refine ⟨g, rfl, lt_of_some h, fun i x hx => ?_⟩
  rw [Lib.cell_of_heap h, ← Array.getElem?_toList, hc]
  unfold cellsK
  rw [List.getElem?_map, hx]
  rfl
theorem RdI.slice {w : World} {K : IntKind} {A : Option Addr} {l : List Nat} (h : RdI w K A l) (h0 : 0 < l.length) : ∃ g, A = some ⟨g, 0, none⟩ := by
  obtain ⟨g, e, _⟩ := h h0
  exact ⟨g, e⟩

/-! ### sum -/
theorem sum_le (l : List Nat) (hl : ∀ x ∈ l, x ≤ 8) : l.sum ≤ 8 * l.length := by
  induction l with
  | nil => exact Nat.le_refl _
  | cons x l ih =>
    have h1 := hl x (by simp)
    have h2 := ih (fun y hy => hl y (by simp [hy]))
    simp only [List.sum_cons, List.length_cons]
    omega
theorem sum_take (l : List Nat) (k : Nat) : (l.take k).sum ≤ l.sum := by
  have h : (l.take k ++ l.drop k).sum = l.sum := by rw [List.take_append_drop]
  rw [List.sum_append] at h
  omega
theorem take_snoc {l : List Nat} {k x : Nat} (h : l[k]? = some x) : l.take (k + 1) = l.take k ++ [x] := by
  rw [List.take_add_one, h]
  rfl
theorem rsum_any (A : Option Addr) (c : Nat) (ws : List Nat) (hl : ws.length ≤ 20) (h8 : ∀ x ∈ ws, x ≤ 8) (w : World) (hr : RdI w .i64 A ws) :
    Calls Try.prog 40 #[.slice A ws.length c] w fun e w' => e = .returned (.int .i64 (ws.sum : Nat)) ∧ w = w' := by
  have hb := sum_le ws h8
  have HS := Lib.hid (fun k => sum_take ws k)
  have HT := Lib.hid (fun (k x : Nat) (h : ws[k]? = some x) => show (ws.take (k + 1)).sum = (ws.take k).sum + x by rw [take_snoc h, List.sum_append]; simp)
  have HF : Hid ((ws.take ws.length).sum = ws.sum) := by show _ = _; rw [List.take_length]
  have HGET := Lib.hid (fun (k : Nat) (h : k < ws.length) => List.getElem?_eq_getElem h)
  have HR := Lib.hid hr
  clear hr h8
  go_enter Try.func40, Try.ntmps40
  go_wp2
  go_loop [3, 8] (fun n i => ∃ k : Nat, k ≤ ws.length ∧ i = .int .i64 (k : Nat) ∧ n = .int .i64 ((ws.take k).sum : Nat)) (fun _ i => ws.length - (intOf i).toNat)
  case atStart => exact ⟨0, Nat.zero_le _, rfl, rfl⟩
  case round =>
    obtain ⟨k, hk, rfl, rfl⟩ := hrel
    have h1 := HS.out k
    generalize hS : (ws.take k).sum = S at *
    have HSS := Lib.hid hS
    clear hS
    by_cases hlt : k < ws.length
    · have hx := HGET.out k hlt
      have h3 := HT.out k _ hx
      have h4 := HS.out (k + 1)
      rw [h3, HSS.out] at h4
      obtain ⟨g, rfl⟩ := HR.out.slice (by omega)
      have hc := HR.out.at hx
      generalize ws[k] = x at *
      have H3 := Lib.hid h3
      clear h3 hx
      go_wp2
      go_round
      case rel => exact ⟨k + 1, by omega, by go_num, by rw [H3.out, HSS.out]; go_num⟩
      case measure => simp [intOf]; omega
    · obtain rfl : k = ws.length := by omega
      obtain rfl : S = ws.sum := by rw [← HSS.out, HF.out]
      go_wp2
      go_ret
      exact ⟨rfl, rfl⟩

/-! ### Row -/
/-- The numbers of such widths from a place on. -/
def rowN (s : ByteArray) : Nat → List Nat → List Nat
  | _, [] => []
  | a, x :: l => nAt s a x :: rowN s (a + x) l
theorem rowN_snoc (s : ByteArray) (x : Nat) : ∀ (l : List Nat) (a : Nat), rowN s a (l ++ [x]) = rowN s a l ++ [nAt s (a + l.sum) x]
  | [], a => by simp [rowN]
  | y :: l, a => by
    simp only [List.cons_append, rowN, rowN_snoc s x l, List.sum_cons]
    rw [Nat.add_assoc]
theorem rowN_len (s : ByteArray) : ∀ (l : List Nat) (a : Nat), (rowN s a l).length = l.length
  | [], _ => rfl
  | x :: l, a => by simp only [rowN, List.length_cons, rowN_len s l]
theorem info64 : (Try.prog.info? 36).map (fun i => (i.zero, i.size, i.bytes)) = some (some (.int .u64 0), 1, 8) := by kernel_rfl
theorem nums_ext' (t : ByteArray) (a b : Nat) : nums (t.extract a b) = ((nums t).drop a).take (b - a) := by
  unfold nums
  rw [ByteArray.data_extract]
  simp
theorem row_slice {w : World} {B n z : Nat} {e : TypeId} {v : Value} {l : List Value} (h : w.ownsRow B e z v n l) : ∃ A c, v = .slice A n c := by
  rcases h.2 with ⟨rfl, rfl⟩ | ⟨g, cap, cur, rfl, _⟩
  · exact ⟨_, _, rfl⟩
  · exact ⟨_, _, rfl⟩
set_option maxHeartbeats 2000000 in
theorem rrow_any (s : ByteArray) (hs : s.size ≤ 1000000) (A : Option Addr) (c : Nat) (ws : List Nat) (hl : ws.length ≤ 20) (h8 : ∀ x ∈ ws, x ≤ 8) (hf : ws.sum ≤ s.size) (w : World) (hr : RdI w .i64 A ws) :
    Calls Try.prog 41 #[.string s, .slice A ws.length c] w fun e w' => ∃ A2 c2, e = .returned (.slice A2 ws.length c2) ∧ w'.ownsRow w.heap.size 36 1 (.slice A2 ws.length c2) ws.length (cellsK .u64 (rowN s 0 ws)) ∧ Below w.heap.size w w' := by
  obtain ⟨i0, hi, hz0, hz1, hz2⟩ := info_parts info64
  have HS := Lib.hid (fun k => sum_take ws k)
  have HT := Lib.hid (fun (k x : Nat) (h : ws[k]? = some x) => show (ws.take (k + 1)).sum = (ws.take k).sum + x by rw [take_snoc h, List.sum_append]; simp)
  have HRW := Lib.hid (fun (k x : Nat) (h : ws[k]? = some x) => show rowN s 0 (ws.take (k + 1)) = rowN s 0 (ws.take k) ++ [nAt s (ws.take k).sum x] by rw [take_snoc h, rowN_snoc, Nat.zero_add])
  have HF : Hid (ws.take ws.length = ws) := by show _ = _; rw [List.take_length]
  have HGET := Lib.hid (fun (k : Nat) (h : k < ws.length) => List.getElem?_eq_getElem h)
  have H8 := Lib.hid (fun (k : Nat) (h : k < ws.length) => h8 _ (List.getElem_mem h))
  have HFIT := Lib.hid hf
  have HR := Lib.hid hr
  clear hr h8 hf
  go_enter Try.func41, Try.ntmps41
  go_wp2
  go_loopw [0, 5, 10] (fun t v i wr => ∃ (k : Nat) (t' : ByteArray), k ≤ ws.length ∧ i = .int .i64 (k : Nat) ∧ t = .string t' ∧ nums t' = (nums s).drop (ws.take k).sum ∧ wr.ownsRow w.heap.size 36 1 v k (cellsK .u64 (rowN s 0 (ws.take k))) ∧ Below w.heap.size w wr) (fun _ _ i _ => ws.length - (intOf i).toNat)
  case atStart => exact ⟨0, s, Nat.zero_le _, rfl, rfl, by simp, World.ownsRow_nil _ _ _ _, Below.refl _ _⟩
  case round =>
    obtain ⟨k, t, hk, rfl, rfl, hnt, hown, hbel⟩ := hrel
    have HO := Lib.hid hown
    have HB := Lib.hid hbel
    have HNT := Lib.hid hnt
    clear hown hbel hnt
    have h1 := HS.out k
    have hts : t.size = s.size - (ws.take k).sum := by rw [← nums_len, HNT.out, List.length_drop, nums_len]
    by_cases hlt : k < ws.length
    · have hx := HGET.out k hlt
      have hx8 := H8.out k hlt
      have h3 := HT.out k _ hx
      have h4 := HS.out (k + 1)
      have hrw := HRW.out k _ hx
      obtain ⟨g, rfl⟩ := HR.out.slice (by omega)
      have hc := (HR.out.below HB.out).at hx
      rw [h3] at h4
      generalize ws[k] = x at *
      have hxt : x ≤ t.size := by have := HFIT.out; omega
      have hsz : (t.extract 0 x).size ≤ 8 := by rw [ByteArray.size_extract]; omega
      have HN := Lib.hid (fun w => rnumber_any _ hsz w)
      have hv : numL (nums (t.extract 0 x)) = nAt s (ws.take k).sum x := by
        rw [nums_ext', HNT.out]
        rfl
      rw [hv] at HN
      have HNX : Hid (nums (t.extract x t.size) = (nums s).drop (ws.take (k + 1)).sum) := by
        show _ = _
        rw [nums_ext', HNT.out, List.drop_drop, List.take_of_length_le (by rw [List.length_drop, nums_len]; omega), h3]
      generalize hV : nAt s (ws.take k).sum x = V at *
      have H3 := Lib.hid h3
      have HW := Lib.hid hrw
      clear h3 hx hrw hv hV h4 h1 hts hsz
      go_wp2_with fail
      refine (HN.out _).mono ?_; rintro r w1 ⟨rfl, rfl⟩
      go_wp2_with (at_builtin; refine wpList_append_own _ rfl (.tmp 14) (.tmp 19) _ rfl w.heap.size 36 i0 (.int .u64 0) 1 8 Try.underlying30 hi hz0 hz1 hz2 rfl (by decide) _ k (cellsK .u64 (rowN s 0 (ws.take k))) rfl (HO.out.alloc _) ⟨wr.heap.size, 0, none⟩ 1 1 [.int .u64 (V : Nat)] rfl rfl ?c1 ?c2 ?c3 ?c4 ?c5 ?_)
      case c1 => exact cell_one_new _ _ _
      case c2 => intro u hu; simp at hu; subst hu; rfl
      case c3 => unfold maxLen; omega
      case c4 => omega
      case c5 => have := HB.out.size; simp; omega
      intro v' w1 hown' hgrow _
      have HO1 := Lib.hid hown'
      have HG1 := Lib.hid hgrow
      clear hown' hgrow
      go_wp2_with fail
      go_roundw
      case rel =>
        refine ⟨k + 1, _, by omega, by go_num, rfl, HNX.out, ?_, ?_⟩
        · rw [HW.out, cellsK_app]
          exact HO1.out
        · exact (HB.out.alloc HB.out.size _).grown HG1.out (by have := HB.out.size; simp; omega) (fun k hk => (HO.out.lt k hk).1)
      case measure => simp [intOf]; omega
    · obtain rfl : k = ws.length := by omega
      have ho := HO.out
      rw [HF.out] at ho
      obtain ⟨A2, c2, rfl⟩ := row_slice ho
      clear h1 hts
      go_wp2_with fail
      go_ret
      exact ⟨A2, c2, rfl, ho, HB.out⟩
end Go.Proofs.Ytklmfncljebgnaa
