/-
  Contracts: PrintDescriptor; the document's Print; rows compared; the widths.
-/
import Derived.Test.YtklmfncljebgnaaHdI
namespace Go.Proofs.Ytklmfncljebgnaa
set_option maxRecDepth 100000
set_option linter.unusedSimpArgs false
set_option linter.unusedVariables false
open Go.RowKit Go.Joins Go.Deep Go.Op

/-! ### the document's Print -/
/-- Numbers in such widths. -/
def prN : List Nat → List Nat → List Nat
  | x :: l, k :: ws => le x k ++ prN l ws
  | _, _ => []
theorem prN_snoc (x k : Nat) : ∀ (l ws : List Nat), l.length = ws.length → prN (l ++ [x]) (ws ++ [k]) = prN l ws ++ le x k
  | [], [], _ => by simp [prN]
  | y :: l, j :: ws, h => by
    simp only [List.cons_append, prN, prN_snoc x k l ws (by simpa using h), List.append_assoc]
  | [], _ :: _, h => by simp at h
  | _ :: _, [], h => by simp at h
theorem prN_lt : ∀ (l ws : List Nat), ∀ x ∈ prN l ws, x < 256
  | [], [], x, h => by simp [prN] at h
  | y :: l, j :: ws, x, h => by
    simp only [prN, List.mem_append] at h
    rcases h with h | h
    · exact le_lt _ _ x h
    · exact prN_lt l ws x h
  | [], _ :: _, x, h => by simp [prN] at h
  | _ :: _, [], x, h => by simp [prN] at h
theorem prN_len : ∀ (l ws : List Nat), l.length = ws.length → (prN l ws).length = ws.sum
  | [], [], _ => rfl
  | y :: l, j :: ws, h => by
    simp only [prN, List.length_append, le_len, prN_len l ws (by simpa using h), List.sum_cons]
  | [], _ :: _, h => by simp at h
  | _ :: _, [], h => by simp at h
theorem text_app (a b : List Nat) : text a ++ text b = text (a ++ b) := by
  unfold text
  apply ByteArray.ext
  simp [ByteArray.data_append]
set_option maxHeartbeats 2000000 in
theorem rprint_any (A : Option Addr) (c : Nat) (l : List Nat) (AW : Option Addr) (cw : Nat) (ws : List Nat) (hlw : l.length = ws.length) (hl : ws.length ≤ 20) (h8 : ∀ x ∈ ws, x ≤ 8) (hx : ∀ x ∈ l, x < 18446744073709551616) (w : World) (hr : RdI w .u64 A l) (hrw : RdI w .i64 AW ws) :
    Calls Try.prog 24 #[.slice A l.length c, .slice AW ws.length cw] w fun e w' => e = .returned (.string (text (prN l ws))) ∧ Below w.heap.size w w' := by
  have HR := Lib.hid hr
  have HRW := Lib.hid hrw
  have HGET := Lib.hid (fun (k : Nat) (h : k < l.length) => List.getElem?_eq_getElem h)
  have HGW := Lib.hid (fun (k : Nat) (h : k < ws.length) => List.getElem?_eq_getElem h)
  have H8 := Lib.hid (fun (k : Nat) (h : k < ws.length) => h8 _ (List.getElem_mem h))
  have HX := Lib.hid (fun (k : Nat) (h : k < l.length) => hx _ (List.getElem_mem h))
  have HT := Lib.hid (fun (k x y : Nat) (h : l[k]? = some x) (h2 : ws[k]? = some y) => show prN (l.take (k + 1)) (ws.take (k + 1)) = prN (l.take k) (ws.take k) ++ le x y by rw [take_snoc h, take_snoc h2, prN_snoc _ _ _ _ (by rw [List.length_take, List.length_take, hlw])])
  have HLEN := Lib.hid (fun k => show (prN (l.take k) (ws.take k)).length ≤ 8 * ws.length by
    rw [prN_len _ _ (by rw [List.length_take, List.length_take, hlw])]
    exact Nat.le_trans (sum_take ws k) (sum_le ws h8))
  have HALL : Hid (l.take ws.length = l) := by show _ = _; rw [← hlw, List.take_length]
  have HALW : Hid (ws.take ws.length = ws) := by show _ = _; rw [List.take_length]
  have HLW := Lib.hid hlw
  clear hr hrw h8 hx
  go_enter Try.func24, Try.ntmps24
  go_wp2
  go_loopw [5, 10] (fun v i wr => ∃ k : Nat, k ≤ ws.length ∧ i = .int .i64 (k : Nat) ∧ v = .string (text (prN (l.take k) (ws.take k))) ∧ Below w.heap.size w wr) (fun _ i _ => ws.length - (intOf i).toNat)
  case atStart => exact ⟨0, Nat.zero_le _, rfl, rfl, Below.refl _ _⟩
  case round =>
    obtain ⟨k, hk, rfl, rfl, hbel⟩ := hrel
    have HB := Lib.hid hbel
    have hle := HLEN.out k
    clear hbel
    by_cases hlt : k < ws.length
    · have hl1 : k < l.length := by omega
      have hx := HGET.out k hl1
      have hw := HGW.out k hlt
      have hxb := HX.out k hl1
      have hwb := H8.out k hlt
      have ht := HT.out k _ _ hx hw
      obtain ⟨g, rfl⟩ := HR.out.slice (by omega)
      obtain ⟨g2, rfl⟩ := HRW.out.slice (by omega)
      have hc := (HR.out.below HB.out).at hx
      have hc2 := (HRW.out.below HB.out).at hw
      generalize l[k] = x at *
      generalize ws[k] = y at *
      have HT1 := Lib.hid ht
      clear hx hw ht
      generalize hP : prN (l.take k) (ws.take k) = P at *
      have hPs : (text P).size = P.length := text_size P
      have hTs : (text (le x y)).size = y := by rw [text_size, le_len]
      have HOF := Lib.hid (rof_any x hxb y (WalkArith.wf_i64 (by omega)))
      have hmin : (min (y : Int) 64).toNat = y := by omega
      rw [hmin] at HOF
      clear hmin hlw
      have HP := Lib.hid hP
      clear hP
      have hs1 : (text P).size ≤ 1000 := by omega
      have hs2 : (text (le x y)).size ≤ 1000 := by omega
      have HJ : Hid (text P ++ text (le x y) = text (prN (l.take (k + 1)) (ws.take (k + 1)))) := by show _ = _; rw [HT1.out, text_app]
      generalize text (le x y) = U at *
      generalize text P = V at *
      clear hPs hTs
      go_wp2_with fail
      refine (HOF.out _).mono ?_; rintro e w1 ⟨rfl, hb1⟩
      have HB1 := Lib.hid (below_then HB.out hb1)
      clear hb1
      go_wp2_with fail
      go_roundw
      case rel => exact ⟨k + 1, by omega, by go_num, by rw [HJ.out], HB1.out⟩
      case measure => simp [intOf]; omega
    · obtain rfl : k = ws.length := by omega
      rw [HALL.out, HALW.out]
      clear hle
      go_wp2
      go_ret
      exact ⟨rfl, HB.out⟩
/-! ### rows compared -/
theorem equal_same (A B : Option Addr) (ca cb : Nat) (l : List Nat) (hl : l.length ≤ 1000) (w : World) (hr : RdI w .u64 A l) (hs : RdI w .u64 B l) :
    Calls Try.prog 14 #[.slice A l.length ca, .slice B l.length cb] w fun e w' => e = .returned (.bool true) ∧ ∃ d, w' = w.drewN d := by
  have HR := Lib.hid hr
  have HS := Lib.hid hs
  have HGET := Lib.hid (fun (k : Nat) (h : k < l.length) => List.getElem?_eq_getElem h)
  clear hr hs
  go_enter Try.func14, Try.ntmps14
  go_wp2
  go_loopw [13] (fun i wr => ∃ k d : Nat, k ≤ l.length ∧ i = .int .i64 (k : Nat) ∧ wr = w.drewN d) (fun i _ => l.length - (intOf i).toNat)
  case atStart => exact ⟨0, 0, Nat.zero_le _, rfl, rfl⟩
  case round =>
    obtain ⟨k, d, hk, rfl, hwr⟩ := hrel
    by_cases hlt : k < l.length
    · have hx := HGET.out k hlt
      have hr1 : RdI wr .u64 A l := by rw [hwr]; exact HR.out.drewN d
      have hs1 : RdI wr .u64 B l := by rw [hwr]; exact HS.out.drewN d
      obtain ⟨g, rfl⟩ := hr1.slice (by omega)
      obtain ⟨g2, rfl⟩ := hs1.slice (by omega)
      have hc := hr1.at hx
      have hc2 := hs1.at hx
      generalize l[k] = x at *
      have HW := Lib.hid hwr
      clear hx hr1 hs1 hwr
      go_wp2_with fail
      go_quiet (fail)
      go_wp2_with fail
      go_roundw
      case rel => exact ⟨k + 1, d + nq, by omega, by go_num, by rw [HW.out, World.drewN_drewN]⟩
      case measure => simp [intOf]; omega
    · obtain rfl : k = l.length := by omega
      go_wp2_with fail
      go_ret
      exact ⟨rfl, d, rfl⟩
def wsLocals : List Nat := [4, 2, 2, 2, 4, 4, 4, 4, 2, 2]
theorem rLocals_any (w : World) : Calls Try.prog 13 #[] w fun e w' => e = .returned (.slice (some ⟨w.heap.size, 0, none⟩) 10 10) ∧ RdI w' .i64 (some ⟨w.heap.size, 0, none⟩) wsLocals ∧ Below w.heap.size w w' := by
  have hh := heap_alloc_new w (.cells #[.int .i64 4, .int .i64 2, .int .i64 2, .int .i64 2, .int .i64 4, .int .i64 4, .int .i64 4, .int .i64 4, .int .i64 2, .int .i64 2] 3)
  have HR : Hid (RdI (w.alloc (.cells #[.int .i64 4, .int .i64 2, .int .i64 2, .int .i64 2, .int .i64 4, .int .i64 4, .int .i64 4, .int .i64 4, .int .i64 2, .int .i64 2] 3)) .i64 (some ⟨w.heap.size, 0, none⟩) wsLocals) := RdI.of_heap hh rfl
  have HB : Hid (Below w.heap.size w (w.alloc (.cells #[.int .i64 4, .int .i64 2, .int .i64 2, .int .i64 2, .int .i64 4, .int .i64 4, .int .i64 4, .int .i64 4, .int .i64 2, .int .i64 2] 3))) := (Below.refl _ _).alloc (Nat.le_refl _) _
  clear hh
  go_enter Try.func13, Try.ntmps13
  go_wp2_with fail
  go_ret
  exact ⟨rfl, HR.out, HB.out⟩
def wsCentrals : List Nat := [4, 2, 2, 2, 2, 4, 4, 4, 4, 2, 2, 2, 2, 2, 4, 4]
theorem rCentrals_any (w : World) : Calls Try.prog 17 #[] w fun e w' => e = .returned (.slice (some ⟨w.heap.size, 0, none⟩) 16 16) ∧ RdI w' .i64 (some ⟨w.heap.size, 0, none⟩) wsCentrals ∧ Below w.heap.size w w' := by
  have hh := heap_alloc_new w (.cells #[.int .i64 4, .int .i64 2, .int .i64 2, .int .i64 2, .int .i64 2, .int .i64 4, .int .i64 4, .int .i64 4, .int .i64 4, .int .i64 2, .int .i64 2, .int .i64 2, .int .i64 2, .int .i64 2, .int .i64 4, .int .i64 4] 3)
  have HR : Hid (RdI (w.alloc (.cells #[.int .i64 4, .int .i64 2, .int .i64 2, .int .i64 2, .int .i64 2, .int .i64 4, .int .i64 4, .int .i64 4, .int .i64 4, .int .i64 2, .int .i64 2, .int .i64 2, .int .i64 2, .int .i64 2, .int .i64 4, .int .i64 4] 3)) .i64 (some ⟨w.heap.size, 0, none⟩) wsCentrals) := RdI.of_heap hh rfl
  have HB : Hid (Below w.heap.size w (w.alloc (.cells #[.int .i64 4, .int .i64 2, .int .i64 2, .int .i64 2, .int .i64 2, .int .i64 4, .int .i64 4, .int .i64 4, .int .i64 4, .int .i64 2, .int .i64 2, .int .i64 2, .int .i64 2, .int .i64 2, .int .i64 4, .int .i64 4] 3))) := (Below.refl _ _).alloc (Nat.le_refl _) _
  clear hh
  go_enter Try.func17, Try.ntmps17
  go_wp2_with fail
  go_ret
  exact ⟨rfl, HR.out, HB.out⟩
theorem rDesc_true (w : World) : Calls Try.prog 20 #[.bool true] w fun e w' => e = .returned (.slice (some ⟨w.heap.size, 0, none⟩) 4 4) ∧ RdI w' .i64 (some ⟨w.heap.size, 0, none⟩) [4, 4, 8, 8] ∧ Below w.heap.size w w' := by
  have hh := heap_alloc_new w (.cells #[.int .i64 4, .int .i64 4, .int .i64 8, .int .i64 8] 3)
  have HR : Hid (RdI (w.alloc (.cells #[.int .i64 4, .int .i64 4, .int .i64 8, .int .i64 8] 3)) .i64 (some ⟨w.heap.size, 0, none⟩) [4, 4, 8, 8]) := RdI.of_heap hh rfl
  have HB : Hid (Below w.heap.size w (w.alloc (.cells #[.int .i64 4, .int .i64 4, .int .i64 8, .int .i64 8] 3))) := (Below.refl _ _).alloc (Nat.le_refl _) _
  clear hh
  go_enter Try.func20, Try.ntmps20
  go_wp2_with fail
  go_ret
  exact ⟨rfl, HR.out, HB.out⟩
theorem rDesc_false (w : World) : Calls Try.prog 20 #[.bool false] w fun e w' => e = .returned (.slice (some ⟨w.heap.size, 0, none⟩) 4 4) ∧ RdI w' .i64 (some ⟨w.heap.size, 0, none⟩) [4, 4, 4, 4] ∧ Below w.heap.size w w' := by
  have hh := heap_alloc_new w (.cells #[.int .i64 4, .int .i64 4, .int .i64 4, .int .i64 4] 3)
  have HR : Hid (RdI (w.alloc (.cells #[.int .i64 4, .int .i64 4, .int .i64 4, .int .i64 4] 3)) .i64 (some ⟨w.heap.size, 0, none⟩) [4, 4, 4, 4]) := RdI.of_heap hh rfl
  have HB : Hid (Below w.heap.size w (w.alloc (.cells #[.int .i64 4, .int .i64 4, .int .i64 4, .int .i64 4] 3))) := (Below.refl _ _).alloc (Nat.le_refl _) _
  clear hh
  go_enter Try.func20, Try.ntmps20
  go_wp2_with fail
  go_ret
  exact ⟨rfl, HR.out, HB.out⟩
def rowLocal (x0 x1 x2 x3 x4 x5 x6 : Nat) (s7 s8 : ByteArray) : List Nat := [67324752, x0, x1, x2, x3, x4, x5, x6, s7.size, s8.size]
set_option maxHeartbeats 2000000 in
theorem locals_any (x0 x1 x2 x3 x4 x5 x6 : Nat) (b0 : x0 < 65536) (b1 : x1 < 65536) (b2 : x2 < 65536) (b3 : x3 < 4294967296) (b4 : x4 < 4294967296) (b5 : x5 < 4294967296) (b6 : x6 < 4294967296) (s7 s8 : ByteArray) (z7 : s7.size ≤ 1000000) (z8 : s8.size ≤ 1000000) (w : World) :
    Calls Try.prog 15 #[.agg #[.int .u16 (x0 : Nat), .int .u16 (x1 : Nat), .int .u16 (x2 : Nat), .int .u32 (x3 : Nat), .int .u32 (x4 : Nat), .int .u32 (x5 : Nat), .int .u32 (x6 : Nat), .string s7, .string s8]] w fun e w' => e = .returned (.slice (some ⟨w.heap.size + 1, 0, none⟩) 10 10) ∧ RdI w' .u64 (some ⟨w.heap.size + 1, 0, none⟩) (rowLocal x0 x1 x2 x3 x4 x5 x6 s7 s8) ∧ Below w.heap.size w w' := by
  have hh := heap_alloc_new w (.cells #[.int .u16 (x0 : Nat), .int .u16 (x1 : Nat), .int .u16 (x2 : Nat), .int .u32 (x3 : Nat), .int .u32 (x4 : Nat), .int .u32 (x5 : Nat), .int .u32 (x6 : Nat), .string s7, .string s8] 26)
  have c0 : (w.alloc (.cells #[.int .u16 (x0 : Nat), .int .u16 (x1 : Nat), .int .u16 (x2 : Nat), .int .u32 (x3 : Nat), .int .u32 (x4 : Nat), .int .u32 (x5 : Nat), .int .u32 (x6 : Nat), .string s7, .string s8] 26)).cell? ⟨w.heap.size, 0, none⟩ = some (.int .u16 (x0 : Nat)) := by rw [Lib.cell_of_heap hh]; rfl
  have c1 : (w.alloc (.cells #[.int .u16 (x0 : Nat), .int .u16 (x1 : Nat), .int .u16 (x2 : Nat), .int .u32 (x3 : Nat), .int .u32 (x4 : Nat), .int .u32 (x5 : Nat), .int .u32 (x6 : Nat), .string s7, .string s8] 26)).cell? ⟨w.heap.size, 1, none⟩ = some (.int .u16 (x1 : Nat)) := by rw [Lib.cell_of_heap hh]; rfl
  have c2 : (w.alloc (.cells #[.int .u16 (x0 : Nat), .int .u16 (x1 : Nat), .int .u16 (x2 : Nat), .int .u32 (x3 : Nat), .int .u32 (x4 : Nat), .int .u32 (x5 : Nat), .int .u32 (x6 : Nat), .string s7, .string s8] 26)).cell? ⟨w.heap.size, 2, none⟩ = some (.int .u16 (x2 : Nat)) := by rw [Lib.cell_of_heap hh]; rfl
  have c3 : (w.alloc (.cells #[.int .u16 (x0 : Nat), .int .u16 (x1 : Nat), .int .u16 (x2 : Nat), .int .u32 (x3 : Nat), .int .u32 (x4 : Nat), .int .u32 (x5 : Nat), .int .u32 (x6 : Nat), .string s7, .string s8] 26)).cell? ⟨w.heap.size, 3, none⟩ = some (.int .u32 (x3 : Nat)) := by rw [Lib.cell_of_heap hh]; rfl
  have c4 : (w.alloc (.cells #[.int .u16 (x0 : Nat), .int .u16 (x1 : Nat), .int .u16 (x2 : Nat), .int .u32 (x3 : Nat), .int .u32 (x4 : Nat), .int .u32 (x5 : Nat), .int .u32 (x6 : Nat), .string s7, .string s8] 26)).cell? ⟨w.heap.size, 4, none⟩ = some (.int .u32 (x4 : Nat)) := by rw [Lib.cell_of_heap hh]; rfl
  have c5 : (w.alloc (.cells #[.int .u16 (x0 : Nat), .int .u16 (x1 : Nat), .int .u16 (x2 : Nat), .int .u32 (x3 : Nat), .int .u32 (x4 : Nat), .int .u32 (x5 : Nat), .int .u32 (x6 : Nat), .string s7, .string s8] 26)).cell? ⟨w.heap.size, 5, none⟩ = some (.int .u32 (x5 : Nat)) := by rw [Lib.cell_of_heap hh]; rfl
  have c6 : (w.alloc (.cells #[.int .u16 (x0 : Nat), .int .u16 (x1 : Nat), .int .u16 (x2 : Nat), .int .u32 (x3 : Nat), .int .u32 (x4 : Nat), .int .u32 (x5 : Nat), .int .u32 (x6 : Nat), .string s7, .string s8] 26)).cell? ⟨w.heap.size, 6, none⟩ = some (.int .u32 (x6 : Nat)) := by rw [Lib.cell_of_heap hh]; rfl
  have c7 : (w.alloc (.cells #[.int .u16 (x0 : Nat), .int .u16 (x1 : Nat), .int .u16 (x2 : Nat), .int .u32 (x3 : Nat), .int .u32 (x4 : Nat), .int .u32 (x5 : Nat), .int .u32 (x6 : Nat), .string s7, .string s8] 26)).cell? ⟨w.heap.size, 7, none⟩ = some (.string s7) := by rw [Lib.cell_of_heap hh]; rfl
  have c8 : (w.alloc (.cells #[.int .u16 (x0 : Nat), .int .u16 (x1 : Nat), .int .u16 (x2 : Nat), .int .u32 (x3 : Nat), .int .u32 (x4 : Nat), .int .u32 (x5 : Nat), .int .u32 (x6 : Nat), .string s7, .string s8] 26)).cell? ⟨w.heap.size, 8, none⟩ = some (.string s8) := by rw [Lib.cell_of_heap hh]; rfl
  have w0 : IntKind.u64.wrap (x0 : Int) = x0 := by rw [IntKind.wrap_u64]; omega
  have w1 : IntKind.u64.wrap (x1 : Int) = x1 := by rw [IntKind.wrap_u64]; omega
  have w2 : IntKind.u64.wrap (x2 : Int) = x2 := by rw [IntKind.wrap_u64]; omega
  have w3 : IntKind.u64.wrap (x3 : Int) = x3 := by rw [IntKind.wrap_u64]; omega
  have w4 : IntKind.u64.wrap (x4 : Int) = x4 := by rw [IntKind.wrap_u64]; omega
  have w5 : IntKind.u64.wrap (x5 : Int) = x5 := by rw [IntKind.wrap_u64]; omega
  have w6 : IntKind.u64.wrap (x6 : Int) = x6 := by rw [IntKind.wrap_u64]; omega
  have w7 : IntKind.u64.wrap (s7.size : Int) = s7.size := by rw [IntKind.wrap_u64]; omega
  have w8 : IntKind.u64.wrap (s8.size : Int) = s8.size := by rw [IntKind.wrap_u64]; omega
  have HR : Hid (RdI ((w.alloc (.cells #[.int .u16 (x0 : Nat), .int .u16 (x1 : Nat), .int .u16 (x2 : Nat), .int .u32 (x3 : Nat), .int .u32 (x4 : Nat), .int .u32 (x5 : Nat), .int .u32 (x6 : Nat), .string s7, .string s8] 26)).alloc (.cells #[.int .u64 67324752, .int .u64 (x0 : Nat), .int .u64 (x1 : Nat), .int .u64 (x2 : Nat), .int .u64 (x3 : Nat), .int .u64 (x4 : Nat), .int .u64 (x5 : Nat), .int .u64 (x6 : Nat), .int .u64 (s7.size : Nat), .int .u64 (s8.size : Nat)] 36)) .u64 (some ⟨w.heap.size + 1, 0, none⟩) (rowLocal x0 x1 x2 x3 x4 x5 x6 s7 s8)) := RdI.of_heap (heap_alloc_at (alloc_size _ _).symm) rfl
  have HB : Hid (Below w.heap.size w ((w.alloc (.cells #[.int .u16 (x0 : Nat), .int .u16 (x1 : Nat), .int .u16 (x2 : Nat), .int .u32 (x3 : Nat), .int .u32 (x4 : Nat), .int .u32 (x5 : Nat), .int .u32 (x6 : Nat), .string s7, .string s8] 26)).alloc (.cells #[.int .u64 67324752, .int .u64 (x0 : Nat), .int .u64 (x1 : Nat), .int .u64 (x2 : Nat), .int .u64 (x3 : Nat), .int .u64 (x4 : Nat), .int .u64 (x5 : Nat), .int .u64 (x6 : Nat), .int .u64 (s7.size : Nat), .int .u64 (s8.size : Nat)] 36))) := ((Below.refl _ _).alloc (Nat.le_refl _) _).alloc (by simp) _
  clear hh
  go_enter Try.func15, Try.ntmps15
  go_wp2_with fail
  go_ret
  exact ⟨rfl, HR.out, HB.out⟩
def rowCentral (x0 x1 x2 x3 x4 x5 x6 x7 x8 x9 x10 x11 : Nat) (s12 s13 s14 : ByteArray) : List Nat := [33639248, x0, x1, x2, x3, x4, x5, x6, x7, s12.size, s13.size, s14.size, x8, x9, x10, x11]
set_option maxHeartbeats 2000000 in
theorem centrals_any (x0 x1 x2 x3 x4 x5 x6 x7 x8 x9 x10 x11 : Nat) (b0 : x0 < 65536) (b1 : x1 < 65536) (b2 : x2 < 65536) (b3 : x3 < 65536) (b4 : x4 < 4294967296) (b5 : x5 < 4294967296) (b6 : x6 < 4294967296) (b7 : x7 < 4294967296) (b8 : x8 < 65536) (b9 : x9 < 65536) (b10 : x10 < 4294967296) (b11 : x11 < 4294967296) (s12 s13 s14 : ByteArray) (z12 : s12.size ≤ 1000000) (z13 : s13.size ≤ 1000000) (z14 : s14.size ≤ 1000000) (w : World) :
    Calls Try.prog 18 #[.agg #[.int .u16 (x0 : Nat), .int .u16 (x1 : Nat), .int .u16 (x2 : Nat), .int .u16 (x3 : Nat), .int .u32 (x4 : Nat), .int .u32 (x5 : Nat), .int .u32 (x6 : Nat), .int .u32 (x7 : Nat), .int .u16 (x8 : Nat), .int .u16 (x9 : Nat), .int .u32 (x10 : Nat), .int .u32 (x11 : Nat), .string s12, .string s13, .string s14]] w fun e w' => e = .returned (.slice (some ⟨w.heap.size + 1, 0, none⟩) 16 16) ∧ RdI w' .u64 (some ⟨w.heap.size + 1, 0, none⟩) (rowCentral x0 x1 x2 x3 x4 x5 x6 x7 x8 x9 x10 x11 s12 s13 s14) ∧ Below w.heap.size w w' := by
  have hh := heap_alloc_new w (.cells #[.int .u16 (x0 : Nat), .int .u16 (x1 : Nat), .int .u16 (x2 : Nat), .int .u16 (x3 : Nat), .int .u32 (x4 : Nat), .int .u32 (x5 : Nat), .int .u32 (x6 : Nat), .int .u32 (x7 : Nat), .int .u16 (x8 : Nat), .int .u16 (x9 : Nat), .int .u32 (x10 : Nat), .int .u32 (x11 : Nat), .string s12, .string s13, .string s14] 40)
  have c0 : (w.alloc (.cells #[.int .u16 (x0 : Nat), .int .u16 (x1 : Nat), .int .u16 (x2 : Nat), .int .u16 (x3 : Nat), .int .u32 (x4 : Nat), .int .u32 (x5 : Nat), .int .u32 (x6 : Nat), .int .u32 (x7 : Nat), .int .u16 (x8 : Nat), .int .u16 (x9 : Nat), .int .u32 (x10 : Nat), .int .u32 (x11 : Nat), .string s12, .string s13, .string s14] 40)).cell? ⟨w.heap.size, 0, none⟩ = some (.int .u16 (x0 : Nat)) := by rw [Lib.cell_of_heap hh]; rfl
  have c1 : (w.alloc (.cells #[.int .u16 (x0 : Nat), .int .u16 (x1 : Nat), .int .u16 (x2 : Nat), .int .u16 (x3 : Nat), .int .u32 (x4 : Nat), .int .u32 (x5 : Nat), .int .u32 (x6 : Nat), .int .u32 (x7 : Nat), .int .u16 (x8 : Nat), .int .u16 (x9 : Nat), .int .u32 (x10 : Nat), .int .u32 (x11 : Nat), .string s12, .string s13, .string s14] 40)).cell? ⟨w.heap.size, 1, none⟩ = some (.int .u16 (x1 : Nat)) := by rw [Lib.cell_of_heap hh]; rfl
  have c2 : (w.alloc (.cells #[.int .u16 (x0 : Nat), .int .u16 (x1 : Nat), .int .u16 (x2 : Nat), .int .u16 (x3 : Nat), .int .u32 (x4 : Nat), .int .u32 (x5 : Nat), .int .u32 (x6 : Nat), .int .u32 (x7 : Nat), .int .u16 (x8 : Nat), .int .u16 (x9 : Nat), .int .u32 (x10 : Nat), .int .u32 (x11 : Nat), .string s12, .string s13, .string s14] 40)).cell? ⟨w.heap.size, 2, none⟩ = some (.int .u16 (x2 : Nat)) := by rw [Lib.cell_of_heap hh]; rfl
  have c3 : (w.alloc (.cells #[.int .u16 (x0 : Nat), .int .u16 (x1 : Nat), .int .u16 (x2 : Nat), .int .u16 (x3 : Nat), .int .u32 (x4 : Nat), .int .u32 (x5 : Nat), .int .u32 (x6 : Nat), .int .u32 (x7 : Nat), .int .u16 (x8 : Nat), .int .u16 (x9 : Nat), .int .u32 (x10 : Nat), .int .u32 (x11 : Nat), .string s12, .string s13, .string s14] 40)).cell? ⟨w.heap.size, 3, none⟩ = some (.int .u16 (x3 : Nat)) := by rw [Lib.cell_of_heap hh]; rfl
  have c4 : (w.alloc (.cells #[.int .u16 (x0 : Nat), .int .u16 (x1 : Nat), .int .u16 (x2 : Nat), .int .u16 (x3 : Nat), .int .u32 (x4 : Nat), .int .u32 (x5 : Nat), .int .u32 (x6 : Nat), .int .u32 (x7 : Nat), .int .u16 (x8 : Nat), .int .u16 (x9 : Nat), .int .u32 (x10 : Nat), .int .u32 (x11 : Nat), .string s12, .string s13, .string s14] 40)).cell? ⟨w.heap.size, 4, none⟩ = some (.int .u32 (x4 : Nat)) := by rw [Lib.cell_of_heap hh]; rfl
  have c5 : (w.alloc (.cells #[.int .u16 (x0 : Nat), .int .u16 (x1 : Nat), .int .u16 (x2 : Nat), .int .u16 (x3 : Nat), .int .u32 (x4 : Nat), .int .u32 (x5 : Nat), .int .u32 (x6 : Nat), .int .u32 (x7 : Nat), .int .u16 (x8 : Nat), .int .u16 (x9 : Nat), .int .u32 (x10 : Nat), .int .u32 (x11 : Nat), .string s12, .string s13, .string s14] 40)).cell? ⟨w.heap.size, 5, none⟩ = some (.int .u32 (x5 : Nat)) := by rw [Lib.cell_of_heap hh]; rfl
  have c6 : (w.alloc (.cells #[.int .u16 (x0 : Nat), .int .u16 (x1 : Nat), .int .u16 (x2 : Nat), .int .u16 (x3 : Nat), .int .u32 (x4 : Nat), .int .u32 (x5 : Nat), .int .u32 (x6 : Nat), .int .u32 (x7 : Nat), .int .u16 (x8 : Nat), .int .u16 (x9 : Nat), .int .u32 (x10 : Nat), .int .u32 (x11 : Nat), .string s12, .string s13, .string s14] 40)).cell? ⟨w.heap.size, 6, none⟩ = some (.int .u32 (x6 : Nat)) := by rw [Lib.cell_of_heap hh]; rfl
  have c7 : (w.alloc (.cells #[.int .u16 (x0 : Nat), .int .u16 (x1 : Nat), .int .u16 (x2 : Nat), .int .u16 (x3 : Nat), .int .u32 (x4 : Nat), .int .u32 (x5 : Nat), .int .u32 (x6 : Nat), .int .u32 (x7 : Nat), .int .u16 (x8 : Nat), .int .u16 (x9 : Nat), .int .u32 (x10 : Nat), .int .u32 (x11 : Nat), .string s12, .string s13, .string s14] 40)).cell? ⟨w.heap.size, 7, none⟩ = some (.int .u32 (x7 : Nat)) := by rw [Lib.cell_of_heap hh]; rfl
  have c8 : (w.alloc (.cells #[.int .u16 (x0 : Nat), .int .u16 (x1 : Nat), .int .u16 (x2 : Nat), .int .u16 (x3 : Nat), .int .u32 (x4 : Nat), .int .u32 (x5 : Nat), .int .u32 (x6 : Nat), .int .u32 (x7 : Nat), .int .u16 (x8 : Nat), .int .u16 (x9 : Nat), .int .u32 (x10 : Nat), .int .u32 (x11 : Nat), .string s12, .string s13, .string s14] 40)).cell? ⟨w.heap.size, 8, none⟩ = some (.int .u16 (x8 : Nat)) := by rw [Lib.cell_of_heap hh]; rfl
  have c9 : (w.alloc (.cells #[.int .u16 (x0 : Nat), .int .u16 (x1 : Nat), .int .u16 (x2 : Nat), .int .u16 (x3 : Nat), .int .u32 (x4 : Nat), .int .u32 (x5 : Nat), .int .u32 (x6 : Nat), .int .u32 (x7 : Nat), .int .u16 (x8 : Nat), .int .u16 (x9 : Nat), .int .u32 (x10 : Nat), .int .u32 (x11 : Nat), .string s12, .string s13, .string s14] 40)).cell? ⟨w.heap.size, 9, none⟩ = some (.int .u16 (x9 : Nat)) := by rw [Lib.cell_of_heap hh]; rfl
  have c10 : (w.alloc (.cells #[.int .u16 (x0 : Nat), .int .u16 (x1 : Nat), .int .u16 (x2 : Nat), .int .u16 (x3 : Nat), .int .u32 (x4 : Nat), .int .u32 (x5 : Nat), .int .u32 (x6 : Nat), .int .u32 (x7 : Nat), .int .u16 (x8 : Nat), .int .u16 (x9 : Nat), .int .u32 (x10 : Nat), .int .u32 (x11 : Nat), .string s12, .string s13, .string s14] 40)).cell? ⟨w.heap.size, 10, none⟩ = some (.int .u32 (x10 : Nat)) := by rw [Lib.cell_of_heap hh]; rfl
  have c11 : (w.alloc (.cells #[.int .u16 (x0 : Nat), .int .u16 (x1 : Nat), .int .u16 (x2 : Nat), .int .u16 (x3 : Nat), .int .u32 (x4 : Nat), .int .u32 (x5 : Nat), .int .u32 (x6 : Nat), .int .u32 (x7 : Nat), .int .u16 (x8 : Nat), .int .u16 (x9 : Nat), .int .u32 (x10 : Nat), .int .u32 (x11 : Nat), .string s12, .string s13, .string s14] 40)).cell? ⟨w.heap.size, 11, none⟩ = some (.int .u32 (x11 : Nat)) := by rw [Lib.cell_of_heap hh]; rfl
  have c12 : (w.alloc (.cells #[.int .u16 (x0 : Nat), .int .u16 (x1 : Nat), .int .u16 (x2 : Nat), .int .u16 (x3 : Nat), .int .u32 (x4 : Nat), .int .u32 (x5 : Nat), .int .u32 (x6 : Nat), .int .u32 (x7 : Nat), .int .u16 (x8 : Nat), .int .u16 (x9 : Nat), .int .u32 (x10 : Nat), .int .u32 (x11 : Nat), .string s12, .string s13, .string s14] 40)).cell? ⟨w.heap.size, 12, none⟩ = some (.string s12) := by rw [Lib.cell_of_heap hh]; rfl
  have c13 : (w.alloc (.cells #[.int .u16 (x0 : Nat), .int .u16 (x1 : Nat), .int .u16 (x2 : Nat), .int .u16 (x3 : Nat), .int .u32 (x4 : Nat), .int .u32 (x5 : Nat), .int .u32 (x6 : Nat), .int .u32 (x7 : Nat), .int .u16 (x8 : Nat), .int .u16 (x9 : Nat), .int .u32 (x10 : Nat), .int .u32 (x11 : Nat), .string s12, .string s13, .string s14] 40)).cell? ⟨w.heap.size, 13, none⟩ = some (.string s13) := by rw [Lib.cell_of_heap hh]; rfl
  have c14 : (w.alloc (.cells #[.int .u16 (x0 : Nat), .int .u16 (x1 : Nat), .int .u16 (x2 : Nat), .int .u16 (x3 : Nat), .int .u32 (x4 : Nat), .int .u32 (x5 : Nat), .int .u32 (x6 : Nat), .int .u32 (x7 : Nat), .int .u16 (x8 : Nat), .int .u16 (x9 : Nat), .int .u32 (x10 : Nat), .int .u32 (x11 : Nat), .string s12, .string s13, .string s14] 40)).cell? ⟨w.heap.size, 14, none⟩ = some (.string s14) := by rw [Lib.cell_of_heap hh]; rfl
  have w0 : IntKind.u64.wrap (x0 : Int) = x0 := by rw [IntKind.wrap_u64]; omega
  have w1 : IntKind.u64.wrap (x1 : Int) = x1 := by rw [IntKind.wrap_u64]; omega
  have w2 : IntKind.u64.wrap (x2 : Int) = x2 := by rw [IntKind.wrap_u64]; omega
  have w3 : IntKind.u64.wrap (x3 : Int) = x3 := by rw [IntKind.wrap_u64]; omega
  have w4 : IntKind.u64.wrap (x4 : Int) = x4 := by rw [IntKind.wrap_u64]; omega
  have w5 : IntKind.u64.wrap (x5 : Int) = x5 := by rw [IntKind.wrap_u64]; omega
  have w6 : IntKind.u64.wrap (x6 : Int) = x6 := by rw [IntKind.wrap_u64]; omega
  have w7 : IntKind.u64.wrap (x7 : Int) = x7 := by rw [IntKind.wrap_u64]; omega
  have w12 : IntKind.u64.wrap (s12.size : Int) = s12.size := by rw [IntKind.wrap_u64]; omega
  have w13 : IntKind.u64.wrap (s13.size : Int) = s13.size := by rw [IntKind.wrap_u64]; omega
  have w14 : IntKind.u64.wrap (s14.size : Int) = s14.size := by rw [IntKind.wrap_u64]; omega
  have w8 : IntKind.u64.wrap (x8 : Int) = x8 := by rw [IntKind.wrap_u64]; omega
  have w9 : IntKind.u64.wrap (x9 : Int) = x9 := by rw [IntKind.wrap_u64]; omega
  have w10 : IntKind.u64.wrap (x10 : Int) = x10 := by rw [IntKind.wrap_u64]; omega
  have w11 : IntKind.u64.wrap (x11 : Int) = x11 := by rw [IntKind.wrap_u64]; omega
  have HR : Hid (RdI ((w.alloc (.cells #[.int .u16 (x0 : Nat), .int .u16 (x1 : Nat), .int .u16 (x2 : Nat), .int .u16 (x3 : Nat), .int .u32 (x4 : Nat), .int .u32 (x5 : Nat), .int .u32 (x6 : Nat), .int .u32 (x7 : Nat), .int .u16 (x8 : Nat), .int .u16 (x9 : Nat), .int .u32 (x10 : Nat), .int .u32 (x11 : Nat), .string s12, .string s13, .string s14] 40)).alloc (.cells #[.int .u64 33639248, .int .u64 (x0 : Nat), .int .u64 (x1 : Nat), .int .u64 (x2 : Nat), .int .u64 (x3 : Nat), .int .u64 (x4 : Nat), .int .u64 (x5 : Nat), .int .u64 (x6 : Nat), .int .u64 (x7 : Nat), .int .u64 (s12.size : Nat), .int .u64 (s13.size : Nat), .int .u64 (s14.size : Nat), .int .u64 (x8 : Nat), .int .u64 (x9 : Nat), .int .u64 (x10 : Nat), .int .u64 (x11 : Nat)] 36)) .u64 (some ⟨w.heap.size + 1, 0, none⟩) (rowCentral x0 x1 x2 x3 x4 x5 x6 x7 x8 x9 x10 x11 s12 s13 s14)) := RdI.of_heap (heap_alloc_at (alloc_size _ _).symm) rfl
  have HB : Hid (Below w.heap.size w ((w.alloc (.cells #[.int .u16 (x0 : Nat), .int .u16 (x1 : Nat), .int .u16 (x2 : Nat), .int .u16 (x3 : Nat), .int .u32 (x4 : Nat), .int .u32 (x5 : Nat), .int .u32 (x6 : Nat), .int .u32 (x7 : Nat), .int .u16 (x8 : Nat), .int .u16 (x9 : Nat), .int .u32 (x10 : Nat), .int .u32 (x11 : Nat), .string s12, .string s13, .string s14] 40)).alloc (.cells #[.int .u64 33639248, .int .u64 (x0 : Nat), .int .u64 (x1 : Nat), .int .u64 (x2 : Nat), .int .u64 (x3 : Nat), .int .u64 (x4 : Nat), .int .u64 (x5 : Nat), .int .u64 (x6 : Nat), .int .u64 (x7 : Nat), .int .u64 (s12.size : Nat), .int .u64 (s13.size : Nat), .int .u64 (s14.size : Nat), .int .u64 (x8 : Nat), .int .u64 (x9 : Nat), .int .u64 (x10 : Nat), .int .u64 (x11 : Nat)] 36))) := ((Below.refl _ _).alloc (Nat.le_refl _) _).alloc (by simp) _
  clear hh
  go_enter Try.func18, Try.ntmps18
  go_wp2_with fail
  go_ret
  exact ⟨rfl, HR.out, HB.out⟩
def rowDescriptor (x0 x1 x2 : Nat) : List Nat := [134695760, x0, x1, x2]
set_option maxHeartbeats 2000000 in
theorem descriptors_any (x0 x1 x2 : Nat) (b0 : x0 < 4294967296) (b1 : x1 < 18446744073709551616) (b2 : x2 < 18446744073709551616)  (w : World) :
    Calls Try.prog 21 #[.agg #[.int .u32 (x0 : Nat), .int .u64 (x1 : Nat), .int .u64 (x2 : Nat)]] w fun e w' => e = .returned (.slice (some ⟨w.heap.size + 1, 0, none⟩) 4 4) ∧ RdI w' .u64 (some ⟨w.heap.size + 1, 0, none⟩) (rowDescriptor x0 x1 x2) ∧ Below w.heap.size w w' := by
  have hh := heap_alloc_new w (.cells #[.int .u32 (x0 : Nat), .int .u64 (x1 : Nat), .int .u64 (x2 : Nat)] 45)
  have c0 : (w.alloc (.cells #[.int .u32 (x0 : Nat), .int .u64 (x1 : Nat), .int .u64 (x2 : Nat)] 45)).cell? ⟨w.heap.size, 0, none⟩ = some (.int .u32 (x0 : Nat)) := by rw [Lib.cell_of_heap hh]; rfl
  have c1 : (w.alloc (.cells #[.int .u32 (x0 : Nat), .int .u64 (x1 : Nat), .int .u64 (x2 : Nat)] 45)).cell? ⟨w.heap.size, 1, none⟩ = some (.int .u64 (x1 : Nat)) := by rw [Lib.cell_of_heap hh]; rfl
  have c2 : (w.alloc (.cells #[.int .u32 (x0 : Nat), .int .u64 (x1 : Nat), .int .u64 (x2 : Nat)] 45)).cell? ⟨w.heap.size, 2, none⟩ = some (.int .u64 (x2 : Nat)) := by rw [Lib.cell_of_heap hh]; rfl
  have w0 : IntKind.u64.wrap (x0 : Int) = x0 := by rw [IntKind.wrap_u64]; omega
  have HR : Hid (RdI ((w.alloc (.cells #[.int .u32 (x0 : Nat), .int .u64 (x1 : Nat), .int .u64 (x2 : Nat)] 45)).alloc (.cells #[.int .u64 134695760, .int .u64 (x0 : Nat), .int .u64 (x1 : Nat), .int .u64 (x2 : Nat)] 36)) .u64 (some ⟨w.heap.size + 1, 0, none⟩) (rowDescriptor x0 x1 x2)) := RdI.of_heap (heap_alloc_at (alloc_size _ _).symm) rfl
  have HB : Hid (Below w.heap.size w ((w.alloc (.cells #[.int .u32 (x0 : Nat), .int .u64 (x1 : Nat), .int .u64 (x2 : Nat)] 45)).alloc (.cells #[.int .u64 134695760, .int .u64 (x0 : Nat), .int .u64 (x1 : Nat), .int .u64 (x2 : Nat)] 36))) := ((Below.refl _ _).alloc (Nat.le_refl _) _).alloc (by simp) _
  clear hh
  go_enter Try.func21, Try.ntmps21
  go_wp2_with fail
  go_ret
  exact ⟨rfl, HR.out, HB.out⟩
end Go.Proofs.Ytklmfncljebgnaa
