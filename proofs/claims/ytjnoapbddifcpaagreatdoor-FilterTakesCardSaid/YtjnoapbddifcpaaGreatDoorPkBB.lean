/-
  Filter: Make.
  Contracts: numbers as bytes, both ways, of the program and of the document.
  Contracts: what bytes are as a number, of the program and of the document; numbers in two, four, eight bytes.
  Contracts: the cursor's calls.
  Contracts: a cursor that is none; the chapter's examples.
  Contracts: the document's cursor.
-/
import Derived.Test.YtjnoapbddifcpaaGreatDoorPkBA
import Derived.Laws.ResultCell
import Derived.Laws.Rows
import Derived.Test.YtjnoapbddifcpaaGreatDoorPkAA
import Derived.Laws.IdiomStrings
import Derived.Laws.BytesArg
import Derived.Lib.SmallJoins
import Derived.Deep.AppendLies
import Derived.Deep.QuietTactic
import Derived.BigQuiet
import Derived.Deep.RegionWith

namespace Go.Proofs.YtjnoapbddifcpaaGreatDoor
set_option maxRecDepth 100000
set_option linter.unusedSimpArgs false
set_option linter.unusedVariables false
open Go.RowKit Go.Joins Go.Deep
open Go.Lib hiding intOf
theorem results_ct_rowD {P : Program} {fn : Func} {p u : Tmp} {ty : TypeId} (h : fn.results = #[.cell p ty, .tmp u]) (tmps : Array Value) (w : World) (g : Nat) (t : TypeId) (cs : Array Value) (fr : Nat × Nat) (d : TypeDesc)
    (hp : tmps.getD p undef = .pointer (some ⟨g, 0, none⟩)) (hg : w.heap[g]? = some (.cells cs t fr))
    (hu : P.underlying ty = some d) (hd : (match d with | .struct _ | .array _ _ => true | _ => false) = true) (hi : (P.info? ty).map (·.size) = some cs.size) :
    (results fn tmps).run P w = .ok (.tuple #[.agg cs, tmps.getD u undef]) w := by
  rw [results_cell_tmp h, hp]
  simp [asAddr, run_loadVar_row w g t ty cs fr d hg hu hd hi, Result.andThen]
/-- What Make answers. -/
def MakR (w : World) (ssi sso : List ByteArray) (e : Ending) (w' : World) : Prop :=
  ((∃ s ∈ ssi ++ sso, cmp1 s = none) ∧ e = .returned (.tuple #[.agg #[.slice none 0 0, .slice none 0 0], .int .i64 22]) ∧ Below w.heap.size w w') ∨
  (∃ ins outs A1 c1 A2 c2, ssi.map cmp1 = ins.map some ∧ sso.map cmp1 = outs.map some ∧ e = .returned (.tuple #[.agg #[.slice A1 ins.length c1, .slice A2 outs.length c2], .int .i64 0]) ∧ FilV w' (.agg #[.slice A1 ins.length c1, .slice A2 outs.length c2]) ins outs ∧ Below w.heap.size w w')
theorem two_set {w : World} {g : Nat} {a b x y : Value} {T : TypeId} (h : w.heap[g]? = some (.cells #[a, b] T (0, 0))) : ((w.setCell ⟨g, 0, none⟩ x).setCell ⟨g, 1, none⟩ y).heap[g]? = some (.cells #[x, y] T (0, 0)) := by
  have h1 := heap_setCell_same w g 0 _ _ x h
  have h2 := heap_setCell_same _ g 1 _ _ y h1
  simpa using h2
set_option maxHeartbeats 8000000 in
theorem fmake_any (A1 A2 : Option Addr) (c1 c2 : Nat) (ssi sso : List ByteArray) (h1 : ssi.length ≤ 100) (h2 : sso.length ≤ 100) (hs1 : ∀ s ∈ ssi, s.size ≤ 65535) (hs2 : ∀ s ∈ sso, s.size ≤ 65535) (w : World) (hT1 : TxS w A1 ssi) (hT2 : TxS w A2 sso) :
    Calls Tryz.prog 9 #[.slice A1 ssi.length c1, .slice A2 sso.length c2] w (MakR w ssi sso) := by
  have hif := info_fil
  have hzf := zero_fil
  have hmx : decide ((100 : Int) < (if (ssi.length : Int) < (sso.length : Int) then (sso.length : Int) else (ssi.length : Int))) = false := decide_eq_false (by split <;> omega)
  have hb0 := below_alG w (.cells #[.slice none 0 0, .slice none 0 0] 36)
  have hx0 := heap_alloc_new w (.cells #[.slice none 0 0, .slice none 0 0] 36)
  have HC1 := Lib.hid (fcompile_any A1 c1 ssi (by omega) hs1 _ (hT1.below hb0))
  have HC2 := Lib.hid (fun w1 (hb : Below w.heap.size w w1) => fcompile_any A2 c2 sso (by omega) hs2 w1 (hT2.below hb))
  have HB0 := Lib.hid hb0
  have HX0 := Lib.hid hx0
  clear hT1 hT2 hb0 hx0 hs1 hs2
  go_enter Tryz.func9, Tryz.ntmps9
  go_upto_region 1 with fail
  generalize w.alloc (.cells #[.slice none 0 0, .slice none 0 0] 36) = w1 at *
  have HG : Hid (w.heap.size = w.heap.size) := rfl
  have HLT : Hid (w.heap.size < w1.heap.size) := lt_of_block HX0.out
  go_wp2_with fail
  refine HC1.out.mono ?_; rintro e w2 hout
  rcases hout with ⟨hn, rfl, hb2⟩ | ⟨ins, A3, c3, hm1, hl1, rfl, hR1, hb2⟩
  · have HN := Lib.hid hn
    have HX2 := Lib.hid ((hb2.block _ HLT.out).trans HX0.out)
    have z0 := (cell_of_row _ _ 0 _ _ _ HX2.out).trans (show _ = some (Value.slice none 0 0) from rfl)
    have z1 := (cell_of_row _ _ 1 _ _ _ HX2.out).trans (show _ = some (Value.slice none 0 0) from rfl)
    have f0 := frozen_of_row _ _ 0 _ _ HX2.out
    have f1 := frozen_of_row _ _ 1 _ _ HX2.out
    have HB2 := Lib.hid (below_then HB0.out hb2)
    clear hn hb2 HC1 HC2
    go_wp2_with fail
    exact bodyPost_ret (results_ct_rowD rfl _ _ w.heap.size 36 #[.slice none 0 0, .slice none 0 0] (0, 0) _ rfl (two_set HX2.out) Tryz.underlying36 rfl info_fil) rfl (.inl ⟨by obtain ⟨s, h1, h2⟩ := HN.out; exact ⟨s, List.mem_append.2 (.inl h1), h2⟩, rfl, (HB2.out.setCell (p := ⟨w.heap.size, 0, none⟩) (Nat.le_refl _) _).setCell (p := ⟨w.heap.size, 1, none⟩) (Nat.le_refl _) _⟩)
  · have HB2 := Lib.hid (below_then HB0.out hb2)
    have HX2 := Lib.hid ((hb2.block _ HLT.out).trans HX0.out)
    have HR1 := Lib.hid hR1
    have HM1 := Lib.hid hm1
    have HL2 : Hid (w.heap.size < w2.heap.size) := Nat.lt_of_lt_of_le HLT.out hb2.size
    have HK2 := Lib.hid (HC2.out w2 HB2.out)
    clear hb2 hR1 hm1 HC1 HC2
    go_wp2_with fail
    refine HK2.out.mono ?_; rintro e w3 hout
    clear HK2
    rcases hout with ⟨hn, rfl, hb3⟩ | ⟨outs, A4, c4, hm2, hl2, rfl, hR2, hb3⟩
    · have HN := Lib.hid hn
      have HX3 := Lib.hid ((hb3.block _ HL2.out).trans HX2.out)
      have z0 := (cell_of_row _ _ 0 _ _ _ HX3.out).trans (show _ = some (Value.slice none 0 0) from rfl)
      have z1 := (cell_of_row _ _ 1 _ _ _ HX3.out).trans (show _ = some (Value.slice none 0 0) from rfl)
      have f0 := frozen_of_row _ _ 0 _ _ HX3.out
      have f1 := frozen_of_row _ _ 1 _ _ HX3.out
      have HB3 := Lib.hid (below_then HB2.out hb3)
      clear hn hb3
      go_wp2_with fail
      exact bodyPost_ret (results_ct_rowD rfl _ _ w.heap.size 36 #[.slice none 0 0, .slice none 0 0] (0, 0) _ rfl (two_set HX3.out) Tryz.underlying36 rfl info_fil) rfl (.inl ⟨by obtain ⟨s, h1, h2⟩ := HN.out; exact ⟨s, List.mem_append.2 (.inr h1), h2⟩, rfl, (HB3.out.setCell (p := ⟨w.heap.size, 0, none⟩) (Nat.le_refl _) _).setCell (p := ⟨w.heap.size, 1, none⟩) (Nat.le_refl _) _⟩)
    · have HX3 := Lib.hid ((hb3.block _ HL2.out).trans HX2.out)
      have z0 := (cell_of_row _ _ 0 _ _ _ HX3.out).trans (show _ = some (Value.slice none 0 0) from rfl)
      have z1 := (cell_of_row _ _ 1 _ _ _ HX3.out).trans (show _ = some (Value.slice none 0 0) from rfl)
      have f0 := frozen_of_row _ _ 0 _ _ HX3.out
      have f1 := frozen_of_row _ _ 1 _ _ HX3.out
      have HB3 := Lib.hid (below_then HB2.out hb3)
      have HR1' := Lib.hid (HR1.out.below hb3)
      have HR2 := Lib.hid hR2
      have HM2 := Lib.hid hm2
      have HY := Lib.hid (heap_setCell_same w3 w.heap.size 0 _ _ (.slice A3 ins.length c3) HX3.out)
      have HKG : Hid (KeepG w3 ((w3.setCell ⟨w.heap.size, 0, none⟩ (.slice A3 ins.length c3)).setCell ⟨w.heap.size, 1, none⟩ (.slice A4 outs.length c4))) := (keepG_set HX3.out (by decide) (by decide) (by decide) _).then (keepG_set HY.out (by decide) (by decide) (by decide) _)
      clear hb3 hR2 hm2
      go_wp2_with fail
      exact bodyPost_ret (results_ct_rowD rfl _ _ w.heap.size 36 #[.slice A3 ins.length c3, .slice A4 outs.length c4] (0, 0) _ rfl (two_set HX3.out) Tryz.underlying36 rfl info_fil) rfl (.inr ⟨ins, outs, A3, c3, A4, c4, HM1.out, HM2.out, rfl, ⟨A3, c3, A4, c4, rfl, HR1'.out.keep HKG.out, HR2.out.keep HKG.out, hl1, hl2⟩, (HB3.out.setCell (p := ⟨w.heap.size, 0, none⟩) (Nat.le_refl _) _).setCell (p := ⟨w.heap.size, 1, none⟩) (Nat.le_refl _) _⟩)
end Go.Proofs.YtjnoapbddifcpaaGreatDoor

namespace Go.Proofs.YtjnoapbddifcpaaGreatDoor
set_option maxRecDepth 100000
open Go.RowKit Go.Joins

end Go.Proofs.YtjnoapbddifcpaaGreatDoor

namespace Go.Proofs.YtjnoapbddifcpaaGreatDoor
set_option maxRecDepth 100000
open Go.RowKit Go.Joins

theorem nums_take_lt (s : ByteArray) (k : Nat) : ∀ x ∈ (nums s).take k, x < 256 := fun x hx => nums_lt s x (List.mem_of_mem_take hx)
theorem or_step8 (N x k : Nat) (hN : N < 256 ^ k) : N ||| x * 2 ^ (8 * k) = N + x * 256 ^ k := by
  have e : (256 : Nat) ^ k = 2 ^ (8 * k) := by rw [Nat.pow_mul]
  rw [e] at hN ⊢
  have h := Nat.shiftLeft_add_eq_or_of_lt hN x
  rw [Nat.shiftLeft_eq] at h
  rw [Nat.or_comm, ← h, Nat.add_comm]

theorem pow_up (k : Nat) (hk : k < 8) : (256 : Nat) ^ (k + 1) ≤ 18446744073709551616 := by
  have h := Nat.pow_le_pow_right (n := 256) (by omega) (show k + 1 ≤ 8 by omega)
  exact h
theorem or_walk (X x k : Nat) (hX : X < 256 ^ k) (hx : x < 256) (hk : k < 8) : bits .or .u64 (X : Int) (IntKind.u64.wrap ((x : Int) * 2 ^ (8 * k))) = ((X + x * 256 ^ k : Nat) : Int) := by
  have hp := pow_up k hk
  rw [Nat.pow_succ] at hp
  have e : (2 : Nat) ^ (8 * k) = 256 ^ k := by rw [Nat.pow_mul]
  have hpos : 0 < (256 : Nat) ^ k := Nat.pow_pos (by omega)
  have h1 : x * 256 ^ k < 18446744073709551616 := by
    have : x * 256 ^ k < 256 ^ k * 256 := by rw [Nat.mul_comm]; exact Nat.mul_lt_mul_of_pos_left hx hpos
    omega
  have e2 : ((x : Int) * 2 ^ (8 * k)) = ((x * 2 ^ (8 * k) : Nat) : Int) := by simp
  have h2 : IntKind.u64.wrap ((x : Int) * 2 ^ (8 * k)) = ((x * 2 ^ (8 * k) : Nat) : Int) := by
    rw [e2, IntKind.wrap_u64, e]
    omega
  rw [h2, u64_or_nat X _ (by omega) (by rw [e]; exact h1), or_step8 X x k hX]

theorem number_long (s : ByteArray) (hs : s.size ≤ maxLen) (h8 : 8 < s.size) (w : World) :
    Calls Tryz.prog 115 #[.string s] w fun e w' => e = .returned (.tuple #[.int .u64 0, .int .i64 5]) ∧ w = w' := by
  unfold maxLen at hs
  go_enter Tryz.func115, Tryz.ntmps115
  go_wp2
  go_ret2
  exact ⟨rfl, rfl⟩

theorem number_any (s : ByteArray) (h8 : s.size ≤ 8) (w : World) :
    Calls Tryz.prog 115 #[.string s] w fun e w' => e = .returned (.tuple #[.int .u64 (numL (nums s) : Nat), .int .i64 0]) ∧ w = w' := by
  go_enter Tryz.func115, Tryz.ntmps115
  go_wp2
  go_loop [4, 11] (fun x i => ∃ k : Nat, k ≤ s.size ∧ i = .int .i64 k ∧ x = .int .u64 (numL ((nums s).take k) : Nat)) (fun _ i => s.size - (intOf i).toNat)
  case atStart => exact ⟨0, Nat.zero_le _, rfl, rfl⟩
  case round =>
    obtain ⟨k, hk, rfl, rfl⟩ := hrel
    have hN := numL_lt _ (nums_take_lt s k)
    rw [List.length_take, nums_len, Nat.min_eq_left hk] at hN
    generalize hNN : numL ((nums s).take k) = X at hN
    have HN := Lib.hid hN
    have HX := Lib.hid hNN
    clear hNN hN
    by_cases hlt : k < s.size
    · have hsk : s[k].toNat < 256 := s[k].toNat_lt
      go_wp2
      go_round
      case rel =>
        refine ⟨k + 1, by omega, by go_num, ?_⟩
        rw [nums_snoc s k hlt, numL_snoc, HX.out, List.length_take, nums_len, Nat.min_eq_left hk, or_walk X s[k].toNat k HN.out hsk (by omega)]
      case measure => simp [intOf]; omega
    · obtain rfl : k = s.size := by omega
      go_wp2
      go_ret2
      have h := HX.out
      rw [← nums_len, List.take_length] at h
      subst h
      exact ⟨rfl, rfl⟩

theorem nums_drop (s : ByteArray) (j : Nat) (h : j < s.size) : (nums s).drop j = s[j].toNat :: (nums s).drop (j + 1) := by
  rw [List.drop_eq_getElem_cons (by rw [nums_len]; exact h)]
  congr 1
  unfold nums
  simp
  rfl
theorem numL_small (s : ByteArray) (k : Nat) (hk : 1 ≤ k) (h8 : s.size ≤ 8) : numL ((nums s).drop k) < 72057594037927936 := by
  have h := numL_lt ((nums s).drop k) (fun x hx => nums_lt s x (List.mem_of_mem_drop hx))
  rw [List.length_drop, nums_len] at h
  exact Nat.lt_of_lt_of_le h (Nat.pow_le_pow_right (n := 256) (by omega) (show s.size - k ≤ 7 by omega))

/-- The document's Number, of at most eight bytes. -/
theorem rnumber_any (s : ByteArray) (h8 : s.size ≤ 8) (w : World) :
    Calls Tryz.prog 78 #[.string s] w fun e w' => e = .returned (.int .u64 (numL (nums s) : Nat)) ∧ w = w' := by
  go_enter Tryz.func78, Tryz.ntmps78
  go_wp2
  go_loop [3, 4] (fun x i => ∃ k : Nat, k ≤ s.size ∧ i = .int .i64 ((k : Int) - 1) ∧ x = .int .u64 (numL ((nums s).drop k) : Nat)) (fun _ i => (intOf i + 1).toNat)
  case atStart => exact ⟨s.size, Nat.le_refl _, rfl, by rw [← nums_len, List.drop_length]; rfl⟩
  case round =>
    obtain ⟨k, hk, rfl, rfl⟩ := hrel
    by_cases h0 : k = 0
    · subst h0
      rw [show (((0 : Nat) : Int) - 1) = -1 from rfl]
      go_wp2
      go_ret
      exact ⟨rfl, rfl⟩
    · obtain ⟨j, rfl⟩ : ∃ j, k = j + 1 := ⟨k - 1, by omega⟩
      rw [show (((j + 1 : Nat) : Int) - 1) = (j : Int) from by omega]
      have hX := numL_small s (j + 1) (by omega) h8
      have hd := nums_drop s j (by omega)
      have hsk : s[j].toNat < 256 := s[j].toNat_lt
      generalize hXX : numL ((nums s).drop (j + 1)) = X at hX
      have HX := Lib.hid hXX
      have HD := Lib.hid hd
      clear hXX hd
      go_wp2
      go_round
      case rel => exact ⟨j, by omega, by go_num, by rw [HD.out]; show Value.int IntKind.u64 _ = .int .u64 ((s[j].toNat + 256 * numL ((nums s).drop (j + 1)) : Nat) : Int); rw [HX.out]; congr 1; omega⟩
      case measure => simp [intOf]

end Go.Proofs.YtjnoapbddifcpaaGreatDoor

namespace Go.Proofs.YtjnoapbddifcpaaGreatDoor
set_option maxRecDepth 100000
open Go.RowKit Go.Joins

/-- A block that is a cursor: its text, its place, its error. -/
def Cur (w : World) (g : Nat) (s : ByteArray) (a e : Nat) : Prop := w.heap[g]? = some (.cells #[.string s, .int .i64 (a : Nat), .int .i64 (e : Nat)] 246 (0, 0))
theorem Cur.c0 {w : World} {g : Nat} {s : ByteArray} {a e : Nat} (h : Cur w g s a e) : w.cell? ⟨g, 0, none⟩ = some (.string s) := by rw [cell_of_row w g 0 _ _ _ h]; rfl
theorem Cur.c1 {w : World} {g : Nat} {s : ByteArray} {a e : Nat} (h : Cur w g s a e) : w.cell? ⟨g, 1, none⟩ = some (.int .i64 (a : Nat)) := by rw [cell_of_row w g 1 _ _ _ h]; rfl
theorem Cur.c2 {w : World} {g : Nat} {s : ByteArray} {a e : Nat} (h : Cur w g s a e) : w.cell? ⟨g, 2, none⟩ = some (.int .i64 (e : Nat)) := by rw [cell_of_row w g 2 _ _ _ h]; rfl
theorem Cur.fr {w : World} {g : Nat} {s : ByteArray} {a e : Nat} (h : Cur w g s a e) (i : Nat) : w.frozen? ⟨g, i, none⟩ = false := frozen_of_row w g i _ _ h
theorem Cur.lt {w : World} {g : Nat} {s : ByteArray} {a e : Nat} (h : Cur w g s a e) : g < w.heap.size := by
  rcases Nat.lt_or_ge g w.heap.size with hlt | hge
  · exact hlt
  · unfold Cur at h; rw [Array.getElem?_eq_none hge] at h; cases h
theorem Cur.drewN {w : World} {g : Nat} {s : ByteArray} {a e : Nat} (h : Cur w g s a e) (n : Nat) : Cur (w.drewN n) g s a e := h
theorem Cur.setAt {w : World} {g : Nat} {s : ByteArray} {a e : Nat} (h : Cur w g s a e) (a' : Nat) : Cur (w.setCell ⟨g, 1, none⟩ (.int .i64 (a' : Nat))) g s a' e := heap_setCell_same w g 1 _ _ _ h
theorem Cur.setErr {w : World} {g : Nat} {s : ByteArray} {a e : Nat} (h : Cur w g s a e) (e' : Nat) : Cur (w.setCell ⟨g, 2, none⟩ (.int .i64 (e' : Nat))) g s a e' := heap_setCell_same w g 2 _ _ _ h
theorem Cur.grown {w w' : World} {g : Nat} {s : ByteArray} {a e : Nat} {row : Option Nat} (h : Cur w g s a e) (hg : w.grownBy w' row) (hne : some g ≠ row) : Cur w' g s a e := (hg.block g h.lt hne).trans h
theorem Cur.below {w w' : World} {B g : Nat} {s : ByteArray} {a e : Nat} (h : Cur w g s a e) (hb : Below B w w') (hg : g < B) : Cur w' g s a e := (hb.block g hg).trans h

theorem grown_drewN (w : World) (n : Nat) (row : Option Nat) : w.grownBy (w.drewN n) row := ⟨rfl, rfl, rfl, Nat.le_refl _, fun _ _ _ => rfl⟩
theorem grown_set (w : World) (g i : Nat) (v : Value) : w.grownBy (w.setCell ⟨g, i, none⟩ v) (some g) :=
  ⟨rfl, rfl, rfl, by simp [World.setCell], fun k _ hne => Below.heap_setCell _ _ _ _ (fun e => hne (by rw [e]))⟩
theorem grown_then {w w1 w2 : World} {row : Option Nat} (h : w.grownBy w1 row) (k : w1.grownBy w2 row) : w.grownBy w2 row :=
  ⟨k.os.trans h.os, k.tape.trans h.tape, k.output.trans h.output, Nat.le_trans h.size k.size, fun i hi hne => (k.block i (Nat.lt_of_lt_of_le hi h.size) hne).trans (h.block i hi hne)⟩

/-- Can the next n bytes be taken? -/
def mayB (s : ByteArray) (a e : Nat) (n : Int) : Bool := decide (e = 0 ∧ 0 ≤ n ∧ n ≤ (s.size : Int) - a)

theorem over_any (s : ByteArray) (w : World) :
    Calls Tryz.prog 101 #[.string s] w fun e w' => e = .returned (.pointer (some ⟨w.heap.size, 0, none⟩)) ∧ w.alloc (.cells #[.string s, .int .i64 0, .int .i64 0] 246) = w' := by
  go_enter Tryz.func101, Tryz.ntmps101
  go_wp2
  go_ret
  exact ⟨rfl, rfl⟩

theorem may_any (g : Nat) (s : ByteArray) (a e : Nat) (n : Int) (hs : s.size ≤ maxLen) (ha : a ≤ s.size) (hn : (Lit.int .i64 n).wf = true) (w : World) (hc : Cur w g s a e) :
    Calls Tryz.prog 140 #[.pointer (some ⟨g, 0, none⟩), .int .i64 n] w fun r w' => r = .returned (.bool (mayB s a e n)) ∧ ∃ d, w' = w.drewN d := by
  unfold maxLen at hs
  have hb := bounds_i64 hn
  have c0 := hc.c0
  have c1 := hc.c1
  have c2 := hc.c2
  clear hc hn
  by_cases he : e = 0
  · have he' : ((e : Int) == 0) = true := by subst he; rfl
    by_cases h0 : 0 ≤ n
    · have h0' : decide (0 ≤ n) = true := decide_eq_true h0
      have HM : Hid (mayB s a e n = decide (n ≤ (s.size : Int) - a)) := by
        show _ = _
        unfold mayB
        exact decide_eq_decide.mpr ⟨fun h => h.2.2, fun h => ⟨he, h0, h⟩⟩
      clear he
      go_enter Tryz.func140, Tryz.ntmps140
      go_wp2
      go_quiet (fail)
      go_wp2
      go_ret
      exact ⟨by rw [HM.out]; rfl, _, rfl⟩
    · have h0' : decide (0 ≤ n) = false := decide_eq_false h0
      have HM : Hid (mayB s a e n = false) := decide_eq_false fun h => h0 h.2.1
      clear he
      go_enter Tryz.func140, Tryz.ntmps140
      go_wp2
      go_quiet (fail)
      go_wp2
      go_ret
      exact ⟨by rw [HM.out]; rfl, _, rfl⟩
  · have he' : ((e : Int) == 0) = false := by rw [beq_eq_false_iff_ne]; omega
    have HM : Hid (mayB s a e n = false) := decide_eq_false fun h => he h.1
    clear he
    go_enter Tryz.func140, Tryz.ntmps140
    go_wp2
    go_quiet (fail)
    go_wp2
    go_ret
    exact ⟨by rw [HM.out]; rfl, _, rfl⟩

theorem may_no (g : Nat) (s : ByteArray) (a e : Nat) (n : Int) (hs : s.size ≤ maxLen) (ha : a ≤ s.size) (hn : (Lit.int .i64 n).wf = true) (w : World) (hc : Cur w g s a e) (hm : mayB s a e n = false) :
    Calls Tryz.prog 140 #[.pointer (some ⟨g, 0, none⟩), .int .i64 n] w fun r w' => r = .returned (.bool false) ∧ ∃ d, w' = w.drewN d := by
  have h := may_any g s a e n hs ha hn w hc
  rw [hm] at h
  exact h
theorem may_yes (g : Nat) (s : ByteArray) (a e : Nat) (n : Int) (hs : s.size ≤ maxLen) (ha : a ≤ s.size) (hn : (Lit.int .i64 n).wf = true) (w : World) (hc : Cur w g s a e) (hm : mayB s a e n = true) :
    Calls Tryz.prog 140 #[.pointer (some ⟨g, 0, none⟩), .int .i64 n] w fun r w' => r = .returned (.bool true) ∧ ∃ d, w' = w.drewN d := by
  have h := may_any g s a e n hs ha hn w hc
  rw [hm] at h
  exact h

/-- What can be taken. -/
def piece (s : ByteArray) (a e : Nat) (n : Int) : ByteArray := if mayB s a e n then s.extract a (a + n.toNat) else ⟨#[]⟩

theorem peek_any (g : Nat) (s : ByteArray) (a e : Nat) (n : Int) (hs : s.size ≤ maxLen) (ha : a ≤ s.size) (hn : (Lit.int .i64 n).wf = true) (w : World) (hc : Cur w g s a e) :
    Calls Tryz.prog 141 #[.pointer (some ⟨g, 0, none⟩), .int .i64 n] w fun r w' => r = .returned (.string (piece s a e n)) ∧ ∃ d, w' = w.drewN d := by
  by_cases hm : mayB s a e n = true
  · have hmay := may_yes g s a e n hs ha hn w hc hm
    have HMAY := Lib.hid hmay
    have HP : Hid (piece s a e n = s.extract a (a + n.toNat)) := if_pos hm
    have hd : 0 ≤ n ∧ n ≤ (s.size : Int) - a := by
      unfold mayB at hm
      exact (of_decide_eq_true hm).2
    obtain ⟨hn0, hn1⟩ := hd
    unfold maxLen at hs
    have c0 := hc.c0
    have c1 := hc.c1
    obtain ⟨m, rfl⟩ := Int.eq_ofNat_of_zero_le hn0
    rw [Int.toNat_natCast] at HP
    clear hc hmay hm hn
    go_enter Tryz.func141, Tryz.ntmps141
    go_wp2_with (go_at_call 140; refine (HMAY.out).mono ?_; rintro r w' ⟨rfl, d, rfl⟩)
    go_quiet (fail)
    go_wp2
    go_ret
    exact ⟨by rw [HP.out]; rfl, d + nq, by rw [World.drewN_drewN]⟩
  · have hm' : mayB s a e n = false := by simpa using hm
    have hmay := may_no g s a e n hs ha hn w hc hm'
    have HMAY := Lib.hid hmay
    have HP : Hid (piece s a e n = ⟨#[]⟩) := if_neg hm
    clear hc hmay hm hm' hn
    go_enter Tryz.func141, Tryz.ntmps141
    go_wp2_with (go_at_call 140; refine (HMAY.out).mono ?_; rintro r w' ⟨rfl, d, rfl⟩)
    go_ret
    exact ⟨by rw [HP.out]; rfl, _, rfl⟩

/-- The place and the error behind a taking. -/
def atB (s : ByteArray) (a e : Nat) (n : Int) : Nat := if mayB s a e n then a + n.toNat else a
def errB (s : ByteArray) (a e : Nat) (n : Int) : Nat := if mayB s a e n then e else 3
theorem atB_le (s : ByteArray) (a e : Nat) (n : Int) (ha : a ≤ s.size) : atB s a e n ≤ s.size := by
  unfold atB
  split
  · rename_i h
    unfold mayB at h
    have := of_decide_eq_true h
    omega
  · exact ha

theorem take_any (g : Nat) (s : ByteArray) (a e : Nat) (n : Int) (hs : s.size ≤ maxLen) (ha : a ≤ s.size) (hn : (Lit.int .i64 n).wf = true) (w : World) (hc : Cur w g s a e) :
    Calls Tryz.prog 104 #[.pointer (some ⟨g, 0, none⟩), .int .i64 n] w fun r w' => r = .returned (.string (piece s a e n)) ∧ Cur w' g s (atB s a e n) (errB s a e n) ∧ w.grownBy w' (some g) := by
  by_cases hm : mayB s a e n = true
  · have HC := Lib.hid hc
    have hpk := fun d => peek_any g s a e n hs ha hn (w.drewN d) (hc.drewN d)
    have HPK := Lib.hid hpk
    have HMAY := Lib.hid (may_yes g s a e n hs ha hn w hc hm)
    have HA : Hid (atB s a e n = a + n.toNat) := if_pos hm
    have HE : Hid (errB s a e n = e) := if_pos hm
    have hd : 0 ≤ n ∧ n ≤ (s.size : Int) - a := by
      unfold mayB at hm
      exact (of_decide_eq_true hm).2
    obtain ⟨hn0, hn1⟩ := hd
    unfold maxLen at hs
    have c1 := hc.c1
    have f1 := hc.fr 1
    obtain ⟨m, rfl⟩ := Int.eq_ofNat_of_zero_le hn0
    rw [Int.toNat_natCast] at HA
    clear hc hm hn hpk
    go_enter Tryz.func104, Tryz.ntmps104
    go_wp2_with (first | (go_at_call 140; refine (HMAY.out).mono ?_; rintro r w' ⟨rfl, d, rfl⟩) | (go_at_call 141; refine (HPK.out _).mono ?_; rintro r w' ⟨rfl, d2, rfl⟩))
    go_ret
    refine ⟨rfl, ?_, grown_then (grown_drewN w (d + d2) _) (grown_set _ g 1 _)⟩
    rw [HA.out, HE.out]
    exact (HC.out.drewN (d + d2)).setAt (a + m)
  · have hm' : mayB s a e n = false := by simpa using hm
    have HC := Lib.hid hc
    have HMAY := Lib.hid (may_no g s a e n hs ha hn w hc hm')
    have HP : Hid (piece s a e n = ⟨#[]⟩) := if_neg hm
    have HA : Hid (atB s a e n = a) := if_neg hm
    have HE : Hid (errB s a e n = 3) := if_neg hm
    have c2 := hc.c2
    have f2 := hc.fr 2
    clear hc hm hm' hn
    go_enter Tryz.func104, Tryz.ntmps104
    go_wp2_with (go_at_call 140; refine (HMAY.out).mono ?_; rintro r w' ⟨rfl, d, rfl⟩)
    go_ret
    refine ⟨by rw [HP.out]; rfl, ?_, grown_then (grown_drewN w d _) (grown_set _ g 2 _)⟩
    rw [HA.out, HE.out]
    exact (HC.out.drewN d).setErr 3

theorem piece_size (s : ByteArray) (a e : Nat) (n : Int) : (piece s a e n).size ≤ n.toNat := by
  unfold piece
  split
  · rw [ByteArray.size_extract]
    omega
  · exact Nat.zero_le _

/-- The number that the next bytes are. -/
def numB (s : ByteArray) (a e : Nat) (k : Nat) : Nat := numL (nums (piece s a e k))
theorem numB_lt (s : ByteArray) (a e k : Nat) : numB s a e k < 256 ^ k := by
  have h := numL_lt _ (nums_lt (piece s a e k))
  rw [nums_len] at h
  have h2 := piece_size s a e k
  exact Nat.lt_of_lt_of_le h (Nat.pow_le_pow_right (n := 256) (by omega) (by omega))

theorem number_of (g : Nat) (s : ByteArray) (a e k : Nat) (hs : s.size ≤ maxLen) (ha : a ≤ s.size) (hk : k ≤ 8) (w : World) (hc : Cur w g s a e) :
    Calls Tryz.prog 139 #[.pointer (some ⟨g, 0, none⟩), .int .i64 k] w fun r w' => r = .returned (.int .u64 (numB s a e k : Nat)) ∧ Cur w' g s (atB s a e k) (errB s a e k) ∧ w.grownBy w' (some g) := by
  have HT := Lib.hid (take_any g s a e k hs ha (WalkArith.wf_i64 (by omega)) w hc)
  have h8 : (piece s a e k).size ≤ 8 := by
    have := piece_size s a e k
    omega
  have HN := Lib.hid (fun w => number_any (piece s a e k) h8 w)
  clear hc h8
  go_enter Tryz.func139, Tryz.ntmps139
  go_wp2_with (first | (go_at_call 104; refine (HT.out).mono ?_; rintro r w1 ⟨rfl, hc1, hg1⟩) | (go_at_call 115; refine (HN.out _).mono ?_; rintro r w2 ⟨rfl, rfl⟩))
  go_ret
  exact ⟨rfl, hc1, hg1⟩

theorem one_any (g : Nat) (s : ByteArray) (a e : Nat) (hs : s.size ≤ maxLen) (ha : a ≤ s.size) (w : World) (hc : Cur w g s a e) :
    Calls Tryz.prog 116 #[.pointer (some ⟨g, 0, none⟩)] w fun r w' => r = .returned (.int .u8 (numB s a e 1 : Nat)) ∧ Cur w' g s (atB s a e (1 : Nat)) (errB s a e (1 : Nat)) ∧ w.grownBy w' (some g) := by
  have HT := Lib.hid (number_of g s a e 1 hs ha (by omega) w hc)
  have hl := numB_lt s a e 1
  clear hc
  go_enter Tryz.func116, Tryz.ntmps116
  go_wp2_with (go_at_call 139; refine (HT.out).mono ?_; rintro r w1 ⟨rfl, hc1, hg1⟩)
  go_ret
  exact ⟨ret_eq (by omega), hc1, hg1⟩
theorem two_of (g : Nat) (s : ByteArray) (a e : Nat) (hs : s.size ≤ maxLen) (ha : a ≤ s.size) (w : World) (hc : Cur w g s a e) :
    Calls Tryz.prog 103 #[.pointer (some ⟨g, 0, none⟩)] w fun r w' => r = .returned (.int .u16 (numB s a e 2 : Nat)) ∧ Cur w' g s (atB s a e (2 : Nat)) (errB s a e (2 : Nat)) ∧ w.grownBy w' (some g) := by
  have HT := Lib.hid (number_of g s a e 2 hs ha (by omega) w hc)
  have hl := numB_lt s a e 2
  clear hc
  go_enter Tryz.func103, Tryz.ntmps103
  go_wp2_with (go_at_call 139; refine (HT.out).mono ?_; rintro r w1 ⟨rfl, hc1, hg1⟩)
  go_ret
  exact ⟨ret_eq (by omega), hc1, hg1⟩
theorem four_of (g : Nat) (s : ByteArray) (a e : Nat) (hs : s.size ≤ maxLen) (ha : a ≤ s.size) (w : World) (hc : Cur w g s a e) :
    Calls Tryz.prog 146 #[.pointer (some ⟨g, 0, none⟩)] w fun r w' => r = .returned (.int .u32 (numB s a e 4 : Nat)) ∧ Cur w' g s (atB s a e (4 : Nat)) (errB s a e (4 : Nat)) ∧ w.grownBy w' (some g) := by
  have HT := Lib.hid (number_of g s a e 4 hs ha (by omega) w hc)
  have hl := numB_lt s a e 4
  clear hc
  go_enter Tryz.func146, Tryz.ntmps146
  go_wp2_with (go_at_call 139; refine (HT.out).mono ?_; rintro r w1 ⟨rfl, hc1, hg1⟩)
  go_ret
  exact ⟨ret_eq (by omega), hc1, hg1⟩
theorem err_any (g : Nat) (s : ByteArray) (a e : Nat) (w : World) (hc : Cur w g s a e) :
    Calls Tryz.prog 105 #[.pointer (some ⟨g, 0, none⟩)] w fun r w' => r = .returned (.int .i64 (e : Nat)) ∧ w = w' := by
  have c2 := hc.c2
  clear hc
  go_enter Tryz.func105, Tryz.ntmps105
  go_wp2
  go_ret
  exact ⟨rfl, rfl⟩
theorem left_any (g : Nat) (s : ByteArray) (a e : Nat) (hs : s.size ≤ maxLen) (ha : a ≤ s.size) (w : World) (hc : Cur w g s a e) :
    Calls Tryz.prog 102 #[.pointer (some ⟨g, 0, none⟩)] w fun r w' => r = .returned (.int .i64 ((s.size : Int) - a)) ∧ ∃ d, w' = w.drewN d := by
  unfold maxLen at hs
  have c0 := hc.c0
  have c1 := hc.c1
  clear hc
  go_enter Tryz.func102, Tryz.ntmps102
  go_wp2
  go_quiet (fail)
  go_wp2
  go_ret
  exact ⟨rfl, _, rfl⟩

end Go.Proofs.YtjnoapbddifcpaaGreatDoor

namespace Go.Proofs.YtjnoapbddifcpaaGreatDoor
set_option maxRecDepth 100000
open Go.RowKit Go.Joins

end Go.Proofs.YtjnoapbddifcpaaGreatDoor

namespace Go.Proofs.YtjnoapbddifcpaaGreatDoor
set_option maxRecDepth 100000
open Go.RowKit Go.Joins

theorem Cur.alloc {w : World} {g : Nat} {s : ByteArray} {a e : Nat} (h : Cur w g s a e) (o : Obj) : Cur (w.alloc o) g s a e := (Below.heap_alloc w o g h.lt).trans h

end Go.Proofs.YtjnoapbddifcpaaGreatDoor
