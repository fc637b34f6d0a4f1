/-
  Rows of numbers as bytes (package tail).
  Contracts of package header: lengths. A region whose calls and new rows come in any order, told by states.
  Contracts: PrintDescriptor; the document's Print; rows compared; the widths.
  Contracts of package tail: printEnd.
  Package denote: Print of nothing; awake of layer 21.
-/
import Derived.Test.YtpkhpaklhfomkaaGreatDoorPkC
import Derived.Deep.RegionHeld3
import Derived.Test.YtpkhpaklhfomkaaGreatDoorTpA
import Derived.Lib.MinMax

namespace Go.Proofs.YtpkhpaklhfomkaaGreatDoor
set_option maxRecDepth 100000
set_option linter.unusedSimpArgs false
open Go.RowKit Go.Joins Go.Deep Go.Op
set_option maxHeartbeats 2000000 in
theorem row2_tail (A : Option Addr) (c : Nat) (l : List Nat) (hl : l.length ≤ 20) (hb : ∀ x ∈ l, x < 65536) (w : World) (hr : RdI w .u16 A l) :
    Calls Tryz.prog 119 #[.func (.func 120) #[] #[], .slice A l.length c] w fun e w' => e = .returned (.string (text (lesL 2 l))) ∧ Below w.heap.size w w' := by
  have HR := Lib.hid hr
  have HFR := Lib.hid (bd_freshE w)
  have HB0 := Lib.hid ((Below.refl w.heap.size w).alloc (Nat.le_refl _) (.cells #[.pointer none, .slice none 0 0] 76))
  have HS0 : Hid (w.heap.size + 1 ≤ (w.alloc (.cells #[.pointer none, .slice none 0 0] 76)).heap.size) := by show _ ≤ _; simp
  have HGET := Lib.hid (fun (k : Nat) (h : k < l.length) => List.getElem?_eq_getElem h)
  have HBD := Lib.hid (fun (k : Nat) (h : k < l.length) => hb _ (List.getElem_mem h))
  have HT := Lib.hid (fun (k x : Nat) (h : l[k]? = some x) => show lesL 2 (l.take (k + 1)) = lesL 2 (l.take k) ++ le x 2 by rw [take_snoc h]; simp [lesL])
  have HLL := Lib.hid (fun k => lesL_len 2 (l.take k))
  have HLT := Lib.hid (fun l => lesL_lt 2 l)
  have HALL : Hid (l.take l.length = l) := by show _ = _; rw [List.take_length]
  have HTL := Lib.hid (fun k => show (l.take k).length ≤ l.length by rw [List.length_take]; omega)
  clear hr hb
  go_enter Tryz.func119, Tryz.ntmps119
  go_wp2_with fail
  generalize w.alloc (.cells #[.pointer none, .slice none 0 0] 76) = w0 at *
  go_loopw [10] (fun i wr => ∃ k : Nat, k ≤ l.length ∧ i = .int .i64 (k : Nat) ∧ Bd wr w.heap.size w.heap.size (lesL 2 (l.take k)) ∧ Below w.heap.size w wr) (fun i _ => l.length - (intOf i).toNat)
  case atStart => exact ⟨0, Nat.zero_le _, rfl, HFR.out, HB0.out⟩
  case round =>
    clear HFR HB0 HS0
    obtain ⟨k, hk, rfl, hbd, hbel⟩ := hrel
    have hlen := HLL.out k
    have htl := HTL.out k
    have HD := Lib.hid hbd
    have HB := Lib.hid hbel
    clear hbd hbel
    generalize hM : lesL 2 (l.take k) = M at *
    have HM := Lib.hid hM
    clear hM
    by_cases hlt : k < l.length
    · have hx := HGET.out k hlt
      have hxb := HBD.out k hlt
      have hst := HT.out k _ hx
      obtain ⟨g, rfl⟩ := HR.out.slice (by omega)
      have hc := (HR.out.below HB.out).at hx
      generalize l[k] = x at *
      rw [HM.out] at hst
      have HST := Lib.hid hst
      clear hx hst
      go_wp2_with fail
      refine (two_any x hxb _).mono ?_; rintro e w1 ⟨rfl, hb1⟩
      have HD1 := Lib.hid (HD.out.below hb1)
      have HB1 := Lib.hid (below_then HB.out hb1)
      have hz : (text (le x 2)).size ≤ 1000000 := by rw [text_size, le_len]; omega
      have hn : nums (text (le x 2)) = le x 2 := nums_text _ (le_lt _ _)
      have HWS := Lib.hid (writeString_any w.heap.size w.heap.size (text (le x 2)) M w1 hz (by omega) HB1.out.size HD1.out)
      rw [hn] at HWS
      clear hb1 hz hn
      go_wp2_with fail
      refine (HWS.out).mono ?_; rintro e w2 ⟨rfl, hd2, hb2, _⟩
      have HD2 := Lib.hid hd2
      have HB2 := Lib.hid (HB1.out.trans hb2)
      clear hd2 hb2
      go_wp2_with fail
      go_roundw
      case rel => exact ⟨k + 1, by omega, by go_num, by rw [HST.out]; exact HD2.out, HB2.out⟩
      case measure => simp [intOf]; omega
    · obtain rfl : k = l.length := by omega
      have hM := HM.out
      rw [HALL.out] at hM
      subst hM
      have HSG := Lib.hid (bdString_any _ _ _ _ (HLT.out l) HB.out.size HD.out)
      clear hlen htl
      go_wp2_with fail
      refine (HSG.out).mono ?_; rintro e w2 ⟨rfl, hb2⟩
      have HB2 := Lib.hid (HB.out.trans hb2)
      clear hb2
      go_wp2_with fail
      go_ret
      exact ⟨rfl, HB2.out⟩
set_option maxHeartbeats 2000000 in
theorem row4_tail (A : Option Addr) (c : Nat) (l : List Nat) (hl : l.length ≤ 20) (hb : ∀ x ∈ l, x < 4294967296) (w : World) (hr : RdI w .u32 A l) :
    Calls Tryz.prog 121 #[.func (.func 122) #[] #[], .slice A l.length c] w fun e w' => e = .returned (.string (text (lesL 4 l))) ∧ Below w.heap.size w w' := by
  have HR := Lib.hid hr
  have HFR := Lib.hid (bd_freshE w)
  have HB0 := Lib.hid ((Below.refl w.heap.size w).alloc (Nat.le_refl _) (.cells #[.pointer none, .slice none 0 0] 76))
  have HS0 : Hid (w.heap.size + 1 ≤ (w.alloc (.cells #[.pointer none, .slice none 0 0] 76)).heap.size) := by show _ ≤ _; simp
  have HGET := Lib.hid (fun (k : Nat) (h : k < l.length) => List.getElem?_eq_getElem h)
  have HBD := Lib.hid (fun (k : Nat) (h : k < l.length) => hb _ (List.getElem_mem h))
  have HT := Lib.hid (fun (k x : Nat) (h : l[k]? = some x) => show lesL 4 (l.take (k + 1)) = lesL 4 (l.take k) ++ le x 4 by rw [take_snoc h]; simp [lesL])
  have HLL := Lib.hid (fun k => lesL_len 4 (l.take k))
  have HLT := Lib.hid (fun l => lesL_lt 4 l)
  have HALL : Hid (l.take l.length = l) := by show _ = _; rw [List.take_length]
  have HTL := Lib.hid (fun k => show (l.take k).length ≤ l.length by rw [List.length_take]; omega)
  clear hr hb
  go_enter Tryz.func121, Tryz.ntmps121
  go_wp2_with fail
  generalize w.alloc (.cells #[.pointer none, .slice none 0 0] 76) = w0 at *
  go_loopw [10] (fun i wr => ∃ k : Nat, k ≤ l.length ∧ i = .int .i64 (k : Nat) ∧ Bd wr w.heap.size w.heap.size (lesL 4 (l.take k)) ∧ Below w.heap.size w wr) (fun i _ => l.length - (intOf i).toNat)
  case atStart => exact ⟨0, Nat.zero_le _, rfl, HFR.out, HB0.out⟩
  case round =>
    clear HFR HB0 HS0
    obtain ⟨k, hk, rfl, hbd, hbel⟩ := hrel
    have hlen := HLL.out k
    have htl := HTL.out k
    have HD := Lib.hid hbd
    have HB := Lib.hid hbel
    clear hbd hbel
    generalize hM : lesL 4 (l.take k) = M at *
    have HM := Lib.hid hM
    clear hM
    by_cases hlt : k < l.length
    · have hx := HGET.out k hlt
      have hxb := HBD.out k hlt
      have hst := HT.out k _ hx
      obtain ⟨g, rfl⟩ := HR.out.slice (by omega)
      have hc := (HR.out.below HB.out).at hx
      generalize l[k] = x at *
      rw [HM.out] at hst
      have HST := Lib.hid hst
      clear hx hst
      go_wp2_with fail
      refine (four_any x hxb _).mono ?_; rintro e w1 ⟨rfl, hb1⟩
      have HD1 := Lib.hid (HD.out.below hb1)
      have HB1 := Lib.hid (below_then HB.out hb1)
      have hz : (text (le x 4)).size ≤ 1000000 := by rw [text_size, le_len]; omega
      have hn : nums (text (le x 4)) = le x 4 := nums_text _ (le_lt _ _)
      have HWS := Lib.hid (writeString_any w.heap.size w.heap.size (text (le x 4)) M w1 hz (by omega) HB1.out.size HD1.out)
      rw [hn] at HWS
      clear hb1 hz hn
      go_wp2_with fail
      refine (HWS.out).mono ?_; rintro e w2 ⟨rfl, hd2, hb2, _⟩
      have HD2 := Lib.hid hd2
      have HB2 := Lib.hid (HB1.out.trans hb2)
      clear hd2 hb2
      go_wp2_with fail
      go_roundw
      case rel => exact ⟨k + 1, by omega, by go_num, by rw [HST.out]; exact HD2.out, HB2.out⟩
      case measure => simp [intOf]; omega
    · obtain rfl : k = l.length := by omega
      have hM := HM.out
      rw [HALL.out] at hM
      subst hM
      have HSG := Lib.hid (bdString_any _ _ _ _ (HLT.out l) HB.out.size HD.out)
      clear hlen htl
      go_wp2_with fail
      refine (HSG.out).mono ?_; rintro e w2 ⟨rfl, hb2⟩
      have HB2 := Lib.hid (HB.out.trans hb2)
      clear hb2
      go_wp2_with fail
      go_ret
      exact ⟨rfl, HB2.out⟩
set_option maxHeartbeats 2000000 in
theorem row8_tail (A : Option Addr) (c : Nat) (l : List Nat) (hl : l.length ≤ 20) (hb : ∀ x ∈ l, x < 18446744073709551616) (w : World) (hr : RdI w .u64 A l) :
    Calls Tryz.prog 123 #[.func (.func 118) #[] #[], .slice A l.length c] w fun e w' => e = .returned (.string (text (lesL 8 l))) ∧ Below w.heap.size w w' := by
  have HR := Lib.hid hr
  have HFR := Lib.hid (bd_freshE w)
  have HB0 := Lib.hid ((Below.refl w.heap.size w).alloc (Nat.le_refl _) (.cells #[.pointer none, .slice none 0 0] 76))
  have HS0 : Hid (w.heap.size + 1 ≤ (w.alloc (.cells #[.pointer none, .slice none 0 0] 76)).heap.size) := by show _ ≤ _; simp
  have HGET := Lib.hid (fun (k : Nat) (h : k < l.length) => List.getElem?_eq_getElem h)
  have HBD := Lib.hid (fun (k : Nat) (h : k < l.length) => hb _ (List.getElem_mem h))
  have HT := Lib.hid (fun (k x : Nat) (h : l[k]? = some x) => show lesL 8 (l.take (k + 1)) = lesL 8 (l.take k) ++ le x 8 by rw [take_snoc h]; simp [lesL])
  have HLL := Lib.hid (fun k => lesL_len 8 (l.take k))
  have HLT := Lib.hid (fun l => lesL_lt 8 l)
  have HALL : Hid (l.take l.length = l) := by show _ = _; rw [List.take_length]
  have HTL := Lib.hid (fun k => show (l.take k).length ≤ l.length by rw [List.length_take]; omega)
  clear hr hb
  go_enter Tryz.func123, Tryz.ntmps123
  go_wp2_with fail
  generalize w.alloc (.cells #[.pointer none, .slice none 0 0] 76) = w0 at *
  go_loopw [10] (fun i wr => ∃ k : Nat, k ≤ l.length ∧ i = .int .i64 (k : Nat) ∧ Bd wr w.heap.size w.heap.size (lesL 8 (l.take k)) ∧ Below w.heap.size w wr) (fun i _ => l.length - (intOf i).toNat)
  case atStart => exact ⟨0, Nat.zero_le _, rfl, HFR.out, HB0.out⟩
  case round =>
    clear HFR HB0 HS0
    obtain ⟨k, hk, rfl, hbd, hbel⟩ := hrel
    have hlen := HLL.out k
    have htl := HTL.out k
    have HD := Lib.hid hbd
    have HB := Lib.hid hbel
    clear hbd hbel
    generalize hM : lesL 8 (l.take k) = M at *
    have HM := Lib.hid hM
    clear hM
    by_cases hlt : k < l.length
    · have hx := HGET.out k hlt
      have hxb := HBD.out k hlt
      have hst := HT.out k _ hx
      obtain ⟨g, rfl⟩ := HR.out.slice (by omega)
      have hc := (HR.out.below HB.out).at hx
      generalize l[k] = x at *
      rw [HM.out] at hst
      have HST := Lib.hid hst
      clear hx hst
      go_wp2_with fail
      refine (eight_any x hxb _).mono ?_; rintro e w1 ⟨rfl, hb1⟩
      have HD1 := Lib.hid (HD.out.below hb1)
      have HB1 := Lib.hid (below_then HB.out hb1)
      have hz : (text (le x 8)).size ≤ 1000000 := by rw [text_size, le_len]; omega
      have hn : nums (text (le x 8)) = le x 8 := nums_text _ (le_lt _ _)
      have HWS := Lib.hid (writeString_any w.heap.size w.heap.size (text (le x 8)) M w1 hz (by omega) HB1.out.size HD1.out)
      rw [hn] at HWS
      clear hb1 hz hn
      go_wp2_with fail
      refine (HWS.out).mono ?_; rintro e w2 ⟨rfl, hd2, hb2, _⟩
      have HD2 := Lib.hid hd2
      have HB2 := Lib.hid (HB1.out.trans hb2)
      clear hd2 hb2
      go_wp2_with fail
      go_roundw
      case rel => exact ⟨k + 1, by omega, by go_num, by rw [HST.out]; exact HD2.out, HB2.out⟩
      case measure => simp [intOf]; omega
    · obtain rfl : k = l.length := by omega
      have hM := HM.out
      rw [HALL.out] at hM
      subst hM
      have HSG := Lib.hid (bdString_any _ _ _ _ (HLT.out l) HB.out.size HD.out)
      clear hlen htl
      go_wp2_with fail
      refine (HSG.out).mono ?_; rintro e w2 ⟨rfl, hb2⟩
      have HB2 := Lib.hid (HB.out.trans hb2)
      clear hb2
      go_wp2_with fail
      go_ret
      exact ⟨rfl, HB2.out⟩
end Go.Proofs.YtpkhpaklhfomkaaGreatDoor

namespace Go.Proofs.YtpkhpaklhfomkaaGreatDoor
set_option maxRecDepth 100000
set_option linter.unusedSimpArgs false
open Go.RowKit Go.Joins Go.Deep Go.Op

/-- A region of which only so many states come up: each is left for one of a lesser rank. -/
theorem dag_ind {P : Program} {md : Region.Mode} {ops : Array Oper} {Q : Exit → Act → World → Prop} {S : World → Prop} {St : Type} (rank fuel : St → Nat) (lst : St → Array Bool) (act : St → Act) (Ok : St → World → Prop)
    (step : ∀ σ w, Ok σ w → (∀ σ' w', rank σ' < rank σ → Ok σ' w' → wpAnyH P md ops Q S (fuel σ') (lst σ') (act σ') w') → wpAnyH P md ops Q S (fuel σ) (lst σ) (act σ) w) :
    ∀ σ w, Ok σ w → wpAnyH P md ops Q S (fuel σ) (lst σ) (act σ) w := by
  have key : ∀ n σ w, rank σ < n → Ok σ w → wpAnyH P md ops Q S (fuel σ) (lst σ) (act σ) w := by
    intro n
    induction n with
    | zero => intro σ w h; omega
    | succ n ih => exact fun σ w h hok => step σ w hok (fun σ' w' hr hok' => ih σ' w' (by omega) hok')
  exact fun σ w hok => key _ σ w (Nat.lt_succ_self _) hok
/-- A state: its number, the blocks of the rows that were made. -/
structure Stt where
  k : Nat
  g1 : Nat
  g2 : Nat
  g3 : Nat
  g4 : Nat

theorem RdS.at {w : World} {g : Nat} {l : List ByteArray} (h : RdS w (some ⟨g, 0, none⟩) l) {i : Nat} {x : ByteArray} (hx : l[i]? = some x) : w.cell? ⟨g, i, none⟩ = some (.string x) := by
  obtain ⟨g', e, _, hc⟩ := h (List.length_pos_of_mem (List.mem_of_getElem? hx))
  injection e with e
  injection e with e
  subst e
  exact hc i x hx
theorem RdS.slice {w : World} {A : Option Addr} {l : List ByteArray} (h : RdS w A l) (h0 : 0 < l.length) : ∃ g, A = some ⟨g, 0, none⟩ := by
  obtain ⟨g, e, _⟩ := h h0
  exact ⟨g, e⟩
theorem RdS.of_heap {w : World} {e : TypeId} {g : Nat} {l : List ByteArray} {cs : Array Value} (h : w.heap[g]? = some (.cells cs e (0, 0))) (hc : cs.toList = strV l) : RdS w (some ⟨g, 0, none⟩) l := fun _ => by
  refine ⟨g, rfl, lt_of_some h, fun i x hx => ?_⟩
  rw [Lib.cell_of_heap h, ← Array.getElem?_toList, hc]
  unfold strV
  rw [List.getElem?_map, hx]
  rfl
theorem take_snoc' {α : Type} {l : List α} {k : Nat} {x : α} (h : l[k]? = some x) : l.take (k + 1) = l.take k ++ [x] := by
  rw [List.take_add_one, h]
  rfl
/-- Are none too long? -/
def fitsT (ss : List ByteArray) : Bool := ss.all fun s => decide (s.size ≤ 65535)
def lenV (ss : List ByteArray) : Value := if fitsT ss = true then .tuple #[.string (text (lesL 2 (ss.map (·.size)))), .bool true] else .tuple #[.string ⟨#[]⟩, .bool false]
theorem info16 : (Tryz.prog.info? 118).map (fun i => (i.zero, i.size, i.bytes)) = some (some (.int .u16 0), 1, 2) := by kernel_rfl
set_option maxHeartbeats 4000000 in
theorem lengths_any (A : Option Addr) (c : Nat) (ss : List ByteArray) (hl : ss.length ≤ 20) (hz : ∀ s ∈ ss, s.size ≤ 1000000) (w : World) (hr : RdS w A ss) :
    Calls Tryz.prog 160 #[.slice A ss.length c] w fun e w' => e = .returned (lenV ss) ∧ Below w.heap.size w w' := by
  obtain ⟨i0, hi, hz0, hz1, hz2⟩ := info_parts info16
  have HR := Lib.hid hr
  have HGET := Lib.hid (fun (k : Nat) (h : k < ss.length) => List.getElem?_eq_getElem h)
  have HZ := Lib.hid (fun (k : Nat) (h : k < ss.length) => hz _ (List.getElem_mem h))
  have HMEM := Lib.hid (fun (k : Nat) (h : k < ss.length) => List.getElem_mem h)
  have HTK := Lib.hid (fun (k : Nat) (x : ByteArray) (h : ss[k]? = some x) => show (ss.take (k + 1)).map (·.size) = (ss.take k).map (·.size) ++ [x.size] by rw [take_snoc' h]; simp)
  have HTF := Lib.hid (fun (k : Nat) (x : ByteArray) (h : ss[k]? = some x) => show fitsT (ss.take (k + 1)) = (fitsT (ss.take k) && decide (x.size ≤ 65535)) by rw [take_snoc' h]; unfold fitsT; simp)
  have HTL := Lib.hid (fun k => show ((ss.take k).map (·.size)).length = min k ss.length by rw [List.length_map, List.length_take])
  have HALL : Hid (ss.take ss.length = ss) := by show _ = _; rw [List.take_length]
  have HMT := Lib.hid (fun (k : Nat) (h : fitsT ss = true) => show ∀ s ∈ (ss.take k), s.size ≤ 65535 from fun s hs => of_decide_eq_true (List.all_eq_true.1 h s (List.mem_of_mem_take hs)))
  clear hr hz
  go_enter Tryz.func160, Tryz.ntmps160
  go_wp2
  go_loopw [4, 9] (fun v i wr => ∃ k : Nat, k ≤ ss.length ∧ i = .int .i64 (k : Nat) ∧ fitsT (ss.take k) = true ∧ wr.ownsRow w.heap.size 118 1 v k (cellsK .u16 ((ss.take k).map (·.size))) ∧ Below w.heap.size w wr) (fun _ i _ => ss.length - (intOf i).toNat)
  case atStart => exact ⟨0, Nat.zero_le _, rfl, rfl, World.ownsRow_nil _ _ _ _, Below.refl _ _⟩
  case round =>
    obtain ⟨k, hk, rfl, htf, hown, hbel⟩ := hrel
    have HO := Lib.hid hown
    have HB := Lib.hid hbel
    clear hown hbel
    by_cases hlt : k < ss.length
    · have hx := HGET.out k hlt
      have hsz := HZ.out k hlt
      have hmem := HMEM.out k hlt
      have htk := HTK.out k _ hx
      have htf2 := HTF.out k _ hx
      obtain ⟨g, rfl⟩ := HR.out.slice (by omega)
      have hc := (HR.out.below HB.out).at hx
      generalize ss[k] = x at *
      have HTK1 := Lib.hid htk
      have HTF0 := Lib.hid htf
      have HMM := Lib.hid hmem
      by_cases hbig : 65535 < x.size
      · have hbd : decide ((65535 : Int) < (x.size : Int)) = true := decide_eq_true (by omega)
        have HA : Hid (lenV ss = .tuple #[.string ⟨#[]⟩, .bool false]) := if_neg (fun h => by
          have := of_decide_eq_true (List.all_eq_true.1 h x hmem)
          omega)
        clear hx htk htf2 htf hmem
        go_wp2_with fail
        go_ret2
        rw [HA.out]
        exact ⟨rfl, HB.out⟩
      · have hbd : decide ((65535 : Int) < (x.size : Int)) = false := decide_eq_false (by omega)
        have HTF1 : Hid (fitsT (ss.take (k + 1)) = true) := by show _ = _; rw [htf2, htf, decide_eq_true (by omega)]; rfl
        have hw : IntKind.u16.wrap (x.size : Int) = x.size := by rw [IntKind.wrap_u16]; omega
        clear hx htk htf2 htf hmem
        go_wp2_with (at_builtin; refine wpList_append_own _ rfl (.tmp 16) (.tmp 20) _ rfl w.heap.size 118 i0 (.int .u16 0) 1 2 Tryz.underlying220 hi hz0 hz1 hz2 rfl (by decide) _ k (cellsK .u16 ((ss.take k).map (·.size))) rfl (HO.out.alloc _) ⟨wr.heap.size, 0, none⟩ 1 1 [.int .u16 (x.size : Nat)] rfl rfl ?c1 ?c2 ?c3 ?c4 ?c5 ?_)
        case c1 => exact cell_one_new _ _ _
        case c2 => intro u hu; simp at hu; subst hu; rfl
        case c3 => unfold maxLen; omega
        case c4 => omega
        case c5 => have := HB.out.size; simp; omega
        intro v' w2 hown' hgrow _
        have HO1 := Lib.hid hown'
        have HG1 := Lib.hid hgrow
        clear hown' hgrow
        go_wp2_with fail
        go_roundw
        case rel =>
          refine ⟨k + 1, by omega, by go_num, HTF1.out, ?_, ?_⟩
          · rw [HTK1.out, cellsK_app, List.map_take]
            exact HO1.out
          · exact (HB.out.alloc HB.out.size _).grown HG1.out (by have := HB.out.size; simp; omega) (fun k hk => (HO.out.lt k hk).1)
        case measure => simp [intOf]; omega
    · obtain rfl : k = ss.length := by omega
      have ho := HO.out
      rw [HALL.out] at ho htf
      have HA : Hid (lenV ss = .tuple #[.string (text (lesL 2 (ss.map (·.size)))), .bool true]) := if_pos htf
      have hlen : (ss.map (·.size)).length = ss.length := List.length_map _
      have hb16 : ∀ x ∈ ss.map (·.size), x < 65536 := by
        intro x hx
        obtain ⟨s, hs, rfl⟩ := List.mem_map.1 hx
        have := of_decide_eq_true (List.all_eq_true.1 htf s hs)
        omega
      obtain ⟨A3, c3, rfl⟩ := row_slice ho
      generalize ss.map (·.size) = L at *
      have hrd : RdI wr .u16 A3 L := by
        rw [← hlen] at ho
        exact RdI.of_own ho
      have HROW := Lib.hid (row2_any A3 c3 L (by omega) hb16 wr hrd)
      rw [hlen] at HROW
      clear htf ho hrd hb16 hlen
      go_wp2_with fail
      refine (HROW.out).mono ?_; rintro e w2 ⟨rfl, hb2⟩
      have HB2 := Lib.hid (HB.out.trans (hb2.mono HB.out.size))
      clear hb2
      go_wp2_with fail
      go_ret2
      rw [HA.out]
      exact ⟨rfl, HB2.out⟩
end Go.Proofs.YtpkhpaklhfomkaaGreatDoor

namespace Go.Proofs.YtpkhpaklhfomkaaGreatDoor
set_option maxRecDepth 100000
set_option linter.unusedSimpArgs false
set_option linter.unusedVariables false
open Go.RowKit Go.Joins Go.Deep Go.Op

/-! ### the document's Print -/
/-- Numbers in such widths. -/
def prN : List Nat → List Nat → List Nat
  | x :: l, k :: ws => le x k ++ prN l ws
  | _, _ => []
theorem prN_snoc (x k : Nat) : ∀ (l ws : List Nat), l.length = ws.length → prN (l ++ [x]) (ws ++ [k]) = prN l ws ++ le x k
  | [], [], _ => by simp [prN]
  | y :: l, j :: ws, h => by
    simp only [List.cons_append, prN, prN_snoc x k l ws (by simpa using h), List.append_assoc]
  | [], _ :: _, h => by simp at h
  | _ :: _, [], h => by simp at h
theorem prN_lt : ∀ (l ws : List Nat), ∀ x ∈ prN l ws, x < 256
  | [], [], x, h => by simp [prN] at h
  | y :: l, j :: ws, x, h => by
    simp only [prN, List.mem_append] at h
    rcases h with h | h
    · exact le_lt _ _ x h
    · exact prN_lt l ws x h
  | [], _ :: _, x, h => by simp [prN] at h
  | _ :: _, [], x, h => by simp [prN] at h
theorem prN_len : ∀ (l ws : List Nat), l.length = ws.length → (prN l ws).length = ws.sum
  | [], [], _ => rfl
  | y :: l, j :: ws, h => by
    simp only [prN, List.length_append, le_len, prN_len l ws (by simpa using h), List.sum_cons]
  | [], _ :: _, h => by simp at h
  | _ :: _, [], h => by simp at h
theorem text_app (a b : List Nat) : text a ++ text b = text (a ++ b) := by
  unfold text
  apply ByteArray.ext
  simp [ByteArray.data_append]
/-! ### rows compared -/
def wsLocals : List Nat := [4, 2, 2, 2, 4, 4, 4, 4, 2, 2]
def wsCentrals : List Nat := [4, 2, 2, 2, 2, 4, 4, 4, 4, 2, 2, 2, 2, 2, 4, 4]
def rowLocal (x0 x1 x2 x3 x4 x5 x6 : Nat) (s7 s8 : ByteArray) : List Nat := [67324752, x0, x1, x2, x3, x4, x5, x6, s7.size, s8.size]
def rowCentral (x0 x1 x2 x3 x4 x5 x6 x7 x8 x9 x10 x11 : Nat) (s12 s13 s14 : ByteArray) : List Nat := [33639248, x0, x1, x2, x3, x4, x5, x6, x7, s12.size, s13.size, s14.size, x8, x9, x10, x11]
def rowDescriptor (x0 x1 x2 : Nat) : List Nat := [134695760, x0, x1, x2]
end Go.Proofs.YtpkhpaklhfomkaaGreatDoor

namespace Go.Proofs.YtpkhpaklhfomkaaGreatDoor
set_option maxRecDepth 100000
set_option linter.unusedSimpArgs false
set_option linter.unusedVariables false
open Go.RowKit Go.Joins Go.Deep Go.Op
def wsE : List Nat := [4, 2, 2, 2, 2, 4, 4, 2]
def wsW : List Nat := [4, 8, 2, 2, 4, 4, 8, 8, 8, 8]
def wsLo : List Nat := [4, 4, 8, 4]
/-- An end record's bytes. -/
def endT (n z o : Nat) (c : ByteArray) : ByteArray := text (prN [101010256, 0, 0, n, n, z, o, c.size] wsE) ++ c
/-- A wide record's bytes, and its locator's. -/
def wideT (n z o : Nat) : ByteArray := text (prN [101075792, 44, 45, 45, 0, 0, n, n, z, o] wsW) ++ text (prN [117853008, 0, (o + z) % 18446744073709551616, 1] wsLo)
theorem end_eq (n z o : Nat) (c : ByteArray) : (⟨#[80, 75, 5, 6]⟩ : ByteArray) ++ text (lesL 2 [0, 0, n, n]) ++ text (lesL 4 [z, o]) ++ text (le c.size 2) ++ c = endT n z o c := by
  unfold endT
  rw [show (⟨#[80, 75, 5, 6]⟩ : ByteArray) = text (le 101010256 4) by rfl, text_app, text_app, text_app]
  congr 2
theorem wide_eq (n z o : Nat) : (⟨#[80, 75, 6, 6]⟩ : ByteArray) ++ text (le 44 8) ++ text (lesL 2 [45, 45]) ++ text (lesL 4 [0, 0]) ++ text (lesL 8 [n, n, z, o]) ++ (⟨#[80, 75, 6, 7]⟩ : ByteArray) ++ text (le 0 4) ++ text (le ((o + z) % 18446744073709551616) 8) ++ text (le 1 4) = wideT n z o := by
  unfold wideT
  rw [show (⟨#[80, 75, 6, 6]⟩ : ByteArray) = text (le 101075792 4) by rfl, show (⟨#[80, 75, 6, 7]⟩ : ByteArray) = text (le 117853008 4) by rfl]
  simp only [text_app]
  congr 1
theorem two4 (g a b c d : Nat) (ha : a < 65536) (hb : b < 65536) (hc : c < 65536) (hd : d < 65536) (w : World) (hr : RdI w .u16 (some ⟨g, 0, none⟩) [a, b, c, d]) :
    Calls Tryz.prog 119 #[.func (.func 120) #[] #[], .slice (some ⟨g, 0, none⟩) 4 4] w fun e w' => e = .returned (.string (text (lesL 2 [a, b, c, d]))) ∧ Below w.heap.size w w' :=
  row2_tail _ 4 [a, b, c, d] (by simp) (by intro x hx; simp at hx; rcases hx with rfl | rfl | rfl | rfl <;> assumption) w hr
theorem four2t (g a b : Nat) (ha : a < 4294967296) (hb : b < 4294967296) (w : World) (hr : RdI w .u32 (some ⟨g, 0, none⟩) [a, b]) :
    Calls Tryz.prog 121 #[.func (.func 122) #[] #[], .slice (some ⟨g, 0, none⟩) 2 2] w fun e w' => e = .returned (.string (text (lesL 4 [a, b]))) ∧ Below w.heap.size w w' :=
  row4_tail _ 2 [a, b] (by simp) (by intro x hx; simp at hx; rcases hx with rfl | rfl <;> assumption) w hr
set_option maxHeartbeats 4000000 in
theorem printEnd_any (n z o : Nat) (hn : n < 65536) (hz : z < 4294967296) (ho : o < 4294967296) (c : ByteArray) (hc : c.size ≤ 65535) (w : World) :
    Calls Tryz.prog 81 #[.int .u16 (n : Nat), .int .u32 (z : Nat), .int .u32 (o : Nat), .string c] w fun e w' => e = .returned (.string (endT n z o c)) ∧ Below w.heap.size w w' := by
  have HR0 : Hid (RdI (w.alloc (.cells #[.int .u16 0, .int .u16 0, .int .u16 (n : Nat), .int .u16 (n : Nat)] 118)) .u16 (some ⟨w.heap.size, 0, none⟩) [0, 0, n, n]) := RdI.of_heap (heap_alloc_new _ _) rfl
  have HB0 : Hid (Below w.heap.size w (w.alloc (.cells #[.int .u16 0, .int .u16 0, .int .u16 (n : Nat), .int .u16 (n : Nat)] 118))) := (Below.refl _ _).alloc (Nat.le_refl _) _
  have HC1 := Lib.hid (two4 w.heap.size 0 0 n n (by omega) (by omega) hn hn _ HR0.out)
  have HC2 := Lib.hid (fun g w hr => four2t g z o hz ho w hr)
  have hcw : IntKind.u16.wrap (c.size : Int) = c.size := by rw [IntKind.wrap_u16]; omega
  have HC3 := Lib.hid (fun w => two_any c.size (by omega) w)
  have HE := Lib.hid (end_eq n z o c)
  have z1 : (text (lesL 2 [0, 0, n, n])).size ≤ 1000 := by rw [text_size, lesL_len]; simp
  have z2 : (text (lesL 4 [z, o])).size ≤ 1000 := by rw [text_size, lesL_len]; simp
  have z3 : (text (le c.size 2)).size ≤ 1000 := by rw [text_size, le_len]; omega
  generalize text (lesL 2 [0, 0, n, n]) = U1 at *
  generalize text (lesL 4 [z, o]) = U2 at *
  generalize text (le c.size 2) = U3 at *
  clear HR0
  go_enter Tryz.func81, Tryz.ntmps81
  go_wp2_with fail
  generalize w.alloc (.cells #[.int .u16 0, .int .u16 0, .int .u16 (n : Nat), .int .u16 (n : Nat)] 118) = w0 at *
  refine (HC1.out).mono ?_; rintro e w1 ⟨rfl, hb1⟩
  have HR1 : Hid (RdI (w1.alloc (.cells #[.int .u32 (z : Nat), .int .u32 (o : Nat)] 29)) .u32 (some ⟨w1.heap.size, 0, none⟩) [z, o]) := RdI.of_heap (heap_alloc_new _ _) rfl
  have HB1 := Lib.hid ((HB0.out.trans (hb1.mono HB0.out.size)).alloc (Nat.le_trans HB0.out.size hb1.size) (.cells #[.int .u32 (z : Nat), .int .u32 (o : Nat)] 29))
  clear hb1 HB0 HC1
  go_wp2_with fail
  refine (HC2.out _ _ HR1.out).mono ?_; rintro e w2 ⟨rfl, hb2⟩
  have HB2 := Lib.hid (HB1.out.trans (hb2.mono HB1.out.size))
  clear hb2 HB1 HR1 HC2
  go_wp2_with fail
  refine (HC3.out _).mono ?_; rintro e w3 ⟨rfl, hb3⟩
  have HB3 := Lib.hid (HB2.out.trans (hb3.mono HB2.out.size))
  clear hb3 HB2 HC3
  go_wp2_with fail
  go_ret
  rw [← HE.out]
  exact ⟨rfl, HB3.out⟩
end Go.Proofs.YtpkhpaklhfomkaaGreatDoor

namespace Go.Proofs.YtpkhpaklhfomkaaGreatDoor
set_option maxRecDepth 100000
set_option linter.unusedSimpArgs false
set_option linter.unusedVariables false
open Go.RowKit Go.Joins Go.Deep Go.Op
theorem endT_size0 : (endT 0 0 0 ⟨#[]⟩).size = 22 := by
  unfold endT
  rw [ByteArray.size_append, text_size, prN_len [101010256, 0, 0, 0, 0, 0, 0, (⟨#[]⟩ : ByteArray).size] wsE rfl]
  rfl
set_option maxHeartbeats 8000000 in
theorem printT0_any (w : World) :
    Calls Tryz.prog 44 #[.agg #[.int .i64 0, .int .u64 0, .int .u64 0, .int .u64 0, .string ⟨#[]⟩, .bool false]] w fun e w' => e = .returned (.tuple #[.string (endT 0 0 0 ⟨#[]⟩), .int .i64 0]) ∧ Below w.heap.size w w' := by
  have HH := heap_alloc_new w (.cells #[.int .i64 0, .int .u64 0, .int .u64 0, .int .u64 0, .string ⟨#[]⟩, .bool false] 87)
  have HB := Lib.hid (below_al w (.cells #[.int .i64 0, .int .u64 0, .int .u64 0, .int .u64 0, .string ⟨#[]⟩, .bool false] 87))
  obtain ⟨wx, hwx⟩ : ∃ x, x = w.alloc (.cells #[.int .i64 0, .int .u64 0, .int .u64 0, .int .u64 0, .string ⟨#[]⟩, .bool false] 87) := ⟨_, rfl⟩
  rw [← hwx] at HH HB
  have k1 : wx.cell? ⟨w.heap.size, 1, none⟩ = some (.int .u64 0) := by rw [Lib.cell_of_heap HH]; rfl
  have k2 : wx.cell? ⟨w.heap.size, 2, none⟩ = some (.int .u64 0) := by rw [Lib.cell_of_heap HH]; rfl
  have k3 : wx.cell? ⟨w.heap.size, 3, none⟩ = some (.int .u64 0) := by rw [Lib.cell_of_heap HH]; rfl
  have k4 : wx.cell? ⟨w.heap.size, 4, none⟩ = some (.string ⟨#[]⟩) := by rw [Lib.cell_of_heap HH]; rfl
  have k5 : wx.cell? ⟨w.heap.size, 5, none⟩ = some (.bool false) := by rw [Lib.cell_of_heap HH]; rfl
  have HPE : Hid (∀ w : World, Calls Tryz.prog 81 #[.int .u16 0, .int .u32 0, .int .u32 0, .string ⟨#[]⟩] w fun e w' => e = .returned (.string (endT 0 0 0 ⟨#[]⟩)) ∧ Below w.heap.size w w') := fun w => printEnd_any 0 0 0 (by omega) (by omega) (by omega) ⟨#[]⟩ (by decide) w
  have w1 : IntKind.u16.wrap 0 = 0 := by rw [IntKind.wrap_u16]; rfl
  have w2 : IntKind.u32.wrap 0 = 0 := by rw [IntKind.wrap_u32]; rfl
  generalize endT 0 0 0 ⟨#[]⟩ = T at *
  have HWX := Lib.hid hwx
  clear hwx HH
  go_enter Tryz.func44, Tryz.ntmps44
  go_upto_region 1 with fail
  rw [← HWX.out]
  go_wp2_with fail
  refine (HPE.out _).mono ?_; rintro r w3 ⟨rfl, hb1⟩
  have HB1 := Lib.hid (below_then HB.out hb1)
  clear hb1 HPE HWX
  go_wp2_with fail
  go_ret2
  exact ⟨rfl, HB1.out⟩
theorem strNil_any (b : Nat) (w : World) (h : w.heap[b]? = some (.cells #[.pointer none, .slice none 0 0] 76 (0, 0))) :
    Calls Tryz.prog 45 #[.pointer (some ⟨b, 0, none⟩)] w fun e w' => e = .returned (.string ⟨#[]⟩) ∧ Below w.heap.size w w' := Any.Builder_String_nil sh_lays169 sh_Builder_Extra_169 w.heap.size b (.pointer none) w h
set_option maxHeartbeats 8000000 in
theorem denPrint_nil (w : World) :
    Calls Tryz.prog 20 #[.slice none 0 0, .int .i64 6, .bool false] w fun e w' => ∃ T, e = .returned (.tuple #[.string T, .int .i64 0]) ∧ T.size = 22 ∧ Below w.heap.size w w' := by
  have hzb := zero_bdE
  obtain ⟨W1, hW1⟩ : ∃ W1, W1 = w.alloc (.cells #[.pointer none, .slice none 0 0] 76) := ⟨_, rfl⟩
  obtain ⟨W2, hW2⟩ : ∃ W2, W2 = W1.alloc (.cells #[.pointer none, .slice none 0 0] 76) := ⟨_, rfl⟩
  have hb1 : Below w.heap.size w W1 := by rw [hW1]; exact below_al w _
  have hb2 : Below W1.heap.size W1 W2 := by rw [hW2]; exact below_al W1 _
  have x1 : W1.heap[w.heap.size]? = some (.cells #[.pointer none, .slice none 0 0] 76 (0, 0)) := by rw [hW1]; exact heap_alloc_new w _
  have x2 : W2.heap[W1.heap.size]? = some (.cells #[.pointer none, .slice none 0 0] 76 (0, 0)) := by rw [hW2]; exact heap_alloc_new W1 _
  have d1 : Bd W1 w.heap.size w.heap.size [] := by rw [hW1]; exact bd_freshE w
  have d2 : Bd W2 W1.heap.size W1.heap.size [] := by rw [hW2]; exact bd_freshE W1
  have hz1 : W1.heap.size = w.heap.size + 1 := by rw [hW1]; simp only [World.alloc, Array.size_push]
  have D1 := Lib.hid (d1.below hb2)
  have D2 := Lib.hid d2
  have HB2 := Lib.hid (below_then hb1 hb2)
  have HW2 : Hid ((w.alloc (.cells #[.pointer none, .slice none 0 0] 76)).alloc (.cells #[.pointer none, .slice none 0 0] 76) = W2) := by show _ = _; rw [hW2, hW1]
  have HL1 := Lib.hid (bdLen_any w.heap.size w.heap.size [] W2 D1.out)
  have HL2 := Lib.hid (bdLen_any W1.heap.size W1.heap.size [] W2 D2.out)
  have HT := Lib.hid (printT0_any W2)
  have HZ := Lib.hid endT_size0
  have X1 := Lib.hid ((hb2.block _ (lt_of_block x1)).trans x1)
  have X2 := Lib.hid x2
  rw [hz1] at HL2 X2
  have HSZ : Hid (W1.heap.size ≤ W2.heap.size) := hb2.size
  clear hb1 hb2 d1 d2 hW1 hW2 x1 x2 D1 D2
  generalize endT 0 0 0 ⟨#[]⟩ = T at *
  go_enter Tryz.func20, Tryz.ntmps20
  go_wp2_with fail
  refine wp_loop_rounds 1 ?_
  rw [rounds_succ]
  go_wp2_with fail
  rw [HW2.out]
  refine HL2.out.mono ?_; rintro e wx ⟨rfl, hw⟩; rw [hw]; clear hw wx
  go_wp2_with fail
  refine HL1.out.mono ?_; rintro e wx ⟨rfl, hw⟩; rw [hw]; clear hw wx
  go_wp2_with fail
  refine HT.out.mono ?_; rintro e w3 ⟨rfl, hb3⟩
  have HB3 := Lib.hid (below_then HB2.out hb3)
  have HS1 := Lib.hid (strNil_any w.heap.size w3 ((hb3.block _ (lt_of_block X1.out)).trans X1.out))
  have X23 := Lib.hid ((hb3.block _ (lt_of_block X2.out)).trans X2.out)
  clear hb3 HL1 HL2 HT X1 X2
  go_wp2_with fail
  refine HS1.out.mono ?_; rintro e w4 ⟨rfl, hb4⟩
  have HB4 := Lib.hid (below_then HB3.out hb4)
  have HS2 := Lib.hid (strNil_any (w.heap.size + 1) w4 ((hb4.block _ (lt_of_block X23.out)).trans X23.out))
  clear hb4 HS1 X23
  go_wp2_with fail
  refine HS2.out.mono ?_; rintro e w5 ⟨rfl, hb5⟩
  have HB5 := Lib.hid (below_then HB4.out hb5)
  have hts : (⟨#[]⟩ : ByteArray).size = 0 := rfl
  have hT22 := HZ.out
  have hsz1 : ¬ 9223372036854775807 < (⟨#[]⟩ : ByteArray).size + (⟨#[]⟩ : ByteArray).size := by rw [hts]; omega
  have hsz2 : ¬ 9223372036854775807 < (⟨#[]⟩ : ByteArray).size + (⟨#[]⟩ : ByteArray).size + T.size := by rw [hts, hT22]; omega
  have HR : Hid (((⟨#[]⟩ : ByteArray) ++ ⟨#[]⟩ ++ T).size = 22) := by show _ = _; rw [ByteArray.size_append, ByteArray.size_append, hts, hT22]
  clear hb5 HS2
  generalize (⟨#[]⟩ : ByteArray) = T0 at *
  go_wp2_with fail
  go_ret2
  exact ⟨T0 ++ T0 ++ T, rfl, HR.out, HB5.out⟩
theorem awake21_any (w : World) : Calls Tryz.prog 6 #[] w fun e w' => e = .returned (.bool true) ∧ Below w.heap.size w w' := by
  have H := Lib.hid (denPrint_nil w)
  go_enter Tryz.func6, Tryz.ntmps6
  go_wp2_with fail
  refine H.out.mono ?_; rintro e w1 ⟨T, rfl, hT, hb⟩
  have hT2 : (T.size : Int) = 22 := by omega
  clear hT
  go_wp2_with fail
  go_ret
  exact ⟨rfl, hb⟩
end Go.Proofs.YtpkhpaklhfomkaaGreatDoor
