/-
  Contracts of package header: lengths. A region whose calls and new rows come in any order, told by states.
-/
import Derived.Test.YtklmfncljebgnaaHdH
import Derived.Deep.RegionHeld3
namespace Go.Proofs.Ytklmfncljebgnaa
set_option maxRecDepth 100000
set_option linter.unusedSimpArgs false
open Go.RowKit Go.Joins Go.Deep Go.Op

/-- A region of which only so many states come up: each is left for one of a lesser rank. -/
theorem dag_ind {P : Program} {md : Region.Mode} {ops : Array Oper} {Q : Exit → Act → World → Prop} {S : World → Prop} {St : Type} (rank fuel : St → Nat) (lst : St → Array Bool) (act : St → Act) (Ok : St → World → Prop)
    (step : ∀ σ w, Ok σ w → (∀ σ' w', rank σ' < rank σ → Ok σ' w' → wpAnyH P md ops Q S (fuel σ') (lst σ') (act σ') w') → wpAnyH P md ops Q S (fuel σ) (lst σ) (act σ) w) :
    ∀ σ w, Ok σ w → wpAnyH P md ops Q S (fuel σ) (lst σ) (act σ) w := by
  have key : ∀ n σ w, rank σ < n → Ok σ w → wpAnyH P md ops Q S (fuel σ) (lst σ) (act σ) w := by
    intro n
    induction n with
    | zero => intro σ w h; omega
    | succ n ih => exact fun σ w h hok => step σ w hok (fun σ' w' hr hok' => ih σ' w' (by omega) hok')
  exact fun σ w hok => key _ σ w (Nat.lt_succ_self _) hok
/-- A state: its number, the blocks of the rows that were made. -/
structure Stt where
  k : Nat
  g1 : Nat
  g2 : Nat
  g3 : Nat
  g4 : Nat

theorem RdS.at {w : World} {g : Nat} {l : List ByteArray} (h : RdS w (some ⟨g, 0, none⟩) l) {i : Nat} {x : ByteArray} (hx : l[i]? = some x) : w.cell? ⟨g, i, none⟩ = some (.string x) := by
  obtain ⟨g', e, _, hc⟩ := h (List.length_pos_of_mem (List.mem_of_getElem? hx))
  injection e with e
  injection e with e
  subst e
  exact hc i x hx
theorem RdS.slice {w : World} {A : Option Addr} {l : List ByteArray} (h : RdS w A l) (h0 : 0 < l.length) : ∃ g, A = some ⟨g, 0, none⟩ := by
  obtain ⟨g, e, _⟩ := h h0
  exact ⟨g, e⟩
theorem RdS.of_heap {w : World} {e : TypeId} {g : Nat} {l : List ByteArray} {cs : Array Value} (h : w.heap[g]? = some (.cells cs e (0, 0))) (hc : cs.toList = strV l) : RdS w (some ⟨g, 0, none⟩) l := fun _ => by
  refine ⟨g, rfl, lt_of_some h, fun i x hx => ?_⟩
  rw [Lib.cell_of_heap h, ← Array.getElem?_toList, hc]
  unfold strV
  rw [List.getElem?_map, hx]
  rfl
theorem take_snoc' {α : Type} {l : List α} {k : Nat} {x : α} (h : l[k]? = some x) : l.take (k + 1) = l.take k ++ [x] := by
  rw [List.take_add_one, h]
  rfl
/-- Are none too long? -/
def fitsT (ss : List ByteArray) : Bool := ss.all fun s => decide (s.size ≤ 65535)
def lenV (ss : List ByteArray) : Value := if fitsT ss = true then .tuple #[.string (text (lesL 2 (ss.map (·.size)))), .bool true] else .tuple #[.string ⟨#[]⟩, .bool false]
theorem info16 : (Try.prog.info? 23).map (fun i => (i.zero, i.size, i.bytes)) = some (some (.int .u16 0), 1, 2) := by kernel_rfl
set_option maxHeartbeats 4000000 in
theorem lengths_any (A : Option Addr) (c : Nat) (ss : List ByteArray) (hl : ss.length ≤ 20) (hz : ∀ s ∈ ss, s.size ≤ 1000000) (w : World) (hr : RdS w A ss) :
    Calls Try.prog 45 #[.slice A ss.length c] w fun e w' => e = .returned (lenV ss) ∧ Below w.heap.size w w' := by
  obtain ⟨i0, hi, hz0, hz1, hz2⟩ := info_parts info16
  have HR := Lib.hid hr
  have HGET := Lib.hid (fun (k : Nat) (h : k < ss.length) => List.getElem?_eq_getElem h)
  have HZ := Lib.hid (fun (k : Nat) (h : k < ss.length) => hz _ (List.getElem_mem h))
  have HMEM := Lib.hid (fun (k : Nat) (h : k < ss.length) => List.getElem_mem h)
  have HTK := Lib.hid (fun (k : Nat) (x : ByteArray) (h : ss[k]? = some x) => show (ss.take (k + 1)).map (·.size) = (ss.take k).map (·.size) ++ [x.size] by rw [take_snoc' h]; simp)
  have HTF := Lib.hid (fun (k : Nat) (x : ByteArray) (h : ss[k]? = some x) => show fitsT (ss.take (k + 1)) = (fitsT (ss.take k) && decide (x.size ≤ 65535)) by rw [take_snoc' h]; unfold fitsT; simp)
  have HTL := Lib.hid (fun k => show ((ss.take k).map (·.size)).length = min k ss.length by rw [List.length_map, List.length_take])
  have HALL : Hid (ss.take ss.length = ss) := by show _ = _; rw [List.take_length]
  have HMT := Lib.hid (fun (k : Nat) (h : fitsT ss = true) => show ∀ s ∈ (ss.take k), s.size ≤ 65535 from fun s hs => of_decide_eq_true (List.all_eq_true.1 h s (List.mem_of_mem_take hs)))
  clear hr hz
  go_enter Try.func45, Try.ntmps45
  go_wp2
  go_loopw [4, 9] (fun v i wr => ∃ k : Nat, k ≤ ss.length ∧ i = .int .i64 (k : Nat) ∧ fitsT (ss.take k) = true ∧ wr.ownsRow w.heap.size 23 1 v k (cellsK .u16 ((ss.take k).map (·.size))) ∧ Below w.heap.size w wr) (fun _ i _ => ss.length - (intOf i).toNat)
  case atStart => exact ⟨0, Nat.zero_le _, rfl, rfl, World.ownsRow_nil _ _ _ _, Below.refl _ _⟩
  case round =>
    obtain ⟨k, hk, rfl, htf, hown, hbel⟩ := hrel
    have HO := Lib.hid hown
    have HB := Lib.hid hbel
    clear hown hbel
    by_cases hlt : k < ss.length
    · have hx := HGET.out k hlt
      have hsz := HZ.out k hlt
      have hmem := HMEM.out k hlt
      have htk := HTK.out k _ hx
      have htf2 := HTF.out k _ hx
      obtain ⟨g, rfl⟩ := HR.out.slice (by omega)
      have hc := (HR.out.below HB.out).at hx
      generalize ss[k] = x at *
      have HTK1 := Lib.hid htk
      have HTF0 := Lib.hid htf
      have HMM := Lib.hid hmem
      by_cases hbig : 65535 < x.size
      · have hbd : decide ((65535 : Int) < (x.size : Int)) = true := decide_eq_true (by omega)
        have HA : Hid (lenV ss = .tuple #[.string ⟨#[]⟩, .bool false]) := if_neg (fun h => by
          have := of_decide_eq_true (List.all_eq_true.1 h x hmem)
          omega)
        clear hx htk htf2 htf hmem
        go_wp2_with fail
        go_ret2
        rw [HA.out]
        exact ⟨rfl, HB.out⟩
      · have hbd : decide ((65535 : Int) < (x.size : Int)) = false := decide_eq_false (by omega)
        have HTF1 : Hid (fitsT (ss.take (k + 1)) = true) := by show _ = _; rw [htf2, htf, decide_eq_true (by omega)]; rfl
        have hw : IntKind.u16.wrap (x.size : Int) = x.size := by rw [IntKind.wrap_u16]; omega
        clear hx htk htf2 htf hmem
        go_wp2_with (at_builtin; refine wpList_append_own _ rfl (.tmp 16) (.tmp 20) _ rfl w.heap.size 23 i0 (.int .u16 0) 1 2 Try.underlying128 hi hz0 hz1 hz2 rfl (by decide) _ k (cellsK .u16 ((ss.take k).map (·.size))) rfl (HO.out.alloc _) ⟨wr.heap.size, 0, none⟩ 1 1 [.int .u16 (x.size : Nat)] rfl rfl ?c1 ?c2 ?c3 ?c4 ?c5 ?_)
        case c1 => exact cell_one_new _ _ _
        case c2 => intro u hu; simp at hu; subst hu; rfl
        case c3 => unfold maxLen; omega
        case c4 => omega
        case c5 => have := HB.out.size; simp; omega
        intro v' w2 hown' hgrow _
        have HO1 := Lib.hid hown'
        have HG1 := Lib.hid hgrow
        clear hown' hgrow
        go_wp2_with fail
        go_roundw
        case rel =>
          refine ⟨k + 1, by omega, by go_num, HTF1.out, ?_, ?_⟩
          · rw [HTK1.out, cellsK_app, List.map_take]
            exact HO1.out
          · exact (HB.out.alloc HB.out.size _).grown HG1.out (by have := HB.out.size; simp; omega) (fun k hk => (HO.out.lt k hk).1)
        case measure => simp [intOf]; omega
    · obtain rfl : k = ss.length := by omega
      have ho := HO.out
      rw [HALL.out] at ho htf
      have HA : Hid (lenV ss = .tuple #[.string (text (lesL 2 (ss.map (·.size)))), .bool true]) := if_pos htf
      have hlen : (ss.map (·.size)).length = ss.length := List.length_map _
      have hb16 : ∀ x ∈ ss.map (·.size), x < 65536 := by
        intro x hx
        obtain ⟨s, hs, rfl⟩ := List.mem_map.1 hx
        have := of_decide_eq_true (List.all_eq_true.1 htf s hs)
        omega
      obtain ⟨A3, c3, rfl⟩ := row_slice ho
      generalize ss.map (·.size) = L at *
      have hrd : RdI wr .u16 A3 L := by
        rw [← hlen] at ho
        exact RdI.of_own ho
      have HROW := Lib.hid (row2_any A3 c3 L (by omega) hb16 wr hrd)
      rw [hlen] at HROW
      clear htf ho hrd hb16 hlen
      go_wp2_with fail
      refine (HROW.out).mono ?_; rintro e w2 ⟨rfl, hb2⟩
      have HB2 := Lib.hid (HB.out.trans (hb2.mono HB.out.size))
      clear hb2
      go_wp2_with fail
      go_ret2
      rw [HA.out]
      exact ⟨rfl, HB2.out⟩
end Go.Proofs.Ytklmfncljebgnaa
