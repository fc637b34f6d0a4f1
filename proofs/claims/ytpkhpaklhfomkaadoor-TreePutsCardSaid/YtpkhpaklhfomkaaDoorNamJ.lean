/-
  Contracts: the document's Parts.
-/
import Derived.Test.YtpkhpaklhfomkaaDoorNamI
namespace Go.Proofs.YtpkhpaklhfomkaaDoor
set_option maxRecDepth 100000
open Go.RowKit Go.Deep Go.Joins Go.Lib

theorem row_slice {w : World} {B n z : Nat} {e : TypeId} {v : Value} {l : List Value} (h : w.ownsRow B e z v n l) : ∃ A c, v = .slice A n c := by
  rcases h.2 with ⟨rfl, rfl⟩ | ⟨g, cap, cur, rfl, _⟩
  · exact ⟨_, _, rfl⟩
  · exact ⟨_, _, rfl⟩
theorem own_below {w w' : World} {base size n : Nat} {e : TypeId} {v : Value} {xs : List Value} (h : w.ownsRow base e size v n xs) (hb : Below w.heap.size w w') : w'.ownsRow base e size v n xs :=
  h.kept (row := none) ⟨hb.os, hb.tape, hb.output, hb.size, fun i hi _ => hb.block i hi⟩ (by cases hv : v.ownBlock <;> simp)
def strC (ss : List (List Nat)) : List Value := ss.map fun l => Value.string (text l)
theorem info9 : (Tryd.prog.info? 9).map (fun i => (i.zero, i.size, i.bytes)) = some (some (.string ByteArray.empty), 1, 16) := by kernel_rfl
theorem text_snoc (l : List Nat) (s : ByteArray) (k : Nat) (h : k < s.size) : text l ++ s.extract k (k + 1) = text (l ++ [s[k].toNat]) := by
  have e : s.extract k (k + 1) = text [s[k].toNat] := by
    have h1 : nums (s.extract k (k + 1)) = [s[k].toNat] := by
      unfold nums
      rw [Lib.extract_data]
      rw [List.map_take, List.map_drop]
      show ((nums s).drop k).take _ = _
      rw [nums_drop s k h, show k + 1 - k = 1 by omega]
      rfl
    rw [← text_nums (s.extract k (k + 1)), h1]
  rw [e]
  apply ByteArray.ext
  simp [text]
theorem foldl_le : ∀ (l : List Nat) (x : List (List Nat) × List Nat), (l.foldl stepP x).1.length ≤ x.1.length + l.length
  | [], x => Nat.le_refl _
  | c :: r, x => by
    rw [List.foldl_cons]
    have h := foldl_le r (stepP x c)
    have h2 : (stepP x c).1.length ≤ x.1.length + 1 := by
      unfold stepP
      split
      · simp
      · show x.1.length ≤ _; omega
    rw [List.length_cons]
    omega
theorem ptS_le (l : List Nat) : (ptS l).1.length ≤ l.length := by
  have := foldl_le l ([], [])
  simpa [ptS] using this
theorem foldl_le2 : ∀ (l : List Nat) (x : List (List Nat) × List Nat), (l.foldl stepP x).2.length ≤ x.2.length + l.length
  | [], x => Nat.le_refl _
  | c :: r, x => by
    rw [List.foldl_cons]
    have h := foldl_le2 r (stepP x c)
    have h2 : (stepP x c).2.length ≤ x.2.length + 1 := by
      unfold stepP
      split
      · simp
      · simp
    rw [List.length_cons]
    omega
theorem ptS_le2 (l : List Nat) : (ptS l).2.length ≤ l.length := by
  have := foldl_le2 l ([], [])
  simpa [ptS] using this
theorem parts_done (l : List Nat) (h : l ≠ []) : (ptS l).1 ++ [(ptS l).2] = partsL l := by
  rw [ptS_end]; unfold partsL; rw [if_neg h]
set_option maxHeartbeats 8000000 in
theorem rparts_any (s : ByteArray) (w : World) (hs : s.size ≤ 100000) :
    Calls Tryd.prog 50 #[.string s] w fun e w' => ∃ v, e = .returned v ∧ w'.ownsRow w.heap.size 9 1 v (partsL (nums s)).length (strC (partsL (nums s))) ∧ Below w.heap.size w w' := by
  obtain ⟨i0, hi, hz0, hz1, hz2⟩ := info_parts info9
  by_cases h0 : s.size = 0
  · have g0 : ((s.size : Int) == 0) = true := by rw [beq_iff_eq]; omega
    have hp : partsL (nums s) = [] := by rw [empty_of_size h0]; rfl
    go_enter Tryd.func50, Tryd.ntmps50
    go_wp2
    go_ret
    rw [hp]
    exact ⟨_, rfl, World.ownsRow_nil _ _ _ _, Below.refl _ _⟩
  · have g0 : ((s.size : Int) == 0) = false := by rw [beq_eq_false_iff_ne]; omega
    have HPD := Lib.hid (parts_done (nums s) (fun e => h0 (by rw [← nums_len, e]; rfl)))
    clear h0
    go_enter Tryd.func50, Tryd.ntmps50
    go_wp2_with fail
    go_loopw [5, 3, 4] (fun i l p wr => ∃ k : Nat, k ≤ s.size ∧ i = .int .i64 (k : Nat) ∧ p = .string (text (ptS ((nums s).take k)).2) ∧ Hid (wr.ownsRow w.heap.size 9 1 l (ptS ((nums s).take k)).1.length (strC (ptS ((nums s).take k)).1)) ∧ Hid (Below w.heap.size w wr)) (fun i _ _ _ => s.size - (intOf i).toNat)
    case atStart => exact ⟨0, Nat.zero_le _, rfl, rfl, World.ownsRow_nil _ _ _ _, Below.refl _ _⟩
    case round =>
      obtain ⟨k, hk, rfl, rfl, HO, HB⟩ := hrel
      have hle : (ptS ((nums s).take k)).1.length ≤ 100000 := by
        have := ptS_le ((nums s).take k)
        rw [List.length_take, nums_len] at this
        omega
      have hle2 : (ptS ((nums s).take k)).2.length ≤ 100000 := by
        have := ptS_le2 ((nums s).take k)
        rw [List.length_take, nums_len] at this
        omega
      have HWS := Lib.hid HB.out.size
      by_cases hks : k < s.size
      · have hsn : ptS ((nums s).take (k + 1)) = stepP (ptS ((nums s).take k)) s[k].toNat := by rw [nums_snoc s k hks, ptS_snoc]
        have HSN := Lib.hid hsn
        clear hsn
        have HTX := Lib.hid (fun l => text_snoc l s k hks)
        generalize ptS ((nums s).take k) = P at *
        obtain ⟨L, p⟩ := P
        have ho := HO.out
        simp only at ho hle hle2
        by_cases h47 : s[k].toNat = 47
        · have hb47 : ((s[k].toNat : Int) == 47) = true := by rw [h47]; rfl
          have HS2 : Hid (ptS ((nums s).take (k + 1)) = (L ++ [p], [])) := by show _ = _; rw [HSN.out]; unfold stepP; rw [if_pos h47]
          clear h47
          obtain ⟨A2, cp2, rfl⟩ := row_slice ho
          clear ho
          go_wp2_with (at_builtin; refine wpList_append_own_at _ rfl (.tmp 19) (.tmp 21) _ rfl w.heap.size 9 i0 (.string ByteArray.empty) 1 16 Tryd.underlying48 hi hz0 hz1 hz2 rfl (by decide) _ L.length (strC L) rfl (HO.out.alloc _) ⟨wr.heap.size, 0, none⟩ 1 1 [.string (text p)] rfl rfl ?c1 ?c2 ?c3 ?c4 ?c5 ?_)
          case c2 => rfl
          case c3 => unfold maxLen; omega
          case c4 => omega
          case c5 => have := HWS.out; simp; omega
          intro v2 w3 hown hgrow _ hat
          have HB3 : Hid (Below w.heap.size w w3) := (HB.out.alloc HWS.out _).grown hgrow (by have := HWS.out; simp; omega) fun g hg => (HO.out.lt g hg).1
          have HO3 : Hid (w3.ownsRow w.heap.size 9 1 v2 (L ++ [p]).length (strC (L ++ [p]))) := by
            show World.ownsRow _ _ _ _ _ _ _
            rw [List.length_append]
            unfold strC
            rw [List.map_append]
            exact hown
          clear hown hgrow hat
          go_wp2_with fail
          go_roundw
          case rel =>
            refine ⟨k + 1, by omega, by go_num, ?_, ?_, HB3⟩
            · rw [HS2.out]; rfl
            · rw [HS2.out]; exact HO3
          case measure => simp [intOf]; omega
        · have hb47 : ((s[k].toNat : Int) == 47) = false := by rw [beq_eq_false_iff_ne]; omega
          have HS2 : Hid (ptS ((nums s).take (k + 1)) = (L, p ++ [s[k].toNat])) := by show _ = _; rw [HSN.out]; unfold stepP; rw [if_neg h47]
          obtain ⟨q, hq, hqi⟩ : ∃ q : Nat, k + 1 = q ∧ ((k : Int) + 1) = (q : Int) := ⟨k + 1, rfl, by omega⟩
          rw [hq] at HTX
          have HQ := Lib.hid hq
          have hkq : k ≤ q := by omega
          have hqs : q ≤ s.size := by omega
          have hcat : ¬ 9223372036854775807 < (text p).size + (q - k) := by rw [text_size]; omega
          clear h47 ho hq hle2
          go_wp2_with fail
          go_roundw
          case rel =>
            refine ⟨k + 1, by omega, by have := HQ.out; subst this; go_num, ?_, ?_, HB⟩
            · rw [HS2.out, HTX.out]
            · rw [HS2.out]; exact HO
          case measure => simp [intOf]; omega
      · obtain rfl : k = s.size := by omega
        have hall : (nums s).take s.size = nums s := by rw [← nums_len]; exact List.take_length
        rw [hall] at HO hle ⊢
        clear hle2
        generalize ptS (nums s) = P at *
        obtain ⟨L, p⟩ := P
        have ho := HO.out
        simp only at ho hle
        obtain ⟨A2, cp2, rfl⟩ := row_slice ho
        clear ho
        go_wp2_with (at_builtin; refine wpList_append_own_at _ rfl (.tmp 30) (.tmp 32) _ rfl w.heap.size 9 i0 (.string ByteArray.empty) 1 16 Tryd.underlying48 hi hz0 hz1 hz2 rfl (by decide) _ L.length (strC L) rfl (HO.out.alloc _) ⟨wr.heap.size, 0, none⟩ 1 1 [.string (text p)] rfl rfl ?d1 ?d2 ?d3 ?d4 ?d5 ?_)
        case d2 => rfl
        case d3 => unfold maxLen; omega
        case d4 => omega
        case d5 => have := HWS.out; simp; omega
        intro v2 w3 hown hgrow _ hat
        have HB3 : Hid (Below w.heap.size w w3) := (HB.out.alloc HWS.out _).grown hgrow (by have := HWS.out; simp; omega) fun g hg => (HO.out.lt g hg).1
        have HO3 : Hid (w3.ownsRow w.heap.size 9 1 v2 (L ++ [p]).length (strC (L ++ [p]))) := by
          show World.ownsRow _ _ _ _ _ _ _
          rw [List.length_append]
          unfold strC
          rw [List.map_append]
          exact hown
        clear hown hgrow hat
        go_wp2_with fail
        go_ret
        have hpd : L ++ [p] = partsL (nums s) := HPD.out
        rw [← hpd]
        exact ⟨v2, rfl, HO3.out, HB3.out⟩
end Go.Proofs.YtpkhpaklhfomkaaDoor
