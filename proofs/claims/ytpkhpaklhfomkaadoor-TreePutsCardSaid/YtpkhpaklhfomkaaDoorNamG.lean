/-
  Contracts: readable, Check; the chapter's examples.
-/
import Derived.Test.YtpkhpaklhfomkaaDoorNamF
namespace Go.Proofs.YtpkhpaklhfomkaaDoor
set_option maxRecDepth 100000
open Go.RowKit Go.Deep Go.Joins Go.Lib

/-- What is wrong with a name: 0: nothing. -/
def readN (s : ByteArray) : Int := if decide (65535 < s.size) then 5 else if s.toList.isEmpty || straysB s then 20 else 0
theorem readable_any (s : ByteArray) (w : World) :
    Calls Tryd.prog 55 #[.string s] w fun e w' => e = .returned (.int .i64 (readN s)) ∧ Below w.heap.size w w' := by
  have HS := Lib.hid (fun w => strays_any s w)
  have HR : Hid (readN s = if decide (65535 < s.size) then 5 else if s.toList.isEmpty || straysB s then 20 else 0) := rfl
  generalize straysB s = st at *
  by_cases h1 : 65535 < s.size
  · have g1 : decide ((65535 : Int) < (s.size : Int)) = true := decide_eq_true (by omega)
    have H1 : Hid (decide (65535 < s.size) = true) := decide_eq_true h1
    clear h1
    go_enter Tryd.func55, Tryd.ntmps55
    go_wp2
    go_ret
    rw [HR.out, H1.out]
    exact ⟨rfl, Below.refl _ _⟩
  · have g1 : decide ((65535 : Int) < (s.size : Int)) = false := decide_eq_false (by omega)
    have H1 : Hid (decide (65535 < s.size) = false) := decide_eq_false h1
    clear h1
    cases h2 : s.toList.isEmpty with
    | true =>
      go_enter Tryd.func55, Tryd.ntmps55
      go_wp2
      go_ret
      rw [HR.out, H1.out, h2]
      exact ⟨rfl, Below.refl _ _⟩
    | false =>
      cases st with
      | true =>
        go_enter Tryd.func55, Tryd.ntmps55
        go_wp2_with fail
        refine (HS.out _).mono ?_
        rintro e w1 ⟨rfl, hb⟩
        go_wp2
        go_ret
        rw [HR.out, H1.out, h2]
        exact ⟨rfl, hb⟩
      | false =>
        go_enter Tryd.func55, Tryd.ntmps55
        go_wp2_with fail
        refine (HS.out _).mono ?_
        rintro e w1 ⟨rfl, hb⟩
        go_wp2
        go_ret
        rw [HR.out, H1.out, h2]
        exact ⟨rfl, hb⟩

/-- A name's path. -/
def pathB (s : ByteArray) : ByteArray := ⟨(trimSuffix s.data.toList [47]).toArray⟩
def dirB (s : ByteArray) : Bool := hasSuffix s.data.toList [47]
/-- What Check answers. -/
def chkV (s : ByteArray) : ByteArray × Bool × Int :=
  if readN s ≠ 0 then (.empty, false, readN s) else if harmN (pathB s) ≠ 0 then (.empty, false, harmN (pathB s)) else (pathB s, dirB s, 0)
theorem readN_small {s : ByteArray} (h : readN s = 0) : s.size ≤ 65535 := by
  unfold readN at h
  by_cases h1 : 65535 < s.size
  · rw [decide_eq_true h1, if_pos rfl] at h
    exact absurd h (by decide)
  · omega
theorem path_le (s : ByteArray) : (pathB s).size ≤ s.size := by
  unfold pathB trimSuffix
  split
  · show (List.toArray _).size ≤ _
    rw [List.size_toArray, List.length_take]
    rw [Lib.size_eq]
    omega
  · show (List.toArray _).size ≤ _
    rw [List.size_toArray, Lib.size_eq]
    exact Nat.le_refl _
set_option maxHeartbeats 4000000 in
theorem check_any (s : ByteArray) (w : World) (hs : s.size ≤ 9223372036854775807) (hE : Env w) :
    Calls Tryd.prog 43 #[.string s] w fun e w' => e = .returned (.tuple #[.string (chkV s).1, .bool (chkV s).2.1, .int .i64 (chkV s).2.2]) ∧ Below w.heap.size w w' := by
  have HRD := Lib.hid (fun w => readable_any s w)
  have HCS := Lib.hid (fun w => sh_strings_CutSuffix s ⟨#[47]⟩ w hs)
  have HE := Lib.hid hE
  have HSM := Lib.hid (fun h => readN_small (s := s) h)
  have HHA : Hid (readN s = 0 → ∀ w, Env w → _) := fun h w he => harmless_any (pathB s) w (by have := readN_small h; have := path_le s; omega) he
  have HV : Hid (chkV s = if readN s ≠ 0 then (.empty, false, readN s) else if harmN (pathB s) ≠ 0 then (.empty, false, harmN (pathB s)) else (pathB s, dirB s, 0)) := rfl
  have e1 : (⟨(trimSuffix s.data.toList (⟨#[47]⟩ : ByteArray).data.toList).toArray⟩ : ByteArray) = pathB s := rfl
  have e2 : hasSuffix s.data.toList (⟨#[47]⟩ : ByteArray).data.toList = dirB s := rfl
  rw [e1, e2] at HCS
  clear e1 e2 hs
  generalize readN s = rn at *
  generalize harmN (pathB s) = hn at *
  generalize pathB s = pb at *
  generalize dirB s = db at *
  by_cases h1 : rn = 0
  · subst h1
    have g1 : ((0 : Int) != 0) = false := rfl
    have HHB := Lib.hid (HHA.out rfl)
    clear HHA
    by_cases h2 : hn = 0
    · subst h2
      go_enter Tryd.func43, Tryd.ntmps43
      go_wp2_with fail
      refine (HRD.out _).mono ?_
      rintro e w1 ⟨rfl, hb1⟩
      have HE1 := Lib.hid (HE.out.below hb1)
      go_wp2_with fail
      refine (HCS.out _).mono ?_
      rintro e w2 ⟨rfl, rfl⟩
      go_wp2_with fail
      refine (HHB.out _ HE1.out).mono ?_
      rintro e w3 ⟨rfl, hb3⟩
      have HB3 := Lib.hid (below_then hb1 hb3)
      clear hb1 hb3
      go_wp2_with fail
      go_ret3
      rw [HV.out]
      exact ⟨rfl, HB3.out⟩
    · have g2 : (hn != 0) = true := by rw [bne_iff_ne]; exact h2
      have H2 := Lib.hid h2
      clear h2
      go_enter Tryd.func43, Tryd.ntmps43
      go_wp2_with fail
      refine (HRD.out _).mono ?_
      rintro e w1 ⟨rfl, hb1⟩
      have HE1 := Lib.hid (HE.out.below hb1)
      go_wp2_with fail
      refine (HCS.out _).mono ?_
      rintro e w2 ⟨rfl, rfl⟩
      go_wp2_with fail
      refine (HHB.out _ HE1.out).mono ?_
      rintro e w3 ⟨rfl, hb3⟩
      have HB3 := Lib.hid (below_then hb1 hb3)
      clear hb1 hb3
      go_wp2_with fail
      go_ret3
      rw [HV.out, if_neg (by decide), if_pos H2.out]
      exact ⟨rfl, HB3.out⟩
  · have g2 : (rn != 0) = true := by rw [bne_iff_ne]; exact h1
    have H2 := Lib.hid h1
    clear h1 HHA
    go_enter Tryd.func43, Tryd.ntmps43
    go_wp2_with fail
    refine (HRD.out _).mono ?_
    rintro e w1 ⟨rfl, hb1⟩
    have HB1 := Lib.hid hb1
    clear hb1
    go_wp2_with fail
    go_ret3
    rw [HV.out, if_pos H2.out]
    exact ⟨rfl, HB1.out⟩

theorem chk_ab : chkV ⟨#[97, 47, 98, 47]⟩ = (⟨#[97, 47, 98]⟩, true, 0) := by kernel_rfl
theorem ord_ab : ordT ⟨#[97, 47, 98]⟩ ⟨#[97, 45, 98]⟩ = -1 := by kernel_rfl
end Go.Proofs.YtpkhpaklhfomkaaDoor
