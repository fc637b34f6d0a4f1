/-
  Contracts: Parent, Base, Under.
-/
import Derived.Test.YtpkhpaklhfomkaaGreatDoorNamB
namespace Go.Proofs.YtpkhpaklhfomkaaGreatDoor
set_option maxRecDepth 100000
open Go.RowKit Go.Deep Go.Joins

/-- The parent's bytes: how many. -/
def parN (s : ByteArray) : Nat := (max (spl s - 1) 0).toNat
def parB (s : ByteArray) : ByteArray := s.extract 0 (parN s)
def baseB (s : ByteArray) : ByteArray := s.extract (spl s).toNat s.size
theorem spl_le (s : ByteArray) : 0 ≤ spl s ∧ spl s ≤ s.size := by have := last_le s; unfold spl; omega
theorem parent_any (s : ByteArray) (w : World) (hs : s.size < 4611686018427387904) :
    Calls Tryz.prog 59 #[.string s] w fun e w' => e = .returned (.string (parB s)) ∧ w' = w := by
  have HL := Lib.hid (fun w => spl_any s w hs)
  obtain ⟨k, hk⟩ : ∃ k : Nat, spl s = k := ⟨(spl s).toNat, by have := spl_le s; omega⟩
  have hle : k ≤ s.size := by have := spl_le s; omega
  obtain ⟨m, hm⟩ : ∃ m : Nat, max ((k : Int) - 1) 0 = m := ⟨(max ((k : Int) - 1) 0).toNat, by omega⟩
  have he : Hid (parB s = s.extract 0 m) := by show _ = _; unfold parB parN; rw [hk, hm]; rfl
  have hml : m ≤ s.size := by omega
  rw [hk] at HL
  have hm2 : (if (k : Int) - 1 < 0 then (0 : Int) else (k : Int) - 1) = (m : Int) := by rw [← hm]; split <;> omega
  clear hk
  go_enter Tryz.func59, Tryz.ntmps59
  go_wp2_with fail
  refine (HL.out _).mono ?_
  rintro e w1 ⟨rfl, rfl⟩
  go_wp2
  go_ret
  rw [he.out]
  exact ⟨rfl, rfl⟩

/-- Under. -/
def undB (a r : ByteArray) : Bool := Lib.hasPrefix a.data.toList r.data.toList && (r.data.toList.isEmpty || (Lib.trimPrefix a.data.toList r.data.toList).isEmpty || Lib.hasPrefix (Lib.trimPrefix a.data.toList r.data.toList) [47])
theorem under_any (a r : ByteArray) (w : World) :
    Calls Tryz.prog 49 #[.string a, .string r] w fun e w' => e = .returned (.bool (undB a r)) ∧ w' = w := by
  have HL := Lib.hid (fun w => sh_strings_CutPrefix a r w)
  have HP := Lib.hid (fun w => sh_strings_HasPrefix ⟨(Lib.trimPrefix a.data.toList r.data.toList).toArray⟩ ⟨#[47]⟩ w)
  have HU : Hid (undB a r = (Lib.hasPrefix a.data.toList r.data.toList && (r.data.toList.isEmpty || (Lib.trimPrefix a.data.toList r.data.toList).isEmpty || Lib.hasPrefix (Lib.trimPrefix a.data.toList r.data.toList) [47]))) := rfl
  generalize Lib.trimPrefix a.data.toList r.data.toList = t at *
  generalize Lib.hasPrefix a.data.toList r.data.toList = b at *
  cases b with
  | false =>
    go_enter Tryz.func49, Tryz.ntmps49
    go_wp2_with fail
    refine (HL.out _).mono ?_
    rintro e w1 ⟨rfl, rfl⟩
    go_wp2
    go_ret
    rw [HU.out]
    exact ⟨rfl, rfl⟩
  | true =>
    have hrr : r.toList.isEmpty = r.data.toList.isEmpty := by rw [Lib.toList_data]
    cases hr : r.data.toList.isEmpty with
    | true =>
      rw [hr] at hrr
      go_enter Tryz.func49, Tryz.ntmps49
      go_wp2_with fail
      refine (HL.out _).mono ?_
      rintro e w1 ⟨rfl, rfl⟩
      go_wp2
      go_ret
      rw [HU.out, hr]
      exact ⟨rfl, rfl⟩
    | false =>
      rw [hr] at hrr
      cases ht : t.isEmpty with
      | true =>
        go_enter Tryz.func49, Tryz.ntmps49
        go_wp2_with fail
        refine (HL.out _).mono ?_
        rintro e w1 ⟨rfl, rfl⟩
        go_wp2
        go_ret
        rw [HU.out, hr, ht]
        exact ⟨rfl, rfl⟩
      | false =>
        go_enter Tryz.func49, Tryz.ntmps49
        go_wp2_with fail
        refine (HL.out _).mono ?_
        rintro e w1 ⟨rfl, rfl⟩
        go_wp2_with fail
        refine (HP.out _).mono ?_
        rintro e w1 ⟨rfl, rfl⟩
        go_wp2
        go_ret
        rw [HU.out, hr, ht]
        exact ⟨rfl, rfl⟩
end Go.Proofs.YtpkhpaklhfomkaaGreatDoor
