/-
  StampTexts: the closure that reads two digits.
-/
import Derived.Test.YtmbifoockenniaaDoorStP
import Derived.BigQuiet
namespace Go.Proofs.YtmbifoockenniaaDoor
set_option maxRecDepth 100000
open Go.RowKit Go.Joins Go.Deep

theorem clo_any (T : ByteArray) (p a b : Nat) (hp0 : p < T.size) (hp : p + 1 < T.size) (hsz : T.size < 1000) (ha : T[p].toNat = 48 + a) (hb : T[p + 1].toNat = 48 + b) (a1 : a < 10) (b1 : b < 10) (g : Nat) (w : World) (hc : w.cell? ⟨g, 0, none⟩ = some (.string T)) :
    Calls Tryd.prog 21 #[.int .i64 (p : Nat), .pointer (some ⟨g, 0, none⟩)] w fun e w' => e = .returned (.int .i64 (a * 10 + b : Nat)) ∧ ∃ n, w' = w.drewN n := by
  have i1 : (0 : Int) ≤ (p : Nat) := by omega
  have i2 : ((p : Nat) : Int) < (T.size : Nat) := by omega
  have i3 : (0 : Int) ≤ (p : Nat) + 1 := by omega
  have i4 : ((p : Nat) : Int) + 1 < (T.size : Nat) := by omega
  go_enter Tryd.func21, Tryd.ntmps21
  go_wp2_with fail
  go_quiet (fail)
  go_wp2_with fail
  go_ret
  exact ⟨ret_eq (by omega), _, rfl⟩

theorem tl_len (y m d h mi s : Nat) : (tl y m d h mi s).length = 19 := by
  simp [tl, dgl_len]
theorem txt_size (y m d h mi s : Nat) : (txt y m d h mi s).size = 19 := by
  show (txt y m d h mi s).data.size = 19
  rw [txt_data, List.size_toArray, tl_len]
theorem txt_get (y m d h mi s k : Nat) (hk : k < (txt y m d h mi s).size) : (txt y m d h mi s)[k] = (tl y m d h mi s)[k]'(by rw [tl_len]; rw [txt_size] at hk; exact hk) := by
  show (txt y m d h mi s).data[k]'_ = _
  simp only [txt_data, List.getElem_toArray]
theorem dig_nat (n : Nat) (h : n < 10) : (UInt8.ofNat (48 + n)).toNat = 48 + n := Nat.mod_eq_of_lt (by omega)
/-- What two bytes of a text tell. -/
structure Two (T : ByteArray) (p n : Nat) : Prop where
  two : ∃ (a b : Nat) (h : p < T.size) (h' : p + 1 < T.size), T[p].toNat = 48 + a ∧ T[p + 1].toNat = 48 + b ∧ a < 10 ∧ b < 10 ∧ n = a * 10 + b
theorem clo_two {T : ByteArray} {p n : Nat} (H : Two T p n) (hsz : T.size = 19) (g : Nat) (w : World) (hc : w.cell? ⟨g, 0, none⟩ = some (.string T)) :
    Calls Tryd.prog 21 #[.int .i64 (p : Nat), .pointer (some ⟨g, 0, none⟩)] w fun e w' => e = .returned (.int .i64 (n : Nat)) ∧ ∃ n, w' = w.drewN n := by
  obtain ⟨a, b, h0, h1, ha, hb, a1, b1, rfl⟩ := H.two
  exact clo_any T p a b h0 h1 (by omega) ha hb a1 b1 g w hc
theorem txt_two (y m d h mi s : Nat) (hy : y < 10000) (hm : m < 100) (hd : d < 100) (hh : h < 100) (hmi : mi < 100) (hs : s < 100) :
    Two (txt y m d h mi s) 0 (y / 100) ∧ Two (txt y m d h mi s) 2 (y % 100) ∧ Two (txt y m d h mi s) 5 m ∧ Two (txt y m d h mi s) 8 d ∧ Two (txt y m d h mi s) 11 h ∧ Two (txt y m d h mi s) 14 mi ∧ Two (txt y m d h mi s) 17 s := by
  have hz := txt_size y m d h mi s
  refine ⟨⟨y / 10 / 10 / 10 % 10, y / 10 / 10 % 10, by omega, by omega, ?_, ?_, by omega, by omega, by omega⟩, ⟨y / 10 % 10, y % 10, by omega, by omega, ?_, ?_, by omega, by omega, by omega⟩, ⟨m / 10 % 10, m % 10, by omega, by omega, ?_, ?_, by omega, by omega, by omega⟩, ⟨d / 10 % 10, d % 10, by omega, by omega, ?_, ?_, by omega, by omega, by omega⟩, ⟨h / 10 % 10, h % 10, by omega, by omega, ?_, ?_, by omega, by omega, by omega⟩, ⟨mi / 10 % 10, mi % 10, by omega, by omega, ?_, ?_, by omega, by omega, by omega⟩, ⟨s / 10 % 10, s % 10, by omega, by omega, ?_, ?_, by omega, by omega, by omega⟩⟩
  all_goals
    rw [txt_get]
    refine Eq.trans ?_ (dig_nat _ (by omega))
    rfl
theorem txt_sep (y m d h mi s : Nat) : (∀ k : 4 < (txt y m d h mi s).size, (txt y m d h mi s)[4].toNat = 45) ∧ (∀ k : 7 < (txt y m d h mi s).size, (txt y m d h mi s)[7].toNat = 45) ∧ (∀ k : 10 < (txt y m d h mi s).size, (txt y m d h mi s)[10].toNat = 84) ∧ (∀ k : 13 < (txt y m d h mi s).size, (txt y m d h mi s)[13].toNat = 58) ∧ (∀ k : 16 < (txt y m d h mi s).size, (txt y m d h mi s)[16].toNat = 58) := by
  refine ⟨?_, ?_, ?_, ?_, ?_⟩
  all_goals
    intro k
    rw [txt_get]
    rfl
end Go.Proofs.YtmbifoockenniaaDoor
