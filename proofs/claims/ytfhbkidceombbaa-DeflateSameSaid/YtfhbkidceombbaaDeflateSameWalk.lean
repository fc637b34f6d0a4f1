/-
  The walk of DeflateSame.
-/
import Derived.Test.YtfhbkidceombbaaPkJ
import Derived.Test.YtfhbkidceombbaaShelf
namespace Go.Proofs.Ytfhbkidceombbaa
set_option maxRecDepth 100000
open Go.RowKit Go.Joins Go.Deep

theorem repeatL_one (x : UInt8) (c : Nat) : Lib.repeatL [x] c = List.replicate c x := by
  induction c with
  | zero => rfl
  | succ c ih => simp [Lib.repeatL, List.replicate_succ] at ih ⊢; try exact ih
theorem same_text (x : UInt8) (c i : Nat) (h : i < c) : bt (ByteArray.mk (List.replicate c x).toArray) i = x.toNat := by
  have hs : (ByteArray.mk (List.replicate c x).toArray).size = c := by show (List.replicate c x).toArray.size = c; simp
  have h1 := nums_get (ByteArray.mk (List.replicate c x).toArray) i (by rw [hs]; exact h)
  unfold bt
  rw [List.getD_eq_getElem?_getD, h1]
  show (ByteArray.mk (List.replicate c x).toArray)[i].toNat = _
  congr 1
  show (List.replicate c x).toArray[i]'(by simpa using h) = x
  simp
set_option maxHeartbeats 8000000 in
theorem deflateSame_walk (s o : ByteArray) (lv b : Int) (_w0 : s.size ≤ maxLen) (_w1 : o.size ≤ maxLen) (hlv : (Lit.int .u8 lv).wf = true) (hb : (Lit.int .u8 b).wf = true) (w : World) :
    Calls Try.prog 5 #[.string s, .string o, .int .u8 lv, .int .u8 b] w fun e w' => e = .returned (.bool true) ∧ Below w.heap.size w w' := by
  have HAW := Lib.hid (fun w1 => awake9_any w1)
  have blv : 0 ≤ lv ∧ lv ≤ 255 := by have := hlv; simp [Lit.wf] at this; rw [show IntKind.u8.min = 0 by decide, show IntKind.u8.max = 255 by decide] at this; exact this
  have bb : 0 ≤ b ∧ b ≤ 255 := by have := hb; simp [Lit.wf] at this; rw [show IntKind.u8.min = 0 by decide, show IntKind.u8.max = 255 by decide] at this; exact this
  obtain ⟨n, rfl⟩ : ∃ n : Nat, lv = (n : Nat) := ⟨lv.toNat, by omega⟩
  obtain ⟨y, rfl⟩ : ∃ y : Nat, b = (y : Nat) := ⟨b.toNat, by omega⟩
  have hn : n < 256 := by omega
  have hy : y < 256 := by omega
  clear hlv hb blv bb _w0 _w1
  obtain ⟨k, hk⟩ : ∃ k, k = n % 10 := ⟨_, rfl⟩
  have hk9 : k ≤ 9 := by omega
  obtain ⟨m, hm⟩ : ∃ m, m = max k 1 := ⟨_, rfl⟩
  have hm9 : m ≤ 9 ∧ 1 ≤ m := by omega
  by_cases h1 : 3000 < s.size
  · have g1 : decide ((3000 : Int) < (s.size : Int)) = true := decide_eq_true (by omega)
    go_enter Try.func5, Try.ntmps5
    go_wp2_with fail
    refine (HAW.out _).mono ?_; rintro e w1 ⟨rfl, rfl⟩
    go_wp2_with fail
    all_goals
      go_ret
      exact ⟨rfl, Below.refl _ _⟩
  · have g1 : decide ((3000 : Int) < (s.size : Int)) = false := decide_eq_false (by omega)
    by_cases h2 : 3000 < o.size
    · have g2 : decide ((3000 : Int) < (o.size : Int)) = true := decide_eq_true (by omega)
      go_enter Try.func5, Try.ntmps5
      go_wp2_with fail
      refine (HAW.out _).mono ?_; rintro e w1 ⟨rfl, rfl⟩
      go_wp2_with fail
      go_ret
      exact ⟨rfl, Below.refl _ _⟩
    · have g2 : decide ((3000 : Int) < (o.size : Int)) = false := decide_eq_false (by omega)
      have HS := Lib.hid (fun w1 => deflate_any s k (by omega) hk9 w1)
      have HO := Lib.hid (fun w1 => deflate_any o k (by omega) hk9 w1)
      obtain ⟨T, hT⟩ : ∃ T : ByteArray, T = ⟨(Lib.repeatL [UInt8.ofNat y] 1000).toArray⟩ := ⟨_, rfl⟩
      have hT2 : T = ByteArray.mk (List.replicate 1000 (UInt8.ofNat y)).toArray := by rw [hT, repeatL_one]
      have hTz : T.size = 1000 := by rw [hT2]; show (List.replicate 1000 (UInt8.ofNat y)).toArray.size = 1000; simp
      have HTB : Hid (∀ i, i < 1000 → bt T i = (UInt8.ofNat y).toNat) := by intro i hi; rw [hT2]; exact same_text _ 1000 i hi
      have HR : Hid (∀ w1, Calls Try.prog 20 #[.string (text [y]), .int .i64 1000] w1 fun e w' => e = .returned (.string T) ∧ Below w1.heap.size w1 w') := by
        intro w1
        rw [hT]
        exact sh_strings_Repeat (text [y]) 1000 w1 (by omega) (by show 1 * 1000 ≤ _; omega)
      have HZ := Lib.hid (fun w1 => deflate_any T m (by omega) hm9.1 w1)
      have HSH := Lib.hid (fun j h => dfl_short T m (UInt8.ofNat y).toNat j hm9.2 hTz HTB.out h)
      have HTZ := Lib.hid hTz
      clear hT hT2 hTz HTB
      go_enter Try.func5, Try.ntmps5
      go_wp2_with fail
      refine (HAW.out _).mono ?_; rintro e w1 ⟨rfl, rfl⟩
      have hoc := fun w1 => one_convert w1 y hy
      have hkI : (n : Int) % 10 = ((k : Nat) : Int) := by omega
      have hmI : max ((k : Nat) : Int) 1 = ((m : Nat) : Int) := by omega
      clear hk hm hn hm9
      go_upto_region 6 with fail
      rw [hkI]
      have HMI := Lib.hid hmI
      clear hmI hkI
      go_wp2_with fail
      refine (HS.out _).mono ?_; rintro e w1 ⟨rfl, _, hb1⟩
      have HB1 := Lib.hid hb1
      clear hb1
      generalize dflT s k = D at *
      go_wp2_with fail
      refine (HO.out _).mono ?_; rintro e w2 ⟨rfl, _, hb2⟩
      have HB2 := Lib.hid (below_then HB1.out hb2)
      clear hb2
      go_wp2_with fail
      refine (HS.out _).mono ?_; rintro e w3 ⟨rfl, _, hb3⟩
      have HB3 := Lib.hid (below_then HB2.out hb3)
      have HB4 := Lib.hid (HB3.out.alloc HB3.out.size (.cells #[.int .u8 (y : Nat)] 5))
      clear hb3
      go_wp2_with fail
      refine (HR.out _).mono ?_; rintro e w5 ⟨rfl, hb5⟩
      have HB5 := Lib.hid (below_then HB4.out hb5)
      clear hb5
      go_wp2_with fail
      rw [HMI.out]
      refine (HZ.out _).mono ?_; rintro e w6 ⟨rfl, ⟨j, hj⟩, hb6⟩
      have HB6 := Lib.hid (below_then HB5.out hb6)
      have hsh := HSH.out j hj
      clear hb6 hj
      generalize dflT T m = Z at *
      have g9 : decide ((Z.size : Int) < 100) = true := decide_eq_true (by omega)
      have g8 : decide (Z.size < 100) = true := decide_eq_true hsh
      go_wp2_with fail
      all_goals
        go_ret
        exact ⟨rfl, HB6.out⟩
end Go.Proofs.Ytfhbkidceombbaa
