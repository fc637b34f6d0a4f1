/-
  The walk of StampTexts.
-/
import Derived.Test.YtmbifoockenniaaDoorStT
import Derived.Test.YtmbifoockenniaaDoorStO
import Derived.Deep.RegionHeld3
import Derived.Deep.DrawnRows
namespace Go.Proofs.YtmbifoockenniaaDoor
set_option maxRecDepth 100000
open Go.RowKit Go.Joins Go.Deep
attribute [local go_sem ↓] Go.wp_at_zero Go.wp_at_succ
attribute [local irreducible] txt

set_option maxHeartbeats 4000000 in
theorem texts_no (a0 : Int) (HO : a0 < -62135596800 ∨ 253402300799 < a0) (w : World) (hp : Pow w) :
    Calls Tryd.prog 6 #[.int .i64 a0] w fun e w' => e = .returned (.bool true) ∧ Below w.heap.size w w' := by
  have H1 := Lib.hid (fun w => of_n a0 HO w)
  have HZ := zero_date
  clear HO
  go_enter Tryd.func6, Tryd.ntmps6
  go_wp2_with fail
  refine (awake12_any _ hp).mono ?_; rintro e w0 ⟨rfl, hk⟩
  have HB0 := Lib.hid hk
  clear hk hp
  go_wp2_with fail
  refine (H1.out _).mono ?_; rintro e w1 ⟨rfl, hk⟩
  have hb1 := below_then HB0.out hk
  have HB2 := Lib.hid (hb1.alloc hb1.size (.cells #[.int .i64 0, .int .i64 0, .int .i64 0, .int .i64 0, .int .i64 0, .int .i64 0] 23))
  have hx := heap_alloc_new w1 (.cells #[.int .i64 0, .int .i64 0, .int .i64 0, .int .i64 0, .int .i64 0, .int .i64 0] 23)
  obtain ⟨x0, x1, x2, x3, x4, x5⟩ := cells6 hx
  clear hk hb1 hx HB0 H1
  go_wp2_with fail
  go_ret
  exact ⟨rfl, HB2.out⟩

set_option maxHeartbeats 20000000 in
theorem texts_yes (y m d h mi s : Nat) (a0 : Int) (HO : OfIs a0 y m d h mi s 0) (w : World) (hp : Pow w) :
    Calls Tryd.prog 6 #[.int .i64 a0] w fun e w' => e = .returned (.bool true) ∧ Below w.heap.size w w' := by
  obtain ⟨by1, bm, bd, bh, bmi, bs, _⟩ := HO.bd
  have H1 := Lib.hid (fun w => of_any HO w)
  have H2 := Lib.hid (fun w => text_any y m d h mi s by1 bm bd bh bmi bs w)
  obtain ⟨t0, t2, t5, t8, t11, t14, t17⟩ := txt_two y m d h mi s by1 bm bd bh bmi bs
  obtain ⟨s4, s7, s10, s13, s16⟩ := txt_sep y m d h mi s
  have hsz := txt_size y m d h mi s
  generalize txt y m d h mi s = T at *
  obtain ⟨N0, hN0⟩ : ∃ N0, N0 = y / 100 := ⟨_, rfl⟩
  obtain ⟨N2, hN2⟩ : ∃ N2, N2 = y % 100 := ⟨_, rfl⟩
  rw [← hN0] at t0
  rw [← hN2] at t2
  have l0 : N0 ≤ 99 := by omega
  have l2 : N2 ≤ 99 := by omega
  have hY : Hid (((N0 : Nat) : Int) * 100 + (N2 : Nat) = (y : Nat)) := by show _ = _; omega
  have hw1 : IntKind.i64.wrap (((N0 : Nat) : Int) * 100) = ((N0 : Nat) : Int) * 100 := by rw [IntKind.wrap_i64]; omega
  have hw2 : IntKind.i64.wrap (((N0 : Nat) : Int) * 100 + (N2 : Nat)) = (y : Nat) := by have := hY.out; rw [IntKind.wrap_i64]; omega
  clear HO hN0 hN2 hY
  obtain ⟨V, hV, v0, v2, v5, v8, v11, v14, v17⟩ : ∃ V : Int → Nat, (∀ p : Int, (p = 0 ∨ p = 2 ∨ p = 5 ∨ p = 8 ∨ p = 11 ∨ p = 14 ∨ p = 17) → ∀ (g : Nat) (w : World), w.cell? ⟨g, 0, none⟩ = some (.string T) → Calls Tryd.prog 21 #[.int .i64 p, .pointer (some ⟨g, 0, none⟩)] w fun e w' => e = .returned (.int .i64 (V p : Nat)) ∧ ∃ n, w' = w.drewN n) ∧ V 0 = N0 ∧ V 2 = N2 ∧ V 5 = m ∧ V 8 = d ∧ V 11 = h ∧ V 14 = mi ∧ V 17 = s := by
    refine ⟨fun p => if p = 0 then N0 else if p = 2 then N2 else if p = 5 then m else if p = 8 then d else if p = 11 then h else if p = 14 then mi else s, ?_, rfl, rfl, rfl, rfl, rfl, rfl, rfl⟩
    intro p hp g w hc
    rcases hp with rfl | rfl | rfl | rfl | rfl | rfl | rfl
    · exact clo_two t0 hsz g w hc
    · exact clo_two t2 hsz g w hc
    · exact clo_two t5 hsz g w hc
    · exact clo_two t8 hsz g w hc
    · exact clo_two t11 hsz g w hc
    · exact clo_two t14 hsz g w hc
    · exact clo_two t17 hsz g w hc
  have HV := Lib.hid hV
  clear hV
  clear t0 t2 t5 t8 t11 t14 t17
  have s4' := s4 (by omega)
  have s7' := s7 (by omega)
  have s10' := s10 (by omega)
  have s13' := s13 (by omega)
  have s16' := s16 (by omega)
  have hmf : ∀ (fn : Fn) (first cap : Array Value) (w : World), (Instr.makeFunc fn first cap).run Tryd.prog w = .ok (.func fn first cap) w := fun _ _ _ _ => rfl
  go_enter Tryd.func6, Tryd.ntmps6
  go_wp2_with fail
  refine (awake12_any _ hp).mono ?_; rintro e w0 ⟨rfl, hk⟩
  have HB0 := Lib.hid hk
  have hp0 := Lib.hid (hp.below hk)
  clear hk hp
  go_wp2_with fail
  refine (H1.out _).mono ?_; rintro e w1 ⟨rfl, hk⟩
  have hb1 := below_then HB0.out hk
  have HB2 := Lib.hid (hb1.alloc hb1.size (.cells #[.int .i64 (y : Nat), .int .i64 (m : Nat), .int .i64 (d : Nat), .int .i64 (h : Nat), .int .i64 (mi : Nat), .int .i64 (s : Nat)] 23))
  have hx := heap_alloc_new w1 (.cells #[.int .i64 (y : Nat), .int .i64 (m : Nat), .int .i64 (d : Nat), .int .i64 (h : Nat), .int .i64 (mi : Nat), .int .i64 (s : Nat)] 23)
  have HP2 := Lib.hid ((hp0.out.below hk).below ((Below.refl w1.heap.size w1).alloc (Nat.le_refl _) (.cells #[.int .i64 (y : Nat), .int .i64 (m : Nat), .int .i64 (d : Nat), .int .i64 (h : Nat), .int .i64 (mi : Nat), .int .i64 (s : Nat)] 23)))
  obtain ⟨x0, x1, x2, x3, x4, x5⟩ := cells6 hx
  clear hk hb1 HB0 H1 hp0
  go_wp2_with fail
  generalize w1.alloc (.cells #[.int .i64 (y : Nat), .int .i64 (m : Nat), .int .i64 (d : Nat), .int .i64 (h : Nat), .int .i64 (mi : Nat), .int .i64 (s : Nat)] 23) = wb at *
  generalize w1.heap.size = gx at *
  refine (H2.out _ HP2.out).mono ?_; rintro e w2 ⟨rfl, hk⟩
  have hb3 := below_then HB2.out hk
  have HB3 := Lib.hid (hb3.alloc hb3.size (.cells #[.string T] 9))
  have hx2 := (hk.block _ (lt_of_heap hx)).trans hx
  have hx3 := (Below.heap_alloc w2 (.cells #[.string T] 9) _ (lt_of_heap hx2)).trans hx2
  have hy := heap_alloc_new w2 (.cells #[.string T] 9)
  have hg : (w2.alloc (.cells #[.string T] 9)).cell? ⟨w2.heap.size, 0, none⟩ = some (.string T) := by rw [cell_of_row _ _ 0 _ _ _ hy]; rfl
  clear x0 x1 x2 x3 x4 x5
  obtain ⟨x0, x1, x2, x3, x4, x5⟩ := cells6 hx3
  clear hk hb3 H2 HP2 HB2 hx hx2 hx3 hy
  go_upto_region 8 with fail
  generalize w2.alloc (.cells #[.string T] 9) = wc at *
  generalize w2.heap.size = gy at *
  have K : Hid (∀ (p : Int) (a : World), (p = 0 ∨ p = 2 ∨ p = 5 ∨ p = 8 ∨ p = 11 ∨ p = 14 ∨ p = 17) → Below w.heap.size w a → (a.cell? ⟨gx, 0, none⟩ = some (.int .i64 (y : Nat)) ∧ a.cell? ⟨gx, 1, none⟩ = some (.int .i64 (m : Nat)) ∧ a.cell? ⟨gx, 2, none⟩ = some (.int .i64 (d : Nat)) ∧ a.cell? ⟨gx, 3, none⟩ = some (.int .i64 (h : Nat)) ∧ a.cell? ⟨gx, 4, none⟩ = some (.int .i64 (mi : Nat)) ∧ a.cell? ⟨gx, 5, none⟩ = some (.int .i64 (s : Nat)) ∧ a.cell? ⟨gy, 0, none⟩ = some (.string T)) → Calls Tryd.prog 21 #[.int .i64 p, .pointer (some ⟨gy, 0, none⟩)] a fun e b => e = .returned (.int .i64 (V p : Nat)) ∧ (b.cell? ⟨gx, 0, none⟩ = some (.int .i64 (y : Nat)) ∧ b.cell? ⟨gx, 1, none⟩ = some (.int .i64 (m : Nat)) ∧ b.cell? ⟨gx, 2, none⟩ = some (.int .i64 (d : Nat)) ∧ b.cell? ⟨gx, 3, none⟩ = some (.int .i64 (h : Nat)) ∧ b.cell? ⟨gx, 4, none⟩ = some (.int .i64 (mi : Nat)) ∧ b.cell? ⟨gx, 5, none⟩ = some (.int .i64 (s : Nat)) ∧ b.cell? ⟨gy, 0, none⟩ = some (.string T)) ∧ Below w.heap.size w b) := fun p a hc hb hS => (HV.out p hc gy a hS.2.2.2.2.2.2).mono fun e b ⟨he, n, hn⟩ => by subst hn; exact ⟨he, hS, below_drewN hb _⟩
  have HI := HB3.out
  clear HV HB3
  simp only [List.append_eq, List.cons_append, List.nil_append]
  go_region_held3 (fun w' => w'.cell? ⟨gx, 0, none⟩ = some (.int .i64 (y : Nat)) ∧ w'.cell? ⟨gx, 1, none⟩ = some (.int .i64 (m : Nat)) ∧ w'.cell? ⟨gx, 2, none⟩ = some (.int .i64 (d : Nat)) ∧ w'.cell? ⟨gx, 3, none⟩ = some (.int .i64 (h : Nat)) ∧ w'.cell? ⟨gx, 4, none⟩ = some (.int .i64 (mi : Nat)) ∧ w'.cell? ⟨gx, 5, none⟩ = some (.int .i64 (s : Nat)) ∧ w'.cell? ⟨gy, 0, none⟩ = some (.string T)) (go_keep) ((go_at_call 21; (refine (K.out _ _ (by first | exact .inl rfl | exact .inr (.inl rfl) | exact .inr (.inr (.inl rfl)) | exact .inr (.inr (.inr (.inl rfl))) | exact .inr (.inr (.inr (.inr (.inl rfl)))) | exact .inr (.inr (.inr (.inr (.inr (.inl rfl))))) | exact .inr (.inr (.inr (.inr (.inr (.inr rfl)))))) (by first | assumption | exact Below.drew (by assumption)) (by go_keep)).mono ?_); rintro e wy ⟨rfl, ⟨n0, n1, n2, n3, n4, n5, n6⟩, nb⟩))
  go_wp2
  go_ret
  exact ⟨rfl, nb⟩
theorem stampTexts_walk (a0 : Int) (_ : (Lit.int .i64 a0).wf = true) (w : World) (hp : Pow w) :
    Calls Tryd.prog 6 #[.int .i64 a0] w fun e w' => e = .returned (.bool true) ∧ Below w.heap.size w w' := by
  obtain ⟨y, m, d, h, mi, s, z, HO⟩ := of_ex a0
  cases HO with
  | yes y m d s hd ht => exact texts_yes y m d _ _ _ a0 (.yes y m d s hd ht) w hp
  | no h => exact texts_no a0 h w hp
end Go.Proofs.YtmbifoockenniaaDoor
