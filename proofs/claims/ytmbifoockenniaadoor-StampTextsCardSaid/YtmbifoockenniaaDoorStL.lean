/-
  Contracts: Text.
-/
import Derived.Test.YtmbifoockenniaaDoorStK
import Derived.Deep.RegionHeld3
import Derived.Deep.DrawnRows
namespace Go.Proofs.YtmbifoockenniaaDoor
set_option maxRecDepth 100000
open Go.RowKit Go.Joins Go.Deep Go.Sort
attribute [local go_sem ↓] Go.wp_at_zero Go.wp_at_succ
attribute [local go_sem] ByteArray.size_append
attribute [local irreducible] Pow

def dgI (n : Nat) (z : Int) : ByteArray := dgB n z.toNat
theorem dgI_size2 (n : Nat) : (dgI n 2).size = 2 := dgB_size n 2
theorem dgI_size4 (n : Nat) : (dgI n 4).size = 4 := dgB_size n 4
theorem digits_two (n : Nat) (z : Int) (h : (z = 4 ∧ n < 10000) ∨ (z = 2 ∧ n < 100)) (w : World) (hp : Pow w) :
    Calls Tryd.prog 41 #[.int .i64 (n : Nat), .int .i64 z] w fun e w' => e = .returned (.string (dgI n z)) ∧ Below w.heap.size w w' := by
  rcases h with ⟨rfl, h⟩ | ⟨rfl, h⟩
  · exact digits_any n 4 (by omega) (by omega) (by omega) w hp
  · exact digits_any n 2 (by omega) (by omega) (by omega) w hp
attribute [local irreducible] dgI
/-- What Text writes. -/
def txt (y m d h mi s : Nat) : ByteArray := dgI y 4 ++ ⟨#[45]⟩ ++ dgI m 2 ++ ⟨#[45]⟩ ++ dgI d 2 ++ ⟨#[84]⟩ ++ dgI h 2 ++ ⟨#[58]⟩ ++ dgI mi 2 ++ ⟨#[58]⟩ ++ dgI s 2
set_option maxHeartbeats 20000000 in
theorem text_any (y m d h mi s : Nat) (hy : y < 10000) (hm : m < 100) (hd : d < 100) (hh : h < 100) (hmi : mi < 100) (hs : s < 100) (w : World) (hp : Pow w) :
    Calls Tryd.prog 20 #[.agg #[.int .i64 (y : Nat), .int .i64 (m : Nat), .int .i64 (d : Nat), .int .i64 (h : Nat), .int .i64 (mi : Nat), .int .i64 (s : Nat)]] w fun e w' => e = .returned (.string (txt y m d h mi s)) ∧ Below w.heap.size w w' := by
  have hb := (Below.refl w.heap.size w).alloc (Nat.le_refl _) (.cells #[.int .i64 (y : Nat), .int .i64 (m : Nat), .int .i64 (d : Nat), .int .i64 (h : Nat), .int .i64 (mi : Nat), .int .i64 (s : Nat)] 23)
  have hx := heap_alloc_new w (.cells #[.int .i64 (y : Nat), .int .i64 (m : Nat), .int .i64 (d : Nat), .int .i64 (h : Nat), .int .i64 (mi : Nat), .int .i64 (s : Nat)] 23)
  have hp2 : Pow (w.alloc (.cells #[.int .i64 (y : Nat), .int .i64 (m : Nat), .int .i64 (d : Nat), .int .i64 (h : Nat), .int .i64 (mi : Nat), .int .i64 (s : Nat)] 23)) := hp.below hb
  have hs2 := fun n => dgI_size2 n
  have hs4 := fun n => dgI_size4 n
  have hs1 : ∀ c : UInt8, (ByteArray.mk #[c]).size = 1 := fun c => rfl
  have H4 : Hid (∀ (n : Nat) (z : Int) (a : World), ((z = 4 ∧ n < 10000) ∨ (z = 2 ∧ n < 100)) → (Below w.heap.size w a ∧ w.heap.size < a.heap.size ∧ Pow a) → (a.cell? ⟨w.heap.size, 0, none⟩ = some (.int .i64 (y : Nat)) ∧ a.cell? ⟨w.heap.size, 1, none⟩ = some (.int .i64 (m : Nat)) ∧ a.cell? ⟨w.heap.size, 2, none⟩ = some (.int .i64 (d : Nat)) ∧ a.cell? ⟨w.heap.size, 3, none⟩ = some (.int .i64 (h : Nat)) ∧ a.cell? ⟨w.heap.size, 4, none⟩ = some (.int .i64 (mi : Nat)) ∧ a.cell? ⟨w.heap.size, 5, none⟩ = some (.int .i64 (s : Nat))) → Calls Tryd.prog 41 #[.int .i64 (n : Nat), .int .i64 z] a fun e b => e = .returned (.string (dgI n z)) ∧ (b.cell? ⟨w.heap.size, 0, none⟩ = some (.int .i64 (y : Nat)) ∧ b.cell? ⟨w.heap.size, 1, none⟩ = some (.int .i64 (m : Nat)) ∧ b.cell? ⟨w.heap.size, 2, none⟩ = some (.int .i64 (d : Nat)) ∧ b.cell? ⟨w.heap.size, 3, none⟩ = some (.int .i64 (h : Nat)) ∧ b.cell? ⟨w.heap.size, 4, none⟩ = some (.int .i64 (mi : Nat)) ∧ b.cell? ⟨w.heap.size, 5, none⟩ = some (.int .i64 (s : Nat))) ∧ (Below w.heap.size w b ∧ w.heap.size < b.heap.size ∧ Pow b)) := by
    intro n z a hn ⟨ha, hl, hpa⟩ ⟨k0, k1, k2, k3, k4, k5⟩
    refine (digits_two n z hn a hpa).mono fun e b ⟨he, hk⟩ => ?_
    have m : ∀ (i : Nat) (v : Value), a.cell? ⟨w.heap.size, i, none⟩ = some v → b.cell? ⟨w.heap.size, i, none⟩ = some v := fun i v h => (hk.cell (p := ⟨w.heap.size, i, none⟩) hl).trans h
    exact ⟨he, ⟨m _ _ k0, m _ _ k1, m _ _ k2, m _ _ k3, m _ _ k4, m _ _ k5⟩, below_then ha hk, Nat.lt_of_lt_of_le hl hk.size, hpa.below hk⟩
  have drew : ∀ a : World, (Below w.heap.size w a ∧ w.heap.size < a.heap.size ∧ Pow a) → (Below w.heap.size w a.drew ∧ w.heap.size < a.drew.heap.size ∧ Pow a.drew) := fun a ⟨h1, h2, h3⟩ => ⟨h1.drew, h2, h3.below (Below.refl _ a).drew⟩
  have DR := Lib.hid drew
  clear drew
  unfold txt
  go_enter Tryd.func20, Tryd.ntmps20
  go_upto_region 1 with fail
  generalize w.alloc (.cells #[.int .i64 (y : Nat), .int .i64 (m : Nat), .int .i64 (d : Nat), .int .i64 (h : Nat), .int .i64 (mi : Nat), .int .i64 (s : Nat)] 23) = wa at *
  have x0 : wa.cell? ⟨w.heap.size, 0, none⟩ = some (.int .i64 (y : Nat)) := by rw [cell_of_row _ _ 0 _ _ _ hx]; rfl
  have x1 : wa.cell? ⟨w.heap.size, 1, none⟩ = some (.int .i64 (m : Nat)) := by rw [cell_of_row _ _ 1 _ _ _ hx]; rfl
  have x2 : wa.cell? ⟨w.heap.size, 2, none⟩ = some (.int .i64 (d : Nat)) := by rw [cell_of_row _ _ 2 _ _ _ hx]; rfl
  have x3 : wa.cell? ⟨w.heap.size, 3, none⟩ = some (.int .i64 (h : Nat)) := by rw [cell_of_row _ _ 3 _ _ _ hx]; rfl
  have x4 : wa.cell? ⟨w.heap.size, 4, none⟩ = some (.int .i64 (mi : Nat)) := by rw [cell_of_row _ _ 4 _ _ _ hx]; rfl
  have x5 : wa.cell? ⟨w.heap.size, 5, none⟩ = some (.int .i64 (s : Nat)) := by rw [cell_of_row _ _ 5 _ _ _ hx]; rfl
  have HI : (Below w.heap.size w wa ∧ w.heap.size < wa.heap.size ∧ Pow wa) := ⟨hb, lt_of_heap hx, hp2⟩
  clear hx hb hp2
  go_region_held3 (fun w' => w'.cell? ⟨w.heap.size, 0, none⟩ = some (.int .i64 (y : Nat)) ∧ w'.cell? ⟨w.heap.size, 1, none⟩ = some (.int .i64 (m : Nat)) ∧ w'.cell? ⟨w.heap.size, 2, none⟩ = some (.int .i64 (d : Nat)) ∧ w'.cell? ⟨w.heap.size, 3, none⟩ = some (.int .i64 (h : Nat)) ∧ w'.cell? ⟨w.heap.size, 4, none⟩ = some (.int .i64 (mi : Nat)) ∧ w'.cell? ⟨w.heap.size, 5, none⟩ = some (.int .i64 (s : Nat))) (go_keep) ((go_at_call 41; refine (H4.out _ _ _ (by first | exact .inr ⟨rfl, by assumption⟩ | exact .inl ⟨rfl, by assumption⟩) (by first | assumption | exact DR.out _ (by assumption)) (by go_keep)).mono ?_; rintro e wy ⟨rfl, ⟨n0, n1, n2, n3, n4, n5⟩, nb⟩))
  go_wp2
  go_ret
  exact ⟨rfl, nb.1⟩
end Go.Proofs.YtmbifoockenniaaDoor
