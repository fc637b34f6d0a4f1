/-
  The walk of TailWide.
-/
import Derived.Test.YtlojhklhhdgkcaaTlR
import Derived.Laws.IdiomStrings
namespace Go.Proofs.Ytlojhklhhdgkcaa
set_option maxRecDepth 100000
set_option linter.unusedSimpArgs false
set_option linter.unusedVariables false
open Go.RowKit Go.Joins Go.Deep Go.Op
theorem prW_eq (n m : Nat) : prE n 0 m ⟨#[]⟩ true = .tuple #[.string (wideT n 0 m ++ endT 65535 4294967295 4294967295 ⟨#[]⟩), .int .i64 0] := by
  unfold prE
  rw [if_neg (by show ¬ 65535 < 0; omega), if_pos rfl]
theorem wideX_size (n m : Nat) : (wideT n 0 m ++ endT 65535 4294967295 4294967295 ⟨#[]⟩).size = 98 := by
  rw [ByteArray.size_append, wideT_size, endT_size]; rfl
theorem wideX_tail (n m : Nat) : (wideT n 0 m ++ endT 65535 4294967295 4294967295 ⟨#[]⟩).extract 76 98 = endT 65535 4294967295 4294967295 ⟨#[]⟩ := by
  rw [ByteArray.extract_append_eq_right (wideT_size n 0 m).symm (by rw [wideT_size, endT_size]; rfl)]
set_option maxHeartbeats 8000000 in
theorem tailWide_walk (a : ByteArray) (iN iD : Int) (fa : a.size ≤ maxLen) (fn : (Lit.int .u64 iN).wf = true) (fd : (Lit.int .u16 iD).wf = true) (w : World) :
    Calls Try.prog 3 #[.string a, .int .u64 iN, .int .u16 iD] w fun e w' => e = .returned (.bool true) ∧ Below w.heap.size w w' := by
  obtain ⟨n, rfl, ln⟩ := nat_u64 fn
  obtain ⟨d, rfl, ld⟩ := nat_u16 fd
  unfold maxLen at *
  have HB : Hid (Below w.heap.size w w) := Below.refl _ _
  clear fn fd
  go_enter Try.func3, Try.ntmps3
  go_wp2_with fail
  refine (awake18_any _).mono ?_; rintro r w1 ⟨rfl, hb⟩
  replace HB := Lib.hid (HB.out.trans (hb.mono HB.out.size))
  clear hb
  by_cases hbig : 1000 < a.size
  · have hd : decide ((1000 : Int) < (a.size : Int)) = true := decide_eq_true (by omega)
    go_wp2_with fail
    go_ret
    exact ⟨rfl, HB.out⟩
  have hd : decide ((1000 : Int) < (a.size : Int)) = false := decide_eq_false (by omega)
  have hw1 : IntKind.u64.wrap (a.size : Int) = (a.size : Int) := by rw [IntKind.wrap_u64]; omega
  have HP := Lib.hid (fun w => printT_any 0 n 0 a.size ln (by omega) (by omega) ⟨#[]⟩ (by show 0 ≤ _; omega) true w)
  rw [prW_eq] at HP
  have hXs := wideX_size n a.size
  have HXt := Lib.hid (wideX_tail n a.size)
  have HXd : Hid (a ++ (wideT n 0 a.size ++ endT 65535 4294967295 4294967295 ⟨#[]⟩) = wdX a n 65535) := rfl
  generalize wideT n 0 a.size ++ endT 65535 4294967295 4294967295 ⟨#[]⟩ = X at *
  have hne : (((X.size : Nat) : Int) != 98) = false := by rw [hXs]; rfl
  go_wp2_with fail
  refine (HP.out _).mono ?_; rintro r w2 ⟨rfl, hb⟩
  replace HB := Lib.hid (HB.out.trans (hb.mono HB.out.size))
  clear hb HP
  have HFI1 := Lib.hid (fun w => find_any (a ++ X.extract 76 98) (by rw [HXt.out, ByteArray.size_append, endT_size]; show _ + (22 + 0) ≤ _; omega) w)
  have HAW : Hid ((fdE (a ++ X.extract 76 98)).2 = 31 ∨ ((fdE (a ++ X.extract 76 98)).2 = 0 ∧ 76 ≤ a.size)) := by show _ ∨ _; rw [HXt.out]; exact alone_wide a
  go_wp2_with fail
  refine (HFI1.out _).mono ?_; rintro r w3 ⟨rfl, hb⟩
  replace HB := Lib.hid (HB.out.trans (hb.mono HB.out.size))
  clear hb HFI1
  generalize fdE (a ++ X.extract 76 98) = F at *
  obtain ⟨⟨p1, n1, z1, o1, c1, b1⟩, er⟩ := F
  unfold fdV
  dsimp only at HAW ⊢
  have HB3 := Lib.hid (HB.out.trans (((Below.refl _ _).alloc (Nat.le_refl _) (.cells #[.int .i64 (p1 : Nat), .int .u64 (n1 : Nat), .int .u64 (z1 : Nat), .int .u64 (o1 : Nat), .string c1, .bool b1] 29) : Below w3.heap.size w3 (w3.alloc (.cells #[.int .i64 (p1 : Nat), .int .u64 (n1 : Nat), .int .u64 (z1 : Nat), .int .u64 (o1 : Nat), .string c1, .bool b1] 29))).mono HB.out.size))
  have HSX := Lib.hid (fun w => sh_strings_HasSuffix a (X.extract 0 76) w (by omega))
  generalize Lib.hasSuffix a.data.toList (X.extract 0 76).data.toList = bare at *
  go_wp2_with fail
  generalize w3.alloc (.cells #[.int .i64 (p1 : Nat), .int .u64 (n1 : Nat), .int .u64 (z1 : Nat), .int .u64 (o1 : Nat), .string c1, .bool b1] 29) = w4 at *
  refine (HSX.out _).mono ?_; rintro r w5 ⟨rfl, rfl⟩
  have hconv := run_bytes_of_string (P := Try.prog) w5 9 33 5 (a ++ X) Try.underlying9 Try.underlying33 Try.underlying5
  have hk1 : IntKind.i64.wrap ((a.size : Int) + 76) = (a.size : Int) + 76 := by rw [IntKind.wrap_i64]; omega
  have hk2 : IntKind.i64.wrap ((a.size : Int) + 76 + 8) = ((a.size + 84 : Nat) : Int) := by rw [IntKind.wrap_i64]; omega
  go_upto_region 12 with fail
  have hcells : ∀ j, j < a.size + 98 → ((w5.alloc (.cells (bytesRow (a ++ X) (grownCap w5 (a.size + 98) 0 5)) 5 ((bytesRow (a ++ X) (grownCap w5 (a.size + 98) 0 5)).size, (bytesRow (a ++ X) (grownCap w5 (a.size + 98) 0 5)).size + 1))).drew).cell? ⟨w5.heap.size, j, none⟩ = some (.int .u8 (byAt (wdX a n 65535) j : Nat)) ∧ ((w5.alloc (.cells (bytesRow (a ++ X) (grownCap w5 (a.size + 98) 0 5)) 5 ((bytesRow (a ++ X) (grownCap w5 (a.size + 98) 0 5)).size, (bytesRow (a ++ X) (grownCap w5 (a.size + 98) 0 5)).size + 1))).drew).frozen? ⟨w5.heap.size, j, none⟩ = false := by
    rw [HXd.out]
    intro j hj
    have hj' : j < (wdX a n 65535).size := by rw [wdX_size]; exact hj
    refine ⟨?_, ?_⟩
    · rw [World.cell?_drew, World.cell?_alloc_mark, bytesRow_at _ _ j (by exact hj'), byAt_toNat _ j hj']
      rfl
    · rw [World.frozen?_drew, World.frozen?_alloc_mark]
      have hs : j < (bytesRow (wdX a n 65535) (grownCap w5 (a.size + 98) 0 5)).size := by
        unfold bytesRow
        simp
        omega
      simp
      omega
  have hbW := (HB3.out.alloc HB3.out.size (.cells (bytesRow (a ++ X) (grownCap w5 (a.size + 98) 0 5)) 5 ((bytesRow (a ++ X) (grownCap w5 (a.size + 98) 0 5)).size, (bytesRow (a ++ X) (grownCap w5 (a.size + 98) 0 5)).size + 1))).drew
  generalize (w5.alloc (.cells (bytesRow (a ++ X) (grownCap w5 (a.size + 98) 0 5)) 5 ((bytesRow (a ++ X) (grownCap w5 (a.size + 98) 0 5)).size, (bytesRow (a ++ X) (grownCap w5 (a.size + 98) 0 5)).size + 1))).drew = w6 at *
  generalize grownCap w5 (a.size + 98) 0 5 = cap at *
  have HG := Lib.hid HB3.out.size
  generalize w5.heap.size = g at *
  have HB6 := Lib.hid hbW
  have HC := Lib.hid hcells
  clear hcells hbW hconv HSX HB HB3 hk1 hk2
  have hk3 : IntKind.i64.wrap ((a.size : Int) + 84 + 1) = (a.size : Int) + 85 := by rw [IntKind.wrap_i64]; omega
  have hk4 : IntKind.i64.wrap ((a.size : Int) + 84 + 2) = (a.size : Int) + 86 := by rw [IntKind.wrap_i64]; omega
  have hk5 : IntKind.i64.wrap ((a.size : Int) + 84 + 3) = (a.size : Int) + 87 := by rw [IntKind.wrap_i64]; omega
  obtain ⟨c0, f0⟩ := HC.out (a.size + 84) (by omega)
  obtain ⟨c1', f1'⟩ := HC.out (a.size + 85) (by omega)
  obtain ⟨c2', f2'⟩ := HC.out (a.size + 86) (by omega)
  obtain ⟨c3', f3'⟩ := HC.out (a.size + 87) (by omega)
  have c1 : ∀ V0, (w6.setCell ⟨g, a.size + 84, none⟩ V0).cell? ⟨g, a.size + 85, none⟩ = some (.int .u8 (byAt (wdX a n 65535) (a.size + 85) : Nat)) := fun V0 => by
    rw [World.cell?_setCell_other _ _ _ _ (by intro h; injection h with _ h2; omega), c1']
  have c2 : ∀ V0 V1, ((w6.setCell ⟨g, a.size + 84, none⟩ V0).setCell ⟨g, a.size + 85, none⟩ V1).cell? ⟨g, a.size + 86, none⟩ = some (.int .u8 (byAt (wdX a n 65535) (a.size + 86) : Nat)) := fun V0 V1 => by
    rw [World.cell?_setCell_other _ _ _ _ (by intro h; injection h with _ h2; omega), World.cell?_setCell_other _ _ _ _ (by intro h; injection h with _ h2; omega), c2']
  have c3 : ∀ V0 V1 V2, (((w6.setCell ⟨g, a.size + 84, none⟩ V0).setCell ⟨g, a.size + 85, none⟩ V1).setCell ⟨g, a.size + 86, none⟩ V2).cell? ⟨g, a.size + 87, none⟩ = some (.int .u8 (byAt (wdX a n 65535) (a.size + 87) : Nat)) := fun V0 V1 V2 => by
    rw [World.cell?_setCell_other _ _ _ _ (by intro h; injection h with _ h2; omega), World.cell?_setCell_other _ _ _ _ (by intro h; injection h with _ h2; omega), World.cell?_setCell_other _ _ _ _ (by intro h; injection h with _ h2; omega), c3']
  have f1 : ∀ V0, (w6.setCell ⟨g, a.size + 84, none⟩ V0).frozen? ⟨g, a.size + 85, none⟩ = false := fun V0 => by rw [World.frozen?_setCell, f1']
  have f2 : ∀ V0 V1, ((w6.setCell ⟨g, a.size + 84, none⟩ V0).setCell ⟨g, a.size + 85, none⟩ V1).frozen? ⟨g, a.size + 86, none⟩ = false := fun V0 V1 => by rw [World.frozen?_setCell, World.frozen?_setCell, f2']
  have f3 : ∀ V0 V1 V2, (((w6.setCell ⟨g, a.size + 84, none⟩ V0).setCell ⟨g, a.size + 85, none⟩ V1).setCell ⟨g, a.size + 86, none⟩ V2).frozen? ⟨g, a.size + 87, none⟩ = false := fun V0 V1 V2 => by rw [World.frozen?_setCell, World.frozen?_setCell, World.frozen?_setCell, f3']
  clear c1' c2' c3' f1' f2' f3'
  go_upto_region 13 with fail
  have HD : Hid (∀ j, j < a.size + 98 → ((((w6.setCell ⟨g, a.size + 84, none⟩ (.int .u8 ((d : Int) % 256))).setCell ⟨g, a.size + 85, none⟩ (.int .u8 ((d : Int) / 256))).setCell ⟨g, a.size + 86, none⟩ (.int .u8 ((d : Int) % 256))).setCell ⟨g, a.size + 87, none⟩ (.int .u8 ((d : Int) / 256))).cell? ⟨g, j, none⟩ = some (.int .u8 (byAt (wdX a n d) j : Nat))) := by
    show ∀ j, _
    intro j hj
    obtain ⟨cj, _⟩ := HC.out j hj
    rw [wdX_at]
    have e1 : ((d : Int) % 256) = ((d % 256 : Nat) : Int) := by omega
    have e2 : ((d : Int) / 256) = ((d / 256 % 256 : Nat) : Int) := by omega
    by_cases h3 : j = a.size + 84 + 3
    · rw [if_neg (by omega), if_neg (by omega), if_neg (by omega), if_pos h3]
      subst h3
      rw [World.cell?_setCell_same _ _ _ (c3 _ _ _), e2]
    · rw [World.cell?_setCell_other _ _ _ _ (by intro h; injection h with _ h2; omega)]
      by_cases h2 : j = a.size + 84 + 2
      · rw [if_neg (by omega), if_neg (by omega), if_pos h2]
        subst h2
        rw [World.cell?_setCell_same _ _ _ (c2 _ _), e1]
      · rw [World.cell?_setCell_other _ _ _ _ (by intro h; injection h with _ h2; omega)]
        by_cases h1 : j = a.size + 84 + 1
        · rw [if_neg (by omega), if_pos h1]
          subst h1
          rw [World.cell?_setCell_same _ _ _ (c1 _), e2]
        · rw [World.cell?_setCell_other _ _ _ _ (by intro h; injection h with _ h2; omega)]
          by_cases h0 : j = a.size + 84
          · rw [if_pos h0]
            subst h0
            rw [World.cell?_setCell_same _ _ _ c0, e1]
          · rw [World.cell?_setCell_other _ _ _ _ (by intro h; injection h with _ h2; omega), if_neg h0, if_neg h1, if_neg h2, if_neg h3, cj]
  have HB7 : Hid (Below w.heap.size w ((((w6.setCell ⟨g, a.size + 84, none⟩ (.int .u8 ((d : Int) % 256))).setCell ⟨g, a.size + 85, none⟩ (.int .u8 ((d : Int) / 256))).setCell ⟨g, a.size + 86, none⟩ (.int .u8 ((d : Int) % 256))).setCell ⟨g, a.size + 87, none⟩ (.int .u8 ((d : Int) / 256)))) := (((HB6.out.setCell (p := ⟨g, a.size + 84, none⟩) HG.out _).setCell (p := ⟨g, a.size + 85, none⟩) HG.out _).setCell (p := ⟨g, a.size + 86, none⟩) HG.out _).setCell (p := ⟨g, a.size + 87, none⟩) HG.out _
  generalize (((w6.setCell ⟨g, a.size + 84, none⟩ (.int .u8 ((d : Int) % 256))).setCell ⟨g, a.size + 85, none⟩ (.int .u8 ((d : Int) / 256))).setCell ⟨g, a.size + 86, none⟩ (.int .u8 ((d : Int) % 256))).setCell ⟨g, a.size + 87, none⟩ (.int .u8 ((d : Int) / 256)) = w7 at *
  clear c0 c1 c2 c3 f0 f1 f2 f3 HC HB6 hk3 hk4 hk5
  have hback : (convert 33 9 (.slice (some ⟨g, 0, none⟩) (a.size + 98) cap)).run Try.prog w7 = .ok (.string (wdX a n d)) w7 := by
    have h := run_convert_bytes_back (P := Try.prog) w7 33 9 5 ⟨g, 0, none⟩ cap (wdX a n d).data.toList Try.underlying33 Try.underlying5 Try.underlying9 (fun j hj => by
      have hj' : j < (wdX a n d).size := hj
      rw [Addr.add_lit, Nat.zero_add, HD.out j (by rw [wdX_size] at hj'; exact hj'), byAt_toNat _ j hj'])
    rw [show (wdX a n d).data.toList.length = a.size + 98 from wdX_size a n d] at h
    exact h
  have HFI2 := Lib.hid (fun w => find_any (wdX a n d) (by rw [wdX_size]; omega) w)
  have HBO := Lib.hid (back_other a n d ln ld (by omega))
  have HFE : Hid (wdX a n d = a ++ (wideT n 0 a.size ++ endT d 4294967295 4294967295 ⟨#[]⟩)) := rfl
  rw [← HFE.out] at HBO
  clear HFE HD
  generalize wdX a n d = Z at *
  go_wp2_with fail
  refine (HFI2.out _).mono ?_; rintro r w8 ⟨rfl, hb⟩
  have HB8 := Lib.hid (HB7.out.trans (hb.mono HB7.out.size))
  clear hb HFI2 HB7 hback
  have hwd : IntKind.u64.wrap (d : Int) = (d : Int) := by rw [IntKind.wrap_u64]; omega
  by_cases hq : d = 65535 ∨ d = n
  · have e := HBO.out.1 hq
    rw [e]
    clear e HBO
    have HA : Hid ((w8.alloc (.cells #[.int .i64 (a.size : Int), .int .u64 (n : Nat), .int .u64 0, .int .u64 (a.size : Nat), .string ⟨#[]⟩, .bool true] 29)).heap[w8.heap.size]? = some (.cells #[.int .i64 (a.size : Int), .int .u64 (n : Nat), .int .u64 0, .int .u64 (a.size : Nat), .string ⟨#[]⟩, .bool true] 29 (0, 0))) := heap_alloc_new _ _
    have HB9 := Lib.hid (HB8.out.trans (((Below.refl _ _).alloc (Nat.le_refl _) (.cells #[.int .i64 (a.size : Int), .int .u64 (n : Nat), .int .u64 0, .int .u64 (a.size : Nat), .string ⟨#[]⟩, .bool true] 29) : Below w8.heap.size w8 (w8.alloc (.cells #[.int .i64 (a.size : Int), .int .u64 (n : Nat), .int .u64 0, .int .u64 (a.size : Nat), .string ⟨#[]⟩, .bool true] 29))).mono HB8.out.size))
    have x1 : (w8.alloc (.cells #[.int .i64 (a.size : Int), .int .u64 (n : Nat), .int .u64 0, .int .u64 (a.size : Nat), .string ⟨#[]⟩, .bool true] 29)).cell? ⟨w8.heap.size, 1, none⟩ = some (.int .u64 (n : Nat)) := by rw [Lib.cell_of_heap HA.out]; rfl
    have x5 : (w8.alloc (.cells #[.int .i64 (a.size : Int), .int .u64 (n : Nat), .int .u64 0, .int .u64 (a.size : Nat), .string ⟨#[]⟩, .bool true] 29)).cell? ⟨w8.heap.size, 5, none⟩ = some (.bool true) := by rw [Lib.cell_of_heap HA.out]; rfl
    unfold fdV
    go_upto_region 14 with fail
    generalize w8.alloc (.cells #[.int .i64 (a.size : Int), .int .u64 (n : Nat), .int .u64 0, .int .u64 (a.size : Nat), .string ⟨#[]⟩, .bool true] 29) = w9 at *
    generalize w8.heap.size = g9 at *
    clear HA
    by_cases h1 : d = 65535
    · have e1 : (((d : Nat) : Int) == 65535) = true := beq_iff_eq.2 (by omega)
      clear hq h1
      cases bare with
      | true =>
          go_wp2_with fail
          go_ret
          exact ⟨rfl, HB9.out⟩
      | false =>
          rcases HAW.out with rfl | ⟨rfl, h76⟩
          · have hAW := HAW.out
            clear HAW hAW
            go_wp2_with fail
            go_ret
            exact ⟨rfl, HB9.out⟩
          · have h76d : decide ((76 : Int) ≤ (a.size : Int)) = true := decide_eq_true (by omega)
            clear HAW
            go_wp2_with fail
            go_ret
            exact ⟨rfl, HB9.out⟩
    · have e1 : (((d : Nat) : Int) == 65535) = false := beq_eq_false_iff_ne.2 (by omega)
      have e2 : d = n := by omega
      subst e2
      clear hq h1
      cases bare with
      | true =>
          go_wp2_with fail
          go_ret
          exact ⟨rfl, HB9.out⟩
      | false =>
          rcases HAW.out with rfl | ⟨rfl, h76⟩
          · have hAW := HAW.out
            clear HAW hAW
            go_wp2_with fail
            go_ret
            exact ⟨rfl, HB9.out⟩
          · have h76d : decide ((76 : Int) ≤ (a.size : Int)) = true := decide_eq_true (by omega)
            clear HAW
            go_wp2_with fail
            go_ret
            exact ⟨rfl, HB9.out⟩
  · have e := HBO.out.2 hq
    rw [e]
    clear e HBO
    have HA : Hid ((w8.alloc (.cells #[.int .i64 0, .int .u64 0, .int .u64 0, .int .u64 0, .string ⟨#[]⟩, .bool false] 29)).heap[w8.heap.size]? = some (.cells #[.int .i64 0, .int .u64 0, .int .u64 0, .int .u64 0, .string ⟨#[]⟩, .bool false] 29 (0, 0))) := heap_alloc_new _ _
    have HB9 := Lib.hid (HB8.out.trans (((Below.refl _ _).alloc (Nat.le_refl _) (.cells #[.int .i64 0, .int .u64 0, .int .u64 0, .int .u64 0, .string ⟨#[]⟩, .bool false] 29) : Below w8.heap.size w8 (w8.alloc (.cells #[.int .i64 0, .int .u64 0, .int .u64 0, .int .u64 0, .string ⟨#[]⟩, .bool false] 29))).mono HB8.out.size))
    have x1 : (w8.alloc (.cells #[.int .i64 0, .int .u64 0, .int .u64 0, .int .u64 0, .string ⟨#[]⟩, .bool false] 29)).cell? ⟨w8.heap.size, 1, none⟩ = some (.int .u64 0) := by rw [Lib.cell_of_heap HA.out]; rfl
    have x5 : (w8.alloc (.cells #[.int .i64 0, .int .u64 0, .int .u64 0, .int .u64 0, .string ⟨#[]⟩, .bool false] 29)).cell? ⟨w8.heap.size, 5, none⟩ = some (.bool false) := by rw [Lib.cell_of_heap HA.out]; rfl
    unfold fdV
    go_upto_region 14 with fail
    generalize w8.alloc (.cells #[.int .i64 0, .int .u64 0, .int .u64 0, .int .u64 0, .string ⟨#[]⟩, .bool false] 29) = w9 at *
    generalize w8.heap.size = g9 at *
    clear HA
    have e1 : (((d : Nat) : Int) == 65535) = false := beq_eq_false_iff_ne.2 (by omega)
    have e2 : (((d : Nat) : Int) == ((n : Nat) : Int)) = false := beq_eq_false_iff_ne.2 (by omega)
    clear hq
    cases bare with
    | true =>
        go_wp2_with fail
        go_ret
        exact ⟨rfl, HB9.out⟩
    | false =>
        rcases HAW.out with rfl | ⟨rfl, h76⟩
        · have hAW := HAW.out
          clear HAW hAW
          go_wp2_with fail
          go_ret
          exact ⟨rfl, HB9.out⟩
        · have h76d : decide ((76 : Int) ≤ (a.size : Int)) = true := decide_eq_true (by omega)
          clear HAW
          go_wp2_with fail
          go_ret
          exact ⟨rfl, HB9.out⟩
end Go.Proofs.Ytlojhklhhdgkcaa
