/-
  An entry's times.
  Meta: an entry's path and node, as one function of the entry.
  How long the text of an entry's name may be.
-/
import Derived.Test.YtjnoapbddifcpaaGreatDoorPkCD
import Derived.Test.YtjnoapbddifcpaaGreatDoorPkCF
import Derived.Test.YtjnoapbddifcpaaGreatDoorPkBI

namespace Go.Proofs.YtjnoapbddifcpaaGreatDoor
set_option maxRecDepth 100000
set_option linter.unusedSimpArgs false
set_option linter.unusedVariables false
open Go.RowKit Go.Joins Go.Deep
theorem dos_ex (n : Nat) : ∃ p : Int × Nat, FdIs n p.1 p.2 := by
  obtain ⟨x, z, h⟩ := sec_ex (fY n : Nat) (fM n : Nat) (fD n : Nat) (fh n : Nat) (fm n : Nat) (fs n : Nat)
  exact ⟨(x, z), h⟩
/-- What a DOS number tells: seconds, an error. -/
noncomputable def dosT (n : Nat) : Int × Nat := Classical.choose (dos_ex n)
theorem dosT_is (n : Nat) : FdIs n (dosT n).1 (dosT n).2 := Classical.choose_spec (dos_ex n)
/-- The two times. -/
def acV (S : StT) (m : Int) : Int × Int × Int := if bits .and .u8 S.f 2 = 0 then (m, m, 0) else (m, wrap64 S.b, 0)
noncomputable def timV (S : StT) (n : Nat) : Int × Int × Int :=
  if S.z = 0 then (if bits .and .u8 S.f 1 = 0 then (if (dosT n).2 = 0 then acV S (dosT n).1 else (0, 0, ((dosT n).2 : Nat))) else acV S (wrap64 S.a)) else (0, 0, S.z)
set_option maxHeartbeats 8000000 in
theorem times_any (F : Array Value) (l1 l2 : List Fd) (n : Nat) (hn : n < 4294967296) (h1 : l1.length ≤ 16384) (h2 : l2.length ≤ 16384) (w : World) (hF : FsV w F l1 l2) (hD1 : (fndD l1 21589).size ≤ maxLen) (hD2 : (fndD l2 21589).size ≤ maxLen) :
    Calls Tryz.prog 49 #[.agg F, .int .u32 (n : Nat)] w fun e w' => e = .returned (.tuple #[.int .i64 (timV (tolV l1 l2) n).1, .int .i64 (timV (tolV l1 l2) n).2.1, .int .i64 (timV (tolV l1 l2) n).2.2]) ∧ Below w.heap.size w w' := by
  have HTO := Lib.hid (fun w1 (hb : Below w.heap.size w w1) => told_any F l1 l2 h1 h2 w1 (hF.below hb) hD1 hD2)
  have HDO := Lib.hid (fun w1 => fromDOS_any hn (dosT_is n) w1)
  obtain ⟨A1, c1, A2, c2, rfl, hf1, hn1, hf2, hn2⟩ := hF
  obtain ⟨V, hV⟩ : ∃ V, V = timV (tolV l1 l2) n := ⟨_, rfl⟩
  rw [← hV]
  unfold timV at hV
  have HV := Lib.hid hV
  clear hV hf1 hf2 hn1 hn2 hD1 hD2
  generalize tolV l1 l2 = S at *
  generalize dosT n = P at *
  generalize l1.length = n1 at *
  generalize l2.length = n2 at *
  obtain ⟨w1, hw1⟩ : ∃ w1, w1 = w.alloc (.cells #[.slice A1 n1 c1, .slice A2 n2 c2] 110) := ⟨_, rfl⟩
  have HB1 : Hid (Below w.heap.size w w1) := by show Below _ _ _; rw [hw1]; exact (Below.refl _ _).alloc (Nat.le_refl _) _
  have HX1 : Hid (w1.heap[w.heap.size]? = some (.cells #[.slice A1 n1 c1, .slice A2 n2 c2] 110 (0, 0))) := by show _ = _; rw [hw1]; exact heap_alloc_new w _
  have HW1 := Lib.hid hw1
  clear hw1
  unfold StT.val at HTO
  go_enter Tryz.func49, Tryz.ntmps49
  go_upto_region 1 with fail
  rw [← HW1.out]
  clear HW1
  go_wp2_with (refine wpList_load_row rfl 110 (.tmp 2) rfl w.heap.size rfl 110 _ (0, 0) _ HX1.out Tryz.underlying110 rfl info_fields ?_)
  refine (HTO.out w1 HB1.out).mono ?_; rintro e w3 ⟨rfl, hb3⟩
  have HB3 := Lib.hid (below_then HB1.out hb3)
  obtain ⟨w4, hw4⟩ : ∃ w4, w4 = w3.alloc (.cells #[.int .u8 S.f, .int .i32 S.a, .int .i32 S.b, .int .i32 S.c] 163) := ⟨_, rfl⟩
  have hb4 : Below w3.heap.size w3 w4 := by rw [hw4]; exact (Below.refl _ _).alloc (Nat.le_refl _) _
  have hx4 : w4.heap[w3.heap.size]? = some (.cells #[.int .u8 S.f, .int .i32 S.a, .int .i32 S.b, .int .i32 S.c] 163 (0, 0)) := by rw [hw4]; exact heap_alloc_new w3 _
  have HX4 := Lib.hid hx4
  have HB4 := Lib.hid (below_then HB3.out hb4)
  have HW4 := Lib.hid hw4
  clear hb3 hb4 hx4 hw4 HTO HB1 HB3
  by_cases hz : S.z = 0
  case neg =>
    have bz : (S.z != 0) = true := bne_iff_ne.2 hz
    have HVV : Hid (V = (0, 0, S.z)) := by show _ = _; rw [HV.out, if_neg hz]
    clear HV HDO
    go_wp2_with fail
    rw [← HW4.out]
    go_ret3
    rw [HVV.out]
    exact ⟨rfl, HB4.out⟩
  have HV2 : Hid (V = if bits .and .u8 S.f 1 = 0 then (if P.2 = 0 then acV S P.1 else (0, 0, (P.2 : Nat))) else acV S (wrap64 S.a)) := by show _ = _; rw [HV.out, if_pos hz]
  clear HV
  have x0 : w4.cell? ⟨w3.heap.size, 0, none⟩ = some (.int .u8 S.f) := cell_of_row _ _ 0 _ _ _ HX4.out
  have x1 : w4.cell? ⟨w3.heap.size, 1, none⟩ = some (.int .i32 S.a) := cell_of_row _ _ 1 _ _ _ HX4.out
  have x2 : w4.cell? ⟨w3.heap.size, 2, none⟩ = some (.int .i32 S.b) := cell_of_row _ _ 2 _ _ _ HX4.out
  go_upto_region 4 with fail
  rw [← HW4.out]
  clear HW4
  by_cases h1b : bits .and .u8 S.f 1 = 0
  · have b1 : (bits .and .u8 S.f 1 == 0) = true := beq_iff_eq.2 h1b
    have HV3 : Hid (V = if P.2 = 0 then acV S P.1 else (0, 0, (P.2 : Nat))) := by show _ = _; rw [HV2.out, if_pos h1b]
    have H1B := Lib.hid h1b
    clear HV2 h1b
    go_wp2_with fail
    refine (HDO.out w4).mono ?_; rintro e w5 ⟨rfl, hb5⟩
    have HB5 := Lib.hid (below_then HB4.out hb5)
    have hx5 := (hb5.block _ (lt_of_block HX4.out)).trans HX4.out
    have x0 : w5.cell? ⟨w3.heap.size, 0, none⟩ = some (.int .u8 S.f) := cell_of_row _ _ 0 _ _ _ hx5
    have x2 : w5.cell? ⟨w3.heap.size, 2, none⟩ = some (.int .i32 S.b) := cell_of_row _ _ 2 _ _ _ hx5
    clear hb5 hx5 HB4 HX4 HDO x1
    obtain ⟨p, q⟩ := P
    by_cases hq : q = 0
    · subst hq
      have HV4 : Hid (V = acV S p) := by show _ = _; rw [HV3.out]; rfl
      clear HV3
      by_cases h2b : bits .and .u8 S.f 2 = 0
      · have b2 : (bits .and .u8 S.f 2 == 0) = true := beq_iff_eq.2 h2b
        have HVV : Hid (V = (p, p, 0)) := by show _ = _; rw [HV4.out]; unfold acV; rw [if_pos h2b]
        have H2B := Lib.hid h2b
        clear HV4 h2b
        go_wp2_with fail
        go_ret3
        rw [HVV.out]
        exact ⟨rfl, HB5.out⟩
      · have b2 : (bits .and .u8 S.f 2 == 0) = false := beq_eq_false_iff_ne.2 h2b
        have HVV : Hid (V = (p, wrap64 S.b, 0)) := by show _ = _; rw [HV4.out]; unfold acV; rw [if_neg h2b]
        clear HV4
        go_upto_region 11 with fail
        go_quiet (fail)
        go_wp2_with fail
        go_ret3
        rw [HVV.out]
        exact ⟨rfl, below_drewN HB5.out _⟩
    · have bq : (((q : Nat) : Int) != 0) = true := by rw [bne_iff_ne]; omega
      have HVV : Hid (V = (0, 0, ((q : Nat) : Int))) := by show _ = _; rw [HV3.out]; exact if_neg hq
      clear HV3
      go_wp2_with fail
      go_ret3
      rw [HVV.out]
      exact ⟨rfl, HB5.out⟩
  · have b1 : (bits .and .u8 S.f 1 == 0) = false := beq_eq_false_iff_ne.2 h1b
    have HV4 : Hid (V = acV S (wrap64 S.a)) := by show _ = _; rw [HV2.out, if_neg h1b]
    clear HV2 HDO
    by_cases h2b : bits .and .u8 S.f 2 = 0
    · have b2 : (bits .and .u8 S.f 2 == 0) = true := beq_iff_eq.2 h2b
      have HVV : Hid (V = (wrap64 S.a, wrap64 S.a, 0)) := by show _ = _; rw [HV4.out]; unfold acV; rw [if_pos h2b]
      have H2B := Lib.hid h2b
      clear HV4 h2b
      go_wp2_with fail
      go_ret3
      rw [HVV.out]
      exact ⟨rfl, HB4.out⟩
    · have b2 : (bits .and .u8 S.f 2 == 0) = false := beq_eq_false_iff_ne.2 h2b
      have HVV : Hid (V = (wrap64 S.a, wrap64 S.b, 0)) := by show _ = _; rw [HV4.out]; unfold acV; rw [if_neg h2b]
      clear HV4
      go_upto_region 11 with fail
      go_quiet (fail)
      go_wp2_with fail
      go_ret3
      rw [HVV.out]
      exact ⟨rfl, below_drewN HB4.out _⟩
end Go.Proofs.YtjnoapbddifcpaaGreatDoor

namespace Go.Proofs.YtjnoapbddifcpaaGreatDoor
set_option maxRecDepth 100000
set_option linter.unusedSimpArgs false
set_option linter.unusedVariables false
open Go.RowKit Go.Joins Go.Deep
/-! ### sizes of fields -/
theorem prs_d (s : ByteArray) (a : Nat) (acc l : List Fd) (h : prs s a acc = some l) (ha : ∀ x ∈ acc, x.d.size ≤ s.size) : ∀ x ∈ l, x.d.size ≤ s.size := by
  fun_induction prs s a acc with
  | case1 a acc h1 => injection h with h; subst h; exact ha
  | case2 a acc h1 h2 ih =>
    refine ih h fun x hx => ?_
    rcases List.mem_append.1 hx with hx | hx
    · exact ha x hx
    · rw [List.mem_singleton] at hx
      subst hx
      show (s.extract _ _).size ≤ _
      rw [ByteArray.size_extract]
      omega
  | case3 => cases h
theorem parL_d (s : ByteArray) : ∀ x ∈ parL s, x.d.size ≤ s.size := by
  unfold parL
  split
  · intro x hx; cases hx
  · cases h : prs s 0 [] with
    | none => intro x hx; cases hx
    | some l => exact prs_d s 0 [] l h (fun x hx => by cases hx)
theorem flL_d (E : Ent) : ∀ x ∈ flL E, x.d.size ≤ E.loc.size := by
  unfold flL
  split
  · exact parL_d _
  · intro x hx; cases hx
theorem flC_d (E : Ent) : ∀ x ∈ flC E, x.d.size ≤ E.ext.size := by
  unfold flC
  split
  · exact parL_d _
  · intro x hx; cases hx
theorem fndD_sz (l : List Fd) (id m : Nat) (h : ∀ x ∈ l, x.d.size ≤ m) : (fndD l id).size ≤ m := by
  unfold fndD
  cases e : l[fx id l]? with
  | none => exact Nat.zero_le _
  | some x => exact h x (List.mem_of_getElem? e)
theorem fl_sz (E : Ent) (hE : EntOk E) : (∀ id, (fndD (flL E ++ flC E) id).size ≤ maxLen) ∧ (∀ id, (fndD (flL E) id).size ≤ maxLen) ∧ (∀ id, (fndD (flC E) id).size ≤ maxLen) := by
  obtain ⟨_, h1, h2, _⟩ := hE
  have a : ∀ x ∈ flL E, x.d.size ≤ maxLen := fun x hx => Nat.le_trans (flL_d E x hx) (by unfold maxLen; omega)
  have b : ∀ x ∈ flC E, x.d.size ≤ maxLen := fun x hx => Nat.le_trans (flC_d E x hx) (by unfold maxLen; omega)
  refine ⟨fun id => fndD_sz _ _ _ fun x hx => ?_, fun id => fndD_sz _ _ _ a, fun id => fndD_sz _ _ _ b⟩
  rcases List.mem_append.1 hx with hx | hx
  · exact a x hx
  · exact b x hx
/-- What Meta answers: a path, a node, an error. -/
structure MeT where
  p : ByteArray
  k : Int
  m : Int
  u : Int
  g : Int
  t : Int
  a : Int
  z : Int
def meE (z : Int) : MeT := ⟨⟨#[]⟩, 0, 0, 0, 0, 0, 0, z⟩
noncomputable def metV (E : Ent) : MeT :=
  if flB E = true then
    (if (patV (flL E ++ flC E) E).2.2 = 0 then
      (if barB E (patV (flL E ++ flC E) E).2.1 = true then
        (if (timV (tolV (flL E) (flC E)) E.time).2.2 = 0 then
          (if (ownTri (flL E ++ flC E)).2.2 = 0 then ⟨(patV (flL E ++ flC E) E).1, barK E (patV (flL E ++ flC E) E).2.1, barM E (patV (flL E ++ flC E) E).2.1, (ownTri (flL E ++ flC E)).1, (ownTri (flL E ++ flC E)).2.1, (timV (tolV (flL E) (flC E)) E.time).1, (timV (tolV (flL E) (flC E)) E.time).2.1, 0⟩
          else meE (ownTri (flL E ++ flC E)).2.2)
        else meE (timV (tolV (flL E) (flC E)) E.time).2.2)
      else meE 42)
    else meE (patV (flL E ++ flC E) E).2.2)
  else meE 24
def MeT.val (x : MeT) : Value := .tuple #[.string x.p, .agg #[.int .i64 x.k, .int .u32 x.m, .int .u32 x.u, .int .u32 x.g, .int .i64 x.t, .int .i64 x.a, .string ⟨#[]⟩], .int .i64 x.z]
end Go.Proofs.YtjnoapbddifcpaaGreatDoor

namespace Go.Proofs.YtjnoapbddifcpaaGreatDoor
set_option maxRecDepth 100000
set_option linter.unusedSimpArgs false
set_option linter.unusedVariables false
open Go.RowKit Go.Joins Go.Deep
open Go.Lib hiding intOf
theorem encN_len (n : Nat) : (encN n).length ≤ 4 := by
  unfold encN encodeRuneZ
  repeat' split
  all_goals simp
theorem decL_len4 : ∀ l : List Nat, (decL l).length ≤ 4 * l.length
  | [] => Nat.le_refl _
  | b :: l => by
    have h := decL_len4 l
    have h2 := encN_len (cpN b)
    unfold decL at h ⊢
    rw [List.flatMap_cons, List.length_append, List.length_cons]
    omega
theorem txC_sz (s : ByteArray) : (txC s).1.size ≤ 4 * s.size := by
  show (text (decL (nums s))).size ≤ _
  rw [text_size]
  have := decL_len4 (nums s)
  rw [nums_len] at this
  exact this
theorem txtV_sz (l : List Fd) (E : Ent) (hnm : E.nm.size ≤ 100000) (hD : (fndD l 28789).size ≤ maxLen) : (txtV l E).1.size ≤ 9223372036854775807 := by
  have h1 := txC_sz E.nm
  have h0 : (⟨#[]⟩ : ByteArray).size = 0 := rfl
  unfold maxLen at hD
  unfold txtV
  split
  · unfold txU
    split
    · exact Nat.zero_le _
    · show E.nm.size ≤ _; omega
  · split
    · omega
    · unfold txP
      split
      · exact Nat.zero_le _
      · split
        · omega
        · split
          · exact Nat.zero_le _
          · show (ByteArray.extract _ _ _).size ≤ _
            rw [ByteArray.size_extract]
            omega
end Go.Proofs.YtjnoapbddifcpaaGreatDoor
