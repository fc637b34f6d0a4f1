/-
  CP437's upper half: what the package-level variable holds; contracts: runeOf, byteOf.
  Contracts: byteOf; the document's table.
  Contracts: misleads, long, Parts, harmless, readable, Check.
  Contracts: readable, Check; the chapter's examples.
  Mathematics of names that may be paths: what is wrong with a path, by its bytes; its parent's parts; a text cut at a slash has no stray that it had not.
-/
import Derived.Test.YtjnoapbddifcpaaGreatDoorPkAC
import Derived.Test.YtjnoapbddifcpaaGreatDoorPkCA
import Derived.Lib.LaidTab
import Derived.Laws.Rows

namespace Go.Proofs.YtjnoapbddifcpaaGreatDoor
set_option maxRecDepth 100000
open Go.RowKit Go.Deep Go.Joins Go.Lib

def cpL : List Nat := [
  199, 252, 233, 226, 228, 224, 229, 231, 234, 235, 232, 239, 238, 236, 196, 197,
  201, 230, 198, 244, 246, 242, 251, 249, 255, 214, 220, 162, 163, 165, 8359, 402,
  225, 237, 243, 250, 241, 209, 170, 186, 191, 8976, 172, 189, 188, 161, 171, 187,
  9617, 9618, 9619, 9474, 9508, 9569, 9570, 9558, 9557, 9571, 9553, 9559, 9565, 9564, 9563, 9488,
  9492, 9524, 9516, 9500, 9472, 9532, 9566, 9567, 9562, 9556, 9577, 9574, 9568, 9552, 9580, 9575,
  9576, 9572, 9573, 9561, 9560, 9554, 9555, 9579, 9578, 9496, 9484, 9608, 9604, 9612, 9616, 9600,
  945, 223, 915, 960, 931, 963, 181, 964, 934, 920, 937, 948, 8734, 966, 949, 8745,
  8801, 177, 8805, 8804, 8992, 8993, 247, 8776, 176, 8729, 183, 8730, 8319, 178, 9632, 160]
theorem cpL_len : cpL.length = 128 := by decide
theorem cpL_facts : ∀ i, i < 128 → 128 ≤ cpL.getD i 0 ∧ cpL.getD i 0 < 55296 := by decide
def upV : Array Value := (cpL.map fun (n : Nat) => Value.int .i32 (n : Nat)).toArray
/-- What name.upper holds. -/
def Upper (w : World) : Prop := ∃ t fr, w.heap[0]? = some (.cells upV t fr)
theorem Upper.below {w w' : World} (h : Upper w) (hb : Below w.heap.size w w') : Upper w' := by
  obtain ⟨t, fr, h⟩ := h
  exact ⟨t, fr, (hb.block _ (Array.getElem?_eq_some_iff.1 h).1).trans h⟩
theorem upV_at (k : Nat) (hk : k < 128) : upV[k]? = some (.int .i32 ((cpL.getD k 0 : Nat) : Int)) := by
  unfold upV
  rw [List.getElem?_toArray, List.getElem?_map, List.getElem?_eq_getElem (by rw [cpL_len]; exact hk), List.getD_eq_getElem?_getD, List.getElem?_eq_getElem (by rw [cpL_len]; exact hk)]
  rfl
theorem Upper.cell {w : World} (h : Upper w) (k : Nat) (hk : k < 128) : w.cell? ⟨0, k, none⟩ = some (.int .i32 ((cpL.getD k 0 : Nat) : Int)) := by
  obtain ⟨t, fr, h⟩ := h
  rw [Lib.cell_of_heap h]
  exact upV_at k hk
theorem upper_eq : (Rows.laid_portmanteau_name_upper : DataW Unit) = tabData .i32 (cpL.map fun (n : Nat) => (n : Int)) := by kernel_rfl
theorem upper_of {W : World} (h : laidMetH Tryz.prog tabs3 W) : Upper W := by
  rw [MakeChecks.laidMetH_plain _ _ _ (by kernel_rfl)] at h
  obtain ⟨ps, hv, _⟩ := h
  have h1 := LaidVars_reads hv _ Rows.laid_portmanteau_name_upper (.tail _ (.head _))
  rw [upper_eq] at h1
  obtain ⟨g, t, cs, fuel, p, hg, hty, hvar, hd⟩ := h1
  obtain rfl := Option.some.inj ((show Tryz.prog.globalNamed _ = some 0 by kernel_rfl).symm.trans hg)
  obtain rfl := Option.some.inj ((show (Tryz.prog.globals[0]?).map (·.type) = some 270 by kernel_rfl).symm.trans hty)
  have hcs := cells_of_tab (n := 128) (e := 21) Tryz.underlying270 Tryz.underlying21 (by kernel_rfl) (by kernel_rfl) hd
  have he : cs = upV := by
    apply Array.toList_inj.1
    rw [hcs]
    unfold upV
    rw [List.map_map]
    rfl
  subst he
  unfold World.var? at hvar
  rw [hg] at hvar
  simp only [Option.bind_some] at hvar
  split at hvar
  · rename_i cs t fr hh
    injection hvar with e
    subst e
    exact ⟨t, fr, hh⟩
  · cases hvar

/-- A byte's rune by CP437. -/
def cpN (b : Nat) : Nat := if b < 128 then b else cpL.getD (b - 128) 0
theorem runeOf_any (b : Nat) (hb : b < 256) (w : World) (hU : Upper w) :
    Calls Tryz.prog 144 #[.int .u8 (b : Nat)] w fun e w' => e = .returned (.int .i32 (cpN b : Nat)) ∧ w' = w := by
  by_cases h : b < 128
  · have hw : IntKind.i32.wrap (b : Int) = (b : Int) := by unfold IntKind.wrap; simp [IntKind.bits, IntKind.signed]; omega
    have HX : Hid (cpN b = b) := by show _ = _; unfold cpN; rw [if_pos h]
    go_enter Tryz.func144, Tryz.ntmps144
    go_wp2_with fail
    go_ret
    rw [HX.out]
    exact ⟨rfl, rfl⟩
  · have HX : Hid (cpN b = cpL.getD (b - 128) 0) := by show _ = _; unfold cpN; rw [if_neg h]
    obtain ⟨k, hk⟩ : ∃ k, b - 128 = k := ⟨_, rfl⟩
    have hki : (b : Int) - 128 = (k : Int) := by omega
    have hw : IntKind.u8.wrap (k : Int) = (k : Int) := by unfold IntKind.wrap; simp [IntKind.bits, IntKind.signed]; omega
    have hk1 : k < 128 := by omega
    have hc := hU.cell k hk1
    rw [hk] at HX
    clear hk hU
    generalize cpL.getD k 0 = x at *
    go_enter Tryz.func144, Tryz.ntmps144
    go_wp2_with fail
    go_ret
    rw [HX.out]
    exact ⟨rfl, rfl⟩
end Go.Proofs.YtjnoapbddifcpaaGreatDoor

namespace Go.Proofs.YtjnoapbddifcpaaGreatDoor
set_option maxRecDepth 100000
open Go.RowKit Go.Deep Go.Joins Go.Lib

end Go.Proofs.YtjnoapbddifcpaaGreatDoor

namespace Go.Proofs.YtjnoapbddifcpaaGreatDoor
set_option maxRecDepth 100000
open Go.RowKit Go.Deep Go.Joins Go.Lib

/-- May a part lead elsewhere? -/
def misB (p : ByteArray) : Bool := p.toList.isEmpty || (p.toList == [46]) || (p.toList == [46, 46])
def longB (p : ByteArray) : Bool := decide (255 < p.size)
theorem misleads_any (p : ByteArray) (w : World) :
    Calls Tryz.prog 152 #[.string p] w fun e w' => e = .returned (.bool (misB p)) ∧ w' = w := by
  have H : Hid (misB p = (p.toList.isEmpty || (p.toList == [46]) || (p.toList == [46, 46]))) := rfl
  cases h1 : p.toList.isEmpty with
  | true =>
    go_enter Tryz.func152, Tryz.ntmps152
    go_wp2
    go_ret
    rw [H.out, h1]
    exact ⟨rfl, rfl⟩
  | false =>
    cases h2 : (p.toList == [46]) with
    | true =>
      go_enter Tryz.func152, Tryz.ntmps152
      go_wp2
      go_ret
      rw [H.out, h1, h2]
      exact ⟨rfl, rfl⟩
    | false =>
      cases h3 : (p.toList == [46, 46]) with
      | true =>
        go_enter Tryz.func152, Tryz.ntmps152
        go_wp2
        go_ret
        rw [H.out, h1, h2, h3]
        exact ⟨rfl, rfl⟩
      | false =>
        go_enter Tryz.func152, Tryz.ntmps152
        go_wp2
        go_ret
        rw [H.out, h1, h2, h3]
        exact ⟨rfl, rfl⟩
theorem long_any (p : ByteArray) (w : World) :
    Calls Tryz.prog 153 #[.string p] w fun e w' => e = .returned (.bool (longB p)) ∧ w' = w := by
  have H : Hid (longB p = decide (255 < p.size)) := rfl
  generalize hn : p.size = n at *
  by_cases h : 255 < n
  · have h1 : decide ((255 : Int) < (n : Int)) = true := decide_eq_true (by omega)
    go_enter Tryz.func153, Tryz.ntmps153
    go_wp2
    go_ret
    rw [H.out, decide_eq_true h]
    exact ⟨rfl, rfl⟩
  · have h1 : decide ((255 : Int) < (n : Int)) = false := decide_eq_false (by omega)
    go_enter Tryz.func153, Tryz.ntmps153
    go_wp2
    go_ret
    rw [H.out, decide_eq_false h]
    exact ⟨rfl, rfl⟩

/-! ### parts -/
def pcs (s : ByteArray) : List ByteArray := splitB ⟨#[47]⟩ 0 (countB s ⟨#[47]⟩) s
/-- The parts, as texts. -/
def pts (s : ByteArray) : List ByteArray := if s.toList.isEmpty = true then [] else pcs s
theorem isEmpty_nums (s : ByteArray) : s.toList.isEmpty = true ↔ nums s = [] := by
  rw [Lib.toList_data, List.isEmpty_iff]
  unfold nums
  simp
theorem pts_nums (s : ByteArray) : (pts s).map nums = partsL (nums s) := by
  unfold pts partsL
  by_cases h : s.toList.isEmpty = true
  · rw [if_pos h, if_pos ((isEmpty_nums s).1 h)]; rfl
  · rw [if_neg h, if_neg (fun e => h ((isEmpty_nums s).2 e))]
    exact split_nums s
theorem pcs_length (s : ByteArray) : (pcs s).length = countB s ⟨#[47]⟩ + 1 := splitB_all ⟨#[47]⟩ (by decide) 0 _ s rfl
theorem pcs_le (s : ByteArray) : (pcs s).length ≤ s.size + 1 := by
  rw [pcs_length]
  have := countB_le ⟨#[47]⟩ (by decide) s.size s (Nat.le_refl _)
  omega
/-- A slice of texts. -/
def IsPts (w : World) (v : Value) (ss : List ByteArray) : Prop :=
  (ss = [] ∧ v = .slice none 0 0) ∨ (0 < ss.length ∧ ∃ b, v = .slice (some ⟨b, 0, none⟩) ss.length ss.length ∧ b < w.heap.size ∧ ∀ (j : Nat) x, ss[j]? = some x → w.cell? ⟨b, 0 + j, none⟩ = some (.string x))
theorem IsPts.below {w w' : World} {v : Value} {ss : List ByteArray} (h : IsPts w v ss) (hb : Below w.heap.size w w') : IsPts w' v ss := by
  rcases h with h | ⟨h0, b, h1, h2, h3⟩
  · exact .inl h
  · exact .inr ⟨h0, b, h1, Nat.lt_of_lt_of_le h2 hb.size, fun j x hj => (hb.cell (p := ⟨b, 0 + j, none⟩) h2).trans (h3 j x hj)⟩
theorem parts_any (s : ByteArray) (w : World) (hs : s.size < 4294967281) (hE : Env w) :
    Calls Tryz.prog 149 #[.string s] w fun e w' => ∃ v, e = .returned v ∧ IsPts w' v (pts s) ∧ Below w.heap.size w w' := by
  obtain ⟨_, m, hm⟩ := hE
  have HS := Lib.hid (sh_strings_Split s ⟨#[47]⟩ m w hs hm (by decide))
  cases he : s.toList.isEmpty with
  | true =>
    go_enter Tryz.func149, Tryz.ntmps149
    go_wp2
    go_ret
    refine ⟨_, rfl, .inl ⟨?_, rfl⟩, Below.refl _ _⟩
    unfold pts
    rw [he]; rfl
  | false =>
    have HP : Hid (pts s = pcs s) := by show _ = _; unfold pts; rw [he]; rfl
    have HL := Lib.hid (pcs_length s)
    go_enter Tryz.func149, Tryz.ntmps149
    go_wp2_with fail
    refine (HS.out).mono ?_
    rintro e w1 ⟨rfl, rfl⟩
    go_wp2
    go_ret
    refine ⟨.slice (some ⟨w.heap.size, 0, none⟩) (countB s ⟨#[47]⟩ + 1) (countB s ⟨#[47]⟩ + 1), rfl, ?_, (Below.refl _ _).alloc (Nat.le_refl _) _⟩
    rw [HP.out]
    refine .inr ⟨by rw [HL.out]; omega, w.heap.size, by rw [HL.out], by simp, fun j x hj => ?_⟩
    rw [Nat.zero_add, Lib.cell_of_heap (heap_alloc_new w _)]
    show (((pcs s).map Value.string).toArray)[j]? = _
    rw [List.getElem?_toArray, List.getElem?_map, hj]
    rfl

theorem anyOf (g : Nat) (p : ByteArray → Bool) (eg : ∀ args w, (callFunc g args).run Tryz.prog w = .ok (.enter g args) w) (hg : ∀ x w, Calls Tryz.prog g #[.string x] w fun e w' => e = .returned (.bool (p x)) ∧ w' = w) (v : Value) (ss : List ByteArray) (w : World) (h : IsPts w v ss) (hl : ss.length ≤ 9223372036854775807) :
    Calls Tryz.prog 151 #[v, .func (.func g) #[] #[]] w fun e w' => e = .returned (.bool (ss.any p)) ∧ ∃ q, w' = w.drewN q := by
  rcases h with ⟨rfl, rfl⟩ | ⟨h0, b, rfl, h2, h3⟩
  · refine (sh_slices_ContainsFunc_empty (α := ByteArray) none 0 _ w).mono ?_
    rintro e w' ⟨rfl, rfl⟩
    exact ⟨rfl, 0, rfl⟩
  · have h4 := sh_slices_ContainsFunc Value.string p g #[] eg b 0 ss.length ss.length ss w (fun W x _ => (hg x W).mono fun e w' h => ⟨h.1, 0, h.2⟩) (Nat.le_refl _) hl (fun j hj => by
      rw [h3 j ss[j] (List.getElem?_eq_getElem hj), getElem!_pos ss j hj])
    rw [List.take_length] at h4
    exact h4

/-- What is wrong with a path on a disk: 0: nothing. -/
def harmN (s : ByteArray) : Int := if badB s || ((pts s).length == 0) || (pts s).any misB then 21 else if decide (32 < (pts s).length) || (pts s).any longB then 5 else 0
set_option maxHeartbeats 4000000 in
theorem harmless_any (s : ByteArray) (w : World) (hs : s.size < 4294967281) (hE : Env w) :
    Calls Tryz.prog 110 #[.string s] w fun e w' => e = .returned (.int .i64 (harmN s)) ∧ Below w.heap.size w w' := by
  have HP := Lib.hid (parts_any s w hs hE)
  have HC := Lib.hid (fun w => containsAny_any s w hs)
  have hpl : (pts s).length ≤ 4294967282 := by
    unfold pts
    split
    · simp
    · have := pcs_le s; omega
  have HA1 := Lib.hid (fun v w h => anyOf 152 misB (enters_of Tryz.func152 (by kernel_rfl) rfl) misleads_any v (pts s) w h (by omega))
  have HA2 := Lib.hid (fun v w h => anyOf 153 longB (enters_of Tryz.func153 (by kernel_rfl) rfl) long_any v (pts s) w h (by omega))
  have HH : Hid (harmN s = if badB s || ((pts s).length == 0) || (pts s).any misB then 21 else if decide (32 < (pts s).length) || (pts s).any longB then 5 else 0) := rfl
  generalize (pts s).any misB = mis at *
  generalize (pts s).any longB = lon at *
  have HLP : Hid (∀ w v, IsPts w v (pts s) → ∃ a, v = .slice a (pts s).length (pts s).length) := fun w v h => by
    rcases h with ⟨h1, h2⟩ | ⟨_, b, h1, _⟩
    · exact ⟨none, by rw [h1]; exact h2⟩
    · exact ⟨_, h1⟩
  generalize pts s = ss at *
  generalize badB s = bad at *
  cases bad with
  | true =>
    go_enter Tryz.func110, Tryz.ntmps110
    go_wp2_with fail
    refine (HP.out).mono ?_
    rintro e w1 ⟨v, rfl, hv, hb1⟩
    obtain ⟨a, rfl⟩ := HLP.out _ _ hv
    have HB1 := Lib.hid hb1
    clear hv hb1
    go_wp2_with fail
    refine (HC.out _).mono ?_
    rintro e w2 ⟨rfl, hb2⟩
    have HB2 := Lib.hid (below_then HB1.out hb2)
    clear hb2
    go_wp2_with fail
    go_ret
    rw [HH.out]
    exact ⟨rfl, HB2.out⟩
  | false =>
    by_cases h0 : ss.length = 0
    · have g0 : ((ss.length : Int) == 0) = true := by rw [beq_iff_eq]; omega
      have H0 : Hid ((ss.length == 0) = true) := by show _ = _; rw [beq_iff_eq]; exact h0
      clear h0
      go_enter Tryz.func110, Tryz.ntmps110
      go_wp2_with fail
      refine (HP.out).mono ?_
      rintro e w1 ⟨v, rfl, hv, hb1⟩
      obtain ⟨a, rfl⟩ := HLP.out _ _ hv
      have HV := Lib.hid hv
      have HB1 := Lib.hid hb1
      clear hv hb1
      go_wp2_with fail
      refine (HC.out _).mono ?_
      rintro e w2 ⟨rfl, hb2⟩
      have HV2 := Lib.hid (HV.out.below hb2)
      have HB2 := Lib.hid (below_then HB1.out hb2)
      clear hb2
      go_wp2_with fail
      go_ret
      rw [HH.out, H0.out]
      exact ⟨rfl, HB2.out⟩
    · have g0 : ((ss.length : Int) == 0) = false := by rw [beq_eq_false_iff_ne]; omega
      have H0 : Hid ((ss.length == 0) = false) := by show _ = _; rw [beq_eq_false_iff_ne]; exact h0
      clear h0
      cases mis with
      | true =>
        go_enter Tryz.func110, Tryz.ntmps110
        go_wp2_with fail
        refine (HP.out).mono ?_
        rintro e w1 ⟨v, rfl, hv, hb1⟩
        obtain ⟨a, rfl⟩ := HLP.out _ _ hv
        have HV := Lib.hid hv
        have HB1 := Lib.hid hb1
        clear hv hb1
        go_wp2_with fail
        refine (HC.out _).mono ?_
        rintro e w2 ⟨rfl, hb2⟩
        have HV2 := Lib.hid (HV.out.below hb2)
        have HB2 := Lib.hid (below_then HB1.out hb2)
        clear hb2
        go_wp2_with fail
        refine (HA1.out _ _ HV2.out).mono ?_
        rintro e w3 ⟨rfl, hq⟩
        have HB3 : Hid (Below w.heap.size w w3) := by obtain ⟨q, rfl⟩ := hq; exact below_drewN HB2.out q
        have HV3 : Hid (IsPts w3 (.slice a ss.length ss.length) ss) := by obtain ⟨q, rfl⟩ := hq; exact HV2.out.below (below_drewN (Below.refl _ _) q)
        clear hq
        go_wp2_with fail
        go_ret
        rw [HH.out, H0.out]
        exact ⟨rfl, HB3.out⟩
      | false =>
        by_cases h32 : 32 < ss.length
        · have g32 : decide ((32 : Int) < (ss.length : Int)) = true := decide_eq_true (by omega)
          have H32 : Hid (decide (32 < ss.length) = true) := decide_eq_true h32
          clear h32
          go_enter Tryz.func110, Tryz.ntmps110
          go_wp2_with fail
          refine (HP.out).mono ?_
          rintro e w1 ⟨v, rfl, hv, hb1⟩
          obtain ⟨a, rfl⟩ := HLP.out _ _ hv
          have HV := Lib.hid hv
          have HB1 := Lib.hid hb1
          clear hv hb1
          go_wp2_with fail
          refine (HC.out _).mono ?_
          rintro e w2 ⟨rfl, hb2⟩
          have HV2 := Lib.hid (HV.out.below hb2)
          have HB2 := Lib.hid (below_then HB1.out hb2)
          clear hb2
          go_wp2_with fail
          refine (HA1.out _ _ HV2.out).mono ?_
          rintro e w3 ⟨rfl, hq⟩
          have HB3 : Hid (Below w.heap.size w w3) := by obtain ⟨q, rfl⟩ := hq; exact below_drewN HB2.out q
          have HV3 : Hid (IsPts w3 (.slice a ss.length ss.length) ss) := by obtain ⟨q, rfl⟩ := hq; exact HV2.out.below (below_drewN (Below.refl _ _) q)
          clear hq
          go_wp2_with fail
          go_ret
          rw [HH.out, H0.out, H32.out]
          exact ⟨rfl, HB3.out⟩
        · have g32 : decide ((32 : Int) < (ss.length : Int)) = false := decide_eq_false (by omega)
          have H32 : Hid (decide (32 < ss.length) = false) := decide_eq_false h32
          clear h32
          cases lon with
          | true =>
            go_enter Tryz.func110, Tryz.ntmps110
            go_wp2_with fail
            refine (HP.out).mono ?_
            rintro e w1 ⟨v, rfl, hv, hb1⟩
            obtain ⟨a, rfl⟩ := HLP.out _ _ hv
            have HV := Lib.hid hv
            have HB1 := Lib.hid hb1
            clear hv hb1
            go_wp2_with fail
            refine (HC.out _).mono ?_
            rintro e w2 ⟨rfl, hb2⟩
            have HV2 := Lib.hid (HV.out.below hb2)
            have HB2 := Lib.hid (below_then HB1.out hb2)
            clear hb2
            go_wp2_with fail
            refine (HA1.out _ _ HV2.out).mono ?_
            rintro e w3 ⟨rfl, hq⟩
            have HB3 : Hid (Below w.heap.size w w3) := by obtain ⟨q, rfl⟩ := hq; exact below_drewN HB2.out q
            have HV3 : Hid (IsPts w3 (.slice a ss.length ss.length) ss) := by obtain ⟨q, rfl⟩ := hq; exact HV2.out.below (below_drewN (Below.refl _ _) q)
            clear hq
            go_wp2_with fail
            refine (HA2.out _ _ HV3.out).mono ?_
            rintro e w4 ⟨rfl, hq⟩
            have HB4 : Hid (Below w.heap.size w w4) := by obtain ⟨q, rfl⟩ := hq; exact below_drewN HB3.out q
            clear hq
            go_wp2_with fail
            go_ret
            rw [HH.out, H0.out, H32.out]
            exact ⟨rfl, HB4.out⟩
          | false =>
            go_enter Tryz.func110, Tryz.ntmps110
            go_wp2_with fail
            refine (HP.out).mono ?_
            rintro e w1 ⟨v, rfl, hv, hb1⟩
            obtain ⟨a, rfl⟩ := HLP.out _ _ hv
            have HV := Lib.hid hv
            have HB1 := Lib.hid hb1
            clear hv hb1
            go_wp2_with fail
            refine (HC.out _).mono ?_
            rintro e w2 ⟨rfl, hb2⟩
            have HV2 := Lib.hid (HV.out.below hb2)
            have HB2 := Lib.hid (below_then HB1.out hb2)
            clear hb2
            go_wp2_with fail
            refine (HA1.out _ _ HV2.out).mono ?_
            rintro e w3 ⟨rfl, hq⟩
            have HB3 : Hid (Below w.heap.size w w3) := by obtain ⟨q, rfl⟩ := hq; exact below_drewN HB2.out q
            have HV3 : Hid (IsPts w3 (.slice a ss.length ss.length) ss) := by obtain ⟨q, rfl⟩ := hq; exact HV2.out.below (below_drewN (Below.refl _ _) q)
            clear hq
            go_wp2_with fail
            refine (HA2.out _ _ HV3.out).mono ?_
            rintro e w4 ⟨rfl, hq⟩
            have HB4 : Hid (Below w.heap.size w w4) := by obtain ⟨q, rfl⟩ := hq; exact below_drewN HB3.out q
            clear hq
            go_wp2_with fail
            go_ret
            rw [HH.out, H0.out, H32.out]
            exact ⟨rfl, HB4.out⟩
end Go.Proofs.YtjnoapbddifcpaaGreatDoor

namespace Go.Proofs.YtjnoapbddifcpaaGreatDoor
set_option maxRecDepth 100000
open Go.RowKit Go.Deep Go.Joins Go.Lib

/-- What is wrong with a name: 0: nothing. -/
def readN (s : ByteArray) : Int := if decide (65535 < s.size) then 5 else if s.toList.isEmpty || straysB s then 20 else 0
theorem readable_any (s : ByteArray) (w : World) :
    Calls Tryz.prog 108 #[.string s] w fun e w' => e = .returned (.int .i64 (readN s)) ∧ Below w.heap.size w w' := by
  have HS := Lib.hid (fun w => strays_any s w)
  have HR : Hid (readN s = if decide (65535 < s.size) then 5 else if s.toList.isEmpty || straysB s then 20 else 0) := rfl
  generalize straysB s = st at *
  by_cases h1 : 65535 < s.size
  · have g1 : decide ((65535 : Int) < (s.size : Int)) = true := decide_eq_true (by omega)
    have H1 : Hid (decide (65535 < s.size) = true) := decide_eq_true h1
    clear h1
    go_enter Tryz.func108, Tryz.ntmps108
    go_wp2
    go_ret
    rw [HR.out, H1.out]
    exact ⟨rfl, Below.refl _ _⟩
  · have g1 : decide ((65535 : Int) < (s.size : Int)) = false := decide_eq_false (by omega)
    have H1 : Hid (decide (65535 < s.size) = false) := decide_eq_false h1
    clear h1
    cases h2 : s.toList.isEmpty with
    | true =>
      go_enter Tryz.func108, Tryz.ntmps108
      go_wp2
      go_ret
      rw [HR.out, H1.out, h2]
      exact ⟨rfl, Below.refl _ _⟩
    | false =>
      cases st with
      | true =>
        go_enter Tryz.func108, Tryz.ntmps108
        go_wp2_with fail
        refine (HS.out _).mono ?_
        rintro e w1 ⟨rfl, hb⟩
        go_wp2
        go_ret
        rw [HR.out, H1.out, h2]
        exact ⟨rfl, hb⟩
      | false =>
        go_enter Tryz.func108, Tryz.ntmps108
        go_wp2_with fail
        refine (HS.out _).mono ?_
        rintro e w1 ⟨rfl, hb⟩
        go_wp2
        go_ret
        rw [HR.out, H1.out, h2]
        exact ⟨rfl, hb⟩

/-- A name's path. -/
def pathB (s : ByteArray) : ByteArray := ⟨(trimSuffix s.data.toList [47]).toArray⟩
def dirB (s : ByteArray) : Bool := hasSuffix s.data.toList [47]
/-- What Check answers. -/
def chkV (s : ByteArray) : ByteArray × Bool × Int :=
  if readN s ≠ 0 then (.empty, false, readN s) else if harmN (pathB s) ≠ 0 then (.empty, false, harmN (pathB s)) else (pathB s, dirB s, 0)
theorem readN_small {s : ByteArray} (h : readN s = 0) : s.size ≤ 65535 := by
  unfold readN at h
  by_cases h1 : 65535 < s.size
  · rw [decide_eq_true h1, if_pos rfl] at h
    exact absurd h (by decide)
  · omega
theorem path_le (s : ByteArray) : (pathB s).size ≤ s.size := by
  unfold pathB trimSuffix
  split
  · show (List.toArray _).size ≤ _
    rw [List.size_toArray, List.length_take]
    rw [Lib.size_eq]
    omega
  · show (List.toArray _).size ≤ _
    rw [List.size_toArray, Lib.size_eq]
    exact Nat.le_refl _
set_option maxHeartbeats 4000000 in
theorem check_any (s : ByteArray) (w : World) (hs : s.size ≤ 9223372036854775807) (hE : Env w) :
    Calls Tryz.prog 71 #[.string s] w fun e w' => e = .returned (.tuple #[.string (chkV s).1, .bool (chkV s).2.1, .int .i64 (chkV s).2.2]) ∧ Below w.heap.size w w' := by
  have HRD := Lib.hid (fun w => readable_any s w)
  have HCS := Lib.hid (fun w => sh_strings_CutSuffix s ⟨#[47]⟩ w hs)
  have HE := Lib.hid hE
  have HSM := Lib.hid (fun h => readN_small (s := s) h)
  have HHA : Hid (readN s = 0 → ∀ w, Env w → _) := fun h w he => harmless_any (pathB s) w (by have := readN_small h; have := path_le s; omega) he
  have HV : Hid (chkV s = if readN s ≠ 0 then (.empty, false, readN s) else if harmN (pathB s) ≠ 0 then (.empty, false, harmN (pathB s)) else (pathB s, dirB s, 0)) := rfl
  have e1 : (⟨(trimSuffix s.data.toList (⟨#[47]⟩ : ByteArray).data.toList).toArray⟩ : ByteArray) = pathB s := rfl
  have e2 : hasSuffix s.data.toList (⟨#[47]⟩ : ByteArray).data.toList = dirB s := rfl
  rw [e1, e2] at HCS
  clear e1 e2 hs
  generalize readN s = rn at *
  generalize harmN (pathB s) = hn at *
  generalize pathB s = pb at *
  generalize dirB s = db at *
  by_cases h1 : rn = 0
  · subst h1
    have g1 : ((0 : Int) != 0) = false := rfl
    have HHB := Lib.hid (HHA.out rfl)
    clear HHA
    by_cases h2 : hn = 0
    · subst h2
      go_enter Tryz.func71, Tryz.ntmps71
      go_wp2_with fail
      refine (HRD.out _).mono ?_
      rintro e w1 ⟨rfl, hb1⟩
      have HE1 := Lib.hid (HE.out.below hb1)
      go_wp2_with fail
      refine (HCS.out _).mono ?_
      rintro e w2 ⟨rfl, rfl⟩
      go_wp2_with fail
      refine (HHB.out _ HE1.out).mono ?_
      rintro e w3 ⟨rfl, hb3⟩
      have HB3 := Lib.hid (below_then hb1 hb3)
      clear hb1 hb3
      go_wp2_with fail
      go_ret3
      rw [HV.out]
      exact ⟨rfl, HB3.out⟩
    · have g2 : (hn != 0) = true := by rw [bne_iff_ne]; exact h2
      have H2 := Lib.hid h2
      clear h2
      go_enter Tryz.func71, Tryz.ntmps71
      go_wp2_with fail
      refine (HRD.out _).mono ?_
      rintro e w1 ⟨rfl, hb1⟩
      have HE1 := Lib.hid (HE.out.below hb1)
      go_wp2_with fail
      refine (HCS.out _).mono ?_
      rintro e w2 ⟨rfl, rfl⟩
      go_wp2_with fail
      refine (HHB.out _ HE1.out).mono ?_
      rintro e w3 ⟨rfl, hb3⟩
      have HB3 := Lib.hid (below_then hb1 hb3)
      clear hb1 hb3
      go_wp2_with fail
      go_ret3
      rw [HV.out, if_neg (by decide), if_pos H2.out]
      exact ⟨rfl, HB3.out⟩
  · have g2 : (rn != 0) = true := by rw [bne_iff_ne]; exact h1
    have H2 := Lib.hid h1
    clear h1 HHA
    go_enter Tryz.func71, Tryz.ntmps71
    go_wp2_with fail
    refine (HRD.out _).mono ?_
    rintro e w1 ⟨rfl, hb1⟩
    have HB1 := Lib.hid hb1
    clear hb1
    go_wp2_with fail
    go_ret3
    rw [HV.out, if_pos H2.out]
    exact ⟨rfl, HB1.out⟩

end Go.Proofs.YtjnoapbddifcpaaGreatDoor

namespace Go.Proofs.YtjnoapbddifcpaaGreatDoor
set_option maxRecDepth 100000
open Go.RowKit Go.Lib

def misL (p : List Nat) : Bool := p.isEmpty || decide (p = [46]) || decide (p = [46, 46])
def longL (p : List Nat) : Bool := decide (255 < p.length)
def badL (l : List Nat) : Bool := l.any fun b => decide (b = 0) || decide (b = 92)
/-- What is wrong with a path, by its bytes. -/
def harmL (l : List Nat) : Int := if badL l || ((partsL l).length == 0) || (partsL l).any misL then 21 else if decide (32 < (partsL l).length) || (partsL l).any longL then 5 else 0
theorem toNat_list_inj : ∀ a b : List UInt8, a.map UInt8.toNat = b.map UInt8.toNat → a = b
  | [], [], _ => rfl
  | [], _ :: _, h => by cases h
  | _ :: _, [], h => by cases h
  | x :: xs, y :: ys, h => by
    rw [List.map_cons, List.map_cons] at h
    injection h with h1 h2
    rw [UInt8.toNat_inj.1 h1, toNat_list_inj xs ys h2]
theorem nums_eq_list (s : ByteArray) (t : List UInt8) : (s.toList == t) = decide (nums s = t.map UInt8.toNat) := by
  rw [Lib.toList_data]
  by_cases h : s.data.toList = t
  · rw [decide_eq_true (by unfold nums; rw [h])]; rw [h]; simp
  · rw [decide_eq_false, beq_eq_false_iff_ne]
    · exact h
    · intro e
      exact h (toNat_list_inj _ _ e)
theorem isEmpty_nums2 (s : ByteArray) : s.toList.isEmpty = (nums s).isEmpty := by
  rw [Lib.toList_data]; unfold nums; cases s.data.toList <;> rfl
theorem misB_L (p : ByteArray) : misB p = misL (nums p) := by
  unfold misB misL
  rw [isEmpty_nums2, nums_eq_list, nums_eq_list]
  rfl
theorem longB_L (p : ByteArray) : longB p = longL (nums p) := by unfold longB longL; rw [nums_len]
theorem any_map_nums (ss : List ByteArray) (f : ByteArray → Bool) (g : List Nat → Bool) (h : ∀ p, f p = g (nums p)) : ss.any f = (ss.map nums).any g := by
  rw [List.any_map]
  congr 1
  funext p
  exact h p
theorem harm_L (s : ByteArray) : harmN s = harmL (nums s) := by
  unfold harmN harmL
  rw [any_map_nums _ _ _ misB_L, any_map_nums _ _ _ longB_L, pts_nums, ← List.length_map (f := nums), pts_nums]
  rfl
/-! ### a text cut at a slash -/
end Go.Proofs.YtjnoapbddifcpaaGreatDoor
