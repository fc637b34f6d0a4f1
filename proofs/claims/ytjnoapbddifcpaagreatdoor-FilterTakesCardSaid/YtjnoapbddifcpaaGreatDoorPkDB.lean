/-
  Plan: what patterns mean; the fate of an entry.
  Filter: the entries that are meant.
  Contracts: the document's Find, Without, Put.
  Contract: Encode.
  Mathematics: CP437's names come there and back.
  Contracts: the document's less, Order, Parent, Base, Under.
  The walk of NameOrders: it returns true, whatever the paths.
  Contracts: the document's Parent, Base, Under.
  Contracts: the document's Strays, Check.
  Contracts: the document's table, Bytes, Decode.
-/
import Derived.Test.YtjnoapbddifcpaaGreatDoorPkCI
import Derived.Test.YtjnoapbddifcpaaGreatDoorPkBA
import Derived.Test.YtjnoapbddifcpaaGreatDoorPkBD
import Derived.Test.YtjnoapbddifcpaaGreatDoorPkCD
import Derived.Test.YtjnoapbddifcpaaGreatDoorPkCC
import Derived.Test.YtjnoapbddifcpaaGreatDoorPkCB
import Derived.Test.YtjnoapbddifcpaaGreatDoorNamO
import Derived.Great.BuildSlice

namespace Go.Proofs.YtjnoapbddifcpaaGreatDoor
set_option maxRecDepth 100000
set_option linter.unusedSimpArgs false
set_option linter.unusedVariables false
open Go.RowKit Go.Joins Go.Deep
open Go.Lib hiding intOf
/-- A filter that may be gone by. -/
def FilK (w : World) (V : Value) (ins outs : List (List Atm)) : Prop := FilV w V ins outs ∧ SmallP ins ∧ SmallP outs ∧ Tabs w
theorem FilK.below {w w' : World} {V : Value} {ins outs : List (List Atm)} (h : FilK w V ins outs) (hb : Below w.heap.size w w') : FilK w' V ins outs := ⟨h.1.below hb, h.2.1, h.2.2.1, h.2.2.2.below hb⟩
set_option maxHeartbeats 8000000 in
theorem filTakes_any (V : Value) (ins outs : List (List Atm)) (s : ByteArray) (k m u g t a : Int) (d : ByteArray) (hs : s.size ≤ 100000) (w : World) (hF : FilK w V ins outs) :
    Calls Tryz.prog 30 #[V, .string s, .agg #[.int .i64 k, .int .u32 m, .int .u32 u, .int .u32 g, .int .i64 t, .int .i64 a, .string d]] w fun e w' => e = .returned (.bool (takM ins outs s (k == 1))) ∧ Below w.heap.size w w' := by
  have hFK := hF
  obtain ⟨⟨A1, c1, A2, c2, rfl, _⟩, h1, h2, hT⟩ := hFK
  have hif := info_fil
  obtain ⟨w1, hw1⟩ : ∃ w1, w1 = (w.alloc (.cells #[.slice A1 ins.length c1, .slice A2 outs.length c2] 36)).alloc (.cells #[.int .i64 k, .int .u32 m, .int .u32 u, .int .u32 g, .int .i64 t, .int .i64 a, .string d] 71) := ⟨_, rfl⟩
  have HB1 : Hid (Below w.heap.size w w1) := by show Below _ _ _; rw [hw1]; exact below_two _ _ _
  have HX1 : Hid (w1.heap[w.heap.size]? = some (.cells #[.slice A1 ins.length c1, .slice A2 outs.length c2] 36 (0, 0))) := by show _ = _; rw [hw1]; exact two_first _ _ _
  have hn1 : w1.heap[w.heap.size + 1]? = some (.cells #[.int .i64 k, .int .u32 m, .int .u32 u, .int .u32 g, .int .i64 t, .int .i64 a, .string d] 71 (0, 0)) := by rw [hw1]; exact two_second _ _ _
  have HTK := Lib.hid (fun d => takes_any _ ins outs s d hs h1 h2 w1 (hF.1.below HB1.out) (hT.below HB1.out))
  have x0 := (cell_of_row _ _ 0 _ _ _ hn1).trans (show _ = some (Value.int .i64 k) from rfl)
  have HW1 := Lib.hid hw1
  clear hw1 hF h1 h2 hT hn1
  obtain ⟨D, hD⟩ : ∃ D, D = (k == 1) := ⟨_, rfl⟩
  rw [← hD]
  have hD' := hD.symm
  clear hD
  go_enter Tryz.func30, Tryz.ntmps30
  go_upto_region 1 with fail
  rw [← HW1.out]
  clear HW1
  go_wp2_with (refine wpList_load_row rfl 36 (.tmp 3) rfl w.heap.size rfl 36 _ (0, 0) _ HX1.out Tryz.underlying36 rfl info_fil ?_)
  refine (HTK.out D).mono ?_; rintro e w3 ⟨rfl, hb3⟩
  have HB3 := Lib.hid (below_thenE HB1.out hb3)
  clear hb3
  go_wp2_with fail
  go_ret
  exact ⟨rfl, HB3.out⟩
/-- The fate of an entry. -/
def fatI (mode state : Int) : Int := if mode ≠ 1 ∧ state = 2 then 2 else if mode ≠ 1 ∨ state = 1 then 1 else if state = 0 then 3 else 2
end Go.Proofs.YtjnoapbddifcpaaGreatDoor

namespace Go.Proofs.YtjnoapbddifcpaaGreatDoor
set_option maxRecDepth 100000
set_option linter.unusedSimpArgs false
set_option linter.unusedVariables false
open Go.RowKit Go.Joins Go.Deep
open Go.Lib hiding intOf
noncomputable def entS (ins outs : List (List Atm)) (l : List Ent) (k : Nat) : List Int :=
  match l[k]? with
  | some E => if takM ins outs (metV E).p ((metV E).k == 1) = true then [((k : Nat) : Int)] else []
  | none => []
noncomputable def entP (ins outs : List (List Atm)) (l : List Ent) (k : Nat) : List Int := (List.range k).flatMap (entS ins outs l)
theorem entP_succ (ins outs : List (List Atm)) (l : List Ent) (k : Nat) : entP ins outs l (k + 1) = entP ins outs l k ++ entS ins outs l k := by
  unfold entP
  rw [List.range_succ, List.flatMap_append]
  simp
theorem entS_forms (ins outs : List (List Atm)) (l : List Ent) (k : Nat) : entS ins outs l k = [] ∨ (k < l.length ∧ entS ins outs l k = [((k : Nat) : Int)]) := by
  unfold entS
  cases h : l[k]? with
  | none => exact .inl rfl
  | some E =>
    have hk := (List.getElem?_eq_some_iff.1 h).1
    simp only
    split
    · exact .inr ⟨hk, rfl⟩
    · exact .inl rfl
theorem entP_len (ins outs : List (List Atm)) (l : List Ent) : ∀ k, (entP ins outs l k).length ≤ k
  | 0 => Nat.le_refl _
  | k + 1 => by
    have := entP_len ins outs l k
    rw [entP_succ, List.length_append]
    rcases entS_forms ins outs l k with h | ⟨_, h⟩ <;> rw [h] <;> simp <;> omega
theorem ints_own2 {w : World} {B : Nat} {l : List Int} {v : Value} (h : w.ownsRow B 3 1 v l.length (l.map (Value.int .i64))) : ∃ A c, v = .slice A l.length c ∧ IntW w A l ∧ ∀ a, A = some a → B ≤ a.block := by
  obtain ⟨A, c, rfl, hi⟩ := ints_own h
  refine ⟨A, c, rfl, hi, fun a ha => ?_⟩
  rcases h.2 with ⟨he, _⟩ | ⟨g, cap, cur, he, hb, _⟩
  · injection he with he; rw [ha] at he; cases he
  · injection he with he; rw [ha] at he; injection he with he; subst he; exact hb
/-- What Entries answers. -/
def EntR (w : World) (ins outs : List (List Atm)) (l : List Ent) (e : Ending) (w' : World) : Prop :=
  (∃ z, z ≠ 0 ∧ e = .returned (.tuple #[.slice none 0 0, .int .i64 z]) ∧ Below w.heap.size w w') ∨
  (∃ A c, e = .returned (.tuple #[.slice A (entP ins outs l l.length).length c, .int .i64 0]) ∧ IntW w' A (entP ins outs l l.length) ∧ (∀ a, A = some a → w.heap.size ≤ a.block) ∧ Below w.heap.size w w')
end Go.Proofs.YtjnoapbddifcpaaGreatDoor

namespace Go.Proofs.YtjnoapbddifcpaaGreatDoor
set_option maxRecDepth 100000
open Go.RowKit Go.Joins Go.Deep

theorem fnd_hit {l : List Fd} {id k : Nat} (hk : k < l.length) (h : fx id l = k) : fndD l id = l[k].d ∧ fndB l id = true := by
  subst h
  constructor
  · unfold fndD
    rw [List.getElem?_eq_getElem hk]
    rfl
  · exact decide_eq_true hk
theorem fnd_none {l : List Fd} {id : Nat} (h : fx id l = l.length) : fndD l id = ⟨#[]⟩ ∧ fndB l id = false := by
  constructor
  · unfold fndD
    rw [List.getElem?_eq_none (by omega)]
    rfl
  · exact decide_eq_false (by omega)
set_option maxHeartbeats 4000000 in
theorem rfind13_any (A : Option Addr) (cap : Nat) (l : List Fd) (id : Nat) (w : World) (hF : Fds w A l) (hl : l.length ≤ 1000000) :
    Calls Tryz.prog 82 #[.slice A l.length cap, .int .u16 (id : Nat)] w fun e w' => e = .returned (.tuple #[.string (fndD l id), .bool (fndB l id)]) ∧ Below w.heap.size w w' := by
  have hit := info_fd2
  have HF := Lib.hid hF
  have HHI := Lib.hid (fx_hit id l)
  have HNO := Lib.hid (fx_none id l)
  clear hF
  go_enter Tryz.func82, Tryz.ntmps82
  go_wp2_with fail
  go_loopw [10] (fun i wr => ∃ k : Nat, k ≤ l.length ∧ i = .int .i64 (k : Nat) ∧ Hid (∀ j (hj : j < l.length), j < k → l[j].id ≠ id) ∧ Hid (Below w.heap.size w wr)) (fun i _ => l.length - (intOf i).toNat)
  case atStart => exact ⟨0, Nat.zero_le _, rfl, fun j _ h => absurd h (by omega), Below.refl _ _⟩
  case round =>
    obtain ⟨k, hk, rfl, HP, HB⟩ := hrel
    by_cases hkn : k < l.length
    · obtain ⟨b, off, rfl, hbl, hcc⟩ := (HF.out.below (Nat.le_refl _) HB.out) (by omega)
      obtain ⟨c0, c1⟩ := hcc k hkn
      have HY : Hid (l[k].id = id → fndD l id = l[k].d ∧ fndB l id = true) := fun h => fnd_hit hkn (HHI.out k hkn h HP.out)
      have HP2 : Hid (l[k].id ≠ id → ∀ j (hj : j < l.length), j < k + 1 → l[j].id ≠ id) := fun h j hj hjk => by
        by_cases e : j = k
        · subst e; exact h
        · exact HP.out j hj (by omega)
      clear hcc
      have hbox := fd_box l[k] wr
      generalize l[k] = t at *
      obtain ⟨tid, td⟩ := t
      dsimp only at c0 c1 hbox HY HP2
      obtain ⟨d0, d1⟩ := hbox
      have HB1 := Lib.hid (HB.out.alloc HB.out.size (.cells #[.int .u16 (tid : Nat), .string td] 172))
      by_cases hid : tid = id
      · have he : ((tid : Int) == (id : Int)) = true := by rw [hid]; exact beq_self_eq_true _
        have HR := Lib.hid (HY.out hid)
        clear HY HP2 HP hid
        go_wp2_with fail
        go_ret2
        rw [HR.out.1, HR.out.2]
        exact ⟨rfl, HB1.out⟩
      · have he : ((tid : Int) == (id : Int)) = false := by rw [beq_eq_false_iff_ne]; omega
        have HP3 := Lib.hid (HP2.out hid)
        clear HY HP2 HP hid
        go_wp2_with fail
        go_roundw
        case rel => exact ⟨k + 1, by omega, by go_num, HP3.out, HB1.out⟩
        case measure => simp [intOf]; omega
    · obtain rfl : k = l.length := by omega
      have HR := Lib.hid (fnd_none (HNO.out fun j hj => HP.out j hj hj))
      go_wp2_with fail
      go_ret2
      rw [HR.out.1, HR.out.2]
      exact ⟨rfl, HB.out⟩

end Go.Proofs.YtjnoapbddifcpaaGreatDoor

namespace Go.Proofs.YtjnoapbddifcpaaGreatDoor
set_option maxRecDepth 100000
open Go.RowKit Go.Deep Go.Joins Go.Lib

/-- A rune's byte by CP437. -/
def unO (r : Nat) : Option Nat := if r < 128 then some r else if cpL.idxOf r < 128 then some (128 + cpL.idxOf r) else none
/-- A text's bytes by CP437, or none. -/
def unL : List Nat → Option (List Nat)
  | [] => some []
  | r :: l => match unO r with
    | none => none
    | some x => (unL l).map (x :: ·)
def encO (s : ByteArray) : Option (List Nat) := unL (runesB s)
theorem BdN.iterAt {w : World} {B b k pos : Nat} {l : List Nat} {s : ByteArray} (h : BdN w B b l) (hk : w.heap[k]? = some (.stringIter s pos)) (pos' : Nat) : BdN (w.iterAt k s pos') B b l := by
  obtain ⟨hB, p, v, hb, hp, ho, hne⟩ := h
  have n1 : b ≠ k := by
    rintro rfl
    rw [hk] at hb
    cases hb
  have n2 : v.ownBlock ≠ some k := fun e => by
    obtain ⟨c, fz, hc⟩ := own_kind ho k e
    rw [hk] at hc
    cases hc
  exact ⟨hB, p, v, (Lib.iterAt_other w k b s pos' n1).trans hb, hp, ho.kept (row := some k) ⟨rfl, rfl, rfl, by rw [Lib.iterAt_size]; exact Nat.le_refl _, fun i _ hi => Lib.iterAt_other w k i s pos' (fun e => hi (by rw [e]))⟩ (.inr n2), hne⟩
end Go.Proofs.YtjnoapbddifcpaaGreatDoor

namespace Go.Proofs.YtjnoapbddifcpaaGreatDoor
set_option maxRecDepth 100000
open Go.RowKit Go.Lib

theorem enc_one {r : Nat} (h : r < 128) : encN r = [r] := by
  unfold encN
  rw [encodeRuneZ_one (by omega) (by omega)]
  simp
theorem enc_two {r : Nat} (h : 128 ≤ r) (h2 : r < 2048) : encN r = [192 + r / 64, 128 + r % 64] := by
  unfold encN
  rw [encodeRuneZ_two (by omega) (by omega)]
  rfl
theorem enc_three {r : Nat} (h : 2048 ≤ r ∧ r < 55296 ∨ 57343 < r ∧ r ≤ 65535) : encN r = [224 + r / 4096, 128 + r / 64 % 64, 128 + r % 64] := by
  unfold encN
  rw [encodeRuneZ_three (by omega)]
  rfl
end Go.Proofs.YtjnoapbddifcpaaGreatDoor

namespace Go.Proofs.YtjnoapbddifcpaaGreatDoor
set_option maxRecDepth 100000
open Go.RowKit Go.Deep Go.Joins Go.Lib

theorem splitL_mem : ∀ (l p : List Nat), p ∈ splitL l → ∀ x ∈ p, x ∈ l
  | [], p, hp, x, hx => by
    simp [splitL] at hp
    subst hp
    cases hx
  | c :: r, p, hp, x, hx => by
    obtain ⟨h, t, e⟩ := splitL_form r
    by_cases hc : c = 47
    · subst hc
      rw [splitL_slash] at hp
      rcases List.mem_cons.1 hp with rfl | hp
      · cases hx
      · exact .tail _ (splitL_mem r p hp x hx)
    · rw [splitL_other hc e] at hp
      rcases List.mem_cons.1 hp with rfl | hp
      · rcases List.mem_cons.1 hx with rfl | hx
        · exact .head _
        · exact .tail _ (splitL_mem r h (by rw [e]; exact .head _) x hx)
      · exact .tail _ (splitL_mem r p (by rw [e]; exact .tail _ hp) x hx)
theorem parts_lt (s : ByteArray) (p : List Nat) (hp : p ∈ partsL (nums s)) : ∀ x ∈ p, x < 256 := fun x hx => by
  unfold partsL at hp
  by_cases h : nums s = []
  · rw [if_pos h] at hp; cases hp
  · rw [if_neg h] at hp
    exact nums_lt s x (splitL_mem _ p hp x hx)
theorem parts_len (s : ByteArray) : (partsL (nums s)).length ≤ s.size + 1 := by
  unfold partsL
  split
  · simp
  · rw [splitL_count]
    have := List.count_le_length (a := 47) (l := nums s)
    rw [nums_len] at this
    omega
theorem splitL_size : ∀ (l p : List Nat), p ∈ splitL l → p.length ≤ l.length
  | [], p, hp => by
    simp [splitL] at hp
    subst hp
    simp
  | c :: r, p, hp => by
    obtain ⟨h, t, e⟩ := splitL_form r
    rw [List.length_cons]
    by_cases hc : c = 47
    · subst hc
      rw [splitL_slash] at hp
      rcases List.mem_cons.1 hp with rfl | hp
      · simp
      · have := splitL_size r p hp; omega
    · rw [splitL_other hc e] at hp
      rcases List.mem_cons.1 hp with rfl | hp
      · have := splitL_size r h (by rw [e]; exact .head _)
        rw [List.length_cons]; omega
      · have := splitL_size r p (by rw [e]; exact .tail _ hp); omega
theorem part_size (s : ByteArray) (p : List Nat) (hp : p ∈ partsL (nums s)) : p.length ≤ s.size := by
  unfold partsL at hp
  by_cases h : nums s = []
  · rw [if_pos h] at hp; cases hp
  · rw [if_neg h] at hp
    have := splitL_size _ p hp
    rw [nums_len] at this
    exact this
theorem own_str {w : World} {B c : Nat} {A : Option Addr} {ss : List (List Nat)} (h : w.ownsRow B 9 1 (.slice A ss.length c) ss.length (strC ss)) (h0 : 0 < ss.length) :
    ∃ g, A = some ⟨g, 0, none⟩ ∧ B ≤ g ∧ g < w.heap.size ∧ ∀ i (hi : i < ss.length), w.cell? ⟨g, i, none⟩ = some (.string (text ss[i])) := by
  have hl := h.lt
  rcases ownsRow_forms h with ⟨hv, hn⟩ | ⟨g2, cap, hv⟩
  · omega
  · injection hv with hA _ _
    subst hA
    refine ⟨g2, rfl, (hl g2 rfl).1, (hl g2 rfl).2, fun i hi => ?_⟩
    have := h.cellAt i (by omega)
    rw [this]
    simp only [strC, List.getElem?_map, List.getElem?_eq_getElem hi, Option.map_some]

end Go.Proofs.YtjnoapbddifcpaaGreatDoor

namespace Go.Proofs.YtjnoapbddifcpaaGreatDoor
set_option maxRecDepth 100000
open Go.RowKit Go.Deep Go.Joins Go.Lib

end Go.Proofs.YtjnoapbddifcpaaGreatDoor

namespace Go.Proofs.YtjnoapbddifcpaaGreatDoor
set_option maxRecDepth 100000
open Go.RowKit Go.Deep Go.Joins Go.Lib

/-! ### Under -/
end Go.Proofs.YtjnoapbddifcpaaGreatDoor

namespace Go.Proofs.YtjnoapbddifcpaaGreatDoor
set_option maxRecDepth 100000
open Go.RowKit Go.Deep Go.Joins Go.Lib

set_option maxHeartbeats 4000000 in
theorem rstraysN_any (s : ByteArray) (w : World) (hs : s.size ≤ 1000000) :
    Calls Tryz.prog 119 #[.string s] w fun e w' => e = .returned (.bool (straysB s)) ∧ w' = w := by
  go_enter Tryz.func119, Tryz.ntmps119
  go_wp2_with fail
  go_loopw [3] (fun i wr => ∃ (pos f : Nat), i = .int .i64 (pos : Nat) ∧ pos ≤ s.size ∧ wr = w ∧ Hid (strayF s f pos = straysB s) ∧ s.size ≤ pos + f) (fun i _ => s.size - (intOf i).toNat)
  case atStart => exact ⟨0, s.size, rfl, Nat.zero_le _, rfl, rfl, by omega⟩
  case round =>
    obtain ⟨pos, f, rfl, hle, rfl, HC, hb⟩ := hrel
    by_cases hp : pos < s.size
    · have HONE := Lib.hid (fun w => rone_any s pos hp hs w)
      have hwd := decode_pos s pos hp
      have hend : pos + (Utf8.decode s pos).2 ≤ s.size := by
        rcases decode_run s pos hp with ⟨_, h2⟩ | ⟨_, _, _, _, h2, _⟩
        · rw [h2]; show pos + 1 ≤ _; omega
        · exact h2
      have HN : Hid (∃ f', f = f' + 1 ∧ (strayAt s pos = true → straysB s = true) ∧ (strayAt s pos = false → strayF s f' (pos + (Utf8.decode s pos).2) = straysB s)) := by
        cases f with
        | zero => exact absurd hb (by omega)
        | succ f =>
          refine ⟨f, rfl, fun h => ?_, fun h => ?_⟩
          · have := HC.out; rw [strayF, if_pos hp, if_pos h] at this; exact this.symm
          · have := HC.out; rw [strayF, if_pos hp, if_neg (by rw [h]; decide)] at this; exact this
      have HR : Hid (oneR s pos = if strayAt s pos = true then (-1 : Int) else (((Utf8.decode s pos).1 : Nat) : Int)) := rfl
      generalize oneR s pos = r at *
      generalize (Utf8.decode s pos).2 = k at *
      clear HC
      cases hst : strayAt s pos with
      | true =>
        rw [hst] at HR HN
        have hr : r = -1 := HR.out
        have HX : Hid (straysB s = true) := by obtain ⟨_, _, h, _⟩ := HN.out; exact h rfl
        subst hr
        clear HN HR
        go_wp2_with fail
        refine (HONE.out _).mono ?_
        rintro e w1 ⟨rfl, rfl⟩
        go_wp2_with fail
        go_ret
        rw [HX.out]
        exact ⟨rfl, rfl⟩
      | false =>
        rw [hst] at HR HN
        have hr : r = ((Utf8.decode s pos).1 : Nat) := HR.out
        obtain ⟨f', hf, _, hh⟩ := HN.out
        have HX : Hid (strayF s f' (pos + k) = straysB s) := hh rfl
        have hr0 : 0 ≤ r := by omega
        obtain ⟨q, hq, hqi⟩ : ∃ q : Nat, pos + k = q ∧ ((pos : Int) + (k : Int)) = (q : Int) := ⟨pos + k, rfl, by omega⟩
        rw [hq] at HX hend
        have HQ := Lib.hid hq
        clear HN HR hr hh hq
        go_wp2_with fail
        refine (HONE.out _).mono ?_
        rintro e w1 ⟨rfl, rfl⟩
        go_wp2_with fail
        go_roundw
        case rel => exact ⟨q, f', rfl, hend, by first | rfl | trivial, HX, by have := HQ.out; omega⟩
        case measure => have := HQ.out; simp [intOf]; omega
    · have HX : Hid (straysB s = false) := by
        have := HC.out
        rw [strayF_end s f pos hp] at this
        exact this.symm
      go_wp2_with fail
      go_ret
      rw [HX.out]
      exact ⟨rfl, rfl⟩

/-- What the document's Check answers is what the program's does. -/
theorem chk_long {s : ByteArray} (h : 65535 < s.size) : chkV s = (.empty, false, 5) := by
  have : readN s = 5 := by unfold readN; rw [decide_eq_true h]; rfl
  unfold chkV
  rw [this]
  rfl
theorem chk_read {s : ByteArray} (h : s.size ≤ 65535) (h2 : s.size = 0 ∨ straysB s = true) : chkV s = (.empty, false, 20) := by
  have : readN s = 20 := by
    unfold readN
    rw [decide_eq_false (by omega), if_neg (by decide), isEmpty_nums2]
    rcases h2 with h2 | h2
    · rw [empty_of_size h2]; rfl
    · rw [h2]; cases (nums s).isEmpty <;> rfl
  unfold chkV
  rw [this]
  rfl
theorem chk_rest {s : ByteArray} (h : s.size ≤ 65535) (h0 : s.size ≠ 0) (h2 : straysB s = false) : chkV s = if harmL (nums (pathB s)) = 0 then (pathB s, dirB s, 0) else (.empty, false, harmL (nums (pathB s))) := by
  have : readN s = 0 := (read_zero s).2 ⟨h, fun e => h0 (by rw [← nums_len, e]; rfl), h2⟩
  unfold chkV
  rw [this, if_neg (by decide), harm_L]
  by_cases e : harmL (nums (pathB s)) = 0
  · rw [if_neg (by rw [e]; decide), if_pos e]
  · rw [if_pos e, if_neg e]
theorem path_last (s : ByteArray) (h0 : 0 < s.size) : (s[s.size - 1].toNat = 47 ∧ pathB s = s.extract 0 (s.size - 1) ∧ dirB s = true) ∨ (s[s.size - 1].toNat ≠ 47 ∧ pathB s = s ∧ dirB s = false) := by
  cases hd : dirB s with
  | true =>
    obtain ⟨k, hk, h47, hks, hp⟩ := path_true hd
    obtain rfl : k = s.size - 1 := by omega
    exact .inl ⟨h47, hp, rfl⟩
  | false =>
    refine .inr ⟨fun h47 => ?_, path_false hd, rfl⟩
    have hx : dirB s = true := (suffix_nums s).2 ⟨(nums s).take (s.size - 1), by
      have h1 := nums_snoc s (s.size - 1) (by omega)
      rw [h47, show s.size - 1 + 1 = s.size by omega] at h1
      rw [← h1, ← nums_len, List.take_length]⟩
    rw [hd] at hx
    cases hx
theorem bad_path (s : ByteArray) (h0 : 0 < s.size) : badL (nums (pathB s)) = badL (nums s) := by
  rcases path_last s h0 with ⟨h47, hp, _⟩ | ⟨_, hp, _⟩
  · rw [hp, nums_take]
    have h1 := nums_snoc s (s.size - 1) (by omega)
    rw [h47, show s.size - 1 + 1 = s.size by omega, show (nums s).take s.size = nums s by rw [← nums_len, List.take_length]] at h1
    conv => rhs; rw [h1]
    unfold badL
    rw [List.any_append]
    simp
  · rw [hp]
/-- The answer by what is found: bad bytes, no parts, parts that mislead, parts that are too long or too many. -/
theorem harm_bad {l : List Nat} (h : badL l = true) : harmL l = 21 := by unfold harmL; rw [h]; rfl
theorem harm_none {l : List Nat} (h : partsL l = []) : harmL l = 21 := by unfold harmL; rw [h]; cases badL l <;> rfl
theorem harm_mis {l : List Nat} (h : (partsL l).any misL = true) : harmL l = 21 := by unfold harmL; rw [h]; cases badL l <;> cases ((partsL l).length == 0) <;> rfl
theorem harm_long {l : List Nat} (h1 : badL l = false) (h2 : partsL l ≠ []) (h3 : (partsL l).any misL = false) (h : 32 < (partsL l).length ∨ (partsL l).any longL = true) : harmL l = 5 := by
  unfold harmL
  have hn : ((partsL l).length == 0) = false := by rw [beq_eq_false_iff_ne]; exact fun e => h2 (List.length_eq_zero_iff.1 e)
  rw [h1, hn, h3]
  rcases h with h | h
  · rw [decide_eq_true h]; rfl
  · rw [h]; cases decide (32 < (partsL l).length) <;> rfl
theorem harm_fine {l : List Nat} (h1 : badL l = false) (h2 : partsL l ≠ []) (h3 : (partsL l).any misL = false) (h4 : ¬ 32 < (partsL l).length) (h5 : (partsL l).any longL = false) : harmL l = 0 := by
  unfold harmL
  have hn : ((partsL l).length == 0) = false := by rw [beq_eq_false_iff_ne]; exact fun e => h2 (List.length_eq_zero_iff.1 e)
  rw [h1, hn, h3, decide_eq_false h4, h5]
  rfl
end Go.Proofs.YtjnoapbddifcpaaGreatDoor

namespace Go.Proofs.YtjnoapbddifcpaaGreatDoor
set_option maxRecDepth 100000
open Go.RowKit Go.Deep Go.Joins Go.Lib

def cpV : Array Value := (cpL.map fun (n : Nat) => Value.int .i64 (n : Nat)).toArray
theorem cpV_at (k : Nat) (hk : k < 128) : cpV[k]? = some (.int .i64 ((cpL.getD k 0 : Nat) : Int)) := by
  unfold cpV
  rw [List.getElem?_toArray, List.getElem?_map, List.getElem?_eq_getElem (by rw [cpL_len]; exact hk), List.getD_eq_getElem?_getD, List.getElem?_eq_getElem (by rw [cpL_len]; exact hk)]
  rfl
set_option maxHeartbeats 4000000 in
theorem table_any (w : World) :
    Calls Tryz.prog 121 #[] w fun e w' => e = .returned (.slice (some ⟨w.heap.size, 0, none⟩) 128 128) ∧ w' = w.alloc (.cells cpV 3) := by
  go_enter Tryz.func121, Tryz.ntmps121
  go_wp2_with (refine wpList_buildFlat rfl 45 3 128 _ rfl .i64 (cpL.map fun (n : Nat) => (n : Int)) Tryz.underlying45 (by kernel_rfl) (by kernel_rfl) (by kernel_rfl) (by decide) (by decide) (by kernel_rfl) ?_)
  go_ret
  refine ⟨rfl, ?_⟩
  rfl
set_option maxHeartbeats 4000000 in
theorem bytes_cp (r : Nat) (hr : r < 55296) (w : World) :
    Calls Tryz.prog 122 #[.int .i64 (r : Nat)] w fun e w' => e = .returned (.slice (some ⟨w.heap.size, 0, none⟩) (encN r).length (encN r).length) ∧ w' = w.alloc (.cells (cells8 (encN r)).toArray 5) := by
  have wr8 : ∀ z : Nat, z < 256 → IntKind.u8.wrap (z : Int) = (z : Int) := fun z hz => by unfold IntKind.wrap; simp [IntKind.bits, IntKind.signed]; omega
  rcases (by omega : r < 128 ∨ (128 ≤ r ∧ r < 2048) ∨ (2048 ≤ r)) with h | ⟨h, h2⟩ | h
  · have e := Lib.hid (enc_one h)
    have h1 := wr8 r (by omega)
    clear wr8
    go_enter Tryz.func122, Tryz.ntmps122
    go_wp2_with fail
    go_ret
    rw [e.out]
    exact ⟨rfl, rfl⟩
  · have e := Lib.hid (enc_two h h2)
    obtain ⟨x, hx, hxi⟩ : ∃ x : Nat, 192 + r / 64 = x ∧ ((192 : Int) + (r : Int) / 64) = (x : Int) := ⟨192 + r / 64, rfl, by omega⟩
    obtain ⟨y, hy, hyi⟩ : ∃ y : Nat, 128 + r % 64 = y ∧ ((128 : Int) + (r : Int) % 64) = (y : Int) := ⟨128 + r % 64, rfl, by omega⟩
    rw [hx, hy] at e
    have h3 := wr8 x (by omega)
    have h4 := wr8 y (by omega)
    clear wr8 hx hy
    go_enter Tryz.func122, Tryz.ntmps122
    go_wp2_with fail
    go_ret
    rw [e.out]
    exact ⟨rfl, rfl⟩
  · have e := Lib.hid (enc_three (r := r) (.inl ⟨h, hr⟩))
    obtain ⟨x, hx, hxi⟩ : ∃ x : Nat, 224 + r / 4096 = x ∧ ((224 : Int) + (r : Int) / 4096) = (x : Int) := ⟨224 + r / 4096, rfl, by omega⟩
    obtain ⟨y, hy, hyi⟩ : ∃ y : Nat, 128 + r / 64 % 64 = y ∧ ((128 : Int) + (r : Int) / 64 % 64) = (y : Int) := ⟨128 + r / 64 % 64, rfl, by omega⟩
    obtain ⟨z, hz, hzi⟩ : ∃ z : Nat, 128 + r % 64 = z ∧ ((128 : Int) + (r : Int) % 64) = (z : Int) := ⟨128 + r % 64, rfl, by omega⟩
    rw [hx, hy, hz] at e
    have h3 := wr8 x (by omega)
    have h4 := wr8 y (by omega)
    have h5 := wr8 z (by omega)
    clear wr8 hx hy hz
    go_enter Tryz.func122, Tryz.ntmps122
    go_wp2_with fail
    go_ret
    rw [e.out]
    exact ⟨rfl, rfl⟩
end Go.Proofs.YtjnoapbddifcpaaGreatDoor
