/-
  Contract: the document's Parse.
  Contracts: the Builder's copyCheck, Len, WriteString, String.
  Contract: Print.
  Contract: the document's Print.
  Contracts: Same of one and the same fields, few, awake.
  Where a field is: mathematics; contracts: place, Find.
  Slices of fields and of IDs as they come in.
  Contracts: Contains, Without.
-/
import Derived.Test.YtjnoapbddifcpaaGreatDoorPkBC
import Derived.Test.YtjnoapbddifcpaaGreatDoorShelf
import Derived.Lib.OthersKept
import Derived.Lib.AppendStr
import Derived.Deep.RegionHeld3
import Derived.Deep.DeepCutAuto
import Derived.Deep.DrawnRows
import Derived.Laws.StructEq
import Derived.Deep.Slices
import Derived.Deep.Strs
import Derived.ArgAppend
import Derived.Deep.SlicePairs

namespace Go.Proofs.YtjnoapbddifcpaaGreatDoor
set_option maxRecDepth 100000
open Go.RowKit Go.Joins Go.Deep

theorem nums_extr (t : ByteArray) (a b : Nat) : nums (t.extract a b) = ((nums t).drop a).take (b - a) := by
  unfold nums
  rw [ByteArray.data_extract]
  simp
theorem rest_cut (s : ByteArray) (a i j : Nat) (h : a + j ≤ s.size) : (s.extract a s.size).extract i j = s.extract (a + i) (a + j) := by
  apply nums_inj
  rw [nums_extr, nums_extr, nums_extr, List.drop_take, List.take_take, List.drop_drop, show min (j - i) (s.size - a - i) = a + j - (a + i) by omega]
theorem rest_rest (s : ByteArray) (a i : Nat) (h : a + i ≤ s.size) : (s.extract a s.size).extract i (s.extract a s.size).size = s.extract (a + i) s.size := by
  have hz : (s.extract a s.size).size = s.size - a := by rw [ByteArray.size_extract]; omega
  rw [hz, rest_cut s a i (s.size - a) (by omega), show a + (s.size - a) = s.size by omega]
theorem rnumber_qx (s : ByteArray) (h8 : s.size ≤ 8) (w : World) :
    Calls Tryz.prog 78 #[.string s] w fun e w' => e = .returned (.int .u64 (numL (nums s) : Nat)) ∧ w' = w :=
  (rnumber_any s h8 w).mono fun _ _ h => ⟨h.1, h.2.symm⟩
set_option maxHeartbeats 2000000 in
theorem rparse_any (s : ByteArray) (hs : s.size ≤ maxLen) (w : World) :
    Calls Tryz.prog 51 #[.string s] w fun e w' => ∃ A cap, e = .returned (.tuple #[.slice A (parL s).length cap, .int .i64 (parE s : Nat)]) ∧ Fds w' A (parL s) ∧ Below w.heap.size w w' := by
  by_cases h5 : 65535 < s.size
  · have HR : Hid (parL s = [] ∧ parE s = 5) := by
      show _ ∧ _
      unfold parL parE
      rw [if_pos h5, if_pos h5]
      exact ⟨rfl, rfl⟩
    unfold maxLen at hs
    go_enter Tryz.func51, Tryz.ntmps51
    go_wp2_with fail
    go_ret2
    rw [HR.out.1, HR.out.2]
    exact ⟨none, 0, rfl, Fds.nil _ _, Below.refl _ _⟩
  · have hs5 : s.size ≤ 65535 := by omega
    obtain ⟨i0, hi, hz0, hz1, hz2⟩ := info_parts parts_fd
    have HNO := Lib.hid (fun k => parE_no hs5 k)
    have HYES := Lib.hid (fun l k => parE_yes (l := l) hs5 k)
    clear h5 hs
    go_enter Tryz.func51, Tryz.ntmps51
    go_wp2_with fail
    go_loopg [0, 4] s.size (fun gg t v wr => ∃ (a : Nat) (T : ByteArray) (l : List Fd), t = .string T ∧ a ≤ s.size ∧ l.length ≤ a ∧ s.size - a ≤ gg ∧ Hid (T = s.extract a s.size) ∧ Hid (prs s a l = prs s 0 []) ∧ Hid (wr.ownsRow w.heap.size 172 2 v l.length (cellsF l)) ∧ Hid (Below w.heap.size w wr))
    case atStart => exact ⟨0, s, [], rfl, Nat.zero_le _, Nat.le_refl _, by omega, by show s = _; rw [ByteArray.extract_zero_size], rfl, World.ownsRow_nil _ _ _ _, Below.refl _ _⟩
    case round =>
      obtain ⟨a, T, l, rfl, hle, hla, hg, HT, HQ, HO, HB⟩ := hrel
      have hts : T.size = s.size - a := by rw [HT.out, ByteArray.size_extract]; omega
      have HTS := Lib.hid hts
      obtain ⟨A, cap, rfl⟩ := slice_of_own HO.out
      by_cases hlt : a < s.size
      · have hpos : 0 < T.size := by omega
        by_cases h4 : T.size < 4
        · have h4b : decide ((T.size : Int) < 4) = true := decide_eq_true (by omega)
          have HN := Lib.hid (HNO.out (HQ.out.symm.trans (prs_no hlt (by omega))))
          clear hts
          go_wp2_with fail
          go_ret2
          rw [HN.out.1, HN.out.2]
          exact ⟨none, 0, rfl, Fds.nil _ _, HB.out⟩
        · have h4b : decide ((T.size : Int) < 4) = false := decide_eq_false (by omega)
          have z1 : (T.extract 0 2).size ≤ 8 := by rw [ByteArray.size_extract]; omega
          have z2 : (T.extract 2 4).size ≤ 8 := by rw [ByteArray.size_extract]; omega
          have y1 : numL (nums (T.extract 0 2)) = idA s a := by
            rw [HT.out, rest_cut s a 0 2 (by omega), nums_extr]
            unfold idA
            rw [show a + 2 - (a + 0) = 2 by omega]
            rfl
          have y2 : numL (nums (T.extract 2 4)) = idA s (a + 2) := by
            rw [HT.out, rest_cut s a 2 4 (by omega), nums_extr]
            unfold idA
            rw [show a + 4 - (a + 2) = 2 by omega]
          have q1 := idA_lt s a
          have q2 := idA_lt s (a + 2)
          have hle4 : 4 ≤ T.size := by omega
          have hle2 : 2 ≤ T.size := by omega
          rw [← y1] at q1
          rw [← y2] at q2
          have Y1 := Lib.hid y1
          have Y2 := Lib.hid y2
          clear hts y1 y2 h4
          go_wp2_with fail
          go_quiet ((go_at_call 78; exact Calls.quiet_of_same (rnumber_qx _ (by assumption) _)))
          have HO2 : Hid ((wr.drewN nq).ownsRow w.heap.size 172 2 (.slice A l.length cap) l.length (cellsF l)) := HO.out
          have HB2 := Lib.hid (below_drewN HB.out nq)
          generalize numL (nums (T.extract 0 2)) = v1 at *
          generalize numL (nums (T.extract 2 4)) = n at *
          have g1 := Y1.out
          have g2 := Y2.out
          subst g1
          subst g2
          generalize wr.drewN nq = w2 at *
          clear z1 z2 HO HB Y1 Y2
          by_cases hfit : a + 4 + idA s (a + 2) ≤ s.size
          · have hfb : decide ((T.size : Int) < 4 + (idA s (a + 2) : Nat)) = false := decide_eq_false (by rw [HTS.out]; omega)
            have hfl : 4 + idA s (a + 2) ≤ T.size := by rw [HTS.out]; omega
            have HQ2 := Lib.hid ((prs_step (acc := l) hfit).symm.trans HQ.out)
            have hp : T.extract 4 (4 + idA s (a + 2)) = s.extract (a + 4) (a + 4 + idA s (a + 2)) := by rw [HT.out, rest_cut s a 4 _ (by omega), Nat.add_assoc a 4]
            have hT2 : T.extract (4 + idA s (a + 2)) T.size = s.extract (a + 4 + idA s (a + 2)) s.size := by
              rw [HT.out, rest_rest s a _ (by omega), Nat.add_assoc a 4]
            have HT2 := Lib.hid hT2
            have HP : Hid ((⟨idA s a, T.extract 4 (4 + idA s (a + 2))⟩ : Fd) = fdA s a) := by show _ = _; rw [hp]; rfl
            have hr : (4 : Int) + ((idA s (a + 2) : Nat) : Int) = ((4 + idA s (a + 2) : Nat) : Int) := by omega
            generalize hn : 4 + idA s (a + 2) = m at *
            have HM := Lib.hid hn
            generalize hid : idA s (a + 2) = n at *
            generalize hid2 : idA s a = v1 at *
            generalize hpp : T.extract 4 m = p at *
            have HX5 := Lib.hid (heap_alloc_new w2 (.cells #[.int .u16 (v1 : Nat), .string p] 172))
            have HPP := Lib.hid hpp
            clear hid hid2 hp hT2 hn
            go_wp2_with (at_builtin; go_must (refine wpList_append_own_at _ rfl (.tmp 28) (.tmp 36) _ rfl w.heap.size 172 i0 (.agg #[.int .u16 0, .string ⟨#[]⟩]) 2 24 Tryz.underlying108 hi hz0 hz1 hz2 rfl (by decide) (.slice A l.length cap) l.length _ rfl (HO2.out.alloc _) ⟨w2.heap.size, 0, none⟩ 1 1 [.int .u16 (v1 : Nat), .string p] rfl rfl (cells2 HX5.out) (cellF_one ⟨v1, p⟩) (by unfold maxLen; omega) (by omega) (by have h3 := HB2.out.size; simp; omega) ?_; intro v' w6 hown' hgrow hnil hloc))
            have HO6 : Hid (w6.ownsRow w.heap.size 172 2 v' (l ++ [fdA s a]).length (cellsF (l ++ [fdA s a]))) := by
              show World.ownsRow _ _ _ _ _ _ _
              rw [← HP.out, List.length_append, cellsF_app]
              exact hown'
            have HB6 := Lib.hid ((HB2.out.alloc HB2.out.size _).grown hgrow (by have h3 := HB2.out.size; simp; omega) (fun g hg => (HO2.out.lt g hg).1))
            clear hown' hgrow hnil hloc
            go_wp2_with fail
            go_roundg (s.size - (a + 4 + n))
            case measure => omega
            case rel => exact ⟨a + 4 + n, _, _, rfl, hfit, by rw [List.length_append]; simp; omega, Nat.le_refl _, HT2.out, HQ2.out, HO6.out, HB6.out⟩
          · have hfb : decide ((T.size : Int) < 4 + (idA s (a + 2) : Nat)) = true := decide_eq_true (by rw [HTS.out]; omega)
            have HN := Lib.hid (HNO.out (HQ.out.symm.trans (prs_no hlt hfit)))
            go_wp2_with fail
            go_ret2
            rw [HN.out.1, HN.out.2]
            exact ⟨none, 0, rfl, Fds.nil _ _, HB2.out⟩
      · have hpos : ¬ 0 < T.size := by omega
        have HN := Lib.hid (HYES.out _ (HQ.out.symm.trans (prs_end (by omega))))
        go_wp2_with fail
        go_ret2
        rw [HN.out.1, HN.out.2]
        exact ⟨A, cap, rfl, fds_of_own HO.out, HB.out⟩
end Go.Proofs.YtjnoapbddifcpaaGreatDoor

namespace Go.Proofs.YtjnoapbddifcpaaGreatDoor
set_option maxRecDepth 100000
open Go.RowKit Go.Deep Go.Joins Go.Lib

/-- A Builder in block b, so many bytes in it. -/
def Bd (w : World) (B b : Nat) (l : List Nat) : Prop :=
  B ≤ b ∧ ∃ p v, w.heap[b]? = some (.cells #[p, v] 251 (0, 0)) ∧ (p = .pointer none ∨ p = .pointer (some ⟨b, 0, none⟩)) ∧ w.ownsRow B 5 1 v l.length (cells8 l) ∧ v.ownBlock ≠ some b
theorem row_keptE {w w' : World} {B n size : Nat} {e : TypeId} {v : Value} {l : List Value} (ho : w.ownsRow B e size v n l) (hk : ∀ g, v.ownBlock = some g → w'.heap[g]? = w.heap[g]?) : w'.ownsRow B e size v n l := by
  refine ⟨ho.1, ?_⟩
  rcases ho.2 with ⟨rfl, h⟩ | ⟨g, cap, cur, rfl, hg, hb, h⟩
  · exact .inl ⟨rfl, h⟩
  · exact .inr ⟨g, cap, cur, rfl, hg, (hk g rfl).trans hb, h⟩
theorem lt_of_heapE {w : World} {g : Nat} {o : Obj} (h : w.heap[g]? = some o) : g < w.heap.size := by
  rcases Nat.lt_or_ge g w.heap.size with hlt | hge
  · exact hlt
  · rw [Array.getElem?_eq_none hge] at h; cases h
theorem Bd.below {w w' : World} {B b : Nat} {l : List Nat} (h : Bd w B b l) (hb : Below w.heap.size w w') : Bd w' B b l := by
  obtain ⟨hB, p, v, hh, hp, ho, hne⟩ := h
  exact ⟨hB, p, v, (hb.block b (lt_of_heapE hh)).trans hh, hp, row_keptE ho (fun g hg => hb.block g (ho.lt g hg).2), hne⟩
theorem Bd.lt {w : World} {B b : Nat} {l : List Nat} (h : Bd w B b l) : b < w.heap.size := by
  obtain ⟨_, p, v, hh, _⟩ := h
  exact lt_of_heapE hh
end Go.Proofs.YtjnoapbddifcpaaGreatDoor

namespace Go.Proofs.YtjnoapbddifcpaaGreatDoor
set_option maxRecDepth 100000
open Go.RowKit Go.Joins Go.Deep

theorem info_fd2 : (Tryz.prog.info? 172).map (·.size) = some 2 := by kernel_rfl
theorem fd_box (t : Fd) (w : World) : (w.alloc (.cells #[.int .u16 (t.id : Nat), .string t.d] 172)).cell? ⟨w.heap.size, 0, none⟩ = some (.int .u16 (t.id : Nat)) ∧ (w.alloc (.cells #[.int .u16 (t.id : Nat), .string t.d] 172)).cell? ⟨w.heap.size, 1, none⟩ = some (.string t.d) := by
  constructor
  · rw [cell_of_row _ _ 0 _ _ _ (heap_alloc_new w _)]; rfl
  · rw [cell_of_row _ _ 1 _ _ _ (heap_alloc_new w _)]; rfl
end Go.Proofs.YtjnoapbddifcpaaGreatDoor

namespace Go.Proofs.YtjnoapbddifcpaaGreatDoor
set_option maxRecDepth 100000
open Go.RowKit Go.Joins Go.Deep
attribute [local go_sem ↓] Go.wp_at_zero Go.wp_at_succ
attribute [local go_sem] ByteArray.size_append

end Go.Proofs.YtjnoapbddifcpaaGreatDoor

namespace Go.Proofs.YtjnoapbddifcpaaGreatDoor
set_option maxRecDepth 100000
open Go.RowKit Go.Joins Go.Deep

def fewB (l : List Fd) : Bool := decide (∀ f ∈ l, l.length ≤ 60 ∧ f.d.size ≤ 70000)
def ex13 : ByteArray := ⟨#[1, 0, 2, 0, 97, 98]⟩
end Go.Proofs.YtjnoapbddifcpaaGreatDoor

namespace Go.Proofs.YtjnoapbddifcpaaGreatDoor
set_option maxRecDepth 100000
open Go.RowKit Go.Joins Go.Deep

/-- Where the first field of an ID stands; how many there are, if none is. -/
def fx (id : Nat) : List Fd → Nat
  | [] => 0
  | f :: l => if f.id = id then 0 else fx id l + 1
theorem fx_yes {id : Nat} {f : Fd} {l : List Fd} (h : f.id = id) : fx id (f :: l) = 0 := if_pos h
theorem fx_no {id : Nat} {f : Fd} {l : List Fd} (h : f.id ≠ id) : fx id (f :: l) = fx id l + 1 := if_neg h
theorem fx_le (id : Nat) : ∀ l, fx id l ≤ l.length
  | [] => Nat.le_refl _
  | f :: l => by
    unfold fx
    split
    · exact Nat.zero_le _
    · have := fx_le id l
      simp only [List.length_cons]
      omega
theorem fx_hit (id : Nat) : ∀ (l : List Fd) (i : Nat) (h : i < l.length), l[i].id = id → (∀ j (hj : j < l.length), j < i → l[j].id ≠ id) → fx id l = i
  | f :: l, 0, _, h1, _ => fx_yes h1
  | f :: l, i + 1, h, h1, h2 => by
    have h0 : f.id ≠ id := h2 0 (by simp) (by omega)
    rw [fx_no h0, fx_hit id l i (by simpa using h) (by simpa using h1) fun j hj hji => h2 (j + 1) (by simpa using hj) (by omega)]
theorem fx_none (id : Nat) : ∀ (l : List Fd), (∀ j (hj : j < l.length), l[j].id ≠ id) → fx id l = l.length
  | [], _ => rfl
  | f :: l, h => by
    have h0 : f.id ≠ id := h 0 (by simp)
    rw [fx_no h0, fx_none id l fun j hj => h (j + 1) (by simpa using hj)]
    rfl
/-- Without the fields of some IDs. -/
def woL (l : List Fd) (ids : List Nat) : List Fd := l.filter fun f => !ids.contains f.id
/-- With a field in its place. -/
def putL (l : List Fd) (f : Fd) : List Fd := l.take (fx f.id l) ++ ([f] ++ woL (l.drop (fx f.id l)) [f.id])
theorem eqb_nat (a b : Nat) : (((a : Nat) : Int) == ((b : Nat) : Int)) = decide (a = b) := by
  rw [Bool.eq_iff_iff, beq_iff_eq, decide_eq_true_iff]
  omega
theorem clo13_any (f : Fd) (id gid : Nat) (w : World) (hg : gid < w.heap.size) (hc : w.cell? ⟨gid, 0, none⟩ = some (.int .u16 (id : Nat))) :
    Calls Tryz.prog 180 #[valF f, .pointer (some ⟨gid, 0, none⟩)] w fun e w' => e = .returned (.bool (decide (f.id = id))) ∧ Below w.heap.size w w' := by
  obtain ⟨d0, d1⟩ := fd_box f w
  have he := eqb_nat f.id id
  have hb := (Below.refl w.heap.size w).alloc (Nat.le_refl _) (.cells #[.int .u16 (f.id : Nat), .string f.d] 172)
  have hc1 : (w.alloc (.cells #[.int .u16 (f.id : Nat), .string f.d] 172)).cell? ⟨gid, 0, none⟩ = some (.int .u16 (id : Nat)) := (hb.cell (p := ⟨gid, 0, none⟩) hg).trans hc
  have HB := Lib.hid hb
  have hit := info_fd2
  unfold valF
  clear hb hc
  go_enter Tryz.func180, Tryz.ntmps180
  go_wp2
  go_ret
  exact ⟨by rw [← he]; rfl, HB.out⟩
/-- What IndexFunc answers. -/
def ixR (id : Nat) (l : List Fd) : Int := if fx id l < l.length then ((fx id l : Nat) : Int) else -1
theorem ixR_hit {id : Nat} {l : List Fd} {k : Nat} (h : fx id l = k) (hk : k < l.length) : ixR id l = (k : Int) := by
  unfold ixR
  rw [h, if_pos hk]
theorem ixR_none {id : Nat} {l : List Fd} (h : fx id l = l.length) : ixR id l = -1 := by
  unfold ixR
  rw [if_neg (by omega)]
set_option maxHeartbeats 4000000 in
theorem indexFunc13_any (A : Option Addr) (cap : Nat) (l : List Fd) (id gid : Nat) (w : World) (hF : Fds w A l) (hl : l.length ≤ 1000000) (hg : gid < w.heap.size) (hc : w.cell? ⟨gid, 0, none⟩ = some (.int .u16 (id : Nat))) :
    Calls Tryz.prog 179 #[.slice A l.length cap, .func (.func 180) #[] #[.pointer (some ⟨gid, 0, none⟩)]] w fun e w' => e = .returned (.int .i64 (ixR id l)) ∧ Below w.heap.size w w' := by
  have hit := info_fd2
  have HF := Lib.hid hF
  have HCL := Lib.hid (fun (f : Fd) (w1 : World) h => clo13_any f id gid w1 h)
  have HC := Lib.hid hc
  have HG := Lib.hid hg
  have HHI := Lib.hid (fx_hit id l)
  have HNO := Lib.hid (fx_none id l)
  clear hF hc hg
  go_enter Tryz.func179, Tryz.ntmps179
  go_wp2_with fail
  go_loopw [8] (fun i wr => ∃ k : Nat, k ≤ l.length ∧ i = .int .i64 (k : Nat) ∧ Hid (∀ j (hj : j < l.length), j < k → l[j].id ≠ id) ∧ Hid (Below w.heap.size w wr)) (fun i _ => l.length - (intOf i).toNat)
  case atStart => exact ⟨0, Nat.zero_le _, rfl, fun j _ h => absurd h (by omega), Below.refl _ _⟩
  case round =>
    obtain ⟨k, hk, rfl, HP, HB⟩ := hrel
    by_cases hkn : k < l.length
    · obtain ⟨b, off, rfl, hbl, hcc⟩ := (HF.out.below (Nat.le_refl _) HB.out) (by omega)
      obtain ⟨c0, c1⟩ := hcc k hkn
      have HY : Hid (l[k].id = id → fx id l = k) := fun h => HHI.out k hkn h HP.out
      have HP2 : Hid (l[k].id ≠ id → ∀ j (hj : j < l.length), j < k + 1 → l[j].id ≠ id) := fun h j hj hjk => by
        by_cases e : j = k
        · subst e; exact h
        · exact HP.out j hj (by omega)
      have HCK := Lib.hid (HCL.out l[k] wr (Nat.lt_of_lt_of_le HG.out HB.out.size) ((HB.out.cell (p := ⟨gid, 0, none⟩) HG.out).trans HC.out))
      clear hcc
      generalize l[k] = t at *
      obtain ⟨tid, td⟩ := t
      dsimp only at c0 c1 HY HP2 HCK
      unfold valF at HCK
      dsimp only at HCK
      by_cases hid : tid = id
      · rw [decide_eq_true hid] at HCK
        have HR := Lib.hid (ixR_hit (HY.out hid) hkn)
        have HID := Lib.hid hid
        clear HY HP2 HP hid
        go_wp2_with fail
        refine (HCK.out).mono ?_
        rintro e w2 ⟨rfl, hb2⟩
        have HB2 := Lib.hid (below_then HB.out hb2)
        clear hb2
        go_wp2_with fail
        go_ret
        exact ⟨by rw [HR.out]; rfl, HB2.out⟩
      · rw [decide_eq_false hid] at HCK
        have HP3 := Lib.hid (HP2.out hid)
        clear HY HP2 HP
        go_wp2_with fail
        refine (HCK.out).mono ?_
        rintro e w2 ⟨rfl, hb2⟩
        have HB2 := Lib.hid (below_then HB.out hb2)
        clear hb2
        go_wp2_with fail
        go_roundw
        case rel => exact ⟨k + 1, by omega, by go_num, HP3.out, HB2.out⟩
        case measure => simp [intOf]; omega
    · obtain rfl : k = l.length := by omega
      have HR := Lib.hid (ixR_none (HNO.out fun j hj => HP.out j hj hj))
      go_wp2_with fail
      go_ret
      exact ⟨by rw [HR.out]; rfl, HB.out⟩
set_option maxHeartbeats 2000000 in
theorem place_any (A : Option Addr) (cap : Nat) (l : List Fd) (id : Nat) (w : World) (hF : Fds w A l) (hl : l.length ≤ 1000000) :
    Calls Tryz.prog 154 #[.slice A l.length cap, .int .u16 (id : Nat)] w fun e w' => e = .returned (.int .i64 (fx id l : Nat)) ∧ Below w.heap.size w w' := by
  have hmf : ∀ (fn : Fn) (first cap : Array Value) (w : World), (Instr.makeFunc fn first cap).run Tryz.prog w = .ok (.func fn first cap) w := fun _ _ _ _ => rfl
  have hb := (Below.refl w.heap.size w).alloc (Nat.le_refl _) (.cells #[.int .u16 (id : Nat)] 28)
  have HX := Lib.hid (indexFunc13_any A cap l id w.heap.size (w.alloc (.cells #[.int .u16 (id : Nat)] 28)) (hF.below (Nat.le_refl _) hb) hl (by simp) (by rw [cell_of_row _ _ 0 _ _ _ (heap_alloc_new w _)]; rfl))
  have HB := Lib.hid hb
  have hle := fx_le id l
  clear hF hb
  go_enter Tryz.func154, Tryz.ntmps154
  by_cases hm : fx id l < l.length
  · have HXX := HX.out
    rw [ixR_hit rfl hm] at HXX
    have HX2 := Lib.hid HXX
    clear HX HXX
    generalize fx id l = m at *
    have hm0 : decide ((m : Int) < 0) = false := decide_eq_false (by omega)
    go_wp2_with fail
    refine (HX2.out).mono ?_
    rintro e w2 ⟨rfl, hb2⟩
    have HB2 := Lib.hid (below_then HB.out hb2)
    clear hb2
    go_wp2_with fail
    go_ret
    exact ⟨rfl, HB2.out⟩
  · have he : fx id l = l.length := by omega
    have HXX := HX.out
    rw [ixR_none he] at HXX
    have HX2 := Lib.hid HXX
    have HE := Lib.hid he
    clear HX HXX hm hle he
    go_wp2_with fail
    refine (HX2.out).mono ?_
    rintro e w2 ⟨rfl, hb2⟩
    have HB2 := Lib.hid (below_then HB.out hb2)
    clear hb2
    go_wp2_with fail
    go_ret
    exact ⟨by rw [HE.out]; rfl, HB2.out⟩
/-- What Find answers. -/
def fndD (l : List Fd) (id : Nat) : ByteArray := ((l[fx id l]?).getD ⟨0, ⟨#[]⟩⟩).d
def fndB (l : List Fd) (id : Nat) : Bool := decide (fx id l < l.length)
set_option maxHeartbeats 2000000 in
theorem find13_any (A : Option Addr) (cap : Nat) (l : List Fd) (id : Nat) (w : World) (hF : Fds w A l) (hl : l.length ≤ 1000000) :
    Calls Tryz.prog 111 #[.slice A l.length cap, .int .u16 (id : Nat)] w fun e w' => e = .returned (.tuple #[.string (fndD l id), .bool (fndB l id)]) ∧ Below w.heap.size w w' := by
  have hit := info_fd2
  have HP := Lib.hid (place_any A cap l id w hF hl)
  have HF := Lib.hid hF
  clear hF
  by_cases hm : fx id l < l.length
  · have hD : fndD l id = l[fx id l].d := by unfold fndD; rw [List.getElem?_eq_getElem hm]; rfl
    have HD := Lib.hid hD
    have HBB : Hid (fndB l id = true) := decide_eq_true hm
    have hne : (((fx id l : Nat) : Int) == (l.length : Int)) = false := by rw [beq_eq_false_iff_ne]; omega
    have HFE := Lib.hid (fun (w1 : World) (h : Fds w1 A l) => h (by omega))
    clear hD
    go_enter Tryz.func111, Tryz.ntmps111
    go_wp2_with fail
    refine (HP.out).mono ?_
    rintro e w2 ⟨rfl, hb2⟩
    obtain ⟨b, off, rfl, _, hcc⟩ := HFE.out w2 (HF.out.below (Nat.le_refl _) hb2)
    obtain ⟨c0, c1⟩ := hcc _ hm
    have HB2 := Lib.hid hb2
    obtain ⟨dd, hdd⟩ : ∃ x, x = fndD l id := ⟨_, rfl⟩
    rw [← HD.out, ← hdd] at c1
    have HDD := Lib.hid hdd
    clear hcc hb2 HP HF HFE HD hdd
    have i1 : (0 : Int) ≤ ((fx id l : Nat) : Int) := by omega
    have i2 : ((fx id l : Nat) : Int) < (l.length : Int) := by omega
    generalize fx id l = m at *
    go_wp2_with fail
    go_ret2
    rw [HBB.out, ← HDD.out]
    exact ⟨rfl, HB2.out⟩
  · have he : fx id l = l.length := by have := fx_le id l; omega
    have HD : Hid (fndD l id = ⟨#[]⟩) := by
      show _ = _
      unfold fndD
      rw [List.getElem?_eq_none (by omega)]
      rfl
    have HBB : Hid (fndB l id = false) := decide_eq_false hm
    rw [he] at HP
    go_enter Tryz.func111, Tryz.ntmps111
    go_wp2_with fail
    refine (HP.out).mono ?_
    rintro e w2 ⟨rfl, hb2⟩
    go_wp2_with fail
    go_ret2
    rw [HBB.out, HD.out]
    exact ⟨rfl, hb2⟩
end Go.Proofs.YtjnoapbddifcpaaGreatDoor

namespace Go.Proofs.YtjnoapbddifcpaaGreatDoor
set_option maxRecDepth 100000
open Go.Joins Go.RowKit Go.Deep Go.ChangeShapes Go.WideShapes

/-- A slice of IDs. -/
def Ids (w : World) (A : Option Addr) (l : List Nat) : Prop := 0 < l.length → ∃ b off, A = some ⟨b, off, none⟩ ∧ b < w.heap.size ∧ ∀ i (h : i < l.length), w.cell? ⟨b, off + i, none⟩ = some (.int .u16 (l[i] : Nat))
theorem Ids.below {w w' : World} {B : Nat} {A : Option Addr} {l : List Nat} (h : Ids w A l) (hB : w.heap.size ≤ B) (hb : Below B w w') : Ids w' A l := fun hn => by
  obtain ⟨b, off, e, hlt, hc⟩ := h hn
  have hl := Nat.lt_of_lt_of_le hlt hB
  exact ⟨b, off, e, Nat.lt_of_lt_of_le hlt hb.size, fun i hi => (hb.cell (p := ⟨b, off + i, none⟩) hl).trans (hc i hi)⟩
end Go.Proofs.YtjnoapbddifcpaaGreatDoor

namespace Go.Proofs.YtjnoapbddifcpaaGreatDoor
set_option maxRecDepth 100000
open Go.RowKit Go.Joins Go.Deep

/-- A slice that is nil is empty and has no room. -/
def Nil0 (A : Option Addr) (n cap : Nat) : Prop := A = none → n = 0 ∧ cap = 0
theorem slice_of_own0 {w : World} {B : Nat} {T : TypeId} {v : Value} {l : List Fd} (h : w.ownsRow B T 2 v l.length (cellsF l)) : ∃ A cap, v = .slice A l.length cap ∧ Nil0 A l.length cap := by
  rcases ownsRow_forms h with ⟨he, h0⟩ | ⟨g2, cap2, he⟩
  · exact ⟨none, 0, by rw [he, h0], fun _ => ⟨h0, rfl⟩⟩
  · exact ⟨some ⟨g2, 0, none⟩, cap2, he, fun e => by cases e⟩
end Go.Proofs.YtjnoapbddifcpaaGreatDoor
