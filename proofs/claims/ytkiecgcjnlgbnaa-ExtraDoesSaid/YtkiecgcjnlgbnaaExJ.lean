/-
  Where a field is: mathematics; contracts: place, Find.
-/
import Derived.Test.YtkiecgcjnlgbnaaExI
namespace Go.Proofs.Ytkiecgcjnlgbnaa
set_option maxRecDepth 100000
open Go.RowKit Go.Joins Go.Deep

/-- Where the first field of an ID stands; how many there are, if none is. -/
def fx (id : Nat) : List Fd → Nat
  | [] => 0
  | f :: l => if f.id = id then 0 else fx id l + 1
theorem fx_yes {id : Nat} {f : Fd} {l : List Fd} (h : f.id = id) : fx id (f :: l) = 0 := if_pos h
theorem fx_no {id : Nat} {f : Fd} {l : List Fd} (h : f.id ≠ id) : fx id (f :: l) = fx id l + 1 := if_neg h
theorem fx_le (id : Nat) : ∀ l, fx id l ≤ l.length
  | [] => Nat.le_refl _
  | f :: l => by
    unfold fx
    split
    · exact Nat.zero_le _
    · have := fx_le id l
      simp only [List.length_cons]
      omega
theorem fx_hit (id : Nat) : ∀ (l : List Fd) (i : Nat) (h : i < l.length), l[i].id = id → (∀ j (hj : j < l.length), j < i → l[j].id ≠ id) → fx id l = i
  | f :: l, 0, _, h1, _ => fx_yes h1
  | f :: l, i + 1, h, h1, h2 => by
    have h0 : f.id ≠ id := h2 0 (by simp) (by omega)
    rw [fx_no h0, fx_hit id l i (by simpa using h) (by simpa using h1) fun j hj hji => h2 (j + 1) (by simpa using hj) (by omega)]
theorem fx_none (id : Nat) : ∀ (l : List Fd), (∀ j (hj : j < l.length), l[j].id ≠ id) → fx id l = l.length
  | [], _ => rfl
  | f :: l, h => by
    have h0 : f.id ≠ id := h 0 (by simp)
    rw [fx_no h0, fx_none id l fun j hj => h (j + 1) (by simpa using hj)]
    rfl
theorem fx_at (id : Nat) : ∀ (l : List Fd) (h : fx id l < l.length), l[fx id l].id = id
  | f :: l, h => by
    by_cases h0 : f.id = id
    · have e : fx id (f :: l) = 0 := fx_yes h0
      simp only [e, List.getElem_cons_zero]
      exact h0
    · have e : fx id (f :: l) = fx id l + 1 := fx_no h0
      simp only [e, List.getElem_cons_succ]
      exact fx_at id l (by rw [e] at h; simpa using h)
/-- Without the fields of some IDs. -/
def woL (l : List Fd) (ids : List Nat) : List Fd := l.filter fun f => !ids.contains f.id
/-- With a field in its place. -/
def putL (l : List Fd) (f : Fd) : List Fd := l.take (fx f.id l) ++ ([f] ++ woL (l.drop (fx f.id l)) [f.id])
theorem take_fx (id : Nat) : ∀ l : List Fd, ∀ x ∈ l.take (fx id l), x.id ≠ id
  | [], x, hx => by simp at hx
  | f :: l, x, hx => by
    by_cases h0 : f.id = id
    · have e : fx id (f :: l) = 0 := fx_yes h0
      rw [e] at hx
      simp at hx
    · have e : fx id (f :: l) = fx id l + 1 := fx_no h0
      rw [e, List.take_succ_cons] at hx
      rcases List.mem_cons.1 hx with rfl | hx
      · exact h0
      · exact take_fx id l x hx
theorem fx_append (id : Nat) : ∀ (l m : List Fd), (∀ x ∈ l, x.id ≠ id) → fx id (l ++ m) = l.length + fx id m
  | [], m, _ => by simp
  | f :: l, m, h => by
    rw [List.cons_append, fx_no (h f (by simp)), fx_append id l m fun x hx => h x (by simp [hx])]
    simp only [List.length_cons]
    omega
theorem fx_put (l : List Fd) (f : Fd) : fx f.id (putL l f) = (l.take (fx f.id l)).length := by
  unfold putL
  rw [fx_append _ _ _ (take_fx f.id l)]
  show _ + fx f.id (f :: woL _ _) = _
  rw [fx_yes rfl]
  rfl
theorem put_len (l : List Fd) (f : Fd) : fx f.id (putL l f) < (putL l f).length := by
  rw [fx_put]
  unfold putL
  simp
theorem put_at (l : List Fd) (f : Fd) : (putL l f)[fx f.id (putL l f)]'(put_len l f) = f := by
  have e := fx_put l f
  simp only [e]
  unfold putL
  rw [List.getElem_append_right (Nat.le_refl _)]
  simp
theorem put_le (l : List Fd) (f : Fd) : (putL l f).length ≤ l.length + 1 := by
  unfold putL woL
  have h1 := List.length_filter_le (fun g : Fd => !([f.id].contains g.id)) (l.drop (fx f.id l))
  simp only [List.length_append, List.length_take, List.length_drop, List.length_cons, List.length_nil] at h1 ⊢
  have := fx_le f.id l
  omega
theorem wo_put (l : List Fd) (f : Fd) : (woL (putL l f) [f.id]).length + 1 = (putL l f).length := by
  have h1 : woL (l.take (fx f.id l)) [f.id] = l.take (fx f.id l) := by
    unfold woL
    rw [List.filter_eq_self]
    intro x hx
    have := take_fx f.id l x hx
    simp [this]
  have h2 : woL (woL (l.drop (fx f.id l)) [f.id]) [f.id] = woL (l.drop (fx f.id l)) [f.id] := by
    unfold woL
    rw [List.filter_filter]
    congr 1
    funext x
    simp
  have h3 : woL (putL l f) [f.id] = l.take (fx f.id l) ++ woL (l.drop (fx f.id l)) [f.id] := by
    rw [← h1, ← h2]
    unfold putL woL
    simp [List.filter_append]
  rw [h3]
  unfold putL
  simp only [List.length_append, List.length_cons, List.length_nil]
  omega
theorem put_ok {l : List Fd} {f : Fd} (h : ∀ x ∈ l, FdOk x) (hf : FdOk f) : ∀ x ∈ putL l f, FdOk x := by
  intro x hx
  unfold putL at hx
  rcases List.mem_append.1 hx with hx | hx
  · exact h x (List.mem_of_mem_take hx)
  · rcases List.mem_append.1 hx with hx | hx
    · simp at hx; subst hx; exact hf
    · exact h x (List.mem_of_mem_drop (List.mem_filter.1 hx).1)

theorem eqb_nat (a b : Nat) : (((a : Nat) : Int) == ((b : Nat) : Int)) = decide (a = b) := by
  rw [Bool.eq_iff_iff, beq_iff_eq, decide_eq_true_iff]
  omega
theorem clo13_any (f : Fd) (id gid : Nat) (w : World) (hg : gid < w.heap.size) (hc : w.cell? ⟨gid, 0, none⟩ = some (.int .u16 (id : Nat))) :
    Calls Try.prog 41 #[valF f, .pointer (some ⟨gid, 0, none⟩)] w fun e w' => e = .returned (.bool (decide (f.id = id))) ∧ Below w.heap.size w w' := by
  obtain ⟨d0, d1⟩ := fd_box f w
  have he := eqb_nat f.id id
  have hb := (Below.refl w.heap.size w).alloc (Nat.le_refl _) (.cells #[.int .u16 (f.id : Nat), .string f.d] 38)
  have hc1 : (w.alloc (.cells #[.int .u16 (f.id : Nat), .string f.d] 38)).cell? ⟨gid, 0, none⟩ = some (.int .u16 (id : Nat)) := (hb.cell (p := ⟨gid, 0, none⟩) hg).trans hc
  have HB := Lib.hid hb
  have hit := info_fd2
  unfold valF
  clear hb hc
  go_enter Try.func41, Try.ntmps41
  go_wp2
  go_ret
  exact ⟨by rw [← he]; rfl, HB.out⟩
/-- What IndexFunc answers. -/
def ixR (id : Nat) (l : List Fd) : Int := if fx id l < l.length then ((fx id l : Nat) : Int) else -1
theorem ixR_hit {id : Nat} {l : List Fd} {k : Nat} (h : fx id l = k) (hk : k < l.length) : ixR id l = (k : Int) := by
  unfold ixR
  rw [h, if_pos hk]
theorem ixR_none {id : Nat} {l : List Fd} (h : fx id l = l.length) : ixR id l = -1 := by
  unfold ixR
  rw [if_neg (by omega)]
set_option maxHeartbeats 4000000 in
theorem indexFunc13_any (A : Option Addr) (cap : Nat) (l : List Fd) (id gid : Nat) (w : World) (hF : Fds w A l) (hl : l.length ≤ 1000000) (hg : gid < w.heap.size) (hc : w.cell? ⟨gid, 0, none⟩ = some (.int .u16 (id : Nat))) :
    Calls Try.prog 40 #[.slice A l.length cap, .func (.func 41) #[] #[.pointer (some ⟨gid, 0, none⟩)]] w fun e w' => e = .returned (.int .i64 (ixR id l)) ∧ Below w.heap.size w w' := by
  have hit := info_fd2
  have HF := Lib.hid hF
  have HCL := Lib.hid (fun (f : Fd) (w1 : World) h => clo13_any f id gid w1 h)
  have HC := Lib.hid hc
  have HG := Lib.hid hg
  have HHI := Lib.hid (fx_hit id l)
  have HNO := Lib.hid (fx_none id l)
  clear hF hc hg
  go_enter Try.func40, Try.ntmps40
  go_wp2_with fail
  go_loopw [8] (fun i wr => ∃ k : Nat, k ≤ l.length ∧ i = .int .i64 (k : Nat) ∧ Hid (∀ j (hj : j < l.length), j < k → l[j].id ≠ id) ∧ Hid (Below w.heap.size w wr)) (fun i _ => l.length - (intOf i).toNat)
  case atStart => exact ⟨0, Nat.zero_le _, rfl, fun j _ h => absurd h (by omega), Below.refl _ _⟩
  case round =>
    obtain ⟨k, hk, rfl, HP, HB⟩ := hrel
    by_cases hkn : k < l.length
    · obtain ⟨b, off, rfl, hbl, hcc⟩ := (HF.out.below (Nat.le_refl _) HB.out) (by omega)
      obtain ⟨c0, c1⟩ := hcc k hkn
      have HY : Hid (l[k].id = id → fx id l = k) := fun h => HHI.out k hkn h HP.out
      have HP2 : Hid (l[k].id ≠ id → ∀ j (hj : j < l.length), j < k + 1 → l[j].id ≠ id) := fun h j hj hjk => by
        by_cases e : j = k
        · subst e; exact h
        · exact HP.out j hj (by omega)
      have HCK := Lib.hid (HCL.out l[k] wr (Nat.lt_of_lt_of_le HG.out HB.out.size) ((HB.out.cell (p := ⟨gid, 0, none⟩) HG.out).trans HC.out))
      clear hcc
      generalize l[k] = t at *
      obtain ⟨tid, td⟩ := t
      dsimp only at c0 c1 HY HP2 HCK
      unfold valF at HCK
      dsimp only at HCK
      by_cases hid : tid = id
      · rw [decide_eq_true hid] at HCK
        have HR := Lib.hid (ixR_hit (HY.out hid) hkn)
        have HID := Lib.hid hid
        clear HY HP2 HP hid
        go_wp2_with fail
        refine (HCK.out).mono ?_
        rintro e w2 ⟨rfl, hb2⟩
        have HB2 := Lib.hid (below_then HB.out hb2)
        clear hb2
        go_wp2_with fail
        go_ret
        exact ⟨by rw [HR.out]; rfl, HB2.out⟩
      · rw [decide_eq_false hid] at HCK
        have HP3 := Lib.hid (HP2.out hid)
        clear HY HP2 HP
        go_wp2_with fail
        refine (HCK.out).mono ?_
        rintro e w2 ⟨rfl, hb2⟩
        have HB2 := Lib.hid (below_then HB.out hb2)
        clear hb2
        go_wp2_with fail
        go_roundw
        case rel => exact ⟨k + 1, by omega, by go_num, HP3.out, HB2.out⟩
        case measure => simp [intOf]; omega
    · obtain rfl : k = l.length := by omega
      have HR := Lib.hid (ixR_none (HNO.out fun j hj => HP.out j hj hj))
      go_wp2_with fail
      go_ret
      exact ⟨by rw [HR.out]; rfl, HB.out⟩
set_option maxHeartbeats 2000000 in
theorem place_any (A : Option Addr) (cap : Nat) (l : List Fd) (id : Nat) (w : World) (hF : Fds w A l) (hl : l.length ≤ 1000000) :
    Calls Try.prog 32 #[.slice A l.length cap, .int .u16 (id : Nat)] w fun e w' => e = .returned (.int .i64 (fx id l : Nat)) ∧ Below w.heap.size w w' := by
  have hmf : ∀ (fn : Fn) (first cap : Array Value) (w : World), (Instr.makeFunc fn first cap).run Try.prog w = .ok (.func fn first cap) w := fun _ _ _ _ => rfl
  have hb := (Below.refl w.heap.size w).alloc (Nat.le_refl _) (.cells #[.int .u16 (id : Nat)] 36)
  have HX := Lib.hid (indexFunc13_any A cap l id w.heap.size (w.alloc (.cells #[.int .u16 (id : Nat)] 36)) (hF.below (Nat.le_refl _) hb) hl (by simp) (by rw [cell_of_row _ _ 0 _ _ _ (heap_alloc_new w _)]; rfl))
  have HB := Lib.hid hb
  have hle := fx_le id l
  clear hF hb
  go_enter Try.func32, Try.ntmps32
  by_cases hm : fx id l < l.length
  · have HXX := HX.out
    rw [ixR_hit rfl hm] at HXX
    have HX2 := Lib.hid HXX
    clear HX HXX
    generalize fx id l = m at *
    have hm0 : decide ((m : Int) < 0) = false := decide_eq_false (by omega)
    go_wp2_with fail
    refine (HX2.out).mono ?_
    rintro e w2 ⟨rfl, hb2⟩
    have HB2 := Lib.hid (below_then HB.out hb2)
    clear hb2
    go_wp2_with fail
    go_ret
    exact ⟨rfl, HB2.out⟩
  · have he : fx id l = l.length := by omega
    have HXX := HX.out
    rw [ixR_none he] at HXX
    have HX2 := Lib.hid HXX
    have HE := Lib.hid he
    clear HX HXX hm hle he
    go_wp2_with fail
    refine (HX2.out).mono ?_
    rintro e w2 ⟨rfl, hb2⟩
    have HB2 := Lib.hid (below_then HB.out hb2)
    clear hb2
    go_wp2_with fail
    go_ret
    exact ⟨by rw [HE.out]; rfl, HB2.out⟩
/-- What Find answers. -/
def fndD (l : List Fd) (id : Nat) : ByteArray := ((l[fx id l]?).getD ⟨0, ⟨#[]⟩⟩).d
def fndB (l : List Fd) (id : Nat) : Bool := decide (fx id l < l.length)
set_option maxHeartbeats 2000000 in
theorem find13_any (A : Option Addr) (cap : Nat) (l : List Fd) (id : Nat) (w : World) (hF : Fds w A l) (hl : l.length ≤ 1000000) :
    Calls Try.prog 13 #[.slice A l.length cap, .int .u16 (id : Nat)] w fun e w' => e = .returned (.tuple #[.string (fndD l id), .bool (fndB l id)]) ∧ Below w.heap.size w w' := by
  have hit := info_fd2
  have HP := Lib.hid (place_any A cap l id w hF hl)
  have HF := Lib.hid hF
  clear hF
  by_cases hm : fx id l < l.length
  · have hD : fndD l id = l[fx id l].d := by unfold fndD; rw [List.getElem?_eq_getElem hm]; rfl
    have HD := Lib.hid hD
    have HBB : Hid (fndB l id = true) := decide_eq_true hm
    have hne : (((fx id l : Nat) : Int) == (l.length : Int)) = false := by rw [beq_eq_false_iff_ne]; omega
    have HFE := Lib.hid (fun (w1 : World) (h : Fds w1 A l) => h (by omega))
    clear hD
    go_enter Try.func13, Try.ntmps13
    go_wp2_with fail
    refine (HP.out).mono ?_
    rintro e w2 ⟨rfl, hb2⟩
    obtain ⟨b, off, rfl, _, hcc⟩ := HFE.out w2 (HF.out.below (Nat.le_refl _) hb2)
    obtain ⟨c0, c1⟩ := hcc _ hm
    have HB2 := Lib.hid hb2
    obtain ⟨dd, hdd⟩ : ∃ x, x = fndD l id := ⟨_, rfl⟩
    rw [← HD.out, ← hdd] at c1
    have HDD := Lib.hid hdd
    clear hcc hb2 HP HF HFE HD hdd
    have i1 : (0 : Int) ≤ ((fx id l : Nat) : Int) := by omega
    have i2 : ((fx id l : Nat) : Int) < (l.length : Int) := by omega
    generalize fx id l = m at *
    go_wp2_with fail
    go_ret2
    rw [HBB.out, ← HDD.out]
    exact ⟨rfl, HB2.out⟩
  · have he : fx id l = l.length := by have := fx_le id l; omega
    have HD : Hid (fndD l id = ⟨#[]⟩) := by
      show _ = _
      unfold fndD
      rw [List.getElem?_eq_none (by omega)]
      rfl
    have HBB : Hid (fndB l id = false) := decide_eq_false hm
    rw [he] at HP
    go_enter Try.func13, Try.ntmps13
    go_wp2_with fail
    refine (HP.out).mono ?_
    rintro e w2 ⟨rfl, hb2⟩
    go_wp2_with fail
    go_ret2
    rw [HBB.out, HD.out]
    exact ⟨rfl, hb2⟩
end Go.Proofs.Ytkiecgcjnlgbnaa
