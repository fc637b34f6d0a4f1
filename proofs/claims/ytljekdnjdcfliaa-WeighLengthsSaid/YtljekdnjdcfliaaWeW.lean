/-
  weigh: contract of Lengths.
-/
import Derived.Test.YtljekdnjdcfliaaWeE
import Derived.Test.YtljekdnjdcfliaaWeU
namespace Go.Proofs.Ytljekdnjdcfliaa
open Go.RowKit

/-- What Lengths answers. -/
def LenSpec (f : Nat → Nat) (n most : Nat) (L : Nat → Nat) : Prop := ∃ S : List Nat, S.Perm (comeL f n) ∧ SrtOn f 0 S.length S ∧ (∀ s, s < n → f s = 0 → L s = 0) ∧ (S.length = 1 → L (at0 S 0) = 1) ∧
  (2 ≤ S.length → ∀ i, i < S.length → L (at0 S i) = lensOf (S.map f) most i)
theorem made_len (n : Nat) : (madeCells #[Value.int IntKind.u8 0] n).toList = (lenA n fun _ => 0).toList := by
  congr 1
  apply Array.ext_getElem?
  intro i
  by_cases hi : i < n
  · rw [lenA_at _ _ _ hi]
    simp [madeCells, hi, Nat.mod_one]
  · rw [Array.getElem?_eq_none (by rw [size_madeCells]; omega), Array.getElem?_eq_none (by rw [lenA_size]; omega)]
theorem isLen_of_make {w : World} {base g n : Nat} (h : w.ownsRow base 5 1 (.slice (some ⟨g, 0, none⟩) n n) n (madeCells #[Value.int IntKind.u8 0] n).toList) : IsLen w g n fun _ => 0 := by
  obtain ⟨_, h | ⟨g', cap, cur, hv, hb, hh, h1, h2, h3, h4⟩⟩ := h
  · exact absurd h.1 (by simp)
  · simp only [Value.slice.injEq, Option.some.injEq, Addr.mk.injEq, and_true, true_and] at hv
    obtain ⟨e1, e2⟩ := hv
    subst e1
    subst e2
    rw [made_len, List.take_of_length_le (by simp [h3])] at h4
    have : cur = lenA n fun _ => 0 := Array.toList_inj.1 h4
    subst this
    exact hh
theorem info_u8 : (Try.prog.info? 5).map (fun i => (i.zero, i.size, i.bytes)) = some (some (.int .u8 0), 1, 1) := by kernel_rfl
theorem srt_map (f : Nat → Nat) (S : List Nat) (hs : SrtOn f 0 S.length S) : (S.map f).Pairwise (· ≤ ·) := by
  rw [List.pairwise_iff_getElem]
  intro i j hi hj hij
  rw [List.length_map] at hi hj
  have := hs i j (Nat.zero_le _) (by omega) hj
  rw [at0, at0, List.getElem?_eq_getElem hi, List.getElem?_eq_getElem hj] at this
  simpa using this
theorem at0_inj (f : Nat → Nat) (n : Nat) (S : List Nat) (hp : S.Perm (comeL f n)) : ∀ i j, i < S.length → j < S.length → at0 S i = at0 S j → i = j := fun i j hi hj e => by
  have hnd : S.Nodup := hp.symm.nodup (comeL_nodup f n)
  rw [at0, at0, List.getElem?_eq_getElem hi, List.getElem?_eq_getElem hj] at e
  simp only [Option.getD_some] at e
  exact (List.getElem_inj hnd).1 e
theorem lens_many (f : Nat → Nat) (n most : Nat) (S : List Nat) (hp : S.Perm (comeL f n)) (hs : SrtOn f 0 S.length S) (hm : 1 ≤ most) (h2 : 2 ≤ S.length) (hpow : S.length ≤ 2 ^ most) : LenSpec f n most (tot (at0 S) (shs (S.map f) most (2 * S.length - 2))) := by
  have hpw := srt_map f S hs
  have hinj := at0_inj f n S hp
  have he := row_enough (S.map f) most hm (by rw [List.length_map]; exact h2) (by rw [List.length_map]; exact hpow)
  rw [List.length_map] at he
  have hle := shs_le (S.map f) hpw most _ he
  rw [List.length_map] at hle
  refine ⟨S, hp, hs, fun s hs' hf => tot_zero (at0 S) _ S.length s hle (fun i hi e => ?_), fun h => by omega, fun _ i hi => ?_⟩
  · have := (comeL_lt f n s (hp.mem_iff.1 (by rw [← e, at0, List.getElem?_eq_getElem hi]; exact List.getElem_mem _))).2
    omega
  · rw [tot_at (at0 S) S.length hinj _ hle i hi, lensOf, List.length_map]

set_option maxRecDepth 100000 in
set_option maxHeartbeats 8000000 in
theorem lengths_any (A : Option Addr) (n capA most : Nat) (f : Nat → Nat) (w : World) (hC : Cts w A n f) (hn : n ≤ 400) (hm1 : 1 ≤ most) (hm15 : most ≤ 15) (hpow : (comeL f n).length ≤ 2 ^ most)
    (hsym : ∀ base gd m cap pc, 20 < m → m ≤ (comeL f n).length → SymOk base gd m cap pc n f) :
    Calls Try.prog 30 #[.slice A n capA, .int .i64 most] w fun e w' => ∃ gl L, e = .returned (.tuple #[.slice (some ⟨gl, 0, none⟩) n n, .int .i64 0]) ∧ IsLen w' gl n L ∧ LenSpec f n most L ∧ w.heap.size ≤ gl ∧ Below w.heap.size w w' := by
  have hmf : ∀ (fn : Fn) (first cap : Array Value) (w : World), (Instr.makeFunc fn first cap).run Try.prog w = .ok (.func fn first cap) w := fun _ _ _ _ => rfl
  obtain ⟨i0, hi, hz0, hz1, hz2⟩ := info_parts info_u8
  have HCO := Lib.hid (coming_any A n capA f w hC hn hsym)
  have HC := Lib.hid hC
  clear hC hsym
  have hp15 : 2 ^ most ≤ 2 ^ 15 := Nat.pow_le_pow_right (by omega) hm15
  obtain ⟨q, hq⟩ : ∃ q, q = 2 ^ most := ⟨_, rfl⟩
  have hsh : wrap64 ((2 : Int) ^ most) = (q : Int) := by
    have e : ((2 : Int) ^ most) = ((2 ^ most : Nat) : Int) := by push_cast; rfl
    rw [e, ← hq]
    unfold wrap64
    omega
  have hI1 : ¬ (most : Int) < 1 := by omega
  have hI2 : ¬ 15 < (most : Int) := by omega
  have hI3 : ¬ 400 < (n : Int) := by omega
  go_enter Try.func30, Try.ntmps30
  go_wp2_with fail
  refine (HCO.out).mono ?_
  rintro e w1 ⟨S, v, rfl, hp, hs, hv, hb1⟩
  have hl : S.length = (comeL f n).length := hp.length_eq
  have hle := comeL_le f n
  rw [← hl, ← hq] at hpow
  rw [← hq] at hp15
  have HP := Lib.hid hp
  have HS := Lib.hid hs
  have HQ := Lib.hid hq
  have HL := Lib.hid hl
  have hle2 : S.length ≤ n := by omega
  clear hq hl hle
  have HB1 := Lib.hid hb1
  clear hp hs hb1
  rcases hv with ⟨rfl, rfl⟩ | ⟨gd, cap, rfl, hgd, ho⟩
  · have hI4 : ¬ (q : Int) < 0 := by omega
    go_wp2_with (at_make; refine wpList_make_full _ rfl _ _ 25 rfl w.heap.size 5 i0 (.int .u8 0) 1 Try.underlying25 hi hz0 hz1 _ _ _ _ n rfl rfl rfl rfl (by rw [hz2]; omega) (by unfold maxLen; omega) HB1.out.size ?_)
    intro w2 hown2 hgrow2
    have H2 := Lib.hid (isLen_of_make hown2)
    have HB2 := Lib.hid (HB1.out.grown hgrow2 HB1.out.size (fun k e => by cases e))
    clear hown2 hgrow2
    go_wp2_with fail
    go_ret2
    exact ⟨_, fun _ => 0, rfl, H2.out, ⟨[], HP.out, HS.out, fun _ _ _ => rfl, fun h => by simp at h, fun h => by simp at h⟩, HB1.out.size, HB2.out⟩
  · have hI4 : ¬ (q : Int) < S.length := by omega
    have hgl : gd < w1.heap.size := (ho.2.lt _ rfl).2
    have HO := Lib.hid ho
    clear ho
    generalize hc : S.length = c at *
    go_wp2_with (at_make; refine wpList_make_full _ rfl _ _ 25 rfl w.heap.size 5 i0 (.int .u8 0) 1 Try.underlying25 hi hz0 hz1 _ _ _ _ n rfl rfl rfl rfl (by rw [hz2]; omega) (by unfold maxLen; omega) HB1.out.size ?_)
    intro w2 hown2 hgrow2
    have H2 := Lib.hid (isLen_of_make hown2)
    have HB2 := Lib.hid (HB1.out.grown hgrow2 HB1.out.size (fun k e => by cases e))
    have HO2 : Hid (SnO w2 (w.heap.size + 1) gd c cap S) := ⟨HO.out.1, HO.out.2.kept hgrow2 (.inr (by simp [Value.ownBlock]))⟩
    clear hown2 hgrow2 HO
    have hlt : ∀ i, i < c → at0 S i < n ∧ 0 < f (at0 S i) := fun i hi => by
      refine comeL_lt f n _ (HP.out.mem_iff.1 ?_)
      rw [at0, List.getElem?_eq_getElem (by omega)]
      exact List.getElem_mem _
    rcases Nat.lt_or_ge c 2 with hc2 | hc2
    · rcases Nat.lt_or_ge c 1 with hc1 | hc1
      · -- no sign comes
        obtain rfl : c = 0 := by omega
        have hnil : S = [] := List.eq_nil_of_length_eq_zero hc
        go_wp2_with fail
        go_ret2
        refine ⟨_, fun _ => 0, rfl, H2.out, ⟨S, HP.out, by rw [hc]; exact HS.out, fun _ _ _ => rfl, fun h => by rw [hnil] at h; simp at h, fun h => by rw [hnil] at h; simp at h⟩, HB1.out.size, HB2.out⟩
      · obtain rfl : c = 1 := by omega
        have x0 := HO2.out.cell 0 (by omega)
        have hs0 := hlt 0 (by omega)
        have x1 := H2.out.cell (at0 S 0) hs0.1
        have x2 := H2.out.frozen (at0 S 0)
        have HSET := Lib.hid (H2.out.set (at0 S 0) 1)
        have HG := Lib.hid (HB2.out.setCell (p := ⟨w1.heap.size, at0 S 0, none⟩) HB1.out.size (.int .u8 1))
        have HX : Hid (LenSpec f n most fun i => if i = at0 S 0 then 1 else 0) := ⟨S, HP.out, by rw [hc]; exact HS.out, fun s hs hf => by
          simp only []
          rw [if_neg]; intro e; rw [e] at hf; omega, fun _ => if_pos rfl, fun h => by omega⟩
        clear hlt
        generalize at0 S 0 = s0 at *
        go_wp2_with fail
        go_ret2
        exact ⟨_, _, rfl, HSET.out, HX.out, HB1.out.size, HG.out⟩
    · have hWl : (S.map f).length = c := by rw [List.length_map, hc]
      have hG : ∀ i, i < c → at0 S i < n ∧ (S.map f)[i]? = some (f (at0 S i)) := fun i hi => ⟨(hlt i hi).1, by rw [List.getElem?_map, at0, List.getElem?_eq_getElem (by omega)]; rfl⟩
      have hW : ∀ x ∈ S.map f, x < 4294967296 := fun x hx => by
        obtain ⟨s, hs, rfl⟩ := List.mem_map.1 hx
        obtain ⟨_, _, _, _, hcc⟩ := HC.out (by omega)
        exact (hcc s (comeL_lt f n s (HP.out.mem_iff.1 hs)).1).2
      have hSn : Sns w2 (some ⟨gd, 0, none⟩) c (at0 S) := fun _ => ⟨gd, 0, rfl, (HO2.out.2.lt _ rfl).2, fun i hi => by simpa using HO2.out.cell i hi⟩
      have HR := Lib.hid (rows_any A (some ⟨gd, 0, none⟩) n capA c cap most f (at0 S) (S.map f) w2 (HC.out.below (Nat.le_refl _) HB2.out) hSn hn hWl (by omega) hG hW hm15)
      have hpw := srt_map f S (by rw [hc]; exact HS.out)
      have hinj := at0_inj f n S HP.out
      rw [hc] at hinj
      have hcap : c ≤ cap := by
        obtain ⟨_, h | ⟨g', cap', cur, hv, _, _, h1, _⟩⟩ := HO2.out.2
        · omega
        · simp only [Value.slice.injEq] at hv
          omega
      have hsp := lens_many f n most S HP.out (by rw [hc]; exact HS.out) hm1 (by omega) (by rw [hc, ← HQ.out]; exact hpow)
      rw [hc] at hsp
      have HSP := Lib.hid hsp
      have HSH := Lib.hid (fun gv capv base vals w3 hV hRv (hb3 : Below w2.heap.size w2 w3) => share_any gv capv most c cap n w1.heap.size base (some ⟨gd, 0, none⟩) vals (S.map f) (at0 S) w3 hpw hWl hc2 (by omega) hm1 hm15 (by rw [← HQ.out]; exact hpow) hV hRv (hSn.below (Nat.le_refl _) hb3)
        hcap (fun b off sp e => by cases e; omega) (fun i hi => (hlt i hi).1) hinj ((hb3.block _ (by have := H2.out; exact lt_of_cells this)).trans H2.out))
      have hne0 : ¬ c = 0 := by omega
      have hne1 : ¬ c = 1 := by omega
      clear hsp hpw hinj hSn hW hG hlt
      go_wp2_with fail
      refine (HR.out).mono ?_
      rintro e w3 ⟨v, vals, rfl, hov, hrv, hb3⟩
      have hov2 := hov
      obtain ⟨_, h | ⟨gv, capv, cur, rfl, _⟩⟩ := hov2
      · omega
      · have HS3 := Lib.hid (HSH.out gv capv _ vals w3 hov hrv hb3)
        have HB3 := Lib.hid (hb3.mono HB2.out.size)
        clear hov hrv hb3
        go_wp2_with fail
        refine (HS3.out).mono ?_
        rintro e w4 ⟨rfl, hl4, hg4⟩
        go_wp2_with fail
        go_ret2
        exact ⟨_, _, rfl, hl4, HSP.out, HB1.out.size, (HB2.out.trans HB3.out).grown hg4 (HB2.out.trans HB3.out).size (fun k e => by cases e; exact HB1.out.size)⟩
end Go.Proofs.Ytljekdnjdcfliaa
