/-
  Contract of the document's Try.
-/
import Derived.Test.YtljekdnjdcfliaaWTry
namespace Go.Proofs.Ytljekdnjdcfliaa
open Go.RowKit

set_option maxRecDepth 100000 in
set_option maxHeartbeats 8000000 in
theorem try_any (m : Nat) (hm : m ≤ 5) (cs : List Nat) (hc : ∀ c ∈ cs, c < 4294967296) (hl : cs.length ≤ 6) (A : Option Addr) (cap left : Nat) (hcap : cs.length ≤ cap) (hcm : cap ≤ maxLen) (hleft : left ≤ 32) (w : World) (hC : Cts w A cs.length (fun i => cs[i]?.getD 0)) :
    Calls Try.prog 36 #[.slice A cs.length cap, .int .i64 m, .int .i64 left] w fun e w' => e = .returned (.tuple #[.int .u64 ((tryF m cs left).getD 0 : Nat), .bool (tryF m cs left).isSome]) ∧ Below w.heap.size w w' := by
  induction cs generalizing A cap left w with
  | nil =>
    by_cases h0 : left = 0
    · subst h0
      go_enter Try.func36, Try.ntmps36
      go_wp2_with fail
      go_ret2
      exact ⟨rfl, Below.refl _ _⟩
    · have e : tryF m [] left = none := by simp [tryF, h0]
      rw [e]
      go_enter Try.func36, Try.ntmps36
      go_wp2_with fail
      go_ret2
      refine ⟨?_, Below.refl _ _⟩
      simp [h0]
  | cons c cs ih =>
    obtain ⟨b, off, rfl, hb, hcc⟩ := hC (by simp)
    have hcs : ∀ i, i < cs.length → w.cell? ⟨b, off + 1 + i, none⟩ = some (.int .u32 (cs[i]?.getD 0 : Nat)) := fun i hi => by
      have := (hcc (i + 1) (by simp; omega)).1
      rw [show off + 1 + i = off + (i + 1) by omega]
      simpa using this
    have c0 := (hcc 0 (by simp)).1
    simp only [List.getElem?_cons_zero, Option.getD_some, Nat.add_zero] at c0
    have hcl := hc c (by simp)
    have hcc2 : ∀ x ∈ cs, x < 4294967296 := fun x hx => hc x (by simp [hx])
    have hl2 : cs.length ≤ 6 := by simp at hl; omega
    have HIH := Lib.hid (fun (A' : Option Addr) (cap' left' : Nat) (h1 : cs.length ≤ cap') (h1b : cap' ≤ maxLen) (h2 : left' ≤ 32) (w' : World) (h3 : Below w.heap.size w w') (h4 : 0 < cs.length → A' = some ⟨b, off + 1, none⟩) =>
      ih hcc2 hl2 A' cap' left' h1 h1b h2 w' (fun hn => ⟨b, off + 1, h4 hn, Nat.lt_of_lt_of_le hb h3.size, fun i hi => ⟨(h3.cell (p := ⟨b, off + 1 + i, none⟩) hb).trans (hcs i hi), by simp only [List.getElem?_eq_getElem hi, Option.getD_some]; exact hcc2 _ (List.getElem_mem _)⟩⟩))
    have HBD := Lib.hid (fun z left' (h : tryF m cs left' = some z) => try_bound m cs hcc2 left' z h)
    have HTF : Hid (tryF m (c :: cs) left = tl m c (tryF m cs) left m) := rfl
    clear ih hcc hcs hc hC hcc2
    generalize hT : tryF m cs = g at *
    generalize hTT : tryF m (c :: cs) left = tt at *
    clear hT hTT
    generalize hn : cs.length = n at *
    simp only [List.length_cons, hn] at *
    have hz0 : ((n : Int) + 1 == 0) = false := by rw [beq_eq_false_iff_ne]; omega
    go_enter Try.func36, Try.ntmps36
    go_wp2_with fail
    go_loopw [8, 9, 10, 11] (fun vb vf vs vl wr => ∃ k sz l : Nat, k ≤ m ∧ sz = 2 ^ k ∧ l = m - k ∧ vb = .int .u64 ((tl m c g left k).getD 0 : Nat) ∧ vf = .bool (tl m c g left k).isSome ∧ vs = .int .i64 (sz : Nat) ∧ vl = .int .i64 (l : Nat) ∧ Below w.heap.size w wr) (fun _ _ _ vl _ => (intOf vl).toNat)
    case atStart => exact ⟨0, 1, m, Nat.zero_le _, rfl, rfl, rfl, rfl, rfl, rfl, Below.refl _ _⟩
    case round =>
      obtain ⟨k, sz, l, hk, hsz, hlk, rfl, rfl, rfl, rfl, hbb⟩ := hrel
      have HSZ := Lib.hid hsz
      have HLK := Lib.hid hlk
      have hlm : l + k = m := by omega
      have HB := Lib.hid hbb
      clear hbb
      by_cases hlt : k < m
      · have hl1 : (1 : Int) ≤ l := by omega
        have hszb : sz ≤ 16 := by
          have : 2 ^ k ≤ 2 ^ 4 := Nat.pow_le_pow_right (by omega) (by omega)
          omega
        clear hsz hlk
        have HNX : Hid (∀ w', Below w.heap.size w w' → ∀ (o : Option Nat) (vb vf : Value), tl m c g left (k + 1) = o → vb = .int .u64 (o.getD 0 : Nat) → vf = .bool o.isSome → ∃ k' sz' l' : Nat, k' ≤ m ∧ sz' = 2 ^ k' ∧ l' = m - k' ∧ vb = .int .u64 ((tl m c g left k').getD 0 : Nat) ∧ vf = .bool (tl m c g left k').isSome ∧ Value.int .i64 ((sz : Int) * 2) = .int .i64 (sz' : Nat) ∧ Value.int .i64 ((l : Int) - 1) = .int .i64 (l' : Nat) ∧ Below w.heap.size w w') := fun w' h o vb vf ho h1 h2 =>
          ⟨k + 1, sz * 2, l - 1, by omega, by rw [HSZ.out, Nat.pow_succ], by omega, by rw [ho, h1], by rw [ho, h2], by go_num, by congr 1; omega, h⟩
        have HTL : Hid (tl m c g left (k + 1) = mn (tl m c g left k) (if sz ≤ left then (g (left - sz)).map (· + c * l) else none)) := by rw [Hid, tl, HSZ.out, HLK.out]
        generalize htk : tl m c g left k = tk at *
        clear htk
        have hI1 : IntKind.i64.wrap ((l : Int) - 1) = (l : Int) - 1 := by rw [IntKind.wrap_i64]; omega
        by_cases hle : sz ≤ left
        · have hwl : IntKind.i64.wrap ((left : Int) - (sz : Int)) = ((left - sz : Nat) : Int) := by rw [IntKind.wrap_i64]; omega
          have hwu : IntKind.u64.wrap (l : Int) = l := by rw [IntKind.wrap_u64]; omega
          have x0 := (HB.out.cell (p := ⟨b, off, none⟩) hb).trans c0
          have hprod : c * l ≤ 4294967296 * 5 := Nat.mul_le_mul (by omega) (by omega)
          have hpI : ((c : Int) * (l : Int)) = ((c * l : Nat) : Int) := by push_cast; rfl
          have hw1 : IntKind.u64.wrap ((c : Int) * (l : Int)) = (c : Int) * l := by rw [IntKind.wrap_u64, hpI]; omega
          have hnm : n * (4294967296 * m) ≤ 6 * (4294967296 * 5) := Nat.mul_le_mul (by omega) (Nat.mul_le_mul_left _ (by omega))
          rw [if_pos hle] at HTL
          have HIH2 := Lib.hid (fun (A' : Option Addr) (h4 : 0 < n → A' = some ⟨b, off + 1, none⟩) => HIH.out A' (cap - 1) (left - sz) (by omega) (by omega) (by omega) wr HB.out h4)
          have HBD2 := Lib.hid (fun z => HBD.out z (left - sz))
          clear HIH HBD
          generalize hgg : g (left - sz) = gz at *
          clear hgg
          obtain ⟨A', hA'⟩ : ∃ A', (if cap = 1 then some (⟨b, off, none⟩ : Addr) else some ⟨b, off + 1, none⟩) = A' := ⟨_, rfl⟩
          have hA4 : 0 < n → A' = some ⟨b, off + 1, none⟩ := fun h => by rw [← hA', if_neg (by omega)]
          have HA4 := Lib.hid hA4
          clear hA4
          go_wp2_with fail
          refine (HIH2.out A' HA4.out).mono ?_
          rintro e w' ⟨rfl, hb'⟩
          have HB' := Lib.hid (below_then' HB.out hb')
          clear hb' HIH2 hpI
          have x1 := (HB'.out.cell (p := ⟨b, off, none⟩) hb).trans c0
          cases gz with
          | none =>
            go_wp2_with fail
            go_roundw
            case rel => exact HNX.out w' HB'.out tk _ _ (by rw [HTL.out]; cases tk <;> rfl) rfl rfl
            case measure => simp [intOf]; omega
          | some y =>
            have hyb := HBD2.out y rfl
            have hpI : ((c : Int) * (l : Int)) = ((c * l : Nat) : Int) := by push_cast; rfl
            have hw2 : IntKind.u64.wrap ((y : Int) + (c : Int) * (l : Int)) = (y : Int) + (c : Int) * l := by rw [IntKind.wrap_u64, hpI]; omega
            have HPI := Lib.hid hpI
            clear hpI
            cases tk with
            | none =>
              go_wp2_with fail
              go_roundw
              case rel => refine HNX.out w' HB'.out (some (y + c * l)) _ _ ?_ ?_ ?_ <;> first | rfl | (rw [HTL.out]; rfl) | (simp; done)
              case measure => simp [intOf]; omega
            | some x =>
              by_cases hz : y + c * l < x
              · have hzI : (y : Int) + (c : Int) * (l : Int) < (x : Int) := by rw [HPI.out]; omega
                go_wp2_with fail
                go_roundw
                case rel => refine HNX.out w' HB'.out (some (y + c * l)) _ _ ?_ ?_ ?_ <;> first | rfl | (rw [HTL.out]; simp [mn, hz]; done) | (simp; done)
                case measure => simp [intOf]; omega
              · have hzI : ¬ (y : Int) + (c : Int) * (l : Int) < (x : Int) := by rw [HPI.out]; omega
                go_wp2_with fail
                go_roundw
                case rel => refine HNX.out w' HB'.out (some x) _ _ ?_ ?_ ?_ <;> first | rfl | (rw [HTL.out]; simp [mn, hz]; done) | (simp; done)
                case measure => simp [intOf]; omega
        · rw [if_neg hle] at HTL
          go_wp2_with fail
          go_roundw
          case rel => exact HNX.out wr HB.out tk _ _ (by rw [HTL.out]; cases tk <;> rfl) rfl rfl
          case measure => simp [intOf]; omega
      · have hk2 : k = m := by omega
        have hl0 : l = 0 := by omega
        subst hk2
        subst hl0
        clear hsz hlk
        have htt := HTF.out
        subst htt
        go_wp2_with fail
        go_ret2
        exact ⟨rfl, HB.out⟩
end Go.Proofs.Ytljekdnjdcfliaa
