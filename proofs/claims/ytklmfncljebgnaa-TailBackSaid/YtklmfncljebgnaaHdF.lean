/-
  The document's Parse of a header.
-/
import Derived.Test.YtklmfncljebgnaaHdE
namespace Go.Proofs.Ytklmfncljebgnaa
set_option maxRecDepth 100000
set_option linter.unusedSimpArgs false
open Go.RowKit Go.Joins Go.Deep Go.Op

section
variable (s : ByteArray) (L : List Nat)
def txE : Nat → List Nat → Nat
  | n, [] => n
  | n, t :: ts => txE (n + L.getD t 0) ts
def txF : Nat → List Nat → Bool
  | _, [] => true
  | n, t :: ts => decide (n + L.getD t 0 ≤ s.size) && txF (n + L.getD t 0) ts
def txT : Nat → List Nat → List ByteArray
  | _, [] => []
  | n, t :: ts => tAt s n (L.getD t 0) :: txT (n + L.getD t 0) ts
set_option linter.unusedVariables false in
theorem txE_app : ∀ (a b : List Nat) (n : Nat), txE L n (a ++ b) = txE L (txE L n a) b
  | [], _, _ => rfl
  | _ :: a, b, _ => txE_app a b _
theorem txF_app : ∀ (a b : List Nat) (n : Nat), txF s L n (a ++ b) = (txF s L n a && txF s L (txE L n a) b)
  | [], _, _ => by simp [txF, txE]
  | x :: a, b, n => by simp only [List.cons_append, txF, txE, txF_app a b, Bool.and_assoc]
theorem txT_app : ∀ (a b : List Nat) (n : Nat), txT s L n (a ++ b) = txT s L n a ++ txT s L (txE L n a) b
  | [], _, _ => rfl
  | x :: a, b, n => by simp only [List.cons_append, txT, txE, txT_app a b]
theorem txT_len : ∀ (a : List Nat) (n : Nat), (txT s L n a).length = a.length
  | [], _ => rfl
  | x :: a, n => by simp only [txT, List.length_cons, txT_len a]
theorem txE_le : ∀ (a : List Nat) (n : Nat), txF s L n a = true → n ≤ s.size → txE L n a ≤ s.size
  | [], n, _, h => h
  | x :: a, n, h, _ => by
    simp only [txF, Bool.and_eq_true, decide_eq_true_iff] at h
    exact txE_le a _ h.2 h.1
theorem txF_take (ts : List Nat) (k n : Nat) (h : txF s L n ts = true) : txF s L n (ts.take k) = true := by
  rw [← List.take_append_drop k ts, txF_app] at h
  exact (Bool.and_eq_true _ _ ▸ h).1
end
def strV (l : List ByteArray) : List Value := l.map fun x => Value.string x
theorem strV_app (l m : List ByteArray) : strV (l ++ m) = strV l ++ strV m := by simp [strV]
/-- What a slice of texts holds. -/
def RdS (w : World) (A : Option Addr) (l : List ByteArray) : Prop := 0 < l.length → ∃ g, A = some ⟨g, 0, none⟩ ∧ g < w.heap.size ∧ ∀ (i : Nat) (x : ByteArray), l[i]? = some x → w.cell? ⟨g, i, none⟩ = some (.string x)
theorem RdS.below {w w' : World} {A : Option Addr} {l : List ByteArray} (h : RdS w A l) (hb : Below w.heap.size w w') : RdS w' A l := fun h0 => by
  obtain ⟨g, e, hlt, hc⟩ := h h0
  exact ⟨g, e, Nat.lt_of_lt_of_le hlt hb.size, fun i x hx => (hb.cell (p := ⟨g, i, none⟩) hlt).trans (hc i x hx)⟩
theorem RdS.of_own {w : World} {B : Nat} {e : TypeId} {A : Option Addr} {c : Nat} {l : List ByteArray} (h : w.ownsRow B e 1 (.slice A l.length c) l.length (strV l)) : RdS w A l := fun h0 => by
  rcases h.2 with ⟨h1, h2⟩ | ⟨g, cap, cur, h1, h2, h3, _⟩
  · omega
  · injection h1 with h1 h4 h5
    subst h1
    refine ⟨g, rfl, lt_of_some h3, fun i x hx => ?_⟩
    have hi : i < l.length := (List.getElem?_eq_some_iff.1 hx).1
    rw [h.cellAt i (by omega)]
    unfold strV
    rw [List.getElem?_map, hx]
    rfl
theorem infoS : (Try.prog.info? 9).map (fun i => (i.zero, i.size, i.bytes)) = some (some (.string ByteArray.empty), 1, 16) := by kernel_rfl
/-- Does it read? -/
def okR (s : ByteArray) (ws : List Nat) (first : Nat) (ts : List Nat) : Prop := 4 ≤ s.size ∧ nAt s 0 4 = first ∧ ws.sum ≤ s.size ∧ txF s (rowN s 0 ws) ws.sum ts = true
def erR (s : ByteArray) (first : Nat) : Nat := if 4 ≤ s.size ∧ nAt s 0 4 ≠ first then 4 else 3
def noR (s : ByteArray) (first : Nat) : Value := .tuple #[.slice none 0 0, .slice none 0 0, .int .i64 0, .int .i64 (erR s first : Nat)]
/-- What the document's Parse answers. -/
def PostR (s : ByteArray) (ws : List Nat) (first : Nat) (ts : List Nat) (e : Ending) (w w' : World) : Prop :=
  (okR s ws first ts ∧ (∃ A2 c2 A3 c3, e = .returned (.tuple #[.slice A2 ws.length c2, .slice A3 ts.length c3, .int .i64 (txE (rowN s 0 ws) ws.sum ts : Nat), .int .i64 0]) ∧ RdI w' .u64 A2 (rowN s 0 ws) ∧ RdS w' A3 (txT s (rowN s 0 ws) ws.sum ts)) ∨ ¬ okR s ws first ts ∧ e = .returned (noR s first)) ∧ Below w.heap.size w w'
theorem results_tmp4' {P : Program} {fn : Func} {p q r t : Tmp} (h : fn.results = #[.tmp p, .tmp q, .tmp r, .tmp t]) (tmps : Array Value) (w : World) : (results fn tmps).run P w = .ok (.tuple #[tmps.getD p undef, tmps.getD q undef, tmps.getD r undef, tmps.getD t undef]) w := by
  simp [results, h]
set_option maxHeartbeats 8000000 in
theorem rparse_any (s : ByteArray) (hs : s.size ≤ 1000000) (A : Option Addr) (c : Nat) (ws : List Nat) (hl : ws.length ≤ 20) (h8 : ∀ x ∈ ws, x ≤ 8) (_ : 4 ≤ ws.sum) (first : Nat) (_ : first < 18446744073709551616) (AT : Option Addr) (cT : Nat) (ts : List Nat) (htl : ts.length ≤ 20) (ht : ∀ x ∈ ts, x < ws.length ∧ (rowN s 0 ws).getD x 0 < 65536) (w : World) (hr : RdI w .i64 A ws) (hrt : RdI w .i64 AT ts) :
    Calls Try.prog 12 #[.string s, .slice A ws.length c, .int .u64 (first : Nat), .slice AT ts.length cT] w fun e w' => PostR s ws first ts e w w' := by
  have HR := Lib.hid hr
  have HRT := Lib.hid hrt
  have hb := sum_le ws h8
  have HSUM := Lib.hid (fun w hr => rsum_any A c ws hl h8 w hr)
  have H8 := Lib.hid h8
  clear hr hrt h8
  by_cases h4 : 4 ≤ s.size
  · have hsz : (s.extract 0 4).size ≤ 8 := by rw [ByteArray.size_extract]; omega
    have HN := Lib.hid (fun w => rnumber_any _ hsz w)
    have hv : numL (nums (s.extract 0 4)) = nAt s 0 4 := by
      rw [nums_ext']
      rfl
    rw [hv] at HN
    clear hv hsz
    by_cases hq : nAt s 0 4 = first
    · have hqi : (((nAt s 0 4 : Nat) : Int) == (first : Nat)) = true := by rw [beq_iff_eq]; omega
      by_cases hf : ws.sum ≤ s.size
      · have HROW := Lib.hid (fun w hr => rrow_any s hs A c ws hl H8.out hf w hr)
        have HOK : Hid (okR s ws first ts ↔ txF s (rowN s 0 ws) ws.sum ts = true) := ⟨fun h => h.2.2.2, fun h => ⟨h4, hq, hf, h⟩⟩
        have HNO : Hid (noR s first = .tuple #[.slice none 0 0, .slice none 0 0, .int .i64 0, .int .i64 3]) := by
          show _ = _
          unfold noR erR
          rw [if_neg (fun h => h.2 hq)]
          rfl
        have hLen := rowN_len s ws 0
        have HQ := Lib.hid hqi
        have HXE := Lib.hid (fun k h => txE_le s (rowN s 0 ws) (ts.take k) ws.sum h hf)
        have HXT := Lib.hid (fun k (h : ¬ txF s (rowN s 0 ws) ws.sum (ts.take k) = true) (h2 : txF s (rowN s 0 ws) ws.sum ts = true) => h (txF_take s _ ts k _ h2))
        have HSN := Lib.hid (fun (k x : Nat) (h : ts[k]? = some x) => show txE (rowN s 0 ws) ws.sum (ts.take (k + 1)) = txE (rowN s 0 ws) ws.sum (ts.take k) + (rowN s 0 ws).getD x 0 by rw [take_snoc h, txE_app]; rfl)
        have HSF := Lib.hid (fun (k x : Nat) (h : ts[k]? = some x) => show txF s (rowN s 0 ws) ws.sum (ts.take (k + 1)) = (txF s (rowN s 0 ws) ws.sum (ts.take k) && decide (txE (rowN s 0 ws) ws.sum (ts.take k) + (rowN s 0 ws).getD x 0 ≤ s.size)) by rw [take_snoc h, txF_app]; simp [txF])
        have HST := Lib.hid (fun (k x : Nat) (h : ts[k]? = some x) => show txT s (rowN s 0 ws) ws.sum (ts.take (k + 1)) = txT s (rowN s 0 ws) ws.sum (ts.take k) ++ [tAt s (txE (rowN s 0 ws) ws.sum (ts.take k)) ((rowN s 0 ws).getD x 0)] by rw [take_snoc h, txT_app]; rfl)
        have HTL := Lib.hid (fun k => txT_len s (rowN s 0 ws) (ts.take k) ws.sum)
        have HGET := Lib.hid (fun (k : Nat) (h : k < ts.length) => List.getElem?_eq_getElem h)
        have HT := Lib.hid (fun (k : Nat) (h : k < ts.length) => ht _ (List.getElem_mem h))
        have HALL : Hid (ts.take ts.length = ts) := by show _ = _; rw [List.take_length]
        have HLG := Lib.hid (fun (x : Nat) (h : x < ws.length) => show (rowN s 0 ws)[x]? = some ((rowN s 0 ws).getD x 0) by rw [List.getD_eq_getElem?_getD, List.getElem?_eq_getElem (by rw [hLen]; exact h)]; rfl)
        have h4d : decide ((s.size : Int) < 4) = false := decide_eq_false (by omega)
        have hfd : decide ((s.size : Int) < (ws.sum : Nat)) = false := decide_eq_false (by omega)
        have HFF := Lib.hid hf
        obtain ⟨i0, hi, hz0, hz1, hz2⟩ := info_parts infoS
        generalize hsum : ws.sum = S at *
        have HS := Lib.hid hsum
        clear hsum hq ht
        generalize hL : rowN s 0 ws = L at *
        have HL := Lib.hid hL
        clear hL
        generalize nAt s 0 4 = q at *
        go_enter Try.func12, Try.ntmps12
        go_wp2_with fail
        refine (HN.out _).mono ?_; rintro r w1 ⟨rfl, rfl⟩
        go_wp2_with fail
        refine (HSUM.out _ HR.out).mono ?_; rintro r w1 ⟨rfl, rfl⟩
        go_wp2_with fail
        refine (HROW.out _ HR.out).mono ?_; rintro r w1 ⟨A2, c2, rfl, hown, hb1⟩
        have hrd : RdI w1 .u64 A2 L := by
          rw [← hLen] at hown
          exact RdI.of_own hown
        have HRD := Lib.hid hrd
        have HB1 := Lib.hid hb1
        have HRT1 := Lib.hid (HRT.out.below hb1)
        clear hown hb1 hrd HN HROW HSUM HR HRT
        go_wp2_with fail
        go_loopw [12, 14, 37] (fun n v i wr => ∃ k : Nat, k ≤ ts.length ∧ i = .int .i64 (k : Nat) ∧ n = .int .i64 (txE L S (ts.take k) : Nat) ∧ txF s L S (ts.take k) = true ∧ wr.ownsRow w1.heap.size 9 1 v k (strV (txT s L S (ts.take k))) ∧ Below w1.heap.size w1 wr) (fun _ _ i _ => ts.length - (intOf i).toNat)
        case atStart => exact ⟨0, Nat.zero_le _, rfl, rfl, rfl, World.ownsRow_nil _ _ _ _, Below.refl _ _⟩
        case round =>
          obtain ⟨k, hk, rfl, rfl, htf, hown, hbel⟩ := hrel
          have HO := Lib.hid hown
          have HB := Lib.hid hbel
          clear hown hbel
          have hle := HXE.out k htf
          generalize hE : txE L S (ts.take k) = E at *
          have HE := Lib.hid hE
          clear hE
          by_cases hlt : k < ts.length
          · have hx := HGET.out k hlt
            obtain ⟨hxl, hxb⟩ := HT.out k hlt
            have hy := HLG.out _ hxl
            have hsn := HSN.out k _ hx
            have hsf := HSF.out k _ hx
            have hst := HST.out k _ hx
            obtain ⟨g, rfl⟩ := HRT1.out.slice (by omega)
            obtain ⟨g2, rfl⟩ := HRD.out.slice (by omega)
            have hc := (HRT1.out.below HB.out).at hx
            have hc2 := (HRD.out.below HB.out).at hy
            rw [HE.out] at hsn hsf hst
            generalize ts[k] = x at *
            generalize L.getD x 0 = y at *
            have hxw : x < ws.length := hxl
            have hwr : IntKind.i64.wrap (y : Int) = y := by rw [IntKind.wrap_i64]; omega
            have HSN1 := Lib.hid hsn
            have HST1 := Lib.hid hst
            have HTF := Lib.hid htf
            by_cases hfy : E + y ≤ s.size
            · have HSF1 : Hid (txF s L S (ts.take (k + 1)) = true) := by show _ = _; rw [hsf, htf, decide_eq_true hfy]; rfl
              have hdd : decide ((s.size : Int) < (E : Int) + (y : Int)) = false := decide_eq_false (by omega)
              have HX : Hid (tAt s E y = s.extract E (E + y)) := rfl
              generalize tAt s E y = T at *
              clear hx hy hsn hsf hst htf hxl
              go_wp2_with (at_builtin; refine wpList_append_own _ rfl (.tmp 52) (.tmp 59) _ rfl w1.heap.size 9 i0 (.string ByteArray.empty) 1 16 Try.underlying31 hi hz0 hz1 hz2 rfl (by decide) _ k (strV (txT s L S (ts.take k))) rfl (HO.out.alloc _) ⟨wr.heap.size, 0, none⟩ 1 1 [.string (s.extract E (E + y))] rfl rfl ?c1 ?c2 ?c3 ?c4 ?c5 ?_)
              case c1 => exact cell_one_new _ _ _
              case c2 => intro u hu; simp at hu; subst hu; rfl
              case c3 => unfold maxLen; omega
              case c4 => omega
              case c5 => have := HB.out.size; simp; omega
              intro v' w2 hown' hgrow _
              have HO1 := Lib.hid hown'
              have HG1 := Lib.hid hgrow
              clear hown' hgrow
              go_wp2_with fail
              go_roundw
              case rel =>
                refine ⟨k + 1, by omega, by go_num, by rw [HSN1.out]; go_num, HSF1.out, ?_, ?_⟩
                · rw [HST1.out, strV_app, HX.out]
                  exact HO1.out
                · exact (HB.out.alloc HB.out.size _).grown HG1.out (by have := HB.out.size; simp; omega) (fun k hk => (HO.out.lt k hk).1)
              case measure => simp [intOf]; omega
            · have hdd : decide ((s.size : Int) < (E : Int) + (y : Int)) = true := decide_eq_true (by omega)
              have hno : ¬ okR s ws first ts := fun h => HXT.out (k + 1) (by rw [hsf, decide_eq_false hfy, Bool.and_false]; decide) (HOK.out.1 h)
              have HNOK := Lib.hid hno
              clear hx hy hsn hsf hst htf hxl hno
              go_wp2_with fail
              (try simp only [Exit.inBlock, Exit.then])
              refine bodyPost_ret (results_tmp4' rfl _ _) rfl ?_
              exact ⟨.inr ⟨HNOK.out, by rw [HNO.out]; rfl⟩, HB1.out.trans (HB.out.mono HB1.out.size)⟩
          · obtain rfl : k = ts.length := by omega
            have htl2 := HTL.out ts.length
            have hE := HE.out
            have ho := HO.out
            rw [HALL.out] at htf hE htl2 ho
            subst hE
            obtain ⟨A3, c3, rfl⟩ := row_slice ho
            have hok : okR s ws first ts := HOK.out.2 htf
            have hrs : RdS wr A3 (txT s L S ts) := by
              rw [← htl2] at ho
              exact RdS.of_own ho
            have HFIN : Hid (PostR s ws first ts (.returned (.tuple #[.slice A2 ws.length c2, .slice A3 ts.length c3, .int .i64 (txE L S ts : Nat), .int .i64 0])) w wr) := by
              refine ⟨.inl ⟨hok, A2, c2, A3, c3, ?_, ?_, ?_⟩, HB1.out.trans (HB.out.mono HB1.out.size)⟩
              · rw [HL.out, HS.out]
              · rw [HL.out]
                exact HRD.out.below HB.out
              · rw [HL.out, HS.out]
                exact hrs
            clear htf ho hok hrs htl2
            go_wp2_with fail
            (try simp only [Exit.inBlock, Exit.then])
            refine bodyPost_ret (results_tmp4' rfl _ _) rfl ?_
            exact HFIN.out
      · have hfd : decide ((s.size : Int) < (ws.sum : Nat)) = true := decide_eq_true (by omega)
        have hfn : s.size < ws.sum := by omega
        have h4d : decide ((s.size : Int) < 4) = false := decide_eq_false (by omega)
        have HNO : Hid (noR s first = .tuple #[.slice none 0 0, .slice none 0 0, .int .i64 0, .int .i64 3]) := by
          show _ = _
          unfold noR erR
          rw [if_neg (fun h => h.2 hq)]
          rfl
        have HNOK : Hid (¬ okR s ws first ts) := fun h => hf h.2.2.1
        have HQ := Lib.hid hqi
        generalize ws.sum = S at *
        generalize nAt s 0 4 = q at *
        clear hq hf
        go_enter Try.func12, Try.ntmps12
        go_wp2_with fail
        refine (HN.out _).mono ?_; rintro r w1 ⟨rfl, rfl⟩
        go_wp2_with fail
        refine (HSUM.out _ HR.out).mono ?_; rintro r w1 ⟨rfl, rfl⟩
        go_wp2_with fail
        (try simp only [Exit.inBlock, Exit.then])
        refine bodyPost_ret (results_tmp4' rfl _ _) rfl ?_
        exact ⟨.inr ⟨HNOK.out, by rw [HNO.out]; rfl⟩, Below.refl _ _⟩
    · have hqi : (((nAt s 0 4 : Nat) : Int) == (first : Nat)) = false := by rw [beq_eq_false_iff_ne]; omega
      have h4d : decide ((s.size : Int) < 4) = false := decide_eq_false (by omega)
      have HNO : Hid (noR s first = .tuple #[.slice none 0 0, .slice none 0 0, .int .i64 0, .int .i64 4]) := by
        show _ = _
        unfold noR erR
        rw [if_pos ⟨h4, hq⟩]
        rfl
      have HNOK : Hid (¬ okR s ws first ts) := fun h => hq h.2.1
      generalize nAt s 0 4 = q at *
      clear hq
      go_enter Try.func12, Try.ntmps12
      go_wp2_with fail
      refine (HN.out _).mono ?_; rintro r w1 ⟨rfl, rfl⟩
      go_wp2_with fail
      (try simp only [Exit.inBlock, Exit.then])
      refine bodyPost_ret (results_tmp4' rfl _ _) rfl ?_
      exact ⟨.inr ⟨HNOK.out, by rw [HNO.out]; rfl⟩, Below.refl _ _⟩
  · have h4d : decide ((s.size : Int) < 4) = true := decide_eq_true (by omega)
    have HNO : Hid (noR s first = .tuple #[.slice none 0 0, .slice none 0 0, .int .i64 0, .int .i64 3]) := by
      show _ = _
      unfold noR erR
      rw [if_neg (fun h => h4 h.1)]
      rfl
    have HNOK : Hid (¬ okR s ws first ts) := fun h => h4 h.1
    go_enter Try.func12, Try.ntmps12
    go_wp2_with fail
    (try simp only [Exit.inBlock, Exit.then])
    refine bodyPost_ret (results_tmp4' rfl _ _) rfl ?_
    exact ⟨.inr ⟨HNOK.out, by rw [HNO.out]; rfl⟩, Below.refl _ _⟩
end Go.Proofs.Ytklmfncljebgnaa
