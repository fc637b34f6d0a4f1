/-
  The walk of InflateStored: it returns true, whatever the parts.
-/
import Derived.Test.YtbgclbnbnpnolaaInfW
import Derived.Test.YtbgclbnbnpnolaaStrJoin
import Derived.Lib.Zigzag
namespace Go.Proofs.Ytbgclbnbnpnolaa
set_option maxRecDepth 100000
open Go.RowKit Go.Deep Go.Joins

theorem conv4 (wr : World) (v1 v2 v3 v4 : Int) (n1 n2 n3 n4 : Nat) (h1 : v1 = n1) (h2 : v2 = n2) (h3 : v3 = n3) (h4 : v4 = n4) (l1 : n1 < 256) (l2 : n2 < 256) (l3 : n3 < 256) (l4 : n4 < 256) :
    (convert 22 9 (.slice (some ⟨wr.heap.size, 0, none⟩) 4 4)).run Try.prog (wr.alloc (.cells #[.int .u8 v1, .int .u8 v2, .int .u8 v3, .int .u8 v4] 5)) = .ok (.string (text [n1, n2, n3, n4])) (wr.alloc (.cells #[.int .u8 v1, .int .u8 v2, .int .u8 v3, .int .u8 v4] 5)) := by
  subst h1 h2 h3 h4
  have h := run_convert_bytes_back (P := Try.prog) (wr.alloc (.cells #[.int .u8 (n1 : Int), .int .u8 (n2 : Int), .int .u8 (n3 : Int), .int .u8 (n4 : Int)] 5)) 22 9 5 ⟨wr.heap.size, 0, none⟩ 4 ([n1, n2, n3, n4].map UInt8.ofNat) Try.underlying22 Try.underlying5 Try.underlying9 (fun j hj => by
    have hj4 : j < 4 := hj
    rw [Addr.add_lit, Nat.zero_add]
    have e1 : (UInt8.ofNat n1).toNat = n1 := Nat.mod_eq_of_lt l1
    have e2 : (UInt8.ofNat n2).toNat = n2 := Nat.mod_eq_of_lt l2
    have e3 : (UInt8.ofNat n3).toNat = n3 := Nat.mod_eq_of_lt l3
    have e4 : (UInt8.ofNat n4).toNat = n4 := Nat.mod_eq_of_lt l4
    rcases (by omega : j = 0 ∨ j = 1 ∨ j = 2 ∨ j = 3) with rfl | rfl | rfl | rfl
    · rw [Lib.cell_of_heap (heap_alloc_new wr _)]; show some (Value.int .u8 (n1 : Int)) = some (Value.int .u8 ((UInt8.ofNat n1).toNat : Int)); rw [e1]
    · rw [Lib.cell_of_heap (heap_alloc_new wr _)]; show some (Value.int .u8 (n2 : Int)) = some (Value.int .u8 ((UInt8.ofNat n2).toNat : Int)); rw [e2]
    · rw [Lib.cell_of_heap (heap_alloc_new wr _)]; show some (Value.int .u8 (n3 : Int)) = some (Value.int .u8 ((UInt8.ofNat n3).toNat : Int)); rw [e3]
    · rw [Lib.cell_of_heap (heap_alloc_new wr _)]; show some (Value.int .u8 (n4 : Int)) = some (Value.int .u8 ((UInt8.ofNat n4).toNat : Int)); rw [e4])
  exact h
theorem hdr_split (n : Nat) : hdr 0 n = ⟨#[0]⟩ ++ text [n % 256, n / 256, 255 - n % 256, 255 - n / 256] := by
  apply ByteArray.ext
  simp [hdr, hdrL, text]
set_option maxHeartbeats 4000000 in
theorem stored_many (b off cap : Nat) (ss : List ByteArray) (w : World) (hb : b < w.heap.size) (hcap : ss.length ≤ cap) (hN : ss.length ≤ 9223372036854775807)
    (hc : ∀ (j : Nat) x, ss[j]? = some x → w.cell? ⟨b, off + j, none⟩ = some (.string x)) :
    Calls Try.prog 7 #[.slice (some ⟨b, off, none⟩) ss.length cap] w fun e w' => e = .returned (.bool true) ∧ Below w.heap.size w w' := by
  have HC := Lib.hid hc
  clear hc
  by_cases h30 : 30 < ss.length
  · go_enter Try.func7, Try.ntmps7
    go_wp2_with fail
    refine (awake6_any _).mono ?_; rintro e w1 ⟨rfl, hb1⟩
    go_wp2
    go_ret
    exact ⟨rfl, hb1⟩
  · obtain ⟨len, hlen⟩ : ∃ len, len = ss.length := ⟨_, rfl⟩
    have HLEN := Lib.hid hlen
    rw [← hlen] at h30 hcap hN ⊢
    clear hlen
    go_enter Try.func7, Try.ntmps7
    go_wp2_with fail
    refine (awake6_any _).mono ?_; rintro e w1 ⟨rfl, hb1⟩
    have HB1 := Lib.hid hb1
    clear hb1
    go_wp2_with fail
    go_loopw [3, 17] (fun t i wr => ∃ k : Nat, k ≤ len ∧ i = .int .i64 (k : Nat) ∧ t = .string (bld (ss.take k)) ∧ Hid (∀ p ∈ ss.take k, p.size ≤ 2000) ∧ Hid (Below w.heap.size w wr)) (fun _ i _ => len - (intOf i).toNat)
    case atStart => exact ⟨0, Nat.zero_le _, rfl, rfl, fun p h => by simp at h, HB1⟩
    case round =>
      obtain ⟨k, hk, rfl, rfl, HS, HB⟩ := hrel
      have hsz : (bld (ss.take k)).size ≤ 100000 := by
        have h1 := all_len (ss.take k) HS.out
        rw [bld_size, List.length_take]
        rw [List.length_take] at h1
        omega
      by_cases hlt : k < len
      · obtain ⟨x, hx⟩ : ∃ x, ss[k]? = some x := ⟨_, List.getElem?_eq_getElem (by rw [← HLEN.out]; exact hlt)⟩
        have hcell : wr.cell? ⟨b, off + k, none⟩ = some (.string x) := by rw [HB.out.cell (by exact hb)]; exact HC.out k x hx
        have HX := Lib.hid hx
        clear hx
        by_cases h2 : 2000 < x.size
        · go_wp2
          go_ret
          exact ⟨rfl, HB.out⟩
        · obtain ⟨S', hS'⟩ : ∃ S', S' = bld (ss.take (k + 1)) := ⟨_, rfl⟩
          have HSN : Hid (S' = bld (ss.take k) ++ (⟨#[0]⟩ ++ text [x.size % 256, x.size / 256, 255 - x.size % 256, 255 - x.size / 256] ++ x)) := by
            show S' = _
            rw [hS', List.take_add_one, HX.out, Option.toList_some, bld_snoc, hdr_split]
          have HS' := Lib.hid hS'
          have HSK : Hid (∀ p ∈ ss.take (k + 1), p.size ≤ 2000) := by
            intro p hp
            rw [List.take_add_one, HX.out, Option.toList_some, List.mem_append] at hp
            rcases hp with hp | hp
            · exact HS.out p hp
            · rw [List.mem_singleton] at hp
              subst hp
              omega
          clear hS'
          generalize bld (ss.take k) = S at *
          have hnot := Lib.i64_not x.size (by omega)
          go_wp2_with fail
          rw [conv4 wr _ _ _ _ (x.size % 256) (x.size / 256) (255 - x.size % 256) (255 - x.size / 256) (by omega) (by omega) (by omega) (by omega) (by omega) (by omega) (by omega) (by omega)]
          have hT4 : (text [x.size % 256, x.size / 256, 255 - x.size % 256, 255 - x.size / 256]).size = 4 := rfl
          generalize text [x.size % 256, x.size / 256, 255 - x.size % 256, 255 - x.size / 256] = T4 at *
          go_wp2_with fail
          exact ⟨⟨k + 1, by omega, by go_num, by rw [← HS'.out, HSN.out], HSK, HB.out.alloc HB.out.size _⟩, by simp [intOf]; omega⟩
      · obtain rfl : k = len := by omega
        have htk : ss.take k = ss := by rw [HLEN.out, List.take_length]
        rw [htk] at HS hsz ⊢
        have hT : (all ss).length ≤ 60000 := by
          have h1 := all_len ss HS.out
          rw [← HLEN.out] at h1
          omega
        have HI : Hid (∀ w, Calls Try.prog 26 #[.string (bld ss ++ ⟨#[1, 0, 0, 255, 255]⟩), .int .i64 60000] w fun e w' => e = .returned (.tuple #[.string (text (all ss)), .int .i64 (((bld ss).size + 5 : Nat) : Int), .int .i64 0]) ∧ Below w.heap.size w w') := fun w => by
          have h := inflate_all (bld ss ++ hdr 1 0) 60000 (by rw [ByteArray.size_append, hdr_size]; omega) (by omega) w
          rw [show (60000 : Int).toNat = 60000 from rfl, infl_stored ss 60000 HS.out hT, infV_ok (n := (bld ss).size + 5) _ (by rw [ByteArray.size_append, hdr_size]; omega)] at h
          exact h
        have HJ : Hid (∀ w', Below w.heap.size w w' → Calls Try.prog 27 #[.slice (some ⟨b, off, none⟩) k cap, .string ⟨#[]⟩] w' fun e w'' => e = .returned (.string (text (all ss))) ∧ Below w'.heap.size w' w'') := fun w' hw' => by
          have h := join_any b off cap ss ⟨#[]⟩ w' (fun j x hx => by rw [hw'.cell (by exact hb)]; exact HC.out j x hx) (Nat.lt_of_lt_of_le hb hw'.size) (by rw [← HLEN.out]; omega) (by rw [← HLEN.out]; exact hcap) (by
            have e := congrArg (fun t : ByteArray => t.data.toList.length) (text_join ss)
            have e2 : (Lib.join (ss.map (·.data.toList)) []).length = (text (all ss)).data.toList.length := by simpa using e
            show (Lib.join (ss.map (·.data.toList)) []).length ≤ _
            rw [e2]
            simp only [text, List.length_map]
            omega)
          rw [← HLEN.out] at h
          refine h.mono fun e w'' he => ?_
          rw [← text_join]
          exact he
        clear hT htk
        generalize text (all ss) = T at *
        generalize hS : bld ss = S at *
        clear hS
        go_wp2_with fail
        refine (HI.out _).mono ?_; rintro e w2 ⟨rfl, hb2⟩
        have HB2 := Lib.hid (below_then HB.out hb2)
        clear hb2
        go_wp2_with fail
        refine (HJ.out _ HB2.out).mono ?_; rintro e w3 ⟨rfl, hb3⟩
        have HB3 := Lib.hid (below_then HB2.out hb3)
        clear hb3
        go_wp2
        go_ret
        exact ⟨rfl, HB3.out⟩
set_option maxHeartbeats 4000000 in
theorem stored_none (a : Option Addr) (cap : Nat) (w : World) :
    Calls Try.prog 7 #[.slice a 0 cap] w fun e w' => e = .returned (.bool true) ∧ Below w.heap.size w w' := by
  have HI : Hid (∀ w, Calls Try.prog 26 #[.string (bld [] ++ ⟨#[1, 0, 0, 255, 255]⟩), .int .i64 60000] w fun e w' => e = .returned (.tuple #[.string ⟨#[]⟩, .int .i64 5, .int .i64 0]) ∧ Below w.heap.size w w') := fun w => by
    have h := inflate_all (bld [] ++ hdr 1 0) 60000 (by rw [ByteArray.size_append, hdr_size, bld]; decide) (by omega) w
    rw [show (60000 : Int).toNat = 60000 from rfl, infl_stored [] 60000 (fun p h => by cases h) (Nat.zero_le _), infV_ok (n := 5) _ (by rw [ByteArray.size_append, hdr_size, bld]; decide)] at h
    exact h
  have HJ := Lib.hid (fun w => join_none a cap ⟨#[]⟩ w)
  obtain ⟨S, hS⟩ : ∃ S, S = bld [] := ⟨_, rfl⟩
  rw [← hS] at HI
  have hsz : S.size = 0 := by rw [hS]; rfl
  have HS := Lib.hid hS
  clear hS
  go_enter Try.func7, Try.ntmps7
  go_wp2_with fail
  refine (awake6_any _).mono ?_; rintro e w1 ⟨rfl, hb1⟩
  have HB1 := Lib.hid hb1
  clear hb1
  go_wp2_with fail
  go_loop [3, 17] (fun t i => i = .int .i64 0 ∧ t = .string S) (fun _ _ => 0)
  case atStart => exact ⟨rfl, by rw [HS.out]; rfl⟩
  case round =>
    obtain ⟨rfl, rfl⟩ := hrel
    go_wp2_with fail
    refine (HI.out _).mono ?_; rintro e w2 ⟨rfl, hb2⟩
    have HB2 := Lib.hid (below_then HB1.out hb2)
    clear hb2
    go_wp2_with fail
    refine (HJ.out _).mono ?_; rintro e w3 ⟨rfl, rfl⟩
    go_wp2
    go_ret
    exact ⟨rfl, HB2.out⟩
/-- A row of texts that came in. -/
def IsParts (w : World) (v : Value) : Prop := (∃ a cap, v = .slice a 0 cap) ∨ ∃ (b off cap : Nat) (ss : List ByteArray), v = .slice (some ⟨b, off, none⟩) ss.length cap ∧ b < w.heap.size ∧ ss.length ≤ cap ∧ ss.length ≤ 9223372036854775807 ∧ ∀ (j : Nat) x, ss[j]? = some x → w.cell? ⟨b, off + j, none⟩ = some (.string x)
theorem inflateStored_walk (v : Value) (w : World) (hv : IsParts w v) :
    Calls Try.prog 7 #[v] w fun e w' => e = .returned (.bool true) ∧ Below w.heap.size w w' := by
  rcases hv with ⟨a, cap, rfl⟩ | ⟨b, off, cap, ss, rfl, h1, h2, h3, h4⟩
  · exact stored_none a cap w
  · exact stored_many b off cap ss w h1 h2 h3 h4
end Go.Proofs.Ytbgclbnbnpnolaa
