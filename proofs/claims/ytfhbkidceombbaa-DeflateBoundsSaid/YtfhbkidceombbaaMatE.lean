/-
  Contract: Chains.
-/
import Derived.Test.YtfhbkidceombbaaMatD
namespace Go.Proofs.Ytfhbkidceombbaa
set_option maxRecDepth 100000
open Go.RowKit Go.Deep Go.ChangeMaps Go.ChangeShapes Go.WideShapes
open Go.Maps (Keyed IsMap has)

def zsOf (l : List Nat) : List Int := l.map fun i => ((i : Nat) : Int)
/-- What the map holds of the first k places. -/
noncomputable def gM (a : Nat → Nat) : Nat → DataW Unit
  | 0 => .map []
  | k + 1 => (gM a k).put (tk (a k) (a (k + 1)) (a (k + 2))) (.slice (lits .i64 (zsOf (places a (a k) (a (k + 1)) (a (k + 2)) (k + 1)))) [])
/-- Places as read. -/
def pd (l : List Nat) : DataW Unit := if l = [] then .nil else .slice (lits .i64 (zsOf l)) []
theorem gM_isMap (a : Nat → Nat) : ∀ k, IsMap (gM a k)
  | 0 => ⟨_, rfl⟩
  | k + 1 => (gM_isMap a k).put _ _
theorem gM_has (a : Nat → Nat) (ha : ∀ i, a i < 256) (kl : Lit) : ∀ k, has (gM a k) kl = true ↔ ∃ i, i < k ∧ kl = tk (a i) (a (i + 1)) (a (i + 2))
  | 0 => by
    constructor
    · intro h; simp [gM, has] at h
    · rintro ⟨i, h, _⟩; omega
  | k + 1 => by
    have ih := gM_has a ha kl k
    have hk := tri_law.key (tk_of (a k) (a (k + 1)) (a (k + 2)) (ha _) (ha _) (ha _))
    rw [gM]
    by_cases e : kl = tk (a k) (a (k + 1)) (a (k + 2))
    · subst e
      rw [Maps.has_put_same (gM_isMap a k) hk]
      exact ⟨fun _ => ⟨k, by omega, rfl⟩, fun _ => rfl⟩
    · rw [Maps.has_put_other e, ih]
      constructor
      · rintro ⟨i, hi, h⟩; exact ⟨i, by omega, h⟩
      · rintro ⟨i, hi, h⟩
        refine ⟨i, ?_, h⟩
        by_cases e2 : i = k
        · subst e2; exact absurd h e
        · omega
theorem gM_at (a : Nat → Nat) (ha : ∀ i, a i < 256) (x y z : Nat) (hx : x < 256) (hy : y < 256) (hz : z < 256) : ∀ k, (gM a k).atKey (tk x y z) .nil = pd (places a x y z k)
  | 0 => rfl
  | k + 1 => by
    have ih := gM_at a ha x y z hx hy hz k
    have hk := tri_law.key (tk_of (a k) (a (k + 1)) (a (k + 2)) (ha _) (ha _) (ha _))
    rw [gM]
    by_cases e : a k = x ∧ a (k + 1) = y ∧ a (k + 2) = z
    · obtain ⟨rfl, rfl, rfl⟩ := e
      rw [Maps.atKey_put_same (gM_isMap a k) hk]
      unfold pd
      rw [if_neg (by rw [places, if_pos ⟨rfl, rfl, rfl⟩]; simp)]
    · rw [Maps.atKey_put_other (fun h => e (by
        obtain ⟨h1, h2, h3⟩ := tk_inj _ _ _ _ _ _ hx hy hz (ha _) (ha _) (ha _) h
        exact ⟨h1.symm, h2.symm, h3.symm⟩)), ih, places, if_neg e]
theorem pd_inj {W : World} {base : Nat} {v : Value} {zs : List Int} {l : List Nat} (ho : W.ownsInts base 3 .i64 v zs) (h : pd l = rowDatum .i64 v zs) : zs = zsOf l := by
  rcases ho.datum (H := Unit) with ⟨h1, h2⟩ | h1
  · rw [h1] at h
    unfold pd at h
    split at h
    · rename_i e; rw [e, h2]; rfl
    · cases h
  · rw [h1] at h
    unfold pd at h
    split at h
    · cases h
    · injection h with h _
      have hinj : ∀ a b : List Int, lits (H := Unit) .i64 a = lits .i64 b → a = b := fun a b e => (List.map_inj_right (fun x y hxy => by cases hxy; rfl)).1 e
      exact (hinj _ _ h).symm

theorem info_int : (Try.prog.info? 3).map (fun i => (i.zero, i.size, i.bytes)) = some (some (.int .i64 0), 1, 8) := by kernel_rfl
theorem zero_ints (w : World) : (zeroValue 81).run Try.prog w = .ok (.slice none 0 0) w := by kernel_rfl
theorem zero_tri (w : World) : (zeroValue 184).run Try.prog w = .ok (.agg #[.int .u8 0, .int .u8 0, .int .u8 0]) w := by kernel_rfl
theorem groups_kept {H : Type} {P : Program} {w w' : World} {k : TypeId} {base : Nat} {e : TypeId} {q : IntKind} {b n : Nat} {D : DataW H} (h : w.ownsGroups P k base e q b n D) (hg : w.grownBy w' none) : w'.ownsGroups P k base e q b n D := by
  obtain ⟨es, clock, hb, F, hs, rfl, hbb, hlen, hap⟩ := h
  have kept : ∀ {v : Value} {zs : List Int}, w.ownsInts base e q v zs → w'.ownsInts base e q v zs := fun ho => ho.kept hg (by cases hv : Value.ownBlock _ <;> simp)
  obtain ⟨F2, hmap, _⟩ := F.stay (R' := rowElem (H := H) w' base e q) (fun x _ z hz => by
    obtain ⟨ys, ho, rfl⟩ := rowElem_inv hz
    exact rowElem_mk (kept ho))
  refine ⟨es, clock, (hg.block b (Array.getElem?_eq_some_iff.1 hb).1 (by simp)).trans hb, F2, hs, by rw [hmap], hbb, fun x hx zs ho => ?_, hap⟩
  obtain ⟨y, hy⟩ := F.reads x hx
  obtain ⟨z, hz, _⟩ := Go.WideElems.rd_val hy
  obtain ⟨ys, ho', _⟩ := rowElem_inv hz
  rw [ho.unique (kept ho')]
  exact hlen x hx ys ho'
theorem cell1 {w : World} {g : Nat} {x : Value} (h : w.cell? ⟨g, 0, none⟩ = some x) : ∀ j u, [x][j]? = some u → w.cell? ((⟨g, 0, none⟩ : Addr).add j) = some u := by
  intro j u hj
  match j, hj with
  | 0, hj =>
    simp at hj
    subst hj
    simpa [Addr.add] using h
theorem gM_step (a : Nat → Nat) (ha : ∀ i, a i < 256) (k : Nat) {W : World} {base : Nat} {v v' : Value} {zs : List Int} (hat : (gM a k).atKey (tk (a k) (a (k + 1)) (a (k + 2))) .nil = rowDatum .i64 v zs) {W0 : World} (ho : W0.ownsInts base 3 .i64 v zs)
    (ho' : W.ownsInts base 3 .i64 v' (zs ++ [((k : Nat) : Int)])) : (gM a k).put (tk (a k) (a (k + 1)) (a (k + 2))) (rowDatum .i64 v' (zs ++ [((k : Nat) : Int)])) = gM a (k + 1) := by
  rw [gM_at a ha _ _ _ (ha _) (ha _) (ha _)] at hat
  have hz := pd_inj ho hat
  rw [gM, ho'.datum_pos (by simp), hz, places, if_pos ⟨rfl, rfl, rfl⟩]
  unfold zsOf
  rw [List.map_append]
  rfl
set_option maxHeartbeats 4000000 in
theorem chains_long (s : ByteArray) (hs : 1048576 < s.size) (w : World) : Calls Try.prog 114 #[.string s] w fun e w' => e = .returned (.map none) ∧ w' = w := by
  go_enter Try.func114, Try.ntmps114
  go_wp2
  go_ret
  exact ⟨rfl, rfl⟩
set_option maxHeartbeats 4000000 in
theorem chains_any (s : ByteArray) (hs : s.size ≤ 1048576) (w : World) : Calls Try.prog 114 #[.string s] w fun e w' => e = .returned (.map (some w.heap.size)) ∧ w'.ownsGroups Try.prog 184 (w.heap.size + 1) 3 .i64 w.heap.size (s.size - 2) (gM (bt s) (s.size - 2)) ∧ Below w.heap.size w w' := by
  obtain ⟨i0, hi, hz0, hz1, hz2⟩ := info_parts info_int
  have hmm := @run_makeMap Try.prog
  have hzt := zero_tri
  go_enter Try.func114, Try.ntmps114
  go_wp2_with fail
  go_loopw [14] (fun i wr => ∃ k : Nat, k ≤ s.size - 2 ∧ i = .int .i64 (k : Nat) ∧ Hid (wr.ownsGroups Try.prog 184 (w.heap.size + 1) 3 .i64 w.heap.size k (gM (bt s) k)) ∧ Hid (Below w.heap.size w wr) ∧ Hid (w.heap.size + 1 ≤ wr.heap.size)) (fun i _ => (s.size - 2) - (intOf i).toNat)
  case atStart => exact ⟨0, Nat.zero_le _, rfl, World.ownsGroups_made _ _ _ _ _, (Below.refl _ _).alloc (Nat.le_refl _) _, (by simp : w.heap.size + 1 ≤ (w.alloc (.map #[] 0)).heap.size)⟩
  case round =>
    obtain ⟨k, hk, rfl, HG, HB, HS⟩ := hrel
    by_cases hkn : k + 2 < s.size
    · have l0 : k < s.size := by omega
      obtain ⟨q1, e1, f1⟩ : ∃ q1 : Nat, ((k : Int) + 1) = (q1 : Int) ∧ q1 = k + 1 := ⟨k + 1, by omega, rfl⟩
      obtain ⟨q2, e2, f2⟩ : ∃ q2 : Nat, ((k : Int) + 2) = (q2 : Int) ∧ q2 = k + 2 := ⟨k + 2, by omega, rfl⟩
      have l1 : q1 < s.size := by omega
      have l2 : q2 < s.size := by omega
      have F1 := Lib.hid f1
      have F2 := Lib.hid f2
      clear f1 f2
      go_wp2_with fail
      go_region
      rw [bt_get s k l0, bt_get s q1 l1, bt_get s q2 l2]
      have b0 := bt_lt s k
      have b1 := bt_lt s q1
      have b2 := bt_lt s q2
      have HK := Lib.hid (tk_of _ _ _ b0 b1 b2)
      have hg1 : wr.grownBy (wr.alloc (.cells #[.int .u8 (bt s k : Nat), .int .u8 (bt s q1 : Nat), .int .u8 (bt s q2 : Nat)] 184)).drew none := ⟨rfl, rfl, rfl, by simp [World.drew], fun i hi _ => Below.heap_alloc wr _ i hi⟩
      have hx1 : (wr.alloc (.cells #[.int .u8 (bt s k : Nat), .int .u8 (bt s q1 : Nat), .int .u8 (bt s q2 : Nat)] 184)).drew.heap[wr.heap.size]? = some (.cells #[.int .u8 (bt s k : Nat), .int .u8 (bt s q1 : Nat), .int .u8 (bt s q2 : Nat)] 184 (0, 0)) := heap_alloc_new wr _
      have hs1 : (wr.alloc (.cells #[.int .u8 (bt s k : Nat), .int .u8 (bt s q1 : Nat), .int .u8 (bt s q2 : Nat)] 184)).drew.heap.size = wr.heap.size + 1 := by simp [World.drew]
      have hB1 : Below w.heap.size w (wr.alloc (.cells #[.int .u8 (bt s k : Nat), .int .u8 (bt s q1 : Nat), .int .u8 (bt s q2 : Nat)] 184)).drew := (HB.out.alloc (by have := HS.out; omega) _).drew
      have HBT : Hid (∀ W : World, ∀ base v v' zs, ∀ W0 : World, (gM (bt s) k).atKey (tk (bt s k) (bt s q1) (bt s q2)) .nil = rowDatum .i64 v zs → W0.ownsInts base 3 .i64 v zs → W.ownsInts base 3 .i64 v' (zs ++ [((k : Nat) : Int)]) → (gM (bt s) k).put (tk (bt s k) (bt s q1) (bt s q2)) (rowDatum .i64 v' (zs ++ [((k : Nat) : Int)])) = gM (bt s) (k + 1)) := by
        intro W base v v' zs W0 h1 h2 h3
        rw [F1.out, F2.out] at h1 ⊢
        exact gM_step (bt s) (bt_lt s) k h1 h2 h3
      generalize bt s k = x0 at *
      generalize bt s q1 = x1 at *
      generalize bt s q2 = x2 at *
      have HG1 := groups_kept HG.out hg1
      generalize (wr.alloc (.cells #[.int .u8 (x0 : Nat), .int .u8 (x1 : Nat), .int .u8 (x2 : Nat)] 184)).drew = w1 at *
      have k0 : w1.cell? ⟨wr.heap.size, 0, none⟩ = some (.int .u8 (x0 : Nat)) := by rw [cell_of_row w1 _ 0 _ _ _ hx1]; rfl
      have k1 : w1.cell? ⟨wr.heap.size, 1, none⟩ = some (.int .u8 (x1 : Nat)) := by rw [cell_of_row w1 _ 1 _ _ _ hx1]; rfl
      have k2 : w1.cell? ⟨wr.heap.size, 2, none⟩ = some (.int .u8 (x2 : Nat)) := by rw [cell_of_row w1 _ 2 _ _ _ hx1]; rfl
      have HG2 := groups_kept HG1 (World.grownBy_alloc w1 (.cells #[.int .i64 (k : Nat)] 3) none)
      have hB2 : Below w.heap.size w (w1.alloc (.cells #[.int .i64 (k : Nat)] 3)) := hB1.alloc (by have := HS.out; omega) _
      have hx2 : (w1.alloc (.cells #[.int .i64 (k : Nat)] 3)).cell? ⟨w1.heap.size, 0, none⟩ = some (.int .i64 (k : Nat)) := by rw [cell_of_row _ _ 0 _ _ _ (heap_alloc_new w1 _)]; rfl
      have hs2 : (w1.alloc (.cells #[.int .i64 (k : Nat)] 3)).heap.size = w1.heap.size + 1 := by simp
      obtain ⟨v, zs, w3, st, hE, hat, hoi, hzl, hg3, hs3, hbb, hst⟩ := groups_entry (t := 181) tri_klaw Try.underlying181 zero_ints HG2 (by unfold maxLen; omega) HK.out
      have k3 : w3.cell? ⟨w1.heap.size, 0, none⟩ = some (.int .i64 (k : Nat)) := (World.cell?_of_block (hg3.block w1.heap.size (by rw [hs2]; omega) (by intro e; injection e with e; have := HS.out; omega))).trans hx2
      have HOI := Lib.hid hoi
      have HAT := Lib.hid hat
      have HST := Lib.hid hst
      have HZL := Lib.hid hzl
      have hB3 : Below w.heap.size w w3 := hB2.grown hg3 (by have := HS.out; rw [hs2]; omega) (fun j hj => by injection hj with e; omega)
      have HB3 := Lib.hid hB3
      have HSZ : Hid (w3.heap.size = wr.heap.size + 2) := by show w3.heap.size = _; rw [hs3, hs2, hs1]
      have HSZ1' : Hid (w1.heap.size = wr.heap.size + 1) := hs1
      unfold tv at hE
      clear hg1 hx1 hs1 hB1 HG1 HG2 hB2 hx2 hs2 hoi hat hst hzl hg3 hs3 hbb hB3 HK
      have HSZ1 : Hid (w1.heap.size = wr.heap.size + 1) := HSZ1'
      go_wp2_with (at_builtin; go_must (refine wpList_append_own_at _ rfl (.tmp 31) (.tmp 33) _ rfl (w.heap.size + 1) 3 i0 (.int .i64 0) 1 8 Try.underlying81 hi hz0 hz1 hz2 rfl (by decide) v zs.length (zs.map (Value.int .i64)) rfl HOI.out.1 ⟨w1.heap.size, 0, none⟩ 1 1 [.int .i64 (k : Nat)] rfl rfl (cell1 k3) (ints_oneCell .i64 [((k : Nat) : Int)]) (by have := HZL.out; unfold maxLen; omega) (by have := HZL.out; omega) (by have h1 := HSZ.out; have h2 := HS.out; omega) ?_; intro v' w4 hown' hgrow hnil hloc; obtain ⟨w5, hS, hG5, hg5⟩ := HST.out w4 v' _ hgrow (HOI.out.appended hown' (WalkArith.wf_i64 (by omega))) (by have := HZL.out; simp; omega) (hloc.imp id (fun h => ⟨_, h, Nat.le_refl _⟩)); have HOA := Lib.hid (HOI.out.appended hown' (WalkArith.wf_i64 (by omega))); have HGR := Lib.hid hgrow; have HG5 := Lib.hid hG5; have HR5 := Lib.hid hg5; clear hown' hgrow hnil hloc hG5 hg5; unfold goInt at hS))
      go_roundw
      case rel =>
        refine ⟨k + 1, by omega, by go_num, ?_, ?_, ?_⟩
        · have h := HG5.out
          rw [HBT.out _ _ v v' zs _ HAT.out HOI.out HOA.out] at h
          exact h
        · exact (HB3.out.grown HGR.out (by have h1 := HSZ.out; have h2 := HS.out; omega) (fun j hj => by have := (HOI.out.1.lt j hj).1; omega)).grown HR5.out (by have h0 := HGR.out.size; have h1 := HSZ.out; have h2 := HS.out; omega) (fun j hj => by injection hj with e; omega)
        · show w.heap.size + 1 ≤ _
          have h0 := HGR.out.size; have h1 := HSZ.out; have h2 := HS.out; have h3 := HR5.out.size; omega
      case measure => simp [intOf]; omega
    · obtain rfl : k = s.size - 2 := by omega
      go_wp2
      go_ret
      exact ⟨rfl, HG.out, HB.out⟩
end Go.Proofs.Ytfhbkidceombbaa
