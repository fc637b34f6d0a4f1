/-
  Stored blocks, one behind the other: what they are.
-/
import Derived.Test.YtbgclbnbnpnolaaInfV
import Derived.Lib.Join
namespace Go.Proofs.Ytbgclbnbnpnolaa
set_option maxRecDepth 100000

/-- A stored block's head: whether it is the last, and how many bytes. -/
def hdrL (b n : Nat) : List Nat := [b, n % 256, n / 256, 255 - n % 256, 255 - n / 256]
def hdr (b n : Nat) : ByteArray := text (hdrL b n)
theorem hdr_size (b n : Nat) : (hdr b n).size = 5 := rfl
theorem hdr_num (b n : Nat) (hb : b < 2) (hn : n < 65536) : num (hdr b n) = b + 256 * (n % 256) + 65536 * (n / 256) + 16777216 * (255 - n % 256) + 4294967296 * (255 - n / 256) := by
  unfold num hdr
  rw [nums_text _ (by
    intro x hx
    simp only [hdrL, List.mem_cons, List.not_mem_nil, or_false] at hx
    omega)]
  simp only [hdrL, numL]
  omega
theorem bits_behind (x t : ByteArray) (j k : Nat) : bitsAt (num (x ++ t)) (8 * x.size + j) k = bitsAt (num t) j k := by
  unfold bitsAt
  rw [num_append, Nat.pow_add, ← Nat.div_div_eq_div_mul, Nat.add_mul_div_right _ _ (Nat.two_pow_pos _), Nat.div_eq_of_lt (num_lt x), Nat.zero_add]
theorem bytes_behind (x t : ByteArray) (j : Nat) : ∀ n, bytesAt (num (x ++ t)) (8 * x.size + j) n = bytesAt (num t) j n
  | 0 => rfl
  | n + 1 => by rw [bytesAt, bytesAt, bytes_behind x t j n, Nat.add_assoc, bits_behind]
theorem bytes_front (p y : ByteArray) : bytesAt (num (p ++ y)) 0 p.size = nums p := by
  have h := nums_extract (p ++ y) 0 p.size (by rw [ByteArray.size_append]; omega)
  rw [Nat.mul_zero] at h
  rw [← h, Nat.zero_add, nums_take0, nums_append, List.take_left' (nums_len p)]
theorem stored_block (pre p rest : ByteArray) (b lim : Nat) (o : List Nat) (hb : b < 2) (hp : p.size < 65536) (hl : o.length + p.size ≤ lim) :
    blockM (srcOf (pre ++ (hdr b p.size ++ (p ++ rest))) lim) (8 * pre.size) o = .ok (b == 1, 8 * (pre.size + 5 + p.size), o ++ nums p) := by
  have hL : (srcOf (pre ++ (hdr b p.size ++ (p ++ rest))) lim).L = 8 * (pre.size + (5 + (p.size + rest.size))) := by
    show 8 * (pre ++ (hdr b p.size ++ (p ++ rest))).size = _
    rw [ByteArray.size_append, ByteArray.size_append, ByteArray.size_append, hdr_size]
  have hlim : (srcOf (pre ++ (hdr b p.size ++ (p ++ rest))) lim).lim = lim := rfl
  have hB : ∀ j k, bitsAt (srcOf (pre ++ (hdr b p.size ++ (p ++ rest))) lim).N (8 * pre.size + j) k = bitsAt (num (hdr b p.size ++ (p ++ rest))) j k := fun j k => bits_behind _ _ j k
  have hY : bytesAt (srcOf (pre ++ (hdr b p.size ++ (p ++ rest))) lim).N (8 * pre.size + 40) p.size = nums p := by
    show bytesAt (num (pre ++ (hdr b p.size ++ (p ++ rest)))) _ _ = _
    rw [bytes_behind]
    have h := bytes_behind (hdr b p.size) (p ++ rest) 0 p.size
    rw [hdr_size] at h
    rw [show (40 : Nat) = 8 * 5 + 0 from rfl, h, bytes_front]
  have hH : num (hdr b p.size ++ (p ++ rest)) = b + 256 * (p.size % 256) + 65536 * (p.size / 256) + 16777216 * (255 - p.size % 256) + 4294967296 * (255 - p.size / 256) + num (p ++ rest) * 1099511627776 := by
    rw [num_append, hdr_num b p.size hb hp, hdr_size]
  generalize srcOf (pre ++ (hdr b p.size ++ (p ++ rest))) lim = src at *
  rw [hH] at hB
  generalize num (p ++ rest) = T at *
  have b0 : bitsAt src.N (8 * pre.size) 1 = b := by
    have := hB 0 1
    rw [Nat.add_zero] at this
    rw [this]
    unfold bitsAt
    simp only [Nat.pow_zero, Nat.div_one, Nat.pow_one]
    omega
  have b1 : bitsAt src.N (8 * pre.size + 1) 2 = 0 := by
    rw [hB 1 2]
    unfold bitsAt
    rw [show (2 : Nat) ^ 1 = 2 from rfl, show (2 : Nat) ^ 2 = 4 from rfl]
    omega
  have b2 : bitsAt src.N (8 * pre.size + 8) 16 = p.size := by
    rw [hB 8 16]
    unfold bitsAt
    rw [show (2 : Nat) ^ 8 = 256 from rfl, show (2 : Nat) ^ 16 = 65536 from rfl]
    omega
  have b3 : bitsAt src.N (8 * pre.size + 24) 16 = 65535 - p.size := by
    rw [hB 24 16]
    unfold bitsAt
    rw [show (2 : Nat) ^ 24 = 16777216 from rfl, show (2 : Nat) ^ 16 = 65536 from rfl]
    clear b0 b1 b2 hB hH hY hL hlim hl
    obtain ⟨x, hx⟩ : ∃ x, x = 255 - p.size % 256 := ⟨_, rfl⟩
    obtain ⟨y, hy⟩ : ∃ y, y = 255 - p.size / 256 := ⟨_, rfl⟩
    have h1 : 65535 - p.size = x + 256 * y := by omega
    have hx2 : x < 256 := by omega
    have hy2 : y < 256 := by omega
    rw [h1, ← hx, ← hy]
    have h2 : b + 256 * (p.size % 256) + 65536 * (p.size / 256) < 16777216 := by omega
    generalize b + 256 * (p.size % 256) + 65536 * (p.size / 256) = z at *
    clear h1 hx hy
    omega
  rw [blk_ok src _ o (by omega), b0, b1]
  have hs : storedM src (8 * pre.size + 3) o = .ok ((), 8 * (pre.size + 5 + p.size), o ++ nums p) := by
    rw [stored_eq, show (8 * pre.size + 3 + 7) / 8 * 8 = 8 * pre.size + 8 by omega]
    rw [bind_ok (show readM1 16 src (8 * pre.size + 8) o = .ok (p.size, 8 * pre.size + 24, o) from by unfold readM1; rw [if_pos (by omega), b2])]
    rw [bind_ok (show readM1 16 src (8 * pre.size + 24) o = .ok (65535 - p.size, 8 * pre.size + 40, o) from by unfold readM1; rw [if_pos (by omega), b3])]
    rw [if_pos (by omega)]
    unfold storeM
    rw [hlim, if_pos hl, if_pos (by omega), hY, show 8 * pre.size + 40 + 8 * p.size = 8 * (pre.size + 5 + p.size) by omega]
  show bindM storedM (fun _ => retM (b == 1)) src _ o = _
  rw [bind_ok hs]
  rfl

/-- The blocks of some texts. -/
def bld : List ByteArray → ByteArray
  | [] => ⟨#[]⟩
  | p :: r => hdr 0 p.size ++ p ++ bld r
def all : List ByteArray → List Nat
  | [] => []
  | p :: r => nums p ++ all r
theorem emp_app (s : ByteArray) : (⟨#[]⟩ : ByteArray) ++ s = s := by
  apply ByteArray.ext
  simp
theorem app_emp (s : ByteArray) : s ++ (⟨#[]⟩ : ByteArray) = s := by
  apply ByteArray.ext
  simp
theorem bld_snoc : ∀ (l : List ByteArray) (p : ByteArray), bld (l ++ [p]) = bld l ++ (hdr 0 p.size ++ p)
  | [], p => by show hdr 0 p.size ++ p ++ ⟨#[]⟩ = ⟨#[]⟩ ++ _; rw [app_emp, emp_app]
  | q :: l, p => by show hdr 0 q.size ++ q ++ bld (l ++ [p]) = hdr 0 q.size ++ q ++ bld l ++ _; rw [bld_snoc l p]; simp only [ByteArray.append_assoc]
theorem all_snoc : ∀ (l : List ByteArray) (p : ByteArray), all (l ++ [p]) = all l ++ nums p
  | [], p => by simp [all]
  | q :: l, p => by rw [List.cons_append, all, all_snoc l p, all, List.append_assoc]
theorem bld_size : ∀ (l : List ByteArray), (bld l).size = 5 * l.length + (all l).length
  | [] => rfl
  | p :: l => by rw [bld, ByteArray.size_append, ByteArray.size_append, hdr_size, bld_size l, all, List.length_append, nums_len, List.length_cons]; omega
theorem all_len : ∀ (l : List ByteArray) (_ : ∀ p ∈ l, p.size ≤ 2000), (all l).length ≤ 2000 * l.length
  | [], _ => Nat.zero_le _
  | p :: l, h => by
    have h1 := h p (by simp)
    have h2 := all_len l fun q hq => h q (by simp [hq])
    rw [all, List.length_append, nums_len, List.length_cons]
    omega
theorem runs_stored : ∀ (l : List ByteArray) (pre : ByteArray) (o : List Nat) (lim : Nat), (∀ p ∈ l, p.size ≤ 2000) → o.length + (all l).length ≤ lim →
    Runs blockStep (srcOf (pre ++ (bld l ++ hdr 1 0)) lim) () (8 * pre.size) o (.ok ((), 8 * (pre.size + (all l).length + 5 * l.length + 5), o ++ all l))
  | [], pre, o, lim, _, hl => by
    have h := stored_block pre ⟨#[]⟩ ⟨#[]⟩ 1 lim o (by omega) (by decide) hl
    rw [app_emp, show (⟨#[]⟩ : ByteArray).size = 0 from rfl] at h
    refine .done ?_
    show bindM blockM _ _ _ _ = _
    rw [show bld [] ++ hdr 1 0 = hdr 1 0 ++ ⟨#[]⟩ from by rw [bld, emp_app, app_emp], bind_ok h]
    rfl
  | p :: l, pre, o, lim, hs, hl => by
    rw [all, List.length_append, nums_len] at hl
    have hp := hs p (by simp)
    have h := stored_block pre p (bld l ++ hdr 1 0) 0 lim o (by omega) (by omega) (by omega)
    have ih := runs_stored l (pre ++ (hdr 0 p.size ++ p)) (o ++ nums p) lim (fun q hq => hs q (by simp [hq])) (by rw [List.length_append, nums_len]; omega)
    have e1 : pre ++ (hdr 0 p.size ++ (p ++ (bld l ++ hdr 1 0))) = pre ++ (bld (p :: l) ++ hdr 1 0) := by rw [bld, ByteArray.append_assoc, ByteArray.append_assoc]
    have e2 : pre ++ (hdr 0 p.size ++ p) ++ (bld l ++ hdr 1 0) = pre ++ (bld (p :: l) ++ hdr 1 0) := by rw [bld, ByteArray.append_assoc, ByteArray.append_assoc, ByteArray.append_assoc, ByteArray.append_assoc]
    rw [e1] at h
    rw [e2, ByteArray.size_append, ByteArray.size_append, hdr_size, List.append_assoc] at ih
    rw [all, List.length_append, nums_len, List.length_cons]
    refine .more (c1 := ()) (a1 := 8 * (pre.size + 5 + p.size)) (o1 := o ++ nums p) ?_ ?_
    · show bindM blockM _ _ _ _ = _
      rw [bind_ok h]
      rfl
    · rw [show 8 * (pre.size + (p.size + (all l).length) + 5 * (l.length + 1) + 5) = 8 * (pre.size + (5 + p.size) + (all l).length + 5 * l.length + 5) by omega, show pre.size + 5 + p.size = pre.size + (5 + p.size) by omega]
      exact ih
theorem infl_stored (l : List ByteArray) (lim : Nat) (hs : ∀ p ∈ l, p.size ≤ 2000) (hl : (all l).length ≤ lim) :
    inflM (srcOf (bld l ++ hdr 1 0) lim) 0 [] = .ok ((), 8 * ((bld l ++ hdr 1 0).size), all l) := by
  have h := runs_stored l ⟨#[]⟩ [] lim hs (by simpa using hl)
  rw [emp_app] at h
  have h2 := loop_of h
  rw [ByteArray.size_append, hdr_size, bld_size]
  rw [show (⟨#[]⟩ : ByteArray).size = 0 from rfl, show 8 * (0 + (all l).length + 5 * l.length + 5) = 8 * (5 * l.length + (all l).length + 5) by omega] at h2
  exact h2
theorem text_all : ∀ (l : List ByteArray), (text (all l)).data.toList = (l.map (·.data.toList)).flatten
  | [] => rfl
  | p :: l => by
    have ih := text_all l
    have e : ∀ x y : List Nat, (text (x ++ y)).data.toList = (text x).data.toList ++ (text y).data.toList := fun x y => by simp [text]
    rw [all, e, text_nums, ih]
    rfl
theorem join_emp : ∀ (l : List (List UInt8)), Lib.join l [] = l.flatten
  | [] => rfl
  | x :: r => by rw [Lib.join_cons, Lib.joinTail]; simp
theorem text_join (l : List ByteArray) : (⟨(Lib.join (l.map (·.data.toList)) []).toArray⟩ : ByteArray) = text (all l) := by
  rw [join_emp, ← text_all]
end Go.Proofs.Ytbgclbnbnpnolaa
