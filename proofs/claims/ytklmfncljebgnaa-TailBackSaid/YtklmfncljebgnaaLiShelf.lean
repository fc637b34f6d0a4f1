/-
  The library's contracts at this program, laid by program (lay-shelf.mjs, lay-plain.mjs; wip/shelf.py): no walk; the numbers are the seat's.
-/
import Derived.Shelf.Strings.Builder1
import Derived.Shelf.Strings.Builder2
import Derived.Shelf.Strings.BuilderF
import Derived.Shelf.Strings.BuilderK
import Derived.Shelf.Strings.Builder2Cap
import Derived.Shelf.Strings.LastIndex
import Derived.Shelf.Strings.LastIndexAll
import Derived.Shelf.Strings.Prefix
import Derived.Shelf.Bits.Mul64
import Derived.Shelf.Strings.Repeat
import Derived.Shelf.Strings.BuilderCap
import Derived.Ground.PaProg
import Derived.Shelf.Path.Small
import Derived.Test.YtklmfncljebgnaaProg
namespace Go.Proofs.YtklmfncljebgnaaLi
open Go.Shelf
def sh_lays148_ren : Go.Shelf.Ren := ⟨fun | 148 => 32 | 222 => 72 | 223 => 73 | 269 => 92 | n => n, fun | 9 => 9 | 3 => 3 | 4 => 4 | 5 => 5 | 146 => 134 | 51 => 24 | 46 => 58 | n => n, fun | n => n⟩
theorem sh_lays148 : Go.Proofs.Lays.n148 Try.prog sh_lays148_ren := {
  mixed := by kernel_rfl
  f148 := Try.func32.trans (congrArg some (by kernel_rfl))
  f222 := Try.func72.trans (congrArg some (by kernel_rfl))
  f223 := Try.func73.trans (congrArg some (by kernel_rfl))
  f269 := Try.func92.trans (congrArg some (by kernel_rfl))
  t3 := Try.underlying3
  a3 := Try.isAgg3
  z3 := Try.sizeOf3
  v3 := Try.zeroValue3
  t4 := Try.underlying4
  a4 := Try.isAgg4
  z4 := Try.sizeOf4
  v4 := Try.zeroValue4
  t5 := Try.underlying5
  a5 := Try.isAgg5
  z5 := Try.sizeOf5
  v5 := Try.zeroValue5
  t9 := Try.underlying9
  a9 := Try.isAgg9
  z9 := Try.sizeOf9
  v9 := Try.zeroValue9
  t46 := Try.underlying58
  a46 := Try.isAgg58
  z46 := Try.sizeOf58
  v46 := Try.zeroValue58
  t51 := Try.underlying24
  a51 := Try.isAgg24
  z51 := Try.sizeOf24
  v51 := Try.zeroValue24
  t146 := Try.underlying134
  a146 := Try.isAgg134
  z146 := Try.sizeOf134
  v146 := Try.zeroValue134 }
open Go.RowKit Go.Lib in
theorem sh_strings_LastIndex (s sub : ByteArray) (hs : s.size < 4611686018427387904) (w : World) :
    Calls Try.prog 32 #[.string s, .string sub] w fun e w' => e = .returned (.int .i64 (Lib.lastIndex s.data.toList sub.data.toList)) ∧ w' = w := Any.strings_LastIndex sh_lays148 s sub hs w
end Go.Proofs.YtklmfncljebgnaaLi
