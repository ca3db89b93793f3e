/- The library's strings.Builder (WriteString) as it lies in this program: what the kit's one command does not lay. -/
import Derived.Test.YtojdginbaaoidaaDoorProg
import Derived.Shelf.Strings.BuilderK
namespace Go.Proofs.YtojdginbaaoidaaDoor.F
open Go.Shelf Go.RowKit
def bren : Go.Shelf.Ren := ⟨fun | 166 => 18 | 240 => 25 | 276 => 31 | n => n, fun | 0 => 0 | 3 => 3 | 4 => 4 | 5 => 5 | 9 => 9 | 20 => 20 | 21 => 21 | 37 => 29 | 46 => 78 | 51 => 75 | 70 => 41 | 72 => 43 | 75 => 45 | 164 => 63 | 80 => 49 | n => n, fun n => n⟩
theorem blays166 : Lays.n166 Tryd.prog bren := {
  mixed := by kernel_rfl,
  f166 := Tryd.func18.trans (congrArg some (by kernel_rfl)),
  f240 := Tryd.func25.trans (congrArg some (by kernel_rfl)),
  f276 := Tryd.func31.trans (congrArg some (by kernel_rfl)),
  t0 := Tryd.underlying0,
  a0 := Tryd.isAgg0,
  z0 := Tryd.sizeOf0,
  v0 := Tryd.zeroValue0,
  t3 := Tryd.underlying3,
  a3 := Tryd.isAgg3,
  z3 := Tryd.sizeOf3,
  v3 := Tryd.zeroValue3,
  t4 := Tryd.underlying4,
  a4 := Tryd.isAgg4,
  z4 := Tryd.sizeOf4,
  v4 := Tryd.zeroValue4,
  t9 := Tryd.underlying9,
  a9 := Tryd.isAgg9,
  z9 := Tryd.sizeOf9,
  v9 := Tryd.zeroValue9,
  t20 := Tryd.underlying20,
  a20 := Tryd.isAgg20,
  z20 := Tryd.sizeOf20,
  v20 := Tryd.zeroValue20,
  t37 := Tryd.underlying29,
  a37 := Tryd.isAgg29,
  z37 := Tryd.sizeOf29,
  v37 := Tryd.zeroValue29,
  t70 := Tryd.underlying41,
  a70 := Tryd.isAgg41,
  z70 := Tryd.sizeOf41,
  v70 := Tryd.zeroValue41,
  t72 := Tryd.underlying43,
  a72 := Tryd.isAgg43,
  z72 := Tryd.sizeOf43,
  v72 := Tryd.zeroValue43,
  t75 := Tryd.underlying45,
  a75 := Tryd.isAgg45,
  z75 := Tryd.sizeOf45,
  v75 := Tryd.zeroValue45,
  t164 := Tryd.underlying63,
  a164 := Tryd.isAgg63,
  z164 := Tryd.sizeOf63,
  v164 := Tryd.zeroValue63 }
theorem bextra : Builder.Extra Tryd.prog bren where
  sizeBuilder := by kernel_rfl
  liesBuilder := by kernel_rfl
  t5 := Tryd.underlying5
  a5 := Tryd.isAgg5
  z5 := Tryd.sizeOf5
  v5 := Tryd.zeroValue5
  infoByte := by kernel_rfl
  cellsByte := by kernel_rfl
  sizeByte := by kernel_rfl
  neB5 := by decide
theorem Builder_WriteString_k (B b : Nat) (bs : List Value) (s : ByteArray) (w : World) (h : Lib.IsBuilderF 43 5 B b bs w) (hlen : bs.length + s.size ≤ 140737488355328) (hBw : B ≤ w.heap.size) :
    Calls Tryd.prog 18 #[.pointer (some ⟨b, 0, none⟩), .string s] w fun e w' => e = .returned (.tuple #[.int .i64 s.size, .nilIface]) ∧ (Lib.BuilderAtF 43 5 B b (.pointer (some ⟨b, 0, none⟩)) (bs ++ Lib.strCells s) w' ∧ Below B w w' ∧ Lib.OthersKept 5 (some b) w w') :=
  Any.Builder_WriteString_k blays166 bextra B b bs s w h hlen hBw
end Go.Proofs.YtojdginbaaoidaaDoor.F
