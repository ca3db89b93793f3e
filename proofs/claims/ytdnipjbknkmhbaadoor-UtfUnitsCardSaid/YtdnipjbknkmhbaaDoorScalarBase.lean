/- Contract of the document's own answer for the first scalar of a text (boltholeref01.scalar): it is the decoder's, or none, at every text that is not empty; memory is left alone. -/
import Derived.Test.YtdnipjbknkmhbaaDoorProg
import Derived.Test.YtdnipjbknkmhbaaDoorRefPlain
import Derived.WalkKit
import Derived.WalkMore
import Derived.Below
import Derived.Lib.Hide
import Derived.Shelf.Unicode.DecodeSlow
namespace Go.Proofs.YtdnipjbknkmhbaaDoor.U
open Go.RowKit
open Go.Lib hiding intOf

def TwoN (p : Nat × Nat) (w : World) (e : Ending) (w' : World) : Prop := e = .returned (.tuple #[.int .i64 p.1, .int .i64 p.2]) ∧ w = w'
theorem twoN {p : Nat × Nat} {a b : Int} {w : World} (h1 : a = (p.1 : Int)) (h2 : b = (p.2 : Int)) : TwoN p w (.returned (.tuple #[.int .i64 a, .int .i64 b])) w := ⟨by rw [h1, h2], rfl⟩
theorem get_at (s : ByteArray) (i : Nat) (h : i < s.size) : s[i]'h = s.get! i := (Utf8W.get!_of_lt s i h).symm

end Go.Proofs.YtdnipjbknkmhbaaDoor.U
