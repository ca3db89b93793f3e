/- The first scalar of a text, by the document's own answer: it is the decoder's, or none. -/
import Derived.Test.YtdnipjbknkmhbaaDoorScalarA
import Derived.Test.YtdnipjbknkmhbaaDoorScalarB
import Derived.Test.YtdnipjbknkmhbaaDoorScalarC
namespace Go.Proofs.YtdnipjbknkmhbaaDoor.U
open Go.RowKit
open Go.Lib hiding intOf

theorem scalar_any (s : ByteArray) (w : World) (h0 : 0 < s.size) (hs : s.size ≤ 1099511627776) :
    Calls Tryd.prog 23 #[.string s] w (TwoN (scal s) w) := by
  obtain ⟨x, hx⟩ : ∃ x, s.get! 0 = x := ⟨_, rfl⟩
  have r1 := ref1 s
  have r0 := ref0 s
  have r2 := ref2 s
  have r3 := ref3 s
  have r4 := ref4 s
  rw [hx] at r1 r0 r2 r3 r4
  by_cases q1 : x.toNat < 128
  · rw [r1 q1]; exact scalar_one s w h0 hs x hx q1
  · by_cases q2 : 192 ≤ x.toNat ∧ x.toNat < 224
    · rw [r2 q2.1 q2.2]; exact scalar_2 s w h0 hs x hx q2.1 q2.2
    · by_cases q3 : 224 ≤ x.toNat ∧ x.toNat < 240
      · rw [r3 q3.1 q3.2]; exact scalar_3 s w h0 hs x hx q3.1 q3.2
      · by_cases q4 : 240 ≤ x.toNat ∧ x.toNat < 248
        · rw [r4 q4.1 q4.2]; exact scalar_4 s w h0 hs x hx q4.1 q4.2
        · rw [r0 q1 q2 q3 q4]; exact scalar_none s w h0 hs x hx (by omega)
end Go.Proofs.YtdnipjbknkmhbaaDoor.U
