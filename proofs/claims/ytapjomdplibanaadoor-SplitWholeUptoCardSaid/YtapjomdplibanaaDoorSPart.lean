/- Parts of layer 8's texts that name nothing of its law and of the document's Brief and Same: for later seats. -/
import Derived.Test.YtapjomdplibanaaDoorSTok
namespace Go.Proofs.YtapjomdplibanaaDoor.S
open Go.RowKit
open Go.Lib hiding intOf
open Go.Proofs.YtapjomdplibanaaDoor.U Go.Proofs.YtapjomdplibanaaDoor.L

theorem take_snoc {α : Type} (l : List α) {i : Nat} (h : i < l.length) : l.take (i + 1) = l.take i ++ [l[i]] := by
  rw [List.take_add_one, List.getElem?_eq_getElem h]; rfl
theorem cat_list (a b : ByteArray) : (a ++ b).toList = a.toList ++ b.toList := by
  rw [ByteArray.toList_eq, ByteArray.toList_eq, ByteArray.toList_eq, ByteArray.data_append, Array.toList_append]
theorem drewB {B : Nat} {a w : World} (h : Below B a w) (n : Nat) : Below B a (w.drewN n) := ⟨h.os, h.tape, h.output, h.size, h.block⟩
theorem tl_arr (l : By) : (⟨l.toArray⟩ : ByteArray).toList = l := by rw [ByteArray.toList_eq]
theorem scanF_len (right : Bool) : ∀ (n : Nat) (l : By) (pos : Nat) (e : Bool), (scanF right n l pos e).length ≤ l.length + 1
  | 0, _, _, _ => by simp [scanF]
  | n + 1, [], pos, e => by simp only [scanF]; split <;> simp
  | n + 1, c :: r, pos, e => by
    have hc := cmt_le (c :: r)
    have hw := word_bounds right (l := c :: r) (by simp)
    simp only [scanF]
    split
    · have := scanF_len right n r (pos + 1) false
      simp only [List.length_cons]; omega
    · split
      · have := scanF_len right n r (pos + 1) e
        simp only [List.length_cons]; omega
      · split
        · have := scanF_len right n ((c :: r).drop (cmtLen (c :: r))) (pos + cmtLen (c :: r)) e
          rw [List.length_drop] at this; omega
        · have := scanF_len right n ((c :: r).drop (wordL right (c :: r)).2) (pos + (wordL right (c :: r)).2) (endsP (wordL right (c :: r)).1 ((c :: r).take (wordL right (c :: r)).2))
          rw [List.length_drop] at this
          rw [List.length_cons]; omega
theorem scan_len (right : Bool) (s : ByteArray) : (scanB right s.toList).length ≤ s.size + 1 := by
  have := scanF_len right (s.toList.length + 1) s.toList 0 false
  unfold scanB
  rwa [tl_len] at this ⊢
end Go.Proofs.YtapjomdplibanaaDoor.S
