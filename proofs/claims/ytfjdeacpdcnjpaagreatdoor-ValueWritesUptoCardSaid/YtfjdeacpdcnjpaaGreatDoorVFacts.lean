/- Plain facts: what same tells, how deep a value can be, how long its text is. -/
import Derived.Test.YtfjdeacpdcnjpaaGreatDoorVSame
namespace Go.Proofs.YtfjdeacpdcnjpaaGreatDoor.V
open Go.RowKit
open Go.Lib

mutual
theorem sameP_iff : ∀ (v v' : Val), sameP v v' = true ↔ v = v'
  | .mk so on n t l ks, .mk so' on' n' t' l' ks' => by
    have h := sameLs_iff l l'
    simp only [sameP, Bool.and_eq_true, beq_iff_eq, decide_eq_true_eq, h, Val.mk.injEq]
    constructor
    · rintro ⟨⟨⟨⟨⟨h1, h2⟩, h3⟩, h4⟩, h5⟩, h6⟩; exact ⟨h1, h2, h3, h4, h6, h5⟩
    · rintro ⟨h1, h2, h3, h4, h6, h5⟩; exact ⟨⟨⟨⟨⟨h1, h2⟩, h3⟩, h4⟩, h5⟩, h6⟩
theorem sameLs_iff : ∀ (l l' : List Val), sameLs l l' = true ↔ l = l'
  | [], [] => by simp [sameLs]
  | [], _ :: _ => by simp [sameLs]
  | _ :: _, [] => by simp [sameLs]
  | v :: r, v' :: r' => by
    have h1 := sameP_iff v v'
    have h2 := sameLs_iff r r'
    simp only [sameLs, Bool.and_eq_true, h1, h2, List.cons.injEq]
end
theorem sameP_self (v : Val) : sameP v v = true := (sameP_iff v v).2 rfl

mutual
theorem nestP_wt : ∀ (v : Val) (m : Nat), wt v ≤ m → nestP v m = true
  | .mk so on n t l ks, m, h => by
    simp only [wt] at h
    have hm : ¬ m = 0 := by omega
    simp only [nestP, if_neg hm]
    exact nestL_wt l (m - 1) (by omega)
theorem nestL_wt : ∀ (l : List Val) (m : Nat), wtL l ≤ m → nestL l m = true
  | [], _, _ => rfl
  | v :: r, m, h => by
    simp only [wtL] at h
    simp only [nestL, Bool.and_eq_true]
    exact ⟨nestP_wt v m (by omega), nestL_wt r m (by omega)⟩
end
end Go.Proofs.YtfjdeacpdcnjpaaGreatDoor.V
