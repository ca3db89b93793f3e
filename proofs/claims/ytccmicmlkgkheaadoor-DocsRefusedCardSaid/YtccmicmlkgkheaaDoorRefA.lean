/- Contracts of the document's own answers for layer 1 (boltholeref01): each answers what the call of package utf answers; memory that was there is as it was. Condition: texts of at most 1,000,000 bytes. -/
import Derived.Test.YtccmicmlkgkheaaDoorRefAll
import Derived.Test.YtccmicmlkgkheaaDoorWalksA
namespace Go.Proofs.YtccmicmlkgkheaaDoor.U
open Go.RowKit
open Go.Lib hiding intOf

theorem fnd_hit (l : List Nat) (i : Nat) (x : Int) (h : i < l.length) (hx : ((l.getD i 0 : Nat) : Int) = x) : fnd (l.drop i) x i = i := by
  rw [List.getD_eq_getElem?_getD, List.getElem?_eq_getElem h, Option.getD_some] at hx
  rw [List.drop_eq_getElem_cons h]; simp only [fnd]; rw [if_pos hx]
theorem fnd_miss (l : List Nat) (i : Nat) (x : Int) (h : i < l.length) (hx : ¬ ((l.getD i 0 : Nat) : Int) = x) : fnd (l.drop i) x i = fnd (l.drop (i + 1)) x (i + 1) := by
  rw [List.getD_eq_getElem?_getD, List.getElem?_eq_getElem h, Option.getD_some] at hx
  rw [List.drop_eq_getElem_cons h]; simp only [fnd]; rw [if_neg hx]
theorem fnd_done (l : List Nat) (i : Nat) (x : Int) (h : ¬ i < l.length) : fnd (l.drop i) x i = -1 := by
  rw [List.drop_eq_nil_of_le (by omega)]; rfl

theorem find_any (g cap n : Nat) (l : List Nat) (x R : Int) (w : World) (hn : l.length = n) (hn2 : n ≤ 2000000) (hr : Row w g l) (hR : fnd l x 0 = R) :
    Calls Tryd.prog 77 #[.slice (some ⟨g, 0, none⟩) n cap, .int .i64 x] w fun e w' => e = .returned (.int .i64 R) ∧ w = w' := by
  have HR : Hid (fnd (l.drop 0) x 0 = R) := hR
  have HN := Lib.hid hn
  have HRow := Lib.hid hr
  clear hn hr hR
  go_enter Tryd.func77, Tryd.ntmps77
  go_wp2
  go_loop [5] (fun iv => ∃ i : Nat, iv = .int .i64 i ∧ i ≤ n ∧ Hid (fnd (l.drop i) x i = R)) (fun iv => n - (intOf iv).toNat)
  case atStart => exact ⟨0, rfl, by omega, HR⟩
  case round =>
    obtain ⟨i, rfl, hi, HI⟩ := hrel
    by_cases hlt : i < n
    · have hll : i < l.length := by rw [HN.out]; exact hlt
      have hc := HRow.out i hll
      obtain ⟨y, hy⟩ : ∃ y, l.getD i 0 = y := ⟨_, rfl⟩
      have hhit := fnd_hit l i x hll
      have hmiss := fnd_miss l i x hll
      rw [hy] at hc hhit hmiss
      have HH := Lib.hid hhit
      have HM := Lib.hid hmiss
      clear hhit hmiss hy hll HRow HR
      by_cases hx : (y : Int) = x
      · subst hx
        have hRi : Hid (R = (i : Int)) := Lib.hid (HI.out.symm.trans (HH.out rfl))
        go_wp2
        go_ret
        exact ⟨by rw [hRi.out]; rfl, rfl⟩
      · have hxb : ((y : Int) == x) = false := by simpa using hx
        have hn2 : Hid (fnd (l.drop (i + 1)) x (i + 1) = R) := Lib.hid ((HM.out hx).symm.trans HI.out)
        clear hx
        go_wp2
        go_round
        case rel => exact ⟨i + 1, by go_num, by omega, hn2⟩
        case measure => simp [intOf]; omega
    · have hRi : Hid (R = -1) := Lib.hid (HI.out.symm.trans (fnd_done l i x (by rw [HN.out]; exact hlt)))
      go_wp2
      go_ret
      exact ⟨by rw [hRi.out]; rfl, rfl⟩

theorem items_len (s : ByteArray) (hs : s.size ≤ 1000000) : (items s).length ≤ 1000000 := by
  have h1 := length_le (items s) (itemsF_wide s _ _)
  rw [sumW_items] at h1; omega

set_option maxRecDepth 100000 in
theorem ref_offset (s : ByteArray) (unit : Int) (w : World) (hs : s.size ≤ 1000000) :
    Calls Tryd.prog 67 #[.string s, .int .i64 unit] w (AnswersTwo (offB s unit) w) := by
  have cP := places_any s w hs
  unfold PlacesPost at cP
  unfold offB
  cases hok : okB s
  · rw [hok] at cP
    simp only [Bool.false_eq_true, if_false] at cP ⊢
    clear hok
    go_enter Tryd.func67, Tryd.ntmps67
    go_wp2_with (go_at_call 41; refine cP.mono ?_; rintro e w1 ⟨rfl, hb⟩)
    go_ret2
    exact answersTwo rfl hb
  · rw [hok] at cP
    simp only [if_true] at cP ⊢
    have hlen := items_len s hs
    have hf := off_fnd (items s) 0 0 0 unit
    have hlu := unL_length (items s) 0
    have hlp := posL_length (items s) 0
    have hfr := fnd_range (unL (items s) 0) unit 0
    rw [hlu] at hfr
    obtain ⟨U, hU⟩ : ∃ U, unL (items s) 0 = U := ⟨_, rfl⟩
    obtain ⟨B, hB⟩ : ∃ B, posL (items s) 0 = B := ⟨_, rfl⟩
    obtain ⟨m, hm⟩ : ∃ m, (items s).length = m := ⟨_, rfl⟩
    obtain ⟨R, hR⟩ : ∃ R, off (items s) 0 0 unit = R := ⟨_, rfl⟩
    rw [hU, hB, hm] at cP
    rw [hU, hB, hR] at hf
    rw [hU, hm] at hlu
    rw [hB, hm] at hlp
    rw [hU, hm] at hfr
    rw [hm] at hlen
    rw [hR]
    clear hok hU hB hm hR
    rcases hf with ⟨q1, q2⟩ | ⟨k, q1, q2⟩
    · have cF : ∀ W g c, Row W g U → _ := fun W g c hr => find_any g c (m + 1) U unit (-1) W hlu (by omega) hr q1
      clear hlu hlp hfr q1
      have HQ := Lib.hid q2
      clear q2
      go_enter Tryd.func67, Tryd.ntmps67
      go_wp2_with fail
      refine cP.mono ?_
      rintro e w1 ⟨g1, k1, g2, k2, rfl, hr1, hr2, hb, hg1, hg2⟩
      go_wp2_with fail
      refine (cF w1 g2 k2 hr2).mono ?_
      rintro e w2 ⟨rfl, rfl⟩
      go_wp2
      go_ret2
      exact answersTwo HQ.out hb
    · rw [q1] at hfr
      have hk : k < m + 1 := by omega
      have cF : ∀ W g c, Row W g U → _ := fun W g c hr => find_any g c (m + 1) U unit ((0 + k : Nat) : Int) W hlu (by omega) hr q1
      obtain ⟨y, hy⟩ : ∃ y, B.getD k 0 = y := ⟨_, rfl⟩
      have hcell : ∀ W g, Row W g B → W.cell? ⟨g, k, none⟩ = some (.int .i64 (y : Nat)) := fun W g hr => by rw [← hy]; exact hr k (by omega)
      rw [hy] at q2
      rw [Nat.zero_add] at cF
      clear hlu hlp hfr q1 hy
      have HQ := Lib.hid q2
      clear q2
      go_enter Tryd.func67, Tryd.ntmps67
      go_wp2_with fail
      refine cP.mono ?_
      rintro e w1 ⟨g1, k1, g2, k2, rfl, hr1, hr2, hb, hg1, hg2⟩
      go_wp2_with fail
      refine (cF w1 g2 k2 hr2).mono ?_
      rintro e w2 ⟨rfl, rfl⟩
      have hc1 := hcell _ _ hr1
      clear hcell cF cP hr1 hr2
      go_wp2
      go_ret2
      exact answersTwo HQ.out hb
end Go.Proofs.YtccmicmlkgkheaaDoor.U
