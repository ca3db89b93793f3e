/- How many words, and how long their brief; law ScanWords under Prg. -/
import Derived.Test.YtnpmlnjkjijdpaaDoorSLive
namespace Go.Proofs.YtnpmlnjkjijdpaaDoor.S
open Go.RowKit
open Go.Lib hiding intOf
open Go.Proofs.YtnpmlnjkjijdpaaDoor.U Go.Proofs.YtnpmlnjkjijdpaaDoor.L

theorem scanF_len (right : Bool) : ∀ (n : Nat) (l : By) (pos : Nat) (e : Bool), (scanF right n l pos e).length ≤ l.length + 1
  | 0, _, _, _ => by simp [scanF]
  | n + 1, [], pos, e => by simp only [scanF]; split <;> simp
  | n + 1, c :: r, pos, e => by
    have hc := cmt_le (c :: r)
    have hw := word_bounds right (l := c :: r) (by simp)
    simp only [scanF]
    split
    · have := scanF_len right n r (pos + 1) false
      simp only [List.length_cons]; omega
    · split
      · have := scanF_len right n r (pos + 1) e
        simp only [List.length_cons]; omega
      · split
        · have := scanF_len right n ((c :: r).drop (cmtLen (c :: r))) (pos + cmtLen (c :: r)) e
          rw [List.length_drop] at this; omega
        · have := scanF_len right n ((c :: r).drop (wordL right (c :: r)).2) (pos + (wordL right (c :: r)).2) (endsP (wordL right (c :: r)).1 ((c :: r).take (wordL right (c :: r)).2))
          rw [List.length_drop] at this
          rw [List.length_cons]; omega
theorem scanF_txt (right : Bool) : ∀ (n : Nat) (l : By) (pos : Nat) (e : Bool), ∀ t ∈ scanF right n l pos e, t.t.length ≤ l.length
  | 0, _, _, _, t, h => by simp [scanF] at h
  | n + 1, [], pos, e, t, h => by
    simp only [scanF] at h
    split at h
    · simp at h; subst h; simp
    · simp at h
  | n + 1, c :: r, pos, e, t, h => by
    simp only [scanF] at h
    split at h
    · rcases List.mem_cons.1 h with rfl | h
      · simp
      · have := scanF_txt right n r (pos + 1) false t h
        simp only [List.length_cons]; omega
    · split at h
      · have := scanF_txt right n r (pos + 1) e t h
        simp only [List.length_cons]; omega
      · split at h
        · have := scanF_txt right n _ _ e t h
          rw [List.length_drop] at this; omega
        · rcases List.mem_cons.1 h with rfl | h
          · simp only [List.length_take]; omega
          · have := scanF_txt right n _ _ _ t h
            rw [List.length_drop] at this; omega
theorem brief_len {N : Nat} : ∀ l : List TokP, (∀ t ∈ l, t.t.length ≤ N) → (briefL l).length ≤ l.length * (N + 2)
  | [], _ => by simp [briefL]
  | [t], h => by
    have := h t (by simp)
    have h2 : (txP t).length ≤ N + 1 := by unfold txP; split <;> (try simp only [List.length_cons, List.length_nil]) <;> omega
    simp [briefL]; omega
  | t :: u :: r, h => by
    have h1 := h t (by simp)
    have h2 : (txP t).length ≤ N + 1 := by unfold txP; split <;> (try simp only [List.length_cons, List.length_nil]) <;> omega
    have h3 := brief_len (u :: r) (fun x hx => h x (by simp at hx ⊢; exact .inr hx))
    simp only [briefL, List.length_append, List.length_cons] at h3 ⊢
    rw [Nat.add_mul _ 1, Nat.one_mul]
    omega
theorem scan_len (right : Bool) (s : ByteArray) : (scanB right s.toList).length ≤ s.size + 1 := by
  have := scanF_len right (s.toList.length + 1) s.toList 0 false
  unfold scanB
  rwa [tl_len] at this ⊢
theorem brief_small {right : Bool} {s : ByteArray} (h : s.size ≤ 1000) : (briefL (scanB right s.toList)).length ≤ 1003002 := by
  have h1 := brief_len (N := s.size) _ (fun t ht => by
    have := scanF_txt right (s.toList.length + 1) s.toList 0 false t ht
    rwa [tl_len] at this)
  rw [show scanF right (s.toList.length + 1) s.toList 0 false = scanB right s.toList from rfl] at h1
  have h2 := scan_len right s
  refine Nat.le_trans h1 (Nat.le_trans (Nat.mul_le_mul h2 (Nat.le_refl _)) ?_)
  exact Nat.le_trans (Nat.mul_le_mul (show s.size + 1 ≤ 1001 by omega) (show s.size + 2 ≤ 1002 by omega)) (by decide)
theorem ToksIn.later {B : Nat} {W W' : World} {l : List TokP} {v : Value} (h : ToksIn B W l v) (hb : Below W.heap.size W W') : ToksIn B W' l v := by
  obtain ⟨a, cap, h1, h2, h3⟩ := h
  refine ⟨a, cap, h1, h2, ?_⟩
  rcases h3 with h3 | ⟨g, off, h4, h5, h6, h7⟩
  · exact .inl h3
  · exact .inr ⟨g, off, h4, h5, by have := hb.size; omega, fun j u hj => (hb.cell (p := ⟨g, off + j, none⟩) h6).trans (h7 j u hj)⟩
theorem sameT_self (l : List TokP) : sameT l l = true := sameT_iff.2 rfl
set_option maxHeartbeats 8000000 in
set_option maxRecDepth 20000 in
theorem words_short (P : Prg) (s : ByteArray) (w : World) (hs : s.size ≤ 500) (hT : Tabs w) : Calls Tryd.prog 3 #[.string s] w fun e w' => e = .returned (.bool true) ∧ Below w.heap.size w w' := by
  have cX := P.scan s w (by omega) hT
  obtain ⟨l, hl⟩ : ∃ l, scanB (okB s) s.toList = l := ⟨_, rfl⟩
  have hln : l.length ≤ 1000000 := by have := scan_len (okB s) s; rw [hl] at this; omega
  have hbl : (briefL l).length ≤ 1000000000 := by have := brief_small (right := okB s) (s := s) (by omega); rw [hl] at this; omega
  have cY := fun X => refScan_any s X (by omega)
  have cA := fun X hX => alive_any P X (hT.later hX)
  have cK := fun X => P.key s X (by omega)
  have cK2 := fun X => key_any s X
  rw [hl] at cX cY
  obtain ⟨kb, hkb⟩ : ∃ b, keyB s.toList = b := ⟨_, rfl⟩
  rw [hkb] at cK cK2
  have HLN := Lib.hid hln
  have HBL := Lib.hid hbl
  clear hln hbl hl hkb
  go_enter Tryd.func3, Tryd.ntmps3
  go_wp2_with fail
  refine cX.mono ?_
  rintro e w1 ⟨x, rfl, hx, hb1⟩
  have HX := Lib.hid hx
  have HB1 := Lib.hid hb1
  clear cX hx hb1
  go_wp2_with fail
  refine (cY w1).mono ?_
  rintro e w2 ⟨y, rfl, hy, hb2⟩
  have HX2 := Lib.hid (HX.out.later hb2)
  have HY := Lib.hid hy
  have HB2 := Lib.hid (HB1.out.trans (hb2.mono HB1.out.size))
  clear cY hy hb2
  go_wp2_with fail
  refine (cA w2 HB2.out).mono ?_
  rintro e w3 ⟨rfl, hb3⟩
  have HX3 := Lib.hid (HX2.out.later hb3)
  have HY3 := Lib.hid (HY.out.later hb3)
  have HB3 := Lib.hid (HB2.out.trans (hb3.mono HB2.out.size))
  have cS := refSame_any _ _ l l x y w3 HX3.out HY3.out HLN.out HLN.out
  rw [sameT_self] at cS
  clear cA hb3
  go_wp2_with fail
  refine cS.mono ?_
  rintro e w4 ⟨rfl, hb4⟩
  have HX4 := Lib.hid (HX3.out.later hb4)
  have HY4 := Lib.hid (HY3.out.later hb4)
  have HB4 := Lib.hid (HB3.out.trans (hb4.mono HB3.out.size))
  have cB := P.brief _ l x w4 HX4.out HLN.out HBL.out
  obtain ⟨z, hz⟩ : ∃ z, (⟨(briefL l).toArray⟩ : ByteArray) = z := ⟨_, rfl⟩
  rw [hz] at cB
  clear cS hb4
  go_wp2_with fail
  refine cB.mono ?_
  rintro e w5 ⟨rfl, hb5⟩
  have cB2 := refBrief_any _ l y w5 (HY4.out.later hb5) HLN.out HBL.out
  rw [hz] at cB2
  have HB5 := Lib.hid (HB4.out.trans (hb5.mono HB4.out.size))
  clear cB hb5 hz
  go_wp2_with fail
  refine cB2.mono ?_
  rintro e w6 ⟨rfl, rfl⟩
  clear cB2
  go_wp2_with fail
  refine (cK w5).mono ?_
  rintro e w7 ⟨rfl, hb7⟩
  have HB7 := Lib.hid (HB5.out.trans (hb7.mono HB5.out.size))
  clear cK hb7
  go_wp2_with fail
  refine (cK2 w7).mono ?_
  rintro e w8 ⟨rfl, rfl⟩
  clear cK2
  cases kb
  · go_wp2_with fail
    go_ret
    exact ⟨rfl, HB7.out⟩
  · go_wp2_with fail
    go_ret
    exact ⟨rfl, HB7.out⟩
set_option maxHeartbeats 8000000 in
set_option maxRecDepth 20000 in
theorem words_any (P : Prg) (s : ByteArray) (w : World) (hT : Tabs w) : Calls Tryd.prog 3 #[.string s] w fun e w' => e = .returned (.bool true) ∧ Below w.heap.size w w' := by
  by_cases hs : s.size ≤ 500
  · exact words_short P s w hs hT
  · have cA := fun X hX => alive_any P X (hT.later hX)
    have hz : ¬ (s.size : Int) ≤ 500 := by omega
    have hz2 : (500 : Int) < (s.size : Int) := by omega
    go_enter Tryd.func3, Tryd.ntmps3
    go_wp2_with fail
    refine (cA w (Below.refl _ _)).mono ?_
    rintro e w3 ⟨rfl, hb3⟩
    go_wp2_with fail
    go_ret
    exact ⟨rfl, hb3⟩
end Go.Proofs.YtnpmlnjkjijdpaaDoor.S
