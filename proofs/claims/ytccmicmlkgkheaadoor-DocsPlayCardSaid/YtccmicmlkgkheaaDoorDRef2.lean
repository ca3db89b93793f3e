/- The contracts of the document's own Change, Whole and Size of layer 7. -/
import Derived.Test.YtccmicmlkgkheaaDoorDRef1
namespace Go.Proofs.YtccmicmlkgkheaaDoor.D
open Go.RowKit
open Go.Lib hiding intOf
open Go.Proofs.YtccmicmlkgkheaaDoor.U Go.Proofs.YtccmicmlkgkheaaDoor.L Go.Proofs.YtccmicmlkgkheaaDoor.E

/-- How a call of the document's store ends. -/
def RefPost (B q : Nat) (r : List DocP × Int) (w : World) (e : Ending) (w' : World) : Prop := e = .returned (.int .i64 r.2) ∧ Keep w.heap.size (fun k => k = q) w w' ∧ ∃ v', Sto B q r.1 v' w'
theorem putL_set {l : List DocP} (h : Inv l) {j : Nat} (hj : j < l.length) {n : ByteArray} (hn : l[j].n = n) (v : Int) (t : ByteArray) : putL l n v t = l.set j ⟨l[j].n, v, t⟩ := by
  subst hn
  apply List.ext_getElem
  · simp [putL]
  · intro k h1 h2
    have hk : k < l.length := by simpa using h2
    simp only [putL, List.getElem_map, List.getElem_set]
    by_cases e : j = k
    · subst e; simp
    · rw [if_neg e]
      split
      · rename_i hkn
        obtain ⟨x, hx⟩ : ∃ x, l[k] = x := ⟨_, rfl⟩
        have := h.one (List.getElem_mem hk) (List.getElem_mem hj) hkn
        exfalso
        have key := List.pairwise_iff_getElem.1 h.rise
        rcases Nat.lt_or_ge j k with hjk | hjk
        · exact bl_ne (key j k hj hk hjk) hkn.symm
        · exact bl_ne (key k j hk hj (by omega)) hkn
      · rfl
/-- Where a document that is changed stands, and what stands there. -/
theorem newer_or (l : List DocP) (n : ByteArray) (ver : Int) :
    (findL l n = none ∧ newerL l n ver = (0, 72)) ∨
    (∃ (j : Nat) (h : j < l.length), findL l n = some l[j] ∧ l[j].n = n ∧ ((ver ≤ l[j].v ∧ newerL l n ver = (0, 71)) ∨ (¬ ver ≤ l[j].v ∧ newerL l n ver = ((j : Int), 0)))) := by
  unfold newerL
  rcases fndD_or n l 0 with ⟨h1, h2⟩ | ⟨j, hj, h2, h1, h3, _⟩
  · exact .inl ⟨h1, by rw [h1]⟩
  · refine .inr ⟨j, hj, h1, h3, ?_⟩
    rw [Nat.zero_add] at h2
    rw [h1, h2]
    by_cases h : ver ≤ l[j].v
    · exact .inl ⟨h, by simp only; rw [if_pos h]⟩
    · exact .inr ⟨h, by simp only; rw [if_neg h]⟩

set_option maxHeartbeats 4000000 in
set_option maxRecDepth 20000 in
theorem change_any (B q : Nat) (l : List DocP) (v : Value) (n : ByteArray) (ver : Int) (es : List EdP) (ev : Value) (w : World) (h : Sto B q l v w) (hI : Inv l) (hB : B ≤ w.heap.size)
    (hv : EdsIn w es ev) (hel : es.length ≤ 1000000) (het : ∀ e ∈ es, e.t.size ≤ 1000000) :
    Calls Tryd.prog 21 #[.pointer (some ⟨q, 0, none⟩), .string n, .int .i64 ver, ev] w (RefPost B q (changeL l n ver es) w) := by
  have hl : l.length ≤ 1000000 := by have := hI.few; omega
  have cN := newer_any B q l v n ver w h hl
  have h0 := h.c0
  have HH := Lib.hid h
  obtain ⟨ea, ec, rfl, _⟩ := id hv
  have HV := Lib.hid hv
  clear hv
  generalize es.length = en at cN HV ⊢
  rcases newer_or l n ver with ⟨h1, h2⟩ | ⟨j, hj, h1, h3, ⟨h4, h2⟩ | ⟨h4, h2⟩⟩
  · have hR : changeL l n ver es = (l, 72) := by unfold changeL; rw [h1]
    rw [hR]
    rw [h2] at cN
    clear hR h1 h2 h
    go_enter Tryd.func21, Tryd.ntmps21
    go_wp2_with fail
    refine cN.mono ?_
    rintro e w1 ⟨rfl, hw⟩
    replace hw := hw.symm
    subst hw
    go_wp2_with fail
    go_ret
    exact ⟨rfl, Keep.refl _ _ _, v, HH.out⟩
  · have hR : changeL l n ver es = (l, 71) := by unfold changeL; rw [h1]; simp only; rw [if_pos h4]
    rw [hR]
    rw [h2] at cN
    clear hR h1 h2 h h3 h4
    go_enter Tryd.func21, Tryd.ntmps21
    go_wp2_with fail
    refine cN.mono ?_
    rintro e w1 ⟨rfl, hw⟩
    replace hw := hw.symm
    subst hw
    go_wp2_with fail
    go_ret
    exact ⟨rfl, Keep.refl _ _ _, v, HH.out⟩
  · rw [h2] at cN
    have hdj := hI.each l[j] (List.getElem_mem hj)
    have cA := refApply_any es l[j].t (.slice ea en ec) w (by omega) het hel HV.out
    obtain ⟨r, c, hrc⟩ : ∃ r c, applyL l[j].t es = (r, c) := ⟨_, _, rfl⟩
    rw [hrc] at cA
    obtain ⟨a, cap, rfl, hcap, hc⟩ := h.row
    obtain ⟨g, off, rfl, _, _, hat⟩ := hc.resolve_left (fun h => by rw [h] at hj; exact Nat.not_lt_zero _ hj)
    obtain ⟨_, _, p2⟩ := doc_at j hat hj
    have cP := fun W (hb : Below w.heap.size w W) => put_any B q j l _ ver r W (HH.out.later hb) hl hj (Nat.le_trans hB hb.size)
    have hR : (c ≠ 0 ∧ changeL l n ver es = (l, c)) ∨ (c = 0 ∧ changeL l n ver es = (l.set j ⟨l[j].n, ver, r⟩, 0)) := by
      unfold changeL
      rw [h1]
      simp only
      rw [if_neg h4, hrc]
      by_cases hc0 : c = 0
      · exact .inr ⟨hc0, by subst hc0; simp only [ne_eq, not_true_eq_false, if_false]; rw [putL_set hI hj h3]⟩
      · exact .inl ⟨hc0, by simp only [ne_eq]; rw [if_pos hc0]⟩
    obtain ⟨R, hRR⟩ : ∃ R, changeL l n ver es = R := ⟨_, rfl⟩
    rw [hRR] at hR ⊢
    have CP := Lib.hid cP
    have hjm : j < l.length := hj
    clear cP hRR h1 h2 h3 h4 hdj hrc hc hat h
    generalize l[j].t = x at cA p2
    obtain ⟨m, hm⟩ : ∃ m, l.length = m := ⟨_, rfl⟩
    rw [hm] at hjm hl h0
    have HM := Lib.hid hm
    clear hm hcap
    rcases hR with ⟨hc0, rfl⟩ | ⟨rfl, rfl⟩
    · have hcz : (c == 0) = false := by simpa using hc0
      clear hc0
      go_enter Tryd.func21, Tryd.ntmps21
      go_wp2_with fail
      refine cN.mono ?_
      rintro e w1 ⟨rfl, hw⟩
      replace hw := hw.symm
      subst hw
      go_wp2_with fail
      refine cA.mono ?_
      rintro e w2 ⟨rfl, hb2⟩
      go_wp2_with fail
      go_ret
      exact ⟨rfl, Keep.of hb2 (Nat.le_refl _), _, HH.out.later hb2⟩
    · go_enter Tryd.func21, Tryd.ntmps21
      go_wp2_with fail
      refine cN.mono ?_
      rintro e w1 ⟨rfl, hw⟩
      replace hw := hw.symm
      subst hw
      go_wp2_with fail
      refine cA.mono ?_
      rintro e w2 ⟨rfl, hb2⟩
      have HB2 := Lib.hid hb2
      clear hb2 cA cN
      go_wp2_with fail
      refine (CP.out w2 HB2.out).mono ?_
      rintro e w3 ⟨rfl, hk3, hs3⟩
      have HK := Lib.hid hk3
      have HS := Lib.hid hs3
      clear hk3 hs3
      go_wp2_with fail
      go_ret
      exact ⟨rfl, (Keep.of HB2.out (Nat.le_refl _)).trans (HK.out.weak HB2.out.size (fun _ _ h => h)), HS.out⟩
end Go.Proofs.YtccmicmlkgkheaaDoor.D
