/- The contracts of write at every right value, and of Write. -/
import Derived.Test.YtfjdeacpdcnjpaaGreatDoorVWriteR
namespace Go.Proofs.YtfjdeacpdcnjpaaGreatDoor.V
open Go.RowKit
open Go.Lib

theorem fb_true : Lib.formatBool true = [116, 114, 117, 101] := by decide +kernel
theorem fb_false : Lib.formatBool false = [102, 97, 108, 115, 101] := by decide +kernel

set_option maxHeartbeats 4000000 in
theorem write_v : ∀ v, WriteC v := Val.ind fun so on n t l ks IH lv kv R B b acc w hv hR hE hB hlen hw hri => by
  have hv' := hv
  obtain ⟨⟨a1, c1, rfl, hl⟩, hk⟩ := hv'
  have hk' := hk
  obtain ⟨a2, c2, rfl, _⟩ := hk'
  have hBw := hE.size
  simp only [wt] at hw
  have hri2 := hri
  simp only [rightP, Bool.and_eq_true] at hri2
  replace hri2 := hri2.2
  have hF0 := (Far.refl B b w).alloc hBw (Obj.cells #[Value.int IntKind.i64 so, Value.bool on, Value.int IntKind.i64 n, Value.string { data := t.toArray }, Value.slice a1 l.length c1, Value.slice a2 ks.length c2] 34)
  have hB0 := bld_later hB ((Below.refl _ _).alloc (Nat.le_refl _) (Obj.cells #[Value.int IntKind.i64 so, Value.bool on, Value.int IntKind.i64 n, Value.string { data := t.toArray }, Value.slice a1 l.length c1, Value.slice a2 ks.length c2] 34))
  have hE0 := hE.later hF0.below
  have hz0 := hF0.size
  have hsm : Same R w (w.alloc (Obj.cells #[Value.int IntKind.i64 so, Value.bool on, Value.int IntKind.i64 n, Value.string { data := t.toArray }, Value.slice a1 l.length c1, Value.slice a2 ks.length c2] 34)) := fun g hg _ => hF0.below.block g (hR g hg)
  have key : ∀ W, Same R w W → l = [] ∨ ∃ g off xs, a1 = some ⟨g, off, none⟩ ∧ R g ∧ CellsAt W g off xs ∧ ListIn W R l xs := fun W hs => by
    rcases hl with h | ⟨g, off, xs, h1, h2, h3, h4⟩
    · exact .inl h
    · exact .inr ⟨g, off, xs, h1, h2, h3.later h2 hs, ListIn.later hs (fun _ h => h) _ _ h4⟩
  have hlA := key _ hsm
  clear key
  have hkA := hk.later hsm (fun _ h => h)
  simp only [arg, six', six, strCell]
  by_cases h0 : so = 0
  · subst h0
    have hwr : write (.mk 0 on n t l ks) = [110, 117, 108, 108] := by simp [write]
    rw [hwr] at hlen ⊢
    have cO := bld_string B b acc [110, 117, 108, 108] _ hB0 hlen (by omega)
    have HF0 := Lib.hid hF0
    clear hv hl hk hlA hkA hE0 hB0 hsm hF0 IH hri hri2 hwr
    go_enter Tryz.func17, Tryz.ntmps17
    go_wp2_with fail
    refine cO.mono ?_
    rintro e w2 ⟨⟨ln, rfl⟩, hB2, hb2⟩
    have HB2 := Lib.hid hB2
    have HW2 := Lib.hid (HF0.out.trans hb2)
    clear cO hB2 hb2
    go_wp2_with fail
    refine bodyPost_end (results_none rfl _ _ _) rfl ?_
    exact ⟨rfl, HB2.out, HW2.out⟩
  by_cases h1 : so = 1
  · subst h1
    have hwr : write (.mk 1 on n t l ks) = Lib.formatBool on := by
      cases on
      · rw [fb_false]; simp [write]
      · rw [fb_true]; simp [write]
    rw [hwr] at hlen ⊢
    have cB := Tryz.strconv_FormatBool on
    have cO := bld_string B b acc (Lib.formatBool on) _ hB0 hlen (by omega)
    generalize Lib.formatBool on = tx at cB cO ⊢
    have HF0 := Lib.hid hF0
    clear hv hl hk hlA hkA hE0 hB0 hsm hF0 IH hri hri2 hwr hlen
    go_enter Tryz.func17, Tryz.ntmps17
    go_wp2_with fail
    refine (cB _).mono ?_
    rintro e w1 ⟨rfl, rfl⟩
    go_wp2_with fail
    refine cO.mono ?_
    rintro e w2 ⟨⟨ln, rfl⟩, hB2, hb2⟩
    have HB2 := Lib.hid hB2
    have HW2 := Lib.hid (HF0.out.trans hb2)
    clear cO hB2 hb2
    go_wp2_with fail
    refine bodyPost_end (results_none rfl _ _ _) rfl ?_
    exact ⟨rfl, HB2.out, HW2.out⟩
  by_cases h2 : so = 2
  · subst h2
    have hn : -9007199254740992 ≤ n ∧ n ≤ 9007199254740992 := by simpa [inP] using hri2
    have hwr : write (.mk 2 on n t l ks) = Lib.itoa n := by simp [write]
    rw [hwr] at hlen ⊢
    have cI : ∀ W, Env B W → Calls Tryz.prog 33 #[.int .i64 n] W fun e w' => e = .returned (.string ⟨(Lib.itoa n).toArray⟩) ∧ Below W.heap.size W w' := fun W hW =>
        (Tryz.strconv_Itoa n (by omega) (by omega) W hW.now.pow).mono fun e w' ⟨he, k, os, hw⟩ => ⟨he, by rw [hw]; exact Lib.below_grow _ _ (Nat.le_refl _) _ _⟩
    replace cI := cI _ hE0
    generalize Lib.itoa n = tx at cI hlen ⊢
    have HF0 := Lib.hid hF0
    clear hv hl hk hlA hkA hE0 hsm hF0 IH hri hri2 hwr
    go_enter Tryz.func17, Tryz.ntmps17
    go_wp2_with fail
    refine cI.mono ?_
    rintro e w1 ⟨rfl, hb1⟩
    have hB1 := bld_later hB0 hb1
    have hF1 := HF0.out.trans (Far.of_below (by omega) hb1)
    have cO := bld_string B b acc tx w1 hB1 hlen (by have := hF1.size; omega)
    clear cI hB0 hb1 hB1
    go_wp2_with fail
    refine cO.mono ?_
    rintro e w2 ⟨⟨ln, rfl⟩, hB2, hb2⟩
    have HB2 := Lib.hid hB2
    have HW2 := Lib.hid (hF1.trans hb2)
    clear cO hB2 hb2 hF1
    go_wp2_with fail
    refine bodyPost_end (results_none rfl _ _ _) rfl ?_
    exact ⟨rfl, HB2.out, HW2.out⟩
  have q0 : (so == 0) = false := by simpa using h0
  by_cases h3 : so = 3
  · subst h3
    have hwr : write (.mk 3 on n t l ks) = quoteT t := by simp [write]
    rw [hwr] at hlen ⊢
    have cO := text_l B b acc t _ hB0 hlen (by omega) (by omega)
    have HF0 := Lib.hid hF0
    clear hv hl hk hlA hkA hE0 hB0 hsm hF0 IH hri hri2 hwr
    go_enter Tryz.func17, Tryz.ntmps17
    go_wp2_with fail
    refine cO.mono ?_
    rintro e w2 ⟨rfl, hB2, hb2⟩
    have HB2 := Lib.hid hB2
    have HW2 := Lib.hid (HF0.out.trans hb2)
    clear cO hB2 hb2
    go_wp2_with fail
    refine bodyPost_end (results_none rfl _ _ _) rfl ?_
    exact ⟨rfl, HB2.out, HW2.out⟩
  by_cases h4 : so = 4
  · subst h4
    have hwr : write (.mk 4 on n t l ks) = 91 :: (writeL l ++ [93]) := by simp [write]
    rw [hwr] at hlen ⊢
    have cO := list_write l IH a1 c1 R B b acc _ hlA hR hE0 hB0 hlen (by omega) hri2
    have HF0 := Lib.hid hF0
    clear hv hl hk hlA hkA hE0 hB0 hsm hF0 IH hri hri2 hwr
    go_enter Tryz.func17, Tryz.ntmps17
    go_wp2_with fail
    refine cO.mono ?_
    rintro e w2 ⟨rfl, hB2, hb2⟩
    have HB2 := Lib.hid hB2
    have HW2 := Lib.hid (HF0.out.trans hb2)
    clear cO hB2 hb2
    go_wp2_with fail
    refine bodyPost_end (results_none rfl _ _ _) rfl ?_
    exact ⟨rfl, HB2.out, HW2.out⟩
  by_cases h5 : so = 5
  · subst h5
    have hwr : write (.mk 5 on n t l ks) = 123 :: (writeR ks l ++ [125]) := by simp [write]
    rw [hwr] at hlen ⊢
    have hri3 : (ks.length = l.length ∧ keysP ks [] = true) ∧ rightPs l = true := by simpa using hri2
    have cO := record_write l ks _ IH a1 c1 R B b acc _ hlA hkA hR hE0 hB0 hlen (by omega) (by omega) hri3.2 hri3.1.1
    have HF0 := Lib.hid hF0
    clear hv hl hk hlA hkA hE0 hB0 hsm hF0 IH hri hri2 hwr hri3
    go_enter Tryz.func17, Tryz.ntmps17
    go_wp2_with fail
    refine cO.mono ?_
    rintro e w2 ⟨rfl, hB2, hb2⟩
    have HB2 := Lib.hid hB2
    have HW2 := Lib.hid (HF0.out.trans hb2)
    clear cO hB2 hb2
    go_wp2_with fail
    refine bodyPost_end (results_none rfl _ _ _) rfl ?_
    exact ⟨rfl, HB2.out, HW2.out⟩
  simp [h0, h1, h2, h3, h4, h5] at hri2
end Go.Proofs.YtfjdeacpdcnjpaaGreatDoor.V
