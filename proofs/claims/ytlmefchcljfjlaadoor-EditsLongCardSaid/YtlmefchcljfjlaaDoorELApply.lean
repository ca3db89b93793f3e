/- The walk of the statement 'what edits make' of layer 6. -/
import Derived.Test.YtlmefchcljfjlaaDoorEFits
namespace Go.Proofs.YtlmefchcljfjlaaDoor.E
open Go.RowKit
open Go.Lib hiding intOf
open Go.Proofs.YtlmefchcljfjlaaDoor.U Go.Proofs.YtlmefchcljfjlaaDoor.L

theorem fits_true {s : ByteArray} {l : List EdP} (h : fitsB s l = true) : l.length ≤ 12 ∧ s.size + sumT l ≤ 300 := by unfold fitsB at h; simpa using h
theorem refApply_is (l : List EdP) (s r : ByteArray) (c : Int) (v : Value) (w : World) (hl : l.length ≤ 12) (hz : s.size + sumT l ≤ 300) (hv : EdsIn w l v) (h : applyL s l = (r, c)) :
    Calls Tryd.prog 11 #[.string s, v] w fun e w' => e = .returned (.tuple #[.string r, .int .i64 c]) ∧ Below w.heap.size w w' := by
  have := refApply_any l s v w (by omega) (fun i _ => by have := sumT_le l i; omega) (fun e he => by have := sumT_mem he; omega) (by omega) hv
  rw [h] at this
  exact this
theorem small_is (l : List EdP) (s r : ByteArray) (c : Int) (v : Value) (w : World) (hl : l.length ≤ 12) (hz : s.size + sumT l ≤ 300) (hv : EdsIn w l v) (hT : Tabs w) (h : applyL s l = (r, c)) :
    Calls Tryd.prog 10 #[.string s, v] w fun e w' => e = .returned (.tuple #[.string r, .int .i64 c]) ∧ Below w.heap.size w w' :=
  apply_is l s r c v w (by omega) (by omega) (fun e he => by have := sumT_mem he; omega) hv hT h

set_option maxHeartbeats 4000000 in
set_option maxRecDepth 100000 in
theorem lapply_walk (l : List EdP) (s : ByteArray) (v : Value) (w : World) (hs : s.size ≤ 281474976710656) (hl : l.length ≤ 281474976710656) (ht : ∀ e ∈ l, e.t.size ≤ 281474976710656) (hv : EdsIn w l v) (hT : Tabs w) :
    Calls Tryd.prog 3 #[.string s, v] w (True' w) := by
  have cF := fits_any l s v w hs hl ht hv
  have HT := Lib.hid hT
  have HV := Lib.hid hv
  obtain ⟨a0, c0, rfl, _⟩ := hv
  obtain ⟨n, hn⟩ : ∃ n, l.length = n := ⟨_, rfl⟩
  rw [hn] at cF HV ⊢
  cases hf : fitsB s l
  · rw [hf] at cF
    have cA := alive_any w HT.out
    clear hf hT ht hn
    go_enter Tryd.func3, Tryd.ntmps3
    go_wp2_with fail
    refine cF.mono ?_
    rintro e w1 ⟨rfl, rfl⟩
    go_wp2_with fail
    refine cA.mono ?_
    rintro e w2 ⟨rfl, hb2⟩
    go_wp2_with fail
    go_ret
    exact ⟨rfl, hb2⟩
  · rw [hf] at cF
    obtain ⟨h12, h300⟩ := fits_true hf
    obtain ⟨r, c, hrc⟩ : ∃ r c, applyL s l = (r, c) := ⟨_, _, rfl⟩
    have HRC := Lib.hid hrc
    have cA := small_is l s r c _ w h12 h300 HV.out HT.out hrc
    clear hf hT ht hrc hn
    go_enter Tryd.func3, Tryd.ntmps3
    go_wp2_with fail
    refine cF.mono ?_
    rintro e w1 ⟨rfl, rfl⟩
    go_wp2_with fail
    refine cA.mono ?_
    rintro e w2 ⟨rfl, hb2⟩
    have HB2 := Lib.hid hb2
    have cB := refApply_is l s r c _ w2 h12 h300 (HV.out.later hb2) HRC.out
    clear hb2 cA cF
    go_wp2_with fail
    refine cB.mono ?_
    rintro e w3 ⟨rfl, hb3⟩
    have HB3 := Lib.hid (next HB2.out hb3)
    have cC := alive_any w3 (tabs_later HT.out HB3.out)
    clear hb3 cB
    go_wp2_with fail
    refine cC.mono ?_
    rintro e w4 ⟨rfl, hb4⟩
    have HB4 := Lib.hid (next HB3.out hb4)
    clear hb4 cC
    go_wp2_with fail
    go_ret
    exact ⟨by first | rfl | simp, HB4.out⟩
end Go.Proofs.YtlmefchcljfjlaaDoor.E
