/- Contracts of package scan's span, quoteLength. -/
import Derived.Test.YtapjomdplibanaaDoorPSmall
namespace Go.Proofs.YtapjomdplibanaaDoor.S
open Go.RowKit
open Go.Lib hiding intOf
open Go.Proofs.YtapjomdplibanaaDoor.U Go.Proofs.YtapjomdplibanaaDoor.L

set_option maxHeartbeats 1000000 in
set_option maxRecDepth 20000 in
theorem span_any {P : Nat → Bool} {q : UInt8 → Bool} (hS : SortP P q) (k : Nat) (s : ByteArray) (w : World) (hs : s.size ≤ 1099511627776)
    (c : ∀ (r : Nat) (X : World), Calls Tryd.prog k #[.int .i32 r] X fun e w' => e = .returned (.bool (P r)) ∧ X = w')
    (he : ∀ args X, (callFunc k args).run Tryd.prog X = .ok (.enter k args) X) :
    Calls Tryd.prog 41 #[.string s, .func (.func k) #[] #[]] w fun e w' => e = .returned (.int .i64 (whileAt q s 0 : Nat)) ∧ Below w.heap.size w w' := by
  obtain ⟨R, hR⟩ : ∃ R, whileAt q s 0 = R := ⟨_, rfl⟩
  have HR := Lib.hid hR
  have HC := Lib.hid c
  rw [hR]
  clear hR c
  go_enter Tryd.func41, Tryd.ntmps41
  go_wp2_with fail
  go_loopw [] (fun w' => ∃ pos : Nat, w' = w.iter s pos ∧ Hid (whileAt q s pos = R) ∧ pos ≤ s.size) (fun w' => s.size - w'.iterPos w.heap.size)
  case atStart => exact ⟨0, rfl, HR, by omega⟩
  case round =>
    obtain ⟨pos, rfl, HO, hp⟩ := hrel
    by_cases hlt : pos < s.size
    · have hnx : ∀ ty, (Instr.next (.pointer (some ⟨w.heap.size, 0, none⟩)) true ty).run Tryd.prog (w.iter s pos) = _ := fun ty => run_next_any w s pos ty hlt
      have hw1 := width_pos s pos hlt
      have hw2 := width_le s pos hlt
      have H1 := Lib.hid (fun h => span_on hS (s := s) hlt h)
      have H2 := Lib.hid (fun h => span_off hS (s := s) hlt h)
      have c1 := HC.out (Utf8.decode s pos).1 (w.iter s (pos + (Utf8.decode s pos).2))
      cases hb : P (Utf8.decode s pos).1
      · have HE := Lib.hid (H2.out hb)
        rw [hb] at c1
        clear hb H1 H2
        go_wp2_with fail
        refine c1.mono ?_
        rintro e w2 ⟨rfl, rfl⟩
        clear c1
        go_wp2_with fail
        go_ret
        exact ⟨by rw [← HO.out, HE.out]; rfl, (Below.refl _ _).alloc (Nat.le_refl _) _⟩
      · have HN := Lib.hid ((H1.out hb).trans HO.out)
        rw [hb] at c1
        clear hb H1 H2
        go_wp2_with fail
        refine c1.mono ?_
        rintro e w2 ⟨rfl, rfl⟩
        clear c1
        go_wp2_with fail
        go_roundw
        case rel => exact ⟨pos + (Utf8.decode s pos).2, rfl, HN, by omega⟩
        case measure => simp; omega
    · have hnx : ∀ ty, (Instr.next (.pointer (some ⟨w.heap.size, 0, none⟩)) true ty).run Tryd.prog (w.iter s pos) = _ := fun ty => run_next_end w s pos ty hlt
      have HE := Lib.hid (whileAt_end q (s := s) (i := pos) (by omega))
      obtain rfl : pos = s.size := by omega
      go_wp2_with fail
      go_ret
      exact ⟨by rw [← HO.out, HE.out]; rfl, (Below.refl _ _).alloc (Nat.le_refl _) _⟩
theorem spanQuo (s : ByteArray) (w : World) (hs : s.size ≤ 1099511627776) : Calls Tryd.prog 41 #[.string s, .func (.func 55) #[] #[]] w fun e w' => e = .returned (.int .i64 (whileAt inQuo s 0 : Nat)) ∧ Below w.heap.size w w' :=
  span_any sortQuo _ s w hs (fun r X => inQuo_any r X) (fun _ _ => by kernel_rfl)
theorem spanLine (s : ByteArray) (w : World) (hs : s.size ≤ 1099511627776) : Calls Tryd.prog 41 #[.string s, .func (.func 42) #[] #[]] w fun e w' => e = .returned (.int .i64 (whileAt not10 s 0 : Nat)) ∧ Below w.heap.size w w' :=
  span_any sortLine _ s w hs (fun r X => line_any r X) (fun _ _ => by kernel_rfl)
theorem spanName (s : ByteArray) (w : World) (hs : s.size ≤ 1099511627776) : Calls Tryd.prog 41 #[.string s, .func (.func 44) #[] #[]] w fun e w' => e = .returned (.int .i64 (whileAt nmc s 0 : Nat)) ∧ Below w.heap.size w w' :=
  span_any sortName _ s w hs (fun r X => inName_any r X) (fun _ _ => by kernel_rfl)
theorem spanFig (s : ByteArray) (w : World) (hs : s.size ≤ 1099511627776) : Calls Tryd.prog 41 #[.string s, .func (.func 46) #[] #[]] w fun e w' => e = .returned (.int .i64 (whileAt figu s 0 : Nat)) ∧ Below w.heap.size w w' :=
  span_any sortFig _ s w hs (fun r X => fig_any r X) (fun _ _ => by kernel_rfl)
set_option maxHeartbeats 1000000 in
set_option maxRecDepth 20000 in
theorem pquote_any (s : ByteArray) (w : World) (hs : s.size ≤ 1099511627776) (h0 : 0 < s.size) (hc : s[0] = 34) : Calls Tryd.prog 47 #[.string s] w fun e w' => e = .returned (.int .i64 (quoLen s.toList : Nat)) ∧ Below w.heap.size w w' := by
  have c1 := spanQuo (s.extract 1 s.size) w (by rw [size_extract s 1 s.size (by omega) (Nat.le_refl _)]; omega)
  obtain ⟨k, hk⟩ : ∃ k, whileAt inQuo (s.extract 1 s.size) 0 = k := ⟨_, rfl⟩
  rw [hk] at c1
  obtain ⟨R, hR⟩ : ∃ R, quoLen s.toList = R := ⟨_, rfl⟩
  rcases quo_ends h0 hc hk with ⟨h1, h2⟩ | ⟨h1, h2⟩
  · rw [hR] at h2 ⊢
    subst h2
    have hb : ((1 + (k : Int)) == (s.size : Int)) = true := by simp; omega
    clear hk hR hc
    go_enter Tryd.func47, Tryd.ntmps47
    go_wp2_with fail
    refine c1.mono ?_
    rintro e w2 ⟨rfl, hb2⟩
    clear c1
    go_wp2_with fail
    go_ret
    exact ⟨rfl, hb2⟩
  · have hb : ((1 + (k : Int)) == (s.size : Int)) = false := by simp; omega
    rcases h2 with ⟨h2, h3⟩ | ⟨h2, h3⟩
    · rw [h3] at hR
      subst hR
      obtain ⟨z, hz⟩ : ∃ z, s[1 + k] = z := ⟨_, rfl⟩
      have e34 : ((z.toNat : Int) == 34) = true := by rw [← hz, h2]; rfl
      rw [h3]
      clear hk hc h2 h3
      go_enter Tryd.func47, Tryd.ntmps47
      go_wp2_with fail
      refine c1.mono ?_
      rintro e w2 ⟨rfl, hb2⟩
      clear c1
      go_wp2_with fail
      go_ret
      exact ⟨by go_num, hb2⟩
    · rw [hR] at h3
      subst h3
      obtain ⟨z, hz⟩ : ∃ z, s[1 + k] = z := ⟨_, rfl⟩
      have e34 : ((z.toNat : Int) == 34) = false := by
        have h := u8_eq z 34
        rw [decide_eq_false (by rw [← hz]; exact h2)] at h
        exact h
      rw [hR]
      clear hk hc h2 hR
      go_enter Tryd.func47, Tryd.ntmps47
      go_wp2_with fail
      refine c1.mono ?_
      rintro e w2 ⟨rfl, hb2⟩
      clear c1
      go_wp2_with fail
      go_ret
      exact ⟨rfl, hb2⟩
end Go.Proofs.YtapjomdplibanaaDoor.S
