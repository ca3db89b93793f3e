/- The contracts of package split's declares and lines. -/
import Derived.Test.YtapjomdplibanaaDoorQRep
import Derived.Test.YtapjomdplibanaaDoorQLaw
import Derived.LoopNIn
import Derived.LoopIn
import Derived.TacticsInMore
namespace Go.Proofs.YtapjomdplibanaaDoor.Q
open Go.RowKit
open Go.Lib hiding intOf
open Go.Proofs.YtapjomdplibanaaDoor.U Go.Proofs.YtapjomdplibanaaDoor.S Go.Proofs.YtapjomdplibanaaDoor.L

set_option maxHeartbeats 4000000 in
set_option maxRecDepth 20000 in
theorem declares_any (s : ByteArray) (w : World) (hs : s.size ≤ 1099511627776) (hT : Tabs w) :
    Calls Tryd.prog 18 #[.string s] w fun e w' => e = .returned (.bool (declW s.toList)) ∧ Below w.heap.size w w' := by
  have cS := scan_any s w hs hT
  obtain ⟨h0, h1⟩ := declW_scan (okB s) s.toList
  obtain ⟨L, hL⟩ : ∃ L, scanB (okB s) s.toList = L := ⟨_, rfl⟩
  rw [hL] at cS h0 h1
  obtain ⟨R, hR⟩ : ∃ R, declW s.toList = R := ⟨_, rfl⟩
  rw [hR] at h0 h1 ⊢
  clear hL hR hs
  cases L with
  | nil =>
    obtain rfl := h0 rfl
    clear h0 h1
    go_enter Tryd.func18, Tryd.ntmps18
    go_wp2_with fail
    refine cS.mono ?_
    rintro e w1 ⟨v, rfl, hv, hb1⟩
    obtain ⟨a, cap, rfl, _, _⟩ := hv
    clear cS
    go_wp2_with fail
    go_ret
    exact ⟨rfl, hb1⟩
  | cons t u =>
    obtain ⟨h2, h3⟩ := h1 t u rfl
    have H2 := Lib.hid h2
    have H3 := Lib.hid h3
    clear h0 h1 h2 h3
    go_enter Tryd.func18, Tryd.ntmps18
    go_wp2_with fail
    refine cS.mono ?_
    rintro e w1 ⟨v, rfl, hv, hb1⟩
    obtain ⟨a, cap, rfl, _, hc⟩ := hv
    obtain ⟨g, off, rfl, _, _, hat⟩ := hc.resolve_left (by simp)
    obtain ⟨c0, c1, c2, c3⟩ := tok_at 0 hat (by simp)
    simp only [List.getElem_cons_zero, Nat.zero_mul, Nat.add_zero] at c0 c1 c2 c3
    obtain ⟨n, hn⟩ : ∃ n, (t :: u).length = n := ⟨_, rfl⟩
    have hn0 : 0 < n := by rw [← hn]; simp
    have hn1 : ¬ ((n : Int) = 0) := by omega
    rw [hn]
    obtain ⟨x, hx⟩ : ∃ x : ByteArray, (⟨t.t.toArray⟩ : ByteArray) = x := ⟨_, rfl⟩
    have HX : Hid (t.t = x.toList) := Lib.hid (by rw [← hx, ByteArray.toList_eq])
    rw [hx] at c1
    have HB := Lib.hid hb1
    clear cS hat hc hn hx hb1
    by_cases hf : 0 < t.f
    · obtain rfl := H2.out hf
      go_wp2_with fail
      go_ret
      exact ⟨rfl, HB.out⟩
    · have hR : Hid (R = kw x.toList) := Lib.hid (by rw [H3.out (by omega), HX.out])
      have hfd : decide (0 < t.f) = false := by simpa using hf
      clear hf
      go_wp2_with fail
      all_goals (go_ret; exact ⟨retB (by first | (exfalso; omega) | (exfalso; simp_all; done) | (rw [hR.out]; simp only [kw, *]; rfl) | (rw [hR.out]; simp [kw, *]; done) | (rw [hR.out]; simp_all [kw]; done)), HB.out⟩)
theorem lines_make (s : ByteArray) (w : World) : Calls Tryd.prog 17 #[.string s] w fun e w' => e = .returned (.func (.func 26) #[] #[.pointer (some ⟨w.heap.size, 0, none⟩)]) ∧ w' = w.alloc (.cells #[.string s] 9) := by
  go_enter Tryd.func17, Tryd.ntmps17
  go_wp2_with fail
  go_ret
  exact ⟨rfl, rfl⟩

/-! ### The lines of a text -/
structure LineAt (l : By) (p q : Nat) : Prop where
  pq : p ≤ q
  ql : q ≤ l.length
  ahead : p = 0 ∨ l[p - 1]? = some 10
  within : ∀ k, p ≤ k → k + 1 < q → l[k]? ≠ some 10
  behind : q = l.length ∨ (p < q ∧ l[q - 1]? = some 10)
/-- One line behind another: up to where have lines come? -/
def NextL (l : By) (o : Option Nat) (x : Nat × Nat) (o' : Option Nat) : Prop := LineAt l x.1 x.2 ∧ ((o = none ∧ x.1 = 0) ∨ (o = some x.1 ∧ 0 < x.1)) ∧ o' = some x.2
def encL (s : ByteArray) (x : Nat × Nat) : Array Value := #[.int .i64 x.1, .string (s.extract x.1 x.2)]
attribute [local go_sem] Oper.semAt_some
set_option maxHeartbeats 4000000 in
set_option maxRecDepth 20000 in
theorem lines_steps (s : ByteArray) (k : Nat) (w : World) (hk : w.heap[k]? = some (.cells #[.string s] 9 (0, 0))) (hs : s.size ≤ 1099511627776) :
    Steps Tryd.prog 26 #[.pointer (some ⟨k, 0, none⟩)] (encL s) k (NextL s.toList) none (fun o => o = some s.size) w := by
  intro l J W hW hY h0
  have hkw : k < w.heap.size := (Array.getElem?_eq_some_iff.1 hk).1
  have hk0 : W.heap[k]? = some (.cells #[.string s] 9 (0, 0)) := (hW.block k hkw).trans hk
  have HY := Lib.hid hY
  have HK0 := Lib.hid hk0
  clear hY hW hk hkw
  refine callsIn_of_wp Tryd.func26 rfl trivial ?_ rfl
  simp only [Tryd.ntmps26, List.size_toArray, List.length_cons, List.length_nil, Nat.reduceAdd, Nat.reduceSub, Array.replicate_succ, Array.replicate_zero, List.push_toArray, List.append_toArray, List.nil_append, List.cons_append]
  have hc0 : W.cell? ⟨k, 0, none⟩ = some (.string s) := by simp [World.cell?, hk0]
  clear hk0
  gi_wp2
  gi_loopw [3, 7] (fun fv iv wr => ∃ (f i : Nat) (o : Option Nat), fv = .int .i64 f ∧ iv = .int .i64 i ∧ f ≤ i ∧ i ≤ s.size ∧ Hid (J o wr) ∧ Hid ((o = none ∧ f = 0) ∨ (o = some f ∧ 0 < f)) ∧ Hid (f = 0 ∨ s.toList[f - 1]? = some 10) ∧ Hid (∀ j, f ≤ j → j < i → s.toList[j]? ≠ some 10) ∧ Hid (wr.heap[k]? = some (.cells #[.string s] 9 (0, 0)))) (fun _ iv _ => s.size - (intOf iv).toNat)
  case atStart => exact ⟨0, 0, none, rfl, rfl, Nat.le_refl _, Nat.zero_le _, Lib.hid h0, Lib.hid (.inl ⟨rfl, rfl⟩), Lib.hid (.inl rfl), Lib.hid (fun j _ h => absurd h (by omega)), HK0⟩
  case round =>
    obtain ⟨f, i, o, rfl, rfl, hfi, hi, HJ, HO, HA, HI, HK⟩ := hrel
    have hc : wr.cell? ⟨k, 0, none⟩ = some (.string s) := by simp [World.cell?, HK.out]
    clear hc0
    by_cases hlt : i < s.size
    · have hget := tl_get s hlt
      have e0 : IntKind.i64.wrap ((i : Int) + 1) = (i : Int) + 1 := IntWalk.i64_in _ (by omega)
      obtain ⟨z, hz⟩ : ∃ z, s[i] = z := ⟨_, rfl⟩
      rw [hz] at hget
      have HG := Lib.hid hget
      clear hget
      by_cases h10 : z.toNat = 10
      · obtain rfl : z = 10 := UInt8.toNat_inj.1 h10
        have HL : Hid (LineAt s.toList f (i + 1)) := Lib.hid ⟨by omega, by rw [tl_len]; omega, HA.out, fun j h1 h2 => HI.out j h1 (by omega), .inr ⟨by omega, HG.out⟩⟩
        obtain ⟨fn, tmps, assign, body, hy, hR⟩ := HY.out o (f, i + 1) (some (i + 1)) wr ⟨HL.out, HO.out, rfl⟩ HJ.out
        dsimp only [encL] at hy
        have hin0 : (0 : Int) ≤ (f : Int) := by omega
        have hin1 : (f : Int) ≤ (i : Int) + 1 := by omega
        have hin2 : (i : Int) + 1 ≤ (s.size : Int) := by omega
        have hin3 : f ≤ i + 1 := by omega
        have hin4 : i + 1 ≤ s.size := by omega
        gi_wp2
        refine hR.mono ?_
        rintro e W3 ⟨rfl, hJ3, hk3⟩
        have HJ3 := Lib.hid hJ3
        have HK3 : Hid (W3.heap[k]? = some (.cells #[.string s] 9 (0, 0))) := Lib.hid (hk3.trans HK.out)
        clear hJ3 hk3
        gi_wp2
        go_roundw
        case rel => exact ⟨i + 1, i + 1, some (i + 1), by go_num, by go_num, Nat.le_refl _, by omega, HJ3, Lib.hid (.inr ⟨rfl, by omega⟩), Lib.hid (.inr HG.out), Lib.hid (fun j _ _ => by omega), HK3⟩
        case measure => simp [intOf]; omega
      · have HI2 : Hid (∀ j, f ≤ j → j < i + 1 → s.toList[j]? ≠ some 10) := Lib.hid (fun j h1 h2 => by
          by_cases hj : j < i
          · exact HI.out j h1 hj
          · obtain rfl : j = i := by omega
            rw [HG.out]
            intro e
            apply h10
            rw [Option.some.inj e]; rfl)
        gi_wp2
        go_roundw
        case rel => exact ⟨f, i + 1, o, rfl, by go_num, by omega, by omega, HJ, HO, HA, HI2, HK⟩
        case measure => simp [intOf]; omega
    · obtain rfl : i = s.size := by omega
      have HL : Hid (LineAt s.toList f s.size) := Lib.hid ⟨by omega, by rw [tl_len]; exact Nat.le_refl _, HA.out, fun j h1 h2 => HI.out j h1 (by omega), .inl (tl_len s).symm⟩
      obtain ⟨fn, tmps, assign, body, hy, hR⟩ := HY.out o (f, s.size) (some s.size) wr ⟨HL.out, HO.out, rfl⟩ HJ.out
      dsimp only [encL] at hy
      gi_wp2
      refine hR.mono ?_
      rintro e W3 ⟨rfl, hJ3, hk3⟩
      gi_wp2
      go_end0
      exact ⟨⟨_, rfl⟩, _, rfl, hJ3⟩
end Go.Proofs.YtapjomdplibanaaDoor.Q
