/- The contract of law 09's Same at lists that hold the same pieces. -/
import Derived.Test.YtapjomdplibanaaDoorQOf3
import Derived.Deep.QuietTactic
import Derived.BigQuiet
import Derived.BigRegion
namespace Go.Proofs.YtapjomdplibanaaDoor.Q
open Go.RowKit
open Go.Lib hiding intOf
open Go.Proofs.YtapjomdplibanaaDoor.U Go.Proofs.YtapjomdplibanaaDoor.S Go.Proofs.YtapjomdplibanaaDoor.L

set_option maxHeartbeats 8000000 in
set_option maxRecDepth 20000 in
theorem same_any (B B' : Nat) (l : List PcP) (v v' : Value) (w : World) (h : PcsIn B w l v) (h' : PcsIn B' w l v') (hl : l.length ≤ 1000000) :
    Calls Tryd.prog 12 #[v, v'] w fun e w' => e = .returned (.bool true) ∧ Below w.heap.size w w' := by
  obtain ⟨a, cap, rfl, _, hc⟩ := h
  obtain ⟨a', cap', rfl, _, hc'⟩ := h'
  have HC := Lib.hid hc
  have HC' := Lib.hid hc'
  obtain ⟨n, hn⟩ : ∃ n, l.length = n := ⟨_, rfl⟩
  have HN := Lib.hid hn
  rw [hn] at hl ⊢
  clear hc hc' hn
  go_enter Tryd.func12, Tryd.ntmps12
  go_wp2_with fail
  go_loopw [5] (fun iv wr => ∃ i : Nat, iv = .int .i64 i ∧ i ≤ n ∧ Hid (Below w.heap.size w wr)) (fun iv _ => n - (intOf iv).toNat)
  case atStart => exact ⟨0, rfl, Nat.zero_le _, Lib.hid (Below.refl _ _)⟩
  case round =>
    obtain ⟨i, rfl, hi, HL⟩ := hrel
    by_cases hlt : i < n
    · have hil : i < l.length := by rw [HN.out]; exact hlt
      obtain ⟨g, off, rfl, _, hg, hat⟩ := HC.out.resolve_left (fun h => by rw [h] at hil; exact Nat.not_lt_zero _ hil)
      obtain ⟨g', off', rfl, _, hg', hat'⟩ := HC'.out.resolve_left (fun h => by rw [h] at hil; exact Nat.not_lt_zero _ hil)
      obtain ⟨p0, p1, p2, p3⟩ := pc_at i (fun j u hj => (HL.out.cell (p := ⟨g, off + j, none⟩) hg).trans (hat j u hj)) hil
      obtain ⟨r0, r1, r2, r3⟩ := pc_at i (fun j u hj => (HL.out.cell (p := ⟨g', off' + j, none⟩) hg').trans (hat' j u hj)) hil
      generalize l[i] = p at p0 p1 p2 p3 r0 r1 r2 r3
      obtain ⟨f, e, pd, pj⟩ := p
      dsimp only at p0 p1 p2 p3 r0 r1 r2 r3
      clear hat hat'
      go_upto_region 6 with fail
      go_quiet (fail)
      go_wp2_with fail
      go_roundw
      case rel => exact ⟨i + 1, by go_num, by omega, Lib.hid (drewB HL.out _)⟩
      case measure => simp [intOf]; omega
    · obtain rfl : i = n := by omega
      go_wp2_with fail
      go_ret
      exact ⟨rfl, HL.out⟩
end Go.Proofs.YtapjomdplibanaaDoor.Q
