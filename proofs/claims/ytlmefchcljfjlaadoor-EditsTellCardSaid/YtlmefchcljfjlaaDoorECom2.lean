/- The contract of common: the longest right beginning that two right texts have both, and the longest right ending of what is left then. -/
import Derived.Test.YtlmefchcljfjlaaDoorECommon
import Derived.Deep.RegionHeld3
import Derived.Deep.RegionWith
import Derived.BigRegion
namespace Go.Proofs.YtlmefchcljfjlaaDoor.E
open Go.RowKit
open Go.Lib hiding intOf
open Go.Proofs.YtlmefchcljfjlaaDoor.U Go.Proofs.YtlmefchcljfjlaaDoor.L

theorem two_new (w : World) (o1 o2 : Obj) : ((w.alloc o1).alloc o2).heap[w.heap.size]? = some o1 ∧ ((w.alloc o1).alloc o2).heap[w.heap.size + 1]? = some o2 ∧ Below w.heap.size w ((w.alloc o1).alloc o2) := by
  have s1 : (w.alloc o1).heap.size = w.heap.size + 1 := by simp
  refine ⟨?_, ?_, ((Below.refl _ _).alloc (Nat.le_refl _) _).alloc (by omega) _⟩
  · rw [Below.heap_alloc _ _ _ (by omega)]; exact heap_alloc_new w o1
  · rw [← s1]; exact heap_alloc_new _ o2
theorem one_cell {w : World} {q : Nat} {x : Value} {t : TypeId} (h : w.heap[q]? = some (.cells #[x] t (0, 0))) : w.cell? ⟨q, 0, none⟩ = some x := by
  unfold World.cell?; rw [h]; rfl
/-- How common ends. -/
def ComPost (a b : ByteArray) (w : World) (e : Ending) (w' : World) : Prop :=
  ∃ n k : Nat, Betw a b n k ∧ e = .returned (.tuple #[.int .i64 n, .int .i64 k]) ∧ Below w.heap.size w w'

set_option maxHeartbeats 4000000 in
set_option maxRecDepth 100000 in
theorem common_any (a b : ByteArray) (w : World) (ha : a.size ≤ 1099511627776) (hb : b.size ≤ 1099511627776) (hok : okB a = true) (hT : Tabs w) :
    Calls Tryd.prog 21 #[.string a, .string b] w (ComPost a b w) := by
  have hmf : ∀ (fn : Fn) (first cap : Array Value) (w : World), (Instr.makeFunc fn first cap).run Tryd.prog w = .ok (.func fn first cap) w := fun _ _ _ _ => rfl
  obtain ⟨t1, t2, tb⟩ := two_new w (.cells #[.string a] 9) (.cells #[.string b] 9)
  obtain ⟨W, hW⟩ : ∃ W, (w.alloc (.cells #[.string a] 9)).alloc (.cells #[.string b] 9) = W := ⟨_, rfl⟩
  rw [hW] at t1 t2 tb
  have hzA := (Array.getElem?_eq_some_iff.1 t1).1
  have hzB := (Array.getElem?_eq_some_iff.1 t2).1
  obtain ⟨B, hB⟩ : ∃ B, w.heap.size + 1 = B := ⟨_, rfl⟩
  rw [hB] at t2 hzB
  obtain ⟨M, hM⟩ : ∃ M, min a.size b.size = M := ⟨_, rfl⟩
  obtain ⟨c, hc⟩ : ∃ c, fwdN a b M = c := ⟨_, rfl⟩
  have hcM : c ≤ M := by rw [← hc]; exact fwdN_le a b M
  obtain ⟨T, hTe⟩ : ∃ T, cutB a (c : Int) = T := ⟨_, rfl⟩
  have hbeg : Beg a b T.size := by rw [← hTe, ← hc, ← hM]; exact beg_cut hok
  obtain ⟨n, hn⟩ : ∃ n, T.size = n := ⟨_, rfl⟩
  rw [hn] at hbeg
  obtain ⟨top, htop⟩ : ∃ top, bwdN a b (M - n) = top := ⟨_, rfl⟩
  have htopM : top ≤ M - n := by rw [← htop]; exact bwdN_le a b (M - n)
  have hnM : n ≤ M := by have := hbeg.la; have := hbeg.lb; omega
  have hMa : M ≤ a.size := by omega
  have hMb : M ≤ b.size := by omega
  have HFIN : Hid (∀ e, NoFin a top e → e ≤ top → okB (tl a (a.size - e)) = true → Betw a b n e) := Lib.hid fun e h1 h2 h3 => ⟨hbeg, fin_at hbeg.la hbeg.lb (by rw [hM, htop]; exact h1) (by rw [hM, htop]; exact h2) h3⟩
  have HT := Lib.hid (tabs_later hT tb)
  have HMI : Hid (min (a.size : Int) (b.size : Int) = (M : Int)) := Lib.hid (by omega)
  have HTB := Lib.hid tb
  have hS0 : (W.cell? ⟨w.heap.size, 0, none⟩ = some (.string a) ∧ W.cell? ⟨B, 0, none⟩ = some (.string b) ∧ Below W.heap.size W W) := ⟨one_cell t1, one_cell t2, Below.refl _ _⟩
  have hSl : ∀ X X', (X.cell? ⟨w.heap.size, 0, none⟩ = some (.string a) ∧ X.cell? ⟨B, 0, none⟩ = some (.string b) ∧ Below W.heap.size W X) → Below X.heap.size X X' → (X'.cell? ⟨w.heap.size, 0, none⟩ = some (.string a) ∧ X'.cell? ⟨B, 0, none⟩ = some (.string b) ∧ Below W.heap.size W X') := fun X X' h hb => ⟨(hb.cell (p := ⟨w.heap.size, 0, none⟩) (by have := h.2.2.size; simp only; omega)).trans h.1, (hb.cell (p := ⟨B, 0, none⟩) (by have := h.2.2.size; simp only; omega)).trans h.2.1, next h.2.2 hb⟩
  have CF : ∀ X, (X.cell? ⟨w.heap.size, 0, none⟩ = some (.string a) ∧ X.cell? ⟨B, 0, none⟩ = some (.string b) ∧ Below W.heap.size W X) → Calls Tryd.prog 30 #[.int .i64 M, .func (.func 31) #[] #[], .pointer (some ⟨w.heap.size, 0, none⟩), .pointer (some ⟨B, 0, none⟩)] X fun e w' => e = .returned (.int .i64 c) ∧ (w'.cell? ⟨w.heap.size, 0, none⟩ = some (.string a) ∧ w'.cell? ⟨B, 0, none⟩ = some (.string b) ∧ Below W.heap.size W w') := fun X h => by
    refine (count_f w.heap.size B M a b X h.1 h.2.1 ha hb hMa hMb).mono ?_
    rintro e w' ⟨rfl, k, rfl⟩
    exact ⟨by rw [hc], hSl X _ h (L.below_drewN X k)⟩
  have CB : ∀ X, (X.cell? ⟨w.heap.size, 0, none⟩ = some (.string a) ∧ X.cell? ⟨B, 0, none⟩ = some (.string b) ∧ Below W.heap.size W X) → Calls Tryd.prog 30 #[.int .i64 ((M : Int) - n), .func (.func 32) #[] #[], .pointer (some ⟨w.heap.size, 0, none⟩), .pointer (some ⟨B, 0, none⟩)] X fun e w' => e = .returned (.int .i64 top) ∧ (w'.cell? ⟨w.heap.size, 0, none⟩ = some (.string a) ∧ w'.cell? ⟨B, 0, none⟩ = some (.string b) ∧ Below W.heap.size W w') := fun X h => by
    have := count_b w.heap.size B (M - n) a b X h.1 h.2.1 ha hb (by omega) (by omega)
    rw [show ((M - n : Nat) : Int) = (M : Int) - n by omega] at this
    refine this.mono ?_
    rintro e w' ⟨rfl, k, rfl⟩
    exact ⟨by rw [htop], hSl X _ h (L.below_drewN X k)⟩
  have CU : ∀ X, (X.cell? ⟨w.heap.size, 0, none⟩ = some (.string a) ∧ X.cell? ⟨B, 0, none⟩ = some (.string b) ∧ Below W.heap.size W X) → Calls Tryd.prog 33 #[.string a, .int .i64 c] X fun e w' => e = .returned (.string T) ∧ (w'.cell? ⟨w.heap.size, 0, none⟩ = some (.string a) ∧ w'.cell? ⟨B, 0, none⟩ = some (.string b) ∧ Below W.heap.size W w') := fun X h => by
    refine (cut_any a c X ha (tabs_later HT.out h.2.2)).mono ?_
    rintro e w' ⟨rfl, hb⟩
    exact ⟨by rw [hTe], hSl X _ h hb⟩
  have HCF := Lib.hid CF
  have HCB := Lib.hid CB
  have HCU := Lib.hid CU
  have HSL := Lib.hid hSl
  have HS0 := Lib.hid hS0
  obtain ⟨p0, p1, _⟩ := hS0
  clear CF CB CU hSl hT tb t1 t2 hM hc hTe hbeg htop hzA hzB hok
  go_enter Tryd.func21, Tryd.ntmps21
  go_upto_region 5 with fail
  rw [HMI.out]
  have HM := Lib.hid hMa
  have hS0 : (W.drew.cell? ⟨w.heap.size, 0, none⟩ = some (.string a) ∧ W.drew.cell? ⟨B, 0, none⟩ = some (.string b) ∧ Below W.heap.size W W.drew) := ⟨HS0.out.1, HS0.out.2.1, (Below.refl _ _).drew⟩
  have CF2 := HCF.out
  have CU2 := HCU.out
  go_region_held3 (fun X => (X.cell? ⟨w.heap.size, 0, none⟩ = some (.string a) ∧ X.cell? ⟨B, 0, none⟩ = some (.string b) ∧ Below W.heap.size W X)) (with_reducible (repeat (first | assumption))) (first
        | (go_at_call 30; (with_reducible refine (CF2 _ ?_).mono ?_); assumption; rintro e w3 ⟨rfl, hS3⟩)
        | (go_at_call 33; (with_reducible refine (CU2 _ ?_).mono ?_); assumption; rintro e w4 ⟨rfl, hS4⟩))
  clear CF2 CU2 hS0 hS3 p0 p1 hmf
  go_wp2_with fail
  refine (HCB.out _ hS4).mono ?_
  rintro e w5 ⟨rfl, hS5⟩
  have HS5 := Lib.hid hS5
  clear hS4 hS5
  go_wp2_with fail
  go_loopw [5] (fun ev wr => ∃ e : Nat, ev = .int .i64 e ∧ e ≤ top ∧ Hid (NoFin a top e) ∧ Hid (wr.cell? ⟨w.heap.size, 0, none⟩ = some (.string a) ∧ wr.cell? ⟨B, 0, none⟩ = some (.string b) ∧ Below W.heap.size W wr)) (fun ev _ => (intOf ev).toNat)
  case atStart => exact ⟨top, rfl, Nat.le_refl _, Lib.hid (noFin_top a top), HS5⟩
  case round =>
    obtain ⟨e, rfl, he, HN, HS⟩ := hrel
    have p0 := HS.out.1
    obtain ⟨m, hm⟩ : ∃ m : Nat, a.size - e = m := ⟨_, rfl⟩
    have hms : m ≤ a.size := by omega
    have hsub : (a.size : Int) - e = (m : Int) := by omega
    obtain ⟨t, ht⟩ : ∃ t, a.extract m a.size = t := ⟨_, rfl⟩
    have htz : t.size ≤ 1099511627776 := by rw [← ht, size_extract a m a.size hms (Nat.le_refl _)]; omega
    have cR := right_any t wr htz (tabs_later HT.out HS.out.2.2)
    have hte : tl a (a.size - e) = t := by rw [hm]; exact ht
    cases hok2 : okB t
    · have hpos : 0 < e := by
        rcases Nat.eq_zero_or_pos e with h0 | h0
        · subst h0
          rw [Nat.sub_zero, tl_all] at hte
          rw [← hte, okB_nil] at hok2; cases hok2
        · exact h0
      obtain ⟨e, rfl⟩ : ∃ k, e = k + 1 := ⟨e - 1, by omega⟩
      have HN2 := Lib.hid (noFin_down HN.out (by rw [hte]; exact hok2))
      rw [hok2] at cR
      clear hok2 hte HN
      go_wp2_with fail
      refine cR.mono ?_
      rintro e' w6 ⟨rfl, hb6⟩
      have HS6 := Lib.hid (HSL.out wr w6 HS.out hb6)
      clear hb6 cR
      go_wp2_with fail
      go_roundw
      case rel => exact ⟨e, by go_num, by omega, HN2, HS6⟩
      case measure => simp [intOf]
    · have HF := Lib.hid (HFIN.out e HN.out he (by rw [hte]; exact hok2))
      rw [hok2] at cR
      clear hok2 hte HN
      go_wp2_with fail
      refine cR.mono ?_
      rintro e' w6 ⟨rfl, hb6⟩
      have HS6 := Lib.hid (HSL.out wr w6 HS.out hb6)
      clear hb6 cR
      go_wp2_with fail
      go_ret2
      exact ⟨n, e, HF.out, rfl, next HTB.out HS6.out.2.2⟩
end Go.Proofs.YtlmefchcljfjlaaDoor.E
