/- Contracts of package split's Of and of the document's own. -/
import Derived.Test.YtapjomdplibanaaDoorQRep
import Derived.Deep.DeepCutAuto
namespace Go.Proofs.YtapjomdplibanaaDoor.Q
open Go.RowKit
open Go.Lib hiding intOf
open Go.Proofs.YtapjomdplibanaaDoor.U Go.Proofs.YtapjomdplibanaaDoor.S Go.Proofs.YtapjomdplibanaaDoor.L

theorem inP_on {l : List PcP} {x : Int} {i : Nat} (h : ∀ j (hj : j < l.length), j < i → inP x l[j] = false) (hi : i < l.length) (hn : inP x l[i] = false) : ∀ j (hj : j < l.length), j < i + 1 → inP x l[j] = false := fun j hj h1 => by
  by_cases e : j < i
  · exact h j hj e
  · obtain rfl : j = i := by omega
    exact hn
theorem ofL_end {l : List PcP} {x : Int} {k : Nat} (ha : ∀ j (hj : j < l.length), j < l.length → inP x l[j] = false) (hk : l.length = k + 1) : ofL l x = if ((l[k]'(by omega)).e : Int) = x then (k : Int) else -1 := by
  rw [ofL_miss (fun j hj => ha j hj hj), List.getLast?_eq_getElem?, show l.length - 1 = k by omega, List.getElem?_eq_getElem (by omega)]
  simp only [Option.map_some, Option.some.injEq]
  split
  · omega
  · rfl
theorem ofL_nil (x : Int) : ofL [] x = -1 := rfl
theorem ofL_bnd (l : List PcP) (x : Int) : -1 ≤ ofL l x ∧ ofL l x ≤ l.length := by
  cases hf : l.findIdx? (inP x) with
  | none =>
    have h := List.findIdx?_eq_none_iff.1 hf
    rw [ofL_miss (fun j hj => h _ (List.getElem_mem hj))]
    split <;> omega
  | some j =>
    obtain ⟨hj, _, _⟩ := List.findIdx?_eq_some_iff_getElem.1 hf
    unfold ofL
    rw [hf]
    dsimp only
    omega
set_option maxHeartbeats 8000000 in
set_option maxRecDepth 20000 in
theorem of_any (B : Nat) (l : List PcP) (v : Value) (x : Int) (w : World) (h : PcsIn B w l v) (hl : l.length ≤ 1000000) :
    Calls Tryd.prog 13 #[v, .int .i64 x] w fun e w' => e = .returned (.int .i64 (ofL l x)) ∧ Below w.heap.size w w' := by
  obtain ⟨a, cap, rfl, _, hc⟩ := h
  obtain ⟨n, hn⟩ : ∃ n, l.length = n := ⟨_, rfl⟩
  have HN := Lib.hid hn
  have HC := Lib.hid hc
  obtain ⟨R, hR⟩ : ∃ R, ofL l x = R := ⟨_, rfl⟩
  have HR := Lib.hid hR
  rw [hR, hn]
  rw [hn] at hl
  clear hc hn hR
  go_enter Tryd.func13, Tryd.ntmps13
  go_wp2_with fail
  go_loopw [10] (fun iv wr => ∃ i : Nat, iv = .int .i64 i ∧ i ≤ n ∧ Hid (∀ j (hj : j < l.length), j < i → inP x l[j] = false) ∧ Hid (Below w.heap.size w wr)) (fun iv _ => n - (intOf iv).toNat)
  case atStart => exact ⟨0, rfl, Nat.zero_le _, Lib.hid (fun _ _ h => absurd h (by omega)), Lib.hid (Below.refl _ _)⟩
  case round =>
    obtain ⟨i, rfl, hi, HA, HL⟩ := hrel
    by_cases hlt : i < n
    · have hil : i < l.length := by rw [HN.out]; exact hlt
      obtain ⟨g, off, rfl, _, hgw, hat⟩ := HC.out.resolve_left (fun h => by rw [h] at hil; exact Nat.not_lt_zero _ hil)
      obtain ⟨p0, p1, p2, p3⟩ := pc_at i (fun j u hj => (HL.out.cell (p := ⟨g, off + j, none⟩) hgw).trans (hat j u hj)) hil
      have hhit := fun h => (ofL_hit (x := x) hil h HA.out).symm.trans HR.out
      have hon := inP_on HA.out hil
      obtain ⟨p, hp⟩ : ∃ p, l[i] = p := ⟨_, rfl⟩
      rw [hp] at p0 p1 p2 p3 hhit hon
      obtain ⟨f, e, pd, pj⟩ := p
      dsimp only at p0 p1 p2 p3
      have HH : Hid ((f : Int) ≤ x → x < (e : Int) → (i : Int) = R) := Lib.hid (fun h1 h2 => hhit (by simp [inP, h1, h2]))
      have HO : Hid (¬ ((f : Int) ≤ x ∧ x < (e : Int)) → ∀ j (hj : j < l.length), j < i + 1 → inP x l[j] = false) := Lib.hid (fun h1 => hon (by
        unfold inP
        cases h2 : decide ((f : Int) ≤ x)
        · rfl
        · have h3 : (f : Int) ≤ x := by simpa using h2
          simp only [Bool.true_and, decide_eq_false_iff_not]
          exact fun h4 => h1 ⟨h3, h4⟩))
      clear hat hhit hon hp
      go_upto_region 4 with fail
      clear p0 p1 p2 p3
      obtain ⟨F, hF⟩ : ∃ F, wr.heap.size = F := ⟨_, rfl⟩
      obtain ⟨W2, hW2⟩ : ∃ W2, wr.alloc (.cells #[.int .i64 f, .int .i64 e, .bool pd, .bool pj] 36) = W2 := ⟨_, rfl⟩
      have hFb : W2.heap[F]? = some (.cells #[.int .i64 f, .int .i64 e, .bool pd, .bool pj] 36 (0, 0)) := by rw [← hW2, ← hF]; exact World.alloc_heap_new wr _
      have HL2 : Hid (Below w.heap.size w W2) := Lib.hid (by rw [← hW2]; exact HL.out.alloc HL.out.size _)
      obtain ⟨k0, k1, _, _⟩ := tk_cells hFb
      rw [hF, hW2]
      clear hF hW2 hFb
      by_cases h1 : (f : Int) ≤ x
      · by_cases h2 : x < (e : Int)
        · have HE := Lib.hid (HH.out h1 h2)
          go_wp2_with fail
          go_ret
          exact ⟨by rw [HE.out]; rfl, HL2.out⟩
        · have HN2 := Lib.hid (HO.out (fun h => h2 h.2))
          go_wp2_with fail
          go_roundw
          case rel => exact ⟨i + 1, by go_num, by omega, HN2, HL2⟩
          case measure => simp [intOf]; omega
      · have HN2 := Lib.hid (HO.out (fun h => h1 h.1))
        go_wp2_with fail
        go_roundw
        case rel => exact ⟨i + 1, by go_num, by omega, HN2, HL2⟩
        case measure => simp [intOf]; omega
    · obtain rfl : i = n := by omega
      by_cases h0 : i = 0
      · subst h0
        have HE : Hid (R = -1) := Lib.hid (by
          have h1 : l = [] := List.length_eq_zero_iff.1 HN.out
          have h2 := HR.out
          rw [h1, ofL_nil] at h2
          exact h2.symm)
        go_wp2_with fail
        go_ret
        exact ⟨by rw [HE.out]; rfl, HL.out⟩
      · obtain ⟨k, rfl⟩ : ∃ k, i = k + 1 := ⟨i - 1, by omega⟩
        have hkl : k < l.length := by rw [HN.out]; omega
        obtain ⟨g, off, rfl, _, hgw, hat⟩ := HC.out.resolve_left (fun h => by rw [h] at hkl; exact Nat.not_lt_zero _ hkl)
        obtain ⟨_, p1, _, _⟩ := pc_at k (fun j u hj => (HL.out.cell (p := ⟨g, off + j, none⟩) hgw).trans (hat j u hj)) hkl
        have hend := (ofL_end (x := x) (fun j hj _ => HA.out j hj (by rw [← HN.out]; exact hj)) HN.out).symm.trans HR.out
        obtain ⟨e, he⟩ : ∃ e, (l[k]).e = e := ⟨_, rfl⟩
        rw [he] at p1 hend
        obtain ⟨m, hm⟩ : ∃ m, k + 1 = m := ⟨_, rfl⟩
        have hkm : (k : Int) < (m : Int) := by omega
        have hk0 : (0 : Int) ≤ (k : Int) := by omega
        have hm0 : 0 < m := by omega
        have hi1 : IntKind.i64.wrap ((m : Int) - 1) = (k : Int) := (IntWalk.i64_in _ (by omega)).trans (by omega)
        have HE := Lib.hid hend
        rw [hm]
        clear hat hend he h0 hlt hi hm
        by_cases hx : (e : Int) = x
        · have HF : Hid (R = (k : Int)) := Lib.hid (by rw [← HE.out, if_pos hx])
          have hx' : (x == (e : Int)) = true := by simpa using hx.symm
          clear hx
          go_wp2_with fail
          go_ret
          exact ⟨by rw [HF.out]; rfl, HL.out⟩
        · have HF : Hid (R = -1) := Lib.hid (by rw [← HE.out, if_neg hx])
          have hx' : (x == (e : Int)) = false := by simpa using fun h : x = (e : Int) => hx h.symm
          clear hx
          go_wp2_with fail
          go_ret
          exact ⟨by rw [HF.out]; rfl, HL.out⟩
end Go.Proofs.YtapjomdplibanaaDoor.Q
