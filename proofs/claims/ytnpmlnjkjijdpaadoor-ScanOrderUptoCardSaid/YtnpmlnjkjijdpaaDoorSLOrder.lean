/- Law ScanOrder under Prg. -/
import Derived.Test.YtnpmlnjkjijdpaaDoorSLWords
namespace Go.Proofs.YtnpmlnjkjijdpaaDoor.S
open Go.RowKit
open Go.Lib hiding intOf
open Go.Proofs.YtnpmlnjkjijdpaaDoor.U Go.Proofs.YtnpmlnjkjijdpaaDoor.L

theorem rises_at {s : By} : ∀ {l : List TokP} {a : Nat}, Rises s a l → ∀ {t r}, l = t :: r → ∃ f e, TokIn s a t f e ∧ ((t.t = [] ∧ f = s.length) → r = []) ∧ Rises s e r
  | _, _, .nil _, _, _, h => by cases h
  | _, _, .cons h hl hr, _, _, he => by cases he; exact ⟨_, _, h, hl, hr⟩
set_option maxHeartbeats 8000000 in
set_option maxRecDepth 20000 in
theorem order_short (P : Prg) (s : ByteArray) (w : World) (hs : s.size ≤ 500) (hT : Tabs w) : Calls Tryd.prog 5 #[.string s] w fun e w' => e = .returned (.bool true) ∧ Below w.heap.size w w' := by
  have cX := P.scan s w (by omega) hT
  obtain ⟨l, hl⟩ : ∃ l, scanB (okB s) s.toList = l := ⟨_, rfl⟩
  have hln : l.length ≤ 1000 := by have := scan_len (okB s) s; rw [hl] at this; omega
  have HRI : Hid (Rises s.toList 0 l) := Lib.hid (by rw [← hl]; exact scan_rises _ _)
  have CA := Lib.hid (fun X (hX : Below w.heap.size w X) => alive_any P X (hT.later hX))
  rw [hl] at cX
  clear hl
  obtain ⟨m, hm⟩ : ∃ m, l.length = m := ⟨_, rfl⟩
  rw [hm] at hln
  have HM := Lib.hid hm
  go_enter Tryd.func5, Tryd.ntmps5
  go_wp2_with fail
  refine cX.mono ?_
  rintro e w1 ⟨x, rfl, hx, hb1⟩
  obtain ⟨oa, cap, rfl, hcap, hc⟩ := hx
  rw [hm] at hcap ⊢
  have HC := Lib.hid hc
  have HB1 := Lib.hid hb1
  clear cX hb1 hc hm
  go_wp2_with fail
  go_loopw [4, 5] (fun av iv wr => ∃ (i a : Nat), av = .int .i64 a ∧ iv = .int .i64 i ∧ i ≤ m ∧ a ≤ s.size ∧ Hid (Rises s.toList a (l.drop i)) ∧ Hid (Below w1.heap.size w1 wr)) (fun _ iv _ => m - (intOf iv).toNat)
  case atStart => exact ⟨0, 0, rfl, rfl, Nat.zero_le _, Nat.zero_le _, HRI, Lib.hid (Below.refl _ _)⟩
  case round =>
    obtain ⟨i, a, rfl, rfl, hi, ha, HR, HL⟩ := hrel
    clear HRI
    by_cases hlt : i < m
    · have hil : i < l.length := by rw [HM.out]; exact hlt
      obtain ⟨g, off, rfl, hBg, hgw, hat⟩ := HC.out.resolve_left (fun h => by rw [h] at hil; exact Nat.not_lt_zero _ hil)
      obtain ⟨p0, p1, p2, p3⟩ := tok_at i (fun j u hj => (HL.out.cell (p := ⟨g, off + j, none⟩) hgw).trans (hat j u hj)) hil
      obtain ⟨f, e, hti, hlast, hri⟩ := rises_at HR.out (List.drop_eq_getElem_cons hil)
      obtain ⟨t, ht⟩ : ∃ t, l[i] = t := ⟨_, rfl⟩
      rw [ht] at p0 p1 p2 p3 hti hlast
      have HRN := Lib.hid hri
      have hGap := Lib.hid hti.gap
      have haf := hti.le
      have hfe := hti.fe
      have hez := hti.end_
      rw [tl_len] at hez
      rw [hti.from_] at p2
      rw [hti.to] at p3
      have HLT : Hid ((t.t = [] ∧ f = s.toList.length) → i + 1 = l.length) := Lib.hid (fun h => by
        have h2 := congrArg List.length (hlast h)
        rw [List.length_drop] at h2
        simp at h2; omega)
      have HTX := Lib.hid hti.text
      clear hat ht hti hlast hri HR
      rcases HTX.out with ⟨hw5, htt, h10⟩ | ⟨htn, htt⟩
      · rw [htt] at p1
        rw [hw5] at p0
        rcases h10 with h10 | h10
        · obtain ⟨hfz, hf10⟩ := get_tl s h10
          have e10 : s[f].toNat = 10 := by rw [Utf8W.get!_of_lt s f hfz] at hf10; rw [hf10]; rfl
          clear h10 hf10 htt hw5
          go_wp2_with fail
          obtain ⟨W, hW⟩ : ∃ W, wr.alloc (.cells #[.int .i64 5, .string ⟨#[]⟩, .int .i64 f, .int .i64 e] 30) = W := ⟨_, rfl⟩
          have HQ : Hid (W.heap[wr.heap.size]? = some (.cells #[.int .i64 5, .string ⟨#[]⟩, .int .i64 f, .int .i64 e] 30 (0, 0))) := Lib.hid (by rw [← hW]; exact heap_alloc_new wr _)
          have HL0 : Hid (Below w1.heap.size w1 W) := Lib.hid (by rw [← hW]; exact HL.out.alloc HL.out.size _)
          rw [hW]
          clear hW p0 p1 p2 p3 HL
          obtain ⟨q0, q1, q2, q3⟩ := tk_cells (HQ.out)
          go_quiet (fail)
          obtain ⟨W2, hW2⟩ : ∃ V, W.drewN nq = V := ⟨_, rfl⟩
          have HQ2 : Hid (W2.heap[wr.heap.size]? = some (.cells #[.int .i64 5, .string ⟨#[]⟩, .int .i64 f, .int .i64 e] 30 (0, 0))) := Lib.hid (by rw [← hW2]; exact HQ.out)
          have HL2 : Hid (Below w1.heap.size w1 W2) := Lib.hid (by rw [← hW2]; exact drewB HL0.out _)
          have hz2 : wr.heap.size < W2.heap.size := by have := (Array.getElem?_eq_some_iff.1 HQ2.out).1; omega
          rw [hW2]
          clear q0 q1 q2 q3 hW2 HQ HL0
          have HQ := HQ2
          have HL0 := HL2
          clear HQ2 HL2
          obtain ⟨q0, q1, q2, q3⟩ := tk_cells (HQ.out)
          go_wp2_with fail
          clear q0 q1 q2 q3
          obtain ⟨q, hq⟩ : ∃ q, wr.heap.size = q := ⟨_, rfl⟩
          rw [hq] at HQ hz2 ⊢
          clear hq
          go_loopw [8] (fun kv W' => ∃ k : Nat, kv = .int .i64 k ∧ a ≤ k ∧ k ≤ f ∧ Hid (∀ j, a ≤ j → j < k → s.toList[j]? ≠ some 47) ∧ Hid (Below W2.heap.size W2 W')) (fun kv _ => f - (intOf kv).toNat)
          case atStart => exact ⟨a, rfl, Nat.le_refl _, haf, Lib.hid (fun j h1 h2 => by omega), Lib.hid (Below.refl _ _)⟩
          case round =>
            obtain ⟨k, rfl, hak, hkf, HNS, HLI⟩ := hrel
            have HQ3 : Hid (wr.heap[q]? = some (.cells #[.int .i64 5, .string ⟨#[]⟩, .int .i64 f, .int .i64 e] 30 (0, 0))) := Lib.hid ((HLI.out.block _ hz2).trans HQ.out)
            obtain ⟨q0, q1, q2, q3⟩ := tk_cells (HQ3.out)
            have HLO := Lib.hid (HL0.out.trans (HLI.out.mono HL0.out.size))
            by_cases hkl : k < f
            · have hkz : k < s.size := by omega
              obtain ⟨z, hz⟩ : ∃ z, s[k] = z := ⟨_, rfl⟩
              have HKZ : Hid (s.toList[k]? = some z) := Lib.hid (by rw [tl_get s hkz, hz])
              by_cases h47 : z = 47
              · have e47 : z.toNat = 47 := by rw [h47]; rfl
                clear h47
                go_wp2_with fail
                go_roundw
                case rel => exact ⟨i + 1, e, rfl, by go_num, by omega, hez, HRN, HLO⟩
                case measure => simp [intOf]; omega
              · have e47 : ¬ z.toNat = 47 := fun h => h47 (UInt8.toNat_inj.1 h)
                have hns2 : Hid (∀ j, a ≤ j → j < k + 1 → s.toList[j]? ≠ some 47) := Lib.hid (fun j h1 h2 h3 => by
                  by_cases hj : j < k
                  · exact HNS.out j h1 hj h3
                  · obtain rfl : j = k := by omega
                    rw [HKZ.out] at h3; exact h47 (Option.some.inj h3))
                have hbl : blank z = true := by
                  rcases hGap.out k hak hkl with ⟨j, h1, h2, h3⟩ | ⟨c, h1, h2⟩
                  · exact absurd h3 (hns2.out j h1 (by omega))
                  · rw [HKZ.out] at h1
                    cases h1; exact h2
                rcases (blank_or z).resolve_right (fun h => by rw [hbl] at h; cases h.1) with ⟨_, z32 | z9 | z13 | z10⟩
                · have e32 : z.toNat = 32 := by rw [z32]; rfl
                  clear z32 h47 hbl e47
                  go_wp2_with fail
                  go_roundw
                  case rel => exact ⟨k + 1, by go_num, by omega, by omega, hns2, HLI⟩
                  case measure => simp [intOf]; omega
                · have e9 : z.toNat = 9 := by rw [z9]; rfl
                  clear z9 h47 hbl e47
                  go_wp2_with fail
                  go_roundw
                  case rel => exact ⟨k + 1, by go_num, by omega, by omega, hns2, HLI⟩
                  case measure => simp [intOf]; omega
                · have e13 : z.toNat = 13 := by rw [z13]; rfl
                  clear z13 h47 hbl e47
                  go_wp2_with fail
                  go_roundw
                  case rel => exact ⟨k + 1, by go_num, by omega, by omega, hns2, HLI⟩
                  case measure => simp [intOf]; omega
                · have e10' : z.toNat = 10 := by rw [z10]; rfl
                  clear z10 h47 hbl e47
                  go_wp2_with fail
                  go_roundw
                  case rel => exact ⟨k + 1, by go_num, by omega, by omega, hns2, HLI⟩
                  case measure => simp [intOf]; omega
            · obtain rfl : k = f := by omega
              go_wp2_with fail
              go_roundw
              case rel => exact ⟨i + 1, e, rfl, by go_num, by omega, hez, HRN, HLO⟩
              case measure => simp [intOf]; omega
        · rw [tl_len] at h10
          have him : i + 1 = m := by rw [← HM.out]; exact HLT.out ⟨htt, by rw [tl_len]; exact h10⟩
          subst h10
          clear htt hw5
          go_wp2_with fail
          obtain ⟨W, hW⟩ : ∃ W, wr.alloc (.cells #[.int .i64 5, .string ⟨#[]⟩, .int .i64 s.size, .int .i64 e] 30) = W := ⟨_, rfl⟩
          have HQ : Hid (W.heap[wr.heap.size]? = some (.cells #[.int .i64 5, .string ⟨#[]⟩, .int .i64 s.size, .int .i64 e] 30 (0, 0))) := Lib.hid (by rw [← hW]; exact heap_alloc_new wr _)
          have HL0 : Hid (Below w1.heap.size w1 W) := Lib.hid (by rw [← hW]; exact HL.out.alloc HL.out.size _)
          rw [hW]
          clear hW p0 p1 p2 p3 HL
          obtain ⟨q0, q1, q2, q3⟩ := tk_cells (HQ.out)
          go_quiet (fail)
          obtain ⟨W2, hW2⟩ : ∃ V, W.drewN nq = V := ⟨_, rfl⟩
          have HQ2 : Hid (W2.heap[wr.heap.size]? = some (.cells #[.int .i64 5, .string ⟨#[]⟩, .int .i64 s.size, .int .i64 e] 30 (0, 0))) := Lib.hid (by rw [← hW2]; exact HQ.out)
          have HL2 : Hid (Below w1.heap.size w1 W2) := Lib.hid (by rw [← hW2]; exact drewB HL0.out _)
          have hz2 : wr.heap.size < W2.heap.size := by have := (Array.getElem?_eq_some_iff.1 HQ2.out).1; omega
          rw [hW2]
          clear q0 q1 q2 q3 hW2 HQ HL0
          have HQ := HQ2
          have HL0 := HL2
          clear HQ2 HL2
          obtain ⟨q0, q1, q2, q3⟩ := tk_cells (HQ.out)
          go_wp2_with fail
          clear q0 q1 q2 q3
          obtain ⟨q, hq⟩ : ∃ q, wr.heap.size = q := ⟨_, rfl⟩
          rw [hq] at HQ hz2 ⊢
          clear hq
          go_loopw [8] (fun kv W' => ∃ k : Nat, kv = .int .i64 k ∧ a ≤ k ∧ k ≤ s.size ∧ Hid (∀ j, a ≤ j → j < k → s.toList[j]? ≠ some 47) ∧ Hid (Below W2.heap.size W2 W')) (fun kv _ => s.size - (intOf kv).toNat)
          case atStart => exact ⟨a, rfl, Nat.le_refl _, haf, Lib.hid (fun j h1 h2 => by omega), Lib.hid (Below.refl _ _)⟩
          case round =>
            obtain ⟨k, rfl, hak, hkf, HNS, HLI⟩ := hrel
            have HQ3 : Hid (wr.heap[q]? = some (.cells #[.int .i64 5, .string ⟨#[]⟩, .int .i64 s.size, .int .i64 e] 30 (0, 0))) := Lib.hid ((HLI.out.block _ hz2).trans HQ.out)
            obtain ⟨q0, q1, q2, q3⟩ := tk_cells (HQ3.out)
            have HLO := Lib.hid (HL0.out.trans (HLI.out.mono HL0.out.size))
            by_cases hkl : k < s.size
            · have hkz : k < s.size := by omega
              obtain ⟨z, hz⟩ : ∃ z, s[k] = z := ⟨_, rfl⟩
              have HKZ : Hid (s.toList[k]? = some z) := Lib.hid (by rw [tl_get s hkz, hz])
              by_cases h47 : z = 47
              · have e47 : z.toNat = 47 := by rw [h47]; rfl
                clear h47
                go_wp2_with fail
                go_roundw
                case rel => exact ⟨i + 1, e, rfl, by go_num, by omega, hez, HRN, HLO⟩
                case measure => simp [intOf]; omega
              · have e47 : ¬ z.toNat = 47 := fun h => h47 (UInt8.toNat_inj.1 h)
                have hns2 : Hid (∀ j, a ≤ j → j < k + 1 → s.toList[j]? ≠ some 47) := Lib.hid (fun j h1 h2 h3 => by
                  by_cases hj : j < k
                  · exact HNS.out j h1 hj h3
                  · obtain rfl : j = k := by omega
                    rw [HKZ.out] at h3; exact h47 (Option.some.inj h3))
                have hbl : blank z = true := by
                  rcases hGap.out k hak hkl with ⟨j, h1, h2, h3⟩ | ⟨c, h1, h2⟩
                  · exact absurd h3 (hns2.out j h1 (by omega))
                  · rw [HKZ.out] at h1
                    cases h1; exact h2
                rcases (blank_or z).resolve_right (fun h => by rw [hbl] at h; cases h.1) with ⟨_, z32 | z9 | z13 | z10⟩
                · have e32 : z.toNat = 32 := by rw [z32]; rfl
                  clear z32 h47 hbl e47
                  go_wp2_with fail
                  go_roundw
                  case rel => exact ⟨k + 1, by go_num, by omega, by omega, hns2, HLI⟩
                  case measure => simp [intOf]; omega
                · have e9 : z.toNat = 9 := by rw [z9]; rfl
                  clear z9 h47 hbl e47
                  go_wp2_with fail
                  go_roundw
                  case rel => exact ⟨k + 1, by go_num, by omega, by omega, hns2, HLI⟩
                  case measure => simp [intOf]; omega
                · have e13 : z.toNat = 13 := by rw [z13]; rfl
                  clear z13 h47 hbl e47
                  go_wp2_with fail
                  go_roundw
                  case rel => exact ⟨k + 1, by go_num, by omega, by omega, hns2, HLI⟩
                  case measure => simp [intOf]; omega
                · have e10' : z.toNat = 10 := by rw [z10]; rfl
                  clear z10 h47 hbl e47
                  go_wp2_with fail
                  go_roundw
                  case rel => exact ⟨k + 1, by go_num, by omega, by omega, hns2, HLI⟩
                  case measure => simp [intOf]; omega
            · obtain rfl : k = s.size := by omega
              go_wp2_with fail
              go_roundw
              case rel => exact ⟨i + 1, e, rfl, by go_num, by omega, hez, HRN, HLO⟩
              case measure => simp [intOf]; omega
      · have hx : (⟨t.t.toArray⟩ : ByteArray) = s.extract f e := by
          apply ByteArray.ext
          apply Array.toList_inj.1
          rw [← ByteArray.toList_eq, ← ByteArray.toList_eq, tl_arr, htt, ext_list]
        have hx0 : ((s.extract f e).toList == []) = false := by
          rw [ext_list, ← htt]
          cases hh : t.t with
          | nil => exact absurd hh htn
          | cons a r => rfl
        rw [hx] at p1
        clear hx htn htt
        by_cases hw : t.w = 5
        · rw [hw] at p0
          clear hw
          go_wp2_with fail
          obtain ⟨W, hW⟩ : ∃ W, wr.alloc (.cells #[.int .i64 5, .string (s.extract f e), .int .i64 f, .int .i64 e] 30) = W := ⟨_, rfl⟩
          have HQ : Hid (W.heap[wr.heap.size]? = some (.cells #[.int .i64 5, .string (s.extract f e), .int .i64 f, .int .i64 e] 30 (0, 0))) := Lib.hid (by rw [← hW]; exact heap_alloc_new wr _)
          have HL0 : Hid (Below w1.heap.size w1 W) := Lib.hid (by rw [← hW]; exact HL.out.alloc HL.out.size _)
          rw [hW]
          clear hW p0 p1 p2 p3 HL
          obtain ⟨q0, q1, q2, q3⟩ := tk_cells (HQ.out)
          go_quiet (fail)
          obtain ⟨W2, hW2⟩ : ∃ V, W.drewN nq = V := ⟨_, rfl⟩
          have HQ2 : Hid (W2.heap[wr.heap.size]? = some (.cells #[.int .i64 5, .string (s.extract f e), .int .i64 f, .int .i64 e] 30 (0, 0))) := Lib.hid (by rw [← hW2]; exact HQ.out)
          have HL2 : Hid (Below w1.heap.size w1 W2) := Lib.hid (by rw [← hW2]; exact drewB HL0.out _)
          have hz2 : wr.heap.size < W2.heap.size := by have := (Array.getElem?_eq_some_iff.1 HQ2.out).1; omega
          rw [hW2]
          clear q0 q1 q2 q3 hW2 HQ HL0
          have HQ := HQ2
          have HL0 := HL2
          clear HQ2 HL2
          obtain ⟨q0, q1, q2, q3⟩ := tk_cells (HQ.out)
          go_wp2_with fail
          clear q0 q1 q2 q3
          obtain ⟨q, hq⟩ : ∃ q, wr.heap.size = q := ⟨_, rfl⟩
          rw [hq] at HQ hz2 ⊢
          clear hq
          go_loopw [8] (fun kv W' => ∃ k : Nat, kv = .int .i64 k ∧ a ≤ k ∧ k ≤ f ∧ Hid (∀ j, a ≤ j → j < k → s.toList[j]? ≠ some 47) ∧ Hid (Below W2.heap.size W2 W')) (fun kv _ => f - (intOf kv).toNat)
          case atStart => exact ⟨a, rfl, Nat.le_refl _, haf, Lib.hid (fun j h1 h2 => by omega), Lib.hid (Below.refl _ _)⟩
          case round =>
            obtain ⟨k, rfl, hak, hkf, HNS, HLI⟩ := hrel
            have HQ3 : Hid (wr.heap[q]? = some (.cells #[.int .i64 5, .string (s.extract f e), .int .i64 f, .int .i64 e] 30 (0, 0))) := Lib.hid ((HLI.out.block _ hz2).trans HQ.out)
            obtain ⟨q0, q1, q2, q3⟩ := tk_cells (HQ3.out)
            have HLO := Lib.hid (HL0.out.trans (HLI.out.mono HL0.out.size))
            by_cases hkl : k < f
            · have hkz : k < s.size := by omega
              obtain ⟨z, hz⟩ : ∃ z, s[k] = z := ⟨_, rfl⟩
              have HKZ : Hid (s.toList[k]? = some z) := Lib.hid (by rw [tl_get s hkz, hz])
              by_cases h47 : z = 47
              · have e47 : z.toNat = 47 := by rw [h47]; rfl
                clear h47
                go_wp2_with fail
                go_roundw
                case rel => exact ⟨i + 1, e, rfl, by go_num, by omega, hez, HRN, HLO⟩
                case measure => simp [intOf]; omega
              · have e47 : ¬ z.toNat = 47 := fun h => h47 (UInt8.toNat_inj.1 h)
                have hns2 : Hid (∀ j, a ≤ j → j < k + 1 → s.toList[j]? ≠ some 47) := Lib.hid (fun j h1 h2 h3 => by
                  by_cases hj : j < k
                  · exact HNS.out j h1 hj h3
                  · obtain rfl : j = k := by omega
                    rw [HKZ.out] at h3; exact h47 (Option.some.inj h3))
                have hbl : blank z = true := by
                  rcases hGap.out k hak hkl with ⟨j, h1, h2, h3⟩ | ⟨c, h1, h2⟩
                  · exact absurd h3 (hns2.out j h1 (by omega))
                  · rw [HKZ.out] at h1
                    cases h1; exact h2
                rcases (blank_or z).resolve_right (fun h => by rw [hbl] at h; cases h.1) with ⟨_, z32 | z9 | z13 | z10⟩
                · have e32 : z.toNat = 32 := by rw [z32]; rfl
                  clear z32 h47 hbl e47
                  go_wp2_with fail
                  go_roundw
                  case rel => exact ⟨k + 1, by go_num, by omega, by omega, hns2, HLI⟩
                  case measure => simp [intOf]; omega
                · have e9 : z.toNat = 9 := by rw [z9]; rfl
                  clear z9 h47 hbl e47
                  go_wp2_with fail
                  go_roundw
                  case rel => exact ⟨k + 1, by go_num, by omega, by omega, hns2, HLI⟩
                  case measure => simp [intOf]; omega
                · have e13 : z.toNat = 13 := by rw [z13]; rfl
                  clear z13 h47 hbl e47
                  go_wp2_with fail
                  go_roundw
                  case rel => exact ⟨k + 1, by go_num, by omega, by omega, hns2, HLI⟩
                  case measure => simp [intOf]; omega
                · have e10' : z.toNat = 10 := by rw [z10]; rfl
                  clear z10 h47 hbl e47
                  go_wp2_with fail
                  go_roundw
                  case rel => exact ⟨k + 1, by go_num, by omega, by omega, hns2, HLI⟩
                  case measure => simp [intOf]; omega
            · obtain rfl : k = f := by omega
              go_wp2_with fail
              go_roundw
              case rel => exact ⟨i + 1, e, rfl, by go_num, by omega, hez, HRN, HLO⟩
              case measure => simp [intOf]; omega
        · 
          go_wp2_with fail
          obtain ⟨W, hW⟩ : ∃ W, wr.alloc (.cells #[.int .i64 t.w, .string (s.extract f e), .int .i64 f, .int .i64 e] 30) = W := ⟨_, rfl⟩
          have HQ : Hid (W.heap[wr.heap.size]? = some (.cells #[.int .i64 t.w, .string (s.extract f e), .int .i64 f, .int .i64 e] 30 (0, 0))) := Lib.hid (by rw [← hW]; exact heap_alloc_new wr _)
          have HL0 : Hid (Below w1.heap.size w1 W) := Lib.hid (by rw [← hW]; exact HL.out.alloc HL.out.size _)
          rw [hW]
          clear hW p0 p1 p2 p3 HL
          obtain ⟨q0, q1, q2, q3⟩ := tk_cells (HQ.out)
          go_quiet (fail)
          obtain ⟨W2, hW2⟩ : ∃ V, W.drewN nq = V := ⟨_, rfl⟩
          have HQ2 : Hid (W2.heap[wr.heap.size]? = some (.cells #[.int .i64 t.w, .string (s.extract f e), .int .i64 f, .int .i64 e] 30 (0, 0))) := Lib.hid (by rw [← hW2]; exact HQ.out)
          have HL2 : Hid (Below w1.heap.size w1 W2) := Lib.hid (by rw [← hW2]; exact drewB HL0.out _)
          have hz2 : wr.heap.size < W2.heap.size := by have := (Array.getElem?_eq_some_iff.1 HQ2.out).1; omega
          rw [hW2]
          clear q0 q1 q2 q3 hW2 HQ HL0
          have HQ := HQ2
          have HL0 := HL2
          clear HQ2 HL2
          obtain ⟨q0, q1, q2, q3⟩ := tk_cells (HQ.out)
          go_wp2_with fail
          clear q0 q1 q2 q3
          obtain ⟨q, hq⟩ : ∃ q, wr.heap.size = q := ⟨_, rfl⟩
          rw [hq] at HQ hz2 ⊢
          clear hq
          go_loopw [8] (fun kv W' => ∃ k : Nat, kv = .int .i64 k ∧ a ≤ k ∧ k ≤ f ∧ Hid (∀ j, a ≤ j → j < k → s.toList[j]? ≠ some 47) ∧ Hid (Below W2.heap.size W2 W')) (fun kv _ => f - (intOf kv).toNat)
          case atStart => exact ⟨a, rfl, Nat.le_refl _, haf, Lib.hid (fun j h1 h2 => by omega), Lib.hid (Below.refl _ _)⟩
          case round =>
            obtain ⟨k, rfl, hak, hkf, HNS, HLI⟩ := hrel
            have HQ3 : Hid (wr.heap[q]? = some (.cells #[.int .i64 t.w, .string (s.extract f e), .int .i64 f, .int .i64 e] 30 (0, 0))) := Lib.hid ((HLI.out.block _ hz2).trans HQ.out)
            obtain ⟨q0, q1, q2, q3⟩ := tk_cells (HQ3.out)
            have HLO := Lib.hid (HL0.out.trans (HLI.out.mono HL0.out.size))
            by_cases hkl : k < f
            · have hkz : k < s.size := by omega
              obtain ⟨z, hz⟩ : ∃ z, s[k] = z := ⟨_, rfl⟩
              have HKZ : Hid (s.toList[k]? = some z) := Lib.hid (by rw [tl_get s hkz, hz])
              by_cases h47 : z = 47
              · have e47 : z.toNat = 47 := by rw [h47]; rfl
                clear h47
                go_wp2_with fail
                go_roundw
                case rel => exact ⟨i + 1, e, rfl, by go_num, by omega, hez, HRN, HLO⟩
                case measure => simp [intOf]; omega
              · have e47 : ¬ z.toNat = 47 := fun h => h47 (UInt8.toNat_inj.1 h)
                have hns2 : Hid (∀ j, a ≤ j → j < k + 1 → s.toList[j]? ≠ some 47) := Lib.hid (fun j h1 h2 h3 => by
                  by_cases hj : j < k
                  · exact HNS.out j h1 hj h3
                  · obtain rfl : j = k := by omega
                    rw [HKZ.out] at h3; exact h47 (Option.some.inj h3))
                have hbl : blank z = true := by
                  rcases hGap.out k hak hkl with ⟨j, h1, h2, h3⟩ | ⟨c, h1, h2⟩
                  · exact absurd h3 (hns2.out j h1 (by omega))
                  · rw [HKZ.out] at h1
                    cases h1; exact h2
                rcases (blank_or z).resolve_right (fun h => by rw [hbl] at h; cases h.1) with ⟨_, z32 | z9 | z13 | z10⟩
                · have e32 : z.toNat = 32 := by rw [z32]; rfl
                  clear z32 h47 hbl e47
                  go_wp2_with fail
                  go_roundw
                  case rel => exact ⟨k + 1, by go_num, by omega, by omega, hns2, HLI⟩
                  case measure => simp [intOf]; omega
                · have e9 : z.toNat = 9 := by rw [z9]; rfl
                  clear z9 h47 hbl e47
                  go_wp2_with fail
                  go_roundw
                  case rel => exact ⟨k + 1, by go_num, by omega, by omega, hns2, HLI⟩
                  case measure => simp [intOf]; omega
                · have e13 : z.toNat = 13 := by rw [z13]; rfl
                  clear z13 h47 hbl e47
                  go_wp2_with fail
                  go_roundw
                  case rel => exact ⟨k + 1, by go_num, by omega, by omega, hns2, HLI⟩
                  case measure => simp [intOf]; omega
                · have e10' : z.toNat = 10 := by rw [z10]; rfl
                  clear z10 h47 hbl e47
                  go_wp2_with fail
                  go_roundw
                  case rel => exact ⟨k + 1, by go_num, by omega, by omega, hns2, HLI⟩
                  case measure => simp [intOf]; omega
            · obtain rfl : k = f := by omega
              go_wp2_with fail
              go_roundw
              case rel => exact ⟨i + 1, e, rfl, by go_num, by omega, hez, HRN, HLO⟩
              case measure => simp [intOf]; omega
    · obtain rfl : i = m := by omega
      go_wp2_with fail
      refine (CA.out wr (HB1.out.trans (HL.out.mono HB1.out.size))).mono ?_
      rintro e w5 ⟨rfl, hb5⟩
      have HB5 := Lib.hid (HB1.out.trans ((HL.out.trans (hb5.mono HL.out.size)).mono HB1.out.size))
      clear hb5
      go_wp2_with fail
      go_ret
      exact ⟨rfl, HB5.out⟩
set_option maxHeartbeats 8000000 in
set_option maxRecDepth 20000 in
theorem order_any (P : Prg) (s : ByteArray) (w : World) (hs : s.size ≤ 1099511627776) (hT : Tabs w) : Calls Tryd.prog 5 #[.string s] w fun e w' => e = .returned (.bool true) ∧ Below w.heap.size w w' := by
  by_cases h5 : s.size ≤ 500
  · exact order_short P s w h5 hT
  · have cX := P.scan s w hs hT
    have cA := fun X hX => alive_any P X (hT.later hX)
    have hz : ¬ (s.size : Int) ≤ 500 := by omega
    have hz2 : (500 : Int) < (s.size : Int) := by omega
    go_enter Tryd.func5, Tryd.ntmps5
    go_wp2_with fail
    refine cX.mono ?_
    rintro e w1 ⟨x, rfl, hx, hb1⟩
    clear hx cX
    go_wp2_with fail
    refine (cA w1 hb1).mono ?_
    rintro e w3 ⟨rfl, hb3⟩
    go_wp2_with fail
    go_ret
    exact ⟨rfl, hb1.trans (hb3.mono hb1.size)⟩
end Go.Proofs.YtnpmlnjkjijdpaaDoor.S
