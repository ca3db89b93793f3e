/- The contract of the document's own Place of layer 5. -/
import Derived.Test.YtlmefchcljfjlaaDoorLRef
namespace Go.Proofs.YtlmefchcljfjlaaDoor.L
open Go.RowKit
open Go.Lib hiding intOf
open Go.Proofs.YtlmefchcljfjlaaDoor.U

set_option maxHeartbeats 2000000 in
set_option maxRecDepth 100000 in
theorem refPlace_low (s : ByteArray) (a : Int) (w : World) (hs : s.size ≤ 400) (ha : a < 0) (ha2 : -9223372036854775808 ≤ a) :
    Calls Tryd.prog 25 #[.string s, .int .i64 a] w (PlaceAns (placeL s a) w) := by
  rw [placeL_far s a (by omega)]
  obtain ⟨W, hW⟩ : ∃ W, w.alloc (.cells #[.int .i64 0, .int .i64 0] 30) = W := ⟨_, rfl⟩
  have hbw : Below w.heap.size w W := by rw [← hW]; exact (Below.refl _ _).alloc (Nat.le_refl _) _
  have HBX := Lib.hid (show W.heap[w.heap.size]? = some (.cells #[.int .i64 0, .int .i64 0] 30 (0, 0)) by rw [← hW]; exact heap_alloc_new _ _)
  have HBW := Lib.hid hbw
  have cS := split_any s W hs
  have hl := ends_le s
  clear hbw
  go_enter Tryd.func25, Tryd.ntmps25
  go_wp2_with fail
  refine cS.mono ?_
  rintro e w1 ⟨g, cap, rfl, hb1, hg1, hc1⟩
  have HB1 := Lib.hid hb1
  have HC1 := Lib.hid hc1
  obtain ⟨L, hL⟩ : ∃ L, (ends s).length = L := ⟨_, rfl⟩
  have HL := Lib.hid hL
  rw [hL] at hl ⊢
  clear hb1 hc1 cS hW hL
  go_upto_region 3 with fail
  go_loop [1, 7] (fun av iv => ∃ (i : Nat) (x : Int), iv = .int .i64 i ∧ i ≤ L + 1 ∧ av = .int .i64 x ∧ Hid (Round a (if i ≤ L then nx (ends s) i else s.size + 1) x)) (fun _ iv => L + 1 - (intOf iv).toNat)
  case atStart => exact ⟨0, a, rfl, by omega, rfl, Lib.hid ⟨.inl (by simp [nx_zero]), by omega, by omega⟩⟩
  case round =>
    obtain ⟨i, x, rfl, hi, rfl, HR⟩ := hrel
    by_cases hlt : i < L + 1
    · have hci := HC1.out i (by have := HL.out; omega)
      have hbi := ln_le s i (by have := HL.out; omega)
      have hR := HR.out
      rw [if_pos (by omega)] at hR
      have HS : Hid (Round a (if i + 1 ≤ L then nx (ends s) (i + 1) else s.size + 1) (wrap64 (wrap64 (x - (ln s i).size) - 1))) := Lib.hid (by
        have hst := round_step hR ha ha2 (z := (ln s i).size) (by omega)
        by_cases h1 : i + 1 ≤ L
        · rw [if_pos h1, nx_next s i (by have := HL.out; omega)]; exact hst
        · rw [if_neg h1]
          obtain rfl : i = L := by omega
          have e : nx (ends s) i + (ln s i).size = s.size := by
            have := HL.out
            subst this
            have h2 := ln_size s (ends s).length (Nat.le_refl _)
            obtain ⟨k1, k2⟩ := nx_le_en (rise_ends s) (ends s).length (Nat.le_refl _)
            rw [en_last] at h2 k1
            omega
          rw [e] at hst
          exact hst)
      have hx : x < 0 ∨ (0 ≤ x ∧ 9223372036854770000 ≤ x) := by
        obtain ⟨h1, h2, h3⟩ := hR
        omega
      clear HR hR
      generalize (ln s i) = t at hci hbi HS
      have hxr := HS.out.2
      rcases hx with hx | ⟨hx, hx2⟩
      · go_wp2_with fail
        go_round
        case rel => exact ⟨i + 1, _, by go_num, by omega, rfl, HS⟩
        case measure => simp [intOf]; omega
      · go_wp2_with fail
        go_round
        case rel => exact ⟨i + 1, _, by go_num, by omega, rfl, HS⟩
        case measure => simp [intOf]; omega
    · have hbq := bx_block HBX.out HB1.out
      obtain ⟨r0, r1⟩ := two_cells hbq
      obtain ⟨f0, f1⟩ := two_frozen hbq
      clear hbq
      go_wp2_with fail
      refine bodyPost_ret (v := .tuple #[.agg #[.int .i64 0, .int .i64 0], .int .i64 51]) (by simp [results, Tryd.results25, go_sem, r0, r1]) rfl ?_
      first | exact placeAns rfl (((next HBW.out HB1.out).setCell (p := ⟨w.heap.size, 0, none⟩) (Nat.le_refl _) _).setCell (p := ⟨w.heap.size, 1, none⟩) (Nat.le_refl _) _) | exact placeAns rfl (next HBW.out HB1.out)
theorem last_size (s : ByteArray) : nx (ends s) (ends s).length + (ln s (ends s).length).size = s.size := by
  have h2 := ln_size s (ends s).length (Nat.le_refl _)
  obtain ⟨k1, k2⟩ := nx_le_en (rise_ends s) (ends s).length (Nat.le_refl _)
  rw [en_last] at h2 k1
  omega
set_option maxHeartbeats 2000000 in
set_option maxRecDepth 100000 in
theorem refPlace_high (s : ByteArray) (a : Int) (w : World) (hs : s.size ≤ 400) (ha : (s.size : Int) < a) (ha2 : a < 9223372036854775808) :
    Calls Tryd.prog 25 #[.string s, .int .i64 a] w (PlaceAns (placeL s a) w) := by
  rw [placeL_far s a (by omega)]
  obtain ⟨W, hW⟩ : ∃ W, w.alloc (.cells #[.int .i64 0, .int .i64 0] 30) = W := ⟨_, rfl⟩
  have hbw : Below w.heap.size w W := by rw [← hW]; exact (Below.refl _ _).alloc (Nat.le_refl _) _
  have HBX := Lib.hid (show W.heap[w.heap.size]? = some (.cells #[.int .i64 0, .int .i64 0] 30 (0, 0)) by rw [← hW]; exact heap_alloc_new _ _)
  have HBW := Lib.hid hbw
  have cS := split_any s W hs
  have hl := ends_le s
  clear hbw
  go_enter Tryd.func25, Tryd.ntmps25
  go_wp2_with fail
  refine cS.mono ?_
  rintro e w1 ⟨g, cap, rfl, hb1, hg1, hc1⟩
  have HB1 := Lib.hid hb1
  have HC1 := Lib.hid hc1
  obtain ⟨L, hL⟩ : ∃ L, (ends s).length = L := ⟨_, rfl⟩
  have HL := Lib.hid hL
  rw [hL] at hl ⊢
  clear hb1 hc1 cS hW hL
  go_upto_region 3 with fail
  go_loop [1, 7] (fun av iv => ∃ (i k : Nat), iv = .int .i64 i ∧ i ≤ L + 1 ∧ av = .int .i64 (a - k) ∧ Hid (k = if i ≤ L then nx (ends s) i else s.size + 1) ∧ k ≤ s.size + 1) (fun _ iv => L + 1 - (intOf iv).toNat)
  case atStart => exact ⟨0, 0, rfl, by omega, by simp, Lib.hid (by simp [nx_zero]), by omega⟩
  case round =>
    obtain ⟨i, k, rfl, hi, rfl, HK, hk⟩ := hrel
    by_cases hlt : i < L + 1
    · have hci := HC1.out i (by have := HL.out; omega)
      have hbi := ln_le s i (by have := HL.out; omega)
      have hK := HK.out
      rw [if_pos (by omega)] at hK
      have HS : Hid (k + (ln s i).size + 1 = if i + 1 ≤ L then nx (ends s) (i + 1) else s.size + 1) := Lib.hid (by
        by_cases h1 : i + 1 ≤ L
        · rw [if_pos h1, nx_next s i (by have := HL.out; omega), hK]
        · rw [if_neg h1]
          obtain rfl : i = L := by omega
          have := last_size s
          rw [HL.out] at this
          omega)
      have hkz : k + (ln s i).size ≤ s.size := by rw [hK]; exact hbi
      clear HK hK hbi
      generalize (ln s i) = t at hci hkz HS
      have hx1 : 0 ≤ a - (k : Int) := by omega
      have hx2 : ¬ (a - (k : Int) ≤ (t.size : Int)) := by omega
      have hx3 : a - (k : Int) < 9223372036854775808 := by omega
      go_wp2_with fail
      go_round
      case rel => exact ⟨i + 1, k + t.size + 1, by go_num, by omega, by go_num, HS, by omega⟩
      case measure => simp [intOf]; omega
    · have hbq := bx_block HBX.out HB1.out
      obtain ⟨r0, r1⟩ := two_cells hbq
      obtain ⟨f0, f1⟩ := two_frozen hbq
      clear hbq
      go_wp2_with fail
      refine bodyPost_ret (v := .tuple #[.agg #[.int .i64 0, .int .i64 0], .int .i64 51]) (by simp [results, Tryd.results25, go_sem, r0, r1]) rfl ?_
      first | exact placeAns rfl (((next HBW.out HB1.out).setCell (p := ⟨w.heap.size, 0, none⟩) (Nat.le_refl _) _).setCell (p := ⟨w.heap.size, 1, none⟩) (Nat.le_refl _) _) | exact placeAns rfl (next HBW.out HB1.out)

theorem placeL_in (s : ByteArray) (a : Int) (n : Nat) (hn : ahead (ends s) a = n) : placeL s a = if (uniB (ln s n) (a - nx (ends s) n)).2 = 0 then ((n : Int), (uniB (ln s n) (a - nx (ends s) n)).1, 0) else (0, 0, 51) := by
  unfold placeL; rw [hn]
set_option maxHeartbeats 4000000 in
set_option maxRecDepth 100000 in
theorem refPlace_in (s : ByteArray) (a : Int) (w : World) (hs : s.size ≤ 400) (ha0 : 0 ≤ a) (ha : a ≤ s.size) :
    Calls Tryd.prog 25 #[.string s, .int .i64 a] w (PlaceAns (placeL s a) w) := by
  have hnl := ahead_le (ends s) a
  obtain ⟨b1, b2⟩ := ahead_bounds (rise_ends s) a ha0
  have hmono : ∀ i, i < ahead (ends s) a → (en (ends s) s.size i : Int) < nx (ends s) (ahead (ends s) a) := fun i hi => nx_mono (rise_ends s) i _ hi hnl
  have hpl := placeL_in s a _ rfl
  generalize ahead (ends s) a = n at hnl b1 b2 hmono hpl
  have hlen : (en (ends s) s.size n : Int) ≥ a := by
    by_cases h : n < (ends s).length
    · rw [en_at _ _ _ h]; exact b2 h
    · obtain rfl : n = (ends s).length := by omega
      rw [en_last]; exact ha
  have hsz := ln_size s n hnl
  have hle := ln_le s n hnl
  obtain ⟨d, hd⟩ : ∃ d, a - (nx (ends s) n : Int) = d := ⟨_, rfl⟩
  have cU := fun W' => ref_unit (ln s n) d W' (by omega)
  obtain ⟨r, hr⟩ : ∃ r : Int × Int × Int, placeL s a = r := ⟨_, rfl⟩
  rw [hd] at hpl
  have hpr : ((uniB (ln s n) d).2 = 0 ∧ r = ((n : Int), (uniB (ln s n) d).1, 0)) ∨ (((uniB (ln s n) d).2 == 0) = false ∧ r = (0, 0, 51)) := by
    rw [← hr, hpl]
    by_cases h0 : (uniB (ln s n) d).2 = 0
    · rw [if_pos h0]; exact .inl ⟨h0, rfl⟩
    · rw [if_neg h0]; exact .inr ⟨by simpa using h0, rfl⟩
  rw [hr]
  clear hr hpl
  generalize uniB (ln s n) d = p at cU hpr
  obtain ⟨pa, pc⟩ := p
  simp only at hpr
  have CU := Lib.hid cU
  have HMO := Lib.hid hmono
  have HB := Lib.hid b1
  have HLN := Lib.hid hlen
  have HSZ := Lib.hid hsz
  have HD := Lib.hid hd
  have HNL := Lib.hid hnl
  clear cU hmono b1 b2 hlen hsz hd
  obtain ⟨W, hW⟩ : ∃ W, w.alloc (.cells #[.int .i64 0, .int .i64 0] 30) = W := ⟨_, rfl⟩
  have hbw : Below w.heap.size w W := by rw [← hW]; exact (Below.refl _ _).alloc (Nat.le_refl _) _
  have HBX := Lib.hid (show W.heap[w.heap.size]? = some (.cells #[.int .i64 0, .int .i64 0] 30 (0, 0)) by rw [← hW]; exact heap_alloc_new _ _)
  have HBW := Lib.hid hbw
  have cS := split_any s W hs
  have hl := ends_le s
  clear hbw
  rcases hpr with ⟨rfl, rfl⟩ | ⟨hpc, rfl⟩
  all_goals
    go_enter Tryd.func25, Tryd.ntmps25
    go_wp2_with fail
    refine cS.mono ?_
    rintro e w1 ⟨g, cap, rfl, hb1, hg1, hc1⟩
    have HB1 := Lib.hid hb1
    have HC1 := Lib.hid hc1
    obtain ⟨L, hL⟩ : ∃ L, (ends s).length = L := ⟨_, rfl⟩
    have HL := Lib.hid hL
    rw [hL] at hl ⊢
    clear hb1 hc1 cS hW hL
    go_upto_region 3 with fail
    have hnL : n ≤ L := by have := HL.out; have := HNL.out; omega
    go_loop [1, 7] (fun av iv => ∃ i : Nat, iv = .int .i64 i ∧ i ≤ n ∧ av = .int .i64 (a - (nx (ends s) i : Nat)) ∧ nx (ends s) i ≤ 400) (fun _ iv => n - (intOf iv).toNat)
    case atStart => exact ⟨0, rfl, by omega, by simp [nx_zero], by rw [nx_zero]; omega⟩
    case round =>
      obtain ⟨i, rfl, hi, rfl, hk⟩ := hrel
      have hci := HC1.out i (by have := HL.out; omega)
      have hbi := ln_le s i (by have := HL.out; omega)
      have hiL : i < L + 1 := by omega
      by_cases hlt : i < n
      · have hm := HMO.out i hlt
        have hsi := ln_size s i (by have := HL.out; omega)
        have hnn := nx_next s i (by have := HL.out; omega)
        have hnb := HB.out
        have hne := (nx_le_en (rise_ends s) i (by have := HL.out; omega)).1
        have hx1 : 0 ≤ a - (nx (ends s) i : Int) := by omega
        have hx2 : ¬ (a - (nx (ends s) i : Int) ≤ ((ln s i).size : Int)) := by omega
        have HN : Hid (nx (ends s) (i + 1) = nx (ends s) i + (ln s i).size + 1) := Lib.hid hnn
        have HN2 : Hid (nx (ends s) (i + 1) ≤ 400) := Lib.hid (by have := nx_le_en (rise_ends s) (i + 1) (by have := HL.out; omega); omega)
        clear hm hsi hnn hnb hne
        generalize (ln s i) = t at hci hbi HN hx2
        go_wp2_with fail
        go_round
        case rel => exact ⟨i + 1, by go_num, by omega, by rw [HN.out]; go_num, HN2.out⟩
        case measure => simp [intOf]; omega
      · obtain rfl : i = n := by omega
        have hd := HD.out
        have hx1 : 0 ≤ d := by have := HB.out; omega
        have hx2 : d ≤ ((ln s i).size : Int) := by
          have h1 := HLN.out
          have h2 := HSZ.out
          have := (nx_le_en (rise_ends s) i HNL.out).1
          omega
        rw [hd]
        generalize (ln s i) = t at hci hbi hx2 CU
        have CU1 := Lib.hid (CU.out w1)
        clear CU hd
        go_wp2_with fail
        refine CU1.out.mono ?_
        rintro e w2 ⟨rfl, hb2⟩
        have HB2 := Lib.hid (next HB1.out hb2)
        have hbq := bx_block HBX.out HB2.out
        obtain ⟨r0, r1⟩ := two_cells hbq
        obtain ⟨f0, f1⟩ := two_frozen hbq
        clear hb2 hbq CU1
        go_wp2_with fail
        first
          | (refine bodyPost_ret (v := .tuple #[.agg #[.int .i64 i, .int .i64 pa], .int .i64 0]) (by simp [results, Tryd.results25, go_sem, r0, r1]) rfl ?_; exact placeAns rfl (((next HBW.out HB2.out).setCell (p := ⟨w.heap.size, 0, none⟩) (Nat.le_refl _) _).setCell (p := ⟨w.heap.size, 1, none⟩) (Nat.le_refl _) _))
          | (refine bodyPost_ret (v := .tuple #[.agg #[.int .i64 0, .int .i64 0], .int .i64 51]) (by simp [results, Tryd.results25, go_sem, r0, r1]) rfl ?_; first | exact placeAns rfl (((next HBW.out HB2.out).setCell (p := ⟨w.heap.size, 0, none⟩) (Nat.le_refl _) _).setCell (p := ⟨w.heap.size, 1, none⟩) (Nat.le_refl _) _) | exact placeAns rfl (next HBW.out HB2.out))
theorem refPlace_any (s : ByteArray) (a : Int) (w : World) (hs : s.size ≤ 400) (ha : -9223372036854775808 ≤ a ∧ a < 9223372036854775808) :
    Calls Tryd.prog 25 #[.string s, .int .i64 a] w (PlaceAns (placeL s a) w) := by
  by_cases h0 : a < 0
  · exact refPlace_low s a w hs h0 ha.1
  · by_cases h1 : (s.size : Int) < a
    · exact refPlace_high s a w hs h1 ha.2
    · exact refPlace_in s a w hs (by omega) (by omega)
end Go.Proofs.YtlmefchcljfjlaaDoor.L
