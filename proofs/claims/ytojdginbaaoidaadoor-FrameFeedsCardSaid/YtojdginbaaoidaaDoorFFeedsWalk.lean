/- The law FrameFeeds's walk. -/
import Derived.Test.YtojdginbaaoidaaDoorFAll
namespace Go.Proofs.YtojdginbaaoidaaDoor.F
open Go.RowKit
open Go.Lib

theorem dstate_later {c B2 : Nat} {P : List UInt8} {yv : Value} {w0 wr w' : World} (h : DState c B2 P yv w0 wr) (hb : Below wr.heap.size wr w') : DState c B2 P yv w0 w' := by
  obtain ⟨v, h1, h2, h3, h4, h5⟩ := h
  refine ⟨v, h1.below hb, owns_same h2 (fun k hk => hb.block k (h2.lt k hk).2), owns_same h3 (fun k hk => hb.block k (h3.lt k hk).2), h4.trans (hb.mono ?_), Nat.le_trans h5 hb.size⟩
  have := h1.lt
  omega

set_option maxHeartbeats 1000000 in
theorem feeds_short (a : Option Addr) (cap : Nat) (b : List UInt8) (s : ByteArray) (w : World) (hn : b.length ≤ 140737488355328) (hE : EnvF w) (hno : ¬ (s.size ≤ 2000 ∧ b.length ≤ 60)) :
    Calls Tryd.prog 4 #[.string s, .slice a b.length cap] w fun e w' => e = .returned (.bool true) ∧ Below w.heap.size w w' := by
  have cA := alive_any w hE
  clear hE
  by_cases h1 : 2000 < s.size
  · clear hno
    go_enter Tryd.func4, Tryd.ntmps4
    go_wp2_with fail
    refine cA.mono ?_
    rintro e w1 ⟨rfl, hb1⟩
    clear cA
    go_wp2_with fail
    go_ret
    exact ⟨rfl, hb1⟩
  · have h2 : 60 < b.length := by
      apply Nat.lt_of_not_le
      intro h
      exact hno ⟨by omega, h⟩
    clear hno
    go_enter Tryd.func4, Tryd.ntmps4
    go_wp2_with fail
    refine cA.mono ?_
    rintro e w1 ⟨rfl, hb1⟩
    clear cA
    go_wp2_with fail
    go_ret
    exact ⟨rfl, hb1⟩

set_option maxHeartbeats 16000000 in
theorem feeds_long (a : Option Addr) (cap : Nat) (b : List UInt8) (s : ByteArray) (w : World) (hb : LiesAt w a b) (hE : EnvF w) (hs : s.size ≤ 2000) (hbl : b.length ≤ 60) :
    Calls Tryd.prog 4 #[.string s, .slice a b.length cap] w fun e w' => e = .returned (.bool true) ∧ Below w.heap.size w w' := by
  obtain ⟨j0, hj0, hy0, hy1, hy2⟩ := info_parts infoS
  have HL := Lib.hid hb
  have HE := Lib.hid hE
  have hsl : s.data.toList.length = s.size := by simp
  have HSL := Lib.hid hsl
  clear hb hE
  go_enter Tryd.func4, Tryd.ntmps4
  go_wp2_with fail
  refine (new_any w).mono ?_
  rintro e w1 ⟨rfl, hB1, hw1⟩
  have HS0 := Lib.hid (new_state hB1 hw1)
  have hc1 := hB1.lt
  clear hB1 hw1
  go_wp2_with fail
  go_loopw [6, 7, 8] (fun yv av iv wr => ∃ i at' : Nat, iv = .int .i64 i ∧ av = .int .i64 at' ∧ i ≤ b.length + 1 ∧ at' ≤ s.size ∧ Hid (DState w.heap.size w1.heap.size (s.data.toList.take at') yv w wr)) (fun _ _ iv _ => b.length + 1 - (Go.RowKit.intOf iv).toNat)
  case atStart => exact ⟨0, 0, rfl, rfl, by omega, by omega, Lib.hid (by rw [List.take_zero]; exact HS0.out)⟩
  case round =>
    obtain ⟨i, at', rfl, rfl, hi, hat, HS⟩ := hrel
    have hbel : Below w.heap.size w wr := by obtain ⟨_, _, _, _, h, _⟩ := HS.out; exact h
    by_cases hlt : i < b.length
    · obtain ⟨g, off, rfl, hc⟩ := HL.out.resolve_left (fun h => by rw [h] at hlt; exact Nat.not_lt_zero _ hlt)
      have hci : wr.cell? ⟨g, off + i, none⟩ = _ := (hbel.cell (p := ⟨g, off + i, none⟩) (Lib.lt_of_cell (hc i hlt))).trans (hc i hlt)
      have hx8 := (b[i]).toNat_lt
      generalize b[i] = xb at hci hx8
      clear hc hbel
      obtain ⟨n, hn⟩ : ∃ n : Nat, min (xb.toNat : Int) ((s.size : Int) - at') = n := ⟨(min (xb.toNat : Int) ((s.size : Int) - at')).toNat, by omega⟩
      have hn2 : at' + n ≤ s.size := by omega
      have hp := piece s at' n hn2
      have hsT := slice_to s (at' + n) hn2
      rw [show ((at' + n : Nat) : Int) = (at' : Int) + n by omega] at hsT
      have cF := feed_state HS.out hc1 rfl HE.out (s.extract at' (at' + n)) (by have := piece_size s at' n hn2; rw [List.length_take]; omega)
      obtain ⟨Q, hQ⟩ : ∃ Q, s.extract at' (at' + n) = Q := ⟨_, rfl⟩
      have hPQ := piece_list s at' n
      rw [hQ] at cF hp hPQ
      obtain ⟨P2, hP2⟩ : ∃ P2, s.data.toList.take (at' + n) = P2 := ⟨_, rfl⟩
      rw [hP2] at hPQ hsT
      have hP2l : P2.length ≤ 2000 := by rw [← hP2, List.length_take]; omega
      have HPQ := Lib.hid hPQ
      have HP2 := Lib.hid hP2
      clear hPQ hQ hP2
      go_wp2_with fail
      refine cF.mono ?_
      rintro e w4 ⟨x, rfl, hf⟩
      have HF := Lib.hid hf
      obtain ⟨v4, o2, _, _, hy4, ho4, hx4, _, hB4⟩ := hf
      have hol : (goL (s.data.toList.take at' ++ Q.data.toList)).out.length = (goL (s.data.toList.take at')).out.length + o2.length := by rw [ho4, List.length_append]
      have hle1 := goL_out (s.data.toList.take at' ++ Q.data.toList)
      rw [HPQ.out] at hle1
      rw [HPQ.out] at hol
      have HOL := Lib.hid hol
      have hx4l := hx4.2
      clear cF hol
      rcases hx4l with ⟨rfl, ho2⟩ | ⟨gx, cx, cur, rfl, _⟩
      · obtain rfl : o2 = [] := List.eq_nil_of_length_eq_zero ho2
        have HDN := Lib.hid (state_append (w2 := w4) HF.out hc1 (by rw [ho4, List.append_nil]; exact hy4) ⟨rfl, rfl, rfl, Nat.le_refl _, fun _ _ _ => rfl⟩)
        rw [List.append_nil] at ho4
        clear hx4 HF ho4 hB4
        go_wp2_with (at_builtin; refine wpList_append_own_none rfl _ _ 22 rfl w1.heap.size 9 j0 1 Tryd.underlying22 hj0 _ _ _ rfl hy4 rfl ?_)
        have hDN := HDN.out
        rw [HPQ.out] at hDN
        obtain ⟨v5, hb5, hr5, hy5, hbel5, hB25⟩ := hDN
        obtain ⟨yb, yd, hyv⟩ := owns_len hy5
        obtain ⟨vb, vd, rfl⟩ := owns_len hr5
        subst hyv
        have HDS := Lib.hid (show DState w.heap.size w1.heap.size P2 (.slice yb (goL P2).out.length yd) w w4 from ⟨_, hb5, hr5, hy5, hbel5, hB25⟩)
        have HY5 := Lib.hid (owns_texts hy5)
        have HBM5 := Lib.hid hb5
        have cAll := all_any ⟨P2.toArray⟩ w4 (by show P2.length ≤ _; omega)
        have hP2e : (⟨P2.toArray⟩ : ByteArray).data.toList = P2 := rfl
        rw [hP2e] at cAll
        clear hb5 hr5 hy5 hbel5 hB25 hP2e HDN
        go_wp2_with fail
        refine cAll.mono ?_
        rintro e w6 ⟨hb6, x6, rfl, hx6⟩
        obtain ⟨xa6, xc6, rfl⟩ := owns_len hx6
        have cS := strings_any yb xa6 yd xc6 (goL P2).out (goL P2).out w6 (HY5.out.later hb6) (owns_texts hx6) (by have := goL_out P2; omega)
        rw [decide_eq_true rfl] at cS
        have HB6 := Lib.hid hb6
        clear cAll hb6 hx6
        go_wp2_with fail
        refine cS.mono ?_
        rintro e w7 ⟨rfl, q, rfl⟩
        have hdr := below_drewN (Below.refl w6.heap.size w6) q
        have h57 : Below w4.heap.size w4 (w6.drewN q) := HB6.out.trans (hdr.mono HB6.out.size)
        have cL := lost_any _ _ _ (w6.drewN q) (HBM5.out.below h57)
        have cM := left_any _ _ _ _ _ (w6.drewN q) (HBM5.out.below h57)
        have HDS7 := Lib.hid (dstate_later HDS.out h57)
        clear cS hdr h57
        go_wp2_with fail
        refine cL.mono ?_
        rintro e w8 ⟨rfl, rfl⟩
        clear cL
        go_wp2_with fail
        refine cM.mono ?_
        rintro e w8 ⟨rfl, rfl⟩
        clear cM
        go_wp2_with fail
        go_roundw
        case rel => exact ⟨i + 1, at' + n, by go_num, by go_num, by omega, by omega, Lib.hid (by rw [HP2.out]; exact HDS7.out)⟩
        case measure => simp [Go.RowKit.intOf]; omega
      · have hcells := hx4.cells (g := gx) rfl
        have HO4 := Lib.hid ho4
        clear ho4 hx4
        go_wp2_with (at_builtin; refine wpList_append_own _ rfl _ _ 22 rfl w1.heap.size 9 j0 (.string ⟨#[]⟩) 1 16 Tryd.underlying22 hj0 hy0 hy1 hy2 rfl (by decide) _ _ _ rfl hy4 ⟨gx, 0, none⟩ o2.length cx (o2.map strV) rfl ?c1 ?c2 ?c3 ?c4 ?c5 ?c6 ?_)
        case c1 => simp
        case c2 => exact hcells
        case c3 =>
          intro u hu
          simp only [List.mem_map] at hu
          obtain ⟨t, _, rfl⟩ := hu
          rfl
        case c4 => unfold maxLen; have := HOL.out; omega
        case c5 => have := HOL.out; omega
        case c6 => exact hB4
        intro y5 w5 hown5 hg5 _
        have HDN := Lib.hid (state_append HF.out hc1 (by rw [HO4.out, List.length_append, List.map_append]; exact hown5) hg5)
        clear hown5 hg5 hcells hy4 HF HO4 hB4
        have hDN := HDN.out
        rw [HPQ.out] at hDN
        obtain ⟨v5, hb5, hr5, hy5, hbel5, hB25⟩ := hDN
        obtain ⟨yb, yd, hyv⟩ := owns_len hy5
        obtain ⟨vb, vd, rfl⟩ := owns_len hr5
        subst hyv
        have HDS := Lib.hid (show DState w.heap.size w1.heap.size P2 (.slice yb (goL P2).out.length yd) w w5 from ⟨_, hb5, hr5, hy5, hbel5, hB25⟩)
        have HY5 := Lib.hid (owns_texts hy5)
        have HBM5 := Lib.hid hb5
        have cAll := all_any ⟨P2.toArray⟩ w5 (by show P2.length ≤ _; omega)
        have hP2e : (⟨P2.toArray⟩ : ByteArray).data.toList = P2 := rfl
        rw [hP2e] at cAll
        clear hb5 hr5 hy5 hbel5 hB25 hP2e HDN
        go_wp2_with fail
        refine cAll.mono ?_
        rintro e w6 ⟨hb6, x6, rfl, hx6⟩
        obtain ⟨xa6, xc6, rfl⟩ := owns_len hx6
        have cS := strings_any yb xa6 yd xc6 (goL P2).out (goL P2).out w6 (HY5.out.later hb6) (owns_texts hx6) (by have := goL_out P2; omega)
        rw [decide_eq_true rfl] at cS
        have HB6 := Lib.hid hb6
        clear cAll hb6 hx6
        go_wp2_with fail
        refine cS.mono ?_
        rintro e w7 ⟨rfl, q, rfl⟩
        have hdr := below_drewN (Below.refl w6.heap.size w6) q
        have h57 : Below w5.heap.size w5 (w6.drewN q) := HB6.out.trans (hdr.mono HB6.out.size)
        have cL := lost_any _ _ _ (w6.drewN q) (HBM5.out.below h57)
        have cM := left_any _ _ _ _ _ (w6.drewN q) (HBM5.out.below h57)
        have HDS7 := Lib.hid (dstate_later HDS.out h57)
        clear cS hdr h57
        go_wp2_with fail
        refine cL.mono ?_
        rintro e w8 ⟨rfl, rfl⟩
        clear cL
        go_wp2_with fail
        refine cM.mono ?_
        rintro e w8 ⟨rfl, rfl⟩
        clear cM
        go_wp2_with fail
        go_roundw
        case rel => exact ⟨i + 1, at' + n, by go_num, by go_num, by omega, by omega, Lib.hid (by rw [HP2.out]; exact HDS7.out)⟩
        case measure => simp [Go.RowKit.intOf]; omega
    · by_cases hle : i ≤ b.length
      · obtain ⟨n, hn⟩ : ∃ n : Nat, (s.size : Int) - at' = n := ⟨s.size - at', by omega⟩
        clear hbel
        have hn2 : at' + n ≤ s.size := by omega
        have hp := piece s at' n hn2
        have hsT := slice_to s (at' + n) hn2
        rw [show ((at' + n : Nat) : Int) = (at' : Int) + n by omega] at hsT
        have cF := feed_state HS.out hc1 rfl HE.out (s.extract at' (at' + n)) (by have := piece_size s at' n hn2; rw [List.length_take]; omega)
        obtain ⟨Q, hQ⟩ : ∃ Q, s.extract at' (at' + n) = Q := ⟨_, rfl⟩
        have hPQ := piece_list s at' n
        rw [hQ] at cF hp hPQ
        obtain ⟨P2, hP2⟩ : ∃ P2, s.data.toList.take (at' + n) = P2 := ⟨_, rfl⟩
        rw [hP2] at hPQ hsT
        have hP2l : P2.length ≤ 2000 := by rw [← hP2, List.length_take]; omega
        have HPQ := Lib.hid hPQ
        have HP2 := Lib.hid hP2
        clear hPQ hQ hP2
        go_wp2_with fail
        refine cF.mono ?_
        rintro e w4 ⟨x, rfl, hf⟩
        have HF := Lib.hid hf
        obtain ⟨v4, o2, _, _, hy4, ho4, hx4, _, hB4⟩ := hf
        have hol : (goL (s.data.toList.take at' ++ Q.data.toList)).out.length = (goL (s.data.toList.take at')).out.length + o2.length := by rw [ho4, List.length_append]
        have hle1 := goL_out (s.data.toList.take at' ++ Q.data.toList)
        rw [HPQ.out] at hle1
        rw [HPQ.out] at hol
        have HOL := Lib.hid hol
        have hx4l := hx4.2
        clear cF hol
        rcases hx4l with ⟨rfl, ho2⟩ | ⟨gx, cx, cur, rfl, _⟩
        · obtain rfl : o2 = [] := List.eq_nil_of_length_eq_zero ho2
          have HDN := Lib.hid (state_append (w2 := w4) HF.out hc1 (by rw [ho4, List.append_nil]; exact hy4) ⟨rfl, rfl, rfl, Nat.le_refl _, fun _ _ _ => rfl⟩)
          rw [List.append_nil] at ho4
          clear hx4 HF ho4 hB4
          go_wp2_with (at_builtin; refine wpList_append_own_none rfl _ _ 22 rfl w1.heap.size 9 j0 1 Tryd.underlying22 hj0 _ _ _ rfl hy4 rfl ?_)
          have hDN := HDN.out
          rw [HPQ.out] at hDN
          obtain ⟨v5, hb5, hr5, hy5, hbel5, hB25⟩ := hDN
          obtain ⟨yb, yd, hyv⟩ := owns_len hy5
          obtain ⟨vb, vd, rfl⟩ := owns_len hr5
          subst hyv
          have HDS := Lib.hid (show DState w.heap.size w1.heap.size P2 (.slice yb (goL P2).out.length yd) w w4 from ⟨_, hb5, hr5, hy5, hbel5, hB25⟩)
          have HY5 := Lib.hid (owns_texts hy5)
          have HBM5 := Lib.hid hb5
          have cAll := all_any ⟨P2.toArray⟩ w4 (by show P2.length ≤ _; omega)
          have hP2e : (⟨P2.toArray⟩ : ByteArray).data.toList = P2 := rfl
          rw [hP2e] at cAll
          clear hb5 hr5 hy5 hbel5 hB25 hP2e HDN
          go_wp2_with fail
          refine cAll.mono ?_
          rintro e w6 ⟨hb6, x6, rfl, hx6⟩
          obtain ⟨xa6, xc6, rfl⟩ := owns_len hx6
          have cS := strings_any yb xa6 yd xc6 (goL P2).out (goL P2).out w6 (HY5.out.later hb6) (owns_texts hx6) (by have := goL_out P2; omega)
          rw [decide_eq_true rfl] at cS
          have HB6 := Lib.hid hb6
          clear cAll hb6 hx6
          go_wp2_with fail
          refine cS.mono ?_
          rintro e w7 ⟨rfl, q, rfl⟩
          have hdr := below_drewN (Below.refl w6.heap.size w6) q
          have h57 : Below w4.heap.size w4 (w6.drewN q) := HB6.out.trans (hdr.mono HB6.out.size)
          have cL := lost_any _ _ _ (w6.drewN q) (HBM5.out.below h57)
          have cM := left_any _ _ _ _ _ (w6.drewN q) (HBM5.out.below h57)
          have HDS7 := Lib.hid (dstate_later HDS.out h57)
          clear cS hdr h57
          go_wp2_with fail
          refine cL.mono ?_
          rintro e w8 ⟨rfl, rfl⟩
          clear cL
          go_wp2_with fail
          refine cM.mono ?_
          rintro e w8 ⟨rfl, rfl⟩
          clear cM
          go_wp2_with fail
          go_roundw
          case rel => exact ⟨i + 1, at' + n, by go_num, by go_num, by omega, by omega, Lib.hid (by rw [HP2.out]; exact HDS7.out)⟩
          case measure => simp [Go.RowKit.intOf]; omega
        · have hcells := hx4.cells (g := gx) rfl
          have HO4 := Lib.hid ho4
          clear ho4 hx4
          go_wp2_with (at_builtin; refine wpList_append_own _ rfl _ _ 22 rfl w1.heap.size 9 j0 (.string ⟨#[]⟩) 1 16 Tryd.underlying22 hj0 hy0 hy1 hy2 rfl (by decide) _ _ _ rfl hy4 ⟨gx, 0, none⟩ o2.length cx (o2.map strV) rfl ?c1 ?c2 ?c3 ?c4 ?c5 ?c6 ?_)
          case c1 => simp
          case c2 => exact hcells
          case c3 =>
            intro u hu
            simp only [List.mem_map] at hu
            obtain ⟨t, _, rfl⟩ := hu
            rfl
          case c4 => unfold maxLen; have := HOL.out; omega
          case c5 => have := HOL.out; omega
          case c6 => exact hB4
          intro y5 w5 hown5 hg5 _
          have HDN := Lib.hid (state_append HF.out hc1 (by rw [HO4.out, List.length_append, List.map_append]; exact hown5) hg5)
          clear hown5 hg5 hcells hy4 HF HO4 hB4
          have hDN := HDN.out
          rw [HPQ.out] at hDN
          obtain ⟨v5, hb5, hr5, hy5, hbel5, hB25⟩ := hDN
          obtain ⟨yb, yd, hyv⟩ := owns_len hy5
          obtain ⟨vb, vd, rfl⟩ := owns_len hr5
          subst hyv
          have HDS := Lib.hid (show DState w.heap.size w1.heap.size P2 (.slice yb (goL P2).out.length yd) w w5 from ⟨_, hb5, hr5, hy5, hbel5, hB25⟩)
          have HY5 := Lib.hid (owns_texts hy5)
          have HBM5 := Lib.hid hb5
          have cAll := all_any ⟨P2.toArray⟩ w5 (by show P2.length ≤ _; omega)
          have hP2e : (⟨P2.toArray⟩ : ByteArray).data.toList = P2 := rfl
          rw [hP2e] at cAll
          clear hb5 hr5 hy5 hbel5 hB25 hP2e HDN
          go_wp2_with fail
          refine cAll.mono ?_
          rintro e w6 ⟨hb6, x6, rfl, hx6⟩
          obtain ⟨xa6, xc6, rfl⟩ := owns_len hx6
          have cS := strings_any yb xa6 yd xc6 (goL P2).out (goL P2).out w6 (HY5.out.later hb6) (owns_texts hx6) (by have := goL_out P2; omega)
          rw [decide_eq_true rfl] at cS
          have HB6 := Lib.hid hb6
          clear cAll hb6 hx6
          go_wp2_with fail
          refine cS.mono ?_
          rintro e w7 ⟨rfl, q, rfl⟩
          have hdr := below_drewN (Below.refl w6.heap.size w6) q
          have h57 : Below w5.heap.size w5 (w6.drewN q) := HB6.out.trans (hdr.mono HB6.out.size)
          have cL := lost_any _ _ _ (w6.drewN q) (HBM5.out.below h57)
          have cM := left_any _ _ _ _ _ (w6.drewN q) (HBM5.out.below h57)
          have HDS7 := Lib.hid (dstate_later HDS.out h57)
          clear cS hdr h57
          go_wp2_with fail
          refine cL.mono ?_
          rintro e w8 ⟨rfl, rfl⟩
          clear cL
          go_wp2_with fail
          refine cM.mono ?_
          rintro e w8 ⟨rfl, rfl⟩
          clear cM
          go_wp2_with fail
          go_roundw
          case rel => exact ⟨i + 1, at' + n, by go_num, by go_num, by omega, by omega, Lib.hid (by rw [HP2.out]; exact HDS7.out)⟩
          case measure => simp [Go.RowKit.intOf]; omega
      · have cA := alive_any wr (HE.out.later hbel)
        have HB := Lib.hid hbel
        clear hbel
        go_wp2_with fail
        refine cA.mono ?_
        rintro e w2 ⟨rfl, hb2⟩
        have HB2 := Lib.hid (HB.out.trans (hb2.mono HB.out.size))
        clear cA hb2
        go_wp2_with fail
        go_ret
        exact ⟨rfl, HB2.out⟩
theorem feeds_walk (a : Option Addr) (cap : Nat) (b : List UInt8) (s : ByteArray) (w : World) (hb : LiesAt w a b) (hn : b.length ≤ 140737488355328) (hE : EnvF w) :
    Calls Tryd.prog 4 #[.string s, .slice a b.length cap] w fun e w' => e = .returned (.bool true) ∧ Below w.heap.size w w' := by
  by_cases h : s.size ≤ 2000 ∧ b.length ≤ 60
  · exact feeds_long a cap b s w hb hE h.1 h.2
  · exact feeds_short a cap b s w hn hE h
end Go.Proofs.YtojdginbaaoidaaDoor.F
