/- The law FrameCut's walk. -/
import Derived.Test.YtojdginbaaoidaaDoorFState
import Derived.Laws.AppendOwnNone
namespace Go.Proofs.YtojdginbaaoidaaDoor.F
open Go.RowKit
open Go.Lib

/-- A piece of a text. -/
theorem piece (s : ByteArray) (at' n : Nat) (h : at' + n ≤ s.size) : ∀ W, (Instr.slice 9 (.string s) (some (.int .i64 at')) (some (.int .i64 ((at' : Int) + n))) none).run Tryd.prog W = .ok (.string (s.extract at' (at' + n))) W := fun W => by
  rw [run_slice_string W _ _ _ _ _ _ Tryd.underlying9 (by omega) (by omega) (by omega)]
  have e1 : ((at' : Int)).toNat = at' := by omega
  have e2 : ((at' : Int) + n).toNat = at' + n := by omega
  rw [e1, e2]
theorem piece_list (s : ByteArray) (at' n : Nat) : s.data.toList.take at' ++ (s.extract at' (at' + n)).data.toList = s.data.toList.take (at' + n) := by
  rw [ByteArray.data_extract, Array.toList_extract, List.extract_eq_take_drop, show at' + n - at' = n by omega]
  rw [List.take_add]
theorem piece_size (s : ByteArray) (at' n : Nat) (h : at' + n ≤ s.size) : (s.extract at' (at' + n)).size = n := by
  rw [ByteArray.size_extract]; omega

set_option maxHeartbeats 1000000 in
theorem cut_short (a : Option Addr) (cap : Nat) (b : List UInt8) (s : ByteArray) (w : World) (hn : b.length ≤ 140737488355328) (hE : EnvF w) (hno : ¬ (s.size ≤ 2000 ∧ b.length ≤ 60)) :
    Calls Tryd.prog 5 #[.string s, .slice a b.length cap] w fun e w' => e = .returned (.bool true) ∧ Below w.heap.size w w' := by
  have cA := alive_any w hE
  clear hE
  by_cases h1 : 2000 < s.size
  · clear hno
    go_enter Tryd.func5, Tryd.ntmps5
    go_wp2_with fail
    refine cA.mono ?_
    rintro e w1 ⟨rfl, hb1⟩
    clear cA
    go_wp2_with fail
    go_ret
    exact ⟨rfl, hb1⟩
  · have h2 : 60 < b.length := by
      apply Nat.lt_of_not_le
      intro h
      exact hno ⟨by omega, h⟩
    clear hno
    go_enter Tryd.func5, Tryd.ntmps5
    go_wp2_with fail
    refine cA.mono ?_
    rintro e w1 ⟨rfl, hb1⟩
    clear cA
    go_wp2_with fail
    go_ret
    exact ⟨rfl, hb1⟩

set_option maxHeartbeats 8000000 in
theorem cut_long (a : Option Addr) (cap : Nat) (b : List UInt8) (s : ByteArray) (w : World) (hb : LiesAt w a b) (hE : EnvF w) (hs : s.size ≤ 2000) (hbl : b.length ≤ 60) :
    Calls Tryd.prog 5 #[.string s, .slice a b.length cap] w fun e w' => e = .returned (.bool true) ∧ Below w.heap.size w w' := by
  obtain ⟨j0, hj0, hy0, hy1, hy2⟩ := info_parts infoS
  have HL := Lib.hid hb
  have HE := Lib.hid hE
  have hall := goL_all _ s.data.toList (Nat.le_refl _)
  have hout := goL_out s.data.toList
  have hsl : s.data.toList.length = s.size := by simp
  obtain ⟨G, hG⟩ : ∃ G, goL s.data.toList = G := ⟨_, rfl⟩
  rw [hG, hsl] at hall
  rw [hG, hsl] at hout
  have hok := (okL_iff _).2 hall.2
  obtain ⟨T, hT⟩ : ∃ T, encL G.out = T := ⟨_, rfl⟩
  rw [hT] at hall
  have HSUM := Lib.hid hall.1
  have HOK := Lib.hid hok
  have HT := Lib.hid hT
  have HG := Lib.hid hG
  have HOUT := Lib.hid hout
  clear hb hE hall hsl hG hok hT hout
  go_enter Tryd.func5, Tryd.ntmps5
  go_wp2_with fail
  refine (new_any w).mono ?_
  rintro e w1 ⟨rfl, hB1, hw1⟩
  have cD := feed_new w.heap.size s w1 hB1 ((Env.start HE.out).later hw1) (by omega)
  rw [HG.out] at cD
  have HW1 := Lib.hid hw1
  clear hw1 hB1
  go_wp2_with fail
  refine cD.mono ?_
  rintro e w2 ⟨hb2, xa, xc, va, vc, rfl, hx2, hB2⟩
  have HX2 := Lib.hid hx2
  have HD2 := Lib.hid hB2
  have HW2 := Lib.hid (HW1.out.trans hb2)
  clear cD hb2 hx2 hB2
  go_wp2_with fail
  refine (new_any w2).mono ?_
  rintro e w3 ⟨rfl, hB3, hw3⟩
  have HS0 := Lib.hid (new_state hB3 hw3)
  have hc3 := hB3.lt
  have hE2 := HE.out.later HW2.out
  have HE2 := Lib.hid hE2
  clear hB3 hw3 hE2
  go_wp2_with fail
  go_loopw [8, 9, 10] (fun yv av iv wr => ∃ i at' : Nat, iv = .int .i64 i ∧ av = .int .i64 at' ∧ i ≤ b.length ∧ at' ≤ s.size ∧ Hid (DState w2.heap.size w3.heap.size (s.data.toList.take at') yv w2 wr)) (fun _ _ iv _ => b.length - (Go.RowKit.intOf iv).toNat)
  case atStart => exact ⟨0, 0, rfl, rfl, by omega, by omega, Lib.hid (by rw [List.take_zero]; exact HS0.out)⟩
  case round =>
    obtain ⟨i, at', rfl, rfl, hi, hat, HS⟩ := hrel
    have hbel : Below w2.heap.size w2 wr := by obtain ⟨_, _, _, _, h, _⟩ := HS.out; exact h
    by_cases hlt : i < b.length
    · obtain ⟨g, off, rfl, hc⟩ := HL.out.resolve_left (fun h => by rw [h] at hlt; exact Nat.not_lt_zero _ hlt)
      have hb0w : Below w.heap.size w wr := HW2.out.trans (hbel.mono HW2.out.size)
      have hci : wr.cell? ⟨g, off + i, none⟩ = _ := (hb0w.cell (p := ⟨g, off + i, none⟩) (Lib.lt_of_cell (hc i hlt))).trans (hc i hlt)
      have hx8 := (b[i]).toNat_lt
      generalize b[i] = xb at hci hx8
      clear hc hb0w
      obtain ⟨n, hn⟩ : ∃ n : Nat, min (xb.toNat : Int) ((s.size : Int) - at') = n := ⟨(min (xb.toNat : Int) ((s.size : Int) - at')).toNat, by omega⟩
      have hn2 : at' + n ≤ s.size := by omega
      have hp := piece s at' n hn2
      have cF := feed_state HS.out hc3 rfl HE2.out (s.extract at' (at' + n)) (by have := piece_size s at' n hn2; simp; omega)
      obtain ⟨Q, hQ⟩ : ∃ Q, s.extract at' (at' + n) = Q := ⟨_, rfl⟩
      have hPQ := piece_list s at' n
      rw [hQ] at cF hp hPQ
      have HPQ := Lib.hid hPQ
      clear hPQ
      go_wp2_with fail
      refine cF.mono ?_
      rintro e w4 ⟨x, rfl, hf⟩
      have HF := Lib.hid hf
      obtain ⟨v4, o2, _, _, hy4, ho4, hx4, _, hB4⟩ := hf
      have hol : (goL (s.data.toList.take at' ++ Q.data.toList)).out.length = (goL (s.data.toList.take at')).out.length + o2.length := by rw [ho4, List.length_append]
      have hle1 := goL_out (s.data.toList.take at' ++ Q.data.toList)
      rw [HPQ.out] at hle1
      have hle2 : (s.data.toList.take (at' + n)).length ≤ s.data.toList.length := by rw [List.length_take]; omega
      have hle3 : s.data.toList.length = s.size := by simp
      rw [HPQ.out] at hol
      have HOL := Lib.hid hol
      have hx4l := hx4.2
      clear cF hol
      rcases hx4l with ⟨rfl, ho2⟩ | ⟨gx, cx, cur, rfl, _⟩
      · obtain rfl : o2 = [] := List.eq_nil_of_length_eq_zero ho2
        have HDN := Lib.hid (state_append (w2 := w4) HF.out hc3 (by rw [ho4, List.append_nil]; exact hy4) ⟨rfl, rfl, rfl, Nat.le_refl _, fun _ _ _ => rfl⟩)
        rw [List.append_nil] at ho4
        clear hx4 HF ho4 hB4
        go_wp2_with (at_builtin; refine wpList_append_own_none rfl _ _ 22 rfl w3.heap.size 9 j0 1 Tryd.underlying22 hj0 _ _ _ rfl hy4 rfl ?_)
        go_wp2_with fail
        go_roundw
        case rel => exact ⟨i + 1, at' + n, by go_num, by go_num, by omega, by omega, Lib.hid (by have := HDN.out; rw [HPQ.out] at this; exact this)⟩
        case measure => simp [Go.RowKit.intOf]; omega
      · have hcells := hx4.cells (g := gx) rfl
        have HO4 := Lib.hid ho4
        clear ho4 hx4
        go_wp2_with (at_builtin; refine wpList_append_own _ rfl _ _ 22 rfl w3.heap.size 9 j0 (.string ⟨#[]⟩) 1 16 Tryd.underlying22 hj0 hy0 hy1 hy2 rfl (by decide) _ _ _ rfl hy4 ⟨gx, 0, none⟩ o2.length cx (o2.map strV) rfl ?c1 ?c2 ?c3 ?c4 ?c5 ?c6 ?_)
        case c1 => simp
        case c2 => exact hcells
        case c3 =>
          intro u hu
          simp only [List.mem_map] at hu
          obtain ⟨t, _, rfl⟩ := hu
          rfl
        case c4 => unfold maxLen; have := HOL.out; omega
        case c5 => have := HOL.out; omega
        case c6 => exact hB4
        intro y5 w5 hown5 hg5 _
        have HDN := Lib.hid (state_append HF.out hc3 (by rw [HO4.out, List.length_append, List.map_append]; exact hown5) hg5)
        clear hown5 hg5 hcells hy4 HF HO4 hB4
        go_wp2_with fail
        go_roundw
        case rel => exact ⟨i + 1, at' + n, by go_num, by go_num, by omega, by omega, Lib.hid (by have := HDN.out; rw [HPQ.out] at this; exact this)⟩
        case measure => simp [Go.RowKit.intOf]; omega
    · have hn2 : at' + (s.size - at') ≤ s.size := by omega
      have cF := feed_state HS.out hc3 rfl HE2.out (s.extract at' s.size) (by rw [ByteArray.size_extract]; simp; omega)
      have hPQ := piece_list s at' (s.size - at')
      rw [show at' + (s.size - at') = s.size by omega] at hPQ
      obtain ⟨Q, hQ⟩ : ∃ Q, s.extract at' s.size = Q := ⟨_, rfl⟩
      rw [hQ] at cF hPQ
      rw [List.take_of_length_le (l := s.data.toList) (i := s.size) (by simp)] at hPQ
      have HPQ := Lib.hid hPQ
      clear hPQ
      go_wp2_with fail
      refine cF.mono ?_
      rintro e w4 ⟨x, rfl, hf⟩
      have HF := Lib.hid hf
      obtain ⟨v4, o2, _, _, hy4, ho4, hx4, _, hB4⟩ := hf
      have hol : (goL (s.data.toList.take at' ++ Q.data.toList)).out.length = (goL (s.data.toList.take at')).out.length + o2.length := by rw [ho4, List.length_append]
      have hle1 := goL_out (s.data.toList.take at' ++ Q.data.toList)
      rw [HPQ.out] at hle1
      have hle3 : s.data.toList.length = s.size := by simp
      rw [HPQ.out] at hol
      have HOL := Lib.hid hol
      have hx4l := hx4.2
      clear cF hol
      rcases hx4l with ⟨rfl, ho2⟩ | ⟨gx, cx, cur, rfl, _⟩
      · obtain rfl : o2 = [] := List.eq_nil_of_length_eq_zero ho2
        have HDN := Lib.hid (state_append (w2 := w4) HF.out hc3 (by rw [ho4, List.append_nil]; exact hy4) ⟨rfl, rfl, rfl, Nat.le_refl _, fun _ _ _ => rfl⟩)
        rw [List.append_nil] at ho4
        clear hx4 HF ho4 hB4
        go_wp2_with (at_builtin; refine wpList_append_own_none rfl _ _ 22 rfl w3.heap.size 9 j0 1 Tryd.underlying22 hj0 _ _ _ rfl hy4 rfl ?_)
        have hDN := HDN.out
        rw [HPQ.out] at hDN
        obtain ⟨v5, hb5, hr5, hy5, hbel5, _⟩ := hDN
        rw [HG.out] at hb5 hr5 hy5
        obtain ⟨yb, yd, rfl⟩ := owns_len hy5
        obtain ⟨vb, vd, rfl⟩ := owns_len hr5
        have HY5 := Lib.hid (owns_texts hy5)
        have HBM5 := Lib.hid hb5
        have HB5 := Lib.hid hbel5
        have cE := encode_any xa xc G.out w4 (HX2.out.later hbel5) (by rw [HT.out]; have := HSUM.out; omega) (by have := HOUT.out; omega) (HE2.out.later hbel5)
        unfold Encodes at cE
        rw [HOK.out, HT.out] at cE
        simp only [if_true] at cE
        clear hb5 hr5 hy5 hbel5 HDN
        go_wp2_with fail
        refine cE.mono ?_
        rintro e w6 ⟨rfl, hb6⟩
        have HB6 := Lib.hid (HB5.out.trans (hb6.mono HB5.out.size))
        have HY6 := Lib.hid (HY5.out.later hb6)
        have HBM6 := Lib.hid (HBM5.out.below hb6)
        clear cE hb6
        go_wp2_with fail
        refine (alive_any w6 (HE2.out.later HB6.out)).mono ?_
        rintro e w7 ⟨rfl, hb7⟩
        have HB7 := Lib.hid (HB6.out.trans (hb7.mono HB6.out.size))
        have hbm7 := HBM6.out.below hb7
        have cS := strings_any xa yb xc yd G.out G.out w7 (HX2.out.later HB7.out) (HY6.out.later hb7) (by have := HOUT.out; omega)
        rw [decide_eq_true rfl] at cS
        have hd7 := HD2.out.below HB7.out
        clear hb7
        go_wp2_with fail
        refine cS.mono ?_
        rintro e w8 ⟨rfl, q, rfl⟩
        have hdr := below_drewN (Below.refl w7.heap.size w7) q
        have cL1 := lost_any _ _ _ (w7.drewN q) (hd7.below hdr)
        have cL2 := lost_any _ _ _ (w7.drewN q) (hbm7.below hdr)
        have cM1 := left_any _ _ _ _ _ (w7.drewN q) (hd7.below hdr)
        have cM2 := left_any _ _ _ _ _ (w7.drewN q) (hbm7.below hdr)
        have HFIN := Lib.hid (HW2.out.trans ((HB7.out.trans (hdr.mono HB7.out.size)).mono HW2.out.size))
        clear cS hdr hd7 hbm7
        go_wp2_with fail
        refine cL1.mono ?_
        rintro e w9 ⟨rfl, rfl⟩
        go_wp2_with fail
        refine cL2.mono ?_
        rintro e w9 ⟨rfl, rfl⟩
        go_wp2_with fail
        refine cM1.mono ?_
        rintro e w9 ⟨rfl, rfl⟩
        go_wp2_with fail
        refine cM2.mono ?_
        rintro e w9 ⟨rfl, rfl⟩
        go_wp2_with fail
        refine cL1.mono ?_
        rintro e w9 ⟨rfl, rfl⟩
        have hsum : (G.lost : Int) + (T.length : Int) + (G.left.length : Int) = (s.size : Int) := by have := HSUM.out; omega
        have hTs : (⟨T.toArray⟩ : ByteArray).size = T.length := rfl
        go_wp2_with fail
        refine cM1.mono ?_
        rintro e w9 ⟨rfl, rfl⟩
        go_wp2_with fail
        go_ret
        exact ⟨rfl, HFIN.out⟩
      · have hcells := hx4.cells (g := gx) rfl
        have HO4 := Lib.hid ho4
        clear ho4 hx4
        go_wp2_with (at_builtin; refine wpList_append_own _ rfl _ _ 22 rfl w3.heap.size 9 j0 (.string ⟨#[]⟩) 1 16 Tryd.underlying22 hj0 hy0 hy1 hy2 rfl (by decide) _ _ _ rfl hy4 ⟨gx, 0, none⟩ o2.length cx (o2.map strV) rfl ?c1 ?c2 ?c3 ?c4 ?c5 ?c6 ?_)
        case c1 => simp
        case c2 => exact hcells
        case c3 =>
          intro u hu
          simp only [List.mem_map] at hu
          obtain ⟨t, _, rfl⟩ := hu
          rfl
        case c4 => unfold maxLen; have := HOL.out; omega
        case c5 => have := HOL.out; omega
        case c6 => exact hB4
        intro y5 w5 hown5 hg5 _
        have HDN := Lib.hid (state_append HF.out hc3 (by rw [HO4.out, List.length_append, List.map_append]; exact hown5) hg5)
        clear hown5 hg5 hcells hy4 HF HO4 hB4
        have hDN := HDN.out
        rw [HPQ.out] at hDN
        obtain ⟨v5, hb5, hr5, hy5, hbel5, _⟩ := hDN
        rw [HG.out] at hb5 hr5 hy5
        obtain ⟨yb, yd, rfl⟩ := owns_len hy5
        obtain ⟨vb, vd, rfl⟩ := owns_len hr5
        have HY5 := Lib.hid (owns_texts hy5)
        have HBM5 := Lib.hid hb5
        have HB5 := Lib.hid hbel5
        have cE := encode_any xa xc G.out w5 (HX2.out.later hbel5) (by rw [HT.out]; have := HSUM.out; omega) (by have := HOUT.out; omega) (HE2.out.later hbel5)
        unfold Encodes at cE
        rw [HOK.out, HT.out] at cE
        simp only [if_true] at cE
        clear hb5 hr5 hy5 hbel5 HDN
        go_wp2_with fail
        refine cE.mono ?_
        rintro e w6 ⟨rfl, hb6⟩
        have HB6 := Lib.hid (HB5.out.trans (hb6.mono HB5.out.size))
        have HY6 := Lib.hid (HY5.out.later hb6)
        have HBM6 := Lib.hid (HBM5.out.below hb6)
        clear cE hb6
        go_wp2_with fail
        refine (alive_any w6 (HE2.out.later HB6.out)).mono ?_
        rintro e w7 ⟨rfl, hb7⟩
        have HB7 := Lib.hid (HB6.out.trans (hb7.mono HB6.out.size))
        have hbm7 := HBM6.out.below hb7
        have cS := strings_any xa yb xc yd G.out G.out w7 (HX2.out.later HB7.out) (HY6.out.later hb7) (by have := HOUT.out; omega)
        rw [decide_eq_true rfl] at cS
        have hd7 := HD2.out.below HB7.out
        clear hb7
        go_wp2_with fail
        refine cS.mono ?_
        rintro e w8 ⟨rfl, q, rfl⟩
        have hdr := below_drewN (Below.refl w7.heap.size w7) q
        have cL1 := lost_any _ _ _ (w7.drewN q) (hd7.below hdr)
        have cL2 := lost_any _ _ _ (w7.drewN q) (hbm7.below hdr)
        have cM1 := left_any _ _ _ _ _ (w7.drewN q) (hd7.below hdr)
        have cM2 := left_any _ _ _ _ _ (w7.drewN q) (hbm7.below hdr)
        have HFIN := Lib.hid (HW2.out.trans ((HB7.out.trans (hdr.mono HB7.out.size)).mono HW2.out.size))
        clear cS hdr hd7 hbm7
        go_wp2_with fail
        refine cL1.mono ?_
        rintro e w9 ⟨rfl, rfl⟩
        go_wp2_with fail
        refine cL2.mono ?_
        rintro e w9 ⟨rfl, rfl⟩
        go_wp2_with fail
        refine cM1.mono ?_
        rintro e w9 ⟨rfl, rfl⟩
        go_wp2_with fail
        refine cM2.mono ?_
        rintro e w9 ⟨rfl, rfl⟩
        go_wp2_with fail
        refine cL1.mono ?_
        rintro e w9 ⟨rfl, rfl⟩
        have hsum : (G.lost : Int) + (T.length : Int) + (G.left.length : Int) = (s.size : Int) := by have := HSUM.out; omega
        have hTs : (⟨T.toArray⟩ : ByteArray).size = T.length := rfl
        go_wp2_with fail
        refine cM1.mono ?_
        rintro e w9 ⟨rfl, rfl⟩
        go_wp2_with fail
        go_ret
        exact ⟨rfl, HFIN.out⟩
theorem cut_walk (a : Option Addr) (cap : Nat) (b : List UInt8) (s : ByteArray) (w : World) (hb : LiesAt w a b) (hn : b.length ≤ 140737488355328) (hE : EnvF w) :
    Calls Tryd.prog 5 #[.string s, .slice a b.length cap] w fun e w' => e = .returned (.bool true) ∧ Below w.heap.size w w' := by
  by_cases h : s.size ≤ 2000 ∧ b.length ≤ 60
  · exact cut_long a cap b s w hb hE h.1 h.2
  · exact cut_short a cap b s w hn hE h
end Go.Proofs.YtojdginbaaoidaaDoor.F
