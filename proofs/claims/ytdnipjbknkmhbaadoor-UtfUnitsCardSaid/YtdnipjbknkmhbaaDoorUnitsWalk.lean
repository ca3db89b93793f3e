/- The walk of the statement 'units' of layer 1: at every list of texts it answers true. Condition: at most 2^44 texts, of at most 2^48 bytes each (what a list that is read may hold). -/
import Derived.Test.YtdnipjbknkmhbaaDoorRef
namespace Go.Proofs.YtdnipjbknkmhbaaDoor.U
open Go.RowKit
open Go.Lib hiding intOf

def FitsPost (ss : List ByteArray) (w : World) (e : Ending) (w' : World) : Prop := ∃ b : Bool, e = .returned (.bool b) ∧ w = w' ∧ (b = true → bytes ss ≤ 400 ∧ ss.length < 20)
theorem fits_empty (ad : Option Addr) (cap : Nat) (w : World) : Calls Tryd.prog 16 #[.slice ad 0 cap] w fun e w' => e = .returned (.bool true) ∧ w = w' := by
  go_enter Tryd.func16, Tryd.ntmps16
  go_wp2
  go_loop [3, 4] (fun nv iv => nv = .int .i64 0 ∧ iv = .int .i64 0) (fun _ _ => 0)
  case atStart => exact ⟨rfl, rfl⟩
  case round =>
    obtain ⟨rfl, rfl⟩ := hrel
    go_wp2
    go_ret
    exact ⟨rfl, rfl⟩
set_option maxRecDepth 100000 in
theorem fits_any (b o cap n : Nat) (ss : List ByteArray) (w : World) (hn : ss.length = n) (hn2 : n ≤ 17592186044416) (hc : Holds w b o ss) (hsz : ∀ s ∈ ss, s.size ≤ 281474976710656) :
    Calls Tryd.prog 16 #[.slice (some ⟨b, o, none⟩) n cap] w (FitsPost ss w) := by
  have HC := Lib.hid hc
  have HN := Lib.hid hn
  have HZ := Lib.hid hsz
  have HB : Hid (0 + bytes (ss.drop 0) = bytes ss) := Nat.zero_add _
  clear hc hn hsz
  go_enter Tryd.func16, Tryd.ntmps16
  go_wp2
  go_loop [3, 4] (fun nv iv => ∃ acc i : Nat, nv = .int .i64 acc ∧ iv = .int .i64 i ∧ i ≤ n ∧ i ≤ 20 ∧ acc ≤ 400 ∧ Hid (acc + bytes (ss.drop i) = bytes ss)) (fun _ iv => 20 - (intOf iv).toNat)
  case atStart => exact ⟨0, 0, rfl, rfl, by omega, by omega, by omega, HB⟩
  case round =>
    obtain ⟨acc, i, rfl, rfl, hi, hi2, hacc, HI⟩ := hrel
    by_cases hlt : i < n
    · by_cases h20 : i < 20
      · have hll : i < ss.length := by rw [HN.out]; exact hlt
        have hcell := HC.out i hll
        have hst := bytes_step ss i hll
        have hmem := HZ.out _ (getD_mem ss i hll)
        obtain ⟨s, hs⟩ : ∃ s, ss.getD i ByteArray.empty = s := ⟨_, rfl⟩
        rw [hs] at hcell hst hmem
        have HS := Lib.hid hst
        clear hst hs hll HC HZ HB
        by_cases h4 : 400 < acc + s.size
        · have h4z : (400 : Int) < (acc : Int) + (s.size : Int) := by omega
          go_wp2
          go_ret
          exact ⟨false, rfl, rfl, by intro h; cases h⟩
        · have h4z : ¬ (400 : Int) < (acc : Int) + (s.size : Int) := by omega
          have hnx : Hid ((acc + s.size) + bytes (ss.drop (i + 1)) = bytes ss) := Lib.hid (by have h1 := HI.out; have h2 := HS.out; omega)
          go_wp2
          go_round
          case rel => exact ⟨acc + s.size, i + 1, by go_num, by go_num, by omega, by omega, by omega, hnx⟩
          case measure => simp [intOf]; omega
      · have hbig : ¬ (n : Int) < 20 := by omega
        have h20z : ¬ (i : Int) < 20 := by omega
        go_wp2
        go_ret
        exact ⟨false, rfl, rfl, by intro h; cases h⟩
    · have hall : Hid (bytes ss ≤ 400) := Lib.hid (by
        have h1 := HI.out
        rw [List.drop_eq_nil_of_le (by rw [HN.out]; omega)] at h1
        simp only [bytes] at h1; omega)
      by_cases h20 : n < 20
      · have hsm : (n : Int) < 20 := by omega
        go_wp2
        go_ret
        exact ⟨true, rfl, rfl, fun _ => ⟨hall.out, by rw [HN.out]; exact h20⟩⟩
      · have hbig : ¬ (n : Int) < 20 := by omega
        go_wp2
        go_ret
        exact ⟨false, rfl, rfl, by intro h; cases h⟩
theorem ref_units_empty (ad : Option Addr) (cap : Nat) (w : World) : Calls Tryd.prog 18 #[.slice ad 0 cap] w fun e w' => e = .returned (.tuple #[.int .i64 0, .int .i64 0]) ∧ Below w.heap.size w w' := by
  go_enter Tryd.func18, Tryd.ntmps18
  go_wp2
  go_loop [4, 5] (fun nv iv => nv = .int .i64 0 ∧ iv = .int .i64 0) (fun _ _ => 0)
  case atStart => exact ⟨rfl, rfl⟩
  case round =>
    obtain ⟨rfl, rfl⟩ := hrel
    go_wp2
    go_ret2
    exact ⟨rfl, Below.refl _ _⟩
theorem units_empty (ad : Option Addr) (cap : Nat) (w : World) : Calls Tryd.prog 17 #[.slice ad 0 cap] w fun e w' => e = .returned (.tuple #[.int .i64 0, .int .i64 0]) ∧ Below w.heap.size w w' := by
  go_enter Tryd.func17, Tryd.ntmps17
  go_wp2
  go_loop [4, 11] (fun nv iv => nv = .int .i64 0 ∧ iv = .int .i64 0) (fun _ _ => 0)
  case atStart => exact ⟨rfl, rfl⟩
  case round =>
    obtain ⟨rfl, rfl⟩ := hrel
    go_wp2
    go_ret2
    exact ⟨rfl, Below.refl _ _⟩

set_option maxRecDepth 100000 in
set_option maxHeartbeats 1000000 in
theorem ref_units_any (b o cap n : Nat) (ss : List ByteArray) (w : World) (hlt : b < w.heap.size) (hn : ss.length = n) (hn2 : n < 20) (hc : Holds w b o ss) (hs : bytes ss ≤ 400) :
    Calls Tryd.prog 18 #[.slice (some ⟨b, o, none⟩) n cap] w (AnswersTwo (unitsL ss 0) w) := by
  obtain ⟨R, hR⟩ : ∃ R, unitsL ss 0 = R := ⟨_, rfl⟩
  rw [hR]
  have HR : Hid (unitsL (ss.drop 0) 0 = R) := hR
  have HB : Hid (2 * bytes (ss.drop 0) + 0 ≤ 2 * bytes ss) := Nat.le_refl _
  have HC := Lib.hid hc
  have HN := Lib.hid hn
  clear hR hc hn
  go_enter Tryd.func18, Tryd.ntmps18
  go_wp2
  go_loopw [4, 5] (fun nv iv wr => ∃ acc i : Nat, nv = .int .i64 acc ∧ iv = .int .i64 i ∧ i ≤ n ∧ acc ≤ 800 ∧ Below w.heap.size w wr ∧ Hid (unitsL (ss.drop i) acc = R) ∧ Hid (2 * bytes (ss.drop i) + acc ≤ 2 * bytes ss)) (fun _ iv _ => n - (intOf iv).toNat)
  case atStart => exact ⟨0, 0, rfl, rfl, by omega, by omega, Below.refl _ _, HR, HB⟩
  case round =>
    obtain ⟨acc, i, rfl, rfl, hi, hacc, hbr, HU, HBk⟩ := hrel
    by_cases hin : i < n
    · have hll : i < ss.length := by rw [HN.out]; exact hin
      have hcell := HC.out.later hlt hbr i hll
      have hmem := bytes_mem ss _ (getD_mem ss i hll)
      have hst := unitsL_step ss i acc hll
      have hwr := unitsL_wrong ss i acc hll
      have hbs := bytes_step ss i hll
      have hout := HBk.out
      obtain ⟨s, hse⟩ : ∃ s, ss.getD i ByteArray.empty = s := ⟨_, rfl⟩
      rw [hse] at hcell hmem hst hwr hbs
      have hsu := sumU_items s
      have cP := places_any s wr (by omega)
      unfold PlacesPost at cP
      cases hok : okB s
      · rw [hok] at cP
        simp only [Bool.false_eq_true, if_false] at cP
        have HR2 : Hid (R = (0, 11)) := Lib.hid (HU.out.symm.trans (hwr hok))
        clear hst hwr hok hse HU HBk HR HB HN HC hll hbs hout
        go_wp2_with (go_at_call 20; refine cP.mono ?_; rintro e w1 ⟨rfl, hb1⟩)
        go_ret2
        exact answersTwo HR2.out (hbr.trans (hb1.mono hbr.size))
      · rw [hok] at cP
        simp only [if_true] at cP
        have hlast := unL_last (items s) 0
        rw [Nat.zero_add] at hlast
        have hlen := items_len s (by omega)
        have hul := unL_length (items s) 0
        obtain ⟨U, hU⟩ : ∃ U, unL (items s) 0 = U := ⟨_, rfl⟩
        obtain ⟨B, hB⟩ : ∃ B, posL (items s) 0 = B := ⟨_, rfl⟩
        obtain ⟨m, hm⟩ : ∃ m, (items s).length = m := ⟨_, rfl⟩
        obtain ⟨T, hT⟩ : ∃ T, sumU (items s) = T := ⟨_, rfl⟩
        rw [hU, hB, hm] at cP
        rw [hU, hm, hT] at hlast
        rw [hU, hm] at hul
        rw [hm] at hlen
        have hst2 := hst hok
        rw [hT] at hst2 hsu
        have hcl : ∀ W g, Row W g U → W.cell? ⟨g, m, none⟩ = some (.int .i64 (T : Nat)) := fun W g hr => by rw [← hlast]; exact hr m (by omega)
        have HU2 : Hid (unitsL (ss.drop (i + 1)) (acc + T) = R) := Lib.hid (hst2.symm.trans HU.out)
        have HB2 : Hid (2 * bytes (ss.drop (i + 1)) + (acc + T) ≤ 2 * bytes ss) := Lib.hid (by omega)
        have hle : acc + T ≤ 800 := by omega
        clear hst hst2 hwr hok hse HU HBk HR HB HN hll hbs hout hU hB hm hT hlast hul HC
        go_wp2_with fail
        refine cP.mono ?_
        rintro e w1 ⟨g1, k1, g2, k2, rfl, hr1, hr2, hb1, hg1, hg2⟩
        have hc2 := hcl w1 g2 hr2
        clear hcl hr1 hr2 cP hcell
        go_wp2
        go_roundw
        case rel => exact ⟨acc + T, i + 1, by go_num, by go_num, by omega, by omega, hbr.trans (hb1.mono hbr.size), HU2, HB2⟩
        case measure => simp [intOf]; omega
    · have hst := unitsL_done ss i acc (by rw [HN.out]; exact hin)
      have HR2 : Hid (R = ((acc : Int), 0)) := Lib.hid (HU.out.symm.trans hst)
      clear hst HU HBk HR HB HN HC
      go_wp2
      go_ret2
      exact answersTwo HR2.out hbr

theorem units_walk_empty (ad : Option Addr) (cap : Nat) (w : World) (hT : Tabs w) : Calls Tryd.prog 4 #[.slice ad 0 cap] w (True' w) := by
  have c1 := fits_empty ad cap w
  have c2 := units_empty ad cap w
  have c3 : ∀ W, Below w.heap.size w W → _ := fun W hb => chain hb (ref_units_empty ad cap W)
  have cA : ∀ W, Below w.heap.size w W → _ := fun W hb => chain hb (alive_any W (tabs_later hT hb))
  clear hT
  go_enter Tryd.func4, Tryd.ntmps4
  go_wp2_with fail
  refine c1.mono ?_
  rintro e w1 ⟨rfl, rfl⟩
  go_wp2_with fail
  refine c2.mono ?_
  rintro e w2 ⟨rfl, hb2⟩
  go_wp2_with fail
  refine (c3 w2 hb2).mono ?_
  rintro e w3 ⟨rfl, hb3⟩
  go_wp2_with fail
  refine (cA w3 hb3).mono ?_
  rintro e w4 ⟨rfl, hb4⟩
  go_wp2
  go_ret
  exact ⟨rfl, hb4⟩
set_option maxRecDepth 100000 in
theorem units_walk (b o cap n : Nat) (ss : List ByteArray) (w : World) (hlt : b < w.heap.size) (hn : ss.length = n) (hn2 : n ≤ 17592186044416) (hc : Holds w b o ss) (hsz : ∀ s ∈ ss, s.size ≤ 281474976710656) (hT : Tabs w) :
    Calls Tryd.prog 4 #[.slice (some ⟨b, o, none⟩) n cap] w (True' w) := by
  have c1 := fits_any b o cap n ss w hn hn2 hc hsz
  have cA : ∀ W, Below w.heap.size w W → _ := fun W hb => chain hb (alive_any W (tabs_later hT hb))
  have h0 := Below.refl w.heap.size w
  have HT := Lib.hid hT
  have HC := Lib.hid hc
  have HN := Lib.hid hn
  clear hT hc hn hsz
  go_enter Tryd.func4, Tryd.ntmps4
  go_wp2_with fail
  refine c1.mono ?_
  rintro e w1 ⟨f, rfl, rfl, hf⟩
  clear c1
  cases f
  · clear hf
    go_wp2_with fail
    refine (cA w h0).mono ?_
    rintro e w2 ⟨rfl, hb2⟩
    go_wp2
    go_ret
    exact ⟨rfl, hb2⟩
  · obtain ⟨hs, hl⟩ := hf rfl
    obtain ⟨x, y, hxy⟩ : ∃ x y, unitsL ss 0 = (x, y) := ⟨_, _, rfl⟩
    have c2 := units_any b o cap ss w hlt HC.out (by omega) (by omega) HT.out
    have c3 : ∀ W, Below w.heap.size w W → _ := fun W hb => chainN hb (ref_units_any b o cap n ss W (by have := hb.size; omega) HN.out (by rw [← HN.out]; exact hl) (HC.out.later hlt hb) hs)
    rw [hxy] at c2 c3
    rw [HN.out] at c2
    clear hf hs hl hxy
    go_wp2_with fail
    refine c2.mono ?_
    rintro e w2 ⟨rfl, hb2⟩
    go_wp2_with fail
    refine (c3 w2 hb2).mono ?_
    rintro e w3 ⟨rfl, hb3⟩
    go_wp2_with fail
    refine (cA w3 hb3).mono ?_
    rintro e w4 ⟨rfl, hb4⟩
    go_wp2
    go_ret
    exact ⟨rfl, hb4⟩
end Go.Proofs.YtdnipjbknkmhbaaDoor.U
