/- Contracts of package utf's calls: what each answers at every text, and that it leaves all memory that was there as it was. Condition: the two tables of unicode/utf8 hold what the library's text lays; texts of at most 2^40 bytes. -/
import Derived.Test.YtdnipjbknkmhbaaDoorProg
import Derived.Test.YtdnipjbknkmhbaaDoorPlain
import Derived.Test.YtdnipjbknkmhbaaDoorLays
import Derived.WalkKit
import Derived.WalkMore
import Derived.WalkSmall
import Derived.Below
import Derived.Lib.Hide
import Derived.Lib.OthersKept
import Derived.Deep.LoopGhost
import Derived.Deep.DeepMust
import Derived.Shelf.Unicode.DecodeSlow
namespace Go.Proofs.YtdnipjbknkmhbaaDoor.U
open Go.RowKit
open Go.Lib hiding intOf

def Tabs (w : World) : Prop := Lib.Utf8Tabs 0 1 w

/-- utf.Right. -/
theorem right_any (s : ByteArray) (w : World) (hs : s.size ≤ 1099511627776) (hT : Tabs w) :
    Calls Tryd.prog 12 #[.string s] w fun e w' => e = .returned (.bool (okB s)) ∧ Below w.heap.size w w' := by
  have cV : Calls Tryd.prog 22 #[.string s] w (fun e w' => e = .returned (.bool (Lib.validD s.data.toList)) ∧ Below w.heap.size w w') := Any.utf8_ValidString lays s w (by omega) hT
  rw [valid_ok s] at cV
  generalize okB s = V at cV ⊢
  go_enter Tryd.func12, Tryd.ntmps12
  go_wp2_with (go_at_call 22; refine cV.mono ?_; rintro e w' ⟨rfl, hb⟩)
  go_ret
  exact ⟨rfl, hb⟩

/-- utf.width. -/
theorem width_any (r : Nat) (w : World) (hr : r ≤ 1114111) :
    Calls Tryd.prog 19 #[.int .i32 r] w fun e w' => e = .returned (.int .i64 (uw r)) ∧ w = w' := by
  by_cases h : 65536 ≤ r
  · have hz : ((65536 : Int) ≤ (r : Int)) := by omega
    have e : uw r = 2 := by unfold uw; rw [if_pos h]
    rw [e]
    go_enter Tryd.func19, Tryd.ntmps19
    go_wp2
    go_ret
    exact ⟨rfl, rfl⟩
  · have hz : ¬ ((65536 : Int) ≤ (r : Int)) := by omega
    have e : uw r = 1 := by unfold uw; rw [if_neg h]
    rw [e]
    go_enter Tryd.func19, Tryd.ntmps19
    go_wp2
    go_ret
    exact ⟨rfl, rfl⟩

def AnswersTwo (p : Int × Int) (w : World) (e : Ending) (w' : World) : Prop := e = .returned (.tuple #[.int .i64 p.1, .int .i64 p.2]) ∧ Below w.heap.size w w'
theorem below_iter {w w1 : World} (hb : Below w.heap.size w w1) (s : ByteArray) (pos : Nat) : Below w.heap.size w (w1.iter s pos) := hb.alloc hb.size _
theorem answersTwo {p : Int × Int} {a b : Int} {w w' : World} (h : p = (a, b)) (hb : Below w.heap.size w w') : AnswersTwo p w (.returned (.tuple #[.int .i64 a, .int .i64 b])) w' := ⟨by rw [h], hb⟩

set_option maxHeartbeats 1000000 in
set_option maxRecDepth 100000 in
theorem offset_any (s : ByteArray) (unit : Int) (w : World) (hs : s.size ≤ 1099511627776) (hT : Tabs w) :
    Calls Tryd.prog 8 #[.string s, .int .i64 unit] w (AnswersTwo (offB s unit) w) := by
  have cR := right_any s w hs hT
  unfold offB
  by_cases hok : okB s = true
  · rw [if_pos hok]
    rw [hok] at cR
    obtain ⟨R, hR⟩ : ∃ R, off (items s) 0 0 unit = R := ⟨_, rfl⟩
    rw [hR]
    have HR := Lib.hid hR; clear hR hok
    go_enter Tryd.func8, Tryd.ntmps8
    go_wp2_with (go_at_call 12; refine cR.mono ?_; rintro e w1 ⟨rfl, hb⟩)
    clear cR
    go_loopw [6] (fun a w' => ∃ (pos f ahead : Nat), w' = w1.iter s pos ∧ a = .int .i64 ahead ∧ Hid (off (itemsF s f pos) pos ahead unit = R) ∧ pos ≤ s.size ∧ s.size - pos ≤ f ∧ ahead ≤ 2 * pos) (fun _ w' => s.size - w'.iterPos w1.heap.size)
    case atStart => exact ⟨0, s.size, 0, rfl, rfl, HR, by omega, by omega, by omega⟩
    case round =>
      obtain ⟨pos, f, ahead, rfl, rfl, HO, hp, hf, ha⟩ := hrel
      by_cases hlt : pos < s.size
      · obtain ⟨f, rfl⟩ : ∃ k, f = k + 1 := ⟨f - 1, by omega⟩
        have hnx : ∀ ty, (Instr.next (.pointer (some ⟨w1.heap.size, 0, none⟩)) true ty).run Tryd.prog (w1.iter s pos) = _ := fun ty => run_next_any w1 s pos ty hlt
        by_cases hu : (ahead : Int) = unit
        · go_wp2
          go_ret2
          exact answersTwo (HO.out ▸ off_hit _ pos ahead unit hu) (below_iter hb s _)
        · have hw1 := width_pos s pos hlt
          have hw2 := width_le s pos hlt
          have hu2 := uw_le (Utf8.decode s pos).1
          go_wp2_with (go_at_call 19; refine (width_any _ _ (rune_le s pos)).mono ?_; rintro e w2 ⟨rfl, rfl⟩)
          go_roundw
          case rel => exact ⟨pos + (Utf8.decode s pos).2, f, ahead + uw (Utf8.decode s pos).1, rfl, by go_num, Lib.hid ((off_miss s f pos ahead unit hlt hu).symm.trans HO.out), by omega, by omega, by omega⟩
          case measure => simp; omega
      · have hnx : ∀ ty, (Instr.next (.pointer (some ⟨w1.heap.size, 0, none⟩)) true ty).run Tryd.prog (w1.iter s pos) = _ := fun ty => run_next_end w1 s pos ty hlt
        by_cases hu : (ahead : Int) = unit
        · go_wp2
          go_ret2
          obtain rfl : pos = s.size := by omega
          exact answersTwo (HO.out ▸ off_hit _ _ ahead unit hu) (below_iter hb s _)
        · go_wp2
          go_ret2
          exact answersTwo (HO.out ▸ off_done s f pos ahead unit hlt hu) (below_iter hb s _)
  · have hf : okB s = false := by simpa using hok
    rw [if_neg hok]
    rw [hf] at cR
    clear hok hf
    go_enter Tryd.func8, Tryd.ntmps8
    go_wp2_with (go_at_call 12; refine cR.mono ?_; rintro e w1 ⟨rfl, hb⟩)
    go_ret2
    exact answersTwo rfl hb

set_option maxHeartbeats 1000000 in
set_option maxRecDepth 100000 in
theorem unit_any (s : ByteArray) (at' : Int) (w : World) (hs : s.size ≤ 1099511627776) (hT : Tabs w) :
    Calls Tryd.prog 10 #[.string s, .int .i64 at'] w (AnswersTwo (uniB s at') w) := by
  have cR := right_any s w hs hT
  unfold uniB
  by_cases hok : okB s = true
  · rw [if_pos hok]
    rw [hok] at cR
    obtain ⟨R, hR⟩ : ∃ R, uni (items s) 0 0 at' = R := ⟨_, rfl⟩
    rw [hR]
    have HR := Lib.hid hR; clear hR hok
    go_enter Tryd.func10, Tryd.ntmps10
    go_wp2_with (go_at_call 12; refine cR.mono ?_; rintro e w1 ⟨rfl, hb⟩)
    clear cR
    go_loopw [6] (fun a w' => ∃ (pos f ahead : Nat), w' = w1.iter s pos ∧ a = .int .i64 ahead ∧ Hid (uni (itemsF s f pos) pos ahead at' = R) ∧ pos ≤ s.size ∧ s.size - pos ≤ f ∧ ahead ≤ 2 * pos) (fun _ w' => s.size - w'.iterPos w1.heap.size)
    case atStart => exact ⟨0, s.size, 0, rfl, rfl, HR, by omega, by omega, by omega⟩
    case round =>
      obtain ⟨pos, f, ahead, rfl, rfl, HO, hp, hf, ha⟩ := hrel
      by_cases hlt : pos < s.size
      · obtain ⟨f, rfl⟩ : ∃ k, f = k + 1 := ⟨f - 1, by omega⟩
        have hnx : ∀ ty, (Instr.next (.pointer (some ⟨w1.heap.size, 0, none⟩)) true ty).run Tryd.prog (w1.iter s pos) = _ := fun ty => run_next_any w1 s pos ty hlt
        by_cases hu : (pos : Int) = at'
        · go_wp2
          go_ret2
          exact answersTwo (HO.out ▸ uni_hit _ pos ahead at' hu) (below_iter hb s _)
        · have hw1 := width_pos s pos hlt
          have hw2 := width_le s pos hlt
          have hu2 := uw_le (Utf8.decode s pos).1
          go_wp2_with (go_at_call 19; refine (width_any _ _ (rune_le s pos)).mono ?_; rintro e w2 ⟨rfl, rfl⟩)
          go_roundw
          case rel => exact ⟨pos + (Utf8.decode s pos).2, f, ahead + uw (Utf8.decode s pos).1, rfl, by go_num, Lib.hid ((uni_miss s f pos ahead at' hlt hu).symm.trans HO.out), by omega, by omega, by omega⟩
          case measure => simp; omega
      · have hnx : ∀ ty, (Instr.next (.pointer (some ⟨w1.heap.size, 0, none⟩)) true ty).run Tryd.prog (w1.iter s pos) = _ := fun ty => run_next_end w1 s pos ty hlt
        obtain rfl : pos = s.size := by omega
        by_cases hu : ((s.size : Nat) : Int) = at'
        · subst hu
          go_wp2
          go_ret2
          exact answersTwo (HO.out ▸ uni_hit _ _ ahead _ rfl) (below_iter hb s _)
        · have hu' : ¬ at' = (s.size : Int) := fun h => hu h.symm
          go_wp2
          go_ret2
          exact answersTwo (HO.out ▸ uni_done s f _ ahead at' hlt hu) (below_iter hb s _)
  · have hf : okB s = false := by simpa using hok
    rw [if_neg hok]
    rw [hf] at cR
    clear hok hf
    go_enter Tryd.func10, Tryd.ntmps10
    go_wp2_with (go_at_call 12; refine cR.mono ?_; rintro e w1 ⟨rfl, hb⟩)
    go_ret2
    exact answersTwo rfl hb

def AnswersText (t : ByteArray) (w : World) (e : Ending) (w' : World) : Prop := e = .returned (.string t) ∧ Below w.heap.size w w'
theorem answersText {t u : ByteArray} {w w' : World} (h : t = u) (hb : Below w.heap.size w w') : AnswersText t w (.returned (.string u)) w' := ⟨by rw [h], hb⟩

set_option maxHeartbeats 1000000 in
set_option maxRecDepth 100000 in
theorem cut_any (s : ByteArray) (most : Int) (w : World) (hs : s.size ≤ 1099511627776) (hT : Tabs w) :
    Calls Tryd.prog 14 #[.string s, .int .i64 most] w (AnswersText (cutB s most) w) := by
  have cR := right_any s w hs hT
  unfold cutB
  by_cases hok : okB s = true
  · rw [if_pos hok]
    rw [hok] at cR
    by_cases hm : (s.size : Int) ≤ most
    · rw [if_pos hm]
      clear hok
      go_enter Tryd.func14, Tryd.ntmps14
      go_wp2_with (go_at_call 12; refine cR.mono ?_; rintro e w1 ⟨rfl, hb⟩)
      go_ret
      exact answersText rfl hb
    · rw [if_neg hm]
      obtain ⟨R, hR⟩ : ∃ R, cutE (items s) 0 most 0 = R := ⟨_, rfl⟩
      rw [hR]
      have HR := Lib.hid hR; clear hR hok
      go_enter Tryd.func14, Tryd.ntmps14
      go_wp2_with (go_at_call 12; refine cR.mono ?_; rintro e w1 ⟨rfl, hb⟩)
      clear cR
      go_loopw [5] (fun a w' => ∃ (pos f e : Nat), w' = w1.iter s pos ∧ a = .int .i64 e ∧ Hid (cutE (itemsF s f pos) pos most e = R) ∧ pos ≤ s.size ∧ s.size - pos ≤ f ∧ e ≤ pos) (fun _ w' => s.size - w'.iterPos w1.heap.size)
      case atStart => exact ⟨0, s.size, 0, rfl, rfl, HR, by omega, by omega, by omega⟩
      case round =>
        obtain ⟨pos, f, e, rfl, rfl, HO, hp, hf, he⟩ := hrel
        have hes : e ≤ s.size := by omega
        by_cases hlt : pos < s.size
        · obtain ⟨f, rfl⟩ : ∃ k, f = k + 1 := ⟨f - 1, by omega⟩
          have hnx : ∀ ty, (Instr.next (.pointer (some ⟨w1.heap.size, 0, none⟩)) true ty).run Tryd.prog (w1.iter s pos) = _ := fun ty => run_next_any w1 s pos ty hlt
          by_cases hu : most < (pos : Int)
          · go_wp2
            go_ret
            exact answersText (by rw [← HO.out, cut_stop s f pos e most hlt hu]) (below_iter hb s _)
          · have hw1 := width_pos s pos hlt
            have hw2 := width_le s pos hlt
            go_wp2
            go_roundw
            case rel => exact ⟨pos + (Utf8.decode s pos).2, f, pos, rfl, by go_num, Lib.hid ((cut_on s f pos e most hlt hu).symm.trans HO.out), by omega, by omega, by omega⟩
            case measure => simp; omega
        · have hnx : ∀ ty, (Instr.next (.pointer (some ⟨w1.heap.size, 0, none⟩)) true ty).run Tryd.prog (w1.iter s pos) = _ := fun ty => run_next_end w1 s pos ty hlt
          go_wp2
          go_ret
          exact answersText (by rw [← HO.out, cut_done s f pos e most hlt]) (below_iter hb s _)
  · have hf : okB s = false := by simpa using hok
    rw [if_neg hok]
    rw [hf] at cR
    clear hok hf
    go_enter Tryd.func14, Tryd.ntmps14
    go_wp2_with (go_at_call 12; refine cR.mono ?_; rintro e w1 ⟨rfl, hb⟩)
    go_ret
    exact answersText rfl hb

theorem units_nil (w : World) : Calls Tryd.prog 17 #[.slice none 0 0] w (AnswersTwo (0, 0) w) := by
  go_enter Tryd.func17, Tryd.ntmps17
  go_wp2
  go_loopw [4, 11] (fun a i w' => w' = w ∧ a = .int .i64 0 ∧ i = .int .i64 0) (fun _ _ _ => 0)
  case atStart => exact ⟨rfl, rfl, rfl⟩
  case round =>
    obtain ⟨rfl, rfl, rfl⟩ := hrel
    go_wp2
    go_ret2
    exact answersTwo rfl (Below.refl _ _)

def Holds (w : World) (b off : Nat) (ss : List ByteArray) : Prop := ∀ i, i < ss.length → w.cell? ⟨b, off + i, none⟩ = some (.string (ss.getD i ByteArray.empty))
theorem Holds.later {w w' : World} {b off : Nat} {ss : List ByteArray} (h : Holds w b off ss) (hlt : b < w.heap.size) (hb : Below w.heap.size w w') : Holds w' b off ss :=
  fun i hi => (hb.cell (p := ⟨b, off + i, none⟩) hlt).trans (h i hi)

set_option maxHeartbeats 4000000 in
set_option maxRecDepth 100000 in
theorem units_any (b o cap : Nat) (ss : List ByteArray) (w : World) (hlt : b < w.heap.size) (hc : Holds w b o ss) (hn : ss.length ≤ 1099511627776) (hs : bytes ss ≤ 1099511627776) (hT : Tabs w) :
    Calls Tryd.prog 17 #[.slice (some ⟨b, o, none⟩) ss.length cap] w (AnswersTwo (unitsL ss 0) w) := by
  obtain ⟨R, hR⟩ : ∃ R, unitsL ss 0 = R := ⟨_, rfl⟩
  rw [hR]
  have HR : Hid (unitsL (ss.drop 0) 0 = R) := hR
  have HB : Hid (2 * bytes (ss.drop 0) + 0 ≤ 2 * bytes ss) := Nat.le_refl _
  clear hR
  obtain ⟨n, hnn⟩ : ∃ n, ss.length = n := ⟨_, rfl⟩
  have HN := Lib.hid hnn
  rw [hnn] at hn ⊢
  clear hnn
  go_enter Tryd.func17, Tryd.ntmps17
  go_wp2
  go_loopw [4, 11] (fun a i w' => ∃ (k acc : Nat), a = .int .i64 acc ∧ i = .int .i64 k ∧ Below w.heap.size w w' ∧ k ≤ n ∧ acc ≤ 2199023255552 ∧ Hid (unitsL (ss.drop k) acc = R) ∧ Hid (2 * bytes (ss.drop k) + acc ≤ 2 * bytes ss)) (fun _ i _ => n - (intOf i).toNat)
  case atStart => exact ⟨0, 0, rfl, rfl, Below.refl _ _, by omega, by omega, HR, HB⟩
  case round =>
    obtain ⟨k, acc, rfl, rfl, hbr, hk, hacc, HU, HBk⟩ := hrel
    by_cases hkn : k < n
    · have hkl : k < ss.length := by rw [HN.out]; exact hkn
      have hcell := hc.later hlt hbr k hkl
      have hTr : Tabs wr := Utf8Tabs_below hT hbr
      obtain ⟨s, hse⟩ : ∃ s, ss.getD k ByteArray.empty = s := ⟨_, rfl⟩
      have hsz : s.size ≤ 1099511627776 := by
        have h1 := bytes_mem ss _ (getD_mem ss k hkl)
        rw [hse] at h1; omega
      have cR := right_any s wr hsz hTr
      by_cases hok : okB s = true
      · have hst := unitsL_step ss k acc hkl (by rw [hse]; exact hok)
        have hbs := bytes_step ss k hkl
        have hout := HBk.out
        rw [hse] at hcell hst hbs
        rw [hok] at cR
        have hsu := sumU_items s
        obtain ⟨T, hTe⟩ : ∃ T, sumU (items s) = T := ⟨_, rfl⟩
        have HI : Hid (acc + sumU (itemsF s s.size 0) = acc + T) := by rw [← hTe]; rfl
        rw [hTe] at hst hsu
        have hle : acc + T ≤ 2199023255552 := by omega
        have HU2 : Hid (unitsL (ss.drop (k + 1)) (acc + T) = R) := Lib.hid (hst.symm.trans HU.out)
        have HB2 : Hid (2 * bytes (ss.drop (k + 1)) + (acc + T) ≤ 2 * bytes ss) := Lib.hid (by omega)
        clear hst hbs hout hsu hTe hok hse HU HBk hTr hkl HR HB HN hT hc
        go_wp2_with (go_at_call 12; refine cR.mono ?_; rintro e w1 ⟨rfl, hb1⟩)
        clear cR
        have hbw1 : Below w.heap.size w w1 := hbr.trans (hb1.mono hbr.size)
        obtain ⟨wo, rfl⟩ : ∃ wo : World, wo = wr := ⟨_, rfl⟩
        go_loopw [4] (fun a w' => ∃ (pos f c : Nat), w' = w1.iter s pos ∧ a = .int .i64 c ∧ Hid (c + sumU (itemsF s f pos) = acc + T) ∧ pos ≤ s.size ∧ s.size - pos ≤ f ∧ c ≤ acc + 2 * pos) (fun _ w' => s.size - w'.iterPos w1.heap.size)
        case atStart => exact ⟨0, s.size, acc, rfl, rfl, HI, by omega, by omega, by omega⟩
        case round =>
          obtain ⟨pos, f, c, rfl, rfl, HO, hp, hf, hca⟩ := hrel
          by_cases hlt2 : pos < s.size
          · obtain ⟨f, rfl⟩ : ∃ k, f = k + 1 := ⟨f - 1, by omega⟩
            have hnx : ∀ ty, (Instr.next (.pointer (some ⟨w1.heap.size, 0, none⟩)) true ty).run Tryd.prog (w1.iter s pos) = _ := fun ty => run_next_any w1 s pos ty hlt2
            have hw1 := width_pos s pos hlt2
            have hw2 := width_le s pos hlt2
            have hu2 := uw_le (Utf8.decode s pos).1
            go_wp2_with (go_at_call 19; refine (width_any _ _ (rune_le s pos)).mono ?_; rintro e w2 ⟨rfl, rfl⟩)
            go_roundw
            case rel => exact ⟨pos + (Utf8.decode s pos).2, f, c + uw (Utf8.decode s pos).1, rfl, by go_num, Lib.hid (by have h1 := HO.out; rw [sumU_step s f pos hlt2] at h1; omega), by omega, by omega, by omega⟩
            case measure => simp; omega
          · have hnx : ∀ ty, (Instr.next (.pointer (some ⟨w1.heap.size, 0, none⟩)) true ty).run Tryd.prog (w1.iter s pos) = _ := fun ty => run_next_end w1 s pos ty hlt2
            have hcT : Hid (c = acc + T) := Lib.hid (by have h1 := HO.out; rw [sumU_done s f pos hlt2] at h1; omega)
            go_wp2
            go_roundw
            case rel => exact ⟨k + 1, c, rfl, by go_num, below_iter hbw1 s pos, by omega, by have := hcT.out; omega, by rw [hcT.out]; exact HU2, by rw [hcT.out]; exact HB2⟩
            case measure => simp [intOf]; omega
      · have hf : okB s = false := by simpa using hok
        rw [hf] at cR
        have hst := unitsL_wrong ss k acc hkl (by rw [hse]; exact hf)
        rw [hse] at hcell
        have HR2 : Hid (R = (0, 11)) := Lib.hid (HU.out.symm.trans hst)
        clear hst hok hf hse HU HBk hTr hkl HR HB HN hT hc
        go_wp2_with (go_at_call 12; refine cR.mono ?_; rintro e w1 ⟨rfl, hb1⟩)
        go_ret2
        exact answersTwo HR2.out (hbr.trans (hb1.mono hbr.size))
    · have hst := unitsL_done ss k acc (by rw [HN.out]; exact hkn)
      have HR2 : Hid (R = ((acc : Int), 0)) := Lib.hid (HU.out.symm.trans hst)
      clear hst HU HBk HR HB HN hT hc
      go_wp2
      go_ret2
      exact answersTwo HR2.out hbr
end Go.Proofs.YtdnipjbknkmhbaaDoor.U
