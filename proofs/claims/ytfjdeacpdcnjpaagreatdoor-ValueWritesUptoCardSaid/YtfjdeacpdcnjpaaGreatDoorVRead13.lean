/- The contract of Read, at every text of at most 2^38 bytes. -/
import Derived.Test.YtfjdeacpdcnjpaaGreatDoorVRead12
import Derived.Test.YtfjdeacpdcnjpaaGreatDoorPlain
import Derived.Test.YtfjdeacpdcnjpaaGreatDoorLays
namespace Go.Proofs.YtfjdeacpdcnjpaaGreatDoor.V
open Go.RowKit
open Go.Lib

theorem value_all : ∀ F, ValC F
  | 0 => fun f hf => absurd hf (Nat.not_lt_zero _)
  | F + 1 => fun f hf d B0 s l o w hr hE hd hs ho hl hf2 => by
    by_cases h : f < F
    · exact value_all F f h d B0 s l o w hr hE hd hs ho hl hf2
    · obtain rfl : f = F := by omega
      obtain ⟨G, rfl⟩ : ∃ G, f = G + 1 := ⟨f - 1, by omega⟩
      exact value_step G d B0 s l o w (fun g hg => value_all (G + 1) g (by omega)) hf2 hr hE hd hs ho hl

/-- utf.Right. -/
theorem right_any (s : ByteArray) (w : World) (hs : s.size ≤ 1099511627776) (hE : EnvW w) :
    Calls Tryz.prog 28 #[.string s] w fun e w' => e = .returned (.bool (U.okB s)) ∧ Below w.heap.size w w' := by
  have cV : Calls Tryz.prog 48 #[.string s] w (fun e w' => e = .returned (.bool (Lib.validD s.data.toList)) ∧ Below w.heap.size w w') := Any.utf8_ValidString U.lays s w (by omega) hE.tabs
  rw [U.valid_ok s] at cV
  generalize U.okB s = V at cV ⊢
  go_enter Tryz.func28, Tryz.ntmps28
  go_wp2_with (go_at_call 48; refine cV.mono ?_; rintro e w' ⟨rfl, hb⟩)
  go_ret
  exact ⟨rfl, hb⟩

/-- What Read answers. -/
def readB (s : ByteArray) : Except Int Val := if U.okB s = true then readP s.data.toList else .error 11
def ReadsTop (r : Except Int Val) (w : World) (e : Ending) (w' : World) : Prop :=
  Below w.heap.size w w' ∧ match r with
  | .ok (.mk so on n t l ks) => ∃ lv kv, e = .returned (.tuple #[.agg (six so on n t lv kv).toArray, .int .i64 0]) ∧ ValIn w' (fun g => w.heap.size ≤ g) (.mk so on n t l ks) lv kv
  | .error k => e = .returned (.tuple #[.agg (six 0 false 0 [] (.slice none 0 0) (.slice none 0 0)).toArray, .int .i64 k])

set_option maxHeartbeats 4000000 in
theorem read_any (s : ByteArray) (w : World) (hs : s.size ≤ 274877906944) (hE : EnvW w) :
    Calls Tryz.prog 16 #[.string s] w (ReadsTop (readB s) w) := by
  have cR : ∀ ob, _ := fun ob => right_any s (w.alloc ob) (by omega) (hE.later ((Below.refl _ _).alloc (Nat.le_refl _) ob))
  unfold readB
  by_cases hok : U.okB s = true
  · rw [if_pos hok]
    rw [hok] at cR
    clear hok
    go_enter Tryz.func16, Tryz.ntmps16
    go_wp2_with fail
    refine (cR _).mono ?_; rintro e w1 ⟨rfl, hb1⟩
    have hz1 := hb1.size
    simp at hz1
    have hb1' := (((Below.refl w.heap.size w).alloc (Nat.le_refl _) (.cells #[.int .i64 0, .bool false, .int .i64 0, .string ⟨#[]⟩, .slice none 0 0, .slice none 0 0] 34))).trans (hb1.mono (by simp))
    have hq1 := (hb1.block w.heap.size (by simp)).trans (heap_alloc_new w _)
    clear cR hb1
    go_wp2_with fail
    have hrd : RdL w1.heap.size s s.data.toList (0 : Nat) (w1.alloc (.cells #[.string s, .int .i64 0, .int .i64 0] 64)) := ⟨0, by omega, rfl, heap_alloc_new w1 _⟩
    have hE2 : Env w1.heap.size (w1.alloc (.cells #[.string s, .int .i64 0, .int .i64 0] 64)) := (Env.start (hE.later hb1')).later ((Below.refl _ _).alloc (Nat.le_refl _) _)
    have cV := value_all (2 * s.data.toList.length + 2) (2 * s.data.toList.length + 1) (by omega) w1.heap.size w1.heap.size s s.data.toList 0 _ hrd hE2 (Nat.le_refl _) hs (by omega) (Nat.le_refl _) (by rw [← Lib.size_eq]; omega)
    have hq2 := (Below.heap_alloc w1 (.cells #[.string s, .int .i64 0, .int .i64 0] 64) w.heap.size (by omega)).trans hq1
    have hz2 : (w1.alloc (.cells #[.string s, .int .i64 0, .int .i64 0] 64)).heap.size = w1.heap.size + 1 := by simp
    have hb2 : Below w.heap.size w (w1.alloc (.cells #[.string s, .int .i64 0, .int .i64 0] 64)) := hb1'.alloc (by omega) _
    clear hrd hE2 hq1
    generalize w1.alloc (.cells #[.string s, .int .i64 0, .int .i64 0] 64) = w2 at *
    have HZ2 := Lib.hid hz2
    clear hz2
    have top : ∀ W', Mut w2.heap.size w1.heap.size w2 W' → Below w.heap.size w W' := fun W' hm => hb2.trans ((hm.mono (by have := HZ2.out; omega)).below (by omega))
    have TOP := Lib.hid top
    clear top
    cases hv : value (2 * s.data.toList.length + 1) 0 s.data.toList with
    | bad =>
      have HRes : Hid (readP s.data.toList = .error 21) := Lib.hid (by simp only [readP, hv])
      rw [hv] at cV
      clear hv
      refine cV.mono ?_; rintro e w3 ⟨hm3, rfl, l3, hr3⟩
      have hz3 := hm3.size
      have hq3 := (hm3.block w.heap.size (by have := HZ2.out; omega) (by omega)).trans hq2
      obtain ⟨⟨j0, j1, j2, j3, j4, j5⟩, jf⟩ := cells_six hq3
      have hw3 : w.heap.size < w3.heap.size := by have := HZ2.out; omega
      simp only [six, strCell]
      go_wp2_with fail
      refine bodyPost_ret (v := .tuple #[.agg (six 0 false 0 [] (.slice none 0 0) (.slice none 0 0)).toArray, .int .i64 21]) (by simp [results, Tryz.results16, go_sem, six, strCell, j0, j1, j2, j3, j4, j5, hw3]) rfl ?_
      rw [HRes.out]
      exact ⟨((mut6 (d := w.heap.size) w.heap.size _ _ _ _ _ _ (Mut.of_below (TOP.out _ hm3)) (Nat.le_refl _)).below (Nat.le_refl _)).alloc (by simp; omega) _, rfl⟩
    | deep =>
      have HRes : Hid (readP s.data.toList = .error 22) := Lib.hid (by simp only [readP, hv])
      rw [hv] at cV
      clear hv
      refine cV.mono ?_; rintro e w3 ⟨hm3, rfl, l3, hr3⟩
      have hz3 := hm3.size
      have hq3 := (hm3.block w.heap.size (by have := HZ2.out; omega) (by omega)).trans hq2
      obtain ⟨⟨j0, j1, j2, j3, j4, j5⟩, jf⟩ := cells_six hq3
      have hw3 : w.heap.size < w3.heap.size := by have := HZ2.out; omega
      simp only [six, strCell]
      go_wp2_with fail
      refine bodyPost_ret (v := .tuple #[.agg (six 0 false 0 [] (.slice none 0 0) (.slice none 0 0)).toArray, .int .i64 22]) (by simp [results, Tryz.results16, go_sem, six, strCell, j0, j1, j2, j3, j4, j5, hw3]) rfl ?_
      rw [HRes.out]
      exact ⟨((mut6 (d := w.heap.size) w.heap.size _ _ _ _ _ _ (Mut.of_below (TOP.out _ hm3)) (Nat.le_refl _)).below (Nat.le_refl _)).alloc (by simp; omega) _, rfl⟩
    | ok v rest =>
      rw [hv] at cV
      obtain ⟨so, on, n, t, vl, vk⟩ := v
      refine cV.mono ?_; rintro e w3 ⟨hm3, lv, kv, rfl, hval, hr3⟩
      have hz3 := hm3.size
      have hq3 := (hm3.block w.heap.size (by have := HZ2.out; omega) (by omega)).trans hq2
      obtain ⟨⟨j0, j1, j2, j3, j4, j5⟩, jf⟩ := cells_six hq3
      have hw3 : w.heap.size < w3.heap.size := by have := HZ2.out; omega
      have hval' := hval
      obtain ⟨⟨a1, k1, rfl, _⟩, ⟨a2, k2, rfl, _⟩⟩ := hval'
      have hwne : ∀ ob, RdL w1.heap.size s rest (0 : Nat) (w3.alloc ob) := fun ob => hr3.below ((Below.refl _ _).alloc (Nat.le_refl _) ob)
      have HVAL := Lib.hid hval
      clear hval hr3 hq3 cV
      cases rest with
      | nil =>
        have HRes : Hid (readP s.data.toList = .ok (.mk so on n t vl vk)) := Lib.hid (by simp only [readP, hv])
        have ce : ∀ ob, _ := fun ob => ended_yes w1.heap.size s _ (w3.alloc ob) (hwne ob).done
        clear hv
        simp only [six, strCell]
        go_wp2_with fail
        refine (ce _).mono ?_; rintro e w4 ⟨rfl, nq, rfl⟩
        go_wp2_with fail
        refine bodyPost_ret (v := .tuple #[.agg (six so on n t (.slice a1 vl.length k1) (.slice a2 vk.length k2)).toArray, .int .i64 0]) (by simp [results, Tryz.results16, go_sem, six, strCell, j0, j1, j2, j3, j4, j5, hw3]) rfl ?_
        rw [HRes.out]
        refine ⟨(mut6 (d := w.heap.size) w.heap.size _ _ _ _ _ _ (((Mut.of_below (TOP.out _ hm3)).alloc (by omega) _).drewN nq) (Nat.le_refl _)).below (Nat.le_refl _), _, _, rfl, ?_⟩
        refine ValIn.later (R := fun g => w2.heap.size ≤ g) (fun g hg hlt => ?_) (fun g hg => by have := HZ2.out; omega) _ _ _ HVAL.out
        rw [far6 _ _ _ _ _ _ _ _ _ (by have := HZ2.out; omega)]
        exact Below.heap_alloc w3 _ g hlt
      | cons c r =>
        have HRes : Hid (readP s.data.toList = .error 21) := Lib.hid (by simp only [readP, hv])
        have ce : ∀ ob, Calls Tryz.prog 30 #[.pointer (some ⟨w1.heap.size, 0, none⟩)] (w3.alloc ob) fun e w' => e = .returned (.bool false) ∧ ∃ n, w' = (w3.alloc ob).drewN n := fun ob => by
          obtain ⟨a, ha, hR, _, _⟩ := (hwne ob).next
          exact ended_no w1.heap.size s a _ (w3.alloc ob) hR ha
        clear hv
        simp only [six, strCell]
        go_wp2_with fail
        refine (ce _).mono ?_; rintro e w4 ⟨rfl, nq, rfl⟩
        go_wp2_with fail
        refine bodyPost_ret (v := .tuple #[.agg (six 0 false 0 [] (.slice none 0 0) (.slice none 0 0)).toArray, .int .i64 21]) (by simp [results, Tryz.results16, go_sem, six, strCell, j0, j1, j2, j3, j4, j5, hw3]) rfl ?_
        rw [HRes.out]
        exact ⟨(mut6 (d := w.heap.size) w.heap.size _ _ _ _ _ _ (((Mut.of_below (TOP.out _ hm3)).alloc (by omega) _).drewN nq) (Nat.le_refl _)).below (Nat.le_refl _), rfl⟩
  · have hf : U.okB s = false := by simpa using hok
    rw [if_neg hok]
    rw [hf] at cR
    clear hok hf
    go_enter Tryz.func16, Tryz.ntmps16
    go_wp2_with fail
    refine (cR _).mono ?_; rintro e w1 ⟨rfl, hb1⟩
    have hz1 := hb1.size
    simp at hz1
    have hb1' := (((Below.refl w.heap.size w).alloc (Nat.le_refl _) (.cells #[.int .i64 0, .bool false, .int .i64 0, .string ⟨#[]⟩, .slice none 0 0, .slice none 0 0] 34))).trans (hb1.mono (by simp))
    have hq1 := (hb1.block w.heap.size (by simp)).trans (heap_alloc_new w _)
    obtain ⟨⟨j0, j1, j2, j3, j4, j5⟩, jf⟩ := cells_six hq1
    clear cR hb1 hq1
    go_wp2_with fail
    refine bodyPost_ret (v := .tuple #[.agg (six 0 false 0 [] (.slice none 0 0) (.slice none 0 0)).toArray, .int .i64 11]) (by simp [results, Tryz.results16, go_sem, six, strCell, j0, j1, j2, j3, j4, j5]) rfl ?_
    exact ⟨(mut6 (d := w.heap.size) w.heap.size _ _ _ _ _ _ (Mut.of_below hb1') (Nat.le_refl _)).below (Nat.le_refl _), rfl⟩
end Go.Proofs.YtfjdeacpdcnjpaaGreatDoor.V
