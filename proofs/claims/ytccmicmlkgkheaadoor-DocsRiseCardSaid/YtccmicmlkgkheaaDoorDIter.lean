/- The program's keys, sorted: maps.Keys and slices.Sorted at the store's map. -/
import Derived.Test.YtccmicmlkgkheaaDoorDSto
import Derived.Test.YtccmicmlkgkheaaDoorSort
namespace Go.Proofs.YtccmicmlkgkheaaDoor.D
open Go.RowKit Go.Maps Go.Sort Go.Shelf
open Go.Lib hiding intOf
open Go.Proofs.YtccmicmlkgkheaaDoor.U Go.Proofs.YtccmicmlkgkheaaDoor.L Go.Proofs.YtccmicmlkgkheaaDoor.E

theorem keys_any (mb : Option Nat) (W : World) : Calls Tryd.prog 25 #[.map mb] W fun e w' => e = .returned (.func (.func 38) #[] #[.pointer (some ⟨W.heap.size, 0, none⟩)]) ∧ w' = W.alloc (.cells #[.map mb] 50) :=
  callsIn_wide.1 (AnyZ.keys_in Tryd.keys25 Fence.wide 5 trivial rfl mb W)
theorem sorts_any (m : Nat) : AnyZ.SortsIn Tryd.prog Tryd.sorted24_ren Fence.wide m :=
  ⟨fun blk off cap ss W hH hblk hsz => callsIn_wide.2 (AnyM.slices_Sort_string Tryd.sort37 blk off cap ss W hH hblk hsz),
   fun p cap W => callsIn_wide.2 (AnyM.slices_Sort_string_none Tryd.sort37 p cap W)⟩
def NamesOut (W : World) (names : List (List UInt8)) (e : Ending) (w' : World) : Prop :=
  ∃ v, e = .returned v ∧ w'.ownsRow W.heap.size 9 1 v names.length (names.map encStr) ∧ Below W.heap.size W w'
set_option maxHeartbeats 1000000 in
theorem sorted_some (b : Nat) (D : DataW Unit) (w : World) (hown : w.ownsMap Tryd.prog 9 docElem b 8 D) :
    Calls Tryd.prog 24 #[.func (.func 38) #[] #[.pointer (some ⟨w.heap.size, 0, none⟩)]] (w.alloc (.cells #[.map (some b)] 50)) fun e w' => ∃ (v : Value) (ss : List (List UInt8)), e = .returned v ∧ ss.Perm (strKeys D) ∧
      w'.ownsRow (w.alloc (.cells #[.map (some b)] 50)).heap.size 9 1 v ss.length ((ss.mergeSort (fun x y => decide (x ≤ y))).map encStr) ∧ (v = .slice none 0 0 ↔ ss = []) ∧ Below (w.alloc (.cells #[.map (some b)] 50)).heap.size (w.alloc (.cells #[.map (some b)] 50)) w' := by
  have hbl := hown.lt
  have hsz : Maps.size D ≤ 8 := hown.size_le
  have hmax : Maps.size D ≤ maxLen := by unfold maxLen; omega
  have hbytes : Maps.size D * 16 ≤ 140737488355328 := by omega
  have hseq : SeqGives Fence.wide 2 Tryd.prog 38 #[.pointer (some ⟨w.heap.size, 0, none⟩)] encStr (fun ss => ss.Perm (strKeys D)) (Maps.size D) (w.alloc (.cells #[.map (some b)] 50)) :=
    AnyZ.keys_gives (ρ := Tryd.keys25_ren) { Tryd.keys25 with } Fence.wide _ trivial rfl (by omega) w.heap.size b 8 D _ (by simp) (by simp) (by
      obtain ⟨es, clock, hb, Ft, hs, hD⟩ := hown
      exact ⟨es, clock, (Below.heap_alloc _ _ b hbl).trans hb, Ft, hs, hD⟩)
  exact callsIn_wide.1 (AnyZ.sorted_in Tryd.sorted24 Fence.wide 5 trivial trivial trivial trivial rfl (by omega) (sorts_any _) (enters_of Tryd.func37 (by kernel_rfl) rfl) 38 #[.pointer (some ⟨w.heap.size, 0, none⟩)] trivial (enters_of Tryd.func38 (by kernel_rfl) rfl) _ _ hmax hbytes _ hseq)
set_option maxHeartbeats 1000000 in
theorem sorted_none (w : World) :
    Calls Tryd.prog 24 #[.func (.func 38) #[] #[.pointer (some ⟨w.heap.size, 0, none⟩)]] (w.alloc (.cells #[.map none] 50)) fun e w' => ∃ (v : Value) (ss : List (List UInt8)), e = .returned v ∧ ss = [] ∧
      w'.ownsRow (w.alloc (.cells #[.map none] 50)).heap.size 9 1 v ss.length ((ss.mergeSort (fun x y => decide (x ≤ y))).map encStr) ∧ (v = .slice none 0 0 ↔ ss = []) ∧ Below (w.alloc (.cells #[.map none] 50)).heap.size (w.alloc (.cells #[.map none] 50)) w' := by
  have hseq : SeqGives Fence.wide 2 Tryd.prog 38 #[.pointer (some ⟨w.heap.size, 0, none⟩)] encStr (fun ss : List (List UInt8) => ss = []) 0 (w.alloc (.cells #[.map none] 50)) :=
    AnyZ.keys_gives_nil (ρ := Tryd.keys25_ren) { Tryd.keys25 with } Fence.wide _ trivial rfl w.heap.size _ (by simp) (by simp)
  exact callsIn_wide.1 (AnyZ.sorted_in Tryd.sorted24 Fence.wide 5 trivial trivial trivial trivial rfl (by omega) (sorts_any _) (enters_of Tryd.func37 (by kernel_rfl) rfl) 38 #[.pointer (some ⟨w.heap.size, 0, none⟩)] trivial (enters_of Tryd.func38 (by kernel_rfl) rfl) _ 0 (Nat.zero_le _) (by omega) _ hseq)
/-- The store's names, in order. -/
theorem sorted_any {p : Nat} {y : Option Nat} {l : List DocP} {w : World} (h : PSt p y l w) (hI : Inv l) :
    Calls Tryd.prog 24 #[.func (.func 38) #[] #[.pointer (some ⟨w.heap.size, 0, none⟩)]] (w.alloc (.cells #[.map y] 50)) (NamesOut (w.alloc (.cells #[.map y] 50)) (namesL l)) := by
  rcases h.own with ⟨rfl, rfl⟩ | ⟨b, D, rfl, h2, h3⟩
  · refine (sorted_none w).mono ?_
    rintro e w' ⟨v, ss, rfl, rfl, hrow, _, hb⟩
    exact ⟨v, rfl, by simpa [namesL] using hrow, hb⟩
  · refine (sorted_some b D w h2).mono ?_
    rintro e w' ⟨v, ss, rfl, hp, hrow, _, hb⟩
    have hs := h3.sorted hI (owns_strs h2) hp
    rw [hs] at hrow
    have hlen : ss.length = (namesL l).length := by rw [← hs, List.length_mergeSort]
    rw [hlen] at hrow
    exact ⟨v, rfl, hrow, hb⟩
end Go.Proofs.YtccmicmlkgkheaaDoor.D
