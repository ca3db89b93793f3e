/- The contract of a record, between its brackets. -/
import Derived.Test.YtfjdeacpdcnjpaaGreatDoorVRead10
import Derived.Carry
namespace Go.Proofs.YtfjdeacpdcnjpaaGreatDoor.V
open Go.RowKit
open Go.Lib

def recordP (f o : Nat) (l : List UInt8) : Res Val := resMap (fun p : List (List UInt8) × List Val => Val.rcd p.1 p.2) (partsG (stepR (o + 1)) 125 f o l ([], []))

theorem five (w : World) (o1 o2 o3 o4 o5 : Obj) : (((((w.alloc o1).alloc o2).alloc o3).alloc o4).alloc o5).heap[w.heap.size]? = some o1 ∧ (((((w.alloc o1).alloc o2).alloc o3).alloc o4).alloc o5).heap[w.heap.size + 1]? = some o2 ∧ (((((w.alloc o1).alloc o2).alloc o3).alloc o4).alloc o5).heap[w.heap.size + 1 + 1]? = some o3 ∧
    (((((w.alloc o1).alloc o2).alloc o3).alloc o4).alloc o5).heap[w.heap.size + 1 + 1 + 1]? = some o4 ∧ (((((w.alloc o1).alloc o2).alloc o3).alloc o4).alloc o5).heap[w.heap.size + 1 + 1 + 1 + 1]? = some o5 ∧
    Below w.heap.size w (((((w.alloc o1).alloc o2).alloc o3).alloc o4).alloc o5) ∧ (((((w.alloc o1).alloc o2).alloc o3).alloc o4).alloc o5).heap.size = w.heap.size + 5 := by
  obtain ⟨h1, h2, h3, hb, hz⟩ := three w o1 o2 o3
  have s4 : ((((w.alloc o1).alloc o2).alloc o3).alloc o4).heap.size = w.heap.size + 4 := by simp
  refine ⟨?_, ?_, ?_, ?_, ?_, (hb.alloc (by omega) _).alloc (by omega) _, by simp⟩
  · rw [Below.heap_alloc _ _ _ (by omega), Below.heap_alloc _ _ _ (by omega)]; exact h1
  · rw [Below.heap_alloc _ _ _ (by omega), Below.heap_alloc _ _ _ (by omega)]; exact h2
  · rw [Below.heap_alloc _ _ _ (by omega), Below.heap_alloc _ _ _ (by omega)]; exact h3
  · rw [Below.heap_alloc _ _ _ (by omega), ← hz]; exact heap_alloc_new _ o4
  · rw [show w.heap.size + 1 + 1 + 1 + 1 = ((((w.alloc o1).alloc o2).alloc o3).alloc o4).heap.size by omega]; exact heap_alloc_new _ o5

theorem keysIn_of {W : World} {Bl : Nat} {ks : List (List UInt8)} {kv : Value} (h : W.ownsRow Bl 9 1 kv ks.length (ks.map strCell)) : KeysIn W (fun g => Bl ≤ g) ks kv := by
  rcases h.2 with ⟨rfl, h0⟩ | ⟨g, cap, cur, rfl, hg, hgg, rest⟩
  · exact ⟨none, 0, by rw [h0], .inl (List.eq_nil_of_length_eq_zero h0)⟩
  · refine ⟨_, cap, rfl, .inr ⟨g, 0, rfl, hg, fun j u hj => ?_⟩⟩
    have h2 := World.ownsRowF.cells (World.ownsRowF_of h) (g := g) rfl j u hj
    rw [show (⟨g, 0, none⟩ : Addr).add j = ⟨g, 0 + j, none⟩ from by unfold Addr.add; split <;> simp_all] at h2
    exact h2

theorem seen_nil {m : Nat} {W : World} (h : W.heap[m]? = some (.map #[] 0)) : Seen m [] W := by
  obtain ⟨D, ⟨es, clock, hb, rest⟩, h2⟩ := Seen.made W
  rw [heap_alloc_new] at hb
  cases hb
  exact ⟨D, ⟨_, _, h, rest⟩, h2⟩
theorem stepR_inv {o f : Nat} {st st' : List (List UInt8) × List Val} {l r : List UInt8} (h : stepR o f st l = .ok st' r) : ∃ k r0 v, key l = some (k, r0) ∧ value f o r0 = .ok v r ∧ st' = (st.1 ++ [k], st.2 ++ [v]) := by
  unfold stepR at h
  cases hk : key l with
  | none => rw [hk] at h; cases h
  | some p =>
    obtain ⟨k, r0⟩ := p
    rw [hk] at h
    simp only at h
    split at h
    · cases h
    · obtain ⟨v, h2, h3⟩ := resMap_len h
      exact ⟨k, r0, v, rfl, h2, h3⟩
theorem stepR_len {o f : Nat} {st st' : List (List UInt8) × List Val} {l r : List UInt8} (h : stepR o f st l = .ok st' r) : r.length ≤ l.length := by
  obtain ⟨k, r0, v, h1, h2, _⟩ := stepR_inv h
  have := key_len h1
  have := value_len _ _ _ _ _ h2
  omega
theorem stepR_cnt {o f : Nat} {st st' : List (List UInt8) × List Val} {l r : List UInt8} (h : stepR o f st l = .ok st' r) : max st'.1.length st'.2.length ≤ max st.1.length st.2.length + 1 := by
  obtain ⟨k, r0, v, _, _, rfl⟩ := stepR_inv h
  simp only [List.length_append, List.length_cons, List.length_nil]; omega

set_option maxHeartbeats 2000000 in
theorem record_any (F f d B0 : Nat) (s : ByteArray) (l : List UInt8) (o : Nat) (w : World) (IH : ValC F) (hf : f ≤ F) (hf2 : f ≤ 1099511627776)
    (hr : RdL d s l o w) (hE : Env B0 w) (hd : B0 ≤ d) (hs : s.size ≤ 274877906944) (ho : o ≤ 20) (hl : 2 * l.length + 2 ≤ f) :
    Calls Tryz.prog 52 #[.pointer (some ⟨d, 0, none⟩)] w (ReadsV d s o (recordP f o l) w) := by
  have hmf : ∀ (fn : Fn) (first cap : Array Value) (w : World), (Instr.makeFunc fn first cap).run Tryz.prog w = .ok (.func fn first cap) w := fun _ _ _ _ => rfl
  have hmm := @run_makeMap Tryz.prog
  have hdlt := hr.lt
  have hz0 := hE.size
  go_enter Tryz.func52, Tryz.ntmps52
  go_wp2_with fail
  obtain ⟨t1, t2, t3, t4, t5, tb, tz⟩ := five w (.cells #[.pointer (some ⟨d, 0, none⟩)] 83) (.cells #[.int .i64 0, .bool false, .int .i64 0, .string ⟨#[]⟩, .slice none 0 0, .slice none 0 0] 34) (.cells #[.int .i64 5, .bool false, .int .i64 0, .string ⟨#[]⟩, .slice none 0 0, .slice none 0 0] 34) (.map #[] 0) (.cells #[.map (some (w.heap.size + 1 + 1 + 1))] 88)
  generalize ((((w.alloc (.cells #[.pointer (some ⟨d, 0, none⟩)] 83)).alloc (.cells #[.int .i64 0, .bool false, .int .i64 0, .string ⟨#[]⟩, .slice none 0 0, .slice none 0 0] 34)).alloc (.cells #[.int .i64 5, .bool false, .int .i64 0, .string ⟨#[]⟩, .slice none 0 0, .slice none 0 0] 34)).alloc (.map #[] 0)).alloc (.cells #[.map (some (w.heap.size + 1 + 1 + 1))] 88) = W0 at *
  have cP := parts_any (stepR (o + 1)) 125 (RI d (w.heap.size + 1 + 1) w.heap.size (w.heap.size + 1 + 1 + 1 + 1) (w.heap.size + 1 + 1 + 1)) (fun k => k = w.heap.size + 1 + 1 ∨ k = w.heap.size + 1 + 1 + 1) 66 #[.pointer (some ⟨w.heap.size, 0, none⟩), .pointer (some ⟨w.heap.size + 1 + 1 + 1 + 1, 0, none⟩), .pointer (some ⟨w.heap.size + 1 + 1, 0, none⟩)] d B0 f s l o ([], []) W0
    (hr.below tb) (hE.later (tb.mono hz0)) hd (by omega) ho (by rintro k (rfl | rfl) <;> omega) hl
    (fun f st l st' r h => stepR_len h) (fun st => max st.1.length st.2.length) rfl (fun f st l st' r h => stepR_cnt h)
    (fun W hm => ⟨by have := hm.size; omega,
      by rw [cell_of_same (p := ⟨w.heap.size, 0, none⟩) (hm.block w.heap.size (by omega) (by omega))]; unfold World.cell?; rw [t1]; rfl,
      by rw [cell_of_same (p := ⟨w.heap.size + 1 + 1 + 1 + 1, 0, none⟩) (hm.block (w.heap.size + 1 + 1 + 1 + 1) (by omega) (by omega))]; unfold World.cell?; rw [t5]; rfl,
      seen_nil ((hm.block _ (by omega) (by omega)).trans t4),
      .slice none 0 0, .slice none 0 0, [], (hm.block _ (by omega) (by omega)).trans t3, World.ownsRow_nil _ _ _ _, rfl, World.ownsRow_nil _ _ _ _, fun g hg => by cases hg⟩)
    (fun Bl st W W' _ h hm => h.mut hm)
    (enters_of Tryz.func66 (by kernel_rfl) rfl)
    (fun Bl f' st l' W ho' hc hl' _ _ hEW hI hrW => record_part F f' d (w.heap.size + 1 + 1) w.heap.size (w.heap.size + 1 + 1 + 1 + 1) (w.heap.size + 1 + 1 + 1) Bl B0 s l' (o + 1) st W IH (by omega) (by omega) hrW hEW hd (by omega) hs (by omega) hl' (by omega) (by omega) hI)
  have HCP := Lib.hid cP
  clear cP
  cases hp : partsG (stepR (o + 1)) 125 f o l ([], []) with
  | bad =>
    have hres : recordP f o l = .bad := by unfold recordP; rw [hp]; rfl
    have HRes := Lib.hid hres
    have cQ := HCP.out
    rw [hp] at cQ
    clear hres HCP hp
    refine cQ.mono ?_
    rintro e W1 ⟨hm, rfl, l1, hr1⟩
    have hb := (hm.block (w.heap.size + 1) (by omega) (by omega) (by omega)).trans t2
    obtain ⟨⟨k0, k1, k2, k3, k4, k5⟩, kf⟩ := cells_six hb
    have hmw : Mut w.heap.size d w W1 := (Mut.of_below tb).trans (hm.mut (by omega) (by rintro k (rfl | rfl) <;> omega))
    clear cQ hm t1 t2 t3 hb
    go_wp2_with fail
    refine bodyPost_ret (v := .tuple #[.agg (six 0 false 0 [] (.slice none 0 0) (.slice none 0 0)).toArray, .int .i64 21]) (by simp [results, Tryz.results52, go_sem, six, strCell, k0, k1, k2, k3, k4, k5]) rfl ?_
    exact readsV_bad HRes.out hmw hr1 (by omega) (by omega)
  | deep =>
    have hres : recordP f o l = .deep := by unfold recordP; rw [hp]; rfl
    have HRes := Lib.hid hres
    have cQ := HCP.out
    rw [hp] at cQ
    clear hres HCP hp
    refine cQ.mono ?_
    rintro e W1 ⟨hm, rfl, l1, hr1⟩
    have hb := (hm.block (w.heap.size + 1) (by omega) (by omega) (by omega)).trans t2
    obtain ⟨⟨k0, k1, k2, k3, k4, k5⟩, kf⟩ := cells_six hb
    have hmw : Mut w.heap.size d w W1 := (Mut.of_below tb).trans (hm.mut (by omega) (by rintro k (rfl | rfl) <;> omega))
    clear cQ hm t1 t2 t3 hb
    go_wp2_with fail
    refine bodyPost_ret (v := .tuple #[.agg (six 0 false 0 [] (.slice none 0 0) (.slice none 0 0)).toArray, .int .i64 22]) (by simp [results, Tryz.results52, go_sem, six, strCell, k0, k1, k2, k3, k4, k5]) rfl ?_
    exact readsV_deep HRes.out hmw hr1 (by omega) (by omega)
  | ok pr rest =>
    obtain ⟨ks, vs⟩ := pr
    have hres : recordP f o l = .ok (.mk 5 false 0 [] vs ks) rest := by unfold recordP; rw [hp]; rfl
    have HRes := Lib.hid hres
    have cQ := HCP.out
    rw [hp] at cQ
    clear hres HCP hp
    refine cQ.mono ?_
    rintro e W1 ⟨hm, rfl, ⟨Bl, ⟨i1, i2, i3, _, _, i4, i5, i6, _⟩, _, _, _, lv, kv, xs, i8, i9, i10, i11, _⟩, hr1⟩
    have hb := (hm.block (w.heap.size + 1) (by omega) (by omega) (by omega)).trans t2
    obtain ⟨⟨k0, k1, k2, k3, k4, k5⟩, kf⟩ := cells_six hb
    have HV := Lib.hid (valIn_of (so := 5) (Nat.le_refl _) i9 i10 (keysIn_of i11) false 0 [])
    obtain ⟨la, lc, rfl⟩ := slice_form i9
    obtain ⟨qa, qc, rfl⟩ := slice_form i11
    obtain ⟨⟨j0, j1, j2, j3, j4, j5⟩, jf⟩ := cells_six i8
    replace j3 : W1.cell? ⟨w.heap.size + 1 + 1, 3, none⟩ = some (.string ⟨#[]⟩) := j3
    have hmw : Mut w.heap.size d w W1 := (Mut.of_below tb).trans (hm.mut (by omega) (by rintro k (rfl | rfl) <;> omega))
    have hne : ¬ w.heap.size + 1 + 1 = w.heap.size + 1 := by omega
    clear cQ hm t1 t2 t3 hb i8 i9 i10 i11 jf
    go_wp2_with fail
    refine bodyPost_ret (v := .tuple #[.agg (six 5 false 0 [] (.slice la vs.length lc) (.slice qa ks.length qc)).toArray, .int .i64 0]) (by simp [results, Tryz.results52, go_sem, six, strCell, k0, k1, k2, k3, k4, k5]) rfl ?_
    exact readsV_ok HRes.out hmw hr1 HV.out (by omega) (by omega) (by omega)
end Go.Proofs.YtfjdeacpdcnjpaaGreatDoor.V
