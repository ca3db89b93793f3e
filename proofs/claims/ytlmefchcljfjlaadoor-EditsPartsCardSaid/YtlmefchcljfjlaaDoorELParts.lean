/- The walk of the statement 'one by one' of layer 6. -/
import Derived.Test.YtlmefchcljfjlaaDoorELBack
namespace Go.Proofs.YtlmefchcljfjlaaDoor.E
open Go.RowKit
open Go.Lib hiding intOf
open Go.Proofs.YtlmefchcljfjlaaDoor.U Go.Proofs.YtlmefchcljfjlaaDoor.L

theorem infoEd : (Tryd.prog.info? 32).map (fun i => (i.zero, i.size, i.bytes)) = some (some (.agg #[.int .i64 0, .int .i64 0, .int .i64 0, .int .i64 0, .string ⟨#[]⟩]), 5, 48) := by kernel_rfl
theorem sizeEd (W : World) : (sizeOf (Tryd.prog.elem 22)).run Tryd.prog W = .ok 5 W := by
  rw [show Tryd.prog.elem 22 = 32 by kernel_rfl]
  obtain ⟨i0, hi0, _, hz1, _⟩ := info_parts infoEd
  rw [run_sizeOf (w := W) hi0]
  have : Tryd.prog.cellsOf 32 = 5 := by kernel_rfl
  rw [this]
theorem cut_low (a : Option Addr) (n c i : Nat) (hi : i ≤ c) : ∀ W, (Instr.slice 22 (.slice a n c) none (some (.int .i64 i)) none).run Tryd.prog W = .ok (.slice (if c = 0 then a else a.map (·.add (0 * 5))) i c) W := fun W => by
  rw [run_slice_h (P := Tryd.prog) (w := W) 22 a n c Tryd.underlying22 .i64 i (by omega) (by omega), sizeEd]
  simp [Result.andThen, sliced]
theorem cut_high (a : Option Addr) (n c i : Nat) (hi : i ≤ n) : ∀ W, (Instr.slice 22 (.slice a n c) (some (.int .i64 i)) none none).run Tryd.prog W = .ok (.slice (if c = i then a else a.map (·.add (i * 5))) (n - i) (c - i)) W := fun W => by
  rw [run_slice_l (P := Tryd.prog) (w := W) 22 a n c Tryd.underlying22 .i64 i (by omega) (by omega), sizeEd]
  simp [Result.andThen, sliced]
theorem eds_take {W : World} {l : List EdP} {a : Option Addr} {n c i : Nat} (h : EdsIn W l (.slice a n c)) (hn : l.length = n) (hi : i ≤ n) : EdsIn W (l.take i) (.slice (if c = 0 then a else a.map (·.add (0 * 5))) i c) := by
  obtain ⟨a', c', h1, h2⟩ := h
  simp only [Value.slice.injEq] at h1
  obtain ⟨rfl, _, rfl⟩ := h1
  have hl : (l.take i).length = i := by rw [List.length_take]; omega
  refine ⟨_, c, by rw [hl], ?_⟩
  rcases h2 with rfl | ⟨g, off, rfl, hg, hc⟩
  · exact .inl (by simp)
  · refine .inr ⟨g, off, (by split <;> first | rfl | (rw [Option.map_some, Addr.add_lit]; simp)), hg, fun j u hj => hc j u ?_⟩
    have : ∀ (x y : List EdP), edCs (x ++ y) = edCs x ++ edCs y := by
      intro x y; induction x with
      | nil => rfl
      | cons e r ih => simp only [List.cons_append, edCs, ih, List.append_assoc]
    rw [← List.take_append_drop i l, this, List.getElem?_append_left (List.getElem?_eq_some_iff.1 hj).1]
    exact hj
theorem eds_drop {W : World} {l : List EdP} {a : Option Addr} {n c i : Nat} (h : EdsIn W l (.slice a n c)) (hn : l.length = n) (hi : i ≤ n) (hc : n ≤ c) : EdsIn W (l.drop i) (.slice (if c = i then a else a.map (·.add (i * 5))) (n - i) (c - i)) := by
  obtain ⟨a', c', h1, h2⟩ := h
  simp only [Value.slice.injEq] at h1
  obtain ⟨rfl, _, rfl⟩ := h1
  have hl : (l.drop i).length = n - i := by rw [List.length_drop]; omega
  refine ⟨_, c - i, by rw [hl], ?_⟩
  rcases h2 with rfl | ⟨g, off, rfl, hg, hc2⟩
  · exact .inl (by simp)
  · by_cases h0 : n = i
    · exact .inl (by rw [List.drop_eq_nil_iff]; omega)
    · refine .inr ⟨g, off + i * 5, by rw [if_neg (by omega), Option.map_some, Addr.add_lit], hg, fun j u hj => ?_⟩
      have key : ∀ (x y : List EdP), edCs (x ++ y) = edCs x ++ edCs y := by
        intro x y; induction x with
        | nil => rfl
        | cons e r ih => simp only [List.cons_append, edCs, ih, List.append_assoc]
      have h5 := edCs_length (l.take i)
      rw [List.length_take] at h5
      have := hc2 (i * 5 + j) u (by
        rw [← List.take_append_drop i l, key, List.getElem?_append_right (by rw [h5]; omega), h5, show i * 5 + j - 5 * min i l.length = j by omega]
        exact hj)
      rw [← Nat.add_assoc] at this
      exact this
theorem applyL_size {s r : ByteArray} {c : Int} {l : List EdP} (h : applyL s l = (r, c)) (hs : s.size ≤ 300) : r.size ≤ 16384 := by
  unfold applyL at h
  by_cases hok : okB s = true
  · rw [if_pos hok] at h
    by_cases hc : c = 0
    · subst hc
      rcases (steps_ok l s r hok h).2 with h1 | h1
      · exact h1
      · rw [h1]; omega
    · have := steps_err l s (by rw [h]; exact hc)
      rw [h] at this
      simp only at this
      rw [this]; simp [ByteArray.size]
  · rw [if_neg hok] at h
    simp only [Prod.mk.injEq] at h
    rw [← h.1]; simp [ByteArray.size]

set_option maxHeartbeats 4000000 in
set_option maxRecDepth 100000 in
theorem lparts_far (l : List EdP) (s : ByteArray) (a : Option Addr) (c : Nat) (i : Int) (w : World) (hs : s.size ≤ 281474976710656) (hl : l.length ≤ 281474976710656) (ht : ∀ e ∈ l, e.t.size ≤ 281474976710656) (hv : EdsIn w l (.slice a l.length c)) (hT : Tabs w)
    (hq : fitsB s l = false ∨ (fitsB s l = true ∧ (i < 0 ∨ (0 ≤ i ∧ (l.length : Int) < i)))) :
    Calls Tryd.prog 6 #[.string s, .slice a l.length c, .int .i64 i] w (True' w) := by
  have cF := fits_any l s _ w hs hl ht hv
  have cA := alive_any w hT
  clear hT hv ht
  generalize l.length = n at cF hl hq ⊢
  rcases hq with hq | ⟨hq, h1 | ⟨h1, h2⟩⟩
  all_goals
    rw [hq] at cF
    clear hq
  · go_enter Tryd.func6, Tryd.ntmps6
    go_wp2_with fail
    refine cF.mono ?_
    rintro e w1 ⟨rfl, rfl⟩
    go_wp2_with fail
    refine cA.mono ?_
    rintro e w2 ⟨rfl, hb2⟩
    go_wp2_with fail
    go_ret
    exact ⟨rfl, hb2⟩
  · have d1 : decide (i < 0) = true := by simpa using h1
    go_enter Tryd.func6, Tryd.ntmps6
    go_wp2_with fail
    refine cF.mono ?_
    rintro e w1 ⟨rfl, rfl⟩
    go_wp2_with fail
    refine cA.mono ?_
    rintro e w2 ⟨rfl, hb2⟩
    go_wp2_with fail
    go_ret
    exact ⟨rfl, hb2⟩
  · have d1 : decide (i < 0) = false := by simpa using h1
    have d2 : decide ((n : Int) < i) = true := by simpa using h2
    go_enter Tryd.func6, Tryd.ntmps6
    go_wp2_with fail
    refine cF.mono ?_
    rintro e w1 ⟨rfl, rfl⟩
    go_wp2_with fail
    refine cA.mono ?_
    rintro e w2 ⟨rfl, hb2⟩
    go_wp2_with fail
    go_ret
    exact ⟨rfl, hb2⟩

set_option maxHeartbeats 8000000 in
set_option maxRecDepth 100000 in
theorem lparts_near (l : List EdP) (s : ByteArray) (a : Option Addr) (c i n : Nat) (w : World) (hn : l.length = n) (hv : EdsIn w l (.slice a n c)) (hT : Tabs w) (hc : n ≤ c) (hf : fitsB s l = true) (hi : i ≤ n) :
    Calls Tryd.prog 6 #[.string s, .slice a n c, .int .i64 i] w (True' w) := by
  obtain ⟨h12, h300⟩ := fits_true hf
  have hmem : ∀ e ∈ l, e.t.size ≤ 300 := fun e he => by have := sumT_mem he; omega
  have cF := fits_any l s _ w (by omega) (by omega) (fun e he => by have := hmem e he; omega) hv
  rw [hf] at cF
  have q1 := cut_low a n c i (by omega)
  have q2 := cut_high a n c i hi
  have hv1 := eds_take hv hn hi
  have hv2 := eds_drop hv hn hi hc
  generalize (if c = 0 then a else a.map (·.add (0 * 5))) = A1 at q1 hv1
  generalize (if c = i then a else a.map (·.add (i * 5))) = A2 at q2 hv2
  have hparts := applyL_parts s (l.take i) (l.drop i)
  rw [List.take_append_drop] at hparts
  obtain ⟨x, e, hx⟩ : ∃ x e, applyL s l = (x, e) := ⟨_, _, rfl⟩
  obtain ⟨y, f, hy⟩ : ∃ y f, applyL s (l.take i) = (y, f) := ⟨_, _, rfl⟩
  obtain ⟨z, g, hz⟩ : ∃ z g, applyL y (l.drop i) = (z, g) := ⟨_, _, rfl⟩
  obtain ⟨sm, h, hsm⟩ : ∃ sm h, applyL s [] = (sm, h) := ⟨_, _, rfl⟩
  have hsame : (h = 0 ∧ sm = s) ∨ (h = 11 ∧ sm = ⟨#[]⟩) := by
    unfold applyL at hsm
    by_cases hok : okB s = true
    · rw [if_pos hok] at hsm; simp only [steps, Prod.mk.injEq] at hsm; exact .inl ⟨hsm.2.symm, hsm.1.symm⟩
    · rw [if_neg hok] at hsm; simp only [Prod.mk.injEq] at hsm; exact .inr ⟨hsm.2.symm, hsm.1.symm⟩
  have hfe : ((f == 0) = false ∧ e = f) ∨ (f = 0 ∧ x = z ∧ e = g) := by
    rw [hx, hy] at hparts
    by_cases hf0 : f = 0
    · have := hparts.1 hf0
      rw [hz] at this
      simp only [Prod.mk.injEq] at this
      exact .inr ⟨hf0, this.1, this.2⟩
    · have := hparts.2 hf0
      simp only [Prod.mk.injEq] at this
      exact .inl ⟨by simpa using hf0, this.2⟩
  have hyz := applyL_size hy (by omega)
  have HT := Lib.hid hT
  have CX := Lib.hid (fun W (hb : Below w.heap.size w W) => apply_is l s x e (.slice a n c) W (by omega) (by omega) (fun e he => by have := hmem e he; omega) (hv.later hb) (tabs_later hT hb) hx)
  have CY := Lib.hid (fun W (hb : Below w.heap.size w W) => apply_is (l.take i) s y f (.slice A1 i c) W (by omega) (by rw [List.length_take]; omega) (fun e he => by have := hmem e (List.mem_of_mem_take he); omega) (hv1.later hb) (tabs_later hT hb) hy)
  have CZ := Lib.hid (fun W (hb : Below w.heap.size w W) => apply_is (l.drop i) y z g (.slice A2 (n - i) (c - i)) W (by omega) (by rw [List.length_drop]; omega) (fun e he => by have := hmem e (List.mem_of_mem_drop he); omega) (hv2.later hb) (tabs_later hT hb) hz)
  have CS := Lib.hid (fun W (hb : Below w.heap.size w W) => apply_is [] s sm h (.slice none 0 0) W (by omega) (by simp) (by simp) ⟨none, 0, rfl, .inl rfl⟩ (tabs_later hT hb) hsm)
  have d1 : decide ((i : Int) < 0) = false := by simp
  have d2 : decide ((n : Int) < (i : Int)) = false := by simp; omega
  clear hx hy hz hsm hv hv1 hv2 hparts hmem hf hT hn h300
  go_enter Tryd.func6, Tryd.ntmps6
  go_wp2_with fail
  refine cF.mono ?_
  rintro e' w1 ⟨rfl, hw⟩
  replace hw := hw.symm
  subst hw
  clear cF
  go_wp2_with fail
  refine (CX.out w (Below.refl _ _)).mono ?_
  rintro e' w2 ⟨rfl, hb2⟩
  have HB2 := Lib.hid hb2
  clear hb2 CX
  go_wp2_with fail
  refine (CY.out w2 HB2.out).mono ?_
  rintro e' w3 ⟨rfl, hb3⟩
  have HB3 := Lib.hid (next HB2.out hb3)
  clear hb3 CY HB2
  go_wp2_with fail
  refine (CZ.out w3 HB3.out).mono ?_
  rintro e' w4 ⟨rfl, hb4⟩
  have HB4 := Lib.hid (next HB3.out hb4)
  clear hb4 CZ HB3
  go_wp2_with fail
  refine (CS.out w4 HB4.out).mono ?_
  rintro e' w5 ⟨rfl, hb5⟩
  have HB5 := Lib.hid (next HB4.out hb5)
  have cA := alive_any w5 (tabs_later HT.out HB5.out)
  clear hb5 CS HB4
  rcases hsame with ⟨rfl, rfl⟩ | ⟨rfl, rfl⟩
  all_goals
    rcases hfe with ⟨hf0, rfl⟩ | ⟨rfl, rfl, rfl⟩
    all_goals
      go_wp2_with fail
      refine cA.mono ?_
      rintro e' w6 ⟨rfl, hb6⟩
      have HB6 := Lib.hid (next HB5.out hb6)
      clear hb6 cA
      go_wp2_with fail
      go_ret
      exact ⟨by first | rfl | simp, HB6.out⟩
theorem lparts_walk (l : List EdP) (s : ByteArray) (a : Option Addr) (c : Nat) (i : Int) (w : World) (hs : s.size ≤ 281474976710656) (hl : l.length ≤ 281474976710656) (ht : ∀ e ∈ l, e.t.size ≤ 281474976710656) (hv : EdsIn w l (.slice a l.length c)) (hc : l.length ≤ c) (hT : Tabs w) :
    Calls Tryd.prog 6 #[.string s, .slice a l.length c, .int .i64 i] w (True' w) := by
  cases hf : fitsB s l
  · exact lparts_far l s a c i w hs hl ht hv hT (.inl hf)
  · by_cases h1 : i < 0
    · exact lparts_far l s a c i w hs hl ht hv hT (.inr ⟨hf, .inl h1⟩)
    · by_cases h2 : (l.length : Int) < i
      · exact lparts_far l s a c i w hs hl ht hv hT (.inr ⟨hf, .inr ⟨by omega, h2⟩⟩)
      · obtain ⟨m, rfl⟩ : ∃ m : Nat, i = m := ⟨i.toNat, by omega⟩
        exact lparts_near l s a c m _ w rfl hv hT hc hf (by omega)
end Go.Proofs.YtlmefchcljfjlaaDoor.E
