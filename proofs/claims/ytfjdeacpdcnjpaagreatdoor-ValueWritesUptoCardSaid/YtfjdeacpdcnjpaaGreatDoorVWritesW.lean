/- The contract of the law's To: a value, its lists copied. Contracts in handy form for the law ValueWrites. The law ValueWrites's walk. The law ValueWrites's walk at values that are not long. -/
import Derived.Test.YtfjdeacpdcnjpaaGreatDoorVTrees
import Derived.Deep.RegionLaw
import Derived.Deep.AppendLies
import Derived.OwnWalk
import Derived.Laws.Pointers
import Derived.Test.YtfjdeacpdcnjpaaGreatDoorVGets
import Derived.Test.YtfjdeacpdcnjpaaGreatDoorVRefAll
import Derived.Test.YtfjdeacpdcnjpaaGreatDoorVAlive
import Derived.Deep.RegionHeld3
import Derived.Deep.DrawnRows
namespace Go.Proofs.YtfjdeacpdcnjpaaGreatDoor.V
open Go.RowKit
open Go.Lib

/-- How memory lies while a value is copied: its box, the result's block, and the copy so far. -/
structure ToSt (B : Nat) (so : Int) (on : Bool) (n : Int) (t : List UInt8) (bl kv lvo : Value) (vs : List Val) (xs : List Value) (w wr : World) : Prop where
  below : Below w.heap.size w wr
  size : w.heap.size + 3 ≤ wr.heap.size
  box : wr.heap[w.heap.size]? = some (.cells #[.int .i64 so, .bool on, .int .i64 n, .string ⟨t.toArray⟩, bl, kv] 34 (0, 0))
  res : wr.heap[w.heap.size + 1]? = some (.cells #[.int .i64 0, .bool false, .int .i64 0, .string ⟨#[]⟩, .slice none 0 0, .slice none 0 0] 26 (0, 0))
  val : wr.heap[w.heap.size + 2]? = some (.cells #[.int .i64 so, .bool on, .int .i64 n, .string ⟨t.toArray⟩, lvo, kv] 26 (0, 0))
  own : wr.ownsRow (w.heap.size + 3) 26 6 lvo vs.length xs
  parts : ListIn wr (fun g => g < B ∨ (w.heap.size + 3 ≤ g ∧ lvo.ownBlock ≠ some g)) vs xs

theorem to_step {B gg capg m : Nat} {so n : Int} {on : Bool} {t : List UInt8} {bl kv lvo lv' kv' : Value} {vs : List Val} {v : Val} {xs : List Value} {w wr w2 w3 : World} {zo : Obj}
    (hst : ToSt B so on n t bl kv lvo vs xs w wr) (hm : vs.length = m) (hB : B ≤ w.heap.size) (hb2 : Below wr.heap.size wr w2) (hv : ValIn w2 (fun g => g < B ∨ wr.heap.size ≤ g) v lv' kv')
    (hgrow : (w2.alloc zo).grownBy w3 lvo.ownBlock)
    (hown3 : w3.ownsRow (w.heap.size + 3) 26 6 (.slice (some ⟨gg, 0, none⟩) (m + 1) capg) (m + 1) (xs ++ six' v lv' kv'))
    (hat : lvo.ownBlock = some gg ∨ gg = w2.heap.size + 1) :
    ToSt B so on n t bl kv (.slice (some ⟨gg, 0, none⟩) (m + 1) capg) (vs ++ [v]) (xs ++ six' v lv' kv') w (w3.setCell ⟨w.heap.size + 2, 4, none⟩ (.slice (some ⟨gg, 0, none⟩) (m + 1) capg)) := by
  have hrow : ∀ k, lvo.ownBlock = some k → w.heap.size + 3 ≤ k ∧ k < wr.heap.size := fun k hk => World.ownsRowF.lt (World.ownsRowF_of hst.own) k hk
  have hz2 := hb2.size
  have hz0 := hst.size
  have hgB : w.heap.size + 3 ≤ gg := by
    rcases hat with h | h
    · exact (hrow gg h).1
    · omega
  have hne2 : gg ≠ w.heap.size + 2 := by omega
  have hggw : ∀ k, k < w2.heap.size → lvo.ownBlock ≠ some k → k ≠ gg := fun k hk hne h => by
    subst h; rcases hat with h | h
    · exact hne h
    · omega
  have far3 : ∀ k, k < w2.heap.size → lvo.ownBlock ≠ some k → w3.heap[k]? = w2.heap[k]? := fun k hk hne => by
    rw [hgrow.block k (by simp; omega) (fun h => hne h.symm)]
    exact Below.heap_alloc w2 zo k (by omega)
  have far2 : ∀ k, k < w2.heap.size → lvo.ownBlock ≠ some k → k ≠ w.heap.size + 2 → (w3.setCell ⟨w.heap.size + 2, 4, none⟩ (.slice (some ⟨gg, 0, none⟩) (m + 1) capg)).heap[k]? = w2.heap[k]? := fun k hk hne hkb => by
    rw [Below.heap_setCell _ _ _ _ hkb]
    exact far3 k hk hne
  have hlow : ∀ k, k < w.heap.size + 3 → lvo.ownBlock ≠ some k := fun k hk h => by have := hrow k h; omega
  have hs3 := hgrow.size
  simp only [World.size_alloc] at hs3
  refine ⟨?_, ?_, ?_, ?_, ?_, ?_, ?_⟩
  · refine ⟨hgrow.os.trans (hb2.os.trans hst.below.os), hgrow.tape.trans (hb2.tape.trans hst.below.tape), hgrow.output.trans (hb2.output.trans hst.below.output), ?_, fun k hk => ?_⟩
    · rw [sc_size]; omega
    · exact (far2 k (by omega) (hlow k (by omega)) (by omega)).trans ((hb2.block k (by omega)).trans (hst.below.block k hk))
  · rw [sc_size]; omega
  · exact (far2 _ (by omega) (hlow _ (by omega)) (by omega)).trans ((hb2.block _ (by omega)).trans hst.box)
  · exact (far2 _ (by omega) (hlow _ (by omega)) (by omega)).trans ((hb2.block _ (by omega)).trans hst.res)
  · exact Go.Joins.block_setCell (cs := #[.int .i64 so, .bool on, .int .i64 n, .string ⟨t.toArray⟩, lvo, kv]) (i := 4) ((far3 _ (by omega) (hlow _ (by omega))).trans ((hb2.block _ (by omega)).trans hst.val)) _
  · rw [List.length_append, List.length_singleton, hm]
    refine ownsRow_same hown3 fun g hg => ?_
    have hg : gg = g := by simpa [Value.ownBlock] using hg
    have hg2 : g ≠ w.heap.size + 2 := by omega
    rw [Below.heap_setCell _ _ _ _ hg2]
  · refine ListIn.snoc ?_ ?_
    · refine ListIn.later (R := fun g => (g < B ∨ (w.heap.size + 3 ≤ g ∧ lvo.ownBlock ≠ some g)) ∧ g < wr.heap.size) (fun g hg hlt => ?_) (fun g hg => ?_) vs xs (ListIn.bound vs xs hst.parts)
      · have hne : lvo.ownBlock ≠ some g := by
          rcases hg.1 with h | h
          · exact hlow g (by omega)
          · exact h.2
        have : g ≠ w.heap.size + 2 := by
          rcases hg.1 with h | h
          · omega
          · omega
        exact (far2 g (by omega) hne this).trans (hb2.block g hlt)
      · rcases hg.1 with h | h
        · exact .inl h
        · refine .inr ⟨h.1, fun h2 => ?_⟩
          have h2 : gg = g := by simpa [Value.ownBlock] using h2
          exact hggw g (by omega) h.2 h2.symm
    · refine ValIn.later (R := fun g => (g < B ∨ wr.heap.size ≤ g) ∧ g < w2.heap.size) (fun g hg hlt => ?_) (fun g hg => ?_) _ _ _ (ValIn.bound _ _ _ hv)
      · have hne : lvo.ownBlock ≠ some g := fun h => by
          have := hrow g h
          rcases hg.1 with h | h <;> omega
        exact far2 g hlt hne (by rcases hg.1 with h | h <;> omega)
      · rcases hg.1 with h | h
        · exact .inl h
        · refine .inr ⟨by omega, fun h2 => ?_⟩
          have h2 : gg = g := by simpa [Value.ownBlock] using h2
          exact hggw g hg.2 (fun h3 => by have := hrow g h3; omega) h2.symm

theorem to_end {B : Nat} {so n : Int} {on : Bool} {t : List UInt8} {bl kv lvo : Value} {vs : List Val} {ks : List (List UInt8)} {xs : List Value} {w wr : World}
    (hst : ToSt B so on n t bl kv lvo vs xs w wr) (hk : KeysIn w (fun g => g < B) ks kv) : ValIn wr (fun g => g < B ∨ w.heap.size + 3 ≤ g) (.mk so on n t vs ks) lvo kv := by
  refine ⟨?_, hk.later (fun g hg hlt => hst.below.block g hlt) (fun _ h => .inl h)⟩
  rcases hst.own.2 with ⟨h1, h2⟩ | ⟨g, cap, cur, h1, hg, hgg, hle, hcap, hsz, htake⟩
  · exact ⟨none, 0, by rw [h1, h2], .inl (List.eq_nil_of_length_eq_zero h2)⟩
  · refine ⟨some ⟨g, 0, none⟩, cap, h1, .inr ⟨g, 0, xs, rfl, .inr hg, fun j u hj => ?_, ListIn.later (fun _ _ _ => rfl) (fun g hg => hg.imp id (·.1)) _ _ hst.parts⟩⟩
    rw [Nat.zero_add]
    unfold World.cell?
    rw [hgg]
    rw [← htake, List.getElem?_take] at hj
    split at hj
    · simpa using hj
    · cases hj

theorem to_start (B : Nat) (so : Int) (on : Bool) (n : Int) (t : List UInt8) (bl kv : Value) (w : World) :
    ToSt B so on n t bl kv (.slice none 0 0) [] [] w (((w.alloc (.cells #[.int .i64 so, .bool on, .int .i64 n, .string ⟨t.toArray⟩, bl, kv] 34)).alloc (.cells #[.int .i64 0, .bool false, .int .i64 0, .string ⟨#[]⟩, .slice none 0 0, .slice none 0 0] 26)).alloc (.cells #[.int .i64 so, .bool on, .int .i64 n, .string ⟨t.toArray⟩, .slice none 0 0, kv] 26)) := by
  obtain ⟨h1, h2, h3, h4⟩ := two w (.cells #[.int .i64 so, .bool on, .int .i64 n, .string ⟨t.toArray⟩, bl, kv] 34) (.cells #[.int .i64 0, .bool false, .int .i64 0, .string ⟨#[]⟩, .slice none 0 0, .slice none 0 0] 26)
  generalize (w.alloc (.cells #[.int .i64 so, .bool on, .int .i64 n, .string ⟨t.toArray⟩, bl, kv] 34)).alloc (.cells #[.int .i64 0, .bool false, .int .i64 0, .string ⟨#[]⟩, .slice none 0 0, .slice none 0 0] 26) = W at *
  have h5 := heap_alloc_new W (.cells #[.int .i64 so, .bool on, .int .i64 n, .string ⟨t.toArray⟩, .slice none 0 0, kv] 26)
  have hb : Below W.heap.size W (W.alloc (.cells #[.int .i64 so, .bool on, .int .i64 n, .string ⟨t.toArray⟩, .slice none 0 0, kv] 26)) := (Below.refl _ _).alloc (Nat.le_refl _) _
  rw [h4] at h5
  exact ⟨h3.trans (hb.mono (by omega)), by simp; omega, (hb.block _ (by omega)).trans h1, (hb.block _ (by omega)).trans h2, h5, ⟨by simp, .inl ⟨rfl, rfl⟩⟩, rfl⟩

theorem infoR : (Tryz.prog.info? 26).map (fun i => (i.zero, i.size, i.bytes)) = some (some (.agg #[.int .i64 0, .bool false, .int .i64 0, .string ⟨#[]⟩, .slice none 0 0, .slice none 0 0]), 6, 88) := by kernel_rfl

/-- The contract of To at a value. -/
def ToC (v : Val) : Prop := ∀ (lv kv : Value) (B : Nat) (w : World), ValIn w (fun g => g < B) v lv kv → B ≤ w.heap.size → wt v ≤ 1099511627776 →
  Calls Tryz.prog 12 #[arg v lv kv] w fun e w' => Below w.heap.size w w' ∧ ∃ lv', e = .returned (arg v lv' kv) ∧ ValIn w' (fun g => g < B ∨ w.heap.size ≤ g) v lv' kv

set_option maxHeartbeats 8000000 in
set_option maxRecDepth 100000 in
theorem to_v : ∀ v, ToC v := Val.ind fun so on n t l ks IH lv kv B w hv hB hw => by
  obtain ⟨i0, hi0, hz0, hz1, hz2⟩ := info_parts infoR
  have hv' := hv
  obtain ⟨⟨a1, c1, rfl, hl⟩, ⟨a2, c2, rfl, hk⟩⟩ := hv'
  have HV := Lib.hid hv
  have HL := Lib.hid hl
  have HIH := Lib.hid IH
  have hw2 := hw
  simp only [wt] at hw2
  have hw3 : wtL l ≤ 1099511627776 := by omega
  have HWM := Lib.hid (fun v (h : v ∈ l) => Nat.le_trans (wtL_mem h) hw3)
  have hlb : l.length ≤ 1099511627776 := Nat.le_trans (wtL_length l) hw3
  obtain ⟨ln, hln⟩ : ∃ k, l.length = k := ⟨_, rfl⟩
  obtain ⟨kn, hkn⟩ : ∃ k, ks.length = k := ⟨_, rfl⟩
  have HLN := Lib.hid hln
  have HKN := Lib.hid hkn
  simp only [arg, six', six, strCell]
  rw [hln, hkn]
  rw [hln] at hlb
  clear hv hl hk IH hw hw2 hw3 hln hkn
  go_enter Tryz.func12, Tryz.ntmps12
  go_wp2_with fail
  obtain ⟨w1, hw1⟩ : ∃ w1, ((w.alloc (.cells #[.int .i64 so, .bool on, .int .i64 n, .string ⟨t.toArray⟩, .slice a1 ln c1, .slice a2 kn c2] 34)).alloc (.cells #[.int .i64 0, .bool false, .int .i64 0, .string ⟨#[]⟩, .slice none 0 0, .slice none 0 0] 26)).alloc (.cells #[.int .i64 so, .bool on, .int .i64 n, .string ⟨t.toArray⟩, .slice none 0 0, .slice a2 kn c2] 26) = w1 := ⟨_, rfl⟩
  rw [hw1]
  have HST : Hid (ToSt B so on n t (.slice a1 ln c1) (.slice a2 kn c2) (.slice none 0 0) [] [] w w1) := Lib.hid (by
    rw [← hw1]
    exact to_start B so on n t _ _ w)
  clear hw1
  go_loopw [4] (fun iv wr => ∃ (i : Nat) (ao : Option Addr) (cap : Nat) (xs : List Value), iv = .int .i64 i ∧ i ≤ ln ∧ Hid (ToSt B so on n t (.slice a1 ln c1) (.slice a2 kn c2) (.slice ao i cap) (l.take i) xs w wr)) (fun iv _ => ln - (Go.RowKit.intOf iv).toNat)
  case atStart => exact ⟨0, none, 0, [], rfl, by omega, HST⟩
  case round =>
    obtain ⟨i, ao, cap, xs, rfl, hi, HI⟩ := hrel
    obtain ⟨⟨k0, k1, k2, k3, k4, k5⟩, kf⟩ := cells_six HI.out.box
    by_cases hlt : i < ln
    · have hll : i < l.length := by rw [HLN.out]; exact hlt
      obtain ⟨g, off, xs0, rfl, hg, hc, hL⟩ := HL.out.resolve_left (fun h => by rw [h] at hll; exact Nat.not_lt_zero _ hll)
      have hsm : Same (fun g => g < B) w wr := fun b _ hb => HI.out.below.block b hb
      obtain ⟨so', on', n', t', l', ks', a1', c1', a2', c2', he, hv', j0, j1, j2, j3, j4, j5⟩ := part_at i (ListIn.later hsm (fun _ h => h) l xs0 hL) (hc.later hg hsm) hll
      have hzr := HI.out.size
      have cP : ∀ W', Below wr.heap.size wr W' → Calls Tryz.prog 12 #[arg l[i] (.slice a1' l'.length c1') (.slice a2' ks'.length c2')] W' fun e w' => Below wr.heap.size wr w' ∧ ∃ lv', e = .returned (arg l[i] lv' (.slice a2' ks'.length c2')) ∧ ValIn w' (fun g => g < B ∨ wr.heap.size ≤ g) l[i] lv' (.slice a2' ks'.length c2') := fun W' hb' => by
        refine ((HIH.out l[i] (List.getElem_mem hll)) (.slice a1' l'.length c1') (.slice a2' ks'.length c2') B W' (by rw [he]; exact ValIn.later (fun b _ hb => hb'.block b hb) (fun _ h => h) _ _ _ hv') (by have := hb'.size; omega) (HWM.out _ (List.getElem_mem hll))).mono ?_
        rintro e w' ⟨h1, lv', h2, h3⟩
        exact ⟨hb'.trans (h1.mono hb'.size), lv', h2, h3.later (fun _ _ _ => rfl) (fun g hg => hg.imp id (fun h => Nat.le_trans hb'.size h)) _ _ _⟩
      have htk : l.take (i + 1) = l.take i ++ [l[i]] := List.take_succ_eq_append_getElem hll
      have htl : (l.take i).length = i := by simp; omega
      rw [he] at cP htk
      have hcP : ∀ W', Below wr.heap.size wr W' → Calls Tryz.prog 12 #[.agg #[.int .i64 so', .bool on', .int .i64 n', .string ⟨t'.toArray⟩, .slice a1' l'.length c1', .slice a2' ks'.length c2']] W' fun e w2 => ∃ a3 c3, e = .returned (.agg #[.int .i64 so', .bool on', .int .i64 n', .string ⟨t'.toArray⟩, .slice a3 l'.length c3, .slice a2' ks'.length c2']) ∧
          Hid (Below wr.heap.size wr w2) ∧ Hid (ValIn w2 (fun g => g < B ∨ wr.heap.size ≤ g) (.mk so' on' n' t' l' ks') (.slice a3 l'.length c3) (.slice a2' ks'.length c2')) ∧
          w2.cell? ⟨w.heap.size, 4, none⟩ = some (.slice (some ⟨g, off, none⟩) ln c1) ∧ w2.cell? ⟨w.heap.size + 2, 4, none⟩ = some (.slice ao i cap) ∧ (∀ j, w2.frozen? ⟨w.heap.size + 2, j, none⟩ = false) ∧ Hid (w2.ownsRow (w.heap.size + 3) 26 6 (.slice ao i cap) i xs) := fun W' hb' => by
        refine (cP W' hb').mono ?_
        rintro e w' ⟨h1, lv', rfl, h3⟩
        have h4 := h3
        obtain ⟨⟨a3, c3, rfl, _⟩, _⟩ := h4
        have hbx := cells_six ((h1.block _ (by omega)).trans HI.out.box)
        have hbv := cells_six ((h1.block _ (by omega)).trans HI.out.val)
        have hown := HI.out.own
        rw [htl] at hown
        exact ⟨a3, c3, rfl, Lib.hid h1, Lib.hid h3, hbx.1.2.2.2.2.1, hbv.1.2.2.2.2.1, hbv.2, Lib.hid (ownsRow_same hown fun g hg => h1.block g (row_lt hown g hg).2)⟩
      obtain ⟨⟨q0, q1, q2, q3, q4, q5⟩, qf⟩ := cells_six HI.out.val
      have hbg : some (w.heap.size + 2) ≠ (Value.slice ao i cap).ownBlock := fun h => by
        have := row_lt HI.out.own _ h.symm
        omega
      have HTK := Lib.hid htk
      have HTL := Lib.hid htl
      have hHz : w.heap.size + 3 ≤ wr.heap.size := hzr
      clear htk htl cP he hv' hsm hL hc
      go_wp2_with fail
      go_region_law (first
        | (refine step_append_lies _ (by rfl) _ _ _ (by rfl) (w.heap.size + 3) 26 i0 _ 6 88 Tryz.underlying23 hi0 hz0 hz1 hz2 rfl (by omega) (.slice ao i cap) i xs (by rfl) (HO2.out.alloc _) ⟨w2.heap.size, 0, none⟩ 1 1 [.int .i64 so', .bool on', .int .i64 n', .string ⟨t'.toArray⟩, .slice a3 l'.length c3, .slice a2' ks'.length c2'] (by rfl) (by rfl) (World.news_of_block (cs := #[.int .i64 so', .bool on', .int .i64 n', .string ⟨t'.toArray⟩, .slice a3 l'.length c3, .slice a2' ks'.length c2']) (t := 26) (fr := (0, 0)) (heap_alloc_new w2 _)) (oneCell_six so' n' on' t' a3 a2' l'.length c3 ks'.length c2') (by omega) (by unfold maxLen; omega) (by omega) (by simp; omega) (w2.heap.size + 1) (by simp) ?_; intro gg capg w3 hown3 hgrow hat hlt3; have kb3 := (hgrow.cell_far ⟨w.heap.size + 2, 4, none⟩ (by simp; omega) hbg).trans ((World.cell?_alloc_past _ _ _ hbt2).trans q4'); have fb3 := (hgrow.frozen_far ⟨w.heap.size + 2, 4, none⟩ (by simp; omega) hbg).trans ((World.frozen?_alloc_past _ _ _ hbt2).trans (qf' 4)))
        | (go_simp; refine (hcP _ (by exact ⟨rfl, rfl, rfl, Nat.le_refl _, fun _ _ => rfl⟩)).mono ?_; rintro e w2 ⟨a3, c3, rfl, HB2, HV2, k4', q4', qf', HO2⟩; have hbt2 : w.heap.size + 2 < w2.heap.size := by have := HB2.out.size; omega))
      all_goals
        have hfin := to_step HI.out HTL.out hB HB2.out HV2.out hgrow hown3 hat
        have HFIN := Lib.hid hfin
        clear hfin hown3 hgrow hat kb3 fb3 k4' q4' qf' k0 k1 k2 k3 k4 k5 kf j0 j1 j2 j3 j4 j5 q0 q1 q2 q3 q4 q5 qf hcP
        go_wp2_with fail
        go_roundw
        case rel => exact ⟨i + 1, some ⟨gg, 0, none⟩, capg, _, by go_num, by omega, Lib.hid (by rw [HTK.out]; exact HFIN.out)⟩
        case measure => simp [Go.RowKit.intOf]; omega
    · have hil : i = ln := by omega
      have htk : l.take i = l := List.take_of_length_le (by rw [HLN.out]; omega)
      have hst := HI.out
      rw [htk, hil] at hst
      have hv := HV.out
      obtain ⟨_, hkk⟩ := hv
      rw [HKN.out] at hkk
      have HEND := Lib.hid (to_end hst hkk)
      have HST2 := Lib.hid hst
      obtain ⟨⟨q0, q1, q2, q3, q4, q5⟩, qf⟩ := cells_six hst.val
      obtain ⟨⟨r0, r1, r2, r3, r4, r5⟩, rf⟩ := cells_six hst.res
      obtain ⟨hp1, hp2⟩ := six_put' hst.res (.int .i64 so) (.bool on) (.int .i64 n) (.string ⟨t.toArray⟩) (.slice ao ln cap) (.slice a2 kn c2)
      have hmb := (mut6 (d := w.heap.size) (w.heap.size + 1) (.int .i64 so) (.bool on) (.int .i64 n) (.string ⟨t.toArray⟩) (.slice ao ln cap) (.slice a2 kn c2) (Mut.of_below (d := w.heap.size) hst.below) (by omega)).below (Nat.le_refl _)
      have hsv : ∀ g, (g < B ∨ w.heap.size + 3 ≤ g) → g < wr.heap.size → ((((((wr.setCell ⟨w.heap.size + 1, 0, none⟩ (.int .i64 so)).setCell ⟨w.heap.size + 1, 1, none⟩ (.bool on)).setCell ⟨w.heap.size + 1, 2, none⟩ (.int .i64 n)).setCell ⟨w.heap.size + 1, 3, none⟩ (.string ⟨t.toArray⟩)).setCell ⟨w.heap.size + 1, 4, none⟩ (.slice ao ln cap)).setCell ⟨w.heap.size + 1, 5, none⟩ (.slice a2 kn c2)).heap[g]? = wr.heap[g]? := fun g hg _ => hp2 g (by omega)
      have HP1 := Lib.hid hp1
      have HMB := Lib.hid hmb
      have HVE := Lib.hid (ValIn.later (R' := fun g => g < B ∨ w.heap.size ≤ g) hsv (fun g hg => hg.imp id (fun h => by omega)) _ _ _ HEND.out)
      clear hst hkk htk HI hp1 hp2 hmb hsv HEND
      go_wp2_with fail
      (try simp only [Exit.inBlock, Exit.then])
      refine bodyPost_ret (v := .agg #[.int .i64 so, .bool on, .int .i64 n, .string ⟨t.toArray⟩, .slice ao ln cap, .slice a2 kn c2]) (results_cell_row rfl _ _ (w.heap.size + 1) 26 #[.int .i64 so, .bool on, .int .i64 n, .string ⟨t.toArray⟩, .slice ao ln cap, .slice a2 kn c2] (0, 0) _ (by rfl) HP1.out Tryz.underlying26 rfl (by kernel_rfl)) rfl ⟨HMB.out, .slice ao ln cap, rfl, HVE.out⟩
end Go.Proofs.YtfjdeacpdcnjpaaGreatDoor.V

namespace Go.Proofs.YtfjdeacpdcnjpaaGreatDoor.V
open Go.RowKit
open Go.Lib

mutual
theorem wt_of_size : ∀ v, sizeV v ≤ 400 → wt v = sizeV v
  | .mk so on n t l ks, h => by
    simp only [sizeV] at h ⊢
    have h2 := wt_of_sizeL l _ h
    have e : (ks.map fun k => k.length + 1).sum = sumK ks := rfl
    simp only [wt, e]
    omega
theorem wt_of_sizeL : ∀ (l : List Val) (n : Nat), sizeLs l n ≤ 400 → sizeLs l n = n + wtL l
  | [], n, h => by simp [sizeLs, wtL]
  | v :: r, n, h => by
    simp only [sizeLs] at h ⊢
    by_cases hn : n ≤ 400
    · rw [if_pos hn] at h ⊢
      have h2 := wt_of_sizeL r _ h
      have h1 := wt_of_size v (by omega)
      simp only [wtL]
      omega
    · rw [if_neg hn] at h
      omega
end

set_option maxHeartbeats 2000000 in
theorem write_bad (so : Int) (on : Bool) (n : Int) (t : List UInt8) (l : List Val) (ks : List (List UInt8)) (lv kv : Value) (R : Nat → Prop) (w : World) (hv : ValIn w R (.mk so on n t l ks) lv kv) (hw : wt (.mk so on n t l ks) ≤ 1099511627776) (hr : rightTop (.mk so on n t l ks) = false) (hE : EnvW w) :
    Calls Tryz.prog 6 #[arg (.mk so on n t l ks) lv kv] w fun e w' => e = .returned (.tuple #[.string ⟨#[]⟩, .int .i64 21]) ∧ Below w.heap.size w w' := by
  have cR := fun W (hb : Below w.heap.size w W) => right_top so on n t l ks lv kv R W (hv.later (fun b _ hlt => hb.block b hlt) (fun _ h => h) _ _ _) hw (hE.later hb)
  have hv' := hv
  obtain ⟨⟨a1, c1, rfl, _⟩, ⟨a2, c2, rfl, _⟩⟩ := hv'
  simp only [hr] at cR
  simp only [arg, six', six, strCell] at cR ⊢
  clear hv hw hE hr
  go_enter Tryz.func6, Tryz.ntmps6
  go_wp2_with fail
  refine (cR _ ((Below.refl _ _).alloc (Nat.le_refl _) _)).mono ?_
  rintro e w1 ⟨rfl, hb1⟩
  have HB1 := Lib.hid (((Below.refl w.heap.size w).alloc (Nat.le_refl _) _).trans (hb1.mono (by simp)))
  have hblk := (hb1.block w.heap.size (by simp)).trans (heap_alloc_new w _)
  have hz1 := hb1.size
  simp at hz1
  obtain ⟨⟨k0, k1, k2, k3, k4, k5⟩, kf⟩ := cells_six ((Below.heap_alloc w1 (.cells #[.pointer none, .slice none 0 0] 52) w.heap.size (by omega)).trans hblk)
  have HB2 := Lib.hid (HB1.out.alloc (by omega) (.cells #[.pointer none, .slice none 0 0] 52))
  clear cR hb1 hblk
  go_wp2_with fail
  go_ret2
  exact ⟨rfl, HB1.out⟩

theorem bytes_ne {a b : ByteArray} (h : a ≠ b) : (a.toList == b.toList) = false := by
  refine beq_eq_false_iff_ne.2 fun e => h ?_
  rw [ByteArray.toList_eq, ByteArray.toList_eq] at e
  obtain ⟨x⟩ := a
  obtain ⟨y⟩ := b
  have e2 : x = y := Array.toList_inj.1 e
  rw [e2]

section
variable {so n so' n' : Int} {on on' : Bool} {t t' : List UInt8} {l l' : List Val} {ks ks' : List (List UInt8)}

theorem val_here {W : World} {v : Val} {lv kv : Value} (h : ValIn W (fun _ => True) v lv kv) : ValIn W (fun g => g < W.heap.size) v lv kv := (ValIn.bound _ _ _ h).later (fun _ _ _ => rfl) (fun _ h => h.2) _ _ _

/-- Of, in handy form. -/
theorem of_v2 {v : Val} {lv kv : Value} {w1 : World} (h : ValIn w1 (fun _ => True) v lv kv) (hw : wt v ≤ 1099511627776) (W : World) (hb : Below w1.heap.size w1 W) :
    Calls Tryz.prog 7 #[arg v lv kv] W fun e w' => Below W.heap.size W w' ∧ ∃ lv', e = .returned (arg v lv' kv) ∧ ValIn w' (fun _ => True) v lv' kv := by
  refine (of_v v lv kv W.heap.size W (val_here (val_below h hb)) (Nat.le_refl _) hw).mono ?_
  rintro e w' ⟨h1, lv', h2, h3⟩
  exact ⟨h1, lv', h2, h3.later (fun _ _ _ => rfl) (fun _ _ => trivial) _ _ _⟩
end

/-- To, in handy form. -/
theorem to_v2 {v : Val} {lv kv : Value} {w1 : World} (h : ValIn w1 (fun _ => True) v lv kv) (hw : wt v ≤ 1099511627776) (W : World) (hb : Below w1.heap.size w1 W) :
    Calls Tryz.prog 12 #[arg v lv kv] W fun e w' => Below W.heap.size W w' ∧ ∃ lv', e = .returned (arg v lv' kv) ∧ ValIn w' (fun _ => True) v lv' kv := by
  refine (to_v v lv kv W.heap.size W (val_here (val_below h hb)) (Nat.le_refl _) hw).mono ?_
  rintro e w' ⟨h1, lv', h2, h3⟩
  exact ⟨h1, lv', h2, h3.later (fun _ _ _ => rfl) (fun _ _ => trivial) _ _ _⟩

/-- Write, at a value of little weight. -/
theorem write_out (v : Val) (hw : wt v ≤ 65536) (W : World) (lv kv : Value) (h : ValIn W (fun _ => True) v lv kv) (hE : EnvW W) :
    Calls Tryz.prog 6 #[arg v lv kv] W fun e w' => e = .returned (.tuple #[.string (outS v), .int .i64 (outE v)]) ∧ Below W.heap.size W w' := by
  unfold outS outE
  obtain ⟨so, on, n, t, l, ks⟩ := v
  cases hr : rightTop (.mk so on n t l ks) with
  | true =>
    have hrp : rightP (.mk so on n t l ks) = true := by simp only [rightTop, Bool.and_eq_true] at hr; exact hr.2
    have hl := write_le _ hrp
    refine (write_top so on n t l ks _ _ _ W h (by omega) (by omega) hE).mono ?_
    rintro e w' ⟨h1, h2⟩
    rw [hr, if_pos rfl] at h2
    exact ⟨h2, h1⟩
  | false => exact write_bad so on n t l ks lv kv _ W h (by omega) hr hE

/-- What a path leads to, or the value that has nothing. -/
def zeroV : Val := .mk 0 false 0 [] [] []
def atP (v : Val) (p : List (List UInt8)) : Val := (getP v p).getD zeroV
def isP (v : Val) (p : List (List UInt8)) : Bool := (getP v p).isSome
theorem getP_wt : ∀ (p : List (List UInt8)) (v u : Val), getP v p = some u → wt u ≤ wt v
  | [], v, u, h => by
    have h : some v = some u := by cases v; simpa [getP] using h
    injection h with h
    rw [h]
    exact Nat.le_refl _
  | x :: p, .mk so on n t l ks, u, h => by
    by_cases hc : so = 5 ∧ ks.idxOf x < l.length ∧ ks.idxOf x < ks.length
    · rw [getP_step hc.1 hc.2.1 hc.2.2] at h
      have h1 := getP_wt p _ u h
      have h2 : wt l[ks.idxOf x] ≤ wtL l := wtL_mem (List.getElem_mem hc.2.1)
      simp only [wt]
      omega
    · rw [getP_no hc] at h
      cases h
theorem atP_wt (v : Val) (p : List (List UInt8)) (h : wt v ≤ 65536) : wt (atP v p) ≤ 65536 := by
  unfold atP
  cases hg : getP v p with
  | none => simp [zeroV, wt, wtL]
  | some u => exact Nat.le_trans (getP_wt p v u hg) h
theorem valIn_nil (W : World) (R : Nat → Prop) : ValIn W R zeroV (.slice none 0 0) (.slice none 0 0) := ⟨⟨none, 0, rfl, .inl rfl⟩, ⟨none, 0, rfl, .inl rfl⟩⟩
theorem arg_zero : arg zeroV (.slice none 0 0) (.slice none 0 0) = .agg #[.int .i64 0, .bool false, .int .i64 0, .string ⟨#[]⟩, .slice none 0 0, .slice none 0 0] := rfl
theorem get_out (v : Val) (lv kv : Value) (p : List (List UInt8)) (pa : Option Addr) (pc : Nat) (w : World) (hv : ValIn w (fun _ => True) v lv kv) (hp : KeysIn w (fun _ => True) p (.slice pa p.length pc)) (hpl : p.length ≤ 1099511627776) (hw : wt v ≤ 65536) :
    Calls Tryz.prog 9 #[arg v lv kv, .slice pa p.length pc] w fun e w' => ∃ lv' kv', e = .returned (.tuple #[arg (atP v p) lv' kv', .bool (isP v p)]) ∧ ValIn w' (fun _ => True) (atP v p) lv' kv' ∧ Below w.heap.size w w' := by
  refine (get_any v lv kv p pa pc _ _ w hv hp hpl hw).mono ?_
  rintro e w' ⟨hb, ⟨hn, rfl⟩ | ⟨u, lv', kv', hn, rfl, hu⟩⟩
  · refine ⟨.slice none 0 0, .slice none 0 0, ?_, ?_, hb⟩
    · simp only [atP, isP, hn, Option.getD_none, arg_zero, Option.isSome_none]
    · simp only [atP, hn, Option.getD_none]; exact valIn_nil _ _
  · refine ⟨lv', kv', ?_, ?_, hb⟩
    · simp only [atP, isP, hn, Option.getD_some, Option.isSome_some]
    · simp only [atP, hn, Option.getD_some]; exact hu.later (fun _ _ _ => rfl) (fun _ _ => trivial) _ _ _
theorem rget_out (v : Val) (lv kv : Value) (p : List (List UInt8)) (pa : Option Addr) (pc : Nat) (w : World) (hv : ValIn w (fun _ => True) v lv kv) (hp : KeysIn w (fun _ => True) p (.slice pa p.length pc)) (hpl : p.length ≤ 1099511627776) (hw : wt v ≤ 65536) :
    Calls Tryz.prog 10 #[arg v lv kv, .slice pa p.length pc] w fun e w' => ∃ lv' kv', e = .returned (.tuple #[arg (atP v p) lv' kv', .bool (isP v p)]) ∧ ValIn w' (fun _ => True) (atP v p) lv' kv' ∧ Below w.heap.size w w' := by
  refine (rget_any v lv kv p pa pc _ _ w hv hp hpl hw).mono ?_
  rintro e w' ⟨hb, ⟨hn, rfl⟩ | ⟨u, lv', kv', hn, rfl, hu⟩⟩
  · refine ⟨.slice none 0 0, .slice none 0 0, ?_, ?_, hb⟩
    · simp only [atP, isP, hn, Option.getD_none, arg_zero, Option.isSome_none]
    · simp only [atP, hn, Option.getD_none]; exact valIn_nil _ _
  · refine ⟨lv', kv', ?_, ?_, hb⟩
    · simp only [atP, isP, hn, Option.getD_some, Option.isSome_some]
    · simp only [atP, hn, Option.getD_some]; exact hu.later (fun _ _ _ => rfl) (fun _ _ => trivial) _ _ _
end Go.Proofs.YtfjdeacpdcnjpaaGreatDoor.V

namespace Go.Proofs.YtfjdeacpdcnjpaaGreatDoor.V
open Go.RowKit
open Go.Lib
attribute [local go_sem ↓] Go.wp_at_zero Go.wp_at_succ

set_option maxRecDepth 20000 in
set_option maxHeartbeats 4000000 in
theorem writes_long (v u : Val) (lv kv lu ku : Value) (pn : Nat) (pa : Option Addr) (pc : Nat) (w : World) (hv : ValIn w (fun _ => True) v lv kv) (hu : ValIn w (fun _ => True) u lu ku) (hwv : wt v ≤ 1099511627776) (hwu : wt u ≤ 1099511627776) (hpl : pn ≤ 1099511627776)
    (hbig : 400 < sizeV v ∨ 400 < sizeV u ∨ 120 < pn) (hE : EnvW w) :
    Calls Tryz.prog 3 #[arg v lv kv, arg u lu ku, .slice pa pn pc] w fun e w' => e = .returned (.bool true) ∧ Below w.heap.size w w' := by
  have cV := fun W (hb : Below w.heap.size w W) => size_v v lv kv _ W (val_below hv hb) hwv
  have cU := fun W (hb : Below w.heap.size w W) => size_v u lu ku _ W (val_below hu hb) hwu
  have cA := fun W (hb : Below w.heap.size w W) => alive_any W (hE.later hb)
  have hzv := sizeV_le v
  have hzu := sizeV_le u
  have hv' := hv
  have hu' := hu
  obtain ⟨so, on, n, t, l, ks⟩ := v
  obtain ⟨so', on', n', t', l', ks'⟩ := u
  obtain ⟨⟨a1, c1, rfl, _⟩, ⟨a2, c2, rfl, _⟩⟩ := hv'
  obtain ⟨⟨b1, d1, rfl, _⟩, ⟨b2, d2, rfl, _⟩⟩ := hu'
  generalize sizeV (.mk so on n t l ks) = z1 at *
  generalize sizeV (.mk so' on' n' t' l' ks') = z2 at *
  have hz1 : z1 ≤ 1099511627776 := by omega
  have hz2 : z2 ≤ 1099511627776 := by omega
  simp only [arg, six', six, strCell] at cV cU ⊢
  generalize l.length = m1 at *
  generalize ks.length = m2 at *
  generalize l'.length = m3 at *
  generalize ks'.length = m4 at *
  have CV := Lib.hid cV
  have CU := Lib.hid cU
  have CA := Lib.hid cA
  clear hv hu hE hwv hwu hzv hzu cV cU cA
  go_enter Tryz.func3, Tryz.ntmps3
  go_wp2_with fail
  obtain ⟨h1, h2, hb0, hz⟩ := two w (.cells #[.int .i64 so, .bool on, .int .i64 n, .string ⟨t.toArray⟩, .slice a1 m1 c1, .slice a2 m2 c2] 26) (.cells #[.int .i64 so', .bool on', .int .i64 n', .string ⟨t'.toArray⟩, .slice b1 m3 d1, .slice b2 m4 d2] 26)
  generalize (w.alloc (.cells #[.int .i64 so, .bool on, .int .i64 n, .string ⟨t.toArray⟩, .slice a1 m1 c1, .slice a2 m2 c2] 26)).alloc (.cells #[.int .i64 so', .bool on', .int .i64 n', .string ⟨t'.toArray⟩, .slice b1 m3 d1, .slice b2 m4 d2] 26) = w1 at *
  refine (CV.out _ hb0).mono ?_
  rintro e w2 ⟨rfl, hb2⟩
  have hbs2 : Below w.heap.size w w2 := hb0.trans (hb2.mono (by omega))
  obtain ⟨⟨k0, k1, k2, k3, k4, k5⟩, kf⟩ := cells_six ((hb2.block _ (by omega)).trans h2)
  have HB2 := Lib.hid hbs2
  clear hb0 hb2 h1 h2 hbs2
  by_cases hg : 400 < z1
  · go_wp2_with fail
    refine (CA.out _ HB2.out).mono ?_
    rintro e w3 ⟨rfl, hb3⟩
    have HB3 := Lib.hid (HB2.out.trans (hb3.mono HB2.out.size))
    clear hb3
    go_wp2_with fail
    go_ret
    exact ⟨rfl, HB3.out⟩
  · go_wp2_with fail
    refine (CU.out _ HB2.out).mono ?_
    rintro e w3 ⟨rfl, hb3⟩
    have HB3 := Lib.hid (HB2.out.trans (hb3.mono HB2.out.size))
    clear hb3
    by_cases hg2 : 400 < z2
    · go_wp2_with fail
      refine (CA.out _ HB3.out).mono ?_
      rintro e w4 ⟨rfl, hb4⟩
      have HB4 := Lib.hid (HB3.out.trans (hb4.mono HB3.out.size))
      clear hb4
      go_wp2_with fail
      go_ret
      exact ⟨rfl, HB4.out⟩
    · have hg3 : 120 < pn := by omega
      go_wp2_with fail
      refine (CA.out _ HB3.out).mono ?_
      rintro e w4 ⟨rfl, hb4⟩
      have HB4 := Lib.hid (HB3.out.trans (hb4.mono HB3.out.size))
      clear hb4
      go_wp2_with fail
      go_ret
      exact ⟨rfl, HB4.out⟩
end Go.Proofs.YtfjdeacpdcnjpaaGreatDoor.V

namespace Go.Proofs.YtfjdeacpdcnjpaaGreatDoor.V
open Go.RowKit
open Go.Lib
attribute [local go_sem ↓] Go.wp_at_zero Go.wp_at_succ

set_option maxRecDepth 20000 in
set_option maxHeartbeats 16000000 in
theorem writes_short (v u : Val) (lv kv lu ku : Value) (p : List (List UInt8)) (pa : Option Addr) (pc : Nat) (w : World) (hv : ValIn w (fun _ => True) v lv kv) (hu : ValIn w (fun _ => True) u lu ku) (hp : KeysIn w (fun _ => True) p (.slice pa p.length pc)) (hpl : p.length ≤ 120) (hsv : sizeV v ≤ 400) (hsu : sizeV u ≤ 400) (hE : EnvW w) :
    Calls Tryz.prog 3 #[arg v lv kv, arg u lu ku, .slice pa p.length pc] w fun e w' => e = .returned (.bool true) ∧ Below w.heap.size w w' := by
  have hwv := wt_of_size v hsv
  have hwu := wt_of_size u hsu
  have hwr := atP_wt v p (by omega)
  obtain ⟨S1, hS1⟩ : ∃ S1, outS v = S1 := ⟨_, rfl⟩
  obtain ⟨E1, hE1⟩ : ∃ E1, outE v = E1 := ⟨_, rfl⟩
  obtain ⟨bp, hbp⟩ : ∃ b, isP v p = b := ⟨_, rfl⟩
  obtain ⟨rv, hrv⟩ : ∃ b, rightTop v = b := ⟨_, rfl⟩
  obtain ⟨sv, hsvu⟩ : ∃ b, sameP v u = b := ⟨_, rfl⟩
  have hst : sameTop v u = sv := by unfold sameTop; rw [nestP_wt _ _ (by omega), Bool.true_and]; exact hsvu
  have hpW : ∀ W, Below w.heap.size w W → KeysIn W (fun _ => True) p (.slice pa p.length pc) := fun W hb => hp.later (fun b _ hlt => hb.block b hlt) (fun _ h => h)
  have cV := fun W (hb : Below w.heap.size w W) => size_v v lv kv _ W (val_below hv hb) (by omega)
  have cU := fun W (hb : Below w.heap.size w W) => size_v u lu ku _ W (val_below hu hb) (by omega)
  have cA := fun W (hb : Below w.heap.size w W) => alive_any W (hE.later hb)
  have cOv : ∀ W, Below w.heap.size w W → Calls Tryz.prog 7 #[arg v lv kv] W fun e w' => ∃ lv', e = .returned (arg v lv' kv) ∧ Hid (Below W.heap.size W w') ∧ Hid (ValIn w' (fun _ => True) v lv' kv) := fun W hb => by
    refine (of_v2 hv (by omega) W hb).mono ?_
    rintro e w' ⟨h1, lv', h2, h3⟩
    exact ⟨lv', h2, Lib.hid h1, Lib.hid h3⟩
  have cOu : ∀ W, Below w.heap.size w W → Calls Tryz.prog 7 #[arg u lu ku] W fun e w' => ∃ lv', e = .returned (arg u lv' ku) ∧ Hid (Below W.heap.size W w') ∧ Hid (ValIn w' (fun _ => True) u lv' ku) := fun W hb => by
    refine (of_v2 hu (by omega) W hb).mono ?_
    rintro e w' ⟨h1, lv', h2, h3⟩
    exact ⟨lv', h2, Lib.hid h1, Lib.hid h3⟩
  have cW := fun W lv' kv' h hE' => write_out v (by omega) W lv' kv' h hE'
  have cRW := fun W (hb : Below w.heap.size w W) => write_ref v lv kv _ W (val_below hv hb) (by omega)
  rw [hS1, hE1] at cW cRW
  have cG := fun W lv' kv' (hb : Below w.heap.size w W) h => get_out v lv' kv' p pa pc W h (hpW W hb) (by omega) (by omega)
  have cRG := fun W (hb : Below w.heap.size w W) => rget_out v lv kv p pa pc W (val_below hv hb) (hpW W hb) (by omega) (by omega)
  rw [hbp] at cG cRG
  have cTO := fun W lv' kv' (h : ValIn W (fun _ => True) (atP v p) lv' kv') => to_v2 h (by omega) W (Below.refl _ _)
  have cSR := fun W lv1 kv1 lv2 kv2 (h1 : ValIn W (fun _ => True) (atP v p) lv1 kv1) (h2 : ValIn W (fun _ => True) (atP v p) lv2 kv2) => rsame_v (atP v p) (atP v p) lv1 kv1 lv2 kv2 _ _ W h1 h2 (by omega) (by omega)
  simp only [sameP_self] at cSR
  have cR : ∀ W lv' kv', EnvW W → ValIn W (fun _ => True) v lv' kv' → Calls Tryz.prog 13 #[arg v lv' kv'] W fun e w' => e = .returned (.bool rv) ∧ Below W.heap.size W w' := fun W lv' kv' hE' h => by
    rw [← hrv]
    obtain ⟨so, on, n, t, l, ks⟩ := v
    exact right_top so on n t l ks _ _ _ W h (by omega) hE'
  have cRR := fun W (hb : Below w.heap.size w W) => right_ref v lv kv _ W (val_below hv hb) (by omega)
  rw [hrv] at cRR
  have cT : ∀ W lv1 kv1 lv2 kv2, ValIn W (fun _ => True) v lv1 kv1 → ValIn W (fun _ => True) u lv2 kv2 → Calls Tryz.prog 15 #[arg v lv1 kv1, arg u lv2 kv2] W fun e w' => e = .returned (.bool sv) ∧ Below W.heap.size W w' := fun W lv1 kv1 lv2 kv2 h1 h2 => by
    rw [← hst]
    obtain ⟨so, on, n, t, l, ks⟩ := v
    obtain ⟨so', on', n', t', l', ks'⟩ := u
    exact same_top so so' on on' n n' t t' l l' ks ks' lv1 kv1 lv2 kv2 _ _ W h1 h2 (by omega) (by omega)
  have cRS := fun W (hb : Below w.heap.size w W) => rsame_v v u lv kv lu ku _ _ W (val_below hv hb) (val_below hu hb) (by omega) (by omega)
  rw [hsvu] at cRS
  have hv' := hv
  have hu' := hu
  generalize hrr : atP v p = r at *
  clear hrr hS1 hE1 hbp hrv hsvu hst hwv hwu hwr hpW
  obtain ⟨so, on, n, t, l, ks⟩ := v
  obtain ⟨so', on', n', t', l', ks'⟩ := u
  obtain ⟨sr, onr, nr, tr, lr, kr⟩ := r
  obtain ⟨⟨a1, c1, rfl, _⟩, ⟨a2, c2, rfl, _⟩⟩ := hv'
  obtain ⟨⟨b1, d1, rfl, _⟩, ⟨b2, d2, rfl, _⟩⟩ := hu'
  generalize sizeV (.mk so on n t l ks) = z1 at *
  generalize sizeV (.mk so' on' n' t' l' ks') = z2 at *
  have cOv2 : ∀ W, Below w.heap.size w W → Calls Tryz.prog 7 #[arg (.mk so on n t l ks) (.slice a1 l.length c1) (.slice a2 ks.length c2)] W fun e w' => ∃ a3 c3, e = .returned (arg (.mk so on n t l ks) (.slice a3 l.length c3) (.slice a2 ks.length c2)) ∧ Hid (Below W.heap.size W w') ∧ Hid (ValIn w' (fun _ => True) (.mk so on n t l ks) (.slice a3 l.length c3) (.slice a2 ks.length c2)) := fun W hb => by
    refine (cOv W hb).mono ?_
    rintro e w' ⟨lv', rfl, h1, h2⟩
    obtain ⟨⟨a3, c3, rfl, _⟩, _⟩ := h2.out
    exact ⟨a3, c3, rfl, h1, h2⟩
  have cOu2 : ∀ W, Below w.heap.size w W → Calls Tryz.prog 7 #[arg (.mk so' on' n' t' l' ks') (.slice b1 l'.length d1) (.slice b2 ks'.length d2)] W fun e w' => ∃ a3 c3, e = .returned (arg (.mk so' on' n' t' l' ks') (.slice a3 l'.length c3) (.slice b2 ks'.length d2)) ∧ Hid (Below W.heap.size W w') ∧ Hid (ValIn w' (fun _ => True) (.mk so' on' n' t' l' ks') (.slice a3 l'.length c3) (.slice b2 ks'.length d2)) := fun W hb => by
    refine (cOu W hb).mono ?_
    rintro e w' ⟨lv', rfl, h1, h2⟩
    obtain ⟨⟨a3, c3, rfl, _⟩, _⟩ := h2.out
    exact ⟨a3, c3, rfl, h1, h2⟩
  have cG2 : ∀ W a c a' c', Below w.heap.size w W → ValIn W (fun _ => True) (.mk so on n t l ks) (.slice a l.length c) (.slice a' ks.length c') → Calls Tryz.prog 9 #[arg (.mk so on n t l ks) (.slice a l.length c) (.slice a' ks.length c'), .slice pa p.length pc] W fun e w' => ∃ x3 y3 x4 y4, e = .returned (.tuple #[arg (.mk sr onr nr tr lr kr) (.slice x3 lr.length y3) (.slice x4 kr.length y4), .bool bp]) ∧ Hid (Below W.heap.size W w') ∧ Hid (ValIn w' (fun _ => True) (.mk sr onr nr tr lr kr) (.slice x3 lr.length y3) (.slice x4 kr.length y4)) := fun W a c a' c' hb h => by
    refine (cG W _ _ hb h).mono ?_
    rintro e w' ⟨lv', kv', rfl, h1, h2⟩
    have h3 := h1
    obtain ⟨⟨a3, c3, rfl, _⟩, ⟨a4, c4, rfl, _⟩⟩ := h3
    exact ⟨a3, c3, a4, c4, rfl, Lib.hid h2, Lib.hid h1⟩
  have cRG2 : ∀ W, Below w.heap.size w W → Calls Tryz.prog 10 #[arg (.mk so on n t l ks) (.slice a1 l.length c1) (.slice a2 ks.length c2), .slice pa p.length pc] W fun e w' => ∃ x3 y3 x4 y4, e = .returned (.tuple #[arg (.mk sr onr nr tr lr kr) (.slice x3 lr.length y3) (.slice x4 kr.length y4), .bool bp]) ∧ Hid (Below W.heap.size W w') ∧ Hid (ValIn w' (fun _ => True) (.mk sr onr nr tr lr kr) (.slice x3 lr.length y3) (.slice x4 kr.length y4)) := fun W hb => by
    refine (cRG W hb).mono ?_
    rintro e w' ⟨lv', kv', rfl, h1, h2⟩
    have h3 := h1
    obtain ⟨⟨a3, c3, rfl, _⟩, ⟨a4, c4, rfl, _⟩⟩ := h3
    exact ⟨a3, c3, a4, c4, rfl, Lib.hid h2, Lib.hid h1⟩
  have cTO2 : ∀ W a c a' c', ValIn W (fun _ => True) (.mk sr onr nr tr lr kr) (.slice a lr.length c) (.slice a' kr.length c') → Calls Tryz.prog 12 #[arg (.mk sr onr nr tr lr kr) (.slice a lr.length c) (.slice a' kr.length c')] W fun e w' => ∃ a5 c5, e = .returned (arg (.mk sr onr nr tr lr kr) (.slice a5 lr.length c5) (.slice a' kr.length c')) ∧ Hid (Below W.heap.size W w') ∧ Hid (ValIn w' (fun _ => True) (.mk sr onr nr tr lr kr) (.slice a5 lr.length c5) (.slice a' kr.length c')) := fun W a c a' c' h => by
    refine (cTO W _ _ h).mono ?_
    rintro e w' ⟨h1, lv', rfl, h2⟩
    have h3 := h2
    obtain ⟨⟨a3, c3, rfl, _⟩, _⟩ := h3
    exact ⟨a3, c3, rfl, Lib.hid h1, Lib.hid h2⟩
  have cW2 := fun W a c a' c' => cW W (.slice a l.length c) (.slice a' ks.length c')
  have cSR2 := fun W a c a' c' b d b' d' => cSR W (.slice a lr.length c) (.slice a' kr.length c') (.slice b lr.length d) (.slice b' kr.length d')
  have cR2 := fun W a c a' c' => cR W (.slice a l.length c) (.slice a' ks.length c')
  have cT2 := fun W a c a' c' b d b' d' => cT W (.slice a l.length c) (.slice a' ks.length c') (.slice b l'.length d) (.slice b' ks'.length d')
  simp only [arg, six', six, strCell] at cV cU cOv2 cOu2 cW2 cRW cG2 cRG2 cTO2 cSR2 cR2 cRR cT2 cRS ⊢
  generalize l.length = m1 at *
  generalize ks.length = m2 at *
  generalize l'.length = m3 at *
  generalize ks'.length = m4 at *
  generalize lr.length = m5 at *
  generalize kr.length = m6 at *
  generalize p.length = pn at *
  have CV := Lib.hid cV
  have CU := Lib.hid cU
  have CA := Lib.hid cA
  have COV := Lib.hid cOv2
  have COU := Lib.hid cOu2
  have CW := Lib.hid cW2
  have CRW := Lib.hid cRW
  have CG := Lib.hid cG2
  have CRG := Lib.hid cRG2
  have CTO := Lib.hid cTO2
  have CSR := Lib.hid cSR2
  have CR := Lib.hid cR2
  have CRR := Lib.hid cRR
  have CT := Lib.hid cT2
  have CRS := Lib.hid cRS
  have HE := Lib.hid hE
  clear hv hu hp hE cV cU cA cOv cOu cW cRW cG cRG cTO cSR cR cRR cT cRS cOv2 cOu2 cG2 cRG2 cTO2 cW2 cSR2 cR2 cT2
  go_enter Tryz.func3, Tryz.ntmps3
  go_wp2_with fail
  obtain ⟨h1, h2, hb0, hz⟩ := two w (.cells #[.int .i64 so, .bool on, .int .i64 n, .string ⟨t.toArray⟩, .slice a1 m1 c1, .slice a2 m2 c2] 26) (.cells #[.int .i64 so', .bool on', .int .i64 n', .string ⟨t'.toArray⟩, .slice b1 m3 d1, .slice b2 m4 d2] 26)
  generalize (w.alloc (.cells #[.int .i64 so, .bool on, .int .i64 n, .string ⟨t.toArray⟩, .slice a1 m1 c1, .slice a2 m2 c2] 26)).alloc (.cells #[.int .i64 so', .bool on', .int .i64 n', .string ⟨t'.toArray⟩, .slice b1 m3 d1, .slice b2 m4 d2] 26) = w1 at *
  have HX1 := Lib.hid h1
  have HY1 := Lib.hid h2
  have HB1 := Lib.hid hb0
  have hz1 : w.heap.size + 2 ≤ w1.heap.size := by omega
  clear h1 h2 hb0 hz
  refine (CV.out _ HB1.out).mono ?_
  rintro e w2 ⟨rfl, hb2⟩
  have hz2 : w.heap.size + 2 ≤ w2.heap.size := Nat.le_trans hz1 hb2.size
  have HX2 := Lib.hid ((hb2.block _ (by omega)).trans HX1.out)
  have HY2 := Lib.hid ((hb2.block _ (by omega)).trans HY1.out)
  have HB2 := Lib.hid (HB1.out.trans (hb2.mono HB1.out.size))
  clear hb2 hz1
  obtain ⟨⟨k0, k1, k2, k3, k4, k5⟩, kf⟩ := cells_six HY2.out
  go_wp2_with fail
  refine (CU.out _ HB2.out).mono ?_
  rintro e w3 ⟨rfl, hb3⟩
  have hz3 : w.heap.size + 2 ≤ w3.heap.size := Nat.le_trans hz2 hb3.size
  have HX3 := Lib.hid ((hb3.block _ (by omega)).trans HX2.out)
  have HY3 := Lib.hid ((hb3.block _ (by omega)).trans HY2.out)
  have HB3 := Lib.hid (HB2.out.trans (hb3.mono HB2.out.size))
  clear hb3 hz2
  clear k0 k1 k2 k3 k4 k5 kf
  obtain ⟨⟨k0, k1, k2, k3, k4, k5⟩, kf⟩ := cells_six HX3.out
  go_wp2_with fail
  refine (COV.out _ HB3.out).mono ?_
  rintro e w4 ⟨a3, c3, rfl, hb4, hv4⟩
  have hz4 : w.heap.size + 2 ≤ w4.heap.size := Nat.le_trans hz3 hb4.out.size
  have HX4 := Lib.hid ((hb4.out.block _ (by omega)).trans HX3.out)
  have HY4 := Lib.hid ((hb4.out.block _ (by omega)).trans HY3.out)
  have HB4 := Lib.hid (HB3.out.trans (hb4.out.mono HB3.out.size))
  clear hb4 hz3
  clear k0 k1 k2 k3 k4 k5 kf
  go_wp2_with fail
  refine (CW.out _ _ _ _ _ hv4.out (HE.out.later HB4.out)).mono ?_
  rintro e w5 ⟨rfl, hb5⟩
  have hz5 : w.heap.size + 2 ≤ w5.heap.size := Nat.le_trans hz4 hb5.size
  have HX5 := Lib.hid ((hb5.block _ (by omega)).trans HX4.out)
  have HY5 := Lib.hid ((hb5.block _ (by omega)).trans HY4.out)
  have HB5 := Lib.hid (HB4.out.trans (hb5.mono HB4.out.size))
  clear hb5 hz4
  obtain ⟨⟨k0, k1, k2, k3, k4, k5⟩, kf⟩ := cells_six HX5.out
  go_wp2_with fail
  refine (CRW.out _ HB5.out).mono ?_
  rintro e w6 ⟨rfl, hb6⟩
  have hz6 : w.heap.size + 2 ≤ w6.heap.size := Nat.le_trans hz5 hb6.size
  have HX6 := Lib.hid ((hb6.block _ (by omega)).trans HX5.out)
  have HY6 := Lib.hid ((hb6.block _ (by omega)).trans HY5.out)
  have HB6 := Lib.hid (HB5.out.trans (hb6.mono HB5.out.size))
  clear hb6 hz5
  clear k0 k1 k2 k3 k4 k5 kf
  obtain ⟨⟨k0, k1, k2, k3, k4, k5⟩, kf⟩ := cells_six HX6.out
  go_wp2_with fail
  refine (COV.out _ HB6.out).mono ?_
  rintro e w7 ⟨a5, c5, rfl, hb7, hv7⟩
  have hz7 : w.heap.size + 2 ≤ w7.heap.size := Nat.le_trans hz6 hb7.out.size
  have HX7 := Lib.hid ((hb7.out.block _ (by omega)).trans HX6.out)
  have HY7 := Lib.hid ((hb7.out.block _ (by omega)).trans HY6.out)
  have HB7 := Lib.hid (HB6.out.trans (hb7.out.mono HB6.out.size))
  clear hb7 hz6
  clear k0 k1 k2 k3 k4 k5 kf
  go_wp2_with fail
  refine (CG.out _ _ _ _ _ HB7.out hv7.out).mono ?_
  rintro e w8 ⟨x3, y3, x4, y4, rfl, hb8, hr8⟩
  have hz8 : w.heap.size + 2 ≤ w8.heap.size := Nat.le_trans hz7 hb8.out.size
  have HX8 := Lib.hid ((hb8.out.block _ (by omega)).trans HX7.out)
  have HY8 := Lib.hid ((hb8.out.block _ (by omega)).trans HY7.out)
  have HB8 := Lib.hid (HB7.out.trans (hb8.out.mono HB7.out.size))
  clear hb8 hz7
  obtain ⟨w9, hw9⟩ : ∃ w9, w8.alloc (.cells #[.int .i64 sr, .bool onr, .int .i64 nr, .string ⟨tr.toArray⟩, .slice x3 m5 y3, .slice x4 m6 y4] 34) = w9 := ⟨_, rfl⟩
  have hb9 : Below w8.heap.size w8 w9 := by rw [← hw9]; exact (Below.refl _ _).alloc (Nat.le_refl _) _
  have hn9 : w9.heap[w8.heap.size]? = some (.cells #[.int .i64 sr, .bool onr, .int .i64 nr, .string ⟨tr.toArray⟩, .slice x3 m5 y3, .slice x4 m6 y4] 34 (0, 0)) := by rw [← hw9]; exact heap_alloc_new _ _
  have hs9 : w8.heap.size + 1 = w9.heap.size := by rw [← hw9]; simp
  have HN9 := Lib.hid hn9
  have HR9 := Lib.hid (val_below hr8.out hb9)
  have hz9 : w.heap.size + 2 ≤ w9.heap.size := Nat.le_trans hz8 hb9.size
  have HX9 := Lib.hid ((hb9.block _ (by omega)).trans HX8.out)
  have HY9 := Lib.hid ((hb9.block _ (by omega)).trans HY8.out)
  have HB9 := Lib.hid (HB8.out.trans (hb9.mono HB8.out.size))
  clear hb9 hz8
  obtain ⟨⟨k0, k1, k2, k3, k4, k5⟩, kf⟩ := cells_six HX9.out
  clear hn9 hr8 hv7 hv4
  go_wp2_with fail
  clear hw9
  refine (CRG.out _ HB9.out).mono ?_
  rintro e w10 ⟨e3, f3, e4, f4, rfl, hb10, hr10⟩
  have hz10 : w.heap.size + 2 ≤ w10.heap.size := Nat.le_trans hz9 hb10.out.size
  have HX10 := Lib.hid ((hb10.out.block _ (by omega)).trans HX9.out)
  have HY10 := Lib.hid ((hb10.out.block _ (by omega)).trans HY9.out)
  have HB10 := Lib.hid (HB9.out.trans (hb10.out.mono HB9.out.size))
  have HN10 := Lib.hid ((hb10.out.block _ (by omega)).trans HN9.out)
  have HR10 := Lib.hid (val_below HR9.out hb10.out)
  have hs10 : w8.heap.size < w10.heap.size := by have := hb10.out.size; omega
  clear hb10 hz9
  clear k0 k1 k2 k3 k4 k5 kf
  obtain ⟨w11, hw11⟩ : ∃ w11, w10.alloc (.cells #[.int .i64 sr, .bool onr, .int .i64 nr, .string ⟨tr.toArray⟩, .slice e3 m5 f3, .slice e4 m6 f4] 26) = w11 := ⟨_, rfl⟩
  have hb11 : Below w10.heap.size w10 w11 := by rw [← hw11]; exact (Below.refl _ _).alloc (Nat.le_refl _) _
  have hn11 : w11.heap[w10.heap.size]? = some (.cells #[.int .i64 sr, .bool onr, .int .i64 nr, .string ⟨tr.toArray⟩, .slice e3 m5 f3, .slice e4 m6 f4] 26 (0, 0)) := by rw [← hw11]; exact heap_alloc_new _ _
  have hs11 : w10.heap.size + 1 = w11.heap.size := by rw [← hw11]; simp
  have HM11 := Lib.hid hn11
  have HQ11 := Lib.hid (val_below hr10.out hb11)
  have HN11 := Lib.hid ((hb11.block _ (by omega)).trans HN10.out)
  have HR11 := Lib.hid (val_below HR10.out hb11)
  have hz11 : w.heap.size + 2 ≤ w11.heap.size := Nat.le_trans hz10 hb11.size
  have HX11 := Lib.hid ((hb11.block _ (by omega)).trans HX10.out)
  have HY11 := Lib.hid ((hb11.block _ (by omega)).trans HY10.out)
  have HB11 := Lib.hid (HB10.out.trans (hb11.mono HB10.out.size))
  clear hb11 hz10
  clear hn11 hr10
  go_wp2_with fail
  clear hw11
  have CC : Hid (∀ W, Below w11.heap.size w11 W → (fun W => W.cell? ⟨w8.heap.size, 0, none⟩ = some (.int .i64 sr) ∧ W.cell? ⟨w8.heap.size, 1, none⟩ = some (.bool onr) ∧ W.cell? ⟨w8.heap.size, 2, none⟩ = some (.int .i64 nr) ∧ W.cell? ⟨w8.heap.size, 3, none⟩ = some (.string ⟨tr.toArray⟩) ∧ W.cell? ⟨w8.heap.size, 4, none⟩ = some (.slice x3 m5 y3) ∧ W.cell? ⟨w8.heap.size, 5, none⟩ = some (.slice x4 m6 y4) ∧ W.cell? ⟨w10.heap.size, 0, none⟩ = some (.int .i64 sr) ∧ W.cell? ⟨w10.heap.size, 1, none⟩ = some (.bool onr) ∧ W.cell? ⟨w10.heap.size, 2, none⟩ = some (.int .i64 nr) ∧ W.cell? ⟨w10.heap.size, 3, none⟩ = some (.string ⟨tr.toArray⟩) ∧ W.cell? ⟨w10.heap.size, 4, none⟩ = some (.slice e3 m5 f3) ∧ W.cell? ⟨w10.heap.size, 5, none⟩ = some (.slice e4 m6 f4) ∧ Below w11.heap.size w11 W) W) := Lib.hid fun W hb => by
    obtain ⟨p0, p1, p2, p3, p4, p5⟩ := (cells_six ((hb.block _ (by omega)).trans HN11.out)).1
    obtain ⟨q0, q1, q2, q3, q4, q5⟩ := (cells_six ((hb.block _ (by omega)).trans HM11.out)).1
    exact ⟨p0, p1, p2, p3, p4, p5, q0, q1, q2, q3, q4, q5, hb⟩
  have hBS : Hid (∀ W, (fun W => W.cell? ⟨w8.heap.size, 0, none⟩ = some (.int .i64 sr) ∧ W.cell? ⟨w8.heap.size, 1, none⟩ = some (.bool onr) ∧ W.cell? ⟨w8.heap.size, 2, none⟩ = some (.int .i64 nr) ∧ W.cell? ⟨w8.heap.size, 3, none⟩ = some (.string ⟨tr.toArray⟩) ∧ W.cell? ⟨w8.heap.size, 4, none⟩ = some (.slice x3 m5 y3) ∧ W.cell? ⟨w8.heap.size, 5, none⟩ = some (.slice x4 m6 y4) ∧ W.cell? ⟨w10.heap.size, 0, none⟩ = some (.int .i64 sr) ∧ W.cell? ⟨w10.heap.size, 1, none⟩ = some (.bool onr) ∧ W.cell? ⟨w10.heap.size, 2, none⟩ = some (.int .i64 nr) ∧ W.cell? ⟨w10.heap.size, 3, none⟩ = some (.string ⟨tr.toArray⟩) ∧ W.cell? ⟨w10.heap.size, 4, none⟩ = some (.slice e3 m5 f3) ∧ W.cell? ⟨w10.heap.size, 5, none⟩ = some (.slice e4 m6 f4) ∧ Below w11.heap.size w11 W) W → Below w11.heap.size w11 W) := Lib.hid fun W h => h.2.2.2.2.2.2.2.2.2.2.2.2
  have cT9 : ∀ W, (fun W => W.cell? ⟨w8.heap.size, 0, none⟩ = some (.int .i64 sr) ∧ W.cell? ⟨w8.heap.size, 1, none⟩ = some (.bool onr) ∧ W.cell? ⟨w8.heap.size, 2, none⟩ = some (.int .i64 nr) ∧ W.cell? ⟨w8.heap.size, 3, none⟩ = some (.string ⟨tr.toArray⟩) ∧ W.cell? ⟨w8.heap.size, 4, none⟩ = some (.slice x3 m5 y3) ∧ W.cell? ⟨w8.heap.size, 5, none⟩ = some (.slice x4 m6 y4) ∧ W.cell? ⟨w10.heap.size, 0, none⟩ = some (.int .i64 sr) ∧ W.cell? ⟨w10.heap.size, 1, none⟩ = some (.bool onr) ∧ W.cell? ⟨w10.heap.size, 2, none⟩ = some (.int .i64 nr) ∧ W.cell? ⟨w10.heap.size, 3, none⟩ = some (.string ⟨tr.toArray⟩) ∧ W.cell? ⟨w10.heap.size, 4, none⟩ = some (.slice e3 m5 f3) ∧ W.cell? ⟨w10.heap.size, 5, none⟩ = some (.slice e4 m6 f4) ∧ Below w11.heap.size w11 W) W → Calls Tryz.prog 12 #[.agg #[.int .i64 sr, .bool onr, .int .i64 nr, .string ⟨tr.toArray⟩, .slice x3 m5 y3, .slice x4 m6 y4]] W fun e w' => ∃ a7 c7, e = .returned (.agg #[.int .i64 sr, .bool onr, .int .i64 nr, .string ⟨tr.toArray⟩, .slice a7 m5 c7, .slice x4 m6 y4]) ∧ (fun W => W.cell? ⟨w8.heap.size, 0, none⟩ = some (.int .i64 sr) ∧ W.cell? ⟨w8.heap.size, 1, none⟩ = some (.bool onr) ∧ W.cell? ⟨w8.heap.size, 2, none⟩ = some (.int .i64 nr) ∧ W.cell? ⟨w8.heap.size, 3, none⟩ = some (.string ⟨tr.toArray⟩) ∧ W.cell? ⟨w8.heap.size, 4, none⟩ = some (.slice x3 m5 y3) ∧ W.cell? ⟨w8.heap.size, 5, none⟩ = some (.slice x4 m6 y4) ∧ W.cell? ⟨w10.heap.size, 0, none⟩ = some (.int .i64 sr) ∧ W.cell? ⟨w10.heap.size, 1, none⟩ = some (.bool onr) ∧ W.cell? ⟨w10.heap.size, 2, none⟩ = some (.int .i64 nr) ∧ W.cell? ⟨w10.heap.size, 3, none⟩ = some (.string ⟨tr.toArray⟩) ∧ W.cell? ⟨w10.heap.size, 4, none⟩ = some (.slice e3 m5 f3) ∧ W.cell? ⟨w10.heap.size, 5, none⟩ = some (.slice e4 m6 f4) ∧ Below w11.heap.size w11 W) w' ∧ Hid (ValIn w' (fun _ => True) (.mk sr onr nr tr lr kr) (.slice a7 m5 c7) (.slice x4 m6 y4)) := fun W hS => (CTO.out W _ _ _ _ (val_below HR11.out (hBS.out W hS))).mono (by
    rintro e w' ⟨a7, c7, h1, h2, h3⟩
    exact ⟨a7, c7, h1, CC.out _ ((hBS.out W hS).trans (h2.out.mono (hBS.out W hS).size)), h3⟩)
  have cS9 : ∀ W a7 c7, (fun W => W.cell? ⟨w8.heap.size, 0, none⟩ = some (.int .i64 sr) ∧ W.cell? ⟨w8.heap.size, 1, none⟩ = some (.bool onr) ∧ W.cell? ⟨w8.heap.size, 2, none⟩ = some (.int .i64 nr) ∧ W.cell? ⟨w8.heap.size, 3, none⟩ = some (.string ⟨tr.toArray⟩) ∧ W.cell? ⟨w8.heap.size, 4, none⟩ = some (.slice x3 m5 y3) ∧ W.cell? ⟨w8.heap.size, 5, none⟩ = some (.slice x4 m6 y4) ∧ W.cell? ⟨w10.heap.size, 0, none⟩ = some (.int .i64 sr) ∧ W.cell? ⟨w10.heap.size, 1, none⟩ = some (.bool onr) ∧ W.cell? ⟨w10.heap.size, 2, none⟩ = some (.int .i64 nr) ∧ W.cell? ⟨w10.heap.size, 3, none⟩ = some (.string ⟨tr.toArray⟩) ∧ W.cell? ⟨w10.heap.size, 4, none⟩ = some (.slice e3 m5 f3) ∧ W.cell? ⟨w10.heap.size, 5, none⟩ = some (.slice e4 m6 f4) ∧ Below w11.heap.size w11 W) W → Hid (ValIn W (fun _ => True) (.mk sr onr nr tr lr kr) (.slice a7 m5 c7) (.slice x4 m6 y4)) → Calls Tryz.prog 11 #[.agg #[.int .i64 sr, .bool onr, .int .i64 nr, .string ⟨tr.toArray⟩, .slice a7 m5 c7, .slice x4 m6 y4], .agg #[.int .i64 sr, .bool onr, .int .i64 nr, .string ⟨tr.toArray⟩, .slice e3 m5 f3, .slice e4 m6 f4]] W fun e w' => e = .returned (.bool true) ∧ (fun W => W.cell? ⟨w8.heap.size, 0, none⟩ = some (.int .i64 sr) ∧ W.cell? ⟨w8.heap.size, 1, none⟩ = some (.bool onr) ∧ W.cell? ⟨w8.heap.size, 2, none⟩ = some (.int .i64 nr) ∧ W.cell? ⟨w8.heap.size, 3, none⟩ = some (.string ⟨tr.toArray⟩) ∧ W.cell? ⟨w8.heap.size, 4, none⟩ = some (.slice x3 m5 y3) ∧ W.cell? ⟨w8.heap.size, 5, none⟩ = some (.slice x4 m6 y4) ∧ W.cell? ⟨w10.heap.size, 0, none⟩ = some (.int .i64 sr) ∧ W.cell? ⟨w10.heap.size, 1, none⟩ = some (.bool onr) ∧ W.cell? ⟨w10.heap.size, 2, none⟩ = some (.int .i64 nr) ∧ W.cell? ⟨w10.heap.size, 3, none⟩ = some (.string ⟨tr.toArray⟩) ∧ W.cell? ⟨w10.heap.size, 4, none⟩ = some (.slice e3 m5 f3) ∧ W.cell? ⟨w10.heap.size, 5, none⟩ = some (.slice e4 m6 f4) ∧ Below w11.heap.size w11 W) w' := fun W a7 c7 hS hh => (CSR.out W _ _ _ _ _ _ _ _ hh.out (val_below HQ11.out (hBS.out W hS))).mono (by
    rintro e w' ⟨h1, h2⟩
    exact ⟨h1, CC.out _ ((hBS.out W hS).trans (h2.mono (hBS.out W hS).size))⟩)
  have hS0 := CC.out _ (Below.refl w11.heap.size w11).drew
  dsimp only at cT9 cS9 hS0
  clear CC hBS
  go_region_held3 (fun W => W.cell? ⟨w8.heap.size, 0, none⟩ = some (.int .i64 sr) ∧ W.cell? ⟨w8.heap.size, 1, none⟩ = some (.bool onr) ∧ W.cell? ⟨w8.heap.size, 2, none⟩ = some (.int .i64 nr) ∧ W.cell? ⟨w8.heap.size, 3, none⟩ = some (.string ⟨tr.toArray⟩) ∧ W.cell? ⟨w8.heap.size, 4, none⟩ = some (.slice x3 m5 y3) ∧ W.cell? ⟨w8.heap.size, 5, none⟩ = some (.slice x4 m6 y4) ∧ W.cell? ⟨w10.heap.size, 0, none⟩ = some (.int .i64 sr) ∧ W.cell? ⟨w10.heap.size, 1, none⟩ = some (.bool onr) ∧ W.cell? ⟨w10.heap.size, 2, none⟩ = some (.int .i64 nr) ∧ W.cell? ⟨w10.heap.size, 3, none⟩ = some (.string ⟨tr.toArray⟩) ∧ W.cell? ⟨w10.heap.size, 4, none⟩ = some (.slice e3 m5 f3) ∧ W.cell? ⟨w10.heap.size, 5, none⟩ = some (.slice e4 m6 f4) ∧ Below w11.heap.size w11 W) (first | assumption) (first
    | (go_at_call 12; (with_reducible refine (cT9 _ ?_).mono ?_); assumption; rintro e wt ⟨a7, c7, rfl, hSt, hvt⟩)
    | (go_at_call 11; (with_reducible refine (cS9 _ _ _ ?_ ?_).mono ?_); assumption; assumption; rintro e w12 ⟨rfl, hSs⟩))
  have hb12 : Below w11.heap.size w11 w12 := hSs.2.2.2.2.2.2.2.2.2.2.2.2
  clear hS0 hSt hSs hvt cT9 cS9
  have hz12 : w.heap.size + 2 ≤ w12.heap.size := Nat.le_trans hz11 hb12.size
  have HX12 := Lib.hid ((hb12.block _ (by omega)).trans HX11.out)
  have HY12 := Lib.hid ((hb12.block _ (by omega)).trans HY11.out)
  have HB12 := Lib.hid (HB11.out.trans (hb12.mono HB11.out.size))
  clear hb12 hz11
  have CC : Hid (∀ W, Below w12.heap.size w12 W → (fun W => W.cell? ⟨w.heap.size, 0, none⟩ = some (.int .i64 so) ∧ W.cell? ⟨w.heap.size, 1, none⟩ = some (.bool on) ∧ W.cell? ⟨w.heap.size, 2, none⟩ = some (.int .i64 n) ∧ W.cell? ⟨w.heap.size, 3, none⟩ = some (.string ⟨t.toArray⟩) ∧ W.cell? ⟨w.heap.size, 4, none⟩ = some (.slice a1 m1 c1) ∧ W.cell? ⟨w.heap.size, 5, none⟩ = some (.slice a2 m2 c2) ∧ W.cell? ⟨w.heap.size + 1, 0, none⟩ = some (.int .i64 so') ∧ W.cell? ⟨w.heap.size + 1, 1, none⟩ = some (.bool on') ∧ W.cell? ⟨w.heap.size + 1, 2, none⟩ = some (.int .i64 n') ∧ W.cell? ⟨w.heap.size + 1, 3, none⟩ = some (.string ⟨t'.toArray⟩) ∧ W.cell? ⟨w.heap.size + 1, 4, none⟩ = some (.slice b1 m3 d1) ∧ W.cell? ⟨w.heap.size + 1, 5, none⟩ = some (.slice b2 m4 d2) ∧ Below w12.heap.size w12 W) W) := Lib.hid fun W hb => by
    obtain ⟨p0, p1, p2, p3, p4, p5⟩ := (cells_six ((hb.block _ (by omega)).trans HX12.out)).1
    obtain ⟨q0, q1, q2, q3, q4, q5⟩ := (cells_six ((hb.block _ (by omega)).trans HY12.out)).1
    exact ⟨p0, p1, p2, p3, p4, p5, q0, q1, q2, q3, q4, q5, hb⟩
  have hBS : Hid (∀ W, (fun W => W.cell? ⟨w.heap.size, 0, none⟩ = some (.int .i64 so) ∧ W.cell? ⟨w.heap.size, 1, none⟩ = some (.bool on) ∧ W.cell? ⟨w.heap.size, 2, none⟩ = some (.int .i64 n) ∧ W.cell? ⟨w.heap.size, 3, none⟩ = some (.string ⟨t.toArray⟩) ∧ W.cell? ⟨w.heap.size, 4, none⟩ = some (.slice a1 m1 c1) ∧ W.cell? ⟨w.heap.size, 5, none⟩ = some (.slice a2 m2 c2) ∧ W.cell? ⟨w.heap.size + 1, 0, none⟩ = some (.int .i64 so') ∧ W.cell? ⟨w.heap.size + 1, 1, none⟩ = some (.bool on') ∧ W.cell? ⟨w.heap.size + 1, 2, none⟩ = some (.int .i64 n') ∧ W.cell? ⟨w.heap.size + 1, 3, none⟩ = some (.string ⟨t'.toArray⟩) ∧ W.cell? ⟨w.heap.size + 1, 4, none⟩ = some (.slice b1 m3 d1) ∧ W.cell? ⟨w.heap.size + 1, 5, none⟩ = some (.slice b2 m4 d2) ∧ Below w12.heap.size w12 W) W → Below w12.heap.size w12 W) := Lib.hid fun W h => h.2.2.2.2.2.2.2.2.2.2.2.2
  have hBW : Hid (∀ W, (fun W => W.cell? ⟨w.heap.size, 0, none⟩ = some (.int .i64 so) ∧ W.cell? ⟨w.heap.size, 1, none⟩ = some (.bool on) ∧ W.cell? ⟨w.heap.size, 2, none⟩ = some (.int .i64 n) ∧ W.cell? ⟨w.heap.size, 3, none⟩ = some (.string ⟨t.toArray⟩) ∧ W.cell? ⟨w.heap.size, 4, none⟩ = some (.slice a1 m1 c1) ∧ W.cell? ⟨w.heap.size, 5, none⟩ = some (.slice a2 m2 c2) ∧ W.cell? ⟨w.heap.size + 1, 0, none⟩ = some (.int .i64 so') ∧ W.cell? ⟨w.heap.size + 1, 1, none⟩ = some (.bool on') ∧ W.cell? ⟨w.heap.size + 1, 2, none⟩ = some (.int .i64 n') ∧ W.cell? ⟨w.heap.size + 1, 3, none⟩ = some (.string ⟨t'.toArray⟩) ∧ W.cell? ⟨w.heap.size + 1, 4, none⟩ = some (.slice b1 m3 d1) ∧ W.cell? ⟨w.heap.size + 1, 5, none⟩ = some (.slice b2 m4 d2) ∧ Below w12.heap.size w12 W) W → Below w.heap.size w W) := Lib.hid fun W h => HB12.out.trans ((hBS.out W h).mono HB12.out.size)
  have hNX : Hid (∀ W w', (fun W => W.cell? ⟨w.heap.size, 0, none⟩ = some (.int .i64 so) ∧ W.cell? ⟨w.heap.size, 1, none⟩ = some (.bool on) ∧ W.cell? ⟨w.heap.size, 2, none⟩ = some (.int .i64 n) ∧ W.cell? ⟨w.heap.size, 3, none⟩ = some (.string ⟨t.toArray⟩) ∧ W.cell? ⟨w.heap.size, 4, none⟩ = some (.slice a1 m1 c1) ∧ W.cell? ⟨w.heap.size, 5, none⟩ = some (.slice a2 m2 c2) ∧ W.cell? ⟨w.heap.size + 1, 0, none⟩ = some (.int .i64 so') ∧ W.cell? ⟨w.heap.size + 1, 1, none⟩ = some (.bool on') ∧ W.cell? ⟨w.heap.size + 1, 2, none⟩ = some (.int .i64 n') ∧ W.cell? ⟨w.heap.size + 1, 3, none⟩ = some (.string ⟨t'.toArray⟩) ∧ W.cell? ⟨w.heap.size + 1, 4, none⟩ = some (.slice b1 m3 d1) ∧ W.cell? ⟨w.heap.size + 1, 5, none⟩ = some (.slice b2 m4 d2) ∧ Below w12.heap.size w12 W) W → Below W.heap.size W w' → (fun W => W.cell? ⟨w.heap.size, 0, none⟩ = some (.int .i64 so) ∧ W.cell? ⟨w.heap.size, 1, none⟩ = some (.bool on) ∧ W.cell? ⟨w.heap.size, 2, none⟩ = some (.int .i64 n) ∧ W.cell? ⟨w.heap.size, 3, none⟩ = some (.string ⟨t.toArray⟩) ∧ W.cell? ⟨w.heap.size, 4, none⟩ = some (.slice a1 m1 c1) ∧ W.cell? ⟨w.heap.size, 5, none⟩ = some (.slice a2 m2 c2) ∧ W.cell? ⟨w.heap.size + 1, 0, none⟩ = some (.int .i64 so') ∧ W.cell? ⟨w.heap.size + 1, 1, none⟩ = some (.bool on') ∧ W.cell? ⟨w.heap.size + 1, 2, none⟩ = some (.int .i64 n') ∧ W.cell? ⟨w.heap.size + 1, 3, none⟩ = some (.string ⟨t'.toArray⟩) ∧ W.cell? ⟨w.heap.size + 1, 4, none⟩ = some (.slice b1 m3 d1) ∧ W.cell? ⟨w.heap.size + 1, 5, none⟩ = some (.slice b2 m4 d2) ∧ Below w12.heap.size w12 W) w') := Lib.hid fun W w' hS h2 => CC.out _ ((hBS.out W hS).trans (h2.mono (hBS.out W hS).size))
  have cA9 : ∀ W, (fun W => W.cell? ⟨w.heap.size, 0, none⟩ = some (.int .i64 so) ∧ W.cell? ⟨w.heap.size, 1, none⟩ = some (.bool on) ∧ W.cell? ⟨w.heap.size, 2, none⟩ = some (.int .i64 n) ∧ W.cell? ⟨w.heap.size, 3, none⟩ = some (.string ⟨t.toArray⟩) ∧ W.cell? ⟨w.heap.size, 4, none⟩ = some (.slice a1 m1 c1) ∧ W.cell? ⟨w.heap.size, 5, none⟩ = some (.slice a2 m2 c2) ∧ W.cell? ⟨w.heap.size + 1, 0, none⟩ = some (.int .i64 so') ∧ W.cell? ⟨w.heap.size + 1, 1, none⟩ = some (.bool on') ∧ W.cell? ⟨w.heap.size + 1, 2, none⟩ = some (.int .i64 n') ∧ W.cell? ⟨w.heap.size + 1, 3, none⟩ = some (.string ⟨t'.toArray⟩) ∧ W.cell? ⟨w.heap.size + 1, 4, none⟩ = some (.slice b1 m3 d1) ∧ W.cell? ⟨w.heap.size + 1, 5, none⟩ = some (.slice b2 m4 d2) ∧ Below w12.heap.size w12 W) W → Calls Tryz.prog 5 #[] W fun e w' => e = .returned (.bool true) ∧ (fun W => W.cell? ⟨w.heap.size, 0, none⟩ = some (.int .i64 so) ∧ W.cell? ⟨w.heap.size, 1, none⟩ = some (.bool on) ∧ W.cell? ⟨w.heap.size, 2, none⟩ = some (.int .i64 n) ∧ W.cell? ⟨w.heap.size, 3, none⟩ = some (.string ⟨t.toArray⟩) ∧ W.cell? ⟨w.heap.size, 4, none⟩ = some (.slice a1 m1 c1) ∧ W.cell? ⟨w.heap.size, 5, none⟩ = some (.slice a2 m2 c2) ∧ W.cell? ⟨w.heap.size + 1, 0, none⟩ = some (.int .i64 so') ∧ W.cell? ⟨w.heap.size + 1, 1, none⟩ = some (.bool on') ∧ W.cell? ⟨w.heap.size + 1, 2, none⟩ = some (.int .i64 n') ∧ W.cell? ⟨w.heap.size + 1, 3, none⟩ = some (.string ⟨t'.toArray⟩) ∧ W.cell? ⟨w.heap.size + 1, 4, none⟩ = some (.slice b1 m3 d1) ∧ W.cell? ⟨w.heap.size + 1, 5, none⟩ = some (.slice b2 m4 d2) ∧ Below w12.heap.size w12 W) w' := fun W hS => (CA.out W (hBW.out W hS)).mono (by
    rintro e w' ⟨h1, h2⟩
    exact ⟨h1, hNX.out _ _ hS h2⟩)
  have cOv9 : ∀ W, (fun W => W.cell? ⟨w.heap.size, 0, none⟩ = some (.int .i64 so) ∧ W.cell? ⟨w.heap.size, 1, none⟩ = some (.bool on) ∧ W.cell? ⟨w.heap.size, 2, none⟩ = some (.int .i64 n) ∧ W.cell? ⟨w.heap.size, 3, none⟩ = some (.string ⟨t.toArray⟩) ∧ W.cell? ⟨w.heap.size, 4, none⟩ = some (.slice a1 m1 c1) ∧ W.cell? ⟨w.heap.size, 5, none⟩ = some (.slice a2 m2 c2) ∧ W.cell? ⟨w.heap.size + 1, 0, none⟩ = some (.int .i64 so') ∧ W.cell? ⟨w.heap.size + 1, 1, none⟩ = some (.bool on') ∧ W.cell? ⟨w.heap.size + 1, 2, none⟩ = some (.int .i64 n') ∧ W.cell? ⟨w.heap.size + 1, 3, none⟩ = some (.string ⟨t'.toArray⟩) ∧ W.cell? ⟨w.heap.size + 1, 4, none⟩ = some (.slice b1 m3 d1) ∧ W.cell? ⟨w.heap.size + 1, 5, none⟩ = some (.slice b2 m4 d2) ∧ Below w12.heap.size w12 W) W → Calls Tryz.prog 7 #[.agg #[.int .i64 so, .bool on, .int .i64 n, .string ⟨t.toArray⟩, .slice a1 m1 c1, .slice a2 m2 c2]] W fun e w' => ∃ a7 c7, e = .returned (.agg #[.int .i64 so, .bool on, .int .i64 n, .string ⟨t.toArray⟩, .slice a7 m1 c7, .slice a2 m2 c2]) ∧ (fun W => W.cell? ⟨w.heap.size, 0, none⟩ = some (.int .i64 so) ∧ W.cell? ⟨w.heap.size, 1, none⟩ = some (.bool on) ∧ W.cell? ⟨w.heap.size, 2, none⟩ = some (.int .i64 n) ∧ W.cell? ⟨w.heap.size, 3, none⟩ = some (.string ⟨t.toArray⟩) ∧ W.cell? ⟨w.heap.size, 4, none⟩ = some (.slice a1 m1 c1) ∧ W.cell? ⟨w.heap.size, 5, none⟩ = some (.slice a2 m2 c2) ∧ W.cell? ⟨w.heap.size + 1, 0, none⟩ = some (.int .i64 so') ∧ W.cell? ⟨w.heap.size + 1, 1, none⟩ = some (.bool on') ∧ W.cell? ⟨w.heap.size + 1, 2, none⟩ = some (.int .i64 n') ∧ W.cell? ⟨w.heap.size + 1, 3, none⟩ = some (.string ⟨t'.toArray⟩) ∧ W.cell? ⟨w.heap.size + 1, 4, none⟩ = some (.slice b1 m3 d1) ∧ W.cell? ⟨w.heap.size + 1, 5, none⟩ = some (.slice b2 m4 d2) ∧ Below w12.heap.size w12 W) w' ∧ Hid (ValIn w' (fun _ => True) (.mk so on n t l ks) (.slice a7 m1 c7) (.slice a2 m2 c2)) := fun W hS => (COV.out W (hBW.out W hS)).mono (by
    rintro e w' ⟨a7, c7, h1, h2, h3⟩
    exact ⟨a7, c7, h1, hNX.out _ _ hS h2.out, h3⟩)
  have cOu9 : ∀ W, (fun W => W.cell? ⟨w.heap.size, 0, none⟩ = some (.int .i64 so) ∧ W.cell? ⟨w.heap.size, 1, none⟩ = some (.bool on) ∧ W.cell? ⟨w.heap.size, 2, none⟩ = some (.int .i64 n) ∧ W.cell? ⟨w.heap.size, 3, none⟩ = some (.string ⟨t.toArray⟩) ∧ W.cell? ⟨w.heap.size, 4, none⟩ = some (.slice a1 m1 c1) ∧ W.cell? ⟨w.heap.size, 5, none⟩ = some (.slice a2 m2 c2) ∧ W.cell? ⟨w.heap.size + 1, 0, none⟩ = some (.int .i64 so') ∧ W.cell? ⟨w.heap.size + 1, 1, none⟩ = some (.bool on') ∧ W.cell? ⟨w.heap.size + 1, 2, none⟩ = some (.int .i64 n') ∧ W.cell? ⟨w.heap.size + 1, 3, none⟩ = some (.string ⟨t'.toArray⟩) ∧ W.cell? ⟨w.heap.size + 1, 4, none⟩ = some (.slice b1 m3 d1) ∧ W.cell? ⟨w.heap.size + 1, 5, none⟩ = some (.slice b2 m4 d2) ∧ Below w12.heap.size w12 W) W → Calls Tryz.prog 7 #[.agg #[.int .i64 so', .bool on', .int .i64 n', .string ⟨t'.toArray⟩, .slice b1 m3 d1, .slice b2 m4 d2]] W fun e w' => ∃ a7 c7, e = .returned (.agg #[.int .i64 so', .bool on', .int .i64 n', .string ⟨t'.toArray⟩, .slice a7 m3 c7, .slice b2 m4 d2]) ∧ (fun W => W.cell? ⟨w.heap.size, 0, none⟩ = some (.int .i64 so) ∧ W.cell? ⟨w.heap.size, 1, none⟩ = some (.bool on) ∧ W.cell? ⟨w.heap.size, 2, none⟩ = some (.int .i64 n) ∧ W.cell? ⟨w.heap.size, 3, none⟩ = some (.string ⟨t.toArray⟩) ∧ W.cell? ⟨w.heap.size, 4, none⟩ = some (.slice a1 m1 c1) ∧ W.cell? ⟨w.heap.size, 5, none⟩ = some (.slice a2 m2 c2) ∧ W.cell? ⟨w.heap.size + 1, 0, none⟩ = some (.int .i64 so') ∧ W.cell? ⟨w.heap.size + 1, 1, none⟩ = some (.bool on') ∧ W.cell? ⟨w.heap.size + 1, 2, none⟩ = some (.int .i64 n') ∧ W.cell? ⟨w.heap.size + 1, 3, none⟩ = some (.string ⟨t'.toArray⟩) ∧ W.cell? ⟨w.heap.size + 1, 4, none⟩ = some (.slice b1 m3 d1) ∧ W.cell? ⟨w.heap.size + 1, 5, none⟩ = some (.slice b2 m4 d2) ∧ Below w12.heap.size w12 W) w' ∧ Hid (ValIn w' (fun _ => True) (.mk so' on' n' t' l' ks') (.slice a7 m3 c7) (.slice b2 m4 d2)) ∧ Hid (∀ v lv kv, ValIn W (fun _ => True) v lv kv → ValIn w' (fun _ => True) v lv kv) := fun W hS => (COU.out W (hBW.out W hS)).mono (by
    rintro e w' ⟨a7, c7, h1, h2, h3⟩
    exact ⟨a7, c7, h1, hNX.out _ _ hS h2.out, h3, Lib.hid (fun _ _ _ hh => val_below hh h2.out)⟩)
  have cR9 : ∀ W a7 c7, (fun W => W.cell? ⟨w.heap.size, 0, none⟩ = some (.int .i64 so) ∧ W.cell? ⟨w.heap.size, 1, none⟩ = some (.bool on) ∧ W.cell? ⟨w.heap.size, 2, none⟩ = some (.int .i64 n) ∧ W.cell? ⟨w.heap.size, 3, none⟩ = some (.string ⟨t.toArray⟩) ∧ W.cell? ⟨w.heap.size, 4, none⟩ = some (.slice a1 m1 c1) ∧ W.cell? ⟨w.heap.size, 5, none⟩ = some (.slice a2 m2 c2) ∧ W.cell? ⟨w.heap.size + 1, 0, none⟩ = some (.int .i64 so') ∧ W.cell? ⟨w.heap.size + 1, 1, none⟩ = some (.bool on') ∧ W.cell? ⟨w.heap.size + 1, 2, none⟩ = some (.int .i64 n') ∧ W.cell? ⟨w.heap.size + 1, 3, none⟩ = some (.string ⟨t'.toArray⟩) ∧ W.cell? ⟨w.heap.size + 1, 4, none⟩ = some (.slice b1 m3 d1) ∧ W.cell? ⟨w.heap.size + 1, 5, none⟩ = some (.slice b2 m4 d2) ∧ Below w12.heap.size w12 W) W → Hid (ValIn W (fun _ => True) (.mk so on n t l ks) (.slice a7 m1 c7) (.slice a2 m2 c2)) → Calls Tryz.prog 13 #[.agg #[.int .i64 so, .bool on, .int .i64 n, .string ⟨t.toArray⟩, .slice a7 m1 c7, .slice a2 m2 c2]] W fun e w' => e = .returned (.bool rv) ∧ (fun W => W.cell? ⟨w.heap.size, 0, none⟩ = some (.int .i64 so) ∧ W.cell? ⟨w.heap.size, 1, none⟩ = some (.bool on) ∧ W.cell? ⟨w.heap.size, 2, none⟩ = some (.int .i64 n) ∧ W.cell? ⟨w.heap.size, 3, none⟩ = some (.string ⟨t.toArray⟩) ∧ W.cell? ⟨w.heap.size, 4, none⟩ = some (.slice a1 m1 c1) ∧ W.cell? ⟨w.heap.size, 5, none⟩ = some (.slice a2 m2 c2) ∧ W.cell? ⟨w.heap.size + 1, 0, none⟩ = some (.int .i64 so') ∧ W.cell? ⟨w.heap.size + 1, 1, none⟩ = some (.bool on') ∧ W.cell? ⟨w.heap.size + 1, 2, none⟩ = some (.int .i64 n') ∧ W.cell? ⟨w.heap.size + 1, 3, none⟩ = some (.string ⟨t'.toArray⟩) ∧ W.cell? ⟨w.heap.size + 1, 4, none⟩ = some (.slice b1 m3 d1) ∧ W.cell? ⟨w.heap.size + 1, 5, none⟩ = some (.slice b2 m4 d2) ∧ Below w12.heap.size w12 W) w' := fun W a7 c7 hS hh => (CR.out W _ _ _ _ (HE.out.later (hBW.out W hS)) hh.out).mono (by
    rintro e w' ⟨h1, h2⟩
    exact ⟨h1, hNX.out _ _ hS h2⟩)
  have cRR9 : ∀ W, (fun W => W.cell? ⟨w.heap.size, 0, none⟩ = some (.int .i64 so) ∧ W.cell? ⟨w.heap.size, 1, none⟩ = some (.bool on) ∧ W.cell? ⟨w.heap.size, 2, none⟩ = some (.int .i64 n) ∧ W.cell? ⟨w.heap.size, 3, none⟩ = some (.string ⟨t.toArray⟩) ∧ W.cell? ⟨w.heap.size, 4, none⟩ = some (.slice a1 m1 c1) ∧ W.cell? ⟨w.heap.size, 5, none⟩ = some (.slice a2 m2 c2) ∧ W.cell? ⟨w.heap.size + 1, 0, none⟩ = some (.int .i64 so') ∧ W.cell? ⟨w.heap.size + 1, 1, none⟩ = some (.bool on') ∧ W.cell? ⟨w.heap.size + 1, 2, none⟩ = some (.int .i64 n') ∧ W.cell? ⟨w.heap.size + 1, 3, none⟩ = some (.string ⟨t'.toArray⟩) ∧ W.cell? ⟨w.heap.size + 1, 4, none⟩ = some (.slice b1 m3 d1) ∧ W.cell? ⟨w.heap.size + 1, 5, none⟩ = some (.slice b2 m4 d2) ∧ Below w12.heap.size w12 W) W → Calls Tryz.prog 14 #[.agg #[.int .i64 so, .bool on, .int .i64 n, .string ⟨t.toArray⟩, .slice a1 m1 c1, .slice a2 m2 c2]] W fun e w' => e = .returned (.bool rv) ∧ (fun W => W.cell? ⟨w.heap.size, 0, none⟩ = some (.int .i64 so) ∧ W.cell? ⟨w.heap.size, 1, none⟩ = some (.bool on) ∧ W.cell? ⟨w.heap.size, 2, none⟩ = some (.int .i64 n) ∧ W.cell? ⟨w.heap.size, 3, none⟩ = some (.string ⟨t.toArray⟩) ∧ W.cell? ⟨w.heap.size, 4, none⟩ = some (.slice a1 m1 c1) ∧ W.cell? ⟨w.heap.size, 5, none⟩ = some (.slice a2 m2 c2) ∧ W.cell? ⟨w.heap.size + 1, 0, none⟩ = some (.int .i64 so') ∧ W.cell? ⟨w.heap.size + 1, 1, none⟩ = some (.bool on') ∧ W.cell? ⟨w.heap.size + 1, 2, none⟩ = some (.int .i64 n') ∧ W.cell? ⟨w.heap.size + 1, 3, none⟩ = some (.string ⟨t'.toArray⟩) ∧ W.cell? ⟨w.heap.size + 1, 4, none⟩ = some (.slice b1 m3 d1) ∧ W.cell? ⟨w.heap.size + 1, 5, none⟩ = some (.slice b2 m4 d2) ∧ Below w12.heap.size w12 W) w' := fun W hS => (CRR.out W (hBW.out W hS)).mono (by
    rintro e w' ⟨h1, h2⟩
    exact ⟨h1, hNX.out _ _ hS h2⟩)
  have cT9 : ∀ W a7 c7 a8 c8, (fun W => W.cell? ⟨w.heap.size, 0, none⟩ = some (.int .i64 so) ∧ W.cell? ⟨w.heap.size, 1, none⟩ = some (.bool on) ∧ W.cell? ⟨w.heap.size, 2, none⟩ = some (.int .i64 n) ∧ W.cell? ⟨w.heap.size, 3, none⟩ = some (.string ⟨t.toArray⟩) ∧ W.cell? ⟨w.heap.size, 4, none⟩ = some (.slice a1 m1 c1) ∧ W.cell? ⟨w.heap.size, 5, none⟩ = some (.slice a2 m2 c2) ∧ W.cell? ⟨w.heap.size + 1, 0, none⟩ = some (.int .i64 so') ∧ W.cell? ⟨w.heap.size + 1, 1, none⟩ = some (.bool on') ∧ W.cell? ⟨w.heap.size + 1, 2, none⟩ = some (.int .i64 n') ∧ W.cell? ⟨w.heap.size + 1, 3, none⟩ = some (.string ⟨t'.toArray⟩) ∧ W.cell? ⟨w.heap.size + 1, 4, none⟩ = some (.slice b1 m3 d1) ∧ W.cell? ⟨w.heap.size + 1, 5, none⟩ = some (.slice b2 m4 d2) ∧ Below w12.heap.size w12 W) W → Hid (ValIn W (fun _ => True) (.mk so on n t l ks) (.slice a7 m1 c7) (.slice a2 m2 c2)) → Hid (ValIn W (fun _ => True) (.mk so' on' n' t' l' ks') (.slice a8 m3 c8) (.slice b2 m4 d2)) → Calls Tryz.prog 15 #[.agg #[.int .i64 so, .bool on, .int .i64 n, .string ⟨t.toArray⟩, .slice a7 m1 c7, .slice a2 m2 c2], .agg #[.int .i64 so', .bool on', .int .i64 n', .string ⟨t'.toArray⟩, .slice a8 m3 c8, .slice b2 m4 d2]] W fun e w' => e = .returned (.bool sv) ∧ (fun W => W.cell? ⟨w.heap.size, 0, none⟩ = some (.int .i64 so) ∧ W.cell? ⟨w.heap.size, 1, none⟩ = some (.bool on) ∧ W.cell? ⟨w.heap.size, 2, none⟩ = some (.int .i64 n) ∧ W.cell? ⟨w.heap.size, 3, none⟩ = some (.string ⟨t.toArray⟩) ∧ W.cell? ⟨w.heap.size, 4, none⟩ = some (.slice a1 m1 c1) ∧ W.cell? ⟨w.heap.size, 5, none⟩ = some (.slice a2 m2 c2) ∧ W.cell? ⟨w.heap.size + 1, 0, none⟩ = some (.int .i64 so') ∧ W.cell? ⟨w.heap.size + 1, 1, none⟩ = some (.bool on') ∧ W.cell? ⟨w.heap.size + 1, 2, none⟩ = some (.int .i64 n') ∧ W.cell? ⟨w.heap.size + 1, 3, none⟩ = some (.string ⟨t'.toArray⟩) ∧ W.cell? ⟨w.heap.size + 1, 4, none⟩ = some (.slice b1 m3 d1) ∧ W.cell? ⟨w.heap.size + 1, 5, none⟩ = some (.slice b2 m4 d2) ∧ Below w12.heap.size w12 W) w' := fun W a7 c7 a8 c8 hS hh hu => (CT.out W _ _ _ _ _ _ _ _ hh.out hu.out).mono (by
    rintro e w' ⟨h1, h2⟩
    exact ⟨h1, hNX.out _ _ hS h2⟩)
  have cRS9 : ∀ W, (fun W => W.cell? ⟨w.heap.size, 0, none⟩ = some (.int .i64 so) ∧ W.cell? ⟨w.heap.size, 1, none⟩ = some (.bool on) ∧ W.cell? ⟨w.heap.size, 2, none⟩ = some (.int .i64 n) ∧ W.cell? ⟨w.heap.size, 3, none⟩ = some (.string ⟨t.toArray⟩) ∧ W.cell? ⟨w.heap.size, 4, none⟩ = some (.slice a1 m1 c1) ∧ W.cell? ⟨w.heap.size, 5, none⟩ = some (.slice a2 m2 c2) ∧ W.cell? ⟨w.heap.size + 1, 0, none⟩ = some (.int .i64 so') ∧ W.cell? ⟨w.heap.size + 1, 1, none⟩ = some (.bool on') ∧ W.cell? ⟨w.heap.size + 1, 2, none⟩ = some (.int .i64 n') ∧ W.cell? ⟨w.heap.size + 1, 3, none⟩ = some (.string ⟨t'.toArray⟩) ∧ W.cell? ⟨w.heap.size + 1, 4, none⟩ = some (.slice b1 m3 d1) ∧ W.cell? ⟨w.heap.size + 1, 5, none⟩ = some (.slice b2 m4 d2) ∧ Below w12.heap.size w12 W) W → Calls Tryz.prog 11 #[.agg #[.int .i64 so, .bool on, .int .i64 n, .string ⟨t.toArray⟩, .slice a1 m1 c1, .slice a2 m2 c2], .agg #[.int .i64 so', .bool on', .int .i64 n', .string ⟨t'.toArray⟩, .slice b1 m3 d1, .slice b2 m4 d2]] W fun e w' => e = .returned (.bool sv) ∧ (fun W => W.cell? ⟨w.heap.size, 0, none⟩ = some (.int .i64 so) ∧ W.cell? ⟨w.heap.size, 1, none⟩ = some (.bool on) ∧ W.cell? ⟨w.heap.size, 2, none⟩ = some (.int .i64 n) ∧ W.cell? ⟨w.heap.size, 3, none⟩ = some (.string ⟨t.toArray⟩) ∧ W.cell? ⟨w.heap.size, 4, none⟩ = some (.slice a1 m1 c1) ∧ W.cell? ⟨w.heap.size, 5, none⟩ = some (.slice a2 m2 c2) ∧ W.cell? ⟨w.heap.size + 1, 0, none⟩ = some (.int .i64 so') ∧ W.cell? ⟨w.heap.size + 1, 1, none⟩ = some (.bool on') ∧ W.cell? ⟨w.heap.size + 1, 2, none⟩ = some (.int .i64 n') ∧ W.cell? ⟨w.heap.size + 1, 3, none⟩ = some (.string ⟨t'.toArray⟩) ∧ W.cell? ⟨w.heap.size + 1, 4, none⟩ = some (.slice b1 m3 d1) ∧ W.cell? ⟨w.heap.size + 1, 5, none⟩ = some (.slice b2 m4 d2) ∧ Below w12.heap.size w12 W) w' := fun W hS => (CRS.out W (hBW.out W hS)).mono (by
    rintro e w' ⟨h1, h2⟩
    exact ⟨h1, hNX.out _ _ hS h2⟩)
  have hS0 := CC.out _ (Below.refl w12.heap.size w12).drew
  dsimp only at cA9 cOv9 cOu9 cR9 cRR9 cT9 cRS9 hS0
  clear CC hBS hNX CV CU CA COV COU CW CRW CG CRG CTO CSR CR CRR CT CRS HE HN9 HR9 HN10 HR10 HN11 HR11 HM11 HQ11 HX1 HX2 HX3 HX4 HX5 HX6 HX7 HX8 HX9 HX10 HX11 HX12 HY1 HY2 HY3 HY4 HY5 HY6 HY7 HY8 HY9 HY10 HY11 HY12 HB1 HB2 HB3 HB4 HB5 HB6 HB7 HB8 HB9 HB10 HB11 HB12
  go_wp2_with fail
  go_region_held3 (fun W => W.cell? ⟨w.heap.size, 0, none⟩ = some (.int .i64 so) ∧ W.cell? ⟨w.heap.size, 1, none⟩ = some (.bool on) ∧ W.cell? ⟨w.heap.size, 2, none⟩ = some (.int .i64 n) ∧ W.cell? ⟨w.heap.size, 3, none⟩ = some (.string ⟨t.toArray⟩) ∧ W.cell? ⟨w.heap.size, 4, none⟩ = some (.slice a1 m1 c1) ∧ W.cell? ⟨w.heap.size, 5, none⟩ = some (.slice a2 m2 c2) ∧ W.cell? ⟨w.heap.size + 1, 0, none⟩ = some (.int .i64 so') ∧ W.cell? ⟨w.heap.size + 1, 1, none⟩ = some (.bool on') ∧ W.cell? ⟨w.heap.size + 1, 2, none⟩ = some (.int .i64 n') ∧ W.cell? ⟨w.heap.size + 1, 3, none⟩ = some (.string ⟨t'.toArray⟩) ∧ W.cell? ⟨w.heap.size + 1, 4, none⟩ = some (.slice b1 m3 d1) ∧ W.cell? ⟨w.heap.size + 1, 5, none⟩ = some (.slice b2 m4 d2) ∧ Below w12.heap.size w12 W) (first | assumption) (first
    | (go_at_call 5; (with_reducible refine (cA9 _ ?_).mono ?_); assumption; rintro e wa ⟨rfl, hSa⟩)
    | (go_at_call 13; (with_reducible refine (cR9 _ _ _ ?_ ?_).mono ?_); assumption; assumption; rintro e wb ⟨rfl, hSb⟩)
    | (go_at_call 14; (with_reducible refine (cRR9 _ ?_).mono ?_); assumption; rintro e wc ⟨rfl, hSc⟩)
    | (go_at_call 15; (with_reducible refine (cT9 _ _ _ _ _ ?_ ?_ ?_).mono ?_); assumption; assumption; assumption; rintro e wt ⟨rfl, hSt⟩)
    | (go_at_call 11; (with_reducible refine (cRS9 _ ?_).mono ?_); assumption; rintro e wz ⟨rfl, hSz⟩)
    | (go_at_call 7; (with_reducible refine (cOu9 _ ?_).mono ?_); assumption; rintro e wu ⟨au, cu, rfl, hSu, huu, hku⟩; have hvu := Lib.hid (hku.out _ _ _ hvv.out))
    | (go_at_call 7; (with_reducible refine (cOv9 _ ?_).mono ?_); assumption; rintro e wv ⟨av, cv, rfl, hSv, hvv⟩))
  go_wp2_with fail
  go_ret
  exact ⟨by simp, hBW.out _ hSz⟩
end Go.Proofs.YtfjdeacpdcnjpaaGreatDoor.V
