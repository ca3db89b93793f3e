/- The contract of package scan's Brief; what lands has all that is asked of a scanner (Prg). -/
import Derived.Test.YtnpmlnjkjijdpaaDoorPScan
import Derived.Test.YtnpmlnjkjijdpaaDoorSLWords
import Derived.OwnWalk
namespace Go.Proofs.YtnpmlnjkjijdpaaDoor.S
open Go.RowKit
open Go.Lib hiding intOf
open Go.Proofs.YtnpmlnjkjijdpaaDoor.U Go.Proofs.YtnpmlnjkjijdpaaDoor.L

theorem brief_join : ∀ l : List TokP, briefL l = Lib.join (l.map txP) [32]
  | [] => rfl
  | [t] => by simp [briefL, Lib.join_one]
  | t :: u :: r => by
    have ih := brief_join (u :: r)
    simp only [List.map_cons] at ih ⊢
    rw [Lib.join_cons] at ih ⊢
    simp only [briefL]
    rw [ih]
    simp [Lib.joinTail]
/-- The first texts that Brief has laid into its own list. -/
def Txt (g n : Nat) (l : List TokP) (i : Nat) (w : World) : Prop := ∃ cur : Array Value, w.heap[g]? = some (.cells cur 9 (0, 0)) ∧ cur.size = n ∧ ∀ j (h : j < l.length), j < i → cur[j]? = some (.string ⟨(txP l[j]).toArray⟩)
theorem Txt.set {g n i : Nat} {l : List TokP} {w : World} (h : Txt g n l i w) (hi : i < l.length) (hn : i < n) {x : ByteArray} (hx : x = ⟨(txP l[i]).toArray⟩) : Txt g n l (i + 1) (w.setCell ⟨g, i, none⟩ (.string x)) := by
  obtain ⟨cur, h1, h2, h3⟩ := h
  refine ⟨_, Go.Joins.block_setCell h1 _, by simpa using h2, fun j hj hji => ?_⟩
  by_cases e : j = i
  · subst e
    rw [Array.getElem?_setIfInBounds_self_of_lt (by omega), hx]
  · rw [Array.getElem?_setIfInBounds_ne (by omega)]
    exact h3 j hj (by omega)
theorem Txt.put {g n i : Nat} {l : List TokP} {w : World} (h : Txt g n l i w) {x : Value} : Txt g n l i (w.setCell ⟨g, i, none⟩ x) := by
  obtain ⟨cur, h1, h2, h3⟩ := h
  refine ⟨_, Go.Joins.block_setCell h1 _, by simpa using h2, fun j hj hji => ?_⟩
  rw [Array.getElem?_setIfInBounds_ne (by omega)]
  exact h3 j hj hji
theorem Txt.cell {g n i : Nat} {l : List TokP} {w : World} (h : Txt g n l i w) (hn : i < n) : (∃ u, w.cell? ⟨g, i, none⟩ = some u) ∧ w.frozen? ⟨g, i, none⟩ = false ∧ g < w.heap.size := by
  obtain ⟨cur, h1, h2, h3⟩ := h
  refine ⟨⟨cur[i]'(by omega), ?_⟩, ?_, (Array.getElem?_eq_some_iff.1 h1).1⟩
  · unfold World.cell?; rw [h1]; simp
  · unfold World.frozen?; rw [h1]; simp
theorem Txt.same {g n i : Nat} {l : List TokP} {w w' : World} (h : Txt g n l i w) (hs : w'.heap[g]? = w.heap[g]?) : Txt g n l i w' := by
  obtain ⟨cur, h1, h2, h3⟩ := h
  exact ⟨cur, hs.trans h1, h2, h3⟩
theorem infoStr : (Tryd.prog.info? 9).map (fun i => (i.zero, i.size, i.bytes)) = some (some (.string ⟨#[]⟩), 1, 16) := by kernel_rfl
set_option maxHeartbeats 8000000 in
set_option maxRecDepth 20000 in
theorem pbrief_any (B : Nat) (l : List TokP) (v : Value) (w : World) (h : ToksIn B w l v) (hl : l.length ≤ 1000000) (hN : (briefL l).length ≤ 1000000000) :
    Calls Tryd.prog 12 #[v] w fun e w' => e = .returned (.string ⟨(briefL l).toArray⟩) ∧ Below w.heap.size w w' := by
  obtain ⟨j0, hj0, hy0, hy1, hy2⟩ := info_parts infoStr
  obtain ⟨a, cap, rfl, hcap, hc⟩ := h
  obtain ⟨n, hn⟩ : ∃ n, l.length = n := ⟨_, rfl⟩
  have HN := Lib.hid hn
  have HC := Lib.hid hc
  have HBL := Lib.hid hN
  obtain ⟨R, hR⟩ : ∃ R : ByteArray, (⟨(briefL l).toArray⟩ : ByteArray) = R := ⟨_, rfl⟩
  have HR := Lib.hid hR
  rw [hn] at hl hcap ⊢
  rw [hR]
  clear hn hc hN hR
  go_enter Tryd.func12, Tryd.ntmps12
  go_wp2_with (at_make; refine wpList_make_full _ rfl _ _ 40 rfl w.heap.size 9 j0 (.string ⟨#[]⟩) 1 Tryd.underlying40 hj0 hy0 hy1 .i64 .i64 _ _ n rfl rfl rfl rfl (by rw [hy2]; omega) (by unfold maxLen; omega) (Nat.le_refl _) ?_)
  intro w1 hown1 hg1
  obtain ⟨g, hgd⟩ : ∃ g, w.heap.size = g := ⟨_, rfl⟩
  have HX1 : Hid (Txt g n l 0 w1) := Lib.hid (by
    rcases hown1.2 with ⟨h1, _⟩ | ⟨g', c', cur, h1, h2, h3, h4, h5, h6, h7⟩
    · cases h1
    · cases h1
      rw [hgd] at h3
      exact ⟨cur, h3, by rw [h6, Nat.mul_one], fun j hj hj0 => by omega⟩)
  have HB1 : Hid (Below g w w1) := Lib.hid ⟨hg1.os, hg1.tape, hg1.output, hg1.size, fun k hk => hg1.block k (by omega) (by simp)⟩
  rw [hgd] at hown1 ⊢
  have HGD := Lib.hid hgd
  clear hown1 hg1 hgd
  go_wp2_with fail
  go_loopw [11] (fun iv wr => ∃ i : Nat, iv = .int .i64 i ∧ i ≤ n ∧ Hid (Txt g n l i wr) ∧ Hid (Below g w wr)) (fun iv _ => n - (intOf iv).toNat)
  case atStart => exact ⟨0, rfl, Nat.zero_le _, HX1, HB1⟩
  case round =>
    obtain ⟨i, rfl, hi, HX, HB⟩ := hrel
    clear HX1 HB1
    by_cases hlt : i < n
    · have hil : i < l.length := by rw [HN.out]; exact hlt
      obtain ⟨tg, off, rfl, hBg, hgw, hat⟩ := HC.out.resolve_left (fun h => by rw [h] at hil; exact Nat.not_lt_zero _ hil)
      have hgw' : tg < g := by rw [← HGD.out]; exact hgw
      obtain ⟨p0, p1, p2, p3⟩ := tok_at i (fun j u hj => (HB.out.cell (p := ⟨tg, off + j, none⟩) hgw').trans (hat j u hj)) hil
      have hset := fun (W : World) (x : ByteArray) (hX : Txt g n l i W) (hx : x = ⟨(txP l[i]).toArray⟩) => hX.set hil hlt hx
      obtain ⟨t, ht⟩ : ∃ t, l[i] = t := ⟨_, rfl⟩
      rw [ht] at p0 p1 p2 p3
      simp only [ht] at hset
      obtain ⟨x, hx⟩ : ∃ x : ByteArray, (⟨t.t.toArray⟩ : ByteArray) = x := ⟨_, rfl⟩
      rw [hx] at p1
      have HSET := Lib.hid hset
      have HXD := Lib.hid hx
      clear hat ht hset hx
      go_upto_region 5 with fail
      obtain ⟨q, hq⟩ : ∃ q, wr.heap.size = q := ⟨_, rfl⟩
      obtain ⟨W, hW⟩ : ∃ W, wr.alloc (.cells #[.int .i64 t.w, .string x, .int .i64 t.f, .int .i64 t.e] 30) = W := ⟨_, rfl⟩
      have hgq : g < q := by have := (HX.out.cell hlt).2.2; omega
      have hqb : W.heap[q]? = some (.cells #[.int .i64 t.w, .string x, .int .i64 t.f, .int .i64 t.e] 30 (0, 0)) := by rw [← hq, ← hW]; exact heap_alloc_new wr _
      have HX2 : Hid (Txt g n l i W) := Lib.hid (HX.out.same (by rw [← hW]; exact Below.heap_alloc _ _ _ (by omega)))
      have HB2 : Hid (Below g w W) := Lib.hid (by rw [← hW]; exact HB.out.alloc (by omega) _)
      have HX3 : Hid (Txt g n l i (W.setCell ⟨g, i, none⟩ (.string x))) := Lib.hid HX2.out.put
      have HB3 : Hid (Below g w (W.setCell ⟨g, i, none⟩ (.string x))) := Lib.hid (HB2.out.trans ⟨rfl, rfl, rfl, by simp, fun k hk => Below.heap_setCell _ _ _ _ (fun e => by have e2 : k = g := e; omega)⟩)
      have HB4 : ∀ y, Hid (Below g w ((W.setCell ⟨g, i, none⟩ (.string x)).setCell ⟨g, i, none⟩ y)) := fun y => Lib.hid (HB3.out.trans ⟨rfl, rfl, rfl, by simp, fun k hk => Below.heap_setCell _ _ _ _ (fun e => by have e2 : k = g := e; omega)⟩)
      obtain ⟨⟨u, hu⟩, hfz, _⟩ := HX2.out.cell hlt
      obtain ⟨⟨u3, hu3⟩, hfz3, _⟩ := HX3.out.cell hlt
      have hqb3 : (W.setCell ⟨g, i, none⟩ (.string x)).heap[q]? = some (.cells #[.int .i64 t.w, .string x, .int .i64 t.f, .int .i64 t.e] 30 (0, 0)) := (Below.heap_setCell _ _ _ _ (fun e => by have e2 : q = g := e; omega)).trans hqb
      rw [hq, hW]
      obtain ⟨c0, c1, c2, c3⟩ := tk_cells hqb
      obtain ⟨d0, d1, d2, d3⟩ := tk_cells hqb3
      obtain ⟨V, hV⟩ : ∃ V, W.setCell ⟨g, i, none⟩ (.string x) = V := ⟨_, rfl⟩
      rw [hV] at hu3 hfz3 d0 HX3 HB3
      simp only [hV] at HB4
      have HB5 := Lib.hid HB4
      have HVD := Lib.hid hV
      clear hqb hqb3 hq hW p0 p1 p2 p3 HX HB c0 c2 c3 d1 d2 d3 HB4
      by_cases h5 : t.w = 5
      · have e5 : (t.w == 5) = true := by rw [h5]; rfl
        have HX5 : Hid (Txt g n l (i + 1) (V.setCell ⟨g, i, none⟩ (.string ⟨#[59]⟩))) := Lib.hid (HSET.out V _ HX3.out (by simp [txP, h5]))
        clear h5
        go_wp2_with fail
        go_roundw
        case rel => exact ⟨i + 1, by go_num, by omega, HX5, HB5.out _⟩
        case measure => simp [intOf]; omega
      · have e5 : (t.w == 5) = false := by simpa using h5
        have HX5 : Hid (Txt g n l (i + 1) V) := Lib.hid (by rw [← HVD.out]; exact HSET.out W x HX2.out (by rw [← HXD.out]; simp [txP, h5]))
        clear h5
        go_wp2_with fail
        go_roundw
        case rel => exact ⟨i + 1, by go_num, by omega, HX5, HB3⟩
        case measure => simp [intOf]; omega
    · obtain rfl : i = n := by omega
      have hxs : ((l.map (fun t => (⟨(txP t).toArray⟩ : ByteArray))).map (·.data.toList)) = l.map txP := by rw [List.map_map]; rfl
      obtain ⟨cur, hcur, hcz, hcj⟩ := HX.out
      have cJ := Tryd.strings_Join g 0 i (l.map (fun t => (⟨(txP t).toArray⟩ : ByteArray))) ⟨#[32]⟩ wr (fun j y hy => by
        rw [List.getElem?_map] at hy
        obtain ⟨hj, hy2⟩ : ∃ h : j < l.length, (⟨(txP l[j]).toArray⟩ : ByteArray) = y := by
          cases hlj : l[j]? with
          | none => rw [hlj] at hy; cases hy
          | some t =>
            obtain ⟨hj, rfl⟩ := List.getElem?_eq_some_iff.1 hlj
            rw [hlj] at hy
            exact ⟨hj, Option.some.inj hy⟩
        have := hcj j hj (by have := HN.out; omega)
        rw [Nat.zero_add]
        unfold World.cell?
        rw [hcur, ← hy2]
        exact this) (Array.getElem?_eq_some_iff.1 hcur).1 (by rw [List.length_map, HN.out]; omega) (by rw [List.length_map, HN.out]; exact Nat.le_refl _) (by
          rw [hxs]
          show (Lib.join (l.map txP) [32]).length ≤ _
          rw [← brief_join]; have := HBL.out; omega)
      rw [hxs, List.length_map, HN.out] at cJ
      replace cJ : Calls Tryd.prog 25 #[.slice (some ⟨g, 0, none⟩) i i, .string ⟨#[32]⟩] wr fun e w' => e = .returned (.string R) ∧ Below wr.heap.size wr w' := cJ.mono (fun e w' ⟨h1, h2⟩ => ⟨by rw [h1, ← HR.out, brief_join], h2⟩)
      clear hxs hcur hcz hcj
      go_wp2_with fail
      refine cJ.mono ?_
      rintro e w2 ⟨rfl, hb2⟩
      have HL : Hid (Below w.heap.size w w2) := Lib.hid (by
        have h := HB.out
        have hz := HGD.out
        have hs := h.size
        exact (h.mono (by omega)).trans (hb2.mono (by omega)))
      clear cJ hb2
      go_wp2_with fail
      go_ret
      exact ⟨rfl, HL.out⟩
theorem prg : Prg where
  scan := scan_any
  brief := pbrief_any
  key := fun s w _ => (pkey_any s w).mono fun _ _ ⟨h1, h2⟩ => ⟨h1, h2 ▸ Below.refl _ _⟩
  ends := fun k f e' t w _ => pends_any k f e' t w
end Go.Proofs.YtnpmlnjkjijdpaaDoor.S
