/- The contracts of slices.Clone at keys and at values. The contract of copyOf. The contract of Get at one key whose part is a leaf. -/
import Derived.Test.YtfjdeacpdcnjpaaGreatDoorVSameTop
import Derived.Test.YtfjdeacpdcnjpaaGreatDoorVRead8
namespace Go.Proofs.YtfjdeacpdcnjpaaGreatDoor.V
open Go.RowKit
open Go.Lib

theorem ListIn.one {W : World} {R : Nat → Prop} : ∀ {l : List Val} {xs : List Value}, ListIn W R l xs → ∀ u ∈ xs, u.oneCell' = true
  | [], xs, h, u, hu => by
    have h : xs = [] := h
    subst h; cases hu
  | .mk so on n t l' ks :: r, xs, h, u, hu => by
    obtain ⟨lv, kv, rest, rfl, hv, hr⟩ := h
    obtain ⟨⟨a1, c1, rfl, _⟩, ⟨a2, c2, rfl, _⟩⟩ := hv
    rcases List.mem_append.1 hu with h1 | h1
    · simp only [six', six, strCell, List.mem_cons, List.not_mem_nil, or_false] at h1
      rcases h1 with rfl | rfl | rfl | rfl | rfl | rfl <;> rfl
    · exact ListIn.one hr u h1

set_option maxHeartbeats 2000000 in
theorem clone_values (l : List Val) (a1 : Option Addr) (c1 : Nat) (R : Nat → Prop) (w : World) (hl : l = [] ∨ ∃ g off xs, a1 = some ⟨g, off, none⟩ ∧ R g ∧ CellsAt w g off xs ∧ ListIn w R l xs) (hlb : l.length ≤ 1099511627776) :
    Calls Tryz.prog 40 #[.slice a1 l.length c1] w fun e w' => ∃ v' xs, e = .returned v' ∧ ListIn w R l xs ∧ w'.ownsRow w.heap.size 34 6 v' l.length xs ∧ Below w.heap.size w w' := by
  have q32 : ∀ (w : World) (a : Option Addr) (n c n' c' : Nat), (binOp .eql 32 (.slice a n c) (.slice none n' c')).run Tryz.prog w = .ok (.bool a.isNone) w := fun w a n c n' c' => Lib.run_eql_slice_nil w _ _ a n c n' c' Tryz.underlying32
  have u32 : ∀ w, Sem.run Tryz.prog (underlying 32) w = .ok (TypeDesc.slice 34) w := run_underlying Tryz.underlying32
  obtain ⟨i0, hi0, hz0, hz1, hz2⟩ := info_parts infoV
  cases a1 with
  | none =>
    have hl0 : l = [] := by
      rcases hl with h | ⟨g, off, xs, h, _⟩
      · exact h
      · cases h
    subst hl0
    clear hl
    simp only [List.length_nil]
    go_enter Tryz.func40, Tryz.ntmps40
    go_wp2_with fail
    go_ret
    exact ⟨.slice none 0 0, [], rfl, rfl, World.ownsRow_nil _ _ _ _, Below.refl _ _⟩
  | some p =>
    obtain ⟨xs, hL, hcell⟩ : ∃ xs, ListIn w R l xs ∧ ∀ j u, xs[j]? = some u → w.cell? (p.add j) = some u := by
      rcases hl with h | ⟨g, off, xs, h, _, hc, hL⟩
      · subst h; exact ⟨[], rfl, fun j u h => by simp at h⟩
      · cases h
        refine ⟨xs, hL, fun j u hj => ?_⟩
        rw [Addr.add_lit]
        exact hc j u hj
    have HCELL := Lib.hid hcell
    have HLI := Lib.hid hL
    have HONE := Lib.hid hL.one
    have HLEN := Lib.hid hL.length
    clear hl hcell hL
    generalize l.length = n at hlb HLEN ⊢
    go_enter Tryz.func40, Tryz.ntmps40
    go_wp2_with (at_builtin; refine wpList_append_own _ rfl _ _ 32 rfl w.heap.size 34 i0 _ 6 88 Tryz.underlying32 hi0 hz0 hz1 hz2 rfl (by decide) _ _ _ rfl (World.ownsRow_made w #[] 0 (Nat.le_refl _) (Nat.zero_le _) rfl) p n c1 xs rfl ?qc1 ?qc2 ?qc3 ?qc4 ?qc5 ?qc6 ?_)
    case qc1 => rw [HLEN.out]; omega
    case qc2 => exact fun j u hj => Lib.cell?_alloc_some _ (HCELL.out j u hj)
    case qc3 => exact HONE.out
    case qc4 => unfold maxLen; omega
    case qc5 => omega
    case qc6 => simp
    intro v' w1 hown hgrow hnil
    go_wp2
    go_ret
    exact ⟨v', xs, rfl, HLI.out, by simpa using hown, ((Below.refl _ w).alloc (Nat.le_refl _) _).grown hgrow (by simp) (by intro k hk; simp [Value.ownBlock] at hk; omega)⟩

/-- slices.Clone at keys: a row of the call's own. -/
theorem clone_keys (ks : List (List UInt8)) (kv : Value) (R : Nat → Prop) (w : World) (h : KeysIn w R ks kv) (hb : ks.length ≤ 1099511627776) :
    Calls Tryz.prog 39 #[kv] w fun e w' => ∃ v', e = .returned v' ∧ w'.ownsRow w.heap.size 9 1 v' ks.length (ks.map strCell) ∧ Below w.heap.size w w' := by
  obtain ⟨a, c, rfl, h1⟩ := h
  cases a with
  | none =>
    have hk0 : ks = [] := by
      rcases h1 with h | ⟨g, off, h, _⟩
      · exact h
      · cases h
    subst hk0
    exact (Tryz.slices_Clone_string_nil 0 c w).mono fun e w' ⟨h1, h2⟩ => ⟨.slice none 0 0, h1, World.ownsRow_nil _ _ _ _, by rw [h2]; exact Below.refl _ _⟩
  | some p =>
    rcases h1 with h1 | ⟨g, off, h2, _, hc⟩
    · subst h1
      exact (Tryz.slices_Clone_string_zero p c w).mono fun e w' ⟨v', h1, h2, _, h3⟩ => ⟨v', h1, h2, h3⟩
    · cases h2
      refine (Tryz.slices_Clone_string g off ks.length c (ks.map fun k => ⟨k.toArray⟩) w (by simp) (by omega) ?_).mono fun e w' ⟨v', h1, h2, _, h3⟩ => ⟨v', h1, ?_, h3⟩
      · intro j hj
        exact hc j _ (by simp at hj; simp [hj, strCell])
      · rw [List.take_of_length_le (by simp), List.map_map] at h2
        exact h2
end Go.Proofs.YtfjdeacpdcnjpaaGreatDoor.V

namespace Go.Proofs.YtfjdeacpdcnjpaaGreatDoor.V
open Go.RowKit
open Go.Lib

theorem keys_own {W : World} {B : Nat} {v : Value} {ks : List (List UInt8)} (h : W.ownsRow B 9 1 v ks.length (ks.map strCell)) : KeysIn W (fun g => B ≤ g) ks v := by
  rcases h.2 with ⟨rfl, h0⟩ | ⟨g, cap, cur, rfl, hg, hgg, hle, hcap, hsz, htake⟩
  · exact ⟨none, 0, by rw [h0], .inl (List.eq_nil_of_length_eq_zero h0)⟩
  · refine ⟨_, cap, rfl, .inr ⟨g, 0, rfl, hg, ?_⟩⟩
    intro j u hj
    have h := World.ownsRowF.cells (World.ownsRowF_of h) (g := g) rfl j u hj
    rw [show (⟨g, 0, none⟩ : Addr).add j = ⟨g, 0 + j, none⟩ from by unfold Addr.add; split <;> simp_all] at h
    exact h

set_option maxHeartbeats 4000000 in
/-- The contract of copyOf at a value that has no parts. -/
theorem copy_leaf (so : Int) (on : Bool) (n : Int) (t : List UInt8) (ks : List (List UInt8)) (lv kv : Value) (R : Nat → Prop) (w : World) (hv : ValIn w R (.mk so on n t [] ks) lv kv) (hkl : ks.length ≤ 1099511627776) :
    Calls Tryz.prog 22 #[arg (.mk so on n t [] ks) lv kv] w fun e w' => ∃ lv' kv', e = .returned (arg (.mk so on n t [] ks) lv' kv') ∧ ValIn w' (fun g => w.heap.size ≤ g) (.mk so on n t [] ks) lv' kv' ∧ Below w.heap.size w w' := by
  have hv' := hv
  obtain ⟨⟨a1, c1, rfl, _⟩, hk⟩ := hv'
  have hk' := hk
  obtain ⟨a2, c2, rfl, _⟩ := hk'
  have cK := fun W (hb : Below w.heap.size w W) => clone_keys ks (.slice a2 ks.length c2) R W (hk.later (fun b _ hb' => hb.block b hb') (fun _ h => h)) hkl
  have cL := fun W (hb : Below w.heap.size w W) => clone_values [] a1 c1 R W (parts_of (hv.later (fun b _ hb' => hb.block b hb') (fun _ h => h) _ _ _)) (by simp)
  have HL := Lib.hid cL
  clear cL hk hv
  simp only [arg, six', six, strCell, List.length_nil] at HL ⊢
  go_enter Tryz.func22, Tryz.ntmps22
  go_wp2_with fail
  obtain ⟨t1, t2, tb, tz⟩ := two w (.cells #[Value.int IntKind.i64 so, Value.bool on, Value.int IntKind.i64 n, Value.string { data := t.toArray }, Value.slice a1 0 c1, Value.slice a2 ks.length c2] 34) (.cells #[.int .i64 0, .bool false, .int .i64 0, .string ⟨#[]⟩, .slice none 0 0, .slice none 0 0] 34)
  refine (cK _ tb).mono ?_
  rintro e w1 ⟨kv1, rfl, hk1, hb1⟩
  have hx := (hb1.block w.heap.size (by omega)).trans t1
  have hy := (hb1.block (w.heap.size + 1) (by omega)).trans t2
  have HB1 := Lib.hid (tb.trans (hb1.mono (by omega)))
  have hz1 := hb1.size
  rw [tz] at hz1 hk1
  have HK1 := Lib.hid (keys_own hk1)
  obtain ⟨ka, kc, rfl⟩ := slice_form hk1
  obtain ⟨⟨k0, k1, k2, k3, k4, k5⟩, kf⟩ := cells_six hx
  clear cK hb1 tb tz t1 t2 hk1
  go_wp2_with fail
  have hb2 := HB1.out.setCell (p := ⟨w.heap.size, 5, none⟩) (Nat.le_refl _) (.slice ka ks.length kc)
  refine (HL.out _ hb2).mono ?_
  rintro e w2 ⟨lv1, xs, rfl, _, hl1, hb3⟩
  have hz3 := hb3.size
  have HB2 := Lib.hid (hb2.trans (hb3.mono (by simp; omega)))
  have hx2 := (hb3.block w.heap.size (by simp; omega)).trans (Go.Joins.block_setCell (i := 5) hx (.slice ka ks.length kc))
  have hy2 := (hb3.block (w.heap.size + 1) (by simp; omega)).trans ((Below.heap_setCell _ _ _ _ (by simp)).trans hy)
  have HK2 := Lib.hid (HK1.out.later (W' := w2) (R' := fun g => w.heap.size + 2 ≤ g) (fun g hg hlt => (hb3.block g (by simpa using hlt)).trans (Below.heap_setCell _ _ _ _ (by simp; omega))) (fun _ h => h))
  rw [sc_size] at hz3
  obtain ⟨la, lc, rfl⟩ := slice_form hl1
  clear hb2 hx hy k0 k1 k2 k3 k4 k5 kf HK1 hl1 hb3 HL
  obtain ⟨⟨k0, k1, k2, k3, k4, k5⟩, kf⟩ := cells_six hx2
  go_wp2_with fail
  have hb4 := HB2.out.setCell (p := ⟨w.heap.size, 4, none⟩) (Nat.le_refl _) (.slice la 0 lc)
  have hx4 := Go.Joins.block_setCell (i := 4) hx2 (.slice la 0 lc)
  have hy4 := (Below.heap_setCell w2 ⟨w.heap.size, 4, none⟩ (.slice la 0 lc) (w.heap.size + 1) (by simp)).trans hy2
  have HK4 := Lib.hid (HK2.out.later (W' := w2.setCell ⟨w.heap.size, 4, none⟩ (.slice la 0 lc)) (R' := fun g => w.heap.size + 2 ≤ g) (fun g hg hlt => Below.heap_setCell _ _ _ _ (by simp; omega)) (fun _ h => h))
  have HB4 := Lib.hid hb4
  generalize w2.setCell ⟨w.heap.size, 4, none⟩ (.slice la 0 lc) = w4 at hb4 hx4 hy4 HK4 HB4 ⊢
  clear hx2 hy2 HK2 k0 k1 k2 k3 k4 k5 kf hb4
  go_loopw [16] (fun iv wr => iv = .int .i64 0 ∧ wr = w4) (fun iv _ => 0)
  case atStart => exact ⟨rfl, rfl⟩
  case round =>
    obtain ⟨rfl, rfl⟩ := hrel
    obtain ⟨⟨k0, k1, k2, k3, k4, k5⟩, kf⟩ := cells_six hx4
    obtain ⟨⟨j0, j1, j2, j3, j4, j5⟩, jf⟩ := cells_six hy4
    go_wp2_with fail
    refine bodyPost_ret (v := .agg #[.int .i64 so, .bool on, .int .i64 n, .string ⟨t.toArray⟩, .slice la 0 lc, .slice ka ks.length kc]) (by simp [results, Tryz.results22, go_sem, j0, j1, j2, j3, j4, j5]) rfl ?_
    refine ⟨_, _, rfl, ⟨⟨la, lc, rfl, .inl rfl⟩, ?_⟩, ?_⟩
    · exact HK4.out.later (fun g hg _ => far6 wr (w.heap.size + 1) g _ _ _ _ _ _ (by omega)) (fun g hg => by omega)
    · exact (((((HB4.out.setCell (p := ⟨w.heap.size + 1, 0, none⟩) (Nat.le_succ _) _).setCell (p := ⟨w.heap.size + 1, 1, none⟩) (Nat.le_succ _) _).setCell (p := ⟨w.heap.size + 1, 2, none⟩) (Nat.le_succ _) _).setCell (p := ⟨w.heap.size + 1, 3, none⟩) (Nat.le_succ _) _).setCell (p := ⟨w.heap.size + 1, 4, none⟩) (Nat.le_succ _) _).setCell (p := ⟨w.heap.size + 1, 5, none⟩) (Nat.le_succ _) _
end Go.Proofs.YtfjdeacpdcnjpaaGreatDoor.V

namespace Go.Proofs.YtfjdeacpdcnjpaaGreatDoor.V
open Go.RowKit
open Go.Lib

theorem six_set {W : World} {q : Nat} {c0 c1 c2 c3 c4 c5 : Value} {t : TypeId} (h : W.heap[q]? = some (.cells #[c0, c1, c2, c3, c4, c5] t (0, 0))) (x0 x1 x2 x3 x4 x5 : Value) :
    ((((((W.setCell ⟨q, 0, none⟩ x0).setCell ⟨q, 1, none⟩ x1).setCell ⟨q, 2, none⟩ x2).setCell ⟨q, 3, none⟩ x3).setCell ⟨q, 4, none⟩ x4).setCell ⟨q, 5, none⟩ x5).heap[q]? = some (.cells #[x0, x1, x2, x3, x4, x5] t (0, 0)) :=
  Go.Joins.block_setCell (i := 5) (Go.Joins.block_setCell (i := 4) (Go.Joins.block_setCell (i := 3) (Go.Joins.block_setCell (i := 2) (Go.Joins.block_setCell (i := 1) (Go.Joins.block_setCell (i := 0) h x0) x1) x2) x3) x4) x5
theorem below6 {B q : Nat} {w W : World} (h : Below B w W) (hq : B ≤ q) (x0 x1 x2 x3 x4 x5 : Value) :
    Below B w ((((((W.setCell ⟨q, 0, none⟩ x0).setCell ⟨q, 1, none⟩ x1).setCell ⟨q, 2, none⟩ x2).setCell ⟨q, 3, none⟩ x3).setCell ⟨q, 4, none⟩ x4).setCell ⟨q, 5, none⟩ x5) :=
  (((((h.setCell (p := ⟨q, 0, none⟩) hq _).setCell (p := ⟨q, 1, none⟩) hq _).setCell (p := ⟨q, 2, none⟩) hq _).setCell (p := ⟨q, 3, none⟩) hq _).setCell (p := ⟨q, 4, none⟩) hq _).setCell (p := ⟨q, 5, none⟩) hq _

set_option maxHeartbeats 4000000 in
theorem get_one (on : Bool) (n : Int) (t : List UInt8) (l : List Val) (ks : List (List UInt8)) (lv kv : Value) (R : Nat → Prop) (w : World) (hv : ValIn w R (.mk 5 on n t l ks) lv kv) (hw : wt (.mk 5 on n t l ks) ≤ 1099511627776) (hkl : ks.length = l.length)
    (k : List UInt8) (i : Nat) (hi : i < l.length) (hk : Lib.idxOfS (ks.map fun k => ⟨k.toArray⟩) ⟨k.toArray⟩ = (i : Int)) (pg po pc : Nat) (hp : w.cell? ⟨pg, po, none⟩ = some (.string ⟨k.toArray⟩))
    (so' : Int) (on' : Bool) (n' : Int) (t' : List UInt8) (ks' : List (List UInt8)) (hli : l[i] = .mk so' on' n' t' [] ks') (hso : so' ≠ 4 ∧ so' ≠ 5) :
    Calls Tryz.prog 9 #[arg (.mk 5 on n t l ks) lv kv, .slice (some ⟨pg, po, none⟩) 1 pc] w fun e w' => ∃ lv' kv', e = .returned (.tuple #[arg (.mk so' on' n' t' [] ks') lv' kv', .bool true]) ∧ ValIn w' (fun g => w.heap.size ≤ g) (.mk so' on' n' t' [] ks') lv' kv' ∧ Below w.heap.size w w' := by
  have hV : ∀ {W : World}, Below w.heap.size w W → ValIn W R (.mk 5 on n t l ks) lv kv := fun hb => hv.later (fun b _ hlt => hb.block b hlt) (fun _ h => h) _ _ _
  have hv' := hv
  obtain ⟨⟨a1, c1, rfl, hl⟩, ⟨a2, c2, rfl, hkk⟩⟩ := hv'
  obtain ⟨g, off, xs, rfl, hg, hc, hL⟩ := hl.resolve_left (fun h => by rw [h] at hi; exact Nat.not_lt_zero _ hi)
  obtain ⟨so1, on1, n1, t1, l1, ks1, b1, d1, b2, d2, he, hpv, p0, p1, p2, p3, p4, p5⟩ := part_at i hL hc hi
  rw [hli] at he
  obtain ⟨rfl, rfl, rfl, rfl, rfl, rfl⟩ : so1 = so' ∧ on1 = on' ∧ n1 = n' ∧ t1 = t' ∧ l1 = [] ∧ ks1 = ks' := by cases he; exact ⟨rfl, rfl, rfl, rfl, rfl, rfl⟩
  obtain ⟨kg, ko, rfl, _, hkc⟩ := hkk.resolve_left (fun h => by rw [h] at hkl; simp at hkl; omega)
  have hw2 := hw
  simp only [wt] at hw2
  have hkb := wt_keys ks
  have cI : ∀ W, Below w.heap.size w W → Calls Tryz.prog 20 #[.slice (some ⟨kg, ko, none⟩) ks.length c2, .string ⟨k.toArray⟩] W fun e w' => e = .returned (.int .i64 (i : Int)) ∧ w' = W := fun W hb => by
    have h := Tryz.slices_Index_string kg ko ks.length c2 (ks.map fun k => ⟨k.toArray⟩) ⟨k.toArray⟩ W (by simp) (by omega) (fun j hj => by
      have := hkc j (.string ⟨(ks[j]'(by simpa using hj)).toArray⟩) (by simp at hj; simp [hj, strCell])
      rw [hb.cell (lt_of_cell this), this]
      simp at hj; simp [hj])
    rw [List.take_of_length_le (by simp), hk] at h
    exact h
  have hwm : wt l[i] ≤ wtL l := wtL_mem (List.getElem_mem hi)
  have cN : ∀ W, Below w.heap.size w W → Calls Tryz.prog 21 #[arg (.mk so1 on1 n1 t1 [] ks1) (.slice b1 0 d1) (.slice b2 ks1.length d2), .int .i64 65536] W fun e w' => e = .returned (.bool true) ∧ Below W.heap.size W w' := fun W hb => by
    have h := nest_any (.mk so1 on1 n1 t1 [] ks1) _ _ R 65536 W (hpv.later (fun b _ hlt => hb.block b hlt) (fun _ h => h) _ _ _) (by omega) (by rw [hli] at hwm; omega)
    exact h.mono fun e w' ⟨h1, h2⟩ => ⟨by rw [h1]; simp [nestP, nestL], h2⟩
  have hkb1 : ks1.length ≤ 1099511627776 := by rw [hli] at hwm; simp only [wt] at hwm; have := wt_keys ks1; omega
  have cC : ∀ W, Below w.heap.size w W → _ := fun W hb => copy_leaf so1 on1 n1 t1 ks1 (.slice b1 0 d1) (.slice b2 ks1.length d2) R W (hpv.later (fun b _ hlt => hb.block b hlt) (fun _ h => h) _ _ _) hkb1
  rw [hkl] at cI
  have HI := Lib.hid cI
  have HN := Lib.hid cN
  have HC := Lib.hid cC
  simp only [List.length_nil] at p4
  have hlb : l.length ≤ 1099511627776 := by have := wtL_length l; omega
  have hgw : g < w.heap.size := lt_of_cell p0
  rw [hkl]
  clear hV hv hw hpv hL hc hkc cI cN cC hw2 hkb hwm hkb1 he hli hk hkl
  simp only [arg, six', six, strCell] at HN HC ⊢
  go_enter Tryz.func9, Tryz.ntmps9
  go_wp2_with fail
  obtain ⟨t1', t2', tb, tz⟩ := two w (.cells #[.int .i64 5, .bool on, .int .i64 n, .string ⟨t.toArray⟩, .slice (some ⟨g, off, none⟩) l.length c1, .slice (some ⟨kg, ko, none⟩) l.length c2] 34) (.cells #[.int .i64 0, .bool false, .int .i64 0, .string ⟨#[]⟩, .slice none 0 0, .slice none 0 0] 34)
  have T1 := Lib.hid t1'
  have T2 := Lib.hid t2'
  have TB := Lib.hid tb
  generalize (w.alloc (.cells #[.int .i64 5, .bool on, .int .i64 n, .string ⟨t.toArray⟩, .slice (some ⟨g, off, none⟩) l.length c1, .slice (some ⟨kg, ko, none⟩) l.length c2] 34)).alloc (.cells #[.int .i64 0, .bool false, .int .i64 0, .string ⟨#[]⟩, .slice none 0 0, .slice none 0 0] 34) = w0 at t1' t2' tb tz T1 T2 TB ⊢
  clear t1' t2' tb
  have hpw : pg < w.heap.size := lt_of_cell hp
  go_loopw [11] (fun iv wr => Hid (wr.heap[w.heap.size + 1]? = some (.cells #[.int .i64 0, .bool false, .int .i64 0, .string ⟨#[]⟩, .slice none 0 0, .slice none 0 0] 34 (0, 0))) ∧ Hid (Below w.heap.size w wr) ∧ ((iv = .int .i64 0 ∧ Hid (wr.heap[w.heap.size]? = some (.cells #[.int .i64 5, .bool on, .int .i64 n, .string ⟨t.toArray⟩, .slice (some ⟨g, off, none⟩) l.length c1, .slice (some ⟨kg, ko, none⟩) l.length c2] 34 (0, 0)))) ∨ (iv = .int .i64 1 ∧ Hid (wr.heap[w.heap.size]? = some (.cells #[.int .i64 so1, .bool on1, .int .i64 n1, .string ⟨t1.toArray⟩, .slice b1 0 d1, .slice b2 ks1.length d2] 34 (0, 0)))))) (fun iv _ => 1 - (Go.RowKit.intOf iv).toNat)
  case atStart => exact ⟨T2, TB, .inl ⟨rfl, T1⟩⟩
  case round =>
    obtain ⟨HZ, HB, ⟨rfl, HX⟩ | ⟨rfl, HX⟩⟩ := hrel
    · obtain ⟨⟨k0, k1, k2, k3, k4, k5⟩, kf⟩ := cells_six HX.out
      have q := (HB.out.cell hpw).trans hp
      have cQ := HI.out wr HB.out
      have r0 := (HB.out.cell hgw).trans p0
      have r1 := (HB.out.cell hgw).trans p1
      have r2 := (HB.out.cell hgw).trans p2
      have r3 := (HB.out.cell hgw).trans p3
      have r4 := (HB.out.cell hgw).trans p4
      have r5 := (HB.out.cell hgw).trans p5
      clear hp p0 p1 p2 p3 p4 p5 HI HN HC
      go_wp2_with fail
      refine cQ.mono ?_
      rintro e w2 ⟨rfl, rfl⟩
      clear cQ
      go_wp2_with fail
      go_roundw
      case rel => exact ⟨Lib.hid ((far6 _ _ _ _ _ _ _ _ _ (by omega)).trans HZ.out), Lib.hid (below6 HB.out (Nat.le_refl _) _ _ _ _ _ _), .inr ⟨rfl, Lib.hid (six_set HX.out _ _ _ _ _ _)⟩⟩
      case measure => simp [Go.RowKit.intOf]
    · obtain ⟨⟨k0, k1, k2, k3, k4, k5⟩, kf⟩ := cells_six HX.out
      have cQ := HN.out wr HB.out
      clear hp p0 p1 p2 p3 p4 p5 HI HN
      go_wp2_with fail
      refine cQ.mono ?_
      rintro e w2 ⟨rfl, hb2⟩
      have hzz := lt_of_cell k0
      have HB2 := Lib.hid (HB.out.trans (hb2.mono HB.out.size))
      obtain ⟨⟨m0, m1, m2, m3, m4, m5⟩, mf⟩ := cells_six ((hb2.block w.heap.size hzz).trans HX.out)
      have HZ2 := Lib.hid ((hb2.block (w.heap.size + 1) (Array.getElem?_eq_some_iff.1 HZ.out).1).trans HZ.out)
      have cQ2 := HC.out w2 HB2.out
      clear cQ hb2 HC k0 k1 k2 k3 k4 k5 kf
      go_wp2_with fail
      refine cQ2.mono ?_
      rintro e w3 ⟨lv', kv', rfl, hv3, hb3⟩
      have hv4 := hv3
      obtain ⟨⟨a3, c3, rfl, _⟩, ⟨a4, c4, rfl, _⟩⟩ := hv4
      have hzy := (Array.getElem?_eq_some_iff.1 HZ2.out).1
      have HB3 := Lib.hid (HB2.out.trans (hb3.mono HB2.out.size))
      have HV3 := Lib.hid hv3
      obtain ⟨⟨j0, j1, j2, j3, j4, j5⟩, jf⟩ := cells_six ((hb3.block (w.heap.size + 1) hzy).trans HZ2.out)
      clear cQ2 hb3 hv3 m0 m1 m2 m3 m4 m5 mf
      simp only [List.length_nil]
      go_wp2_with fail
      refine bodyPost_ret (v := .tuple #[.agg #[.int .i64 so1, .bool on1, .int .i64 n1, .string ⟨t1.toArray⟩, .slice a3 0 c3, .slice a4 ks1.length c4], .bool true]) (by simp [results, Tryz.results9, go_sem, j0, j1, j2, j3, j4, j5]) rfl ?_
      exact ⟨_, _, rfl, HV3.out.later (fun g hg _ => far6 w3 (w.heap.size + 1) g _ _ _ _ _ _ (by have := HB2.out.size; omega)) (fun g hg => Nat.le_trans HB2.out.size hg) _ _ _, below6 HB3.out (Nat.le_succ _) _ _ _ _ _ _⟩
end Go.Proofs.YtfjdeacpdcnjpaaGreatDoor.V
