/- Contract of the document's own answer for the places of a text's scalars (boltholeref01.places): two new lists, or, if the text is not right, none; memory that was there is as it was. -/
import Derived.Test.YtdnipjbknkmhbaaDoorScalar
import Derived.Test.YtdnipjbknkmhbaaDoorPlacesPlain
import Derived.WalkSmall
import Derived.Deep.DeepMust
import Derived.Maps.AppendAt
namespace Go.Proofs.YtdnipjbknkmhbaaDoor.U
open Go.RowKit
open Go.Lib hiding intOf

def I (n : Nat) : Value := .int .i64 n
def Row (w : World) (g : Nat) (l : List Nat) : Prop := ∀ i, i < l.length → w.cell? ⟨g, i, none⟩ = some (.int .i64 (l.getD i 0 : Nat))
def PlacesPost (s : ByteArray) (w : World) (e : Ending) (w' : World) : Prop :=
  if okB s = true then ∃ g1 c1 g2 c2, e = .returned (.tuple #[.slice (some ⟨g1, 0, none⟩) ((items s).length + 1) c1, .slice (some ⟨g2, 0, none⟩) ((items s).length + 1) c2, .bool true]) ∧
    Row w' g1 (posL (items s) 0) ∧ Row w' g2 (unL (items s) 0) ∧ Below w.heap.size w w' ∧ g1 < w'.heap.size ∧ g2 < w'.heap.size
  else e = .returned (.tuple #[.slice none 0 0, .slice none 0 0, .bool false]) ∧ Below w.heap.size w w'

theorem row_of_owns {w : World} {B g c n : Nat} {l : List Nat} (h : w.ownsRow B 3 1 (.slice (some ⟨g, 0, none⟩) n c) n (l.map I)) : Row w g l ∧ g < w.heap.size := by
  have hl : l.length = n := by have := h.1; simpa using this
  refine ⟨fun i hi => ?_, (h.lt g rfl).2⟩
  rw [h.cellAt i (by omega), List.getElem?_map, List.getElem?_eq_getElem hi]
  simp [I, hi]
theorem shape {w : World} {B n : Nat} {v : Value} {xs : List Value} (h : w.ownsRow B 3 1 v (n + 1) xs) : ∃ g c, v = .slice (some ⟨g, 0, none⟩) (n + 1) c := by
  rcases h.2 with ⟨_, h0⟩ | ⟨g, cap, cur, hv, _⟩
  · omega
  · exact ⟨g, cap, hv⟩
theorem places_fin {s : ByteArray} {w w' : World} {l : List (Nat × Nat)} {g1 c1 g2 c2 B : Nat} (hok : okB s = true) (hl : l = items s)
    (h1 : w'.ownsRow B 3 1 (.slice (some ⟨g1, 0, none⟩) (l.length + 1) c1) (l.length + 1) ((posL l 0).map I)) (h2 : w'.ownsRow B 3 1 (.slice (some ⟨g2, 0, none⟩) (l.length + 1) c2) (l.length + 1) ((unL l 0).map I))
    (hb : Below w.heap.size w w') : PlacesPost s w (.returned (.tuple #[.slice (some ⟨g1, 0, none⟩) (l.length + 1) c1, .slice (some ⟨g2, 0, none⟩) (l.length + 1) c2, .bool true])) w' := by
  subst hl
  unfold PlacesPost
  rw [if_pos hok]
  obtain ⟨r1, s1⟩ := row_of_owns h1
  obtain ⟨r2, s2⟩ := row_of_owns h2
  exact ⟨g1, c1, g2, c2, rfl, r1, r2, hb, s1, s2⟩
theorem places_bad {s : ByteArray} {w w' : World} (hok : okB s = false) (hb : Below w.heap.size w w') : PlacesPost s w (.returned (.tuple #[.slice none 0 0, .slice none 0 0, .bool false])) w' := by
  unfold PlacesPost
  rw [if_neg (by rw [hok]; simp)]
  exact ⟨rfl, hb⟩
theorem scalar_is (s : ByteArray) (w : World) (a b : Nat) (h0 : 0 < s.size) (hs : s.size ≤ 1099511627776) (h : scal s = (a, b)) :
    Calls Tryd.prog 23 #[.string s] w fun e w' => e = .returned (.tuple #[.int .i64 a, .int .i64 b]) ∧ w = w' :=
  (scalar_any s w h0 hs).mono fun e w' ⟨he, hw⟩ => by rw [h] at he; exact ⟨he, hw⟩

def Two (w0 : World) (B : Nat) (s : ByteArray) (bv uv av : Value) (wr : World) : Prop :=
  ∃ (l : List (Nat × Nat)) (f pos g1 c1 g2 c2 : Nat), av = .int .i64 pos ∧ bv = .slice (some ⟨g1, 0, none⟩) (l.length + 1) c1 ∧ uv = .slice (some ⟨g2, 0, none⟩) (l.length + 1) c2 ∧
    Split s l f pos ∧ okL (itemsF s f pos) = okB s ∧
    wr.ownsRow B 3 1 (.slice (some ⟨g1, 0, none⟩) (l.length + 1) c1) (l.length + 1) ((posL l 0).map I) ∧ wr.ownsRow B 3 1 (.slice (some ⟨g2, 0, none⟩) (l.length + 1) c2) (l.length + 1) ((unL l 0).map I) ∧
    g1 ≠ g2 ∧ Below B w0 wr
theorem start (w : World) (s : ByteArray) (e : TypeId) (he : e = 3) : Two w w.heap.size s (.slice (some ⟨w.heap.size, 0, none⟩) 1 1) (.slice (some ⟨w.heap.size + 1, 0, none⟩) 1 1) (.int .i64 0)
    ((w.alloc (.cells #[.int .i64 0] e)).alloc (.cells #[.int .i64 0] e)) := by
  subst he
  have h1 := World.ownsRow_lit (base := w.heap.size) (e := 3) (size := 1) w #[.int .i64 0] 1 (Nat.le_refl _) (by decide) rfl
  have h2 := World.ownsRow_lit (base := w.heap.size) (e := 3) (size := 1) (w.alloc (.cells #[.int .i64 0] 3)) #[.int .i64 0] 1 (by rw [World.size_alloc]; omega) (by decide) rfl
  rw [World.size_alloc] at h2
  exact ⟨[], s.size, 0, w.heap.size, 1, w.heap.size + 1, 1, rfl, rfl, rfl, split_zero s, rfl, h1.alloc _, h2, by omega, ((Below.refl _ _).alloc (Nat.le_refl _) _).alloc (by rw [World.size_alloc]; omega) _⟩
theorem info3 : (Tryd.prog.info? 3).map (fun i => (i.zero, i.size, i.bytes)) = some (some (.int .i64 0), 1, 8) := by kernel_rfl

/-- A scalar more: what the two appends leave is what the relation says of one scalar more. -/
theorem two_step {w0 wr w1 w2 : World} {s : ByteArray} {l : List (Nat × Nat)} {f pos m g1 c1 g2 c2 u : Nat} {v1 v2 : Value} {o1 o2 : Obj} {x y : Int}
    (hS : Split s l f pos) (hA : okL (itemsF s f pos) = okB s) (hm : l.length = m) (hp : pos < s.size) (hgood : ¬ ((Utf8.decode s pos).1 = 65533 ∧ (Utf8.decode s pos).2 = 1)) (hu : uw (Utf8.decode s pos).1 = u)
    (hx : x = ((pos + (Utf8.decode s pos).2 : Nat) : Int)) (hy : y = ((sumU l + u : Nat) : Int))
    (h1 : wr.ownsRow w0.heap.size 3 1 (.slice (some ⟨g1, 0, none⟩) (m + 1) c1) (m + 1) ((posL l 0).map I)) (h2 : wr.ownsRow w0.heap.size 3 1 (.slice (some ⟨g2, 0, none⟩) (m + 1) c2) (m + 1) ((unL l 0).map I))
    (hne : g1 ≠ g2) (hb : Below w0.heap.size w0 wr)
    (hv1 : w1.ownsRow w0.heap.size 3 1 v1 (m + 1 + 1) ((posL l 0).map I ++ [.int .i64 x])) (hg1 : (wr.alloc o1).grownBy w1 (some g1)) (hat1 : v1.ownBlock = some g1 ∨ v1.ownBlock = some (wr.alloc o1).heap.size)
    (hv2 : w2.ownsRow w0.heap.size 3 1 v2 (m + 1 + 1) ((unL l 0).map I ++ [.int .i64 y])) (hg2 : (w1.alloc o2).grownBy w2 (some g2)) (hat2 : v2.ownBlock = some g2 ∨ v2.ownBlock = some (w1.alloc o2).heap.size) :
    Two w0 w0.heap.size s v1 v2 (.int .i64 x) w2 := by
  obtain ⟨k, rfl⟩ : ∃ k, f = k + 1 := ⟨f - 1, by have := hS.2.2.1; omega⟩
  have hlt1 := h1.lt g1 rfl
  have hlt2 := h2.lt g2 rfl
  have hsz1 := hg1.size
  have hsz2 := hg2.size
  rw [World.size_alloc] at hsz1 hsz2 hat1 hat2
  have hsum : sumW l = pos := hS.2.1
  have e1 : (posL l 0).map I ++ [.int .i64 x] = (posL (l ++ [Utf8.decode s pos]) 0).map I := by
    rw [posL_snoc, hsum, hx]; simp [I]
  have e2 : (unL l 0).map I ++ [.int .i64 y] = (unL (l ++ [Utf8.decode s pos]) 0).map I := by
    rw [unL_snoc, hu, hy]; simp [I]
  rw [e1] at hv1
  rw [e2] at hv2
  have hlen : (l ++ [Utf8.decode s pos]).length = m + 1 := by simp [hm]
  obtain ⟨g1', c1', rfl⟩ := shape hv1
  obtain ⟨g2', c2', rfl⟩ := shape hv2
  have hl1 := hv1.lt g1' rfl
  have hl2 := hv2.lt g2' rfl
  simp only [Value.ownBlock, Option.some.injEq] at hat1 hat2
  have hk1 := (hv1.alloc o2).kept hg2 (.inr (by simp only [Value.ownBlock, ne_eq, Option.some.injEq]; omega))
  refine ⟨l ++ [Utf8.decode s pos], k, pos + (Utf8.decode s pos).2, g1', c1', g2', c2', by rw [hx], by rw [hlen], by rw [hlen], split_step hS hp, ?_, ?_, ?_, by omega, ?_⟩
  · rw [← hA, okL_on s k pos hp hgood]
  · rw [hlen]; exact hk1
  · rw [hlen]; exact hv2
  · exact (((hb.alloc hb.size o1).grown hg1 (by rw [World.size_alloc]; have := hb.size; omega) (fun j hj => by cases hj; omega)).alloc (by have := hb.size; omega) o2).grown hg2 (by rw [World.size_alloc]; have := hb.size; omega) (fun j hj => by cases hj; omega)
theorem keep_units {w w1 : World} {o : Obj} {B g1 c1 g2 c2 n k : Nat} {xs : List Value} (h : w.ownsRow B 3 1 (.slice (some ⟨g2, 0, none⟩) n c2) n xs) (hne : g1 ≠ g2) (hg : (w.alloc o).grownBy w1 (Value.slice (some ⟨g1, 0, none⟩) k c1).ownBlock) :
    w1.ownsRow B 3 1 (.slice (some ⟨g2, 0, none⟩) n c2) n xs := (h.alloc o).kept hg (.inr (by simp only [Value.ownBlock, ne_eq, Option.some.injEq]; omega))
theorem last_cell {w : World} {B g c m : Nat} {l : List (Nat × Nat)} (hm : l.length = m) (h : w.ownsRow B 3 1 (.slice (some ⟨g, 0, none⟩) (m + 1) c) (m + 1) ((unL l 0).map I)) : w.cell? ⟨g, m, none⟩ = some (.int .i64 (sumU l : Nat)) := by
  have hl := unL_last l 0
  rw [h.cellAt m (by omega), List.getElem?_map]
  rw [hm, Nat.zero_add, List.getD_eq_getElem?_getD] at hl
  have hlt : m < (unL l 0).length := by rw [unL_length]; omega
  rw [List.getElem?_eq_getElem hlt] at hl ⊢
  simp only [Option.getD_some] at hl
  rw [hl]; rfl

set_option maxHeartbeats 4000000 in
set_option maxRecDepth 100000 in
theorem places_any (s : ByteArray) (w : World) (hs : s.size ≤ 400) :
    Calls Tryd.prog 20 #[.string s] w (PlacesPost s w) := by
  have HST := Lib.hid (start w s 3 rfl)
  obtain ⟨i0, hi, hz0, hz1, hz2⟩ := info_parts info3
  go_enter Tryd.func20, Tryd.ntmps20
  go_wp2
  go_loopw [5, 6, 7] (fun bv uv av wr => Two w w.heap.size s bv uv av wr) (fun _ _ av _ => s.size - (intOf av).toNat)
  case atStart => exact HST.out
  case round =>
    clear HST
    obtain ⟨l, f, pos, g1, c1, g2, c2, rfl, rfl, rfl, hS, hA, h1, h2, hne, hb⟩ := hrel
    obtain ⟨m, hm⟩ : ∃ m, l.length = m := ⟨_, rfl⟩
    rw [hm] at h1 h2 ⊢
    have HS := Lib.hid hS
    have HA := Lib.hid hA
    have hpos : pos ≤ s.size := hS.2.2.2
    have hlen : m ≤ 400 := by
      have h3 := itemsF_wide s s.size 0
      have h4 := hS.1
      have h5 := hS.2.1
      have hW : Wide l := fun y hy => h3 y (by show y ∈ items s; rw [h4]; simp [hy])
      have := length_le l hW
      omega
    have hsu : sumU l ≤ 800 := by
      have h3 := itemsF_wide s s.size 0
      have h4 := hS.1
      have h5 := hS.2.1
      have hW : Wide l := fun y hy => h3 y (by show y ∈ items s; rw [h4]; simp [hy])
      have := sumU_le l hW
      omega
    have hlast := last_cell (w := wr) hm h2
    have HM := Lib.hid hm
    clear hS hA hm
    by_cases hp : pos < s.size
    · by_cases hbad : (Utf8.decode s pos).1 = 65533 ∧ (Utf8.decode s pos).2 = 1
      · have hsc : scal (s.extract pos s.size) = (0, 0) := by rw [scal_at, if_pos hbad]
        have cS := scalar_is (s.extract pos s.size) wr 0 0 (by rw [ext_size]; omega) (by rw [ext_size]; omega) hsc
        have hok : Hid (okB s = false) := Lib.hid (by
          obtain ⟨k, rfl⟩ : ∃ k, f = k + 1 := ⟨f - 1, by have := HS.out.2.2.1; omega⟩
          rw [← HA.out]; exact okL_bad s k pos hp hbad)
        clear hbad hsc
        go_wp2_with (go_at_call 23; refine cS.mono ?_; rintro e w1 ⟨rfl, rfl⟩)
        go_ret3
        exact places_bad hok.out hb
      · obtain ⟨d, hd⟩ : ∃ d, Utf8.decode s pos = d := ⟨_, rfl⟩
        have hsc : scal (s.extract pos s.size) = (d.1, d.2) := by rw [scal_at, if_neg hbad, hd]
        have hw1 := width_pos s pos hp
        have hw2 := width_le s pos hp
        have hr := rune_le s pos
        have HG := Lib.hid hbad
        have HD := Lib.hid hd
        rw [hd] at hw1 hw2 hr
        obtain ⟨r, wd⟩ := d
        simp only at hw1 hw2 hr hsc
        have cS := scalar_is (s.extract pos s.size) wr r wd (by rw [ext_size]; omega) (by rw [ext_size]; omega) hsc
        obtain ⟨S, hSe⟩ : ∃ S, sumU l = S := ⟨_, rfl⟩
        have HSe := Lib.hid hSe
        rw [hSe] at hlast hsu
        clear hbad hsc hd hSe
        clear hlast
        have hn0 : ((wd : Int) == 0) = false := by simp; omega
        by_cases h65 : 65536 ≤ r
        · have h65z : (65536 : Int) ≤ (r : Int) := by omega
          have hu : Hid (uw (Utf8.decode s pos).1 = 2) := Lib.hid (by rw [HD.out]; unfold uw; rw [if_pos (by simp only; omega)])
          go_wp2_with (first
            | (go_at_call 23; refine cS.mono ?_; rintro e w1 ⟨rfl, rfl⟩)
            | (at_builtin; refine wpList_append_own_at _ rfl (.tmp 31) (.tmp 33) 36 rfl w.heap.size 3 i0 (.int .i64 0) 1 8 Tryd.underlying36 hi hz0 hz1 hz2 rfl (by decide) _ _ _ rfl (h1.alloc _) ⟨wr.heap.size, 0, none⟩ 1 1 [.int .i64 ((pos : Int) + (wd : Int))] rfl rfl (cell_one_new _ _ _) (by intro u hu; simp at hu; subst hu; rfl) (by unfold maxLen; omega) (by omega) (by have := hb.size; simp; omega) ?_; intro v1 w1 hv1 hg1 _ hat1; have hk := keep_units h2 hne hg1; have hlast1 := last_cell HM.out hk; rw [HSe.out] at hlast1)
            | (at_builtin; refine wpList_append_own_at _ rfl (.tmp 35) (.tmp 44) 36 rfl w.heap.size 3 i0 (.int .i64 0) 1 8 Tryd.underlying36 hi hz0 hz1 hz2 rfl (by decide) _ _ _ rfl (hk.alloc _) ⟨w1.heap.size, 0, none⟩ 1 1 [.int .i64 ((S : Int) + 2)] rfl rfl (cell_one_new _ _ _) (by intro u hu; simp at hu; subst hu; rfl) (by unfold maxLen; omega) (by omega) (by have := hb.size; have := hg1.size; simp at this ⊢; omega) ?_; intro v2 w2 hv2 hg2 _ hat2))
          go_roundw
          case rel => exact two_step HS.out HA.out HM.out hp HG.out hu.out (by rw [HD.out]; omega) (by rw [HSe.out]; omega) h1 h2 hne hb hv1 hg1 hat1 hv2 hg2 hat2
          case measure => simp [intOf]; omega
        · have h65z : decide ((65536 : Int) ≤ (r : Int)) = false := decide_eq_false (by omega)
          have hu : Hid (uw (Utf8.decode s pos).1 = 1) := Lib.hid (by rw [HD.out]; unfold uw; rw [if_neg (by simp only; omega)])
          clear h65
          go_wp2_with (first
            | (go_at_call 23; refine cS.mono ?_; rintro e w1 ⟨rfl, rfl⟩)
            | (at_builtin; refine wpList_append_own_at _ rfl (.tmp 31) (.tmp 33) 36 rfl w.heap.size 3 i0 (.int .i64 0) 1 8 Tryd.underlying36 hi hz0 hz1 hz2 rfl (by decide) _ _ _ rfl (h1.alloc _) ⟨wr.heap.size, 0, none⟩ 1 1 [.int .i64 ((pos : Int) + (wd : Int))] rfl rfl (cell_one_new _ _ _) (by intro u hu; simp at hu; subst hu; rfl) (by unfold maxLen; omega) (by omega) (by have := hb.size; simp; omega) ?_; intro v1 w1 hv1 hg1 _ hat1; have hk := keep_units h2 hne hg1; have hlast1 := last_cell HM.out hk; rw [HSe.out] at hlast1)
            | (at_builtin; refine wpList_append_own_at _ rfl (.tmp 35) (.tmp 44) 36 rfl w.heap.size 3 i0 (.int .i64 0) 1 8 Tryd.underlying36 hi hz0 hz1 hz2 rfl (by decide) _ _ _ rfl (hk.alloc _) ⟨w1.heap.size, 0, none⟩ 1 1 [.int .i64 ((S : Int) + 1)] rfl rfl (cell_one_new _ _ _) (by intro u hu; simp at hu; subst hu; rfl) (by unfold maxLen; omega) (by omega) (by have := hb.size; have := hg1.size; simp at this ⊢; omega) ?_; intro v2 w2 hv2 hg2 _ hat2))
          go_roundw
          case rel => exact two_step HS.out HA.out HM.out hp HG.out hu.out (by rw [HD.out]; omega) (by rw [HSe.out]; omega) h1 h2 hne hb hv1 hg1 hat1 hv2 hg2 hat2
          case measure => simp [intOf]; omega
    · have hok : Hid (okB s = true) := Lib.hid (by rw [← HA.out]; exact okL_done s f pos hp)
      go_wp2
      go_ret3
      rw [← HM.out] at h1 h2 ⊢
      exact places_fin hok.out (split_done HS.out hp) h1 h2 hb
end Go.Proofs.YtdnipjbknkmhbaaDoor.U
