/- The contract of a value, and of Read. -/
import Derived.Test.YtfjdeacpdcnjpaaGreatDoorVRead11
namespace Go.Proofs.YtfjdeacpdcnjpaaGreatDoor.V
open Go.RowKit
open Go.Lib

def skipR : Res Val → Res Val
  | .ok v r => .ok v (skip r)
  | .bad => .bad
  | .deep => .deep

theorem value_list {f o : Nat} {l r : List UInt8} (h : skip l = 91 :: r) : value (f + 1) o l = skipR (listP f o r) := by
  simp only [value, h, listP, partsG]
  by_cases ho : o = 20
  · rw [if_pos ho, if_pos (by omega)]; rfl
  · rw [if_neg ho, if_neg (by omega)]
    cases hp : Lib.hasPrefix (skip r) [93] with
    | true =>
      rw [prefix_one hp]; simp [resMap, skipR, Val.arr]
    | false =>
      rw [if_neg (by simp), ← items_loop]
      split
      · rename_i r' h2; rw [h2] at hp; simp [Lib.hasPrefix] at hp
      · cases items f (o + 1) (skip r) [] <;> rfl
theorem value_record {f o : Nat} {l r : List UInt8} (h : skip l = 123 :: r) : value (f + 1) o l = skipR (recordP f o r) := by
  simp only [value, h, recordP, partsG]
  by_cases ho : o = 20
  · rw [if_pos ho, if_pos (by omega)]; rfl
  · rw [if_neg ho, if_neg (by omega)]
    cases hp : Lib.hasPrefix (skip r) [125] with
    | true =>
      rw [prefix_one hp]; simp [resMap, skipR, Val.rcd]
    | false =>
      rw [if_neg (by simp), ← fields_loop]
      split
      · rename_i r' h2; rw [h2] at hp; simp [Lib.hasPrefix] at hp
      · cases fields f (o + 1) (skip r) [] [] <;> rfl
def plainR (l : List UInt8) : Res Val := match plain l with
  | some (v, r) => .ok v r
  | none => .bad
theorem value_plain {f o : Nat} {l : List UInt8} (h1 : Lib.hasPrefix (skip l) [91] = false) (h2 : Lib.hasPrefix (skip l) [123] = false) : value (f + 1) o l = skipR (plainR (skip l)) := by
  simp only [value, plainR]
  split
  · rename_i r h; rw [h] at h1; simp [Lib.hasPrefix] at h1
  · rename_i r h; rw [h] at h2; simp [Lib.hasPrefix] at h2
  · cases plain (skip l) with
    | none => rfl
    | some p => rfl

theorem readsV_plain {d : Nat} {s : ByteArray} {o : Int} {l : List UInt8} {w w' : World} {e : Ending} (h : ReadsP d s o (plain l) w e w') :
    (∃ so on n t rest, e = .returned (.tuple #[vagg so on n t (.slice none 0 0) (.slice none 0 0), .bool true]) ∧ plainR l = .ok (.mk so on n t [] []) rest ∧ RdL d s rest o w' ∧ Mut w.heap.size d w w') ∨
    (∃ so n t rest, e = .returned (.tuple #[vagg so false n t (.slice none 0 0) (.slice none 0 0), .bool false]) ∧ plainR l = .bad ∧ RdL d s rest o w' ∧ Mut w.heap.size d w w') := by
  unfold plainR
  cases hp : plain l with
  | none =>
    rw [hp] at h
    obtain ⟨so, n, t, r, he, h1, h2⟩ := h
    exact .inr ⟨so, n, t, r, he, rfl, h1, h2⟩
  | some p =>
    obtain ⟨⟨so, on, n, t, l', k'⟩, r⟩ := p
    rw [hp] at h
    match l', k', h with
    | [], [], h => exact .inl ⟨so, on, n, t, r, h.1, rfl, h.2.1, h.2.2⟩

/-- Behind a value that was read: it is put into the result's block, and the blanks are taken. -/
theorem value_fin {d : Nat} {s : ByteArray} {o : Int} {r : Res Val} {w w1 w2 : World} {e : Ending} (h : ReadsV d s o r w1 e w2) (hm01 : Mut w.heap.size d w w1) (hR : w.heap.size < w1.heap.size) (hd : d < w.heap.size) :
    ∃ (so : Int) (on : Bool) (n : Int) (t : List UInt8) (a1 a2 : Option Addr) (n1 c1 n2 c2 : Nat) (en : Int) (rest : List UInt8),
      e = .returned (.tuple #[.agg #[.int .i64 so, .bool on, .int .i64 n, .string ⟨t.toArray⟩, .slice a1 n1 c1, .slice a2 n2 c2], .int .i64 en]) ∧ RdL d s rest o w2 ∧ Mut w1.heap.size d w1 w2 ∧
      ∀ (x0 x1 x2 x3 x4 x5 : Value) (W' : World), Mut w2.heap.size d ((((((w2.setCell ⟨w.heap.size, 0, none⟩ x0).setCell ⟨w.heap.size, 1, none⟩ x1).setCell ⟨w.heap.size, 2, none⟩ x2).setCell ⟨w.heap.size, 3, none⟩ x3).setCell ⟨w.heap.size, 4, none⟩ x4).setCell ⟨w.heap.size, 5, none⟩ x5) W' → RdL d s (skip rest) o W' →
        ReadsV d s o (skipR r) w (.returned (.tuple #[.agg #[.int .i64 so, .bool on, .int .i64 n, .string ⟨t.toArray⟩, .slice a1 n1 c1, .slice a2 n2 c2], .int .i64 en])) W' := by
  obtain ⟨hm12, h⟩ := h
  have z01 := hm01.size
  have z12 := hm12.size
  have chain : ∀ (x0 x1 x2 x3 x4 x5 : Value) (W' : World), Mut w2.heap.size d ((((((w2.setCell ⟨w.heap.size, 0, none⟩ x0).setCell ⟨w.heap.size, 1, none⟩ x1).setCell ⟨w.heap.size, 2, none⟩ x2).setCell ⟨w.heap.size, 3, none⟩ x3).setCell ⟨w.heap.size, 4, none⟩ x4).setCell ⟨w.heap.size, 5, none⟩ x5) W' → Mut w.heap.size d w W' := fun x0 x1 x2 x3 x4 x5 W' hm =>
    (mut6 w.heap.size x0 x1 x2 x3 x4 x5 (hm01.trans (hm12.mono (by omega))) (Nat.le_refl _)).trans (hm.mono (by omega))
  cases r with
  | bad =>
    obtain ⟨rfl, l, hr⟩ := h
    exact ⟨0, false, 0, [], none, none, 0, 0, 0, 0, 21, l, rfl, hr, hm12, fun x0 x1 x2 x3 x4 x5 W' hm hr' => ⟨chain x0 x1 x2 x3 x4 x5 W' hm, rfl, _, hr'⟩⟩
  | deep =>
    obtain ⟨rfl, l, hr⟩ := h
    exact ⟨0, false, 0, [], none, none, 0, 0, 0, 0, 22, l, rfl, hr, hm12, fun x0 x1 x2 x3 x4 x5 W' hm hr' => ⟨chain x0 x1 x2 x3 x4 x5 W' hm, rfl, _, hr'⟩⟩
  | ok v rest =>
    obtain ⟨so, on, n, t, l, ks⟩ := v
    obtain ⟨lv, kv, rfl, hv, hr⟩ := h
    have hv' := hv
    obtain ⟨⟨a1, c1, rfl, _⟩, ⟨a2, c2, rfl, _⟩⟩ := hv'
    refine ⟨so, on, n, t, a1, a2, l.length, c1, ks.length, c2, 0, rest, rfl, hr, hm12, fun x0 x1 x2 x3 x4 x5 W' hm hr' => ⟨chain x0 x1 x2 x3 x4 x5 W' hm, .slice a1 l.length c1, .slice a2 ks.length c2, rfl, ?_, hr'⟩⟩
    refine ValIn.later (R := fun g => w1.heap.size ≤ g) (fun g hg hlt => ?_) (fun g hg => by omega) _ _ _ hv
    exact (hm.block g hlt (by omega)).trans (far6 w2 w.heap.size g _ _ _ _ _ _ (by omega))

theorem heap6 {W : World} {q : Nat} {c0 c1 c2 c3 c4 c5 : Value} {t : TypeId} (h : W.heap[q]? = some (.cells #[c0, c1, c2, c3, c4, c5] t (0, 0))) (x0 x1 x2 x3 x4 x5 : Value) :
    ((((((W.setCell ⟨q, 0, none⟩ x0).setCell ⟨q, 1, none⟩ x1).setCell ⟨q, 2, none⟩ x2).setCell ⟨q, 3, none⟩ x3).setCell ⟨q, 4, none⟩ x4).setCell ⟨q, 5, none⟩ x5).heap[q]? = some (.cells #[x0, x1, x2, x3, x4, x5] t (0, 0)) := by
  have e0 := Go.Joins.block_setCell (i := 0) h x0
  have e1 := Go.Joins.block_setCell (i := 1) e0 x1
  have e2 := Go.Joins.block_setCell (i := 2) e1 x2
  have e3 := Go.Joins.block_setCell (i := 3) e2 x3
  have e4 := Go.Joins.block_setCell (i := 4) e3 x4
  have e5 := Go.Joins.block_setCell (i := 5) e4 x5
  exact e5
theorem plain_ok_fin {d : Nat} {s : ByteArray} {o : Int} {r : Res Val} {w W' : World} {so n : Int} {on : Bool} {t rest : List UInt8} (hr : r = .ok (.mk so on n t [] []) rest) (hm : Mut w.heap.size d w W') (h : RdL d s (skip rest) o W') :
    ReadsV d s o (skipR r) w (.returned (.tuple #[.agg #[.int .i64 so, .bool on, .int .i64 n, .string ⟨t.toArray⟩, .slice none 0 0, .slice none 0 0], .int .i64 0])) W' := by
  subst hr
  exact ⟨hm, .slice none 0 0, .slice none 0 0, rfl, ⟨⟨none, 0, rfl, .inl rfl⟩, keysIn_nil _ _⟩, h⟩
theorem plain_bad_fin {d : Nat} {s : ByteArray} {o : Int} {r : Res Val} {w W' : World} {l : List UInt8} (hr : r = .bad) (hm : Mut w.heap.size d w W') (h : RdL d s l o W') :
    ReadsV d s o (skipR r) w (.returned (.tuple #[.agg #[.int .i64 0, .bool false, .int .i64 0, .string ⟨#[]⟩, .slice none 0 0, .slice none 0 0], .int .i64 21])) W' := by
  subst hr
  exact ⟨hm, rfl, l, h⟩

set_option maxHeartbeats 4000000 in
theorem value_step (F d B0 : Nat) (s : ByteArray) (l : List UInt8) (o : Nat) (w : World) (IH : ValC F) (hf2 : F + 1 ≤ 1099511627776)
    (hr : RdL d s l o w) (hE : Env B0 w) (hd : B0 ≤ d) (hs : s.size ≤ 274877906944) (ho : o ≤ 20) (hl : 2 * l.length + 1 ≤ F + 1) :
    Calls Tryz.prog 29 #[.pointer (some ⟨d, 0, none⟩)] w (ReadsV d s o (value (F + 1) o l) w) := by
  have hdlt := hr.lt
  have hsl := skip_len l
  have hr0 : ∀ ob, RdL d s l o (w.alloc ob) := fun ob => hr.below ((Below.refl _ _).alloc (Nat.le_refl _) _)
  have hm0 : ∀ ob, Mut w.heap.size d w (w.alloc ob) := fun ob => (Mut.refl _ _ _).alloc (Nat.le_refl _) _
  have hmut : ∀ W, Mut w.heap.size d w W → Env B0 W := fun W hm => hE.mut hd hm
  obtain ⟨l1, hl1⟩ : ∃ l1, skip l = l1 := ⟨_, rfl⟩
  have c1 : ∀ W, RdL d s l o W → Calls Tryz.prog 49 #[.pointer (some ⟨d, 0, none⟩), .string ⟨#[32, 9, 10, 13]⟩] W fun e w' => (∃ t, e = .returned (.string t)) ∧ RdL d s l1 o w' ∧ Mut W.heap.size d W w' := fun W h => (takeAll_any d s _ blank set_blank l o W h (by omega)).mono fun e w' ⟨he, h1, h2⟩ => ⟨⟨_, he⟩, by rw [← hl1]; exact h1, h2⟩
  cases hp : Lib.hasPrefix l1 [91] with
  | true =>
    obtain ⟨r, hlr⟩ : ∃ r, l1 = 91 :: r := ⟨_, prefix_one hp⟩
    have hres := value_list (f := F) (o := o) (hl1.trans hlr)
    have hrl : 2 * r.length + 2 ≤ F := by rw [← hl1] at hlr; rw [hlr] at hsl; simp at hsl; omega
    have c2 : ∀ W, RdL d s l1 o W → Calls Tryz.prog 50 #[.pointer (some ⟨d, 0, none⟩), .string ⟨#[91]⟩] W fun e w' => e = .returned (.bool true) ∧ RdL d s r o w' ∧ Mut W.heap.size d W w' := fun W h => (take_yes d s ⟨#[91]⟩ l1 o W h (by omega) hp).mono fun e w' ⟨he, h1, h2⟩ => ⟨he, by rw [hlr] at h1; exact h1, h2⟩
    have c3 : ∀ W, RdL d s r o W → Env B0 W → _ := fun W h hE => list_any F F d B0 s r o W IH (Nat.le_refl _) (by omega) h hE hd hs ho hrl
    rw [hres]
    clear hr hE hl1 hp hlr hres IH hsl
    generalize listP F o r = RR at *
    go_enter_defers Tryz.func29, Tryz.ntmps29
    go_wp2_with fail
    refine (c1 _ (hr0 _)).mono ?_; rintro e w1 ⟨⟨tt, rfl⟩, hr1, hm1⟩
    have zz1 := hm1.size
    simp at zz1
    go_wp2_with fail
    refine (c2 _ hr1).mono ?_; rintro e w2 ⟨rfl, hr2, hm2⟩
    have hm02 := (hm0 _).trans ((hm1.trans (hm2.mono hm1.size)).mono (by simp))
    have zz2 := hm2.size
    have hb2 := ((hm2.block w.heap.size (by omega) (by omega)).trans (hm1.block w.heap.size (by simp) (by omega))).trans (heap_alloc_new w _)
    go_wp2_with fail
    refine (c3 _ hr2 (hmut _ hm02)).mono ?_
    intro e w3 hV
    obtain ⟨so, on, n, t, a1, a2, n1, k1, n2, k2, en, rest, rfl, hr3, hm3, hfin⟩ := value_fin hV hm02 (by omega) hdlt
    have hb3 := (hm3.block w.heap.size (by omega) (by omega)).trans hb2
    obtain ⟨⟨j0, j1, j2, j3, j4, j5⟩, jf⟩ := cells_six hb3
    have HFin := Lib.hid hfin
    have HB3 := Lib.hid hb3
    have hw3 : w.heap.size < w3.heap.size := by have := hm3.size; omega
    clear c1 c2 c3 hr0 hm0 hmut hV hfin hb2 hb3 hm1 hm2
    go_wp2_with fail
    refine leaves_cons (f := 49) (args := #[.pointer (some ⟨d, 0, none⟩), .string ⟨#[32, 9, 10, 13]⟩]) (by simp) (by simp [go_sem]) ?_
    refine (takeAll_d d s _ blank set_blank rest o _ (rdl6 w.heap.size _ _ _ _ _ _ hr3 (by omega)) (by omega) _).mono ?_
    rintro e u' w4 ⟨rfl, rfl, hr4, hm4⟩
    have hb4 := (hm4.block w.heap.size (by simp; omega) (by omega)).trans (heap6 HB3.out _ _ _ _ _ _)
    obtain ⟨⟨m0, m1, m2, m3, m4, m5⟩, _⟩ := cells_six hb4
    refine ⟨.tuple #[.agg #[.int .i64 so, .bool on, .int .i64 n, .string ⟨t.toArray⟩, .slice a1 n1 k1, .slice a2 n2 k2], .int .i64 en], ?_, HFin.out _ _ _ _ _ _ w4 (hm4.mono (by simp)) hr4⟩
    simp [results, Tryz.results29, go_sem, m0, m1, m2, m3, m4, m5]
  | false =>
    cases hp2 : Lib.hasPrefix l1 [123] with
    | true =>
      obtain ⟨r, hlr⟩ : ∃ r, l1 = 123 :: r := ⟨_, prefix_one hp2⟩
      have hres := value_record (f := F) (o := o) (hl1.trans hlr)
      have hrl : 2 * r.length + 2 ≤ F := by rw [← hl1] at hlr; rw [hlr] at hsl; simp at hsl; omega
      have c0 : ∀ W, RdL d s l1 o W → _ := fun W h => take_no d s ⟨#[91]⟩ l1 o W h hp
      have c2 : ∀ W, RdL d s l1 o W → Calls Tryz.prog 50 #[.pointer (some ⟨d, 0, none⟩), .string ⟨#[123]⟩] W fun e w' => e = .returned (.bool true) ∧ RdL d s r o w' ∧ Mut W.heap.size d W w' := fun W h => (take_yes d s ⟨#[123]⟩ l1 o W h (by omega) hp2).mono fun e w' ⟨he, h1, h2⟩ => ⟨he, by rw [hlr] at h1; exact h1, h2⟩
      have c3 : ∀ W, RdL d s r o W → Env B0 W → _ := fun W h hE => record_any F F d B0 s r o W IH (Nat.le_refl _) (by omega) h hE hd hs ho hrl
      rw [hres]
      clear hr hE hl1 hp hp2 hlr hres IH hsl
      generalize recordP F o r = RR at *
      go_enter_defers Tryz.func29, Tryz.ntmps29
      go_wp2_with fail
      refine (c1 _ (hr0 _)).mono ?_; rintro e w1 ⟨⟨tt, rfl⟩, hr1, hm1⟩
      have zz1 := hm1.size
      simp at zz1
      go_wp2_with fail
      refine (c0 _ hr1).mono ?_; rintro e w9 ⟨rfl, hr9, hm9⟩
      replace hm1 := hm1.trans (hm9.mono hm1.size)
      have zz9 := hm9.size
      go_wp2_with fail
      refine (c2 _ hr9).mono ?_; rintro e w2 ⟨rfl, hr2, hm2⟩
      have hm02 := (hm0 _).trans ((hm1.trans (hm2.mono hm1.size)).mono (by simp))
      have zz2 := hm2.size
      have hb2 := ((hm2.block w.heap.size (by omega) (by omega)).trans (hm1.block w.heap.size (by simp) (by omega))).trans (heap_alloc_new w _)
      go_wp2_with fail
      refine (c3 _ hr2 (hmut _ hm02)).mono ?_
      intro e w3 hV
      obtain ⟨so, on, n, t, a1, a2, n1, k1, n2, k2, en, rest, rfl, hr3, hm3, hfin⟩ := value_fin hV hm02 (by omega) hdlt
      have hb3 := (hm3.block w.heap.size (by omega) (by omega)).trans hb2
      obtain ⟨⟨j0, j1, j2, j3, j4, j5⟩, jf⟩ := cells_six hb3
      have HFin := Lib.hid hfin
      have HB3 := Lib.hid hb3
      have hw3 : w.heap.size < w3.heap.size := by have := hm3.size; omega
      clear c0 c1 c2 c3 hr0 hm0 hmut hV hfin hb2 hb3 hm1 hm2
      go_wp2_with fail
      refine leaves_cons (f := 49) (args := #[.pointer (some ⟨d, 0, none⟩), .string ⟨#[32, 9, 10, 13]⟩]) (by simp) (by simp [go_sem]) ?_
      refine (takeAll_d d s _ blank set_blank rest o _ (rdl6 w.heap.size _ _ _ _ _ _ hr3 (by omega)) (by omega) _).mono ?_
      rintro e u' w4 ⟨rfl, rfl, hr4, hm4⟩
      have hb4 := (hm4.block w.heap.size (by simp; omega) (by omega)).trans (heap6 HB3.out _ _ _ _ _ _)
      obtain ⟨⟨m0, m1, m2, m3, m4, m5⟩, _⟩ := cells_six hb4
      refine ⟨.tuple #[.agg #[.int .i64 so, .bool on, .int .i64 n, .string ⟨t.toArray⟩, .slice a1 n1 k1, .slice a2 n2 k2], .int .i64 en], ?_, HFin.out _ _ _ _ _ _ w4 (hm4.mono (by simp)) hr4⟩
      simp [results, Tryz.results29, go_sem, m0, m1, m2, m3, m4, m5]
    | false =>
      have c0 : ∀ W, RdL d s l1 o W → _ := fun W h => take_no d s ⟨#[91]⟩ l1 o W h hp
      have c2 : ∀ W, RdL d s l1 o W → _ := fun W h => take_no d s ⟨#[123]⟩ l1 o W h hp2
      have c3 : ∀ W, RdL d s l1 o W → Env B0 W → _ := fun W h hE => plain_any d s l1 o B0 W h hE hd (by omega)
      have hres := value_plain (f := F) (o := o) (l := l) (by rw [hl1]; exact hp) (by rw [hl1]; exact hp2)
      rw [hl1] at hres
      rw [hres]
      clear hr hE hl1 hp hp2 hres IH hsl
      go_enter_defers Tryz.func29, Tryz.ntmps29
      go_wp2_with fail
      refine (c1 _ (hr0 _)).mono ?_; rintro e w1 ⟨⟨tt, rfl⟩, hr1, hm1⟩
      have zz1 := hm1.size
      simp at zz1
      go_wp2_with fail
      refine (c0 _ hr1).mono ?_; rintro e w9 ⟨rfl, hr9, hm9⟩
      replace hm1 := hm1.trans (hm9.mono hm1.size)
      have zz9 := hm9.size
      go_wp2_with fail
      refine (c2 _ hr9).mono ?_; rintro e w2 ⟨rfl, hr2, hm2⟩
      have hm02 := (hm0 _).trans ((hm1.trans (hm2.mono hm1.size)).mono (by simp))
      have zz2 := hm2.size
      have hb2 := ((hm2.block w.heap.size (by omega) (by omega)).trans (hm1.block w.heap.size (by simp) (by omega))).trans (heap_alloc_new w _)
      go_wp2_with fail
      refine (c3 _ hr2 (hmut _ hm02)).mono ?_
      intro e w3 hP
      rcases readsV_plain hP with ⟨so, on, n, t, rest, rfl, hpl, hr3, hm3⟩ | ⟨so, n, t, rest, rfl, hpl, hr3, hm3⟩
      · have zz3 := hm3.size
        have hb3 := (hm3.block w.heap.size (by omega) (by omega)).trans hb2
        have hm03 := hm02.trans (hm3.mono (by omega))
        have HPL := Lib.hid hpl
        obtain ⟨⟨j0, j1, j2, j3, j4, j5⟩, jf⟩ := cells_six hb3
        have HB3 := Lib.hid hb3
        have hw3 : w.heap.size < w3.heap.size := by omega
        clear c0 c1 c2 c3 hr0 hm0 hmut hP hb2 hb3 hm1 hm2 hpl
        simp only [vagg]
        go_wp2_with fail
        refine leaves_cons (f := 49) (args := #[.pointer (some ⟨d, 0, none⟩), .string ⟨#[32, 9, 10, 13]⟩]) (by simp) (by simp [go_sem]) ?_
        refine (takeAll_d d s _ blank set_blank rest o _ ((rdl6 w.heap.size _ _ _ _ _ _ hr3 (by omega)).below ((Below.refl _ _).alloc (Nat.le_refl _) _)) (by omega) _).mono ?_
        rintro e u' w4 ⟨rfl, rfl, hr4, hm4⟩
        have hb4 := (hm4.block w.heap.size (by simp; omega) (by omega)).trans ((Below.heap_alloc _ _ w.heap.size (by simp; omega)).trans (heap6 HB3.out _ _ _ _ _ _))
        obtain ⟨⟨m0, m1, m2, m3, m4, m5⟩, _⟩ := cells_six hb4
        refine ⟨.tuple #[.agg #[.int .i64 so, .bool on, .int .i64 n, .string ⟨t.toArray⟩, .slice none 0 0, .slice none 0 0], .int .i64 0], ?_, plain_ok_fin HPL.out (((mut6 w.heap.size _ _ _ _ _ _ hm03 (Nat.le_refl _)).alloc (by simp; omega) _).trans (hm4.mono (by simp; omega))) hr4⟩
        simp [results, Tryz.results29, go_sem, m0, m1, m2, m3, m4, m5]
      · have zz3 := hm3.size
        have hb3 := (hm3.block w.heap.size (by omega) (by omega)).trans hb2
        have hm03 := hm02.trans (hm3.mono (by omega))
        have HPL := Lib.hid hpl
        obtain ⟨⟨j0, j1, j2, j3, j4, j5⟩, jf⟩ := cells_six hb3
        have HB3 := Lib.hid hb3
        have hw3 : w.heap.size < w3.heap.size := by omega
        clear c0 c1 c2 c3 hr0 hm0 hmut hP hb2 hb3 hm1 hm2 hpl
        simp only [vagg]
        go_wp2_with fail
        refine leaves_cons (f := 49) (args := #[.pointer (some ⟨d, 0, none⟩), .string ⟨#[32, 9, 10, 13]⟩]) (by simp) (by simp [go_sem]) ?_
        refine (takeAll_d d s _ blank set_blank rest o _ ((rdl6 w.heap.size _ _ _ _ _ _ hr3 (by omega)).below ((Below.refl _ _).alloc (Nat.le_refl _) _)) (by omega) _).mono ?_
        rintro e u' w4 ⟨rfl, rfl, hr4, hm4⟩
        have hb4 := (hm4.block w.heap.size (by simp; omega) (by omega)).trans ((Below.heap_alloc _ _ w.heap.size (by simp; omega)).trans (heap6 HB3.out _ _ _ _ _ _))
        obtain ⟨⟨m0, m1, m2, m3, m4, m5⟩, _⟩ := cells_six hb4
        refine ⟨.tuple #[.agg #[.int .i64 0, .bool false, .int .i64 0, .string ⟨#[]⟩, .slice none 0 0, .slice none 0 0], .int .i64 21], ?_, plain_bad_fin HPL.out (((mut6 w.heap.size _ _ _ _ _ _ hm03 (Nat.le_refl _)).alloc (by simp; omega) _).trans (hm4.mono (by simp; omega))) hr4⟩
        simp [results, Tryz.results29, go_sem, m0, m1, m2, m3, m4, m5]
end Go.Proofs.YtfjdeacpdcnjpaaGreatDoor.V
