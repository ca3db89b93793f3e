/- The law ValueDeep's walk. -/
import Derived.Test.YtfjdeacpdcnjpaaDoorVChain
import Derived.Test.YtfjdeacpdcnjpaaDoorVAgain
namespace Go.Proofs.YtfjdeacpdcnjpaaDoor.V
open Go.RowKit
open Go.Lib

theorem app_bytes (a b : List UInt8) : (⟨a.toArray⟩ : ByteArray) ++ (⟨b.toArray⟩ : ByteArray) = ⟨(a ++ b).toArray⟩ := by
  apply ByteArray.ext
  simp
/-- The block of a chain that grows. -/
def Chain (bv : Nat) (bs : List Bool) (w0 w : World) : Prop :=
  ∃ so on n t l ks a1 c1 a2 c2, chainV bs = .mk so on n t l ks ∧ w.heap[bv]? = some (.cells #[.int .i64 so, .bool on, .int .i64 n, .string ⟨t.toArray⟩, .slice a1 l.length c1, .slice a2 ks.length c2] 34 (0, 0)) ∧
    ValIn w (fun g => bv < g) (.mk so on n t l ks) (.slice a1 l.length c1) (.slice a2 ks.length c2) ∧ Below bv w0 w

theorem six_put {W : World} {b : Nat} {t : TypeId} {y0 y1 y2 y3 y4 y5 : Value} (h : W.heap[b]? = some (.cells #[y0, y1, y2, y3, y4, y5] t (0, 0))) (x0 x1 x2 x3 x4 x5 : Value) :
    ((((((W.setCell ⟨b, 0, none⟩ x0).setCell ⟨b, 1, none⟩ x1).setCell ⟨b, 2, none⟩ x2).setCell ⟨b, 3, none⟩ x3).setCell ⟨b, 4, none⟩ x4).setCell ⟨b, 5, none⟩ x5).heap[b]? = some (.cells #[x0, x1, x2, x3, x4, x5] t (0, 0)) ∧
    ∀ k, k ≠ b → ((((((W.setCell ⟨b, 0, none⟩ x0).setCell ⟨b, 1, none⟩ x1).setCell ⟨b, 2, none⟩ x2).setCell ⟨b, 3, none⟩ x3).setCell ⟨b, 4, none⟩ x4).setCell ⟨b, 5, none⟩ x5).heap[k]? = W.heap[k]? := by
  constructor
  · have h0 := Go.Joins.block_setCell h (i := 0) x0
    have h1 := Go.Joins.block_setCell h0 (i := 1) x1
    have h2 := Go.Joins.block_setCell h1 (i := 2) x2
    have h3 := Go.Joins.block_setCell h2 (i := 3) x3
    have h4 := Go.Joins.block_setCell h3 (i := 4) x4
    exact Go.Joins.block_setCell h4 (i := 5) x5
  · intro k hk
    rw [Below.heap_setCell _ _ _ _ hk, Below.heap_setCell _ _ _ _ hk, Below.heap_setCell _ _ _ _ hk, Below.heap_setCell _ _ _ _ hk, Below.heap_setCell _ _ _ _ hk, Below.heap_setCell _ _ _ _ hk]

/-- A part more about a value: how it lies. -/
theorem wraps {bv g1 : Nat} {W W3 : World} {so n : Int} {on : Bool} {t : List UInt8} {l : List Val} {ks : List (List UInt8)} {a1 a2 : Option Addr} {c1 c2 : Nat} {so' : Int} {ks' : List (List UInt8)} {a' : Option Addr} {c' : Nat}
    (hv : ValIn W (fun g => bv < g) (.mk so on n t l ks) (.slice a1 l.length c1) (.slice a2 ks.length c2)) (hg : bv < g1)
    (h1 : W3.heap[g1]? = some (.cells #[.int .i64 so, .bool on, .int .i64 n, .string ⟨t.toArray⟩, .slice a1 l.length c1, .slice a2 ks.length c2] 34 (0, 0)))
    (hs : ∀ g, bv < g → g < W.heap.size → W3.heap[g]? = W.heap[g]?) (hk : KeysIn W3 (fun g => bv < g) ks' (.slice a' ks'.length c')) :
    ValIn W3 (fun g => bv < g) (.mk so' false 0 [] [.mk so on n t l ks] ks') (.slice (some ⟨g1, 0, none⟩) [Val.mk so on n t l ks].length 1) (.slice a' ks'.length c') := by
  refine ⟨⟨some ⟨g1, 0, none⟩, 1, rfl, .inr ⟨g1, 0, six' (.mk so on n t l ks) (.slice a1 l.length c1) (.slice a2 ks.length c2), rfl, hg, ?_, ?_⟩⟩, hk⟩
  · intro j u hj
    rw [Nat.zero_add]
    have hj6 : j < 6 := by
      have := (List.getElem?_eq_some_iff.1 hj).1
      rw [six_length] at this
      exact this
    unfold World.cell?
    rw [h1]
    have hc : j = 0 ∨ j = 1 ∨ j = 2 ∨ j = 3 ∨ j = 4 ∨ j = 5 := by omega
    rcases hc with rfl | rfl | rfl | rfl | rfl | rfl <;> exact hj
  · exact ⟨.slice a1 l.length c1, .slice a2 ks.length c2, [], by simp, hv.later (fun g hg hlt => hs g hg hlt) (fun _ h => h) _ _ _, rfl⟩

theorem text_rec (bs : List Bool) : (⟨#[123, 34, 107, 34, 58]⟩ : ByteArray) ++ (⟨(chainT bs).toArray⟩ : ByteArray) ++ (⟨#[125]⟩ : ByteArray) = ⟨(chainT (true :: bs)).toArray⟩ := by
  have h1 := app_bytes [123, 34, 107, 34, 58] (chainT bs)
  have h2 := app_bytes ([123, 34, 107, 34, 58] ++ chainT bs) [125]
  rw [← h1] at h2
  exact h2
theorem text_list (bs : List Bool) : (⟨#[91]⟩ : ByteArray) ++ (⟨(chainT bs).toArray⟩ : ByteArray) ++ (⟨#[93]⟩ : ByteArray) = ⟨(chainT (false :: bs)).toArray⟩ := by
  have h1 := app_bytes [91] (chainT bs)
  have h2 := app_bytes ([91] ++ chainT bs) [93]
  rw [← h1] at h2
  exact h2
theorem keys_new (W : World) (o2 : Obj) {W3 : World} {bv : Nat} (h2 : ∀ k, k ≠ bv → W3.heap[k]? = ((W.alloc (.cells #[.string ⟨#[107]⟩] 9)).alloc o2).heap[k]?) (hbv : bv < W.heap.size) :
    KeysIn W3 (fun g => bv < g) [[107]] (.slice (some ⟨W.heap.size, 0, none⟩) [[(107 : UInt8)]].length 1) := by
  refine ⟨some ⟨W.heap.size, 0, none⟩, 1, rfl, .inr ⟨W.heap.size, 0, rfl, hbv, fun j u hj => ?_⟩⟩
  have h := (h2 W.heap.size (by omega)).trans (two W (.cells #[.string ⟨#[107]⟩] 9) o2).1
  have hj0 : j = 0 := by
    have := (List.getElem?_eq_some_iff.1 hj).1
    simp at this
    omega
  subst hj0
  unfold World.cell?
  rw [h]
  exact hj

set_option maxRecDepth 20000 in
set_option maxHeartbeats 8000000 in
theorem deep_walk (n how : Int) (w : World) (hE : EnvW w) :
    Calls Tryd.prog 5 #[.int .i64 n, .int .i64 how] w fun e w' => e = .returned (.bool true) ∧ Below w.heap.size w w' := by
  obtain ⟨k, hk, hk32⟩ : ∃ k : Nat, bits .and .i64 n 31 = k ∧ k < 32 := ⟨(n % 32).toNat, by rw [i64_and31]; omega, by omega⟩
  have HE := Lib.hid hE
  clear hE
  have HC0 : Hid (Chain w.heap.size [] w (w.alloc (.cells #[.int .i64 0, .bool false, .int .i64 0, .string ⟨#[]⟩, .slice none 0 0, .slice none 0 0] 34))) :=
    Lib.hid ⟨0, false, 0, [], [], [], none, 0, none, 0, rfl, heap_alloc_new w _, ⟨⟨none, 0, rfl, .inl rfl⟩, ⟨none, 0, rfl, .inl rfl⟩⟩, (Below.refl _ _).alloc (Nat.le_refl _) _⟩
  go_enter Tryd.func5, Tryd.ntmps5
  go_wp2_with fail
  go_loopw [6, 8] (fun sv iv wr => ∃ (i : Nat) (bs : List Bool), iv = .int .i64 i ∧ sv = .string ⟨(chainT bs).toArray⟩ ∧ i ≤ k ∧ bs.length = i ∧ Hid (Chain w.heap.size bs w wr)) (fun _ iv _ => k - (Go.RowKit.intOf iv).toNat)
  case atStart => exact ⟨0, [], rfl, rfl, by omega, rfl, HC0⟩
  case round =>
    obtain ⟨i, bs, rfl, rfl, hi, hbs, HC⟩ := hrel
    obtain ⟨so, on, n1, t, l, ks, a1, c1, a2, c2, hch, hblk, hv, hbel⟩ := HC.out
    by_cases hlt : i < k
    · obtain ⟨m7, hm7, hm8⟩ : ∃ m7 : Nat, bits .and .i64 (i : Int) 7 = m7 ∧ m7 < 8 := ⟨i % 8, by rw [i64_and7]; omega, by omega⟩
      have HBLK := Lib.hid hblk
      have HV := Lib.hid hv
      have HBEL := Lib.hid hbel
      have HCH := Lib.hid hch
      have hll := chainT_length bs
      have hls : (⟨(chainT bs).toArray⟩ : ByteArray).size = (chainT bs).length := rfl
      have hbvl : w.heap.size < wr.heap.size := (Array.getElem?_eq_some_iff.1 hblk).1
      have HBLT := Lib.hid hbvl
      clear hblk hv hbel hch HC0
      cases hbit : (bits BinOp.and IntKind.i64 (how / 2 ^ m7) 1 == 1) with
      | true =>
        obtain ⟨⟨k0, k1, k2, k3, k4, k5⟩, kf⟩ := cells_six HBLK.out
        obtain ⟨hp1, hp2⟩ := six_put HBLK.out (.int .i64 5) (.bool false) (.int .i64 0) (.string ⟨#[]⟩) (.slice (some ⟨wr.heap.size + 1, 0, none⟩) 1 1) (.slice (some ⟨wr.heap.size, 0, none⟩) 1 1)
        obtain ⟨w6, hw6⟩ : ∃ w6, ((((((wr.setCell ⟨w.heap.size, 0, none⟩ (.int .i64 5)).setCell ⟨w.heap.size, 1, none⟩ (.bool false)).setCell ⟨w.heap.size, 2, none⟩ (.int .i64 0)).setCell ⟨w.heap.size, 3, none⟩ (.string ⟨#[]⟩)).setCell ⟨w.heap.size, 4, none⟩ (.slice (some ⟨wr.heap.size + 1, 0, none⟩) 1 1)).setCell ⟨w.heap.size, 5, none⟩ (.slice (some ⟨wr.heap.size, 0, none⟩) 1 1)) = w6 := ⟨_, rfl⟩
        have hz6 : w6.heap.size = wr.heap.size := by rw [← hw6]; simp
        have hmb : Below w.heap.size wr w6 := by rw [← hw6]; exact (mut6 (d := w.heap.size) w.heap.size _ _ _ _ _ _ (Mut.refl _ _ _) (Nat.le_refl _)).below (Nat.le_refl _)
        have HMB := Lib.hid hmb
        rw [hw6] at hp1 hp2
        have HP1 := Lib.hid hp1
        have HP2 := Lib.hid hp2
        have HZ6 := Lib.hid hz6
        clear hp1 hp2 hz6 hmb
        go_wp2_with fail
        go_roundw
        case rel =>
          refine ⟨i + 1, true :: bs, by go_num, by rw [text_rec], by omega, by rw [List.length_cons, hbs], Lib.hid ?_⟩
          have hlt6 : w.heap.size < w6.heap.size := by rw [HZ6.out]; exact HBLT.out
          have ht := two w6 (.cells #[.string ⟨#[107]⟩] 9) (.cells #[.int .i64 so, .bool on, .int .i64 n1, .string ⟨t.toArray⟩, .slice a1 l.length c1, .slice a2 ks.length c2] 34)
          have hn1 := ht.2.1
          rw [HZ6.out] at hn1
          have hk := keys_new w6 (.cells #[.int .i64 so, .bool on, .int .i64 n1, .string ⟨t.toArray⟩, .slice a1 l.length c1, .slice a2 ks.length c2] 34) (bv := w.heap.size) (fun _ _ => rfl) hlt6
          rw [HZ6.out] at hk
          refine ⟨5, false, 0, [], [.mk so on n1 t l ks], [[107]], some ⟨wr.heap.size + 1, 0, none⟩, 1, some ⟨wr.heap.size, 0, none⟩, 1, by show chainV (true :: bs) = _; rw [← HCH.out]; rfl, (ht.2.2.1.block _ hlt6).trans HP1.out, ?_, ?_⟩
          · exact wraps HV.out (by have := HBLT.out; omega) hn1 (fun g hg hlt2 => (ht.2.2.1.block g (by rw [HZ6.out]; exact hlt2)).trans (HP2.out g (by omega))) hk
          · exact HBEL.out.trans (HMB.out.trans (ht.2.2.1.mono (Nat.le_of_lt hlt6)))
        case measure => simp [Go.RowKit.intOf]; omega
      | false =>
        obtain ⟨⟨k0, k1, k2, k3, k4, k5⟩, kf⟩ := cells_six HBLK.out
        obtain ⟨hp1, hp2⟩ := six_put HBLK.out (.int .i64 4) (.bool false) (.int .i64 0) (.string ⟨#[]⟩) (.slice (some ⟨wr.heap.size, 0, none⟩) 1 1) (.slice none 0 0)
        obtain ⟨w6, hw6⟩ : ∃ w6, ((((((wr.setCell ⟨w.heap.size, 0, none⟩ (.int .i64 4)).setCell ⟨w.heap.size, 1, none⟩ (.bool false)).setCell ⟨w.heap.size, 2, none⟩ (.int .i64 0)).setCell ⟨w.heap.size, 3, none⟩ (.string ⟨#[]⟩)).setCell ⟨w.heap.size, 4, none⟩ (.slice (some ⟨wr.heap.size, 0, none⟩) 1 1)).setCell ⟨w.heap.size, 5, none⟩ (.slice none 0 0)) = w6 := ⟨_, rfl⟩
        have hz6 : w6.heap.size = wr.heap.size := by rw [← hw6]; simp
        have hmb : Below w.heap.size wr w6 := by rw [← hw6]; exact (mut6 (d := w.heap.size) w.heap.size _ _ _ _ _ _ (Mut.refl _ _ _) (Nat.le_refl _)).below (Nat.le_refl _)
        have HMB := Lib.hid hmb
        rw [hw6] at hp1 hp2
        have HP1 := Lib.hid hp1
        have HP2 := Lib.hid hp2
        have HZ6 := Lib.hid hz6
        clear hp1 hp2 hz6 hmb
        go_wp2_with fail
        go_roundw
        case rel =>
          refine ⟨i + 1, false :: bs, by go_num, by rw [text_list], by omega, by rw [List.length_cons, hbs], Lib.hid ?_⟩
          have hlt6 : w.heap.size < w6.heap.size := by rw [HZ6.out]; exact HBLT.out
          have hn1 := heap_alloc_new w6 (.cells #[.int .i64 so, .bool on, .int .i64 n1, .string ⟨t.toArray⟩, .slice a1 l.length c1, .slice a2 ks.length c2] 34)
          rw [HZ6.out] at hn1
          have hold : Below w6.heap.size w6 (w6.alloc (.cells #[.int .i64 so, .bool on, .int .i64 n1, .string ⟨t.toArray⟩, .slice a1 l.length c1, .slice a2 ks.length c2] 34)) := (Below.refl _ _).alloc (Nat.le_refl _) _
          refine ⟨4, false, 0, [], [.mk so on n1 t l ks], [], some ⟨wr.heap.size, 0, none⟩, 1, none, 0, by show chainV (false :: bs) = _; rw [← HCH.out]; rfl, (hold.block _ hlt6).trans HP1.out, ?_, ?_⟩
          · exact wraps HV.out HBLT.out hn1 (fun g hg hlt2 => (hold.block g (by rw [HZ6.out]; exact hlt2)).trans (HP2.out g (by omega))) ⟨none, 0, rfl, .inl rfl⟩
          · exact HBEL.out.trans (HMB.out.trans (hold.mono (Nat.le_of_lt hlt6)))
        case measure => simp [Go.RowKit.intOf]; omega
    · have hik : i = k := by omega
      have hrd := chain_readB bs
      have hwr := chain_write bs
      have htop := chain_top bs
      have hwt := chain_wt bs
      have hrp := chain_right bs
      rw [hch] at hwr htop hwt hrd hrp
      have hwl := write_le _ hrp
      have hll := chainT_length bs
      have hbvl : w.heap.size < wr.heap.size := (Array.getElem?_eq_some_iff.1 hblk).1
      have hEr : EnvW wr := HE.out.later hbel
      obtain ⟨S, hS⟩ : ∃ S : ByteArray, (⟨(chainT bs).toArray⟩ : ByteArray) = S := ⟨_, rfl⟩
      have hSs : S.size = (chainT bs).length := by rw [← hS]; rfl
      rw [hS] at hrd
      have hSw : (⟨(write (.mk so on n1 t l ks)).toArray⟩ : ByteArray) = S := by rw [hwr, hS]
      have HBEL := Lib.hid hbel
      have HBLK := Lib.hid hblk
      have HV := Lib.hid hv
      have HRT := Lib.hid (fun W R a1 a2 c1 c2 h h2 => htop ▸ @right_v2 so n1 on t l ks W R (by omega) a1 a2 c1 c2 h h2)
      rw [hS]
      by_cases h20 : k ≤ 20
      · have hb20 : bs.length ≤ 20 := by omega
        rw [if_pos hb20] at hrd
        rw [decide_eq_true hb20] at htop
        have cR := read_v hrd (by omega) wr hEr
        have HW := Lib.hid (fun W R a1 a2 c1 c2 h h2 => hSw ▸ @write_v2 so n1 on t l ks htop (by omega) W R a1 a2 c1 c2 h h2)
        have HS := Lib.hid (@same_v2 so n1 on t l ks (by omega))
        generalize l.length = m1 at *
        generalize ks.length = m2 at *
        clear hrd hwr htop hwt hrp hwl hll hEr hS hSs hSw hch hblk hv hbel HRT HC HC0 hbs
        go_wp2_with fail
        refine cR.mono ?_
        rintro e w2 ⟨hb2, e1, f1, e2, f2, rfl, hu2⟩
        have hz2 := hb2.size
        have HBLK2 := Lib.hid ((hb2.block w.heap.size hbvl).trans HBLK.out)
        have HV2 := Lib.hid (val_below HV.out hb2)
        have HU2 := Lib.hid hu2
        have HB2 := Lib.hid (HBEL.out.trans (hb2.mono (by omega)))
        obtain ⟨⟨k0, k1, k2, k3, k4, k5⟩, kf⟩ := cells_six ((Below.heap_alloc w2 (.cells #[.int .i64 so, .bool on, .int .i64 n1, .string ⟨t.toArray⟩, .slice e1 m1 f1, .slice e2 m2 f2] 34) w.heap.size (by omega)).trans HBLK2.out)
        clear cR hb2 hu2
        go_wp2_with fail
        have hal : Below w2.heap.size w2 (w2.alloc (.cells #[.int .i64 so, .bool on, .int .i64 n1, .string ⟨t.toArray⟩, .slice e1 m1 f1, .slice e2 m2 f2] 34)) := (Below.refl _ _).alloc (Nat.le_refl _) _
        refine (HW.out _ _ _ _ _ _ (val_below HV2.out hal) (HE.out.later (HB2.out.trans (hal.mono HB2.out.size)))).mono ?_
        rintro e w3 ⟨rfl, hb3⟩
        have hw23 : Below w2.heap.size w2 w3 := hal.trans (hb3.mono (by simp))
        have HBLK3 := Lib.hid ((hw23.block w.heap.size (by omega)).trans HBLK2.out)
        have HNEW3 := Lib.hid ((hb3.block w2.heap.size (by simp)).trans (heap_alloc_new w2 _))
        have HV3 := Lib.hid (val_below HV2.out hw23)
        have HU3 := Lib.hid (val_below HU2.out hw23)
        have HB3 := Lib.hid (HB2.out.trans (hw23.mono HB2.out.size))
        have hz3 := hb3.size
        simp only [World.size_alloc] at hz3
        clear k0 k1 k2 k3 k4 k5 kf hal hb3 hw23
        go_wp2_with fail
        refine (alive_any w3 (HE.out.later HB3.out)).mono ?_
        rintro e w4 ⟨rfl, hb4⟩
        have hblk4 := (hb4.block w.heap.size (by omega)).trans HBLK3.out
        have hnew4 := (hb4.block w2.heap.size (by omega)).trans HNEW3.out
        have HV4 := Lib.hid (val_below HV3.out hb4)
        have HU4 := Lib.hid (val_below HU3.out hb4)
        have HB4 := Lib.hid (HB3.out.trans (hb4.mono HB3.out.size))
        obtain ⟨⟨k0, k1, k2, k3, k4, k5⟩, kf⟩ := cells_six hblk4
        obtain ⟨⟨j0, j1, j2, j3, j4, j5⟩, jf⟩ := cells_six hnew4
        clear hb4 hblk4 hnew4
        go_wp2_with fail
        refine (HS.out _ _ _ _ _ _ _ _ _ _ _ HU4.out HV4.out).mono ?_
        rintro e w5 ⟨rfl, hb5⟩
        have HB5 := Lib.hid (HB4.out.trans (hb5.mono HB4.out.size))
        clear k0 k1 k2 k3 k4 k5 kf j0 j1 j2 j3 j4 j5 jf hb5
        go_wp2_with fail
        go_ret
        exact ⟨rfl, HB5.out⟩
      · have hb20 : ¬ bs.length ≤ 20 := by omega
        rw [if_neg hb20] at hrd
        rw [decide_eq_false hb20] at htop HRT
        have cR := read_any S wr (by omega) hEr
        rw [hrd] at cR
        have HW : Hid (∀ W R a1 a2 c1 c2, ValIn W R (.mk so on n1 t l ks) (.slice a1 l.length c1) (.slice a2 ks.length c2) → EnvW W →
            Calls Tryd.prog 8 #[.agg #[.int .i64 so, .bool on, .int .i64 n1, .string ⟨t.toArray⟩, .slice a1 l.length c1, .slice a2 ks.length c2]] W fun e w' => e = .returned (.tuple #[.string ⟨#[]⟩, .int .i64 21]) ∧ Below W.heap.size W w') := Lib.hid (fun W R a1 a2 c1 c2 h h2 => by
          refine (write_top so on n1 t l ks _ _ R W h (by omega) (by omega) h2).mono ?_
          rintro e w' ⟨h1, h3⟩
          rw [htop, if_neg (by decide)] at h3
          exact ⟨h3, h1⟩)
        generalize l.length = m1 at *
        generalize ks.length = m2 at *
        have h21 : 20 < k := by omega
        clear hrd hwr htop hwt hrp hwl hll hEr hS hSs hSw hch hblk hv hbel HC HC0 hbs
        go_wp2_with fail
        refine cR.mono ?_
        rintro e w2 ⟨hb2, rfl⟩
        have hz2 := hb2.size
        have HBLK2 := Lib.hid ((hb2.block w.heap.size hbvl).trans HBLK.out)
        have HV2 := Lib.hid (val_below HV.out hb2)
        have HB2 := Lib.hid (HBEL.out.trans (hb2.mono (by omega)))
        obtain ⟨⟨k0, k1, k2, k3, k4, k5⟩, kf⟩ := cells_six ((Below.heap_alloc w2 (.cells #[.int .i64 0, .bool false, .int .i64 0, .string ⟨#[]⟩, .slice none 0 0, .slice none 0 0] 34) w.heap.size (by omega)).trans HBLK2.out)
        clear cR hb2
        simp only [six, strCell]
        go_wp2_with fail
        have hal : Below w2.heap.size w2 (w2.alloc (.cells #[.int .i64 0, .bool false, .int .i64 0, .string ⟨#[]⟩, .slice none 0 0, .slice none 0 0] 34)) := (Below.refl _ _).alloc (Nat.le_refl _) _
        refine (HW.out _ _ _ _ _ _ (val_below HV2.out hal) (HE.out.later (HB2.out.trans (hal.mono HB2.out.size)))).mono ?_
        rintro e w3 ⟨rfl, hb3⟩
        have hw23 : Below w2.heap.size w2 w3 := hal.trans (hb3.mono (by simp))
        have HBLK3 := Lib.hid ((hw23.block w.heap.size (by omega)).trans HBLK2.out)
        have HV3 := Lib.hid (val_below HV2.out hw23)
        have HB3 := Lib.hid (HB2.out.trans (hw23.mono HB2.out.size))
        have hz3 := hw23.size
        clear k0 k1 k2 k3 k4 k5 kf hal hb3 hw23
        go_wp2_with fail
        refine (alive_any w3 (HE.out.later HB3.out)).mono ?_
        rintro e w4 ⟨rfl, hb4⟩
        have hblk4 := (hb4.block w.heap.size (by omega)).trans HBLK3.out
        have HV4 := Lib.hid (val_below HV3.out hb4)
        have HB4 := Lib.hid (HB3.out.trans (hb4.mono HB3.out.size))
        obtain ⟨⟨k0, k1, k2, k3, k4, k5⟩, kf⟩ := cells_six hblk4
        clear hb4 hblk4
        go_wp2_with fail
        refine (HRT.out _ _ _ _ _ _ HV4.out (HE.out.later HB4.out)).mono ?_
        rintro e w5 ⟨rfl, hb5⟩
        have HB5 := Lib.hid (HB4.out.trans (hb5.mono HB4.out.size))
        clear k0 k1 k2 k3 k4 k5 kf hb5
        go_wp2_with fail
        go_ret
        exact ⟨rfl, HB5.out⟩
end Go.Proofs.YtfjdeacpdcnjpaaDoor.V
