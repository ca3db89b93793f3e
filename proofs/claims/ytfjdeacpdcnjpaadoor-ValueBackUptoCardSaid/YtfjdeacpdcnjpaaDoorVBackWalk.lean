/- The law ValueBack's walk. -/
import Derived.Test.YtfjdeacpdcnjpaaDoorVOf
import Derived.Test.YtfjdeacpdcnjpaaDoorVAlive
import Derived.Deep.RegionHeld3
import Derived.Deep.DrawnRows
namespace Go.Proofs.YtfjdeacpdcnjpaaDoor.V
open Go.RowKit
open Go.Lib
attribute [local go_sem ↓] Go.wp_at_zero Go.wp_at_succ

mutual
theorem wt_of_size : ∀ v, sizeV v ≤ 400 → wt v = sizeV v
  | .mk so on n t l ks, h => by
    simp only [sizeV] at h ⊢
    have h2 := wt_of_sizeL l _ h
    have e : (ks.map fun k => k.length + 1).sum = sumK ks := rfl
    simp only [wt, e]
    omega
theorem wt_of_sizeL : ∀ (l : List Val) (n : Nat), sizeLs l n ≤ 400 → sizeLs l n = n + wtL l
  | [], n, h => by simp [sizeLs, wtL]
  | v :: r, n, h => by
    simp only [sizeLs] at h ⊢
    by_cases hn : n ≤ 400
    · rw [if_pos hn] at h ⊢
      have h2 := wt_of_sizeL r _ h
      have h1 := wt_of_size v (by omega)
      simp only [wtL]
      omega
    · rw [if_neg hn] at h
      omega
end

set_option maxHeartbeats 2000000 in
theorem write_bad (so : Int) (on : Bool) (n : Int) (t : List UInt8) (l : List Val) (ks : List (List UInt8)) (lv kv : Value) (R : Nat → Prop) (w : World) (hv : ValIn w R (.mk so on n t l ks) lv kv) (hw : wt (.mk so on n t l ks) ≤ 1099511627776) (hr : rightTop (.mk so on n t l ks) = false) (hE : EnvW w) :
    Calls Tryd.prog 8 #[arg (.mk so on n t l ks) lv kv] w fun e w' => e = .returned (.tuple #[.string ⟨#[]⟩, .int .i64 21]) ∧ Below w.heap.size w w' := by
  have cR := fun W (hb : Below w.heap.size w W) => right_top so on n t l ks lv kv R W (hv.later (fun b _ hlt => hb.block b hlt) (fun _ h => h) _ _ _) hw (hE.later hb)
  have hv' := hv
  obtain ⟨⟨a1, c1, rfl, _⟩, ⟨a2, c2, rfl, _⟩⟩ := hv'
  simp only [hr] at cR
  simp only [arg, six', six, strCell] at cR ⊢
  clear hv hw hE hr
  go_enter Tryd.func8, Tryd.ntmps8
  go_wp2_with fail
  refine (cR _ ((Below.refl _ _).alloc (Nat.le_refl _) _)).mono ?_
  rintro e w1 ⟨rfl, hb1⟩
  have HB1 := Lib.hid (((Below.refl w.heap.size w).alloc (Nat.le_refl _) _).trans (hb1.mono (by simp)))
  have hblk := (hb1.block w.heap.size (by simp)).trans (heap_alloc_new w _)
  have hz1 := hb1.size
  simp at hz1
  obtain ⟨⟨k0, k1, k2, k3, k4, k5⟩, kf⟩ := cells_six ((Below.heap_alloc w1 (.cells #[.pointer none, .slice none 0 0] 48) w.heap.size (by omega)).trans hblk)
  have HB2 := Lib.hid (HB1.out.alloc (by omega) (.cells #[.pointer none, .slice none 0 0] 48))
  clear cR hb1 hblk
  go_wp2_with fail
  go_ret2
  exact ⟨rfl, HB1.out⟩

theorem same_rights {v u : Val} (hv : rightTop v = true) (hu : rightTop u = true) (hw : wt v ≤ 65536) : sameTop v u = decide (write v = write u) := by
  unfold sameTop
  rw [nestP_wt _ _ hw, Bool.true_and]
  by_cases h : write v = write u
  · have h1 := readB_write v hv
    have h2 := readB_write u hu
    rw [h, h2] at h1
    have h3 : u = v := by injection h1
    rw [decide_eq_true h, h3, sameP_self]
  · rw [decide_eq_false h]
    cases hs : sameP v u with
    | false => rfl
    | true => exact absurd (by rw [(sameP_iff v u).1 hs]) h

theorem bytes_ne {a b : ByteArray} (h : a ≠ b) : (a.toList == b.toList) = false := by
  refine beq_eq_false_iff_ne.2 fun e => h ?_
  rw [ByteArray.toList_eq, ByteArray.toList_eq] at e
  obtain ⟨x⟩ := a
  obtain ⟨y⟩ := b
  have e2 : x = y := Array.toList_inj.1 e
  rw [e2]

section
variable {so n so' n' : Int} {on on' : Bool} {t t' : List UInt8} {l l' : List Val} {ks ks' : List (List UInt8)}

theorem val_here {W : World} {v : Val} {lv kv : Value} (h : ValIn W (fun _ => True) v lv kv) : ValIn W (fun g => g < W.heap.size) v lv kv := (ValIn.bound _ _ _ h).later (fun _ _ _ => rfl) (fun _ h => h.2) _ _ _

/-- Of, in handy form. -/
theorem of_v2 {v : Val} {lv kv : Value} {w1 : World} (h : ValIn w1 (fun _ => True) v lv kv) (hw : wt v ≤ 1099511627776) (W : World) (hb : Below w1.heap.size w1 W) :
    Calls Tryd.prog 9 #[arg v lv kv] W fun e w' => Below W.heap.size W w' ∧ ∃ lv', e = .returned (arg v lv' kv) ∧ ValIn w' (fun _ => True) v lv' kv := by
  refine (of_v v lv kv W.heap.size W (val_here (val_below h hb)) (Nat.le_refl _) hw).mono ?_
  rintro e w' ⟨h1, lv', h2, h3⟩
  exact ⟨h1, lv', h2, h3.later (fun _ _ _ => rfl) (fun _ _ => trivial) _ _ _⟩
end

set_option maxRecDepth 20000 in
set_option maxHeartbeats 4000000 in
theorem back_long (v u : Val) (lv kv lu ku : Value) (w : World) (hv : ValIn w (fun _ => True) v lv kv) (hu : ValIn w (fun _ => True) u lu ku) (hwv : wt v ≤ 1099511627776) (hwu : wt u ≤ 1099511627776)
    (hbig : 400 < sizeV v ∨ 400 < sizeV u) (hE : EnvW w) :
    Calls Tryd.prog 3 #[arg v lv kv, arg u lu ku] w fun e w' => e = .returned (.bool true) ∧ Below w.heap.size w w' := by
  have cV := fun W (hb : Below w.heap.size w W) => size_v v lv kv _ W (val_below hv hb) hwv
  have cU := fun W (hb : Below w.heap.size w W) => size_v u lu ku _ W (val_below hu hb) hwu
  have cA := fun W (hb : Below w.heap.size w W) => alive_any W (hE.later hb)
  have hzv := sizeV_le v
  have hzu := sizeV_le u
  have hv' := hv
  have hu' := hu
  obtain ⟨so, on, n, t, l, ks⟩ := v
  obtain ⟨so', on', n', t', l', ks'⟩ := u
  obtain ⟨⟨a1, c1, rfl, _⟩, ⟨a2, c2, rfl, _⟩⟩ := hv'
  obtain ⟨⟨b1, d1, rfl, _⟩, ⟨b2, d2, rfl, _⟩⟩ := hu'
  generalize sizeV (.mk so on n t l ks) = z1 at *
  generalize sizeV (.mk so' on' n' t' l' ks') = z2 at *
  have hz1 : z1 ≤ 1099511627776 := by omega
  have hz2 : z2 ≤ 1099511627776 := by omega
  simp only [arg, six', six, strCell] at cV cU ⊢
  generalize l.length = m1 at *
  generalize ks.length = m2 at *
  generalize l'.length = m3 at *
  generalize ks'.length = m4 at *
  have CV := Lib.hid cV
  have CU := Lib.hid cU
  have CA := Lib.hid cA
  clear hv hu hE hwv hwu hzv hzu cV cU cA
  go_enter Tryd.func3, Tryd.ntmps3
  go_wp2_with fail
  obtain ⟨h1, h2, hb0, hz⟩ := two w (.cells #[.int .i64 so, .bool on, .int .i64 n, .string ⟨t.toArray⟩, .slice a1 m1 c1, .slice a2 m2 c2] 26) (.cells #[.int .i64 so', .bool on', .int .i64 n', .string ⟨t'.toArray⟩, .slice b1 m3 d1, .slice b2 m4 d2] 26)
  generalize (w.alloc (.cells #[.int .i64 so, .bool on, .int .i64 n, .string ⟨t.toArray⟩, .slice a1 m1 c1, .slice a2 m2 c2] 26)).alloc (.cells #[.int .i64 so', .bool on', .int .i64 n', .string ⟨t'.toArray⟩, .slice b1 m3 d1, .slice b2 m4 d2] 26) = w1 at *
  refine (CV.out _ hb0).mono ?_
  rintro e w2 ⟨rfl, hb2⟩
  have hbs2 : Below w.heap.size w w2 := hb0.trans (hb2.mono (by omega))
  obtain ⟨⟨k0, k1, k2, k3, k4, k5⟩, kf⟩ := cells_six ((hb2.block _ (by omega)).trans h2)
  have HB2 := Lib.hid hbs2
  clear hb0 hb2 h1 h2 hbs2
  by_cases hg : 400 < z1
  · go_wp2_with fail
    refine (CA.out _ HB2.out).mono ?_
    rintro e w3 ⟨rfl, hb3⟩
    have HB3 := Lib.hid (HB2.out.trans (hb3.mono HB2.out.size))
    clear hb3
    go_wp2_with fail
    go_ret
    exact ⟨rfl, HB3.out⟩
  · have hg2 : 400 < z2 := by omega
    go_wp2_with fail
    refine (CU.out _ HB2.out).mono ?_
    rintro e w3 ⟨rfl, hb3⟩
    have HB3 := Lib.hid (HB2.out.trans (hb3.mono HB2.out.size))
    clear hb3
    go_wp2_with fail
    refine (CA.out _ HB3.out).mono ?_
    rintro e w4 ⟨rfl, hb4⟩
    have HB4 := Lib.hid (HB3.out.trans (hb4.mono HB3.out.size))
    clear hb4
    go_wp2_with fail
    go_ret
    exact ⟨rfl, HB4.out⟩

/-- Write, at a value of little weight. -/
theorem write_some (v : Val) (hw : wt v ≤ 65536) : ∃ (S : ByteArray) (E : Int), (E = 0 → rightTop v = true ∧ S = ⟨(write v).toArray⟩) ∧ (rightTop v = true → E = 0) ∧
    ∀ W lv kv, ValIn W (fun _ => True) v lv kv → EnvW W → Calls Tryd.prog 8 #[arg v lv kv] W fun e w' => e = .returned (.tuple #[.string S, .int .i64 E]) ∧ Below W.heap.size W w' := by
  obtain ⟨so, on, n, t, l, ks⟩ := v
  cases hr : rightTop (.mk so on n t l ks) with
  | true =>
    refine ⟨⟨(write (.mk so on n t l ks)).toArray⟩, 0, fun _ => ⟨rfl, rfl⟩, fun _ => rfl, fun W lv kv h hE => ?_⟩
    have hrp : rightP (.mk so on n t l ks) = true := by simp only [rightTop, Bool.and_eq_true] at hr; exact hr.2
    have hl := write_le _ hrp
    refine (write_top so on n t l ks _ _ _ W h (by omega) (by omega) hE).mono ?_
    rintro e w' ⟨h1, h2⟩
    rw [hr, if_pos rfl] at h2
    exact ⟨h2, h1⟩
  | false =>
    exact ⟨⟨#[]⟩, 21, fun h => absurd h (by omega), (fun h => by cases h), fun W lv kv h hE => write_bad so on n t l ks lv kv _ W h (by omega) hr hE⟩

set_option maxRecDepth 20000 in
set_option maxHeartbeats 8000000 in
theorem back_short (v u : Val) (lv kv lu ku : Value) (w : World) (hv : ValIn w (fun _ => True) v lv kv) (hu : ValIn w (fun _ => True) u lu ku) (hsv : sizeV v ≤ 400) (hsu : sizeV u ≤ 400) (hE : EnvW w) :
    Calls Tryd.prog 3 #[arg v lv kv, arg u lu ku] w fun e w' => e = .returned (.bool true) ∧ Below w.heap.size w w' := by
  have hwv := wt_of_size v hsv
  have hwu := wt_of_size u hsu
  obtain ⟨S1, E1, hE1, hE1', cW1⟩ := write_some v (by omega)
  obtain ⟨S2, E2, hE2, hE2', cW2⟩ := write_some u (by omega)
  have cV := fun W (hb : Below w.heap.size w W) => size_v v lv kv _ W (val_below hv hb) (by omega)
  have cU := fun W (hb : Below w.heap.size w W) => size_v u lu ku _ W (val_below hu hb) (by omega)
  have cA := fun W (hb : Below w.heap.size w W) => alive_any W (hE.later hb)
  have cOv : ∀ W, Below w.heap.size w W → Calls Tryd.prog 9 #[arg v lv kv] W fun e w' => ∃ lv', e = .returned (arg v lv' kv) ∧ Hid (Below W.heap.size W w') ∧ Hid (ValIn w' (fun _ => True) v lv' kv) := fun W hb => by
    refine (of_v2 hv (by omega) W hb).mono ?_
    rintro e w' ⟨h1, lv', h2, h3⟩
    exact ⟨lv', h2, Lib.hid h1, Lib.hid h3⟩
  have cOu : ∀ W, Below w.heap.size w W → Calls Tryd.prog 9 #[arg u lu ku] W fun e w' => ∃ lv', e = .returned (arg u lv' ku) ∧ Hid (Below W.heap.size W w') ∧ Hid (ValIn w' (fun _ => True) u lv' ku) := fun W hb => by
    refine (of_v2 hu (by omega) W hb).mono ?_
    rintro e w' ⟨h1, lv', h2, h3⟩
    exact ⟨lv', h2, Lib.hid h1, Lib.hid h3⟩
  obtain ⟨rv, hrv⟩ : ∃ r, rightTop v = r := ⟨_, rfl⟩
  have cR : ∀ W lv' kv', EnvW W → ValIn W (fun _ => True) v lv' kv' → Calls Tryd.prog 10 #[arg v lv' kv'] W fun e w' => e = .returned (.bool rv) ∧ Below W.heap.size W w' := fun W lv' kv' hE' h => by
    rw [← hrv]
    obtain ⟨so, on, n, t, l, ks⟩ := v
    exact right_top so on n t l ks _ _ _ W h (by omega) hE'
  have cS : ∀ W lv1 kv1 lv2 kv2, ValIn W (fun _ => True) v lv1 kv1 → ValIn W (fun _ => True) v lv2 kv2 → Calls Tryd.prog 12 #[arg v lv1 kv1, arg v lv2 kv2] W fun e w' => e = .returned (.bool true) ∧ Below W.heap.size W w' := fun W lv1 kv1 lv2 kv2 h1 h2 => by
    have hsm : sameTop v v = true := by unfold sameTop; rw [nestP_wt _ _ (by omega), sameP_self]; rfl
    obtain ⟨so, on, n, t, l, ks⟩ := v
    have := same_top so so on on n n t t l l ks ks lv1 kv1 lv2 kv2 _ _ W h1 h2 (by omega) (by omega)
    rw [hsm] at this
    exact this
  obtain ⟨sv, hsvu⟩ : ∃ r, sameTop v u = r := ⟨_, rfl⟩
  have cT : ∀ W lv1 kv1 lv2 kv2, ValIn W (fun _ => True) v lv1 kv1 → ValIn W (fun _ => True) u lv2 kv2 → Calls Tryd.prog 12 #[arg v lv1 kv1, arg u lv2 kv2] W fun e w' => e = .returned (.bool sv) ∧ Below W.heap.size W w' := fun W lv1 kv1 lv2 kv2 h1 h2 => by
    rw [← hsvu]
    obtain ⟨so, on, n, t, l, ks⟩ := v
    obtain ⟨so', on', n', t', l', ks'⟩ := u
    exact same_top so so' on on' n n' t t' l l' ks ks' lv1 kv1 lv2 kv2 _ _ W h1 h2 (by omega) (by omega)
  have hlen : rightTop v = true → (write v).length ≤ 40 * 400 := fun hr => by
    have hrp : rightP v = true := by simp only [rightTop, Bool.and_eq_true] at hr; exact hr.2
    have := write_le _ hrp
    omega
  have cD : ∀ W, EnvW W → E1 = 0 → Calls Tryd.prog 11 #[.string S1] W fun e w' => Hid (Below W.heap.size W w') ∧ ∃ lv1 kv1, e = .returned (.tuple #[arg v lv1 kv1, .int .i64 0]) ∧ Hid (ValIn w' (fun _ => True) v lv1 kv1) := fun W hE' h0 => by
    obtain ⟨hr, hS⟩ := hE1 h0
    have hb := readB_write v hr
    rw [← hS] at hb
    have hl := hlen hr
    have hz : S1.size = (write v).length := by rw [hS]; rfl
    have h := read_any S1 W (by omega) hE'
    rw [hb] at h
    refine h.mono ?_
    obtain ⟨so, on, n, t, l, ks⟩ := v
    rintro e w' ⟨h1, lv1, kv1, h2, h3⟩
    exact ⟨Lib.hid h1, lv1, kv1, h2, Lib.hid (h3.later (fun _ _ _ => rfl) (fun _ _ => trivial) _ _ _)⟩
  have hgood : E1 = 0 → E2 = 0 → sv = decide (S1 = S2) := fun h1 h2 => by
    obtain ⟨hr1, hS1⟩ := hE1 h1
    obtain ⟨hr2, hS2⟩ := hE2 h2
    rw [← hsvu, same_rights hr1 hr2 (by omega), hS1, hS2]
    congr 1
    refine propext ⟨fun h => by rw [h], fun h => ?_⟩
    have := congrArg (fun b : ByteArray => b.data.toList) h
    simpa using this
  have hrE : rv = decide (E1 = 0) := by
    rw [← hrv]
    cases hr : rightTop v with
    | true => rw [hE1' hr]; rfl
    | false =>
      have : ¬ E1 = 0 := fun h => by have := (hE1 h).1; rw [hr] at this; cases this
      rw [decide_eq_false this]
  have hv' := hv
  have hu' := hu
  clear hE1 hE1' hE2 hE2' hrv hsvu hlen hwv hwu
  obtain ⟨so, on, n, t, l, ks⟩ := v
  obtain ⟨so', on', n', t', l', ks'⟩ := u
  obtain ⟨⟨a1, c1, rfl, _⟩, ⟨a2, c2, rfl, _⟩⟩ := hv'
  obtain ⟨⟨b1, d1, rfl, _⟩, ⟨b2, d2, rfl, _⟩⟩ := hu'
  generalize sizeV (.mk so on n t l ks) = z1 at *
  generalize sizeV (.mk so' on' n' t' l' ks') = z2 at *
  have cOv2 : ∀ W, Below w.heap.size w W → Calls Tryd.prog 9 #[arg (.mk so on n t l ks) (.slice a1 l.length c1) (.slice a2 ks.length c2)] W fun e w' => ∃ a3 c3, e = .returned (arg (.mk so on n t l ks) (.slice a3 l.length c3) (.slice a2 ks.length c2)) ∧ Hid (Below W.heap.size W w') ∧ Hid (ValIn w' (fun _ => True) (.mk so on n t l ks) (.slice a3 l.length c3) (.slice a2 ks.length c2)) := fun W hb => by
    refine (cOv W hb).mono ?_
    rintro e w' ⟨lv', rfl, h1, h2⟩
    obtain ⟨⟨a3, c3, rfl, _⟩, _⟩ := h2.out
    exact ⟨a3, c3, rfl, h1, h2⟩
  have cOu2 : ∀ W, Below w.heap.size w W → Calls Tryd.prog 9 #[arg (.mk so' on' n' t' l' ks') (.slice b1 l'.length d1) (.slice b2 ks'.length d2)] W fun e w' => ∃ a3 c3, e = .returned (arg (.mk so' on' n' t' l' ks') (.slice a3 l'.length c3) (.slice b2 ks'.length d2)) ∧ Hid (Below W.heap.size W w') ∧ Hid (ValIn w' (fun _ => True) (.mk so' on' n' t' l' ks') (.slice a3 l'.length c3) (.slice b2 ks'.length d2)) := fun W hb => by
    refine (cOu W hb).mono ?_
    rintro e w' ⟨lv', rfl, h1, h2⟩
    obtain ⟨⟨a3, c3, rfl, _⟩, _⟩ := h2.out
    exact ⟨a3, c3, rfl, h1, h2⟩
  have cD2 : ∀ W, EnvW W → E1 = 0 → Calls Tryd.prog 11 #[.string S1] W fun e w' => ∃ a3 c3 a4 c4, e = .returned (.tuple #[arg (.mk so on n t l ks) (.slice a3 l.length c3) (.slice a4 ks.length c4), .int .i64 0]) ∧ Hid (Below W.heap.size W w') ∧ Hid (ValIn w' (fun _ => True) (.mk so on n t l ks) (.slice a3 l.length c3) (.slice a4 ks.length c4)) := fun W hE' h0 => by
    refine (cD W hE' h0).mono ?_
    rintro e w' ⟨h1, lv', kv', rfl, h2⟩
    obtain ⟨⟨a3, c3, rfl, _⟩, ⟨a4, c4, rfl, _⟩⟩ := h2.out
    exact ⟨a3, c3, a4, c4, rfl, h1, h2⟩
  have cW12 := fun W a c a' c' => cW1 W (.slice a l.length c) (.slice a' ks.length c')
  have cW22 := fun W a c a' c' => cW2 W (.slice a l'.length c) (.slice a' ks'.length c')
  have cR2 := fun W a c a' c' => cR W (.slice a l.length c) (.slice a' ks.length c')
  have cS2 := fun W a c a' c' b d b' d' => cS W (.slice a l.length c) (.slice a' ks.length c') (.slice b l.length d) (.slice b' ks.length d')
  have cT2 := fun W a c a' c' b d b' d' => cT W (.slice a l.length c) (.slice a' ks.length c') (.slice b l'.length d) (.slice b' ks'.length d')
  simp only [arg, six', six, strCell] at cV cU cOv2 cOu2 cD2 cW12 cW22 cR2 cS2 cT2 ⊢
  generalize l.length = m1 at *
  generalize ks.length = m2 at *
  generalize l'.length = m3 at *
  generalize ks'.length = m4 at *
  have CV := Lib.hid cV
  have CU := Lib.hid cU
  have CA := Lib.hid cA
  have COV := Lib.hid cOv2
  have COU := Lib.hid cOu2
  have CD := Lib.hid cD2
  have CW1 := Lib.hid cW12
  have CW2 := Lib.hid cW22
  have CR := Lib.hid cR2
  have CS := Lib.hid cS2
  have CT := Lib.hid cT2
  have HE := Lib.hid hE
  have HGOOD := Lib.hid hgood
  have HRE := Lib.hid hrE
  clear hv hu hE cV cU cA cOv cOu cD cW1 cW2 cR cS cT cOv2 cOu2 cD2 cW12 cW22 cR2 cS2 cT2 hgood hrE
  go_enter Tryd.func3, Tryd.ntmps3
  go_wp2_with fail
  obtain ⟨h1, h2, hb0, hz⟩ := two w (.cells #[.int .i64 so, .bool on, .int .i64 n, .string ⟨t.toArray⟩, .slice a1 m1 c1, .slice a2 m2 c2] 26) (.cells #[.int .i64 so', .bool on', .int .i64 n', .string ⟨t'.toArray⟩, .slice b1 m3 d1, .slice b2 m4 d2] 26)
  generalize (w.alloc (.cells #[.int .i64 so, .bool on, .int .i64 n, .string ⟨t.toArray⟩, .slice a1 m1 c1, .slice a2 m2 c2] 26)).alloc (.cells #[.int .i64 so', .bool on', .int .i64 n', .string ⟨t'.toArray⟩, .slice b1 m3 d1, .slice b2 m4 d2] 26) = w1 at *
  refine (CV.out _ hb0).mono ?_
  rintro e w2 ⟨rfl, hb2⟩
  have HX2 := Lib.hid ((hb2.block _ (by omega)).trans h1)
  have HY2 := Lib.hid ((hb2.block _ (by omega)).trans h2)
  have HZ2 := Lib.hid hb2.size
  have HB2 := Lib.hid (hb0.trans (hb2.mono (by omega)))
  obtain ⟨⟨k0, k1, k2, k3, k4, k5⟩, kf⟩ := cells_six HY2.out
  clear hb0 hb2 h1 h2
  go_wp2_with fail
  refine (CU.out _ HB2.out).mono ?_
  rintro e w3 ⟨rfl, hb3⟩
  have hz2 := HZ2.out
  have HX3 := Lib.hid ((hb3.block _ (by omega)).trans HX2.out)
  have HY3 := Lib.hid ((hb3.block _ (by omega)).trans HY2.out)
  have hz3 := hb3.size
  have HB3 := Lib.hid (HB2.out.trans (hb3.mono HB2.out.size))
  clear k0 k1 k2 k3 k4 k5 kf hb3
  obtain ⟨⟨k0, k1, k2, k3, k4, k5⟩, kf⟩ := cells_six HX3.out
  go_wp2_with fail
  refine (COV.out _ HB3.out).mono ?_
  rintro e w4 ⟨a3, c3, rfl, hb4, hv4⟩
  have hz4 := hb4.out.size
  have HX4 := Lib.hid ((hb4.out.block _ (by omega)).trans HX3.out)
  have HY4 := Lib.hid ((hb4.out.block _ (by omega)).trans HY3.out)
  have HB4 := Lib.hid (HB3.out.trans (hb4.out.mono HB3.out.size))
  clear k0 k1 k2 k3 k4 k5 kf hb4
  go_wp2_with fail
  refine (CW1.out _ _ _ _ _ hv4.out (HE.out.later HB4.out)).mono ?_
  rintro e w5 ⟨rfl, hb5⟩
  have hz5 := hb5.size
  have HX5 := Lib.hid ((hb5.block _ (by omega)).trans HX4.out)
  have HY5 := Lib.hid ((hb5.block _ (by omega)).trans HY4.out)
  have HB5 := Lib.hid (HB4.out.trans (hb5.mono HB4.out.size))
  clear hb5
  obtain ⟨⟨k0, k1, k2, k3, k4, k5⟩, kf⟩ := cells_six HY5.out
  go_wp2_with fail
  refine (COU.out _ HB5.out).mono ?_
  rintro e w6 ⟨b3, d3, rfl, hb6, hu6⟩
  have hz6 := hb6.out.size
  have HX6 := Lib.hid ((hb6.out.block _ (by omega)).trans HX5.out)
  have HY6 := Lib.hid ((hb6.out.block _ (by omega)).trans HY5.out)
  have HB6 := Lib.hid (HB5.out.trans (hb6.out.mono HB5.out.size))
  clear k0 k1 k2 k3 k4 k5 kf hb6
  go_wp2_with fail
  refine (CW2.out _ _ _ _ _ hu6.out (HE.out.later HB6.out)).mono ?_
  rintro e w7 ⟨rfl, hb7⟩
  have hz7 := hb7.size
  have HX7 := Lib.hid ((hb7.block _ (by omega)).trans HX6.out)
  have HY7 := Lib.hid ((hb7.block _ (by omega)).trans HY6.out)
  have HB7 := Lib.hid (HB6.out.trans (hb7.mono HB6.out.size))
  clear hb7
  by_cases he1 : E1 = 0
  · subst he1
    by_cases he2 : E2 = 0
    · subst he2
      go_wp2_with fail
      refine (CD.out _ (HE.out.later HB7.out) (by first | trivial | rfl)).mono ?_
      rintro e w8 ⟨x3, y3, x4, y4, rfl, hb8, hv8⟩
      have hz8 := hb8.out.size
      have HX8 := Lib.hid ((hb8.out.block _ (by omega)).trans HX7.out)
      have HY8 := Lib.hid ((hb8.out.block _ (by omega)).trans HY7.out)
      have HB8 := Lib.hid (HB7.out.trans (hb8.out.mono HB7.out.size))
      clear hb8
      go_wp2_with fail
      obtain ⟨w9, hw9⟩ : ∃ w9, w8.alloc (.cells #[.int .i64 so, .bool on, .int .i64 n, .string ⟨t.toArray⟩, .slice x3 m1 y3, .slice x4 m2 y4] 34) = w9 := ⟨_, rfl⟩
      have hb9 : Below w8.heap.size w8 w9 := by rw [← hw9]; exact (Below.refl _ _).alloc (Nat.le_refl _) _
      have hn9 : w9.heap[w8.heap.size]? = some (.cells #[.int .i64 so, .bool on, .int .i64 n, .string ⟨t.toArray⟩, .slice x3 m1 y3, .slice x4 m2 y4] 34 (0, 0)) := by rw [← hw9]; exact heap_alloc_new _ _
      have hz9 : w8.heap.size + 1 = w9.heap.size := by rw [← hw9]; simp
      have hX9 := (hb9.block _ (by omega)).trans HX8.out
      have hY9 := (hb9.block _ (by omega)).trans HY8.out
      have HB9 := Lib.hid (HB8.out.trans (hb9.mono HB8.out.size))
      have HV9 := Lib.hid (val_below hv8.out hb9)
      have hxlt : w.heap.size + 1 < w8.heap.size := by omega
      have CC : Hid (∀ W, Below w9.heap.size w9 W → (fun W => W.cell? ⟨w.heap.size, 0, none⟩ = some (.int .i64 so) ∧ W.cell? ⟨w.heap.size, 1, none⟩ = some (.bool on) ∧ W.cell? ⟨w.heap.size, 2, none⟩ = some (.int .i64 n) ∧ W.cell? ⟨w.heap.size, 3, none⟩ = some (.string ⟨t.toArray⟩) ∧ W.cell? ⟨w.heap.size, 4, none⟩ = some (.slice a1 m1 c1) ∧ W.cell? ⟨w.heap.size, 5, none⟩ = some (.slice a2 m2 c2) ∧ W.cell? ⟨w.heap.size + 1, 0, none⟩ = some (.int .i64 so') ∧ W.cell? ⟨w.heap.size + 1, 1, none⟩ = some (.bool on') ∧ W.cell? ⟨w.heap.size + 1, 2, none⟩ = some (.int .i64 n') ∧ W.cell? ⟨w.heap.size + 1, 3, none⟩ = some (.string ⟨t'.toArray⟩) ∧ W.cell? ⟨w.heap.size + 1, 4, none⟩ = some (.slice b1 m3 d1) ∧ W.cell? ⟨w.heap.size + 1, 5, none⟩ = some (.slice b2 m4 d2) ∧ W.cell? ⟨w8.heap.size, 0, none⟩ = some (.int .i64 so) ∧ W.cell? ⟨w8.heap.size, 1, none⟩ = some (.bool on) ∧ W.cell? ⟨w8.heap.size, 2, none⟩ = some (.int .i64 n) ∧ W.cell? ⟨w8.heap.size, 3, none⟩ = some (.string ⟨t.toArray⟩) ∧ W.cell? ⟨w8.heap.size, 4, none⟩ = some (.slice x3 m1 y3) ∧ W.cell? ⟨w8.heap.size, 5, none⟩ = some (.slice x4 m2 y4) ∧ Below w9.heap.size w9 W) W) := Lib.hid fun W hb => by
        obtain ⟨p0, p1, p2, p3, p4, p5⟩ := (cells_six ((hb.block _ (by omega)).trans hX9)).1
        obtain ⟨q0, q1, q2, q3, q4, q5⟩ := (cells_six ((hb.block _ (by omega)).trans hY9)).1
        obtain ⟨r0, r1, r2, r3, r4, r5⟩ := (cells_six ((hb.block _ (by omega)).trans hn9)).1
        exact ⟨p0, p1, p2, p3, p4, p5, q0, q1, q2, q3, q4, q5, r0, r1, r2, r3, r4, r5, hb⟩
      have hBS : Hid (∀ W, (fun W => W.cell? ⟨w.heap.size, 0, none⟩ = some (.int .i64 so) ∧ W.cell? ⟨w.heap.size, 1, none⟩ = some (.bool on) ∧ W.cell? ⟨w.heap.size, 2, none⟩ = some (.int .i64 n) ∧ W.cell? ⟨w.heap.size, 3, none⟩ = some (.string ⟨t.toArray⟩) ∧ W.cell? ⟨w.heap.size, 4, none⟩ = some (.slice a1 m1 c1) ∧ W.cell? ⟨w.heap.size, 5, none⟩ = some (.slice a2 m2 c2) ∧ W.cell? ⟨w.heap.size + 1, 0, none⟩ = some (.int .i64 so') ∧ W.cell? ⟨w.heap.size + 1, 1, none⟩ = some (.bool on') ∧ W.cell? ⟨w.heap.size + 1, 2, none⟩ = some (.int .i64 n') ∧ W.cell? ⟨w.heap.size + 1, 3, none⟩ = some (.string ⟨t'.toArray⟩) ∧ W.cell? ⟨w.heap.size + 1, 4, none⟩ = some (.slice b1 m3 d1) ∧ W.cell? ⟨w.heap.size + 1, 5, none⟩ = some (.slice b2 m4 d2) ∧ W.cell? ⟨w8.heap.size, 0, none⟩ = some (.int .i64 so) ∧ W.cell? ⟨w8.heap.size, 1, none⟩ = some (.bool on) ∧ W.cell? ⟨w8.heap.size, 2, none⟩ = some (.int .i64 n) ∧ W.cell? ⟨w8.heap.size, 3, none⟩ = some (.string ⟨t.toArray⟩) ∧ W.cell? ⟨w8.heap.size, 4, none⟩ = some (.slice x3 m1 y3) ∧ W.cell? ⟨w8.heap.size, 5, none⟩ = some (.slice x4 m2 y4) ∧ Below w9.heap.size w9 W) W → Below w9.heap.size w9 W) := Lib.hid fun W h => h.2.2.2.2.2.2.2.2.2.2.2.2.2.2.2.2.2.2
      have hSV : Hid ((S1 = S2 ∧ sv = true) ∨ (S1 ≠ S2 ∧ sv = false)) := Lib.hid (by
        have hsv9 : sv = decide (S1 = S2) := HGOOD.out (by first | trivial | rfl) (by first | trivial | rfl)
        by_cases h : S1 = S2
        · exact Or.inl ⟨h, hsv9.trans (decide_eq_true h)⟩
        · exact Or.inr ⟨h, hsv9.trans (decide_eq_false h)⟩)
      have cA9 : ∀ W, (fun W => W.cell? ⟨w.heap.size, 0, none⟩ = some (.int .i64 so) ∧ W.cell? ⟨w.heap.size, 1, none⟩ = some (.bool on) ∧ W.cell? ⟨w.heap.size, 2, none⟩ = some (.int .i64 n) ∧ W.cell? ⟨w.heap.size, 3, none⟩ = some (.string ⟨t.toArray⟩) ∧ W.cell? ⟨w.heap.size, 4, none⟩ = some (.slice a1 m1 c1) ∧ W.cell? ⟨w.heap.size, 5, none⟩ = some (.slice a2 m2 c2) ∧ W.cell? ⟨w.heap.size + 1, 0, none⟩ = some (.int .i64 so') ∧ W.cell? ⟨w.heap.size + 1, 1, none⟩ = some (.bool on') ∧ W.cell? ⟨w.heap.size + 1, 2, none⟩ = some (.int .i64 n') ∧ W.cell? ⟨w.heap.size + 1, 3, none⟩ = some (.string ⟨t'.toArray⟩) ∧ W.cell? ⟨w.heap.size + 1, 4, none⟩ = some (.slice b1 m3 d1) ∧ W.cell? ⟨w.heap.size + 1, 5, none⟩ = some (.slice b2 m4 d2) ∧ W.cell? ⟨w8.heap.size, 0, none⟩ = some (.int .i64 so) ∧ W.cell? ⟨w8.heap.size, 1, none⟩ = some (.bool on) ∧ W.cell? ⟨w8.heap.size, 2, none⟩ = some (.int .i64 n) ∧ W.cell? ⟨w8.heap.size, 3, none⟩ = some (.string ⟨t.toArray⟩) ∧ W.cell? ⟨w8.heap.size, 4, none⟩ = some (.slice x3 m1 y3) ∧ W.cell? ⟨w8.heap.size, 5, none⟩ = some (.slice x4 m2 y4) ∧ Below w9.heap.size w9 W) W → Calls Tryd.prog 7 #[] W fun e w' => e = .returned (.bool true) ∧ (fun W => W.cell? ⟨w.heap.size, 0, none⟩ = some (.int .i64 so) ∧ W.cell? ⟨w.heap.size, 1, none⟩ = some (.bool on) ∧ W.cell? ⟨w.heap.size, 2, none⟩ = some (.int .i64 n) ∧ W.cell? ⟨w.heap.size, 3, none⟩ = some (.string ⟨t.toArray⟩) ∧ W.cell? ⟨w.heap.size, 4, none⟩ = some (.slice a1 m1 c1) ∧ W.cell? ⟨w.heap.size, 5, none⟩ = some (.slice a2 m2 c2) ∧ W.cell? ⟨w.heap.size + 1, 0, none⟩ = some (.int .i64 so') ∧ W.cell? ⟨w.heap.size + 1, 1, none⟩ = some (.bool on') ∧ W.cell? ⟨w.heap.size + 1, 2, none⟩ = some (.int .i64 n') ∧ W.cell? ⟨w.heap.size + 1, 3, none⟩ = some (.string ⟨t'.toArray⟩) ∧ W.cell? ⟨w.heap.size + 1, 4, none⟩ = some (.slice b1 m3 d1) ∧ W.cell? ⟨w.heap.size + 1, 5, none⟩ = some (.slice b2 m4 d2) ∧ W.cell? ⟨w8.heap.size, 0, none⟩ = some (.int .i64 so) ∧ W.cell? ⟨w8.heap.size, 1, none⟩ = some (.bool on) ∧ W.cell? ⟨w8.heap.size, 2, none⟩ = some (.int .i64 n) ∧ W.cell? ⟨w8.heap.size, 3, none⟩ = some (.string ⟨t.toArray⟩) ∧ W.cell? ⟨w8.heap.size, 4, none⟩ = some (.slice x3 m1 y3) ∧ W.cell? ⟨w8.heap.size, 5, none⟩ = some (.slice x4 m2 y4) ∧ Below w9.heap.size w9 W) w' := fun W hS => (CA.out W (HB9.out.trans ((hBS.out W hS).mono HB9.out.size))).mono (by
        rintro e w' ⟨h1, h2⟩
        exact ⟨h1, CC.out _ ((hBS.out W hS).trans (h2.mono (hBS.out W hS).size))⟩)
      have cOv9 : ∀ W, (fun W => W.cell? ⟨w.heap.size, 0, none⟩ = some (.int .i64 so) ∧ W.cell? ⟨w.heap.size, 1, none⟩ = some (.bool on) ∧ W.cell? ⟨w.heap.size, 2, none⟩ = some (.int .i64 n) ∧ W.cell? ⟨w.heap.size, 3, none⟩ = some (.string ⟨t.toArray⟩) ∧ W.cell? ⟨w.heap.size, 4, none⟩ = some (.slice a1 m1 c1) ∧ W.cell? ⟨w.heap.size, 5, none⟩ = some (.slice a2 m2 c2) ∧ W.cell? ⟨w.heap.size + 1, 0, none⟩ = some (.int .i64 so') ∧ W.cell? ⟨w.heap.size + 1, 1, none⟩ = some (.bool on') ∧ W.cell? ⟨w.heap.size + 1, 2, none⟩ = some (.int .i64 n') ∧ W.cell? ⟨w.heap.size + 1, 3, none⟩ = some (.string ⟨t'.toArray⟩) ∧ W.cell? ⟨w.heap.size + 1, 4, none⟩ = some (.slice b1 m3 d1) ∧ W.cell? ⟨w.heap.size + 1, 5, none⟩ = some (.slice b2 m4 d2) ∧ W.cell? ⟨w8.heap.size, 0, none⟩ = some (.int .i64 so) ∧ W.cell? ⟨w8.heap.size, 1, none⟩ = some (.bool on) ∧ W.cell? ⟨w8.heap.size, 2, none⟩ = some (.int .i64 n) ∧ W.cell? ⟨w8.heap.size, 3, none⟩ = some (.string ⟨t.toArray⟩) ∧ W.cell? ⟨w8.heap.size, 4, none⟩ = some (.slice x3 m1 y3) ∧ W.cell? ⟨w8.heap.size, 5, none⟩ = some (.slice x4 m2 y4) ∧ Below w9.heap.size w9 W) W → Calls Tryd.prog 9 #[.agg #[.int .i64 so, .bool on, .int .i64 n, .string ⟨t.toArray⟩, .slice a1 m1 c1, .slice a2 m2 c2]] W fun e w' => ∃ a5 c5, e = .returned (.agg #[.int .i64 so, .bool on, .int .i64 n, .string ⟨t.toArray⟩, .slice a5 m1 c5, .slice a2 m2 c2]) ∧ (fun W => W.cell? ⟨w.heap.size, 0, none⟩ = some (.int .i64 so) ∧ W.cell? ⟨w.heap.size, 1, none⟩ = some (.bool on) ∧ W.cell? ⟨w.heap.size, 2, none⟩ = some (.int .i64 n) ∧ W.cell? ⟨w.heap.size, 3, none⟩ = some (.string ⟨t.toArray⟩) ∧ W.cell? ⟨w.heap.size, 4, none⟩ = some (.slice a1 m1 c1) ∧ W.cell? ⟨w.heap.size, 5, none⟩ = some (.slice a2 m2 c2) ∧ W.cell? ⟨w.heap.size + 1, 0, none⟩ = some (.int .i64 so') ∧ W.cell? ⟨w.heap.size + 1, 1, none⟩ = some (.bool on') ∧ W.cell? ⟨w.heap.size + 1, 2, none⟩ = some (.int .i64 n') ∧ W.cell? ⟨w.heap.size + 1, 3, none⟩ = some (.string ⟨t'.toArray⟩) ∧ W.cell? ⟨w.heap.size + 1, 4, none⟩ = some (.slice b1 m3 d1) ∧ W.cell? ⟨w.heap.size + 1, 5, none⟩ = some (.slice b2 m4 d2) ∧ W.cell? ⟨w8.heap.size, 0, none⟩ = some (.int .i64 so) ∧ W.cell? ⟨w8.heap.size, 1, none⟩ = some (.bool on) ∧ W.cell? ⟨w8.heap.size, 2, none⟩ = some (.int .i64 n) ∧ W.cell? ⟨w8.heap.size, 3, none⟩ = some (.string ⟨t.toArray⟩) ∧ W.cell? ⟨w8.heap.size, 4, none⟩ = some (.slice x3 m1 y3) ∧ W.cell? ⟨w8.heap.size, 5, none⟩ = some (.slice x4 m2 y4) ∧ Below w9.heap.size w9 W) w' ∧ Hid (ValIn w' (fun _ => True) (.mk so on n t l ks) (.slice a5 m1 c5) (.slice a2 m2 c2)) := fun W hS => (COV.out W (HB9.out.trans ((hBS.out W hS).mono HB9.out.size))).mono (by
        rintro e w' ⟨a5, c5, h1, h2, h3⟩
        exact ⟨a5, c5, h1, CC.out _ ((hBS.out W hS).trans (h2.out.mono (hBS.out W hS).size)), h3⟩)
      have cOu9 : ∀ W, (fun W => W.cell? ⟨w.heap.size, 0, none⟩ = some (.int .i64 so) ∧ W.cell? ⟨w.heap.size, 1, none⟩ = some (.bool on) ∧ W.cell? ⟨w.heap.size, 2, none⟩ = some (.int .i64 n) ∧ W.cell? ⟨w.heap.size, 3, none⟩ = some (.string ⟨t.toArray⟩) ∧ W.cell? ⟨w.heap.size, 4, none⟩ = some (.slice a1 m1 c1) ∧ W.cell? ⟨w.heap.size, 5, none⟩ = some (.slice a2 m2 c2) ∧ W.cell? ⟨w.heap.size + 1, 0, none⟩ = some (.int .i64 so') ∧ W.cell? ⟨w.heap.size + 1, 1, none⟩ = some (.bool on') ∧ W.cell? ⟨w.heap.size + 1, 2, none⟩ = some (.int .i64 n') ∧ W.cell? ⟨w.heap.size + 1, 3, none⟩ = some (.string ⟨t'.toArray⟩) ∧ W.cell? ⟨w.heap.size + 1, 4, none⟩ = some (.slice b1 m3 d1) ∧ W.cell? ⟨w.heap.size + 1, 5, none⟩ = some (.slice b2 m4 d2) ∧ W.cell? ⟨w8.heap.size, 0, none⟩ = some (.int .i64 so) ∧ W.cell? ⟨w8.heap.size, 1, none⟩ = some (.bool on) ∧ W.cell? ⟨w8.heap.size, 2, none⟩ = some (.int .i64 n) ∧ W.cell? ⟨w8.heap.size, 3, none⟩ = some (.string ⟨t.toArray⟩) ∧ W.cell? ⟨w8.heap.size, 4, none⟩ = some (.slice x3 m1 y3) ∧ W.cell? ⟨w8.heap.size, 5, none⟩ = some (.slice x4 m2 y4) ∧ Below w9.heap.size w9 W) W → Calls Tryd.prog 9 #[.agg #[.int .i64 so', .bool on', .int .i64 n', .string ⟨t'.toArray⟩, .slice b1 m3 d1, .slice b2 m4 d2]] W fun e w' => ∃ a5 c5, e = .returned (.agg #[.int .i64 so', .bool on', .int .i64 n', .string ⟨t'.toArray⟩, .slice a5 m3 c5, .slice b2 m4 d2]) ∧ (fun W => W.cell? ⟨w.heap.size, 0, none⟩ = some (.int .i64 so) ∧ W.cell? ⟨w.heap.size, 1, none⟩ = some (.bool on) ∧ W.cell? ⟨w.heap.size, 2, none⟩ = some (.int .i64 n) ∧ W.cell? ⟨w.heap.size, 3, none⟩ = some (.string ⟨t.toArray⟩) ∧ W.cell? ⟨w.heap.size, 4, none⟩ = some (.slice a1 m1 c1) ∧ W.cell? ⟨w.heap.size, 5, none⟩ = some (.slice a2 m2 c2) ∧ W.cell? ⟨w.heap.size + 1, 0, none⟩ = some (.int .i64 so') ∧ W.cell? ⟨w.heap.size + 1, 1, none⟩ = some (.bool on') ∧ W.cell? ⟨w.heap.size + 1, 2, none⟩ = some (.int .i64 n') ∧ W.cell? ⟨w.heap.size + 1, 3, none⟩ = some (.string ⟨t'.toArray⟩) ∧ W.cell? ⟨w.heap.size + 1, 4, none⟩ = some (.slice b1 m3 d1) ∧ W.cell? ⟨w.heap.size + 1, 5, none⟩ = some (.slice b2 m4 d2) ∧ W.cell? ⟨w8.heap.size, 0, none⟩ = some (.int .i64 so) ∧ W.cell? ⟨w8.heap.size, 1, none⟩ = some (.bool on) ∧ W.cell? ⟨w8.heap.size, 2, none⟩ = some (.int .i64 n) ∧ W.cell? ⟨w8.heap.size, 3, none⟩ = some (.string ⟨t.toArray⟩) ∧ W.cell? ⟨w8.heap.size, 4, none⟩ = some (.slice x3 m1 y3) ∧ W.cell? ⟨w8.heap.size, 5, none⟩ = some (.slice x4 m2 y4) ∧ Below w9.heap.size w9 W) w' ∧ Hid (ValIn w' (fun _ => True) (.mk so' on' n' t' l' ks') (.slice a5 m3 c5) (.slice b2 m4 d2)) ∧ Hid (∀ v lv kv, ValIn W (fun _ => True) v lv kv → ValIn w' (fun _ => True) v lv kv) := fun W hS => (COU.out W (HB9.out.trans ((hBS.out W hS).mono HB9.out.size))).mono (by
        rintro e w' ⟨a5, c5, h1, h2, h3⟩
        exact ⟨a5, c5, h1, CC.out _ ((hBS.out W hS).trans (h2.out.mono (hBS.out W hS).size)), h3, Lib.hid (fun _ _ _ hh => val_below hh h2.out)⟩)
      have cS9 : ∀ W a5 c5, (fun W => W.cell? ⟨w.heap.size, 0, none⟩ = some (.int .i64 so) ∧ W.cell? ⟨w.heap.size, 1, none⟩ = some (.bool on) ∧ W.cell? ⟨w.heap.size, 2, none⟩ = some (.int .i64 n) ∧ W.cell? ⟨w.heap.size, 3, none⟩ = some (.string ⟨t.toArray⟩) ∧ W.cell? ⟨w.heap.size, 4, none⟩ = some (.slice a1 m1 c1) ∧ W.cell? ⟨w.heap.size, 5, none⟩ = some (.slice a2 m2 c2) ∧ W.cell? ⟨w.heap.size + 1, 0, none⟩ = some (.int .i64 so') ∧ W.cell? ⟨w.heap.size + 1, 1, none⟩ = some (.bool on') ∧ W.cell? ⟨w.heap.size + 1, 2, none⟩ = some (.int .i64 n') ∧ W.cell? ⟨w.heap.size + 1, 3, none⟩ = some (.string ⟨t'.toArray⟩) ∧ W.cell? ⟨w.heap.size + 1, 4, none⟩ = some (.slice b1 m3 d1) ∧ W.cell? ⟨w.heap.size + 1, 5, none⟩ = some (.slice b2 m4 d2) ∧ W.cell? ⟨w8.heap.size, 0, none⟩ = some (.int .i64 so) ∧ W.cell? ⟨w8.heap.size, 1, none⟩ = some (.bool on) ∧ W.cell? ⟨w8.heap.size, 2, none⟩ = some (.int .i64 n) ∧ W.cell? ⟨w8.heap.size, 3, none⟩ = some (.string ⟨t.toArray⟩) ∧ W.cell? ⟨w8.heap.size, 4, none⟩ = some (.slice x3 m1 y3) ∧ W.cell? ⟨w8.heap.size, 5, none⟩ = some (.slice x4 m2 y4) ∧ Below w9.heap.size w9 W) W → Hid (ValIn W (fun _ => True) (.mk so on n t l ks) (.slice a5 m1 c5) (.slice a2 m2 c2)) → Calls Tryd.prog 12 #[.agg #[.int .i64 so, .bool on, .int .i64 n, .string ⟨t.toArray⟩, .slice x3 m1 y3, .slice x4 m2 y4], .agg #[.int .i64 so, .bool on, .int .i64 n, .string ⟨t.toArray⟩, .slice a5 m1 c5, .slice a2 m2 c2]] W fun e w' => e = .returned (.bool true) ∧ (fun W => W.cell? ⟨w.heap.size, 0, none⟩ = some (.int .i64 so) ∧ W.cell? ⟨w.heap.size, 1, none⟩ = some (.bool on) ∧ W.cell? ⟨w.heap.size, 2, none⟩ = some (.int .i64 n) ∧ W.cell? ⟨w.heap.size, 3, none⟩ = some (.string ⟨t.toArray⟩) ∧ W.cell? ⟨w.heap.size, 4, none⟩ = some (.slice a1 m1 c1) ∧ W.cell? ⟨w.heap.size, 5, none⟩ = some (.slice a2 m2 c2) ∧ W.cell? ⟨w.heap.size + 1, 0, none⟩ = some (.int .i64 so') ∧ W.cell? ⟨w.heap.size + 1, 1, none⟩ = some (.bool on') ∧ W.cell? ⟨w.heap.size + 1, 2, none⟩ = some (.int .i64 n') ∧ W.cell? ⟨w.heap.size + 1, 3, none⟩ = some (.string ⟨t'.toArray⟩) ∧ W.cell? ⟨w.heap.size + 1, 4, none⟩ = some (.slice b1 m3 d1) ∧ W.cell? ⟨w.heap.size + 1, 5, none⟩ = some (.slice b2 m4 d2) ∧ W.cell? ⟨w8.heap.size, 0, none⟩ = some (.int .i64 so) ∧ W.cell? ⟨w8.heap.size, 1, none⟩ = some (.bool on) ∧ W.cell? ⟨w8.heap.size, 2, none⟩ = some (.int .i64 n) ∧ W.cell? ⟨w8.heap.size, 3, none⟩ = some (.string ⟨t.toArray⟩) ∧ W.cell? ⟨w8.heap.size, 4, none⟩ = some (.slice x3 m1 y3) ∧ W.cell? ⟨w8.heap.size, 5, none⟩ = some (.slice x4 m2 y4) ∧ Below w9.heap.size w9 W) w' := fun W a5 c5 hS hh => (CS.out W _ _ _ _ _ _ _ _ (val_below HV9.out (hBS.out W hS)) hh.out).mono (by
        rintro e w' ⟨h1, h2⟩
        exact ⟨h1, CC.out _ ((hBS.out W hS).trans (h2.mono (hBS.out W hS).size))⟩)
      have cT9 : ∀ W a5 c5 a6 c6, (fun W => W.cell? ⟨w.heap.size, 0, none⟩ = some (.int .i64 so) ∧ W.cell? ⟨w.heap.size, 1, none⟩ = some (.bool on) ∧ W.cell? ⟨w.heap.size, 2, none⟩ = some (.int .i64 n) ∧ W.cell? ⟨w.heap.size, 3, none⟩ = some (.string ⟨t.toArray⟩) ∧ W.cell? ⟨w.heap.size, 4, none⟩ = some (.slice a1 m1 c1) ∧ W.cell? ⟨w.heap.size, 5, none⟩ = some (.slice a2 m2 c2) ∧ W.cell? ⟨w.heap.size + 1, 0, none⟩ = some (.int .i64 so') ∧ W.cell? ⟨w.heap.size + 1, 1, none⟩ = some (.bool on') ∧ W.cell? ⟨w.heap.size + 1, 2, none⟩ = some (.int .i64 n') ∧ W.cell? ⟨w.heap.size + 1, 3, none⟩ = some (.string ⟨t'.toArray⟩) ∧ W.cell? ⟨w.heap.size + 1, 4, none⟩ = some (.slice b1 m3 d1) ∧ W.cell? ⟨w.heap.size + 1, 5, none⟩ = some (.slice b2 m4 d2) ∧ W.cell? ⟨w8.heap.size, 0, none⟩ = some (.int .i64 so) ∧ W.cell? ⟨w8.heap.size, 1, none⟩ = some (.bool on) ∧ W.cell? ⟨w8.heap.size, 2, none⟩ = some (.int .i64 n) ∧ W.cell? ⟨w8.heap.size, 3, none⟩ = some (.string ⟨t.toArray⟩) ∧ W.cell? ⟨w8.heap.size, 4, none⟩ = some (.slice x3 m1 y3) ∧ W.cell? ⟨w8.heap.size, 5, none⟩ = some (.slice x4 m2 y4) ∧ Below w9.heap.size w9 W) W → Hid (ValIn W (fun _ => True) (.mk so on n t l ks) (.slice a5 m1 c5) (.slice a2 m2 c2)) → Hid (ValIn W (fun _ => True) (.mk so' on' n' t' l' ks') (.slice a6 m3 c6) (.slice b2 m4 d2)) → Calls Tryd.prog 12 #[.agg #[.int .i64 so, .bool on, .int .i64 n, .string ⟨t.toArray⟩, .slice a5 m1 c5, .slice a2 m2 c2], .agg #[.int .i64 so', .bool on', .int .i64 n', .string ⟨t'.toArray⟩, .slice a6 m3 c6, .slice b2 m4 d2]] W fun e w' => e = .returned (.bool sv) ∧ (fun W => W.cell? ⟨w.heap.size, 0, none⟩ = some (.int .i64 so) ∧ W.cell? ⟨w.heap.size, 1, none⟩ = some (.bool on) ∧ W.cell? ⟨w.heap.size, 2, none⟩ = some (.int .i64 n) ∧ W.cell? ⟨w.heap.size, 3, none⟩ = some (.string ⟨t.toArray⟩) ∧ W.cell? ⟨w.heap.size, 4, none⟩ = some (.slice a1 m1 c1) ∧ W.cell? ⟨w.heap.size, 5, none⟩ = some (.slice a2 m2 c2) ∧ W.cell? ⟨w.heap.size + 1, 0, none⟩ = some (.int .i64 so') ∧ W.cell? ⟨w.heap.size + 1, 1, none⟩ = some (.bool on') ∧ W.cell? ⟨w.heap.size + 1, 2, none⟩ = some (.int .i64 n') ∧ W.cell? ⟨w.heap.size + 1, 3, none⟩ = some (.string ⟨t'.toArray⟩) ∧ W.cell? ⟨w.heap.size + 1, 4, none⟩ = some (.slice b1 m3 d1) ∧ W.cell? ⟨w.heap.size + 1, 5, none⟩ = some (.slice b2 m4 d2) ∧ W.cell? ⟨w8.heap.size, 0, none⟩ = some (.int .i64 so) ∧ W.cell? ⟨w8.heap.size, 1, none⟩ = some (.bool on) ∧ W.cell? ⟨w8.heap.size, 2, none⟩ = some (.int .i64 n) ∧ W.cell? ⟨w8.heap.size, 3, none⟩ = some (.string ⟨t.toArray⟩) ∧ W.cell? ⟨w8.heap.size, 4, none⟩ = some (.slice x3 m1 y3) ∧ W.cell? ⟨w8.heap.size, 5, none⟩ = some (.slice x4 m2 y4) ∧ Below w9.heap.size w9 W) w' := fun W a5 c5 a6 c6 hS hh hu => (CT.out W _ _ _ _ _ _ _ _ hh.out hu.out).mono (by
        rintro e w' ⟨h1, h2⟩
        exact ⟨h1, CC.out _ ((hBS.out W hS).trans (h2.mono (hBS.out W hS).size))⟩)
      have hS0 := CC.out _ (Below.refl w9.heap.size w9).drew
      have HEND : Hid (∀ W, (fun W => W.cell? ⟨w.heap.size, 0, none⟩ = some (.int .i64 so) ∧ W.cell? ⟨w.heap.size, 1, none⟩ = some (.bool on) ∧ W.cell? ⟨w.heap.size, 2, none⟩ = some (.int .i64 n) ∧ W.cell? ⟨w.heap.size, 3, none⟩ = some (.string ⟨t.toArray⟩) ∧ W.cell? ⟨w.heap.size, 4, none⟩ = some (.slice a1 m1 c1) ∧ W.cell? ⟨w.heap.size, 5, none⟩ = some (.slice a2 m2 c2) ∧ W.cell? ⟨w.heap.size + 1, 0, none⟩ = some (.int .i64 so') ∧ W.cell? ⟨w.heap.size + 1, 1, none⟩ = some (.bool on') ∧ W.cell? ⟨w.heap.size + 1, 2, none⟩ = some (.int .i64 n') ∧ W.cell? ⟨w.heap.size + 1, 3, none⟩ = some (.string ⟨t'.toArray⟩) ∧ W.cell? ⟨w.heap.size + 1, 4, none⟩ = some (.slice b1 m3 d1) ∧ W.cell? ⟨w.heap.size + 1, 5, none⟩ = some (.slice b2 m4 d2) ∧ W.cell? ⟨w8.heap.size, 0, none⟩ = some (.int .i64 so) ∧ W.cell? ⟨w8.heap.size, 1, none⟩ = some (.bool on) ∧ W.cell? ⟨w8.heap.size, 2, none⟩ = some (.int .i64 n) ∧ W.cell? ⟨w8.heap.size, 3, none⟩ = some (.string ⟨t.toArray⟩) ∧ W.cell? ⟨w8.heap.size, 4, none⟩ = some (.slice x3 m1 y3) ∧ W.cell? ⟨w8.heap.size, 5, none⟩ = some (.slice x4 m2 y4) ∧ Below w9.heap.size w9 W) W → Below w.heap.size w W) := Lib.hid fun W hS => HB9.out.trans ((hBS.out W hS).mono HB9.out.size)
      clear hX9 hY9 hn9 hb9 hv4 hu6 hv8 HX2 HX3 HX4 HX5 HX6 HX7 HX8 HY2 HY3 HY4 HY5 HY6 HY7 HY8 HZ2 HB2 HB3 HB4 HB5 HB6 HB7 HB8 HV9 CV CU CA COV COU CD CW1 CW2 CR CS CT HE HRE HGOOD CC hBS HB9
      rw [hw9]
      clear hw9
      dsimp only at cA9 cOv9 cOu9 cS9 cT9 hS0
      rcases hSV.out with ⟨rfl, rfl⟩ | ⟨hne, rfl⟩
      all_goals clear hSV
      · go_region_held3 (fun W => W.cell? ⟨w.heap.size, 0, none⟩ = some (.int .i64 so) ∧ W.cell? ⟨w.heap.size, 1, none⟩ = some (.bool on) ∧ W.cell? ⟨w.heap.size, 2, none⟩ = some (.int .i64 n) ∧ W.cell? ⟨w.heap.size, 3, none⟩ = some (.string ⟨t.toArray⟩) ∧ W.cell? ⟨w.heap.size, 4, none⟩ = some (.slice a1 m1 c1) ∧ W.cell? ⟨w.heap.size, 5, none⟩ = some (.slice a2 m2 c2) ∧ W.cell? ⟨w.heap.size + 1, 0, none⟩ = some (.int .i64 so') ∧ W.cell? ⟨w.heap.size + 1, 1, none⟩ = some (.bool on') ∧ W.cell? ⟨w.heap.size + 1, 2, none⟩ = some (.int .i64 n') ∧ W.cell? ⟨w.heap.size + 1, 3, none⟩ = some (.string ⟨t'.toArray⟩) ∧ W.cell? ⟨w.heap.size + 1, 4, none⟩ = some (.slice b1 m3 d1) ∧ W.cell? ⟨w.heap.size + 1, 5, none⟩ = some (.slice b2 m4 d2) ∧ W.cell? ⟨w8.heap.size, 0, none⟩ = some (.int .i64 so) ∧ W.cell? ⟨w8.heap.size, 1, none⟩ = some (.bool on) ∧ W.cell? ⟨w8.heap.size, 2, none⟩ = some (.int .i64 n) ∧ W.cell? ⟨w8.heap.size, 3, none⟩ = some (.string ⟨t.toArray⟩) ∧ W.cell? ⟨w8.heap.size, 4, none⟩ = some (.slice x3 m1 y3) ∧ W.cell? ⟨w8.heap.size, 5, none⟩ = some (.slice x4 m2 y4) ∧ Below w9.heap.size w9 W) (first | assumption) (first
          | (go_at_call 7; (with_reducible refine (cA9 _ ?_).mono ?_); assumption; rintro e wa ⟨rfl, hSa⟩)
          | (go_at_call 12; (with_reducible refine (cT9 _ _ _ _ _ ?_ ?_ ?_).mono ?_); assumption; assumption; assumption; rintro e wt ⟨rfl, hSt⟩)
          | (go_at_call 12; (with_reducible refine (cS9 _ _ _ ?_ ?_).mono ?_); assumption; assumption; rintro e ws ⟨rfl, hSs⟩)
          | (go_at_call 9; (with_reducible refine (cOu9 _ ?_).mono ?_); assumption; rintro e wu ⟨au, cu, rfl, hSu, huu, hku⟩; have hvu := Lib.hid (hku.out _ _ _ hvv.out))
          | (go_at_call 9; (with_reducible refine (cOv9 _ ?_).mono ?_); assumption; rintro e wv ⟨av, cv, rfl, hSv, hvv⟩))
        go_wp2_with fail
        go_ret
        exact ⟨by simp, HEND.out _ hSt⟩
      · have hne2 : (S1.toList == S2.toList) = false := bytes_ne hne
        go_region_held3 (fun W => W.cell? ⟨w.heap.size, 0, none⟩ = some (.int .i64 so) ∧ W.cell? ⟨w.heap.size, 1, none⟩ = some (.bool on) ∧ W.cell? ⟨w.heap.size, 2, none⟩ = some (.int .i64 n) ∧ W.cell? ⟨w.heap.size, 3, none⟩ = some (.string ⟨t.toArray⟩) ∧ W.cell? ⟨w.heap.size, 4, none⟩ = some (.slice a1 m1 c1) ∧ W.cell? ⟨w.heap.size, 5, none⟩ = some (.slice a2 m2 c2) ∧ W.cell? ⟨w.heap.size + 1, 0, none⟩ = some (.int .i64 so') ∧ W.cell? ⟨w.heap.size + 1, 1, none⟩ = some (.bool on') ∧ W.cell? ⟨w.heap.size + 1, 2, none⟩ = some (.int .i64 n') ∧ W.cell? ⟨w.heap.size + 1, 3, none⟩ = some (.string ⟨t'.toArray⟩) ∧ W.cell? ⟨w.heap.size + 1, 4, none⟩ = some (.slice b1 m3 d1) ∧ W.cell? ⟨w.heap.size + 1, 5, none⟩ = some (.slice b2 m4 d2) ∧ W.cell? ⟨w8.heap.size, 0, none⟩ = some (.int .i64 so) ∧ W.cell? ⟨w8.heap.size, 1, none⟩ = some (.bool on) ∧ W.cell? ⟨w8.heap.size, 2, none⟩ = some (.int .i64 n) ∧ W.cell? ⟨w8.heap.size, 3, none⟩ = some (.string ⟨t.toArray⟩) ∧ W.cell? ⟨w8.heap.size, 4, none⟩ = some (.slice x3 m1 y3) ∧ W.cell? ⟨w8.heap.size, 5, none⟩ = some (.slice x4 m2 y4) ∧ Below w9.heap.size w9 W) (first | assumption) (first
          | (go_at_call 7; (with_reducible refine (cA9 _ ?_).mono ?_); assumption; rintro e wa ⟨rfl, hSa⟩)
          | (go_at_call 12; (with_reducible refine (cT9 _ _ _ _ _ ?_ ?_ ?_).mono ?_); assumption; assumption; assumption; rintro e wt ⟨rfl, hSt⟩)
          | (go_at_call 12; (with_reducible refine (cS9 _ _ _ ?_ ?_).mono ?_); assumption; assumption; rintro e ws ⟨rfl, hSs⟩)
          | (go_at_call 9; (with_reducible refine (cOu9 _ ?_).mono ?_); assumption; rintro e wu ⟨au, cu, rfl, hSu, huu, hku⟩; have hvu := Lib.hid (hku.out _ _ _ hvv.out))
          | (go_at_call 9; (with_reducible refine (cOv9 _ ?_).mono ?_); assumption; rintro e wv ⟨av, cv, rfl, hSv, hvv⟩))
        go_wp2_with fail
        go_ret
        exact ⟨by simp, HEND.out _ hSt⟩
    · go_wp2_with fail
      refine (CA.out _ HB7.out).mono ?_
      rintro e w8 ⟨rfl, hb8⟩
      have HX8 := Lib.hid ((hb8.block _ (by omega)).trans HX7.out)
      have HB8 := Lib.hid (HB7.out.trans (hb8.mono HB7.out.size))
      obtain ⟨⟨k0, k1, k2, k3, k4, k5⟩, kf⟩ := cells_six HX8.out
      clear hb8
      go_wp2_with fail
      refine (COV.out _ HB8.out).mono ?_
      rintro e w9 ⟨a4, c4, rfl, hb9, hv9⟩
      have HB9 := Lib.hid (HB8.out.trans (hb9.out.mono HB8.out.size))
      clear k0 k1 k2 k3 k4 k5 kf hb9
      have hrv : rv = true := HRE.out
      subst hrv
      go_wp2_with fail
      refine (CR.out _ _ _ _ _ (HE.out.later HB9.out) hv9.out).mono ?_
      rintro e w10 ⟨rfl, hb10⟩
      have HB10 := Lib.hid (HB9.out.trans (hb10.mono HB9.out.size))
      clear hb10
      go_wp2_with fail
      go_ret
      exact ⟨rfl, HB10.out⟩
  · go_wp2_with fail
    refine (CA.out _ HB7.out).mono ?_
    rintro e w8 ⟨rfl, hb8⟩
    have HX8 := Lib.hid ((hb8.block _ (by omega)).trans HX7.out)
    have HB8 := Lib.hid (HB7.out.trans (hb8.mono HB7.out.size))
    obtain ⟨⟨k0, k1, k2, k3, k4, k5⟩, kf⟩ := cells_six HX8.out
    clear hb8
    go_wp2_with fail
    refine (COV.out _ HB8.out).mono ?_
    rintro e w9 ⟨a4, c4, rfl, hb9, hv9⟩
    have HB9 := Lib.hid (HB8.out.trans (hb9.out.mono HB8.out.size))
    clear k0 k1 k2 k3 k4 k5 kf hb9
    have hrv : rv = false := HRE.out.trans (decide_eq_false he1)
    subst hrv
    go_wp2_with fail
    refine (CR.out _ _ _ _ _ (HE.out.later HB9.out) hv9.out).mono ?_
    rintro e w10 ⟨rfl, hb10⟩
    have HB10 := Lib.hid (HB9.out.trans (hb10.mono HB9.out.size))
    clear hb10
    go_wp2_with fail
    go_ret
    exact ⟨by simp [he1], HB10.out⟩

/-- The law at every two values of moderate weight. -/
theorem back_any (v u : Val) (lv kv lu ku : Value) (w : World) (hv : ValIn w (fun _ => True) v lv kv) (hu : ValIn w (fun _ => True) u lu ku) (hwv : wt v ≤ 1099511627776) (hwu : wt u ≤ 1099511627776) (hE : EnvW w) :
    Calls Tryd.prog 3 #[arg v lv kv, arg u lu ku] w fun e w' => e = .returned (.bool true) ∧ Below w.heap.size w w' := by
  by_cases h : 400 < sizeV v ∨ 400 < sizeV u
  · exact back_long v u lv kv lu ku w hv hu hwv hwu h hE
  · exact back_short v u lv kv lu ku w hv hu (by omega) (by omega) hE
end Go.Proofs.YtfjdeacpdcnjpaaDoor.V
