/- The texts JSame, JAlive, joined. -/
import Derived.Test.YtnjhmjkonmmomaaDoorG13
import Derived.Test.YtnjhmjkonmmomaaDoorG14
import Derived.Test.YtnjhmjkonmmomaaDoorG15
/- JSame: Are two parts one, and how deep is one nested: the contracts of the document's Same and Deep. -/
section
namespace Go.Proofs.YtnjhmjkonmmomaaDoor.J
open Go.RowKit
open Go.Lib hiding intOf
open Go.Proofs.YtnjhmjkonmmomaaDoor.U Go.Proofs.YtnjhmjkonmmomaaDoor.S Go.Proofs.YtnjhmjkonmmomaaDoor.T

mutual
def sameB : Pt → Pt → Bool
  | .mk k t f e ks, .mk k' t' f' e' ks' => k == k' && t == t' && f == f' && e == e' && sameBL ks ks'
def sameBL : List Pt → List Pt → Bool
  | [], [] => true
  | p :: r, p' :: r' => sameB p p' && sameBL r r'
  | _, _ => false
end
mutual
theorem sameB_iff : ∀ p q, sameB p q = true ↔ p = q
  | .mk k t f e ks, .mk k' t' f' e' ks' => by
    rw [sameB]
    simp only [Bool.and_eq_true, beq_iff_eq, Pt.mk.injEq, sameBL_iff ks ks']
    constructor
    · rintro ⟨⟨⟨⟨h1, h2⟩, h3⟩, h4⟩, h5⟩; exact ⟨h1, h2, h3, h4, h5⟩
    · rintro ⟨h1, h2, h3, h4, h5⟩; exact ⟨⟨⟨⟨h1, h2⟩, h3⟩, h4⟩, h5⟩
theorem sameBL_iff : ∀ a b, sameBL a b = true ↔ a = b
  | [], [] => by simp [sameBL]
  | [], _ :: _ => by simp [sameBL]
  | _ :: _, [] => by simp [sameBL]
  | p :: r, p' :: r' => by
    rw [sameBL, Bool.and_eq_true, sameB_iff p p', sameBL_iff r r', List.cons.injEq]
end
theorem same_self (p : Pt) : sameB p p = true := (sameB_iff p p).2 rfl
theorem sameBL_drop {l l' : List Pt} {i : Nat} (h : i < l.length) (h' : i < l'.length) : sameBL (l.drop i) (l'.drop i) = (sameB l[i] l'[i] && sameBL (l.drop (i + 1)) (l'.drop (i + 1))) := by
  rw [List.drop_eq_getElem_cons h, List.drop_eq_getElem_cons h', sameBL]
theorem sameBL_len : ∀ {l l' : List Pt}, l.length ≠ l'.length → sameBL l l' = false
  | [], [], h => absurd rfl h
  | [], _ :: _, _ => by simp [sameBL]
  | _ :: _, [], _ => by simp [sameBL]
  | p :: r, p' :: r', h => by
    have := @sameBL_len r r' (by simpa using h)
    simp [sameBL, this]
theorem bstr_inj {a b : By} : bstr a = bstr b ↔ a = b := by
  constructor
  · intro h
    have := congrArg (fun x : ByteArray => x.data.toList) h
    simpa [bstr] using this
  · intro h; rw [h]
theorem bstr_list (a : By) : (bstr a).toList = a := by rw [ByteArray.toList_eq]; simp [bstr]
def SameC (p : Pt) : Prop := ∀ (q : Pt) (lv lv' : Value) (R R' : Nat → Prop) (w : World), KidsIn w R p lv → KidsIn w R' q lv' → wtP p ≤ 1099511627776 → wtP q ≤ 1099511627776 →
  Calls Tryd.prog 11 #[arg p lv, arg q lv'] w fun e w' => e = .returned (.bool (sameB p q)) ∧ Below w.heap.size w w'
theorem two_new (w : World) (o1 o2 : Obj) : ∃ w1, (w.alloc o1).alloc o2 = w1 ∧ w1.heap[w.heap.size]? = some o1 ∧ w1.heap[w.heap.size + 1]? = some o2 ∧ Below w.heap.size w w1 ∧ w.heap.size + 1 < w1.heap.size := by
  have s1 : (w.alloc o1).heap.size = w.heap.size + 1 := by simp
  refine ⟨_, rfl, ?_, ?_, ((Below.refl _ _).alloc (Nat.le_refl _) _).alloc (by omega) _, by simp⟩
  · rw [Below.heap_alloc _ _ _ (by omega)]; exact heap_new w o1
  · rw [← s1]; exact heap_new _ o2
theorem three_new (w : World) (o1 o2 o3 : Obj) : ∃ w1, ((w.alloc o1).alloc o2).alloc o3 = w1 ∧ w1.heap[w.heap.size]? = some o1 ∧ w1.heap[w.heap.size + 1]? = some o2 ∧ w1.heap[w.heap.size + 1 + 1]? = some o3 ∧ Below w.heap.size w w1 ∧ w.heap.size + 1 + 1 < w1.heap.size := by
  obtain ⟨w2, h1, h2, h3, h4, h5⟩ := two_new w o1 o2
  have hs : w2.heap.size = w.heap.size + 1 + 1 := by rw [← h1]; simp
  refine ⟨_, rfl, ?_, ?_, ?_, ?_, ?_⟩
  · rw [h1, Below.heap_alloc _ _ _ (by omega)]; exact h2
  · rw [h1, Below.heap_alloc _ _ _ (by omega)]; exact h3
  · rw [h1, ← hs]; exact heap_new _ _
  · rw [h1]; exact h4.alloc (by omega) _
  · rw [h1]; simp; omega
set_option maxHeartbeats 8000000 in
theorem same_any : ∀ p, SameC p := Pt.ind fun k t f e ks IH => fun
  | .mk k' t' f' e' ks', lv, lv', R, R', w, hv, hv', hw, hw' => by
    obtain ⟨a, c, rfl⟩ := kids_form hv
    obtain ⟨a', c', rfl⟩ := kids_form hv'
    obtain ⟨_, _, hrow⟩ := kids_row hv
    obtain ⟨_, _, hrow'⟩ := kids_row hv'
    have HR := Lib.hid hrow
    have HR' := Lib.hid hrow'
    have HIH := Lib.hid IH
    rw [wtP] at hw hw'
    have hlb : ks.length ≤ 1099511627776 := Nat.le_trans (wtL_length ks) (by omega)
    have hlb' : ks'.length ≤ 1099511627776 := Nat.le_trans (wtL_length ks') (by omega)
    have HWM := Lib.hid (fun v (h : v ∈ ks) => Nat.le_trans (wtL_mem h) (show wtL ks ≤ 1099511627776 by omega))
    have HWM' := Lib.hid (fun v (h : v ∈ ks') => Nat.le_trans (wtL_mem h) (show wtL ks' ≤ 1099511627776 by omega))
    obtain ⟨n, hn⟩ : ∃ n, ks.length = n := ⟨_, rfl⟩
    obtain ⟨n', hn'⟩ : ∃ n, ks'.length = n := ⟨_, rfl⟩
    have HN := Lib.hid hn
    have HN' := Lib.hid hn'
    rw [hn] at hlb
    rw [hn'] at hlb'
    obtain ⟨kb, hkb⟩ : ∃ x, bstr k = x := ⟨_, rfl⟩
    obtain ⟨tb, htb⟩ : ∃ x, bstr t = x := ⟨_, rfl⟩
    obtain ⟨kb', hkb'⟩ : ∃ x, bstr k' = x := ⟨_, rfl⟩
    obtain ⟨tb', htb'⟩ : ∃ x, bstr t' = x := ⟨_, rfl⟩
    have hkk : (kb.toList == kb'.toList) = (k == k') := by rw [← hkb, ← hkb', bstr_list, bstr_list]
    have htt : (tb.toList == tb'.toList) = (t == t') := by rw [← htb, ← htb', bstr_list, bstr_list]
    obtain ⟨b, hb⟩ : ∃ b, sameB (.mk k t f e ks) (.mk k' t' f' e' ks') = b := ⟨_, rfl⟩
    rw [hb]
    rw [sameB] at hb
    simp only [arg, five]
    rw [hn, hn', hkb, htb, hkb', htb']
    clear hv hv' hrow hrow' IH hw hw' hn hn'
    obtain ⟨b1, hb1⟩ : ∃ b1, (k == k') = b1 := ⟨_, rfl⟩
    rw [hb1] at hkk hb
    cases b1 with
    | false =>
      simp only [Bool.false_and] at hb
      subst hb
      have HFin : Hid (Below w.heap.size w ((w.alloc (.cells #[.string kb, .string tb, .int .i64 f, .int .i64 e, .slice a n c] 24)).alloc (.cells #[.string kb', .string tb', .int .i64 f', .int .i64 e', .slice a' n' c'] 24))) := Lib.hid (((Below.refl _ _).alloc (Nat.le_refl _) _).alloc (by simp) _)
      clear htt hb1 hkb htb hkb' htb'
      go_enter Tryd.func11, Tryd.ntmps11
      go_wp2_with fail
      go_ret
      exact ⟨rfl, HFin.out⟩
    | true =>
    obtain rfl : kb = kb' := hkb.symm.trans ((congrArg bstr (show k = k' by simpa using hb1)).trans hkb')
    clear hkk
    obtain ⟨b2, hb2⟩ : ∃ b2, (t == t') = b2 := ⟨_, rfl⟩
    rw [hb2] at htt hb
    cases b2 with
    | false =>
      simp only [Bool.true_and, Bool.false_and] at hb
      subst hb
      have HFin : Hid (Below w.heap.size w ((w.alloc (.cells #[.string kb, .string tb, .int .i64 f, .int .i64 e, .slice a n c] 24)).alloc (.cells #[.string kb, .string tb', .int .i64 f', .int .i64 e', .slice a' n' c'] 24))) := Lib.hid (((Below.refl _ _).alloc (Nat.le_refl _) _).alloc (by simp) _)
      clear hb1 hb2 hkb htb hkb' htb'
      go_enter Tryd.func11, Tryd.ntmps11
      go_wp2_with fail
      go_ret
      exact ⟨rfl, HFin.out⟩
    | true =>
    obtain rfl : tb = tb' := htb.symm.trans ((congrArg bstr (show t = t' by simpa using hb2)).trans htb')
    clear htt hkb htb hkb' htb'
    have HFin : Hid (Below w.heap.size w ((w.alloc (.cells #[.string kb, .string tb, .int .i64 f, .int .i64 e, .slice a n c] 24)).alloc (.cells #[.string kb, .string tb, .int .i64 f', .int .i64 e', .slice a' n' c'] 24))) := Lib.hid (((Below.refl _ _).alloc (Nat.le_refl _) _).alloc (by simp) _)
    by_cases hf : f = f'
    case neg =>
      have e1 : (f == f') = false := by simpa using hf
      have e2 : (f != f') = true := by simpa using hf
      rw [e1] at hb
      simp only [Bool.true_and, Bool.false_and] at hb
      subst hb
      clear hb1 hb2 hf
      go_enter Tryd.func11, Tryd.ntmps11
      go_wp2_with fail
      go_ret
      exact ⟨rfl, HFin.out⟩
    subst hf
    by_cases he : e = e'
    case neg =>
      have e1 : (e == e') = false := by simpa using he
      have e2 : (e != e') = true := by simpa using he
      rw [e1] at hb
      simp only [beq_self_eq_true, Bool.true_and, Bool.false_and] at hb
      subst hb
      clear hb1 hb2 he
      go_enter Tryd.func11, Tryd.ntmps11
      go_wp2_with fail
      go_ret
      exact ⟨rfl, HFin.out⟩
    subst he
    simp only [beq_self_eq_true, Bool.true_and] at hb
    by_cases hl : n = n'
    case neg =>
      rw [sameBL_len (by rw [HN.out, HN'.out]; exact hl)] at hb
      subst hb
      have e1 : ((n : Int) == (n' : Int)) = false := by simp; omega
      clear hb1 hb2
      go_enter Tryd.func11, Tryd.ntmps11
      go_wp2_with fail
      go_ret
      exact ⟨rfl, HFin.out⟩
    subst hl
    have HF := Lib.hid (show sameBL (ks.drop 0) (ks'.drop 0) = b from hb)
    clear hb hb1 hb2 HFin
    go_enter Tryd.func11, Tryd.ntmps11
    go_wp2_with fail
    obtain ⟨w1, hw1, hq1, hr1, hbw1, hz1⟩ := two_new w (.cells #[.string kb, .string tb, .int .i64 f, .int .i64 e, .slice a n c] 24) (.cells #[.string kb, .string tb, .int .i64 f, .int .i64 e, .slice a' n c'] 24)
    rw [hw1]
    have HQ1 := Lib.hid hq1
    have HR1 := Lib.hid hr1
    have HB1 := Lib.hid hbw1
    clear hw1 hq1 hr1 hbw1
    go_loopw [5] (fun iv wr => ∃ i : Nat, iv = .int .i64 i ∧ i ≤ n ∧ Hid (sameBL (ks.drop i) (ks'.drop i) = b) ∧ Hid (Below w1.heap.size w1 wr)) (fun iv _ => n - (Go.RowKit.intOf iv).toNat)
    case atStart => exact ⟨0, rfl, Nat.zero_le _, HF, Lib.hid (Below.refl _ _)⟩
    case round =>
      obtain ⟨i, rfl, hi, HI, HB⟩ := hrel
      have hq := (HB.out.block w.heap.size (by omega)).trans HQ1.out
      have hr := (HB.out.block (w.heap.size + 1) hz1).trans HR1.out
      obtain ⟨⟨k0, k1, k2, k3, k4⟩, kf⟩ := cells_five hq
      obtain ⟨⟨l0, l1, l2, l3, l4⟩, lf⟩ := cells_five hr
      have hz2 := HB.out.size
      clear hq hr
      by_cases hlt : i < n
      · have hll : i < ks.length := by rw [HN.out]; exact hlt
        have hll' : i < ks'.length := by rw [HN'.out]; exact hlt
        obtain ⟨g, off, xs, rfl, hg, hc, hp⟩ := HR.out.resolve_left (fun h => by rw [h] at hll; exact Nat.not_lt_zero _ hll)
        obtain ⟨g', off', xs', rfl, hg', hc', hp'⟩ := HR'.out.resolve_left (fun h => by rw [h] at hll'; exact Nat.not_lt_zero _ hll')
        have hb0 : Below w.heap.size w wr := HB1.out.trans (HB.out.mono HB1.out.size)
        obtain ⟨kk, tt, ff, ee, kks, aa, cc, hK⟩ := kid_at hp hc i hll
        obtain ⟨kk', tt', ff', ee', kks', aa', cc', hK'⟩ := kid_at hp' hc' i hll'
        have hK := hK.below hb0
        have hK' := hK'.below hb0
        have hI := HI.out
        rw [sameBL_drop hll hll'] at hI
        obtain ⟨b', hb'⟩ : ∃ b', sameB ks[i] ks'[i] = b' := ⟨_, rfl⟩
        have cP := fun X (hX : Below wr.heap.size wr X) => (HIH.out ks[i] (List.getElem_mem hll)) ks'[i] (.slice aa kks.length cc) (.slice aa' kks'.length cc') R R' X (by rw [hK.eq]; exact kids_below hK.kids hX) (by rw [hK'.eq]; exact kids_below hK'.kids hX) (HWM.out _ (List.getElem_mem hll)) (HWM'.out _ (List.getElem_mem hll'))
        rw [hb'] at hI cP
        simp only [hK.eq, hK'.eq, arg, five] at cP
        have HI2 := Lib.hid hI
        have j0 := hK.k0
        have j1 := hK.k1
        have j2 := hK.k2
        have j3 := hK.k3
        have j4 := hK.k4
        have m0 := hK'.k0
        have m1 := hK'.k1
        have m2 := hK'.k2
        have m3 := hK'.k3
        have m4 := hK'.k4
        obtain ⟨y0, hy0⟩ : ∃ x, bstr kk = x := ⟨_, rfl⟩
        obtain ⟨y1, hy1⟩ : ∃ x, bstr tt = x := ⟨_, rfl⟩
        obtain ⟨y2, hy2⟩ : ∃ x, bstr kk' = x := ⟨_, rfl⟩
        obtain ⟨y3, hy3⟩ : ∃ x, bstr tt' = x := ⟨_, rfl⟩
        obtain ⟨z0, hz0⟩ : ∃ x, kks.length = x := ⟨_, rfl⟩
        obtain ⟨z1, hz1'⟩ : ∃ x, kks'.length = x := ⟨_, rfl⟩
        rw [hy0] at j0 cP
        rw [hy1] at j1 cP
        rw [hy2] at m0 cP
        rw [hy3] at m1 cP
        rw [hz0] at j4 cP
        rw [hz1'] at m4 cP
        have hi0 : (0 : Int) ≤ (i : Int) := by omega
        have hi1 : (i : Int) < (n : Int) := by omega
        clear hI hb' hc hp hc' hp' hK hK' hb0 HI hy0 hy1 hy2 hy3 hz0 hz1'
        go_upto_region 6 with fail
        have cl : ∀ {X : World} {b o : Nat} {v : Value}, Below wr.heap.size wr X → wr.cell? ⟨b, o, none⟩ = some v → X.cell? ⟨b, o, none⟩ = some v := fun hX h => (hX.cell (World.block_lt_of_cell? wr _ h)).trans h
        have hS : ∀ X, Below wr.heap.size wr X → Below wr.heap.size wr X ∧ X.cell? ⟨w.heap.size, 4, none⟩ = some (.slice (some ⟨g, off, none⟩) n c) ∧ X.cell? ⟨w.heap.size + 1, 4, none⟩ = some (.slice (some ⟨g', off', none⟩) n c') ∧ X.cell? ⟨g, off + i * 5, none⟩ = some (.string y0) ∧ X.cell? ⟨g, off + i * 5 + 1, none⟩ = some (.string y1) ∧ X.cell? ⟨g, off + i * 5 + 2, none⟩ = some (.int .i64 ff) ∧ X.cell? ⟨g, off + i * 5 + 3, none⟩ = some (.int .i64 ee) ∧ X.cell? ⟨g, off + i * 5 + 4, none⟩ = some (.slice aa z0 cc) ∧ X.cell? ⟨g', off' + i * 5, none⟩ = some (.string y2) ∧ X.cell? ⟨g', off' + i * 5 + 1, none⟩ = some (.string y3) ∧ X.cell? ⟨g', off' + i * 5 + 2, none⟩ = some (.int .i64 ff') ∧ X.cell? ⟨g', off' + i * 5 + 3, none⟩ = some (.int .i64 ee') ∧ X.cell? ⟨g', off' + i * 5 + 4, none⟩ = some (.slice aa' z1 cc') := fun X h => ⟨h, cl h k4, cl h l4, cl h j0, cl h j1, cl h j2, cl h j3, cl h j4, cl h m0, cl h m1, cl h m2, cl h m3, cl h m4⟩
        obtain ⟨d0, d1, d2, d3, d4, d5, d6, d7, d8, d9, d10, d11, d12⟩ := hS wr.drew (Below.refl _ _).drew
        have cS : ∀ X, (Below wr.heap.size wr X ∧ X.cell? ⟨w.heap.size, 4, none⟩ = some (.slice (some ⟨g, off, none⟩) n c) ∧ X.cell? ⟨w.heap.size + 1, 4, none⟩ = some (.slice (some ⟨g', off', none⟩) n c') ∧ X.cell? ⟨g, off + i * 5, none⟩ = some (.string y0) ∧ X.cell? ⟨g, off + i * 5 + 1, none⟩ = some (.string y1) ∧ X.cell? ⟨g, off + i * 5 + 2, none⟩ = some (.int .i64 ff) ∧ X.cell? ⟨g, off + i * 5 + 3, none⟩ = some (.int .i64 ee) ∧ X.cell? ⟨g, off + i * 5 + 4, none⟩ = some (.slice aa z0 cc) ∧ X.cell? ⟨g', off' + i * 5, none⟩ = some (.string y2) ∧ X.cell? ⟨g', off' + i * 5 + 1, none⟩ = some (.string y3) ∧ X.cell? ⟨g', off' + i * 5 + 2, none⟩ = some (.int .i64 ff') ∧ X.cell? ⟨g', off' + i * 5 + 3, none⟩ = some (.int .i64 ee') ∧ X.cell? ⟨g', off' + i * 5 + 4, none⟩ = some (.slice aa' z1 cc')) → Calls Tryd.prog 11 #[.agg #[.string y0, .string y1, .int .i64 ff, .int .i64 ee, .slice aa z0 cc], .agg #[.string y2, .string y3, .int .i64 ff', .int .i64 ee', .slice aa' z1 cc']] X fun e w' => e = .returned (.bool b') ∧ Below wr.heap.size wr w' ∧ w'.cell? ⟨w.heap.size, 4, none⟩ = some (.slice (some ⟨g, off, none⟩) n c) ∧ w'.cell? ⟨w.heap.size + 1, 4, none⟩ = some (.slice (some ⟨g', off', none⟩) n c') ∧ w'.cell? ⟨g, off + i * 5, none⟩ = some (.string y0) ∧ w'.cell? ⟨g, off + i * 5 + 1, none⟩ = some (.string y1) ∧ w'.cell? ⟨g, off + i * 5 + 2, none⟩ = some (.int .i64 ff) ∧ w'.cell? ⟨g, off + i * 5 + 3, none⟩ = some (.int .i64 ee) ∧ w'.cell? ⟨g, off + i * 5 + 4, none⟩ = some (.slice aa z0 cc) ∧ w'.cell? ⟨g', off' + i * 5, none⟩ = some (.string y2) ∧ w'.cell? ⟨g', off' + i * 5 + 1, none⟩ = some (.string y3) ∧ w'.cell? ⟨g', off' + i * 5 + 2, none⟩ = some (.int .i64 ff') ∧ w'.cell? ⟨g', off' + i * 5 + 3, none⟩ = some (.int .i64 ee') ∧ w'.cell? ⟨g', off' + i * 5 + 4, none⟩ = some (.slice aa' z1 cc') := fun X hX => (cP X hX.1).mono (fun e w' h => ⟨h.1, hS w' (hX.1.trans (h.2.mono hX.1.size))⟩)
        have HS := Lib.hid hS
        clear hS cl cP k0 k1 k2 k3 k4 kf l0 l1 l2 l3 l4 lf j0 j1 j2 j3 j4 m0 m1 m2 m3 m4
        go_region_held3 (fun X => Below wr.heap.size wr X ∧ X.cell? ⟨w.heap.size, 4, none⟩ = some (.slice (some ⟨g, off, none⟩) n c) ∧ X.cell? ⟨w.heap.size + 1, 4, none⟩ = some (.slice (some ⟨g', off', none⟩) n c') ∧ X.cell? ⟨g, off + i * 5, none⟩ = some (.string y0) ∧ X.cell? ⟨g, off + i * 5 + 1, none⟩ = some (.string y1) ∧ X.cell? ⟨g, off + i * 5 + 2, none⟩ = some (.int .i64 ff) ∧ X.cell? ⟨g, off + i * 5 + 3, none⟩ = some (.int .i64 ee) ∧ X.cell? ⟨g, off + i * 5 + 4, none⟩ = some (.slice aa z0 cc) ∧ X.cell? ⟨g', off' + i * 5, none⟩ = some (.string y2) ∧ X.cell? ⟨g', off' + i * 5 + 1, none⟩ = some (.string y3) ∧ X.cell? ⟨g', off' + i * 5 + 2, none⟩ = some (.int .i64 ff') ∧ X.cell? ⟨g', off' + i * 5 + 3, none⟩ = some (.int .i64 ee') ∧ X.cell? ⟨g', off' + i * 5 + 4, none⟩ = some (.slice aa' z1 cc')) (with_reducible (repeat (first | assumption | refine And.intro ?_ ?_))) (first | (with_reducible refine (cS _ ?_).mono ?_; (with_reducible (repeat (first | assumption | refine And.intro ?_ ?_))); rintro e w2 ⟨rfl, hS2⟩))
        have HB2 := Lib.hid (HB.out.trans (hS2.1.mono hz2))
        clear hS2 cS d0 d1 d2 d3 d4 d5 d6 d7 d8 d9 d10 d11 d12
        cases b' with
        | false =>
          have hI := HI2.out
          rw [Bool.false_and] at hI
          subst hI
          go_wp2_with fail
          go_ret
          exact ⟨rfl, HB1.out.trans (HB2.out.mono HB1.out.size)⟩
        | true =>
          have hI := HI2.out
          rw [Bool.true_and] at hI
          have HI3 := Lib.hid hI
          clear hI HI2
          go_wp2_with fail
          go_roundw
          case rel => exact ⟨i + 1, by go_num, by omega, HI3, HB2⟩
          case measure => simp [Go.RowKit.intOf]; omega
      · obtain rfl : i = n := by omega
        have hI := HI.out
        rw [List.drop_eq_nil_of_le (by rw [HN.out]; exact Nat.le_refl _), List.drop_eq_nil_of_le (by rw [HN'.out]; exact Nat.le_refl _), sameBL] at hI
        subst hI
        clear HI
        go_wp2_with fail
        go_ret
        exact ⟨rfl, HB1.out.trans (HB.out.mono HB1.out.size)⟩

/-! ### How deep -/
theorem deepL_snoc : ∀ (a : List Pt) (p : Pt), deepL (a ++ [p]) = max (deepL a) (deep p)
  | [], p => by rw [List.nil_append, deepL, deepL, deepL]; omega
  | x :: r, p => by rw [List.cons_append, deepL, deepL, deepL_snoc r p]; omega
mutual
theorem deep_wt : ∀ p, deep p ≤ wtP p
  | .mk k t f e ks => by have := deepL_wt ks; rw [deep, wtP]; omega
theorem deepL_wt : ∀ l, deepL l ≤ wtL l
  | [] => by rw [deepL]; exact Nat.zero_le _
  | p :: r => by have := deep_wt p; have := deepL_wt r; rw [deepL, wtL]; omega
end
def DeepC (p : Pt) : Prop := ∀ (lv : Value) (R : Nat → Prop) (w : World), KidsIn w R p lv → wtP p ≤ 1099511627776 →
  Calls Tryd.prog 15 #[arg p lv] w fun e w' => e = .returned (.int .i64 (deep p)) ∧ Below w.heap.size w w'
set_option maxHeartbeats 4000000 in
theorem refDeep_any : ∀ p, DeepC p := Pt.ind fun k t f e ks IH lv R w hv hw => by
  obtain ⟨a, c, rfl⟩ := kids_form hv
  obtain ⟨_, hcap, hrow⟩ := kids_row hv
  have HR := Lib.hid hrow
  have HIH := Lib.hid IH
  rw [wtP] at hw
  have hlb : ks.length ≤ 1099511627776 := Nat.le_trans (wtL_length ks) (by omega)
  have HWM := Lib.hid (fun v (h : v ∈ ks) => Nat.le_trans (wtL_mem h) (show wtL ks ≤ 1099511627776 by omega))
  have HDW := Lib.hid (show deepL ks ≤ 1099511627776 by have := deepL_wt ks; omega)
  have hD : deep (.mk k t f e ks) = deepL ks + 1 := by rw [deep]
  rw [hD]
  obtain ⟨n, hn⟩ : ∃ n, ks.length = n := ⟨_, rfl⟩
  have HN := Lib.hid hn
  simp only [arg, five]
  rw [hn]
  rw [hn] at hlb
  obtain ⟨kb, hkb⟩ : ∃ x, bstr k = x := ⟨_, rfl⟩
  obtain ⟨tb, htb⟩ : ∃ x, bstr t = x := ⟨_, rfl⟩
  rw [hkb, htb]
  clear hv hrow IH hw hn hcap hkb htb hD
  go_enter Tryd.func15, Tryd.ntmps15
  go_wp2_with fail
  obtain ⟨w1, hw1, hq1, hb1, hz1⟩ := new_block w (.cells #[.string kb, .string tb, .int .i64 f, .int .i64 e, .slice a n c] 24)
  rw [hw1]
  have HQ1 := Lib.hid hq1
  have HB1 := Lib.hid hb1
  clear hq1 hb1 hw1
  go_loopw [3, 4] (fun mv iv wr => ∃ i m : Nat, iv = .int .i64 i ∧ mv = .int .i64 m ∧ i ≤ n ∧ Hid (m = deepL (ks.take i)) ∧ Hid (Below w1.heap.size w1 wr)) (fun _ iv _ => n - (Go.RowKit.intOf iv).toNat)
  case atStart => exact ⟨0, 0, rfl, rfl, Nat.zero_le _, Lib.hid (by rw [List.take_zero, deepL]), Lib.hid (Below.refl _ _)⟩
  case round =>
    obtain ⟨i, m, rfl, rfl, hi, HM, HB⟩ := hrel
    have hq := (HB.out.block w.heap.size hz1).trans HQ1.out
    obtain ⟨⟨k0, k1, k2, k3, k4⟩, kf⟩ := cells_five hq
    have hz2 := HB.out.size
    clear hq
    by_cases hlt : i < n
    · have hll : i < ks.length := by rw [HN.out]; exact hlt
      obtain ⟨g, off, xs, rfl, hg, hc, hp⟩ := HR.out.resolve_left (fun h => by rw [h] at hll; exact Nat.not_lt_zero _ hll)
      have hb0 : Below w.heap.size w wr := HB1.out.trans (HB.out.mono HB1.out.size)
      obtain ⟨k', t', f', e', ks', a', c', hK⟩ := kid_at hp hc i hll
      have hK := hK.below hb0
      have cP := (HIH.out ks[i] (List.getElem_mem hll)) (.slice a' ks'.length c') R wr (by rw [hK.eq]; exact hK.kids) (HWM.out _ (List.getElem_mem hll))
      obtain ⟨d', hd'⟩ : ∃ x, deep ks[i] = x := ⟨_, rfl⟩
      have HM2 := Lib.hid (show max m d' = deepL (ks.take (i + 1)) by rw [List.take_succ_eq_append_getElem hll, deepL_snoc, hd', HM.out])
      rw [hd'] at cP
      simp only [hK.eq, arg, five] at cP
      have j0 := hK.k0
      have j1 := hK.k1
      have j2 := hK.k2
      have j3 := hK.k3
      have j4 := hK.k4
      clear hd' hc hp hK hb0 HM
      go_wp2_with fail
      refine cP.mono ?_
      rintro e w2 ⟨rfl, hb2⟩
      have HB2 := Lib.hid (HB.out.trans (hb2.mono HB.out.size))
      clear cP hb2
      have hmx : max (m : Int) (d' : Int) = ((max m d' : Nat) : Int) := by omega
      go_wp2_with fail
      go_roundw
      case rel => exact ⟨i + 1, max m d', by go_num, by first | rfl | rw [hmx], by omega, HM2, HB2⟩
      case measure => simp [Go.RowKit.intOf]; omega
    · obtain rfl : i = n := by omega
      have hM := HM.out
      rw [List.take_of_length_le (by rw [HN.out]; exact Nat.le_refl _)] at hM
      have hmb : m ≤ 1099511627776 := by rw [hM]; exact HDW.out
      have HM3 := Lib.hid hM
      clear HM hM
      go_wp2_with fail
      go_ret
      exact ⟨by rw [← HM3.out]; go_num, HB1.out.trans (HB.out.mono HB1.out.size)⟩
end Go.Proofs.YtnjhmjkonmmomaaDoor.J
end
/- JAlive: The contract of law 10's alive. -/
section
namespace Go.Proofs.YtnjhmjkonmmomaaDoor.J
open Go.RowKit
open Go.Lib hiding intOf
open Go.Proofs.YtnjhmjkonmmomaaDoor.U Go.Proofs.YtnjhmjkonmmomaaDoor.S Go.Proofs.YtnjhmjkonmmomaaDoor.T
open Go.Proofs.YtnjhmjkonmmomaaDoor.K (MTab DeclPost decl_any declP zeroP)

/-- What is read of a declaration that is told. -/
theorem decl_is (s : ByteArray) (p : Pt) (at' er : Int) (h : declP (scanB (okB s) s.toList) s.size = (p, at', er)) (w : World) (hs : s.size ≤ 600) (hT : Tabs w) (hG : MTab w) :
    Calls Tryd.prog 16 #[.string s] w fun e w' => ∃ lv, e = .returned (.tuple #[arg p lv, .int .i64 at', .int .i64 er]) ∧ KidsIn w' (fun _ => True) p lv ∧ Below w.heap.size w w' := by
  refine (decl_any s w hs hT hG).mono ?_
  rintro e w' ⟨q, a, r, lv, h1, h2, h3, h4⟩
  rw [h] at h1
  cases h1
  exact ⟨lv, h2, h3, h4.1⟩
theorem live_told : declP (scanB (okB liveS) liveS.toList) liveS.size = (liveP, 0, 0) := by rw [live_ok]; exact live_is
theorem fail_told : declP (scanB (okB liveF) liveF.toList) liveF.size = (zeroP, 6, 101) := by rw [fail_ok]; exact fail_is
/-- Where the live question's parts stand. -/
theorem live_cells {W : World} {R : Nat → Prop} {a : Option Addr} {c : Nat} (h : KidsIn W R liveP (.slice a 3 c)) :
    ∃ g off g2 off2 g3 off3 g4 off4 c2 c3 c4, a = some ⟨g, off, none⟩ ∧ W.cell? ⟨g, off + 10 + 4, none⟩ = some (.slice (some ⟨g2, off2, none⟩) 2 c2) ∧
      W.cell? ⟨g2, off2, none⟩ = some (.string ⟨#[100, 101, 102, 105, 110, 101]⟩) ∧ W.cell? ⟨g2, off2 + 1, none⟩ = some (.string ⟨#[]⟩) ∧ W.cell? ⟨g2, off2 + 2, none⟩ = some (.int .i64 29) ∧ W.cell? ⟨g2, off2 + 3, none⟩ = some (.int .i64 51) ∧ W.cell? ⟨g2, off2 + 4, none⟩ = some (.slice (some ⟨g3, off3, none⟩) 2 c3) ∧
      W.cell? ⟨g3, off3 + 5 + 1, none⟩ = some (.string ⟨#[42]⟩) ∧ W.cell? ⟨g3, off3 + 5 + 2, none⟩ = some (.int .i64 34) ∧ W.cell? ⟨g3, off3 + 5 + 4, none⟩ = some (.slice (some ⟨g4, off4, none⟩) 2 c4) ∧
      W.cell? ⟨g4, off4 + 2, none⟩ = some (.int .i64 35) := by
  obtain ⟨_, _, h1⟩ := kids_row h
  obtain ⟨g, off, xs, rfl, _, hc, hp⟩ := h1.resolve_left (by simp)
  obtain ⟨k, t, f, e, ks, a2, c2, h2⟩ := kid_at hp hc 2 (by decide)
  have e2 := h2.eq
  cases e2
  obtain ⟨_, _, h3⟩ := kids_row h2.kids
  obtain ⟨g2, off2, xs2, rfl, _, hc2, hp2⟩ := h3.resolve_left (by simp)
  obtain ⟨k3, t3, f3, e3, ks3, a3, c3, h4⟩ := kid_at hp2 hc2 0 (by decide)
  have e4 : liveD = .mk k3 t3 f3 e3 ks3 := h4.eq
  unfold liveD at e4
  cases e4
  obtain ⟨_, _, h5⟩ := kids_row h4.kids
  obtain ⟨g3, off3, xs3, rfl, _, hc3, hp3⟩ := h5.resolve_left (by simp)
  obtain ⟨k5, t5, f5, e5, ks5, a5, c5, h6⟩ := kid_at hp3 hc3 1 (by decide)
  have e6 : liveX = .mk k5 t5 f5 e5 ks5 := h6.eq
  unfold liveX at e6
  cases e6
  obtain ⟨_, _, h7⟩ := kids_row h6.kids
  obtain ⟨g4, off4, xs4, rfl, _, hc4, hp4⟩ := h7.resolve_left (by simp)
  obtain ⟨k7, t7, f7, e7, ks7, a7, c7, h8⟩ := kid_at hp4 hc4 0 (by decide)
  have e8 := h8.eq
  cases e8
  have z0 := h4.k0
  have z1 := h4.k1
  have z2 := h4.k2
  have z3 := h4.k3
  have z4 := h4.k4
  have z5 := h8.k2
  rw [Nat.zero_mul, Nat.add_zero] at z0 z1 z2 z3 z4 z5
  exact ⟨g, off, g2, off2, g3, off3, g4, off4, c2, c3, c5, rfl, h2.k4, z0, z1, z2, z3, z4, h6.k1, h6.k2, h6.k4, z5⟩
theorem live_read (w : World) (hT : Tabs w) (hG : MTab w) : Calls Tryd.prog 16 #[.string liveS] w fun e w' => ∃ a c, e = .returned (.tuple #[.agg #[.string ⟨#[102, 117, 110, 99]⟩, .string ⟨#[102]⟩, .int .i64 0, .int .i64 66, .slice a 3 c], .int .i64 0, .int .i64 0]) ∧ KidsIn w' (fun _ => True) liveP (.slice a 3 c) ∧ Below w.heap.size w w' := by
  refine (decl_is liveS liveP 0 0 live_told w (by decide) hT hG).mono ?_
  rintro e w' ⟨lv, rfl, h1, h2⟩
  obtain ⟨a, c, rfl⟩ := kids_form (show KidsIn w' _ (.mk _ _ _ _ _) lv from h1)
  exact ⟨a, c, rfl, h1, h2⟩
theorem fail_read (w : World) (hT : Tabs w) (hG : MTab w) : Calls Tryd.prog 16 #[.string liveF] w fun e w' => ∃ a c, e = .returned (.tuple #[.agg #[.string ⟨#[]⟩, .string ⟨#[]⟩, .int .i64 0, .int .i64 0, .slice a 0 c], .int .i64 6, .int .i64 101]) ∧ Below w.heap.size w w' := by
  refine (decl_is liveF zeroP 6 101 fail_told w (by decide) hT hG).mono ?_
  rintro e w' ⟨lv, rfl, h1, h2⟩
  obtain ⟨a, c, rfl⟩ := kids_form (show KidsIn w' _ (.mk _ _ _ _ _) lv from h1)
  exact ⟨a, c, rfl, h2⟩
theorem live_wt : wtP liveP ≤ 1099511627776 := by decide
set_option maxHeartbeats 8000000 in
set_option maxRecDepth 20000 in
theorem alive_any (w : World) (hT : Tabs w) (hG : MTab w) : Calls Tryd.prog 8 #[] w fun e w' => e = .returned (.bool true) ∧ Below w.heap.size w w' := by
  have c1 := live_read w hT hG
  have HT := Lib.hid hT
  have HG := Lib.hid hG
  clear hT hG
  go_enter Tryd.func8, Tryd.ntmps8
  go_wp2_with fail
  refine c1.mono ?_
  rintro e w1 ⟨a, c, rfl, hk1, hb1⟩
  have HK1 := Lib.hid hk1
  have HB1 := Lib.hid hb1
  have cD : ∀ X, Below w1.heap.size w1 X → Calls Tryd.prog 14 #[.agg #[.string ⟨#[102, 117, 110, 99]⟩, .string ⟨#[102]⟩, .int .i64 0, .int .i64 66, .slice a 3 c]] X fun e w' => e = .returned (.int .i64 8) ∧ Below X.heap.size X w' := fun X hX => by
    have h := deep_any liveP (kids_below hk1 hX) live_wt
    rw [live_deep] at h
    exact h
  have HD := Lib.hid cD
  clear c1 hk1 hb1 cD
  go_upto_region 2 with fail
  obtain ⟨w2, hw2, hq2, hb2, hz2⟩ := new_block w1 (.cells #[.string ⟨#[102, 117, 110, 99]⟩, .string ⟨#[102]⟩, .int .i64 0, .int .i64 66, .slice a 3 c] 24)
  rw [hw2]
  obtain ⟨B, hB⟩ : ∃ B, w1.heap.size = B := ⟨_, rfl⟩
  have HBE := Lib.hid hB
  rw [hB] at hq2 hb2 hz2 ⊢
  have HQ2 := Lib.hid hq2
  have HB2 := Lib.hid hb2
  have HZ2 := Lib.hid hz2
  have c2 := fail_read w2 (HT.out.later (HB1.out.trans (hb2.mono (by have := HB1.out.size; omega)))) (HG.out.later (HB1.out.trans (hb2.mono (by have := HB1.out.size; omega))))
  clear hw2 hq2 hb2 hz2 hB
  go_wp2_with fail
  refine c2.mono ?_
  rintro e w3 ⟨a', c', rfl, hb3⟩
  have HB3 := Lib.hid (HB2.out.trans (hb3.mono (by rw [← HBE.out]; exact HB2.out.size)))
  have HQ3 := Lib.hid ((hb3.block _ HZ2.out).trans HQ2.out)
  have HZ3 := Lib.hid (Nat.lt_of_lt_of_le HZ2.out hb3.size)
  clear c2 hb3
  go_upto_region 3 with fail
  obtain ⟨w4, hw4, hq4, hb4, hz4⟩ := new_block w3 (.cells #[.string ⟨#[]⟩, .string ⟨#[]⟩, .int .i64 0, .int .i64 0, .slice a' 0 c'] 24)
  rw [hw4]
  have HB4 := Lib.hid (HB3.out.trans (hb4.mono (by rw [← HBE.out]; exact HB3.out.size)))
  have HQ4 := Lib.hid ((hb4.block _ HZ3.out).trans HQ3.out)
  have HZ4 := Lib.hid (Nat.lt_of_lt_of_le HZ3.out hb4.size)
  clear hw4 hq4 hb4 hz4
  obtain ⟨⟨q0, q1, q2, q3, q4⟩, qf⟩ := cells_five HQ4.out
  have hk4 := kids_below HK1.out (show Below w1.heap.size w1 w4 by rw [HBE.out]; exact HB4.out)
  obtain ⟨g, off, g2, off2, g3, off3, g4, off4, c2, c3, c4, rfl, z0, z1, z2, z3, z4, z5, z6, z7, z8, z9⟩ := live_cells hk4
  have HKC : Hid (∀ X, Below w4.heap.size w4 X → X.cell? ⟨g3, off3 + 5 + 1, none⟩ = some (.string ⟨#[42]⟩) ∧ X.cell? ⟨g3, off3 + 5 + 2, none⟩ = some (.int .i64 34) ∧ X.cell? ⟨g3, off3 + 5 + 4, none⟩ = some (.slice (some ⟨g4, off4, none⟩) 2 c4) ∧ X.cell? ⟨g4, off4 + 2, none⟩ = some (.int .i64 35)) := Lib.hid (fun X hX =>
    have cl : ∀ {b o : Nat} {v : Value}, w4.cell? ⟨b, o, none⟩ = some v → X.cell? ⟨b, o, none⟩ = some v := fun h => (hX.cell (World.block_lt_of_cell? w4 _ h)).trans h
    ⟨cl z6, cl z7, cl z8, cl z9⟩)
  clear hk4
  go_upto_region 6 with fail
  obtain ⟨w5, hw5, hq5, hb5, hz5⟩ := new_block w4 (.cells #[.string ⟨#[100, 101, 102, 105, 110, 101]⟩, .string ⟨#[]⟩, .int .i64 29, .int .i64 51, .slice (some ⟨g3, off3, none⟩) 2 c3] 24)
  rw [hw5]
  have HB5 := Lib.hid (HB4.out.trans (hb5.mono (by rw [← HBE.out]; exact HB4.out.size)))
  have hq1 := (hb5.block _ HZ4.out).trans HQ4.out
  have cD5 := HD.out w5 (by rw [HBE.out]; exact HB5.out)
  obtain ⟨⟨q0, q1, q2, q3, q4⟩, qf⟩ := cells_five hq1
  obtain ⟨⟨m0, m1, m2, m3, m4⟩, mf⟩ := cells_five hq5
  obtain ⟨z6, z7, z8, z9⟩ := HKC.out w5 hb5
  clear hw5 hq5 hb5 hz5 hq1 z0 z1 z2 z3 z4 z5
  go_wp2_with fail
  refine cD5.mono ?_
  rintro e w6 ⟨rfl, hb6⟩
  have HB6 := Lib.hid (HB1.out.trans ((show Below w1.heap.size w1 w6 by rw [HBE.out]; exact HB5.out.trans (hb6.mono (by rw [← HBE.out]; exact HB5.out.size))).mono HB1.out.size))
  clear cD5 hb6 m0 m1 m2 m3 m4 q0 q1 q2 q3 q4 z6 z7 z8 z9
  go_wp2_with fail
  go_ret
  exact ⟨rfl, HB6.out⟩
end Go.Proofs.YtnjhmjkonmmomaaDoor.J
end
