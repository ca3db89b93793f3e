/- The contracts of slices.Equal at keys, and of same. -/
import Derived.Test.YtfjdeacpdcnjpaaGreatDoorVRightP
namespace Go.Proofs.YtfjdeacpdcnjpaaGreatDoor.V
open Go.RowKit
open Go.Lib

theorem bytes_inj {a b : List UInt8} : ((⟨a.toArray⟩ : ByteArray) = ⟨b.toArray⟩) ↔ a = b := by
  constructor
  · intro h
    have h1 := congrArg (fun x : ByteArray => x.data.toList) h
    simpa using h1
  · intro h; rw [h]
theorem keys_map_inj {a b : List (List UInt8)} (h : a.map (fun k => (⟨k.toArray⟩ : ByteArray)) = b.map (fun k => (⟨k.toArray⟩ : ByteArray))) : a = b := by
  have h1 := congrArg (List.map fun x : ByteArray => x.data.toList) h
  simpa [List.map_map, Function.comp_def] using h1

theorem keys_equal {W : World} {R R' : Nat → Prop} {ks ks' : List (List UInt8)} {kv kv' : Value} (h : KeysIn W R ks kv) (h' : KeysIn W R' ks' kv') (hb : ks.length ≤ 1099511627776) (hb' : ks'.length ≤ 1099511627776) :
    Calls Tryz.prog 46 #[kv, kv'] W fun e w' => e = .returned (.bool (decide (ks = ks'))) ∧ Below W.heap.size W w' := by
  obtain ⟨a, c, rfl, h1⟩ := h
  obtain ⟨a', c', rfl, h1'⟩ := h'
  by_cases hl : ks.length = ks'.length
  · by_cases h0 : ks = []
    · subst h0
      obtain rfl : ks' = [] := List.eq_nil_of_length_eq_zero (by simpa using hl.symm)
      exact (Tryz.slices_Equal_string_empty a a' c 0 c' W (by omega)).mono fun e w' ⟨h1, h2⟩ => ⟨by simpa using h1, by rw [h2]; exact Below.refl _ _⟩
    · have h0' : ks' ≠ [] := by intro h; rw [h] at hl; exact h0 (List.eq_nil_of_length_eq_zero hl)
      obtain ⟨g, o, rfl, _, hc⟩ := h1.resolve_left h0
      obtain ⟨g', o', rfl, _, hc'⟩ := h1'.resolve_left h0'
      refine (Tryz.slices_Equal_string g o ks.length c g' o' ks'.length c' (ks.map fun k => ⟨k.toArray⟩) (ks'.map fun k => ⟨k.toArray⟩) W (by simp) (by simp) (by omega) (by omega) ?_ ?_).mono ?_
      · intro j hj
        exact hc j _ (by simp at hj; simp [hj, strCell])
      · intro j hj
        exact hc' j _ (by simp at hj; simp [hj, strCell])
      · rintro e w' ⟨rfl, q, rfl⟩
        refine ⟨?_, ⟨rfl, rfl, rfl, Nat.le_refl _, fun _ _ => rfl⟩⟩
        rw [List.take_of_length_le (by simp), List.take_of_length_le (by simp)]
        congr 2
        rw [decide_eq_decide]
        exact ⟨fun h => keys_map_inj h, fun h => by rw [h]⟩
  · refine (Tryz.slices_Equal_string_lens a a' ks.length c ks'.length c' W hl).mono fun e w' ⟨h1, h2⟩ => ⟨?_, by rw [h2]; exact Below.refl _ _⟩
    rw [h1]
    congr 2
    exact (decide_eq_false (fun h => hl (by rw [h]))).symm

theorem two (w : World) (o1 o2 : Obj) : ((w.alloc o1).alloc o2).heap[w.heap.size]? = some o1 ∧ ((w.alloc o1).alloc o2).heap[w.heap.size + 1]? = some o2 ∧ Below w.heap.size w ((w.alloc o1).alloc o2) ∧ ((w.alloc o1).alloc o2).heap.size = w.heap.size + 2 := by
  have s1 : (w.alloc o1).heap.size = w.heap.size + 1 := by simp
  refine ⟨?_, ?_, ((Below.refl _ _).alloc (Nat.le_refl _) _).alloc (by omega) _, by simp⟩
  · rw [Below.heap_alloc _ _ _ (by omega)]; exact heap_alloc_new w o1
  · rw [← s1]; exact heap_alloc_new _ o2

theorem parts_of {W : World} {R : Nat → Prop} {so n : Int} {on : Bool} {t : List UInt8} {l : List Val} {ks : List (List UInt8)} {a : Option Addr} {c : Nat} {kv : Value} (h : ValIn W R (.mk so on n t l ks) (.slice a l.length c) kv) :
    l = [] ∨ ∃ g off xs, a = some ⟨g, off, none⟩ ∧ R g ∧ CellsAt W g off xs ∧ ListIn W R l xs := by
  obtain ⟨⟨a', c', h1, h2⟩, _⟩ := h
  cases h1
  exact h2

mutual
def sameP : Val → Val → Bool
  | .mk so on n t l ks, .mk so' on' n' t' l' ks' => so == so' && on == on' && n == n' && t == t' && decide (ks = ks') && sameLs l l'
def sameLs : List Val → List Val → Bool
  | [], [] => true
  | v :: r, v' :: r' => sameP v v' && sameLs r r'
  | _, _ => false
end

/-- The contract of same at a value. -/
def SameC (v : Val) : Prop := ∀ (v' : Val) (lv kv lv' kv' : Value) (R R' : Nat → Prop) (w : World), ValIn w R v lv kv → ValIn w R' v' lv' kv' → wt v ≤ 1099511627776 → wt v' ≤ 1099511627776 →
  Calls Tryz.prog 27 #[arg v lv kv, arg v' lv' kv'] w fun e w' => e = .returned (.bool (sameP v v')) ∧ Below w.heap.size w w'

theorem sameLs_len : ∀ {l l' : List Val}, l.length ≠ l'.length → sameLs l l' = false
  | [], [], h => absurd rfl h
  | [], _ :: _, _ => by simp [sameLs]
  | _ :: _, [], _ => by simp [sameLs]
  | v :: r, v' :: r', h => by
    have := @sameLs_len r r' (by simpa using h)
    simp [sameLs, this]
theorem sameLs_drop {l l' : List Val} {i : Nat} (h : i < l.length) (h' : i < l'.length) : sameLs (l.drop i) (l'.drop i) = (sameP l[i] l'[i] && sameLs (l.drop (i + 1)) (l'.drop (i + 1))) := by
  rw [List.drop_eq_getElem_cons h, List.drop_eq_getElem_cons h']; simp only [sameLs]

set_option maxHeartbeats 4000000 in
theorem lists_same (l l' : List Val) (IH : ∀ v ∈ l, SameC v) (a1 a1' : Option Addr) (c1 c1' : Nat) (R R' : Nat → Prop) (w : World)
    (hl : l = [] ∨ ∃ g off xs, a1 = some ⟨g, off, none⟩ ∧ R g ∧ CellsAt w g off xs ∧ ListIn w R l xs) (hl' : l' = [] ∨ ∃ g off xs, a1' = some ⟨g, off, none⟩ ∧ R' g ∧ CellsAt w g off xs ∧ ListIn w R' l' xs)
    (hwl : wtL l ≤ 1099511627776) (hwl' : wtL l' ≤ 1099511627776) :
    Calls Tryz.prog 47 #[.slice a1 l.length c1, .slice a1' l'.length c1', .func (.func 27) #[] #[]] w fun e w' => e = .returned (.bool (sameLs l l')) ∧ Below w.heap.size w w' := by
  have hlb : l.length ≤ 1099511627776 := Nat.le_trans (wtL_length l) hwl
  have hlb' : l'.length ≤ 1099511627776 := Nat.le_trans (wtL_length l') hwl'
  by_cases hlen : l.length = l'.length
  · have HL := Lib.hid hl
    have HL' := Lib.hid hl'
    have HIH := Lib.hid IH
    have HWM := Lib.hid (fun v (h : v ∈ l) => Nat.le_trans (wtL_mem h) hwl)
    have HWM' := Lib.hid (fun v (h : v ∈ l') => Nat.le_trans (wtL_mem h) hwl')
    obtain ⟨R1, hR1⟩ : ∃ r, sameLs l l' = r := ⟨_, rfl⟩
    rw [hR1]
    have HR := Lib.hid (show sameLs (l.drop 0) (l'.drop 0) = R1 from hR1)
    obtain ⟨ln, hln⟩ : ∃ k, l.length = k := ⟨_, rfl⟩
    have HLN := Lib.hid hln
    have HLN' := Lib.hid (hlen.symm.trans hln)
    have HB0 := Lib.hid (Below.refl w.heap.size w)
    rw [← hlen, hln]
    rw [hln] at hlb
    clear hl hl' IH hwl hwl' hR1 hln hlen hlb'
    go_enter Tryz.func47, Tryz.ntmps47
    go_wp2_with fail
    go_loopw [17] (fun iv wr => ∃ i : Nat, iv = .int .i64 i ∧ i ≤ ln ∧ Hid (sameLs (l.drop i) (l'.drop i) = R1) ∧ Hid (Below w.heap.size w wr)) (fun iv _ => ln - (Go.RowKit.intOf iv).toNat)
    case atStart => exact ⟨0, rfl, by omega, HR, HB0⟩
    case round =>
      obtain ⟨i, rfl, hi, HI, HB⟩ := hrel
      by_cases hlt : i < ln
      · have hll : i < l.length := by rw [HLN.out]; exact hlt
        have hll' : i < l'.length := by rw [HLN'.out]; exact hlt
        obtain ⟨g, off, xs, rfl, hg, hc, hL⟩ := HL.out.resolve_left (fun h => by rw [h] at hll; exact Nat.not_lt_zero _ hll)
        obtain ⟨g', off', xs', rfl, hg', hc', hL'⟩ := HL'.out.resolve_left (fun h => by rw [h] at hll'; exact Nat.not_lt_zero _ hll')
        have hsm : ∀ Q, Same Q w wr := fun _ b _ hb => HB.out.block b hb
        obtain ⟨so1, on1, n1, t1, l1, ks1, b1, d1, b2, d2, he, hv, k0, k1, k2, k3, k4, k5⟩ := part_at i (ListIn.later (hsm R) (fun _ h => h) l xs hL) (hc.later hg (hsm R)) hll
        obtain ⟨so1', on1', n1', t1', l1', ks1', b1', d1', b2', d2', he', hv', j0, j1, j2, j3, j4, j5⟩ := part_at i (ListIn.later (hsm R') (fun _ h => h) l' xs' hL') (hc'.later hg' (hsm R')) hll'
        have hgl : g' < wr.heap.size := lt_of_cell j0
        have hcell : ∀ {o : Nat} {v : Value} (ob : Obj), wr.cell? ⟨g', o, none⟩ = some v → (wr.alloc ob).cell? ⟨g', o, none⟩ = some v := fun ob hv => (((Below.refl wr.heap.size wr).alloc (Nat.le_refl _) ob).cell hgl).trans hv
        have m0 := hcell (.cells #[.int .i64 so1, .bool on1, .int .i64 n1, .string ⟨t1.toArray⟩, .slice b1 l1.length d1, .slice b2 ks1.length d2] 34) j0
        have m1 := hcell (.cells #[.int .i64 so1, .bool on1, .int .i64 n1, .string ⟨t1.toArray⟩, .slice b1 l1.length d1, .slice b2 ks1.length d2] 34) j1
        have m2 := hcell (.cells #[.int .i64 so1, .bool on1, .int .i64 n1, .string ⟨t1.toArray⟩, .slice b1 l1.length d1, .slice b2 ks1.length d2] 34) j2
        have m3 := hcell (.cells #[.int .i64 so1, .bool on1, .int .i64 n1, .string ⟨t1.toArray⟩, .slice b1 l1.length d1, .slice b2 ks1.length d2] 34) j3
        have m4 := hcell (.cells #[.int .i64 so1, .bool on1, .int .i64 n1, .string ⟨t1.toArray⟩, .slice b1 l1.length d1, .slice b2 ks1.length d2] 34) j4
        have m5 := hcell (.cells #[.int .i64 so1, .bool on1, .int .i64 n1, .string ⟨t1.toArray⟩, .slice b1 l1.length d1, .slice b2 ks1.length d2] 34) j5
        have hdr := sameLs_drop hll hll'
        rw [HI.out, he, he'] at hdr
        have cP := fun W' (hb' : Below wr.heap.size wr W') => (HIH.out l[i] (List.getElem_mem hll)) l'[i] (.slice b1 l1.length d1) (.slice b2 ks1.length d2) (.slice b1' l1'.length d1') (.slice b2' ks1'.length d2') R R' W'
          (by rw [he]; exact ValIn.later (fun b _ hb => hb'.block b hb) (fun _ h => h) _ _ _ hv) (by rw [he']; exact ValIn.later (fun b _ hb => hb'.block b hb) (fun _ h => h) _ _ _ hv') (HWM.out _ (List.getElem_mem hll)) (HWM'.out _ (List.getElem_mem hll'))
        rw [he, he'] at cP
        obtain ⟨b0, hb0⟩ : ∃ b, sameP (.mk so1 on1 n1 t1 l1 ks1) (.mk so1' on1' n1' t1' l1' ks1') = b := ⟨_, rfl⟩
        rw [hb0] at hdr
        simp only [hb0, arg, six', six, strCell] at cP
        have HDR := Lib.hid hdr
        clear hdr he he' hv hv' hb0 hsm hL hc hL' hc' hcell j0 j1 j2 j3 j4 j5
        go_wp2_with fail
        obtain ⟨_, _, tb, tz⟩ := two wr (.cells #[.int .i64 so1, .bool on1, .int .i64 n1, .string ⟨t1.toArray⟩, .slice b1 l1.length d1, .slice b2 ks1.length d2] 34) (.cells #[.int .i64 so1', .bool on1', .int .i64 n1', .string ⟨t1'.toArray⟩, .slice b1' l1'.length d1', .slice b2' ks1'.length d2'] 34)
        refine (cP _ tb).mono ?_
        rintro e w2 ⟨rfl, hb2⟩
        have HB2 := Lib.hid (HB.out.trans ((tb.trans (hb2.mono (by omega))).mono HB.out.size))
        clear cP hb2 tb tz
        cases b0 with
        | false =>
          go_wp2_with fail
          go_ret
          exact ⟨by rw [HDR.out]; rfl, HB2.out⟩
        | true =>
          go_wp2_with fail
          go_roundw
          case rel => exact ⟨i + 1, by go_num, by omega, Lib.hid (by rw [HDR.out, Bool.true_and]), HB2⟩
          case measure => simp [Go.RowKit.intOf]; omega
      · go_wp2_with fail
        go_ret
        refine ⟨?_, HB.out⟩
        obtain rfl : i = ln := by omega
        have h := HI.out
        rw [List.drop_eq_nil_of_le (by rw [HLN.out]; exact Nat.le_refl _), List.drop_eq_nil_of_le (by rw [HLN'.out]; exact Nat.le_refl _)] at h
        rw [← h]; simp [sameLs]
  · rw [sameLs_len hlen]
    have q : ((l.length : Int) == (l'.length : Int)) = false := by simp; omega
    have q2 : ((l.length : Int) != (l'.length : Int)) = true := by simp; omega
    clear hl hl' IH hwl hwl' hlen
    go_enter Tryz.func47, Tryz.ntmps47
    go_wp2_with fail
    go_ret
    exact ⟨rfl, Below.refl _ _⟩

set_option maxHeartbeats 2000000 in
theorem same_v : ∀ v, SameC v := Val.ind fun so on n t l ks IH => fun
  | .mk so' on' n' t' l' ks', lv, kv, lv', kv', R, R', w, hv, hv', hw, hw' => by
    have hW : ∀ {X : World}, Below w.heap.size w X → ValIn X R (.mk so on n t l ks) lv kv ∧ ValIn X R' (.mk so' on' n' t' l' ks') lv' kv' := fun hb => ⟨hv.later (fun b _ hlt => hb.block b hlt) (fun _ h => h) _ _ _, hv'.later (fun b _ hlt => hb.block b hlt) (fun _ h => h) _ _ _⟩
    obtain ⟨⟨a1, c1, rfl, _⟩, ⟨a2, c2, rfl, _⟩⟩ := hv
    obtain ⟨⟨a1', c1', rfl, _⟩, ⟨a2', c2', rfl, _⟩⟩ := hv'
    have hw2 := hw
    have hw2' := hw'
    simp only [wt] at hw2 hw2'
    have hkl := wt_keys ks
    have hkl' := wt_keys ks'
    have hll := wtL_length l
    have hll' := wtL_length l'
    by_cases h : so = so' ∧ on = on' ∧ n = n' ∧ t = t'
    · obtain ⟨rfl, rfl, rfl, rfl⟩ := h
      have hres : sameP (.mk so on n t l ks) (.mk so on n t l' ks') = (decide (ks = ks') && sameLs l l') := by simp [sameP]
      rw [hres]
      have cE := fun X (hb : Below w.heap.size w X) => keys_equal (hW hb).1.2 (hW hb).2.2 (by omega) (by omega)
      have HLS := Lib.hid (fun X (hb : Below w.heap.size w X) => lists_same l l' IH a1 a1' c1 c1' R R' X (parts_of (hW hb).1) (parts_of (hW hb).2) (by omega) (by omega))
      simp only [arg, six', six, strCell]
      generalize decide (ks = ks') = b1 at cE ⊢
      have hlb : l.length ≤ 1099511627776 := by omega
      have hlb' : l'.length ≤ 1099511627776 := by omega
      clear hres hw hw' hw2 hw2' hkl hkl' hll hll'
      go_enter Tryz.func27, Tryz.ntmps27
      go_wp2_with fail
      refine (cE _ (((Below.refl _ _).alloc (Nat.le_refl _) _).alloc (by simp) _)).mono ?_
      rintro e w1 ⟨rfl, hb1⟩
      obtain ⟨t1, t2, tb, tz⟩ := two w (.cells #[Value.int IntKind.i64 so, Value.bool on, Value.int IntKind.i64 n, Value.string { data := t.toArray }, Value.slice a1 l.length c1, Value.slice a2 ks.length c2] 34) (.cells #[Value.int IntKind.i64 so, Value.bool on, Value.int IntKind.i64 n, Value.string { data := t.toArray }, Value.slice a1' l'.length c1', Value.slice a2' ks'.length c2'] 34)
      have HB1 := Lib.hid (tb.trans (hb1.mono (by omega)))
      have hx := (hb1.block w.heap.size (by omega)).trans t1
      have hy := (hb1.block (w.heap.size + 1) (by omega)).trans t2
      obtain ⟨⟨j0, j1, j2, j3, j4, j5⟩, jf⟩ := cells_six hx
      obtain ⟨⟨k0, k1, k2, k3, k4, k5⟩, kf⟩ := cells_six hy
      clear cE hb1 hx hy t1 t2 tb tz
      cases b1 with
      | false =>
        go_wp2_with fail
        go_ret
        exact ⟨rfl, HB1.out⟩
      | true =>
        have cL := HLS.out w1 HB1.out
        go_wp2_with fail
        refine cL.mono ?_
        rintro e w2 ⟨rfl, hb2⟩
        have HB2 := Lib.hid (HB1.out.trans (hb2.mono HB1.out.size))
        clear cL hb2
        go_wp2_with fail
        go_ret
        exact ⟨rfl, HB2.out⟩
    · have HH := Lib.hid h
      simp only [arg, six', six, strCell]
      clear h hW hw hw' hw2 hw2' hkl hkl' hll hll' IH
      go_enter Tryz.func27, Tryz.ntmps27
      go_wp2_with fail
      all_goals first
        | (go_ret; refine ⟨?_, ((Below.refl _ _).alloc (Nat.le_refl _) _).alloc (by simp) _⟩; simp_all [sameP]; done)
        | exact absurd HH.out (by simp_all)
end Go.Proofs.YtfjdeacpdcnjpaaGreatDoor.V
