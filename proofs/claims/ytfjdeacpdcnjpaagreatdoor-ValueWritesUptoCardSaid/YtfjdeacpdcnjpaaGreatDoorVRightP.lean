/- The contracts of right, and of Right. -/
import Derived.Test.YtfjdeacpdcnjpaaGreatDoorVRightK
namespace Go.Proofs.YtfjdeacpdcnjpaaGreatDoor.V
open Go.RowKit
open Go.Lib

def inP (n : Int) : Bool := decide (-9007199254740992 ≤ n ∧ n ≤ 9007199254740992)
mutual
def rightP : Val → Bool
  | .mk so on n t l ks => elseP (.mk so on n t l ks) && (if so = 0 ∨ so = 1 then true else if so = 2 then inP n else if so = 3 then okP t else if so = 4 then rightPs l else if so = 5 then ks.length == l.length && keysP ks [] && rightPs l else false)
def rightPs : List Val → Bool
  | [] => true
  | v :: r => rightP v && rightPs r
end
theorem rightPs_drop {l : List Val} {k : Nat} (hk : k < l.length) : rightPs (l.drop k) = (rightP l[k] && rightPs (l.drop (k + 1))) := by
  rw [List.drop_eq_getElem_cons hk]; simp only [rightPs]

/-- The contract of right at a value. -/
def RightC (v : Val) : Prop := ∀ (lv kv : Value) (R : Nat → Prop) (w : World), ValIn w R v lv kv → wt v ≤ 1099511627776 → EnvW w →
  Calls Tryz.prog 24 #[arg v lv kv] w fun e w' => e = .returned (.bool (rightP v)) ∧ Below w.heap.size w w'

set_option maxHeartbeats 2000000 in
theorem parts_right (l : List Val) (IH : ∀ v ∈ l, RightC v) (a1 : Option Addr) (c1 : Nat) (R : Nat → Prop) (w : World)
    (hl : l = [] ∨ ∃ g off xs, a1 = some ⟨g, off, none⟩ ∧ R g ∧ CellsAt w g off xs ∧ ListIn w R l xs) (hwl : wtL l ≤ 1099511627776) (hE : EnvW w) :
    Calls Tryz.prog 43 #[.slice a1 l.length c1] w fun e w' => e = .returned (.bool (rightPs l)) ∧ Below w.heap.size w w' := by
  have HL := Lib.hid hl
  have HIH := Lib.hid IH
  have HE := Lib.hid hE
  have HWM := Lib.hid (fun v (h : v ∈ l) => Nat.le_trans (wtL_mem h) hwl)
  have hlb : l.length ≤ 1099511627776 := Nat.le_trans (wtL_length l) hwl
  obtain ⟨R1, hR1⟩ : ∃ r, rightPs l = r := ⟨_, rfl⟩
  rw [hR1]
  have HR := Lib.hid (show rightPs (l.drop 0) = R1 from hR1)
  obtain ⟨ln, hln⟩ : ∃ k, l.length = k := ⟨_, rfl⟩
  have HLN := Lib.hid hln
  have HB0 := Lib.hid (Below.refl w.heap.size w)
  rw [hln] at hlb ⊢
  clear hl IH hE hwl hR1 hln
  go_enter Tryz.func43, Tryz.ntmps43
  go_wp2_with fail
  go_loopw [7] (fun iv wr => ∃ i : Nat, iv = .int .i64 i ∧ i ≤ ln ∧ Hid (rightPs (l.drop i) = R1) ∧ Hid (Below w.heap.size w wr)) (fun iv _ => ln - (Go.RowKit.intOf iv).toNat)
  case atStart => exact ⟨0, rfl, by omega, HR, HB0⟩
  case round =>
    obtain ⟨i, rfl, hi, HI, HB⟩ := hrel
    by_cases hlt : i < ln
    · have hll : i < l.length := by rw [HLN.out]; exact hlt
      obtain ⟨g, off, xs, rfl, hg, hc, hL⟩ := HL.out.resolve_left (fun h => by rw [h] at hll; exact Nat.not_lt_zero _ hll)
      have hsm : Same R w wr := fun b _ hb => HB.out.block b hb
      obtain ⟨so', on', n', t', l', ks', a1', c1', a2', c2', he, hv', k0, k1, k2, k3, k4, k5⟩ := part_at i (ListIn.later hsm (fun _ h => h) l xs hL) (hc.later hg hsm) hll
      have hdr := rightPs_drop hll
      rw [HI.out, he] at hdr
      have cP := fun W' (hb' : Below wr.heap.size wr W') => (HIH.out l[i] (List.getElem_mem hll)) (.slice a1' l'.length c1') (.slice a2' ks'.length c2') R W' (by rw [he]; exact ValIn.later (fun b _ hb => hb'.block b hb) (fun _ h => h) _ _ _ hv') (HWM.out _ (List.getElem_mem hll)) (HE.out.later (HB.out.trans (hb'.mono HB.out.size)))
      rw [he] at cP
      obtain ⟨b1, hb1⟩ : ∃ b, rightP (.mk so' on' n' t' l' ks') = b := ⟨_, rfl⟩
      rw [hb1] at hdr
      simp only [hb1, arg, six', six, strCell] at cP
      have HDR := Lib.hid hdr
      clear hdr he hv' hb1 hsm hL hc
      go_wp2_with fail
      refine (cP _ ((Below.refl _ _).alloc (Nat.le_refl _) _)).mono ?_
      rintro e w2 ⟨rfl, hb2⟩
      have HB2 := Lib.hid (HB.out.trans ((((Below.refl wr.heap.size wr).alloc (Nat.le_refl _) _).trans (hb2.mono (by simp))).mono HB.out.size))
      clear cP hb2
      cases b1 with
      | false =>
        go_wp2_with fail
        go_ret
        exact ⟨by rw [HDR.out]; rfl, HB2.out⟩
      | true =>
        go_wp2_with fail
        go_roundw
        case rel => exact ⟨i + 1, by go_num, by omega, Lib.hid (by rw [HDR.out, Bool.true_and]), HB2⟩
        case measure => simp [Go.RowKit.intOf]; omega
    · go_wp2_with fail
      go_ret
      refine ⟨?_, HB.out⟩
      obtain rfl : i = ln := by omega
      have h := HI.out
      rw [← HLN.out, List.drop_length] at h
      rw [← h]; rfl

set_option maxHeartbeats 2000000 in
theorem right_v : ∀ v, RightC v := Val.ind fun so on n t l ks IH lv kv R w hv hw hE => by
  have hv' := hv
  obtain ⟨⟨a1, c1, rfl, hl⟩, hk⟩ := hv'
  have hk' := hk
  obtain ⟨a2, c2, rfl, _⟩ := hk'
  have hw2 := hw
  simp only [wt] at hw2
  have hkl := wt_keys ks
  have hll := wtL_length l
  have cE := fun W => else_any so on n t l ks a1 a2 c1 c2 W (by omega) (by omega) (by omega)
  have HE := Lib.hid hE
  have HV := Lib.hid hl
  have HK := Lib.hid hk
  have hwl : wtL l ≤ 1099511627776 := by omega
  have hwk : (ks.map fun k => k.length + 1).sum ≤ 1099511627776 := by omega
  have htb : t.length ≤ 1099511627776 := by omega
  have cP := fun W (hb : Below w.heap.size w W) => parts_right l IH a1 c1 R W (by
    refine hl.imp id fun ⟨g, off, xs, h1, h2, h3, h4⟩ => ⟨g, off, xs, h1, h2, h3.later h2 (fun b _ hb' => hb.block b hb'), ListIn.later (fun b _ hb' => hb.block b hb') (fun _ h => h) _ _ h4⟩) hwl (hE.later hb)
  have cK := fun W (hb : Below w.heap.size w W) => keys_any ks (.slice a2 ks.length c2) R W (hk.later (fun b _ hb' => hb.block b hb') (fun _ h => h)) hwk (hE.later hb)
  have cT := fun W (hb : Below w.heap.size w W) => right_any ⟨t.toArray⟩ W (by rw [size_mk]; exact htb) (hE.later hb)
  have HP := Lib.hid cP
  have HKK := Lib.hid cK
  have HT := Lib.hid cT
  obtain ⟨R1, hR1⟩ : ∃ r, rightP (.mk so on n t l ks) = r := ⟨_, rfl⟩
  rw [hR1]
  simp only [rightP] at hR1
  obtain ⟨e1, he1⟩ : ∃ r, elseP (.mk so on n t l ks) = r := ⟨_, rfl⟩
  rw [he1] at hR1
  simp only [he1] at cE
  have hA := Lib.hid (show arg (.mk so on n t l ks) (.slice a1 l.length c1) (.slice a2 ks.length c2) = _ from rfl)
  simp only [arg, six', six, strCell] at cE ⊢
  have HR := Lib.hid hR1
  clear hv hk hl hE hw hw2 cP cK cT he1 hR1 IH HV HK HE hA
  go_enter Tryz.func24, Tryz.ntmps24
  go_wp2_with fail
  refine (cE _).mono ?_
  rintro e w1 ⟨rfl, hb1⟩
  have HB1 := Lib.hid (((Below.refl w.heap.size w).alloc (Nat.le_refl _) _).trans (hb1.mono (by simp)))
  have hblk := (hb1.block w.heap.size (by simp)).trans (heap_alloc_new w _)
  obtain ⟨⟨k0, k1, k2, k3, k4, k5⟩, kf⟩ := cells_six hblk
  clear cE hb1 hblk
  cases e1 with
  | false =>
    go_wp2_with fail
    go_ret
    exact ⟨by rw [← HR.out]; rfl, HB1.out⟩
  | true =>
    by_cases h0 : so = 0
    · subst h0
      go_wp2_with fail
      go_ret
      exact ⟨by rw [← HR.out]; rfl, HB1.out⟩
    by_cases h1 : so = 1
    · subst h1
      go_wp2_with fail
      go_ret
      exact ⟨by rw [← HR.out]; rfl, HB1.out⟩
    have q0 : (so == 0) = false := by simpa using h0
    have q1 : (so == 1) = false := by simpa using h1
    by_cases h2 : so = 2
    · subst h2
      by_cases hn : -9007199254740992 ≤ n ∧ n ≤ 9007199254740992
      · have cN := inRange_yes n w1 hn
        have HN := Lib.hid (show inP n = true from decide_eq_true hn)
        clear hn
        go_wp2_with fail
        refine cN.mono ?_
        rintro e w2 ⟨rfl, rfl⟩
        clear cN
        go_wp2_with fail
        go_ret
        exact ⟨by rw [← HR.out]; simp [HN.out], HB1.out⟩
      · have cN := inRange_no n w1 hn
        have HN := Lib.hid (show inP n = false from decide_eq_false hn)
        clear hn
        go_wp2_with fail
        refine cN.mono ?_
        rintro e w2 ⟨rfl, rfl⟩
        clear cN
        go_wp2_with fail
        go_ret
        exact ⟨by rw [← HR.out]; simp [HN.out], HB1.out⟩
    have q2 : (so == 2) = false := by simpa using h2
    by_cases h3 : so = 3
    · subst h3
      have cT := HT.out w1 HB1.out
      go_wp2_with fail
      refine cT.mono ?_
      rintro e w2 ⟨rfl, hb2⟩
      have HB2 := Lib.hid (HB1.out.trans (hb2.mono HB1.out.size))
      clear cT hb2
      go_wp2_with fail
      go_ret
      exact ⟨by rw [← HR.out]; rfl, HB2.out⟩
    have q3 : (so == 3) = false := by simpa using h3
    by_cases h4 : so = 4
    · subst h4
      have cT := HP.out w1 HB1.out
      go_wp2_with fail
      refine cT.mono ?_
      rintro e w2 ⟨rfl, hb2⟩
      have HB2 := Lib.hid (HB1.out.trans (hb2.mono HB1.out.size))
      clear cT hb2
      go_wp2_with fail
      go_ret
      exact ⟨by rw [← HR.out]; rfl, HB2.out⟩
    have q4 : (so == 4) = false := by simpa using h4
    by_cases h5 : so = 5
    · subst h5
      by_cases hlen : ks.length = l.length
      · have cK := HKK.out w1 HB1.out
        rw [hlen] at k5 cK
        have HLN := Lib.hid hlen
        obtain ⟨b2, hb2⟩ : ∃ b, keysP ks [] = b := ⟨_, rfl⟩
        have HK2 := Lib.hid hb2
        rw [hb2] at cK
        clear hb2 hlen
        go_wp2_with fail
        refine cK.mono ?_
        rintro e w2 ⟨rfl, hb2⟩
        have HB2 := Lib.hid (HB1.out.trans (hb2.mono HB1.out.size))
        have hblk := fun i => hb2.cell (p := ⟨w.heap.size, i, none⟩) (show w.heap.size < w1.heap.size from lt_of_cell k0)
        have j4 := (hblk 4).trans k4
        clear cK hb2 hblk
        cases b2 with
        | false =>
          go_wp2_with fail
          go_ret
          exact ⟨by rw [← HR.out, HK2.out]; simp, HB2.out⟩
        | true =>
          have cT := HP.out w2 HB2.out
          go_wp2_with fail
          refine cT.mono ?_
          rintro e w3 ⟨rfl, hb3⟩
          have HB3 := Lib.hid (HB2.out.trans (hb3.mono HB2.out.size))
          clear cT hb3
          go_wp2_with fail
          go_ret
          exact ⟨by rw [← HR.out, HK2.out]; simp [HLN.out], HB3.out⟩
      · have hq : ((ks.length : Int) == (l.length : Int)) = false := by simp; omega
        have HLN := Lib.hid (show (ks.length == l.length) = false by simpa using hlen)
        clear hlen
        go_wp2_with fail
        go_ret
        exact ⟨by rw [← HR.out, HLN.out]; rfl, HB1.out⟩
    have q5 : (so == 5) = false := by simpa using h5
    go_wp2_with fail
    go_ret
    exact ⟨by rw [← HR.out]; simp [h0, h1, h2, h3, h4, h5], HB1.out⟩

/-- What Right answers. -/
def rightTop (v : Val) : Bool := nestP v 20 && rightP v

set_option maxHeartbeats 1000000 in
theorem right_top (so : Int) (on : Bool) (n : Int) (t : List UInt8) (l : List Val) (ks : List (List UInt8)) (lv kv : Value) (R : Nat → Prop) (w : World) (hv : ValIn w R (.mk so on n t l ks) lv kv) (hw : wt (.mk so on n t l ks) ≤ 1099511627776) (hE : EnvW w) :
    Calls Tryz.prog 13 #[arg (.mk so on n t l ks) lv kv] w fun e w' => e = .returned (.bool (rightTop (.mk so on n t l ks))) ∧ Below w.heap.size w w' := by
  have cN := fun W (hb : Below w.heap.size w W) => nest_any (.mk so on n t l ks) lv kv R 20 W (hv.later (fun b _ hb' => hb.block b hb') (fun _ h => h) _ _ _) (by omega) hw
  have cR := fun W (hb : Below w.heap.size w W) => right_v (.mk so on n t l ks) lv kv R W (hv.later (fun b _ hb' => hb.block b hb') (fun _ h => h) _ _ _) hw (hE.later hb)
  have hv' := hv
  obtain ⟨⟨a1, c1, rfl, _⟩, ⟨a2, c2, rfl, _⟩⟩ := hv'
  unfold rightTop
  generalize nestP (.mk so on n t l ks) 20 = b1 at cN ⊢
  generalize rightP (.mk so on n t l ks) = b2 at cR ⊢
  simp only [arg, six', six, strCell] at cN cR ⊢
  have HR := Lib.hid cR
  clear hv hw hE cR
  go_enter Tryz.func13, Tryz.ntmps13
  go_wp2_with fail
  refine (cN _ ((Below.refl _ _).alloc (Nat.le_refl _) _)).mono ?_
  rintro e w1 ⟨rfl, hb1⟩
  have HB1 := Lib.hid (((Below.refl w.heap.size w).alloc (Nat.le_refl _) _).trans (hb1.mono (by simp)))
  have hblk := (hb1.block w.heap.size (by simp)).trans (heap_alloc_new w _)
  obtain ⟨⟨k0, k1, k2, k3, k4, k5⟩, kf⟩ := cells_six hblk
  clear cN hb1 hblk
  cases b1 with
  | false =>
    go_wp2_with fail
    go_ret
    exact ⟨rfl, HB1.out⟩
  | true =>
    have cT := HR.out w1 HB1.out
    go_wp2_with fail
    refine cT.mono ?_
    rintro e w3 ⟨rfl, hb3⟩
    have HB3 := Lib.hid (HB1.out.trans (hb3.mono HB1.out.size))
    clear cT hb3
    go_wp2_with fail
    go_ret
    exact ⟨rfl, HB3.out⟩
end Go.Proofs.YtfjdeacpdcnjpaaGreatDoor.V
