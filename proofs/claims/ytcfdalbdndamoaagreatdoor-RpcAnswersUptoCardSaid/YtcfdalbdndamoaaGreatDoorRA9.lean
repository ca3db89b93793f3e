/- What the claim needs of the texts VRightP, VSame, VFacts, VBack6, VTail3, VSameTop, VCopies, VWriteT, VWriteTop. -/
import Derived.Test.YtcfdalbdndamoaaGreatDoorRA8
import Derived.Lib.ItoaLen
import Derived.Test.YtcfdalbdndamoaaGreatDoorRA3
import Derived.Lib.AtoiTie
import Derived.Lib.ValidLaws
import Derived.Test.YtcfdalbdndamoaaGreatDoorRA6
import Derived.Laws.Bits128
namespace Go.Proofs.YtcfdalbdndamoaaGreatDoor.V
open Go.RowKit
open Go.Lib
def inP (n : Int) : Bool := decide (-9007199254740992 ≤ n ∧ n ≤ 9007199254740992)
mutual
def rightP : Val → Bool
 | .mk so on n t l ks => elseP (.mk so on n t l ks) && (if so = 0 ∨ so = 1 then true else if so = 2 then inP n else if so = 3 then okP t else if so = 4 then rightPs l else if so = 5 then ks.length == l.length && keysP ks [] && rightPs l else false)
def rightPs : List Val → Bool
 | [] => true
 | v :: r => rightP v && rightPs r
end
theorem rightPs_drop {l : List Val} {k : Nat} (hk : k < l.length) : rightPs (l.drop k) = (rightP l[k] && rightPs (l.drop (k + 1))) := by
 rw [List.drop_eq_getElem_cons hk]; simp only [rightPs]
def RightC (v : Val) : Prop := ∀ (lv kv : Value) (R : Nat → Prop) (w : World),ValIn w R v lv kv → wt v ≤ 1099511627776 → EnvW w →
 Calls Tryz.prog 74 #[arg v lv kv] w fun e w' => e = .returned (.bool (rightP v)) ∧ Below w.heap.size w w'
set_option maxHeartbeats 2000000 in
theorem parts_right (l : List Val) (IH : ∀ v ∈ l,RightC v) (a1 : Option Addr) (c1 : Nat) (R : Nat → Prop) (w : World)
  (hl : l = [] ∨ ∃ g off xs,a1 = some ⟨g,off,none⟩ ∧ R g ∧ CellsAt w g off xs ∧ ListIn w R l xs) (hwl : wtL l ≤ 1099511627776) (hE : EnvW w) :
  Calls Tryz.prog 101 #[.slice a1 l.length c1] w fun e w' => e = .returned (.bool (rightPs l)) ∧ Below w.heap.size w w' := by
 have HL := Lib.hid hl
 have HIH := Lib.hid IH
 have HE := Lib.hid hE
 have HWM := Lib.hid (fun v (h : v ∈ l) => Nat.le_trans (wtL_mem h) hwl)
 have hlb : l.length ≤ 1099511627776 := Nat.le_trans (wtL_length l) hwl
 obtain ⟨R1,hR1⟩ : ∃ r,rightPs l = r := ⟨_,rfl⟩
 rw [hR1]
 have HR := Lib.hid (show rightPs (l.drop 0) = R1 from hR1)
 obtain ⟨ln,hln⟩ : ∃ k,l.length = k := ⟨_,rfl⟩
 have HLN := Lib.hid hln
 have HB0 := Lib.hid (Below.refl w.heap.size w)
 rw [hln] at hlb ⊢
 clear hl IH hE hwl hR1 hln
 go_enter Tryz.func101,Tryz.ntmps101
 go_wp2_with fail
 go_loopw [7] (fun iv wr => ∃ i : Nat,iv = .int .i64 i ∧ i ≤ ln ∧ Hid (rightPs (l.drop i) = R1) ∧ Hid (Below w.heap.size w wr)) (fun iv _ => ln - (Go.RowKit.intOf iv).toNat)
 case atStart => exact ⟨0,rfl,by omega,HR,HB0⟩
 case round =>
  obtain ⟨i,rfl,hi,HI,HB⟩ := hrel
  by_cases hlt : i < ln
  ·have hll : i < l.length := by rw [HLN.out]; exact hlt
   obtain ⟨g,off,xs,rfl,hg,hc,hL⟩ := HL.out.resolve_left (fun h => by rw [h] at hll; exact Nat.not_lt_zero _ hll)
   have hsm : Same R w wr := fun b _ hb => HB.out.block b hb
   obtain ⟨so',on',n',t',l',ks',a1',c1',a2',c2',he,hv',k0,k1,k2,k3,k4,k5⟩ := part_at i (ListIn.later hsm (fun _ h => h) l xs hL) (hc.later hg hsm) hll
   have hdr := rightPs_drop hll
   rw [HI.out,he] at hdr
   have cP := fun W' (hb' : Below wr.heap.size wr W') => (HIH.out l[i] (List.getElem_mem hll)) (.slice a1' l'.length c1') (.slice a2' ks'.length c2') R W' (by rw [he]; exact ValIn.later (fun b _ hb => hb'.block b hb) (fun _ h => h) _ _ _ hv') (HWM.out _ (List.getElem_mem hll)) (HE.out.later (HB.out.trans (hb'.mono HB.out.size)))
   rw [he] at cP
   obtain ⟨b1,hb1⟩ : ∃ b,rightP (.mk so' on' n' t' l' ks') = b := ⟨_,rfl⟩
   rw [hb1] at hdr
   simp only [hb1,arg,six',six,strCell] at cP
   have HDR := Lib.hid hdr
   clear hdr he hv' hb1 hsm hL hc
   go_wp2_with fail
   refine (cP _ ((Below.refl _ _).alloc (Nat.le_refl _) _)).mono ?_
   rintro e w2 ⟨rfl,hb2⟩
   have HB2 := Lib.hid (HB.out.trans ((((Below.refl wr.heap.size wr).alloc (Nat.le_refl _) _).trans (hb2.mono (by simp))).mono HB.out.size))
   clear cP hb2
   cases b1 with
   | false =>
    go_wp2_with fail
    go_ret
    exact ⟨by rw [HDR.out]; rfl,HB2.out⟩
   | true =>
    go_wp2_with fail
    go_roundw
    case rel => exact ⟨i + 1,by go_num,by omega,Lib.hid (by rw [HDR.out,Bool.true_and]),HB2⟩
    case measure => simp [Go.RowKit.intOf]; omega
  ·go_wp2_with fail
   go_ret
   refine ⟨?_,HB.out⟩
   obtain rfl : i = ln := by omega
   have h := HI.out
   rw [← HLN.out,List.drop_length] at h
   rw [← h]; rfl
set_option maxHeartbeats 2000000 in
theorem right_v : ∀ v,RightC v := Val.ind fun so on n t l ks IH lv kv R w hv hw hE => by
 have hv' := hv
 obtain ⟨⟨a1,c1,rfl,hl⟩,hk⟩ := hv'
 have hk' := hk
 obtain ⟨a2,c2,rfl,_⟩ := hk'
 have hw2 := hw
 simp only [wt] at hw2
 have hkl := wt_keys ks
 have hll := wtL_length l
 have cE := fun W => else_any so on n t l ks a1 a2 c1 c2 W (by omega) (by omega) (by omega)
 have HE := Lib.hid hE
 have HV := Lib.hid hl
 have HK := Lib.hid hk
 have hwl : wtL l ≤ 1099511627776 := by omega
 have hwk : (ks.map fun k => k.length + 1).sum ≤ 1099511627776 := by omega
 have htb : t.length ≤ 1099511627776 := by omega
 have cP := fun W (hb : Below w.heap.size w W) => parts_right l IH a1 c1 R W (by
  refine hl.imp id fun ⟨g,off,xs,h1,h2,h3,h4⟩ => ⟨g,off,xs,h1,h2,h3.later h2 (fun b _ hb' => hb.block b hb'),ListIn.later (fun b _ hb' => hb.block b hb') (fun _ h => h) _ _ h4⟩) hwl (hE.later hb)
 have cK := fun W (hb : Below w.heap.size w W) => keys_any ks (.slice a2 ks.length c2) R W (hk.later (fun b _ hb' => hb.block b hb') (fun _ h => h)) hwk (hE.later hb)
 have cT := fun W (hb : Below w.heap.size w W) => right_any ⟨t.toArray⟩ W (by rw [size_mk]; exact htb) (hE.later hb)
 have HP := Lib.hid cP
 have HKK := Lib.hid cK
 have HT := Lib.hid cT
 obtain ⟨R1,hR1⟩ : ∃ r,rightP (.mk so on n t l ks) = r := ⟨_,rfl⟩
 rw [hR1]
 simp only [rightP] at hR1
 obtain ⟨e1,he1⟩ : ∃ r,elseP (.mk so on n t l ks) = r := ⟨_,rfl⟩
 rw [he1] at hR1
 simp only [he1] at cE
 have hA := Lib.hid (show arg (.mk so on n t l ks) (.slice a1 l.length c1) (.slice a2 ks.length c2) = _ from rfl)
 simp only [arg,six',six,strCell] at cE ⊢
 have HR := Lib.hid hR1
 clear hv hk hl hE hw hw2 cP cK cT he1 hR1 IH HV HK HE hA
 go_enter Tryz.func74,Tryz.ntmps74
 go_wp2_with fail
 refine (cE _).mono ?_
 rintro e w1 ⟨rfl,hb1⟩
 have HB1 := Lib.hid (((Below.refl w.heap.size w).alloc (Nat.le_refl _) _).trans (hb1.mono (by simp)))
 have hblk := (hb1.block w.heap.size (by simp)).trans (heap_alloc_new w _)
 obtain ⟨⟨k0,k1,k2,k3,k4,k5⟩,kf⟩ := cells_six hblk
 clear cE hb1 hblk
 cases e1 with
 | false =>
  go_wp2_with fail
  go_ret
  exact ⟨by rw [← HR.out]; rfl,HB1.out⟩
 | true =>
  by_cases h0 : so = 0
  ·subst h0
   go_wp2_with fail
   go_ret
   exact ⟨by rw [← HR.out]; rfl,HB1.out⟩
  by_cases h1 : so = 1
  ·subst h1
   go_wp2_with fail
   go_ret
   exact ⟨by rw [← HR.out]; rfl,HB1.out⟩
  have q0 : (so == 0) = false := by simpa using h0
  have q1 : (so == 1) = false := by simpa using h1
  by_cases h2 : so = 2
  ·subst h2
   by_cases hn : -9007199254740992 ≤ n ∧ n ≤ 9007199254740992
   ·have cN := inRange_yes n w1 hn
    have HN := Lib.hid (show inP n = true from decide_eq_true hn)
    clear hn
    go_wp2_with fail
    refine cN.mono ?_
    rintro e w2 ⟨rfl,rfl⟩
    clear cN
    go_wp2_with fail
    go_ret
    exact ⟨by rw [← HR.out]; simp [HN.out],HB1.out⟩
   ·have cN := inRange_no n w1 hn
    have HN := Lib.hid (show inP n = false from decide_eq_false hn)
    clear hn
    go_wp2_with fail
    refine cN.mono ?_
    rintro e w2 ⟨rfl,rfl⟩
    clear cN
    go_wp2_with fail
    go_ret
    exact ⟨by rw [← HR.out]; simp [HN.out],HB1.out⟩
  have q2 : (so == 2) = false := by simpa using h2
  by_cases h3 : so = 3
  ·subst h3
   have cT := HT.out w1 HB1.out
   go_wp2_with fail
   refine cT.mono ?_
   rintro e w2 ⟨rfl,hb2⟩
   have HB2 := Lib.hid (HB1.out.trans (hb2.mono HB1.out.size))
   clear cT hb2
   go_wp2_with fail
   go_ret
   exact ⟨by rw [← HR.out]; rfl,HB2.out⟩
  have q3 : (so == 3) = false := by simpa using h3
  by_cases h4 : so = 4
  ·subst h4
   have cT := HP.out w1 HB1.out
   go_wp2_with fail
   refine cT.mono ?_
   rintro e w2 ⟨rfl,hb2⟩
   have HB2 := Lib.hid (HB1.out.trans (hb2.mono HB1.out.size))
   clear cT hb2
   go_wp2_with fail
   go_ret
   exact ⟨by rw [← HR.out]; rfl,HB2.out⟩
  have q4 : (so == 4) = false := by simpa using h4
  by_cases h5 : so = 5
  ·subst h5
   by_cases hlen : ks.length = l.length
   ·have cK := HKK.out w1 HB1.out
    rw [hlen] at k5 cK
    have HLN := Lib.hid hlen
    obtain ⟨b2,hb2⟩ : ∃ b,keysP ks [] = b := ⟨_,rfl⟩
    have HK2 := Lib.hid hb2
    rw [hb2] at cK
    clear hb2 hlen
    go_wp2_with fail
    refine cK.mono ?_
    rintro e w2 ⟨rfl,hb2⟩
    have HB2 := Lib.hid (HB1.out.trans (hb2.mono HB1.out.size))
    have hblk := fun i => hb2.cell (p := ⟨w.heap.size,i,none⟩) (show w.heap.size < w1.heap.size from lt_of_cell k0)
    have j4 := (hblk 4).trans k4
    clear cK hb2 hblk
    cases b2 with
    | false =>
     go_wp2_with fail
     go_ret
     exact ⟨by rw [← HR.out,HK2.out]; simp,HB2.out⟩
    | true =>
     have cT := HP.out w2 HB2.out
     go_wp2_with fail
     refine cT.mono ?_
     rintro e w3 ⟨rfl,hb3⟩
     have HB3 := Lib.hid (HB2.out.trans (hb3.mono HB2.out.size))
     clear cT hb3
     go_wp2_with fail
     go_ret
     exact ⟨by rw [← HR.out,HK2.out]; simp [HLN.out],HB3.out⟩
   ·have hq : ((ks.length : Int) == (l.length : Int)) = false := by simp; omega
    have HLN := Lib.hid (show (ks.length == l.length) = false by simpa using hlen)
    clear hlen
    go_wp2_with fail
    go_ret
    exact ⟨by rw [← HR.out,HLN.out]; rfl,HB1.out⟩
  have q5 : (so == 5) = false := by simpa using h5
  go_wp2_with fail
  go_ret
  exact ⟨by rw [← HR.out]; simp [h0,h1,h2,h3,h4,h5],HB1.out⟩
def rightTop (v : Val) : Bool := nestP v 20 && rightP v
set_option maxHeartbeats 1000000 in
theorem right_top (so : Int) (on : Bool) (n : Int) (t : List UInt8) (l : List Val) (ks : List (List UInt8)) (lv kv : Value) (R : Nat → Prop) (w : World) (hv : ValIn w R (.mk so on n t l ks) lv kv) (hw : wt (.mk so on n t l ks) ≤ 1099511627776) (hE : EnvW w) :
  Calls Tryz.prog 41 #[arg (.mk so on n t l ks) lv kv] w fun e w' => e = .returned (.bool (rightTop (.mk so on n t l ks))) ∧ Below w.heap.size w w' := by
 have cN := fun W (hb : Below w.heap.size w W) => nest_any (.mk so on n t l ks) lv kv R 20 W (hv.later (fun b _ hb' => hb.block b hb') (fun _ h => h) _ _ _) (by omega) hw
 have cR := fun W (hb : Below w.heap.size w W) => right_v (.mk so on n t l ks) lv kv R W (hv.later (fun b _ hb' => hb.block b hb') (fun _ h => h) _ _ _) hw (hE.later hb)
 have hv' := hv
 obtain ⟨⟨a1,c1,rfl,_⟩,⟨a2,c2,rfl,_⟩⟩ := hv'
 unfold rightTop
 generalize nestP (.mk so on n t l ks) 20 = b1 at cN ⊢
 generalize rightP (.mk so on n t l ks) = b2 at cR ⊢
 simp only [arg,six',six,strCell] at cN cR ⊢
 have HR := Lib.hid cR
 clear hv hw hE cR
 go_enter Tryz.func41,Tryz.ntmps41
 go_wp2_with fail
 refine (cN _ ((Below.refl _ _).alloc (Nat.le_refl _) _)).mono ?_
 rintro e w1 ⟨rfl,hb1⟩
 have HB1 := Lib.hid (((Below.refl w.heap.size w).alloc (Nat.le_refl _) _).trans (hb1.mono (by simp)))
 have hblk := (hb1.block w.heap.size (by simp)).trans (heap_alloc_new w _)
 obtain ⟨⟨k0,k1,k2,k3,k4,k5⟩,kf⟩ := cells_six hblk
 clear cN hb1 hblk
 cases b1 with
 | false =>
  go_wp2_with fail
  go_ret
  exact ⟨rfl,HB1.out⟩
 | true =>
  have cT := HR.out w1 HB1.out
  go_wp2_with fail
  refine cT.mono ?_
  rintro e w3 ⟨rfl,hb3⟩
  have HB3 := Lib.hid (HB1.out.trans (hb3.mono HB1.out.size))
  clear cT hb3
  go_wp2_with fail
  go_ret
  exact ⟨rfl,HB3.out⟩
end Go.Proofs.YtcfdalbdndamoaaGreatDoor.V
namespace Go.Proofs.YtcfdalbdndamoaaGreatDoor.V
open Go.RowKit
open Go.Lib
theorem bytes_inj {a b : List UInt8} : ((⟨a.toArray⟩ : ByteArray) = ⟨b.toArray⟩) ↔ a = b := by
 constructor
 ·intro h
  have h1 := congrArg (fun x : ByteArray => x.data.toList) h
  simpa using h1
 ·intro h; rw [h]
theorem keys_map_inj {a b : List (List UInt8)} (h : a.map (fun k => (⟨k.toArray⟩ : ByteArray)) = b.map (fun k => (⟨k.toArray⟩ : ByteArray))) : a = b := by
 have h1 := congrArg (List.map fun x : ByteArray => x.data.toList) h
 simpa [List.map_map,Function.comp_def] using h1
theorem keys_equal {W : World} {R R' : Nat → Prop} {ks ks' : List (List UInt8)} {kv kv' : Value} (h : KeysIn W R ks kv) (h' : KeysIn W R' ks' kv') (hb : ks.length ≤ 1099511627776) (hb' : ks'.length ≤ 1099511627776) :
  Calls Tryz.prog 87 #[kv,kv'] W fun e w' => e = .returned (.bool (decide (ks = ks'))) ∧ Below W.heap.size W w' := by
 obtain ⟨a,c,rfl,h1⟩ := h
 obtain ⟨a',c',rfl,h1'⟩ := h'
 by_cases hl : ks.length = ks'.length
 ·by_cases h0 : ks = []
  ·subst h0
   obtain rfl : ks' = [] := List.eq_nil_of_length_eq_zero (by simpa using hl.symm)
   exact (Tryz.slices_Equal_string_empty a a' c 0 c' W (by omega)).mono fun e w' ⟨h1,h2⟩ => ⟨by simpa using h1,by rw [h2]; exact Below.refl _ _⟩
  ·have h0' : ks' ≠ [] := by intro h; rw [h] at hl; exact h0 (List.eq_nil_of_length_eq_zero hl)
   obtain ⟨g,o,rfl,_,hc⟩ := h1.resolve_left h0
   obtain ⟨g',o',rfl,_,hc'⟩ := h1'.resolve_left h0'
   refine (Tryz.slices_Equal_string g o ks.length c g' o' ks'.length c' (ks.map fun k => ⟨k.toArray⟩) (ks'.map fun k => ⟨k.toArray⟩) W (by simp) (by simp) (by omega) (by omega) ?_ ?_).mono ?_
   ·intro j hj
    exact hc j _ (by simp at hj; simp [hj,strCell])
   ·intro j hj
    exact hc' j _ (by simp at hj; simp [hj,strCell])
   ·rintro e w' ⟨rfl,q,rfl⟩
    refine ⟨?_,⟨rfl,rfl,rfl,Nat.le_refl _,fun _ _ => rfl⟩⟩
    rw [List.take_of_length_le (by simp),List.take_of_length_le (by simp)]
    congr 2
    rw [decide_eq_decide]
    exact ⟨fun h => keys_map_inj h,fun h => by rw [h]⟩
 ·refine (Tryz.slices_Equal_string_lens a a' ks.length c ks'.length c' W hl).mono fun e w' ⟨h1,h2⟩ => ⟨?_,by rw [h2]; exact Below.refl _ _⟩
  rw [h1]
  congr 2
  exact (decide_eq_false (fun h => hl (by rw [h]))).symm
theorem two (w : World) (o1 o2 : Obj) : ((w.alloc o1).alloc o2).heap[w.heap.size]? = some o1 ∧ ((w.alloc o1).alloc o2).heap[w.heap.size + 1]? = some o2 ∧ Below w.heap.size w ((w.alloc o1).alloc o2) ∧ ((w.alloc o1).alloc o2).heap.size = w.heap.size + 2 := by
 have s1 : (w.alloc o1).heap.size = w.heap.size + 1 := by simp
 refine ⟨?_,?_,((Below.refl _ _).alloc (Nat.le_refl _) _).alloc (by omega) _,by simp⟩
 ·rw [Below.heap_alloc _ _ _ (by omega)]; exact heap_alloc_new w o1
 ·rw [← s1]; exact heap_alloc_new _ o2
theorem parts_of {W : World} {R : Nat → Prop} {so n : Int} {on : Bool} {t : List UInt8} {l : List Val} {ks : List (List UInt8)} {a : Option Addr} {c : Nat} {kv : Value} (h : ValIn W R (.mk so on n t l ks) (.slice a l.length c) kv) :
  l = [] ∨ ∃ g off xs,a = some ⟨g,off,none⟩ ∧ R g ∧ CellsAt W g off xs ∧ ListIn W R l xs := by
 obtain ⟨⟨a',c',h1,h2⟩,_⟩ := h
 cases h1
 exact h2
mutual
def sameP : Val → Val → Bool
 | .mk so on n t l ks,.mk so' on' n' t' l' ks' => so == so' && on == on' && n == n' && t == t' && decide (ks = ks') && sameLs l l'
def sameLs : List Val → List Val → Bool
 | [],[] => true
 | v :: r,v' :: r' => sameP v v' && sameLs r r'
 | _,_ => false
end
def SameC (v : Val) : Prop := ∀ (v' : Val) (lv kv lv' kv' : Value) (R R' : Nat → Prop) (w : World),ValIn w R v lv kv → ValIn w R' v' lv' kv' → wt v ≤ 1099511627776 → wt v' ≤ 1099511627776 →
 Calls Tryz.prog 48 #[arg v lv kv,arg v' lv' kv'] w fun e w' => e = .returned (.bool (sameP v v')) ∧ Below w.heap.size w w'
theorem sameLs_len : ∀ {l l' : List Val},l.length ≠ l'.length → sameLs l l' = false
 | [],[],h => absurd rfl h
 | [],_ :: _,_ => by simp [sameLs]
 | _ :: _,[],_ => by simp [sameLs]
 | v :: r,v' :: r',h => by
  have := @sameLs_len r r' (by simpa using h)
  simp [sameLs,this]
theorem sameLs_drop {l l' : List Val} {i : Nat} (h : i < l.length) (h' : i < l'.length) : sameLs (l.drop i) (l'.drop i) = (sameP l[i] l'[i] && sameLs (l.drop (i + 1)) (l'.drop (i + 1))) := by
 rw [List.drop_eq_getElem_cons h,List.drop_eq_getElem_cons h']; simp only [sameLs]
set_option maxHeartbeats 4000000 in
theorem lists_same (l l' : List Val) (IH : ∀ v ∈ l,SameC v) (a1 a1' : Option Addr) (c1 c1' : Nat) (R R' : Nat → Prop) (w : World)
  (hl : l = [] ∨ ∃ g off xs,a1 = some ⟨g,off,none⟩ ∧ R g ∧ CellsAt w g off xs ∧ ListIn w R l xs) (hl' : l' = [] ∨ ∃ g off xs,a1' = some ⟨g,off,none⟩ ∧ R' g ∧ CellsAt w g off xs ∧ ListIn w R' l' xs)
  (hwl : wtL l ≤ 1099511627776) (hwl' : wtL l' ≤ 1099511627776) :
  Calls Tryz.prog 88 #[.slice a1 l.length c1,.slice a1' l'.length c1',.func (.func 48) #[] #[]] w fun e w' => e = .returned (.bool (sameLs l l')) ∧ Below w.heap.size w w' := by
 have hlb : l.length ≤ 1099511627776 := Nat.le_trans (wtL_length l) hwl
 have hlb' : l'.length ≤ 1099511627776 := Nat.le_trans (wtL_length l') hwl'
 by_cases hlen : l.length = l'.length
 ·have HL := Lib.hid hl
  have HL' := Lib.hid hl'
  have HIH := Lib.hid IH
  have HWM := Lib.hid (fun v (h : v ∈ l) => Nat.le_trans (wtL_mem h) hwl)
  have HWM' := Lib.hid (fun v (h : v ∈ l') => Nat.le_trans (wtL_mem h) hwl')
  obtain ⟨R1,hR1⟩ : ∃ r,sameLs l l' = r := ⟨_,rfl⟩
  rw [hR1]
  have HR := Lib.hid (show sameLs (l.drop 0) (l'.drop 0) = R1 from hR1)
  obtain ⟨ln,hln⟩ : ∃ k,l.length = k := ⟨_,rfl⟩
  have HLN := Lib.hid hln
  have HLN' := Lib.hid (hlen.symm.trans hln)
  have HB0 := Lib.hid (Below.refl w.heap.size w)
  rw [← hlen,hln]
  rw [hln] at hlb
  clear hl hl' IH hwl hwl' hR1 hln hlen hlb'
  go_enter Tryz.func88,Tryz.ntmps88
  go_wp2_with fail
  go_loopw [17] (fun iv wr => ∃ i : Nat,iv = .int .i64 i ∧ i ≤ ln ∧ Hid (sameLs (l.drop i) (l'.drop i) = R1) ∧ Hid (Below w.heap.size w wr)) (fun iv _ => ln - (Go.RowKit.intOf iv).toNat)
  case atStart => exact ⟨0,rfl,by omega,HR,HB0⟩
  case round =>
   obtain ⟨i,rfl,hi,HI,HB⟩ := hrel
   by_cases hlt : i < ln
   ·have hll : i < l.length := by rw [HLN.out]; exact hlt
    have hll' : i < l'.length := by rw [HLN'.out]; exact hlt
    obtain ⟨g,off,xs,rfl,hg,hc,hL⟩ := HL.out.resolve_left (fun h => by rw [h] at hll; exact Nat.not_lt_zero _ hll)
    obtain ⟨g',off',xs',rfl,hg',hc',hL'⟩ := HL'.out.resolve_left (fun h => by rw [h] at hll'; exact Nat.not_lt_zero _ hll')
    have hsm : ∀ Q,Same Q w wr := fun _ b _ hb => HB.out.block b hb
    obtain ⟨so1,on1,n1,t1,l1,ks1,b1,d1,b2,d2,he,hv,k0,k1,k2,k3,k4,k5⟩ := part_at i (ListIn.later (hsm R) (fun _ h => h) l xs hL) (hc.later hg (hsm R)) hll
    obtain ⟨so1',on1',n1',t1',l1',ks1',b1',d1',b2',d2',he',hv',j0,j1,j2,j3,j4,j5⟩ := part_at i (ListIn.later (hsm R') (fun _ h => h) l' xs' hL') (hc'.later hg' (hsm R')) hll'
    have hgl : g' < wr.heap.size := lt_of_cell j0
    have hcell : ∀ {o : Nat} {v : Value} (ob : Obj),wr.cell? ⟨g',o,none⟩ = some v → (wr.alloc ob).cell? ⟨g',o,none⟩ = some v := fun ob hv => (((Below.refl wr.heap.size wr).alloc (Nat.le_refl _) ob).cell hgl).trans hv
    have m0 := hcell (.cells #[.int .i64 so1,.bool on1,.int .i64 n1,.string ⟨t1.toArray⟩,.slice b1 l1.length d1,.slice b2 ks1.length d2] 36) j0
    have m1 := hcell (.cells #[.int .i64 so1,.bool on1,.int .i64 n1,.string ⟨t1.toArray⟩,.slice b1 l1.length d1,.slice b2 ks1.length d2] 36) j1
    have m2 := hcell (.cells #[.int .i64 so1,.bool on1,.int .i64 n1,.string ⟨t1.toArray⟩,.slice b1 l1.length d1,.slice b2 ks1.length d2] 36) j2
    have m3 := hcell (.cells #[.int .i64 so1,.bool on1,.int .i64 n1,.string ⟨t1.toArray⟩,.slice b1 l1.length d1,.slice b2 ks1.length d2] 36) j3
    have m4 := hcell (.cells #[.int .i64 so1,.bool on1,.int .i64 n1,.string ⟨t1.toArray⟩,.slice b1 l1.length d1,.slice b2 ks1.length d2] 36) j4
    have m5 := hcell (.cells #[.int .i64 so1,.bool on1,.int .i64 n1,.string ⟨t1.toArray⟩,.slice b1 l1.length d1,.slice b2 ks1.length d2] 36) j5
    have hdr := sameLs_drop hll hll'
    rw [HI.out,he,he'] at hdr
    have cP := fun W' (hb' : Below wr.heap.size wr W') => (HIH.out l[i] (List.getElem_mem hll)) l'[i] (.slice b1 l1.length d1) (.slice b2 ks1.length d2) (.slice b1' l1'.length d1') (.slice b2' ks1'.length d2') R R' W'
     (by rw [he]; exact ValIn.later (fun b _ hb => hb'.block b hb) (fun _ h => h) _ _ _ hv) (by rw [he']; exact ValIn.later (fun b _ hb => hb'.block b hb) (fun _ h => h) _ _ _ hv') (HWM.out _ (List.getElem_mem hll)) (HWM'.out _ (List.getElem_mem hll'))
    rw [he,he'] at cP
    obtain ⟨b0,hb0⟩ : ∃ b,sameP (.mk so1 on1 n1 t1 l1 ks1) (.mk so1' on1' n1' t1' l1' ks1') = b := ⟨_,rfl⟩
    rw [hb0] at hdr
    simp only [hb0,arg,six',six,strCell] at cP
    have HDR := Lib.hid hdr
    clear hdr he he' hv hv' hb0 hsm hL hc hL' hc' hcell j0 j1 j2 j3 j4 j5
    go_wp2_with fail
    obtain ⟨_,_,tb,tz⟩ := two wr (.cells #[.int .i64 so1,.bool on1,.int .i64 n1,.string ⟨t1.toArray⟩,.slice b1 l1.length d1,.slice b2 ks1.length d2] 36) (.cells #[.int .i64 so1',.bool on1',.int .i64 n1',.string ⟨t1'.toArray⟩,.slice b1' l1'.length d1',.slice b2' ks1'.length d2'] 36)
    refine (cP _ tb).mono ?_
    rintro e w2 ⟨rfl,hb2⟩
    have HB2 := Lib.hid (HB.out.trans ((tb.trans (hb2.mono (by omega))).mono HB.out.size))
    clear cP hb2 tb tz
    cases b0 with
    | false =>
     go_wp2_with fail
     go_ret
     exact ⟨by rw [HDR.out]; rfl,HB2.out⟩
    | true =>
     go_wp2_with fail
     go_roundw
     case rel => exact ⟨i + 1,by go_num,by omega,Lib.hid (by rw [HDR.out,Bool.true_and]),HB2⟩
     case measure => simp [Go.RowKit.intOf]; omega
   ·go_wp2_with fail
    go_ret
    refine ⟨?_,HB.out⟩
    obtain rfl : i = ln := by omega
    have h := HI.out
    rw [List.drop_eq_nil_of_le (by rw [HLN.out]; exact Nat.le_refl _),List.drop_eq_nil_of_le (by rw [HLN'.out]; exact Nat.le_refl _)] at h
    rw [← h]; simp [sameLs]
 ·rw [sameLs_len hlen]
  have q : ((l.length : Int) == (l'.length : Int)) = false := by simp; omega
  have q2 : ((l.length : Int) != (l'.length : Int)) = true := by simp; omega
  clear hl hl' IH hwl hwl' hlen
  go_enter Tryz.func88,Tryz.ntmps88
  go_wp2_with fail
  go_ret
  exact ⟨rfl,Below.refl _ _⟩
set_option maxHeartbeats 2000000 in
theorem same_v : ∀ v,SameC v := Val.ind fun so on n t l ks IH => fun
 | .mk so' on' n' t' l' ks',lv,kv,lv',kv',R,R',w,hv,hv',hw,hw' => by
  have hW : ∀ {X : World},Below w.heap.size w X → ValIn X R (.mk so on n t l ks) lv kv ∧ ValIn X R' (.mk so' on' n' t' l' ks') lv' kv' := fun hb => ⟨hv.later (fun b _ hlt => hb.block b hlt) (fun _ h => h) _ _ _,hv'.later (fun b _ hlt => hb.block b hlt) (fun _ h => h) _ _ _⟩
  obtain ⟨⟨a1,c1,rfl,_⟩,⟨a2,c2,rfl,_⟩⟩ := hv
  obtain ⟨⟨a1',c1',rfl,_⟩,⟨a2',c2',rfl,_⟩⟩ := hv'
  have hw2 := hw
  have hw2' := hw'
  simp only [wt] at hw2 hw2'
  have hkl := wt_keys ks
  have hkl' := wt_keys ks'
  have hll := wtL_length l
  have hll' := wtL_length l'
  by_cases h : so = so' ∧ on = on' ∧ n = n' ∧ t = t'
  ·obtain ⟨rfl,rfl,rfl,rfl⟩ := h
   have hres : sameP (.mk so on n t l ks) (.mk so on n t l' ks') = (decide (ks = ks') && sameLs l l') := by simp [sameP]
   rw [hres]
   have cE := fun X (hb : Below w.heap.size w X) => keys_equal (hW hb).1.2 (hW hb).2.2 (by omega) (by omega)
   have HLS := Lib.hid (fun X (hb : Below w.heap.size w X) => lists_same l l' IH a1 a1' c1 c1' R R' X (parts_of (hW hb).1) (parts_of (hW hb).2) (by omega) (by omega))
   simp only [arg,six',six,strCell]
   generalize decide (ks = ks') = b1 at cE ⊢
   have hlb : l.length ≤ 1099511627776 := by omega
   have hlb' : l'.length ≤ 1099511627776 := by omega
   clear hres hw hw' hw2 hw2' hkl hkl' hll hll'
   go_enter Tryz.func48,Tryz.ntmps48
   go_wp2_with fail
   refine (cE _ (((Below.refl _ _).alloc (Nat.le_refl _) _).alloc (by simp) _)).mono ?_
   rintro e w1 ⟨rfl,hb1⟩
   obtain ⟨t1,t2,tb,tz⟩ := two w (.cells #[Value.int IntKind.i64 so,Value.bool on,Value.int IntKind.i64 n,Value.string { data := t.toArray },Value.slice a1 l.length c1,Value.slice a2 ks.length c2] 36) (.cells #[Value.int IntKind.i64 so,Value.bool on,Value.int IntKind.i64 n,Value.string { data := t.toArray },Value.slice a1' l'.length c1',Value.slice a2' ks'.length c2'] 36)
   have HB1 := Lib.hid (tb.trans (hb1.mono (by omega)))
   have hx := (hb1.block w.heap.size (by omega)).trans t1
   have hy := (hb1.block (w.heap.size + 1) (by omega)).trans t2
   obtain ⟨⟨j0,j1,j2,j3,j4,j5⟩,jf⟩ := cells_six hx
   obtain ⟨⟨k0,k1,k2,k3,k4,k5⟩,kf⟩ := cells_six hy
   clear cE hb1 hx hy t1 t2 tb tz
   cases b1 with
   | false =>
    go_wp2_with fail
    go_ret
    exact ⟨rfl,HB1.out⟩
   | true =>
    have cL := HLS.out w1 HB1.out
    go_wp2_with fail
    refine cL.mono ?_
    rintro e w2 ⟨rfl,hb2⟩
    have HB2 := Lib.hid (HB1.out.trans (hb2.mono HB1.out.size))
    clear cL hb2
    go_wp2_with fail
    go_ret
    exact ⟨rfl,HB2.out⟩
  ·have HH := Lib.hid h
   simp only [arg,six',six,strCell]
   clear h hW hw hw' hw2 hw2' hkl hkl' hll hll' IH
   go_enter Tryz.func48,Tryz.ntmps48
   go_wp2_with fail
   all_goals first
    | (go_ret; refine ⟨?_,((Below.refl _ _).alloc (Nat.le_refl _) _).alloc (by simp) _⟩; simp_all [sameP]; done)
    | exact absurd HH.out (by simp_all)
end Go.Proofs.YtcfdalbdndamoaaGreatDoor.V
namespace Go.Proofs.YtcfdalbdndamoaaGreatDoor.V
open Go.RowKit
open Go.Lib
mutual
theorem sameP_iff : ∀ (v v' : Val),sameP v v' = true ↔ v = v'
 | .mk so on n t l ks,.mk so' on' n' t' l' ks' => by
  have h := sameLs_iff l l'
  simp only [sameP,Bool.and_eq_true,beq_iff_eq,decide_eq_true_eq,h,Val.mk.injEq]
  constructor
  ·rintro ⟨⟨⟨⟨⟨h1,h2⟩,h3⟩,h4⟩,h5⟩,h6⟩; exact ⟨h1,h2,h3,h4,h6,h5⟩
  ·rintro ⟨h1,h2,h3,h4,h6,h5⟩; exact ⟨⟨⟨⟨⟨h1,h2⟩,h3⟩,h4⟩,h5⟩,h6⟩
theorem sameLs_iff : ∀ (l l' : List Val),sameLs l l' = true ↔ l = l'
 | [],[] => by simp [sameLs]
 | [],_ :: _ => by simp [sameLs]
 | _ :: _,[] => by simp [sameLs]
 | v :: r,v' :: r' => by
  have h1 := sameP_iff v v'
  have h2 := sameLs_iff r r'
  simp only [sameLs,Bool.and_eq_true,h1,h2,List.cons.injEq]
end
theorem sameP_self (v : Val) : sameP v v = true := (sameP_iff v v).2 rfl
mutual
theorem nestP_wt : ∀ (v : Val) (m : Nat),wt v ≤ m → nestP v m = true
 | .mk so on n t l ks,m,h => by
  simp only [wt] at h
  have hm : ¬ m = 0 := by omega
  simp only [nestP,if_neg hm]
  exact nestL_wt l (m - 1) (by omega)
theorem nestL_wt : ∀ (l : List Val) (m : Nat),wtL l ≤ m → nestL l m = true
 | [],_,_ => rfl
 | v :: r,m,h => by
  simp only [wtL] at h
  simp only [nestL,Bool.and_eq_true]
  exact ⟨nestP_wt v m (by omega),nestL_wt r m (by omega)⟩
end
end Go.Proofs.YtcfdalbdndamoaaGreatDoor.V
namespace Go.Proofs.YtcfdalbdndamoaaGreatDoor.V
open Go.RowKit
open Go.Lib
end Go.Proofs.YtcfdalbdndamoaaGreatDoor.V
namespace Go.Proofs.YtcfdalbdndamoaaGreatDoor.V
open Go.RowKit
open Go.Lib
end Go.Proofs.YtcfdalbdndamoaaGreatDoor.V
namespace Go.Proofs.YtcfdalbdndamoaaGreatDoor.V
open Go.RowKit
open Go.Lib
end Go.Proofs.YtcfdalbdndamoaaGreatDoor.V
namespace Go.Proofs.YtcfdalbdndamoaaGreatDoor.V
open Go.RowKit
open Go.Lib
end Go.Proofs.YtcfdalbdndamoaaGreatDoor.V
namespace Go.Proofs.YtcfdalbdndamoaaGreatDoor.V
open Go.RowKit
open Go.Lib
def Stop (r : List UInt8) : Prop := ∀ c,r.head? = some c → numB c = false
end Go.Proofs.YtcfdalbdndamoaaGreatDoor.V
namespace Go.Proofs.YtcfdalbdndamoaaGreatDoor.V
open Go.RowKit
open Go.Lib
end Go.Proofs.YtcfdalbdndamoaaGreatDoor.V
namespace Go.Proofs.YtcfdalbdndamoaaGreatDoor.V
open Go.RowKit
open Go.Lib
end Go.Proofs.YtcfdalbdndamoaaGreatDoor.V
namespace Go.Proofs.YtcfdalbdndamoaaGreatDoor.V
open Go.RowKit
open Go.Lib
end Go.Proofs.YtcfdalbdndamoaaGreatDoor.V
namespace Go.Proofs.YtcfdalbdndamoaaGreatDoor.V
open Go.RowKit
open Go.Lib
theorem wtL_snoc : ∀ (l : List Val) (v : Val),wtL (l ++ [v]) = wtL l + wt v
 | [],v => by simp [wtL]
 | x :: r,v => by simp only [List.cons_append,wtL,wtL_snoc r v]; omega
def sumK (ks : List (List UInt8)) : Nat := (ks.map fun k => k.length + 1).sum
theorem sumK_snoc (ks : List (List UInt8)) (k : List UInt8) : sumK (ks ++ [k]) = sumK ks + (k.length + 1) := by simp [sumK]
end Go.Proofs.YtcfdalbdndamoaaGreatDoor.V
namespace Go.Proofs.YtcfdalbdndamoaaGreatDoor.V
open Go.RowKit
open Go.Lib
structure Bl (b : UInt8) : Prop where
 blank : blank b = true
 hex : hexv b = none
 letter : escLetter b = none
 num : numB b = false
 ne : b ≠ 34 ∧ b ≠ 92 ∧ b ≠ 117 ∧ b ≠ 58 ∧ b ≠ 91 ∧ b ≠ 93 ∧ b ≠ 123 ∧ b ≠ 125 ∧ b ≠ 44
end Go.Proofs.YtcfdalbdndamoaaGreatDoor.V
namespace Go.Proofs.YtcfdalbdndamoaaGreatDoor.V
open Go.RowKit
open Go.Lib
def T (b : UInt8) (r : List UInt8) : List UInt8 := if r = [] then [] else r ++ [b]
end Go.Proofs.YtcfdalbdndamoaaGreatDoor.V
namespace Go.Proofs.YtcfdalbdndamoaaGreatDoor.V
open Go.RowKit
open Go.Lib
end Go.Proofs.YtcfdalbdndamoaaGreatDoor.V
namespace Go.Proofs.YtcfdalbdndamoaaGreatDoor.V
open Go.RowKit
open Go.Lib
def sameTop (v v' : Val) : Bool := nestP v 65536 && sameP v v'
set_option maxHeartbeats 1000000 in
theorem same_top (so so' : Int) (on on' : Bool) (n n' : Int) (t t' : List UInt8) (l l' : List Val) (ks ks' : List (List UInt8)) (lv kv lv' kv' : Value) (R R' : Nat → Prop) (w : World) (hv : ValIn w R (.mk so on n t l ks) lv kv) (hv' : ValIn w R' (.mk so' on' n' t' l' ks') lv' kv')
  (hw : wt (.mk so on n t l ks) ≤ 1099511627776) (hw' : wt (.mk so' on' n' t' l' ks') ≤ 1099511627776) :
  Calls Tryz.prog 19 #[arg (.mk so on n t l ks) lv kv,arg (.mk so' on' n' t' l' ks') lv' kv'] w fun e w' => e = .returned (.bool (sameTop (.mk so on n t l ks) (.mk so' on' n' t' l' ks'))) ∧ Below w.heap.size w w' := by
 have cN := fun W (hb : Below w.heap.size w W) => nest_any (.mk so on n t l ks) lv kv R 65536 W (hv.later (fun b _ hb' => hb.block b hb') (fun _ h => h) _ _ _) (by omega) hw
 have cR := fun W (hb : Below w.heap.size w W) => same_v (.mk so on n t l ks) (.mk so' on' n' t' l' ks') lv kv lv' kv' R R' W (hv.later (fun b _ hb' => hb.block b hb') (fun _ h => h) _ _ _) (hv'.later (fun b _ hb' => hb.block b hb') (fun _ h => h) _ _ _) hw hw'
 have hx := hv
 obtain ⟨⟨a1,c1,rfl,_⟩,⟨a2,c2,rfl,_⟩⟩ := hx
 have hx' := hv'
 obtain ⟨⟨a1',c1',rfl,_⟩,⟨a2',c2',rfl,_⟩⟩ := hx'
 unfold sameTop
 generalize nestP (.mk so on n t l ks) 65536 = b1 at cN ⊢
 generalize sameP (.mk so on n t l ks) (.mk so' on' n' t' l' ks') = b2 at cR ⊢
 simp only [arg,six',six,strCell] at cN cR ⊢
 have HR := Lib.hid cR
 clear hv hw hv' hw' cR
 go_enter Tryz.func19,Tryz.ntmps19
 go_wp2_with fail
 obtain ⟨t1,t2,tb,tz⟩ := two w (.cells #[Value.int IntKind.i64 so,Value.bool on,Value.int IntKind.i64 n,Value.string { data := t.toArray },Value.slice a1 l.length c1,Value.slice a2 ks.length c2] 36) (.cells #[Value.int IntKind.i64 so',Value.bool on',Value.int IntKind.i64 n',Value.string { data := t'.toArray },Value.slice a1' l'.length c1',Value.slice a2' ks'.length c2'] 36)
 refine (cN _ tb).mono ?_
 rintro e w1 ⟨rfl,hb1⟩
 have HB1 := Lib.hid (tb.trans (hb1.mono (by omega)))
 have hx := (hb1.block w.heap.size (by omega)).trans t1
 have hy := (hb1.block (w.heap.size + 1) (by omega)).trans t2
 obtain ⟨⟨j0,j1,j2,j3,j4,j5⟩,jf⟩ := cells_six hx
 obtain ⟨⟨k0,k1,k2,k3,k4,k5⟩,kf⟩ := cells_six hy
 clear cN hb1 hx hy t1 t2 tb tz
 cases b1 with
 | false =>
  go_wp2_with fail
  go_ret
  exact ⟨rfl,HB1.out⟩
 | true =>
  have cT := HR.out w1 HB1.out
  go_wp2_with fail
  refine cT.mono ?_
  rintro e w3 ⟨rfl,hb3⟩
  have HB3 := Lib.hid (HB1.out.trans (hb3.mono HB1.out.size))
  clear cT hb3
  go_wp2_with fail
  go_ret
  exact ⟨rfl,HB3.out⟩
end Go.Proofs.YtcfdalbdndamoaaGreatDoor.V
namespace Go.Proofs.YtcfdalbdndamoaaGreatDoor.V
open Go.RowKit
open Go.Lib
theorem ListIn.one {W : World} {R : Nat → Prop} : ∀ {l : List Val} {xs : List Value},ListIn W R l xs → ∀ u ∈ xs,u.oneCell' = true
 | [],xs,h,u,hu => by
  have h : xs = [] := h
  subst h; cases hu
 | .mk so on n t l' ks :: r,xs,h,u,hu => by
  obtain ⟨lv,kv,rest,rfl,hv,hr⟩ := h
  obtain ⟨⟨a1,c1,rfl,_⟩,⟨a2,c2,rfl,_⟩⟩ := hv
  rcases List.mem_append.1 hu with h1 | h1
  ·simp only [six',six,strCell,List.mem_cons,List.not_mem_nil,or_false] at h1
   rcases h1 with rfl | rfl | rfl | rfl | rfl | rfl <;> rfl
  ·exact ListIn.one hr u h1
set_option maxHeartbeats 2000000 in
theorem clone_values (l : List Val) (a1 : Option Addr) (c1 : Nat) (R : Nat → Prop) (w : World) (hl : l = [] ∨ ∃ g off xs,a1 = some ⟨g,off,none⟩ ∧ R g ∧ CellsAt w g off xs ∧ ListIn w R l xs) (hlb : l.length ≤ 1099511627776) :
  Calls Tryz.prog 119 #[.slice a1 l.length c1] w fun e w' => ∃ v' xs,e = .returned v' ∧ ListIn w R l xs ∧ w'.ownsRow w.heap.size 36 6 v' l.length xs ∧ Below w.heap.size w w' := by
 have q32 : ∀ (w : World) (a : Option Addr) (n c n' c' : Nat),(binOp .eql 34 (.slice a n c) (.slice none n' c')).run Tryz.prog w = .ok (.bool a.isNone) w := fun w a n c n' c' => Lib.run_eql_slice_nil w _ _ a n c n' c' Tryz.underlying34
 have u32 : ∀ w,Sem.run Tryz.prog (underlying 34) w = .ok (TypeDesc.slice 36) w := run_underlying Tryz.underlying34
 obtain ⟨i0,hi0,hz0,hz1,hz2⟩ := info_parts infoV
 cases a1 with
 | none =>
  have hl0 : l = [] := by
   rcases hl with h | ⟨g,off,xs,h,_⟩
   ·exact h
   ·cases h
  subst hl0
  clear hl
  simp only [List.length_nil]
  go_enter Tryz.func119,Tryz.ntmps119
  go_wp2_with fail
  go_ret
  exact ⟨.slice none 0 0,[],rfl,rfl,World.ownsRow_nil _ _ _ _,Below.refl _ _⟩
 | some p =>
  obtain ⟨xs,hL,hcell⟩ : ∃ xs,ListIn w R l xs ∧ ∀ j u,xs[j]? = some u → w.cell? (p.add j) = some u := by
   rcases hl with h | ⟨g,off,xs,h,_,hc,hL⟩
   ·subst h; exact ⟨[],rfl,fun j u h => by simp at h⟩
   ·cases h
    refine ⟨xs,hL,fun j u hj => ?_⟩
    rw [Addr.add_lit]
    exact hc j u hj
  have HCELL := Lib.hid hcell
  have HLI := Lib.hid hL
  have HONE := Lib.hid hL.one
  have HLEN := Lib.hid hL.length
  clear hl hcell hL
  generalize l.length = n at hlb HLEN ⊢
  go_enter Tryz.func119,Tryz.ntmps119
  go_wp2_with (at_builtin; refine wpList_append_own _ rfl _ _ 34 rfl w.heap.size 36 i0 _ 6 88 Tryz.underlying34 hi0 hz0 hz1 hz2 rfl (by decide) _ _ _ rfl (World.ownsRow_made w #[] 0 (Nat.le_refl _) (Nat.zero_le _) rfl) p n c1 xs rfl ?qc1 ?qc2 ?qc3 ?qc4 ?qc5 ?qc6 ?_)
  case qc1 => rw [HLEN.out]; omega
  case qc2 => exact fun j u hj => Lib.cell?_alloc_some _ (HCELL.out j u hj)
  case qc3 => exact HONE.out
  case qc4 => unfold maxLen; omega
  case qc5 => omega
  case qc6 => simp
  intro v' w1 hown hgrow hnil
  go_wp2
  go_ret
  exact ⟨v',xs,rfl,HLI.out,by simpa using hown,((Below.refl _ w).alloc (Nat.le_refl _) _).grown hgrow (by simp) (by intro k hk; simp [Value.ownBlock] at hk; omega)⟩
theorem clone_keys (ks : List (List UInt8)) (kv : Value) (R : Nat → Prop) (w : World) (h : KeysIn w R ks kv) (hb : ks.length ≤ 1099511627776) :
  Calls Tryz.prog 118 #[kv] w fun e w' => ∃ v',e = .returned v' ∧ w'.ownsRow w.heap.size 9 1 v' ks.length (ks.map strCell) ∧ Below w.heap.size w w' := by
 obtain ⟨a,c,rfl,h1⟩ := h
 cases a with
 | none =>
  have hk0 : ks = [] := by
   rcases h1 with h | ⟨g,off,h,_⟩
   ·exact h
   ·cases h
  subst hk0
  exact (Tryz.slices_Clone_string_nil 0 c w).mono fun e w' ⟨h1,h2⟩ => ⟨.slice none 0 0,h1,World.ownsRow_nil _ _ _ _,by rw [h2]; exact Below.refl _ _⟩
 | some p =>
  rcases h1 with h1 | ⟨g,off,h2,_,hc⟩
  ·subst h1
   exact (Tryz.slices_Clone_string_zero p c w).mono fun e w' ⟨v',h1,h2,_,h3⟩ => ⟨v',h1,h2,h3⟩
  ·cases h2
   refine (Tryz.slices_Clone_string g off ks.length c (ks.map fun k => ⟨k.toArray⟩) w (by simp) (by omega) ?_).mono fun e w' ⟨v',h1,h2,_,h3⟩ => ⟨v',h1,?_,h3⟩
   ·intro j hj
    exact hc j _ (by simp at hj; simp [hj,strCell])
   ·rw [List.take_of_length_le (by simp),List.map_map] at h2
    exact h2
end Go.Proofs.YtcfdalbdndamoaaGreatDoor.V
namespace Go.Proofs.YtcfdalbdndamoaaGreatDoor.V
open Go.RowKit
open Go.Lib
theorem keys_own {W : World} {B : Nat} {v : Value} {ks : List (List UInt8)} (h : W.ownsRow B 9 1 v ks.length (ks.map strCell)) : KeysIn W (fun g => B ≤ g) ks v := by
 rcases h.2 with ⟨rfl,h0⟩ | ⟨g,cap,cur,rfl,hg,hgg,hle,hcap,hsz,htake⟩
 ·exact ⟨none,0,by rw [h0],.inl (List.eq_nil_of_length_eq_zero h0)⟩
 ·refine ⟨_,cap,rfl,.inr ⟨g,0,rfl,hg,?_⟩⟩
  intro j u hj
  have h := World.ownsRowF.cells (World.ownsRowF_of h) (g := g) rfl j u hj
  rw [show (⟨g,0,none⟩ : Addr).add j = ⟨g,0 + j,none⟩ from by unfold Addr.add; split <;> simp_all] at h
  exact h
set_option maxHeartbeats 4000000 in
theorem copy_leaf (so : Int) (on : Bool) (n : Int) (t : List UInt8) (ks : List (List UInt8)) (lv kv : Value) (R : Nat → Prop) (w : World) (hv : ValIn w R (.mk so on n t [] ks) lv kv) (hkl : ks.length ≤ 1099511627776) :
  Calls Tryz.prog 90 #[arg (.mk so on n t [] ks) lv kv] w fun e w' => ∃ lv' kv',e = .returned (arg (.mk so on n t [] ks) lv' kv') ∧ ValIn w' (fun g => w.heap.size ≤ g) (.mk so on n t [] ks) lv' kv' ∧ Below w.heap.size w w' := by
 have hv' := hv
 obtain ⟨⟨a1,c1,rfl,_⟩,hk⟩ := hv'
 have hk' := hk
 obtain ⟨a2,c2,rfl,_⟩ := hk'
 have cK := fun W (hb : Below w.heap.size w W) => clone_keys ks (.slice a2 ks.length c2) R W (hk.later (fun b _ hb' => hb.block b hb') (fun _ h => h)) hkl
 have cL := fun W (hb : Below w.heap.size w W) => clone_values [] a1 c1 R W (parts_of (hv.later (fun b _ hb' => hb.block b hb') (fun _ h => h) _ _ _)) (by simp)
 have HL := Lib.hid cL
 clear cL hk hv
 simp only [arg,six',six,strCell,List.length_nil] at HL ⊢
 go_enter Tryz.func90,Tryz.ntmps90
 go_wp2_with fail
 obtain ⟨t1,t2,tb,tz⟩ := two w (.cells #[Value.int IntKind.i64 so,Value.bool on,Value.int IntKind.i64 n,Value.string { data := t.toArray },Value.slice a1 0 c1,Value.slice a2 ks.length c2] 36) (.cells #[.int .i64 0,.bool false,.int .i64 0,.string ⟨#[]⟩,.slice none 0 0,.slice none 0 0] 36)
 refine (cK _ tb).mono ?_
 rintro e w1 ⟨kv1,rfl,hk1,hb1⟩
 have hx := (hb1.block w.heap.size (by omega)).trans t1
 have hy := (hb1.block (w.heap.size + 1) (by omega)).trans t2
 have HB1 := Lib.hid (tb.trans (hb1.mono (by omega)))
 have hz1 := hb1.size
 rw [tz] at hz1 hk1
 have HK1 := Lib.hid (keys_own hk1)
 obtain ⟨ka,kc,rfl⟩ := slice_form hk1
 obtain ⟨⟨k0,k1,k2,k3,k4,k5⟩,kf⟩ := cells_six hx
 clear cK hb1 tb tz t1 t2 hk1
 go_wp2_with fail
 have hb2 := HB1.out.setCell (p := ⟨w.heap.size,5,none⟩) (Nat.le_refl _) (.slice ka ks.length kc)
 refine (HL.out _ hb2).mono ?_
 rintro e w2 ⟨lv1,xs,rfl,_,hl1,hb3⟩
 have hz3 := hb3.size
 have HB2 := Lib.hid (hb2.trans (hb3.mono (by simp; omega)))
 have hx2 := (hb3.block w.heap.size (by simp; omega)).trans (Go.Joins.block_setCell (i := 5) hx (.slice ka ks.length kc))
 have hy2 := (hb3.block (w.heap.size + 1) (by simp; omega)).trans ((Below.heap_setCell _ _ _ _ (by simp)).trans hy)
 have HK2 := Lib.hid (HK1.out.later (W' := w2) (R' := fun g => w.heap.size + 2 ≤ g) (fun g hg hlt => (hb3.block g (by simpa using hlt)).trans (Below.heap_setCell _ _ _ _ (by simp; omega))) (fun _ h => h))
 rw [sc_size] at hz3
 obtain ⟨la,lc,rfl⟩ := slice_form hl1
 clear hb2 hx hy k0 k1 k2 k3 k4 k5 kf HK1 hl1 hb3 HL
 obtain ⟨⟨k0,k1,k2,k3,k4,k5⟩,kf⟩ := cells_six hx2
 go_wp2_with fail
 have hb4 := HB2.out.setCell (p := ⟨w.heap.size,4,none⟩) (Nat.le_refl _) (.slice la 0 lc)
 have hx4 := Go.Joins.block_setCell (i := 4) hx2 (.slice la 0 lc)
 have hy4 := (Below.heap_setCell w2 ⟨w.heap.size,4,none⟩ (.slice la 0 lc) (w.heap.size + 1) (by simp)).trans hy2
 have HK4 := Lib.hid (HK2.out.later (W' := w2.setCell ⟨w.heap.size,4,none⟩ (.slice la 0 lc)) (R' := fun g => w.heap.size + 2 ≤ g) (fun g hg hlt => Below.heap_setCell _ _ _ _ (by simp; omega)) (fun _ h => h))
 have HB4 := Lib.hid hb4
 generalize w2.setCell ⟨w.heap.size,4,none⟩ (.slice la 0 lc) = w4 at hb4 hx4 hy4 HK4 HB4 ⊢
 clear hx2 hy2 HK2 k0 k1 k2 k3 k4 k5 kf hb4
 go_loopw [16] (fun iv wr => iv = .int .i64 0 ∧ wr = w4) (fun iv _ => 0)
 case atStart => exact ⟨rfl,rfl⟩
 case round =>
  obtain ⟨rfl,rfl⟩ := hrel
  obtain ⟨⟨k0,k1,k2,k3,k4,k5⟩,kf⟩ := cells_six hx4
  obtain ⟨⟨j0,j1,j2,j3,j4,j5⟩,jf⟩ := cells_six hy4
  go_wp2_with fail
  refine bodyPost_ret (v := .agg #[.int .i64 so,.bool on,.int .i64 n,.string ⟨t.toArray⟩,.slice la 0 lc,.slice ka ks.length kc]) (by simp [results,Tryz.results90,go_sem,j0,j1,j2,j3,j4,j5]) rfl ?_
  refine ⟨_,_,rfl,⟨⟨la,lc,rfl,.inl rfl⟩,?_⟩,?_⟩
  ·exact HK4.out.later (fun g hg _ => far6 wr (w.heap.size + 1) g _ _ _ _ _ _ (by omega)) (fun g hg => by omega)
  ·exact (((((HB4.out.setCell (p := ⟨w.heap.size + 1,0,none⟩) (Nat.le_succ _) _).setCell (p := ⟨w.heap.size + 1,1,none⟩) (Nat.le_succ _) _).setCell (p := ⟨w.heap.size + 1,2,none⟩) (Nat.le_succ _) _).setCell (p := ⟨w.heap.size + 1,3,none⟩) (Nat.le_succ _) _).setCell (p := ⟨w.heap.size + 1,4,none⟩) (Nat.le_succ _) _).setCell (p := ⟨w.heap.size + 1,5,none⟩) (Nat.le_succ _) _
end Go.Proofs.YtcfdalbdndamoaaGreatDoor.V
namespace Go.Proofs.YtcfdalbdndamoaaGreatDoor.V
open Go.RowKit
open Go.Lib
theorem six_set {W : World} {q : Nat} {c0 c1 c2 c3 c4 c5 : Value} {t : TypeId} (h : W.heap[q]? = some (.cells #[c0,c1,c2,c3,c4,c5] t (0,0))) (x0 x1 x2 x3 x4 x5 : Value) :
  ((((((W.setCell ⟨q,0,none⟩ x0).setCell ⟨q,1,none⟩ x1).setCell ⟨q,2,none⟩ x2).setCell ⟨q,3,none⟩ x3).setCell ⟨q,4,none⟩ x4).setCell ⟨q,5,none⟩ x5).heap[q]? = some (.cells #[x0,x1,x2,x3,x4,x5] t (0,0)) :=
 Go.Joins.block_setCell (i := 5) (Go.Joins.block_setCell (i := 4) (Go.Joins.block_setCell (i := 3) (Go.Joins.block_setCell (i := 2) (Go.Joins.block_setCell (i := 1) (Go.Joins.block_setCell (i := 0) h x0) x1) x2) x3) x4) x5
theorem below6 {B q : Nat} {w W : World} (h : Below B w W) (hq : B ≤ q) (x0 x1 x2 x3 x4 x5 : Value) :
  Below B w ((((((W.setCell ⟨q,0,none⟩ x0).setCell ⟨q,1,none⟩ x1).setCell ⟨q,2,none⟩ x2).setCell ⟨q,3,none⟩ x3).setCell ⟨q,4,none⟩ x4).setCell ⟨q,5,none⟩ x5) :=
 (((((h.setCell (p := ⟨q,0,none⟩) hq _).setCell (p := ⟨q,1,none⟩) hq _).setCell (p := ⟨q,2,none⟩) hq _).setCell (p := ⟨q,3,none⟩) hq _).setCell (p := ⟨q,4,none⟩) hq _).setCell (p := ⟨q,5,none⟩) hq _
end Go.Proofs.YtcfdalbdndamoaaGreatDoor.V
namespace Go.Proofs.YtcfdalbdndamoaaGreatDoor.V
open Go.RowKit
open Go.Lib
structure Far (B b : Nat) (w w' : World) : Prop where
 below : Below B w w'
 others : Lib.OthersKept 5 (some b) w w'
theorem Far.trans {B b : Nat} {w w1 w2 : World} (h : Far B b w w1) (k : Far B b w1 w2) : Far B b w w2 := ⟨h.below.trans k.below,h.others.trans k.others⟩
theorem Far.size {B b : Nat} {w w' : World} (h : Far B b w w') : w.heap.size ≤ w'.heap.size := h.below.size
theorem Far.alloc {B b : Nat} {w w' : World} (h : Far B b w w') (hB : B ≤ w'.heap.size) (o : Obj) : Far B b w (w'.alloc o) := ⟨h.below.alloc hB o,h.others.alloc o⟩
end Go.Proofs.YtcfdalbdndamoaaGreatDoor.V
namespace Go.Proofs.YtcfdalbdndamoaaGreatDoor.V
open Go.RowKit
open Go.Lib
theorem CellsAt.lt {W : World} {g off : Nat} {xs : List Value} (h : CellsAt W g off xs) (hx : xs ≠ []) : g < W.heap.size := by
 cases xs with
 | nil => exact absurd rfl hx
 | cons x r => exact lt_of_cell (h 0 x rfl)
theorem KeysIn.within {W : World} {R : Nat → Prop} {ks : List (List UInt8)} {kv : Value} (h : KeysIn W R ks kv) : KeysIn W (fun g => R g ∧ g < W.heap.size) ks kv := by
 obtain ⟨a,cap,h1,h2⟩ := h
 refine ⟨a,cap,h1,?_⟩
 rcases h2 with h2 | ⟨g,off,h3,h4,h5⟩
 ·exact .inl h2
 ·by_cases hk : ks = []
  ·exact .inl hk
  ·exact .inr ⟨g,off,h3,⟨h4,h5.lt (by simpa using hk)⟩,h5⟩
mutual
theorem ValIn.within {W : World} {R : Nat → Prop} : ∀ (v : Val) (lv kv : Value),ValIn W R v lv kv → ValIn W (fun g => R g ∧ g < W.heap.size) v lv kv
 | .mk so on n t l ks,lv,kv,h => by
  obtain ⟨⟨a,cap,h1,h2⟩,hk⟩ := h
  refine ⟨⟨a,cap,h1,?_⟩,hk.within⟩
  rcases h2 with h2 | ⟨g,off,xs,h3,h4,h5,h6⟩
  ·exact .inl h2
  ·by_cases hl : l = []
   ·exact .inl hl
   ·refine .inr ⟨g,off,xs,h3,⟨h4,h5.lt (fun hx => hl ?_)⟩,h5,ListIn.within l xs h6⟩
    have := h6.length
    rw [hx] at this
    simp at this
    exact List.eq_nil_of_length_eq_zero (by omega)
theorem ListIn.within {W : World} {R : Nat → Prop} : ∀ (l : List Val) (xs : List Value),ListIn W R l xs → ListIn W (fun g => R g ∧ g < W.heap.size) l xs
 | [],xs,h => h
 | v :: r,xs,h => by
  obtain ⟨lv,kv,rest,h1,h2,h3⟩ := h
  exact ⟨lv,kv,rest,h1,ValIn.within v lv kv h2,ListIn.within r rest h3⟩
end
end Go.Proofs.YtcfdalbdndamoaaGreatDoor.V
