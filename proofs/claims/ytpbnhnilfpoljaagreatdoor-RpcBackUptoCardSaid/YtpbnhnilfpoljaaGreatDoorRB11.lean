/- What the claim needs of the texts VWriteR, VWriteV, VWriteTop, VSized. -/
import Derived.Test.YtpbnhnilfpoljaaGreatDoorRB10
import Derived.Laws.Bits128
namespace Go.Proofs.YtpbnhnilfpoljaaGreatDoor.V
open Go.RowKit
open Go.Lib
def restR (i:Nat) (ks:List (List UInt8)) (l:List Val):List UInt8:=if i=0 then writeR ks l else writeR1 (ks.drop i) (l.drop i)
theorem restR_at {i:Nat} {ks:List (List UInt8)} {l:List Val} (h:i<l.length) (h2:i<ks.length):restR i ks l=sepL i++(quoteT ks[i]++(58 :: (write l[i]++restR (i+1) ks l))):=by
 by_cases h0:i=0
 ·subst h0
  cases l with
  | nil=>exact absurd h (Nat.not_lt_zero _)
  | cons v r =>
   cases ks with
   | nil=>exact absurd h2 (Nat.not_lt_zero _)
   | cons k kr=>simp [restR,sepL,writeR]
 ·simp only [restR,sepL,if_neg h0,if_neg (Nat.succ_ne_zero i),List.drop_eq_getElem_cons h,List.drop_eq_getElem_cons h2,writeR1,List.headD_cons,List.tail_cons]
  rfl
theorem restR_end {ks:List (List UInt8)} {l:List Val}:restR l.length ks l=[]:=by
 cases l with
 | nil=>simp [restR,writeR]
 | cons v r=>simp [restR,writeR1]
theorem text_l (B b:Nat) (acc t:List UInt8) (w:World) (h:Bld B b acc w) (hlen:acc.length+(quoteT t).length≤140737488355328) (hBw:B≤w.heap.size) (ht:t.length≤1099511627776) :
  Calls Tryz.prog 78 #[.pointer (some ⟨b,0,none⟩),.string ⟨t.toArray⟩] w fun e w'=>e=.returned (.tuple #[])∧Bld B b (acc++quoteT t) w'∧Far B b w w' :=
 text_s B b acc ⟨t.toArray⟩ w h hlen hBw (by rw [size_mk];exact ht)
set_option maxHeartbeats 4000000 in
theorem record_write (l:List Val) (ks:List (List UInt8)) (kv:Value) (IH:∀ v∈l,WriteC v) (a1:Option Addr) (c1:Nat) (R:Nat→Prop) (B b:Nat) (acc:List UInt8) (w:World)
  (hl:l=[]∨∃ g off xs,a1=some ⟨g,off,none⟩∧R g∧CellsAt w g off xs∧ListIn w R l xs) (hk:KeysIn w R ks kv) (hR:∀ g,R g→g<B) (hE:Env B w) (hB:Bld B b acc w) (hlen:acc.length+(123 :: (writeR ks l++[125])).length≤140737488355328)
  (hwl:wtL l≤1099511627776) (hwk:(ks.map fun k=>k.length+1).sum≤1099511627776) (hri:rightPs l=true) (hkl:ks.length=l.length) :
  Calls Tryz.prog 80 #[.pointer (some ⟨b,0,none⟩),kv,.slice a1 l.length c1] w fun e w'=>e=.returned (.tuple #[])∧Bld B b (acc++123 :: (writeR ks l++[125])) w'∧Far B b w w':=by
 have HL:=Lib.hid hl
 have HK:=Lib.hid hk
 have HIH:=Lib.hid IH
 have HE:=Lib.hid hE
 have hBw:=hE.size
 have HWM:=Lib.hid (fun v (h:v∈l)=>Nat.le_trans (wtL_mem h) hwl)
 have HWK:=Lib.hid (fun k (hk:k∈ks)=>Nat.le_trans (sum_mem hk) hwk)
 have HRM:=Lib.hid (fun v (h:v∈l)=>rightPs_mem hri h)
 have hlb:l.length≤1099511627776:=Nat.le_trans (wtL_length l) hwl
 obtain ⟨T,hT⟩:∃ T,acc++123 :: (writeR ks l++[125])=T:=⟨_,rfl⟩
 rw [hT]
 have hTl:T.length≤140737488355328:=by rw [← hT,List.length_append];exact hlen
 have HT:=Lib.hid (show (acc++[123])++(restR 0 ks l++[125])=T by rw [← hT];simp [restR])
 have cO:=bld_byte B b acc 123 w hB (by simp at hlen;omega) hBw
 obtain ⟨ka,kc,rfl,_⟩:=hk
 obtain ⟨ln,hln⟩:∃ k,l.length=k:=⟨_,rfl⟩
 have HLN:=Lib.hid hln
 have HKL:=Lib.hid (hkl.trans hln)
 rw [hkl]
 rw [hln] at hlb ⊢
 clear hl IH hE hwl hri hln hB hlen hT hkl
 go_enter Tryz.func80,Tryz.ntmps80
 go_wp2_with fail
 refine cO.mono ?_
 rintro e w1 ⟨rfl,hB1,hb1⟩
 have HB1:=Lib.hid hB1
 have HW1:=Lib.hid hb1
 clear cO hB1 hb1
 go_wp2_with fail
 go_loopw [12] (fun iv wr=>∃ (i:Nat) (pre:List UInt8),iv=.int .i64 i∧i≤ln∧Hid (pre++(restR i ks l++[125])=T)∧Hid (Bld B b pre wr)∧Hid (Far B b w wr)) (fun iv _=>ln - (Go.RowKit.intOf iv).toNat)
 case atStart=>exact ⟨0,_,rfl,by omega,HT,HB1,HW1⟩
 case round =>
  obtain ⟨i,pre,rfl,hi,HI,HB,HW⟩:=hrel
  have hz:=HW.out.size
  by_cases hlt:i<ln
  ·have hll:i<l.length:=by rw [HLN.out];exact hlt
   have hlk:i<ks.length:=by rw [HKL.out];exact hlt
   obtain ⟨g,off,xs,rfl,hg,hc,hL⟩:=HL.out.resolve_left (fun h=>by rw [h] at hll;exact Nat.not_lt_zero _ hll)
   have hsm:∀ {W},Far B b w W→Same R w W:=fun hf g hg _=>hf.below.block g (hR g hg)
   obtain ⟨so',on',n',t',l',ks',a1',c1',a2',c2',he,hv',k0,k1,k2,k3,k4,k5⟩:=part_at i (ListIn.later (hsm HW.out) (fun _ h=>h) l xs hL) (hc.later hg (hsm HW.out)) hll
   obtain ⟨kg,ko,kcap,hke,kk⟩:=key_at (HK.out.later (hsm HW.out) (fun _ h=>h)) i hlk
   obtain ⟨rfl,rfl⟩:ka=some ⟨kg,ko,none⟩∧kcap=kc:=by cases hke;exact ⟨rfl,rfl⟩
   have hI:=HI.out
   rw [restR_at hll hlk,he] at hI
   have hsz:=HWK.out _ (List.getElem_mem hlk)
   generalize ks[i]=key at hI kk hsz
   have cP:=fun W' pre' (hb':Far B b wr W') (hB':Bld B b pre' W') (hl':pre'.length+(write l[i]).length≤140737488355328)=>(HIH.out l[i] (List.getElem_mem hll)) (.slice a1' l'.length c1') (.slice a2' ks'.length c2') R B b pre' W'
    (by rw [he];exact ValIn.later (fun g hg _=>hb'.below.block g (hR g hg)) (fun _ h=>h) _ _ _ hv') hR (HE.out.later (HW.out.trans hb').below) hB' hl' (HWM.out _ (List.getElem_mem hll)) (HRM.out _ (List.getElem_mem hll))
   rw [he] at cP
   obtain ⟨wp,hwp⟩:∃ x,write (.mk so' on' n' t' l' ks')=x:=⟨_,rfl⟩
   simp only [hwp,arg,six',six,strCell] at cP
   rw [hwp] at hI
   have hTl2:=hTl
   rw [← hI] at hTl2
   simp only [List.length_append,List.length_cons] at hTl2
   have hgB:=hR g hg
   have hcell:∀ {W:World} {o:Nat} {v:Value},Far B b wr W→wr.cell? ⟨g,o,none⟩=some v→W.cell? ⟨g,o,none⟩=some v:=fun hf hv=>(hf.below.cell hgB).trans hv
   by_cases h0:i=0
   ·have q:decide (0<i)=false:=decide_eq_false (by omega)
    have HI2:=Lib.hid (show (pre++quoteT key++[58]++wp)++(restR (i+1) ks l++[125])=T by rw [← hI];simp [sepL,h0])
    have hF0:=Far.refl B b wr
    clear he hv' hwp hsm hL hc hI h0 hke
    go_wp2_with fail
    refine (text_l B b pre key wr HB.out (by omega) (by have:=hF0.size;omega) hsz).mono ?_
    rintro e w3 ⟨rfl,hB3,hb3⟩
    have hF3:=hF0.trans hb3
    clear hb3
    go_wp2_with fail
    refine (bld_byte B b _ 58 w3 hB3 (by simp;omega) (by have:=hF3.size;omega)).mono ?_
    rintro e w4 ⟨rfl,hB4,hb4⟩
    have hF4:=hF3.trans hb4
    have j0:=hcell hF4 k0
    have j1:=hcell hF4 k1
    have j2:=hcell hF4 k2
    have j3:=hcell hF4 k3
    have j4:=hcell hF4 k4
    have j5:=hcell hF4 k5
    have cQ:=cP w4 _ hF4 hB4 (by simp;omega)
    clear hb4 hB3 hF3 cP hcell
    go_wp2_with fail
    refine cQ.mono ?_
    rintro e w5 ⟨rfl,hB5,hb5⟩
    have HB5:=Lib.hid hB5
    have HW5:=Lib.hid (HW.out.trans (hF4.trans hb5))
    clear cQ hb5 hB5 hF4 hB4
    go_wp2_with fail
    go_roundw
    case rel=>exact ⟨i+1,_,by go_num,by omega,HI2,HB5,HW5⟩
    case measure=>simp [Go.RowKit.intOf];omega
   ·have q:decide (0<i)=true:=decide_eq_true (by omega)
    have HI2:=Lib.hid (show (pre++[44]++quoteT key++[58]++wp)++(restR (i+1) ks l++[125])=T by rw [← hI];simp [sepL,h0])
    have hsp:(sepL i).length=1:=by simp [sepL,h0]
    have cO:=bld_byte B b pre 44 _ HB.out (by omega) (by omega)
    clear he hv' hwp hsm hL hc hI h0 hke
    go_wp2_with fail
    refine cO.mono ?_
    rintro e w2 ⟨rfl,hB2,hb2⟩
    clear cO
    go_wp2_with fail
    refine (text_l B b (pre++[44]) key w2 hB2 (by simp;omega) (by have:=hb2.size;omega) hsz).mono ?_
    rintro e w3 ⟨rfl,hB3,hb3⟩
    have hF3:=hb2.trans hb3
    clear hb3
    go_wp2_with fail
    refine (bld_byte B b _ 58 w3 hB3 (by simp;omega) (by have:=hF3.size;omega)).mono ?_
    rintro e w4 ⟨rfl,hB4,hb4⟩
    have hF4:=hF3.trans hb4
    have j0:=hcell hF4 k0
    have j1:=hcell hF4 k1
    have j2:=hcell hF4 k2
    have j3:=hcell hF4 k3
    have j4:=hcell hF4 k4
    have j5:=hcell hF4 k5
    have cQ:=cP w4 _ hF4 hB4 (by simp;omega)
    clear hb4 hB3 hF3 cP hcell
    go_wp2_with fail
    refine cQ.mono ?_
    rintro e w5 ⟨rfl,hB5,hb5⟩
    have HB5:=Lib.hid hB5
    have HW5:=Lib.hid (HW.out.trans (hF4.trans hb5))
    clear cQ hb5 hB5 hF4 hB4
    go_wp2_with fail
    go_roundw
    case rel=>exact ⟨i+1,_,by go_num,by omega,HI2,HB5,HW5⟩
    case measure=>simp [Go.RowKit.intOf];omega
  ·obtain rfl:i=ln:=by omega
   have hI:=HI.out
   rw [← HLN.out,restR_end] at hI
   have c9:=bld_byte B b pre 125 wr HB.out (by rw [← hI] at hTl;simpa using hTl) (by omega)
   have HF:=Lib.hid hI
   clear hI
   go_wp2_with fail
   refine c9.mono ?_
   rintro e w2 ⟨rfl,hB2,hb2⟩
   have HB2:=Lib.hid hB2
   have HW2:=Lib.hid (HW.out.trans hb2)
   clear c9 hB2 hb2
   go_wp2_with fail
   refine bodyPost_end (results_none rfl _ _ _) rfl ?_
   exact ⟨rfl,by rw [← HF.out];exact HB2.out,HW2.out⟩
end Go.Proofs.YtpbnhnilfpoljaaGreatDoor.V
namespace Go.Proofs.YtpbnhnilfpoljaaGreatDoor.V
open Go.RowKit
open Go.Lib
theorem fb_true:Lib.formatBool true=[116,114,117,101]:=by decide +kernel
theorem fb_false:Lib.formatBool false=[102,97,108,115,101]:=by decide +kernel
set_option maxHeartbeats 4000000 in
theorem write_v:∀ v,WriteC v:=Val.ind fun so on n t l ks IH lv kv R B b acc w hv hR hE hB hlen hw hri=>by
 have hv':=hv
 obtain ⟨⟨a1,c1,rfl,hl⟩,hk⟩:=hv'
 have hk':=hk
 obtain ⟨a2,c2,rfl,_⟩:=hk'
 have hBw:=hE.size
 simp only [wt] at hw
 have hri2:=hri
 simp only [rightP,Bool.and_eq_true] at hri2
 replace hri2:=hri2.2
 have hF0:=(Far.refl B b w).alloc hBw (Obj.cells #[Value.int IntKind.i64 so,Value.bool on,Value.int IntKind.i64 n,Value.string { data:=t.toArray },Value.slice a1 l.length c1,Value.slice a2 ks.length c2] 36)
 have hB0:=bld_later hB ((Below.refl _ _).alloc (Nat.le_refl _) (Obj.cells #[Value.int IntKind.i64 so,Value.bool on,Value.int IntKind.i64 n,Value.string { data:=t.toArray },Value.slice a1 l.length c1,Value.slice a2 ks.length c2] 36))
 have hE0:=hE.later hF0.below
 have hz0:=hF0.size
 have hsm:Same R w (w.alloc (Obj.cells #[Value.int IntKind.i64 so,Value.bool on,Value.int IntKind.i64 n,Value.string { data:=t.toArray },Value.slice a1 l.length c1,Value.slice a2 ks.length c2] 36)):=fun g hg _=>hF0.below.block g (hR g hg)
 have key:∀ W,Same R w W→l=[]∨∃ g off xs,a1=some ⟨g,off,none⟩∧R g∧CellsAt W g off xs∧ListIn W R l xs:=fun W hs=>by
  rcases hl with h|⟨g,off,xs,h1,h2,h3,h4⟩
  ·exact .inl h
  ·exact .inr ⟨g,off,xs,h1,h2,h3.later h2 hs,ListIn.later hs (fun _ h=>h) _ _ h4⟩
 have hlA:=key _ hsm
 clear key
 have hkA:=hk.later hsm (fun _ h=>h)
 simp only [arg,six',six,strCell]
 by_cases h0:so=0
 ·subst h0
  have hwr:write (.mk 0 on n t l ks)=[110,117,108,108]:=by simp [write]
  rw [hwr] at hlen ⊢
  have cO:=bld_string B b acc [110,117,108,108] _ hB0 hlen (by omega)
  have HF0:=Lib.hid hF0
  clear hv hl hk hlA hkA hE0 hB0 hsm hF0 IH hri hri2 hwr
  go_enter Tryz.func42,Tryz.ntmps42
  go_wp2_with fail
  refine cO.mono ?_
  rintro e w2 ⟨⟨ln,rfl⟩,hB2,hb2⟩
  have HB2:=Lib.hid hB2
  have HW2:=Lib.hid (HF0.out.trans hb2)
  clear cO hB2 hb2
  go_wp2_with fail
  refine bodyPost_end (results_none rfl _ _ _) rfl ?_
  exact ⟨rfl,HB2.out,HW2.out⟩
 by_cases h1:so=1
 ·subst h1
  have hwr:write (.mk 1 on n t l ks)=Lib.formatBool on:=by
   cases on
   ·rw [fb_false];simp [write]
   ·rw [fb_true];simp [write]
  rw [hwr] at hlen ⊢
  have cB:=Tryz.strconv_FormatBool on
  have cO:=bld_string B b acc (Lib.formatBool on) _ hB0 hlen (by omega)
  generalize Lib.formatBool on=tx at cB cO ⊢
  have HF0:=Lib.hid hF0
  clear hv hl hk hlA hkA hE0 hB0 hsm hF0 IH hri hri2 hwr hlen
  go_enter Tryz.func42,Tryz.ntmps42
  go_wp2_with fail
  refine (cB _).mono ?_
  rintro e w1 ⟨rfl,rfl⟩
  go_wp2_with fail
  refine cO.mono ?_
  rintro e w2 ⟨⟨ln,rfl⟩,hB2,hb2⟩
  have HB2:=Lib.hid hB2
  have HW2:=Lib.hid (HF0.out.trans hb2)
  clear cO hB2 hb2
  go_wp2_with fail
  refine bodyPost_end (results_none rfl _ _ _) rfl ?_
  exact ⟨rfl,HB2.out,HW2.out⟩
 by_cases h2:so=2
 ·subst h2
  have hn:-9007199254740992≤n∧n≤9007199254740992:=by simpa [inP] using hri2
  have hwr:write (.mk 2 on n t l ks)=Lib.itoa n:=by simp [write]
  rw [hwr] at hlen ⊢
  have cI:∀ W,Env B W→Calls Tryz.prog 77 #[.int .i64 n] W fun e w'=>e=.returned (.string ⟨(Lib.itoa n).toArray⟩)∧Below W.heap.size W w':=fun W hW =>
    (Tryz.strconv_Itoa n (by omega) (by omega) W hW.now.pow).mono fun e w' ⟨he,k,os,hw⟩=>⟨he,by rw [hw];exact Lib.below_grow _ _ (Nat.le_refl _) _ _⟩
  replace cI:=cI _ hE0
  generalize Lib.itoa n=tx at cI hlen ⊢
  have HF0:=Lib.hid hF0
  clear hv hl hk hlA hkA hE0 hsm hF0 IH hri hri2 hwr
  go_enter Tryz.func42,Tryz.ntmps42
  go_wp2_with fail
  refine cI.mono ?_
  rintro e w1 ⟨rfl,hb1⟩
  have hB1:=bld_later hB0 hb1
  have hF1:=HF0.out.trans (Far.of_below (by omega) hb1)
  have cO:=bld_string B b acc tx w1 hB1 hlen (by have:=hF1.size;omega)
  clear cI hB0 hb1 hB1
  go_wp2_with fail
  refine cO.mono ?_
  rintro e w2 ⟨⟨ln,rfl⟩,hB2,hb2⟩
  have HB2:=Lib.hid hB2
  have HW2:=Lib.hid (hF1.trans hb2)
  clear cO hB2 hb2 hF1
  go_wp2_with fail
  refine bodyPost_end (results_none rfl _ _ _) rfl ?_
  exact ⟨rfl,HB2.out,HW2.out⟩
 have q0:(so==0)=false:=by simpa using h0
 by_cases h3:so=3
 ·subst h3
  have hwr:write (.mk 3 on n t l ks)=quoteT t:=by simp [write]
  rw [hwr] at hlen ⊢
  have cO:=text_l B b acc t _ hB0 hlen (by omega) (by omega)
  have HF0:=Lib.hid hF0
  clear hv hl hk hlA hkA hE0 hB0 hsm hF0 IH hri hri2 hwr
  go_enter Tryz.func42,Tryz.ntmps42
  go_wp2_with fail
  refine cO.mono ?_
  rintro e w2 ⟨rfl,hB2,hb2⟩
  have HB2:=Lib.hid hB2
  have HW2:=Lib.hid (HF0.out.trans hb2)
  clear cO hB2 hb2
  go_wp2_with fail
  refine bodyPost_end (results_none rfl _ _ _) rfl ?_
  exact ⟨rfl,HB2.out,HW2.out⟩
 by_cases h4:so=4
 ·subst h4
  have hwr:write (.mk 4 on n t l ks)=91 :: (writeL l++[93]):=by simp [write]
  rw [hwr] at hlen ⊢
  have cO:=list_write l IH a1 c1 R B b acc _ hlA hR hE0 hB0 hlen (by omega) hri2
  have HF0:=Lib.hid hF0
  clear hv hl hk hlA hkA hE0 hB0 hsm hF0 IH hri hri2 hwr
  go_enter Tryz.func42,Tryz.ntmps42
  go_wp2_with fail
  refine cO.mono ?_
  rintro e w2 ⟨rfl,hB2,hb2⟩
  have HB2:=Lib.hid hB2
  have HW2:=Lib.hid (HF0.out.trans hb2)
  clear cO hB2 hb2
  go_wp2_with fail
  refine bodyPost_end (results_none rfl _ _ _) rfl ?_
  exact ⟨rfl,HB2.out,HW2.out⟩
 by_cases h5:so=5
 ·subst h5
  have hwr:write (.mk 5 on n t l ks)=123 :: (writeR ks l++[125]):=by simp [write]
  rw [hwr] at hlen ⊢
  have hri3:(ks.length=l.length∧keysP ks []=true)∧rightPs l=true:=by simpa using hri2
  have cO:=record_write l ks _ IH a1 c1 R B b acc _ hlA hkA hR hE0 hB0 hlen (by omega) (by omega) hri3.2 hri3.1.1
  have HF0:=Lib.hid hF0
  clear hv hl hk hlA hkA hE0 hB0 hsm hF0 IH hri hri2 hwr hri3
  go_enter Tryz.func42,Tryz.ntmps42
  go_wp2_with fail
  refine cO.mono ?_
  rintro e w2 ⟨rfl,hB2,hb2⟩
  have HB2:=Lib.hid hB2
  have HW2:=Lib.hid (HF0.out.trans hb2)
  clear cO hB2 hb2
  go_wp2_with fail
  refine bodyPost_end (results_none rfl _ _ _) rfl ?_
  exact ⟨rfl,HB2.out,HW2.out⟩
 simp [h0,h1,h2,h3,h4,h5] at hri2
end Go.Proofs.YtpbnhnilfpoljaaGreatDoor.V
namespace Go.Proofs.YtpbnhnilfpoljaaGreatDoor.V
open Go.RowKit
open Go.Lib
theorem CellsAt.lt {W:World} {g off:Nat} {xs:List Value} (h:CellsAt W g off xs) (hx:xs≠[]):g<W.heap.size:=by
 cases xs with
 | nil=>exact absurd rfl hx
 | cons x r=>exact lt_of_cell (h 0 x rfl)
theorem KeysIn.within {W:World} {R:Nat→Prop} {ks:List (List UInt8)} {kv:Value} (h:KeysIn W R ks kv):KeysIn W (fun g=>R g∧g<W.heap.size) ks kv:=by
 obtain ⟨a,cap,h1,h2⟩:=h
 refine ⟨a,cap,h1,?_⟩
 rcases h2 with h2|⟨g,off,h3,h4,h5⟩
 ·exact .inl h2
 ·by_cases hk:ks=[]
  ·exact .inl hk
  ·exact .inr ⟨g,off,h3,⟨h4,h5.lt (by simpa using hk)⟩,h5⟩
mutual
theorem ValIn.within {W:World} {R:Nat→Prop}:∀ (v:Val) (lv kv:Value),ValIn W R v lv kv→ValIn W (fun g=>R g∧g<W.heap.size) v lv kv
 | .mk so on n t l ks,lv,kv,h=>by
  obtain ⟨⟨a,cap,h1,h2⟩,hk⟩:=h
  refine ⟨⟨a,cap,h1,?_⟩,hk.within⟩
  rcases h2 with h2|⟨g,off,xs,h3,h4,h5,h6⟩
  ·exact .inl h2
  ·by_cases hl:l=[]
   ·exact .inl hl
   ·refine .inr ⟨g,off,xs,h3,⟨h4,h5.lt (fun hx=>hl ?_)⟩,h5,ListIn.within l xs h6⟩
    have:=h6.length
    rw [hx] at this
    simp at this
    exact List.eq_nil_of_length_eq_zero (by omega)
theorem ListIn.within {W:World} {R:Nat→Prop}:∀ (l:List Val) (xs:List Value),ListIn W R l xs→ListIn W (fun g=>R g∧g<W.heap.size) l xs
 | [],xs,h=>h
 | v :: r,xs,h=>by
  obtain ⟨lv,kv,rest,h1,h2,h3⟩:=h
  exact ⟨lv,kv,rest,h1,ValIn.within v lv kv h2,ListIn.within r rest h3⟩
end
def WritesTop (v:Val) (w:World) (e:Ending) (w':World):Prop :=
 Below w.heap.size w w'∧if rightTop v=true then e=.returned (.tuple #[.string ⟨(write v).toArray⟩,.int .i64 0]) else e=.returned (.tuple #[.string ⟨#[]⟩,.int .i64 21])
set_option maxHeartbeats 2000000 in
theorem write_top (so:Int) (on:Bool) (n:Int) (t:List UInt8) (l:List Val) (ks:List (List UInt8)) (lv kv:Value) (R:Nat→Prop) (w:World) (hv:ValIn w R (.mk so on n t l ks) lv kv) (hw:wt (.mk so on n t l ks)≤1099511627776) (hlen:(write (.mk so on n t l ks)).length≤140737488355328) (hE:EnvW w) :
  Calls Tryz.prog 17 #[arg (.mk so on n t l ks) lv kv] w (WritesTop (.mk so on n t l ks) w):=by
 have cR:=fun W (hb:Below w.heap.size w W)=>right_top so on n t l ks lv kv R W (hv.later (fun b _ hlt=>hb.block b hlt) (fun _ h=>h) _ _ _) hw (hE.later hb)
 have cW:=fun W (hb:Below w.heap.size w W) b hB hr=>write_v (.mk so on n t l ks) lv kv (fun g=>R g∧g<w.heap.size) w.heap.size b [] W (hv.within.later (fun b hb' hlt=>hb.block b hlt) (fun _ h=>h) _ _ _) (fun g h=>h.2) ((Env.start hE).later hb) hB (by simpa using hlen) hw hr
 unfold WritesTop
 have hv':=hv
 obtain ⟨⟨a1,c1,rfl,_⟩,⟨a2,c2,rfl,_⟩⟩:=hv'
 obtain ⟨tx,htx⟩:∃ x,write (.mk so on n t l ks)=x:=⟨_,rfl⟩
 obtain ⟨b1,hb1⟩:∃ x,rightTop (.mk so on n t l ks)=x:=⟨_,rfl⟩
 simp only [hb1] at cR ⊢
 simp only [htx,List.nil_append] at cW ⊢
 have hri:b1=true→rightP (.mk so on n t l ks)=true:=by
  intro h;rw [h] at hb1;simp only [rightTop,Bool.and_eq_true] at hb1;exact hb1.2
 simp only [arg,six',six,strCell] at cR cW ⊢
 have HW:=Lib.hid cW
 have HRI:=Lib.hid hri
 clear hv hw hlen hE cW htx hb1 hri
 go_enter Tryz.func17,Tryz.ntmps17
 go_wp2_with fail
 refine (cR _ ((Below.refl _ _).alloc (Nat.le_refl _) _)).mono ?_
 rintro e w1 ⟨rfl,hb1⟩
 have HB1:=Lib.hid (((Below.refl w.heap.size w).alloc (Nat.le_refl _) _).trans (hb1.mono (by simp)))
 have hblk:=(hb1.block w.heap.size (by simp)).trans (heap_alloc_new w _)
 have hz1:=hb1.size
 simp at hz1
 obtain ⟨⟨k0,k1,k2,k3,k4,k5⟩,kf⟩:=cells_six ((Below.heap_alloc w1 (.cells #[.pointer none,.slice none 0 0] 100) w.heap.size (by omega)).trans hblk)
 have hBd:Bld w.heap.size w1.heap.size [] (w1.alloc (.cells #[.pointer none,.slice none 0 0] 100)):=.inl ⟨by omega,.slice none 0 0,heap_alloc_new _ _,World.ownsRowF_nil _ _ _ _,by simp [Value.ownBlock]⟩
 have HBD:=Lib.hid hBd
 have HB2:=Lib.hid (HB1.out.alloc (by omega) (.cells #[.pointer none,.slice none 0 0] 100))
 clear hBd
 clear cR hb1 hblk
 cases b1 with
 | false =>
  go_wp2_with fail
  go_ret2
  exact ⟨HB1.out,by simp⟩
 | true =>
  have cQ:=HW.out _ HB2.out w1.heap.size HBD.out (HRI.out rfl)
  go_wp2_with fail
  refine cQ.mono ?_
  rintro e w2 ⟨rfl,hB2,hf2⟩
  have hB3:=HB2.out.trans hf2.below
  have cS:=Tryz.Builder_String_any_k w.heap.size w1.heap.size tx w2 hB2 hB3.size
  clear cQ hf2 hB2
  go_wp2_with fail
  refine cS.mono ?_
  rintro e w3 ⟨rfl,_,hb4,_⟩
  have HB4:=Lib.hid (hB3.trans hb4)
  clear cS hb4 hB3
  go_wp2_with fail
  go_ret2
  exact ⟨HB4.out,by simp⟩
end Go.Proofs.YtpbnhnilfpoljaaGreatDoor.V
namespace Go.Proofs.YtpbnhnilfpoljaaGreatDoor.V
open Go.RowKit
open Go.Lib
section
variable {so n:Int} {on:Bool} {t:List UInt8} {l:List Val} {ks:List (List UInt8)}
end
theorem val_below {W W':World} {R:Nat→Prop} {v:Val} {lv kv:Value} (h:ValIn W R v lv kv) (hb:Below W.heap.size W W'):ValIn W' R v lv kv:=h.later (fun b _ hlt=>hb.block b hlt) (fun _ h=>h) _ _ _
end Go.Proofs.YtpbnhnilfpoljaaGreatDoor.V
namespace Go.Proofs.YtpbnhnilfpoljaaGreatDoor.V
open Go.RowKit
open Go.Lib
mutual
def sizeV:Val→Nat
 | .mk _ _ _ t l ks=>sizeLs l (1+t.length+sumK ks)
def sizeLs:List Val→Nat→Nat
 | [],n=>n
 | v :: r,n=>if n≤400 then sizeLs r (n+sizeV v) else n
end
mutual
theorem sizeV_le:∀ v,sizeV v≤wt v
 | .mk so on n t l ks=>by
  have h:=sizeLs_le l (1+t.length+sumK ks)
  simp only [sizeV,wt]
  have e:(ks.map fun k=>k.length+1).sum=sumK ks:=rfl
  rw [e]
  omega
theorem sizeLs_le:∀ (l:List Val) (n:Nat),sizeLs l n≤n+wtL l
 | [],n=>by simp [sizeLs,wtL]
 | v :: r,n=>by
  have h1:=sizeV_le v
  have h2:=sizeLs_le r (n+sizeV v)
  simp only [sizeLs,wtL]
  split <;> omega
end
theorem sumK_take_succ {ks:List (List UInt8)} {i:Nat} (h:i<ks.length):sumK (ks.take (i+1))=sumK (ks.take i)+1+ks[i].length:=by
 rw [List.take_succ_eq_append_getElem h,sumK_snoc];omega
theorem sumK_take_le (ks:List (List UInt8)) (i:Nat):sumK (ks.take i)≤sumK ks:=by
 have hap:∀ a b:List (List UInt8),sumK (a++b)=sumK a+sumK b:=by
  intro a b
  simp [sumK]
 have h2:=hap (ks.take i) (ks.drop i)
 rw [List.take_append_drop] at h2
 omega
theorem wtL_take_succ {l:List Val} {i:Nat} (h:i<l.length):wtL (l.take (i+1))=wtL (l.take i)+wt l[i]:=by
 rw [List.take_succ_eq_append_getElem h,wtL_snoc]
theorem wtL_take_le (l:List Val) (i:Nat):wtL (l.take i)≤wtL l:=by
 have hap:∀ a b:List Val,wtL (a++b)=wtL a+wtL b:=by
  intro a b
  induction a with
  | nil=>simp [wtL]
  | cons x r ih=>simp only [List.cons_append,wtL,ih];omega
 have h2:=hap (l.take i) (l.drop i)
 rw [List.take_append_drop] at h2
 omega
theorem sizeLs_drop {l:List Val} {k n:Nat} (hk:k<l.length):sizeLs (l.drop k) n=if n≤400 then sizeLs (l.drop (k+1)) (n+sizeV l[k]) else n:=by
 rw [List.drop_eq_getElem_cons hk];simp only [sizeLs]
def SizeC (v:Val):Prop:=∀ (lv kv:Value) (R:Nat→Prop) (w:World),ValIn w R v lv kv→wt v≤1099511627776 →
 Calls Tryz.prog 13 #[arg v lv kv] w fun e w'=>e=.returned (.int .i64 (sizeV v))∧Below w.heap.size w w'
set_option maxHeartbeats 4000000 in
theorem size_v:∀ v,SizeC v:=Val.ind fun so on n t l ks IH lv kv R w hv hw=>by
 have hv':=hv
 obtain ⟨⟨a1,c1,rfl,hl⟩,⟨a2,c2,rfl,hk⟩⟩:=hv'
 have HL:=Lib.hid hl
 have HK:=Lib.hid hk
 have HIH:=Lib.hid IH
 have hw2:=hw
 simp only [wt] at hw2
 have hw3:1+t.length+sumK ks+wtL l≤1099511627776:=hw2
 have HWM:=Lib.hid (fun v (h:v∈l)=>Nat.le_trans (wtL_mem h) (show wtL l≤1099511627776 by omega))
 have hlb:l.length≤1099511627776:=Nat.le_trans (wtL_length l) (by omega)
 have hkb:ks.length≤1099511627776:=Nat.le_trans (wt_keys ks) (by have:(ks.map fun k=>k.length+1).sum=sumK ks:=rfl;omega)
 obtain ⟨F,hF⟩:∃ F,sizeV (.mk so on n t l ks)=F:=⟨_,rfl⟩
 have HF:=Lib.hid (show sizeLs (l.drop 0) (1+t.length+sumK ks)=F by rw [← hF];rfl)
 rw [hF]
 obtain ⟨ln,hln⟩:∃ k,l.length=k:=⟨_,rfl⟩
 obtain ⟨kn,hkn⟩:∃ k,ks.length=k:=⟨_,rfl⟩
 have HLN:=Lib.hid hln
 have HKN:=Lib.hid hkn
 have HW3:=Lib.hid hw3
 have hts:(⟨t.toArray⟩:ByteArray).size=t.length:=rfl
 have ht1:t.length≤1099511627776:=by omega
 simp only [arg,six',six,strCell]
 rw [hln,hkn]
 rw [hln] at hlb
 rw [hkn] at hkb
 clear hv hl hk IH hw hw2 hw3 hF hln hkn
 go_enter Tryz.func13,Tryz.ntmps13
 go_wp2_with fail
 obtain ⟨w1,hw1⟩:∃ w1,w.alloc (.cells #[.int .i64 so,.bool on,.int .i64 n,.string ⟨t.toArray⟩,.slice a1 ln c1,.slice a2 kn c2] 26)=w1:=⟨_,rfl⟩
 rw [hw1]
 have hq1:w1.heap[w.heap.size]?=some (.cells #[.int .i64 so,.bool on,.int .i64 n,.string ⟨t.toArray⟩,.slice a1 ln c1,.slice a2 kn c2] 26 (0,0)):=by rw [← hw1];exact heap_alloc_new w _
 have hb1:Below w.heap.size w w1:=by rw [← hw1];exact (Below.refl _ _).alloc (Nat.le_refl _) _
 have hz1:w.heap.size<w1.heap.size:=by rw [← hw1];simp
 obtain ⟨⟨k0,k1,k2,k3,k4,k5⟩,kf⟩:=cells_six hq1
 have HQ1:=Lib.hid hq1
 have HB1:=Lib.hid hb1
 clear hq1 hb1 hw1
 go_loopw [3,4] (fun nv iv wr=>∃ i m:Nat,iv=.int .i64 i∧nv=.int .i64 m∧i≤kn∧m≤1099511627776∧Hid (m=1+t.length+sumK (ks.take i))∧wr=w1) (fun _ iv _=>kn - (Go.RowKit.intOf iv).toNat)
 case atStart=>exact ⟨0,1+t.length,rfl,by go_num,by omega,by have:=HW3.out;omega,Lib.hid (by simp [sumK]),rfl⟩
 case round =>
  obtain ⟨i,m,rfl,rfl,hi,hm,HM,hwr⟩:=hrel
  have hwr':=hwr.symm
  subst hwr'
  clear hwr
  by_cases hlt:i<kn
  ·have hll:i<ks.length:=by rw [HKN.out];exact hlt
   obtain ⟨g,off,rfl,hg,hc⟩:=HK.out.resolve_left (fun h=>by rw [h] at hll;exact Nat.not_lt_zero _ hll)
   have hci:w1.cell? ⟨g,off+i,none⟩=some (.string ⟨(ks[i]).toArray⟩):=by
    have h1:=hc i (strCell ks[i]) (by simp [hll])
    exact (HB1.out.cell (p:=⟨g,off+i,none⟩) (Lib.lt_of_cell h1)).trans h1
   have hsz:(⟨(ks[i]).toArray⟩:ByteArray).size=(ks[i]).length:=rfl
   have hts2:=sumK_take_succ hll
   have hle:=sumK_take_le ks (i+1)
   have hMo:=HM.out
   have HM2:=Lib.hid (show m+1+ks[i].length=1+t.length+sumK (ks.take (i+1)) by omega)
   have hbb:m+1+ks[i].length≤1099511627776:=by have:=HW3.out;omega
   clear hc hMo hts2 hle
   generalize ks[i]=x at hci hsz HM2 hbb
   go_wp2_with fail
   go_roundw
   case rel=>exact ⟨i+1,m+1+x.length,by go_num,by go_num,by omega,hbb,HM2,by first|rfl|trivial⟩
   case measure=>simp [Go.RowKit.intOf];omega
  ·have hMk:m=1+t.length+sumK ks:=by
    have h1:=HM.out
    rw [List.take_of_length_le (by rw [HKN.out];omega)] at h1
    exact h1
   have HMK:=Lib.hid hMk
   have HF2:=Lib.hid (show sizeLs (l.drop 0) m=F by rw [hMk];exact HF.out)
   clear hMk HM
   go_wp2_with fail
   clear k0 k1 k2 k3 k4 k5 kf
   go_loopw [3,5] (fun nv iv w2=>∃ i m2:Nat,iv=.int .i64 i∧nv=.int .i64 m2∧i≤ln∧Hid (m2≤m+wtL (l.take i))∧Hid (sizeLs (l.drop i) m2=F)∧Hid (Below w1.heap.size w1 w2)) (fun _ iv _=>ln - (Go.RowKit.intOf iv).toNat)
   case atStart=>exact ⟨0,m,rfl,rfl,by omega,Lib.hid (by omega),HF2,Lib.hid (Below.refl _ _)⟩
   case round =>
    obtain ⟨i,m2,rfl,rfl,hi2,HM2,HI,HB⟩:=hrel
    have hq:=(HB.out.block w.heap.size hz1).trans HQ1.out
    obtain ⟨⟨k0,k1,k2,k3,k4,k5⟩,kf⟩:=cells_six hq
    have HQ:=Lib.hid hq
    have hz2:=HB.out.size
    have hmb:m2≤1099511627776:=by have h1:=HM2.out;have h2:=wtL_take_le l i;have h3:=HW3.out;have h4:=HMK.out;omega
    clear hq
    by_cases hlt2:i<ln
    ·have hll:i<l.length:=by rw [HLN.out];exact hlt2
     have hI:=HI.out
     rw [sizeLs_drop hll] at hI
     by_cases h400:m2≤400
     ·rw [if_pos h400] at hI
      obtain ⟨g,off,xs,rfl,hg,hc,hL⟩:=HL.out.resolve_left (fun h=>by rw [h] at hll;exact Nat.not_lt_zero _ hll)
      have hb0:Below w.heap.size w wr:=HB1.out.trans (HB.out.mono HB1.out.size)
      have hsm:Same R w wr:=fun b _ hb=>hb0.block b hb
      obtain ⟨so',on',n',t',l',ks',a1',c1',a2',c2',he,hv',j0,j1,j2,j3,j4,j5⟩:=part_at i (ListIn.later hsm (fun _ h=>h) l xs hL) (hc.later hg hsm) hll
      have hle:=sizeV_le l[i]
      have hts:=wtL_take_succ hll
      have htl:=wtL_take_le l (i+1)
      have HM3:=Lib.hid (show m2+sizeV l[i]≤m+wtL (l.take (i+1)) by have:=HM2.out;omega)
      have hmb3:m2+sizeV l[i]≤1099511627776:=by have h1:=HM2.out;have h3:=HW3.out;have h4:=HMK.out;omega
      have cP:=fun W' (hb':Below wr.heap.size wr W')=>(HIH.out l[i] (List.getElem_mem hll)) (.slice a1' l'.length c1') (.slice a2' ks'.length c2') R W' (by rw [he];exact ValIn.later (fun b _ hb=>hb'.block b hb) (fun _ h=>h) _ _ _ hv') (HWM.out _ (List.getElem_mem hll))
      rw [he] at hI HM3 hmb3
      simp only [he] at cP
      simp only [arg,six',six,strCell] at cP
      obtain ⟨sz,hsz⟩:∃ z,sizeV (.mk so' on' n' t' l' ks')=z:=⟨_,rfl⟩
      rw [hsz] at hI HM3 hmb3
      simp only [hsz] at cP
      have HI2:=Lib.hid hI
      have HB0:=Lib.hid hb0
      clear hI he hv' hsm hL hc hle hts htl hsz hb0
      go_wp2_with fail
      refine (cP _ (Below.refl _ _)).mono ?_
      rintro e w3 ⟨rfl,hb3⟩
      have HB3:=Lib.hid (HB.out.trans (hb3.mono hz2))
      clear cP hb3
      go_wp2_with fail
      go_roundw
      case rel=>exact ⟨i+1,m2+sz,by go_num,by go_num,by omega,HM3,HI2,HB3⟩
      case measure=>simp [Go.RowKit.intOf];omega
     ·rw [if_neg h400] at hI
      subst hI
      go_wp2_with fail
      go_ret
      exact ⟨rfl,HB1.out.trans (HB.out.mono HB1.out.size)⟩
    ·have hI:=HI.out
     rw [List.drop_eq_nil_of_le (by rw [HLN.out];omega)] at hI
     have hI2:m2=F:=hI
     subst hI2
     clear hI
     go_wp2_with fail
     go_ret
     exact ⟨rfl,HB1.out.trans (HB.out.mono HB1.out.size)⟩
end Go.Proofs.YtpbnhnilfpoljaaGreatDoor.V
