/- What the claim needs of the texts VRead1, VHex, VRead2. -/
import Derived.Test.YtpbnhnilfpoljaaGreatDoorRB1
import Derived.RegionTactic
import Derived.Deep.QuietTactic
import Derived.BigQuiet
import Derived.Deep.LoopGhost
import Derived.IntWalk
import Derived.Lib.Strings
import Derived.Lib.Walk
import Derived.Lib.ConvBytes
import Derived.Lib.AtoiAllMem
import Derived.Lib.Hide
import Derived.Laws.Strings3
import Derived.Laws.Closers25
import Derived.Laws.Closers25b
import Derived.WalkKit
import Derived.BigCall
import Derived.BigGuard
import Derived.Deep.RegionHeld3
namespace Go.Proofs.YtpbnhnilfpoljaaGreatDoor.V
open Go.RowKit
open Go.Lib
set_option maxHeartbeats 400000 in
theorem ended_any (d:Nat) (s:ByteArray) (at':Nat) (o:Int) (w:World) (hr:Rd d s at' o w) :
  Calls Tryz.prog 46 #[.pointer (some ⟨d,0,none⟩)] w fun e w'=>e=.returned (.bool ((at':Int)==(s.size:Int)))∧∃ n,w'=w.drewN n:=by
 have c0:=hr.c0
 have c1:=hr.c1
 go_enter Tryz.func46,Tryz.ntmps46
 go_wp2
 go_quiet (fail)
 go_wp2
 go_ret
 exact ⟨rfl,nq,rfl⟩
theorem ended_yes (d:Nat) (s:ByteArray) (o:Int) (w:World) (hr:Rd d s s.size o w) :
  Calls Tryz.prog 46 #[.pointer (some ⟨d,0,none⟩)] w fun e w'=>e=.returned (.bool true)∧∃ n,w'=w.drewN n :=
 (ended_any d s s.size o w hr).mono fun e w' ⟨he,hw⟩=>⟨by rw [he];simp,hw⟩
theorem ended_no (d:Nat) (s:ByteArray) (at':Nat) (o:Int) (w:World) (hr:Rd d s at' o w) (ha:at'<s.size) :
  Calls Tryz.prog 46 #[.pointer (some ⟨d,0,none⟩)] w fun e w'=>e=.returned (.bool false)∧∃ n,w'=w.drewN n :=
 (ended_any d s at' o w hr).mono fun e w' ⟨he,hw⟩=>⟨by rw [he,show ((at':Int)==(s.size:Int))=false from by simp;omega],hw⟩
def RdL (d:Nat) (s:ByteArray) (l:List UInt8) (o:Int) (w:World):Prop:=∃ at':Nat,at'≤s.size∧s.data.toList.drop at'=l∧Rd d s at' o w
theorem RdL.lt {d:Nat} {s:ByteArray} {l:List UInt8} {o:Int} {w:World} (h:RdL d s l o w):d<w.heap.size:=by obtain ⟨_,_,_,h⟩:=h;exact h.lt
theorem RdL.below {d:Nat} {s:ByteArray} {l:List UInt8} {o:Int} {w w':World} (h:RdL d s l o w) (hb:Below w.heap.size w w'):RdL d s l o w':=by
 obtain ⟨a,h1,h2,h3⟩:=h;exact ⟨a,h1,h2,h3.below hb⟩
theorem RdL.len {d:Nat} {s:ByteArray} {l:List UInt8} {o:Int} {w:World} (h:RdL d s l o w):l.length≤s.size:=by
 obtain ⟨a,h1,h2,h3⟩:=h
 rw [← h2,List.length_drop,← Lib.size_eq];omega
theorem extract_drop (s:ByteArray) (a:Nat):(s.extract a s.size).data.toList=s.data.toList.drop a:=by
 rw [Lib.extract_data,List.take_of_length_le]
 rw [List.length_drop,← Lib.size_eq];omega
theorem RdL.of {d:Nat} {s:ByteArray} {l:List UInt8} {o:Int} {w:World} (n:Nat) (a:Int) (e:a=n) (h1:n≤s.size) (h2:s.data.toList.drop n=l) (h:Rd d s a o w):RdL d s l o w:=⟨n,h1,h2,e ▸ h⟩
set_option maxHeartbeats 400000 in
theorem take_yes (d:Nat) (s p:ByteArray) (l:List UInt8) (o:Int) (w:World) (hr:RdL d s l o w) (hs:s.size≤1099511627776) (hp:Lib.hasPrefix l p.data.toList=true) :
  Calls Tryz.prog 83 #[.pointer (some ⟨d,0,none⟩),.string p] w fun e w'=>e=.returned (.bool true)∧RdL d s (l.drop p.size) o w'∧Mut w.heap.size d w w':=by
 obtain ⟨at',ha,hl,hr⟩:=hr
 have hpl:p.size≤s.size - at':=by
  have h:=(List.isPrefixOf_iff_prefix.1 hp).length_le
  rw [← hl,List.length_drop,← Lib.size_eq,← Lib.size_eq] at h;exact h
 have hcon:∀ W,Calls Tryz.prog 109 #[.string (s.extract at' s.size),.string p] W fun e w'=>e=.returned (.bool true)∧w'=W:=fun W=>by
  have h:=Tryz.strings_HasPrefix (s.extract at' s.size) p W
  rw [extract_drop,hl,hp] at h;exact h
 have hl2:s.data.toList.drop (at'+p.size)=l.drop p.size:=by rw [← hl,List.drop_drop]
 have HL:=Lib.hid hl2
 have c0:=hr.c0
 have c1:=hr.c1
 have f1:=hr.f1
 clear hp hl hl2
 go_enter Tryz.func83,Tryz.ntmps83
 go_wp2
 go_quiet ((go_at_call 109;exact Calls.quiet_of_same (hcon _)))
 go_wp2
 go_ret
 exact ⟨rfl,RdL.of (at'+p.size) _ (by omega) (by omega) HL.out ((hr.drewN nq).set1 _),((Mut.refl _ _ _).drewN nq).setCell 1 _⟩
set_option maxHeartbeats 400000 in
theorem take_no (d:Nat) (s p:ByteArray) (l:List UInt8) (o:Int) (w:World) (hr:RdL d s l o w) (hp:Lib.hasPrefix l p.data.toList=false) :
  Calls Tryz.prog 83 #[.pointer (some ⟨d,0,none⟩),.string p] w fun e w'=>e=.returned (.bool false)∧RdL d s l o w'∧Mut w.heap.size d w w':=by
 obtain ⟨at',ha,hl,hr⟩:=hr
 have hcon:∀ W,Calls Tryz.prog 109 #[.string (s.extract at' s.size),.string p] W fun e w'=>e=.returned (.bool false)∧w'=W:=fun W=>by
  have h:=Tryz.strings_HasPrefix (s.extract at' s.size) p W
  rw [extract_drop,hl,hp] at h;exact h
 have HL:=Lib.hid hl
 have c0:=hr.c0
 have c1:=hr.c1
 have f1:=hr.f1
 clear hp hl
 go_enter Tryz.func83,Tryz.ntmps83
 go_wp2
 go_quiet ((go_at_call 109;exact Calls.quiet_of_same (hcon _)))
 go_wp2
 go_ret
 exact ⟨rfl,RdL.of at' _ rfl (by omega) HL.out (hr.drewN nq),(Mut.refl _ _ _).drewN nq⟩
def SetIs (set:ByteArray) (p:UInt8→Bool):Prop:=∀ c:UInt8,p c=decide (0≤Lib.indexByte set.data.toList c)
def atOf (d:Nat) (w:World):Nat:=match w.cell? ⟨d,1,none⟩ with|some (.int _ n)=>n.toNat|_=>0
theorem atOf_rd {d:Nat} {s:ByteArray} {a:Nat} {o:Int} {w:World} (h:Rd d s a o w):atOf d w=a:=by unfold atOf;rw [h.c1];simp
def Taken (p:UInt8→Bool) (l:List UInt8) (k:Nat):Prop:=∀ i,i<k→∃ c,l[i]?=some c∧p c=true
theorem Taken.step {p:UInt8→Bool} {l:List UInt8} {k:Nat} (h:Taken p l k) (c:UInt8) (hc:l[k]?=some c) (hp:p c=true):Taken p l (k+1):=by
 intro i hi
 by_cases h2:i<k
 ·exact h i h2
 ·obtain rfl:i=k:=by omega
  exact ⟨c,hc,hp⟩
theorem Taken.all {p:UInt8→Bool}:∀ {l:List UInt8} {k:Nat},Taken p l k→(∀ c,l[k]?=some c→p c=false)→l.takeWhile p=l.take k∧l.dropWhile p=l.drop k
 | [],k,_,_=>by simp
 | c :: t,0,_,h2=>by have:=h2 c rfl;simp [this]
 | c :: t,k+1,h1,h2=>by
  obtain ⟨c',hc',hp⟩:=h1 0 (by omega)
  have hcc:c=c':=by simpa using hc'
  subst hcc
  have:=Taken.all (l:=t) (k:=k) (fun i hi=>by simpa using h1 (i+1) (by omega)) (fun c hc=>h2 c (by simpa using hc))
  simp [hp,this.1,this.2]
theorem drop_get (s:ByteArray) (a k:Nat) (h:a+k<s.size):(s.data.toList.drop a)[k]?=some s[a+k]:=by
 rw [List.getElem?_drop,List.getElem?_eq_getElem (by rw [← Lib.size_eq];exact h)];rfl
theorem drop_none (s:ByteArray) (a k:Nat) (h:¬ a+k<s.size):(s.data.toList.drop a)[k]?=none:=by
 rw [List.getElem?_drop,List.getElem?_eq_none (by rw [← Lib.size_eq];omega)]
theorem u8_round (c:UInt8):((c.toNat:Int)).toNat.toUInt8=c:=by simp
theorem extract_take (s:ByteArray) (a k:Nat):s.extract a (a+k)=⟨((s.data.toList.drop a).take k).toArray⟩:=by
 rw [Lib.extract_eq,Nat.add_sub_cancel_left]
set_option maxHeartbeats 1000000 in
theorem takeAll_any (d:Nat) (s set:ByteArray) (p:UInt8→Bool) (hset:SetIs set p) (l:List UInt8) (o:Int) (w:World) (hr:RdL d s l o w) (hs:s.size≤1099511627776) :
  Calls Tryz.prog 82 #[.pointer (some ⟨d,0,none⟩),.string set] w fun e w'=>e=.returned (.string ⟨(l.takeWhile p).toArray⟩)∧RdL d s (l.dropWhile p) o w'∧Mut w.heap.size d w w':=by
 obtain ⟨at0,ha,hl,hr⟩:=hr
 have HL:=Lib.hid hl
 have c0:=hr.c0
 have c1:=hr.c1
 clear hl
 go_enter Tryz.func82,Tryz.ntmps82
 go_wp2
 clear c0 c1
 go_loopw [] (fun w'=>∃ j:Nat,at0≤j∧j≤s.size∧Rd d s (j:Nat) o w'∧Mut w.heap.size d w w'∧Taken p l (j - at0)) (fun w'=>s.size - atOf d w')
 case atStart=>exact ⟨at0,Nat.le_refl _,ha,hr,Mut.refl _ _ _,fun i hi=>by omega⟩
 case round =>
  obtain ⟨j,hj,hk,hrk,hm,HT⟩:=hrel
  have hat:=Lib.hid (atOf_rd hrk)
  have c0:=hrk.c0
  have c1:=hrk.c1
  have f1:=hrk.f1
  obtain ⟨k,hjk⟩:∃ k,j=at0+k:=⟨j - at0,by omega⟩
  have fin:(∀ c,l[k]?=some c→p c=false)→∀ n nq,Ending.returned (.string (s.extract at0 j))=.returned (.string ⟨(l.takeWhile p).toArray⟩)∧RdL d s (l.dropWhile p) o ((wr.drewN n).drewN nq)∧Mut w.heap.size d w ((wr.drewN n).drewN nq):=fun hno n nq=>by
   rw [hjk,Nat.add_sub_cancel_left] at HT
   obtain ⟨h1,h2⟩:=HT.all hno
   rw [h1,h2,← HL.out,hjk,← extract_take]
   exact ⟨rfl,RdL.of j _ rfl hk (by rw [List.drop_drop,hjk]) ((hrk.drewN n).drewN nq),(hm.drewN n).drewN nq⟩
  have Fin:=Lib.hid fin
  have HJ:=Lib.hid hjk
  clear fin
  by_cases hlt:j<s.size
  ·have hg:l[k]?=some s[j]:=by
    have hg:=drop_get s at0 k (by omega)
    rw [HL.out] at hg;rw [hg];congr 1;simp only [hjk]
   obtain ⟨I,hI⟩:∃ I,Lib.indexByte set.data.toList s[j]=I:=⟨_,rfl⟩
   have hcI:∀ W,Calls Tryz.prog 108 #[.string set,.int .u8 (s[j].toNat)] W fun e w'=>e=.returned (.int .i64 I)∧w'=W:=fun W=>by
    have h:=Tryz.strings_IndexByte set (s[j].toNat) W
    rw [u8_round,hI] at h;exact h
   have hpI:p s[j]=decide (0≤I):=by rw [← hI];exact hset _
   have HP:=Lib.hid hpI
   have HG:=Lib.hid hg
   have b0:(0:Int)≤(j:Int):=by omega
   have b1:(j:Int)<(s.size:Int):=by omega
   clear hpI hI hg hjk
   by_cases h0:0≤I
   ·go_wp2
    go_quiet (first|(go_at_call 46;exact Calls.quiet_of (ended_no d s j o _ (hrk.drewN _) hlt))|(go_at_call 108;exact Calls.quiet_of_same (hcI _)))
    go_wp2
    go_roundw
    case rel=>exact ⟨j+1,by omega,by omega,by have:=(hrk.drewN nq).set1 ((j+1:Nat):Int);simpa using this,(hm.drewN nq).setCell 1 _,by rw [show j+1 - at0=k+1 by have:=HJ.out;omega];exact Taken.step (by rw [show k=j - at0 by have:=HJ.out;omega];exact HT) _ HG.out (by rw [HP.out];simpa using h0)⟩
    case measure=>rw [hat.out,atOf_rd (a:=j+1) (o:=o) (s:=s) (by have:=(hrk.drewN nq).set1 ((j+1:Nat):Int);simpa using this)];omega
   ·have hd0:decide (0≤I)=false:=by simpa using h0
    go_wp2
    go_quiet (first|(go_at_call 46;exact Calls.quiet_of (ended_no d s j o _ (hrk.drewN _) hlt))|(go_at_call 108;exact Calls.quiet_of_same (hcI _)))
    go_wp2
    go_quiet (fail)
    go_wp2
    go_ret
    refine Fin.out (fun c hc=>?_) _ _
    rw [HG.out] at hc
    obtain rfl:=Option.some.inj hc
    rw [HP.out];simpa using h0
  ·have hrk':Rd d s (s.size:Nat) o wr:=by obtain rfl:j=s.size:=by omega
                                          exact hrk
   have hn:l[k]?=none:=by
    rw [← HL.out];exact drop_none s at0 k (by omega)
   obtain rfl:j=s.size:=by omega
   clear hjk
   go_wp2
   go_quiet (first|(go_at_call 46;exact Calls.quiet_of (ended_yes d s o _ (hrk.drewN _))))
   go_wp2
   go_quiet (fail)
   go_wp2
   go_ret
   exact Fin.out (fun c hc=>by rw [hn] at hc;cases hc) _ _
end Go.Proofs.YtpbnhnilfpoljaaGreatDoor.V
namespace Go.Proofs.YtpbnhnilfpoljaaGreatDoor.V
open Go.Shelf Go.RowKit
def hexL (acc:Nat):List UInt8→Option Nat
 | []=>some acc
 | c :: r=>match hexv c with
  | some v=>hexL (acc*16+v) r
  | none=>none
theorem hex4_hexL (a b c d:UInt8):hex4 a b c d=hexL 0 [a,b,c,d]:=by
 unfold hex4
 simp only [hexL]
 cases hexv a <;> cases hexv b <;> cases hexv c <;> cases hexv d <;> simp
theorem hexv_lt (c:UInt8) (v:Nat) (h:hexv c=some v):v<16:=by
 unfold hexv at h
 split at h
 ·cases h;omega
 ·split at h
  ·cases h;omega
  ·split at h
   ·cases h;omega
   ·cases h
theorem hexv_cases_fin:∀ n:Fin 256,(48≤n.val∧n.val≤57∧hexv (UInt8.ofNat n.val)=some (n.val - 48)) ∨
  (n.val≠95∧¬ (48≤n.val∧n.val≤57)∧97≤bits .or .u8 (n.val:Int) 32∧bits .or .u8 (n.val:Int) 32≤102∧hexv (UInt8.ofNat n.val)=some (bits .or .u8 (n.val:Int) 32 - 87).toNat) ∨
  (¬ (48≤n.val∧n.val≤57)∧(bits .or .u8 (n.val:Int) 32<97∨102<bits .or .u8 (n.val:Int) 32)∧hexv (UInt8.ofNat n.val)=none):=by decide +kernel
theorem hexv_cases (c:UInt8):(48≤c.toNat∧c.toNat≤57∧hexv c=some (c.toNat - 48)) ∨
  (c.toNat≠95∧¬ (48≤c.toNat∧c.toNat≤57)∧97≤bits .or .u8 (c.toNat:Int) 32∧bits .or .u8 (c.toNat:Int) 32≤102∧hexv c=some (bits .or .u8 (c.toNat:Int) 32 - 87).toNat) ∨
  (¬ (48≤c.toNat∧c.toNat≤57)∧(bits .or .u8 (c.toNat:Int) 32<97∨102<bits .or .u8 (c.toNat:Int) 32)∧hexv c=none):=by
 have h:=hexv_cases_fin ⟨c.toNat,c.toNat_lt⟩
 simpa using h
def hexTuple:Option Nat→Value
 | some n=>.tuple #[.int .u64 n,.nilIface]
 | none=>.tuple #[.int .u64 0,.iface 212 (.int .i64 2)]
set_option maxHeartbeats 4000000 in
set_option maxRecDepth 100000 in
theorem inner_hex (t:ByteArray) (h4:t.size=4) (w:World) :
  Calls Tryz.prog 154 #[.string t,.int .i64 16,.int .i64 16] w fun e w'=>e=.returned (hexTuple (hexL 0 t.data.toList))∧w'=Lib.bytesWorld w 5 t:=by
 have hemp:t.toList.isEmpty=false:=by
  rw [← decide_eq_emptyBytes]
  exact decide_eq_false (fun h=>by rw [h] at h4;exact absurd h4 (by decide))
 have hcv:=Lib.run_convert_string_bytes (P:=Tryz.prog) w 9 98 5 t (u:=.string) Tryz.underlying9 Tryz.underlying98 Tryz.underlying5
 have hB:∀ j,j<t.size→(Lib.bytesWorld w 5 t).cell? ⟨w.heap.size,j,none⟩=some (.int .u8 (t.data.toList.getD j 0).toNat):=fun j hj=>Lib.bytesWorld_cell w 5 t j hj
 obtain ⟨W1,hW1⟩:∃ W1,W1=Lib.bytesWorld w 5 t:=⟨_,rfl⟩
 rw [← hW1] at hcv hB ⊢
 clear hW1
 obtain ⟨bs,hL⟩:∃ bs,bs=t.data.toList:=⟨_,rfl⟩
 have hLn:bs.length=t.size:=by rw [hL,Lib.size_eq]
 rw [← hL] at hB ⊢
 clear hL
 have HLn:=Lib.hid hLn
 have H4:=Lib.hid h4
 have hts:t.size≤4:=by omega
 clear hLn h4
 have hmv:IntKind.u64.wrap (IntKind.u64.wrap 65536 - 1)=65535:=by
  rw [IntKind.wrap_u64,IntKind.wrap_u64]
  decide
 go_enter Tryz.func154,Tryz.ntmps154
 go_wp2
 go_loop [12,13,101] (fun vu vn vi=>∃ (k acc:Nat) (a:Int),vu=.bool false∧vn=.int .u64 a∧vi=.int .i64 k∧k≤t.size∧Hid (a=(acc:Int)∧acc<16 ^ k∧hexL 0 bs=hexL acc (bs.drop k)))
  (fun _ _ vi=>t.size - (intOf vi).toNat)
 case atStart=>exact ⟨0,0,0,rfl,rfl,rfl,by omega,rfl,by omega,rfl⟩
 case round =>
  obtain ⟨k,acc,a,rfl,rfl,rfl,hk,hh⟩:=hrel
  obtain ⟨ha,hacc,hdec⟩:=hh.out
  clear hh
  have a0:0≤a:=by omega
  by_cases hkn:k<t.size
  ·have hk3:k≤3:=by omega
   have hp:acc<4096:=Nat.lt_of_lt_of_le hacc (Nat.le_trans (Nat.pow_le_pow_right (by decide) hk3) (by decide))
   have a1:a<4096:=by omega
   have hc:=hB k hkn
   have hdrop:bs.drop k=bs[k]'(by have:=HLn.out;omega) :: bs.drop (k+1):=List.drop_eq_getElem_cons (by have:=HLn.out;omega)
   have hget:bs.getD k 0=bs[k]'(by have:=HLn.out;omega):=by simp [List.getD,List.getElem?_eq_getElem (show k<bs.length by have:=HLn.out;omega)]
   rw [hdrop] at hdec
   rw [hget] at hc
   generalize bs[k]'(by have:=HLn.out;omega)=c at hc hdec
   have hc256:c.toNat<256:=c.toNat_lt
   clear hB hdrop hget
   rcases hexv_cases c with ⟨hd0,hd1,hv⟩|⟨h95,hnd,hl0,hl1,hv⟩|⟨hnd,hl,hv⟩
   ·have hF:hexL acc (c :: bs.drop (k+1))=hexL (acc*16+(c.toNat - 48)) (bs.drop (k+1)):=by simp only [hexL,hv]
    have HN:Hid (a*16+((c.toNat:Int) - 48)=((acc*16+(c.toNat - 48):Nat):Int)∧acc*16+(c.toNat - 48)<16 ^ (k+1)∧hexL 0 bs=hexL (acc*16+(c.toNat - 48)) (bs.drop (k+1))):=Lib.hid ⟨by omega,by rw [Nat.pow_succ];omega,by rw [hdec,hF]⟩
    clear hacc hF hdec ha hv hp
    go_wp2
    refine ⟨⟨k+1,acc*16+(c.toNat - 48),a*16+((c.toNat:Int) - 48),rfl,(by first|rfl|(congr 1;omega)),(by first|rfl|(congr 1;omega)),by omega,HN⟩,by simp [intOf];omega⟩
   ·have hF:hexL acc (c :: bs.drop (k+1))=hexL (acc*16+(bits .or .u8 (c.toNat:Int) 32 - 87).toNat) (bs.drop (k+1)):=by simp only [hexL,hv]
    obtain ⟨L,hLL⟩:∃ L,bits .or .u8 (c.toNat:Int) 32=L:=⟨_,rfl⟩
    have hcl:∀ W,Calls Tryz.prog 157 #[.int .u8 c.toNat] W fun e w'=>e=.returned (.int .u8 L)∧w'=W:=fun W=>by
     have h:=Tryz.internal_strconv_lower (c.toNat:Int) W
     rw [hLL] at h;exact h
    rw [hLL] at hl0 hl1 hF
    have HN:Hid (a*16+(L - 87)=((acc*16+(L - 87).toNat:Nat):Int)∧acc*16+(L - 87).toNat<16 ^ (k+1)∧hexL 0 bs=hexL (acc*16+(L - 87).toNat) (bs.drop (k+1))):=Lib.hid ⟨by omega,by rw [Nat.pow_succ];omega,by rw [hdec,hF]⟩
    have hb95:((c.toNat:Int)==95)=false:=by simp;omega
    clear hacc hF hdec ha hv hp hLL h95
    go_wp2_with (go_at_call 157;refine (hcl _).mono ?_;rintro e w' ⟨rfl,rfl⟩)
    all_goals refine ⟨⟨k+1,acc*16+(L - 87).toNat,a*16+(L - 87),rfl,(by first|rfl|(congr 1;omega)),(by first|rfl|(congr 1;omega)),by omega,HN⟩,by simp [intOf];omega⟩
   ·have hF:hexL acc (c :: bs.drop (k+1))=none:=by simp only [hexL,hv]
    rw [hF] at hdec
    have HD:=Lib.hid hdec
    clear hacc hF ha hv hp hdec
    by_cases h95:c.toNat=95
    ·have hcl:∀ W,Calls Tryz.prog 157 #[.int .u8 95] W fun e w'=>e=.returned (.int .u8 127)∧w'=W:=fun W=>by
      have h:=Tryz.internal_strconv_lower 95 W
      rw [show bits .or .u8 95 32=127 from by decide +kernel] at h;exact h
     have hc95:W1.cell? ⟨w.heap.size,k,none⟩=some (.int .u8 95):=by rw [hc,h95];rfl
     clear hc h95 hl hnd hc256
     go_wp2_with (go_at_call 157;refine (hcl _).mono ?_;rintro e w' ⟨rfl,rfl⟩)
     all_goals go_ret2
     all_goals exact ⟨by rw [HD.out];rfl,rfl⟩
    ·have hb95:((c.toNat:Int)==95)=false:=by simp;omega
     clear h95
     obtain ⟨L,hLL⟩:∃ L,bits .or .u8 (c.toNat:Int) 32=L:=⟨_,rfl⟩
     have hcl:∀ W,Calls Tryz.prog 157 #[.int .u8 c.toNat] W fun e w'=>e=.returned (.int .u8 L)∧w'=W:=fun W=>by
      have h:=Tryz.internal_strconv_lower (c.toNat:Int) W
      rw [hLL] at h;exact h
     have hv0:=bits_lo_u8 .or (c.toNat:Int) 32
     have hv1:=bits_hi_u8 .or (c.toNat:Int) 32
     rw [hLL] at hl hv0 hv1
     clear hLL
     rcases hl with hl|hl
     ·go_wp2_with (go_at_call 157;refine (hcl _).mono ?_;rintro e w' ⟨rfl,rfl⟩)
      all_goals go_ret2
      all_goals exact ⟨by rw [HD.out];rfl,rfl⟩
     ·by_cases hl2:L≤122
      ·go_wp2_with (go_at_call 157;refine (hcl _).mono ?_;rintro e w' ⟨rfl,rfl⟩)
       all_goals go_ret2
       all_goals exact ⟨by rw [HD.out];rfl,rfl⟩
      ·go_wp2_with (go_at_call 157;refine (hcl _).mono ?_;rintro e w' ⟨rfl,rfl⟩)
       all_goals go_ret2
       all_goals exact ⟨by rw [HD.out];rfl,rfl⟩
  ·have hkk:k=t.size:=by omega
   subst hkk
   have hF:hexL acc (bs.drop t.size)=some acc:=by rw [List.drop_eq_nil_of_le (by have:=HLn.out;omega)];rfl
   rw [hF] at hdec
   have HD:=Lib.hid hdec
   subst ha
   clear hacc hF a0 hdec
   go_wp2
   go_ret2
   exact ⟨by rw [HD.out];rfl,rfl⟩
end Go.Proofs.YtpbnhnilfpoljaaGreatDoor.V
namespace Go.Proofs.YtpbnhnilfpoljaaGreatDoor.V
open Go.RowKit
open Go.Lib
theorem hexL_some (t:ByteArray) (n:Nat) (h4:t.size=4) (h:hexL 0 t.data.toList=some n) (w:World) :
  Calls Tryz.prog 153 #[.string t,.int .i64 16,.int .i64 16] w fun e w'=>e=.returned (.tuple #[.int .u64 n,.nilIface])∧Below w.heap.size w w':=by
 have c:=inner_hex t h4 w
 rw [h] at c
 have c:Calls Tryz.prog 154 #[.string t,.int .i64 16,.int .i64 16] w fun e w'=>e=.returned (.tuple #[.int .u64 n,.nilIface])∧w'=Lib.bytesWorld w 5 t:=c
 clear h h4
 go_enter Tryz.func153,Tryz.ntmps153
 go_wp2_with (go_at_call 154;refine c.mono ?_;rintro e w1 ⟨rfl,rfl⟩)
 go_ret2
 exact ⟨rfl,Lib.bytesWorld_below _ _ _⟩
theorem hexL_none (t:ByteArray) (h4:t.size=4) (h:hexL 0 t.data.toList=none) (w:World) (hE:EnvW w) :
  Calls Tryz.prog 153 #[.string t,.int .i64 16,.int .i64 16] w fun e w'=>∃ te pe,e=.returned (.tuple #[.int .u64 0,.iface te pe])∧Below w.heap.size w w':=by
 have c:=inner_hex t h4 w
 rw [h] at c
 have c:Calls Tryz.prog 154 #[.string t,.int .i64 16,.int .i64 16] w fun e w'=>e=.returned (.tuple #[.int .u64 0,.iface 212 (.int .i64 2)])∧w'=Lib.bytesWorld w 5 t:=c
 obtain ⟨te,pe,hes⟩:=hE.es
 have hes':=((Lib.bytesWorld_below w 5 t).cell (p:=⟨_,0,none⟩) (Lib.lt_of_cell hes)).trans hes
 have c2:=Tryz.strconv_toError_syntax ⟨#[80,97,114,115,101,85,105,110,116]⟩ t 16 16 _ _ (by omega) hes' (.inr ⟨te,pe,rfl⟩)
 have hbb:=Lib.bytesWorld_below w 5 t
 generalize Lib.bytesWorld w 5 t=w1 at c c2 hbb
 clear h h4 hes hes'
 go_enter Tryz.func153,Tryz.ntmps153
 go_wp2_with (first|(go_at_call 154;refine c.mono ?_;rintro e w1 ⟨rfl,rfl⟩)|(go_at_call 138;refine c2.mono ?_;rintro e w2 ⟨N,rfl,hN,hN2,hb⟩;clear hN hN2))
 go_ret2
 exact ⟨_,_,rfl,hbb.trans (hb.mono hbb.size)⟩
theorem drop4 (s:ByteArray) (a:Nat) (x y z u:UInt8) (r:List UInt8) (h:s.data.toList.drop a=x :: y :: z :: u :: r):(s.extract a (a+4)).data.toList=[x,y,z,u]∧s.data.toList.drop (a+4)=r:=by
 constructor
 ·rw [extract_take,h];rfl
 ·rw [← List.drop_drop,h];rfl
theorem wrap32_small (n:Nat) (h:n<65536):wrap32 (n:Int)=n:=by unfold wrap32;omega
def Was (d:Nat) (s:ByteArray) (a o:Int) (w W:World):Prop:=Rd d s a o W∧Below w.heap.size w W
theorem Was.later {d:Nat} {s:ByteArray} {a o:Int} {w W w':World} (h:Was d s a o w W) (hb:Below W.heap.size W w'):Was d s a o w w':=⟨h.1.below hb,h.2.trans (hb.mono h.2.size)⟩
theorem Was.start {d:Nat} {s:ByteArray} {a o:Int} {w:World} (h:Rd d s a o w) (n:Nat):Was d s a o w (w.drewN n):=⟨h.drewN n,rfl,rfl,rfl,Nat.le_refl _,fun _ _=>rfl⟩
theorem Was.all {d:Nat} {s:ByteArray} {a o:Int} {w W:World} (h:Was d s a o w W):W.cell? ⟨d,0,none⟩=some (.string s)∧W.cell? ⟨d,1,none⟩=some (.int .i64 a)∧Was d s a o w W:=⟨h.1.c0,h.1.c1,h⟩
set_option maxHeartbeats 1000000 in
set_option maxRecDepth 100000 in
theorem unit_some (d:Nat) (s:ByteArray) (x y z u:UInt8) (r:List UInt8) (n:Nat) (o:Int) (w:World) (hr:RdL d s (x :: y :: z :: u :: r) o w) (hs:s.size≤1099511627776) (h:hex4 x y z u=some n) :
  Calls Tryz.prog 144 #[.pointer (some ⟨d,0,none⟩)] w fun e w'=>e=.returned (.tuple #[.int .i32 n,.bool true])∧RdL d s r o w'∧Mut w.heap.size d w w':=by
 have hlen:=hr.len
 obtain ⟨at',ha,hl,hr⟩:=hr
 have hn:at'+4≤s.size:=by
  have h:=congrArg List.length hl
  rw [List.length_drop,← Lib.size_eq] at h;simp at h;omega
 obtain ⟨h1,h2⟩:=drop4 s at' x y z u r hl
 have hsz:(s.extract at' (at'+4)).size=4:=by rw [Lib.size_eq,h1];rfl
 have hx:hexL 0 (s.extract at' (at'+4)).data.toList=some n:=by rw [h1,← hex4_hexL];exact h
 have hn65:n<65536:=by
  have hh:=h
  unfold hex4 at hh
  cases ha:hexv x with
  | none=>rw [ha] at hh;cases hh
  | some p =>
   cases hb:hexv y with
   | none=>rw [ha,hb] at hh;cases hh
   | some q =>
    cases hc:hexv z with
    | none=>rw [ha,hb,hc] at hh;cases hh
    | some p2 =>
     cases hd:hexv u with
     | none=>rw [ha,hb,hc,hd] at hh;cases hh
     | some q2 =>
      rw [ha,hb,hc,hd] at hh
      have:=hexv_lt _ _ ha;have:=hexv_lt _ _ hb;have:=hexv_lt _ _ hc;have:=hexv_lt _ _ hd
      have hh:((p*16+q)*16+p2)*16+q2=n:=by simpa using hh
      omega
 have hcon:∀ W,(W.cell? ⟨d,0,none⟩=some (.string s)∧W.cell? ⟨d,1,none⟩=some (.int .i64 at')∧Was d s at' o w W)→Calls Tryz.prog 153 #[.string (s.extract at' (at'+4)),.int .i64 16,.int .i64 16] W fun e w'=>e=.returned (.tuple #[.int .u64 n,.nilIface])∧(w'.cell? ⟨d,0,none⟩=some (.string s)∧w'.cell? ⟨d,1,none⟩=some (.int .i64 at')∧Was d s at' o w w'):=fun W hW=>(hexL_some _ n hsz hx W).mono fun e w' ⟨he,hb⟩=>⟨he,(hW.2.2.later hb).all⟩
 have H2:=Lib.hid h2
 have c0:=hr.c0
 have c1:=hr.c1
 have q0:(0:Int)≤at':=by omega
 have q1:(at':Int)+4≤s.size:=by omega
 have q2:¬ ((s.size:Int) - at'<4):=by omega
 have q3:IntKind.i64.wrap ((at':Int)+4)=(at':Int)+4:=IntWalk.i64_in _ (by omega)
 have q4:(0:Int)≤(at':Int)+4:=by omega
 have q5:(at':Int)≤(at':Int)+4:=by omega
 have q6:((at':Int)+4).toNat=at'+4:=by omega
 have HN:=Lib.hid hn65
 clear h hl h1 h2 hsz hx hn65
 go_enter Tryz.func144,Tryz.ntmps144
 go_wp2
 go_quiet (fail)
 go_wp2
 have hS:((w.drewN nq).drew.cell? ⟨d,0,none⟩=some (.string s)∧(w.drewN nq).drew.cell? ⟨d,1,none⟩=some (.int .i64 at')∧Was d s at' o w (w.drewN nq).drew):=(Was.start hr (nq+1)).all
 go_region_held3 (fun W=>W.cell? ⟨d,0,none⟩=some (.string s)∧W.cell? ⟨d,1,none⟩=some (.int .i64 at')∧Was d s at' o w W) (first|assumption) (first|(go_at_call 153;refine (hcon _ ?_).mono ?_;assumption;rintro e w5 ⟨rfl,hS5⟩))
 obtain ⟨_,_,hW⟩:=hS5
 clear hS hcon
 have c1:=hW.1.c1
 have f1:=hW.1.f1
 go_wp2
 go_ret2
 refine ⟨?_,?_,?_⟩
 ·show Ending.returned (.tuple #[.int .i32 (wrap32 n),.bool true])=_
  rw [wrap32_small n HN.out]
 ·exact RdL.of (at'+4) _ (by omega) hn H2.out (hW.1.set1 _)
 ·exact (Mut.of_below hW.2).setCell 1 _
set_option maxHeartbeats 1000000 in
set_option maxRecDepth 100000 in
theorem unit_short (d:Nat) (s:ByteArray) (l:List UInt8) (o:Int) (w:World) (hr:RdL d s l o w) (h:l.length<4) :
  Calls Tryz.prog 144 #[.pointer (some ⟨d,0,none⟩)] w fun e w'=>e=.returned (.tuple #[.int .i32 0,.bool false])∧RdL d s l o w'∧Mut w.heap.size d w w':=by
 obtain ⟨at',ha,hl,hr⟩:=hr
 have hn:s.size<at'+4:=by
  have h2:=congrArg List.length hl
  rw [List.length_drop,← Lib.size_eq] at h2;omega
 have H2:=Lib.hid hl
 have c0:=hr.c0
 have c1:=hr.c1
 have q0:(0:Int)≤at':=by omega
 have q1:(at':Int)≤s.size:=by omega
 have q2:((s.size:Int) - at'<4):=by omega
 clear h hl
 go_enter Tryz.func144,Tryz.ntmps144
 go_wp2
 go_quiet (fail)
 go_wp2
 go_ret2
 exact ⟨rfl,RdL.of at' _ rfl ha H2.out (hr.drewN nq),(Mut.refl _ _ _).drewN nq⟩
set_option maxHeartbeats 1000000 in
set_option maxRecDepth 100000 in
theorem unit_wrong (d:Nat) (s:ByteArray) (x y z u:UInt8) (r:List UInt8) (o:Int) (B:Nat) (w:World) (hr:RdL d s (x :: y :: z :: u :: r) o w) (hE:Env B w) (hs:s.size≤1099511627776) (h:hex4 x y z u=none) :
  Calls Tryz.prog 144 #[.pointer (some ⟨d,0,none⟩)] w fun e w'=>e=.returned (.tuple #[.int .i32 0,.bool false])∧RdL d s (x :: y :: z :: u :: r) o w'∧Mut w.heap.size d w w':=by
 obtain ⟨at',ha,hl,hr⟩:=hr
 have hn:at'+4≤s.size:=by
  have h:=congrArg List.length hl
  rw [List.length_drop,← Lib.size_eq] at h;simp at h;omega
 obtain ⟨h1,_⟩:=drop4 s at' x y z u r hl
 have hsz:(s.extract at' (at'+4)).size=4:=by rw [Lib.size_eq,h1];rfl
 have hx:hexL 0 (s.extract at' (at'+4)).data.toList=none:=by rw [h1,← hex4_hexL];exact h
 have hcon:∀ W,(W.cell? ⟨d,0,none⟩=some (.string s)∧W.cell? ⟨d,1,none⟩=some (.int .i64 at')∧Was d s at' o w W)→Calls Tryz.prog 153 #[.string (s.extract at' (at'+4)),.int .i64 16,.int .i64 16] W fun e w'=>∃ te pe,e=.returned (.tuple #[.int .u64 0,.iface te pe])∧(w'.cell? ⟨d,0,none⟩=some (.string s)∧w'.cell? ⟨d,1,none⟩=some (.int .i64 at')∧Was d s at' o w w'):=fun W hW=>(hexL_none _ hsz hx W (hE.now.later hW.2.2.2)).mono fun e w' ⟨te,pe,he,hb⟩=>⟨te,pe,he,(hW.2.2.later hb).all⟩
 have H2:=Lib.hid hl
 have c0:=hr.c0
 have c1:=hr.c1
 have q0:(0:Int)≤at':=by omega
 have q1:(at':Int)+4≤s.size:=by omega
 have q2:¬ ((s.size:Int) - at'<4):=by omega
 have q3:IntKind.i64.wrap ((at':Int)+4)=(at':Int)+4:=IntWalk.i64_in _ (by omega)
 have q4:(0:Int)≤(at':Int)+4:=by omega
 have q5:(at':Int)≤(at':Int)+4:=by omega
 have q6:((at':Int)+4).toNat=at'+4:=by omega
 clear h hl h1 hsz hx
 go_enter Tryz.func144,Tryz.ntmps144
 go_wp2
 go_quiet (fail)
 go_wp2
 have hS:((w.drewN nq).drew.cell? ⟨d,0,none⟩=some (.string s)∧(w.drewN nq).drew.cell? ⟨d,1,none⟩=some (.int .i64 at')∧Was d s at' o w (w.drewN nq).drew):=(Was.start hr (nq+1)).all
 go_region_held3 (fun W=>W.cell? ⟨d,0,none⟩=some (.string s)∧W.cell? ⟨d,1,none⟩=some (.int .i64 at')∧Was d s at' o w W) (first|assumption) (first|(go_at_call 153;refine (hcon _ ?_).mono ?_;assumption;rintro e w5 ⟨te,pe,rfl,hS5⟩))
 obtain ⟨_,_,hW⟩:=hS5
 clear hS hcon
 go_wp2
 go_ret2
 exact ⟨rfl,RdL.of at' _ rfl ha H2.out hW.1,Mut.of_below hW.2⟩
theorem unit_none (d:Nat) (s:ByteArray) (l:List UInt8) (o:Int) (B:Nat) (w:World) (hr:RdL d s l o w) (hE:Env B w) (hs:s.size≤1099511627776) (h:unit l=none) :
  Calls Tryz.prog 144 #[.pointer (some ⟨d,0,none⟩)] w fun e w'=>e=.returned (.tuple #[.int .i32 0,.bool false])∧RdL d s l o w'∧Mut w.heap.size d w w':=by
 match l,hr,h with
 | [],hr,_=>exact unit_short d s [] o w hr (by simp)
 | [_],hr,_=>exact unit_short d s _ o w hr (by simp)
 | [_,_],hr,_=>exact unit_short d s _ o w hr (by simp)
 | [_,_,_],hr,_=>exact unit_short d s _ o w hr (by simp)
 | x :: y :: z :: u :: r,hr,h=>exact unit_wrong d s x y z u r o B w hr hE hs (by simpa [unit] using h)
theorem unit_ok (d:Nat) (s:ByteArray) (l r:List UInt8) (n:Nat) (o:Int) (w:World) (hr:RdL d s l o w) (hs:s.size≤1099511627776) (h:unit l=some (n,r)) :
  Calls Tryz.prog 144 #[.pointer (some ⟨d,0,none⟩)] w fun e w'=>e=.returned (.tuple #[.int .i32 n,.bool true])∧RdL d s r o w'∧Mut w.heap.size d w w':=by
 match l,hr,h with
 | [],hr,h=>cases h
 | [_],hr,h=>cases h
 | [_,_],hr,h=>cases h
 | [_,_,_],hr,h=>cases h
 | x :: y :: z :: u :: r',hr,h =>
  have h2:hex4 x y z u=some n∧r'=r:=by
   simp only [unit,Option.map_eq_some_iff,Prod.mk.injEq] at h
   obtain ⟨m,h3,rfl,h4⟩:=h
   exact ⟨h3,h4⟩
  obtain ⟨h2,rfl⟩:=h2
  exact unit_some d s x y z u r' n o w hr hs h2
end Go.Proofs.YtpbnhnilfpoljaaGreatDoor.V
