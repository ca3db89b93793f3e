/- What the claim needs of the texts RefAll, SRef3, SRef4, STok, SPart, TRep. -/
import Derived.Test.YtojoahlpgmnbnaaGreatDoorUWOp
import Derived.Test.YtojoahlpgmnbnaaGreatDoorUW1
import Derived.Test.YtojoahlpgmnbnaaGreatDoorProg
import Derived.WalkKit
import Derived.WalkMore
import Derived.Below
import Derived.Lib.Hide
import Derived.Shelf.Unicode.DecodeSlow
import Derived.WalkSmall
import Derived.Deep.DeepMust
import Derived.Maps.AppendAt
import Derived.Deep.QuietTactic
import Derived.BigQuiet
import Derived.Laws.AppendOwn
import Derived.Lib.SmallJoins
set_option maxRecDepth 20000
set_option maxHeartbeats 16000000
namespace Go.Proofs.YtojoahlpgmnbnaaGreatDoor
namespace U
open Go.Lib
def zU (s:ByteArray):Nat × Nat:=if (Utf8.decode s 0).1=65533∧(Utf8.decode s 0).2=1 then (0,0) else Utf8.decode s 0
def mX (s:ByteArray) (n:Nat):Nat→Nat→Nat→Option Nat
 | 0,_,c=>some c
 | f+1,i,c=>if i<n then (if (s.get! i).toNat<128∨192≤(s.get! i).toNat then none else mX s n f (i+1) (64*c+(s.get! i).toNat - 128)) else some c
def vT (least n:Nat):Option Nat→Nat × Nat
 | none=>(0,0)
 | some c=>if c<least∨1114111<c∨(55296≤c∧c≤57343) then (0,0) else (c,n)
def BI (s:ByteArray) (n least c:Nat):Nat × Nat:=if s.size<n then (0,0) else vT least n (mX s n (n - 1) 1 c)
theorem kU (least n c:Nat) (h:c<least∨1114111<c∨(55296≤c∧c≤57343)):vT least n (some c)=(0,0):=by
 simp only [vT];rw [au h]
theorem qU (least n c:Nat) (h1:¬ c<least) (h2:¬ 1114111<c) (h3:¬ (55296≤c∧c≤57343)):vT least n (some c)=(c,n):=by
 simp only [vT];rw [ai (fun h=>h.elim h1 fun h=>h.elim h2 h3)]
theorem zV (s:ByteArray) (n f i c:Nat) (hi:i<n) (h:(s.get! i).toNat<128∨192≤(s.get! i).toNat):mX s n (f+1) i c=none:=by
 simp only [mX];rw [au hi,au h]
theorem CG (s:ByteArray) (n f i c:Nat) (hi:i<n) (h:¬ ((s.get! i).toNat<128∨192≤(s.get! i).toNat)):mX s n (f+1) i c=mX s n f (i+1) (64*c+(s.get! i).toNat - 128):=by
 simp only [mX];rw [au hi,ai h]
theorem xU (s:ByteArray) (n f i c:Nat) (hi:¬ i<n):mX s n f i c=some c:=by
 cases f <;> simp only [mX];rw [ai hi]
def EU (n b0 b1 b2 b3:Nat):Nat × Nat:=if (decodeN n b0 b1 b2 b3).1=65533∧(decodeN n b0 b1 b2 b3).2=1 then (0,0) else decodeN n b0 b1 b2 b3
theorem yT (s:ByteArray):zU s=EU s.size (s.get! 0).toNat (s.get! 1).toNat (s.get! 2).toNat (s.get! 3).toNat:=by
 unfold zU EU
 rw [gZ]
 rfl
theorem jH {n b0 b1 b2 b3:Nat} (h:decodeN n b0 b1 b2 b3=(65533,1)):EU n b0 b1 b2 b3=(0,0):=by
 unfold EU;rw [h];simp
theorem uC {n b0 b1 b2 b3 c k:Nat} (h:decodeN n b0 b1 b2 b3=(c,k)) (hk:1<k∨c<65533):EU n b0 b1 b2 b3=(c,k):=by
 unfold EU;rw [h];rw [ai (by simp only;omega)]
theorem aef (s:ByteArray) (h:(s.get! 0).toNat<128):zU s=((s.get! 0).toNat,1):=by
 rw [yT];generalize (s.get! 0).toNat=b0 at *
 exact uC (by unfold decodeN;rw [au h]) (by omega)
theorem aeg (s:ByteArray) (h:¬ (s.get! 0).toNat<128) (h2:¬ (192≤(s.get! 0).toNat∧(s.get! 0).toNat<224)) (h3:¬ (224≤(s.get! 0).toNat∧(s.get! 0).toNat<240)) (h4:¬ (240≤(s.get! 0).toNat∧(s.get! 0).toNat<248)):zU s=(0,0):=by
 rw [yT];have hb:(s.get! 0).toNat<256:=fZ _;generalize (s.get! 0).toNat=b0 at *
 exact jH (by unfold decodeN;rw [ai h,ai (by omega),ai (by omega),ai (by omega)])
theorem aeh (s:ByteArray) (h:192≤(s.get! 0).toNat) (h2:(s.get! 0).toNat<224):zU s=BI s 2 128 ((s.get! 0).toNat - 192):=by
 rw [yT];have c1:(s.get! 1).toNat<256:=fZ _;have c2:(s.get! 2).toNat<256:=fZ _;have c3:(s.get! 3).toNat<256:=fZ _
 unfold BI
 simp only [mX];generalize (s.get! 0).toNat=b0 at *;generalize (s.get! 1).toNat=b1 at *;generalize (s.get! 2).toNat=b2 at *;generalize (s.get! 3).toNat=b3 at *;generalize s.size=z at *
 by_cases hs:z<2
 ·rw [au hs]
  exact jH (by unfold decodeN;repeat rw [ai (by omega)])
 ·rw [ai hs,au (by omega)]
  by_cases q1:b1<128∨192≤b1
  ·rw [au q1]
   exact jH (by unfold decodeN;repeat rw [ai (by omega)])
  rw [ai q1];simp only [vT]
  by_cases q:64*(b0 - 192)+b1 - 128<128∨1114111<64*(b0 - 192)+b1 - 128∨(55296≤64*(b0 - 192)+b1 - 128∧64*(b0 - 192)+b1 - 128≤57343)
  ·rw [au q]
   exact jH (by unfold decodeN;rw [ai (by omega),au (by omega)];rw [ai (by omega)])
  ·rw [ai q]
   exact uC (by unfold decodeN;rw [ai (by omega),au (by omega)];rw [au (by omega)];exact Prod.ext (by simp only;omega) rfl) (by omega)
theorem aei (s:ByteArray) (h:224≤(s.get! 0).toNat) (h2:(s.get! 0).toNat<240):zU s=BI s 3 2048 ((s.get! 0).toNat - 224):=by
 rw [yT];have c1:(s.get! 1).toNat<256:=fZ _;have c2:(s.get! 2).toNat<256:=fZ _;have c3:(s.get! 3).toNat<256:=fZ _
 unfold BI
 simp only [mX];generalize (s.get! 0).toNat=b0 at *;generalize (s.get! 1).toNat=b1 at *;generalize (s.get! 2).toNat=b2 at *;generalize (s.get! 3).toNat=b3 at *;generalize s.size=z at *
 by_cases hs:z<3
 ·rw [au hs]
  exact jH (by unfold decodeN;repeat rw [ai (by omega)])
 ·rw [ai hs,au (by omega)]
  by_cases q1:b1<128∨192≤b1
  ·rw [au q1]
   exact jH (by unfold decodeN;repeat rw [ai (by omega)])
  rw [ai q1];rw [au (by omega)]
  by_cases q2:b2<128∨192≤b2
  ·rw [au q2]
   exact jH (by unfold decodeN;repeat rw [ai (by omega)])
  rw [ai q2];simp only [vT]
  by_cases q:64*(64*(b0 - 224)+b1 - 128)+b2 - 128<2048∨1114111<64*(64*(b0 - 224)+b1 - 128)+b2 - 128∨(55296≤64*(64*(b0 - 224)+b1 - 128)+b2 - 128∧64*(64*(b0 - 224)+b1 - 128)+b2 - 128≤57343)
  ·rw [au q]
   exact jH (by unfold decodeN;rw [ai (by omega),ai (by omega),au (by omega)];rw [ai (by omega)])
  ·rw [ai q]
   exact uC (by unfold decodeN;rw [ai (by omega),ai (by omega),au (by omega)];rw [au (by omega)];exact Prod.ext (by simp only;omega) rfl) (by omega)
theorem aej (s:ByteArray) (h:240≤(s.get! 0).toNat) (h2:(s.get! 0).toNat<248):zU s=BI s 4 65536 ((s.get! 0).toNat - 240):=by
 rw [yT];have c1:(s.get! 1).toNat<256:=fZ _;have c2:(s.get! 2).toNat<256:=fZ _;have c3:(s.get! 3).toNat<256:=fZ _
 unfold BI
 simp only [mX];generalize (s.get! 0).toNat=b0 at *;generalize (s.get! 1).toNat=b1 at *;generalize (s.get! 2).toNat=b2 at *;generalize (s.get! 3).toNat=b3 at *;generalize s.size=z at *
 by_cases hs:z<4
 ·rw [au hs]
  exact jH (by unfold decodeN;repeat rw [ai (by omega)])
 ·rw [ai hs,au (by omega)]
  by_cases q1:b1<128∨192≤b1
  ·rw [au q1]
   exact jH (by unfold decodeN;repeat rw [ai (by omega)])
  rw [ai q1];rw [au (by omega)]
  by_cases q2:b2<128∨192≤b2
  ·rw [au q2]
   exact jH (by unfold decodeN;repeat rw [ai (by omega)])
  rw [ai q2];rw [au (by omega)]
  by_cases q3:b3<128∨192≤b3
  ·rw [au q3]
   exact jH (by unfold decodeN;repeat rw [ai (by omega)])
  rw [ai q3];simp only [vT]
  by_cases q:64*(64*(64*(b0 - 240)+b1 - 128)+b2 - 128)+b3 - 128<65536∨1114111<64*(64*(64*(b0 - 240)+b1 - 128)+b2 - 128)+b3 - 128∨(55296≤64*(64*(64*(b0 - 240)+b1 - 128)+b2 - 128)+b3 - 128∧64*(64*(64*(b0 - 240)+b1 - 128)+b2 - 128)+b3 - 128≤57343)
  ·rw [au q]
   exact jH (by unfold decodeN;rw [ai (by omega),ai (by omega),ai (by omega),au (by omega)];rw [ai (by omega)])
  ·rw [ai q]
   exact uC (by unfold decodeN;rw [ai (by omega),ai (by omega),ai (by omega),au (by omega)];rw [au (by omega)];exact Prod.ext (by simp only;omega) rfl) (by omega)
end U
namespace U
open Go.RowKit
open Go.Lib hiding intOf
def KO (p:Nat × Nat) (w:World) (e:Ending) (w':World):Prop:=e=.returned (.tuple #[.int .i64 p.1,.int .i64 p.2])∧w=w'
theorem oV {p:Nat × Nat} {a b:Int} {w:World} (h1:a=(p.1:Int)) (h2:b=(p.2:Int)):KO p w (.returned (.tuple #[.int .i64 a,.int .i64 b])) w:=⟨by rw [h1,h2],rfl⟩
theorem get_at (s:ByteArray) (i:Nat) (h:i<s.size):s[i]'h=s.get! i:=(Utf8W.get!_of_lt s i h).symm
theorem KP (s:ByteArray) (w:World) (h0:0<s.size) (_hs:s.size≤1099511627776) (x:UInt8) (hx:s.get! 0=x) (h:x.toNat<128) :
  Calls Tryz.prog 106 #[.string s] w (KO (x.toNat,1) w):=by
 have hs0:s[0]'h0=x:=by rw [← hx];exact get_at s 0 h0
 have hz:(x.toNat:Int)<128:=by omega
 have hxl:x.toNat<256:=x.toNat_lt;clear hx
 go_enter Tryz.func106,Tryz.ntmps106
 go_wp2
 go_ret2
 exact oV (by simp) (by simp)
set_option maxRecDepth 100000 in
theorem I5 (s:ByteArray) (w:World) (h0:0<s.size) (_hs:s.size≤1099511627776) (x:UInt8) (hx:s.get! 0=x) (h:(128≤x.toNat∧x.toNat<192)∨248≤x.toNat) :
  Calls Tryz.prog 106 #[.string s] w (KO (0,0) w):=by
 have hs0:s[0]'h0=x:=by rw [← hx];exact get_at s 0 h0
 have hxl:x.toNat<256:=x.toNat_lt;clear hx
 rcases h with ⟨ha,hb⟩|ha
 ·have hz1:¬ (x.toNat:Int)<128:=by omega
  have hz2:¬ (192:Int)≤(x.toNat:Int):=by omega
  have hz3:¬ (224:Int)≤(x.toNat:Int):=by omega
  have Et:¬ (240:Int)≤(x.toNat:Int):=by omega
  go_enter Tryz.func106,Tryz.ntmps106
  go_wp2
  go_ret2
  exact oV rfl rfl
 ·have hz1:¬ (x.toNat:Int)<128:=by omega
  have hz2:(192:Int)≤(x.toNat:Int):=by omega
  have hz3:(224:Int)≤(x.toNat:Int):=by omega
  have Et:(240:Int)≤(x.toNat:Int):=by omega
  have XJ:¬ (x.toNat:Int)<248:=by omega
  go_enter Tryz.func106,Tryz.ntmps106
  go_wp2
  go_ret2
  exact oV rfl rfl
set_option maxRecDepth 100000 in
theorem Qr (s:ByteArray) (w:World) (h0:0<s.size) (hs:s.size≤1099511627776) (x:UInt8) (hx:s.get! 0=x) (ha:192≤x.toNat) (hb:x.toNat<224) :
  Calls Tryz.prog 106 #[.string s] w (KO (BI s 2 128 (x.toNat - 192)) w):=by
 have hs0:s[0]'h0=x:=by rw [← hx];exact get_at s 0 h0
 have hxl:x.toNat<256:=x.toNat_lt
 have hz0:¬ (x.toNat:Int)<128:=by omega
 have hz1:(192:Int)≤(x.toNat:Int):=by omega
 have hz2:(x.toNat:Int)<224:=by omega
 clear hx
 unfold BI
 by_cases hn:s.size<2
 ·rw [au hn]
  have hnz:(s.size:Int)<2:=by omega
  go_enter Tryz.func106,Tryz.ntmps106
  go_wp2
  go_ret2
  exact oV rfl rfl
 ·rw [ai hn]
  have hnz:¬ (s.size:Int)<2:=by omega
  obtain ⟨R,hR⟩:∃ R,mX s 2 (2 - 1) 1 (x.toNat - 192)=R:=⟨_,rfl⟩;rw [hR];have HR:=hid hR;clear hR;obtain ⟨y,hy⟩:∃ y:Nat,x.toNat=y+192:=⟨x.toNat - 192,by omega⟩
  have Up:((x.toNat:Int) - 192)=(y:Int):=by omega
  have HY:Hid (x.toNat=y+192):=hid hy;clear hy
  go_enter Tryz.func106,Tryz.ntmps106
  go_wp2
  go_loop [4,7] (fun cv iv=>∃ (c i:Nat),cv=.int .i64 c∧iv=.int .i64 i∧Hid (mX s 2 (2 - i) i c=R)∧((i=1∧c<32)∨(i=2∧c<8388608))) (fun _ iv=>2 - (intOf iv).toNat)
  case atStart =>
   have hy:=HY.out;refine ⟨y,1,rfl,rfl,hid ?_,by omega⟩;rw [← HR.out];congr 1;omega
  case round =>
   obtain ⟨c,i,rfl,rfl,HC,Qs⟩:=hrel;clear Up HY HR hs0
   by_cases hin:i<2
   ·obtain ⟨v,hv⟩:∃ v,s.get! i=v:=⟨_,rfl⟩
    have hi2:i<s.size:=by omega
    have hsi:s[i]'hi2=v:=by rw [← hv];exact get_at s i hi2
    have hvl:v.toNat<256:=v.toNat_lt;have hbad:=zV s 2 (2 - i - 1) i c hin;have hon:=CG s 2 (2 - i - 1) i c hin;rw [hv,show 2 - i - 1+1=2 - i by omega] at hbad hon;have HB:=hid hbad;have HO:=hid hon;clear hbad hon hv
    by_cases q1:v.toNat<128
    ·have q1z:(v.toNat:Int)<128:=by omega
     have yU:Hid (R=none):=hid (HC.out.symm.trans (HB.out (.inl q1)))
     go_wp2
     go_ret2
     rw [yU.out]
     exact oV rfl rfl
    ·have q1z:¬ (v.toNat:Int)<128:=by omega
     by_cases q2:192≤v.toNat
     ·have q2z:(192:Int)≤(v.toNat:Int):=by omega
      have yU:Hid (R=none):=hid (HC.out.symm.trans (HB.out (.inr q2)))
      go_wp2
      go_ret2
      rw [yU.out]
      exact oV rfl rfl
     ·have q2z:¬ (192:Int)≤(v.toNat:Int):=by omega
      have hcn:Hid (mX s 2 (2 - (i+1)) (i+1) (64*c+v.toNat - 128)=R):=hid (by rw [← HC.out,HO.out (by omega)];congr 1)
      go_wp2
      go_round
      case rel=>exact ⟨64*c+v.toNat - 128,i+1,by go_num,by go_num,hcn,by omega⟩
      case measure=>simp [intOf];omega
   ·have hfin:=xU s 2 (2 - i) i c hin
    have yU:Hid (R=some c):=hid (HC.out.symm.trans hfin);clear hfin HC
    have hc8:c<8388608:=by omega
    clear Qs
    by_cases p1:c<128
    ·have p1z:(c:Int)<128:=by omega
     go_wp2
     go_ret2
     have ku:=kU 128 2 c (.inl p1);rw [← yU.out] at ku;rw [ku]
     exact oV rfl rfl
    ·have p1z:¬ (c:Int)<128:=by omega
     by_cases p2:1114111<c
     ·have p2z:(1114111:Int)<(c:Int):=by omega
      go_wp2
      go_ret2
      have ku:=kU 128 2 c (.inr (.inl p2));rw [← yU.out] at ku;rw [ku]
      exact oV rfl rfl
     ·have p2z:¬ (1114111:Int)<(c:Int):=by omega
      by_cases p3:55296≤c
      ·have p3z:(55296:Int)≤(c:Int):=by omega
       by_cases p4:c≤57343
       ·have p4z:(c:Int)≤57343:=by omega
        first
         | (exfalso;omega)
         | (go_wp2
            go_ret2
            have ku:=kU 128 2 c (.inr (.inr ⟨p3,p4⟩));rw [← yU.out] at ku;rw [ku]
            exact oV rfl rfl)
       ·have p4z:¬ (c:Int)≤57343:=by omega
        go_wp2
        go_ret2
        have ku:=qU 128 2 c p1 p2 (by omega);rw [← yU.out] at ku;rw [ku]
        exact oV rfl rfl
      ·have p3z:¬ (55296:Int)≤(c:Int):=by omega
       first
        | (exfalso;omega)
        | (go_wp2
           go_ret2
           have ku:=qU 128 2 c p1 p2 (by omega);rw [← yU.out] at ku;rw [ku]
           exact oV rfl rfl)
set_option maxRecDepth 100000 in
theorem Qt (s:ByteArray) (w:World) (h0:0<s.size) (hs:s.size≤1099511627776) (x:UInt8) (hx:s.get! 0=x) (ha:224≤x.toNat) (hb:x.toNat<240) :
  Calls Tryz.prog 106 #[.string s] w (KO (BI s 3 2048 (x.toNat - 224)) w):=by
 have hs0:s[0]'h0=x:=by rw [← hx];exact get_at s 0 h0
 have hxl:x.toNat<256:=x.toNat_lt
 have hz0:¬ (x.toNat:Int)<128:=by omega
 have hz1:(192:Int)≤(x.toNat:Int):=by omega
 have hz2:¬ (x.toNat:Int)<224:=by omega
 have hz3:(224:Int)≤(x.toNat:Int):=by omega
 have Et:(x.toNat:Int)<240:=by omega
 clear hx
 unfold BI
 by_cases hn:s.size<3
 ·rw [au hn]
  have hnz:(s.size:Int)<3:=by omega
  go_enter Tryz.func106,Tryz.ntmps106
  go_wp2
  go_ret2
  exact oV rfl rfl
 ·rw [ai hn]
  have hnz:¬ (s.size:Int)<3:=by omega
  obtain ⟨R,hR⟩:∃ R,mX s 3 (3 - 1) 1 (x.toNat - 224)=R:=⟨_,rfl⟩;rw [hR];have HR:=hid hR;clear hR;obtain ⟨y,hy⟩:∃ y:Nat,x.toNat=y+224:=⟨x.toNat - 224,by omega⟩
  have Up:((x.toNat:Int) - 224)=(y:Int):=by omega
  have HY:Hid (x.toNat=y+224):=hid hy;clear hy
  go_enter Tryz.func106,Tryz.ntmps106
  go_wp2
  generalize hL:(2048:Int)=l;have HL:Hid (l=2048):=hid hL.symm;clear hL
  go_loop [4,7] (fun cv iv=>∃ (c i:Nat),cv=.int .i64 c∧iv=.int .i64 i∧Hid (mX s 3 (3 - i) i c=R)∧((i=1∧c<16)∨(i=2∧c<2048)∨(i=3∧c<8388608))) (fun _ iv=>3 - (intOf iv).toNat)
  case atStart =>
   have hy:=HY.out;refine ⟨y,1,rfl,rfl,hid ?_,by omega⟩;rw [← HR.out];congr 1;omega
  case round =>
   obtain ⟨c,i,rfl,rfl,HC,Qs⟩:=hrel;clear Up HY HR hs0
   by_cases hin:i<3
   ·obtain ⟨v,hv⟩:∃ v,s.get! i=v:=⟨_,rfl⟩
    have hi2:i<s.size:=by omega
    have hsi:s[i]'hi2=v:=by rw [← hv];exact get_at s i hi2
    have hvl:v.toNat<256:=v.toNat_lt;have hbad:=zV s 3 (3 - i - 1) i c hin;have hon:=CG s 3 (3 - i - 1) i c hin;rw [hv,show 3 - i - 1+1=3 - i by omega] at hbad hon;have HB:=hid hbad;have HO:=hid hon;clear hbad hon hv
    by_cases q1:v.toNat<128
    ·have q1z:(v.toNat:Int)<128:=by omega
     have yU:Hid (R=none):=hid (HC.out.symm.trans (HB.out (.inl q1)))
     go_wp2
     go_ret2
     rw [yU.out]
     exact oV rfl rfl
    ·have q1z:¬ (v.toNat:Int)<128:=by omega
     by_cases q2:192≤v.toNat
     ·have q2z:(192:Int)≤(v.toNat:Int):=by omega
      have yU:Hid (R=none):=hid (HC.out.symm.trans (HB.out (.inr q2)))
      go_wp2
      go_ret2
      rw [yU.out]
      exact oV rfl rfl
     ·have q2z:¬ (192:Int)≤(v.toNat:Int):=by omega
      have hcn:Hid (mX s 3 (3 - (i+1)) (i+1) (64*c+v.toNat - 128)=R):=hid (by rw [← HC.out,HO.out (by omega)];congr 1)
      go_wp2
      go_round
      case rel=>exact ⟨64*c+v.toNat - 128,i+1,by go_num,by go_num,hcn,by omega⟩
      case measure=>simp [intOf];omega
   ·have hfin:=xU s 3 (3 - i) i c hin
    have yU:Hid (R=some c):=hid (HC.out.symm.trans hfin);clear hfin HC
    have hc8:c<8388608:=by omega
    clear Qs
    by_cases p1:c<2048
    ·have p1z:(c:Int)<l:=by rw [HL.out];omega
     go_wp2
     go_ret2
     have ku:=kU 2048 3 c (.inl p1);rw [← yU.out] at ku;rw [ku]
     exact oV rfl rfl
    ·have p1z:¬ (c:Int)<l:=by rw [HL.out];omega
     by_cases p2:1114111<c
     ·have p2z:(1114111:Int)<(c:Int):=by omega
      go_wp2
      go_ret2
      have ku:=kU 2048 3 c (.inr (.inl p2));rw [← yU.out] at ku;rw [ku]
      exact oV rfl rfl
     ·have p2z:¬ (1114111:Int)<(c:Int):=by omega
      by_cases p3:55296≤c
      ·have p3z:(55296:Int)≤(c:Int):=by omega
       by_cases p4:c≤57343
       ·have p4z:(c:Int)≤57343:=by omega
        first
         | (exfalso;omega)
         | (go_wp2
            go_ret2
            have ku:=kU 2048 3 c (.inr (.inr ⟨p3,p4⟩));rw [← yU.out] at ku;rw [ku]
            exact oV rfl rfl)
       ·have p4z:¬ (c:Int)≤57343:=by omega
        go_wp2
        go_ret2
        have ku:=qU 2048 3 c p1 p2 (by omega);rw [← yU.out] at ku;rw [ku]
        exact oV rfl rfl
      ·have p3z:¬ (55296:Int)≤(c:Int):=by omega
       first
        | (exfalso;omega)
        | (go_wp2
           go_ret2
           have ku:=qU 2048 3 c p1 p2 (by omega);rw [← yU.out] at ku;rw [ku]
           exact oV rfl rfl)
set_option maxRecDepth 100000 in
theorem Qu (s:ByteArray) (w:World) (h0:0<s.size) (hs:s.size≤1099511627776) (x:UInt8) (hx:s.get! 0=x) (ha:240≤x.toNat) (hb:x.toNat<248) :
  Calls Tryz.prog 106 #[.string s] w (KO (BI s 4 65536 (x.toNat - 240)) w):=by
 have hs0:s[0]'h0=x:=by rw [← hx];exact get_at s 0 h0
 have hxl:x.toNat<256:=x.toNat_lt
 have hz0:¬ (x.toNat:Int)<128:=by omega
 have hz1:(192:Int)≤(x.toNat:Int):=by omega
 have hz2:¬ (x.toNat:Int)<224:=by omega
 have hz3:(224:Int)≤(x.toNat:Int):=by omega
 have Et:¬ (x.toNat:Int)<240:=by omega
 have XJ:(240:Int)≤(x.toNat:Int):=by omega
 have hz6:(x.toNat:Int)<248:=by omega
 clear hx
 unfold BI
 by_cases hn:s.size<4
 ·rw [au hn]
  have hnz:(s.size:Int)<4:=by omega
  go_enter Tryz.func106,Tryz.ntmps106
  go_wp2
  go_ret2
  exact oV rfl rfl
 ·rw [ai hn]
  have hnz:¬ (s.size:Int)<4:=by omega
  obtain ⟨R,hR⟩:∃ R,mX s 4 (4 - 1) 1 (x.toNat - 240)=R:=⟨_,rfl⟩;rw [hR];have HR:=hid hR;clear hR;obtain ⟨y,hy⟩:∃ y:Nat,x.toNat=y+240:=⟨x.toNat - 240,by omega⟩
  have Up:((x.toNat:Int) - 240)=(y:Int):=by omega
  have HY:Hid (x.toNat=y+240):=hid hy;clear hy
  go_enter Tryz.func106,Tryz.ntmps106
  go_wp2
  generalize hL:(65536:Int)=l;have HL:Hid (l=65536):=hid hL.symm;clear hL
  go_loop [4,7] (fun cv iv=>∃ (c i:Nat),cv=.int .i64 c∧iv=.int .i64 i∧Hid (mX s 4 (4 - i) i c=R)∧((i=1∧c<8)∨(i=2∧c<1024)∨(i=3∧c<131072)∨(i=4∧c<8388608))) (fun _ iv=>4 - (intOf iv).toNat)
  case atStart =>
   have hy:=HY.out;refine ⟨y,1,rfl,rfl,hid ?_,by omega⟩;rw [← HR.out];congr 1;omega
  case round =>
   obtain ⟨c,i,rfl,rfl,HC,Qs⟩:=hrel;clear Up HY HR hs0
   by_cases hin:i<4
   ·obtain ⟨v,hv⟩:∃ v,s.get! i=v:=⟨_,rfl⟩
    have hi2:i<s.size:=by omega
    have hsi:s[i]'hi2=v:=by rw [← hv];exact get_at s i hi2
    have hvl:v.toNat<256:=v.toNat_lt;have hbad:=zV s 4 (4 - i - 1) i c hin;have hon:=CG s 4 (4 - i - 1) i c hin;rw [hv,show 4 - i - 1+1=4 - i by omega] at hbad hon;have HB:=hid hbad;have HO:=hid hon;clear hbad hon hv
    by_cases q1:v.toNat<128
    ·have q1z:(v.toNat:Int)<128:=by omega
     have yU:Hid (R=none):=hid (HC.out.symm.trans (HB.out (.inl q1)))
     go_wp2
     go_ret2
     rw [yU.out]
     exact oV rfl rfl
    ·have q1z:¬ (v.toNat:Int)<128:=by omega
     by_cases q2:192≤v.toNat
     ·have q2z:(192:Int)≤(v.toNat:Int):=by omega
      have yU:Hid (R=none):=hid (HC.out.symm.trans (HB.out (.inr q2)))
      go_wp2
      go_ret2
      rw [yU.out]
      exact oV rfl rfl
     ·have q2z:¬ (192:Int)≤(v.toNat:Int):=by omega
      have hcn:Hid (mX s 4 (4 - (i+1)) (i+1) (64*c+v.toNat - 128)=R):=hid (by rw [← HC.out,HO.out (by omega)];congr 1)
      go_wp2
      go_round
      case rel=>exact ⟨64*c+v.toNat - 128,i+1,by go_num,by go_num,hcn,by omega⟩
      case measure=>simp [intOf];omega
   ·have hfin:=xU s 4 (4 - i) i c hin
    have yU:Hid (R=some c):=hid (HC.out.symm.trans hfin);clear hfin HC
    have hc8:c<8388608:=by omega
    clear Qs
    by_cases p1:c<65536
    ·have p1z:(c:Int)<l:=by rw [HL.out];omega
     go_wp2
     go_ret2
     have ku:=kU 65536 4 c (.inl p1);rw [← yU.out] at ku;rw [ku]
     exact oV rfl rfl
    ·have p1z:¬ (c:Int)<l:=by rw [HL.out];omega
     by_cases p2:1114111<c
     ·have p2z:(1114111:Int)<(c:Int):=by omega
      go_wp2
      go_ret2
      have ku:=kU 65536 4 c (.inr (.inl p2));rw [← yU.out] at ku;rw [ku]
      exact oV rfl rfl
     ·have p2z:¬ (1114111:Int)<(c:Int):=by omega
      by_cases p3:55296≤c
      ·have p3z:(55296:Int)≤(c:Int):=by omega
       by_cases p4:c≤57343
       ·have p4z:(c:Int)≤57343:=by omega
        first
         | (exfalso;omega)
         | (go_wp2
            go_ret2
            have ku:=kU 65536 4 c (.inr (.inr ⟨p3,p4⟩));rw [← yU.out] at ku;rw [ku]
            exact oV rfl rfl)
       ·have p4z:¬ (c:Int)≤57343:=by omega
        go_wp2
        go_ret2
        have ku:=qU 65536 4 c p1 p2 (by omega);rw [← yU.out] at ku;rw [ku]
        exact oV rfl rfl
      ·have p3z:¬ (55296:Int)≤(c:Int):=by omega
       first
        | (exfalso;omega)
        | (go_wp2
           go_ret2
           have ku:=qU 65536 4 c p1 p2 (by omega);rw [← yU.out] at ku;rw [ku]
           exact oV rfl rfl)
theorem KQ (s:ByteArray) (w:World) (h0:0<s.size) (hs:s.size≤1099511627776) :
  Calls Tryz.prog 106 #[.string s] w (KO (zU s) w):=by
 obtain ⟨x,hx⟩:∃ x,s.get! 0=x:=⟨_,rfl⟩;have r1:=aef s;have r0:=aeg s;have r2:=aeh s;have r3:=aei s;have r4:=aej s;rw [hx] at r1 r0 r2 r3 r4
 by_cases q1:x.toNat<128
 ·rw [r1 q1];exact KP s w h0 hs x hx q1
 ·by_cases q2:192≤x.toNat∧x.toNat<224
  ·rw [r2 q2.1 q2.2];exact Qr s w h0 hs x hx q2.1 q2.2
  ·by_cases q3:224≤x.toNat∧x.toNat<240
   ·rw [r3 q3.1 q3.2];exact Qt s w h0 hs x hx q3.1 q3.2
   ·by_cases q4:240≤x.toNat∧x.toNat<248
    ·rw [r4 q4.1 q4.2];exact Qu s w h0 hs x hx q4.1 q4.2
    ·rw [r0 q1 q2 q3 q4];exact I5 s w h0 hs x hx (by omega)
end U
namespace U
open Go.Lib
def yV:List (Nat × Nat)→Nat→List Nat
 | [],p=>[p]
 | x :: t,p=>p :: yV t (p+x.2)
def Gs:List (Nat × Nat)→Nat→List Nat
 | [],a=>[a]
 | x :: t,a=>a :: Gs t (a+uw x.1)
theorem I6:∀ (l:List (Nat × Nat)) (p:Nat),(yV l p).length=l.length+1
 | [],_=>rfl
 | x :: t,p=>by simp only [yV,aH,I6 t]
theorem CJ:∀ (l:List (Nat × Nat)) (a:Nat),(Gs l a).length=l.length+1
 | [],_=>rfl
 | x :: t,a=>by simp only [Gs,aH,CJ t]
theorem EV:∀ (l:List (Nat × Nat)) (p:Nat) (y:Nat × Nat),yV (l++[y]) p=yV l p++[p+mi l+y.2]
 | [],p,y=>by simp [yV,mi]
 | x :: t,p,y=>by
  simp only [bI,yV,mi,EV t];rw [Nat.add_assoc p x.2 (mi t)]
theorem I7:∀ (l:List (Nat × Nat)) (a:Nat) (y:Nat × Nat),Gs (l++[y]) a=Gs l a++[a+xN l+uw y.1]
 | [],a,y=>by simp [Gs,xN]
 | x :: t,a,y=>by
  simp only [bI,Gs,xN,I7 t];rw [Nat.add_assoc a (uw x.1) (xN t)]
theorem I8:∀ (l:List (Nat × Nat)) (a:Nat),(Gs l a).getD l.length 0=a+xN l
 | [],a=>by simp [Gs,xN]
 | x :: t,a=>by
  simp only [Gs,xN,aH,List.getD_cons_succ,I8 t]
  omega
theorem length_le:∀ l:List (Nat × Nat),Ql l→l.length≤mi l
 | [],_=>ae _
 | x :: t,h=>by
  have h1:=h x (by simp);have h2:=length_le t (fun y hy=>h y (by simp [hy]));simp only [aH,mi];omega
theorem MS (s:ByteArray) (pos:Nat):zU (s.extract pos s.size)=if (Utf8.decode s pos).1=65533∧(Utf8.decode s pos).2=1 then (0,0) else Utf8.decode s pos:=by
 have h:=tail_decode s pos 0;rw [bV] at h
 unfold zU
 rw [h]
theorem Uq (s:ByteArray) (f pos:Nat) (h:pos<s.size) (hb:(Utf8.decode s pos).1=65533∧(Utf8.decode s pos).2=1):zR (iI s (f+1) pos)=false:=by
 rw [fH s f pos h];simp only [zR];rw [au hb]
theorem XK (s:ByteArray) (f pos:Nat) (h:pos<s.size) (hb:¬ ((Utf8.decode s pos).1=65533∧(Utf8.decode s pos).2=1)):zR (iI s (f+1) pos)=zR (iI s f (pos+(Utf8.decode s pos).2)):=by
 rw [fH s f pos h];simp only [zR];rw [ai hb]
theorem Qv (s:ByteArray) (f pos:Nat) (h:¬ pos<s.size):zR (iI s f pos)=true:=by rw [gV s f pos h];rfl
def Split (s:ByteArray) (l:List (Nat × Nat)) (f pos:Nat):Prop:=items s=l++iI s f pos∧mi l=pos∧s.size - pos≤f∧pos≤s.size
theorem KR (s:ByteArray):Split s [] s.size 0:=⟨rfl,rfl,by omega,by omega⟩
theorem KS {s:ByteArray} {l:List (Nat × Nat)} {f pos:Nat} (h:Split s l (f+1) pos) (hp:pos<s.size):Split s (l++[Utf8.decode s pos]) f (pos+(Utf8.decode s pos).2):=by
 obtain ⟨h1,h2,h3,h4⟩:=h;have hw:=width_pos s pos hp
 refine ⟨?_,?_,by omega,width_le s pos hp⟩
 ·rw [h1,fH s f pos hp];simp
 ·rw [rZ,h2];rfl
theorem KT {s:ByteArray} {l:List (Nat × Nat)} {f pos:Nat} (h:Split s l f pos) (hp:¬ pos<s.size):l=items s:=by
 obtain ⟨h1,h2,h3,h4⟩:=h;rw [h1,gV s f pos hp,eu]
end U
namespace U
open Go.RowKit
open Go.Lib hiding intOf
def I (n:Nat):Value:=.int .i64 n
def Row (w:World) (g:Nat) (l:List Nat):Prop:=∀ i,i<l.length→w.cell? ⟨g,i,none⟩=some (.int .i64 (l.getD i 0:Nat))
def oW (s:ByteArray) (w:World) (e:Ending) (w':World):Prop :=
 if okB s=true then ∃ g1 c1 g2 c2,e=.returned (.tuple #[.slice (some ⟨g1,0,none⟩) ((items s).length+1) c1,.slice (some ⟨g2,0,none⟩) ((items s).length+1) c2,.bool true]) ∧
  Row w' g1 (yV (items s) 0)∧Row w' g2 (Gs (items s) 0)∧Below w.heap.size w w'∧g1<w'.heap.size∧g2<w'.heap.size
 else e=.returned (.tuple #[.slice none 0 0,.slice none 0 0,.bool false])∧Below w.heap.size w w'
theorem A8 {w:World} {B g c n:Nat} {l:List Nat} (h:w.ownsRow B 3 1 (.slice (some ⟨g,0,none⟩) n c) n (l.map I)):Row w g l∧g<w.heap.size:=by
 have hl:l.length=n:=by have:=h.1;simpa using this
 refine ⟨fun i hi=>?_,(h.lt g rfl).2⟩;rw [h.cellAt i (by omega),dK,aB hi]
 simp [I,hi]
theorem shape {w:World} {B n:Nat} {v:Value} {xs:List Value} (h:w.ownsRow B 3 1 v (n+1) xs):∃ g c,v=.slice (some ⟨g,0,none⟩) (n+1) c:=by
 rcases h.2 with ⟨_,h0⟩|⟨g,cap,cur,hv,_⟩
 ·omega
 ·exact ⟨g,cap,hv⟩
theorem KU {s:ByteArray} {w w':World} {l:List (Nat × Nat)} {g1 c1 g2 c2 B:Nat} (hok:okB s=true) (hl:l=items s)
  (h1:w'.ownsRow B 3 1 (.slice (some ⟨g1,0,none⟩) (l.length+1) c1) (l.length+1) ((yV l 0).map I)) (h2:w'.ownsRow B 3 1 (.slice (some ⟨g2,0,none⟩) (l.length+1) c2) (l.length+1) ((Gs l 0).map I))
  (hb:Below w.heap.size w w'):oW s w (.returned (.tuple #[.slice (some ⟨g1,0,none⟩) (l.length+1) c1,.slice (some ⟨g2,0,none⟩) (l.length+1) c2,.bool true])) w':=by
 subst hl
 unfold oW
 rw [au hok];obtain ⟨r1,s1⟩:=A8 h1;obtain ⟨r2,s2⟩:=A8 h2
 exact ⟨g1,c1,g2,c2,rfl,r1,r2,hb,s1,s2⟩
theorem KV {s:ByteArray} {w w':World} (hok:okB s=false) (hb:Below w.heap.size w w'):oW s w (.returned (.tuple #[.slice none 0 0,.slice none 0 0,.bool false])) w':=by
 unfold oW
 rw [ai (by rw [hok];simp)]
 exact ⟨rfl,hb⟩
theorem EW (s:ByteArray) (w:World) (a b:Nat) (h0:0<s.size) (hs:s.size≤1099511627776) (h:zU s=(a,b)) :
  Calls Tryz.prog 106 #[.string s] w fun e w'=>e=.returned (.tuple #[.int .i64 a,.int .i64 b])∧w=w' :=
 (KQ s w h0 hs).mono fun e w' ⟨he,hw⟩=>by rw [h] at he;exact ⟨he,hw⟩
def Two (w0:World) (B:Nat) (s:ByteArray) (bv uv av:Value) (wr:World):Prop :=
 ∃ (l:List (Nat × Nat)) (f pos g1 c1 g2 c2:Nat),av=.int .i64 pos∧bv=.slice (some ⟨g1,0,none⟩) (l.length+1) c1∧uv=.slice (some ⟨g2,0,none⟩) (l.length+1) c2 ∧
  Split s l f pos∧zR (iI s f pos)=okB s ∧
  wr.ownsRow B 3 1 (.slice (some ⟨g1,0,none⟩) (l.length+1) c1) (l.length+1) ((yV l 0).map I)∧wr.ownsRow B 3 1 (.slice (some ⟨g2,0,none⟩) (l.length+1) c2) (l.length+1) ((Gs l 0).map I) ∧
  g1≠g2∧Below B w0 wr
theorem start (w:World) (s:ByteArray) (e:TypeId) (he:e=3):Two w w.heap.size s (.slice (some ⟨w.heap.size,0,none⟩) 1 1) (.slice (some ⟨w.heap.size+1,0,none⟩) 1 1) (.int .i64 0)
  ((w.alloc (.cells #[.int .i64 0] e)).alloc (.cells #[.int .i64 0] e)):=by
 subst he;have h1:=World.ownsRow_lit (base:=w.heap.size) (e:=3) (size:=1) w #[.int .i64 0] 1 (ae _) (by decide) rfl;have h2:=World.ownsRow_lit (base:=w.heap.size) (e:=3) (size:=1) (w.alloc (.cells #[.int .i64 0] 3)) #[.int .i64 0] 1 (by rw [aT];omega) (by decide) rfl;rw [aT] at h2
 exact ⟨[],s.size,0,w.heap.size,1,w.heap.size+1,1,rfl,rfl,rfl,KR s,rfl,h1.alloc _,h2,by omega,((ah _ _).alloc (ae _) _).alloc (by rw [aT];omega) _⟩
theorem aaI:(Tryz.prog.info? 3).map (fun i=>(i.zero,i.size,i.bytes))=some (some (.int .i64 0),1,8):=by kernel_rfl
theorem I9 {w0 wr w1 w2:World} {s:ByteArray} {l:List (Nat × Nat)} {f pos m g1 c1 g2 c2 u:Nat} {v1 v2:Value} {o1 o2:Obj} {x y:Int}
  (hS:Split s l f pos) (hA:zR (iI s f pos)=okB s) (hm:l.length=m) (hp:pos<s.size) (hgood:¬ ((Utf8.decode s pos).1=65533∧(Utf8.decode s pos).2=1)) (hu:uw (Utf8.decode s pos).1=u)
  (hx:x=((pos+(Utf8.decode s pos).2:Nat):Int)) (hy:y=((xN l+u:Nat):Int))
  (h1:wr.ownsRow w0.heap.size 3 1 (.slice (some ⟨g1,0,none⟩) (m+1) c1) (m+1) ((yV l 0).map I)) (h2:wr.ownsRow w0.heap.size 3 1 (.slice (some ⟨g2,0,none⟩) (m+1) c2) (m+1) ((Gs l 0).map I))
  (hne:g1≠g2) (hb:Below w0.heap.size w0 wr)
  (hv1:w1.ownsRow w0.heap.size 3 1 v1 (m+1+1) ((yV l 0).map I++[.int .i64 x])) (hg1:(wr.alloc o1).grownBy w1 (some g1)) (NU:v1.ownBlock=some g1∨v1.ownBlock=some (wr.alloc o1).heap.size)
  (hv2:w2.ownsRow w0.heap.size 3 1 v2 (m+1+1) ((Gs l 0).map I++[.int .i64 y])) (hg2:(w1.alloc o2).grownBy w2 (some g2)) (Ex:v2.ownBlock=some g2∨v2.ownBlock=some (w1.alloc o2).heap.size) :
  Two w0 w0.heap.size s v1 v2 (.int .i64 x) w2:=by
 obtain ⟨k,rfl⟩:∃ k,f=k+1:=⟨f - 1,by have:=hS.2.2.1;omega⟩;have hlt1:=h1.lt g1 rfl;have hlt2:=h2.lt g2 rfl;have hsz1:=hg1.size;have hsz2:=hg2.size;rw [aT] at hsz1 hsz2 NU Ex;have hsum:mi l=pos:=hS.2.1
 have e1:(yV l 0).map I++[.int .i64 x]=(yV (l++[Utf8.decode s pos]) 0).map I:=by
  rw [EV,hsum,hx];simp [I]
 have e2:(Gs l 0).map I++[.int .i64 y]=(Gs (l++[Utf8.decode s pos]) 0).map I:=by
  rw [I7,hu,hy];simp [I]
 rw [e1] at hv1;rw [e2] at hv2
 have hlen:(l++[Utf8.decode s pos]).length=m+1:=by simp [hm]
 obtain ⟨g1',c1',rfl⟩:=shape hv1;obtain ⟨g2',c2',rfl⟩:=shape hv2;have hl1:=hv1.lt g1' rfl;have hl2:=hv2.lt g2' rfl;simp only [Value.ownBlock,bS] at NU Ex;have hk1:=(hv1.alloc o2).kept hg2 (.inr (by simp only [Value.ownBlock,ne_eq,bS];omega))
 refine ⟨l++[Utf8.decode s pos],k,pos+(Utf8.decode s pos).2,g1',c1',g2',c2',by rw [hx],by rw [hlen],by rw [hlen],KS hS hp,?_,?_,?_,by omega,?_⟩
 ·rw [← hA,XK s k pos hp hgood]
 ·rw [hlen];exact hk1
 ·rw [hlen];exact hv2
 ·exact (((hb.alloc hb.size o1).grown hg1 (by rw [aT];have:=hb.size;omega) (fun j hj=>by cases hj;omega)).alloc (by have:=hb.size;omega) o2).grown hg2 (by rw [aT];have:=hb.size;omega) (fun j hj=>by cases hj;omega)
theorem CK {w w1:World} {o:Obj} {B g1 c1 g2 c2 n k:Nat} {xs:List Value} (h:w.ownsRow B 3 1 (.slice (some ⟨g2,0,none⟩) n c2) n xs) (hne:g1≠g2) (hg:(w.alloc o).grownBy w1 (Value.slice (some ⟨g1,0,none⟩) k c1).ownBlock) :
  w1.ownsRow B 3 1 (.slice (some ⟨g2,0,none⟩) n c2) n xs:=(h.alloc o).kept hg (.inr (by simp only [Value.ownBlock,ne_eq,bS];omega))
theorem zW {w:World} {B g c m:Nat} {l:List (Nat × Nat)} (hm:l.length=m) (h:w.ownsRow B 3 1 (.slice (some ⟨g,0,none⟩) (m+1) c) (m+1) ((Gs l 0).map I)):w.cell? ⟨g,m,none⟩=some (.int .i64 (xN l:Nat)):=by
 have hl:=I8 l 0;rw [h.cellAt m (by omega),dK];rw [hm,bA,List.getD_eq_getElem?_getD] at hl
 have hlt:m<(Gs l 0).length:=by rw [CJ];omega
 rw [aB hlt] at hl ⊢;simp only [Option.getD_some] at hl;rw [hl];rfl
set_option maxRecDepth 100000 in
theorem KW (s:ByteArray) (w:World) (hs:s.size≤1048576) :
  Calls Tryz.prog 79 #[.string s] w (oW s w):=by
 have HST:=hid (start w s 3 rfl);obtain ⟨i0,hi,hz0,hz1,hz2⟩:=eB aaI
 go_enter Tryz.func79,Tryz.ntmps79
 go_wp2
 go_loopw [5,6,7] (fun bv uv av wr=>Two w w.heap.size s bv uv av wr) (fun _ _ av _=>s.size - (intOf av).toNat)
 case atStart=>exact HST.out
 case round =>
  clear HST;obtain ⟨l,f,pos,g1,c1,g2,c2,rfl,rfl,rfl,hS,hA,h1,h2,hne,hb⟩:=hrel;obtain ⟨m,hm⟩:∃ m,l.length=m:=⟨_,rfl⟩;rw [hm] at h1 h2 ⊢;have HS:=hid hS;have HA:=hid hA;have hpos:pos≤s.size:=hS.2.2.2
  have hlen:m≤1048576:=by
   have h3:=vH s s.size 0;have h4:=hS.1;have h5:=hS.2.1
   have hW:Ql l:=fun y hy=>h3 y (by show y∈items s;rw [h4];simp [hy])
   have:=length_le l hW
   omega
  have hsu:xN l≤2097152:=by
   have h3:=vH s s.size 0;have h4:=hS.1;have h5:=hS.2.1
   have hW:Ql l:=fun y hy=>h3 y (by show y∈items s;rw [h4];simp [hy])
   have:=MN l hW
   omega
  have hlast:=zW (w:=wr) hm h2;have HM:=hid hm;clear hS hA hm
  by_cases hp:pos<s.size
  ·by_cases hbad:(Utf8.decode s pos).1=65533∧(Utf8.decode s pos).2=1
   ·have hsc:zU (s.extract pos s.size)=(0,0):=by rw [MS,au hbad]
    have cS:=EW (s.extract pos s.size) wr 0 0 (by rw [ext_size];omega) (by rw [ext_size];omega) hsc
    have hok:Hid (okB s=false):=hid (by
     obtain ⟨k,rfl⟩:∃ k,f=k+1:=⟨f - 1,by have:=HS.out.2.2.1;omega⟩
     rw [← HA.out];exact Uq s k pos hp hbad)
    clear hbad hsc
    go_wp2_with (go_at_call 106;refine cS.mono ?_;rintro e w1 ⟨rfl,rfl⟩)
    go_ret3
    exact KV hok.out hb
   ·obtain ⟨d,hd⟩:∃ d,Utf8.decode s pos=d:=⟨_,rfl⟩
    have hsc:zU (s.extract pos s.size)=(d.1,d.2):=by rw [MS,ai hbad,hd]
    have hw1:=width_pos s pos hp;have hw2:=width_le s pos hp;have hr:=rune_le s pos;have HG:=hid hbad;have HD:=hid hd;rw [hd] at hw1 hw2 hr;obtain ⟨r,wd⟩:=d;simp only at hw1 hw2 hr hsc;have cS:=EW (s.extract pos s.size) wr r wd (by rw [ext_size];omega) (by rw [ext_size];omega) hsc;obtain ⟨S,hSe⟩:∃ S,xN l=S:=⟨_,rfl⟩;have HSe:=hid hSe;rw [hSe] at hlast hsu;clear hbad hsc hd hSe;clear hlast
    have hn0:((wd:Int)==0)=false:=by simp;omega
    by_cases h65:65536≤r
    ·have ael:(65536:Int)≤(r:Int):=by omega
     have hu:Hid (uw (Utf8.decode s pos).1=2):=hid (by rw [HD.out];unfold uw;rw [au (by simp only;omega)])
     go_wp2_with (first
      | (go_at_call 106;refine cS.mono ?_;rintro e w1 ⟨rfl,rfl⟩)
      | (at_builtin;refine dD _ rfl (.tmp 31) (.tmp 33) 113 rfl w.heap.size 3 i0 (.int .i64 0) 1 8 Tryz.underlying113 hi hz0 hz1 hz2 rfl (by decide) _ _ _ rfl (h1.alloc _) ⟨wr.heap.size,0,none⟩ 1 1 [.int .i64 ((pos:Int)+(wd:Int))] rfl rfl (cell_one_new _ _ _) (by intro u hu;simp at hu;subst hu;rfl) (by unfold maxLen;omega) (by omega) (by have:=hb.size;simp;omega) ?_;intro v1 w1 hv1 hg1 _ NU;have hk:=CK h2 hne hg1;have KX:=zW HM.out hk;rw [HSe.out] at KX)
      | (at_builtin;refine dD _ rfl (.tmp 35) (.tmp 44) 113 rfl w.heap.size 3 i0 (.int .i64 0) 1 8 Tryz.underlying113 hi hz0 hz1 hz2 rfl (by decide) _ _ _ rfl (hk.alloc _) ⟨w1.heap.size,0,none⟩ 1 1 [.int .i64 ((S:Int)+2)] rfl rfl (cell_one_new _ _ _) (by intro u hu;simp at hu;subst hu;rfl) (by unfold maxLen;omega) (by omega) (by have:=hb.size;have:=hg1.size;simp at this ⊢;omega) ?_;intro v2 w2 hv2 hg2 _ Ex))
     go_roundw
     case rel=>exact I9 HS.out HA.out HM.out hp HG.out hu.out (by rw [HD.out];omega) (by rw [HSe.out];omega) h1 h2 hne hb hv1 hg1 NU hv2 hg2 Ex
     case measure=>simp [intOf];omega
    ·have ael:decide ((65536:Int)≤(r:Int))=false:=dm (by omega)
     have hu:Hid (uw (Utf8.decode s pos).1=1):=hid (by rw [HD.out];unfold uw;rw [ai (by simp only;omega)]);clear h65
     go_wp2_with (first
      | (go_at_call 106;refine cS.mono ?_;rintro e w1 ⟨rfl,rfl⟩)
      | (at_builtin;refine dD _ rfl (.tmp 31) (.tmp 33) 113 rfl w.heap.size 3 i0 (.int .i64 0) 1 8 Tryz.underlying113 hi hz0 hz1 hz2 rfl (by decide) _ _ _ rfl (h1.alloc _) ⟨wr.heap.size,0,none⟩ 1 1 [.int .i64 ((pos:Int)+(wd:Int))] rfl rfl (cell_one_new _ _ _) (by intro u hu;simp at hu;subst hu;rfl) (by unfold maxLen;omega) (by omega) (by have:=hb.size;simp;omega) ?_;intro v1 w1 hv1 hg1 _ NU;have hk:=CK h2 hne hg1;have KX:=zW HM.out hk;rw [HSe.out] at KX)
      | (at_builtin;refine dD _ rfl (.tmp 35) (.tmp 44) 113 rfl w.heap.size 3 i0 (.int .i64 0) 1 8 Tryz.underlying113 hi hz0 hz1 hz2 rfl (by decide) _ _ _ rfl (hk.alloc _) ⟨w1.heap.size,0,none⟩ 1 1 [.int .i64 ((S:Int)+1)] rfl rfl (cell_one_new _ _ _) (by intro u hu;simp at hu;subst hu;rfl) (by unfold maxLen;omega) (by omega) (by have:=hb.size;have:=hg1.size;simp at this ⊢;omega) ?_;intro v2 w2 hv2 hg2 _ Ex))
     go_roundw
     case rel=>exact I9 HS.out HA.out HM.out hp HG.out hu.out (by rw [HD.out];omega) (by rw [HSe.out];omega) h1 h2 hne hb hv1 hg1 NU hv2 hg2 Ex
     case measure=>simp [intOf];omega
  ·have hok:Hid (okB s=true):=hid (by rw [← HA.out];exact Qv s f pos hp)
   go_wp2
   go_ret3
   rw [← HM.out] at h1 h2 ⊢
   exact KU hok.out (KT HS.out hp) h1 h2 hb
theorem Ey (s:ByteArray) (w:World) (hs:s.size≤1048576) :
  Calls Tryz.prog 55 #[.string s] w fun e w'=>e=.returned (.bool (okB s))∧Below w.heap.size w w':=by
 have cP:=KW s w hs
 unfold oW at cP
 cases hok:okB s
 ·rw [hok] at cP
  simp only [Bool.false_eq_true,if_false] at cP
  go_enter Tryz.func55,Tryz.ntmps55
  go_wp2_with (go_at_call 79;refine cP.mono ?_;rintro e w1 ⟨rfl,hb⟩)
  go_ret
  exact ⟨rfl,hb⟩
 ·rw [hok] at cP
  simp only [if_true] at cP
  go_enter Tryz.func55,Tryz.ntmps55
  go_wp2_with (go_at_call 79;refine cP.mono ?_;rintro e w1 ⟨g1,k1,g2,k2,rfl,_,_,hb,_,_⟩)
  go_ret
  exact ⟨rfl,hb⟩
theorem EX (s:ByteArray) (w:World) (hs:s.size≤1000000) :
  Calls Tryz.prog 55 #[.string s] w fun e w'=>e=.returned (.bool (okB s))∧Below w.heap.size w w':=Ey s w (by omega)
end U
namespace S
open Go.RowKit
open Go.Lib hiding intOf
open U L
theorem xV (s:ByteArray) {i:Nat} (h:i<s.size):s.toList[i]?=some s[i]:=by
 have:=fO s h;rw [← List.head?_drop,this];rfl
theorem Qw (s:ByteArray) {i:Nat} {c:UInt8} (h:s.toList[i]?=some c):i<s.size∧s.get! i=c:=by
 have hi:i<s.size:=by rw [← dP];exact (aL.1 h).1
 refine ⟨hi,?_⟩;rw [xV s hi] at h;rw [Utf8W.get!_of_lt s i hi]
 exact bf h
theorem yX {s:ByteArray} {i:Nat} {c:UInt8} (hok:okB s=true) (h:s.toList[i]?=some c) (hc:c.toNat<128):Ky s i∧Ky s (i+1):=by
 obtain ⟨h1,h2⟩:=Qw s h
 exact Uo hok h1 (by rw [h2];exact hc)
theorem MU (s:ByteArray):(⟨s.toList.toArray⟩:ByteArray)=s:=by
 rw [bg]
theorem Gt (s:ByteArray):wid s.toList=(Utf8.decode s 0).2:=by unfold wid;rw [MU]
theorem A9 (s:ByteArray) (h:0<s.size):∃ l,items s=Utf8.decode s 0 :: l:=by
 unfold items
 obtain ⟨n,hn⟩:∃ n,s.size=n+1:=⟨s.size - 1,by omega⟩;rw [hn,fH s n 0 h]
 exact ⟨_,rfl⟩
theorem MV {s:ByteArray} (h:0<s.size):Ky s (wid s.toList):=by
 obtain ⟨l,hl⟩:=A9 s h
 exact ⟨[Utf8.decode s 0],l,hl,by rw [Gt];simp [mi]⟩
theorem Ur {s:ByteArray} (h:0<s.size) {a:Nat} (hb:Ky s a) (ha:0<a):wid s.toList≤a:=by
 obtain ⟨l,hl⟩:=A9 s h;obtain ⟨l1,l2,h1,h2⟩:=hb;rw [hl] at h1
 cases l1 with
 | nil=>simp [mi] at h2;omega
 | cons x y =>
  simp only [bI,List.cons.injEq] at h1;rw [← h2,Gt,h1.1]
  simp [mi]
theorem Gu {c:UInt8} (h:rV c=true):c.toNat<128:=by
 unfold rV mo kF at h
 simp [gM] at h
 rcases h with ((h|h)|h)|h
 ·omega
 ·omega
 ·subst h;decide
 ·omega
theorem MW {p:UInt8→Bool} {r:By} {i:Nat} (h:i<(r.takeWhile p).length):∃ c,r[i]?=some c∧p c=true:=by
 obtain ⟨c,hc⟩:∃ c,(r.takeWhile p)[i]?=some c:=⟨_,aB h⟩
 refine ⟨c,?_,?_⟩
 ·rw [← MP p r,List.getElem?_take_of_lt h] at hc
  exact hc
 ·have hm:c∈r.takeWhile p:=List.mem_of_getElem? hc
  have:=List.all_takeWhile (p:=p) (l:=r)
  exact (List.all_eq_true.1 this) c hm
theorem yY:∀ (r:By) (n:Nat),iy r=some n→r[n - 1]?=some 34
 | [],n,h=>by simp [iy] at h
 | c :: r,n,h=>by
  simp only [iy] at h
  split at h
  ·cases h
  ·split at h
   ·rename_i xS
    cases h;simp [xS]
   ·cases hq:iy r with
    | none=>rw [hq] at h;cases h
    | some m =>
     rw [hq] at h;simp only [Option.map_some,bS] at h;subst h;have h1:=yY r m hq;have h2:=(uy r m hq).1;obtain ⟨k,rfl⟩:∃ k,m=k+1:=⟨m - 1,by omega⟩
     simpa using h1
theorem Qx {s:ByteArray} (hok:okB s=true) (h:0<s.size):Ky s (eX true s.toList).2:=by
 have hl:=fO s h;rw [bM] at hl
 have key:∀ k c,1≤k→s.toList[k - 1]?=some c→c.toNat<128→Ky s k:=fun k c hk h1 h2=>by
  have:=(yX hok h1 h2).2;rwa [show k - 1+1=k by omega] at this
 unfold eX
 generalize s.toList.drop (0+1)=r at hl;generalize s[0]=z at hl
 split
 ·rename_i h1
  simp only;rw [hl] at h1 ⊢;simp only [gQ] at h1 ⊢
  split at h1
  ·rename_i hz
   rw [au hz]
   cases hm:(r.takeWhile rV).length with
   | zero=>exact key 1 z (ae _) (by rw [hl];rfl) (Gu (by unfold rV;simp [hz]))
   | succ m =>
    obtain ⟨c,h3,h4⟩:=MW (p:=rV) (r:=r) (i:=m) (by omega)
    exact key (1+(m+1)) c (by omega) (by rw [hl,show 1+(m+1) - 1=m+1 by omega];simpa using h3) (Gu h4)
  ·omega
 ·split
  ·rename_i h1
   simp only;obtain ⟨m,hm⟩:∃ m,nI s.toList=m+1:=⟨nI s.toList - 1,by omega⟩;obtain ⟨c,h3,h4⟩:=MW (p:=kF) (r:=s.toList) (i:=m) (by unfold nI at hm;omega);rw [hm]
   exact key (m+1) c (by omega) (by rw [show m+1 - 1=m by omega];exact h3) (Gu (by unfold rV;simp [h4]))
  ·split
   ·rename_i h1
    simp only;rw [hl] at h1 ⊢;simp only [gB] at h1 ⊢
    split at h1
    ·rename_i hz
     rw [au hz]
     cases hq:iy r with
     | none=>rw [hq] at h1;simp at h1
     | some n =>
      simp only;have h3:=yY r n hq;have h4:=(uy r n hq).1;obtain ⟨k,rfl⟩:∃ k,n=k+1:=⟨n - 1,by omega⟩
      exact key (k+1+1) 34 (by omega) (by rw [hl];simpa using h3) (by decide)
    ·omega
   ·split
    ·rename_i h1
     simp only;rw [hl] at h1
     simp at h1
     exact key 1 z (ae _) (by rw [hl];rfl) (by rw [h1];decide)
    ·simp only
     unfold fQ
     split
     ·rename_i h2
      rw [hl] at h2
      match r,h2,hl with
      | b :: u,h2,hl =>
       refine key 2 b (by omega) (by rw [hl];rfl) ?_
       simp [two] at h2
       rcases h2 with (((((⟨_,h⟩|⟨_,h⟩)|⟨_,h⟩)|⟨_,h⟩)|⟨_,h⟩)|⟨_,h⟩)|⟨_,h⟩ <;> (rw [h];decide)
     ·rw [au rfl]
      exact MV h
theorem XL {s:ByteArray} {m:Nat} (hok:okB s=true) (h:Ky s m):okB (s.extract m s.size)=true:=(Qq hok h).2.1
def xW (s:ByteArray) (n:Nat):Prop:=(1≤n∧n≤s.size∧okB (s.extract 0 n)=true∧∀ j,1≤j→j<n→okB (s.extract 0 j)=false)∨(n=1∧∀ j,1≤j→j≤4→j≤s.size→okB (s.extract 0 j)=false)
theorem XM (c:UInt8) (h:c.toNat<128) (s:ByteArray) (hs:s.toList=[c]):okB s=true:=by
 have hz:s.size=1:=by rw [← dP,hs];rfl
 have hd:Utf8.decode s 0=(c.toNat,1):=by
  have hg:s.get! 0=c:=(Qw s (i:=0) (c:=c) (by rw [hs];rfl)).2;rw [gZ,hg,vS _ _ _ _ _ h]
 unfold okB items
 rw [hz,fH s 0 0 (by omega),hd,gV s 0 _ (by simp [hz])];simp only [zR];rw [ai (by omega)]
theorem xW.low {s:ByteArray} {n:Nat} (h:xW s n) (h0:0<s.size) (hc:s[0].toNat<128):n=1:=by
 have h1:okB (s.extract 0 1)=true:=XM s[0] hc _ (by
  rw [sV];have:=fO s h0;rw [bM] at this
  rw [this];rfl)
 rcases h with ⟨h2,_,_,h4⟩|⟨h2,_⟩
 ·by_cases hn:n=1
  ·exact hn
  ·rw [h4 1 (ae _) (by omega)] at h1;cases h1
 ·exact h2
theorem xW.right {s:ByteArray} {n:Nat} (h:xW s n) (h0:0<s.size) (hok:okB s=true):n=wid s.toList:=by
 have hw:=MV h0;have hwb:=xP (l:=s.toList) (by intro e;have:=dP s;rw [e] at this;simp at this;omega);rw [dP] at hwb
 have hw4:wid s.toList≤4:=by rw [Gt,gZ];exact yS _ _ _ _ _
 have hwo:=(Gq hok hwb.2).1 hw
 rcases h with ⟨h1,h2,h3,h4⟩|⟨h1,h2⟩
 ·have hb:=(Gq hok h2).2 h3
  have hle:=Ur h0 hb (by omega)
  by_cases e:wid s.toList<n
  ·rw [h4 _ hwb.1 e] at hwo;cases hwo
  ·omega
 ·rw [h2 _ hwb.1 hw4 hwb.2] at hwo;cases hwo
theorem KY (s:ByteArray) (h:2≤s.size):∃ t:By,(s.extract 0 2).toList=t∧(two s.toList=((t==[58,61])||(t==[61,61])||(t==[33,61])||(t==[60,61])||(t==[62,61])||(t==[38,38])||(t==[124,124]))):=by
 refine ⟨_,rfl,?_⟩;rw [sV];have hl:=dP s
 match hh:s.toList with
 | []=>rw [hh] at hl;simp at hl;omega
 | [a]=>rw [hh] at hl;simp at hl;omega
 | a :: b :: r =>
  simp only [List.take_succ_cons,List.take_zero,two]
  have e:∀ x y:UInt8,([a,b]==[x,y])=(a==x&&b==y):=fun x y=>by
   show (a==x&&(b==y&&true))=_
   rw [Bool.and_true]
  simp only [e]
theorem NV (s:ByteArray) (h:s.size<2):two s.toList=false:=by
 have hl:=dP s
 match hh:s.toList with
 | []=>rfl
 | [a]=>rfl
 | a :: b :: r=>rw [hh] at hl;simp at hl;omega
def Qy (s:ByteArray) (n:Nat):Prop:=(two s.toList=true∧n=2)∨(two s.toList=false∧xW s n)
theorem KZ (s:ByteArray) (w:World) (hs:s.size≤1000000) (ht:two s.toList=false) (h0:0<s.size) :
  Calls Tryz.prog 84 #[.string s] w fun e w'=>∃ n:Nat,e=.returned (.int .i64 n)∧xW s n∧Below w.heap.size w w':=by
 have CR:=hid (fun (n:Nat) (hn:n≤s.size) W=>EX (s.extract 0 n) W (by rw [size_extract s 0 n (by omega) hn];omega));have HB0:=hid (ah w.heap.size w)
 have hor:(∃ _:2≤s.size,((s.extract 0 2).toList==[58,61])=false∧((s.extract 0 2).toList==[61,61])=false∧((s.extract 0 2).toList==[33,61])=false∧((s.extract 0 2).toList==[60,61])=false∧((s.extract 0 2).toList==[62,61])=false∧((s.extract 0 2).toList==[38,38])=false∧((s.extract 0 2).toList==[124,124])=false)∨s.size<2:=by
  by_cases h2:2≤s.size
  ·left
   obtain ⟨t,h1,h3⟩:=KY s h2;rw [ht] at h3;simp only [Bool.false_eq,Bool.or_eq_false_iff] at h3;obtain ⟨⟨⟨⟨⟨⟨t1,t2⟩,t3⟩,t4⟩,t5⟩,t6⟩,t7⟩:=h3;rw [h1]
   exact ⟨h2,t1,t2,t3,t4,t5,t6,t7⟩
  ·exact .inr (by omega)
 clear ht
 rcases hor with ⟨h2,t1,t2,t3,t4,t5,t6,t7⟩|h2
 focus
  have hd:decide ((2:Int)≤(s.size:Int))=true:=by simp;omega
  go_enter Tryz.func84,Tryz.ntmps84
  go_wp2_with fail
  clear t1 t2 t3 t4 t5 t6 t7
 rotate_left
 focus
  have hd:decide ((2:Int)≤(s.size:Int))=false:=by simp;omega
  go_enter Tryz.func84,Tryz.ntmps84
  go_wp2_with fail
 rotate_left
 all_goals
  go_loopw [3] (fun iv wr=>∃ i:Nat,iv=.int .i64 i∧1≤i∧i≤5∧i≤s.size+1∧Hid (∀ j,1≤j→j<i→okB (s.extract 0 j)=false)∧Hid (Below w.heap.size w wr)) (fun iv _=>5 - (intOf iv).toNat)
  case atStart=>exact ⟨1,rfl,ae _,by omega,by omega,hid (fun j h1 h2=>by omega),HB0⟩
  case round =>
   obtain ⟨i,rfl,h1,h5,hi,HJ,HL⟩:=hrel;clear HB0
   by_cases h4:i≤4
   ·by_cases hsz:i≤s.size
    ·have e1:decide ((i:Int)≤4)=true:=by simp;omega
     have e2:decide ((i:Int)≤(s.size:Int))=true:=by simp;omega
     have c1:=CR.out i hsz wr;obtain ⟨b,hb⟩:∃ b,okB (s.extract 0 i)=b:=⟨_,rfl⟩;rw [hb] at c1;have HOK:=hid hb;clear hb
     go_wp2_with fail
     refine c1.mono ?_;rintro e w2 ⟨rfl,hb2⟩;have HL2:=hid (HL.out.trans (hb2.mono HL.out.size));clear c1 hb2
     cases b
     ·go_wp2_with fail
      go_roundw
      case rel=>exact ⟨i+1,by go_num,by omega,by omega,by omega,hid (fun j h1 h2=>by
       by_cases e:j<i
       ·exact HJ.out j h1 e
       ·rw [show j=i by omega];exact HOK.out),HL2⟩
      case measure=>simp [intOf];omega
     ·go_wp2_with fail
      go_ret
      exact ⟨i,rfl,.inl ⟨h1,hsz,HOK.out,HJ.out⟩,HL2.out⟩
    ·have e1:decide ((i:Int)≤4)=true:=by simp;omega
     have e2:decide (i≤s.size)=false:=by simpa using hsz
     have e3:decide ((i:Int)≤(s.size:Int))=false:=by simp;omega
     go_wp2_with fail
     go_ret
     exact ⟨1,rfl,.inr ⟨rfl,fun j g1 g2 g3=>HJ.out j g1 (by omega)⟩,HL.out⟩
   ·have e1:decide ((i:Int)≤4)=false:=by simp;omega
    go_wp2_with fail
    go_ret
    exact ⟨1,rfl,.inr ⟨rfl,fun j g1 g2 g3=>HJ.out j g1 (by omega)⟩,HL.out⟩
theorem NW (s:ByteArray) (w:World) (ht:two s.toList=true) :
  Calls Tryz.prog 84 #[.string s] w fun e w'=>e=.returned (.int .i64 2)∧w=w':=by
 have h2:2≤s.size:=by have:=Gl ht;rwa [dP] at this
 obtain ⟨t,h1,h3⟩:=KY s h2;rw [ht,← h1] at h3;clear h1 ht
 have hd:decide ((2:Int)≤(s.size:Int))=true:=by simp;omega
 cases e0:((s.extract 0 2).toList==[58,61])
 rotate_left
 ·clear h3
  go_enter Tryz.func84,Tryz.ntmps84
  go_wp2_with fail
  go_ret
  exact ⟨rfl,rfl⟩
 ·rw [e0] at h3
  cases e1:((s.extract 0 2).toList==[61,61])
  rotate_left
  ·clear h3
   go_enter Tryz.func84,Tryz.ntmps84
   go_wp2_with fail
   go_ret
   exact ⟨rfl,rfl⟩
  ·rw [e1] at h3
   cases e2:((s.extract 0 2).toList==[33,61])
   rotate_left
   ·clear h3
    go_enter Tryz.func84,Tryz.ntmps84
    go_wp2_with fail
    go_ret
    exact ⟨rfl,rfl⟩
   ·rw [e2] at h3
    cases e3:((s.extract 0 2).toList==[60,61])
    rotate_left
    ·clear h3
     go_enter Tryz.func84,Tryz.ntmps84
     go_wp2_with fail
     go_ret
     exact ⟨rfl,rfl⟩
    ·rw [e3] at h3
     cases e4:((s.extract 0 2).toList==[62,61])
     rotate_left
     ·clear h3
      go_enter Tryz.func84,Tryz.ntmps84
      go_wp2_with fail
      go_ret
      exact ⟨rfl,rfl⟩
     ·rw [e4] at h3
      cases e5:((s.extract 0 2).toList==[38,38])
      rotate_left
      ·clear h3
       go_enter Tryz.func84,Tryz.ntmps84
       go_wp2_with fail
       go_ret
       exact ⟨rfl,rfl⟩
      ·rw [e5] at h3
       cases e6:((s.extract 0 2).toList==[124,124])
       rotate_left
       ·clear h3
        go_enter Tryz.func84,Tryz.ntmps84
        go_wp2_with fail
        go_ret
        exact ⟨rfl,rfl⟩
       ·rw [e6] at h3
        simp at h3
theorem NY (s:ByteArray) (w:World) (hs:s.size≤1000000) (h0:0<s.size) :
  Calls Tryz.prog 84 #[.string s] w fun e w'=>∃ n:Nat,e=.returned (.int .i64 n)∧Qy s n∧Below w.heap.size w w':=by
 cases ht:two s.toList
 ·refine (KZ s w hs ht h0).mono ?_
  rintro e w' ⟨n,h1,h2,h3⟩
  exact ⟨n,h1,.inr ⟨ht,h2⟩,h3⟩
 ·refine (NW s w ht).mono ?_
  rintro e w' ⟨h1,rfl⟩
  exact ⟨2,h1,.inl ⟨ht,rfl⟩,ah _ _⟩
theorem Us {s:ByteArray} (h0:0<s.size) (h:two s.toList=true):s[0].toNat<128:=by
 have hl:=fO s h0;rw [bM] at hl;rw [hl] at h;generalize s[0]=z at h ⊢
 match s.toList.drop (0+1),h with
 | b :: u,h =>
  simp [two] at h
  rcases h with (((((⟨h,_⟩|⟨h,_⟩)|⟨h,_⟩)|⟨h,_⟩)|⟨h,_⟩)|⟨h,_⟩)|⟨h,_⟩ <;> (rw [h];decide)
theorem Qz (s:ByteArray) (right:Bool) (w:World) (hs:s.size≤1000000) (h0:0<s.size) (hr:right=true→okB s=true) :
  Calls Tryz.prog 58 #[.string s,.bool right] w fun e w'=>e=.returned (.tuple #[.int .i64 (eX right s.toList).1,.int .i64 ((eX right s.toList).2:Nat)])∧Below w.heap.size w w':=by
 have cN:=Qp s w (by omega);have cM:=KM s w (by omega);have cQ:=NT s w (by omega) h0;have cO:=NY s w hs h0;have hnl:=Gm s.toList;rw [dP] at hnl;have hl:=fO s h0;rw [bM] at hl;obtain ⟨R,hR⟩:∃ R,eX right s.toList=R:=⟨_,rfl⟩;rw [hR]
 unfold eX at hR
 by_cases h1:0<gQ s.toList
 ·rw [au h1,← sV] at hR
  obtain ⟨n,hn⟩:∃ n,gQ s.toList=n:=⟨_,rfl⟩;rw [hn] at cN hnl h1 hR;have cK:=Uk (s.extract 0 n) w;obtain ⟨b,hb⟩:∃ b,zS (s.extract 0 n).toList=b:=⟨_,rfl⟩;rw [hb] at cK hR;subst hR;clear cM cQ cO hl hn hb hr
  go_enter Tryz.func58,Tryz.ntmps58
  go_wp2_with fail
  refine cN.mono ?_;rintro e w1 ⟨rfl,rfl⟩
  go_wp2_with fail
  refine cK.mono ?_;rintro e w2 ⟨rfl,rfl⟩
  cases b
  ·go_wp2_with fail
   go_ret2
   exact ⟨rfl,ah _ _⟩
  ·go_wp2_with fail
   go_ret2
   exact ⟨rfl,ah _ _⟩
 ·rw [ai h1] at hR
  have hn:gQ s.toList=0:=by omega
  rw [hn] at cN;clear h1 hn hnl
  by_cases h2:0<nI s.toList
  ·rw [au h2] at hR
   obtain ⟨n,hn⟩:∃ n,nI s.toList=n:=⟨_,rfl⟩;rw [hn] at cM h2 hR;subst hR;clear cQ cO hl hn hr
   go_enter Tryz.func58,Tryz.ntmps58
   go_wp2_with fail
   refine cN.mono ?_;rintro e w1 ⟨rfl,rfl⟩
   go_wp2_with fail
   refine cM.mono ?_;rintro e w2 ⟨rfl,rfl⟩
   go_wp2_with fail
   go_ret2
   exact ⟨rfl,ah _ _⟩
  ·rw [ai h2] at hR
   have hn:nI s.toList=0:=by omega
   rw [hn] at cM;clear h2 hn
   by_cases h3:0<gB s.toList
   ·rw [au h3] at hR
    obtain ⟨n,hn⟩:∃ n,gB s.toList=n:=⟨_,rfl⟩;rw [hn] at cQ h3 hR;subst hR;clear cO hl hn hr
    go_enter Tryz.func58,Tryz.ntmps58
    go_wp2_with fail
    refine cN.mono ?_;rintro e w1 ⟨rfl,rfl⟩
    go_wp2_with fail
    refine cM.mono ?_;rintro e w2 ⟨rfl,rfl⟩
    go_wp2_with fail
    refine cQ.mono ?_;rintro e w3 ⟨rfl,rfl⟩
    go_wp2_with fail
    go_ret2
    exact ⟨rfl,ah _ _⟩
   ·rw [ai h3,hl] at hR
    have hn:gB s.toList=0:=by omega
    rw [hn] at cQ;clear h3 hn;have htl:=@Us s h0
    have hlow:=fun (n:Nat) (h:xW s n)=>h.low h0
    obtain ⟨z,hz⟩:∃ z,s[0]=z:=⟨_,rfl⟩;have e59:=qg z 59;rw [hz] at hR htl hlow hl;simp only [List.head?_cons,bS] at hR
    by_cases h4:z=59
    ·rw [au h4] at hR
     rw [decide_eq_true h4] at e59;replace e59:((z.toNat:Int)==59)=true:=e59;subst hR;clear cO hl hr h4 htl hlow
     go_enter Tryz.func58,Tryz.ntmps58
     go_wp2_with fail
     refine cN.mono ?_;rintro e w1 ⟨rfl,rfl⟩
     go_wp2_with fail
     refine cM.mono ?_;rintro e w2 ⟨rfl,rfl⟩
     go_wp2_with fail
     refine cQ.mono ?_;rintro e w3 ⟨rfl,rfl⟩
     go_wp2_with fail
     go_ret2
     exact ⟨rfl,ah _ _⟩
    ·rw [ai h4] at hR
     rw [dm h4] at e59;replace e59:((z.toNat:Int)==59)=false:=e59
     have XN:∀ n,Qy s n→(right=true∧fQ right s.toList=n)∨(right=false∧fQ right s.toList=n∧(n=1∨z.toNat<128))∨(right=false∧fQ right s.toList=1∧1<n∧128≤z.toNat):=by
      intro n hn
      rcases hn with ⟨ht,rfl⟩|⟨ht,hp⟩
      ·have hm:fQ right s.toList=2:=by unfold fQ;rw [au ht]
       cases right
       ·exact .inr (.inl ⟨rfl,hm,.inr (htl ht)⟩)
       ·exact .inl ⟨rfl,hm⟩
      ·have hm:fQ right s.toList=if right=true then wid s.toList else 1:=by unfold fQ;rw [ai (by rw [ht];simp)]
       cases right
       ·right
        have hm1:fQ false s.toList=1:=by rw [hm];rfl
        have hn1:1≤n:=by rcases hp with ⟨h,_⟩|⟨h,_⟩ <;> omega
        by_cases hz:z.toNat<128
        ·exact .inl ⟨rfl,by rw [hm1,hlow n hp hz],.inr hz⟩
        ·by_cases h1:n=1
         ·exact .inl ⟨rfl,by rw [hm1,h1],.inl h1⟩
         ·exact .inr ⟨rfl,hm1,by omega,by omega⟩
       ·left
        exact ⟨rfl,by rw [hm,hp.right h0 (hr rfl)];rfl⟩
     have HML:=hid XN;rw [← hl] at hR;clear hl hr h4 htl hlow XN;have HR:=hid hR;clear hR
     go_enter Tryz.func58,Tryz.ntmps58
     go_wp2_with fail
     refine cN.mono ?_;rintro e w1 ⟨rfl,rfl⟩
     go_wp2_with fail
     refine cM.mono ?_;rintro e w2 ⟨rfl,rfl⟩
     go_wp2_with fail
     refine cQ.mono ?_;rintro e w3 ⟨rfl,rfl⟩
     go_wp2_with fail
     refine cO.mono ?_;rintro e w4 ⟨n,rfl,hn,hb4⟩
     rcases HML.out n hn with ⟨rfl,hm⟩|⟨rfl,hm,hor⟩|⟨rfl,hm,h1,h2⟩
     ·have HM:=hid hm
      clear hn hm
      go_wp2_with fail
      go_ret2
      exact ⟨by rw [← HR.out,HM.out];rfl,hb4⟩
     ·have HM:=hid hm
      clear hm
      rcases hor with rfl|hz
      ·clear hn
       go_wp2_with fail
       go_ret2
       exact ⟨by rw [← HR.out,HM.out];rfl,hb4⟩
      ·by_cases h1:1<n
       ·clear hn
        go_wp2_with fail
        go_ret2
        exact ⟨by rw [← HR.out,HM.out];rfl,hb4⟩
       ·clear hn
        go_wp2_with fail
        go_ret2
        exact ⟨by rw [← HR.out,HM.out];rfl,hb4⟩
     ·have HM:=hid hm
      clear hn hm
      go_wp2_with fail
      go_ret2
      exact ⟨by rw [← HR.out,HM.out];rfl,hb4⟩
def qM (t:bn):List Value:=[.int .i64 t.w,.string ⟨t.t.toArray⟩,.int .i64 t.f,.int .i64 t.e]
def fV:List bn→List Value
 | []=>[]
 | t :: r=>qM t++fV r
theorem qN:∀ l:List bn,(fV l).length=4*l.length
 | []=>rfl
 | d :: r=>by simp only [fV,aO,qN r,aH,qM,dQ];omega
theorem oZ:∀ (a b:List bn),fV (a++b)=fV a++fV b
 | [],b=>rfl
 | d :: r,b=>by simp only [bI,fV,oZ r b,dA]
theorem vU:∀ (l:List bn) (i j:Nat) (hi:i<l.length),j<4→(fV l)[i*4+j]?=(qM l[i])[j]?
 | [],i,j,hi,_=>by simp at hi
 | d :: r,0,j,hi,hj=>by simp only [fV,Nat.zero_mul,bA,List.getElem_cons_zero];rw [bu (by simp [qM];omega)]
 | d :: r,i+1,j,hi,hj=>by
  simp only [fV,List.getElem_cons_succ];rw [aI (by simp [qM];omega),show (i+1)*4+j - (qM d).length=i*4+j by simp [qM];omega]
  exact vU r i j (by simpa using hi) hj
def CL (W:World) (g off:Nat) (l:List bn):Prop:=∀ j u,(fV l)[j]?=some u→W.cell? ⟨g,off+j,none⟩=some u
theorem xX {W:World} {l:List bn} {g off:Nat} (i:Nat) (hc:CL W g off l) (hi:i<l.length) :
  W.cell? ⟨g,off+i*4,none⟩=some (.int .i64 l[i].w)∧W.cell? ⟨g,off+i*4+1,none⟩=some (.string ⟨l[i].t.toArray⟩)∧W.cell? ⟨g,off+i*4+2,none⟩=some (.int .i64 l[i].f)∧W.cell? ⟨g,off+i*4+3,none⟩=some (.int .i64 l[i].e):=by
 refine ⟨hc (i*4) _ ?_,hc (i*4+1) _ (by rw [vU l i 1 hi (by omega)];rfl),hc (i*4+2) _ (by rw [vU l i 2 hi (by omega)];rfl),hc (i*4+3) _ (by rw [vU l i 3 hi (by omega)];rfl)⟩;have:=vU l i 0 hi (by omega);rw [bV] at this;rw [this];rfl
def K3 (B:Nat) (W:World) (l:List bn) (v:Value):Prop:=∃ a cap,v=.slice a l.length cap∧l.length≤cap∧(l=[]∨∃ g off,a=some ⟨g,off,none⟩∧B≤g∧g<W.heap.size∧CL W g off l)
theorem lM {w:World} {B n size:Nat} {e:TypeId} {v:Value} {xs:List Value} (h:w.ownsRow B e size v n xs) (hn:0<n):∃ g c,v=.slice (some ⟨g,0,none⟩) n c∧n≤c∧B≤g∧g<w.heap.size:=by
 rcases h.2 with ⟨_,h0⟩|⟨g,cap,cur,rfl,_,_,hc,_⟩
 ·have:=h.1;omega
 ·have:=h.lt g rfl
  exact ⟨g,cap,rfl,hc,this.1,this.2⟩
theorem BX {w:World} {B n c g:Nat} {l:List bn} (h:w.ownsRow B 86 4 (.slice (some ⟨g,0,none⟩) n c) n (fV l)) (hn:l.length=n):CL w g 0 l:=fun j u hj=>by
 have hj2:=(aL.1 hj).1;rw [qN] at hj2;rw [bA,h.cellAt j (by omega)]
 exact hj
theorem vV {w:World} {B B' n:Nat} {l:List bn} {v:Value} (h:w.ownsRow B' 86 4 v n (fV l)) (hn:l.length=n) (hB:B≤B'):K3 B w l v:=by
 rcases gW n with h0|h0
 ·have hl:l=[]:=dF.1 (hn.trans h0)
  rcases h.2 with ⟨rfl,_⟩|⟨g,cap,cur,rfl,_⟩
  ·exact ⟨none,0,by rw [hl];rfl,by rw [hl];simp,.inl hl⟩
  ·exact ⟨_,cap,by rw [hn],by rw [hl];simp,.inl hl⟩
 ·obtain ⟨g,c,rfl,hc,hg,_⟩:=lM h h0
  exact ⟨_,c,by rw [hn],by omega,.inr ⟨g,0,rfl,by omega,(h.lt g rfl).2,BX h hn⟩⟩
theorem nK:∀ (l:List bn),∀ u∈fV l,u.oneCell'=true
 | [],u,h=>by simp [fV] at h
 | d :: r,u,h=>by
  simp only [fV,List.mem_append] at h
  rcases h with h|h
  ·simp only [qM,bB,ed,or_false] at h
   rcases h with rfl|rfl|rfl|rfl <;> rfl
  ·exact nK r u h
theorem eH {w:World} {B n size:Nat} {e:TypeId} {v:Value} {xs:List Value} (h:w.ownsRow B e size v n xs):∃ a c,v=.slice a n c:=by
 rcases h.2 with ⟨rfl,h0⟩|⟨g,cap,cur,rfl,_⟩
 ·exact ⟨none,0,by subst h0;rfl⟩
 ·exact ⟨_,cap,rfl⟩
theorem below_grown {Z n size:Nat} {w2 W w':World} {e:TypeId} {v:Value} {xs:List Value} {o:Obj} (hL:Below Z w2 W) (hR:W.ownsRow Z e size v n xs) (hg:(W.alloc o).grownBy w' v.ownBlock) (hz:Z≤W.heap.size):Below Z w2 w':=by
 refine ⟨hg.os.trans hL.os,hg.tape.trans hL.tape,hg.output.trans hL.output,?_,fun k hk=>?_⟩
 ·have h1:=hg.size
  have h2:=hL.size;rw [aT] at h1;omega
 ·exact ((hg.block k (by rw [aT];omega) (fun e=>by have:=(hR.lt k e.symm).1;omega)).trans (dw _ _ _ (by omega))).trans (hL.block k hk)
theorem aR {B n size:Nat} {e:TypeId} {v:Value} {xs:List Value} {W W':World} (h:W.ownsRow B e size v n xs) (hb:Below W.heap.size W W'):W'.ownsRow B e size v n xs:=by
 have hg:W.grownBy W' none:=⟨hb.os,hb.tape,hb.output,hb.size,fun j hj _=>hb.block j hj⟩
 exact h.kept hg (by cases v.ownBlock <;> simp)
theorem MX:(Tryz.prog.info? 86).map (fun i=>(i.zero,i.size,i.bytes))=some (some (.agg #[.int .i64 0,.string ⟨#[]⟩,.int .i64 0,.int .i64 0]),4,40):=by kernel_rfl
theorem Ut {w:World} {q:Nat} {d:bn} {t:TypeId} (h:w.heap[q]?=some (.cells #[.int .i64 d.w,.string ⟨d.t.toArray⟩,.int .i64 d.f,.int .i64 d.e] t (0,0))) :
  ∀ k u,(fV [d])[k]?=some u→w.cell? ((⟨q,0,none⟩:Addr).add k)=some u:=fun k u hk=>by
 obtain ⟨c0,c1,c2,c3⟩:=IW h;rw [Addr.add_lit,bA];have hk2:=(aL.1 hk).1;rw [qN] at hk2;simp only [fV,qM,eu] at hk
 match k,hk2 with
 | 0,_=>simp at hk;subst hk;exact c0
 | 1,_=>simp at hk;subst hk;exact c1
 | 2,_=>simp at hk;subst hk;exact c2
 | 3,_=>simp at hk;subst hk;exact c3
theorem BZ (W:World) (d:bn):∀ k u,(fV [d])[k]?=some u→(W.alloc (.cells #[.int .i64 d.w,.string ⟨d.t.toArray⟩,.int .i64 d.f,.int .i64 d.e] 86)).cell? ((⟨W.heap.size,0,none⟩:Addr).add k)=some u:=Ut (aG W _)
theorem CO (W:World) (a f e:Int) (x:ByteArray):∀ k u,(fV [⟨a,x.toList,f,e⟩])[k]?=some u→(W.alloc (.cells #[.int .i64 a,.string x,.int .i64 f,.int .i64 e] 86)).cell? ((⟨W.heap.size,0,none⟩:Addr).add k)=some u:=by
 have h:=BZ W ⟨a,x.toList,f,e⟩;rwa [MU] at h
def sW (l:List bn):Bool:=match l.getLast? with|none=>false|some t=>pZ t.w t.t
theorem EY (l:List bn) (t:bn):sW (l++[t])=pZ t.w t.t:=by unfold sW;simp
def o6 (right:Bool) (s:ByteArray) (i:Nat) (b:Bool):List bn:=jJ right (s.size+1) (s.toList.drop i) i b
structure og (right:Bool) (s:ByteArray) (i:Nat) (O:List bn):Prop where
 all:fD right s.toList=O++o6 right s i (sW O)
 ok:right=true→okB (s.extract i s.size)=true
 few:O.length≤i
theorem xY (right:Bool) (s:ByteArray) (h:right=true→okB s=true):og right s 0 [] :=
 ⟨by unfold fD o6;rw [dP];rfl,fun h1=>by rw [ByteArray.extract_zero_size];exact h h1,ae _⟩
theorem nL (right:Bool) (s:ByteArray) (b:Bool):o6 right s s.size b=if b then [⟨5,[],s.size,s.size⟩] else []:=by
 unfold o6
 rw [xR s (ae _)]
 rfl
theorem su (right:Bool) (s:ByteArray) {i:Nat} (h:i<s.size) (b:Bool) :
  o6 right s i b=if s[i]=10∧b=true then ⟨5,[],i,((i+1:Nat):Int)⟩ :: o6 right s (i+1) false
   else if blank s[i]=true then o6 right s (i+1) b
   else if 0<eG (s.toList.drop i) then o6 right s (i+eG (s.toList.drop i)) b
   else ⟨(eX right (s.toList.drop i)).1,(s.toList.drop i).take (eX right (s.toList.drop i)).2,i,((i+(eX right (s.toList.drop i)).2:Nat):Int)⟩ ::
    o6 right s (i+(eX right (s.toList.drop i)).2) (pZ (eX right (s.toList.drop i)).1 ((s.toList.drop i).take (eX right (s.toList.drop i)).2)):=by
 have hl:=fO s h
 have hn:∀ (m:Nat) (x:Bool),i<m→jJ right s.size (s.toList.drop m) m x=o6 right s m x:=fun m x hm=>by
  unfold o6
  have:(s.toList.drop m).length<s.size:=by rw [bC,dP];omega
  exact rf right _ _ _ _ _ this (by omega)
 have hw:=(lL right (l:=s.toList.drop i) (by rw [hl];simp)).1;rw [← hn (i+1) _ (by omega),← hn (i+1) _ (by omega),← hn (i+(eX right (s.toList.drop i)).2) _ (by omega)]
 have hd:∀ k,s.toList.drop (i+k)=(s.toList.drop i).drop k:=fun k=>by rw [List.drop_drop]
 by_cases hc:0<eG (s.toList.drop i)
 ·rw [← hn (i+eG (s.toList.drop i)) _ (by omega)]
  simp only [hd (eG _),hd (eX _ _).2]
  unfold o6
  rw [hl]
  rfl
 ·rw [ai hc,hd (eX _ _).2]
  unfold o6
  rw [hl] at hc ⊢;simp only [jJ];rw [ai hc]
theorem Uu (s:ByteArray) {i k:Nat} (_h:i+k≤s.size):(s.extract i s.size).extract k (s.extract i s.size).size=s.extract (i+k) s.size:=by
 apply ByteArray.ext
 apply Array.toList_inj.1
 rw [← bg,← bg,kK,kK,kK,List.drop_drop]
theorem MY {right:Bool} {s:ByteArray} {i k:Nat} (hok:right=true→okB (s.extract i s.size)=true) (h:i+k≤s.size) (hb:right=true→Ky (s.extract i s.size) k):right=true→okB (s.extract (i+k) s.size)=true:=fun hr=>by
 rw [← Uu s h]
 exact XL (hok hr) (hb hr)
theorem IZ {s:ByteArray} (hok:okB s=true):Ky s s.size:=(Gq hok (ae _)).2 (by rw [ByteArray.extract_zero_size];exact hok)
theorem Uv {s:ByteArray} (hok:okB s=true) (h:0<eG s.toList):Ky s (eG s.toList):=by
 have hle:=uA s.toList;rw [dP] at hle
 have key:eG s.toList<s.size→s.toList[eG s.toList]?=some 10:=fun hlt=>by
  match hs:s.toList,h with
  | a :: b :: r,h =>
   rw [hs] at hlt;simp only [eG] at h hlt ⊢
   split at h
   ·rename_i hab
    rw [au hab] at hlt ⊢
    have hz:s.size=r.length+2:=by rw [← dP,hs];rfl
    have hr:(r.takeWhile (fun c=>decide (c≠10))).length<r.length:=by omega
    rw [show 2+(r.takeWhile (fun c=>decide (c≠10))).length=(r.takeWhile (fun c=>decide (c≠10))).length+2 by omega];simp only [ig];clear h hlt hab hs hle hz hok
    induction r with
    | nil=>simp at hr
    | cons c u ih =>
     by_cases hc:c=10
     ·subst hc;simp
     ·rw [bK,au (by simpa using hc)] at hr ⊢
      simp only [aH,ig] at hr ⊢
      exact ih (by omega)
   ·omega
 by_cases hlt:eG s.toList<s.size
 ·exact (yX hok (key hlt) (by decide)).1
 ·rw [show eG s.toList=s.size by omega]
  exact IZ hok
theorem zX (s:ByteArray) {i:Nat} (h:i<s.size):(s.extract i s.size).toList[0]?=some s[i]:=by
 rw [kK,fO s h];rfl
theorem MZ {right:Bool} {s:ByteArray} {i:Nat} {O:List bn} (h:og right s i O) (hi:i<s.size) (hc:s[i]=10) (hb:sW O=true):og right s (i+1) (O++[⟨5,[],i,((i+1:Nat):Int)⟩]):=by
 refine ⟨?_,MY h.ok (by omega) (fun hr=>(yX (h.ok hr) (zX s hi) (by rw [hc];decide)).2),by have:=h.few;simp;omega⟩;rw [h.all,hb,su right s hi,au ⟨hc,rfl⟩,EY]
 simp [pZ]
theorem kC {right:Bool} {s:ByteArray} {i:Nat} {O:List bn} (h:og right s i O) (hi:i<s.size) (hc:¬ (s[i]=10∧sW O=true)) (hb:blank s[i]=true):og right s (i+1) O:=by
 refine ⟨?_,MY h.ok (by omega) (fun hr=>(yX (h.ok hr) (zX s hi) ?_).2),by have:=h.few;omega⟩
 ·rw [h.all,su right s hi,ai hc,au hb]
 ·unfold blank at hb
  simp at hb
  rcases hb with ((hb|hb)|hb)|hb <;> (rw [hb];decide)
theorem CP {right:Bool} {s:ByteArray} {i:Nat} {O:List bn} (h:og right s i O) (hi:i<s.size) (hb:blank s[i]=false) (hk:0<eG (s.extract i s.size).toList):og right s (i+eG (s.extract i s.size).toList) O:=by
 have hle:=uA (s.extract i s.size).toList;rw [kK,bC,dP] at hle;refine ⟨?_,MY h.ok (by rw [kK];omega) (fun hr=>Uv (h.ok hr) hk),by have:=h.few;omega⟩;rw [kK] at hk ⊢;rw [h.all,su right s hi,ai (fun e=>by rw [e.1] at hb;cases hb),ai (by rw [hb];simp),au hk]
theorem zY {right:Bool} {s:ByteArray} {i:Nat} {O:List bn} (h:og right s i O) (hi:i<s.size) (hb:blank s[i]=false) (hk:eG (s.extract i s.size).toList=0) {w:Int} {k:Nat} (hw:eX right (s.extract i s.size).toList=(w,k)) :
  i+k≤s.size∧1≤k∧og right s (i+k) (O++[⟨w,(s.extract i (i+k)).toList,i,((i+k:Nat):Int)⟩]):=by
 have hbd:=lL right (l:=(s.extract i s.size).toList) (by rw [kK,fO s hi];simp);rw [hw,kK,bC,dP] at hbd
 have he:(s.extract i (i+k)).toList=(s.toList.drop i).take k:=by rw [ext_list,show i+k - i=k by omega]
 refine ⟨by omega,hbd.1,?_,MY h.ok (by omega) (fun hr=>?_),by have:=h.few;simp;omega⟩
 ·rw [kK] at hk hw
  rw [h.all,su right s hi,ai (fun e=>by rw [e.1] at hb;cases hb),ai (by rw [hb];simp),ai (by omega),hw,EY,he]
  simp
 ·subst hr
  have hz:0<(s.extract i s.size).size:=by rw [size_extract s i s.size (by omega) (ae _)];omega
  have:=Qx (h.ok rfl) hz;rwa [hw] at this
theorem mY {B:Nat} {a w:World} (h:Below B a w) (n:Nat):Below B a (w.drewN n):=⟨h.os,h.tape,h.output,h.size,h.block⟩
theorem kY (right:Bool):∀ (n:Nat) (l:By) (pos:Nat) (e:Bool),(jJ right n l pos e).length≤l.length+1
 | 0,_,_,_=>by simp [jJ]
 | n+1,[],pos,e=>by simp only [jJ];split <;> simp
 | n+1,c :: r,pos,e=>by
  have hc:=uA (c :: r);have hw:=lL right (l:=c :: r) (by simp);simp only [jJ]
  split
  ·have:=kY right n r (pos+1) false
   simp only [aH];omega
  ·split
   ·have:=kY right n r (pos+1) e
    simp only [aH];omega
   ·split
    ·have:=kY right n ((c :: r).drop (eG (c :: r))) (pos+eG (c :: r)) e
     rw [bC] at this;omega
    ·have:=kY right n ((c :: r).drop (eX right (c :: r)).2) (pos+(eX right (c :: r)).2) (pZ (eX right (c :: r)).1 ((c :: r).take (eX right (c :: r)).2))
     rw [bC] at this;rw [aH];omega
end S
namespace T
open Go.RowKit
open Go.Lib hiding intOf
open U S L
def aX (x:By):ByteArray:=⟨x.toArray⟩
def five:Pt→Value→List Value
 | .mk k t f e _,lv=>[.string (aX k),.string (aX t),.int .i64 f,.int .i64 e,lv]
def dJ (W:World) (g off:Nat) (xs:List Value):Prop:=∀ j u,xs[j]?=some u→W.cell? ⟨g,off+j,none⟩=some u
mutual
def aU (W:World) (R:Nat→Prop):Pt→Value→Prop
 | .mk _ _ _ _ ks,lv=>∃ a cap,lv=.slice a ks.length cap∧ks.length≤cap∧(ks=[]∨∃ g off xs,a=some ⟨g,off,none⟩∧R g∧dJ W g off xs∧aP W R ks xs)
def aP (W:World) (R:Nat→Prop):List Pt→List Value→Prop
 | [],xs=>xs=[]
 | p :: r,xs=>∃ lv rest,xs=five p lv++rest∧aU W R p lv∧aP W R r rest
end
def Still (R:Nat→Prop) (W W':World):Prop:=∀ g,R g→g<W.heap.size→W'.heap[g]?=W.heap[g]?
theorem dJ.later {W W':World} {R:Nat→Prop} {g off:Nat} {xs:List Value} (h:dJ W g off xs) (hR:R g) (hs:Still R W W'):dJ W' g off xs:=by
 intro j u hj;have h1:=h j u hj;have hlt:g<W.heap.size:=aY W _ h1;have h2:=hs g hR hlt
 unfold World.cell? at h1 ⊢
 rw [h2];exact h1
mutual
theorem aU.later {W W':World} {R R':Nat→Prop} (hs:Still R W W') (hR:∀ g,R g→R' g):∀ (p:Pt) (lv:Value),aU W R p lv→aU W' R' p lv
 | .mk k t f e ks,lv,h=>by
  obtain ⟨a,cap,h1,h0,h2⟩:=h;refine ⟨a,cap,h1,h0,?_⟩
  rcases h2 with h2|⟨g,off,xs,h3,h4,h5,h6⟩
  ·exact .inl h2
  ·exact .inr ⟨g,off,xs,h3,hR g h4,h5.later h4 hs,aP.later hs hR ks xs h6⟩
theorem aP.later {W W':World} {R R':Nat→Prop} (hs:Still R W W') (hR:∀ g,R g→R' g):∀ (l:List Pt) (xs:List Value),aP W R l xs→aP W' R' l xs
 | [],_,h=>h
 | p :: r,xs,h=>by
  obtain ⟨lv,rest,h1,h2,h3⟩:=h
  exact ⟨lv,rest,h1,aU.later hs hR p lv h2,aP.later hs hR r rest h3⟩
end
theorem eO (p:Pt) (lv:Value):(five p lv).length=5:=by cases p;rfl
theorem aP.length {W:World} {R:Nat→Prop}:∀ {l:List Pt} {xs:List Value},aP W R l xs→xs.length=5*l.length
 | [],xs,h=>by have h:xs=[]:=h;subst h;rfl
 | p :: r,xs,h=>by
  obtain ⟨lv,rest,rfl,_,h3⟩:=h;have:=aP.length h3;rw [aO,eO,this];simp;omega
theorem aP.snoc {W:World} {R:Nat→Prop}:∀ {l:List Pt} {xs:List Value} {p:Pt} {lv:Value},aP W R l xs→aU W R p lv→aP W R (l++[p]) (xs++five p lv)
 | [],xs,p,lv,h,hv=>by
  have h:xs=[]:=h;subst h
  exact ⟨lv,[],by simp,hv,rfl⟩
 | u :: r,xs,p,lv,h,hv=>by
  obtain ⟨CQ,rest,rfl,h2,h3⟩:=h
  exact ⟨CQ,rest++five p lv,by simp,h2,aP.snoc h3 hv⟩
end T
end Go.Proofs.YtojoahlpgmnbnaaGreatDoor
