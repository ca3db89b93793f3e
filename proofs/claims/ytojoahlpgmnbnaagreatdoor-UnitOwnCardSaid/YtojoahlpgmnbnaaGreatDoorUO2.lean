/- What the claim needs of the texts RefAll, SRef3, SRef4, STok, SPart, TRep. -/
import Derived.Test.YtojoahlpgmnbnaaGreatDoorUOOp
import Derived.Test.YtojoahlpgmnbnaaGreatDoorUO1
import Derived.Test.YtojoahlpgmnbnaaGreatDoorProg
import Derived.WalkKit
import Derived.WalkMore
import Derived.Below
import Derived.Lib.Hide
import Derived.Shelf.Unicode.DecodeSlow
import Derived.WalkSmall
import Derived.Deep.DeepMust
import Derived.Maps.AppendAt
import Derived.Deep.QuietTactic
import Derived.BigQuiet
import Derived.Laws.AppendOwn
import Derived.Lib.SmallJoins
set_option maxRecDepth 20000
set_option maxHeartbeats 16000000
namespace Go.Proofs.YtojoahlpgmnbnaaGreatDoor
namespace U
open Go.Lib
def zL (s:ByteArray):Nat × Nat:=if (Utf8.decode s 0).1=65533∧(Utf8.decode s 0).2=1 then (0,0) else Utf8.decode s 0
def mQ (s:ByteArray) (n:Nat):Nat→Nat→Nat→Option Nat
 | 0,_,c=>some c
 | f+1,i,c=>if i<n then (if (s.get! i).toNat<128∨192≤(s.get! i).toNat then none else mQ s n f (i+1) (64*c+(s.get! i).toNat - 128)) else some c
def vG (least n:Nat):Option Nat→Nat × Nat
 | none=>(0,0)
 | some c=>if c<least∨1114111<c∨(55296≤c∧c≤57343) then (0,0) else (c,n)
def Br (s:ByteArray) (n least c:Nat):Nat × Nat:=if s.size<n then (0,0) else vG least n (mQ s n (n - 1) 1 c)
theorem kV (least n c:Nat) (h:c<least∨1114111<c∨(55296≤c∧c≤57343)):vG least n (some c)=(0,0):=by
 simp only [vG];rw [ay h]
theorem qO (least n c:Nat) (h1:¬ c<least) (h2:¬ 1114111<c) (h3:¬ (55296≤c∧c≤57343)):vG least n (some c)=(c,n):=by
 simp only [vG];rw [ai (fun h=>h.elim h1 fun h=>h.elim h2 h3)]
theorem zM (s:ByteArray) (n f i c:Nat) (hi:i<n) (h:(s.get! i).toNat<128∨192≤(s.get! i).toNat):mQ s n (f+1) i c=none:=by
 simp only [mQ];rw [ay hi,ay h]
theorem Cn (s:ByteArray) (n f i c:Nat) (hi:i<n) (h:¬ ((s.get! i).toNat<128∨192≤(s.get! i).toNat)):mQ s n (f+1) i c=mQ s n f (i+1) (64*c+(s.get! i).toNat - 128):=by
 simp only [mQ];rw [ay hi,ai h]
theorem xJ (s:ByteArray) (n f i c:Nat) (hi:¬ i<n):mQ s n f i c=some c:=by
 cases f <;> simp only [mQ];rw [ai hi]
def EG (n b0 b1 b2 b3:Nat):Nat × Nat:=if (decodeN n b0 b1 b2 b3).1=65533∧(decodeN n b0 b1 b2 b3).2=1 then (0,0) else decodeN n b0 b1 b2 b3
theorem yH (s:ByteArray):zL s=EG s.size (s.get! 0).toNat (s.get! 1).toNat (s.get! 2).toNat (s.get! 3).toNat:=by
 unfold zL EG
 rw [ig]
 rfl
theorem jI {n b0 b1 b2 b3:Nat} (h:decodeN n b0 b1 b2 b3=(65533,1)):EG n b0 b1 b2 b3=(0,0):=by
 unfold EG;rw [h];simp
theorem ui {n b0 b1 b2 b3 c k:Nat} (h:decodeN n b0 b1 b2 b3=(c,k)) (hk:1<k∨c<65533):EG n b0 b1 b2 b3=(c,k):=by
 unfold EG;rw [h];rw [ai (by simp only;omega)]
theorem adM (s:ByteArray) (h:(s.get! 0).toNat<128):zL s=((s.get! 0).toNat,1):=by
 rw [yH];generalize (s.get! 0).toNat=b0 at *
 exact ui (by unfold decodeN;rw [ay h]) (by omega)
theorem adN (s:ByteArray) (h:¬ (s.get! 0).toNat<128) (h2:¬ (192≤(s.get! 0).toNat∧(s.get! 0).toNat<224)) (h3:¬ (224≤(s.get! 0).toNat∧(s.get! 0).toNat<240)) (h4:¬ (240≤(s.get! 0).toNat∧(s.get! 0).toNat<248)):zL s=(0,0):=by
 rw [yH];have hb:(s.get! 0).toNat<256:=gq _;generalize (s.get! 0).toNat=b0 at *
 exact jI (by unfold decodeN;rw [ai h,ai (by omega),ai (by omega),ai (by omega)])
theorem adO (s:ByteArray) (h:192≤(s.get! 0).toNat) (h2:(s.get! 0).toNat<224):zL s=Br s 2 128 ((s.get! 0).toNat - 192):=by
 rw [yH];have c1:(s.get! 1).toNat<256:=gq _;have c2:(s.get! 2).toNat<256:=gq _;have c3:(s.get! 3).toNat<256:=gq _
 unfold Br
 simp only [mQ];generalize (s.get! 0).toNat=b0 at *;generalize (s.get! 1).toNat=b1 at *;generalize (s.get! 2).toNat=b2 at *;generalize (s.get! 3).toNat=b3 at *;generalize s.size=z at *
 by_cases hs:z<2
 ·rw [ay hs]
  exact jI (by unfold decodeN;repeat rw [ai (by omega)])
 ·rw [ai hs,ay (by omega)]
  by_cases q1:b1<128∨192≤b1
  ·rw [ay q1]
   exact jI (by unfold decodeN;repeat rw [ai (by omega)])
  rw [ai q1];simp only [vG]
  by_cases q:64*(b0 - 192)+b1 - 128<128∨1114111<64*(b0 - 192)+b1 - 128∨(55296≤64*(b0 - 192)+b1 - 128∧64*(b0 - 192)+b1 - 128≤57343)
  ·rw [ay q]
   exact jI (by unfold decodeN;rw [ai (by omega),ay (by omega)];rw [ai (by omega)])
  ·rw [ai q]
   exact ui (by unfold decodeN;rw [ai (by omega),ay (by omega)];rw [ay (by omega)];exact Prod.ext (by simp only;omega) rfl) (by omega)
theorem adP (s:ByteArray) (h:224≤(s.get! 0).toNat) (h2:(s.get! 0).toNat<240):zL s=Br s 3 2048 ((s.get! 0).toNat - 224):=by
 rw [yH];have c1:(s.get! 1).toNat<256:=gq _;have c2:(s.get! 2).toNat<256:=gq _;have c3:(s.get! 3).toNat<256:=gq _
 unfold Br
 simp only [mQ];generalize (s.get! 0).toNat=b0 at *;generalize (s.get! 1).toNat=b1 at *;generalize (s.get! 2).toNat=b2 at *;generalize (s.get! 3).toNat=b3 at *;generalize s.size=z at *
 by_cases hs:z<3
 ·rw [ay hs]
  exact jI (by unfold decodeN;repeat rw [ai (by omega)])
 ·rw [ai hs,ay (by omega)]
  by_cases q1:b1<128∨192≤b1
  ·rw [ay q1]
   exact jI (by unfold decodeN;repeat rw [ai (by omega)])
  rw [ai q1];rw [ay (by omega)]
  by_cases q2:b2<128∨192≤b2
  ·rw [ay q2]
   exact jI (by unfold decodeN;repeat rw [ai (by omega)])
  rw [ai q2];simp only [vG]
  by_cases q:64*(64*(b0 - 224)+b1 - 128)+b2 - 128<2048∨1114111<64*(64*(b0 - 224)+b1 - 128)+b2 - 128∨(55296≤64*(64*(b0 - 224)+b1 - 128)+b2 - 128∧64*(64*(b0 - 224)+b1 - 128)+b2 - 128≤57343)
  ·rw [ay q]
   exact jI (by unfold decodeN;rw [ai (by omega),ai (by omega),ay (by omega)];rw [ai (by omega)])
  ·rw [ai q]
   exact ui (by unfold decodeN;rw [ai (by omega),ai (by omega),ay (by omega)];rw [ay (by omega)];exact Prod.ext (by simp only;omega) rfl) (by omega)
theorem adQ (s:ByteArray) (h:240≤(s.get! 0).toNat) (h2:(s.get! 0).toNat<248):zL s=Br s 4 65536 ((s.get! 0).toNat - 240):=by
 rw [yH];have c1:(s.get! 1).toNat<256:=gq _;have c2:(s.get! 2).toNat<256:=gq _;have c3:(s.get! 3).toNat<256:=gq _
 unfold Br
 simp only [mQ];generalize (s.get! 0).toNat=b0 at *;generalize (s.get! 1).toNat=b1 at *;generalize (s.get! 2).toNat=b2 at *;generalize (s.get! 3).toNat=b3 at *;generalize s.size=z at *
 by_cases hs:z<4
 ·rw [ay hs]
  exact jI (by unfold decodeN;repeat rw [ai (by omega)])
 ·rw [ai hs,ay (by omega)]
  by_cases q1:b1<128∨192≤b1
  ·rw [ay q1]
   exact jI (by unfold decodeN;repeat rw [ai (by omega)])
  rw [ai q1];rw [ay (by omega)]
  by_cases q2:b2<128∨192≤b2
  ·rw [ay q2]
   exact jI (by unfold decodeN;repeat rw [ai (by omega)])
  rw [ai q2];rw [ay (by omega)]
  by_cases q3:b3<128∨192≤b3
  ·rw [ay q3]
   exact jI (by unfold decodeN;repeat rw [ai (by omega)])
  rw [ai q3];simp only [vG]
  by_cases q:64*(64*(64*(b0 - 240)+b1 - 128)+b2 - 128)+b3 - 128<65536∨1114111<64*(64*(64*(b0 - 240)+b1 - 128)+b2 - 128)+b3 - 128∨(55296≤64*(64*(64*(b0 - 240)+b1 - 128)+b2 - 128)+b3 - 128∧64*(64*(64*(b0 - 240)+b1 - 128)+b2 - 128)+b3 - 128≤57343)
  ·rw [ay q]
   exact jI (by unfold decodeN;rw [ai (by omega),ai (by omega),ai (by omega),ay (by omega)];rw [ai (by omega)])
  ·rw [ai q]
   exact ui (by unfold decodeN;rw [ai (by omega),ai (by omega),ai (by omega),ay (by omega)];rw [ay (by omega)];exact Prod.ext (by simp only;omega) rfl) (by omega)
end U
namespace U
open Go.RowKit
open Go.Lib hiding intOf
def KA (p:Nat × Nat) (w:World) (e:Ending) (w':World):Prop:=e=.returned (.tuple #[.int .i64 p.1,.int .i64 p.2])∧w=w'
theorem oK {p:Nat × Nat} {a b:Int} {w:World} (h1:a=(p.1:Int)) (h2:b=(p.2:Int)):KA p w (.returned (.tuple #[.int .i64 a,.int .i64 b])) w:=⟨by rw [h1,h2],rfl⟩
theorem get_at (s:ByteArray) (i:Nat) (h:i<s.size):s[i]'h=s.get! i:=(Utf8W.get!_of_lt s i h).symm
theorem KC (s:ByteArray) (w:World) (h0:0<s.size) (_hs:s.size≤1099511627776) (x:UInt8) (hx:s.get! 0=x) (h:x.toNat<128) :
  Calls Tryz.prog 106 #[.string s] w (KA (x.toNat,1) w):=by
 have hs0:s[0]'h0=x:=by rw [← hx];exact get_at s 0 h0
 have hz:(x.toNat:Int)<128:=by omega
 have hxl:x.toNat<256:=x.toNat_lt;clear hx
 go_enter Tryz.func106,Tryz.ntmps106
 go_wp2
 go_ret2
 exact oK (by simp) (by simp)
set_option maxRecDepth 100000 in
theorem IJ (s:ByteArray) (w:World) (h0:0<s.size) (_hs:s.size≤1099511627776) (x:UInt8) (hx:s.get! 0=x) (h:(128≤x.toNat∧x.toNat<192)∨248≤x.toNat) :
  Calls Tryz.prog 106 #[.string s] w (KA (0,0) w):=by
 have hs0:s[0]'h0=x:=by rw [← hx];exact get_at s 0 h0
 have hxl:x.toNat<256:=x.toNat_lt;clear hx
 rcases h with ⟨ha,hb⟩|ha
 ·have hz1:¬ (x.toNat:Int)<128:=by omega
  have hz2:¬ (192:Int)≤(x.toNat:Int):=by omega
  have hz3:¬ (224:Int)≤(x.toNat:Int):=by omega
  have Ef:¬ (240:Int)≤(x.toNat:Int):=by omega
  go_enter Tryz.func106,Tryz.ntmps106
  go_wp2
  go_ret2
  exact oK rfl rfl
 ·have hz1:¬ (x.toNat:Int)<128:=by omega
  have hz2:(192:Int)≤(x.toNat:Int):=by omega
  have hz3:(224:Int)≤(x.toNat:Int):=by omega
  have Ef:(240:Int)≤(x.toNat:Int):=by omega
  have Xu:¬ (x.toNat:Int)<248:=by omega
  go_enter Tryz.func106,Tryz.ntmps106
  go_wp2
  go_ret2
  exact oK rfl rfl
set_option maxRecDepth 100000 in
theorem Qd (s:ByteArray) (w:World) (h0:0<s.size) (hs:s.size≤1099511627776) (x:UInt8) (hx:s.get! 0=x) (ha:192≤x.toNat) (hb:x.toNat<224) :
  Calls Tryz.prog 106 #[.string s] w (KA (Br s 2 128 (x.toNat - 192)) w):=by
 have hs0:s[0]'h0=x:=by rw [← hx];exact get_at s 0 h0
 have hxl:x.toNat<256:=x.toNat_lt
 have hz0:¬ (x.toNat:Int)<128:=by omega
 have hz1:(192:Int)≤(x.toNat:Int):=by omega
 have hz2:(x.toNat:Int)<224:=by omega
 clear hx
 unfold Br
 by_cases hn:s.size<2
 ·rw [ay hn]
  have hnz:(s.size:Int)<2:=by omega
  go_enter Tryz.func106,Tryz.ntmps106
  go_wp2
  go_ret2
  exact oK rfl rfl
 ·rw [ai hn]
  have hnz:¬ (s.size:Int)<2:=by omega
  obtain ⟨R,hR⟩:∃ R,mQ s 2 (2 - 1) 1 (x.toNat - 192)=R:=⟨_,rfl⟩;rw [hR];have HR:=hid hR;clear hR;obtain ⟨y,hy⟩:∃ y:Nat,x.toNat=y+192:=⟨x.toNat - 192,by omega⟩
  have T9:((x.toNat:Int) - 192)=(y:Int):=by omega
  have HY:Hid (x.toNat=y+192):=hid hy;clear hy
  go_enter Tryz.func106,Tryz.ntmps106
  go_wp2
  go_loop [4,7] (fun cv iv=>∃ (c i:Nat),cv=.int .i64 c∧iv=.int .i64 i∧Hid (mQ s 2 (2 - i) i c=R)∧((i=1∧c<32)∨(i=2∧c<8388608))) (fun _ iv=>2 - (intOf iv).toNat)
  case atStart =>
   have hy:=HY.out;refine ⟨y,1,rfl,rfl,hid ?_,by omega⟩;rw [← HR.out];congr 1;omega
  case round =>
   obtain ⟨c,i,rfl,rfl,HC,Qe⟩:=hrel;clear T9 HY HR hs0
   by_cases hin:i<2
   ·obtain ⟨v,hv⟩:∃ v,s.get! i=v:=⟨_,rfl⟩
    have hi2:i<s.size:=by omega
    have hsi:s[i]'hi2=v:=by rw [← hv];exact get_at s i hi2
    have hvl:v.toNat<256:=v.toNat_lt;have hbad:=zM s 2 (2 - i - 1) i c hin;have hon:=Cn s 2 (2 - i - 1) i c hin;rw [hv,show 2 - i - 1+1=2 - i by omega] at hbad hon;have HB:=hid hbad;have HO:=hid hon;clear hbad hon hv
    by_cases q1:v.toNat<128
    ·have q1z:(v.toNat:Int)<128:=by omega
     have yI:Hid (R=none):=hid (HC.out.symm.trans (HB.out (.inl q1)))
     go_wp2
     go_ret2
     rw [yI.out]
     exact oK rfl rfl
    ·have q1z:¬ (v.toNat:Int)<128:=by omega
     by_cases q2:192≤v.toNat
     ·have q2z:(192:Int)≤(v.toNat:Int):=by omega
      have yI:Hid (R=none):=hid (HC.out.symm.trans (HB.out (.inr q2)))
      go_wp2
      go_ret2
      rw [yI.out]
      exact oK rfl rfl
     ·have q2z:¬ (192:Int)≤(v.toNat:Int):=by omega
      have hcn:Hid (mQ s 2 (2 - (i+1)) (i+1) (64*c+v.toNat - 128)=R):=hid (by rw [← HC.out,HO.out (by omega)];congr 1)
      go_wp2
      go_round
      case rel=>exact ⟨64*c+v.toNat - 128,i+1,by go_num,by go_num,hcn,by omega⟩
      case measure=>simp [intOf];omega
   ·have hfin:=xJ s 2 (2 - i) i c hin
    have yI:Hid (R=some c):=hid (HC.out.symm.trans hfin);clear hfin HC
    have hc8:c<8388608:=by omega
    clear Qe
    by_cases p1:c<128
    ·have p1z:(c:Int)<128:=by omega
     go_wp2
     go_ret2
     have kr:=kV 128 2 c (.inl p1);rw [← yI.out] at kr;rw [kr]
     exact oK rfl rfl
    ·have p1z:¬ (c:Int)<128:=by omega
     by_cases p2:1114111<c
     ·have p2z:(1114111:Int)<(c:Int):=by omega
      go_wp2
      go_ret2
      have kr:=kV 128 2 c (.inr (.inl p2));rw [← yI.out] at kr;rw [kr]
      exact oK rfl rfl
     ·have p2z:¬ (1114111:Int)<(c:Int):=by omega
      by_cases p3:55296≤c
      ·have p3z:(55296:Int)≤(c:Int):=by omega
       by_cases p4:c≤57343
       ·have p4z:(c:Int)≤57343:=by omega
        first
         | (exfalso;omega)
         | (go_wp2
            go_ret2
            have kr:=kV 128 2 c (.inr (.inr ⟨p3,p4⟩));rw [← yI.out] at kr;rw [kr]
            exact oK rfl rfl)
       ·have p4z:¬ (c:Int)≤57343:=by omega
        go_wp2
        go_ret2
        have kr:=qO 128 2 c p1 p2 (by omega);rw [← yI.out] at kr;rw [kr]
        exact oK rfl rfl
      ·have p3z:¬ (55296:Int)≤(c:Int):=by omega
       first
        | (exfalso;omega)
        | (go_wp2
           go_ret2
           have kr:=qO 128 2 c p1 p2 (by omega);rw [← yI.out] at kr;rw [kr]
           exact oK rfl rfl)
set_option maxRecDepth 100000 in
theorem Qf (s:ByteArray) (w:World) (h0:0<s.size) (hs:s.size≤1099511627776) (x:UInt8) (hx:s.get! 0=x) (ha:224≤x.toNat) (hb:x.toNat<240) :
  Calls Tryz.prog 106 #[.string s] w (KA (Br s 3 2048 (x.toNat - 224)) w):=by
 have hs0:s[0]'h0=x:=by rw [← hx];exact get_at s 0 h0
 have hxl:x.toNat<256:=x.toNat_lt
 have hz0:¬ (x.toNat:Int)<128:=by omega
 have hz1:(192:Int)≤(x.toNat:Int):=by omega
 have hz2:¬ (x.toNat:Int)<224:=by omega
 have hz3:(224:Int)≤(x.toNat:Int):=by omega
 have Ef:(x.toNat:Int)<240:=by omega
 clear hx
 unfold Br
 by_cases hn:s.size<3
 ·rw [ay hn]
  have hnz:(s.size:Int)<3:=by omega
  go_enter Tryz.func106,Tryz.ntmps106
  go_wp2
  go_ret2
  exact oK rfl rfl
 ·rw [ai hn]
  have hnz:¬ (s.size:Int)<3:=by omega
  obtain ⟨R,hR⟩:∃ R,mQ s 3 (3 - 1) 1 (x.toNat - 224)=R:=⟨_,rfl⟩;rw [hR];have HR:=hid hR;clear hR;obtain ⟨y,hy⟩:∃ y:Nat,x.toNat=y+224:=⟨x.toNat - 224,by omega⟩
  have T9:((x.toNat:Int) - 224)=(y:Int):=by omega
  have HY:Hid (x.toNat=y+224):=hid hy;clear hy
  go_enter Tryz.func106,Tryz.ntmps106
  go_wp2
  generalize hL:(2048:Int)=l;have HL:Hid (l=2048):=hid hL.symm;clear hL
  go_loop [4,7] (fun cv iv=>∃ (c i:Nat),cv=.int .i64 c∧iv=.int .i64 i∧Hid (mQ s 3 (3 - i) i c=R)∧((i=1∧c<16)∨(i=2∧c<2048)∨(i=3∧c<8388608))) (fun _ iv=>3 - (intOf iv).toNat)
  case atStart =>
   have hy:=HY.out;refine ⟨y,1,rfl,rfl,hid ?_,by omega⟩;rw [← HR.out];congr 1;omega
  case round =>
   obtain ⟨c,i,rfl,rfl,HC,Qe⟩:=hrel;clear T9 HY HR hs0
   by_cases hin:i<3
   ·obtain ⟨v,hv⟩:∃ v,s.get! i=v:=⟨_,rfl⟩
    have hi2:i<s.size:=by omega
    have hsi:s[i]'hi2=v:=by rw [← hv];exact get_at s i hi2
    have hvl:v.toNat<256:=v.toNat_lt;have hbad:=zM s 3 (3 - i - 1) i c hin;have hon:=Cn s 3 (3 - i - 1) i c hin;rw [hv,show 3 - i - 1+1=3 - i by omega] at hbad hon;have HB:=hid hbad;have HO:=hid hon;clear hbad hon hv
    by_cases q1:v.toNat<128
    ·have q1z:(v.toNat:Int)<128:=by omega
     have yI:Hid (R=none):=hid (HC.out.symm.trans (HB.out (.inl q1)))
     go_wp2
     go_ret2
     rw [yI.out]
     exact oK rfl rfl
    ·have q1z:¬ (v.toNat:Int)<128:=by omega
     by_cases q2:192≤v.toNat
     ·have q2z:(192:Int)≤(v.toNat:Int):=by omega
      have yI:Hid (R=none):=hid (HC.out.symm.trans (HB.out (.inr q2)))
      go_wp2
      go_ret2
      rw [yI.out]
      exact oK rfl rfl
     ·have q2z:¬ (192:Int)≤(v.toNat:Int):=by omega
      have hcn:Hid (mQ s 3 (3 - (i+1)) (i+1) (64*c+v.toNat - 128)=R):=hid (by rw [← HC.out,HO.out (by omega)];congr 1)
      go_wp2
      go_round
      case rel=>exact ⟨64*c+v.toNat - 128,i+1,by go_num,by go_num,hcn,by omega⟩
      case measure=>simp [intOf];omega
   ·have hfin:=xJ s 3 (3 - i) i c hin
    have yI:Hid (R=some c):=hid (HC.out.symm.trans hfin);clear hfin HC
    have hc8:c<8388608:=by omega
    clear Qe
    by_cases p1:c<2048
    ·have p1z:(c:Int)<l:=by rw [HL.out];omega
     go_wp2
     go_ret2
     have kr:=kV 2048 3 c (.inl p1);rw [← yI.out] at kr;rw [kr]
     exact oK rfl rfl
    ·have p1z:¬ (c:Int)<l:=by rw [HL.out];omega
     by_cases p2:1114111<c
     ·have p2z:(1114111:Int)<(c:Int):=by omega
      go_wp2
      go_ret2
      have kr:=kV 2048 3 c (.inr (.inl p2));rw [← yI.out] at kr;rw [kr]
      exact oK rfl rfl
     ·have p2z:¬ (1114111:Int)<(c:Int):=by omega
      by_cases p3:55296≤c
      ·have p3z:(55296:Int)≤(c:Int):=by omega
       by_cases p4:c≤57343
       ·have p4z:(c:Int)≤57343:=by omega
        first
         | (exfalso;omega)
         | (go_wp2
            go_ret2
            have kr:=kV 2048 3 c (.inr (.inr ⟨p3,p4⟩));rw [← yI.out] at kr;rw [kr]
            exact oK rfl rfl)
       ·have p4z:¬ (c:Int)≤57343:=by omega
        go_wp2
        go_ret2
        have kr:=qO 2048 3 c p1 p2 (by omega);rw [← yI.out] at kr;rw [kr]
        exact oK rfl rfl
      ·have p3z:¬ (55296:Int)≤(c:Int):=by omega
       first
        | (exfalso;omega)
        | (go_wp2
           go_ret2
           have kr:=qO 2048 3 c p1 p2 (by omega);rw [← yI.out] at kr;rw [kr]
           exact oK rfl rfl)
set_option maxRecDepth 100000 in
theorem Qg (s:ByteArray) (w:World) (h0:0<s.size) (hs:s.size≤1099511627776) (x:UInt8) (hx:s.get! 0=x) (ha:240≤x.toNat) (hb:x.toNat<248) :
  Calls Tryz.prog 106 #[.string s] w (KA (Br s 4 65536 (x.toNat - 240)) w):=by
 have hs0:s[0]'h0=x:=by rw [← hx];exact get_at s 0 h0
 have hxl:x.toNat<256:=x.toNat_lt
 have hz0:¬ (x.toNat:Int)<128:=by omega
 have hz1:(192:Int)≤(x.toNat:Int):=by omega
 have hz2:¬ (x.toNat:Int)<224:=by omega
 have hz3:(224:Int)≤(x.toNat:Int):=by omega
 have Ef:¬ (x.toNat:Int)<240:=by omega
 have Xu:(240:Int)≤(x.toNat:Int):=by omega
 have hz6:(x.toNat:Int)<248:=by omega
 clear hx
 unfold Br
 by_cases hn:s.size<4
 ·rw [ay hn]
  have hnz:(s.size:Int)<4:=by omega
  go_enter Tryz.func106,Tryz.ntmps106
  go_wp2
  go_ret2
  exact oK rfl rfl
 ·rw [ai hn]
  have hnz:¬ (s.size:Int)<4:=by omega
  obtain ⟨R,hR⟩:∃ R,mQ s 4 (4 - 1) 1 (x.toNat - 240)=R:=⟨_,rfl⟩;rw [hR];have HR:=hid hR;clear hR;obtain ⟨y,hy⟩:∃ y:Nat,x.toNat=y+240:=⟨x.toNat - 240,by omega⟩
  have T9:((x.toNat:Int) - 240)=(y:Int):=by omega
  have HY:Hid (x.toNat=y+240):=hid hy;clear hy
  go_enter Tryz.func106,Tryz.ntmps106
  go_wp2
  generalize hL:(65536:Int)=l;have HL:Hid (l=65536):=hid hL.symm;clear hL
  go_loop [4,7] (fun cv iv=>∃ (c i:Nat),cv=.int .i64 c∧iv=.int .i64 i∧Hid (mQ s 4 (4 - i) i c=R)∧((i=1∧c<8)∨(i=2∧c<1024)∨(i=3∧c<131072)∨(i=4∧c<8388608))) (fun _ iv=>4 - (intOf iv).toNat)
  case atStart =>
   have hy:=HY.out;refine ⟨y,1,rfl,rfl,hid ?_,by omega⟩;rw [← HR.out];congr 1;omega
  case round =>
   obtain ⟨c,i,rfl,rfl,HC,Qe⟩:=hrel;clear T9 HY HR hs0
   by_cases hin:i<4
   ·obtain ⟨v,hv⟩:∃ v,s.get! i=v:=⟨_,rfl⟩
    have hi2:i<s.size:=by omega
    have hsi:s[i]'hi2=v:=by rw [← hv];exact get_at s i hi2
    have hvl:v.toNat<256:=v.toNat_lt;have hbad:=zM s 4 (4 - i - 1) i c hin;have hon:=Cn s 4 (4 - i - 1) i c hin;rw [hv,show 4 - i - 1+1=4 - i by omega] at hbad hon;have HB:=hid hbad;have HO:=hid hon;clear hbad hon hv
    by_cases q1:v.toNat<128
    ·have q1z:(v.toNat:Int)<128:=by omega
     have yI:Hid (R=none):=hid (HC.out.symm.trans (HB.out (.inl q1)))
     go_wp2
     go_ret2
     rw [yI.out]
     exact oK rfl rfl
    ·have q1z:¬ (v.toNat:Int)<128:=by omega
     by_cases q2:192≤v.toNat
     ·have q2z:(192:Int)≤(v.toNat:Int):=by omega
      have yI:Hid (R=none):=hid (HC.out.symm.trans (HB.out (.inr q2)))
      go_wp2
      go_ret2
      rw [yI.out]
      exact oK rfl rfl
     ·have q2z:¬ (192:Int)≤(v.toNat:Int):=by omega
      have hcn:Hid (mQ s 4 (4 - (i+1)) (i+1) (64*c+v.toNat - 128)=R):=hid (by rw [← HC.out,HO.out (by omega)];congr 1)
      go_wp2
      go_round
      case rel=>exact ⟨64*c+v.toNat - 128,i+1,by go_num,by go_num,hcn,by omega⟩
      case measure=>simp [intOf];omega
   ·have hfin:=xJ s 4 (4 - i) i c hin
    have yI:Hid (R=some c):=hid (HC.out.symm.trans hfin);clear hfin HC
    have hc8:c<8388608:=by omega
    clear Qe
    by_cases p1:c<65536
    ·have p1z:(c:Int)<l:=by rw [HL.out];omega
     go_wp2
     go_ret2
     have kr:=kV 65536 4 c (.inl p1);rw [← yI.out] at kr;rw [kr]
     exact oK rfl rfl
    ·have p1z:¬ (c:Int)<l:=by rw [HL.out];omega
     by_cases p2:1114111<c
     ·have p2z:(1114111:Int)<(c:Int):=by omega
      go_wp2
      go_ret2
      have kr:=kV 65536 4 c (.inr (.inl p2));rw [← yI.out] at kr;rw [kr]
      exact oK rfl rfl
     ·have p2z:¬ (1114111:Int)<(c:Int):=by omega
      by_cases p3:55296≤c
      ·have p3z:(55296:Int)≤(c:Int):=by omega
       by_cases p4:c≤57343
       ·have p4z:(c:Int)≤57343:=by omega
        first
         | (exfalso;omega)
         | (go_wp2
            go_ret2
            have kr:=kV 65536 4 c (.inr (.inr ⟨p3,p4⟩));rw [← yI.out] at kr;rw [kr]
            exact oK rfl rfl)
       ·have p4z:¬ (c:Int)≤57343:=by omega
        go_wp2
        go_ret2
        have kr:=qO 65536 4 c p1 p2 (by omega);rw [← yI.out] at kr;rw [kr]
        exact oK rfl rfl
      ·have p3z:¬ (55296:Int)≤(c:Int):=by omega
       first
        | (exfalso;omega)
        | (go_wp2
           go_ret2
           have kr:=qO 65536 4 c p1 p2 (by omega);rw [← yI.out] at kr;rw [kr]
           exact oK rfl rfl)
theorem KD (s:ByteArray) (w:World) (h0:0<s.size) (hs:s.size≤1099511627776) :
  Calls Tryz.prog 106 #[.string s] w (KA (zL s) w):=by
 obtain ⟨x,hx⟩:∃ x,s.get! 0=x:=⟨_,rfl⟩;have r1:=adM s;have r0:=adN s;have r2:=adO s;have r3:=adP s;have r4:=adQ s;rw [hx] at r1 r0 r2 r3 r4
 by_cases q1:x.toNat<128
 ·rw [r1 q1];exact KC s w h0 hs x hx q1
 ·by_cases q2:192≤x.toNat∧x.toNat<224
  ·rw [r2 q2.1 q2.2];exact Qd s w h0 hs x hx q2.1 q2.2
  ·by_cases q3:224≤x.toNat∧x.toNat<240
   ·rw [r3 q3.1 q3.2];exact Qf s w h0 hs x hx q3.1 q3.2
   ·by_cases q4:240≤x.toNat∧x.toNat<248
    ·rw [r4 q4.1 q4.2];exact Qg s w h0 hs x hx q4.1 q4.2
    ·rw [r0 q1 q2 q3 q4];exact IJ s w h0 hs x hx (by omega)
end U
namespace U
open Go.Lib
def yJ:List (Nat × Nat)→Nat→List Nat
 | [],p=>[p]
 | x :: t,p=>p :: yJ t (p+x.2)
def Gf:List (Nat × Nat)→Nat→List Nat
 | [],a=>[a]
 | x :: t,a=>a :: Gf t (a+uw x.1)
theorem IK:∀ (l:List (Nat × Nat)) (p:Nat),(yJ l p).length=l.length+1
 | [],_=>rfl
 | x :: t,p=>by simp only [yJ,aH,IK t]
theorem Co:∀ (l:List (Nat × Nat)) (a:Nat),(Gf l a).length=l.length+1
 | [],_=>rfl
 | x :: t,a=>by simp only [Gf,aH,Co t]
theorem EH:∀ (l:List (Nat × Nat)) (p:Nat) (y:Nat × Nat),yJ (l++[y]) p=yJ l p++[p+mg l+y.2]
 | [],p,y=>by simp [yJ,mg]
 | x :: t,p,y=>by
  simp only [bH,yJ,mg,EH t];rw [Nat.add_assoc p x.2 (mg t)]
theorem IL:∀ (l:List (Nat × Nat)) (a:Nat) (y:Nat × Nat),Gf (l++[y]) a=Gf l a++[a+xD l+uw y.1]
 | [],a,y=>by simp [Gf,xD]
 | x :: t,a,y=>by
  simp only [bH,Gf,xD,IL t];rw [Nat.add_assoc a (uw x.1) (xD t)]
theorem IM:∀ (l:List (Nat × Nat)) (a:Nat),(Gf l a).getD l.length 0=a+xD l
 | [],a=>by simp [Gf,xD]
 | x :: t,a=>by
  simp only [Gf,xD,aH,List.getD_cons_succ,IM t]
  omega
theorem length_le:∀ l:List (Nat × Nat),P7 l→l.length≤mg l
 | [],_=>ae _
 | x :: t,h=>by
  have h1:=h x (by simp);have h2:=length_le t (fun y hy=>h y (by simp [hy]));simp only [aH,mg];omega
theorem Mx (s:ByteArray) (pos:Nat):zL (s.extract pos s.size)=if (Utf8.decode s pos).1=65533∧(Utf8.decode s pos).2=1 then (0,0) else Utf8.decode s pos:=by
 have h:=tail_decode s pos 0;rw [bS] at h
 unfold zL
 rw [h]
theorem Ua (s:ByteArray) (f pos:Nat) (h:pos<s.size) (hb:(Utf8.decode s pos).1=65533∧(Utf8.decode s pos).2=1):zH (iL s (f+1) pos)=false:=by
 rw [fM s f pos h];simp only [zH];rw [ay hb]
theorem Xv (s:ByteArray) (f pos:Nat) (h:pos<s.size) (hb:¬ ((Utf8.decode s pos).1=65533∧(Utf8.decode s pos).2=1)):zH (iL s (f+1) pos)=zH (iL s f (pos+(Utf8.decode s pos).2)):=by
 rw [fM s f pos h];simp only [zH];rw [ai hb]
theorem Qh (s:ByteArray) (f pos:Nat) (h:¬ pos<s.size):zH (iL s f pos)=true:=by rw [gZ s f pos h];rfl
def Split (s:ByteArray) (l:List (Nat × Nat)) (f pos:Nat):Prop:=items s=l++iL s f pos∧mg l=pos∧s.size - pos≤f∧pos≤s.size
theorem KE (s:ByteArray):Split s [] s.size 0:=⟨rfl,rfl,by omega,by omega⟩
theorem KF {s:ByteArray} {l:List (Nat × Nat)} {f pos:Nat} (h:Split s l (f+1) pos) (hp:pos<s.size):Split s (l++[Utf8.decode s pos]) f (pos+(Utf8.decode s pos).2):=by
 obtain ⟨h1,h2,h3,h4⟩:=h;have hw:=width_pos s pos hp
 refine ⟨?_,?_,by omega,width_le s pos hp⟩
 ·rw [h1,fM s f pos hp];simp
 ·rw [rW,h2];rfl
theorem KG {s:ByteArray} {l:List (Nat × Nat)} {f pos:Nat} (h:Split s l f pos) (hp:¬ pos<s.size):l=items s:=by
 obtain ⟨h1,h2,h3,h4⟩:=h;rw [h1,gZ s f pos hp,eB]
end U
namespace U
open Go.RowKit
open Go.Lib hiding intOf
def I (n:Nat):Value:=.int .i64 n
def Row (w:World) (g:Nat) (l:List Nat):Prop:=∀ i,i<l.length→w.cell? ⟨g,i,none⟩=some (.int .i64 (l.getD i 0:Nat))
def oM (s:ByteArray) (w:World) (e:Ending) (w':World):Prop :=
 if okB s=true then ∃ g1 c1 g2 c2,e=.returned (.tuple #[.slice (some ⟨g1,0,none⟩) ((items s).length+1) c1,.slice (some ⟨g2,0,none⟩) ((items s).length+1) c2,.bool true]) ∧
  Row w' g1 (yJ (items s) 0)∧Row w' g2 (Gf (items s) 0)∧Below w.heap.size w w'∧g1<w'.heap.size∧g2<w'.heap.size
 else e=.returned (.tuple #[.slice none 0 0,.slice none 0 0,.bool false])∧Below w.heap.size w w'
theorem AL {w:World} {B g c n:Nat} {l:List Nat} (h:w.ownsRow B 3 1 (.slice (some ⟨g,0,none⟩) n c) n (l.map I)):Row w g l∧g<w.heap.size:=by
 have hl:l.length=n:=by have:=h.1;simpa using this
 refine ⟨fun i hi=>?_,(h.lt g rfl).2⟩;rw [h.cellAt i (by omega),dL,aC hi]
 simp [I,hi]
theorem shape {w:World} {B n:Nat} {v:Value} {xs:List Value} (h:w.ownsRow B 3 1 v (n+1) xs):∃ g c,v=.slice (some ⟨g,0,none⟩) (n+1) c:=by
 rcases h.2 with ⟨_,h0⟩|⟨g,cap,cur,hv,_⟩
 ·omega
 ·exact ⟨g,cap,hv⟩
theorem KH {s:ByteArray} {w w':World} {l:List (Nat × Nat)} {g1 c1 g2 c2 B:Nat} (hok:okB s=true) (hl:l=items s)
  (h1:w'.ownsRow B 3 1 (.slice (some ⟨g1,0,none⟩) (l.length+1) c1) (l.length+1) ((yJ l 0).map I)) (h2:w'.ownsRow B 3 1 (.slice (some ⟨g2,0,none⟩) (l.length+1) c2) (l.length+1) ((Gf l 0).map I))
  (hb:Below w.heap.size w w'):oM s w (.returned (.tuple #[.slice (some ⟨g1,0,none⟩) (l.length+1) c1,.slice (some ⟨g2,0,none⟩) (l.length+1) c2,.bool true])) w':=by
 subst hl
 unfold oM
 rw [ay hok];obtain ⟨r1,s1⟩:=AL h1;obtain ⟨r2,s2⟩:=AL h2
 exact ⟨g1,c1,g2,c2,rfl,r1,r2,hb,s1,s2⟩
theorem KI {s:ByteArray} {w w':World} (hok:okB s=false) (hb:Below w.heap.size w w'):oM s w (.returned (.tuple #[.slice none 0 0,.slice none 0 0,.bool false])) w':=by
 unfold oM
 rw [ai (by rw [hok];simp)]
 exact ⟨rfl,hb⟩
theorem EI (s:ByteArray) (w:World) (a b:Nat) (h0:0<s.size) (hs:s.size≤1099511627776) (h:zL s=(a,b)) :
  Calls Tryz.prog 106 #[.string s] w fun e w'=>e=.returned (.tuple #[.int .i64 a,.int .i64 b])∧w=w' :=
 (KD s w h0 hs).mono fun e w' ⟨he,hw⟩=>by rw [h] at he;exact ⟨he,hw⟩
def Two (w0:World) (B:Nat) (s:ByteArray) (bv uv av:Value) (wr:World):Prop :=
 ∃ (l:List (Nat × Nat)) (f pos g1 c1 g2 c2:Nat),av=.int .i64 pos∧bv=.slice (some ⟨g1,0,none⟩) (l.length+1) c1∧uv=.slice (some ⟨g2,0,none⟩) (l.length+1) c2 ∧
  Split s l f pos∧zH (iL s f pos)=okB s ∧
  wr.ownsRow B 3 1 (.slice (some ⟨g1,0,none⟩) (l.length+1) c1) (l.length+1) ((yJ l 0).map I)∧wr.ownsRow B 3 1 (.slice (some ⟨g2,0,none⟩) (l.length+1) c2) (l.length+1) ((Gf l 0).map I) ∧
  g1≠g2∧Below B w0 wr
theorem start (w:World) (s:ByteArray) (e:TypeId) (he:e=3):Two w w.heap.size s (.slice (some ⟨w.heap.size,0,none⟩) 1 1) (.slice (some ⟨w.heap.size+1,0,none⟩) 1 1) (.int .i64 0)
  ((w.alloc (.cells #[.int .i64 0] e)).alloc (.cells #[.int .i64 0] e)):=by
 subst he;have h1:=World.ownsRow_lit (base:=w.heap.size) (e:=3) (size:=1) w #[.int .i64 0] 1 (ae _) (by decide) rfl;have h2:=World.ownsRow_lit (base:=w.heap.size) (e:=3) (size:=1) (w.alloc (.cells #[.int .i64 0] 3)) #[.int .i64 0] 1 (by rw [aX];omega) (by decide) rfl;rw [aX] at h2
 exact ⟨[],s.size,0,w.heap.size,1,w.heap.size+1,1,rfl,rfl,rfl,KE s,rfl,h1.alloc _,h2,by omega,((aj _ _).alloc (ae _) _).alloc (by rw [aX];omega) _⟩
theorem aal:(Tryz.prog.info? 3).map (fun i=>(i.zero,i.size,i.bytes))=some (some (.int .i64 0),1,8):=by kernel_rfl
theorem IP {w0 wr w1 w2:World} {s:ByteArray} {l:List (Nat × Nat)} {f pos m g1 c1 g2 c2 u:Nat} {v1 v2:Value} {o1 o2:Obj} {x y:Int}
  (hS:Split s l f pos) (hA:zH (iL s f pos)=okB s) (hm:l.length=m) (hp:pos<s.size) (hgood:¬ ((Utf8.decode s pos).1=65533∧(Utf8.decode s pos).2=1)) (hu:uw (Utf8.decode s pos).1=u)
  (hx:x=((pos+(Utf8.decode s pos).2:Nat):Int)) (hy:y=((xD l+u:Nat):Int))
  (h1:wr.ownsRow w0.heap.size 3 1 (.slice (some ⟨g1,0,none⟩) (m+1) c1) (m+1) ((yJ l 0).map I)) (h2:wr.ownsRow w0.heap.size 3 1 (.slice (some ⟨g2,0,none⟩) (m+1) c2) (m+1) ((Gf l 0).map I))
  (hne:g1≠g2) (hb:Below w0.heap.size w0 wr)
  (hv1:w1.ownsRow w0.heap.size 3 1 v1 (m+1+1) ((yJ l 0).map I++[.int .i64 x])) (hg1:(wr.alloc o1).grownBy w1 (some g1)) (Ny:v1.ownBlock=some g1∨v1.ownBlock=some (wr.alloc o1).heap.size)
  (hv2:w2.ownsRow w0.heap.size 3 1 v2 (m+1+1) ((Gf l 0).map I++[.int .i64 y])) (hg2:(w1.alloc o2).grownBy w2 (some g2)) (El:v2.ownBlock=some g2∨v2.ownBlock=some (w1.alloc o2).heap.size) :
  Two w0 w0.heap.size s v1 v2 (.int .i64 x) w2:=by
 obtain ⟨k,rfl⟩:∃ k,f=k+1:=⟨f - 1,by have:=hS.2.2.1;omega⟩;have hlt1:=h1.lt g1 rfl;have hlt2:=h2.lt g2 rfl;have hsz1:=hg1.size;have hsz2:=hg2.size;rw [aX] at hsz1 hsz2 Ny El;have hsum:mg l=pos:=hS.2.1
 have e1:(yJ l 0).map I++[.int .i64 x]=(yJ (l++[Utf8.decode s pos]) 0).map I:=by
  rw [EH,hsum,hx];simp [I]
 have e2:(Gf l 0).map I++[.int .i64 y]=(Gf (l++[Utf8.decode s pos]) 0).map I:=by
  rw [IL,hu,hy];simp [I]
 rw [e1] at hv1;rw [e2] at hv2
 have hlen:(l++[Utf8.decode s pos]).length=m+1:=by simp [hm]
 obtain ⟨g1',c1',rfl⟩:=shape hv1;obtain ⟨g2',c2',rfl⟩:=shape hv2;have hl1:=hv1.lt g1' rfl;have hl2:=hv2.lt g2' rfl;simp only [Value.ownBlock,bW] at Ny El;have hk1:=(hv1.alloc o2).kept hg2 (.inr (by simp only [Value.ownBlock,ne_eq,bW];omega))
 refine ⟨l++[Utf8.decode s pos],k,pos+(Utf8.decode s pos).2,g1',c1',g2',c2',by rw [hx],by rw [hlen],by rw [hlen],KF hS hp,?_,?_,?_,by omega,?_⟩
 ·rw [← hA,Xv s k pos hp hgood]
 ·rw [hlen];exact hk1
 ·rw [hlen];exact hv2
 ·exact (((hb.alloc hb.size o1).grown hg1 (by rw [aX];have:=hb.size;omega) (fun j hj=>by cases hj;omega)).alloc (by have:=hb.size;omega) o2).grown hg2 (by rw [aX];have:=hb.size;omega) (fun j hj=>by cases hj;omega)
theorem Cq {w w1:World} {o:Obj} {B g1 c1 g2 c2 n k:Nat} {xs:List Value} (h:w.ownsRow B 3 1 (.slice (some ⟨g2,0,none⟩) n c2) n xs) (hne:g1≠g2) (hg:(w.alloc o).grownBy w1 (Value.slice (some ⟨g1,0,none⟩) k c1).ownBlock) :
  w1.ownsRow B 3 1 (.slice (some ⟨g2,0,none⟩) n c2) n xs:=(h.alloc o).kept hg (.inr (by simp only [Value.ownBlock,ne_eq,bW];omega))
theorem zN {w:World} {B g c m:Nat} {l:List (Nat × Nat)} (hm:l.length=m) (h:w.ownsRow B 3 1 (.slice (some ⟨g,0,none⟩) (m+1) c) (m+1) ((Gf l 0).map I)):w.cell? ⟨g,m,none⟩=some (.int .i64 (xD l:Nat)):=by
 have hl:=IM l 0;rw [h.cellAt m (by omega),dL];rw [hm,bz,List.getD_eq_getElem?_getD] at hl
 have hlt:m<(Gf l 0).length:=by rw [Co];omega
 rw [aC hlt] at hl ⊢;simp only [Option.getD_some] at hl;rw [hl];rfl
set_option maxRecDepth 100000 in
theorem KJ (s:ByteArray) (w:World) (hs:s.size≤1048576) :
  Calls Tryz.prog 79 #[.string s] w (oM s w):=by
 have HST:=hid (start w s 3 rfl);obtain ⟨i0,hi,hz0,hz1,hz2⟩:=fF aal
 go_enter Tryz.func79,Tryz.ntmps79
 go_wp2
 go_loopw [5,6,7] (fun bv uv av wr=>Two w w.heap.size s bv uv av wr) (fun _ _ av _=>s.size - (intOf av).toNat)
 case atStart=>exact HST.out
 case round =>
  clear HST;obtain ⟨l,f,pos,g1,c1,g2,c2,rfl,rfl,rfl,hS,hA,h1,h2,hne,hb⟩:=hrel;obtain ⟨m,hm⟩:∃ m,l.length=m:=⟨_,rfl⟩;rw [hm] at h1 h2 ⊢;have HS:=hid hS;have HA:=hid hA;have hpos:pos≤s.size:=hS.2.2.2
  have hlen:m≤1048576:=by
   have h3:=uZ s s.size 0;have h4:=hS.1;have h5:=hS.2.1
   have hW:P7 l:=fun y hy=>h3 y (by show y∈items s;rw [h4];simp [hy])
   have:=length_le l hW
   omega
  have hsu:xD l≤2097152:=by
   have h3:=uZ s s.size 0;have h4:=hS.1;have h5:=hS.2.1
   have hW:P7 l:=fun y hy=>h3 y (by show y∈items s;rw [h4];simp [hy])
   have:=Mq l hW
   omega
  have hlast:=zN (w:=wr) hm h2;have HM:=hid hm;clear hS hA hm
  by_cases hp:pos<s.size
  ·by_cases hbad:(Utf8.decode s pos).1=65533∧(Utf8.decode s pos).2=1
   ·have hsc:zL (s.extract pos s.size)=(0,0):=by rw [Mx,ay hbad]
    have cS:=EI (s.extract pos s.size) wr 0 0 (by rw [ext_size];omega) (by rw [ext_size];omega) hsc
    have hok:Hid (okB s=false):=hid (by
     obtain ⟨k,rfl⟩:∃ k,f=k+1:=⟨f - 1,by have:=HS.out.2.2.1;omega⟩
     rw [← HA.out];exact Ua s k pos hp hbad)
    clear hbad hsc
    go_wp2_with (go_at_call 106;refine cS.mono ?_;rintro e w1 ⟨rfl,rfl⟩)
    go_ret3
    exact KI hok.out hb
   ·obtain ⟨d,hd⟩:∃ d,Utf8.decode s pos=d:=⟨_,rfl⟩
    have hsc:zL (s.extract pos s.size)=(d.1,d.2):=by rw [Mx,ai hbad,hd]
    have hw1:=width_pos s pos hp;have hw2:=width_le s pos hp;have hr:=rune_le s pos;have HG:=hid hbad;have HD:=hid hd;rw [hd] at hw1 hw2 hr;obtain ⟨r,wd⟩:=d;simp only at hw1 hw2 hr hsc;have cS:=EI (s.extract pos s.size) wr r wd (by rw [ext_size];omega) (by rw [ext_size];omega) hsc;obtain ⟨S,hSe⟩:∃ S,xD l=S:=⟨_,rfl⟩;have HSe:=hid hSe;rw [hSe] at hlast hsu;clear hbad hsc hd hSe;clear hlast
    have hn0:((wd:Int)==0)=false:=by simp;omega
    by_cases h65:65536≤r
    ·have adS:(65536:Int)≤(r:Int):=by omega
     have hu:Hid (uw (Utf8.decode s pos).1=2):=hid (by rw [HD.out];unfold uw;rw [ay (by simp only;omega)])
     go_wp2_with (first
      | (go_at_call 106;refine cS.mono ?_;rintro e w1 ⟨rfl,rfl⟩)
      | (at_builtin;refine dG _ rfl (.tmp 31) (.tmp 33) 113 rfl w.heap.size 3 i0 (.int .i64 0) 1 8 Tryz.underlying113 hi hz0 hz1 hz2 rfl (by decide) _ _ _ rfl (h1.alloc _) ⟨wr.heap.size,0,none⟩ 1 1 [.int .i64 ((pos:Int)+(wd:Int))] rfl rfl (cell_one_new _ _ _) (by intro u hu;simp at hu;subst hu;rfl) (by unfold maxLen;omega) (by omega) (by have:=hb.size;simp;omega) ?_;intro v1 w1 hv1 hg1 _ Ny;have hk:=Cq h2 hne hg1;have KL:=zN HM.out hk;rw [HSe.out] at KL)
      | (at_builtin;refine dG _ rfl (.tmp 35) (.tmp 44) 113 rfl w.heap.size 3 i0 (.int .i64 0) 1 8 Tryz.underlying113 hi hz0 hz1 hz2 rfl (by decide) _ _ _ rfl (hk.alloc _) ⟨w1.heap.size,0,none⟩ 1 1 [.int .i64 ((S:Int)+2)] rfl rfl (cell_one_new _ _ _) (by intro u hu;simp at hu;subst hu;rfl) (by unfold maxLen;omega) (by omega) (by have:=hb.size;have:=hg1.size;simp at this ⊢;omega) ?_;intro v2 w2 hv2 hg2 _ El))
     go_roundw
     case rel=>exact IP HS.out HA.out HM.out hp HG.out hu.out (by rw [HD.out];omega) (by rw [HSe.out];omega) h1 h2 hne hb hv1 hg1 Ny hv2 hg2 El
     case measure=>simp [intOf];omega
    ·have adS:decide ((65536:Int)≤(r:Int))=false:=di (by omega)
     have hu:Hid (uw (Utf8.decode s pos).1=1):=hid (by rw [HD.out];unfold uw;rw [ai (by simp only;omega)]);clear h65
     go_wp2_with (first
      | (go_at_call 106;refine cS.mono ?_;rintro e w1 ⟨rfl,rfl⟩)
      | (at_builtin;refine dG _ rfl (.tmp 31) (.tmp 33) 113 rfl w.heap.size 3 i0 (.int .i64 0) 1 8 Tryz.underlying113 hi hz0 hz1 hz2 rfl (by decide) _ _ _ rfl (h1.alloc _) ⟨wr.heap.size,0,none⟩ 1 1 [.int .i64 ((pos:Int)+(wd:Int))] rfl rfl (cell_one_new _ _ _) (by intro u hu;simp at hu;subst hu;rfl) (by unfold maxLen;omega) (by omega) (by have:=hb.size;simp;omega) ?_;intro v1 w1 hv1 hg1 _ Ny;have hk:=Cq h2 hne hg1;have KL:=zN HM.out hk;rw [HSe.out] at KL)
      | (at_builtin;refine dG _ rfl (.tmp 35) (.tmp 44) 113 rfl w.heap.size 3 i0 (.int .i64 0) 1 8 Tryz.underlying113 hi hz0 hz1 hz2 rfl (by decide) _ _ _ rfl (hk.alloc _) ⟨w1.heap.size,0,none⟩ 1 1 [.int .i64 ((S:Int)+1)] rfl rfl (cell_one_new _ _ _) (by intro u hu;simp at hu;subst hu;rfl) (by unfold maxLen;omega) (by omega) (by have:=hb.size;have:=hg1.size;simp at this ⊢;omega) ?_;intro v2 w2 hv2 hg2 _ El))
     go_roundw
     case rel=>exact IP HS.out HA.out HM.out hp HG.out hu.out (by rw [HD.out];omega) (by rw [HSe.out];omega) h1 h2 hne hb hv1 hg1 Ny hv2 hg2 El
     case measure=>simp [intOf];omega
  ·have hok:Hid (okB s=true):=hid (by rw [← HA.out];exact Qh s f pos hp)
   go_wp2
   go_ret3
   rw [← HM.out] at h1 h2 ⊢
   exact KH hok.out (KG HS.out hp) h1 h2 hb
theorem Em (s:ByteArray) (w:World) (hs:s.size≤1048576) :
  Calls Tryz.prog 55 #[.string s] w fun e w'=>e=.returned (.bool (okB s))∧Below w.heap.size w w':=by
 have cP:=KJ s w hs
 unfold oM at cP
 cases hok:okB s
 ·rw [hok] at cP
  simp only [Bool.false_eq_true,if_false] at cP
  go_enter Tryz.func55,Tryz.ntmps55
  go_wp2_with (go_at_call 79;refine cP.mono ?_;rintro e w1 ⟨rfl,hb⟩)
  go_ret
  exact ⟨rfl,hb⟩
 ·rw [hok] at cP
  simp only [if_true] at cP
  go_enter Tryz.func55,Tryz.ntmps55
  go_wp2_with (go_at_call 79;refine cP.mono ?_;rintro e w1 ⟨g1,k1,g2,k2,rfl,_,_,hb,_,_⟩)
  go_ret
  exact ⟨rfl,hb⟩
theorem EJ (s:ByteArray) (w:World) (hs:s.size≤1000000) :
  Calls Tryz.prog 55 #[.string s] w fun e w'=>e=.returned (.bool (okB s))∧Below w.heap.size w w':=Em s w (by omega)
end U
namespace S
open Go.RowKit
open Go.Lib hiding intOf
open U L
theorem xK (s:ByteArray) {i:Nat} (h:i<s.size):s.toList[i]?=some s[i]:=by
 have:=fT s h;rw [← List.head?_drop,this];rfl
theorem Qi (s:ByteArray) {i:Nat} {c:UInt8} (h:s.toList[i]?=some c):i<s.size∧s.get! i=c:=by
 have hi:i<s.size:=by rw [← dR];exact (aN.1 h).1
 refine ⟨hi,?_⟩;rw [xK s hi] at h;rw [Utf8W.get!_of_lt s i hi]
 exact aY h
theorem yK {s:ByteArray} {i:Nat} {c:UInt8} (hok:okB s=true) (h:s.toList[i]?=some c) (hc:c.toNat<128):Kj s i∧Kj s (i+1):=by
 obtain ⟨h1,h2⟩:=Qi s h
 exact T8 hok h1 (by rw [h2];exact hc)
theorem My (s:ByteArray):(⟨s.toList.toArray⟩:ByteArray)=s:=by
 rw [bu]
theorem Gg (s:ByteArray):wid s.toList=(Utf8.decode s 0).2:=by unfold wid;rw [My]
theorem AM (s:ByteArray) (h:0<s.size):∃ l,items s=Utf8.decode s 0 :: l:=by
 unfold items
 obtain ⟨n,hn⟩:∃ n,s.size=n+1:=⟨s.size - 1,by omega⟩;rw [hn,fM s n 0 h]
 exact ⟨_,rfl⟩
theorem MB {s:ByteArray} (h:0<s.size):Kj s (wid s.toList):=by
 obtain ⟨l,hl⟩:=AM s h
 exact ⟨[Utf8.decode s 0],l,hl,by rw [Gg];simp [mg]⟩
theorem Ub {s:ByteArray} (h:0<s.size) {a:Nat} (hb:Kj s a) (ha:0<a):wid s.toList≤a:=by
 obtain ⟨l,hl⟩:=AM s h;obtain ⟨l1,l2,h1,h2⟩:=hb;rw [hl] at h1
 cases l1 with
 | nil=>simp [mg] at h2;omega
 | cons x y =>
  simp only [bH,List.cons.injEq] at h1;rw [← h2,Gg,h1.1]
  simp [mg]
theorem Gh {c:UInt8} (h:rR c=true):c.toNat<128:=by
 unfold rR mh kE at h
 simp [gQ] at h
 rcases h with ((h|h)|h)|h
 ·omega
 ·omega
 ·subst h;decide
 ·omega
theorem MC {p:UInt8→Bool} {r:By} {i:Nat} (h:i<(r.takeWhile p).length):∃ c,r[i]?=some c∧p c=true:=by
 obtain ⟨c,hc⟩:∃ c,(r.takeWhile p)[i]?=some c:=⟨_,aC h⟩
 refine ⟨c,?_,?_⟩
 ·rw [← Ms p r,List.getElem?_take_of_lt h] at hc
  exact hc
 ·have hm:c∈r.takeWhile p:=List.mem_of_getElem? hc
  have:=List.all_takeWhile (p:=p) (l:=r)
  exact (List.all_eq_true.1 this) c hm
theorem yL:∀ (r:By) (n:Nat),iG r=some n→r[n - 1]?=some 34
 | [],n,h=>by simp [iG] at h
 | c :: r,n,h=>by
  simp only [iG] at h
  split at h
  ·cases h
  ·split at h
   ·rename_i xI
    cases h;simp [xI]
   ·cases hq:iG r with
    | none=>rw [hq] at h;cases h
    | some m =>
     rw [hq] at h;simp only [Option.map_some,bW] at h;subst h;have h1:=yL r m hq;have h2:=(uf r m hq).1;obtain ⟨k,rfl⟩:∃ k,m=k+1:=⟨m - 1,by omega⟩
     simpa using h1
theorem Qj {s:ByteArray} (hok:okB s=true) (h:0<s.size):Kj s (eX true s.toList).2:=by
 have hl:=fT s h;rw [bM] at hl
 have key:∀ k c,1≤k→s.toList[k - 1]?=some c→c.toNat<128→Kj s k:=fun k c hk h1 h2=>by
  have:=(yK hok h1 h2).2;rwa [show k - 1+1=k by omega] at this
 unfold eX
 generalize s.toList.drop (0+1)=r at hl;generalize s[0]=z at hl
 split
 ·rename_i h1
  simp only;rw [hl] at h1 ⊢;simp only [gW] at h1 ⊢
  split at h1
  ·rename_i hz
   rw [ay hz]
   cases hm:(r.takeWhile rR).length with
   | zero=>exact key 1 z (ae _) (by rw [hl];rfl) (Gh (by unfold rR;simp [hz]))
   | succ m =>
    obtain ⟨c,h3,h4⟩:=MC (p:=rR) (r:=r) (i:=m) (by omega)
    exact key (1+(m+1)) c (by omega) (by rw [hl,show 1+(m+1) - 1=m+1 by omega];simpa using h3) (Gh h4)
  ·omega
 ·split
  ·rename_i h1
   simp only;obtain ⟨m,hm⟩:∃ m,nA s.toList=m+1:=⟨nA s.toList - 1,by omega⟩;obtain ⟨c,h3,h4⟩:=MC (p:=kE) (r:=s.toList) (i:=m) (by unfold nA at hm;omega);rw [hm]
   exact key (m+1) c (by omega) (by rw [show m+1 - 1=m by omega];exact h3) (Gh (by unfold rR;simp [h4]))
  ·split
   ·rename_i h1
    simp only;rw [hl] at h1 ⊢;simp only [gI] at h1 ⊢
    split at h1
    ·rename_i hz
     rw [ay hz]
     cases hq:iG r with
     | none=>rw [hq] at h1;simp at h1
     | some n =>
      simp only;have h3:=yL r n hq;have h4:=(uf r n hq).1;obtain ⟨k,rfl⟩:∃ k,n=k+1:=⟨n - 1,by omega⟩
      exact key (k+1+1) 34 (by omega) (by rw [hl];simpa using h3) (by decide)
    ·omega
   ·split
    ·rename_i h1
     simp only;rw [hl] at h1
     simp at h1
     exact key 1 z (ae _) (by rw [hl];rfl) (by rw [h1];decide)
    ·simp only
     unfold fV
     split
     ·rename_i h2
      rw [hl] at h2
      match r,h2,hl with
      | b :: u,h2,hl =>
       refine key 2 b (by omega) (by rw [hl];rfl) ?_
       simp [two] at h2
       rcases h2 with (((((⟨_,h⟩|⟨_,h⟩)|⟨_,h⟩)|⟨_,h⟩)|⟨_,h⟩)|⟨_,h⟩)|⟨_,h⟩ <;> (rw [h];decide)
     ·rw [ay rfl]
      exact MB h
theorem Xw {s:ByteArray} {m:Nat} (hok:okB s=true) (h:Kj s m):okB (s.extract m s.size)=true:=(Qc hok h).2.1
def xL (s:ByteArray) (n:Nat):Prop:=(1≤n∧n≤s.size∧okB (s.extract 0 n)=true∧∀ j,1≤j→j<n→okB (s.extract 0 j)=false)∨(n=1∧∀ j,1≤j→j≤4→j≤s.size→okB (s.extract 0 j)=false)
theorem Xx (c:UInt8) (h:c.toNat<128) (s:ByteArray) (hs:s.toList=[c]):okB s=true:=by
 have hz:s.size=1:=by rw [← dR,hs];rfl
 have hd:Utf8.decode s 0=(c.toNat,1):=by
  have hg:s.get! 0=c:=(Qi s (i:=0) (c:=c) (by rw [hs];rfl)).2;rw [ig,hg,vF _ _ _ _ _ h]
 unfold okB items
 rw [hz,fM s 0 0 (by omega),hd,gZ s 0 _ (by simp [hz])];simp only [zH];rw [ai (by omega)]
theorem xL.low {s:ByteArray} {n:Nat} (h:xL s n) (h0:0<s.size) (hc:s[0].toNat<128):n=1:=by
 have h1:okB (s.extract 0 1)=true:=Xx s[0] hc _ (by
  rw [sQ];have:=fT s h0;rw [bM] at this
  rw [this];rfl)
 rcases h with ⟨h2,_,_,h4⟩|⟨h2,_⟩
 ·by_cases hn:n=1
  ·exact hn
  ·rw [h4 1 (ae _) (by omega)] at h1;cases h1
 ·exact h2
theorem xL.right {s:ByteArray} {n:Nat} (h:xL s n) (h0:0<s.size) (hok:okB s=true):n=wid s.toList:=by
 have hw:=MB h0;have hwb:=xF (l:=s.toList) (by intro e;have:=dR s;rw [e] at this;simp at this;omega);rw [dR] at hwb
 have hw4:wid s.toList≤4:=by rw [Gg,ig];exact yG _ _ _ _ _
 have hwo:=(Gc hok hwb.2).1 hw
 rcases h with ⟨h1,h2,h3,h4⟩|⟨h1,h2⟩
 ·have hb:=(Gc hok h2).2 h3
  have hle:=Ub h0 hb (by omega)
  by_cases e:wid s.toList<n
  ·rw [h4 _ hwb.1 e] at hwo;cases hwo
  ·omega
 ·rw [h2 _ hwb.1 hw4 hwb.2] at hwo;cases hwo
theorem KM (s:ByteArray) (h:2≤s.size):∃ t:By,(s.extract 0 2).toList=t∧(two s.toList=((t==[58,61])||(t==[61,61])||(t==[33,61])||(t==[60,61])||(t==[62,61])||(t==[38,38])||(t==[124,124]))):=by
 refine ⟨_,rfl,?_⟩;rw [sQ];have hl:=dR s
 match hh:s.toList with
 | []=>rw [hh] at hl;simp at hl;omega
 | [a]=>rw [hh] at hl;simp at hl;omega
 | a :: b :: r =>
  simp only [List.take_succ_cons,List.take_zero,two]
  have e:∀ x y:UInt8,([a,b]==[x,y])=(a==x&&b==y):=fun x y=>by
   show (a==x&&(b==y&&true))=_
   rw [Bool.and_true]
  simp only [e]
theorem Nz (s:ByteArray) (h:s.size<2):two s.toList=false:=by
 have hl:=dR s
 match hh:s.toList with
 | []=>rfl
 | [a]=>rfl
 | a :: b :: r=>rw [hh] at hl;simp at hl;omega
def Qk (s:ByteArray) (n:Nat):Prop:=(two s.toList=true∧n=2)∨(two s.toList=false∧xL s n)
theorem KN (s:ByteArray) (w:World) (hs:s.size≤1000000) (ht:two s.toList=false) (h0:0<s.size) :
  Calls Tryz.prog 84 #[.string s] w fun e w'=>∃ n:Nat,e=.returned (.int .i64 n)∧xL s n∧Below w.heap.size w w':=by
 have CR:=hid (fun (n:Nat) (hn:n≤s.size) W=>EJ (s.extract 0 n) W (by rw [size_extract s 0 n (by omega) hn];omega));have HB0:=hid (aj w.heap.size w)
 have hor:(∃ _:2≤s.size,((s.extract 0 2).toList==[58,61])=false∧((s.extract 0 2).toList==[61,61])=false∧((s.extract 0 2).toList==[33,61])=false∧((s.extract 0 2).toList==[60,61])=false∧((s.extract 0 2).toList==[62,61])=false∧((s.extract 0 2).toList==[38,38])=false∧((s.extract 0 2).toList==[124,124])=false)∨s.size<2:=by
  by_cases h2:2≤s.size
  ·left
   obtain ⟨t,h1,h3⟩:=KM s h2;rw [ht] at h3;simp only [Bool.false_eq,Bool.or_eq_false_iff] at h3;obtain ⟨⟨⟨⟨⟨⟨t1,t2⟩,t3⟩,t4⟩,t5⟩,t6⟩,t7⟩:=h3;rw [h1]
   exact ⟨h2,t1,t2,t3,t4,t5,t6,t7⟩
  ·exact .inr (by omega)
 clear ht
 rcases hor with ⟨h2,t1,t2,t3,t4,t5,t6,t7⟩|h2
 focus
  have hd:decide ((2:Int)≤(s.size:Int))=true:=by simp;omega
  go_enter Tryz.func84,Tryz.ntmps84
  go_wp2_with fail
  clear t1 t2 t3 t4 t5 t6 t7
 rotate_left
 focus
  have hd:decide ((2:Int)≤(s.size:Int))=false:=by simp;omega
  go_enter Tryz.func84,Tryz.ntmps84
  go_wp2_with fail
 rotate_left
 all_goals
  go_loopw [3] (fun iv wr=>∃ i:Nat,iv=.int .i64 i∧1≤i∧i≤5∧i≤s.size+1∧Hid (∀ j,1≤j→j<i→okB (s.extract 0 j)=false)∧Hid (Below w.heap.size w wr)) (fun iv _=>5 - (intOf iv).toNat)
  case atStart=>exact ⟨1,rfl,ae _,by omega,by omega,hid (fun j h1 h2=>by omega),HB0⟩
  case round =>
   obtain ⟨i,rfl,h1,h5,hi,HJ,HL⟩:=hrel;clear HB0
   by_cases h4:i≤4
   ·by_cases hsz:i≤s.size
    ·have e1:decide ((i:Int)≤4)=true:=by simp;omega
     have e2:decide ((i:Int)≤(s.size:Int))=true:=by simp;omega
     have c1:=CR.out i hsz wr;obtain ⟨b,hb⟩:∃ b,okB (s.extract 0 i)=b:=⟨_,rfl⟩;rw [hb] at c1;have HOK:=hid hb;clear hb
     go_wp2_with fail
     refine c1.mono ?_;rintro e w2 ⟨rfl,hb2⟩;have HL2:=hid (HL.out.trans (hb2.mono HL.out.size));clear c1 hb2
     cases b
     ·go_wp2_with fail
      go_roundw
      case rel=>exact ⟨i+1,by go_num,by omega,by omega,by omega,hid (fun j h1 h2=>by
       by_cases e:j<i
       ·exact HJ.out j h1 e
       ·rw [show j=i by omega];exact HOK.out),HL2⟩
      case measure=>simp [intOf];omega
     ·go_wp2_with fail
      go_ret
      exact ⟨i,rfl,.inl ⟨h1,hsz,HOK.out,HJ.out⟩,HL2.out⟩
    ·have e1:decide ((i:Int)≤4)=true:=by simp;omega
     have e2:decide (i≤s.size)=false:=by simpa using hsz
     have e3:decide ((i:Int)≤(s.size:Int))=false:=by simp;omega
     go_wp2_with fail
     go_ret
     exact ⟨1,rfl,.inr ⟨rfl,fun j g1 g2 g3=>HJ.out j g1 (by omega)⟩,HL.out⟩
   ·have e1:decide ((i:Int)≤4)=false:=by simp;omega
    go_wp2_with fail
    go_ret
    exact ⟨1,rfl,.inr ⟨rfl,fun j g1 g2 g3=>HJ.out j g1 (by omega)⟩,HL.out⟩
theorem NA (s:ByteArray) (w:World) (ht:two s.toList=true) :
  Calls Tryz.prog 84 #[.string s] w fun e w'=>e=.returned (.int .i64 2)∧w=w':=by
 have h2:2≤s.size:=by have:=F8 ht;rwa [dR] at this
 obtain ⟨t,h1,h3⟩:=KM s h2;rw [ht,← h1] at h3;clear h1 ht
 have hd:decide ((2:Int)≤(s.size:Int))=true:=by simp;omega
 cases e0:((s.extract 0 2).toList==[58,61])
 rotate_left
 ·clear h3
  go_enter Tryz.func84,Tryz.ntmps84
  go_wp2_with fail
  go_ret
  exact ⟨rfl,rfl⟩
 ·rw [e0] at h3
  cases e1:((s.extract 0 2).toList==[61,61])
  rotate_left
  ·clear h3
   go_enter Tryz.func84,Tryz.ntmps84
   go_wp2_with fail
   go_ret
   exact ⟨rfl,rfl⟩
  ·rw [e1] at h3
   cases e2:((s.extract 0 2).toList==[33,61])
   rotate_left
   ·clear h3
    go_enter Tryz.func84,Tryz.ntmps84
    go_wp2_with fail
    go_ret
    exact ⟨rfl,rfl⟩
   ·rw [e2] at h3
    cases e3:((s.extract 0 2).toList==[60,61])
    rotate_left
    ·clear h3
     go_enter Tryz.func84,Tryz.ntmps84
     go_wp2_with fail
     go_ret
     exact ⟨rfl,rfl⟩
    ·rw [e3] at h3
     cases e4:((s.extract 0 2).toList==[62,61])
     rotate_left
     ·clear h3
      go_enter Tryz.func84,Tryz.ntmps84
      go_wp2_with fail
      go_ret
      exact ⟨rfl,rfl⟩
     ·rw [e4] at h3
      cases e5:((s.extract 0 2).toList==[38,38])
      rotate_left
      ·clear h3
       go_enter Tryz.func84,Tryz.ntmps84
       go_wp2_with fail
       go_ret
       exact ⟨rfl,rfl⟩
      ·rw [e5] at h3
       cases e6:((s.extract 0 2).toList==[124,124])
       rotate_left
       ·clear h3
        go_enter Tryz.func84,Tryz.ntmps84
        go_wp2_with fail
        go_ret
        exact ⟨rfl,rfl⟩
       ·rw [e6] at h3
        simp at h3
theorem NB (s:ByteArray) (w:World) (hs:s.size≤1000000) (h0:0<s.size) :
  Calls Tryz.prog 84 #[.string s] w fun e w'=>∃ n:Nat,e=.returned (.int .i64 n)∧Qk s n∧Below w.heap.size w w':=by
 cases ht:two s.toList
 ·refine (KN s w hs ht h0).mono ?_
  rintro e w' ⟨n,h1,h2,h3⟩
  exact ⟨n,h1,.inr ⟨ht,h2⟩,h3⟩
 ·refine (NA s w ht).mono ?_
  rintro e w' ⟨h1,rfl⟩
  exact ⟨2,h1,.inl ⟨ht,rfl⟩,aj _ _⟩
theorem Uc {s:ByteArray} (h0:0<s.size) (h:two s.toList=true):s[0].toNat<128:=by
 have hl:=fT s h0;rw [bM] at hl;rw [hl] at h;generalize s[0]=z at h ⊢
 match s.toList.drop (0+1),h with
 | b :: u,h =>
  simp [two] at h
  rcases h with (((((⟨h,_⟩|⟨h,_⟩)|⟨h,_⟩)|⟨h,_⟩)|⟨h,_⟩)|⟨h,_⟩)|⟨h,_⟩ <;> (rw [h];decide)
theorem Ql (s:ByteArray) (right:Bool) (w:World) (hs:s.size≤1000000) (h0:0<s.size) (hr:right=true→okB s=true) :
  Calls Tryz.prog 58 #[.string s,.bool right] w fun e w'=>e=.returned (.tuple #[.int .i64 (eX right s.toList).1,.int .i64 ((eX right s.toList).2:Nat)])∧Below w.heap.size w w':=by
 have cN:=Qb s w (by omega);have cM:=Ky s w (by omega);have cQ:=Nw s w (by omega) h0;have cO:=NB s w hs h0;have hnl:=F9 s.toList;rw [dR] at hnl;have hl:=fT s h0;rw [bM] at hl;obtain ⟨R,hR⟩:∃ R,eX right s.toList=R:=⟨_,rfl⟩;rw [hR]
 unfold eX at hR
 by_cases h1:0<gW s.toList
 ·rw [ay h1,← sQ] at hR
  obtain ⟨n,hn⟩:∃ n,gW s.toList=n:=⟨_,rfl⟩;rw [hn] at cN hnl h1 hR;have cK:=T4 (s.extract 0 n) w;obtain ⟨b,hb⟩:∃ b,zJ (s.extract 0 n).toList=b:=⟨_,rfl⟩;rw [hb] at cK hR;subst hR;clear cM cQ cO hl hn hb hr
  go_enter Tryz.func58,Tryz.ntmps58
  go_wp2_with fail
  refine cN.mono ?_;rintro e w1 ⟨rfl,rfl⟩
  go_wp2_with fail
  refine cK.mono ?_;rintro e w2 ⟨rfl,rfl⟩
  cases b
  ·go_wp2_with fail
   go_ret2
   exact ⟨rfl,aj _ _⟩
  ·go_wp2_with fail
   go_ret2
   exact ⟨rfl,aj _ _⟩
 ·rw [ai h1] at hR
  have hn:gW s.toList=0:=by omega
  rw [hn] at cN;clear h1 hn hnl
  by_cases h2:0<nA s.toList
  ·rw [ay h2] at hR
   obtain ⟨n,hn⟩:∃ n,nA s.toList=n:=⟨_,rfl⟩;rw [hn] at cM h2 hR;subst hR;clear cQ cO hl hn hr
   go_enter Tryz.func58,Tryz.ntmps58
   go_wp2_with fail
   refine cN.mono ?_;rintro e w1 ⟨rfl,rfl⟩
   go_wp2_with fail
   refine cM.mono ?_;rintro e w2 ⟨rfl,rfl⟩
   go_wp2_with fail
   go_ret2
   exact ⟨rfl,aj _ _⟩
  ·rw [ai h2] at hR
   have hn:nA s.toList=0:=by omega
   rw [hn] at cM;clear h2 hn
   by_cases h3:0<gI s.toList
   ·rw [ay h3] at hR
    obtain ⟨n,hn⟩:∃ n,gI s.toList=n:=⟨_,rfl⟩;rw [hn] at cQ h3 hR;subst hR;clear cO hl hn hr
    go_enter Tryz.func58,Tryz.ntmps58
    go_wp2_with fail
    refine cN.mono ?_;rintro e w1 ⟨rfl,rfl⟩
    go_wp2_with fail
    refine cM.mono ?_;rintro e w2 ⟨rfl,rfl⟩
    go_wp2_with fail
    refine cQ.mono ?_;rintro e w3 ⟨rfl,rfl⟩
    go_wp2_with fail
    go_ret2
    exact ⟨rfl,aj _ _⟩
   ·rw [ai h3,hl] at hR
    have hn:gI s.toList=0:=by omega
    rw [hn] at cQ;clear h3 hn;have htl:=@Uc s h0
    have hlow:=fun (n:Nat) (h:xL s n)=>h.low h0
    obtain ⟨z,hz⟩:∃ z,s[0]=z:=⟨_,rfl⟩;have e59:=pW z 59;rw [hz] at hR htl hlow hl;simp only [List.head?_cons,bW] at hR
    by_cases h4:z=59
    ·rw [ay h4] at hR
     rw [decide_eq_true h4] at e59;replace e59:((z.toNat:Int)==59)=true:=e59;subst hR;clear cO hl hr h4 htl hlow
     go_enter Tryz.func58,Tryz.ntmps58
     go_wp2_with fail
     refine cN.mono ?_;rintro e w1 ⟨rfl,rfl⟩
     go_wp2_with fail
     refine cM.mono ?_;rintro e w2 ⟨rfl,rfl⟩
     go_wp2_with fail
     refine cQ.mono ?_;rintro e w3 ⟨rfl,rfl⟩
     go_wp2_with fail
     go_ret2
     exact ⟨rfl,aj _ _⟩
    ·rw [ai h4] at hR
     rw [di h4] at e59;replace e59:((z.toNat:Int)==59)=false:=e59
     have hml:∀ n,Qk s n→(right=true∧fV right s.toList=n)∨(right=false∧fV right s.toList=n∧(n=1∨z.toNat<128))∨(right=false∧fV right s.toList=1∧1<n∧128≤z.toNat):=by
      intro n hn
      rcases hn with ⟨ht,rfl⟩|⟨ht,hp⟩
      ·have hm:fV right s.toList=2:=by unfold fV;rw [ay ht]
       cases right
       ·exact .inr (.inl ⟨rfl,hm,.inr (htl ht)⟩)
       ·exact .inl ⟨rfl,hm⟩
      ·have hm:fV right s.toList=if right=true then wid s.toList else 1:=by unfold fV;rw [ai (by rw [ht];simp)]
       cases right
       ·right
        have hm1:fV false s.toList=1:=by rw [hm];rfl
        have hn1:1≤n:=by rcases hp with ⟨h,_⟩|⟨h,_⟩ <;> omega
        by_cases hz:z.toNat<128
        ·exact .inl ⟨rfl,by rw [hm1,hlow n hp hz],.inr hz⟩
        ·by_cases h1:n=1
         ·exact .inl ⟨rfl,by rw [hm1,h1],.inl h1⟩
         ·exact .inr ⟨rfl,hm1,by omega,by omega⟩
       ·left
        exact ⟨rfl,by rw [hm,hp.right h0 (hr rfl)];rfl⟩
     have HML:=hid hml;rw [← hl] at hR;clear hl hr h4 htl hlow hml;have HR:=hid hR;clear hR
     go_enter Tryz.func58,Tryz.ntmps58
     go_wp2_with fail
     refine cN.mono ?_;rintro e w1 ⟨rfl,rfl⟩
     go_wp2_with fail
     refine cM.mono ?_;rintro e w2 ⟨rfl,rfl⟩
     go_wp2_with fail
     refine cQ.mono ?_;rintro e w3 ⟨rfl,rfl⟩
     go_wp2_with fail
     refine cO.mono ?_;rintro e w4 ⟨n,rfl,hn,hb4⟩
     rcases HML.out n hn with ⟨rfl,hm⟩|⟨rfl,hm,hor⟩|⟨rfl,hm,h1,h2⟩
     ·have HM:=hid hm
      clear hn hm
      go_wp2_with fail
      go_ret2
      exact ⟨by rw [← HR.out,HM.out];rfl,hb4⟩
     ·have HM:=hid hm
      clear hm
      rcases hor with rfl|hz
      ·clear hn
       go_wp2_with fail
       go_ret2
       exact ⟨by rw [← HR.out,HM.out];rfl,hb4⟩
      ·by_cases h1:1<n
       ·clear hn
        go_wp2_with fail
        go_ret2
        exact ⟨by rw [← HR.out,HM.out];rfl,hb4⟩
       ·clear hn
        go_wp2_with fail
        go_ret2
        exact ⟨by rw [← HR.out,HM.out];rfl,hb4⟩
     ·have HM:=hid hm
      clear hn hm
      go_wp2_with fail
      go_ret2
      exact ⟨by rw [← HR.out,HM.out];rfl,hb4⟩
def qG (t:aZ):List Value:=[.int .i64 t.w,.string ⟨t.t.toArray⟩,.int .i64 t.f,.int .i64 t.e]
def gp:List aZ→List Value
 | []=>[]
 | t :: r=>qG t++gp r
theorem qH:∀ l:List aZ,(gp l).length=4*l.length
 | []=>rfl
 | d :: r=>by simp only [gp,aM,qH r,aH,qG,dM];omega
theorem oN:∀ (a b:List aZ),gp (a++b)=gp a++gp b
 | [],b=>rfl
 | d :: r,b=>by simp only [bH,gp,oN r b,dC]
theorem vH:∀ (l:List aZ) (i j:Nat) (hi:i<l.length),j<4→(gp l)[i*4+j]?=(qG l[i])[j]?
 | [],i,j,hi,_=>by simp at hi
 | d :: r,0,j,hi,hj=>by simp only [gp,Nat.zero_mul,bz,List.getElem_cons_zero];rw [bn (by simp [qG];omega)]
 | d :: r,i+1,j,hi,hj=>by
  simp only [gp,List.getElem_cons_succ];rw [aK (by simp [qG];omega),show (i+1)*4+j - (qG d).length=i*4+j by simp [qG];omega]
  exact vH r i j (by simpa using hi) hj
def Cr (W:World) (g off:Nat) (l:List aZ):Prop:=∀ j u,(gp l)[j]?=some u→W.cell? ⟨g,off+j,none⟩=some u
theorem xM {W:World} {l:List aZ} {g off:Nat} (i:Nat) (hc:Cr W g off l) (hi:i<l.length) :
  W.cell? ⟨g,off+i*4,none⟩=some (.int .i64 l[i].w)∧W.cell? ⟨g,off+i*4+1,none⟩=some (.string ⟨l[i].t.toArray⟩)∧W.cell? ⟨g,off+i*4+2,none⟩=some (.int .i64 l[i].f)∧W.cell? ⟨g,off+i*4+3,none⟩=some (.int .i64 l[i].e):=by
 refine ⟨hc (i*4) _ ?_,hc (i*4+1) _ (by rw [vH l i 1 hi (by omega)];rfl),hc (i*4+2) _ (by rw [vH l i 2 hi (by omega)];rfl),hc (i*4+3) _ (by rw [vH l i 3 hi (by omega)];rfl)⟩;have:=vH l i 0 hi (by omega);rw [bS] at this;rw [this];rfl
def KO (B:Nat) (W:World) (l:List aZ) (v:Value):Prop:=∃ a cap,v=.slice a l.length cap∧l.length≤cap∧(l=[]∨∃ g off,a=some ⟨g,off,none⟩∧B≤g∧g<W.heap.size∧Cr W g off l)
theorem lN {w:World} {B n size:Nat} {e:TypeId} {v:Value} {xs:List Value} (h:w.ownsRow B e size v n xs) (hn:0<n):∃ g c,v=.slice (some ⟨g,0,none⟩) n c∧n≤c∧B≤g∧g<w.heap.size:=by
 rcases h.2 with ⟨_,h0⟩|⟨g,cap,cur,rfl,_,_,hc,_⟩
 ·have:=h.1;omega
 ·have:=h.lt g rfl
  exact ⟨g,cap,rfl,hc,this.1,this.2⟩
theorem BI {w:World} {B n c g:Nat} {l:List aZ} (h:w.ownsRow B 86 4 (.slice (some ⟨g,0,none⟩) n c) n (gp l)) (hn:l.length=n):Cr w g 0 l:=fun j u hj=>by
 have hj2:=(aN.1 hj).1;rw [qH] at hj2;rw [bz,h.cellAt j (by omega)]
 exact hj
theorem vI {w:World} {B B' n:Nat} {l:List aZ} {v:Value} (h:w.ownsRow B' 86 4 v n (gp l)) (hn:l.length=n) (hB:B≤B'):KO B w l v:=by
 rcases eQ n with h0|h0
 ·have hl:l=[]:=dw.1 (hn.trans h0)
  rcases h.2 with ⟨rfl,_⟩|⟨g,cap,cur,rfl,_⟩
  ·exact ⟨none,0,by rw [hl];rfl,by rw [hl];simp,.inl hl⟩
  ·exact ⟨_,cap,by rw [hn],by rw [hl];simp,.inl hl⟩
 ·obtain ⟨g,c,rfl,hc,hg,_⟩:=lN h h0
  exact ⟨_,c,by rw [hn],by omega,.inr ⟨g,0,rfl,by omega,(h.lt g rfl).2,BI h hn⟩⟩
theorem nD:∀ (l:List aZ),∀ u∈gp l,u.oneCell'=true
 | [],u,h=>by simp [gp] at h
 | d :: r,u,h=>by
  simp only [gp,List.mem_append] at h
  rcases h with h|h
  ·simp only [qG,bA,ek,or_false] at h
   rcases h with rfl|rfl|rfl|rfl <;> rfl
  ·exact nD r u h
theorem fD {w:World} {B n size:Nat} {e:TypeId} {v:Value} {xs:List Value} (h:w.ownsRow B e size v n xs):∃ a c,v=.slice a n c:=by
 rcases h.2 with ⟨rfl,h0⟩|⟨g,cap,cur,rfl,_⟩
 ·exact ⟨none,0,by subst h0;rfl⟩
 ·exact ⟨_,cap,rfl⟩
theorem below_grown {Z n size:Nat} {w2 W w':World} {e:TypeId} {v:Value} {xs:List Value} {o:Obj} (hL:Below Z w2 W) (hR:W.ownsRow Z e size v n xs) (hg:(W.alloc o).grownBy w' v.ownBlock) (hz:Z≤W.heap.size):Below Z w2 w':=by
 refine ⟨hg.os.trans hL.os,hg.tape.trans hL.tape,hg.output.trans hL.output,?_,fun k hk=>?_⟩
 ·have h1:=hg.size
  have h2:=hL.size;rw [aX] at h1;omega
 ·exact ((hg.block k (by rw [aX];omega) (fun e=>by have:=(hR.lt k e.symm).1;omega)).trans (dx _ _ _ (by omega))).trans (hL.block k hk)
theorem aV {B n size:Nat} {e:TypeId} {v:Value} {xs:List Value} {W W':World} (h:W.ownsRow B e size v n xs) (hb:Below W.heap.size W W'):W'.ownsRow B e size v n xs:=by
 have hg:W.grownBy W' none:=⟨hb.os,hb.tape,hb.output,hb.size,fun j hj _=>hb.block j hj⟩
 exact h.kept hg (by cases v.ownBlock <;> simp)
theorem ME:(Tryz.prog.info? 86).map (fun i=>(i.zero,i.size,i.bytes))=some (some (.agg #[.int .i64 0,.string ⟨#[]⟩,.int .i64 0,.int .i64 0]),4,40):=by kernel_rfl
theorem Ue {w:World} {q:Nat} {d:aZ} {t:TypeId} (h:w.heap[q]?=some (.cells #[.int .i64 d.w,.string ⟨d.t.toArray⟩,.int .i64 d.f,.int .i64 d.e] t (0,0))) :
  ∀ k u,(gp [d])[k]?=some u→w.cell? ((⟨q,0,none⟩:Addr).add k)=some u:=fun k u hk=>by
 obtain ⟨c0,c1,c2,c3⟩:=IB h;rw [Addr.add_lit,bz];have hk2:=(aN.1 hk).1;rw [qH] at hk2;simp only [gp,qG,eB] at hk
 match k,hk2 with
 | 0,_=>simp at hk;subst hk;exact c0
 | 1,_=>simp at hk;subst hk;exact c1
 | 2,_=>simp at hk;subst hk;exact c2
 | 3,_=>simp at hk;subst hk;exact c3
theorem BJ (W:World) (d:aZ):∀ k u,(gp [d])[k]?=some u→(W.alloc (.cells #[.int .i64 d.w,.string ⟨d.t.toArray⟩,.int .i64 d.f,.int .i64 d.e] 86)).cell? ((⟨W.heap.size,0,none⟩:Addr).add k)=some u:=Ue (aG W _)
theorem Cs (W:World) (a f e:Int) (x:ByteArray):∀ k u,(gp [⟨a,x.toList,f,e⟩])[k]?=some u→(W.alloc (.cells #[.int .i64 a,.string x,.int .i64 f,.int .i64 e] 86)).cell? ((⟨W.heap.size,0,none⟩:Addr).add k)=some u:=by
 have h:=BJ W ⟨a,x.toList,f,e⟩;rwa [My] at h
def sS (l:List aZ):Bool:=match l.getLast? with|none=>false|some t=>pR t.w t.t
theorem EK (l:List aZ) (t:aZ):sS (l++[t])=pR t.w t.t:=by unfold sS;simp
def oO (right:Bool) (s:ByteArray) (i:Nat) (b:Bool):List aZ:=jK right (s.size+1) (s.toList.drop i) i b
structure nS (right:Bool) (s:ByteArray) (i:Nat) (O:List aZ):Prop where
 all:fH right s.toList=O++oO right s i (sS O)
 ok:right=true→okB (s.extract i s.size)=true
 few:O.length≤i
theorem xN (right:Bool) (s:ByteArray) (h:right=true→okB s=true):nS right s 0 [] :=
 ⟨by unfold fH oO;rw [dR];rfl,fun h1=>by rw [ByteArray.extract_zero_size];exact h h1,ae _⟩
theorem nE (right:Bool) (s:ByteArray) (b:Bool):oO right s s.size b=if b then [⟨5,[],s.size,s.size⟩] else []:=by
 unfold oO
 rw [xH s (ae _)]
 rfl
theorem rZ (right:Bool) (s:ByteArray) {i:Nat} (h:i<s.size) (b:Bool) :
  oO right s i b=if s[i]=10∧b=true then ⟨5,[],i,((i+1:Nat):Int)⟩ :: oO right s (i+1) false
   else if blank s[i]=true then oO right s (i+1) b
   else if 0<eH (s.toList.drop i) then oO right s (i+eH (s.toList.drop i)) b
   else ⟨(eX right (s.toList.drop i)).1,(s.toList.drop i).take (eX right (s.toList.drop i)).2,i,((i+(eX right (s.toList.drop i)).2:Nat):Int)⟩ ::
    oO right s (i+(eX right (s.toList.drop i)).2) (pR (eX right (s.toList.drop i)).1 ((s.toList.drop i).take (eX right (s.toList.drop i)).2)):=by
 have hl:=fT s h
 have hn:∀ (m:Nat) (x:Bool),i<m→jK right s.size (s.toList.drop m) m x=oO right s m x:=fun m x hm=>by
  unfold oO
  have:(s.toList.drop m).length<s.size:=by rw [bC,dR];omega
  exact qY right _ _ _ _ _ this (by omega)
 have hw:=(lM right (l:=s.toList.drop i) (by rw [hl];simp)).1;rw [← hn (i+1) _ (by omega),← hn (i+1) _ (by omega),← hn (i+(eX right (s.toList.drop i)).2) _ (by omega)]
 have hd:∀ k,s.toList.drop (i+k)=(s.toList.drop i).drop k:=fun k=>by rw [List.drop_drop]
 by_cases hc:0<eH (s.toList.drop i)
 ·rw [← hn (i+eH (s.toList.drop i)) _ (by omega)]
  simp only [hd (eH _),hd (eX _ _).2]
  unfold oO
  rw [hl]
  rfl
 ·rw [ai hc,hd (eX _ _).2]
  unfold oO
  rw [hl] at hc ⊢;simp only [jK];rw [ai hc]
theorem Uf (s:ByteArray) {i k:Nat} (_h:i+k≤s.size):(s.extract i s.size).extract k (s.extract i s.size).size=s.extract (i+k) s.size:=by
 apply ByteArray.ext
 apply Array.toList_inj.1
 rw [← bu,← bu,kL,kL,kL,List.drop_drop]
theorem MF {right:Bool} {s:ByteArray} {i k:Nat} (hok:right=true→okB (s.extract i s.size)=true) (h:i+k≤s.size) (hb:right=true→Kj (s.extract i s.size) k):right=true→okB (s.extract (i+k) s.size)=true:=fun hr=>by
 rw [← Uf s h]
 exact Xw (hok hr) (hb hr)
theorem IE {s:ByteArray} (hok:okB s=true):Kj s s.size:=(Gc hok (ae _)).2 (by rw [ByteArray.extract_zero_size];exact hok)
theorem Ug {s:ByteArray} (hok:okB s=true) (h:0<eH s.toList):Kj s (eH s.toList):=by
 have hle:=ug s.toList;rw [dR] at hle
 have key:eH s.toList<s.size→s.toList[eH s.toList]?=some 10:=fun hlt=>by
  match hs:s.toList,h with
  | a :: b :: r,h =>
   rw [hs] at hlt;simp only [eH] at h hlt ⊢
   split at h
   ·rename_i hab
    rw [ay hab] at hlt ⊢
    have hz:s.size=r.length+2:=by rw [← dR,hs];rfl
    have hr:(r.takeWhile (fun c=>decide (c≠10))).length<r.length:=by omega
    rw [show 2+(r.takeWhile (fun c=>decide (c≠10))).length=(r.takeWhile (fun c=>decide (c≠10))).length+2 by omega];simp only [iw];clear h hlt hab hs hle hz hok
    induction r with
    | nil=>simp at hr
    | cons c u ih =>
     by_cases hc:c=10
     ·subst hc;simp
     ·rw [bJ,ay (by simpa using hc)] at hr ⊢
      simp only [aH,iw] at hr ⊢
      exact ih (by omega)
   ·omega
 by_cases hlt:eH s.toList<s.size
 ·exact (yK hok (key hlt) (by decide)).1
 ·rw [show eH s.toList=s.size by omega]
  exact IE hok
theorem zO (s:ByteArray) {i:Nat} (h:i<s.size):(s.extract i s.size).toList[0]?=some s[i]:=by
 rw [kL,fT s h];rfl
theorem MG {right:Bool} {s:ByteArray} {i:Nat} {O:List aZ} (h:nS right s i O) (hi:i<s.size) (hc:s[i]=10) (hb:sS O=true):nS right s (i+1) (O++[⟨5,[],i,((i+1:Nat):Int)⟩]):=by
 refine ⟨?_,MF h.ok (by omega) (fun hr=>(yK (h.ok hr) (zO s hi) (by rw [hc];decide)).2),by have:=h.few;simp;omega⟩;rw [h.all,hb,rZ right s hi,ay ⟨hc,rfl⟩,EK]
 simp [pR]
theorem kC {right:Bool} {s:ByteArray} {i:Nat} {O:List aZ} (h:nS right s i O) (hi:i<s.size) (hc:¬ (s[i]=10∧sS O=true)) (hb:blank s[i]=true):nS right s (i+1) O:=by
 refine ⟨?_,MF h.ok (by omega) (fun hr=>(yK (h.ok hr) (zO s hi) ?_).2),by have:=h.few;omega⟩
 ·rw [h.all,rZ right s hi,ai hc,ay hb]
 ·unfold blank at hb
  simp at hb
  rcases hb with ((hb|hb)|hb)|hb <;> (rw [hb];decide)
theorem Ct {right:Bool} {s:ByteArray} {i:Nat} {O:List aZ} (h:nS right s i O) (hi:i<s.size) (hb:blank s[i]=false) (hk:0<eH (s.extract i s.size).toList):nS right s (i+eH (s.extract i s.size).toList) O:=by
 have hle:=ug (s.extract i s.size).toList;rw [kL,bC,dR] at hle;refine ⟨?_,MF h.ok (by rw [kL];omega) (fun hr=>Ug (h.ok hr) hk),by have:=h.few;omega⟩;rw [kL] at hk ⊢;rw [h.all,rZ right s hi,ai (fun e=>by rw [e.1] at hb;cases hb),ai (by rw [hb];simp),ay hk]
theorem zP {right:Bool} {s:ByteArray} {i:Nat} {O:List aZ} (h:nS right s i O) (hi:i<s.size) (hb:blank s[i]=false) (hk:eH (s.extract i s.size).toList=0) {w:Int} {k:Nat} (hw:eX right (s.extract i s.size).toList=(w,k)) :
  i+k≤s.size∧1≤k∧nS right s (i+k) (O++[⟨w,(s.extract i (i+k)).toList,i,((i+k:Nat):Int)⟩]):=by
 have hbd:=lM right (l:=(s.extract i s.size).toList) (by rw [kL,fT s hi];simp);rw [hw,kL,bC,dR] at hbd
 have he:(s.extract i (i+k)).toList=(s.toList.drop i).take k:=by rw [ext_list,show i+k - i=k by omega]
 refine ⟨by omega,hbd.1,?_,MF h.ok (by omega) (fun hr=>?_),by have:=h.few;simp;omega⟩
 ·rw [kL] at hk hw
  rw [h.all,rZ right s hi,ai (fun e=>by rw [e.1] at hb;cases hb),ai (by rw [hb];simp),ai (by omega),hw,EK,he]
  simp
 ·subst hr
  have hz:0<(s.extract i s.size).size:=by rw [size_extract s i s.size (by omega) (ae _)];omega
  have:=Qj (h.ok rfl) hz;rwa [hw] at this
theorem rq {B:Nat} {a w:World} (h:Below B a w) (n:Nat):Below B a (w.drewN n):=⟨h.os,h.tape,h.output,h.size,h.block⟩
theorem lg (right:Bool):∀ (n:Nat) (l:By) (pos:Nat) (e:Bool),(jK right n l pos e).length≤l.length+1
 | 0,_,_,_=>by simp [jK]
 | n+1,[],pos,e=>by simp only [jK];split <;> simp
 | n+1,c :: r,pos,e=>by
  have hc:=ug (c :: r);have hw:=lM right (l:=c :: r) (by simp);simp only [jK]
  split
  ·have:=lg right n r (pos+1) false
   simp only [aH];omega
  ·split
   ·have:=lg right n r (pos+1) e
    simp only [aH];omega
   ·split
    ·have:=lg right n ((c :: r).drop (eH (c :: r))) (pos+eH (c :: r)) e
     rw [bC] at this;omega
    ·have:=lg right n ((c :: r).drop (eX right (c :: r)).2) (pos+(eX right (c :: r)).2) (pR (eX right (c :: r)).1 ((c :: r).take (eX right (c :: r)).2))
     rw [bC] at this;rw [aH];omega
end S
namespace T
open Go.RowKit
open Go.Lib hiding intOf
open U S L
def aU (x:By):ByteArray:=⟨x.toArray⟩
def five:Pt→Value→List Value
 | .mk k t f e _,lv=>[.string (aU k),.string (aU t),.int .i64 f,.int .i64 e,lv]
def dK (W:World) (g off:Nat) (xs:List Value):Prop:=∀ j u,xs[j]?=some u→W.cell? ⟨g,off+j,none⟩=some u
mutual
def aT (W:World) (R:Nat→Prop):Pt→Value→Prop
 | .mk _ _ _ _ ks,lv=>∃ a cap,lv=.slice a ks.length cap∧ks.length≤cap∧(ks=[]∨∃ g off xs,a=some ⟨g,off,none⟩∧R g∧dK W g off xs∧aO W R ks xs)
def aO (W:World) (R:Nat→Prop):List Pt→List Value→Prop
 | [],xs=>xs=[]
 | p :: r,xs=>∃ lv rest,xs=five p lv++rest∧aT W R p lv∧aO W R r rest
end
def Still (R:Nat→Prop) (W W':World):Prop:=∀ g,R g→g<W.heap.size→W'.heap[g]?=W.heap[g]?
theorem dK.later {W W':World} {R:Nat→Prop} {g off:Nat} {xs:List Value} (h:dK W g off xs) (hR:R g) (hs:Still R W W'):dK W' g off xs:=by
 intro j u hj;have h1:=h j u hj;have hlt:g<W.heap.size:=bB W _ h1;have h2:=hs g hR hlt
 unfold World.cell? at h1 ⊢
 rw [h2];exact h1
mutual
theorem aT.later {W W':World} {R R':Nat→Prop} (hs:Still R W W') (hR:∀ g,R g→R' g):∀ (p:Pt) (lv:Value),aT W R p lv→aT W' R' p lv
 | .mk k t f e ks,lv,h=>by
  obtain ⟨a,cap,h1,h0,h2⟩:=h;refine ⟨a,cap,h1,h0,?_⟩
  rcases h2 with h2|⟨g,off,xs,h3,h4,h5,h6⟩
  ·exact .inl h2
  ·exact .inr ⟨g,off,xs,h3,hR g h4,h5.later h4 hs,aO.later hs hR ks xs h6⟩
theorem aO.later {W W':World} {R R':Nat→Prop} (hs:Still R W W') (hR:∀ g,R g→R' g):∀ (l:List Pt) (xs:List Value),aO W R l xs→aO W' R' l xs
 | [],_,h=>h
 | p :: r,xs,h=>by
  obtain ⟨lv,rest,h1,h2,h3⟩:=h
  exact ⟨lv,rest,h1,aT.later hs hR p lv h2,aO.later hs hR r rest h3⟩
end
theorem eO (p:Pt) (lv:Value):(five p lv).length=5:=by cases p;rfl
theorem aO.length {W:World} {R:Nat→Prop}:∀ {l:List Pt} {xs:List Value},aO W R l xs→xs.length=5*l.length
 | [],xs,h=>by have h:xs=[]:=h;subst h;rfl
 | p :: r,xs,h=>by
  obtain ⟨lv,rest,rfl,_,h3⟩:=h;have:=aO.length h3;rw [aM,eO,this];simp;omega
theorem aO.snoc {W:World} {R:Nat→Prop}:∀ {l:List Pt} {xs:List Value} {p:Pt} {lv:Value},aO W R l xs→aT W R p lv→aO W R (l++[p]) (xs++five p lv)
 | [],xs,p,lv,h,hv=>by
  have h:xs=[]:=h;subst h
  exact ⟨lv,[],by simp,hv,rfl⟩
 | u :: r,xs,p,lv,h,hv=>by
  obtain ⟨Cu,rest,rfl,h2,h3⟩:=h
  exact ⟨Cu,rest++five p lv,by simp,h2,aO.snoc h3 hv⟩
end T
end Go.Proofs.YtojoahlpgmnbnaaGreatDoor
