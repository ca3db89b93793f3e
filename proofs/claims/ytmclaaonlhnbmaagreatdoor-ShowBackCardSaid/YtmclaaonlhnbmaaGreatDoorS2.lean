/- What the claim needs of the texts RefAll, SRef3, SRef4, STok, SPart, TRep, KMem. -/
import Derived.Test.YtmclaaonlhnbmaaGreatDoorSOp
import Derived.Test.YtmclaaonlhnbmaaGreatDoorS1
import Derived.Test.YtmclaaonlhnbmaaGreatDoorProg
import Derived.WalkKit
import Derived.WalkMore
import Derived.Below
import Derived.Lib.Hide
import Derived.Shelf.Unicode.DecodeSlow
import Derived.WalkSmall
import Derived.Deep.DeepMust
import Derived.Maps.AppendAt
import Derived.Deep.QuietTactic
import Derived.BigQuiet
import Derived.Laws.AppendOwn
import Derived.Lib.SmallJoins
import Derived.RangeFuncOwn
import Derived.Deep.AppendLies
import Derived.Deep.RegionHeld3
import Derived.Deep.RegionWith
import Derived.BigRegion
import Derived.Deep.DeepCutAuto
namespace Go.Proofs.YtmclaaonlhnbmaaGreatDoor.U
open Go.Lib
def scal (s:ByteArray):Nat × Nat:=if (Utf8.decode s 0).1=65533∧(Utf8.decode s 0).2=1 then (0,0) else Utf8.decode s 0
def contF (s:ByteArray) (n:Nat):Nat→Nat→Nat→Option Nat
 | 0,_,c=>some c
 | f+1,i,c=>if i<n then (if (s.get! i).toNat<128∨192≤(s.get! i).toNat then none else contF s n f (i+1) (64*c+(s.get! i).toNat - 128)) else some c
def refFin (least n:Nat):Option Nat→Nat × Nat
 | none=>(0,0)
 | some c=>if c<least∨1114111<c∨(55296≤c∧c≤57343) then (0,0) else (c,n)
def refC (s:ByteArray) (n least c:Nat):Nat × Nat:=if s.size<n then (0,0) else refFin least n (contF s n (n - 1) 1 c)
theorem refFin_bad (least n c:Nat) (h:c<least∨1114111<c∨(55296≤c∧c≤57343)):refFin least n (some c)=(0,0):=by
 simp only [refFin];rw [if_pos h]
theorem refFin_ok (least n c:Nat) (h1:¬ c<least) (h2:¬ 1114111<c) (h3:¬ (55296≤c∧c≤57343)):refFin least n (some c)=(c,n):=by
 simp only [refFin];rw [if_neg (fun h=>h.elim h1 fun h=>h.elim h2 h3)]
theorem contF_bad (s:ByteArray) (n f i c:Nat) (hi:i<n) (h:(s.get! i).toNat<128∨192≤(s.get! i).toNat):contF s n (f+1) i c=none:=by
 simp only [contF];rw [if_pos hi,if_pos h]
theorem contF_on (s:ByteArray) (n f i c:Nat) (hi:i<n) (h:¬ ((s.get! i).toNat<128∨192≤(s.get! i).toNat)):contF s n (f+1) i c=contF s n f (i+1) (64*c+(s.get! i).toNat - 128):=by
 simp only [contF];rw [if_pos hi,if_neg h]
theorem contF_done (s:ByteArray) (n f i c:Nat) (hi:¬ i<n):contF s n f i c=some c:=by
 cases f <;> simp only [contF];rw [if_neg hi]
def scalN (n b0 b1 b2 b3:Nat):Nat × Nat:=if (decodeN n b0 b1 b2 b3).1=65533∧(decodeN n b0 b1 b2 b3).2=1 then (0,0) else decodeN n b0 b1 b2 b3
theorem scal_eq (s:ByteArray):scal s=scalN s.size (s.get! 0).toNat (s.get! 1).toNat (s.get! 2).toNat (s.get! 3).toNat:=by
 unfold scal scalN
 rw [decode_at]
 rfl
theorem scalN_bad {n b0 b1 b2 b3:Nat} (h:decodeN n b0 b1 b2 b3=(65533,1)):scalN n b0 b1 b2 b3=(0,0):=by
 unfold scalN;rw [h];simp
theorem scalN_good {n b0 b1 b2 b3 c k:Nat} (h:decodeN n b0 b1 b2 b3=(c,k)) (hk:1<k∨c<65533):scalN n b0 b1 b2 b3=(c,k):=by
 unfold scalN;rw [h];rw [if_neg (by simp only;omega)]
theorem ref1 (s:ByteArray) (h:(s.get! 0).toNat<128):scal s=((s.get! 0).toNat,1):=by
 rw [scal_eq]
 generalize (s.get! 0).toNat=b0 at *
 exact scalN_good (by unfold decodeN;rw [if_pos h]) (by omega)
theorem ref0 (s:ByteArray) (h:¬ (s.get! 0).toNat<128) (h2:¬ (192≤(s.get! 0).toNat∧(s.get! 0).toNat<224)) (h3:¬ (224≤(s.get! 0).toNat∧(s.get! 0).toNat<240)) (h4:¬ (240≤(s.get! 0).toNat∧(s.get! 0).toNat<248)):scal s=(0,0):=by
 rw [scal_eq]
 have hb:(s.get! 0).toNat<256:=UInt8.toNat_lt _
 generalize (s.get! 0).toNat=b0 at *
 exact scalN_bad (by unfold decodeN;rw [if_neg h,if_neg (by omega),if_neg (by omega),if_neg (by omega)])
set_option maxHeartbeats 4000000 in
theorem ref2 (s:ByteArray) (h:192≤(s.get! 0).toNat) (h2:(s.get! 0).toNat<224):scal s=refC s 2 128 ((s.get! 0).toNat - 192):=by
 rw [scal_eq]
 have c1:(s.get! 1).toNat<256:=UInt8.toNat_lt _
 have c2:(s.get! 2).toNat<256:=UInt8.toNat_lt _
 have c3:(s.get! 3).toNat<256:=UInt8.toNat_lt _
 unfold refC
 simp only [contF]
 generalize (s.get! 0).toNat=b0 at *
 generalize (s.get! 1).toNat=b1 at *
 generalize (s.get! 2).toNat=b2 at *
 generalize (s.get! 3).toNat=b3 at *
 generalize s.size=z at *
 by_cases hs:z<2
 ·rw [if_pos hs]
  exact scalN_bad (by unfold decodeN;repeat rw [if_neg (by omega)])
 ·rw [if_neg hs,if_pos (by omega)]
  by_cases q1:b1<128∨192≤b1
  ·rw [if_pos q1]
   exact scalN_bad (by unfold decodeN;repeat rw [if_neg (by omega)])
  rw [if_neg q1]
  simp only [refFin]
  by_cases q:64*(b0 - 192)+b1 - 128<128∨1114111<64*(b0 - 192)+b1 - 128∨(55296≤64*(b0 - 192)+b1 - 128∧64*(b0 - 192)+b1 - 128≤57343)
  ·rw [if_pos q]
   exact scalN_bad (by unfold decodeN;rw [if_neg (by omega),if_pos (by omega)];rw [if_neg (by omega)])
  ·rw [if_neg q]
   exact scalN_good (by unfold decodeN;rw [if_neg (by omega),if_pos (by omega)];rw [if_pos (by omega)];exact Prod.ext (by simp only;omega) rfl) (by omega)
set_option maxHeartbeats 4000000 in
theorem ref3 (s:ByteArray) (h:224≤(s.get! 0).toNat) (h2:(s.get! 0).toNat<240):scal s=refC s 3 2048 ((s.get! 0).toNat - 224):=by
 rw [scal_eq]
 have c1:(s.get! 1).toNat<256:=UInt8.toNat_lt _
 have c2:(s.get! 2).toNat<256:=UInt8.toNat_lt _
 have c3:(s.get! 3).toNat<256:=UInt8.toNat_lt _
 unfold refC
 simp only [contF]
 generalize (s.get! 0).toNat=b0 at *
 generalize (s.get! 1).toNat=b1 at *
 generalize (s.get! 2).toNat=b2 at *
 generalize (s.get! 3).toNat=b3 at *
 generalize s.size=z at *
 by_cases hs:z<3
 ·rw [if_pos hs]
  exact scalN_bad (by unfold decodeN;repeat rw [if_neg (by omega)])
 ·rw [if_neg hs,if_pos (by omega)]
  by_cases q1:b1<128∨192≤b1
  ·rw [if_pos q1]
   exact scalN_bad (by unfold decodeN;repeat rw [if_neg (by omega)])
  rw [if_neg q1]
  rw [if_pos (by omega)]
  by_cases q2:b2<128∨192≤b2
  ·rw [if_pos q2]
   exact scalN_bad (by unfold decodeN;repeat rw [if_neg (by omega)])
  rw [if_neg q2]
  simp only [refFin]
  by_cases q:64*(64*(b0 - 224)+b1 - 128)+b2 - 128<2048∨1114111<64*(64*(b0 - 224)+b1 - 128)+b2 - 128∨(55296≤64*(64*(b0 - 224)+b1 - 128)+b2 - 128∧64*(64*(b0 - 224)+b1 - 128)+b2 - 128≤57343)
  ·rw [if_pos q]
   exact scalN_bad (by unfold decodeN;rw [if_neg (by omega),if_neg (by omega),if_pos (by omega)];rw [if_neg (by omega)])
  ·rw [if_neg q]
   exact scalN_good (by unfold decodeN;rw [if_neg (by omega),if_neg (by omega),if_pos (by omega)];rw [if_pos (by omega)];exact Prod.ext (by simp only;omega) rfl) (by omega)
set_option maxHeartbeats 4000000 in
theorem ref4 (s:ByteArray) (h:240≤(s.get! 0).toNat) (h2:(s.get! 0).toNat<248):scal s=refC s 4 65536 ((s.get! 0).toNat - 240):=by
 rw [scal_eq]
 have c1:(s.get! 1).toNat<256:=UInt8.toNat_lt _
 have c2:(s.get! 2).toNat<256:=UInt8.toNat_lt _
 have c3:(s.get! 3).toNat<256:=UInt8.toNat_lt _
 unfold refC
 simp only [contF]
 generalize (s.get! 0).toNat=b0 at *
 generalize (s.get! 1).toNat=b1 at *
 generalize (s.get! 2).toNat=b2 at *
 generalize (s.get! 3).toNat=b3 at *
 generalize s.size=z at *
 by_cases hs:z<4
 ·rw [if_pos hs]
  exact scalN_bad (by unfold decodeN;repeat rw [if_neg (by omega)])
 ·rw [if_neg hs,if_pos (by omega)]
  by_cases q1:b1<128∨192≤b1
  ·rw [if_pos q1]
   exact scalN_bad (by unfold decodeN;repeat rw [if_neg (by omega)])
  rw [if_neg q1]
  rw [if_pos (by omega)]
  by_cases q2:b2<128∨192≤b2
  ·rw [if_pos q2]
   exact scalN_bad (by unfold decodeN;repeat rw [if_neg (by omega)])
  rw [if_neg q2]
  rw [if_pos (by omega)]
  by_cases q3:b3<128∨192≤b3
  ·rw [if_pos q3]
   exact scalN_bad (by unfold decodeN;repeat rw [if_neg (by omega)])
  rw [if_neg q3]
  simp only [refFin]
  by_cases q:64*(64*(64*(b0 - 240)+b1 - 128)+b2 - 128)+b3 - 128<65536∨1114111<64*(64*(64*(b0 - 240)+b1 - 128)+b2 - 128)+b3 - 128∨(55296≤64*(64*(64*(b0 - 240)+b1 - 128)+b2 - 128)+b3 - 128∧64*(64*(64*(b0 - 240)+b1 - 128)+b2 - 128)+b3 - 128≤57343)
  ·rw [if_pos q]
   exact scalN_bad (by unfold decodeN;rw [if_neg (by omega),if_neg (by omega),if_neg (by omega),if_pos (by omega)];rw [if_neg (by omega)])
  ·rw [if_neg q]
   exact scalN_good (by unfold decodeN;rw [if_neg (by omega),if_neg (by omega),if_neg (by omega),if_pos (by omega)];rw [if_pos (by omega)];exact Prod.ext (by simp only;omega) rfl) (by omega)
end Go.Proofs.YtmclaaonlhnbmaaGreatDoor.U
namespace Go.Proofs.YtmclaaonlhnbmaaGreatDoor.U
open Go.RowKit
open Go.Lib hiding intOf
def TwoN (p:Nat × Nat) (w:World) (e:Ending) (w':World):Prop:=e=.returned (.tuple #[.int .i64 p.1,.int .i64 p.2])∧w=w'
theorem twoN {p:Nat × Nat} {a b:Int} {w:World} (h1:a=(p.1:Int)) (h2:b=(p.2:Int)):TwoN p w (.returned (.tuple #[.int .i64 a,.int .i64 b])) w:=⟨by rw [h1,h2],rfl⟩
theorem get_at (s:ByteArray) (i:Nat) (h:i<s.size):s[i]'h=s.get! i:=(Utf8W.get!_of_lt s i h).symm
end Go.Proofs.YtmclaaonlhnbmaaGreatDoor.U
namespace Go.Proofs.YtmclaaonlhnbmaaGreatDoor.U
open Go.RowKit
open Go.Lib hiding intOf
theorem scalar_one (s:ByteArray) (w:World) (h0:0<s.size) (_hs:s.size≤1099511627776) (x:UInt8) (hx:s.get! 0=x) (h:x.toNat<128) :
  Calls Tryz.prog 138 #[.string s] w (TwoN (x.toNat,1) w):=by
 have hs0:s[0]'h0=x:=by rw [← hx];exact get_at s 0 h0
 have hz:(x.toNat:Int)<128:=by omega
 have hxl:x.toNat<256:=x.toNat_lt
 clear hx
 go_enter Tryz.func138,Tryz.ntmps138
 go_wp2
 go_ret2
 exact twoN (by simp) (by simp)
set_option maxRecDepth 100000 in
theorem scalar_none (s:ByteArray) (w:World) (h0:0<s.size) (_hs:s.size≤1099511627776) (x:UInt8) (hx:s.get! 0=x) (h:(128≤x.toNat∧x.toNat<192)∨248≤x.toNat) :
  Calls Tryz.prog 138 #[.string s] w (TwoN (0,0) w):=by
 have hs0:s[0]'h0=x:=by rw [← hx];exact get_at s 0 h0
 have hxl:x.toNat<256:=x.toNat_lt
 clear hx
 rcases h with ⟨ha,hb⟩|ha
 ·have hz1:¬ (x.toNat:Int)<128:=by omega
  have hz2:¬ (192:Int)≤(x.toNat:Int):=by omega
  have hz3:¬ (224:Int)≤(x.toNat:Int):=by omega
  have hz4:¬ (240:Int)≤(x.toNat:Int):=by omega
  go_enter Tryz.func138,Tryz.ntmps138
  go_wp2
  go_ret2
  exact twoN rfl rfl
 ·have hz1:¬ (x.toNat:Int)<128:=by omega
  have hz2:(192:Int)≤(x.toNat:Int):=by omega
  have hz3:(224:Int)≤(x.toNat:Int):=by omega
  have hz4:(240:Int)≤(x.toNat:Int):=by omega
  have hz5:¬ (x.toNat:Int)<248:=by omega
  go_enter Tryz.func138,Tryz.ntmps138
  go_wp2
  go_ret2
  exact twoN rfl rfl
set_option maxRecDepth 100000 in
set_option maxHeartbeats 2000000 in
theorem scalar_2 (s:ByteArray) (w:World) (h0:0<s.size) (hs:s.size≤1099511627776) (x:UInt8) (hx:s.get! 0=x) (ha:192≤x.toNat) (hb:x.toNat<224) :
  Calls Tryz.prog 138 #[.string s] w (TwoN (refC s 2 128 (x.toNat - 192)) w):=by
 have hs0:s[0]'h0=x:=by rw [← hx];exact get_at s 0 h0
 have hxl:x.toNat<256:=x.toNat_lt
 have hz0:¬ (x.toNat:Int)<128:=by omega
 have hz1:(192:Int)≤(x.toNat:Int):=by omega
 have hz2:(x.toNat:Int)<224:=by omega
 clear hx
 unfold refC
 by_cases hn:s.size<2
 ·rw [if_pos hn]
  have hnz:(s.size:Int)<2:=by omega
  go_enter Tryz.func138,Tryz.ntmps138
  go_wp2
  go_ret2
  exact twoN rfl rfl
 ·rw [if_neg hn]
  have hnz:¬ (s.size:Int)<2:=by omega
  obtain ⟨R,hR⟩:∃ R,contF s 2 (2 - 1) 1 (x.toNat - 192)=R:=⟨_,rfl⟩
  rw [hR]
  have HR:=hid hR;clear hR
  obtain ⟨y,hy⟩:∃ y:Nat,x.toNat=y+192:=⟨x.toNat - 192,by omega⟩
  have hyz:((x.toNat:Int) - 192)=(y:Int):=by omega
  have HY:Hid (x.toNat=y+192):=hid hy
  clear hy
  go_enter Tryz.func138,Tryz.ntmps138
  go_wp2
  go_loop [4,7] (fun cv iv=>∃ (c i:Nat),cv=.int .i64 c∧iv=.int .i64 i∧Hid (contF s 2 (2 - i) i c=R)∧((i=1∧c<32)∨(i=2∧c<8388608))) (fun _ iv=>2 - (intOf iv).toNat)
  case atStart =>
   have hy:=HY.out
   refine ⟨y,1,rfl,rfl,hid ?_,by omega⟩
   rw [← HR.out];congr 1;omega
  case round =>
   obtain ⟨c,i,rfl,rfl,HC,hrng⟩:=hrel
   clear hyz HY HR hs0
   by_cases hin:i<2
   ·obtain ⟨v,hv⟩:∃ v,s.get! i=v:=⟨_,rfl⟩
    have hi2:i<s.size:=by omega
    have hsi:s[i]'hi2=v:=by rw [← hv];exact get_at s i hi2
    have hvl:v.toNat<256:=v.toNat_lt
    have hbad:=contF_bad s 2 (2 - i - 1) i c hin
    have hon:=contF_on s 2 (2 - i - 1) i c hin
    rw [hv,show 2 - i - 1+1=2 - i by omega] at hbad hon
    have HB:=hid hbad
    have HO:=hid hon
    clear hbad hon hv
    by_cases q1:v.toNat<128
    ·have q1z:(v.toNat:Int)<128:=by omega
     have hRn:Hid (R=none):=hid (HC.out.symm.trans (HB.out (.inl q1)))
     go_wp2
     go_ret2
     rw [hRn.out]
     exact twoN rfl rfl
    ·have q1z:¬ (v.toNat:Int)<128:=by omega
     by_cases q2:192≤v.toNat
     ·have q2z:(192:Int)≤(v.toNat:Int):=by omega
      have hRn:Hid (R=none):=hid (HC.out.symm.trans (HB.out (.inr q2)))
      go_wp2
      go_ret2
      rw [hRn.out]
      exact twoN rfl rfl
     ·have q2z:¬ (192:Int)≤(v.toNat:Int):=by omega
      have hcn:Hid (contF s 2 (2 - (i+1)) (i+1) (64*c+v.toNat - 128)=R):=hid (by rw [← HC.out,HO.out (by omega)];congr 1)
      go_wp2
      go_round
      case rel=>exact ⟨64*c+v.toNat - 128,i+1,by go_num,by go_num,hcn,by omega⟩
      case measure=>simp [intOf];omega
   ·have hfin:=contF_done s 2 (2 - i) i c hin
    have hRn:Hid (R=some c):=hid (HC.out.symm.trans hfin)
    clear hfin HC
    have hc8:c<8388608:=by omega
    clear hrng
    by_cases p1:c<128
    ·have p1z:(c:Int)<128:=by omega
     go_wp2
     go_ret2
     have hans:=refFin_bad 128 2 c (.inl p1)
     rw [← hRn.out] at hans
     rw [hans]
     exact twoN rfl rfl
    ·have p1z:¬ (c:Int)<128:=by omega
     by_cases p2:1114111<c
     ·have p2z:(1114111:Int)<(c:Int):=by omega
      go_wp2
      go_ret2
      have hans:=refFin_bad 128 2 c (.inr (.inl p2))
      rw [← hRn.out] at hans
      rw [hans]
      exact twoN rfl rfl
     ·have p2z:¬ (1114111:Int)<(c:Int):=by omega
      by_cases p3:55296≤c
      ·have p3z:(55296:Int)≤(c:Int):=by omega
       by_cases p4:c≤57343
       ·have p4z:(c:Int)≤57343:=by omega
        first
         | (exfalso;omega)
         | (go_wp2
            go_ret2
            have hans:=refFin_bad 128 2 c (.inr (.inr ⟨p3,p4⟩))
            rw [← hRn.out] at hans
            rw [hans]
            exact twoN rfl rfl)
       ·have p4z:¬ (c:Int)≤57343:=by omega
        go_wp2
        go_ret2
        have hans:=refFin_ok 128 2 c p1 p2 (by omega)
        rw [← hRn.out] at hans
        rw [hans]
        exact twoN rfl rfl
      ·have p3z:¬ (55296:Int)≤(c:Int):=by omega
       first
        | (exfalso;omega)
        | (go_wp2
           go_ret2
           have hans:=refFin_ok 128 2 c p1 p2 (by omega)
           rw [← hRn.out] at hans
           rw [hans]
           exact twoN rfl rfl)
end Go.Proofs.YtmclaaonlhnbmaaGreatDoor.U
namespace Go.Proofs.YtmclaaonlhnbmaaGreatDoor.U
open Go.RowKit
open Go.Lib hiding intOf
set_option maxRecDepth 100000 in
set_option maxHeartbeats 2000000 in
theorem scalar_3 (s:ByteArray) (w:World) (h0:0<s.size) (hs:s.size≤1099511627776) (x:UInt8) (hx:s.get! 0=x) (ha:224≤x.toNat) (hb:x.toNat<240) :
  Calls Tryz.prog 138 #[.string s] w (TwoN (refC s 3 2048 (x.toNat - 224)) w):=by
 have hs0:s[0]'h0=x:=by rw [← hx];exact get_at s 0 h0
 have hxl:x.toNat<256:=x.toNat_lt
 have hz0:¬ (x.toNat:Int)<128:=by omega
 have hz1:(192:Int)≤(x.toNat:Int):=by omega
 have hz2:¬ (x.toNat:Int)<224:=by omega
 have hz3:(224:Int)≤(x.toNat:Int):=by omega
 have hz4:(x.toNat:Int)<240:=by omega
 clear hx
 unfold refC
 by_cases hn:s.size<3
 ·rw [if_pos hn]
  have hnz:(s.size:Int)<3:=by omega
  go_enter Tryz.func138,Tryz.ntmps138
  go_wp2
  go_ret2
  exact twoN rfl rfl
 ·rw [if_neg hn]
  have hnz:¬ (s.size:Int)<3:=by omega
  obtain ⟨R,hR⟩:∃ R,contF s 3 (3 - 1) 1 (x.toNat - 224)=R:=⟨_,rfl⟩
  rw [hR]
  have HR:=hid hR;clear hR
  obtain ⟨y,hy⟩:∃ y:Nat,x.toNat=y+224:=⟨x.toNat - 224,by omega⟩
  have hyz:((x.toNat:Int) - 224)=(y:Int):=by omega
  have HY:Hid (x.toNat=y+224):=hid hy
  clear hy
  go_enter Tryz.func138,Tryz.ntmps138
  go_wp2
  generalize hL:(2048:Int)=l
  have HL:Hid (l=2048):=hid hL.symm
  clear hL
  go_loop [4,7] (fun cv iv=>∃ (c i:Nat),cv=.int .i64 c∧iv=.int .i64 i∧Hid (contF s 3 (3 - i) i c=R)∧((i=1∧c<16)∨(i=2∧c<2048)∨(i=3∧c<8388608))) (fun _ iv=>3 - (intOf iv).toNat)
  case atStart =>
   have hy:=HY.out
   refine ⟨y,1,rfl,rfl,hid ?_,by omega⟩
   rw [← HR.out];congr 1;omega
  case round =>
   obtain ⟨c,i,rfl,rfl,HC,hrng⟩:=hrel
   clear hyz HY HR hs0
   by_cases hin:i<3
   ·obtain ⟨v,hv⟩:∃ v,s.get! i=v:=⟨_,rfl⟩
    have hi2:i<s.size:=by omega
    have hsi:s[i]'hi2=v:=by rw [← hv];exact get_at s i hi2
    have hvl:v.toNat<256:=v.toNat_lt
    have hbad:=contF_bad s 3 (3 - i - 1) i c hin
    have hon:=contF_on s 3 (3 - i - 1) i c hin
    rw [hv,show 3 - i - 1+1=3 - i by omega] at hbad hon
    have HB:=hid hbad
    have HO:=hid hon
    clear hbad hon hv
    by_cases q1:v.toNat<128
    ·have q1z:(v.toNat:Int)<128:=by omega
     have hRn:Hid (R=none):=hid (HC.out.symm.trans (HB.out (.inl q1)))
     go_wp2
     go_ret2
     rw [hRn.out]
     exact twoN rfl rfl
    ·have q1z:¬ (v.toNat:Int)<128:=by omega
     by_cases q2:192≤v.toNat
     ·have q2z:(192:Int)≤(v.toNat:Int):=by omega
      have hRn:Hid (R=none):=hid (HC.out.symm.trans (HB.out (.inr q2)))
      go_wp2
      go_ret2
      rw [hRn.out]
      exact twoN rfl rfl
     ·have q2z:¬ (192:Int)≤(v.toNat:Int):=by omega
      have hcn:Hid (contF s 3 (3 - (i+1)) (i+1) (64*c+v.toNat - 128)=R):=hid (by rw [← HC.out,HO.out (by omega)];congr 1)
      go_wp2
      go_round
      case rel=>exact ⟨64*c+v.toNat - 128,i+1,by go_num,by go_num,hcn,by omega⟩
      case measure=>simp [intOf];omega
   ·have hfin:=contF_done s 3 (3 - i) i c hin
    have hRn:Hid (R=some c):=hid (HC.out.symm.trans hfin)
    clear hfin HC
    have hc8:c<8388608:=by omega
    clear hrng
    by_cases p1:c<2048
    ·have p1z:(c:Int)<l:=by rw [HL.out];omega
     go_wp2
     go_ret2
     have hans:=refFin_bad 2048 3 c (.inl p1)
     rw [← hRn.out] at hans
     rw [hans]
     exact twoN rfl rfl
    ·have p1z:¬ (c:Int)<l:=by rw [HL.out];omega
     by_cases p2:1114111<c
     ·have p2z:(1114111:Int)<(c:Int):=by omega
      go_wp2
      go_ret2
      have hans:=refFin_bad 2048 3 c (.inr (.inl p2))
      rw [← hRn.out] at hans
      rw [hans]
      exact twoN rfl rfl
     ·have p2z:¬ (1114111:Int)<(c:Int):=by omega
      by_cases p3:55296≤c
      ·have p3z:(55296:Int)≤(c:Int):=by omega
       by_cases p4:c≤57343
       ·have p4z:(c:Int)≤57343:=by omega
        first
         | (exfalso;omega)
         | (go_wp2
            go_ret2
            have hans:=refFin_bad 2048 3 c (.inr (.inr ⟨p3,p4⟩))
            rw [← hRn.out] at hans
            rw [hans]
            exact twoN rfl rfl)
       ·have p4z:¬ (c:Int)≤57343:=by omega
        go_wp2
        go_ret2
        have hans:=refFin_ok 2048 3 c p1 p2 (by omega)
        rw [← hRn.out] at hans
        rw [hans]
        exact twoN rfl rfl
      ·have p3z:¬ (55296:Int)≤(c:Int):=by omega
       first
        | (exfalso;omega)
        | (go_wp2
           go_ret2
           have hans:=refFin_ok 2048 3 c p1 p2 (by omega)
           rw [← hRn.out] at hans
           rw [hans]
           exact twoN rfl rfl)
end Go.Proofs.YtmclaaonlhnbmaaGreatDoor.U
namespace Go.Proofs.YtmclaaonlhnbmaaGreatDoor.U
open Go.RowKit
open Go.Lib hiding intOf
set_option maxRecDepth 100000 in
set_option maxHeartbeats 2000000 in
theorem scalar_4 (s:ByteArray) (w:World) (h0:0<s.size) (hs:s.size≤1099511627776) (x:UInt8) (hx:s.get! 0=x) (ha:240≤x.toNat) (hb:x.toNat<248) :
  Calls Tryz.prog 138 #[.string s] w (TwoN (refC s 4 65536 (x.toNat - 240)) w):=by
 have hs0:s[0]'h0=x:=by rw [← hx];exact get_at s 0 h0
 have hxl:x.toNat<256:=x.toNat_lt
 have hz0:¬ (x.toNat:Int)<128:=by omega
 have hz1:(192:Int)≤(x.toNat:Int):=by omega
 have hz2:¬ (x.toNat:Int)<224:=by omega
 have hz3:(224:Int)≤(x.toNat:Int):=by omega
 have hz4:¬ (x.toNat:Int)<240:=by omega
 have hz5:(240:Int)≤(x.toNat:Int):=by omega
 have hz6:(x.toNat:Int)<248:=by omega
 clear hx
 unfold refC
 by_cases hn:s.size<4
 ·rw [if_pos hn]
  have hnz:(s.size:Int)<4:=by omega
  go_enter Tryz.func138,Tryz.ntmps138
  go_wp2
  go_ret2
  exact twoN rfl rfl
 ·rw [if_neg hn]
  have hnz:¬ (s.size:Int)<4:=by omega
  obtain ⟨R,hR⟩:∃ R,contF s 4 (4 - 1) 1 (x.toNat - 240)=R:=⟨_,rfl⟩
  rw [hR]
  have HR:=hid hR;clear hR
  obtain ⟨y,hy⟩:∃ y:Nat,x.toNat=y+240:=⟨x.toNat - 240,by omega⟩
  have hyz:((x.toNat:Int) - 240)=(y:Int):=by omega
  have HY:Hid (x.toNat=y+240):=hid hy
  clear hy
  go_enter Tryz.func138,Tryz.ntmps138
  go_wp2
  generalize hL:(65536:Int)=l
  have HL:Hid (l=65536):=hid hL.symm
  clear hL
  go_loop [4,7] (fun cv iv=>∃ (c i:Nat),cv=.int .i64 c∧iv=.int .i64 i∧Hid (contF s 4 (4 - i) i c=R)∧((i=1∧c<8)∨(i=2∧c<1024)∨(i=3∧c<131072)∨(i=4∧c<8388608))) (fun _ iv=>4 - (intOf iv).toNat)
  case atStart =>
   have hy:=HY.out
   refine ⟨y,1,rfl,rfl,hid ?_,by omega⟩
   rw [← HR.out];congr 1;omega
  case round =>
   obtain ⟨c,i,rfl,rfl,HC,hrng⟩:=hrel
   clear hyz HY HR hs0
   by_cases hin:i<4
   ·obtain ⟨v,hv⟩:∃ v,s.get! i=v:=⟨_,rfl⟩
    have hi2:i<s.size:=by omega
    have hsi:s[i]'hi2=v:=by rw [← hv];exact get_at s i hi2
    have hvl:v.toNat<256:=v.toNat_lt
    have hbad:=contF_bad s 4 (4 - i - 1) i c hin
    have hon:=contF_on s 4 (4 - i - 1) i c hin
    rw [hv,show 4 - i - 1+1=4 - i by omega] at hbad hon
    have HB:=hid hbad
    have HO:=hid hon
    clear hbad hon hv
    by_cases q1:v.toNat<128
    ·have q1z:(v.toNat:Int)<128:=by omega
     have hRn:Hid (R=none):=hid (HC.out.symm.trans (HB.out (.inl q1)))
     go_wp2
     go_ret2
     rw [hRn.out]
     exact twoN rfl rfl
    ·have q1z:¬ (v.toNat:Int)<128:=by omega
     by_cases q2:192≤v.toNat
     ·have q2z:(192:Int)≤(v.toNat:Int):=by omega
      have hRn:Hid (R=none):=hid (HC.out.symm.trans (HB.out (.inr q2)))
      go_wp2
      go_ret2
      rw [hRn.out]
      exact twoN rfl rfl
     ·have q2z:¬ (192:Int)≤(v.toNat:Int):=by omega
      have hcn:Hid (contF s 4 (4 - (i+1)) (i+1) (64*c+v.toNat - 128)=R):=hid (by rw [← HC.out,HO.out (by omega)];congr 1)
      go_wp2
      go_round
      case rel=>exact ⟨64*c+v.toNat - 128,i+1,by go_num,by go_num,hcn,by omega⟩
      case measure=>simp [intOf];omega
   ·have hfin:=contF_done s 4 (4 - i) i c hin
    have hRn:Hid (R=some c):=hid (HC.out.symm.trans hfin)
    clear hfin HC
    have hc8:c<8388608:=by omega
    clear hrng
    by_cases p1:c<65536
    ·have p1z:(c:Int)<l:=by rw [HL.out];omega
     go_wp2
     go_ret2
     have hans:=refFin_bad 65536 4 c (.inl p1)
     rw [← hRn.out] at hans
     rw [hans]
     exact twoN rfl rfl
    ·have p1z:¬ (c:Int)<l:=by rw [HL.out];omega
     by_cases p2:1114111<c
     ·have p2z:(1114111:Int)<(c:Int):=by omega
      go_wp2
      go_ret2
      have hans:=refFin_bad 65536 4 c (.inr (.inl p2))
      rw [← hRn.out] at hans
      rw [hans]
      exact twoN rfl rfl
     ·have p2z:¬ (1114111:Int)<(c:Int):=by omega
      by_cases p3:55296≤c
      ·have p3z:(55296:Int)≤(c:Int):=by omega
       by_cases p4:c≤57343
       ·have p4z:(c:Int)≤57343:=by omega
        first
         | (exfalso;omega)
         | (go_wp2
            go_ret2
            have hans:=refFin_bad 65536 4 c (.inr (.inr ⟨p3,p4⟩))
            rw [← hRn.out] at hans
            rw [hans]
            exact twoN rfl rfl)
       ·have p4z:¬ (c:Int)≤57343:=by omega
        go_wp2
        go_ret2
        have hans:=refFin_ok 65536 4 c p1 p2 (by omega)
        rw [← hRn.out] at hans
        rw [hans]
        exact twoN rfl rfl
      ·have p3z:¬ (55296:Int)≤(c:Int):=by omega
       first
        | (exfalso;omega)
        | (go_wp2
           go_ret2
           have hans:=refFin_ok 65536 4 c p1 p2 (by omega)
           rw [← hRn.out] at hans
           rw [hans]
           exact twoN rfl rfl)
end Go.Proofs.YtmclaaonlhnbmaaGreatDoor.U
namespace Go.Proofs.YtmclaaonlhnbmaaGreatDoor.U
open Go.RowKit
open Go.Lib hiding intOf
theorem scalar_any (s:ByteArray) (w:World) (h0:0<s.size) (hs:s.size≤1099511627776) :
  Calls Tryz.prog 138 #[.string s] w (TwoN (scal s) w):=by
 obtain ⟨x,hx⟩:∃ x,s.get! 0=x:=⟨_,rfl⟩
 have r1:=ref1 s
 have r0:=ref0 s
 have r2:=ref2 s
 have r3:=ref3 s
 have r4:=ref4 s
 rw [hx] at r1 r0 r2 r3 r4
 by_cases q1:x.toNat<128
 ·rw [r1 q1];exact scalar_one s w h0 hs x hx q1
 ·by_cases q2:192≤x.toNat∧x.toNat<224
  ·rw [r2 q2.1 q2.2];exact scalar_2 s w h0 hs x hx q2.1 q2.2
  ·by_cases q3:224≤x.toNat∧x.toNat<240
   ·rw [r3 q3.1 q3.2];exact scalar_3 s w h0 hs x hx q3.1 q3.2
   ·by_cases q4:240≤x.toNat∧x.toNat<248
    ·rw [r4 q4.1 q4.2];exact scalar_4 s w h0 hs x hx q4.1 q4.2
    ·rw [r0 q1 q2 q3 q4];exact scalar_none s w h0 hs x hx (by omega)
end Go.Proofs.YtmclaaonlhnbmaaGreatDoor.U
namespace Go.Proofs.YtmclaaonlhnbmaaGreatDoor.U
open Go.Lib
def posL:List (Nat × Nat)→Nat→List Nat
 | [],p=>[p]
 | x :: t,p=>p :: posL t (p+x.2)
def unL:List (Nat × Nat)→Nat→List Nat
 | [],a=>[a]
 | x :: t,a=>a :: unL t (a+uw x.1)
theorem unL_length:∀ (l:List (Nat × Nat)) (a:Nat),(unL l a).length=l.length+1
 | [],_=>rfl
 | x :: t,a=>by simp only [unL,List.length_cons,unL_length t]
theorem posL_snoc:∀ (l:List (Nat × Nat)) (p:Nat) (y:Nat × Nat),posL (l++[y]) p=posL l p++[p+sumW l+y.2]
 | [],p,y=>by simp [posL,sumW]
 | x :: t,p,y=>by
  simp only [List.cons_append,posL,sumW,posL_snoc t]
  rw [Nat.add_assoc p x.2 (sumW t)]
theorem unL_snoc:∀ (l:List (Nat × Nat)) (a:Nat) (y:Nat × Nat),unL (l++[y]) a=unL l a++[a+sumU l+uw y.1]
 | [],a,y=>by simp [unL,sumU]
 | x :: t,a,y=>by
  simp only [List.cons_append,unL,sumU,unL_snoc t]
  rw [Nat.add_assoc a (uw x.1) (sumU t)]
theorem unL_last:∀ (l:List (Nat × Nat)) (a:Nat),(unL l a).getD l.length 0=a+sumU l
 | [],a=>by simp [unL,sumU]
 | x :: t,a=>by
  simp only [unL,sumU,List.length_cons,List.getD_cons_succ,unL_last t]
  omega
theorem length_le:∀ l:List (Nat × Nat),Wide l→l.length≤sumW l
 | [],_=>Nat.le_refl _
 | x :: t,h=>by
  have h1:=h x (by simp)
  have h2:=length_le t (fun y hy=>h y (by simp [hy]))
  simp only [List.length_cons,sumW];omega
theorem scal_at (s:ByteArray) (pos:Nat):scal (s.extract pos s.size)=if (Utf8.decode s pos).1=65533∧(Utf8.decode s pos).2=1 then (0,0) else Utf8.decode s pos:=by
 have h:=tail_decode s pos 0
 rw [Nat.add_zero] at h
 unfold scal
 rw [h]
theorem okL_bad (s:ByteArray) (f pos:Nat) (h:pos<s.size) (hb:(Utf8.decode s pos).1=65533∧(Utf8.decode s pos).2=1):okL (itemsF s (f+1) pos)=false:=by
 rw [itemsF_step s f pos h];simp only [okL];rw [if_pos hb]
theorem okL_on (s:ByteArray) (f pos:Nat) (h:pos<s.size) (hb:¬ ((Utf8.decode s pos).1=65533∧(Utf8.decode s pos).2=1)):okL (itemsF s (f+1) pos)=okL (itemsF s f (pos+(Utf8.decode s pos).2)):=by
 rw [itemsF_step s f pos h];simp only [okL];rw [if_neg hb]
theorem okL_done (s:ByteArray) (f pos:Nat) (h:¬ pos<s.size):okL (itemsF s f pos)=true:=by rw [itemsF_end s f pos h];rfl
def Split (s:ByteArray) (l:List (Nat × Nat)) (f pos:Nat):Prop:=items s=l++itemsF s f pos∧sumW l=pos∧s.size - pos≤f∧pos≤s.size
theorem split_zero (s:ByteArray):Split s [] s.size 0:=⟨rfl,rfl,by omega,by omega⟩
theorem split_step {s:ByteArray} {l:List (Nat × Nat)} {f pos:Nat} (h:Split s l (f+1) pos) (hp:pos<s.size):Split s (l++[Utf8.decode s pos]) f (pos+(Utf8.decode s pos).2):=by
 obtain ⟨h1,h2,h3,h4⟩:=h
 have hw:=width_pos s pos hp
 refine ⟨?_,?_,by omega,width_le s pos hp⟩
 ·rw [h1,itemsF_step s f pos hp];simp
 ·rw [sumW_append,h2];rfl
theorem split_done {s:ByteArray} {l:List (Nat × Nat)} {f pos:Nat} (h:Split s l f pos) (hp:¬ pos<s.size):l=items s:=by
 obtain ⟨h1,h2,h3,h4⟩:=h
 rw [h1,itemsF_end s f pos hp,List.append_nil]
end Go.Proofs.YtmclaaonlhnbmaaGreatDoor.U
namespace Go.Proofs.YtmclaaonlhnbmaaGreatDoor.U
open Go.RowKit
open Go.Lib hiding intOf
def I (n:Nat):Value:=.int .i64 n
def Row (w:World) (g:Nat) (l:List Nat):Prop:=∀ i,i<l.length→w.cell? ⟨g,i,none⟩=some (.int .i64 (l.getD i 0:Nat))
def PlacesPost (s:ByteArray) (w:World) (e:Ending) (w':World):Prop :=
 if okB s=true then ∃ g1 c1 g2 c2,e=.returned (.tuple #[.slice (some ⟨g1,0,none⟩) ((items s).length+1) c1,.slice (some ⟨g2,0,none⟩) ((items s).length+1) c2,.bool true]) ∧
  Row w' g1 (posL (items s) 0)∧Row w' g2 (unL (items s) 0)∧Below w.heap.size w w'∧g1<w'.heap.size∧g2<w'.heap.size
 else e=.returned (.tuple #[.slice none 0 0,.slice none 0 0,.bool false])∧Below w.heap.size w w'
theorem row_of_owns {w:World} {B g c n:Nat} {l:List Nat} (h:w.ownsRow B 3 1 (.slice (some ⟨g,0,none⟩) n c) n (l.map I)):Row w g l∧g<w.heap.size:=by
 have hl:l.length=n:=by have:=h.1;simpa using this
 refine ⟨fun i hi=>?_,(h.lt g rfl).2⟩
 rw [h.cellAt i (by omega),List.getElem?_map,List.getElem?_eq_getElem hi]
 simp [I,hi]
theorem shape {w:World} {B n:Nat} {v:Value} {xs:List Value} (h:w.ownsRow B 3 1 v (n+1) xs):∃ g c,v=.slice (some ⟨g,0,none⟩) (n+1) c:=by
 rcases h.2 with ⟨_,h0⟩|⟨g,cap,cur,hv,_⟩
 ·omega
 ·exact ⟨g,cap,hv⟩
theorem places_fin {s:ByteArray} {w w':World} {l:List (Nat × Nat)} {g1 c1 g2 c2 B:Nat} (hok:okB s=true) (hl:l=items s)
  (h1:w'.ownsRow B 3 1 (.slice (some ⟨g1,0,none⟩) (l.length+1) c1) (l.length+1) ((posL l 0).map I)) (h2:w'.ownsRow B 3 1 (.slice (some ⟨g2,0,none⟩) (l.length+1) c2) (l.length+1) ((unL l 0).map I))
  (hb:Below w.heap.size w w'):PlacesPost s w (.returned (.tuple #[.slice (some ⟨g1,0,none⟩) (l.length+1) c1,.slice (some ⟨g2,0,none⟩) (l.length+1) c2,.bool true])) w':=by
 subst hl
 unfold PlacesPost
 rw [if_pos hok]
 obtain ⟨r1,s1⟩:=row_of_owns h1
 obtain ⟨r2,s2⟩:=row_of_owns h2
 exact ⟨g1,c1,g2,c2,rfl,r1,r2,hb,s1,s2⟩
theorem places_bad {s:ByteArray} {w w':World} (hok:okB s=false) (hb:Below w.heap.size w w'):PlacesPost s w (.returned (.tuple #[.slice none 0 0,.slice none 0 0,.bool false])) w':=by
 unfold PlacesPost
 rw [if_neg (by rw [hok];simp)]
 exact ⟨rfl,hb⟩
theorem scalar_is (s:ByteArray) (w:World) (a b:Nat) (h0:0<s.size) (hs:s.size≤1099511627776) (h:scal s=(a,b)) :
  Calls Tryz.prog 138 #[.string s] w fun e w'=>e=.returned (.tuple #[.int .i64 a,.int .i64 b])∧w=w' :=
 (scalar_any s w h0 hs).mono fun e w' ⟨he,hw⟩=>by rw [h] at he;exact ⟨he,hw⟩
def Two (w0:World) (B:Nat) (s:ByteArray) (bv uv av:Value) (wr:World):Prop :=
 ∃ (l:List (Nat × Nat)) (f pos g1 c1 g2 c2:Nat),av=.int .i64 pos∧bv=.slice (some ⟨g1,0,none⟩) (l.length+1) c1∧uv=.slice (some ⟨g2,0,none⟩) (l.length+1) c2 ∧
  Split s l f pos∧okL (itemsF s f pos)=okB s ∧
  wr.ownsRow B 3 1 (.slice (some ⟨g1,0,none⟩) (l.length+1) c1) (l.length+1) ((posL l 0).map I)∧wr.ownsRow B 3 1 (.slice (some ⟨g2,0,none⟩) (l.length+1) c2) (l.length+1) ((unL l 0).map I) ∧
  g1≠g2∧Below B w0 wr
theorem start (w:World) (s:ByteArray) (e:TypeId) (he:e=3):Two w w.heap.size s (.slice (some ⟨w.heap.size,0,none⟩) 1 1) (.slice (some ⟨w.heap.size+1,0,none⟩) 1 1) (.int .i64 0)
  ((w.alloc (.cells #[.int .i64 0] e)).alloc (.cells #[.int .i64 0] e)):=by
 subst he
 have h1:=World.ownsRow_lit (base:=w.heap.size) (e:=3) (size:=1) w #[.int .i64 0] 1 (Nat.le_refl _) (by decide) rfl
 have h2:=World.ownsRow_lit (base:=w.heap.size) (e:=3) (size:=1) (w.alloc (.cells #[.int .i64 0] 3)) #[.int .i64 0] 1 (by rw [World.size_alloc];omega) (by decide) rfl
 rw [World.size_alloc] at h2
 exact ⟨[],s.size,0,w.heap.size,1,w.heap.size+1,1,rfl,rfl,rfl,split_zero s,rfl,h1.alloc _,h2,by omega,((Below.refl _ _).alloc (Nat.le_refl _) _).alloc (by rw [World.size_alloc];omega) _⟩
theorem info3:(Tryz.prog.info? 3).map (fun i=>(i.zero,i.size,i.bytes))=some (some (.int .i64 0),1,8):=by kernel_rfl
theorem two_step {w0 wr w1 w2:World} {s:ByteArray} {l:List (Nat × Nat)} {f pos m g1 c1 g2 c2 u:Nat} {v1 v2:Value} {o1 o2:Obj} {x y:Int}
  (hS:Split s l f pos) (hA:okL (itemsF s f pos)=okB s) (hm:l.length=m) (hp:pos<s.size) (hgood:¬ ((Utf8.decode s pos).1=65533∧(Utf8.decode s pos).2=1)) (hu:uw (Utf8.decode s pos).1=u)
  (hx:x=((pos+(Utf8.decode s pos).2:Nat):Int)) (hy:y=((sumU l+u:Nat):Int))
  (h1:wr.ownsRow w0.heap.size 3 1 (.slice (some ⟨g1,0,none⟩) (m+1) c1) (m+1) ((posL l 0).map I)) (h2:wr.ownsRow w0.heap.size 3 1 (.slice (some ⟨g2,0,none⟩) (m+1) c2) (m+1) ((unL l 0).map I))
  (hne:g1≠g2) (hb:Below w0.heap.size w0 wr)
  (hv1:w1.ownsRow w0.heap.size 3 1 v1 (m+1+1) ((posL l 0).map I++[.int .i64 x])) (hg1:(wr.alloc o1).grownBy w1 (some g1)) (hat1:v1.ownBlock=some g1∨v1.ownBlock=some (wr.alloc o1).heap.size)
  (hv2:w2.ownsRow w0.heap.size 3 1 v2 (m+1+1) ((unL l 0).map I++[.int .i64 y])) (hg2:(w1.alloc o2).grownBy w2 (some g2)) (hat2:v2.ownBlock=some g2∨v2.ownBlock=some (w1.alloc o2).heap.size) :
  Two w0 w0.heap.size s v1 v2 (.int .i64 x) w2:=by
 obtain ⟨k,rfl⟩:∃ k,f=k+1:=⟨f - 1,by have:=hS.2.2.1;omega⟩
 have hlt1:=h1.lt g1 rfl
 have hlt2:=h2.lt g2 rfl
 have hsz1:=hg1.size
 have hsz2:=hg2.size
 rw [World.size_alloc] at hsz1 hsz2 hat1 hat2
 have hsum:sumW l=pos:=hS.2.1
 have e1:(posL l 0).map I++[.int .i64 x]=(posL (l++[Utf8.decode s pos]) 0).map I:=by
  rw [posL_snoc,hsum,hx];simp [I]
 have e2:(unL l 0).map I++[.int .i64 y]=(unL (l++[Utf8.decode s pos]) 0).map I:=by
  rw [unL_snoc,hu,hy];simp [I]
 rw [e1] at hv1
 rw [e2] at hv2
 have hlen:(l++[Utf8.decode s pos]).length=m+1:=by simp [hm]
 obtain ⟨g1',c1',rfl⟩:=shape hv1
 obtain ⟨g2',c2',rfl⟩:=shape hv2
 have hl1:=hv1.lt g1' rfl
 have hl2:=hv2.lt g2' rfl
 simp only [Value.ownBlock,Option.some.injEq] at hat1 hat2
 have hk1:=(hv1.alloc o2).kept hg2 (.inr (by simp only [Value.ownBlock,ne_eq,Option.some.injEq];omega))
 refine ⟨l++[Utf8.decode s pos],k,pos+(Utf8.decode s pos).2,g1',c1',g2',c2',by rw [hx],by rw [hlen],by rw [hlen],split_step hS hp,?_,?_,?_,by omega,?_⟩
 ·rw [← hA,okL_on s k pos hp hgood]
 ·rw [hlen];exact hk1
 ·rw [hlen];exact hv2
 ·exact (((hb.alloc hb.size o1).grown hg1 (by rw [World.size_alloc];have:=hb.size;omega) (fun j hj=>by cases hj;omega)).alloc (by have:=hb.size;omega) o2).grown hg2 (by rw [World.size_alloc];have:=hb.size;omega) (fun j hj=>by cases hj;omega)
theorem keep_units {w w1:World} {o:Obj} {B g1 c1 g2 c2 n k:Nat} {xs:List Value} (h:w.ownsRow B 3 1 (.slice (some ⟨g2,0,none⟩) n c2) n xs) (hne:g1≠g2) (hg:(w.alloc o).grownBy w1 (Value.slice (some ⟨g1,0,none⟩) k c1).ownBlock) :
  w1.ownsRow B 3 1 (.slice (some ⟨g2,0,none⟩) n c2) n xs:=(h.alloc o).kept hg (.inr (by simp only [Value.ownBlock,ne_eq,Option.some.injEq];omega))
theorem last_cell {w:World} {B g c m:Nat} {l:List (Nat × Nat)} (hm:l.length=m) (h:w.ownsRow B 3 1 (.slice (some ⟨g,0,none⟩) (m+1) c) (m+1) ((unL l 0).map I)):w.cell? ⟨g,m,none⟩=some (.int .i64 (sumU l:Nat)):=by
 have hl:=unL_last l 0
 rw [h.cellAt m (by omega),List.getElem?_map]
 rw [hm,Nat.zero_add,List.getD_eq_getElem?_getD] at hl
 have hlt:m<(unL l 0).length:=by rw [unL_length];omega
 rw [List.getElem?_eq_getElem hlt] at hl ⊢
 simp only [Option.getD_some] at hl
 rw [hl];rfl
set_option maxHeartbeats 4000000 in
set_option maxRecDepth 100000 in
theorem places_any (s:ByteArray) (w:World) (hs:s.size≤1048576) :
  Calls Tryz.prog 94 #[.string s] w (PlacesPost s w):=by
 have HST:=hid (start w s 3 rfl)
 obtain ⟨i0,hi,hz0,hz1,hz2⟩:=info_parts info3
 go_enter Tryz.func94,Tryz.ntmps94
 go_wp2
 go_loopw [5,6,7] (fun bv uv av wr=>Two w w.heap.size s bv uv av wr) (fun _ _ av _=>s.size - (intOf av).toNat)
 case atStart=>exact HST.out
 case round =>
  clear HST
  obtain ⟨l,f,pos,g1,c1,g2,c2,rfl,rfl,rfl,hS,hA,h1,h2,hne,hb⟩:=hrel
  obtain ⟨m,hm⟩:∃ m,l.length=m:=⟨_,rfl⟩
  rw [hm] at h1 h2 ⊢
  have HS:=hid hS
  have HA:=hid hA
  have hpos:pos≤s.size:=hS.2.2.2
  have hlen:m≤1048576:=by
   have h3:=itemsF_wide s s.size 0
   have h4:=hS.1
   have h5:=hS.2.1
   have hW:Wide l:=fun y hy=>h3 y (by show y∈items s;rw [h4];simp [hy])
   have:=length_le l hW
   omega
  have hsu:sumU l≤2097152:=by
   have h3:=itemsF_wide s s.size 0
   have h4:=hS.1
   have h5:=hS.2.1
   have hW:Wide l:=fun y hy=>h3 y (by show y∈items s;rw [h4];simp [hy])
   have:=sumU_le l hW
   omega
  have hlast:=last_cell (w:=wr) hm h2
  have HM:=hid hm
  clear hS hA hm
  by_cases hp:pos<s.size
  ·by_cases hbad:(Utf8.decode s pos).1=65533∧(Utf8.decode s pos).2=1
   ·have hsc:scal (s.extract pos s.size)=(0,0):=by rw [scal_at,if_pos hbad]
    have cS:=scalar_is (s.extract pos s.size) wr 0 0 (by rw [ext_size];omega) (by rw [ext_size];omega) hsc
    have hok:Hid (okB s=false):=hid (by
     obtain ⟨k,rfl⟩:∃ k,f=k+1:=⟨f - 1,by have:=HS.out.2.2.1;omega⟩
     rw [← HA.out];exact okL_bad s k pos hp hbad)
    clear hbad hsc
    go_wp2_with (go_at_call 138;refine cS.mono ?_;rintro e w1 ⟨rfl,rfl⟩)
    go_ret3
    exact places_bad hok.out hb
   ·obtain ⟨d,hd⟩:∃ d,Utf8.decode s pos=d:=⟨_,rfl⟩
    have hsc:scal (s.extract pos s.size)=(d.1,d.2):=by rw [scal_at,if_neg hbad,hd]
    have hw1:=width_pos s pos hp
    have hw2:=width_le s pos hp
    have hr:=rune_le s pos
    have HG:=hid hbad
    have HD:=hid hd
    rw [hd] at hw1 hw2 hr
    obtain ⟨r,wd⟩:=d
    simp only at hw1 hw2 hr hsc
    have cS:=scalar_is (s.extract pos s.size) wr r wd (by rw [ext_size];omega) (by rw [ext_size];omega) hsc
    obtain ⟨S,hSe⟩:∃ S,sumU l=S:=⟨_,rfl⟩
    have HSe:=hid hSe
    rw [hSe] at hlast hsu
    clear hbad hsc hd hSe
    clear hlast
    have hn0:((wd:Int)==0)=false:=by simp;omega
    by_cases h65:65536≤r
    ·have h65z:(65536:Int)≤(r:Int):=by omega
     have hu:Hid (uw (Utf8.decode s pos).1=2):=hid (by rw [HD.out];unfold uw;rw [if_pos (by simp only;omega)])
     go_wp2_with (first
      | (go_at_call 138;refine cS.mono ?_;rintro e w1 ⟨rfl,rfl⟩)
      | (at_builtin;refine wpList_append_own_at _ rfl (.tmp 31) (.tmp 33) 100 rfl w.heap.size 3 i0 (.int .i64 0) 1 8 Tryz.underlying100 hi hz0 hz1 hz2 rfl (by decide) _ _ _ rfl (h1.alloc _) ⟨wr.heap.size,0,none⟩ 1 1 [.int .i64 ((pos:Int)+(wd:Int))] rfl rfl (cell_one_new _ _ _) (by intro u hu;simp at hu;subst hu;rfl) (by unfold maxLen;omega) (by omega) (by have:=hb.size;simp;omega) ?_;intro v1 w1 hv1 hg1 _ hat1;have hk:=keep_units h2 hne hg1;have hlast1:=last_cell HM.out hk;rw [HSe.out] at hlast1)
      | (at_builtin;refine wpList_append_own_at _ rfl (.tmp 35) (.tmp 44) 100 rfl w.heap.size 3 i0 (.int .i64 0) 1 8 Tryz.underlying100 hi hz0 hz1 hz2 rfl (by decide) _ _ _ rfl (hk.alloc _) ⟨w1.heap.size,0,none⟩ 1 1 [.int .i64 ((S:Int)+2)] rfl rfl (cell_one_new _ _ _) (by intro u hu;simp at hu;subst hu;rfl) (by unfold maxLen;omega) (by omega) (by have:=hb.size;have:=hg1.size;simp at this ⊢;omega) ?_;intro v2 w2 hv2 hg2 _ hat2))
     go_roundw
     case rel=>exact two_step HS.out HA.out HM.out hp HG.out hu.out (by rw [HD.out];omega) (by rw [HSe.out];omega) h1 h2 hne hb hv1 hg1 hat1 hv2 hg2 hat2
     case measure=>simp [intOf];omega
    ·have h65z:decide ((65536:Int)≤(r:Int))=false:=decide_eq_false (by omega)
     have hu:Hid (uw (Utf8.decode s pos).1=1):=hid (by rw [HD.out];unfold uw;rw [if_neg (by simp only;omega)])
     clear h65
     go_wp2_with (first
      | (go_at_call 138;refine cS.mono ?_;rintro e w1 ⟨rfl,rfl⟩)
      | (at_builtin;refine wpList_append_own_at _ rfl (.tmp 31) (.tmp 33) 100 rfl w.heap.size 3 i0 (.int .i64 0) 1 8 Tryz.underlying100 hi hz0 hz1 hz2 rfl (by decide) _ _ _ rfl (h1.alloc _) ⟨wr.heap.size,0,none⟩ 1 1 [.int .i64 ((pos:Int)+(wd:Int))] rfl rfl (cell_one_new _ _ _) (by intro u hu;simp at hu;subst hu;rfl) (by unfold maxLen;omega) (by omega) (by have:=hb.size;simp;omega) ?_;intro v1 w1 hv1 hg1 _ hat1;have hk:=keep_units h2 hne hg1;have hlast1:=last_cell HM.out hk;rw [HSe.out] at hlast1)
      | (at_builtin;refine wpList_append_own_at _ rfl (.tmp 35) (.tmp 44) 100 rfl w.heap.size 3 i0 (.int .i64 0) 1 8 Tryz.underlying100 hi hz0 hz1 hz2 rfl (by decide) _ _ _ rfl (hk.alloc _) ⟨w1.heap.size,0,none⟩ 1 1 [.int .i64 ((S:Int)+1)] rfl rfl (cell_one_new _ _ _) (by intro u hu;simp at hu;subst hu;rfl) (by unfold maxLen;omega) (by omega) (by have:=hb.size;have:=hg1.size;simp at this ⊢;omega) ?_;intro v2 w2 hv2 hg2 _ hat2))
     go_roundw
     case rel=>exact two_step HS.out HA.out HM.out hp HG.out hu.out (by rw [HD.out];omega) (by rw [HSe.out];omega) h1 h2 hne hb hv1 hg1 hat1 hv2 hg2 hat2
     case measure=>simp [intOf];omega
  ·have hok:Hid (okB s=true):=hid (by rw [← HA.out];exact okL_done s f pos hp)
   go_wp2
   go_ret3
   rw [← HM.out] at h1 h2 ⊢
   exact places_fin hok.out (split_done HS.out hp) h1 h2 hb
end Go.Proofs.YtmclaaonlhnbmaaGreatDoor.U
namespace Go.Proofs.YtmclaaonlhnbmaaGreatDoor.U
open Go.RowKit
open Go.Lib hiding intOf
theorem ref_right_big (s:ByteArray) (w:World) (hs:s.size≤1048576) :
  Calls Tryz.prog 41 #[.string s] w fun e w'=>e=.returned (.bool (okB s))∧Below w.heap.size w w':=by
 have cP:=places_any s w hs
 unfold PlacesPost at cP
 cases hok:okB s
 ·rw [hok] at cP
  simp only [Bool.false_eq_true,if_false] at cP
  go_enter Tryz.func41,Tryz.ntmps41
  go_wp2_with (go_at_call 94;refine cP.mono ?_;rintro e w1 ⟨rfl,hb⟩)
  go_ret
  exact ⟨rfl,hb⟩
 ·rw [hok] at cP
  simp only [if_true] at cP
  go_enter Tryz.func41,Tryz.ntmps41
  go_wp2_with (go_at_call 94;refine cP.mono ?_;rintro e w1 ⟨g1,k1,g2,k2,rfl,_,_,hb,_,_⟩)
  go_ret
  exact ⟨rfl,hb⟩
theorem ref_right (s:ByteArray) (w:World) (hs:s.size≤1000000) :
  Calls Tryz.prog 41 #[.string s] w fun e w'=>e=.returned (.bool (okB s))∧Below w.heap.size w w':=ref_right_big s w (by omega)
end Go.Proofs.YtmclaaonlhnbmaaGreatDoor.U
namespace Go.Proofs.YtmclaaonlhnbmaaGreatDoor.S
open Go.RowKit
open Go.Lib hiding intOf
open U L
theorem tl_get (s:ByteArray) {i:Nat} (h:i<s.size):s.toList[i]?=some s[i]:=by
 have:=tl_drop s h
 rw [← List.head?_drop,this];rfl
theorem get_tl (s:ByteArray) {i:Nat} {c:UInt8} (h:s.toList[i]?=some c):i<s.size∧s.get! i=c:=by
 have hi:i<s.size:=by rw [← tl_len];exact (List.getElem?_eq_some_iff.1 h).1
 refine ⟨hi,?_⟩
 rw [tl_get s hi] at h
 rw [Utf8W.get!_of_lt s i hi]
 exact Option.some.inj h
theorem bnd_byte {s:ByteArray} {i:Nat} {c:UInt8} (hok:okB s=true) (h:s.toList[i]?=some c) (hc:c.toNat<128):Bnd s i∧Bnd s (i+1):=by
 obtain ⟨h1,h2⟩:=get_tl s h
 exact bnd_low hok h1 (by rw [h2];exact hc)
theorem tl_mk (s:ByteArray):(⟨s.toList.toArray⟩:ByteArray)=s:=by
 rw [ByteArray.toList_eq]
theorem wid_is (s:ByteArray):wid s.toList=(Utf8.decode s 0).2:=by unfold wid;rw [tl_mk]
theorem items_first (s:ByteArray) (h:0<s.size):∃ l,items s=Utf8.decode s 0 :: l:=by
 unfold items
 obtain ⟨n,hn⟩:∃ n,s.size=n+1:=⟨s.size - 1,by omega⟩
 rw [hn,itemsF_step s n 0 h]
 exact ⟨_,rfl⟩
theorem bnd_wid {s:ByteArray} (h:0<s.size):Bnd s (wid s.toList):=by
 obtain ⟨l,hl⟩:=items_first s h
 exact ⟨[Utf8.decode s 0],l,hl,by rw [wid_is];simp [sumW]⟩
theorem bnd_min {s:ByteArray} (h:0<s.size) {a:Nat} (hb:Bnd s a) (ha:0<a):wid s.toList≤a:=by
 obtain ⟨l,hl⟩:=items_first s h
 obtain ⟨l1,l2,h1,h2⟩:=hb
 rw [hl] at h1
 cases l1 with
 | nil=>simp [sumW] at h2;omega
 | cons x y =>
  simp only [List.cons_append,List.cons.injEq] at h1
  rw [← h2,wid_is,h1.1]
  simp [sumW]
theorem nmc_low {c:UInt8} (h:nmc c=true):c.toNat<128:=by
 unfold nmc lett figu at h
 simp [UInt8.le_iff_toNat_le] at h
 rcases h with ((h|h)|h)|h
 ·omega
 ·omega
 ·subst h;decide
 ·omega
theorem tw_last {p:UInt8→Bool} {r:By} {i:Nat} (h:i<(r.takeWhile p).length):∃ c,r[i]?=some c∧p c=true:=by
 obtain ⟨c,hc⟩:∃ c,(r.takeWhile p)[i]?=some c:=⟨_,List.getElem?_eq_getElem h⟩
 refine ⟨c,?_,?_⟩
 ·rw [← tw_take p r,List.getElem?_take_of_lt h] at hc
  exact hc
 ·have hm:c∈r.takeWhile p:=List.mem_of_getElem? hc
  have:=List.all_takeWhile (p:=p) (l:=r)
  exact (List.all_eq_true.1 this) c hm
theorem quoTail_last:∀ (r:By) (n:Nat),quoTail r=some n→r[n - 1]?=some 34
 | [],n,h=>by simp [quoTail] at h
 | c :: r,n,h=>by
  simp only [quoTail] at h
  split at h
  ·cases h
  ·split at h
   ·rename_i h34
    cases h;simp [h34]
   ·cases hq:quoTail r with
    | none=>rw [hq] at h;cases h
    | some m =>
     rw [hq] at h
     simp only [Option.map_some,Option.some.injEq] at h
     subst h
     have h1:=quoTail_last r m hq
     have h2:=(quoTail_le r m hq).1
     obtain ⟨k,rfl⟩:∃ k,m=k+1:=⟨m - 1,by omega⟩
     simpa using h1
theorem word_bnd {s:ByteArray} (hok:okB s=true) (h:0<s.size):Bnd s (wordL true s.toList).2:=by
 have hl:=tl_drop s h
 rw [List.drop_zero] at hl
 have key:∀ k c,1≤k→s.toList[k - 1]?=some c→c.toNat<128→Bnd s k:=fun k c hk h1 h2=>by
  have:=(bnd_byte hok h1 h2).2
  rwa [show k - 1+1=k by omega] at this
 unfold wordL
 generalize s.toList.drop (0+1)=r at hl
 generalize s[0]=z at hl
 split
 ·rename_i h1
  simp only
  rw [hl] at h1 ⊢
  simp only [nameLen] at h1 ⊢
  split at h1
  ·rename_i hz
   rw [if_pos hz]
   cases hm:(r.takeWhile nmc).length with
   | zero=>exact key 1 z (Nat.le_refl _) (by rw [hl];rfl) (nmc_low (by unfold nmc;simp [hz]))
   | succ m =>
    obtain ⟨c,h3,h4⟩:=tw_last (p:=nmc) (r:=r) (i:=m) (by omega)
    exact key (1+(m+1)) c (by omega) (by rw [hl,show 1+(m+1) - 1=m+1 by omega];simpa using h3) (nmc_low h4)
  ·omega
 ·split
  ·rename_i h1
   simp only
   obtain ⟨m,hm⟩:∃ m,numLen s.toList=m+1:=⟨numLen s.toList - 1,by omega⟩
   obtain ⟨c,h3,h4⟩:=tw_last (p:=figu) (r:=s.toList) (i:=m) (by unfold numLen at hm;omega)
   rw [hm]
   exact key (m+1) c (by omega) (by rw [show m+1 - 1=m by omega];exact h3) (nmc_low (by unfold nmc;simp [h4]))
  ·split
   ·rename_i h1
    simp only
    rw [hl] at h1 ⊢
    simp only [quoLen] at h1 ⊢
    split at h1
    ·rename_i hz
     rw [if_pos hz]
     cases hq:quoTail r with
     | none=>rw [hq] at h1;simp at h1
     | some n =>
      simp only
      have h3:=quoTail_last r n hq
      have h4:=(quoTail_le r n hq).1
      obtain ⟨k,rfl⟩:∃ k,n=k+1:=⟨n - 1,by omega⟩
      exact key (k+1+1) 34 (by omega) (by rw [hl];simpa using h3) (by decide)
    ·omega
   ·split
    ·rename_i h1
     simp only
     rw [hl] at h1
     simp at h1
     exact key 1 z (Nat.le_refl _) (by rw [hl];rfl) (by rw [h1];decide)
    ·simp only
     unfold markLen
     split
     ·rename_i h2
      rw [hl] at h2
      match r,h2,hl with
      | b :: u,h2,hl =>
       refine key 2 b (by omega) (by rw [hl];rfl) ?_
       simp [two] at h2
       rcases h2 with (((((⟨_,h⟩|⟨_,h⟩)|⟨_,h⟩)|⟨_,h⟩)|⟨_,h⟩)|⟨_,h⟩)|⟨_,h⟩ <;> (rw [h];decide)
     ·rw [if_pos rfl]
      exact bnd_wid h
theorem suf_ok {s:ByteArray} {m:Nat} (hok:okB s=true) (h:Bnd s m):okB (s.extract m s.size)=true:=(cut_ok hok h).2.1
def OtherP (s:ByteArray) (n:Nat):Prop:=(1≤n∧n≤s.size∧okB (s.extract 0 n)=true∧∀ j,1≤j→j<n→okB (s.extract 0 j)=false)∨(n=1∧∀ j,1≤j→j≤4→j≤s.size→okB (s.extract 0 j)=false)
theorem ok_low (c:UInt8) (h:c.toNat<128) (s:ByteArray) (hs:s.toList=[c]):okB s=true:=by
 have hz:s.size=1:=by rw [← tl_len,hs];rfl
 have hd:Utf8.decode s 0=(c.toNat,1):=by
  have hg:s.get! 0=c:=(get_tl s (i:=0) (c:=c) (by rw [hs];rfl)).2
  rw [decode_at,hg,decodeN_low _ _ _ _ _ h]
 unfold okB items
 rw [hz,itemsF_step s 0 0 (by omega),hd,itemsF_end s 0 _ (by simp [hz])]
 simp only [okL]
 rw [if_neg (by omega)]
theorem OtherP.low {s:ByteArray} {n:Nat} (h:OtherP s n) (h0:0<s.size) (hc:s[0].toNat<128):n=1:=by
 have h1:okB (s.extract 0 1)=true:=ok_low s[0] hc _ (by
  rw [ext_take]
  have:=tl_drop s h0
  rw [List.drop_zero] at this
  rw [this];rfl)
 rcases h with ⟨h2,_,_,h4⟩|⟨h2,_⟩
 ·by_cases hn:n=1
  ·exact hn
  ·rw [h4 1 (Nat.le_refl _) (by omega)] at h1;cases h1
 ·exact h2
theorem OtherP.right {s:ByteArray} {n:Nat} (h:OtherP s n) (h0:0<s.size) (hok:okB s=true):n=wid s.toList:=by
 have hw:=bnd_wid h0
 have hwb:=wid_bounds (l:=s.toList) (by intro e;have:=tl_len s;rw [e] at this;simp at this;omega)
 rw [tl_len] at hwb
 have hw4:wid s.toList≤4:=by rw [wid_is,decode_at];exact decodeN_wide _ _ _ _ _
 have hwo:=(bnd_iff hok hwb.2).1 hw
 rcases h with ⟨h1,h2,h3,h4⟩|⟨h1,h2⟩
 ·have hb:=(bnd_iff hok h2).2 h3
  have hle:=bnd_min h0 hb (by omega)
  by_cases e:wid s.toList<n
  ·rw [h4 _ hwb.1 e] at hwo;cases hwo
  ·omega
 ·rw [h2 _ hwb.1 hw4 hwb.2] at hwo;cases hwo
theorem two_or (s:ByteArray) (h:2≤s.size):∃ t:By,(s.extract 0 2).toList=t∧(two s.toList=((t==[58,61])||(t==[61,61])||(t==[33,61])||(t==[60,61])||(t==[62,61])||(t==[38,38])||(t==[124,124]))):=by
 refine ⟨_,rfl,?_⟩
 rw [ext_take]
 have hl:=tl_len s
 match hh:s.toList with
 | []=>rw [hh] at hl;simp at hl;omega
 | [a]=>rw [hh] at hl;simp at hl;omega
 | a :: b :: r =>
  simp only [List.take_succ_cons,List.take_zero,two]
  have e:∀ x y:UInt8,([a,b]==[x,y])=(a==x&&b==y):=fun x y=>by
   show (a==x&&(b==y&&true))=_
   rw [Bool.and_true]
  simp only [e]
theorem two_short (s:ByteArray) (h:s.size<2):two s.toList=false:=by
 have hl:=tl_len s
 match hh:s.toList with
 | []=>rfl
 | [a]=>rfl
 | a :: b :: r=>rw [hh] at hl;simp at hl;omega
def OtherR (s:ByteArray) (n:Nat):Prop:=(two s.toList=true∧n=2)∨(two s.toList=false∧OtherP s n)
set_option maxHeartbeats 4000000 in
set_option maxRecDepth 20000 in
theorem other_loop (s:ByteArray) (w:World) (hs:s.size≤1000000) (ht:two s.toList=false) (h0:0<s.size) :
  Calls Tryz.prog 99 #[.string s] w fun e w'=>∃ n:Nat,e=.returned (.int .i64 n)∧OtherP s n∧Below w.heap.size w w':=by
 have CR:=hid (fun (n:Nat) (hn:n≤s.size) W=>ref_right (s.extract 0 n) W (by rw [size_extract s 0 n (by omega) hn];omega))
 have HB0:=hid (Below.refl w.heap.size w)
 have hor:(∃ _:2≤s.size,((s.extract 0 2).toList==[58,61])=false∧((s.extract 0 2).toList==[61,61])=false∧((s.extract 0 2).toList==[33,61])=false∧((s.extract 0 2).toList==[60,61])=false∧((s.extract 0 2).toList==[62,61])=false∧((s.extract 0 2).toList==[38,38])=false∧((s.extract 0 2).toList==[124,124])=false)∨s.size<2:=by
  by_cases h2:2≤s.size
  ·left
   obtain ⟨t,h1,h3⟩:=two_or s h2
   rw [ht] at h3
   simp only [Bool.false_eq,Bool.or_eq_false_iff] at h3
   obtain ⟨⟨⟨⟨⟨⟨t1,t2⟩,t3⟩,t4⟩,t5⟩,t6⟩,t7⟩:=h3
   rw [h1]
   exact ⟨h2,t1,t2,t3,t4,t5,t6,t7⟩
  ·exact .inr (by omega)
 clear ht
 rcases hor with ⟨h2,t1,t2,t3,t4,t5,t6,t7⟩|h2
 ·have hd:decide ((2:Int)≤(s.size:Int))=true:=by simp;omega
  go_enter Tryz.func99,Tryz.ntmps99
  go_wp2_with fail
  clear t1 t2 t3 t4 t5 t6 t7
  go_loopw [3] (fun iv wr=>∃ i:Nat,iv=.int .i64 i∧1≤i∧i≤5∧i≤s.size+1∧Hid (∀ j,1≤j→j<i→okB (s.extract 0 j)=false)∧Hid (Below w.heap.size w wr)) (fun iv _=>5 - (intOf iv).toNat)
  case atStart=>exact ⟨1,rfl,Nat.le_refl _,by omega,by omega,hid (fun j h1 h2=>by omega),HB0⟩
  case round =>
   obtain ⟨i,rfl,h1,h5,hi,HJ,HL⟩:=hrel
   clear HB0
   by_cases h4:i≤4
   ·by_cases hsz:i≤s.size
    ·have e1:decide ((i:Int)≤4)=true:=by simp;omega
     have e2:decide ((i:Int)≤(s.size:Int))=true:=by simp;omega
     have c1:=CR.out i hsz wr
     obtain ⟨b,hb⟩:∃ b,okB (s.extract 0 i)=b:=⟨_,rfl⟩
     rw [hb] at c1
     have HOK:=hid hb
     clear hb
     go_wp2_with fail
     refine c1.mono ?_
     rintro e w2 ⟨rfl,hb2⟩
     have HL2:=hid (HL.out.trans (hb2.mono HL.out.size))
     clear c1 hb2
     cases b
     ·go_wp2_with fail
      go_roundw
      case rel=>exact ⟨i+1,by go_num,by omega,by omega,by omega,hid (fun j h1 h2=>by
       by_cases e:j<i
       ·exact HJ.out j h1 e
       ·rw [show j=i by omega];exact HOK.out),HL2⟩
      case measure=>simp [intOf];omega
     ·go_wp2_with fail
      go_ret
      exact ⟨i,rfl,.inl ⟨h1,hsz,HOK.out,HJ.out⟩,HL2.out⟩
    ·have e1:decide ((i:Int)≤4)=true:=by simp;omega
     have e2:decide (i≤s.size)=false:=by simpa using hsz
     have e3:decide ((i:Int)≤(s.size:Int))=false:=by simp;omega
     go_wp2_with fail
     go_ret
     exact ⟨1,rfl,.inr ⟨rfl,fun j g1 g2 g3=>HJ.out j g1 (by omega)⟩,HL.out⟩
   ·have e1:decide ((i:Int)≤4)=false:=by simp;omega
    go_wp2_with fail
    go_ret
    exact ⟨1,rfl,.inr ⟨rfl,fun j g1 g2 g3=>HJ.out j g1 (by omega)⟩,HL.out⟩
 ·have hd:decide ((2:Int)≤(s.size:Int))=false:=by simp;omega
  go_enter Tryz.func99,Tryz.ntmps99
  go_wp2_with fail
  go_loopw [3] (fun iv wr=>∃ i:Nat,iv=.int .i64 i∧1≤i∧i≤5∧i≤s.size+1∧Hid (∀ j,1≤j→j<i→okB (s.extract 0 j)=false)∧Hid (Below w.heap.size w wr)) (fun iv _=>5 - (intOf iv).toNat)
  case atStart=>exact ⟨1,rfl,Nat.le_refl _,by omega,by omega,hid (fun j h1 h2=>by omega),HB0⟩
  case round =>
   obtain ⟨i,rfl,h1,h5,hi,HJ,HL⟩:=hrel
   clear HB0
   by_cases h4:i≤4
   ·by_cases hsz:i≤s.size
    ·have e1:decide ((i:Int)≤4)=true:=by simp;omega
     have e2:decide ((i:Int)≤(s.size:Int))=true:=by simp;omega
     have c1:=CR.out i hsz wr
     obtain ⟨b,hb⟩:∃ b,okB (s.extract 0 i)=b:=⟨_,rfl⟩
     rw [hb] at c1
     have HOK:=hid hb
     clear hb
     go_wp2_with fail
     refine c1.mono ?_
     rintro e w2 ⟨rfl,hb2⟩
     have HL2:=hid (HL.out.trans (hb2.mono HL.out.size))
     clear c1 hb2
     cases b
     ·go_wp2_with fail
      go_roundw
      case rel=>exact ⟨i+1,by go_num,by omega,by omega,by omega,hid (fun j h1 h2=>by
       by_cases e:j<i
       ·exact HJ.out j h1 e
       ·rw [show j=i by omega];exact HOK.out),HL2⟩
      case measure=>simp [intOf];omega
     ·go_wp2_with fail
      go_ret
      exact ⟨i,rfl,.inl ⟨h1,hsz,HOK.out,HJ.out⟩,HL2.out⟩
    ·have e1:decide ((i:Int)≤4)=true:=by simp;omega
     have e2:decide (i≤s.size)=false:=by simpa using hsz
     have e3:decide ((i:Int)≤(s.size:Int))=false:=by simp;omega
     go_wp2_with fail
     go_ret
     exact ⟨1,rfl,.inr ⟨rfl,fun j g1 g2 g3=>HJ.out j g1 (by omega)⟩,HL.out⟩
   ·have e1:decide ((i:Int)≤4)=false:=by simp;omega
    go_wp2_with fail
    go_ret
    exact ⟨1,rfl,.inr ⟨rfl,fun j g1 g2 g3=>HJ.out j g1 (by omega)⟩,HL.out⟩
set_option maxHeartbeats 4000000 in
set_option maxRecDepth 20000 in
theorem other_two (s:ByteArray) (w:World) (ht:two s.toList=true) :
  Calls Tryz.prog 99 #[.string s] w fun e w'=>e=.returned (.int .i64 2)∧w=w':=by
 have h2:2≤s.size:=by have:=two_len ht;rwa [tl_len] at this
 obtain ⟨t,h1,h3⟩:=two_or s h2
 rw [ht,← h1] at h3
 clear h1 ht
 have hd:decide ((2:Int)≤(s.size:Int))=true:=by simp;omega
 cases e0:((s.extract 0 2).toList==[58,61])
 rotate_left
 ·clear h3
  go_enter Tryz.func99,Tryz.ntmps99
  go_wp2_with fail
  go_ret
  exact ⟨rfl,rfl⟩
 ·rw [e0] at h3
  cases e1:((s.extract 0 2).toList==[61,61])
  rotate_left
  ·clear h3
   go_enter Tryz.func99,Tryz.ntmps99
   go_wp2_with fail
   go_ret
   exact ⟨rfl,rfl⟩
  ·rw [e1] at h3
   cases e2:((s.extract 0 2).toList==[33,61])
   rotate_left
   ·clear h3
    go_enter Tryz.func99,Tryz.ntmps99
    go_wp2_with fail
    go_ret
    exact ⟨rfl,rfl⟩
   ·rw [e2] at h3
    cases e3:((s.extract 0 2).toList==[60,61])
    rotate_left
    ·clear h3
     go_enter Tryz.func99,Tryz.ntmps99
     go_wp2_with fail
     go_ret
     exact ⟨rfl,rfl⟩
    ·rw [e3] at h3
     cases e4:((s.extract 0 2).toList==[62,61])
     rotate_left
     ·clear h3
      go_enter Tryz.func99,Tryz.ntmps99
      go_wp2_with fail
      go_ret
      exact ⟨rfl,rfl⟩
     ·rw [e4] at h3
      cases e5:((s.extract 0 2).toList==[38,38])
      rotate_left
      ·clear h3
       go_enter Tryz.func99,Tryz.ntmps99
       go_wp2_with fail
       go_ret
       exact ⟨rfl,rfl⟩
      ·rw [e5] at h3
       cases e6:((s.extract 0 2).toList==[124,124])
       rotate_left
       ·clear h3
        go_enter Tryz.func99,Tryz.ntmps99
        go_wp2_with fail
        go_ret
        exact ⟨rfl,rfl⟩
       ·rw [e6] at h3
        simp at h3
theorem other_any (s:ByteArray) (w:World) (hs:s.size≤1000000) (h0:0<s.size) :
  Calls Tryz.prog 99 #[.string s] w fun e w'=>∃ n:Nat,e=.returned (.int .i64 n)∧OtherR s n∧Below w.heap.size w w':=by
 cases ht:two s.toList
 ·refine (other_loop s w hs ht h0).mono ?_
  rintro e w' ⟨n,h1,h2,h3⟩
  exact ⟨n,h1,.inr ⟨ht,h2⟩,h3⟩
 ·refine (other_two s w ht).mono ?_
  rintro e w' ⟨h1,rfl⟩
  exact ⟨2,h1,.inl ⟨ht,rfl⟩,Below.refl _ _⟩
end Go.Proofs.YtmclaaonlhnbmaaGreatDoor.S
namespace Go.Proofs.YtmclaaonlhnbmaaGreatDoor.S
open Go.RowKit
open Go.Lib hiding intOf
open U L
theorem two_low {s:ByteArray} (h0:0<s.size) (h:two s.toList=true):s[0].toNat<128:=by
 have hl:=tl_drop s h0
 rw [List.drop_zero] at hl
 rw [hl] at h
 generalize s[0]=z at h ⊢
 match s.toList.drop (0+1),h with
 | b :: u,h =>
  simp [two] at h
  rcases h with (((((⟨h,_⟩|⟨h,_⟩)|⟨h,_⟩)|⟨h,_⟩)|⟨h,_⟩)|⟨h,_⟩)|⟨h,_⟩ <;> (rw [h];decide)
set_option maxHeartbeats 8000000 in
set_option maxRecDepth 20000 in
theorem word_any (s:ByteArray) (right:Bool) (w:World) (hs:s.size≤1000000) (h0:0<s.size) (hr:right=true→okB s=true) :
  Calls Tryz.prog 44 #[.string s,.bool right] w fun e w'=>e=.returned (.tuple #[.int .i64 (wordL right s.toList).1,.int .i64 ((wordL right s.toList).2:Nat)])∧Below w.heap.size w w':=by
 have cN:=name_any s w (by omega)
 have cM:=number_any s w (by omega)
 have cQ:=quote_any s w (by omega) h0
 have cO:=other_any s w hs h0
 have hnl:=name_le s.toList
 rw [tl_len] at hnl
 have hl:=tl_drop s h0
 rw [List.drop_zero] at hl
 obtain ⟨R,hR⟩:∃ R,wordL right s.toList=R:=⟨_,rfl⟩
 rw [hR]
 unfold wordL at hR
 by_cases h1:0<nameLen s.toList
 ·rw [if_pos h1,← ext_take] at hR
  obtain ⟨n,hn⟩:∃ n,nameLen s.toList=n:=⟨_,rfl⟩
  rw [hn] at cN hnl h1 hR
  have cK:=key_any (s.extract 0 n) w
  obtain ⟨b,hb⟩:∃ b,keyB (s.extract 0 n).toList=b:=⟨_,rfl⟩
  rw [hb] at cK hR
  subst hR
  clear cM cQ cO hl hn hb hr
  go_enter Tryz.func44,Tryz.ntmps44
  go_wp2_with fail
  refine cN.mono ?_
  rintro e w1 ⟨rfl,rfl⟩
  go_wp2_with fail
  refine cK.mono ?_
  rintro e w2 ⟨rfl,rfl⟩
  cases b
  ·go_wp2_with fail
   go_ret2
   exact ⟨rfl,Below.refl _ _⟩
  ·go_wp2_with fail
   go_ret2
   exact ⟨rfl,Below.refl _ _⟩
 ·rw [if_neg h1] at hR
  have hn:nameLen s.toList=0:=by omega
  rw [hn] at cN
  clear h1 hn hnl
  by_cases h2:0<numLen s.toList
  ·rw [if_pos h2] at hR
   obtain ⟨n,hn⟩:∃ n,numLen s.toList=n:=⟨_,rfl⟩
   rw [hn] at cM h2 hR
   subst hR
   clear cQ cO hl hn hr
   go_enter Tryz.func44,Tryz.ntmps44
   go_wp2_with fail
   refine cN.mono ?_
   rintro e w1 ⟨rfl,rfl⟩
   go_wp2_with fail
   refine cM.mono ?_
   rintro e w2 ⟨rfl,rfl⟩
   go_wp2_with fail
   go_ret2
   exact ⟨rfl,Below.refl _ _⟩
  ·rw [if_neg h2] at hR
   have hn:numLen s.toList=0:=by omega
   rw [hn] at cM
   clear h2 hn
   by_cases h3:0<quoLen s.toList
   ·rw [if_pos h3] at hR
    obtain ⟨n,hn⟩:∃ n,quoLen s.toList=n:=⟨_,rfl⟩
    rw [hn] at cQ h3 hR
    subst hR
    clear cO hl hn hr
    go_enter Tryz.func44,Tryz.ntmps44
    go_wp2_with fail
    refine cN.mono ?_
    rintro e w1 ⟨rfl,rfl⟩
    go_wp2_with fail
    refine cM.mono ?_
    rintro e w2 ⟨rfl,rfl⟩
    go_wp2_with fail
    refine cQ.mono ?_
    rintro e w3 ⟨rfl,rfl⟩
    go_wp2_with fail
    go_ret2
    exact ⟨rfl,Below.refl _ _⟩
   ·rw [if_neg h3,hl] at hR
    have hn:quoLen s.toList=0:=by omega
    rw [hn] at cQ
    clear h3 hn
    have htl:=@two_low s h0
    have hlow:=fun (n:Nat) (h:OtherP s n)=>h.low h0
    obtain ⟨z,hz⟩:∃ z,s[0]=z:=⟨_,rfl⟩
    have e59:=u8_eq z 59
    rw [hz] at hR htl hlow hl
    simp only [List.head?_cons,Option.some.injEq] at hR
    by_cases h4:z=59
    ·rw [if_pos h4] at hR
     rw [decide_eq_true h4] at e59
     replace e59:((z.toNat:Int)==59)=true:=e59
     subst hR
     clear cO hl hr h4 htl hlow
     go_enter Tryz.func44,Tryz.ntmps44
     go_wp2_with fail
     refine cN.mono ?_
     rintro e w1 ⟨rfl,rfl⟩
     go_wp2_with fail
     refine cM.mono ?_
     rintro e w2 ⟨rfl,rfl⟩
     go_wp2_with fail
     refine cQ.mono ?_
     rintro e w3 ⟨rfl,rfl⟩
     go_wp2_with fail
     go_ret2
     exact ⟨rfl,Below.refl _ _⟩
    ·rw [if_neg h4] at hR
     rw [decide_eq_false h4] at e59
     replace e59:((z.toNat:Int)==59)=false:=e59
     have hml:∀ n,OtherR s n→(right=true∧markLen right s.toList=n)∨(right=false∧markLen right s.toList=n∧(n=1∨z.toNat<128))∨(right=false∧markLen right s.toList=1∧1<n∧128≤z.toNat):=by
      intro n hn
      rcases hn with ⟨ht,rfl⟩|⟨ht,hp⟩
      ·have hm:markLen right s.toList=2:=by unfold markLen;rw [if_pos ht]
       cases right
       ·exact .inr (.inl ⟨rfl,hm,.inr (htl ht)⟩)
       ·exact .inl ⟨rfl,hm⟩
      ·have hm:markLen right s.toList=if right=true then wid s.toList else 1:=by unfold markLen;rw [if_neg (by rw [ht];simp)]
       cases right
       ·right
        have hm1:markLen false s.toList=1:=by rw [hm];rfl
        have hn1:1≤n:=by rcases hp with ⟨h,_⟩|⟨h,_⟩ <;> omega
        by_cases hz:z.toNat<128
        ·exact .inl ⟨rfl,by rw [hm1,hlow n hp hz],.inr hz⟩
        ·by_cases h1:n=1
         ·exact .inl ⟨rfl,by rw [hm1,h1],.inl h1⟩
         ·exact .inr ⟨rfl,hm1,by omega,by omega⟩
       ·left
        exact ⟨rfl,by rw [hm,hp.right h0 (hr rfl)];rfl⟩
     have HML:=hid hml
     rw [← hl] at hR
     clear hl hr h4 htl hlow hml
     have HR:=hid hR
     clear hR
     go_enter Tryz.func44,Tryz.ntmps44
     go_wp2_with fail
     refine cN.mono ?_
     rintro e w1 ⟨rfl,rfl⟩
     go_wp2_with fail
     refine cM.mono ?_
     rintro e w2 ⟨rfl,rfl⟩
     go_wp2_with fail
     refine cQ.mono ?_
     rintro e w3 ⟨rfl,rfl⟩
     go_wp2_with fail
     refine cO.mono ?_
     rintro e w4 ⟨n,rfl,hn,hb4⟩
     rcases HML.out n hn with ⟨rfl,hm⟩|⟨rfl,hm,hor⟩|⟨rfl,hm,h1,h2⟩
     ·have HM:=hid hm
      clear hn hm
      go_wp2_with fail
      go_ret2
      exact ⟨by rw [← HR.out,HM.out];rfl,hb4⟩
     ·have HM:=hid hm
      clear hm
      rcases hor with rfl|hz
      ·clear hn
       go_wp2_with fail
       go_ret2
       exact ⟨by rw [← HR.out,HM.out];rfl,hb4⟩
      ·by_cases h1:1<n
       ·clear hn
        go_wp2_with fail
        go_ret2
        exact ⟨by rw [← HR.out,HM.out];rfl,hb4⟩
       ·clear hn
        go_wp2_with fail
        go_ret2
        exact ⟨by rw [← HR.out,HM.out];rfl,hb4⟩
     ·have HM:=hid hm
      clear hn hm
      go_wp2_with fail
      go_ret2
      exact ⟨by rw [← HR.out,HM.out];rfl,hb4⟩
end Go.Proofs.YtmclaaonlhnbmaaGreatDoor.S
namespace Go.Proofs.YtmclaaonlhnbmaaGreatDoor.S
open Go.RowKit
open Go.Lib hiding intOf
open U L
def tokC (t:TokP):List Value:=[.int .i64 t.w,.string ⟨t.t.toArray⟩,.int .i64 t.f,.int .i64 t.e]
def tokCs:List TokP→List Value
 | []=>[]
 | t :: r=>tokC t++tokCs r
theorem tokCs_length:∀ l:List TokP,(tokCs l).length=4*l.length
 | []=>rfl
 | d :: r=>by simp only [tokCs,List.length_append,tokCs_length r,List.length_cons,tokC,List.length_nil];omega
theorem tokCs_app:∀ (a b:List TokP),tokCs (a++b)=tokCs a++tokCs b
 | [],b=>rfl
 | d :: r,b=>by simp only [List.cons_append,tokCs,tokCs_app r b,List.append_assoc]
theorem tokCs_at:∀ (l:List TokP) (i j:Nat) (hi:i<l.length),j<4→(tokCs l)[i*4+j]?=(tokC l[i])[j]?
 | [],i,j,hi,_=>by simp at hi
 | d :: r,0,j,hi,hj=>by simp only [tokCs,Nat.zero_mul,Nat.zero_add,List.getElem_cons_zero];rw [List.getElem?_append_left (by simp [tokC];omega)]
 | d :: r,i+1,j,hi,hj=>by
  simp only [tokCs,List.getElem_cons_succ]
  rw [List.getElem?_append_right (by simp [tokC];omega),show (i+1)*4+j - (tokC d).length=i*4+j by simp [tokC];omega]
  exact tokCs_at r i j (by simpa using hi) hj
def ToksAt (W:World) (g off:Nat) (l:List TokP):Prop:=∀ j u,(tokCs l)[j]?=some u→W.cell? ⟨g,off+j,none⟩=some u
theorem tok_at {W:World} {l:List TokP} {g off:Nat} (i:Nat) (hc:ToksAt W g off l) (hi:i<l.length) :
  W.cell? ⟨g,off+i*4,none⟩=some (.int .i64 l[i].w)∧W.cell? ⟨g,off+i*4+1,none⟩=some (.string ⟨l[i].t.toArray⟩)∧W.cell? ⟨g,off+i*4+2,none⟩=some (.int .i64 l[i].f)∧W.cell? ⟨g,off+i*4+3,none⟩=some (.int .i64 l[i].e):=by
 refine ⟨hc (i*4) _ ?_,hc (i*4+1) _ (by rw [tokCs_at l i 1 hi (by omega)];rfl),hc (i*4+2) _ (by rw [tokCs_at l i 2 hi (by omega)];rfl),hc (i*4+3) _ (by rw [tokCs_at l i 3 hi (by omega)];rfl)⟩
 have:=tokCs_at l i 0 hi (by omega)
 rw [Nat.add_zero] at this;rw [this];rfl
theorem row_some {w:World} {B n size:Nat} {e:TypeId} {v:Value} {xs:List Value} (h:w.ownsRow B e size v n xs) (hn:0<n):∃ g c,v=.slice (some ⟨g,0,none⟩) n c∧n≤c∧B≤g∧g<w.heap.size:=by
 rcases h.2 with ⟨_,h0⟩|⟨g,cap,cur,rfl,_,_,hc,_⟩
 ·have:=h.1;omega
 ·have:=h.lt g rfl
  exact ⟨g,cap,rfl,hc,this.1,this.2⟩
theorem toks_at {w:World} {B n c g:Nat} {l:List TokP} (h:w.ownsRow B 48 4 (.slice (some ⟨g,0,none⟩) n c) n (tokCs l)) (hn:l.length=n):ToksAt w g 0 l:=fun j u hj=>by
 have hj2:=(List.getElem?_eq_some_iff.1 hj).1
 rw [tokCs_length] at hj2
 rw [Nat.zero_add,h.cellAt j (by omega)]
 exact hj
theorem plain_toks:∀ (l:List TokP),∀ u∈tokCs l,u.oneCell'=true
 | [],u,h=>by simp [tokCs] at h
 | d :: r,u,h=>by
  simp only [tokCs,List.mem_append] at h
  rcases h with h|h
  ·simp only [tokC,List.mem_cons,List.not_mem_nil,or_false] at h
   rcases h with rfl|rfl|rfl|rfl <;> rfl
  ·exact plain_toks r u h
theorem owns_len {w:World} {B n size:Nat} {e:TypeId} {v:Value} {xs:List Value} (h:w.ownsRow B e size v n xs):∃ a c,v=.slice a n c:=by
 rcases h.2 with ⟨rfl,h0⟩|⟨g,cap,cur,rfl,_⟩
 ·exact ⟨none,0,by subst h0;rfl⟩
 ·exact ⟨_,cap,rfl⟩
theorem below_grown {Z n size:Nat} {w2 W w':World} {e:TypeId} {v:Value} {xs:List Value} {o:Obj} (hL:Below Z w2 W) (hR:W.ownsRow Z e size v n xs) (hg:(W.alloc o).grownBy w' v.ownBlock) (hz:Z≤W.heap.size):Below Z w2 w':=by
 refine ⟨hg.os.trans hL.os,hg.tape.trans hL.tape,hg.output.trans hL.output,?_,fun k hk=>?_⟩
 ·have h1:=hg.size
  have h2:=hL.size
  rw [World.size_alloc] at h1;omega
 ·exact ((hg.block k (by rw [World.size_alloc];omega) (fun e=>by have:=(hR.lt k e.symm).1;omega)).trans (Below.heap_alloc _ _ _ (by omega))).trans (hL.block k hk)
theorem owns_later {B n size:Nat} {e:TypeId} {v:Value} {xs:List Value} {W W':World} (h:W.ownsRow B e size v n xs) (hb:Below W.heap.size W W'):W'.ownsRow B e size v n xs:=by
 have hg:W.grownBy W' none:=⟨hb.os,hb.tape,hb.output,hb.size,fun j hj _=>hb.block j hj⟩
 exact h.kept hg (by cases v.ownBlock <;> simp)
theorem infoTok:(Tryz.prog.info? 48).map (fun i=>(i.zero,i.size,i.bytes))=some (some (.agg #[.int .i64 0,.string ⟨#[]⟩,.int .i64 0,.int .i64 0]),4,40):=by kernel_rfl
theorem one_tok {w:World} {q:Nat} {d:TokP} {t:TypeId} (h:w.heap[q]?=some (.cells #[.int .i64 d.w,.string ⟨d.t.toArray⟩,.int .i64 d.f,.int .i64 d.e] t (0,0))) :
  ∀ k u,(tokCs [d])[k]?=some u→w.cell? ((⟨q,0,none⟩:Addr).add k)=some u:=fun k u hk=>by
 obtain ⟨c0,c1,c2,c3⟩:=tk_cells h
 rw [Addr.add_lit,Nat.zero_add]
 have hk2:=(List.getElem?_eq_some_iff.1 hk).1
 rw [tokCs_length] at hk2
 simp only [tokCs,tokC,List.append_nil] at hk
 match k,hk2 with
 | 0,_=>simp at hk;subst hk;exact c0
 | 1,_=>simp at hk;subst hk;exact c1
 | 2,_=>simp at hk;subst hk;exact c2
 | 3,_=>simp at hk;subst hk;exact c3
theorem new_tok (W:World) (d:TokP):∀ k u,(tokCs [d])[k]?=some u→(W.alloc (.cells #[.int .i64 d.w,.string ⟨d.t.toArray⟩,.int .i64 d.f,.int .i64 d.e] 48)).cell? ((⟨W.heap.size,0,none⟩:Addr).add k)=some u:=one_tok (heap_alloc_new W _)
theorem new_tokS (W:World) (a f e:Int) (x:ByteArray):∀ k u,(tokCs [⟨a,x.toList,f,e⟩])[k]?=some u→(W.alloc (.cells #[.int .i64 a,.string x,.int .i64 f,.int .i64 e] 48)).cell? ((⟨W.heap.size,0,none⟩:Addr).add k)=some u:=by
 have h:=new_tok W ⟨a,x.toList,f,e⟩
 rwa [tl_mk] at h
def endL (l:List TokP):Bool:=match l.getLast? with|none=>false|some t=>endsP t.w t.t
theorem endL_snoc (l:List TokP) (t:TokP):endL (l++[t])=endsP t.w t.t:=by unfold endL;simp
def scanAt (right:Bool) (s:ByteArray) (i:Nat) (b:Bool):List TokP:=scanF right (s.size+1) (s.toList.drop i) i b
structure ScSt (right:Bool) (s:ByteArray) (i:Nat) (O:List TokP):Prop where
 all:scanB right s.toList=O++scanAt right s i (endL O)
 ok:right=true→okB (s.extract i s.size)=true
 few:O.length≤i
theorem scSt_start (right:Bool) (s:ByteArray) (h:right=true→okB s=true):ScSt right s 0 [] :=
 ⟨by unfold scanB scanAt;rw [tl_len];rfl,fun h1=>by rw [ByteArray.extract_zero_size];exact h h1,Nat.le_refl _⟩
theorem scanAt_end (right:Bool) (s:ByteArray) (b:Bool):scanAt right s s.size b=if b then [⟨5,[],s.size,s.size⟩] else []:=by
 unfold scanAt
 rw [tl_end s (Nat.le_refl _)]
 rfl
theorem scanAt_step (right:Bool) (s:ByteArray) {i:Nat} (h:i<s.size) (b:Bool) :
  scanAt right s i b=if s[i]=10∧b=true then ⟨5,[],i,((i+1:Nat):Int)⟩ :: scanAt right s (i+1) false
   else if blank s[i]=true then scanAt right s (i+1) b
   else if 0<cmtLen (s.toList.drop i) then scanAt right s (i+cmtLen (s.toList.drop i)) b
   else ⟨(wordL right (s.toList.drop i)).1,(s.toList.drop i).take (wordL right (s.toList.drop i)).2,i,((i+(wordL right (s.toList.drop i)).2:Nat):Int)⟩ ::
    scanAt right s (i+(wordL right (s.toList.drop i)).2) (endsP (wordL right (s.toList.drop i)).1 ((s.toList.drop i).take (wordL right (s.toList.drop i)).2)):=by
 have hl:=tl_drop s h
 have hn:∀ (m:Nat) (x:Bool),i<m→scanF right s.size (s.toList.drop m) m x=scanAt right s m x:=fun m x hm=>by
  unfold scanAt
  have:(s.toList.drop m).length<s.size:=by rw [List.length_drop,tl_len];omega
  exact scanF_fuel right _ _ _ _ _ this (by omega)
 have hw:=(word_bounds right (l:=s.toList.drop i) (by rw [hl];simp)).1
 rw [← hn (i+1) _ (by omega),← hn (i+1) _ (by omega),← hn (i+(wordL right (s.toList.drop i)).2) _ (by omega)]
 have hd:∀ k,s.toList.drop (i+k)=(s.toList.drop i).drop k:=fun k=>by rw [List.drop_drop]
 by_cases hc:0<cmtLen (s.toList.drop i)
 ·rw [← hn (i+cmtLen (s.toList.drop i)) _ (by omega)]
  simp only [hd (cmtLen _),hd (wordL _ _).2]
  unfold scanAt
  rw [hl]
  rfl
 ·rw [if_neg hc,hd (wordL _ _).2]
  unfold scanAt
  rw [hl] at hc ⊢
  simp only [scanF]
  rw [if_neg hc]
theorem ext_ext (s:ByteArray) {i k:Nat} (_h:i+k≤s.size):(s.extract i s.size).extract k (s.extract i s.size).size=s.extract (i+k) s.size:=by
 apply ByteArray.ext
 apply Array.toList_inj.1
 rw [← ByteArray.toList_eq,← ByteArray.toList_eq,ext_drop,ext_drop,ext_drop,List.drop_drop]
theorem ok_on {right:Bool} {s:ByteArray} {i k:Nat} (hok:right=true→okB (s.extract i s.size)=true) (h:i+k≤s.size) (hb:right=true→Bnd (s.extract i s.size) k):right=true→okB (s.extract (i+k) s.size)=true:=fun hr=>by
 rw [← ext_ext s h]
 exact suf_ok (hok hr) (hb hr)
theorem bnd_size {s:ByteArray} (hok:okB s=true):Bnd s s.size:=(bnd_iff hok (Nat.le_refl _)).2 (by rw [ByteArray.extract_zero_size];exact hok)
theorem cmt_bnd {s:ByteArray} (hok:okB s=true) (h:0<cmtLen s.toList):Bnd s (cmtLen s.toList):=by
 have hle:=cmt_le s.toList
 rw [tl_len] at hle
 have key:cmtLen s.toList<s.size→s.toList[cmtLen s.toList]?=some 10:=fun hlt=>by
  match hs:s.toList,h with
  | a :: b :: r,h =>
   rw [hs] at hlt
   simp only [cmtLen] at h hlt ⊢
   split at h
   ·rename_i hab
    rw [if_pos hab] at hlt ⊢
    have hz:s.size=r.length+2:=by rw [← tl_len,hs];rfl
    have hr:(r.takeWhile (fun c=>decide (c≠10))).length<r.length:=by omega
    rw [show 2+(r.takeWhile (fun c=>decide (c≠10))).length=(r.takeWhile (fun c=>decide (c≠10))).length+2 by omega]
    simp only [List.getElem?_cons_succ]
    clear h hlt hab hs hle hz hok
    induction r with
    | nil=>simp at hr
    | cons c u ih =>
     by_cases hc:c=10
     ·subst hc;simp
     ·rw [List.takeWhile_cons,if_pos (by simpa using hc)] at hr ⊢
      simp only [List.length_cons,List.getElem?_cons_succ] at hr ⊢
      exact ih (by omega)
   ·omega
 by_cases hlt:cmtLen s.toList<s.size
 ·exact (bnd_byte hok (key hlt) (by decide)).1
 ·rw [show cmtLen s.toList=s.size by omega]
  exact bnd_size hok
theorem first_ext (s:ByteArray) {i:Nat} (h:i<s.size):(s.extract i s.size).toList[0]?=some s[i]:=by
 rw [ext_drop,tl_drop s h];rfl
theorem scSt_10 {right:Bool} {s:ByteArray} {i:Nat} {O:List TokP} (h:ScSt right s i O) (hi:i<s.size) (hc:s[i]=10) (hb:endL O=true):ScSt right s (i+1) (O++[⟨5,[],i,((i+1:Nat):Int)⟩]):=by
 refine ⟨?_,ok_on h.ok (by omega) (fun hr=>(bnd_byte (h.ok hr) (first_ext s hi) (by rw [hc];decide)).2),by have:=h.few;simp;omega⟩
 rw [h.all,hb,scanAt_step right s hi,if_pos ⟨hc,rfl⟩,endL_snoc]
 simp [endsP]
theorem scSt_blank {right:Bool} {s:ByteArray} {i:Nat} {O:List TokP} (h:ScSt right s i O) (hi:i<s.size) (hc:¬ (s[i]=10∧endL O=true)) (hb:blank s[i]=true):ScSt right s (i+1) O:=by
 refine ⟨?_,ok_on h.ok (by omega) (fun hr=>(bnd_byte (h.ok hr) (first_ext s hi) ?_).2),by have:=h.few;omega⟩
 ·rw [h.all,scanAt_step right s hi,if_neg hc,if_pos hb]
 ·unfold blank at hb
  simp at hb
  rcases hb with ((hb|hb)|hb)|hb <;> (rw [hb];decide)
theorem scSt_cmt {right:Bool} {s:ByteArray} {i:Nat} {O:List TokP} (h:ScSt right s i O) (hi:i<s.size) (hb:blank s[i]=false) (hk:0<cmtLen (s.extract i s.size).toList):ScSt right s (i+cmtLen (s.extract i s.size).toList) O:=by
 have hle:=cmt_le (s.extract i s.size).toList
 rw [ext_drop,List.length_drop,tl_len] at hle
 refine ⟨?_,ok_on h.ok (by rw [ext_drop];omega) (fun hr=>cmt_bnd (h.ok hr) hk),by have:=h.few;omega⟩
 rw [ext_drop] at hk ⊢
 rw [h.all,scanAt_step right s hi,if_neg (fun e=>by rw [e.1] at hb;cases hb),if_neg (by rw [hb];simp),if_pos hk]
theorem scSt_word {right:Bool} {s:ByteArray} {i:Nat} {O:List TokP} (h:ScSt right s i O) (hi:i<s.size) (hb:blank s[i]=false) (hk:cmtLen (s.extract i s.size).toList=0) {w:Int} {k:Nat} (hw:wordL right (s.extract i s.size).toList=(w,k)) :
  i+k≤s.size∧1≤k∧ScSt right s (i+k) (O++[⟨w,(s.extract i (i+k)).toList,i,((i+k:Nat):Int)⟩]):=by
 have hbd:=word_bounds right (l:=(s.extract i s.size).toList) (by rw [ext_drop,tl_drop s hi];simp)
 rw [hw,ext_drop,List.length_drop,tl_len] at hbd
 have he:(s.extract i (i+k)).toList=(s.toList.drop i).take k:=by rw [ext_list,show i+k - i=k by omega]
 refine ⟨by omega,hbd.1,?_,ok_on h.ok (by omega) (fun hr=>?_),by have:=h.few;simp;omega⟩
 ·rw [ext_drop] at hk hw
  rw [h.all,scanAt_step right s hi,if_neg (fun e=>by rw [e.1] at hb;cases hb),if_neg (by rw [hb];simp),if_neg (by omega),hw,endL_snoc,he]
  simp
 ·subst hr
  have hz:0<(s.extract i s.size).size:=by rw [size_extract s i s.size (by omega) (Nat.le_refl _)];omega
  have:=word_bnd (h.ok rfl) hz
  rwa [hw] at this
end Go.Proofs.YtmclaaonlhnbmaaGreatDoor.S
namespace Go.Proofs.YtmclaaonlhnbmaaGreatDoor.S
open Go.RowKit
open Go.Lib hiding intOf
open U L
theorem drewB {B:Nat} {a w:World} (h:Below B a w) (n:Nat):Below B a (w.drewN n):=⟨h.os,h.tape,h.output,h.size,h.block⟩
theorem scanF_len (right:Bool):∀ (n:Nat) (l:By) (pos:Nat) (e:Bool),(scanF right n l pos e).length≤l.length+1
 | 0,_,_,_=>by simp [scanF]
 | n+1,[],pos,e=>by simp only [scanF];split <;> simp
 | n+1,c :: r,pos,e=>by
  have hc:=cmt_le (c :: r)
  have hw:=word_bounds right (l:=c :: r) (by simp)
  simp only [scanF]
  split
  ·have:=scanF_len right n r (pos+1) false
   simp only [List.length_cons];omega
  ·split
   ·have:=scanF_len right n r (pos+1) e
    simp only [List.length_cons];omega
   ·split
    ·have:=scanF_len right n ((c :: r).drop (cmtLen (c :: r))) (pos+cmtLen (c :: r)) e
     rw [List.length_drop] at this;omega
    ·have:=scanF_len right n ((c :: r).drop (wordL right (c :: r)).2) (pos+(wordL right (c :: r)).2) (endsP (wordL right (c :: r)).1 ((c :: r).take (wordL right (c :: r)).2))
     rw [List.length_drop] at this
     rw [List.length_cons];omega
end Go.Proofs.YtmclaaonlhnbmaaGreatDoor.S
namespace Go.Proofs.YtmclaaonlhnbmaaGreatDoor.T
open Go.RowKit
open Go.Lib hiding intOf
open U S L
def bstr (x:By):ByteArray:=⟨x.toArray⟩
def five:Pt→Value→List Value
 | .mk k t f e _,lv=>[.string (bstr k),.string (bstr t),.int .i64 f,.int .i64 e,lv]
def CellsAt (W:World) (g off:Nat) (xs:List Value):Prop:=∀ j u,xs[j]?=some u→W.cell? ⟨g,off+j,none⟩=some u
mutual
def KidsIn (W:World) (R:Nat→Prop):Pt→Value→Prop
 | .mk _ _ _ _ ks,lv=>∃ a cap,lv=.slice a ks.length cap∧ks.length≤cap∧(ks=[]∨∃ g off xs,a=some ⟨g,off,none⟩∧R g∧CellsAt W g off xs∧PartsIn W R ks xs)
def PartsIn (W:World) (R:Nat→Prop):List Pt→List Value→Prop
 | [],xs=>xs=[]
 | p :: r,xs=>∃ lv rest,xs=five p lv++rest∧KidsIn W R p lv∧PartsIn W R r rest
end
def Still (R:Nat→Prop) (W W':World):Prop:=∀ g,R g→g<W.heap.size→W'.heap[g]?=W.heap[g]?
theorem CellsAt.later {W W':World} {R:Nat→Prop} {g off:Nat} {xs:List Value} (h:CellsAt W g off xs) (hR:R g) (hs:Still R W W'):CellsAt W' g off xs:=by
 intro j u hj
 have h1:=h j u hj
 have hlt:g<W.heap.size:=World.block_lt_of_cell? W _ h1
 have h2:=hs g hR hlt
 unfold World.cell? at h1 ⊢
 rw [h2];exact h1
mutual
theorem KidsIn.later {W W':World} {R R':Nat→Prop} (hs:Still R W W') (hR:∀ g,R g→R' g):∀ (p:Pt) (lv:Value),KidsIn W R p lv→KidsIn W' R' p lv
 | .mk k t f e ks,lv,h=>by
  obtain ⟨a,cap,h1,h0,h2⟩:=h
  refine ⟨a,cap,h1,h0,?_⟩
  rcases h2 with h2|⟨g,off,xs,h3,h4,h5,h6⟩
  ·exact .inl h2
  ·exact .inr ⟨g,off,xs,h3,hR g h4,h5.later h4 hs,PartsIn.later hs hR ks xs h6⟩
theorem PartsIn.later {W W':World} {R R':Nat→Prop} (hs:Still R W W') (hR:∀ g,R g→R' g):∀ (l:List Pt) (xs:List Value),PartsIn W R l xs→PartsIn W' R' l xs
 | [],_,h=>h
 | p :: r,xs,h=>by
  obtain ⟨lv,rest,h1,h2,h3⟩:=h
  exact ⟨lv,rest,h1,KidsIn.later hs hR p lv h2,PartsIn.later hs hR r rest h3⟩
end
theorem five_length (p:Pt) (lv:Value):(five p lv).length=5:=by cases p;rfl
theorem PartsIn.length {W:World} {R:Nat→Prop}:∀ {l:List Pt} {xs:List Value},PartsIn W R l xs→xs.length=5*l.length
 | [],xs,h=>by have h:xs=[]:=h;subst h;rfl
 | p :: r,xs,h=>by
  obtain ⟨lv,rest,rfl,_,h3⟩:=h
  have:=PartsIn.length h3
  rw [List.length_append,five_length,this];simp;omega
theorem PartsIn.snoc {W:World} {R:Nat→Prop}:∀ {l:List Pt} {xs:List Value} {p:Pt} {lv:Value},PartsIn W R l xs→KidsIn W R p lv→PartsIn W R (l++[p]) (xs++five p lv)
 | [],xs,p,lv,h,hv=>by
  have h:xs=[]:=h
  subst h
  exact ⟨lv,[],by simp,hv,rfl⟩
 | u :: r,xs,p,lv,h,hv=>by
  obtain ⟨lv',rest,rfl,h2,h3⟩:=h
  exact ⟨lv',rest++five p lv,by simp,h2,PartsIn.snoc h3 hv⟩
end Go.Proofs.YtmclaaonlhnbmaaGreatDoor.T
namespace Go.Proofs.YtmclaaonlhnbmaaGreatDoor.K
open Go.RowKit
open Go.Lib hiding intOf
open U S T
abbrev ptr (b:Nat):Value:=.pointer (some ⟨b,0,none⟩)
def fnOf:Mth→Nat
 | .decl=>37
 | .semis=>38
 | .noMore=>39
 | .name=>85
 | .params=>86
 | .result=>87
 | .block=>88
 | .fin=>89
 | .field=>92
 | .param=>132
 | .typeOf=>133
 | .stmt=>134
 | .returned=>151
 | .expr=>153
 | .assigned=>154
 | .otherwise=>160
 | .pre=>161
 | .between=>162
 | .ifOrBlock=>167
 | .text=>168
 | .behind=>170
 | .operand=>169
 | .called=>176
def mval (d:Nat) (k:Mth):Value:=.func (.func (fnOf k)) #[ptr d] #[]
def clos (f b1 b2:Nat):Value:=.func (.func f) #[] #[ptr b1,ptr b2]
def Fr (O:Nat→Prop) (W:World) (k:Nat):Prop:=k<W.heap.size∧¬ O k∧∃ o:Obj,W.heap[k]?=some o∧o.isCells=true
def BoxAt (O:Nat→Prop) (W:World) (b:Nat) (v:Value) (t:TypeId):Prop:=Fr O W b∧W.heap[b]?=some (.cells #[v] t (0,0))
def Clos (O:Nat→Prop) (W:World) (d f:Nat) (u:Value) (t:TypeId) (v:Value):Prop:=∃ b1 b2,v=clos f b1 b2∧BoxAt O W b1 (ptr d) 37∧BoxAt O W b2 u t
def StpIn (O:Nat→Prop) (W:World) (d:Nat):Stp→Value→Prop
 | .m k,v=>v=mval d k
 | .word x,v=>Clos O W d 128 (.string (bstr x)) 9 v
 | .lines k,v=>Clos O W d 136 (mval d k) 1 v
 | .more k,v=>Clos O W d 155 (mval d k) 1 v
 | .commas k,v=>Clos O W d 149 (mval d k) 1 v
 | .moreC k,v=>Clos O W d 159 (mval d k) 1 v
def StpsIn (O:Nat→Prop) (W:World) (d:Nat):List Stp→List Value→Prop
 | [],vs=>vs=[]
 | s :: r,vs=>∃ v us,vs=us++[v]∧StpIn O W d s v∧StpsIn O W d r us
def six (o:Open) (kv:Value):List Value:=[.string (bstr o.k),.string (bstr o.t),.int .i64 o.f,.int .i64 0,kv,.int .i64 o.kf]
def OpensIn (O:Nat→Prop) (W:World):List Open→List Value→List (Option Nat)→Prop
 | [],xs,bs=>xs=[]∧bs=[]
 | o :: r,xs,bs=>∃ kv ks us bs',xs=us++six o kv∧bs=kv.ownBlock :: bs'∧W.ownsRow 0 25 5 kv o.kids.length ks∧PartsIn W (Fr O W) o.kids ks∧OpensIn O W r us bs'
def Apart:List (Option Nat)→Prop
 | []=>True
 | b :: r=>(∀ g,b=some g→some g ∉ r)∧Apart r
def endT (size:Nat):TokP:=⟨-1,[],size,size⟩
def WordsIn (O:Nat→Prop) (W:World) (L:List TokP) (size:Nat) (lv:Value):Prop:=∃ g off cap,lv=.slice (some ⟨g,off,none⟩) (L.length+1) cap∧Fr O W g∧ToksAt W g off (L++[endT size])
structure MemX (d:Nat) (L:List TokP) (size:Nat) (lv:Value) (s:St) (O:Nat→Prop) (tv ov:Value) (bs:List (Option Nat)) (vs xs:List Value) (W:World):Prop where
 blk:W.heap[d]?=some (.cells #[lv,.int .i64 s.i,tv,ov] 65 (0,0))
 words:WordsIn O W L size lv
 todoR:W.ownsRow 0 1 1 tv s.todo.length vs
 todo:StpsIn O W d s.todo vs
 opnR:W.ownsRow 0 70 6 ov s.opn.length xs
 opn:OpensIn O W s.opn xs bs
 apart:Apart bs
 own:∀ k,O k ↔ k=d∨tv.ownBlock=some k∨ov.ownBlock=some k∨some k∈bs
def Mem (d:Nat) (L:List TokP) (size:Nat) (lv:Value) (s:St) (O:Nat→Prop) (W:World):Prop:=∃ tv ov bs vs xs,MemX d L size lv s O tv ov bs vs xs W
structure Stay (O O':Nat→Prop) (W W':World):Prop where
 os:W'.os=W.os
 tape:W'.tape=W.tape
 output:W'.output=W.output
 size:W.heap.size≤W'.heap.size
 own:∀ k,O' k→O k∨W.heap.size≤k
 block:∀ k,k<W.heap.size→¬ O k→W'.heap[k]?=W.heap[k]?
section
variable {O O' O'':Nat→Prop} {W W' W'':World} {d:Nat}
theorem Stay.refl (O:Nat→Prop) (W:World):Stay O O W W:=⟨rfl,rfl,rfl,Nat.le_refl _,fun _ h=>.inl h,fun _ _ _=>rfl⟩
theorem Stay.trans (h:Stay O O' W W') (k:Stay O' O'' W' W''):Stay O O'' W W'' where
 os:=k.os.trans h.os
 tape:=k.tape.trans h.tape
 output:=k.output.trans h.output
 size:=Nat.le_trans h.size k.size
 own:=fun x hx=>(k.own x hx).elim (fun h1=>h.own x h1) (fun h1=>.inr (Nat.le_trans h.size h1))
 block:=fun x hx hO=>(k.block x (Nat.lt_of_lt_of_le hx h.size) (fun h1=>(h.own x h1).elim hO (fun h2=>absurd h2 (by omega)))).trans (h.block x hx hO)
theorem Stay.of_below (h:Below W.heap.size W W'):Stay O O W W':=⟨h.os,h.tape,h.output,h.size,fun _ h=>.inl h,fun k hk _=>h.block k hk⟩
theorem Stay.at (h:Stay O O' W W') {k:Nat} (hk:Fr O W k):W'.heap[k]?=W.heap[k]?:=h.block k hk.1 hk.2.1
theorem Stay.fr (h:Stay O O' W W') {k:Nat} (hk:Fr O W k):Fr O' W' k:=⟨Nat.lt_of_lt_of_le hk.1 h.size,fun h1=>(h.own k h1).elim hk.2.1 (fun h2=>absurd h2 (by have:=hk.1;omega)),by rw [h.at hk];exact hk.2.2⟩
theorem BoxAt.stay {b:Nat} {v:Value} {t:TypeId} (hb:BoxAt O W b v t) (h:Stay O O' W W'):BoxAt O' W' b v t:=⟨h.fr hb.1,(h.at hb.1).trans hb.2⟩
theorem Clos.stay {f:Nat} {u v:Value} {t:TypeId} (hc:Clos O W d f u t v) (h:Stay O O' W W'):Clos O' W' d f u t v:=by
 obtain ⟨b1,b2,h1,h2,h3⟩:=hc
 exact ⟨b1,b2,h1,h2.stay h,h3.stay h⟩
theorem StpIn.stay {s:Stp} {v:Value} (hs:StpIn O W d s v) (h:Stay O O' W W'):StpIn O' W' d s v:=by
 cases s with
 | m k=>exact hs
 | word x=>exact Clos.stay hs h
 | lines k=>exact Clos.stay hs h
 | more k=>exact Clos.stay hs h
 | commas k=>exact Clos.stay hs h
 | moreC k=>exact Clos.stay hs h
theorem StpsIn.stay (h:Stay O O' W W'):∀ {l:List Stp} {vs:List Value},StpsIn O W d l vs→StpsIn O' W' d l vs
 | [],_,hs=>hs
 | _ :: _,_,⟨v,us,h1,h2,h3⟩=>⟨v,us,h1,h2.stay h,StpsIn.stay h h3⟩
theorem StpsIn.length:∀ {l:List Stp} {vs:List Value},StpsIn O W d l vs→vs.length=l.length
 | [],_,hs=>by rw [show _=[] from hs];rfl
 | _ :: _,_,⟨v,us,h1,h2,h3⟩=>by rw [h1,List.length_append,StpsIn.length h3];rfl
theorem WordsIn.stay {L:List TokP} {size:Nat} {lv:Value} (hw:WordsIn O W L size lv) (h:Stay O O' W W'):WordsIn O' W' L size lv:=by
 obtain ⟨g,off,cap,h1,h2,h3⟩:=hw
 refine ⟨g,off,cap,h1,h.fr h2,fun j u hj=>?_⟩
 have h4:=h3 j u hj
 unfold World.cell? at h4 ⊢
 rw [h.at h2];exact h4
theorem parts_stay (h:Stay O O' W W') {l:List Pt} {ks:List Value} (hp:PartsIn W (Fr O W) l ks):PartsIn W' (Fr O' W') l ks :=
 PartsIn.later (R:=Fr O W) (R':=Fr O' W') (fun _ hg _=>h.at hg) (fun _ hg=>h.fr hg) l ks hp
theorem OpensIn.stay (h:Stay O O' W W'):∀ {l:List Open} {xs:List Value} {bs:List (Option Nat)},OpensIn O W l xs bs→(∀ g,some g∈bs→W'.heap[g]?=W.heap[g]?)→OpensIn O' W' l xs bs
 | [],_,_,hs,_=>hs
 | o :: r,_,_,⟨kv,ks,us,bs',h1,h2,h3,h4,h5⟩,hb=>by
  subst h2
  exact ⟨kv,ks,us,bs',h1,rfl,owns_same' h3 (fun k hk=>hb k (by rw [hk];exact List.mem_cons_self)),parts_stay h h4,OpensIn.stay h h5 (fun g hg=>hb g (List.mem_cons_of_mem _ hg))⟩
where
 owns_same' {w w':World} {B n size:Nat} {e:TypeId} {v:Value} {xs:List Value} (h:w.ownsRow B e size v n xs) (hs:∀ k,v.ownBlock=some k→w'.heap[k]?=w.heap[k]?):w'.ownsRow B e size v n xs:=by
  refine ⟨h.1,?_⟩
  rcases h.2 with h|⟨g,cap,cur,rfl,h2,h3,h4⟩
  ·exact .inl h
  ·exact .inr ⟨g,cap,cur,rfl,h2,(hs g rfl).trans h3,h4⟩
end
section
variable {O:Nat→Prop} {W W':World} {d:Nat} {L:List TokP} {size:Nat} {lv:Value} {s:St}
theorem MemX.lt {tv ov:Value} {bs:List (Option Nat)} {vs xs:List Value} (h:MemX d L size lv s O tv ov bs vs xs W):∀ k,O k→k<W.heap.size:=by
 intro k hk
 rcases (h.own k).1 hk with rfl|h1|h1|h1
 ·exact (Array.getElem?_eq_some_iff.1 h.blk).1
 ·exact (h.todoR.lt k h1).2
 ·exact (h.opnR.lt k h1).2
 ·have go:∀ {l:List Open} {xs:List Value} {bs:List (Option Nat)},OpensIn O W l xs bs→some k∈bs→k<W.heap.size:=by
   intro l
   induction l with
   | nil=>rintro xs bs ⟨_,rfl⟩ h;cases h
   | cons o r ih =>
    rintro xs bs ⟨kv,ks,us,bs',_,rfl,h3,_,h5⟩ h
    rcases List.mem_cons.1 h with h|h
    ·exact (h3.lt k h.symm).2
    ·exact ih h5 h
  exact go h.opn h1
structure Calm (O:Nat→Prop) (W W':World):Prop where
 size:W.heap.size≤W'.heap.size
 own:∀ k,O k→W'.heap[k]?=W.heap[k]?
 fr:∀ k,Fr O W k→W'.heap[k]?=W.heap[k]?
theorem Calm.up (h:Calm O W W') {k:Nat} (hk:Fr O W k):Fr O W' k:=⟨Nat.lt_of_lt_of_le hk.1 h.size,hk.2.1,by rw [h.fr k hk];exact hk.2.2⟩
theorem Clos.calm {f:Nat} {u v:Value} {t:TypeId} (hc:Clos O W d f u t v) (h:Calm O W W'):Clos O W' d f u t v:=by
 obtain ⟨b1,b2,h1,h2,h3⟩:=hc
 exact ⟨b1,b2,h1,⟨h.up h2.1,(h.fr _ h2.1).trans h2.2⟩,⟨h.up h3.1,(h.fr _ h3.1).trans h3.2⟩⟩
theorem StpIn.calm {s:Stp} {v:Value} (hs:StpIn O W d s v) (h:Calm O W W'):StpIn O W' d s v:=by
 cases s with
 | m k=>exact hs
 | word x=>exact Clos.calm hs h
 | lines k=>exact Clos.calm hs h
 | more k=>exact Clos.calm hs h
 | commas k=>exact Clos.calm hs h
 | moreC k=>exact Clos.calm hs h
theorem StpsIn.calm (h:Calm O W W'):∀ {l:List Stp} {vs:List Value},StpsIn O W d l vs→StpsIn O W' d l vs
 | [],_,hs=>hs
 | _ :: _,_,⟨v,us,h1,h2,h3⟩=>⟨v,us,h1,h2.calm h,StpsIn.calm h h3⟩
theorem owns_at {w w':World} {B n size:Nat} {e:TypeId} {v:Value} {xs:List Value} (h:w.ownsRow B e size v n xs) (hs:∀ k,v.ownBlock=some k→w'.heap[k]?=w.heap[k]?):w'.ownsRow B e size v n xs:=by
 refine ⟨h.1,?_⟩
 rcases h.2 with h|⟨g,cap,cur,rfl,h2,h3,h4⟩
 ·exact .inl h
 ·exact .inr ⟨g,cap,cur,rfl,h2,(hs g rfl).trans h3,h4⟩
theorem OpensIn.calm (h:Calm O W W'):∀ {l:List Open} {xs:List Value} {bs:List (Option Nat)},OpensIn O W l xs bs→(∀ g,some g∈bs→W'.heap[g]?=W.heap[g]?)→OpensIn O W' l xs bs
 | [],_,_,hs,_=>hs
 | o :: r,_,_,⟨kv,ks,us,bs',h1,h2,h3,h4,h5⟩,hb=>by
  subst h2
  exact ⟨kv,ks,us,bs',h1,rfl,owns_at h3 (fun k hk=>hb k (by rw [hk];exact List.mem_cons_self)),PartsIn.later (R:=Fr O W) (R':=Fr O W') (fun g hg _=>h.fr g hg) (fun g hg=>h.up hg) _ _ h4,OpensIn.calm h h5 (fun g hg=>hb g (List.mem_cons_of_mem _ hg))⟩
theorem Mem.calm (hM:Mem d L size lv s O W) (h:Calm O W W'):Mem d L size lv s O W':=by
 obtain ⟨tv,ov,bs,vs,xs,hM⟩:=hM
 have hd:=h.own d ((hM.own d).2 (.inl rfl))
 refine ⟨tv,ov,bs,vs,xs,hd.trans hM.blk,?_,owns_at hM.todoR (fun k hk=>h.own k ((hM.own k).2 (.inr (.inl hk)))),hM.todo.calm h,owns_at hM.opnR (fun k hk=>h.own k ((hM.own k).2 (.inr (.inr (.inl hk))))),
  OpensIn.calm h hM.opn (fun g hg=>h.own g ((hM.own g).2 (.inr (.inr (.inr hg))))),hM.apart,hM.own⟩
 obtain ⟨g,off,cap,h1,h2,h3⟩:=hM.words
 refine ⟨g,off,cap,h1,h.up h2,fun j u hj=>?_⟩
 have h4:=h3 j u hj
 unfold World.cell? at h4 ⊢
 rw [h.fr g h2];exact h4
theorem Mem.below (h:Mem d L size lv s O W) (hb:Below W.heap.size W W'):Mem d L size lv s O W':=by
 obtain ⟨tv,ov,bs,vs,xs,h⟩:=h
 have hs:Stay O O W W':=.of_below hb
 exact ⟨tv,ov,bs,vs,xs,(hb.block d (Array.getElem?_eq_some_iff.1 h.blk).1).trans h.blk,h.words.stay hs,owns_later h.todoR hb,h.todo.stay hs,owns_later h.opnR hb,
  OpensIn.stay hs h.opn (fun g hg=>hb.block g (h.lt g ((h.own g).2 (.inr (.inr (.inr hg)))))),h.apart,h.own⟩
theorem Mem.lt (h:Mem d L size lv s O W):∀ k,O k→k<W.heap.size:=by
 obtain ⟨tv,ov,bs,vs,xs,h⟩:=h;exact h.lt
theorem Mem.dlt (h:Mem d L size lv s O W):d<W.heap.size:=by
 obtain ⟨tv,ov,bs,vs,xs,h⟩:=h;exact (Array.getElem?_eq_some_iff.1 h.blk).1
theorem Mem.word (h:Mem d L size lv s O W) (hi:s.i≤L.length):∃ g off cap n,n=L.length+1∧g<W.heap.size∧W.cell? ⟨d,0,none⟩=some (.slice (some ⟨g,off,none⟩) n cap)∧W.cell? ⟨d,1,none⟩=some (.int .i64 s.i) ∧
  W.cell? ⟨g,off+s.i*4,none⟩=some (.int .i64 (tok L size s.i).w)∧W.cell? ⟨g,off+s.i*4+1,none⟩=some (.string ⟨(tok L size s.i).t.toArray⟩)∧W.cell? ⟨g,off+s.i*4+2,none⟩=some (.int .i64 (tok L size s.i).f)∧W.cell? ⟨g,off+s.i*4+3,none⟩=some (.int .i64 (tok L size s.i).e):=by
 obtain ⟨tv,ov,bs,vs,xs,h⟩:=h
 obtain ⟨g,off,cap,rfl,h2,h3⟩:=h.words
 have hl:s.i<(L++[endT size]).length:=by simp;omega
 have ht:(L++[endT size])[s.i]=tok L size s.i:=by
  by_cases h1:s.i<L.length
  ·rw [tok_in size h1,List.getElem_append_left h1]
  ·rw [tok_out size h1,List.getElem_append_right (by omega)];simp [endT]
 have h4:=tok_at s.i h3 hl
 rw [ht] at h4
 have hb:=h.blk
 exact ⟨g,off,cap,L.length+1,rfl,h2.1,by simp [World.cell?,hb],by simp [World.cell?,hb],h4.1,h4.2.1,h4.2.2.1,h4.2.2.2⟩
end
end Go.Proofs.YtmclaaonlhnbmaaGreatDoor.K
