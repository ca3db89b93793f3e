/- What the claim needs of the texts Plain, SPlain, SAgain, TPlain, KPlain, SRef1, SRef2, LPlain, LBnd. -/
import Derived.Test.YtojoahlpgmnbnaaGreatDoorUWOp
import Derived.Lib.DecodeN
import Derived.Lib.ValidU
import Derived.Lib.ValidAsc
import Derived.Lib.RuneCountTail
import Derived.Test.YtojoahlpgmnbnaaGreatDoorProg
import Derived.WalkKit
import Derived.WalkMore
import Derived.WalkSmall
import Derived.Below
import Derived.Lib.Hide
set_option maxRecDepth 20000
set_option maxHeartbeats 16000000
namespace Go.Proofs.YtojoahlpgmnbnaaGreatDoor
namespace U
open Go.Lib
def uw (r:Nat):Nat:=if 65536≤r then 2 else 1
theorem aed (r:Nat):1≤uw r:=by unfold uw;split <;> omega
theorem aaC (r:Nat):uw r≤2:=by unfold uw;split <;> omega
def iI (s:ByteArray):Nat→Nat→List (Nat × Nat)
 | 0,_=>[]
 | f+1,pos=>if pos<s.size then Utf8.decode s pos :: iI s f (pos+(Utf8.decode s pos).2) else []
def items (s:ByteArray):List (Nat × Nat):=iI s s.size 0
def zR:List (Nat × Nat)→Bool
 | []=>true
 | x :: t=>if x.1=65533∧x.2=1 then false else zR t
def okB (s:ByteArray):Bool:=zR (items s)
theorem vF (n b0 b1 b2 b3:Nat) (hn:1≤n):1≤(decodeN n b0 b1 b2 b3).2∧(decodeN n b0 b1 b2 b3).2≤n:=by
 unfold decodeN
 repeat' split
 all_goals (simp only;omega)
theorem width_pos (s:ByteArray) (pos:Nat) (h:pos<s.size):1≤(Utf8.decode s pos).2:=by
 rw [gZ];exact (vF _ _ _ _ _ (by omega)).1
theorem width_le (s:ByteArray) (pos:Nat) (h:pos<s.size):pos+(Utf8.decode s pos).2≤s.size:=by
 rw [gZ];have:=(vF (s.size - pos) (s.get! pos).toNat (s.get! (pos+1)).toNat (s.get! (pos+2)).toNat (s.get! (pos+3)).toNat (by omega)).2;omega
theorem Gh (n b0 b1 b2 b3:Nat) (h0:b0<256):(decodeN n b0 b1 b2 b3).1≤1114111:=by
 unfold decodeN
 repeat' split
 all_goals (simp only;omega)
theorem rune_le (s:ByteArray) (pos:Nat):(Utf8.decode s pos).1≤1114111:=by rw [gZ];exact Gh _ _ _ _ _ (fZ _)
theorem gV (s:ByteArray) (f pos:Nat) (h:¬ pos<s.size):iI s f pos=[]:=by cases f <;> simp [iI,h]
theorem fH (s:ByteArray) (f pos:Nat) (h:pos<s.size):iI s (f+1) pos=Utf8.decode s pos :: iI s f (pos+(Utf8.decode s pos).2):=by simp [iI,h]
theorem vG (s:ByteArray):∀ f g pos,s.size - pos≤f→s.size - pos≤g→iI s f pos=iI s g pos
 | 0,g,pos,hf,_=>by rw [gV s 0 pos (by omega),gV s g pos (by omega)]
 | f+1,g,pos,hf,hg=>by
  by_cases h:pos<s.size
  ·obtain ⟨g,rfl⟩:∃ k,g=k+1:=⟨g - 1,by omega⟩
   have:=width_pos s pos h;rw [fH s f pos h,fH s g pos h,vG s f g _ (by omega) (by omega)]
  ·rw [gV s _ pos h,gV s _ pos h]
def Ql (l:List (Nat × Nat)):Prop:=∀ x∈l,1≤x.2
theorem vH (s:ByteArray):∀ f pos,Ql (iI s f pos)
 | 0,_=>by intro x hx;cases hx
 | f+1,pos=>by
  intro x hx
  by_cases h:pos<s.size
  ·rw [fH s f pos h] at hx
   rcases bB.1 hx with rfl|hx
   ·exact width_pos s pos h
   ·exact vH s f _ x hx
  ·rw [gV s _ pos h] at hx;cases hx
def mi:List (Nat × Nat)→Nat
 | []=>0
 | x :: t=>x.2+mi t
def xN:List (Nat × Nat)→Nat
 | []=>0
 | x :: t=>uw x.1+xN t
theorem MN:∀ l:List (Nat × Nat),Ql l→xN l≤2*mi l
 | [],_=>by simp [xN,mi]
 | x :: t,h=>by
  have h1:=h x (by simp);have h2:=MN t (fun y hy=>h y (by simp [hy]));have:=aaC x.1;simp only [xN,mi];omega
theorem AZ (s:ByteArray):∀ f pos,s.size - pos≤f→pos≤s.size→mi (iI s f pos)=s.size - pos
 | 0,pos,hf,hp=>by simp only [iI,mi];omega
 | f+1,pos,hf,hp=>by
  by_cases h:pos<s.size
  ·have h1:=width_pos s pos h
   have h2:=width_le s pos h;rw [fH s f pos h];simp only [mi];rw [AZ s f _ (by omega) h2];omega
  ·rw [gV s _ pos h];simp only [mi];omega
theorem xO (s:ByteArray):mi (items s)=s.size:=by unfold items;rw [AZ s s.size 0 (by omega) (by omega)];omega
theorem decodeL_drop (s:ByteArray) (pos:Nat):decodeL (s.data.toList.drop pos)=Utf8.decode s pos:=by
 have h:=tail_decode s pos 0;rw [bV] at h;rw [← h]
 unfold decodeL
 rw [← ext_list s pos]
theorem Cy (s:ByteArray):∀ n pos,validGoD n (s.data.toList.drop pos)=zR (iI s n pos)
 | 0,_=>rfl
 | n+1,pos=>by
  unfold validGoD
  by_cases h:pos<s.size
  ·have hne:¬ s.data.toList.drop pos=[]:=by
    intro e;have:=congrArg List.length e
    simp at this
    have h2:s.data.size=s.size:=rfl
    omega
   rw [ai hne,fH s n pos h,decodeL_drop];simp only [zR]
   split
   ·rfl
   ·rw [List.drop_drop,Cy s n]
  ·have he:s.data.toList.drop pos=[]:=by
    apply List.drop_eq_nil_of_le
    have h2:s.data.size=s.size:=rfl
    simp;omega
   rw [au he,gV s _ pos h];rfl
theorem Qm (s:ByteArray):validD s.data.toList=okB s:=by
 unfold validD okB items
 have h:=Cy s s.size 0;rw [bM] at h
 have h2:s.data.toList.length=s.size:=by simp
 rw [h2,h]
def off:List (Nat × Nat)→Nat→Nat→Int→Int × Int
 | [],pos,ahead,unit=>if (ahead:Int)=unit then ((pos:Int),0) else (0,12)
 | x :: t,pos,ahead,unit=>if (ahead:Int)=unit then ((pos:Int),0) else off t (pos+x.2) (ahead+uw x.1) unit
def bytes:List ByteArray→Nat
 | []=>0
 | s :: t=>s.size+bytes t
theorem size_append (a b:ByteArray):(a++b).size=a.size+b.size:=by simp [ByteArray.size_append]
theorem nP (a b:ByteArray) (i:Nat) (h:i<a.size):(a++b).get! i=a.get! i:=by
 rw [← getD_get!',← getD_get!']
 have:(a++b).data.toList=a.data.toList++b.data.toList:=by simp [ByteArray.data_append]
 rw [this,List.getD_eq_getElem?_getD,List.getD_eq_getElem?_getD,bu (by simpa using h)]
theorem uu (a b:ByteArray) (i:Nat):(a++b).get! (a.size+i)=b.get! i:=by
 rw [← getD_get!',← getD_get!']
 have:(a++b).data.toList=a.data.toList++b.data.toList:=by simp [ByteArray.data_append]
 have h2:a.data.toList.length=a.size:=by simp
 rw [this,List.getD_eq_getElem?_getD,List.getD_eq_getElem?_getD,aI (by omega),h2,Nat.add_sub_cancel_left]
theorem Gi (a b:ByteArray) (pos:Nat):Utf8.decode (a++b) (a.size+pos)=Utf8.decode b pos:=by
 rw [gZ,gZ,size_append,uu,Nat.add_assoc,uu,Nat.add_assoc,uu,Nat.add_assoc,uu]
 congr 1
 omega
theorem decodeN_more (n k b0 b1 b2 b3 c1 c2 c3:Nat) (h1:1<n→c1=b1) (h2:2<n→c2=b2) (h3:3<n→c3=b3)
  (hok:¬ ((decodeN n b0 b1 b2 b3).1=65533∧(decodeN n b0 b1 b2 b3).2=1)):decodeN (n+k) b0 c1 c2 c3=decodeN n b0 b1 b2 b3:=by
 unfold decodeN at hok ⊢
 by_cases c0:b0<128
 ·simp [c0]
 ·rw [ai c0] at hok ⊢
  rw [ai c0]
  by_cases q1:b0 / 32=6∧(1<n∧b1 / 64=2)
  ·have e1:=h1 q1.2.1
   subst e1;rw [au q1,au ⟨q1.1,by omega,q1.2.2⟩]
  ·rw [ai q1] at hok ⊢
   by_cases q2:b0 / 16=14∧(1<n∧b1 / 64=2)∧(2<n∧b2 / 64=2)
   ·have e1:=h1 q2.2.1.1
    have e2:=h2 q2.2.2.1;subst e1;subst e2;rw [au q2,ai (by omega),au ⟨q2.1,⟨by omega,q2.2.1.2⟩,by omega,q2.2.2.2⟩]
   ·rw [ai q2] at hok ⊢
    by_cases q3:b0 / 8=30∧(1<n∧b1 / 64=2)∧(2<n∧b2 / 64=2)∧(3<n∧b3 / 64=2)
    ·have e1:=h1 q3.2.1.1
     have e2:=h2 q3.2.2.1.1;have e3:=h3 q3.2.2.2.1;subst e1;subst e2;subst e3;rw [au q3,ai (by omega),ai (by omega),au ⟨q3.1,⟨by omega,q3.2.1.2⟩,⟨by omega,q3.2.2.1.2⟩,by omega,q3.2.2.2.2⟩]
    ·rw [ai q3] at hok
     simp at hok
theorem IL (a b:ByteArray) (pos:Nat) (h:pos<a.size) (hok:¬ ((Utf8.decode a pos).1=65533∧(Utf8.decode a pos).2=1)):Utf8.decode (a++b) pos=Utf8.decode a pos:=by
 rw [gZ] at hok;rw [gZ,gZ,nP a b pos h,size_append]
 have e:a.size+b.size - pos=(a.size - pos)+b.size:=by omega
 rw [e]
 refine decodeN_more _ _ _ _ _ _ _ _ _ (fun h1=>?_) (fun h1=>?_) (fun h1=>?_) hok
 ·rw [nP a b _ (by omega)]
 ·rw [nP a b _ (by omega)]
 ·rw [nP a b _ (by omega)]
theorem qK (a b:ByteArray):∀ f pos,iI (a++b) f (a.size+pos)=iI b f pos
 | 0,_=>rfl
 | f+1,pos=>by
  by_cases h:pos<b.size
  ·rw [fH _ f _ (by rw [size_append];omega),fH b f pos h,Gi,Nat.add_assoc,qK a b f]
  ·rw [gV _ _ _ (by rw [size_append];omega),gV b _ pos h]
theorem A7 (a b:ByteArray):∀ f pos,a.size - pos≤f→pos≤a.size→zR (iI a f pos)=true →
  iI (a++b) (f+b.size) pos=iI a f pos++items b
 | 0,pos,hf,hp,_=>by
  obtain rfl:pos=a.size:=by omega
  rw [bA];have:=qK a b b.size 0;rw [bV] at this;rw [this];rfl
 | f+1,pos,hf,hp,hok=>by
  by_cases h:pos<a.size
  ·rw [fH a f pos h] at hok ⊢
   simp only [zR] at hok
   split at hok
   ·cases hok
   ·rename_i hne
    have hl:=IL a b pos h hne
    have e:f+1+b.size=(f+b.size)+1:=by omega
    have hw:=width_pos a pos h;rw [e,fH _ _ pos (by rw [size_append];omega),hl,A7 a b f _ (by omega) (width_le a pos h) hok]
    rfl
  ·obtain rfl:pos=a.size:=by omega
   rw [gV a _ _ h];have hr:=qK a b (f+1+b.size) 0;rw [bV a.size] at hr;rw [hr,fw]
   exact vG b _ _ 0 (by omega) (by omega)
theorem Gj (a b:ByteArray) (h:okB a=true):items (a++b)=items a++items b:=by
 have:=A7 a b a.size 0 (by omega) (by omega) h
 unfold items
 rw [size_append]
 exact this
theorem Cz:∀ x y:List (Nat × Nat),zR (x++y)=(zR x&&zR y)
 | [],y=>by simp [zR]
 | x :: t,y=>by
  simp only [bI,zR]
  split
  ·rfl
  ·exact Cz t y
theorem rZ:∀ x y:List (Nat × Nat),mi (x++y)=mi x+mi y
 | [],y=>by simp [mi]
 | x :: t,y=>by simp only [bI,mi,rZ t y];omega
end U
namespace S
open Go.Lib Go.Proofs.YtojoahlpgmnbnaaGreatDoor.U
abbrev By:=List UInt8
def mo (c:UInt8):Bool:=decide (97≤c∧c≤122)||decide (65≤c∧c≤90)||decide (c=95)
def kF (c:UInt8):Bool:=decide (48≤c∧c≤57)
def rV (c:UInt8):Bool:=mo c||kF c
def gQ:By→Nat
 | []=>0
 | c :: r=>if mo c then 1+(r.takeWhile rV).length else 0
def nI (l:By):Nat:=(l.takeWhile kF).length
def iy:By→Option Nat
 | []=>none
 | c :: r=>if c=10 then none else if c=34 then some 1 else (iy r).map (·+1)
def gB:By→Nat
 | []=>0
 | c :: r=>if c=34 then (match iy r with|none=>0|some n=>n+1) else 0
def two:By→Bool
 | a :: b :: _=>(a==58&&b==61)||(a==61&&b==61)||(a==33&&b==61)||(a==60&&b==61)||(a==62&&b==61)||(a==38&&b==38)||(a==124&&b==124)
 | _=>false
def wid (l:By):Nat:=(Utf8.decode ⟨l.toArray⟩ 0).2
def fQ (right:Bool) (l:By):Nat:=if two l then 2 else if right then wid l else 1
def zS (x:By):Bool:=x==[102,117,110,99]||x==[118,97,114]||x==[116,121,112,101]||x==[115,116,114,117,99,116]||x==[114,101,116,117,114,110]||x==[105,102]||x==[101,108,115,101]||x==[102,111,114]
def eX (right:Bool) (l:By):Int × Nat :=
 if 0<gQ l then (if zS (l.take (gQ l)) then 3 else 0,gQ l)
 else if 0<nI l then (1,nI l)
 else if 0<gB l then (2,gB l)
 else if l.head?=some 59 then (5,1) else (4,fQ right l)
def eG:By→Nat
 | a :: b :: r=>if a=47∧b=47 then 2+(r.takeWhile (fun c=>decide (c≠10))).length else 0
 | _=>0
def pZ (w:Int) (x:By):Bool :=
 decide (w=0∨w=1∨w=2)||(decide (w=3)&&x==[114,101,116,117,114,110])||(decide (w=4)&&(x==[41]||x==[93]||x==[125]))
def blank (c:UInt8):Bool:=c==32||c==9||c==13||c==10
structure bn where
 w:Int
 t:By
 f:Int
 e:Int
def jJ (right:Bool):Nat→By→Nat→Bool→List bn
 | 0,_,_,_=>[]
 | _+1,[],pos,ended=>if ended then [⟨5,[],pos,pos⟩] else []
 | n+1,c :: r,pos,ended =>
  if c=10∧ended=true then ⟨5,[],pos,((pos+1:Nat):Int)⟩ :: jJ right n r (pos+1) false
  else if blank c=true then jJ right n r (pos+1) ended
  else if 0<eG (c :: r) then jJ right n ((c :: r).drop (eG (c :: r))) (pos+eG (c :: r)) ended
  else ⟨(eX right (c :: r)).1,(c :: r).take (eX right (c :: r)).2,pos,((pos+(eX right (c :: r)).2:Nat):Int)⟩ ::
   jJ right n ((c :: r).drop (eX right (c :: r)).2) (pos+(eX right (c :: r)).2) (pZ (eX right (c :: r)).1 ((c :: r).take (eX right (c :: r)).2))
def fD (right:Bool) (l:By):List bn:=jJ right (l.length+1) l 0 false
theorem xP {l:By} (h:l≠[]):1≤wid l∧wid l≤l.length:=by
 have hz:(⟨l.toArray⟩:ByteArray).size=l.length:=by simp [ByteArray.size]
 have h0:0<(⟨l.toArray⟩:ByteArray).size:=by
  rw [hz]
  cases l with
  | nil=>exact absurd rfl h
  | cons a r=>simp
 have h1:=width_pos _ 0 h0;have h2:=width_le _ 0 h0
 unfold wid
 omega
theorem Gl {l:By} (h:two l=true):2≤l.length:=by
 match l with
 | []=>simp [two] at h
 | [a]=>simp [two] at h
 | a :: b :: r=>simp
theorem IM (right:Bool) {l:By} (h:l≠[]):1≤fQ right l∧fQ right l≤l.length:=by
 unfold fQ
 split
 ·rename_i h2;exact ⟨by omega,Gl h2⟩
 ·split
  ·exact xP h
  ·exact ⟨by omega,by cases l with
    | nil=>exact absurd rfl h
    | cons a r=>simp⟩
theorem IP {α:Type} (p:α→Bool) (l:List α):(l.takeWhile p).length≤l.length:=(List.takeWhile_sublist p).length_le
theorem Gm (l:By):gQ l≤l.length:=by
 cases l with
 | nil=>simp [gQ]
 | cons c r=>simp only [gQ,aH];have:=IP rV r;split <;> omega
theorem uy:∀ (l:By) (n:Nat),iy l=some n→1≤n∧n≤l.length
 | [],n,h=>by simp [iy] at h
 | c :: r,n,h=>by
  simp only [iy] at h
  split at h
  ·cases h
  ·split at h
   ·cases h;simp
   ·cases hq:iy r with
    | none=>rw [hq] at h;cases h
    | some m =>
     rw [hq] at h;have:=uy r m hq;simp only [Option.map_some,bS] at h;simp only [aH]
     omega
theorem XB (l:By):gB l≤l.length:=by
 cases l with
 | nil=>simp [gB]
 | cons c r =>
  simp only [gB,aH]
  split
  ·cases hq:iy r with
   | none=>simp
   | some n=>have:=uy r n hq;simp only;omega
  ·omega
theorem lL (right:Bool) {l:By} (h:l≠[]):1≤(eX right l).2∧(eX right l).2≤l.length:=by
 unfold eX
 split
 ·rename_i h1;exact ⟨h1,Gm l⟩
 ·split
  ·rename_i h1;exact ⟨h1,IP _ _⟩
  ·split
   ·rename_i h1;exact ⟨h1,XB l⟩
   ·split
    ·exact ⟨ae _,by cases l with
      | nil=>exact absurd rfl h
      | cons a r=>simp⟩
    ·exact IM right h
theorem uA (l:By):eG l≤l.length:=by
 match l with
 | []=>simp [eG]
 | [a]=>simp [eG]
 | a :: b :: r =>
  simp only [eG,aH];have:=IP (fun c:UInt8=>decide (c≠10)) r
  split <;> omega
theorem rf (right:Bool):∀ (n m:Nat) (l:By) (pos:Nat) (ended:Bool),l.length<n→l.length<m→jJ right n l pos ended=jJ right m l pos ended
 | 0,_,_,_,_,h,_=>by omega
 | _+1,0,_,_,_,_,h=>by omega
 | n+1,m+1,[],pos,ended,_,_=>rfl
 | n+1,m+1,c :: r,pos,ended,hn,hm=>by
  have hr:r.length<n∧r.length<m:=by simp only [aH] at hn hm;omega
  have hc:=uA (c :: r);have hw:=lL right (l:=c :: r) (by simp)
  have hd:∀ k,1≤k→((c :: r).drop k).length<n∧((c :: r).drop k).length<m:=fun k hk=>by
   rw [bC];simp only [aH] at hn hm ⊢;omega
  simp only [jJ]
  split
  ·rw [rf right n m r _ _ hr.1 hr.2]
  ·split
   ·exact rf right n m r _ _ hr.1 hr.2
   ·split
    ·rename_i hk
     exact rf right n m _ _ _ (hd _ hk).1 (hd _ hk).2
    ·rw [rf right n m _ _ _ (hd _ hw.1).1 (hd _ hw.1).2]
def XC (s:By) (a b:Nat):Prop:=∀ k,a≤k→k<b→(∃ j,a≤j∧j≤k∧s[j]?=some 47)∨∃ c,s[k]?=some c∧blank c=true
structure aaD (s:By) (a:Nat) (t:bn) (f e:Nat):Prop where
 from_:t.f=(f:Int)
 to_:t.e=(e:Int)
 le:a≤f
 fe:f≤e
 end_:e≤s.length
 gap:XC s a f
 text:(t.w=5∧t.t=[]∧(s[f]?=some 10∨f=s.length))∨(t.t≠[]∧t.t=(s.drop f).take (e - f))
inductive yO (s:By):Nat→List bn→Prop
 | nil (a:Nat):yO s a []
 | cons {a:Nat} {t:bn} {f e:Nat} {r:List bn} (h:aaD s a t f e) (hl:(t.t=[]∧f=s.length)→r=[]) (hr:yO s e r):yO s a (t :: r)
theorem BU (s:By) (a:Nat):XC s a a:=fun k h1 h2=>by omega
theorem NQ {s:By} {a b:Nat} {c:UInt8} (h:XC s a b) (hc:s[b]?=some c) (hb:blank c=true):XC s a (b+1):=fun k h1 h2=>by
 by_cases hk:k<b
 ·exact h k h1 hk
 ·obtain rfl:k=b:=by omega
  exact .inr ⟨c,hc,hb⟩
theorem NR {s:By} {a b m:Nat} (h:XC s a b) (hab:a≤b) (hc:s[b]?=some 47):XC s a (b+m):=fun k h1 h2=>by
 by_cases hk:k<b
 ·exact h k h1 hk
 ·exact .inl ⟨b,hab,by omega,hc⟩
theorem drop_cons {s:By} {p:Nat} {c:UInt8} {r:By} (h:s.drop p=c :: r):s[p]?=some c∧p<s.length∧s.drop (p+1)=r:=by
 have hp:p<s.length:=by
  by_cases hp:p<s.length
  ·exact hp
  ·rw [gy (by omega)] at h;cases h
 rw [bY hp] at h;simp only [List.cons.injEq] at h
 exact ⟨by rw [aB hp,h.1],hp,h.2⟩
theorem nQ (right:Bool) (s:By):∀ (n:Nat) (p a:Nat) (ended:Bool),a≤p→p≤s.length→XC s a p→yO s a (jJ right n (s.drop p) p ended)
 | 0,_,_,_,_,_,_=>.nil _
 | n+1,p,a,ended,hap,hps,hg=>by
  cases hd:s.drop p with
  | nil =>
   have hp:p=s.length:=by
    have:=congrArg List.length hd;rw [bC] at this
    simp at this;omega
   simp only [jJ]
   split
   ·exact .cons (f:=p) (e:=p) ⟨rfl,rfl,hap,ae _,hps,hg,.inl ⟨rfl,rfl,.inr hp⟩⟩ (fun _=>rfl) (.nil _)
   ·exact .nil _
  | cons c r =>
   obtain ⟨h1,h2,h3⟩:=drop_cons hd;simp only [jJ]
   split
   ·rename_i hc
    refine .cons (f:=p) (e:=p+1) ⟨rfl,rfl,hap,by omega,by omega,hg,.inl ⟨rfl,rfl,.inl (by rw [h1,hc.1])⟩⟩ (fun h=>by omega) ?_;rw [← h3]
    exact nQ right s n (p+1) (p+1) false (ae _) (by omega) (BU _ _)
   ·split
    ·rename_i hb
     rw [← h3]
     exact nQ right s n (p+1) a ended (by omega) (by omega) (NQ hg h1 hb)
    ·split
     ·rename_i hk
      have hc47:c=47:=by
       match r,hk with
       | [],hk=>simp [eG] at hk
       | b :: r',hk =>
        simp only [eG] at hk
        split at hk
        ·rename_i h;exact h.1
        ·omega
      have hle:=uA (c :: r);rw [← hd,List.drop_drop];rw [← hd,bC] at hle
      exact nQ right s n _ a ended (by omega) (by omega) (NR hg hap (by rw [h1,hc47]))
     ·have hw:=lL right (l:=c :: r) (by simp)
      obtain ⟨m,hm⟩:∃ m,(eX right (c :: r)).2=m:=⟨_,rfl⟩;rw [hm] at hw ⊢;have hle:=hw.2;rw [← hd,bC] at hle
      refine .cons (f:=p) (e:=p+m) ⟨rfl,rfl,hap,by omega,by omega,hg,.inr ⟨?_,?_⟩⟩ (fun h=>absurd h.1 ?_) ?_
      ·simp only
       intro h;have:=congrArg List.length h;rw [ib] at this;simp only [aH,dQ] at this hw
       omega
      ·simp only
       rw [hd,show p+m - p=m by omega]
      ·simp only
       intro h;have:=congrArg List.length h;rw [ib] at this;simp only [aH,dQ] at this hw
       omega
      ·rw [← hd,List.drop_drop]
       exact nQ right s n _ _ _ (ae _) (by omega) (BU _ _)
theorem CF (right:Bool) (s:By):yO s 0 (fD right s):=by
 have:=nQ right s (s.length+1) 0 0 false (ae _) (aM _) (BU _ _);rw [bM] at this
 exact this
theorem MO {p:UInt8→Bool} {d:UInt8} (hd:p d=false) (b:By):∀ r:By,(r++d :: b).takeWhile p=r.takeWhile p
 | []=>by simp [hd]
 | c :: r=>by
  simp only [bI,bK];rw [MO hd b r]
theorem MP (p:UInt8→Bool) (r:By):r.take (r.takeWhile p).length=r.takeWhile p:=(List.prefix_iff_eq_take.1 (List.takeWhile_prefix p)).symm
end S
namespace T
open Go.Lib Go.Proofs.YtojoahlpgmnbnaaGreatDoor.U Go.Proofs.YtojoahlpgmnbnaaGreatDoor.S
inductive Pt where
 | mk (k t:By) (f e:Int) (kids:List Pt)
inductive Out (α:Type) where
 | ok (a:α) (at':Nat)
 | bad (at':Nat)
def Out.next {α β:Type} (o:Out α) (f:α→Nat→Out β):Out β:=match o with
 | .ok a i=>f a i
 | .bad i=>.bad i
section
variable (L:List bn)
def bH (x:By) (i:Nat):Bool:=match L[i]? with
 | some t=>t.t==x&&(t.w==4||t.w==3)
 | none=>false
def bT (w:Int) (i:Nat):Bool:=match L[i]? with
 | some t=>t.w==w
 | none=>false
def bJ (x:By) (i:Nat):Out Unit:=if bH L x i then .ok () (i+1) else .bad i
def dx (i:Nat):By:=match L[i]? with
 | some t=>t.t
 | none=>[]
def gG (i:Nat):Out By:=if bT L 0 i then .ok (dx L i) (i+1) else .bad i
def bE (i:Nat):Nat:=((L.drop i).takeWhile (fun t=>t.w==5)).length
def bQ (i:Nat):Int:=match L[i]? with
 | some t=>t.f
 | none=>0
def jZ (i:Nat):Int:=if i=0 then 0 else match L[i - 1]? with
 | some t=>t.e
 | none=>0
def part (k t:By) (f:Int) (kids:List Pt) (i:Nat):Out Pt:=.ok (.mk k t f (jZ L i) kids) i
def vI (t:bn):Int :=
 if t.w=4 then
  if t.t=[124,124] then 1
  else if t.t=[38,38] then 2
  else if t.t=[61,61]∨t.t=[33,61]∨t.t=[60]∨t.t=[60,61]∨t.t=[62]∨t.t=[62,61] then 3
  else if t.t=[43]∨t.t=[45] then 4
  else if t.t=[42]∨t.t=[47]∨t.t=[37] then 5
  else 0
 else 0
def fE (i:Nat):Int:=match L[i]? with
 | some t=>vI t
 | none=>0
def eY:By:=[102,117,110,99]
def jd:By:=[118,97,114]
def gU:By:=[116,121,112,101]
def kr:By:=[115,116,114,117,99,116]
def dL:By:=[114,101,116,117,114,110]
def kI:By:=[105,102]
def mV:By:=[101,108,115,101]
def lI:By:=[102,111,114]
def vJ:By:=[115,116,97,114]
def qA:By:=[115,108,105,99,101]
def yP:By:=[110,97,109,101]
def rq:By:=[112,97,114,97,109]
def eT:By:=[112,97,114,97,109,115]
def fF:By:=[114,101,115,117,108,116]
def je:By:=[102,105,101,108,100]
def ou:By:=[98,108,111,99,107]
def pU:By:=[97,115,115,105,103,110]
def pV:By:=[100,101,102,105,110,101]
def vK:By:=[101,120,112,114]
def IQ:By:=[110,117,109]
def IU:By:=[115,116,114]
def Qn:By:=[105,100]
def jK:By:=[117,110,97,114,121]
def dG:By:=[98,105,110,97,114,121]
def mW:By:=[99,97,108,108]
def lu:By:=[105,110,100,101,120]
def p9:By:=[110,101,119]
def jL:By:=[109,97,107,101]
def typed:Nat→Nat→Out Pt
 | 0,i=>.bad i
 | n+1,i =>
  if bH L [42] i then (typed n (i+1)).next fun x j=>part L vJ [] (bQ L i) [x] j
  else if bH L [91] i then (bJ L [93] (i+1)).next fun _ j=>(typed n j).next fun x k=>part L qA [] (bQ L i) [x] k
  else (gG L i).next fun s j=>part L yP s (bQ L i) [] j
def param (n:Nat) (kind:By) (i:Nat):Out Pt:=(gG L i).next fun s j=>(typed L n j).next fun x k=>part L kind s (bQ L i) [x] k
def mJ (kind:By):List Pt→Pt
 | []=>.mk kind [] 0 0 []
 | .mk k t f e ks :: r=>.mk kind [] f (match (Pt.mk k t f e ks :: r).getLast? with
  | some (.mk _ _ _ e' _)=>e'
  | none=>0) (.mk k t f e ks :: r)
def params (m:Nat):Nat→Nat→List Pt→Out (List Pt)
 | 0,i,_=>.bad i
 | n+1,i,acc =>
  (param L m rq i).next fun p j=>if bH L [41] j then .ok (acc++[p]) (j+1) else (bJ L [44] j).next fun _ k=>params m n k (acc++[p])
def fields (m:Nat):Nat→Nat→List Pt→Out (List Pt)
 | 0,i,_=>.bad i
 | n+1,i,acc =>
  if bH L [125] i then .ok acc i
  else (param L m je i).next fun p j=>if bE L j=0∧bH L [125] j=false then .bad j else fields m n (j+bE L j) (acc++[p])
mutual
def expr:Nat→Int→Nat→Out Pt
 | 0,_,i=>.bad i
 | n+1,than,i=>(cr n i).next fun a j=>exprs n than (bQ L i) a j
def exprs:Nat→Int→Int→Pt→Nat→Out Pt
 | 0,_,_,_,i=>.bad i
 | n+1,than,f,a,i =>
  if i<L.length∧than<fE L i then (expr n (fE L i) (i+1)).next fun b j=>exprs n than f (.mk dG (dx L i) f (jZ L j) [a,b]) j
  else .ok a i
def cr:Nat→Nat→Out Pt
 | 0,i=>.bad i
 | n+1,i =>
  if bH L [38] i then (cr n (i+1)).next fun e j=>part L jK [38] (bQ L i) [e] j
  else if bH L [42] i then (cr n (i+1)).next fun e j=>part L jK [42] (bQ L i) [e] j
  else if bH L [45] i then (cr n (i+1)).next fun e j=>part L jK [45] (bQ L i) [e] j
  else if bH L [33] i then (cr n (i+1)).next fun e j=>part L jK [33] (bQ L i) [e] j
  else (operand n i).next fun a j=>tails n (bQ L i) a j
def tails:Nat→Int→Pt→Nat→Out Pt
 | 0,_,_,i=>.bad i
 | n+1,f,a,i =>
  if bH L [46] i then (gG L (i+1)).next fun s j=>tails n f (.mk je s f (jZ L j) [a]) j
  else if bH L [91] i then (expr n 0 (i+1)).next fun e j=>(bJ L [93] j).next fun _ k=>tails n f (.mk lu [] f (jZ L k) [a,e]) k
  else .ok a i
def operand:Nat→Nat→Out Pt
 | 0,i=>.bad i
 | n+1,i =>
  if bT L 1 i then part L IQ (dx L i) (bQ L i) [] (i+1)
  else if bT L 2 i then part L IU (dx L i) (bQ L i) [] (i+1)
  else if bH L [40] i then (expr n 0 (i+1)).next fun e j=>(bJ L [41] j).next fun _ k=>.ok e k
  else (gG L i).next fun s j =>
   if bH L [40] j=false then part L Qn s (bQ L i) [] j
   else if s=p9 then (typed L n (j+1)).next fun x k=>(bJ L [41] k).next fun _ m=>part L p9 [] (bQ L i) [x] m
   else if s=jL then (typed L n (j+1)).next fun x k=>(bJ L [44] k).next fun _ m=>(expr n 0 m).next fun e o=>(bJ L [41] o).next fun _ p=>part L jL [] (bQ L i) [x,e] p
   else if bH L [41] (j+1) then part L mW s (bQ L i) [] (j+2)
   else (args n (j+1) []).next fun l k=>part L mW s (bQ L i) l k
def args:Nat→Nat→List Pt→Out (List Pt)
 | 0,i,_=>.bad i
 | n+1,i,acc=>(expr n 0 i).next fun a j=>if bH L [41] j then .ok (acc++[a]) (j+1) else (bJ L [44] j).next fun _ k=>args n k (acc++[a])
end
def iU (n:Nat) (i:Nat):Out Pt:=(bJ L jd i).next fun _ j=>(gG L j).next fun s k=>(typed L n k).next fun x m=>part L jd s (bQ L i) [x] m
mutual
def block:Nat→Nat→Out Pt
 | 0,i=>.bad i
 | n+1,i=>(bJ L [123] i).next fun _ j=>(stmts n (j+bE L j) []).next fun l k=>(bJ L [125] k).next fun _ m=>part L ou [] (bQ L i) l m
def stmts:Nat→Nat→List Pt→Out (List Pt)
 | 0,i,_=>.bad i
 | n+1,i,acc =>
  if bH L [125] i then .ok acc i
  else (stmt n i).next fun p j=>if bE L j=0∧bH L [125] j=false then .bad j else stmts n (j+bE L j) (acc++[p])
def branch:Nat→Nat→Out Pt
 | 0,i=>.bad i
 | n+1,i=>(bJ L kI i).next fun _ j=>(expr L n 0 j).next fun e k=>(block n k).next fun b m =>
  if bH L mV m then
   if bH L kI (m+1) then (branch n (m+1)).next fun o p=>part L kI [] (bQ L i) [e,b,o] p
   else (block n (m+1)).next fun o p=>part L kI [] (bQ L i) [e,b,o] p
  else part L kI [] (bQ L i) [e,b] m
def stmt:Nat→Nat→Out Pt
 | 0,i=>.bad i
 | n+1,i =>
  if bH L jd i then iU L n i
  else if bH L kI i then branch n i
  else if bH L [123] i then block n i
  else if bH L lI i then (expr L n 0 (i+1)).next fun e j=>(block n j).next fun b k=>part L lI [] (bQ L i) [e,b] k
  else if bH L dL i then
   if bT L 5 (i+1)∨bH L [125] (i+1) then part L dL [] (bQ L i) [] (i+1)
   else (expr L n 0 (i+1)).next fun e j=>part L dL [] (bQ L i) [e] j
  else (expr L n 0 i).next fun a j =>
   if bH L [61] j then (expr L n 0 (j+1)).next fun b k=>part L pU [] (bQ L i) [a,b] k
   else if bH L [58,61] j then (expr L n 0 (j+1)).next fun b k=>part L pV [] (bQ L i) [a,b] k
   else part L vK [] (bQ L i) [a] j
end
def si (n:Nat) (i:Nat):Out Pt :=
 (bJ L eY i).next fun _ j=>(gG L j).next fun s k=>(bJ L [40] k).next fun _ m =>
  (if bH L [41] m then .ok [] (m+1) else params L n n m []).next fun ps o =>
   (if bH L [123] o then .ok [] o else (typed L n o).next fun x q=>.ok [x] q).next fun rs q =>
    (block L n q).next fun b r=>part L eY s (bQ L i) [mJ eT ps,mJ fF rs,b] r
def record (n:Nat) (i:Nat):Out Pt :=
 (bJ L gU i).next fun _ j=>(gG L j).next fun s k=>(bJ L kr k).next fun _ m=>(bJ L [123] m).next fun _ o =>
  (fields L n n (o+bE L o) []).next fun l q=>(bJ L [125] q).next fun _ r=>part L gU s (bQ L i) l r
def decl (n:Nat):Out Pt :=
 if bH L eY 0 then si L n 0 else if bH L jd 0 then iU L n 0 else if bH L gU 0 then record L n 0 else .bad 0
end
mutual
def deep:Pt→Nat
 | .mk _ _ _ _ ks=>iL ks+1
def iL:List Pt→Nat
 | []=>0
 | p :: r=>max (deep p) (iL r)
end
end T
namespace K
open Go.Lib Go.Proofs.YtojoahlpgmnbnaaGreatDoor.U Go.Proofs.YtojoahlpgmnbnaaGreatDoor.S Go.Proofs.YtojoahlpgmnbnaaGreatDoor.T
inductive BV where
 | decl|vL|nJ|name|params|result|block|fin|field|param|typeOf|stmt|returned|expr|assigned|otherwise|pre|between|iV|text|behind|operand|called
inductive Stp where
 | m (k:BV)
 | word (x:By)
 | lines (k:BV)
 | more (k:BV)
 | jD (k:BV)
 | kJ (k:BV)
structure Open where
 k:By
 t:By
 f:Int
 kids:List Pt
 kf:Int
structure St where
 i:Nat
 todo:List Stp
 opn:List Open
inductive IV where
 | go (s:St)
 | wrong
 | stuck
def Open.add (a:Open) (p:Pt) (f:Int):Open:={ a with kids:=a.kids++[p],kf:=f }
def Kw:By:=[40]
def mK (t:By):Int :=
 if t=[124,124] then 1
 else if t=[38,38] then 2
 else if t=[61,61]∨t=[33,61]∨t=[60]∨t=[60,61]∨t=[62]∨t=[62,61] then 3
 else if t=[43]∨t=[45] then 4
 else if t=[42]∨t=[47]∨t=[37] then 5
 else 0
def yQ:List Pt→Int
 | []=>0
 | .mk _ _ f _ _ :: _=>f
def vM (l:List Pt):Int:=match l.getLast? with
 | some (.mk _ _ _ e _)=>e
 | none=>0
def Open.close (o:Open) (e:Int):Option Pt :=
 if o.k=Kw then o.kids.head?
 else if o.k=eT∨o.k=fF then some (.mk o.k o.t (yQ o.kids) (vM o.kids) o.kids)
 else some (.mk o.k o.t o.f e o.kids)
def sJ (e:Int):List Open→Option (List Open)
 | o :: a :: r=>(o.close e).map fun p=>a.add p o.f :: r
 | _=>none
def settle (e s:Int) (o:Open):List Open→Option (List Open)
 | []=>if o.k=dG∧s≤mK o.t then none else some [o]
 | a :: r=>if o.k=dG∧s≤mK o.t then settle e s (a.add (.mk o.k o.t o.f e o.kids) o.f) r else some (o :: a :: r)
def oQ (k:By):List Open→Option (List Open)
 | a :: r=>a.kids.getLast?.map fun p=>⟨k,[],a.kf,[p],0⟩ :: { a with kids:=a.kids.dropLast } :: r
 | []=>none
section
variable (L:List bn) (size:Nat)
def tok (i:Nat):bn:=(L[i]?).getD ⟨-1,[],size,size⟩
def sj (x:By) (i:Nat):Bool:=(tok L size i).t==x
def Gn (x:Int) (i:Nat):Bool:=(tok L size i).w==x
def ow (i:Nat) (todo:List Stp):Option (List Open)→IV
 | some o=>.go ⟨i,todo,o⟩
 | none=>.stuck
def ER (t:By):List Open→Option (List Open)
 | o :: r=>some ({ o with t:=t } :: r)
 | []=>none
def ES (k:By):List Open→Option (List Open)
 | o :: r=>some ({ o with k:=k } :: r)
 | []=>none
def opened (k:By) (s:St) (l:List Stp):IV:=.go ⟨s.i,l++s.todo,⟨k,[],(tok L size s.i).f,[],0⟩ :: s.opn⟩
def uB (s:St) (l:List Stp):IV:=.go ⟨s.i,l++s.todo,s.opn⟩
def varDecl (s:St):IV:=opened L size jd s [.word jd,.m .name,.m .typeOf,.m .fin]
def zT (s:St):IV:=opened L size kI s [.word kI,.m .expr,.m .block,.m .otherwise,.m .fin]
def xQ (s:St):IV:=opened L size ou s [.word [123],.lines .stmt,.word [125],.m .fin]
def ET (s:St):IV:=uB s [.m .pre,.m .between]
def BH (s:St):IV:=if s.i=0 then .stuck else ow s.i s.todo (sJ (tok L size (s.i - 1)).e s.opn)
def jO (e s:Int):List Open→Option (List Open)
 | o :: r=>settle e s o r
 | []=>none
def ru (s:St):IV :=
 if s.i=0 then .stuck else
 match jO (tok L size (s.i - 1)).e (mK (tok L size s.i).t) s.opn with
 | none=>.stuck
 | some O=>if 0<mK (tok L size s.i).t then ow s.i ([.m .text,.m .pre,.m .between]++s.todo) (oQ dG O) else .go ⟨s.i,s.todo,O⟩
def bD:BV→St→IV
 | .decl,s =>
  if sj L size eY s.i then opened L size eY s [.word eY,.m .name,.m .params,.m .result,.m .block,.m .fin]
  else if sj L size jd s.i then varDecl L size s
  else if sj L size gU s.i then opened L size gU s [.word gU,.m .name,.word kr,.word [123],.lines .field,.word [125],.m .fin]
  else .wrong
 | .vL,s=>.go { s with i:=s.i+bE L s.i }
 | .nJ,s=>if Gn L size (-1) s.i then .go s else .wrong
 | .name,s=>if Gn L size 0 s.i then ow (s.i+1) s.todo (ER (tok L size s.i).t s.opn) else .wrong
 | .params,s=>opened L size eT s [.word [40],.jD .param,.word [41],.m .fin]
 | .result,s=>if sj L size [123] s.i then (if s.i=0 then .stuck else .go ⟨s.i,s.todo,match s.opn with
   | a :: r=>a.add (.mk fF [] 0 0 []) (tok L size s.i).f :: r
   | []=>[]⟩) else opened L size fF s [.m .typeOf,.m .fin]
 | .block,s=>xQ L size s
 | .fin,s=>BH L size s
 | .field,s=>opened L size je s [.m .name,.m .typeOf,.m .fin]
 | .param,s=>opened L size rq s [.m .name,.m .typeOf,.m .fin]
 | .typeOf,s =>
  if sj L size [42] s.i then opened L size vJ s [.word [42],.m .typeOf,.m .fin]
  else if sj L size [91] s.i then opened L size qA s [.word [91],.word [93],.m .typeOf,.m .fin]
  else opened L size yP s [.m .name,.m .fin]
 | .stmt,s =>
  if sj L size jd s.i then varDecl L size s
  else if sj L size dL s.i then opened L size dL s [.word dL,.m .returned,.m .fin]
  else if sj L size kI s.i then zT L size s
  else if sj L size lI s.i then opened L size lI s [.word lI,.m .expr,.m .block,.m .fin]
  else if sj L size [123] s.i then xQ L size s
  else opened L size vK s [.m .expr,.m .assigned,.m .fin]
 | .returned,s=>if Gn L size 5 s.i=false∧sj L size [125] s.i=false then ET s else .go s
 | .expr,s=>ET s
 | .assigned,s =>
  if sj L size [61] s.i then ow (s.i+1) ([.m .pre,.m .between]++s.todo) (ES pU s.opn)
  else if sj L size [58,61] s.i then ow (s.i+1) ([.m .pre,.m .between]++s.todo) (ES pV s.opn)
  else .go s
 | .otherwise,s=>if sj L size mV s.i then uB s [.word mV,.m .iV] else .go s
 | .pre,s =>
  if sj L size [38] s.i∨sj L size [42] s.i∨sj L size [45] s.i∨sj L size [33] s.i then opened L size jK s [.m .text,.m .pre,.m .fin]
  else uB s [.m .operand,.m .behind]
 | .between,s=>ru L size s
 | .iV,s=>if sj L size kI s.i then zT L size s else xQ L size s
 | .text,s=>if s.i<L.length then ow (s.i+1) s.todo (ER (tok L size s.i).t s.opn) else .stuck
 | .behind,s =>
  if sj L size [46] s.i then ow s.i ([.word [46],.m .name,.m .fin,.m .behind]++s.todo) (oQ je s.opn)
  else if sj L size [91] s.i then ow s.i ([.word [91],.m .expr,.word [93],.m .fin,.m .behind]++s.todo) (oQ lu s.opn)
  else .go s
 | .operand,s =>
  if Gn L size 1 s.i then opened L size IQ s [.m .text,.m .fin]
  else if Gn L size 2 s.i then opened L size IU s [.m .text,.m .fin]
  else if Gn L size 0 s.i then opened L size Qn s [.m .name,.m .called,.m .fin]
  else opened L size Kw s [.word [40],.m .expr,.word [41],.m .fin]
 | .called,s =>
  if sj L size [40] s.i then
   match s.opn with
   | []=>.stuck
   | o :: r =>
    if o.t=p9 then .go ⟨s.i+1,[.m .typeOf,.word [41]]++s.todo,{ o with k:=p9,t:=[] } :: r⟩
    else if o.t=jL then .go ⟨s.i+1,[.m .typeOf,.word [44],.m .expr,.word [41]]++s.todo,{ o with k:=jL,t:=[] } :: r⟩
    else .go ⟨s.i+1,[.jD .expr,.word [41]]++s.todo,{ o with k:=mW } :: r⟩
  else .go s
def exec:Stp→St→IV
 | .m k,s=>bD L size k s
 | .word x,s=>if sj L size x s.i then .go { s with i:=s.i+1 } else .wrong
 | .lines k,s=>if sj L size [125] (s.i+bE L s.i) then .go { s with i:=s.i+bE L s.i } else .go ⟨s.i+bE L s.i,[.m k,.more k]++s.todo,s.opn⟩
 | .more k,s=>if Gn L size 5 s.i then uB s [.lines k] else .go s
 | .jD k,s=>if sj L size [41] s.i then .go s else uB s [.m k,.kJ k]
 | .kJ k,s=>if sj L size [44] s.i then uB s [.word [44],.m k,.kJ k] else .go s
def fA (s:St):IV:=match s.todo with
 | []=>.stuck
 | x :: r=>exec L size x { s with todo:=r }
inductive Goes:Nat→St→St→Prop
 | refl (n:Nat) (s:St):Goes n s s
 | step {n:Nat} {s s1 s2:St}:fA L size s=.go s1→Goes n s1 s2→Goes (n+1) s s2
def uX (n:Nat) (s:St) (j:Nat):Prop:=∃ s',Goes L size n s s'∧fA L size s'=.wrong∧s'.i=j
end
section
variable {L:List bn} {size:Nat}
theorem Goes.mono {n m:Nat} {s s':St} (h:Goes L size n s s') (hm:n≤m):Goes L size m s s':=by
 induction h generalizing m with
 | refl n s=>exact .refl _ _
 | step h1 _ ih=>obtain ⟨k,rfl⟩:∃ k,m=k+1:=⟨m - 1,by omega⟩;exact .step h1 (ih (by omega))
theorem Goes.trans {n m:Nat} {a b c:St} (h:Goes L size n a b) (k:Goes L size m b c):Goes L size (n+m) a c:=by
 induction h with
 | refl n s=>exact k.mono (by omega)
 | step h1 _ ih=>exact (Goes.step h1 (ih k)).mono (by omega)
theorem Goes.falls {n m j:Nat} {a b:St} (h:Goes L size n a b) (k:uX L size m b j):uX L size (n+m) a j:=by
 obtain ⟨s',h1,h2⟩:=k
 exact ⟨s',h.trans h1,h2⟩
theorem uX.step {n j:Nat} {s s1:St} (h:fA L size s=.go s1) (k:uX L size n s1 j):uX L size (n+1) s j:=by
 obtain ⟨s',h1,h2⟩:=k
 exact ⟨s',.step h h1,h2⟩
theorem uX.now {s:St} (h:fA L size s=.wrong) (n:Nat):uX L size n s s.i:=⟨s,.refl _ _,h,rfl⟩
end
def mq:List By:=[eY,jd,gU,kr,dL,kI,mV,lI,[42],[91],[93],[40],[41],[44],[123],[125],[61],[58,61],[46],[38],[45],[33]]
def weight:List By:=[[124,124],[38,38],[61,61],[33,61],[60],[60,61],[62],[62,61],[43],[45],[42],[47],[37]]
structure vN (t:bn):Prop where
 w:t.w≠-1
 sp:t.t∈mq→t.w=4∨t.w=3
 wt:t.t∈weight→t.w=4
section
variable {L:List bn} (size:Nat) (hL:∀ t∈L,vN t)
theorem mM {i:Nat} (h:i<L.length):tok L size i=L[i]:=by unfold tok;rw [aB h];rfl
theorem qL {i:Nat} (h:¬ i<L.length):tok L size i=⟨-1,[],size,size⟩:=by unfold tok;rw [di (by omega)];rfl
include hL
theorem gN {x:By} (hx:x∈mq) (i:Nat):sj L size x i=bH L x i:=by
 unfold sj bH
 by_cases h:i<L.length
 ·rw [mM size h,aB h]
  dsimp only
  cases h2:(L[i].t==x) with
  | false=>rfl
  | true =>
   have h3:L[i].t=x:=by simpa using h2
   have h4:=(hL _ (bG h)).sp (by rw [h3];exact hx)
   rcases h4 with h4|h4 <;> rw [h4] <;> rfl
 ·rw [qL size h,di (by omega)]
  have:x≠[]:=by rintro rfl;revert hx;decide
  simp only [dS]
  exact fun e=>this e.symm
theorem vP {x:Int} (hx:x≠-1) (i:Nat):Gn L size x i=bT L x i:=by
 have _hL:=hL
 unfold Gn bT
 by_cases h:i<L.length
 ·rw [mM size h,aB h]
 ·rw [qL size h,di (by omega)]
  simp only [dS]
  exact fun e=>hx e.symm
theorem Uj (i:Nat):Gn L size (-1) i=decide (L.length≤i):=by
 unfold Gn
 by_cases h:i<L.length
 ·rw [mM size h]
  have h4:=(hL _ (bG h)).w;rw [dm (by omega)]
  simpa using h4
 ·rw [qL size h,decide_eq_true (by omega)];rfl
theorem Gp (i:Nat):mK (tok L size i).t=fE L i:=by
 unfold fE
 by_cases h:i<L.length
 ·rw [mM size h,aB h]
  dsimp only
  unfold vI
  by_cases h4:L[i].w=4
  ·rw [au h4];rfl
  ·rw [ai h4]
   have h5:¬ L[i].t∈weight:=fun e=>h4 ((hL _ (bG h)).wt e)
   unfold weight at h5
   simp only [bB,ed,or_false,not_or] at h5
   unfold mK
   simp only [h5,if_false,or_self]
 ·rw [qL size h,di (by omega)];rfl
end
end K
namespace S
open Go.RowKit
open Go.Lib
open U
theorem vQ {a b:Bool} (h:a=b):Ending.returned (.bool a)=.returned (.bool b):=by rw [h]
theorem KH (c:UInt8) (w:World):Calls Tryz.prog 108 #[.int .u8 (c.toNat:Nat)] w fun e w'=>e=.returned (.bool (kF c))∧w=w':=by
 have hf:kF c=decide (48≤c.toNat∧c.toNat≤57):=by unfold kF;simp [gM]
 rw [hf];generalize c.toNat=n;obtain ⟨R,hR⟩:∃ R,decide (48≤n∧n≤57)=R:=⟨_,rfl⟩;have HR:=hid hR;rw [hR];clear hR
 go_enter Tryz.func108,Tryz.ntmps108
 go_wp2_with fail
 all_goals (go_ret;exact ⟨vQ (by rw [← HR.out,gq];simp;omega),rfl⟩)
theorem KI (c:UInt8) (w:World):Calls Tryz.prog 107 #[.int .u8 (c.toNat:Nat)] w fun e w'=>e=.returned (.bool (mo c))∧w=w':=by
 have hf:mo c=decide ((97≤c.toNat∧c.toNat≤122)∨(65≤c.toNat∧c.toNat≤90)∨c.toNat=95):=by
  unfold mo
  have:decide (c=95)=decide (c.toNat=95):=by
   rw [decide_eq_decide]
   exact ⟨fun h=>by rw [h];rfl,fun h=>UInt8.toNat_inj.1 h⟩
  rw [this]
  simp [gM,Bool.or_assoc]
 rw [hf];generalize c.toNat=n;obtain ⟨R,hR⟩:∃ R,decide ((97≤n∧n≤122)∨(65≤n∧n≤90)∨n=95)=R:=⟨_,rfl⟩;have HR:=hid hR;rw [hR];clear hR
 go_enter Tryz.func107,Tryz.ntmps107
 go_wp2_with fail
 all_goals (go_ret;exact ⟨vQ (by rw [← HR.out,gq];simp;omega),rfl⟩)
theorem Uk (s:ByteArray) (w:World):Calls Tryz.prog 81 #[.string s] w fun e w'=>e=.returned (.bool (zS s.toList))∧w=w':=by
 obtain ⟨R,hR⟩:∃ R,zS s.toList=R:=⟨_,rfl⟩;have HR:=hid hR;rw [hR];clear hR
 go_enter Tryz.func81,Tryz.ntmps81
 go_wp2_with fail
 all_goals (go_ret;exact ⟨vQ (by first|(exfalso;simp_all;done)|(rw [← HR.out];simp only [zS, *];rfl)),rfl⟩)
theorem IW {W:World} {k:Nat} {a b c d:Value} {t:TypeId} (h:W.heap[k]?=some (.cells #[a,b,c,d] t (0,0))) :
  W.cell? ⟨k,0,none⟩=some a∧W.cell? ⟨k,1,none⟩=some b∧W.cell? ⟨k,2,none⟩=some c∧W.cell? ⟨k,3,none⟩=some d:=by
 refine ⟨?_,?_,?_,?_⟩ <;> (unfold World.cell?;rw [h];rfl)
theorem Qo (k f e':Int) (t:ByteArray) (w:World):Calls Tryz.prog 57 #[.agg #[.int .i64 k,.string t,.int .i64 f,.int .i64 e']] w fun e w'=>e=.returned (.bool (pZ k t.toList))∧Below w.heap.size w w':=by
 obtain ⟨R,hR⟩:∃ R,pZ k t.toList=R:=⟨_,rfl⟩;rw [hR]
 unfold pZ at hR
 have HR:=hid hR;clear hR
 go_enter Tryz.func57,Tryz.ntmps57
 go_wp2_with fail
 all_goals (go_ret;refine ⟨vQ (by first|(exfalso;simp_all;done)|(exfalso;omega)|(rw [← HR.out];simp [*];done)|(rw [← HR.out];simp_all;done)|(rw [← HR.out];simp;omega)),(ah _ _).alloc (ae _) _⟩)
theorem dP (s:ByteArray):s.toList.length=s.size:=by rw [bg];rfl
theorem fO (s:ByteArray) {i:Nat} (h:i<s.size):s.toList.drop i=s[i] :: s.toList.drop (i+1):=by
 rw [bY (by rw [dP];exact h)]
 congr 1
 simp only [bg]
 rfl
theorem xR (s:ByteArray) {i:Nat} (h:s.size≤i):s.toList.drop i=[]:=gy (by rw [dP];exact h)
def nameAt (s:ByteArray) (i:Nat):Nat:=if i=0 then gQ s.toList else i+((s.toList.drop i).takeWhile rV).length
theorem NS (s:ByteArray) {i:Nat} (h:i<s.size) (hc:mo s[i]=true∨(kF s[i]=true∧i≠0)):nameAt s (i+1)=nameAt s i:=by
 unfold nameAt
 rw [ai (by omega)]
 by_cases h0:i=0
 ·subst h0
  rw [au rfl]
  have hl:mo s[0]=true:=by
   rcases hc with h|⟨_,h⟩
   ·exact h
   ·exact absurd rfl h
  have:=fO s h;rw [bM] at this;rw [this];simp only [gQ,hl,if_true,bA,List.drop_succ_cons,bM]
 ·rw [ai h0,fO s h,bK]
  have:rV s[i]=true:=by
   unfold rV
   rcases hc with h|⟨h,_⟩ <;> simp [h]
  rw [this];simp only [if_true,aH]
  omega
theorem KJ (s:ByteArray) {i:Nat} (h:i<s.size) (h1:mo s[i]=false) (h2:kF s[i]=false∨i=0):nameAt s i=i:=by
 unfold nameAt
 by_cases h0:i=0
 ·subst h0
  rw [au rfl];have:=fO s h;rw [bM] at this;rw [this]
  simp [gQ,h1]
 ·rw [ai h0,fO s h,bK]
  have:rV s[i]=false:=by
   unfold rV
   rcases h2 with h|h
   ·simp [h,h1]
   ·exact absurd h h0
  rw [this]
  simp
theorem KL (s:ByteArray) {i:Nat} (h:s.size≤i):nameAt s i=i:=by
 unfold nameAt
 by_cases h0:i=0
 ·subst h0
  rw [au rfl];have:=xR s h;rw [bM] at this;rw [this];rfl
 ·rw [ai h0,xR s h];rfl
theorem Qp (s:ByteArray) (w:World) (hs:s.size≤1099511627776):Calls Tryz.prog 80 #[.string s] w fun e w'=>e=.returned (.int .i64 (gQ s.toList:Nat))∧w=w':=by
 have cL:=fun c W=>KI c W
 have cF:=fun c W=>KH c W
 obtain ⟨R,hR⟩:∃ R,gQ s.toList=R:=⟨_,rfl⟩;have HR:Hid (nameAt s 0=R):=hid hR;rw [hR];clear hR
 go_enter Tryz.func80,Tryz.ntmps80
 go_wp2_with fail
 go_loop [3] (fun iv=>∃ i:Nat,iv=.int .i64 i∧i≤s.size∧Hid (nameAt s i=R)) (fun iv=>s.size - (intOf iv).toNat)
 case atStart=>exact ⟨0,rfl,aM _,HR⟩
 case round =>
  obtain ⟨i,rfl,hi,HI⟩:=hrel;clear HR
  by_cases hlt:i<s.size
  ·have h1:=NS s hlt
   have h2:=KJ s hlt;obtain ⟨x,hx⟩:∃ x,s[i]=x:=⟨_,rfl⟩;rw [hx] at h1 h2;have H1:=hid h1;have H2:=hid h2;have c1:=cL x w;have c2:=cF x w;clear h1 h2
   go_wp2_with fail
   refine c1.mono ?_;rintro e w1 ⟨rfl,rfl⟩
   go_wp2_with fail
   refine c2.mono ?_;rintro e w2 ⟨rfl,rfl⟩;clear c1 c2
   cases hl:mo x
   ·cases hf:kF x
    ·have HE:=hid (H2.out hl (.inl hf))
     clear hl hf
     go_wp2_with fail
     go_ret
     exact ⟨by rw [← HI.out,HE.out];rfl,rfl⟩
    ·by_cases h0:i=0
     ·have HE:=hid (H2.out hl (.inr h0))
      have hz:((i:Int)==0)=true:=by simp [h0]
      clear hl hf h0
      go_wp2_with fail
      go_ret
      exact ⟨by rw [← HI.out,HE.out];rfl,rfl⟩
     ·have HN:Hid (nameAt s (i+1)=R):=hid ((H1.out (.inr ⟨hf,h0⟩)).trans HI.out)
      have hz:((i:Int)==0)=false:=by simp [h0]
      clear hl hf h0
      go_wp2_with fail
      go_round
      case rel=>exact ⟨i+1,by go_num,by omega,HN⟩
      case measure=>simp [intOf];omega
   ·have HN:Hid (nameAt s (i+1)=R):=hid ((H1.out (.inl hl)).trans HI.out)
    clear hl
    go_wp2_with fail
    go_round
    case rel=>exact ⟨i+1,by go_num,by omega,HN⟩
    case measure=>simp [intOf];omega
  ·have HE:=hid (KL s (i:=i) (by omega))
   go_wp2_with fail
   go_ret
   exact ⟨by rw [← HI.out,HE.out];rfl,rfl⟩
def dz (p:UInt8→Bool) (s:ByteArray) (i:Nat):Nat:=i+((s.toList.drop i).takeWhile p).length
theorem ry {p:UInt8→Bool} {s:ByteArray} {i:Nat} (h:i<s.size) (hp:p s[i]=true):dz p s (i+1)=dz p s i:=by
 unfold dz
 rw [fO s h,bK,hp];simp only [if_true,aH];omega
theorem qd {p:UInt8→Bool} {s:ByteArray} {i:Nat} (h:i<s.size) (hp:p s[i]=false):dz p s i=i:=by
 unfold dz
 rw [fO s h,bK,hp];simp
theorem vR (p:UInt8→Bool) {s:ByteArray} {i:Nat} (h:s.size≤i):dz p s i=i:=by
 unfold dz
 rw [xR s h];rfl
theorem Ul (c:UInt8):(kF c=true∧decide ((48:Int)≤(c.toNat:Int))=true∧decide ((c.toNat:Int)≤57)=true)∨(kF c=false∧decide ((48:Int)≤(c.toNat:Int))=false)∨(kF c=false∧decide ((48:Int)≤(c.toNat:Int))=true∧decide ((c.toNat:Int)≤57)=false):=by
 have hf:kF c=decide (48≤c.toNat∧c.toNat≤57):=by unfold kF;simp [gM]
 rw [hf];generalize c.toNat=n
 by_cases h1:48≤n
 ·by_cases h2:n≤57
  ·exact .inl ⟨by simp [h1,h2],by simp;omega,by simp;omega⟩
  ·exact .inr (.inr ⟨by simp [h2],by simp;omega,by simp;omega⟩)
 ·exact .inr (.inl ⟨by simp [h1],by simp;omega⟩)
theorem KM (s:ByteArray) (w:World) (hs:s.size≤1099511627776):Calls Tryz.prog 82 #[.string s] w fun e w'=>e=.returned (.int .i64 (nI s.toList:Nat))∧w=w':=by
 obtain ⟨R,hR⟩:∃ R,nI s.toList=R:=⟨_,rfl⟩;have HR:Hid (dz kF s 0=R):=hid (by unfold dz;rw [bA,bM];exact hR);rw [hR];clear hR
 go_enter Tryz.func82,Tryz.ntmps82
 go_wp2_with fail
 go_loop [3] (fun iv=>∃ i:Nat,iv=.int .i64 i∧i≤s.size∧Hid (dz kF s i=R)) (fun iv=>s.size - (intOf iv).toNat)
 case atStart=>exact ⟨0,rfl,aM _,HR⟩
 case round =>
  obtain ⟨i,rfl,hi,HI⟩:=hrel;clear HR
  by_cases hlt:i<s.size
  ·have h1:=ry (p:=kF) hlt
   have h2:=qd (p:=kF) hlt;obtain ⟨x,hx⟩:∃ x,s[i]=x:=⟨_,rfl⟩;rw [hx] at h1 h2;have H1:=hid h1;have H2:=hid h2;have hor:=Ul x;clear h1 h2
   rcases hor with ⟨hf,d1,d2⟩|⟨hf,d1⟩|⟨hf,d1,d2⟩
   ·have HN:=hid ((H1.out hf).trans HI.out)
    clear hf
    go_wp2_with fail
    go_round
    case rel=>exact ⟨i+1,by go_num,by omega,HN⟩
    case measure=>simp [intOf];omega
   ·have HE:=hid (H2.out hf)
    clear hf
    go_wp2_with fail
    go_ret
    exact ⟨by rw [← HI.out,HE.out];rfl,rfl⟩
   ·have HE:=hid (H2.out hf)
    clear hf
    go_wp2_with fail
    go_ret
    exact ⟨by rw [← HI.out,HE.out];rfl,rfl⟩
  ·have HE:=hid (vR kF (s:=s) (i:=i) (by omega))
   go_wp2_with fail
   go_ret
   exact ⟨by rw [← HI.out,HE.out];rfl,rfl⟩
def P5 (s:ByteArray) (i:Nat):Nat:=match iy (s.toList.drop i) with|none=>0|some n=>i+n
theorem XD {s:ByteArray} {i:Nat} (h:i<s.size) (hc:s[i]=10):P5 s i=0:=by
 unfold P5
 rw [fO s h]
 simp [iy,hc]
theorem XE {s:ByteArray} {i:Nat} (h:i<s.size) (hc:s[i]=34):P5 s i=i+1:=by
 unfold P5
 rw [fO s h]
 simp [iy,hc]
theorem XF {s:ByteArray} {i:Nat} (h:i<s.size) (h1:s[i]≠10) (h2:s[i]≠34):P5 s (i+1)=P5 s i:=by
 unfold P5
 rw [fO s h];simp only [iy,ai h1,ai h2]
 cases iy (s.toList.drop (i+1)) with
 | none=>rfl
 | some n=>simp only [Option.map_some];omega
theorem Um {s:ByteArray} {i:Nat} (h:s.size≤i):P5 s i=0:=by
 unfold P5
 rw [xR s h];rfl
theorem qg (c d:UInt8):((c.toNat:Int)==(d.toNat:Int))=decide (c=d):=by
 by_cases h:c=d
 ·subst h;simp
 ·have:¬ c.toNat=d.toNat:=fun e=>h (UInt8.toNat_inj.1 e)
  simp [h];omega
theorem NT (s:ByteArray) (w:World) (hs:s.size≤1099511627776) (h0:0<s.size):Calls Tryz.prog 83 #[.string s] w fun e w'=>e=.returned (.int .i64 (gB s.toList:Nat))∧w=w':=by
 have hl:=fO s h0;rw [bM] at hl;obtain ⟨R,hR⟩:∃ R,gB s.toList=R:=⟨_,rfl⟩;rw [hR];obtain ⟨z,hz⟩:∃ z,s[0]=z:=⟨_,rfl⟩
 by_cases xS:z=34
 ·have HR:Hid (P5 s 1=R):=hid (by
   rw [← hR,hl,hz,xS]
   unfold P5 gB
   simp only [bA,if_true]
   cases iy (s.toList.drop 1) with
   | none=>rfl
   | some n=>simp only;omega)
  have hb:((z.toNat:Int)==34)=true:=by rw [xS];rfl
  clear hR hl xS
  go_enter Tryz.func83,Tryz.ntmps83
  go_wp2_with fail
  go_loop [3] (fun iv=>∃ i:Nat,iv=.int .i64 i∧1≤i∧i≤s.size∧Hid (P5 s i=R)) (fun iv=>s.size - (intOf iv).toNat)
  case atStart=>exact ⟨1,rfl,ae _,h0,HR⟩
  case round =>
   obtain ⟨i,rfl,hi1,hi,HI⟩:=hrel;clear HR
   by_cases hlt:i<s.size
   ·have h1:=XD hlt
    have h2:=XE hlt;have h3:=XF hlt;obtain ⟨x,hx⟩:∃ x,s[i]=x:=⟨_,rfl⟩;rw [hx] at h1 h2 h3;have H1:=hid h1;have H2:=hid h2;have H3:=hid h3;have e1:=qg x 10;have e2:=qg x 34;clear h1 h2 h3
    by_cases h10:x=10
    ·rw [decide_eq_true h10] at e1
     replace e1:((x.toNat:Int)==10)=true:=e1;have HE:=hid (H1.out h10);clear e2 h10
     go_wp2_with fail
     go_ret
     exact ⟨by rw [← HI.out,HE.out];rfl,rfl⟩
    ·rw [dm h10] at e1
     replace e1:((x.toNat:Int)==10)=false:=e1
     by_cases xS:x=34
     ·rw [decide_eq_true xS] at e2
      replace e2:((x.toNat:Int)==34)=true:=e2;have HE:=hid (H2.out xS);clear h10 xS
      go_wp2_with fail
      go_ret
      exact ⟨by rw [← HI.out,HE.out];rfl,rfl⟩
     ·rw [dm xS] at e2
      replace e2:((x.toNat:Int)==34)=false:=e2;have HN:=hid ((H3.out h10 xS).trans HI.out);clear h10 xS
      go_wp2_with fail
      go_round
      case rel=>exact ⟨i+1,by go_num,by omega,by omega,HN⟩
      case measure=>simp [intOf];omega
   ·have HE:=hid (Um (s:=s) (i:=i) (by omega))
    go_wp2_with fail
    go_ret
    exact ⟨by rw [← HI.out,HE.out];rfl,rfl⟩
 ·have hR0:R=0:=by rw [← hR,hl,hz];simp [gB,xS]
  subst hR0;have hb:=qg z 34;rw [dm xS] at hb;replace hb:((z.toNat:Int)==34)=false:=hb;clear hR hl xS
  go_enter Tryz.func83,Tryz.ntmps83
  go_wp2_with fail
  go_ret
  exact ⟨rfl,rfl⟩
theorem ext_list (s:ByteArray) (i j:Nat):(s.extract i j).toList=(s.toList.drop i).take (j - i):=by
 rw [bg,bg,ByteArray.data_extract,Array.toList_extract]
theorem sV (s:ByteArray) (n:Nat):(s.extract 0 n).toList=s.toList.take n:=by rw [ext_list];rfl
theorem kK (s:ByteArray) (n:Nat):(s.extract n s.size).toList=s.toList.drop n:=by
 rw [ext_list,bX];rw [bC,dP];exact ae _
def rz (c:UInt8):Bool:=decide (c≠10)
theorem XG (s:ByteArray):(2≤s.size∧((s.extract 0 2).toList==[47,47])=true∧eG s.toList=dz rz s 2)∨(2≤s.size∧((s.extract 0 2).toList==[47,47])=false∧eG s.toList=0)∨(s.size<2∧eG s.toList=0):=by
 have hl:=dP s;rw [sV]
 unfold dz
 match h:s.toList with
 | []=>rw [h] at hl;simp at hl;exact .inr (.inr ⟨by omega,rfl⟩)
 | [a]=>rw [h] at hl;simp at hl;exact .inr (.inr ⟨by omega,rfl⟩)
 | a :: b :: r =>
  rw [h] at hl;simp only [aH] at hl
  by_cases hc:a=47∧b=47
  ·obtain ⟨rfl,rfl⟩:=hc
   refine .inl ⟨by omega,by simp,?_⟩;simp only [eG,and_self,if_true,List.drop_succ_cons,bM]
   rfl
  ·refine .inr (.inl ⟨by omega,?_,?_⟩)
   ·simp only [List.take_succ_cons,List.take_zero]
    rw [dS];intro h
    simp at h
    exact hc h
   ·simp only [eG];rw [ai hc]
theorem IX (s:ByteArray) (w:World) (hs:s.size≤1099511627776):Calls Tryz.prog 56 #[.string s] w fun e w'=>e=.returned (.int .i64 (eG s.toList:Nat))∧w=w':=by
 rcases XG s with ⟨h2,hb,hR⟩|⟨h2,hb,hR⟩|⟨h2,hR⟩
 ·rw [hR]
  obtain ⟨R,hR2⟩:∃ R,dz rz s 2=R:=⟨_,rfl⟩;have HR:=hid hR2
  have hd:decide ((s.size:Int)<2)=false:=by simp;omega
  rw [hR2];clear hR hR2
  go_enter Tryz.func56,Tryz.ntmps56
  go_wp2_with fail
  go_loop [3] (fun iv=>∃ i:Nat,iv=.int .i64 i∧i≤s.size∧Hid (dz rz s i=R)) (fun iv=>s.size - (intOf iv).toNat)
  case atStart=>exact ⟨2,rfl,h2,HR⟩
  case round =>
   obtain ⟨i,rfl,hi,HI⟩:=hrel;clear HR
   by_cases hlt:i<s.size
   ·have h1:=ry (p:=rz) hlt
    have h2:=qd (p:=rz) hlt;obtain ⟨x,hx⟩:∃ x,s[i]=x:=⟨_,rfl⟩;rw [hx] at h1 h2;have H1:=hid h1;have H2:=hid h2;have e1:=qg x 10;clear h1 h2
    by_cases h10:x=10
    ·rw [decide_eq_true h10] at e1
     replace e1:((x.toNat:Int)==10)=true:=e1;have HE:=hid (H2.out (by simp [rz,h10]));clear h10
     go_wp2_with fail
     go_ret
     exact ⟨by rw [← HI.out,HE.out];rfl,rfl⟩
    ·rw [dm h10] at e1
     replace e1:((x.toNat:Int)==10)=false:=e1;have HN:=hid ((H1.out (by simp [rz,h10])).trans HI.out);clear h10
     go_wp2_with fail
     go_round
     case rel=>exact ⟨i+1,by go_num,by omega,HN⟩
     case measure=>simp [intOf];omega
   ·have HE:=hid (vR rz (s:=s) (i:=i) (by omega))
    go_wp2_with fail
    go_ret
    exact ⟨by rw [← HI.out,HE.out];rfl,rfl⟩
 ·rw [hR]
  have hd:decide ((s.size:Int)<2)=false:=by simp;omega
  clear hR
  go_enter Tryz.func56,Tryz.ntmps56
  go_wp2_with fail
  go_ret
  exact ⟨rfl,rfl⟩
 ·rw [hR]
  have hd:decide ((s.size:Int)<2)=true:=by simp;omega
  clear hR
  go_enter Tryz.func56,Tryz.ntmps56
  go_wp2_with fail
  go_ret
  exact ⟨rfl,rfl⟩
end S
namespace L
open Go.Lib Go.Proofs.YtojoahlpgmnbnaaGreatDoor.U
def aee (s:ByteArray) (i:Nat):Bool:=(s.get! i).toNat==10
def XH (s:ByteArray) (i:Nat):List Nat:=(List.range i).filter (aee s)
def ends (s:ByteArray):List Nat:=XH s s.size
structure aid (E:List Nat) (n:Nat):Prop where
 aie:E.Pairwise (·<·)
 lt:∀ x∈E,x<n
def nx (E:List Nat) (n:Nat):Nat:=if n=0 then 0 else E.getD (n - 1) 0+1
def en (E:List Nat) (z n:Nat):Nat:=if n=E.length then z else E.getD n 0
def ln (s:ByteArray) (n:Nat):ByteArray:=s.extract (nx (ends s) n) (en (ends s) s.size n)
theorem size_extract (s:ByteArray) (i j:Nat) (h:i≤j) (hj:j≤s.size):(s.extract i j).size=j - i:=by
 simp [ByteArray.size_extract];omega
def ahead (E:List Nat) (a:Int):Nat:=E.countP (fun e:Nat=>decide ((e:Int)<a))
theorem MQ (x y:List (Nat × Nat)):zR (x++y)=true ↔ zR x=true∧zR y=true:=by rw [Cz,ic]
theorem IY (n k b0 b1 b2 b3 c1 c2 c3:Nat) (hn:1≤n) (h1:1<n→c1=b1) (h2:2<n→c2=b2) (h3:3<n→c3=b3)
  (hw:(decodeN (n+k) b0 c1 c2 c3).2≤n) (hok:¬ ((decodeN (n+k) b0 c1 c2 c3).1=65533∧(decodeN (n+k) b0 c1 c2 c3).2=1)):decodeN n b0 b1 b2 b3=decodeN (n+k) b0 c1 c2 c3:=by
 unfold decodeN at hw hok ⊢
 by_cases c0:b0<128
 ·simp [c0]
 ·rw [ai c0] at hw hok ⊢
  rw [ai c0]
  by_cases q1:b0 / 32=6∧(1<n+k∧c1 / 64=2)
  ·by_cases hn1:1<n
   ·have e1:=h1 hn1
    subst e1;rw [au q1,au ⟨q1.1,hn1,q1.2.2⟩]
   ·rw [au q1] at hw hok
    exfalso
    split at hw <;> split at hok <;> simp at hw hok <;> omega
  ·rw [ai q1] at hw hok ⊢
   rw [ai (fun q=>q1 ⟨q.1,by omega,by rw [h1 q.2.1];exact q.2.2⟩)]
   by_cases q2:b0 / 16=14∧(1<n+k∧c1 / 64=2)∧(2<n+k∧c2 / 64=2)
   ·by_cases hn2:2<n
    ·have e1:=h1 (by omega)
     have e2:=h2 hn2;subst e1;subst e2;rw [au q2,au ⟨q2.1,⟨by omega,q2.2.1.2⟩,hn2,q2.2.2.2⟩]
    ·rw [au q2] at hw hok
     exfalso
     split at hw <;> split at hok <;> simp at hw hok <;> omega
   ·rw [ai q2] at hw hok ⊢
    rw [ai (fun q=>q2 ⟨q.1,⟨by omega,by rw [h1 q.2.1.1];exact q.2.1.2⟩,by omega,by rw [h2 q.2.2.1];exact q.2.2.2⟩)]
    by_cases q3:b0 / 8=30∧(1<n+k∧c1 / 64=2)∧(2<n+k∧c2 / 64=2)∧(3<n+k∧c3 / 64=2)
    ·by_cases hn3:3<n
     ·have e1:=h1 (by omega)
      have e2:=h2 (by omega);have e3:=h3 hn3;subst e1;subst e2;subst e3;rw [au q3,au ⟨q3.1,⟨by omega,q3.2.1.2⟩,⟨by omega,q3.2.2.1.2⟩,hn3,q3.2.2.2.2⟩]
     ·rw [au q3] at hw hok
      exfalso
      split at hw <;> split at hok <;> simp at hw hok <;> omega
    ·rw [ai q3] at hok
     simp at hok
theorem KN (a b:ByteArray) (pos:Nat) (h:pos<a.size) (hw:pos+(Utf8.decode (a++b) pos).2≤a.size) (hok:¬ ((Utf8.decode (a++b) pos).1=65533∧(Utf8.decode (a++b) pos).2=1)):Utf8.decode a pos=Utf8.decode (a++b) pos:=by
 have e:(a++b).size - pos=(a.size - pos)+b.size:=by rw [size_append];omega
 rw [gZ,e] at hw hok;rw [gZ,gZ,e];rw [nP a b pos h] at hw hok ⊢
 refine IY _ _ _ _ _ _ _ _ _ (by omega) (fun h1=>?_) (fun h1=>?_) (fun h1=>?_) (by omega) hok
 ·rw [nP a b _ (by omega)]
 ·rw [nP a b _ (by omega)]
 ·rw [nP a b _ (by omega)]
def Ky (s:ByteArray) (a:Nat):Prop:=∃ l1 l2,items s=l1++l2∧mi l1=a
theorem IZ (s:ByteArray):Ky s s.size:=⟨items s,[],by simp,xO s⟩
theorem XI {s:ByteArray} {a:Nat} (h:Ky s a):a≤s.size:=by
 obtain ⟨l1,l2,h1,rfl⟩:=h;rw [← xO s,h1,rZ];omega
theorem yR (p q:ByteArray):∀ (l1 l2:List (Nat × Nat)) (f pos:Nat),(p++q).size - pos≤f→zR (l1++l2)=true→iI (p++q) f pos=l1++l2→pos+mi l1=p.size →
  (∀ g,p.size - pos≤g→iI p g pos=l1)∧l2=items q
 | [],l2,f,pos,hf,hok,h,hp=>by
  simp only [mi,bV] at hp;subst hp;refine ⟨fun g _=>gV p g _ (by omega),?_⟩;have hr:=qK p q f 0;rw [bV] at hr;rw [fw] at h;rw [← h,hr]
  exact vG q _ _ 0 (by rw [size_append] at hf;omega) (by omega)
 | x :: t,l2,f,pos,hf,hok,h,hp=>by
  simp only [mi] at hp
  by_cases hlt:pos<(p++q).size
  ·obtain ⟨f,rfl⟩:∃ k,f=k+1:=⟨f - 1,by omega⟩
   have hw:=width_pos (p++q) pos hlt;rw [fH _ f pos hlt,bI,List.cons.injEq] at h;obtain ⟨rfl,h⟩:=h
   have hpl:pos<p.size:=by omega
   simp only [bI,zR] at hok
   split at hok
   ·cases hok
   ·rename_i hne
    obtain ⟨k1,k2⟩:=yR p q t l2 f _ (by omega) hok h (by omega);refine ⟨fun g hg=>?_,k2⟩;obtain ⟨g,rfl⟩:∃ k,g=k+1:=⟨g - 1,by omega⟩;have hd:=KN p q pos hpl (by omega) hne;rw [fH p g pos hpl,hd,k1 g (by omega)]
  ·rw [gV _ f pos hlt] at h
   simp at h
theorem I1 (p q:ByteArray) (l1 l2:List (Nat × Nat)) (hok:okB (p++q)=true) (h:items (p++q)=l1++l2) (hp:mi l1=p.size):items p=l1∧items q=l2∧okB p=true∧okB q=true:=by
 have hok':zR (l1++l2)=true:=by rw [← h];exact hok
 obtain ⟨k1,k2⟩:=yR p q l1 l2 (p++q).size 0 (by omega) hok' h (by omega);have e1:items p=l1:=k1 _ (by omega)
 refine ⟨e1,k2.symm,?_,?_⟩
 ·unfold okB;rw [e1];exact ((MQ l1 l2).1 hok').1
 ·unfold okB;rw [← k2];exact ((MQ l1 l2).1 hok').2
theorem MR (s:ByteArray) (a:Nat) (h:a≤s.size):s.extract 0 a++s.extract a s.size=s:=by
 apply ByteArray.ext
 simp only [ByteArray.data_append,ByteArray.data_extract];rw [Array.extract_append_extract];have h2:s.data.size=s.size:=rfl;rw [Nat.min_eq_left (aM _),Nat.max_eq_right h,← h2,Array.extract_size]
theorem Qq {s:ByteArray} {a:Nat} (hok:okB s=true) (h:Ky s a):okB (s.extract 0 a)=true∧okB (s.extract a s.size)=true∧items s=items (s.extract 0 a)++items (s.extract a s.size):=by
 have hle:=XI h;obtain ⟨l1,l2,h1,h2⟩:=h;have e:=MR s a hle
 have hz:(s.extract 0 a).size=a:=by rw [size_extract s 0 a (by omega) hle];omega
 obtain ⟨k1,k2,k3,k4⟩:=I1 (s.extract 0 a) (s.extract a s.size) l1 l2 (by rw [e];exact hok) (by rw [e];exact h1) (by rw [hz];exact h2)
 exact ⟨k3,k4,by rw [k1,k2];exact h1⟩
theorem Gq {s:ByteArray} {a:Nat} (hok:okB s=true) (ha:a≤s.size):Ky s a ↔ okB (s.extract 0 a)=true:=by
 constructor
 ·intro h;exact (Qq hok h).1
 ·intro h
  have e:=Gj (s.extract 0 a) (s.extract a s.size) h;rw [MR s a ha] at e
  exact ⟨_,_,e,by rw [xO,size_extract s 0 a (by omega) ha];omega⟩
theorem vS (n b0 b1 b2 b3:Nat) (h:b0<128):decodeN n b0 b1 b2 b3=(b0,1):=by unfold decodeN;rw [au h]
theorem Gr (n b0 b1 b2 b3:Nat) (hok:¬ ((decodeN n b0 b1 b2 b3).1=65533∧(decodeN n b0 b1 b2 b3).2=1)) :
  (1<(decodeN n b0 b1 b2 b3).2→128≤b0∧128≤b1)∧(2<(decodeN n b0 b1 b2 b3).2→128≤b2)∧(3<(decodeN n b0 b1 b2 b3).2→128≤b3):=by
 unfold decodeN at hok ⊢
 by_cases c0:b0<128
 ·rw [au c0];simp
 ·rw [ai c0] at hok ⊢
  by_cases q1:b0 / 32=6∧(1<n∧b1 / 64=2)
  ·rw [au q1] at hok ⊢
   split <;> simp <;> omega
  ·rw [ai q1] at hok ⊢
   by_cases q2:b0 / 16=14∧(1<n∧b1 / 64=2)∧(2<n∧b2 / 64=2)
   ·rw [au q2] at hok ⊢
    split <;> simp <;> omega
   ·rw [ai q2] at hok ⊢
    by_cases q3:b0 / 8=30∧(1<n∧b1 / 64=2)∧(2<n∧b2 / 64=2)∧(3<n∧b3 / 64=2)
    ·rw [au q3] at hok ⊢
     split <;> simp <;> omega
    ·rw [ai q3] at hok;simp at hok
theorem yS (n b0 b1 b2 b3:Nat):(decodeN n b0 b1 b2 b3).2≤4:=by
 unfold decodeN
 repeat' split
 all_goals (simp only;omega)
theorem I4 (s:ByteArray):∀ (f pos i:Nat),s.size - pos≤f→zR (iI s f pos)=true→pos≤i→i<s.size→(s.get! i).toNat<128→∃ l1 l2,iI s f pos=l1++(s.get! i |>.toNat,1) :: l2∧pos+mi l1=i
 | 0,pos,i,hf,_,hp,hi,_=>by omega
 | f+1,pos,i,hf,hok,hp,hi,hlow=>by
  have hlt:pos<s.size:=by omega
  rw [fH s f pos hlt] at hok ⊢;simp only [zR] at hok
  split at hok
  ·cases hok
  ·rename_i hne
   rcases dV pos i with h1|h1
   ·have hw:=width_pos s pos hlt
    by_cases h2:i<pos+(Utf8.decode s pos).2
    ·exfalso
     have hd:=gZ s pos;rw [hd] at hne h2;have hr:=Gr _ _ _ _ _ hne;have h4:=yS (s.size - pos) (s.get! pos).toNat (s.get! (pos+1)).toNat (s.get! (pos+2)).toNat (s.get! (pos+3)).toNat
     rcases dV (i - pos) 2 with h|h
     ·obtain rfl:i=pos+1:=by omega
      have:=(hr.1 (by omega)).2;omega
     ·rcases dV (i - pos) 3 with h|h
      ·obtain rfl:i=pos+2:=by omega
       have:=hr.2.1 (by omega);omega
      ·obtain rfl:i=pos+3:=by omega
       have:=hr.2.2 (by omega);omega
    ·obtain ⟨l1,l2,e1,e2⟩:=I4 s f _ i (by omega) hok (by omega) hi hlow
     exact ⟨Utf8.decode s pos :: l1,l2,by rw [e1];rfl,by simp only [mi];omega⟩
   ·obtain rfl:i=pos:=by omega
    refine ⟨[],iI s f (i+(Utf8.decode s i).2),?_,by simp [mi]⟩;rw [fw]
    congr 1
    rw [gZ,vS _ _ _ _ _ hlow]
theorem Uo {s:ByteArray} {i:Nat} (hok:okB s=true) (hi:i<s.size) (hlow:(s.get! i).toNat<128):Ky s i∧Ky s (i+1):=by
 obtain ⟨l1,l2,h1,h2⟩:=I4 s s.size 0 i (by omega) hok (by omega) hi hlow;refine ⟨⟨l1,_,h1,by omega⟩,⟨l1++[(_,1)],l2,by rw [dA];exact h1,?_⟩⟩;rw [rZ];simp only [mi];omega
end L
end Go.Proofs.YtojoahlpgmnbnaaGreatDoor
