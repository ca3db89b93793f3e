/- What the claim needs of the texts Plain, SPlain, SAgain, TPlain, KPlain, SRef1, SRef2, LPlain, LBnd. -/
import Derived.Test.YtojoahlpgmnbnaaGreatDoorUOOp
import Derived.Lib.DecodeN
import Derived.Lib.ValidU
import Derived.Lib.ValidAsc
import Derived.Lib.RuneCountTail
import Derived.Test.YtojoahlpgmnbnaaGreatDoorProg
import Derived.WalkKit
import Derived.WalkMore
import Derived.WalkSmall
import Derived.Below
import Derived.Lib.Hide
set_option maxRecDepth 20000
set_option maxHeartbeats 16000000
namespace Go.Proofs.YtojoahlpgmnbnaaGreatDoor
namespace U
open Go.Lib
def uw (r:Nat):Nat:=if 65536≤r then 2 else 1
theorem adK (r:Nat):1≤uw r:=by unfold uw;split <;> omega
theorem aaf (r:Nat):uw r≤2:=by unfold uw;split <;> omega
def iL (s:ByteArray):Nat→Nat→List (Nat × Nat)
 | 0,_=>[]
 | f+1,pos=>if pos<s.size then Utf8.decode s pos :: iL s f (pos+(Utf8.decode s pos).2) else []
def items (s:ByteArray):List (Nat × Nat):=iL s s.size 0
def zH:List (Nat × Nat)→Bool
 | []=>true
 | x :: t=>if x.1=65533∧x.2=1 then false else zH t
def okB (s:ByteArray):Bool:=zH (items s)
theorem uX (n b0 b1 b2 b3:Nat) (hn:1≤n):1≤(decodeN n b0 b1 b2 b3).2∧(decodeN n b0 b1 b2 b3).2≤n:=by
 unfold decodeN
 repeat' split
 all_goals (simp only;omega)
theorem width_pos (s:ByteArray) (pos:Nat) (h:pos<s.size):1≤(Utf8.decode s pos).2:=by
 rw [ig];exact (uX _ _ _ _ _ (by omega)).1
theorem width_le (s:ByteArray) (pos:Nat) (h:pos<s.size):pos+(Utf8.decode s pos).2≤s.size:=by
 rw [ig];have:=(uX (s.size - pos) (s.get! pos).toNat (s.get! (pos+1)).toNat (s.get! (pos+2)).toNat (s.get! (pos+3)).toNat (by omega)).2;omega
theorem F5 (n b0 b1 b2 b3:Nat) (h0:b0<256):(decodeN n b0 b1 b2 b3).1≤1114111:=by
 unfold decodeN
 repeat' split
 all_goals (simp only;omega)
theorem rune_le (s:ByteArray) (pos:Nat):(Utf8.decode s pos).1≤1114111:=by rw [ig];exact F5 _ _ _ _ _ (gq _)
theorem gZ (s:ByteArray) (f pos:Nat) (h:¬ pos<s.size):iL s f pos=[]:=by cases f <;> simp [iL,h]
theorem fM (s:ByteArray) (f pos:Nat) (h:pos<s.size):iL s (f+1) pos=Utf8.decode s pos :: iL s f (pos+(Utf8.decode s pos).2):=by simp [iL,h]
theorem uY (s:ByteArray):∀ f g pos,s.size - pos≤f→s.size - pos≤g→iL s f pos=iL s g pos
 | 0,g,pos,hf,_=>by rw [gZ s 0 pos (by omega),gZ s g pos (by omega)]
 | f+1,g,pos,hf,hg=>by
  by_cases h:pos<s.size
  ·obtain ⟨g,rfl⟩:∃ k,g=k+1:=⟨g - 1,by omega⟩
   have:=width_pos s pos h;rw [fM s f pos h,fM s g pos h,uY s f g _ (by omega) (by omega)]
  ·rw [gZ s _ pos h,gZ s _ pos h]
def P7 (l:List (Nat × Nat)):Prop:=∀ x∈l,1≤x.2
theorem uZ (s:ByteArray):∀ f pos,P7 (iL s f pos)
 | 0,_=>by intro x hx;cases hx
 | f+1,pos=>by
  intro x hx
  by_cases h:pos<s.size
  ·rw [fM s f pos h] at hx
   rcases bA.1 hx with rfl|hx
   ·exact width_pos s pos h
   ·exact uZ s f _ x hx
  ·rw [gZ s _ pos h] at hx;cases hx
def mg:List (Nat × Nat)→Nat
 | []=>0
 | x :: t=>x.2+mg t
def xD:List (Nat × Nat)→Nat
 | []=>0
 | x :: t=>uw x.1+xD t
theorem Mq:∀ l:List (Nat × Nat),P7 l→xD l≤2*mg l
 | [],_=>by simp [xD,mg]
 | x :: t,h=>by
  have h1:=h x (by simp);have h2:=Mq t (fun y hy=>h y (by simp [hy]));have:=aaf x.1;simp only [xD,mg];omega
theorem AF (s:ByteArray):∀ f pos,s.size - pos≤f→pos≤s.size→mg (iL s f pos)=s.size - pos
 | 0,pos,hf,hp=>by simp only [iL,mg];omega
 | f+1,pos,hf,hp=>by
  by_cases h:pos<s.size
  ·have h1:=width_pos s pos h
   have h2:=width_le s pos h;rw [fM s f pos h];simp only [mg];rw [AF s f _ (by omega) h2];omega
  ·rw [gZ s _ pos h];simp only [mg];omega
theorem xE (s:ByteArray):mg (items s)=s.size:=by unfold items;rw [AF s s.size 0 (by omega) (by omega)];omega
theorem decodeL_drop (s:ByteArray) (pos:Nat):decodeL (s.data.toList.drop pos)=Utf8.decode s pos:=by
 have h:=tail_decode s pos 0;rw [bS] at h;rw [← h]
 unfold decodeL
 rw [← ext_list s pos]
theorem Cj (s:ByteArray):∀ n pos,validGoD n (s.data.toList.drop pos)=zH (iL s n pos)
 | 0,_=>rfl
 | n+1,pos=>by
  unfold validGoD
  by_cases h:pos<s.size
  ·have hne:¬ s.data.toList.drop pos=[]:=by
    intro e;have:=congrArg List.length e
    simp at this
    have h2:s.data.size=s.size:=rfl
    omega
   rw [ai hne,fM s n pos h,decodeL_drop];simp only [zH]
   split
   ·rfl
   ·rw [List.drop_drop,Cj s n]
  ·have he:s.data.toList.drop pos=[]:=by
    apply List.drop_eq_nil_of_le
    have h2:s.data.size=s.size:=rfl
    simp;omega
   rw [ay he,gZ s _ pos h];rfl
theorem P8 (s:ByteArray):validD s.data.toList=okB s:=by
 unfold validD okB items
 have h:=Cj s s.size 0;rw [bM] at h
 have h2:s.data.toList.length=s.size:=by simp
 rw [h2,h]
def off:List (Nat × Nat)→Nat→Nat→Int→Int × Int
 | [],pos,ahead,unit=>if (ahead:Int)=unit then ((pos:Int),0) else (0,12)
 | x :: t,pos,ahead,unit=>if (ahead:Int)=unit then ((pos:Int),0) else off t (pos+x.2) (ahead+uw x.1) unit
def bytes:List ByteArray→Nat
 | []=>0
 | s :: t=>s.size+bytes t
theorem size_append (a b:ByteArray):(a++b).size=a.size+b.size:=by simp [ByteArray.size_append]
theorem nJ (a b:ByteArray) (i:Nat) (h:i<a.size):(a++b).get! i=a.get! i:=by
 rw [← getD_get!',← getD_get!']
 have:(a++b).data.toList=a.data.toList++b.data.toList:=by simp [ByteArray.data_append]
 rw [this,List.getD_eq_getElem?_getD,List.getD_eq_getElem?_getD,bn (by simpa using h)]
theorem tZ (a b:ByteArray) (i:Nat):(a++b).get! (a.size+i)=b.get! i:=by
 rw [← getD_get!',← getD_get!']
 have:(a++b).data.toList=a.data.toList++b.data.toList:=by simp [ByteArray.data_append]
 have h2:a.data.toList.length=a.size:=by simp
 rw [this,List.getD_eq_getElem?_getD,List.getD_eq_getElem?_getD,aK (by omega),h2,Nat.add_sub_cancel_left]
theorem F6 (a b:ByteArray) (pos:Nat):Utf8.decode (a++b) (a.size+pos)=Utf8.decode b pos:=by
 rw [ig,ig,size_append,tZ,Nat.add_assoc,tZ,Nat.add_assoc,tZ,Nat.add_assoc,tZ]
 congr 1
 omega
theorem decodeN_more (n k b0 b1 b2 b3 c1 c2 c3:Nat) (h1:1<n→c1=b1) (h2:2<n→c2=b2) (h3:3<n→c3=b3)
  (hok:¬ ((decodeN n b0 b1 b2 b3).1=65533∧(decodeN n b0 b1 b2 b3).2=1)):decodeN (n+k) b0 c1 c2 c3=decodeN n b0 b1 b2 b3:=by
 unfold decodeN at hok ⊢
 by_cases c0:b0<128
 ·simp [c0]
 ·rw [ai c0] at hok ⊢
  rw [ai c0]
  by_cases q1:b0 / 32=6∧(1<n∧b1 / 64=2)
  ·have e1:=h1 q1.2.1
   subst e1;rw [ay q1,ay ⟨q1.1,by omega,q1.2.2⟩]
  ·rw [ai q1] at hok ⊢
   by_cases q2:b0 / 16=14∧(1<n∧b1 / 64=2)∧(2<n∧b2 / 64=2)
   ·have e1:=h1 q2.2.1.1
    have e2:=h2 q2.2.2.1;subst e1;subst e2;rw [ay q2,ai (by omega),ay ⟨q2.1,⟨by omega,q2.2.1.2⟩,by omega,q2.2.2.2⟩]
   ·rw [ai q2] at hok ⊢
    by_cases q3:b0 / 8=30∧(1<n∧b1 / 64=2)∧(2<n∧b2 / 64=2)∧(3<n∧b3 / 64=2)
    ·have e1:=h1 q3.2.1.1
     have e2:=h2 q3.2.2.1.1;have e3:=h3 q3.2.2.2.1;subst e1;subst e2;subst e3;rw [ay q3,ai (by omega),ai (by omega),ay ⟨q3.1,⟨by omega,q3.2.1.2⟩,⟨by omega,q3.2.2.1.2⟩,by omega,q3.2.2.2.2⟩]
    ·rw [ai q3] at hok
     simp at hok
theorem Iu (a b:ByteArray) (pos:Nat) (h:pos<a.size) (hok:¬ ((Utf8.decode a pos).1=65533∧(Utf8.decode a pos).2=1)):Utf8.decode (a++b) pos=Utf8.decode a pos:=by
 rw [ig] at hok;rw [ig,ig,nJ a b pos h,size_append]
 have e:a.size+b.size - pos=(a.size - pos)+b.size:=by omega
 rw [e]
 refine decodeN_more _ _ _ _ _ _ _ _ _ (fun h1=>?_) (fun h1=>?_) (fun h1=>?_) hok
 ·rw [nJ a b _ (by omega)]
 ·rw [nJ a b _ (by omega)]
 ·rw [nJ a b _ (by omega)]
theorem qE (a b:ByteArray):∀ f pos,iL (a++b) f (a.size+pos)=iL b f pos
 | 0,_=>rfl
 | f+1,pos=>by
  by_cases h:pos<b.size
  ·rw [fM _ f _ (by rw [size_append];omega),fM b f pos h,F6,Nat.add_assoc,qE a b f]
  ·rw [gZ _ _ _ (by rw [size_append];omega),gZ b _ pos h]
theorem AJ (a b:ByteArray):∀ f pos,a.size - pos≤f→pos≤a.size→zH (iL a f pos)=true →
  iL (a++b) (f+b.size) pos=iL a f pos++items b
 | 0,pos,hf,hp,_=>by
  obtain rfl:pos=a.size:=by omega
  rw [bz];have:=qE a b b.size 0;rw [bS] at this;rw [this];rfl
 | f+1,pos,hf,hp,hok=>by
  by_cases h:pos<a.size
  ·rw [fM a f pos h] at hok ⊢
   simp only [zH] at hok
   split at hok
   ·cases hok
   ·rename_i hne
    have hl:=Iu a b pos h hne
    have e:f+1+b.size=(f+b.size)+1:=by omega
    have hw:=width_pos a pos h;rw [e,fM _ _ pos (by rw [size_append];omega),hl,AJ a b f _ (by omega) (width_le a pos h) hok]
    rfl
  ·obtain rfl:pos=a.size:=by omega
   rw [gZ a _ _ h];have hr:=qE a b (f+1+b.size) 0;rw [bS a.size] at hr;rw [hr,fA]
   exact uY b _ _ 0 (by omega) (by omega)
theorem F7 (a b:ByteArray) (h:okB a=true):items (a++b)=items a++items b:=by
 have:=AJ a b a.size 0 (by omega) (by omega) h
 unfold items
 rw [size_append]
 exact this
theorem Ck:∀ x y:List (Nat × Nat),zH (x++y)=(zH x&&zH y)
 | [],y=>by simp [zH]
 | x :: t,y=>by
  simp only [bH,zH]
  split
  ·rfl
  ·exact Ck t y
theorem rW:∀ x y:List (Nat × Nat),mg (x++y)=mg x+mg y
 | [],y=>by simp [mg]
 | x :: t,y=>by simp only [bH,mg,rW t y];omega
end U
namespace S
open Go.Lib Go.Proofs.YtojoahlpgmnbnaaGreatDoor.U
abbrev By:=List UInt8
def mh (c:UInt8):Bool:=decide (97≤c∧c≤122)||decide (65≤c∧c≤90)||decide (c=95)
def kE (c:UInt8):Bool:=decide (48≤c∧c≤57)
def rR (c:UInt8):Bool:=mh c||kE c
def gW:By→Nat
 | []=>0
 | c :: r=>if mh c then 1+(r.takeWhile rR).length else 0
def nA (l:By):Nat:=(l.takeWhile kE).length
def iG:By→Option Nat
 | []=>none
 | c :: r=>if c=10 then none else if c=34 then some 1 else (iG r).map (·+1)
def gI:By→Nat
 | []=>0
 | c :: r=>if c=34 then (match iG r with|none=>0|some n=>n+1) else 0
def two:By→Bool
 | a :: b :: _=>(a==58&&b==61)||(a==61&&b==61)||(a==33&&b==61)||(a==60&&b==61)||(a==62&&b==61)||(a==38&&b==38)||(a==124&&b==124)
 | _=>false
def wid (l:By):Nat:=(Utf8.decode ⟨l.toArray⟩ 0).2
def fV (right:Bool) (l:By):Nat:=if two l then 2 else if right then wid l else 1
def zJ (x:By):Bool:=x==[102,117,110,99]||x==[118,97,114]||x==[116,121,112,101]||x==[115,116,114,117,99,116]||x==[114,101,116,117,114,110]||x==[105,102]||x==[101,108,115,101]||x==[102,111,114]
def eX (right:Bool) (l:By):Int × Nat :=
 if 0<gW l then (if zJ (l.take (gW l)) then 3 else 0,gW l)
 else if 0<nA l then (1,nA l)
 else if 0<gI l then (2,gI l)
 else if l.head?=some 59 then (5,1) else (4,fV right l)
def eH:By→Nat
 | a :: b :: r=>if a=47∧b=47 then 2+(r.takeWhile (fun c=>decide (c≠10))).length else 0
 | _=>0
def pR (w:Int) (x:By):Bool :=
 decide (w=0∨w=1∨w=2)||(decide (w=3)&&x==[114,101,116,117,114,110])||(decide (w=4)&&(x==[41]||x==[93]||x==[125]))
def blank (c:UInt8):Bool:=c==32||c==9||c==13||c==10
structure aZ where
 w:Int
 t:By
 f:Int
 e:Int
def jK (right:Bool):Nat→By→Nat→Bool→List aZ
 | 0,_,_,_=>[]
 | _+1,[],pos,ended=>if ended then [⟨5,[],pos,pos⟩] else []
 | n+1,c :: r,pos,ended =>
  if c=10∧ended=true then ⟨5,[],pos,((pos+1:Nat):Int)⟩ :: jK right n r (pos+1) false
  else if blank c=true then jK right n r (pos+1) ended
  else if 0<eH (c :: r) then jK right n ((c :: r).drop (eH (c :: r))) (pos+eH (c :: r)) ended
  else ⟨(eX right (c :: r)).1,(c :: r).take (eX right (c :: r)).2,pos,((pos+(eX right (c :: r)).2:Nat):Int)⟩ ::
   jK right n ((c :: r).drop (eX right (c :: r)).2) (pos+(eX right (c :: r)).2) (pR (eX right (c :: r)).1 ((c :: r).take (eX right (c :: r)).2))
def fH (right:Bool) (l:By):List aZ:=jK right (l.length+1) l 0 false
theorem xF {l:By} (h:l≠[]):1≤wid l∧wid l≤l.length:=by
 have hz:(⟨l.toArray⟩:ByteArray).size=l.length:=by simp [ByteArray.size]
 have h0:0<(⟨l.toArray⟩:ByteArray).size:=by
  rw [hz]
  cases l with
  | nil=>exact absurd rfl h
  | cons a r=>simp
 have h1:=width_pos _ 0 h0;have h2:=width_le _ 0 h0
 unfold wid
 omega
theorem F8 {l:By} (h:two l=true):2≤l.length:=by
 match l with
 | []=>simp [two] at h
 | [a]=>simp [two] at h
 | a :: b :: r=>simp
theorem Iv (right:Bool) {l:By} (h:l≠[]):1≤fV right l∧fV right l≤l.length:=by
 unfold fV
 split
 ·rename_i h2;exact ⟨by omega,F8 h2⟩
 ·split
  ·exact xF h
  ·exact ⟨by omega,by cases l with
    | nil=>exact absurd rfl h
    | cons a r=>simp⟩
theorem Iw {α:Type} (p:α→Bool) (l:List α):(l.takeWhile p).length≤l.length:=(List.takeWhile_sublist p).length_le
theorem F9 (l:By):gW l≤l.length:=by
 cases l with
 | nil=>simp [gW]
 | cons c r=>simp only [gW,aH];have:=Iw rR r;split <;> omega
theorem uf:∀ (l:By) (n:Nat),iG l=some n→1≤n∧n≤l.length
 | [],n,h=>by simp [iG] at h
 | c :: r,n,h=>by
  simp only [iG] at h
  split at h
  ·cases h
  ·split at h
   ·cases h;simp
   ·cases hq:iG r with
    | none=>rw [hq] at h;cases h
    | some m =>
     rw [hq] at h;have:=uf r m hq;simp only [Option.map_some,bW] at h;simp only [aH]
     omega
theorem Xl (l:By):gI l≤l.length:=by
 cases l with
 | nil=>simp [gI]
 | cons c r =>
  simp only [gI,aH]
  split
  ·cases hq:iG r with
   | none=>simp
   | some n=>have:=uf r n hq;simp only;omega
  ·omega
theorem lM (right:Bool) {l:By} (h:l≠[]):1≤(eX right l).2∧(eX right l).2≤l.length:=by
 unfold eX
 split
 ·rename_i h1;exact ⟨h1,F9 l⟩
 ·split
  ·rename_i h1;exact ⟨h1,Iw _ _⟩
  ·split
   ·rename_i h1;exact ⟨h1,Xl l⟩
   ·split
    ·exact ⟨ae _,by cases l with
      | nil=>exact absurd rfl h
      | cons a r=>simp⟩
    ·exact Iv right h
theorem ug (l:By):eH l≤l.length:=by
 match l with
 | []=>simp [eH]
 | [a]=>simp [eH]
 | a :: b :: r =>
  simp only [eH,aH];have:=Iw (fun c:UInt8=>decide (c≠10)) r
  split <;> omega
theorem qY (right:Bool):∀ (n m:Nat) (l:By) (pos:Nat) (ended:Bool),l.length<n→l.length<m→jK right n l pos ended=jK right m l pos ended
 | 0,_,_,_,_,h,_=>by omega
 | _+1,0,_,_,_,_,h=>by omega
 | n+1,m+1,[],pos,ended,_,_=>rfl
 | n+1,m+1,c :: r,pos,ended,hn,hm=>by
  have hr:r.length<n∧r.length<m:=by simp only [aH] at hn hm;omega
  have hc:=ug (c :: r);have hw:=lM right (l:=c :: r) (by simp)
  have hd:∀ k,1≤k→((c :: r).drop k).length<n∧((c :: r).drop k).length<m:=fun k hk=>by
   rw [bC];simp only [aH] at hn hm ⊢;omega
  simp only [jK]
  split
  ·rw [qY right n m r _ _ hr.1 hr.2]
  ·split
   ·exact qY right n m r _ _ hr.1 hr.2
   ·split
    ·rename_i hk
     exact qY right n m _ _ _ (hd _ hk).1 (hd _ hk).2
    ·rw [qY right n m _ _ _ (hd _ hw.1).1 (hd _ hw.1).2]
def Xm (s:By) (a b:Nat):Prop:=∀ k,a≤k→k<b→(∃ j,a≤j∧j≤k∧s[j]?=some 47)∨∃ c,s[k]?=some c∧blank c=true
structure aag (s:By) (a:Nat) (t:aZ) (f e:Nat):Prop where
 from_:t.f=(f:Int)
 to_:t.e=(e:Int)
 le:a≤f
 fe:f≤e
 end_:e≤s.length
 gap:Xm s a f
 text:(t.w=5∧t.t=[]∧(s[f]?=some 10∨f=s.length))∨(t.t≠[]∧t.t=(s.drop f).take (e - f))
inductive yC (s:By):Nat→List aZ→Prop
 | nil (a:Nat):yC s a []
 | cons {a:Nat} {t:aZ} {f e:Nat} {r:List aZ} (h:aag s a t f e) (hl:(t.t=[]∧f=s.length)→r=[]) (hr:yC s e r):yC s a (t :: r)
theorem BG (s:By) (a:Nat):Xm s a a:=fun k h1 h2=>by omega
theorem Nt {s:By} {a b:Nat} {c:UInt8} (h:Xm s a b) (hc:s[b]?=some c) (hb:blank c=true):Xm s a (b+1):=fun k h1 h2=>by
 by_cases hk:k<b
 ·exact h k h1 hk
 ·obtain rfl:k=b:=by omega
  exact .inr ⟨c,hc,hb⟩
theorem Nu {s:By} {a b m:Nat} (h:Xm s a b) (hab:a≤b) (hc:s[b]?=some 47):Xm s a (b+m):=fun k h1 h2=>by
 by_cases hk:k<b
 ·exact h k h1 hk
 ·exact .inl ⟨b,hab,by omega,hc⟩
theorem drop_cons {s:By} {p:Nat} {c:UInt8} {r:By} (h:s.drop p=c :: r):s[p]?=some c∧p<s.length∧s.drop (p+1)=r:=by
 have hp:p<s.length:=by
  by_cases hp:p<s.length
  ·exact hp
  ·rw [gD (by omega)] at h;cases h
 rw [bZ hp] at h;simp only [List.cons.injEq] at h
 exact ⟨by rw [aC hp,h.1],hp,h.2⟩
theorem nK (right:Bool) (s:By):∀ (n:Nat) (p a:Nat) (ended:Bool),a≤p→p≤s.length→Xm s a p→yC s a (jK right n (s.drop p) p ended)
 | 0,_,_,_,_,_,_=>.nil _
 | n+1,p,a,ended,hap,hps,hg=>by
  cases hd:s.drop p with
  | nil =>
   have hp:p=s.length:=by
    have:=congrArg List.length hd;rw [bC] at this
    simp at this;omega
   simp only [jK]
   split
   ·exact .cons (f:=p) (e:=p) ⟨rfl,rfl,hap,ae _,hps,hg,.inl ⟨rfl,rfl,.inr hp⟩⟩ (fun _=>rfl) (.nil _)
   ·exact .nil _
  | cons c r =>
   obtain ⟨h1,h2,h3⟩:=drop_cons hd;simp only [jK]
   split
   ·rename_i hc
    refine .cons (f:=p) (e:=p+1) ⟨rfl,rfl,hap,by omega,by omega,hg,.inl ⟨rfl,rfl,.inl (by rw [h1,hc.1])⟩⟩ (fun h=>by omega) ?_;rw [← h3]
    exact nK right s n (p+1) (p+1) false (ae _) (by omega) (BG _ _)
   ·split
    ·rename_i hb
     rw [← h3]
     exact nK right s n (p+1) a ended (by omega) (by omega) (Nt hg h1 hb)
    ·split
     ·rename_i hk
      have hc47:c=47:=by
       match r,hk with
       | [],hk=>simp [eH] at hk
       | b :: r',hk =>
        simp only [eH] at hk
        split at hk
        ·rename_i h;exact h.1
        ·omega
      have hle:=ug (c :: r);rw [← hd,List.drop_drop];rw [← hd,bC] at hle
      exact nK right s n _ a ended (by omega) (by omega) (Nu hg hap (by rw [h1,hc47]))
     ·have hw:=lM right (l:=c :: r) (by simp)
      obtain ⟨m,hm⟩:∃ m,(eX right (c :: r)).2=m:=⟨_,rfl⟩;rw [hm] at hw ⊢;have hle:=hw.2;rw [← hd,bC] at hle
      refine .cons (f:=p) (e:=p+m) ⟨rfl,rfl,hap,by omega,by omega,hg,.inr ⟨?_,?_⟩⟩ (fun h=>absurd h.1 ?_) ?_
      ·simp only
       intro h;have:=congrArg List.length h;rw [il] at this;simp only [aH,dM] at this hw
       omega
      ·simp only
       rw [hd,show p+m - p=m by omega]
      ·simp only
       intro h;have:=congrArg List.length h;rw [il] at this;simp only [aH,dM] at this hw
       omega
      ·rw [← hd,List.drop_drop]
       exact nK right s n _ _ _ (ae _) (by omega) (BG _ _)
theorem Cm (right:Bool) (s:By):yC s 0 (fH right s):=by
 have:=nK right s (s.length+1) 0 0 false (ae _) (aL _) (BG _ _);rw [bM] at this
 exact this
theorem Mr {p:UInt8→Bool} {d:UInt8} (hd:p d=false) (b:By):∀ r:By,(r++d :: b).takeWhile p=r.takeWhile p
 | []=>by simp [hd]
 | c :: r=>by
  simp only [bH,bJ];rw [Mr hd b r]
theorem Ms (p:UInt8→Bool) (r:By):r.take (r.takeWhile p).length=r.takeWhile p:=(List.prefix_iff_eq_take.1 (List.takeWhile_prefix p)).symm
end S
namespace T
open Go.Lib Go.Proofs.YtojoahlpgmnbnaaGreatDoor.U Go.Proofs.YtojoahlpgmnbnaaGreatDoor.S
inductive Pt where
 | mk (k t:By) (f e:Int) (kids:List Pt)
inductive Out (α:Type) where
 | ok (a:α) (at':Nat)
 | bad (at':Nat)
def Out.next {α β:Type} (o:Out α) (f:α→Nat→Out β):Out β:=match o with
 | .ok a i=>f a i
 | .bad i=>.bad i
section
variable (L:List aZ)
def bG (x:By) (i:Nat):Bool:=match L[i]? with
 | some t=>t.t==x&&(t.w==4||t.w==3)
 | none=>false
def bT (w:Int) (i:Nat):Bool:=match L[i]? with
 | some t=>t.w==w
 | none=>false
def bI (x:By) (i:Nat):Out Unit:=if bG L x i then .ok () (i+1) else .bad i
def dz (i:Nat):By:=match L[i]? with
 | some t=>t.t
 | none=>[]
def gK (i:Nat):Out By:=if bT L 0 i then .ok (dz L i) (i+1) else .bad i
def bE (i:Nat):Nat:=((L.drop i).takeWhile (fun t=>t.w==5)).length
def bQ (i:Nat):Int:=match L[i]? with
 | some t=>t.f
 | none=>0
def jY (i:Nat):Int:=if i=0 then 0 else match L[i - 1]? with
 | some t=>t.e
 | none=>0
def part (k t:By) (f:Int) (kids:List Pt) (i:Nat):Out Pt:=.ok (.mk k t f (jY L i) kids) i
def vg (t:aZ):Int :=
 if t.w=4 then
  if t.t=[124,124] then 1
  else if t.t=[38,38] then 2
  else if t.t=[61,61]∨t.t=[33,61]∨t.t=[60]∨t.t=[60,61]∨t.t=[62]∨t.t=[62,61] then 3
  else if t.t=[43]∨t.t=[45] then 4
  else if t.t=[42]∨t.t=[47]∨t.t=[37] then 5
  else 0
 else 0
def fI (i:Nat):Int:=match L[i]? with
 | some t=>vg t
 | none=>0
def eY:By:=[102,117,110,99]
def jg:By:=[118,97,114]
def gY:By:=[116,121,112,101]
def jZ:By:=[115,116,114,117,99,116]
def dN:By:=[114,101,116,117,114,110]
def kJ:By:=[105,102]
def mM:By:=[101,108,115,101]
def lJ:By:=[102,111,114]
def vk:By:=[115,116,97,114]
def qw:By:=[115,108,105,99,101]
def yD:By:=[110,97,109,101]
def qZ:By:=[112,97,114,97,109]
def eT:By:=[112,97,114,97,109,115]
def fJ:By:=[114,101,115,117,108,116]
def jh:By:=[102,105,101,108,100]
def nX:By:=[98,108,111,99,107]
def pM:By:=[97,115,115,105,103,110]
def pN:By:=[100,101,102,105,110,101]
def vo:By:=[101,120,112,114]
def Iy:By:=[110,117,109]
def Iz:By:=[115,116,114]
def P9:By:=[105,100]
def jL:By:=[117,110,97,114,121]
def dI:By:=[98,105,110,97,114,121]
def mO:By:=[99,97,108,108]
def lD:By:=[105,110,100,101,120]
def pU:By:=[110,101,119]
def jM:By:=[109,97,107,101]
def typed:Nat→Nat→Out Pt
 | 0,i=>.bad i
 | n+1,i =>
  if bG L [42] i then (typed n (i+1)).next fun x j=>part L vk [] (bQ L i) [x] j
  else if bG L [91] i then (bI L [93] (i+1)).next fun _ j=>(typed n j).next fun x k=>part L qw [] (bQ L i) [x] k
  else (gK L i).next fun s j=>part L yD s (bQ L i) [] j
def param (n:Nat) (kind:By) (i:Nat):Out Pt:=(gK L i).next fun s j=>(typed L n j).next fun x k=>part L kind s (bQ L i) [x] k
def mG (kind:By):List Pt→Pt
 | []=>.mk kind [] 0 0 []
 | .mk k t f e ks :: r=>.mk kind [] f (match (Pt.mk k t f e ks :: r).getLast? with
  | some (.mk _ _ _ e' _)=>e'
  | none=>0) (.mk k t f e ks :: r)
def params (m:Nat):Nat→Nat→List Pt→Out (List Pt)
 | 0,i,_=>.bad i
 | n+1,i,acc =>
  (param L m qZ i).next fun p j=>if bG L [41] j then .ok (acc++[p]) (j+1) else (bI L [44] j).next fun _ k=>params m n k (acc++[p])
def fields (m:Nat):Nat→Nat→List Pt→Out (List Pt)
 | 0,i,_=>.bad i
 | n+1,i,acc =>
  if bG L [125] i then .ok acc i
  else (param L m jh i).next fun p j=>if bE L j=0∧bG L [125] j=false then .bad j else fields m n (j+bE L j) (acc++[p])
mutual
def expr:Nat→Int→Nat→Out Pt
 | 0,_,i=>.bad i
 | n+1,than,i=>(cu n i).next fun a j=>exprs n than (bQ L i) a j
def exprs:Nat→Int→Int→Pt→Nat→Out Pt
 | 0,_,_,_,i=>.bad i
 | n+1,than,f,a,i =>
  if i<L.length∧than<fI L i then (expr n (fI L i) (i+1)).next fun b j=>exprs n than f (.mk dI (dz L i) f (jY L j) [a,b]) j
  else .ok a i
def cu:Nat→Nat→Out Pt
 | 0,i=>.bad i
 | n+1,i =>
  if bG L [38] i then (cu n (i+1)).next fun e j=>part L jL [38] (bQ L i) [e] j
  else if bG L [42] i then (cu n (i+1)).next fun e j=>part L jL [42] (bQ L i) [e] j
  else if bG L [45] i then (cu n (i+1)).next fun e j=>part L jL [45] (bQ L i) [e] j
  else if bG L [33] i then (cu n (i+1)).next fun e j=>part L jL [33] (bQ L i) [e] j
  else (operand n i).next fun a j=>tails n (bQ L i) a j
def tails:Nat→Int→Pt→Nat→Out Pt
 | 0,_,_,i=>.bad i
 | n+1,f,a,i =>
  if bG L [46] i then (gK L (i+1)).next fun s j=>tails n f (.mk jh s f (jY L j) [a]) j
  else if bG L [91] i then (expr n 0 (i+1)).next fun e j=>(bI L [93] j).next fun _ k=>tails n f (.mk lD [] f (jY L k) [a,e]) k
  else .ok a i
def operand:Nat→Nat→Out Pt
 | 0,i=>.bad i
 | n+1,i =>
  if bT L 1 i then part L Iy (dz L i) (bQ L i) [] (i+1)
  else if bT L 2 i then part L Iz (dz L i) (bQ L i) [] (i+1)
  else if bG L [40] i then (expr n 0 (i+1)).next fun e j=>(bI L [41] j).next fun _ k=>.ok e k
  else (gK L i).next fun s j =>
   if bG L [40] j=false then part L P9 s (bQ L i) [] j
   else if s=pU then (typed L n (j+1)).next fun x k=>(bI L [41] k).next fun _ m=>part L pU [] (bQ L i) [x] m
   else if s=jM then (typed L n (j+1)).next fun x k=>(bI L [44] k).next fun _ m=>(expr n 0 m).next fun e o=>(bI L [41] o).next fun _ p=>part L jM [] (bQ L i) [x,e] p
   else if bG L [41] (j+1) then part L mO s (bQ L i) [] (j+2)
   else (args n (j+1) []).next fun l k=>part L mO s (bQ L i) l k
def args:Nat→Nat→List Pt→Out (List Pt)
 | 0,i,_=>.bad i
 | n+1,i,acc=>(expr n 0 i).next fun a j=>if bG L [41] j then .ok (acc++[a]) (j+1) else (bI L [44] j).next fun _ k=>args n k (acc++[a])
end
def iX (n:Nat) (i:Nat):Out Pt:=(bI L jg i).next fun _ j=>(gK L j).next fun s k=>(typed L n k).next fun x m=>part L jg s (bQ L i) [x] m
mutual
def block:Nat→Nat→Out Pt
 | 0,i=>.bad i
 | n+1,i=>(bI L [123] i).next fun _ j=>(stmts n (j+bE L j) []).next fun l k=>(bI L [125] k).next fun _ m=>part L nX [] (bQ L i) l m
def stmts:Nat→Nat→List Pt→Out (List Pt)
 | 0,i,_=>.bad i
 | n+1,i,acc =>
  if bG L [125] i then .ok acc i
  else (stmt n i).next fun p j=>if bE L j=0∧bG L [125] j=false then .bad j else stmts n (j+bE L j) (acc++[p])
def branch:Nat→Nat→Out Pt
 | 0,i=>.bad i
 | n+1,i=>(bI L kJ i).next fun _ j=>(expr L n 0 j).next fun e k=>(block n k).next fun b m =>
  if bG L mM m then
   if bG L kJ (m+1) then (branch n (m+1)).next fun o p=>part L kJ [] (bQ L i) [e,b,o] p
   else (block n (m+1)).next fun o p=>part L kJ [] (bQ L i) [e,b,o] p
  else part L kJ [] (bQ L i) [e,b] m
def stmt:Nat→Nat→Out Pt
 | 0,i=>.bad i
 | n+1,i =>
  if bG L jg i then iX L n i
  else if bG L kJ i then branch n i
  else if bG L [123] i then block n i
  else if bG L lJ i then (expr L n 0 (i+1)).next fun e j=>(block n j).next fun b k=>part L lJ [] (bQ L i) [e,b] k
  else if bG L dN i then
   if bT L 5 (i+1)∨bG L [125] (i+1) then part L dN [] (bQ L i) [] (i+1)
   else (expr L n 0 (i+1)).next fun e j=>part L dN [] (bQ L i) [e] j
  else (expr L n 0 i).next fun a j =>
   if bG L [61] j then (expr L n 0 (j+1)).next fun b k=>part L pM [] (bQ L i) [a,b] k
   else if bG L [58,61] j then (expr L n 0 (j+1)).next fun b k=>part L pN [] (bQ L i) [a,b] k
   else part L vo [] (bQ L i) [a] j
end
def rX (n:Nat) (i:Nat):Out Pt :=
 (bI L eY i).next fun _ j=>(gK L j).next fun s k=>(bI L [40] k).next fun _ m =>
  (if bG L [41] m then .ok [] (m+1) else params L n n m []).next fun ps o =>
   (if bG L [123] o then .ok [] o else (typed L n o).next fun x q=>.ok [x] q).next fun rs q =>
    (block L n q).next fun b r=>part L eY s (bQ L i) [mG eT ps,mG fJ rs,b] r
def record (n:Nat) (i:Nat):Out Pt :=
 (bI L gY i).next fun _ j=>(gK L j).next fun s k=>(bI L jZ k).next fun _ m=>(bI L [123] m).next fun _ o =>
  (fields L n n (o+bE L o) []).next fun l q=>(bI L [125] q).next fun _ r=>part L gY s (bQ L i) l r
def decl (n:Nat):Out Pt :=
 if bG L eY 0 then rX L n 0 else if bG L jg 0 then iX L n 0 else if bG L gY 0 then record L n 0 else .bad 0
end
mutual
def deep:Pt→Nat
 | .mk _ _ _ _ ks=>iO ks+1
def iO:List Pt→Nat
 | []=>0
 | p :: r=>max (deep p) (iO r)
end
end T
namespace K
open Go.Lib Go.Proofs.YtojoahlpgmnbnaaGreatDoor.U Go.Proofs.YtojoahlpgmnbnaaGreatDoor.S Go.Proofs.YtojoahlpgmnbnaaGreatDoor.T
inductive BH where
 | decl|vw|nC|name|params|result|block|fin|field|param|typeOf|stmt|returned|expr|assigned|otherwise|pre|between|iY|text|behind|operand|called
inductive Stp where
 | m (k:BH)
 | word (x:By)
 | lines (k:BH)
 | more (k:BH)
 | jE (k:BH)
 | kK (k:BH)
structure Open where
 k:By
 t:By
 f:Int
 kids:List Pt
 kf:Int
structure St where
 i:Nat
 todo:List Stp
 opn:List Open
inductive IA where
 | go (s:St)
 | wrong
 | stuck
def Open.add (a:Open) (p:Pt) (f:Int):Open:={ a with kids:=a.kids++[p],kf:=f }
def Ki:By:=[40]
def mH (t:By):Int :=
 if t=[124,124] then 1
 else if t=[38,38] then 2
 else if t=[61,61]∨t=[33,61]∨t=[60]∨t=[60,61]∨t=[62]∨t=[62,61] then 3
 else if t=[43]∨t=[45] then 4
 else if t=[42]∨t=[47]∨t=[37] then 5
 else 0
def yE:List Pt→Int
 | []=>0
 | .mk _ _ f _ _ :: _=>f
def vz (l:List Pt):Int:=match l.getLast? with
 | some (.mk _ _ _ e _)=>e
 | none=>0
def Open.close (o:Open) (e:Int):Option Pt :=
 if o.k=Ki then o.kids.head?
 else if o.k=eT∨o.k=fJ then some (.mk o.k o.t (yE o.kids) (vz o.kids) o.kids)
 else some (.mk o.k o.t o.f e o.kids)
def sF (e:Int):List Open→Option (List Open)
 | o :: a :: r=>(o.close e).map fun p=>a.add p o.f :: r
 | _=>none
def settle (e s:Int) (o:Open):List Open→Option (List Open)
 | []=>if o.k=dI∧s≤mH o.t then none else some [o]
 | a :: r=>if o.k=dI∧s≤mH o.t then settle e s (a.add (.mk o.k o.t o.f e o.kids) o.f) r else some (o :: a :: r)
def oI (k:By):List Open→Option (List Open)
 | a :: r=>a.kids.getLast?.map fun p=>⟨k,[],a.kf,[p],0⟩ :: { a with kids:=a.kids.dropLast } :: r
 | []=>none
section
variable (L:List aZ) (size:Nat)
def tok (i:Nat):aZ:=(L[i]?).getD ⟨-1,[],size,size⟩
def rY (x:By) (i:Nat):Bool:=(tok L size i).t==x
def Ga (x:Int) (i:Nat):Bool:=(tok L size i).w==x
def nY (i:Nat) (todo:List Stp):Option (List Open)→IA
 | some o=>.go ⟨i,todo,o⟩
 | none=>.stuck
def EC (t:By):List Open→Option (List Open)
 | o :: r=>some ({ o with t:=t } :: r)
 | []=>none
def ED (k:By):List Open→Option (List Open)
 | o :: r=>some ({ o with k:=k } :: r)
 | []=>none
def opened (k:By) (s:St) (l:List Stp):IA:=.go ⟨s.i,l++s.todo,⟨k,[],(tok L size s.i).f,[],0⟩ :: s.opn⟩
def uh (s:St) (l:List Stp):IA:=.go ⟨s.i,l++s.todo,s.opn⟩
def varDecl (s:St):IA:=opened L size jg s [.word jg,.m .name,.m .typeOf,.m .fin]
def zK (s:St):IA:=opened L size kJ s [.word kJ,.m .expr,.m .block,.m .otherwise,.m .fin]
def xG (s:St):IA:=opened L size nX s [.word [123],.lines .stmt,.word [125],.m .fin]
def EF (s:St):IA:=uh s [.m .pre,.m .between]
def Bq (s:St):IA:=if s.i=0 then .stuck else nY s.i s.todo (sF (tok L size (s.i - 1)).e s.opn)
def jO (e s:Int):List Open→Option (List Open)
 | o :: r=>settle e s o r
 | []=>none
def q8 (s:St):IA :=
 if s.i=0 then .stuck else
 match jO (tok L size (s.i - 1)).e (mH (tok L size s.i).t) s.opn with
 | none=>.stuck
 | some O=>if 0<mH (tok L size s.i).t then nY s.i ([.m .text,.m .pre,.m .between]++s.todo) (oI dI O) else .go ⟨s.i,s.todo,O⟩
def bD:BH→St→IA
 | .decl,s =>
  if rY L size eY s.i then opened L size eY s [.word eY,.m .name,.m .params,.m .result,.m .block,.m .fin]
  else if rY L size jg s.i then varDecl L size s
  else if rY L size gY s.i then opened L size gY s [.word gY,.m .name,.word jZ,.word [123],.lines .field,.word [125],.m .fin]
  else .wrong
 | .vw,s=>.go { s with i:=s.i+bE L s.i }
 | .nC,s=>if Ga L size (-1) s.i then .go s else .wrong
 | .name,s=>if Ga L size 0 s.i then nY (s.i+1) s.todo (EC (tok L size s.i).t s.opn) else .wrong
 | .params,s=>opened L size eT s [.word [40],.jE .param,.word [41],.m .fin]
 | .result,s=>if rY L size [123] s.i then (if s.i=0 then .stuck else .go ⟨s.i,s.todo,match s.opn with
   | a :: r=>a.add (.mk fJ [] 0 0 []) (tok L size s.i).f :: r
   | []=>[]⟩) else opened L size fJ s [.m .typeOf,.m .fin]
 | .block,s=>xG L size s
 | .fin,s=>Bq L size s
 | .field,s=>opened L size jh s [.m .name,.m .typeOf,.m .fin]
 | .param,s=>opened L size qZ s [.m .name,.m .typeOf,.m .fin]
 | .typeOf,s =>
  if rY L size [42] s.i then opened L size vk s [.word [42],.m .typeOf,.m .fin]
  else if rY L size [91] s.i then opened L size qw s [.word [91],.word [93],.m .typeOf,.m .fin]
  else opened L size yD s [.m .name,.m .fin]
 | .stmt,s =>
  if rY L size jg s.i then varDecl L size s
  else if rY L size dN s.i then opened L size dN s [.word dN,.m .returned,.m .fin]
  else if rY L size kJ s.i then zK L size s
  else if rY L size lJ s.i then opened L size lJ s [.word lJ,.m .expr,.m .block,.m .fin]
  else if rY L size [123] s.i then xG L size s
  else opened L size vo s [.m .expr,.m .assigned,.m .fin]
 | .returned,s=>if Ga L size 5 s.i=false∧rY L size [125] s.i=false then EF s else .go s
 | .expr,s=>EF s
 | .assigned,s =>
  if rY L size [61] s.i then nY (s.i+1) ([.m .pre,.m .between]++s.todo) (ED pM s.opn)
  else if rY L size [58,61] s.i then nY (s.i+1) ([.m .pre,.m .between]++s.todo) (ED pN s.opn)
  else .go s
 | .otherwise,s=>if rY L size mM s.i then uh s [.word mM,.m .iY] else .go s
 | .pre,s =>
  if rY L size [38] s.i∨rY L size [42] s.i∨rY L size [45] s.i∨rY L size [33] s.i then opened L size jL s [.m .text,.m .pre,.m .fin]
  else uh s [.m .operand,.m .behind]
 | .between,s=>q8 L size s
 | .iY,s=>if rY L size kJ s.i then zK L size s else xG L size s
 | .text,s=>if s.i<L.length then nY (s.i+1) s.todo (EC (tok L size s.i).t s.opn) else .stuck
 | .behind,s =>
  if rY L size [46] s.i then nY s.i ([.word [46],.m .name,.m .fin,.m .behind]++s.todo) (oI jh s.opn)
  else if rY L size [91] s.i then nY s.i ([.word [91],.m .expr,.word [93],.m .fin,.m .behind]++s.todo) (oI lD s.opn)
  else .go s
 | .operand,s =>
  if Ga L size 1 s.i then opened L size Iy s [.m .text,.m .fin]
  else if Ga L size 2 s.i then opened L size Iz s [.m .text,.m .fin]
  else if Ga L size 0 s.i then opened L size P9 s [.m .name,.m .called,.m .fin]
  else opened L size Ki s [.word [40],.m .expr,.word [41],.m .fin]
 | .called,s =>
  if rY L size [40] s.i then
   match s.opn with
   | []=>.stuck
   | o :: r =>
    if o.t=pU then .go ⟨s.i+1,[.m .typeOf,.word [41]]++s.todo,{ o with k:=pU,t:=[] } :: r⟩
    else if o.t=jM then .go ⟨s.i+1,[.m .typeOf,.word [44],.m .expr,.word [41]]++s.todo,{ o with k:=jM,t:=[] } :: r⟩
    else .go ⟨s.i+1,[.jE .expr,.word [41]]++s.todo,{ o with k:=mO } :: r⟩
  else .go s
def exec:Stp→St→IA
 | .m k,s=>bD L size k s
 | .word x,s=>if rY L size x s.i then .go { s with i:=s.i+1 } else .wrong
 | .lines k,s=>if rY L size [125] (s.i+bE L s.i) then .go { s with i:=s.i+bE L s.i } else .go ⟨s.i+bE L s.i,[.m k,.more k]++s.todo,s.opn⟩
 | .more k,s=>if Ga L size 5 s.i then uh s [.lines k] else .go s
 | .jE k,s=>if rY L size [41] s.i then .go s else uh s [.m k,.kK k]
 | .kK k,s=>if rY L size [44] s.i then uh s [.word [44],.m k,.kK k] else .go s
def fC (s:St):IA:=match s.todo with
 | []=>.stuck
 | x :: r=>exec L size x { s with todo:=r }
inductive Goes:Nat→St→St→Prop
 | refl (n:Nat) (s:St):Goes n s s
 | step {n:Nat} {s s1 s2:St}:fC L size s=.go s1→Goes n s1 s2→Goes (n+1) s s2
def uM (n:Nat) (s:St) (j:Nat):Prop:=∃ s',Goes L size n s s'∧fC L size s'=.wrong∧s'.i=j
end
section
variable {L:List aZ} {size:Nat}
theorem Goes.mono {n m:Nat} {s s':St} (h:Goes L size n s s') (hm:n≤m):Goes L size m s s':=by
 induction h generalizing m with
 | refl n s=>exact .refl _ _
 | step h1 _ ih=>obtain ⟨k,rfl⟩:∃ k,m=k+1:=⟨m - 1,by omega⟩;exact .step h1 (ih (by omega))
theorem Goes.trans {n m:Nat} {a b c:St} (h:Goes L size n a b) (k:Goes L size m b c):Goes L size (n+m) a c:=by
 induction h with
 | refl n s=>exact k.mono (by omega)
 | step h1 _ ih=>exact (Goes.step h1 (ih k)).mono (by omega)
theorem Goes.falls {n m j:Nat} {a b:St} (h:Goes L size n a b) (k:uM L size m b j):uM L size (n+m) a j:=by
 obtain ⟨s',h1,h2⟩:=k
 exact ⟨s',h.trans h1,h2⟩
theorem uM.step {n j:Nat} {s s1:St} (h:fC L size s=.go s1) (k:uM L size n s1 j):uM L size (n+1) s j:=by
 obtain ⟨s',h1,h2⟩:=k
 exact ⟨s',.step h h1,h2⟩
theorem uM.now {s:St} (h:fC L size s=.wrong) (n:Nat):uM L size n s s.i:=⟨s,.refl _ _,h,rfl⟩
end
def mi:List By:=[eY,jg,gY,jZ,dN,kJ,mM,lJ,[42],[91],[93],[40],[41],[44],[123],[125],[61],[58,61],[46],[38],[45],[33]]
def weight:List By:=[[124,124],[38,38],[61,61],[33,61],[60],[60,61],[62],[62,61],[43],[45],[42],[47],[37]]
structure vB (t:aZ):Prop where
 w:t.w≠-1
 sp:t.t∈mi→t.w=4∨t.w=3
 wt:t.t∈weight→t.w=4
section
variable {L:List aZ} (size:Nat) (hL:∀ t∈L,vB t)
theorem mI {i:Nat} (h:i<L.length):tok L size i=L[i]:=by unfold tok;rw [aC h];rfl
theorem qF {i:Nat} (h:¬ i<L.length):tok L size i=⟨-1,[],size,size⟩:=by unfold tok;rw [dh (by omega)];rfl
include hL
theorem gU {x:By} (hx:x∈mi) (i:Nat):rY L size x i=bG L x i:=by
 unfold rY bG
 by_cases h:i<L.length
 ·rw [mI size h,aC h]
  dsimp only
  cases h2:(L[i].t==x) with
  | false=>rfl
  | true =>
   have h3:L[i].t=x:=by simpa using h2
   have h4:=(hL _ (bF h)).sp (by rw [h3];exact hx)
   rcases h4 with h4|h4 <;> rw [h4] <;> rfl
 ·rw [qF size h,dh (by omega)]
  have:x≠[]:=by rintro rfl;revert hx;decide
  simp only [dU]
  exact fun e=>this e.symm
theorem vC {x:Int} (hx:x≠-1) (i:Nat):Ga L size x i=bT L x i:=by
 have _hL:=hL
 unfold Ga bT
 by_cases h:i<L.length
 ·rw [mI size h,aC h]
 ·rw [qF size h,dh (by omega)]
  simp only [dU]
  exact fun e=>hx e.symm
theorem T3 (i:Nat):Ga L size (-1) i=decide (L.length≤i):=by
 unfold Ga
 by_cases h:i<L.length
 ·rw [mI size h]
  have h4:=(hL _ (bF h)).w;rw [di (by omega)]
  simpa using h4
 ·rw [qF size h,decide_eq_true (by omega)];rfl
theorem Gb (i:Nat):mH (tok L size i).t=fI L i:=by
 unfold fI
 by_cases h:i<L.length
 ·rw [mI size h,aC h]
  dsimp only
  unfold vg
  by_cases h4:L[i].w=4
  ·rw [ay h4];rfl
  ·rw [ai h4]
   have h5:¬ L[i].t∈weight:=fun e=>h4 ((hL _ (bF h)).wt e)
   unfold weight at h5
   simp only [bA,ek,or_false,not_or] at h5
   unfold mH
   simp only [h5,if_false,or_self]
 ·rw [qF size h,dh (by omega)];rfl
end
end K
namespace S
open Go.RowKit
open Go.Lib
open U
theorem vD {a b:Bool} (h:a=b):Ending.returned (.bool a)=.returned (.bool b):=by rw [h]
theorem Kt (c:UInt8) (w:World):Calls Tryz.prog 108 #[.int .u8 (c.toNat:Nat)] w fun e w'=>e=.returned (.bool (kE c))∧w=w':=by
 have hf:kE c=decide (48≤c.toNat∧c.toNat≤57):=by unfold kE;simp [gQ]
 rw [hf];generalize c.toNat=n;obtain ⟨R,hR⟩:∃ R,decide (48≤n∧n≤57)=R:=⟨_,rfl⟩;have HR:=hid hR;rw [hR];clear hR
 go_enter Tryz.func108,Tryz.ntmps108
 go_wp2_with fail
 all_goals (go_ret;exact ⟨vD (by rw [← HR.out,gX];simp;omega),rfl⟩)
theorem Ku (c:UInt8) (w:World):Calls Tryz.prog 107 #[.int .u8 (c.toNat:Nat)] w fun e w'=>e=.returned (.bool (mh c))∧w=w':=by
 have hf:mh c=decide ((97≤c.toNat∧c.toNat≤122)∨(65≤c.toNat∧c.toNat≤90)∨c.toNat=95):=by
  unfold mh
  have:decide (c=95)=decide (c.toNat=95):=by
   rw [decide_eq_decide]
   exact ⟨fun h=>by rw [h];rfl,fun h=>UInt8.toNat_inj.1 h⟩
  rw [this]
  simp [gQ,Bool.or_assoc]
 rw [hf];generalize c.toNat=n;obtain ⟨R,hR⟩:∃ R,decide ((97≤n∧n≤122)∨(65≤n∧n≤90)∨n=95)=R:=⟨_,rfl⟩;have HR:=hid hR;rw [hR];clear hR
 go_enter Tryz.func107,Tryz.ntmps107
 go_wp2_with fail
 all_goals (go_ret;exact ⟨vD (by rw [← HR.out,gX];simp;omega),rfl⟩)
theorem T4 (s:ByteArray) (w:World):Calls Tryz.prog 81 #[.string s] w fun e w'=>e=.returned (.bool (zJ s.toList))∧w=w':=by
 obtain ⟨R,hR⟩:∃ R,zJ s.toList=R:=⟨_,rfl⟩;have HR:=hid hR;rw [hR];clear hR
 go_enter Tryz.func81,Tryz.ntmps81
 go_wp2_with fail
 all_goals (go_ret;exact ⟨vD (by first|(exfalso;simp_all;done)|(rw [← HR.out];simp only [zJ, *];rfl)),rfl⟩)
theorem IB {W:World} {k:Nat} {a b c d:Value} {t:TypeId} (h:W.heap[k]?=some (.cells #[a,b,c,d] t (0,0))) :
  W.cell? ⟨k,0,none⟩=some a∧W.cell? ⟨k,1,none⟩=some b∧W.cell? ⟨k,2,none⟩=some c∧W.cell? ⟨k,3,none⟩=some d:=by
 refine ⟨?_,?_,?_,?_⟩ <;> (unfold World.cell?;rw [h];rfl)
theorem Qa (k f e':Int) (t:ByteArray) (w:World):Calls Tryz.prog 57 #[.agg #[.int .i64 k,.string t,.int .i64 f,.int .i64 e']] w fun e w'=>e=.returned (.bool (pR k t.toList))∧Below w.heap.size w w':=by
 obtain ⟨R,hR⟩:∃ R,pR k t.toList=R:=⟨_,rfl⟩;rw [hR]
 unfold pR at hR
 have HR:=hid hR;clear hR
 go_enter Tryz.func57,Tryz.ntmps57
 go_wp2_with fail
 all_goals (go_ret;refine ⟨vD (by first|(exfalso;simp_all;done)|(exfalso;omega)|(rw [← HR.out];simp [*];done)|(rw [← HR.out];simp_all;done)|(rw [← HR.out];simp;omega)),(aj _ _).alloc (ae _) _⟩)
theorem dR (s:ByteArray):s.toList.length=s.size:=by rw [bu];rfl
theorem fT (s:ByteArray) {i:Nat} (h:i<s.size):s.toList.drop i=s[i] :: s.toList.drop (i+1):=by
 rw [bZ (by rw [dR];exact h)]
 congr 1
 simp only [bu]
 rfl
theorem xH (s:ByteArray) {i:Nat} (h:s.size≤i):s.toList.drop i=[]:=gD (by rw [dR];exact h)
def nameAt (s:ByteArray) (i:Nat):Nat:=if i=0 then gW s.toList else i+((s.toList.drop i).takeWhile rR).length
theorem Nv (s:ByteArray) {i:Nat} (h:i<s.size) (hc:mh s[i]=true∨(kE s[i]=true∧i≠0)):nameAt s (i+1)=nameAt s i:=by
 unfold nameAt
 rw [ai (by omega)]
 by_cases h0:i=0
 ·subst h0
  rw [ay rfl]
  have hl:mh s[0]=true:=by
   rcases hc with h|⟨_,h⟩
   ·exact h
   ·exact absurd rfl h
  have:=fT s h;rw [bM] at this;rw [this];simp only [gW,hl,if_true,bz,List.drop_succ_cons,bM]
 ·rw [ai h0,fT s h,bJ]
  have:rR s[i]=true:=by
   unfold rR
   rcases hc with h|⟨h,_⟩ <;> simp [h]
  rw [this];simp only [if_true,aH]
  omega
theorem Kv (s:ByteArray) {i:Nat} (h:i<s.size) (h1:mh s[i]=false) (h2:kE s[i]=false∨i=0):nameAt s i=i:=by
 unfold nameAt
 by_cases h0:i=0
 ·subst h0
  rw [ay rfl];have:=fT s h;rw [bM] at this;rw [this]
  simp [gW,h1]
 ·rw [ai h0,fT s h,bJ]
  have:rR s[i]=false:=by
   unfold rR
   rcases h2 with h|h
   ·simp [h,h1]
   ·exact absurd h h0
  rw [this]
  simp
theorem Kw (s:ByteArray) {i:Nat} (h:s.size≤i):nameAt s i=i:=by
 unfold nameAt
 by_cases h0:i=0
 ·subst h0
  rw [ay rfl];have:=xH s h;rw [bM] at this;rw [this];rfl
 ·rw [ai h0,xH s h];rfl
theorem Qb (s:ByteArray) (w:World) (hs:s.size≤1099511627776):Calls Tryz.prog 80 #[.string s] w fun e w'=>e=.returned (.int .i64 (gW s.toList:Nat))∧w=w':=by
 have cL:=fun c W=>Ku c W
 have cF:=fun c W=>Kt c W
 obtain ⟨R,hR⟩:∃ R,gW s.toList=R:=⟨_,rfl⟩;have HR:Hid (nameAt s 0=R):=hid hR;rw [hR];clear hR
 go_enter Tryz.func80,Tryz.ntmps80
 go_wp2_with fail
 go_loop [3] (fun iv=>∃ i:Nat,iv=.int .i64 i∧i≤s.size∧Hid (nameAt s i=R)) (fun iv=>s.size - (intOf iv).toNat)
 case atStart=>exact ⟨0,rfl,aL _,HR⟩
 case round =>
  obtain ⟨i,rfl,hi,HI⟩:=hrel;clear HR
  by_cases hlt:i<s.size
  ·have h1:=Nv s hlt
   have h2:=Kv s hlt;obtain ⟨x,hx⟩:∃ x,s[i]=x:=⟨_,rfl⟩;rw [hx] at h1 h2;have H1:=hid h1;have H2:=hid h2;have c1:=cL x w;have c2:=cF x w;clear h1 h2
   go_wp2_with fail
   refine c1.mono ?_;rintro e w1 ⟨rfl,rfl⟩
   go_wp2_with fail
   refine c2.mono ?_;rintro e w2 ⟨rfl,rfl⟩;clear c1 c2
   cases hl:mh x
   ·cases hf:kE x
    ·have HE:=hid (H2.out hl (.inl hf))
     clear hl hf
     go_wp2_with fail
     go_ret
     exact ⟨by rw [← HI.out,HE.out];rfl,rfl⟩
    ·by_cases h0:i=0
     ·have HE:=hid (H2.out hl (.inr h0))
      have hz:((i:Int)==0)=true:=by simp [h0]
      clear hl hf h0
      go_wp2_with fail
      go_ret
      exact ⟨by rw [← HI.out,HE.out];rfl,rfl⟩
     ·have HN:Hid (nameAt s (i+1)=R):=hid ((H1.out (.inr ⟨hf,h0⟩)).trans HI.out)
      have hz:((i:Int)==0)=false:=by simp [h0]
      clear hl hf h0
      go_wp2_with fail
      go_round
      case rel=>exact ⟨i+1,by go_num,by omega,HN⟩
      case measure=>simp [intOf];omega
   ·have HN:Hid (nameAt s (i+1)=R):=hid ((H1.out (.inl hl)).trans HI.out)
    clear hl
    go_wp2_with fail
    go_round
    case rel=>exact ⟨i+1,by go_num,by omega,HN⟩
    case measure=>simp [intOf];omega
  ·have HE:=hid (Kw s (i:=i) (by omega))
   go_wp2_with fail
   go_ret
   exact ⟨by rw [← HI.out,HE.out];rfl,rfl⟩
def dB (p:UInt8→Bool) (s:ByteArray) (i:Nat):Nat:=i+((s.toList.drop i).takeWhile p).length
theorem q9 {p:UInt8→Bool} {s:ByteArray} {i:Nat} (h:i<s.size) (hp:p s[i]=true):dB p s (i+1)=dB p s i:=by
 unfold dB
 rw [fT s h,bJ,hp];simp only [if_true,aH];omega
theorem pV {p:UInt8→Bool} {s:ByteArray} {i:Nat} (h:i<s.size) (hp:p s[i]=false):dB p s i=i:=by
 unfold dB
 rw [fT s h,bJ,hp];simp
theorem vE (p:UInt8→Bool) {s:ByteArray} {i:Nat} (h:s.size≤i):dB p s i=i:=by
 unfold dB
 rw [xH s h];rfl
theorem T6 (c:UInt8):(kE c=true∧decide ((48:Int)≤(c.toNat:Int))=true∧decide ((c.toNat:Int)≤57)=true)∨(kE c=false∧decide ((48:Int)≤(c.toNat:Int))=false)∨(kE c=false∧decide ((48:Int)≤(c.toNat:Int))=true∧decide ((c.toNat:Int)≤57)=false):=by
 have hf:kE c=decide (48≤c.toNat∧c.toNat≤57):=by unfold kE;simp [gQ]
 rw [hf];generalize c.toNat=n
 by_cases h1:48≤n
 ·by_cases h2:n≤57
  ·exact .inl ⟨by simp [h1,h2],by simp;omega,by simp;omega⟩
  ·exact .inr (.inr ⟨by simp [h2],by simp;omega,by simp;omega⟩)
 ·exact .inr (.inl ⟨by simp [h1],by simp;omega⟩)
theorem Ky (s:ByteArray) (w:World) (hs:s.size≤1099511627776):Calls Tryz.prog 82 #[.string s] w fun e w'=>e=.returned (.int .i64 (nA s.toList:Nat))∧w=w':=by
 obtain ⟨R,hR⟩:∃ R,nA s.toList=R:=⟨_,rfl⟩;have HR:Hid (dB kE s 0=R):=hid (by unfold dB;rw [bz,bM];exact hR);rw [hR];clear hR
 go_enter Tryz.func82,Tryz.ntmps82
 go_wp2_with fail
 go_loop [3] (fun iv=>∃ i:Nat,iv=.int .i64 i∧i≤s.size∧Hid (dB kE s i=R)) (fun iv=>s.size - (intOf iv).toNat)
 case atStart=>exact ⟨0,rfl,aL _,HR⟩
 case round =>
  obtain ⟨i,rfl,hi,HI⟩:=hrel;clear HR
  by_cases hlt:i<s.size
  ·have h1:=q9 (p:=kE) hlt
   have h2:=pV (p:=kE) hlt;obtain ⟨x,hx⟩:∃ x,s[i]=x:=⟨_,rfl⟩;rw [hx] at h1 h2;have H1:=hid h1;have H2:=hid h2;have hor:=T6 x;clear h1 h2
   rcases hor with ⟨hf,d1,d2⟩|⟨hf,d1⟩|⟨hf,d1,d2⟩
   ·have HN:=hid ((H1.out hf).trans HI.out)
    clear hf
    go_wp2_with fail
    go_round
    case rel=>exact ⟨i+1,by go_num,by omega,HN⟩
    case measure=>simp [intOf];omega
   ·have HE:=hid (H2.out hf)
    clear hf
    go_wp2_with fail
    go_ret
    exact ⟨by rw [← HI.out,HE.out];rfl,rfl⟩
   ·have HE:=hid (H2.out hf)
    clear hf
    go_wp2_with fail
    go_ret
    exact ⟨by rw [← HI.out,HE.out];rfl,rfl⟩
  ·have HE:=hid (vE kE (s:=s) (i:=i) (by omega))
   go_wp2_with fail
   go_ret
   exact ⟨by rw [← HI.out,HE.out];rfl,rfl⟩
def PN (s:ByteArray) (i:Nat):Nat:=match iG (s.toList.drop i) with|none=>0|some n=>i+n
theorem Xn {s:ByteArray} {i:Nat} (h:i<s.size) (hc:s[i]=10):PN s i=0:=by
 unfold PN
 rw [fT s h]
 simp [iG,hc]
theorem Xo {s:ByteArray} {i:Nat} (h:i<s.size) (hc:s[i]=34):PN s i=i+1:=by
 unfold PN
 rw [fT s h]
 simp [iG,hc]
theorem Xp {s:ByteArray} {i:Nat} (h:i<s.size) (h1:s[i]≠10) (h2:s[i]≠34):PN s (i+1)=PN s i:=by
 unfold PN
 rw [fT s h];simp only [iG,ai h1,ai h2]
 cases iG (s.toList.drop (i+1)) with
 | none=>rfl
 | some n=>simp only [Option.map_some];omega
theorem T7 {s:ByteArray} {i:Nat} (h:s.size≤i):PN s i=0:=by
 unfold PN
 rw [xH s h];rfl
theorem pW (c d:UInt8):((c.toNat:Int)==(d.toNat:Int))=decide (c=d):=by
 by_cases h:c=d
 ·subst h;simp
 ·have:¬ c.toNat=d.toNat:=fun e=>h (UInt8.toNat_inj.1 e)
  simp [h];omega
theorem Nw (s:ByteArray) (w:World) (hs:s.size≤1099511627776) (h0:0<s.size):Calls Tryz.prog 83 #[.string s] w fun e w'=>e=.returned (.int .i64 (gI s.toList:Nat))∧w=w':=by
 have hl:=fT s h0;rw [bM] at hl;obtain ⟨R,hR⟩:∃ R,gI s.toList=R:=⟨_,rfl⟩;rw [hR];obtain ⟨z,hz⟩:∃ z,s[0]=z:=⟨_,rfl⟩
 by_cases xI:z=34
 ·have HR:Hid (PN s 1=R):=hid (by
   rw [← hR,hl,hz,xI]
   unfold PN gI
   simp only [bz,if_true]
   cases iG (s.toList.drop 1) with
   | none=>rfl
   | some n=>simp only;omega)
  have hb:((z.toNat:Int)==34)=true:=by rw [xI];rfl
  clear hR hl xI
  go_enter Tryz.func83,Tryz.ntmps83
  go_wp2_with fail
  go_loop [3] (fun iv=>∃ i:Nat,iv=.int .i64 i∧1≤i∧i≤s.size∧Hid (PN s i=R)) (fun iv=>s.size - (intOf iv).toNat)
  case atStart=>exact ⟨1,rfl,ae _,h0,HR⟩
  case round =>
   obtain ⟨i,rfl,hi1,hi,HI⟩:=hrel;clear HR
   by_cases hlt:i<s.size
   ·have h1:=Xn hlt
    have h2:=Xo hlt;have h3:=Xp hlt;obtain ⟨x,hx⟩:∃ x,s[i]=x:=⟨_,rfl⟩;rw [hx] at h1 h2 h3;have H1:=hid h1;have H2:=hid h2;have H3:=hid h3;have e1:=pW x 10;have e2:=pW x 34;clear h1 h2 h3
    by_cases h10:x=10
    ·rw [decide_eq_true h10] at e1
     replace e1:((x.toNat:Int)==10)=true:=e1;have HE:=hid (H1.out h10);clear e2 h10
     go_wp2_with fail
     go_ret
     exact ⟨by rw [← HI.out,HE.out];rfl,rfl⟩
    ·rw [di h10] at e1
     replace e1:((x.toNat:Int)==10)=false:=e1
     by_cases xI:x=34
     ·rw [decide_eq_true xI] at e2
      replace e2:((x.toNat:Int)==34)=true:=e2;have HE:=hid (H2.out xI);clear h10 xI
      go_wp2_with fail
      go_ret
      exact ⟨by rw [← HI.out,HE.out];rfl,rfl⟩
     ·rw [di xI] at e2
      replace e2:((x.toNat:Int)==34)=false:=e2;have HN:=hid ((H3.out h10 xI).trans HI.out);clear h10 xI
      go_wp2_with fail
      go_round
      case rel=>exact ⟨i+1,by go_num,by omega,by omega,HN⟩
      case measure=>simp [intOf];omega
   ·have HE:=hid (T7 (s:=s) (i:=i) (by omega))
    go_wp2_with fail
    go_ret
    exact ⟨by rw [← HI.out,HE.out];rfl,rfl⟩
 ·have hR0:R=0:=by rw [← hR,hl,hz];simp [gI,xI]
  subst hR0;have hb:=pW z 34;rw [di xI] at hb;replace hb:((z.toNat:Int)==34)=false:=hb;clear hR hl xI
  go_enter Tryz.func83,Tryz.ntmps83
  go_wp2_with fail
  go_ret
  exact ⟨rfl,rfl⟩
theorem ext_list (s:ByteArray) (i j:Nat):(s.extract i j).toList=(s.toList.drop i).take (j - i):=by
 rw [bu,bu,ByteArray.data_extract,Array.toList_extract]
theorem sQ (s:ByteArray) (n:Nat):(s.extract 0 n).toList=s.toList.take n:=by rw [ext_list];rfl
theorem kL (s:ByteArray) (n:Nat):(s.extract n s.size).toList=s.toList.drop n:=by
 rw [ext_list,bX];rw [bC,dR];exact ae _
def rf (c:UInt8):Bool:=decide (c≠10)
theorem Xq (s:ByteArray):(2≤s.size∧((s.extract 0 2).toList==[47,47])=true∧eH s.toList=dB rf s 2)∨(2≤s.size∧((s.extract 0 2).toList==[47,47])=false∧eH s.toList=0)∨(s.size<2∧eH s.toList=0):=by
 have hl:=dR s;rw [sQ]
 unfold dB
 match h:s.toList with
 | []=>rw [h] at hl;simp at hl;exact .inr (.inr ⟨by omega,rfl⟩)
 | [a]=>rw [h] at hl;simp at hl;exact .inr (.inr ⟨by omega,rfl⟩)
 | a :: b :: r =>
  rw [h] at hl;simp only [aH] at hl
  by_cases hc:a=47∧b=47
  ·obtain ⟨rfl,rfl⟩:=hc
   refine .inl ⟨by omega,by simp,?_⟩;simp only [eH,and_self,if_true,List.drop_succ_cons,bM]
   rfl
  ·refine .inr (.inl ⟨by omega,?_,?_⟩)
   ·simp only [List.take_succ_cons,List.take_zero]
    rw [dU];intro h
    simp at h
    exact hc h
   ·simp only [eH];rw [ai hc]
theorem IC (s:ByteArray) (w:World) (hs:s.size≤1099511627776):Calls Tryz.prog 56 #[.string s] w fun e w'=>e=.returned (.int .i64 (eH s.toList:Nat))∧w=w':=by
 rcases Xq s with ⟨h2,hb,hR⟩|⟨h2,hb,hR⟩|⟨h2,hR⟩
 ·rw [hR]
  obtain ⟨R,hR2⟩:∃ R,dB rf s 2=R:=⟨_,rfl⟩;have HR:=hid hR2
  have hd:decide ((s.size:Int)<2)=false:=by simp;omega
  rw [hR2];clear hR hR2
  go_enter Tryz.func56,Tryz.ntmps56
  go_wp2_with fail
  go_loop [3] (fun iv=>∃ i:Nat,iv=.int .i64 i∧i≤s.size∧Hid (dB rf s i=R)) (fun iv=>s.size - (intOf iv).toNat)
  case atStart=>exact ⟨2,rfl,h2,HR⟩
  case round =>
   obtain ⟨i,rfl,hi,HI⟩:=hrel;clear HR
   by_cases hlt:i<s.size
   ·have h1:=q9 (p:=rf) hlt
    have h2:=pV (p:=rf) hlt;obtain ⟨x,hx⟩:∃ x,s[i]=x:=⟨_,rfl⟩;rw [hx] at h1 h2;have H1:=hid h1;have H2:=hid h2;have e1:=pW x 10;clear h1 h2
    by_cases h10:x=10
    ·rw [decide_eq_true h10] at e1
     replace e1:((x.toNat:Int)==10)=true:=e1;have HE:=hid (H2.out (by simp [rf,h10]));clear h10
     go_wp2_with fail
     go_ret
     exact ⟨by rw [← HI.out,HE.out];rfl,rfl⟩
    ·rw [di h10] at e1
     replace e1:((x.toNat:Int)==10)=false:=e1;have HN:=hid ((H1.out (by simp [rf,h10])).trans HI.out);clear h10
     go_wp2_with fail
     go_round
     case rel=>exact ⟨i+1,by go_num,by omega,HN⟩
     case measure=>simp [intOf];omega
   ·have HE:=hid (vE rf (s:=s) (i:=i) (by omega))
    go_wp2_with fail
    go_ret
    exact ⟨by rw [← HI.out,HE.out];rfl,rfl⟩
 ·rw [hR]
  have hd:decide ((s.size:Int)<2)=false:=by simp;omega
  clear hR
  go_enter Tryz.func56,Tryz.ntmps56
  go_wp2_with fail
  go_ret
  exact ⟨rfl,rfl⟩
 ·rw [hR]
  have hd:decide ((s.size:Int)<2)=true:=by simp;omega
  clear hR
  go_enter Tryz.func56,Tryz.ntmps56
  go_wp2_with fail
  go_ret
  exact ⟨rfl,rfl⟩
end S
namespace L
open Go.Lib Go.Proofs.YtojoahlpgmnbnaaGreatDoor.U
def adL (s:ByteArray) (i:Nat):Bool:=(s.get! i).toNat==10
def Xr (s:ByteArray) (i:Nat):List Nat:=(List.range i).filter (adL s)
def ends (s:ByteArray):List Nat:=Xr s s.size
structure ah5 (E:List Nat) (n:Nat):Prop where
 ah6:E.Pairwise (·<·)
 lt:∀ x∈E,x<n
def nx (E:List Nat) (n:Nat):Nat:=if n=0 then 0 else E.getD (n - 1) 0+1
def en (E:List Nat) (z n:Nat):Nat:=if n=E.length then z else E.getD n 0
def ln (s:ByteArray) (n:Nat):ByteArray:=s.extract (nx (ends s) n) (en (ends s) s.size n)
theorem size_extract (s:ByteArray) (i j:Nat) (h:i≤j) (hj:j≤s.size):(s.extract i j).size=j - i:=by
 simp [ByteArray.size_extract];omega
def ahead (E:List Nat) (a:Int):Nat:=E.countP (fun e:Nat=>decide ((e:Int)<a))
theorem Mt (x y:List (Nat × Nat)):zH (x++y)=true ↔ zH x=true∧zH y=true:=by rw [Ck,iq]
theorem ID (n k b0 b1 b2 b3 c1 c2 c3:Nat) (hn:1≤n) (h1:1<n→c1=b1) (h2:2<n→c2=b2) (h3:3<n→c3=b3)
  (hw:(decodeN (n+k) b0 c1 c2 c3).2≤n) (hok:¬ ((decodeN (n+k) b0 c1 c2 c3).1=65533∧(decodeN (n+k) b0 c1 c2 c3).2=1)):decodeN n b0 b1 b2 b3=decodeN (n+k) b0 c1 c2 c3:=by
 unfold decodeN at hw hok ⊢
 by_cases c0:b0<128
 ·simp [c0]
 ·rw [ai c0] at hw hok ⊢
  rw [ai c0]
  by_cases q1:b0 / 32=6∧(1<n+k∧c1 / 64=2)
  ·by_cases hn1:1<n
   ·have e1:=h1 hn1
    subst e1;rw [ay q1,ay ⟨q1.1,hn1,q1.2.2⟩]
   ·rw [ay q1] at hw hok
    exfalso
    split at hw <;> split at hok <;> simp at hw hok <;> omega
  ·rw [ai q1] at hw hok ⊢
   rw [ai (fun q=>q1 ⟨q.1,by omega,by rw [h1 q.2.1];exact q.2.2⟩)]
   by_cases q2:b0 / 16=14∧(1<n+k∧c1 / 64=2)∧(2<n+k∧c2 / 64=2)
   ·by_cases hn2:2<n
    ·have e1:=h1 (by omega)
     have e2:=h2 hn2;subst e1;subst e2;rw [ay q2,ay ⟨q2.1,⟨by omega,q2.2.1.2⟩,hn2,q2.2.2.2⟩]
    ·rw [ay q2] at hw hok
     exfalso
     split at hw <;> split at hok <;> simp at hw hok <;> omega
   ·rw [ai q2] at hw hok ⊢
    rw [ai (fun q=>q2 ⟨q.1,⟨by omega,by rw [h1 q.2.1.1];exact q.2.1.2⟩,by omega,by rw [h2 q.2.2.1];exact q.2.2.2⟩)]
    by_cases q3:b0 / 8=30∧(1<n+k∧c1 / 64=2)∧(2<n+k∧c2 / 64=2)∧(3<n+k∧c3 / 64=2)
    ·by_cases hn3:3<n
     ·have e1:=h1 (by omega)
      have e2:=h2 (by omega);have e3:=h3 hn3;subst e1;subst e2;subst e3;rw [ay q3,ay ⟨q3.1,⟨by omega,q3.2.1.2⟩,⟨by omega,q3.2.2.1.2⟩,hn3,q3.2.2.2.2⟩]
     ·rw [ay q3] at hw hok
      exfalso
      split at hw <;> split at hok <;> simp at hw hok <;> omega
    ·rw [ai q3] at hok
     simp at hok
theorem Kz (a b:ByteArray) (pos:Nat) (h:pos<a.size) (hw:pos+(Utf8.decode (a++b) pos).2≤a.size) (hok:¬ ((Utf8.decode (a++b) pos).1=65533∧(Utf8.decode (a++b) pos).2=1)):Utf8.decode a pos=Utf8.decode (a++b) pos:=by
 have e:(a++b).size - pos=(a.size - pos)+b.size:=by rw [size_append];omega
 rw [ig,e] at hw hok;rw [ig,ig,e];rw [nJ a b pos h] at hw hok ⊢
 refine ID _ _ _ _ _ _ _ _ _ (by omega) (fun h1=>?_) (fun h1=>?_) (fun h1=>?_) (by omega) hok
 ·rw [nJ a b _ (by omega)]
 ·rw [nJ a b _ (by omega)]
 ·rw [nJ a b _ (by omega)]
def Kj (s:ByteArray) (a:Nat):Prop:=∃ l1 l2,items s=l1++l2∧mg l1=a
theorem IE (s:ByteArray):Kj s s.size:=⟨items s,[],by simp,xE s⟩
theorem Xt {s:ByteArray} {a:Nat} (h:Kj s a):a≤s.size:=by
 obtain ⟨l1,l2,h1,rfl⟩:=h;rw [← xE s,h1,rW];omega
theorem yF (p q:ByteArray):∀ (l1 l2:List (Nat × Nat)) (f pos:Nat),(p++q).size - pos≤f→zH (l1++l2)=true→iL (p++q) f pos=l1++l2→pos+mg l1=p.size →
  (∀ g,p.size - pos≤g→iL p g pos=l1)∧l2=items q
 | [],l2,f,pos,hf,hok,h,hp=>by
  simp only [mg,bS] at hp;subst hp;refine ⟨fun g _=>gZ p g _ (by omega),?_⟩;have hr:=qE p q f 0;rw [bS] at hr;rw [fA] at h;rw [← h,hr]
  exact uY q _ _ 0 (by rw [size_append] at hf;omega) (by omega)
 | x :: t,l2,f,pos,hf,hok,h,hp=>by
  simp only [mg] at hp
  by_cases hlt:pos<(p++q).size
  ·obtain ⟨f,rfl⟩:∃ k,f=k+1:=⟨f - 1,by omega⟩
   have hw:=width_pos (p++q) pos hlt;rw [fM _ f pos hlt,bH,List.cons.injEq] at h;obtain ⟨rfl,h⟩:=h
   have hpl:pos<p.size:=by omega
   simp only [bH,zH] at hok
   split at hok
   ·cases hok
   ·rename_i hne
    obtain ⟨k1,k2⟩:=yF p q t l2 f _ (by omega) hok h (by omega);refine ⟨fun g hg=>?_,k2⟩;obtain ⟨g,rfl⟩:∃ k,g=k+1:=⟨g - 1,by omega⟩;have hd:=Kz p q pos hpl (by omega) hne;rw [fM p g pos hpl,hd,k1 g (by omega)]
  ·rw [gZ _ f pos hlt] at h
   simp at h
theorem IG (p q:ByteArray) (l1 l2:List (Nat × Nat)) (hok:okB (p++q)=true) (h:items (p++q)=l1++l2) (hp:mg l1=p.size):items p=l1∧items q=l2∧okB p=true∧okB q=true:=by
 have hok':zH (l1++l2)=true:=by rw [← h];exact hok
 obtain ⟨k1,k2⟩:=yF p q l1 l2 (p++q).size 0 (by omega) hok' h (by omega);have e1:items p=l1:=k1 _ (by omega)
 refine ⟨e1,k2.symm,?_,?_⟩
 ·unfold okB;rw [e1];exact ((Mt l1 l2).1 hok').1
 ·unfold okB;rw [← k2];exact ((Mt l1 l2).1 hok').2
theorem Mw (s:ByteArray) (a:Nat) (h:a≤s.size):s.extract 0 a++s.extract a s.size=s:=by
 apply ByteArray.ext
 simp only [ByteArray.data_append,ByteArray.data_extract];rw [Array.extract_append_extract];have h2:s.data.size=s.size:=rfl;rw [Nat.min_eq_left (aL _),Nat.max_eq_right h,← h2,Array.extract_size]
theorem Qc {s:ByteArray} {a:Nat} (hok:okB s=true) (h:Kj s a):okB (s.extract 0 a)=true∧okB (s.extract a s.size)=true∧items s=items (s.extract 0 a)++items (s.extract a s.size):=by
 have hle:=Xt h;obtain ⟨l1,l2,h1,h2⟩:=h;have e:=Mw s a hle
 have hz:(s.extract 0 a).size=a:=by rw [size_extract s 0 a (by omega) hle];omega
 obtain ⟨k1,k2,k3,k4⟩:=IG (s.extract 0 a) (s.extract a s.size) l1 l2 (by rw [e];exact hok) (by rw [e];exact h1) (by rw [hz];exact h2)
 exact ⟨k3,k4,by rw [k1,k2];exact h1⟩
theorem Gc {s:ByteArray} {a:Nat} (hok:okB s=true) (ha:a≤s.size):Kj s a ↔ okB (s.extract 0 a)=true:=by
 constructor
 ·intro h;exact (Qc hok h).1
 ·intro h
  have e:=F7 (s.extract 0 a) (s.extract a s.size) h;rw [Mw s a ha] at e
  exact ⟨_,_,e,by rw [xE,size_extract s 0 a (by omega) ha];omega⟩
theorem vF (n b0 b1 b2 b3:Nat) (h:b0<128):decodeN n b0 b1 b2 b3=(b0,1):=by unfold decodeN;rw [ay h]
theorem Gd (n b0 b1 b2 b3:Nat) (hok:¬ ((decodeN n b0 b1 b2 b3).1=65533∧(decodeN n b0 b1 b2 b3).2=1)) :
  (1<(decodeN n b0 b1 b2 b3).2→128≤b0∧128≤b1)∧(2<(decodeN n b0 b1 b2 b3).2→128≤b2)∧(3<(decodeN n b0 b1 b2 b3).2→128≤b3):=by
 unfold decodeN at hok ⊢
 by_cases c0:b0<128
 ·rw [ay c0];simp
 ·rw [ai c0] at hok ⊢
  by_cases q1:b0 / 32=6∧(1<n∧b1 / 64=2)
  ·rw [ay q1] at hok ⊢
   split <;> simp <;> omega
  ·rw [ai q1] at hok ⊢
   by_cases q2:b0 / 16=14∧(1<n∧b1 / 64=2)∧(2<n∧b2 / 64=2)
   ·rw [ay q2] at hok ⊢
    split <;> simp <;> omega
   ·rw [ai q2] at hok ⊢
    by_cases q3:b0 / 8=30∧(1<n∧b1 / 64=2)∧(2<n∧b2 / 64=2)∧(3<n∧b3 / 64=2)
    ·rw [ay q3] at hok ⊢
     split <;> simp <;> omega
    ·rw [ai q3] at hok;simp at hok
theorem yG (n b0 b1 b2 b3:Nat):(decodeN n b0 b1 b2 b3).2≤4:=by
 unfold decodeN
 repeat' split
 all_goals (simp only;omega)
theorem II (s:ByteArray):∀ (f pos i:Nat),s.size - pos≤f→zH (iL s f pos)=true→pos≤i→i<s.size→(s.get! i).toNat<128→∃ l1 l2,iL s f pos=l1++(s.get! i |>.toNat,1) :: l2∧pos+mg l1=i
 | 0,pos,i,hf,_,hp,hi,_=>by omega
 | f+1,pos,i,hf,hok,hp,hi,hlow=>by
  have hlt:pos<s.size:=by omega
  rw [fM s f pos hlt] at hok ⊢;simp only [zH] at hok
  split at hok
  ·cases hok
  ·rename_i hne
   rcases dW pos i with h1|h1
   ·have hw:=width_pos s pos hlt
    by_cases h2:i<pos+(Utf8.decode s pos).2
    ·exfalso
     have hd:=ig s pos;rw [hd] at hne h2;have hr:=Gd _ _ _ _ _ hne;have h4:=yG (s.size - pos) (s.get! pos).toNat (s.get! (pos+1)).toNat (s.get! (pos+2)).toNat (s.get! (pos+3)).toNat
     rcases dW (i - pos) 2 with h|h
     ·obtain rfl:i=pos+1:=by omega
      have:=(hr.1 (by omega)).2;omega
     ·rcases dW (i - pos) 3 with h|h
      ·obtain rfl:i=pos+2:=by omega
       have:=hr.2.1 (by omega);omega
      ·obtain rfl:i=pos+3:=by omega
       have:=hr.2.2 (by omega);omega
    ·obtain ⟨l1,l2,e1,e2⟩:=II s f _ i (by omega) hok (by omega) hi hlow
     exact ⟨Utf8.decode s pos :: l1,l2,by rw [e1];rfl,by simp only [mg];omega⟩
   ·obtain rfl:i=pos:=by omega
    refine ⟨[],iL s f (i+(Utf8.decode s i).2),?_,by simp [mg]⟩;rw [fA]
    congr 1
    rw [ig,vF _ _ _ _ _ hlow]
theorem T8 {s:ByteArray} {i:Nat} (hok:okB s=true) (hi:i<s.size) (hlow:(s.get! i).toNat<128):Kj s i∧Kj s (i+1):=by
 obtain ⟨l1,l2,h1,h2⟩:=II s s.size 0 i (by omega) hok (by omega) hi hlow;refine ⟨⟨l1,_,h1,by omega⟩,⟨l1++[(_,1)],l2,by rw [dC];exact h1,?_⟩⟩;rw [rW];simp only [mg];omega
end L
end Go.Proofs.YtojoahlpgmnbnaaGreatDoor
