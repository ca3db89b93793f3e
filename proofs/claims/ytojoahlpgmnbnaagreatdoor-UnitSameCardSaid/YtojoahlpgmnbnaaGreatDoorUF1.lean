/- What the claim needs of the texts Plain, SPlain, SAgain, TPlain, KPlain, SRef1, SRef2, LPlain, LBnd, RefAll, SRef3, STok, SPart, TRep, KMem. -/
import Derived.Test.YtojoahlpgmnbnaaGreatDoorUFOp
import Derived.Lib.DecodeN
import Derived.Lib.ValidU
import Derived.Lib.ValidAsc
import Derived.Lib.RuneCountTail
import Derived.Test.YtojoahlpgmnbnaaGreatDoorProg
import Derived.WalkKit
import Derived.WalkMore
import Derived.WalkSmall
import Derived.Below
import Derived.Lib.Hide
import Derived.Shelf.Unicode.DecodeSlow
import Derived.Deep.DeepMust
import Derived.Maps.AppendAt
import Derived.Deep.QuietTactic
import Derived.BigQuiet
import Derived.Laws.AppendOwn
import Derived.Lib.SmallJoins
import Derived.RangeFuncOwn
import Derived.Deep.AppendLies
import Derived.Deep.RegionHeld3
import Derived.Deep.RegionWith
import Derived.BigRegion
import Derived.Deep.DeepCutAuto
namespace Go.Proofs.YtojoahlpgmnbnaaGreatDoor.U
open Go.Lib
def uw (r:Nat):Nat:=if 65536≤r then 2 else 1
def itemsF (s:ByteArray):Nat→Nat→List (Nat × Nat)
 | 0,_=>[]
 | f+1,pos=>if pos<s.size then Utf8.decode s pos :: itemsF s f (pos+(Utf8.decode s pos).2) else []
def items (s:ByteArray):List (Nat × Nat):=itemsF s s.size 0
def okL:List (Nat × Nat)→Bool
 | []=>true
 | x :: t=>if x.1=65533∧x.2=1 then false else okL t
def okB (s:ByteArray):Bool:=okL (items s)
theorem decodeN_bounds (n b0 b1 b2 b3:Nat) (hn:1≤n):1≤(decodeN n b0 b1 b2 b3).2∧(decodeN n b0 b1 b2 b3).2≤n:=by
 unfold decodeN
 repeat' split
 all_goals (simp only;omega)
theorem width_pos (s:ByteArray) (pos:Nat) (h:pos<s.size):1≤(Utf8.decode s pos).2:=by
 rw [decode_at];exact (decodeN_bounds _ _ _ _ _ (by omega)).1
theorem width_le (s:ByteArray) (pos:Nat) (h:pos<s.size):pos+(Utf8.decode s pos).2≤s.size:=by
 rw [decode_at];have:=(decodeN_bounds (s.size - pos) (s.get! pos).toNat (s.get! (pos+1)).toNat (s.get! (pos+2)).toNat (s.get! (pos+3)).toNat (by omega)).2;omega
theorem itemsF_end (s:ByteArray) (f pos:Nat) (h:¬ pos<s.size):itemsF s f pos=[]:=by cases f <;> simp [itemsF,h]
theorem itemsF_step (s:ByteArray) (f pos:Nat) (h:pos<s.size):itemsF s (f+1) pos=Utf8.decode s pos :: itemsF s f (pos+(Utf8.decode s pos).2):=by simp [itemsF,h]
theorem itemsF_fuel (s:ByteArray):∀ f g pos,s.size - pos≤f→s.size - pos≤g→itemsF s f pos=itemsF s g pos
 | 0,g,pos,hf,_=>by rw [itemsF_end s 0 pos (by omega),itemsF_end s g pos (by omega)]
 | f+1,g,pos,hf,hg=>by
  by_cases h:pos<s.size
  ·obtain ⟨g,rfl⟩:∃ k,g=k+1:=⟨g - 1,by omega⟩
   have:=width_pos s pos h
   rw [itemsF_step s f pos h,itemsF_step s g pos h,itemsF_fuel s f g _ (by omega) (by omega)]
  ·rw [itemsF_end s _ pos h,itemsF_end s _ pos h]
def Wide (l:List (Nat × Nat)):Prop:=∀ x∈l,1≤x.2
theorem itemsF_wide (s:ByteArray):∀ f pos,Wide (itemsF s f pos)
 | 0,_=>by intro x hx;cases hx
 | f+1,pos=>by
  intro x hx
  by_cases h:pos<s.size
  ·rw [itemsF_step s f pos h] at hx
   rcases List.mem_cons.1 hx with rfl|hx
   ·exact width_pos s pos h
   ·exact itemsF_wide s f _ x hx
  ·rw [itemsF_end s _ pos h] at hx;cases hx
def sumW:List (Nat × Nat)→Nat
 | []=>0
 | x :: t=>x.2+sumW t
theorem sumW_itemsF (s:ByteArray):∀ f pos,s.size - pos≤f→pos≤s.size→sumW (itemsF s f pos)=s.size - pos
 | 0,pos,hf,hp=>by simp only [itemsF,sumW];omega
 | f+1,pos,hf,hp=>by
  by_cases h:pos<s.size
  ·have h1:=width_pos s pos h
   have h2:=width_le s pos h
   rw [itemsF_step s f pos h];simp only [sumW]
   rw [sumW_itemsF s f _ (by omega) h2];omega
  ·rw [itemsF_end s _ pos h];simp only [sumW];omega
theorem sumW_items (s:ByteArray):sumW (items s)=s.size:=by unfold items;rw [sumW_itemsF s s.size 0 (by omega) (by omega)];omega
theorem decodeL_drop (s:ByteArray) (pos:Nat):decodeL (s.data.toList.drop pos)=Utf8.decode s pos:=by
 have h:=tail_decode s pos 0
 rw [Nat.add_zero] at h
 rw [← h]
 unfold decodeL
 rw [← ext_list s pos]
theorem validGo_ok (s:ByteArray):∀ n pos,validGoD n (s.data.toList.drop pos)=okL (itemsF s n pos)
 | 0,_=>rfl
 | n+1,pos=>by
  unfold validGoD
  by_cases h:pos<s.size
  ·have hne:¬ s.data.toList.drop pos=[]:=by
    intro e
    have:=congrArg List.length e
    simp at this
    have h2:s.data.size=s.size:=rfl
    omega
   rw [if_neg hne,itemsF_step s n pos h,decodeL_drop]
   simp only [okL]
   split
   ·rfl
   ·rw [List.drop_drop,validGo_ok s n]
  ·have he:s.data.toList.drop pos=[]:=by
    apply List.drop_eq_nil_of_le
    have h2:s.data.size=s.size:=rfl
    simp;omega
   rw [if_pos he,itemsF_end s _ pos h];rfl
theorem valid_ok (s:ByteArray):validD s.data.toList=okB s:=by
 unfold validD okB items
 have h:=validGo_ok s s.size 0
 rw [List.drop_zero] at h
 have h2:s.data.toList.length=s.size:=by simp
 rw [h2,h]
def off:List (Nat × Nat)→Nat→Nat→Int→Int × Int
 | [],pos,ahead,unit=>if (ahead:Int)=unit then ((pos:Int),0) else (0,12)
 | x :: t,pos,ahead,unit=>if (ahead:Int)=unit then ((pos:Int),0) else off t (pos+x.2) (ahead+uw x.1) unit
def bytes:List ByteArray→Nat
 | []=>0
 | s :: t=>s.size+bytes t
theorem size_append (a b:ByteArray):(a++b).size=a.size+b.size:=by simp [ByteArray.size_append]
theorem get!_left (a b:ByteArray) (i:Nat) (h:i<a.size):(a++b).get! i=a.get! i:=by
 rw [← getD_get!',← getD_get!']
 have:(a++b).data.toList=a.data.toList++b.data.toList:=by simp [ByteArray.data_append]
 rw [this,List.getD_eq_getElem?_getD,List.getD_eq_getElem?_getD,List.getElem?_append_left (by simpa using h)]
theorem get!_right (a b:ByteArray) (i:Nat):(a++b).get! (a.size+i)=b.get! i:=by
 rw [← getD_get!',← getD_get!']
 have:(a++b).data.toList=a.data.toList++b.data.toList:=by simp [ByteArray.data_append]
 have h2:a.data.toList.length=a.size:=by simp
 rw [this,List.getD_eq_getElem?_getD,List.getD_eq_getElem?_getD,List.getElem?_append_right (by omega),h2,Nat.add_sub_cancel_left]
theorem decode_right (a b:ByteArray) (pos:Nat):Utf8.decode (a++b) (a.size+pos)=Utf8.decode b pos:=by
 rw [decode_at,decode_at,size_append,get!_right,Nat.add_assoc,get!_right,Nat.add_assoc,get!_right,Nat.add_assoc,get!_right]
 congr 1
 omega
theorem decodeN_more (n k b0 b1 b2 b3 c1 c2 c3:Nat) (h1:1<n→c1=b1) (h2:2<n→c2=b2) (h3:3<n→c3=b3)
  (hok:¬ ((decodeN n b0 b1 b2 b3).1=65533∧(decodeN n b0 b1 b2 b3).2=1)):decodeN (n+k) b0 c1 c2 c3=decodeN n b0 b1 b2 b3:=by
 unfold decodeN at hok ⊢
 by_cases c0:b0<128
 ·simp [c0]
 ·rw [if_neg c0] at hok ⊢
  rw [if_neg c0]
  by_cases q1:b0 / 32=6∧(1<n∧b1 / 64=2)
  ·have e1:=h1 q1.2.1
   subst e1
   rw [if_pos q1,if_pos ⟨q1.1,by omega,q1.2.2⟩]
  ·rw [if_neg q1] at hok ⊢
   by_cases q2:b0 / 16=14∧(1<n∧b1 / 64=2)∧(2<n∧b2 / 64=2)
   ·have e1:=h1 q2.2.1.1
    have e2:=h2 q2.2.2.1
    subst e1;subst e2
    rw [if_pos q2,if_neg (by omega),if_pos ⟨q2.1,⟨by omega,q2.2.1.2⟩,by omega,q2.2.2.2⟩]
   ·rw [if_neg q2] at hok ⊢
    by_cases q3:b0 / 8=30∧(1<n∧b1 / 64=2)∧(2<n∧b2 / 64=2)∧(3<n∧b3 / 64=2)
    ·have e1:=h1 q3.2.1.1
     have e2:=h2 q3.2.2.1.1
     have e3:=h3 q3.2.2.2.1
     subst e1;subst e2;subst e3
     rw [if_pos q3,if_neg (by omega),if_neg (by omega),if_pos ⟨q3.1,⟨by omega,q3.2.1.2⟩,⟨by omega,q3.2.2.1.2⟩,by omega,q3.2.2.2.2⟩]
    ·rw [if_neg q3] at hok
     simp at hok
theorem decode_left (a b:ByteArray) (pos:Nat) (h:pos<a.size) (hok:¬ ((Utf8.decode a pos).1=65533∧(Utf8.decode a pos).2=1)):Utf8.decode (a++b) pos=Utf8.decode a pos:=by
 rw [decode_at] at hok
 rw [decode_at,decode_at,get!_left a b pos h,size_append]
 have e:a.size+b.size - pos=(a.size - pos)+b.size:=by omega
 rw [e]
 refine decodeN_more _ _ _ _ _ _ _ _ _ (fun h1=>?_) (fun h1=>?_) (fun h1=>?_) hok
 ·rw [get!_left a b _ (by omega)]
 ·rw [get!_left a b _ (by omega)]
 ·rw [get!_left a b _ (by omega)]
theorem itemsF_right (a b:ByteArray):∀ f pos,itemsF (a++b) f (a.size+pos)=itemsF b f pos
 | 0,_=>rfl
 | f+1,pos=>by
  by_cases h:pos<b.size
  ·rw [itemsF_step _ f _ (by rw [size_append];omega),itemsF_step b f pos h,decode_right,Nat.add_assoc,itemsF_right a b f]
  ·rw [itemsF_end _ _ _ (by rw [size_append];omega),itemsF_end b _ pos h]
theorem itemsF_left (a b:ByteArray):∀ f pos,a.size - pos≤f→pos≤a.size→okL (itemsF a f pos)=true →
  itemsF (a++b) (f+b.size) pos=itemsF a f pos++items b
 | 0,pos,hf,hp,_=>by
  obtain rfl:pos=a.size:=by omega
  rw [Nat.zero_add]
  have:=itemsF_right a b b.size 0
  rw [Nat.add_zero] at this
  rw [this];rfl
 | f+1,pos,hf,hp,hok=>by
  by_cases h:pos<a.size
  ·rw [itemsF_step a f pos h] at hok ⊢
   simp only [okL] at hok
   split at hok
   ·cases hok
   ·rename_i hne
    have hl:=decode_left a b pos h hne
    have e:f+1+b.size=(f+b.size)+1:=by omega
    have hw:=width_pos a pos h
    rw [e,itemsF_step _ _ pos (by rw [size_append];omega),hl,itemsF_left a b f _ (by omega) (width_le a pos h) hok]
    rfl
  ·obtain rfl:pos=a.size:=by omega
   rw [itemsF_end a _ _ h]
   have hr:=itemsF_right a b (f+1+b.size) 0
   rw [Nat.add_zero a.size] at hr
   rw [hr,List.nil_append]
   exact itemsF_fuel b _ _ 0 (by omega) (by omega)
theorem items_append (a b:ByteArray) (h:okB a=true):items (a++b)=items a++items b:=by
 have:=itemsF_left a b a.size 0 (by omega) (by omega) h
 unfold items
 rw [size_append]
 exact this
theorem okL_append:∀ x y:List (Nat × Nat),okL (x++y)=(okL x&&okL y)
 | [],y=>by simp [okL]
 | x :: t,y=>by
  simp only [List.cons_append,okL]
  split
  ·rfl
  ·exact okL_append t y
theorem sumW_append:∀ x y:List (Nat × Nat),sumW (x++y)=sumW x+sumW y
 | [],y=>by simp [sumW]
 | x :: t,y=>by simp only [List.cons_append,sumW,sumW_append t y];omega
end Go.Proofs.YtojoahlpgmnbnaaGreatDoor.U
namespace Go.Proofs.YtojoahlpgmnbnaaGreatDoor.S
open Go.Lib Go.Proofs.YtojoahlpgmnbnaaGreatDoor.U
abbrev By:=List UInt8
def lett (c:UInt8):Bool:=decide (97≤c∧c≤122)||decide (65≤c∧c≤90)||decide (c=95)
def figu (c:UInt8):Bool:=decide (48≤c∧c≤57)
def nmc (c:UInt8):Bool:=lett c||figu c
def nameLen:By→Nat
 | []=>0
 | c :: r=>if lett c then 1+(r.takeWhile nmc).length else 0
def numLen (l:By):Nat:=(l.takeWhile figu).length
def quoTail:By→Option Nat
 | []=>none
 | c :: r=>if c=10 then none else if c=34 then some 1 else (quoTail r).map (·+1)
def quoLen:By→Nat
 | []=>0
 | c :: r=>if c=34 then (match quoTail r with|none=>0|some n=>n+1) else 0
def two:By→Bool
 | a :: b :: _=>(a==58&&b==61)||(a==61&&b==61)||(a==33&&b==61)||(a==60&&b==61)||(a==62&&b==61)||(a==38&&b==38)||(a==124&&b==124)
 | _=>false
def wid (l:By):Nat:=(Utf8.decode ⟨l.toArray⟩ 0).2
def markLen (right:Bool) (l:By):Nat:=if two l then 2 else if right then wid l else 1
def keyB (x:By):Bool:=x==[102,117,110,99]||x==[118,97,114]||x==[116,121,112,101]||x==[115,116,114,117,99,116]||x==[114,101,116,117,114,110]||x==[105,102]||x==[101,108,115,101]||x==[102,111,114]
def wordL (right:Bool) (l:By):Int × Nat :=
 if 0<nameLen l then (if keyB (l.take (nameLen l)) then 3 else 0,nameLen l)
 else if 0<numLen l then (1,numLen l)
 else if 0<quoLen l then (2,quoLen l)
 else if l.head?=some 59 then (5,1) else (4,markLen right l)
def cmtLen:By→Nat
 | a :: b :: r=>if a=47∧b=47 then 2+(r.takeWhile (fun c=>decide (c≠10))).length else 0
 | _=>0
def endsP (w:Int) (x:By):Bool :=
 decide (w=0∨w=1∨w=2)||(decide (w=3)&&x==[114,101,116,117,114,110])||(decide (w=4)&&(x==[41]||x==[93]||x==[125]))
def blank (c:UInt8):Bool:=c==32||c==9||c==13||c==10
structure TokP where
 w:Int
 t:By
 f:Int
 e:Int
def scanF (right:Bool):Nat→By→Nat→Bool→List TokP
 | 0,_,_,_=>[]
 | _+1,[],pos,ended=>if ended then [⟨5,[],pos,pos⟩] else []
 | n+1,c :: r,pos,ended =>
  if c=10∧ended=true then ⟨5,[],pos,((pos+1:Nat):Int)⟩ :: scanF right n r (pos+1) false
  else if blank c=true then scanF right n r (pos+1) ended
  else if 0<cmtLen (c :: r) then scanF right n ((c :: r).drop (cmtLen (c :: r))) (pos+cmtLen (c :: r)) ended
  else ⟨(wordL right (c :: r)).1,(c :: r).take (wordL right (c :: r)).2,pos,((pos+(wordL right (c :: r)).2:Nat):Int)⟩ ::
   scanF right n ((c :: r).drop (wordL right (c :: r)).2) (pos+(wordL right (c :: r)).2) (endsP (wordL right (c :: r)).1 ((c :: r).take (wordL right (c :: r)).2))
def scanB (right:Bool) (l:By):List TokP:=scanF right (l.length+1) l 0 false
theorem wid_bounds {l:By} (h:l≠[]):1≤wid l∧wid l≤l.length:=by
 have hz:(⟨l.toArray⟩:ByteArray).size=l.length:=by simp [ByteArray.size]
 have h0:0<(⟨l.toArray⟩:ByteArray).size:=by
  rw [hz]
  cases l with
  | nil=>exact absurd rfl h
  | cons a r=>simp
 have h1:=width_pos _ 0 h0
 have h2:=width_le _ 0 h0
 unfold wid
 omega
theorem two_len {l:By} (h:two l=true):2≤l.length:=by
 match l with
 | []=>simp [two] at h
 | [a]=>simp [two] at h
 | a :: b :: r=>simp
theorem mark_bounds (right:Bool) {l:By} (h:l≠[]):1≤markLen right l∧markLen right l≤l.length:=by
 unfold markLen
 split
 ·rename_i h2;exact ⟨by omega,two_len h2⟩
 ·split
  ·exact wid_bounds h
  ·exact ⟨by omega,by cases l with
    | nil=>exact absurd rfl h
    | cons a r=>simp⟩
theorem tw_le {α:Type} (p:α→Bool) (l:List α):(l.takeWhile p).length≤l.length:=(List.takeWhile_sublist p).length_le
theorem name_le (l:By):nameLen l≤l.length:=by
 cases l with
 | nil=>simp [nameLen]
 | cons c r=>simp only [nameLen,List.length_cons];have:=tw_le nmc r;split <;> omega
theorem quoTail_le:∀ (l:By) (n:Nat),quoTail l=some n→1≤n∧n≤l.length
 | [],n,h=>by simp [quoTail] at h
 | c :: r,n,h=>by
  simp only [quoTail] at h
  split at h
  ·cases h
  ·split at h
   ·cases h;simp
   ·cases hq:quoTail r with
    | none=>rw [hq] at h;cases h
    | some m =>
     rw [hq] at h
     have:=quoTail_le r m hq
     simp only [Option.map_some,Option.some.injEq] at h
     simp only [List.length_cons]
     omega
theorem quo_le (l:By):quoLen l≤l.length:=by
 cases l with
 | nil=>simp [quoLen]
 | cons c r =>
  simp only [quoLen,List.length_cons]
  split
  ·cases hq:quoTail r with
   | none=>simp
   | some n=>have:=quoTail_le r n hq;simp only;omega
  ·omega
theorem word_bounds (right:Bool) {l:By} (h:l≠[]):1≤(wordL right l).2∧(wordL right l).2≤l.length:=by
 unfold wordL
 split
 ·rename_i h1;exact ⟨h1,name_le l⟩
 ·split
  ·rename_i h1;exact ⟨h1,tw_le _ _⟩
  ·split
   ·rename_i h1;exact ⟨h1,quo_le l⟩
   ·split
    ·exact ⟨Nat.le_refl _,by cases l with
      | nil=>exact absurd rfl h
      | cons a r=>simp⟩
    ·exact mark_bounds right h
theorem cmt_le (l:By):cmtLen l≤l.length:=by
 match l with
 | []=>simp [cmtLen]
 | [a]=>simp [cmtLen]
 | a :: b :: r =>
  simp only [cmtLen,List.length_cons]
  have:=tw_le (fun c:UInt8=>decide (c≠10)) r
  split <;> omega
theorem scanF_fuel (right:Bool):∀ (n m:Nat) (l:By) (pos:Nat) (ended:Bool),l.length<n→l.length<m→scanF right n l pos ended=scanF right m l pos ended
 | 0,_,_,_,_,h,_=>by omega
 | _+1,0,_,_,_,_,h=>by omega
 | n+1,m+1,[],pos,ended,_,_=>rfl
 | n+1,m+1,c :: r,pos,ended,hn,hm=>by
  have hr:r.length<n∧r.length<m:=by simp only [List.length_cons] at hn hm;omega
  have hc:=cmt_le (c :: r)
  have hw:=word_bounds right (l:=c :: r) (by simp)
  have hd:∀ k,1≤k→((c :: r).drop k).length<n∧((c :: r).drop k).length<m:=fun k hk=>by
   rw [List.length_drop];simp only [List.length_cons] at hn hm ⊢;omega
  simp only [scanF]
  split
  ·rw [scanF_fuel right n m r _ _ hr.1 hr.2]
  ·split
   ·exact scanF_fuel right n m r _ _ hr.1 hr.2
   ·split
    ·rename_i hk
     exact scanF_fuel right n m _ _ _ (hd _ hk).1 (hd _ hk).2
    ·rw [scanF_fuel right n m _ _ _ (hd _ hw.1).1 (hd _ hw.1).2]
def Gap (s:By) (a b:Nat):Prop:=∀ k,a≤k→k<b→(∃ j,a≤j∧j≤k∧s[j]?=some 47)∨∃ c,s[k]?=some c∧blank c=true
structure TokIn (s:By) (a:Nat) (t:TokP) (f e:Nat):Prop where
 from_:t.f=(f:Int)
 to_:t.e=(e:Int)
 le:a≤f
 fe:f≤e
 end_:e≤s.length
 gap:Gap s a f
 text:(t.w=5∧t.t=[]∧(s[f]?=some 10∨f=s.length))∨(t.t≠[]∧t.t=(s.drop f).take (e - f))
inductive Rises (s:By):Nat→List TokP→Prop
 | nil (a:Nat):Rises s a []
 | cons {a:Nat} {t:TokP} {f e:Nat} {r:List TokP} (h:TokIn s a t f e) (hl:(t.t=[]∧f=s.length)→r=[]) (hr:Rises s e r):Rises s a (t :: r)
theorem gap_nil (s:By) (a:Nat):Gap s a a:=fun k h1 h2=>by omega
theorem gap_blank {s:By} {a b:Nat} {c:UInt8} (h:Gap s a b) (hc:s[b]?=some c) (hb:blank c=true):Gap s a (b+1):=fun k h1 h2=>by
 by_cases hk:k<b
 ·exact h k h1 hk
 ·obtain rfl:k=b:=by omega
  exact .inr ⟨c,hc,hb⟩
theorem gap_slash {s:By} {a b m:Nat} (h:Gap s a b) (hab:a≤b) (hc:s[b]?=some 47):Gap s a (b+m):=fun k h1 h2=>by
 by_cases hk:k<b
 ·exact h k h1 hk
 ·exact .inl ⟨b,hab,by omega,hc⟩
theorem drop_cons {s:By} {p:Nat} {c:UInt8} {r:By} (h:s.drop p=c :: r):s[p]?=some c∧p<s.length∧s.drop (p+1)=r:=by
 have hp:p<s.length:=by
  by_cases hp:p<s.length
  ·exact hp
  ·rw [List.drop_of_length_le (by omega)] at h;cases h
 rw [List.drop_eq_getElem_cons hp] at h
 simp only [List.cons.injEq] at h
 exact ⟨by rw [List.getElem?_eq_getElem hp,h.1],hp,h.2⟩
theorem scanF_rises (right:Bool) (s:By):∀ (n:Nat) (p a:Nat) (ended:Bool),a≤p→p≤s.length→Gap s a p→Rises s a (scanF right n (s.drop p) p ended)
 | 0,_,_,_,_,_,_=>.nil _
 | n+1,p,a,ended,hap,hps,hg=>by
  cases hd:s.drop p with
  | nil =>
   have hp:p=s.length:=by
    have:=congrArg List.length hd
    rw [List.length_drop] at this
    simp at this;omega
   simp only [scanF]
   split
   ·exact .cons (f:=p) (e:=p) ⟨rfl,rfl,hap,Nat.le_refl _,hps,hg,.inl ⟨rfl,rfl,.inr hp⟩⟩ (fun _=>rfl) (.nil _)
   ·exact .nil _
  | cons c r =>
   obtain ⟨h1,h2,h3⟩:=drop_cons hd
   simp only [scanF]
   split
   ·rename_i hc
    refine .cons (f:=p) (e:=p+1) ⟨rfl,rfl,hap,by omega,by omega,hg,.inl ⟨rfl,rfl,.inl (by rw [h1,hc.1])⟩⟩ (fun h=>by omega) ?_
    rw [← h3]
    exact scanF_rises right s n (p+1) (p+1) false (Nat.le_refl _) (by omega) (gap_nil _ _)
   ·split
    ·rename_i hb
     rw [← h3]
     exact scanF_rises right s n (p+1) a ended (by omega) (by omega) (gap_blank hg h1 hb)
    ·split
     ·rename_i hk
      have hc47:c=47:=by
       match r,hk with
       | [],hk=>simp [cmtLen] at hk
       | b :: r',hk =>
        simp only [cmtLen] at hk
        split at hk
        ·rename_i h;exact h.1
        ·omega
      have hle:=cmt_le (c :: r)
      rw [← hd,List.drop_drop]
      rw [← hd,List.length_drop] at hle
      exact scanF_rises right s n _ a ended (by omega) (by omega) (gap_slash hg hap (by rw [h1,hc47]))
     ·have hw:=word_bounds right (l:=c :: r) (by simp)
      obtain ⟨m,hm⟩:∃ m,(wordL right (c :: r)).2=m:=⟨_,rfl⟩
      rw [hm] at hw ⊢
      have hle:=hw.2
      rw [← hd,List.length_drop] at hle
      refine .cons (f:=p) (e:=p+m) ⟨rfl,rfl,hap,by omega,by omega,hg,.inr ⟨?_,?_⟩⟩ (fun h=>absurd h.1 ?_) ?_
      ·simp only
       intro h
       have:=congrArg List.length h
       rw [List.length_take] at this
       simp only [List.length_cons,List.length_nil] at this hw
       omega
      ·simp only
       rw [hd,show p+m - p=m by omega]
      ·simp only
       intro h
       have:=congrArg List.length h
       rw [List.length_take] at this
       simp only [List.length_cons,List.length_nil] at this hw
       omega
      ·rw [← hd,List.drop_drop]
       exact scanF_rises right s n _ _ _ (Nat.le_refl _) (by omega) (gap_nil _ _)
theorem scan_rises (right:Bool) (s:By):Rises s 0 (scanB right s):=by
 have:=scanF_rises right s (s.length+1) 0 0 false (Nat.le_refl _) (Nat.zero_le _) (gap_nil _ _)
 rw [List.drop_zero] at this
 exact this
end Go.Proofs.YtojoahlpgmnbnaaGreatDoor.S
namespace Go.Proofs.YtojoahlpgmnbnaaGreatDoor.S
open Go.Lib Go.Proofs.YtojoahlpgmnbnaaGreatDoor.U
theorem tw_stop {p:UInt8→Bool} {d:UInt8} (hd:p d=false) (b:By):∀ r:By,(r++d :: b).takeWhile p=r.takeWhile p
 | []=>by simp [hd]
 | c :: r=>by
  simp only [List.cons_append,List.takeWhile_cons]
  rw [tw_stop hd b r]
theorem tw_take (p:UInt8→Bool) (r:By):r.take (r.takeWhile p).length=r.takeWhile p:=(List.prefix_iff_eq_take.1 (List.takeWhile_prefix p)).symm
end Go.Proofs.YtojoahlpgmnbnaaGreatDoor.S
namespace Go.Proofs.YtojoahlpgmnbnaaGreatDoor.T
open Go.Lib Go.Proofs.YtojoahlpgmnbnaaGreatDoor.U Go.Proofs.YtojoahlpgmnbnaaGreatDoor.S
inductive Pt where
 | mk (k t:By) (f e:Int) (kids:List Pt)
inductive Out (α:Type) where
 | ok (a:α) (at':Nat)
 | bad (at':Nat)
def Out.next {α β:Type} (o:Out α) (f:α→Nat→Out β):Out β:=match o with
 | .ok a i=>f a i
 | .bad i=>.bad i
section
variable (L:List TokP)
def isT (x:By) (i:Nat):Bool:=match L[i]? with
 | some t=>t.t==x&&(t.w==4||t.w==3)
 | none=>false
def comesT (w:Int) (i:Nat):Bool:=match L[i]? with
 | some t=>t.w==w
 | none=>false
def mustT (x:By) (i:Nat):Out Unit:=if isT L x i then .ok () (i+1) else .bad i
def textT (i:Nat):By:=match L[i]? with
 | some t=>t.t
 | none=>[]
def nameT (i:Nat):Out By:=if comesT L 0 i then .ok (textT L i) (i+1) else .bad i
def semiN (i:Nat):Nat:=((L.drop i).takeWhile (fun t=>t.w==5)).length
def fromT (i:Nat):Int:=match L[i]? with
 | some t=>t.f
 | none=>0
def toT (i:Nat):Int:=if i=0 then 0 else match L[i - 1]? with
 | some t=>t.e
 | none=>0
def part (k t:By) (f:Int) (kids:List Pt) (i:Nat):Out Pt:=.ok (.mk k t f (toT L i) kids) i
def strong (t:TokP):Int :=
 if t.w=4 then
  if t.t=[124,124] then 1
  else if t.t=[38,38] then 2
  else if t.t=[61,61]∨t.t=[33,61]∨t.t=[60]∨t.t=[60,61]∨t.t=[62]∨t.t=[62,61] then 3
  else if t.t=[43]∨t.t=[45] then 4
  else if t.t=[42]∨t.t=[47]∨t.t=[37] then 5
  else 0
 else 0
def strongT (i:Nat):Int:=match L[i]? with
 | some t=>strong t
 | none=>0
def kFunc:By:=[102,117,110,99]
def kVar:By:=[118,97,114]
def kType:By:=[116,121,112,101]
def kStruct:By:=[115,116,114,117,99,116]
def kReturn:By:=[114,101,116,117,114,110]
def kIf:By:=[105,102]
def kElse:By:=[101,108,115,101]
def kFor:By:=[102,111,114]
def kStar:By:=[115,116,97,114]
def kSlice:By:=[115,108,105,99,101]
def kName:By:=[110,97,109,101]
def kParam:By:=[112,97,114,97,109]
def kParams:By:=[112,97,114,97,109,115]
def kResult:By:=[114,101,115,117,108,116]
def kField:By:=[102,105,101,108,100]
def kBlock:By:=[98,108,111,99,107]
def kAssign:By:=[97,115,115,105,103,110]
def kDefine:By:=[100,101,102,105,110,101]
def kExpr:By:=[101,120,112,114]
def kNum:By:=[110,117,109]
def kStr:By:=[115,116,114]
def kId:By:=[105,100]
def kUnary:By:=[117,110,97,114,121]
def kBinary:By:=[98,105,110,97,114,121]
def kCall:By:=[99,97,108,108]
def kIndex:By:=[105,110,100,101,120]
def kNew:By:=[110,101,119]
def kMake:By:=[109,97,107,101]
def typed:Nat→Nat→Out Pt
 | 0,i=>.bad i
 | n+1,i =>
  if isT L [42] i then (typed n (i+1)).next fun x j=>part L kStar [] (fromT L i) [x] j
  else if isT L [91] i then (mustT L [93] (i+1)).next fun _ j=>(typed n j).next fun x k=>part L kSlice [] (fromT L i) [x] k
  else (nameT L i).next fun s j=>part L kName s (fromT L i) [] j
def param (n:Nat) (kind:By) (i:Nat):Out Pt:=(nameT L i).next fun s j=>(typed L n j).next fun x k=>part L kind s (fromT L i) [x] k
def allP (kind:By):List Pt→Pt
 | []=>.mk kind [] 0 0 []
 | .mk k t f e ks :: r=>.mk kind [] f (match (Pt.mk k t f e ks :: r).getLast? with
  | some (.mk _ _ _ e' _)=>e'
  | none=>0) (.mk k t f e ks :: r)
def params (m:Nat):Nat→Nat→List Pt→Out (List Pt)
 | 0,i,_=>.bad i
 | n+1,i,acc =>
  (param L m kParam i).next fun p j=>if isT L [41] j then .ok (acc++[p]) (j+1) else (mustT L [44] j).next fun _ k=>params m n k (acc++[p])
def fields (m:Nat):Nat→Nat→List Pt→Out (List Pt)
 | 0,i,_=>.bad i
 | n+1,i,acc =>
  if isT L [125] i then .ok acc i
  else (param L m kField i).next fun p j=>if semiN L j=0∧isT L [125] j=false then .bad j else fields m n (j+semiN L j) (acc++[p])
mutual
def expr:Nat→Int→Nat→Out Pt
 | 0,_,i=>.bad i
 | n+1,than,i=>(prefixT n i).next fun a j=>exprs n than (fromT L i) a j
def exprs:Nat→Int→Int→Pt→Nat→Out Pt
 | 0,_,_,_,i=>.bad i
 | n+1,than,f,a,i =>
  if i<L.length∧than<strongT L i then (expr n (strongT L i) (i+1)).next fun b j=>exprs n than f (.mk kBinary (textT L i) f (toT L j) [a,b]) j
  else .ok a i
def prefixT:Nat→Nat→Out Pt
 | 0,i=>.bad i
 | n+1,i =>
  if isT L [38] i then (prefixT n (i+1)).next fun e j=>part L kUnary [38] (fromT L i) [e] j
  else if isT L [42] i then (prefixT n (i+1)).next fun e j=>part L kUnary [42] (fromT L i) [e] j
  else if isT L [45] i then (prefixT n (i+1)).next fun e j=>part L kUnary [45] (fromT L i) [e] j
  else if isT L [33] i then (prefixT n (i+1)).next fun e j=>part L kUnary [33] (fromT L i) [e] j
  else (operand n i).next fun a j=>tails n (fromT L i) a j
def tails:Nat→Int→Pt→Nat→Out Pt
 | 0,_,_,i=>.bad i
 | n+1,f,a,i =>
  if isT L [46] i then (nameT L (i+1)).next fun s j=>tails n f (.mk kField s f (toT L j) [a]) j
  else if isT L [91] i then (expr n 0 (i+1)).next fun e j=>(mustT L [93] j).next fun _ k=>tails n f (.mk kIndex [] f (toT L k) [a,e]) k
  else .ok a i
def operand:Nat→Nat→Out Pt
 | 0,i=>.bad i
 | n+1,i =>
  if comesT L 1 i then part L kNum (textT L i) (fromT L i) [] (i+1)
  else if comesT L 2 i then part L kStr (textT L i) (fromT L i) [] (i+1)
  else if isT L [40] i then (expr n 0 (i+1)).next fun e j=>(mustT L [41] j).next fun _ k=>.ok e k
  else (nameT L i).next fun s j =>
   if isT L [40] j=false then part L kId s (fromT L i) [] j
   else if s=kNew then (typed L n (j+1)).next fun x k=>(mustT L [41] k).next fun _ m=>part L kNew [] (fromT L i) [x] m
   else if s=kMake then (typed L n (j+1)).next fun x k=>(mustT L [44] k).next fun _ m=>(expr n 0 m).next fun e o=>(mustT L [41] o).next fun _ p=>part L kMake [] (fromT L i) [x,e] p
   else if isT L [41] (j+1) then part L kCall s (fromT L i) [] (j+2)
   else (args n (j+1) []).next fun l k=>part L kCall s (fromT L i) l k
def args:Nat→Nat→List Pt→Out (List Pt)
 | 0,i,_=>.bad i
 | n+1,i,acc=>(expr n 0 i).next fun a j=>if isT L [41] j then .ok (acc++[a]) (j+1) else (mustT L [44] j).next fun _ k=>args n k (acc++[a])
end
def variable' (n:Nat) (i:Nat):Out Pt:=(mustT L kVar i).next fun _ j=>(nameT L j).next fun s k=>(typed L n k).next fun x m=>part L kVar s (fromT L i) [x] m
mutual
def block:Nat→Nat→Out Pt
 | 0,i=>.bad i
 | n+1,i=>(mustT L [123] i).next fun _ j=>(stmts n (j+semiN L j) []).next fun l k=>(mustT L [125] k).next fun _ m=>part L kBlock [] (fromT L i) l m
def stmts:Nat→Nat→List Pt→Out (List Pt)
 | 0,i,_=>.bad i
 | n+1,i,acc =>
  if isT L [125] i then .ok acc i
  else (stmt n i).next fun p j=>if semiN L j=0∧isT L [125] j=false then .bad j else stmts n (j+semiN L j) (acc++[p])
def branch:Nat→Nat→Out Pt
 | 0,i=>.bad i
 | n+1,i=>(mustT L kIf i).next fun _ j=>(expr L n 0 j).next fun e k=>(block n k).next fun b m =>
  if isT L kElse m then
   if isT L kIf (m+1) then (branch n (m+1)).next fun o p=>part L kIf [] (fromT L i) [e,b,o] p
   else (block n (m+1)).next fun o p=>part L kIf [] (fromT L i) [e,b,o] p
  else part L kIf [] (fromT L i) [e,b] m
def stmt:Nat→Nat→Out Pt
 | 0,i=>.bad i
 | n+1,i =>
  if isT L kVar i then variable' L n i
  else if isT L kIf i then branch n i
  else if isT L [123] i then block n i
  else if isT L kFor i then (expr L n 0 (i+1)).next fun e j=>(block n j).next fun b k=>part L kFor [] (fromT L i) [e,b] k
  else if isT L kReturn i then
   if comesT L 5 (i+1)∨isT L [125] (i+1) then part L kReturn [] (fromT L i) [] (i+1)
   else (expr L n 0 (i+1)).next fun e j=>part L kReturn [] (fromT L i) [e] j
  else (expr L n 0 i).next fun a j =>
   if isT L [61] j then (expr L n 0 (j+1)).next fun b k=>part L kAssign [] (fromT L i) [a,b] k
   else if isT L [58,61] j then (expr L n 0 (j+1)).next fun b k=>part L kDefine [] (fromT L i) [a,b] k
   else part L kExpr [] (fromT L i) [a] j
end
def func' (n:Nat) (i:Nat):Out Pt :=
 (mustT L kFunc i).next fun _ j=>(nameT L j).next fun s k=>(mustT L [40] k).next fun _ m =>
  (if isT L [41] m then .ok [] (m+1) else params L n n m []).next fun ps o =>
   (if isT L [123] o then .ok [] o else (typed L n o).next fun x q=>.ok [x] q).next fun rs q =>
    (block L n q).next fun b r=>part L kFunc s (fromT L i) [allP kParams ps,allP kResult rs,b] r
def record (n:Nat) (i:Nat):Out Pt :=
 (mustT L kType i).next fun _ j=>(nameT L j).next fun s k=>(mustT L kStruct k).next fun _ m=>(mustT L [123] m).next fun _ o =>
  (fields L n n (o+semiN L o) []).next fun l q=>(mustT L [125] q).next fun _ r=>part L kType s (fromT L i) l r
def decl (n:Nat):Out Pt :=
 if isT L kFunc 0 then func' L n 0 else if isT L kVar 0 then variable' L n 0 else if isT L kType 0 then record L n 0 else .bad 0
end
mutual
def deep:Pt→Nat
 | .mk _ _ _ _ ks=>deepL ks+1
def deepL:List Pt→Nat
 | []=>0
 | p :: r=>max (deep p) (deepL r)
end
end Go.Proofs.YtojoahlpgmnbnaaGreatDoor.T
namespace Go.Proofs.YtojoahlpgmnbnaaGreatDoor.K
open Go.Lib Go.Proofs.YtojoahlpgmnbnaaGreatDoor.U Go.Proofs.YtojoahlpgmnbnaaGreatDoor.S Go.Proofs.YtojoahlpgmnbnaaGreatDoor.T
inductive Mth where
 | decl|semis|noMore|name|params|result|block|fin|field|param|typeOf|stmt|returned|expr|assigned|otherwise|pre|between|ifOrBlock|text|behind|operand|called
inductive Stp where
 | m (k:Mth)
 | word (x:By)
 | lines (k:Mth)
 | more (k:Mth)
 | commas (k:Mth)
 | moreC (k:Mth)
structure Open where
 k:By
 t:By
 f:Int
 kids:List Pt
 kf:Int
structure St where
 i:Nat
 todo:List Stp
 opn:List Open
inductive Res where
 | go (s:St)
 | wrong
 | stuck
def Open.add (a:Open) (p:Pt) (f:Int):Open:={ a with kids:=a.kids++[p],kf:=f }
def kBr:By:=[40]
def strP (t:By):Int :=
 if t=[124,124] then 1
 else if t=[38,38] then 2
 else if t=[61,61]∨t=[33,61]∨t=[60]∨t=[60,61]∨t=[62]∨t=[62,61] then 3
 else if t=[43]∨t=[45] then 4
 else if t=[42]∨t=[47]∨t=[37] then 5
 else 0
def spanF:List Pt→Int
 | []=>0
 | .mk _ _ f _ _ :: _=>f
def spanE (l:List Pt):Int:=match l.getLast? with
 | some (.mk _ _ _ e _)=>e
 | none=>0
def Open.close (o:Open) (e:Int):Option Pt :=
 if o.k=kBr then o.kids.head?
 else if o.k=kParams∨o.k=kResult then some (.mk o.k o.t (spanF o.kids) (spanE o.kids) o.kids)
 else some (.mk o.k o.t o.f e o.kids)
def closeO (e:Int):List Open→Option (List Open)
 | o :: a :: r=>(o.close e).map fun p=>a.add p o.f :: r
 | _=>none
def settle (e s:Int) (o:Open):List Open→Option (List Open)
 | []=>if o.k=kBinary∧s≤strP o.t then none else some [o]
 | a :: r=>if o.k=kBinary∧s≤strP o.t then settle e s (a.add (.mk o.k o.t o.f e o.kids) o.f) r else some (o :: a :: r)
def wrapO (k:By):List Open→Option (List Open)
 | a :: r=>a.kids.getLast?.map fun p=>⟨k,[],a.kf,[p],0⟩ :: { a with kids:=a.kids.dropLast } :: r
 | []=>none
section
variable (L:List TokP) (size:Nat)
def tok (i:Nat):TokP:=(L[i]?).getD ⟨-1,[],size,size⟩
def isP (x:By) (i:Nat):Bool:=(tok L size i).t==x
def isW (x:Int) (i:Nat):Bool:=(tok L size i).w==x
def ofOpt (i:Nat) (todo:List Stp):Option (List Open)→Res
 | some o=>.go ⟨i,todo,o⟩
 | none=>.stuck
def textO (t:By):List Open→Option (List Open)
 | o :: r=>some ({ o with t:=t } :: r)
 | []=>none
def kindO (k:By):List Open→Option (List Open)
 | o :: r=>some ({ o with k:=k } :: r)
 | []=>none
def opened (k:By) (s:St) (l:List Stp):Res:=.go ⟨s.i,l++s.todo,⟨k,[],(tok L size s.i).f,[],0⟩ :: s.opn⟩
def pushed (s:St) (l:List Stp):Res:=.go ⟨s.i,l++s.todo,s.opn⟩
def varDecl (s:St):Res:=opened L size kVar s [.word kVar,.m .name,.m .typeOf,.m .fin]
def ifStmt (s:St):Res:=opened L size kIf s [.word kIf,.m .expr,.m .block,.m .otherwise,.m .fin]
def blockM (s:St):Res:=opened L size kBlock s [.word [123],.lines .stmt,.word [125],.m .fin]
def exprM (s:St):Res:=pushed s [.m .pre,.m .between]
def finM (s:St):Res:=if s.i=0 then .stuck else ofOpt s.i s.todo (closeO (tok L size (s.i - 1)).e s.opn)
def settleO (e s:Int):List Open→Option (List Open)
 | o :: r=>settle e s o r
 | []=>none
def betweenM (s:St):Res :=
 if s.i=0 then .stuck else
 match settleO (tok L size (s.i - 1)).e (strP (tok L size s.i).t) s.opn with
 | none=>.stuck
 | some O=>if 0<strP (tok L size s.i).t then ofOpt s.i ([.m .text,.m .pre,.m .between]++s.todo) (wrapO kBinary O) else .go ⟨s.i,s.todo,O⟩
def execM:Mth→St→Res
 | .decl,s =>
  if isP L size kFunc s.i then opened L size kFunc s [.word kFunc,.m .name,.m .params,.m .result,.m .block,.m .fin]
  else if isP L size kVar s.i then varDecl L size s
  else if isP L size kType s.i then opened L size kType s [.word kType,.m .name,.word kStruct,.word [123],.lines .field,.word [125],.m .fin]
  else .wrong
 | .semis,s=>.go { s with i:=s.i+semiN L s.i }
 | .noMore,s=>if isW L size (-1) s.i then .go s else .wrong
 | .name,s=>if isW L size 0 s.i then ofOpt (s.i+1) s.todo (textO (tok L size s.i).t s.opn) else .wrong
 | .params,s=>opened L size kParams s [.word [40],.commas .param,.word [41],.m .fin]
 | .result,s=>if isP L size [123] s.i then (if s.i=0 then .stuck else .go ⟨s.i,s.todo,match s.opn with
   | a :: r=>a.add (.mk kResult [] 0 0 []) (tok L size s.i).f :: r
   | []=>[]⟩) else opened L size kResult s [.m .typeOf,.m .fin]
 | .block,s=>blockM L size s
 | .fin,s=>finM L size s
 | .field,s=>opened L size kField s [.m .name,.m .typeOf,.m .fin]
 | .param,s=>opened L size kParam s [.m .name,.m .typeOf,.m .fin]
 | .typeOf,s =>
  if isP L size [42] s.i then opened L size kStar s [.word [42],.m .typeOf,.m .fin]
  else if isP L size [91] s.i then opened L size kSlice s [.word [91],.word [93],.m .typeOf,.m .fin]
  else opened L size kName s [.m .name,.m .fin]
 | .stmt,s =>
  if isP L size kVar s.i then varDecl L size s
  else if isP L size kReturn s.i then opened L size kReturn s [.word kReturn,.m .returned,.m .fin]
  else if isP L size kIf s.i then ifStmt L size s
  else if isP L size kFor s.i then opened L size kFor s [.word kFor,.m .expr,.m .block,.m .fin]
  else if isP L size [123] s.i then blockM L size s
  else opened L size kExpr s [.m .expr,.m .assigned,.m .fin]
 | .returned,s=>if isW L size 5 s.i=false∧isP L size [125] s.i=false then exprM s else .go s
 | .expr,s=>exprM s
 | .assigned,s =>
  if isP L size [61] s.i then ofOpt (s.i+1) ([.m .pre,.m .between]++s.todo) (kindO kAssign s.opn)
  else if isP L size [58,61] s.i then ofOpt (s.i+1) ([.m .pre,.m .between]++s.todo) (kindO kDefine s.opn)
  else .go s
 | .otherwise,s=>if isP L size kElse s.i then pushed s [.word kElse,.m .ifOrBlock] else .go s
 | .pre,s =>
  if isP L size [38] s.i∨isP L size [42] s.i∨isP L size [45] s.i∨isP L size [33] s.i then opened L size kUnary s [.m .text,.m .pre,.m .fin]
  else pushed s [.m .operand,.m .behind]
 | .between,s=>betweenM L size s
 | .ifOrBlock,s=>if isP L size kIf s.i then ifStmt L size s else blockM L size s
 | .text,s=>if s.i<L.length then ofOpt (s.i+1) s.todo (textO (tok L size s.i).t s.opn) else .stuck
 | .behind,s =>
  if isP L size [46] s.i then ofOpt s.i ([.word [46],.m .name,.m .fin,.m .behind]++s.todo) (wrapO kField s.opn)
  else if isP L size [91] s.i then ofOpt s.i ([.word [91],.m .expr,.word [93],.m .fin,.m .behind]++s.todo) (wrapO kIndex s.opn)
  else .go s
 | .operand,s =>
  if isW L size 1 s.i then opened L size kNum s [.m .text,.m .fin]
  else if isW L size 2 s.i then opened L size kStr s [.m .text,.m .fin]
  else if isW L size 0 s.i then opened L size kId s [.m .name,.m .called,.m .fin]
  else opened L size kBr s [.word [40],.m .expr,.word [41],.m .fin]
 | .called,s =>
  if isP L size [40] s.i then
   match s.opn with
   | []=>.stuck
   | o :: r =>
    if o.t=kNew then .go ⟨s.i+1,[.m .typeOf,.word [41]]++s.todo,{ o with k:=kNew,t:=[] } :: r⟩
    else if o.t=kMake then .go ⟨s.i+1,[.m .typeOf,.word [44],.m .expr,.word [41]]++s.todo,{ o with k:=kMake,t:=[] } :: r⟩
    else .go ⟨s.i+1,[.commas .expr,.word [41]]++s.todo,{ o with k:=kCall } :: r⟩
  else .go s
def exec:Stp→St→Res
 | .m k,s=>execM L size k s
 | .word x,s=>if isP L size x s.i then .go { s with i:=s.i+1 } else .wrong
 | .lines k,s=>if isP L size [125] (s.i+semiN L s.i) then .go { s with i:=s.i+semiN L s.i } else .go ⟨s.i+semiN L s.i,[.m k,.more k]++s.todo,s.opn⟩
 | .more k,s=>if isW L size 5 s.i then pushed s [.lines k] else .go s
 | .commas k,s=>if isP L size [41] s.i then .go s else pushed s [.m k,.moreC k]
 | .moreC k,s=>if isP L size [44] s.i then pushed s [.word [44],.m k,.moreC k] else .go s
def stepS (s:St):Res:=match s.todo with
 | []=>.stuck
 | x :: r=>exec L size x { s with todo:=r }
inductive Goes:Nat→St→St→Prop
 | refl (n:Nat) (s:St):Goes n s s
 | step {n:Nat} {s s1 s2:St}:stepS L size s=.go s1→Goes n s1 s2→Goes (n+1) s s2
def Falls (n:Nat) (s:St) (j:Nat):Prop:=∃ s',Goes L size n s s'∧stepS L size s'=.wrong∧s'.i=j
end
section
variable {L:List TokP} {size:Nat}
theorem Goes.mono {n m:Nat} {s s':St} (h:Goes L size n s s') (hm:n≤m):Goes L size m s s':=by
 induction h generalizing m with
 | refl n s=>exact .refl _ _
 | step h1 _ ih=>obtain ⟨k,rfl⟩:∃ k,m=k+1:=⟨m - 1,by omega⟩;exact .step h1 (ih (by omega))
theorem Goes.trans {n m:Nat} {a b c:St} (h:Goes L size n a b) (k:Goes L size m b c):Goes L size (n+m) a c:=by
 induction h with
 | refl n s=>exact k.mono (by omega)
 | step h1 _ ih=>exact (Goes.step h1 (ih k)).mono (by omega)
theorem Goes.falls {n m j:Nat} {a b:St} (h:Goes L size n a b) (k:Falls L size m b j):Falls L size (n+m) a j:=by
 obtain ⟨s',h1,h2⟩:=k
 exact ⟨s',h.trans h1,h2⟩
theorem Falls.step {n j:Nat} {s s1:St} (h:stepS L size s=.go s1) (k:Falls L size n s1 j):Falls L size (n+1) s j:=by
 obtain ⟨s',h1,h2⟩:=k
 exact ⟨s',.step h h1,h2⟩
theorem Falls.now {s:St} (h:stepS L size s=.wrong) (n:Nat):Falls L size n s s.i:=⟨s,.refl _ _,h,rfl⟩
end
def special:List By:=[kFunc,kVar,kType,kStruct,kReturn,kIf,kElse,kFor,[42],[91],[93],[40],[41],[44],[123],[125],[61],[58,61],[46],[38],[45],[33]]
def weight:List By:=[[124,124],[38,38],[61,61],[33,61],[60],[60,61],[62],[62,61],[43],[45],[42],[47],[37]]
structure Fine (t:TokP):Prop where
 w:t.w≠-1
 sp:t.t∈special→t.w=4∨t.w=3
 wt:t.t∈weight→t.w=4
section
variable {L:List TokP} (size:Nat) (hL:∀ t∈L,Fine t)
theorem tok_in {i:Nat} (h:i<L.length):tok L size i=L[i]:=by unfold tok;rw [List.getElem?_eq_getElem h];rfl
theorem tok_out {i:Nat} (h:¬ i<L.length):tok L size i=⟨-1,[],size,size⟩:=by unfold tok;rw [List.getElem?_eq_none (by omega)];rfl
include hL
theorem isP_is {x:By} (hx:x∈special) (i:Nat):isP L size x i=isT L x i:=by
 unfold isP isT
 by_cases h:i<L.length
 ·rw [tok_in size h,List.getElem?_eq_getElem h]
  dsimp only
  cases h2:(L[i].t==x) with
  | false=>rfl
  | true =>
   have h3:L[i].t=x:=by simpa using h2
   have h4:=(hL _ (List.getElem_mem h)).sp (by rw [h3];exact hx)
   rcases h4 with h4|h4 <;> rw [h4] <;> rfl
 ·rw [tok_out size h,List.getElem?_eq_none (by omega)]
  have:x≠[]:=by rintro rfl;revert hx;decide
  simp only [beq_eq_false_iff_ne]
  exact fun e=>this e.symm
theorem isW_is {x:Int} (hx:x≠-1) (i:Nat):isW L size x i=comesT L x i:=by
 have _hL:=hL
 unfold isW comesT
 by_cases h:i<L.length
 ·rw [tok_in size h,List.getElem?_eq_getElem h]
 ·rw [tok_out size h,List.getElem?_eq_none (by omega)]
  simp only [beq_eq_false_iff_ne]
  exact fun e=>hx e.symm
theorem isW_end (i:Nat):isW L size (-1) i=decide (L.length≤i):=by
 unfold isW
 by_cases h:i<L.length
 ·rw [tok_in size h]
  have h4:=(hL _ (List.getElem_mem h)).w
  rw [decide_eq_false (by omega)]
  simpa using h4
 ·rw [tok_out size h,decide_eq_true (by omega)];rfl
theorem strP_is (i:Nat):strP (tok L size i).t=strongT L i:=by
 unfold strongT
 by_cases h:i<L.length
 ·rw [tok_in size h,List.getElem?_eq_getElem h]
  dsimp only
  unfold strong
  by_cases h4:L[i].w=4
  ·rw [if_pos h4];rfl
  ·rw [if_neg h4]
   have h5:¬ L[i].t∈weight:=fun e=>h4 ((hL _ (List.getElem_mem h)).wt e)
   unfold weight at h5
   simp only [List.mem_cons,List.not_mem_nil,or_false,not_or] at h5
   unfold strP
   simp only [h5,if_false,or_self]
 ·rw [tok_out size h,List.getElem?_eq_none (by omega)];rfl
end
end Go.Proofs.YtojoahlpgmnbnaaGreatDoor.K
namespace Go.Proofs.YtojoahlpgmnbnaaGreatDoor.S
open Go.RowKit
open Go.Lib
open U
theorem retB {a b:Bool} (h:a=b):Ending.returned (.bool a)=.returned (.bool b):=by rw [h]
theorem tk_cells {W:World} {k:Nat} {a b c d:Value} {t:TypeId} (h:W.heap[k]?=some (.cells #[a,b,c,d] t (0,0))) :
  W.cell? ⟨k,0,none⟩=some a∧W.cell? ⟨k,1,none⟩=some b∧W.cell? ⟨k,2,none⟩=some c∧W.cell? ⟨k,3,none⟩=some d:=by
 refine ⟨?_,?_,?_,?_⟩ <;> (unfold World.cell?;rw [h];rfl)
end Go.Proofs.YtojoahlpgmnbnaaGreatDoor.S
namespace Go.Proofs.YtojoahlpgmnbnaaGreatDoor.S
open Go.RowKit
open Go.Lib
open U
theorem tl_len (s:ByteArray):s.toList.length=s.size:=by rw [ByteArray.toList_eq];rfl
theorem tl_drop (s:ByteArray) {i:Nat} (h:i<s.size):s.toList.drop i=s[i] :: s.toList.drop (i+1):=by
 rw [List.drop_eq_getElem_cons (by rw [tl_len];exact h)]
 congr 1
 simp only [ByteArray.toList_eq]
 rfl
theorem tl_end (s:ByteArray) {i:Nat} (h:s.size≤i):s.toList.drop i=[]:=List.drop_of_length_le (by rw [tl_len];exact h)
def whileAt (p:UInt8→Bool) (s:ByteArray) (i:Nat):Nat:=i+((s.toList.drop i).takeWhile p).length
theorem whileAt_on {p:UInt8→Bool} {s:ByteArray} {i:Nat} (h:i<s.size) (hp:p s[i]=true):whileAt p s (i+1)=whileAt p s i:=by
 unfold whileAt
 rw [tl_drop s h,List.takeWhile_cons,hp]
 simp only [if_true,List.length_cons];omega
theorem whileAt_off {p:UInt8→Bool} {s:ByteArray} {i:Nat} (h:i<s.size) (hp:p s[i]=false):whileAt p s i=i:=by
 unfold whileAt
 rw [tl_drop s h,List.takeWhile_cons,hp];simp
theorem whileAt_end (p:UInt8→Bool) {s:ByteArray} {i:Nat} (h:s.size≤i):whileAt p s i=i:=by
 unfold whileAt
 rw [tl_end s h];rfl
theorem u8_eq (c d:UInt8):((c.toNat:Int)==(d.toNat:Int))=decide (c=d):=by
 by_cases h:c=d
 ·subst h;simp
 ·have:¬ c.toNat=d.toNat:=fun e=>h (UInt8.toNat_inj.1 e)
  simp [h];omega
theorem ext_list (s:ByteArray) (i j:Nat):(s.extract i j).toList=(s.toList.drop i).take (j - i):=by
 rw [ByteArray.toList_eq,ByteArray.toList_eq,ByteArray.data_extract,Array.toList_extract]
theorem ext_take (s:ByteArray) (n:Nat):(s.extract 0 n).toList=s.toList.take n:=by rw [ext_list];rfl
theorem ext_drop (s:ByteArray) (n:Nat):(s.extract n s.size).toList=s.toList.drop n:=by
 rw [ext_list,List.take_of_length_le]
 rw [List.length_drop,tl_len];exact Nat.le_refl _
def not10 (c:UInt8):Bool:=decide (c≠10)
end Go.Proofs.YtojoahlpgmnbnaaGreatDoor.S
namespace Go.Proofs.YtojoahlpgmnbnaaGreatDoor.L
open Go.Lib Go.Proofs.YtojoahlpgmnbnaaGreatDoor.U
structure Rise (E:List Nat) (n:Nat):Prop where
 rise:E.Pairwise (·<·)
 lt:∀ x∈E,x<n
def nx (E:List Nat) (n:Nat):Nat:=if n=0 then 0 else E.getD (n - 1) 0+1
def en (E:List Nat) (z n:Nat):Nat:=if n=E.length then z else E.getD n 0
theorem size_extract (s:ByteArray) (i j:Nat) (h:i≤j) (hj:j≤s.size):(s.extract i j).size=j - i:=by
 simp [ByteArray.size_extract];omega
def ahead (E:List Nat) (a:Int):Nat:=E.countP (fun e:Nat=>decide ((e:Int)<a))
end Go.Proofs.YtojoahlpgmnbnaaGreatDoor.L
namespace Go.Proofs.YtojoahlpgmnbnaaGreatDoor.L
open Go.Lib Go.Proofs.YtojoahlpgmnbnaaGreatDoor.U
theorem okL_app (x y:List (Nat × Nat)):okL (x++y)=true ↔ okL x=true∧okL y=true:=by rw [okL_append,Bool.and_eq_true]
theorem decodeN_fit (n k b0 b1 b2 b3 c1 c2 c3:Nat) (hn:1≤n) (h1:1<n→c1=b1) (h2:2<n→c2=b2) (h3:3<n→c3=b3)
  (hw:(decodeN (n+k) b0 c1 c2 c3).2≤n) (hok:¬ ((decodeN (n+k) b0 c1 c2 c3).1=65533∧(decodeN (n+k) b0 c1 c2 c3).2=1)):decodeN n b0 b1 b2 b3=decodeN (n+k) b0 c1 c2 c3:=by
 unfold decodeN at hw hok ⊢
 by_cases c0:b0<128
 ·simp [c0]
 ·rw [if_neg c0] at hw hok ⊢
  rw [if_neg c0]
  by_cases q1:b0 / 32=6∧(1<n+k∧c1 / 64=2)
  ·by_cases hn1:1<n
   ·have e1:=h1 hn1
    subst e1
    rw [if_pos q1,if_pos ⟨q1.1,hn1,q1.2.2⟩]
   ·rw [if_pos q1] at hw hok
    exfalso
    split at hw <;> split at hok <;> simp at hw hok <;> omega
  ·rw [if_neg q1] at hw hok ⊢
   rw [if_neg (fun q=>q1 ⟨q.1,by omega,by rw [h1 q.2.1];exact q.2.2⟩)]
   by_cases q2:b0 / 16=14∧(1<n+k∧c1 / 64=2)∧(2<n+k∧c2 / 64=2)
   ·by_cases hn2:2<n
    ·have e1:=h1 (by omega)
     have e2:=h2 hn2
     subst e1;subst e2
     rw [if_pos q2,if_pos ⟨q2.1,⟨by omega,q2.2.1.2⟩,hn2,q2.2.2.2⟩]
    ·rw [if_pos q2] at hw hok
     exfalso
     split at hw <;> split at hok <;> simp at hw hok <;> omega
   ·rw [if_neg q2] at hw hok ⊢
    rw [if_neg (fun q=>q2 ⟨q.1,⟨by omega,by rw [h1 q.2.1.1];exact q.2.1.2⟩,by omega,by rw [h2 q.2.2.1];exact q.2.2.2⟩)]
    by_cases q3:b0 / 8=30∧(1<n+k∧c1 / 64=2)∧(2<n+k∧c2 / 64=2)∧(3<n+k∧c3 / 64=2)
    ·by_cases hn3:3<n
     ·have e1:=h1 (by omega)
      have e2:=h2 (by omega)
      have e3:=h3 hn3
      subst e1;subst e2;subst e3
      rw [if_pos q3,if_pos ⟨q3.1,⟨by omega,q3.2.1.2⟩,⟨by omega,q3.2.2.1.2⟩,hn3,q3.2.2.2.2⟩]
     ·rw [if_pos q3] at hw hok
      exfalso
      split at hw <;> split at hok <;> simp at hw hok <;> omega
    ·rw [if_neg q3] at hok
     simp at hok
theorem decode_fit (a b:ByteArray) (pos:Nat) (h:pos<a.size) (hw:pos+(Utf8.decode (a++b) pos).2≤a.size) (hok:¬ ((Utf8.decode (a++b) pos).1=65533∧(Utf8.decode (a++b) pos).2=1)):Utf8.decode a pos=Utf8.decode (a++b) pos:=by
 have e:(a++b).size - pos=(a.size - pos)+b.size:=by rw [size_append];omega
 rw [decode_at,e] at hw hok
 rw [decode_at,decode_at,e]
 rw [get!_left a b pos h] at hw hok ⊢
 refine decodeN_fit _ _ _ _ _ _ _ _ _ (by omega) (fun h1=>?_) (fun h1=>?_) (fun h1=>?_) (by omega) hok
 ·rw [get!_left a b _ (by omega)]
 ·rw [get!_left a b _ (by omega)]
 ·rw [get!_left a b _ (by omega)]
def Bnd (s:ByteArray) (a:Nat):Prop:=∃ l1 l2,items s=l1++l2∧sumW l1=a
theorem bnd_size (s:ByteArray):Bnd s s.size:=⟨items s,[],by simp,sumW_items s⟩
theorem bnd_le {s:ByteArray} {a:Nat} (h:Bnd s a):a≤s.size:=by
 obtain ⟨l1,l2,h1,rfl⟩:=h
 rw [← sumW_items s,h1,sumW_append];omega
theorem itemsF_parts (p q:ByteArray):∀ (l1 l2:List (Nat × Nat)) (f pos:Nat),(p++q).size - pos≤f→okL (l1++l2)=true→itemsF (p++q) f pos=l1++l2→pos+sumW l1=p.size →
  (∀ g,p.size - pos≤g→itemsF p g pos=l1)∧l2=items q
 | [],l2,f,pos,hf,hok,h,hp=>by
  simp only [sumW,Nat.add_zero] at hp
  subst hp
  refine ⟨fun g _=>itemsF_end p g _ (by omega),?_⟩
  have hr:=itemsF_right p q f 0
  rw [Nat.add_zero] at hr
  rw [List.nil_append] at h
  rw [← h,hr]
  exact itemsF_fuel q _ _ 0 (by rw [size_append] at hf;omega) (by omega)
 | x :: t,l2,f,pos,hf,hok,h,hp=>by
  simp only [sumW] at hp
  by_cases hlt:pos<(p++q).size
  ·obtain ⟨f,rfl⟩:∃ k,f=k+1:=⟨f - 1,by omega⟩
   have hw:=width_pos (p++q) pos hlt
   rw [itemsF_step _ f pos hlt,List.cons_append,List.cons.injEq] at h
   obtain ⟨rfl,h⟩:=h
   have hpl:pos<p.size:=by omega
   simp only [List.cons_append,okL] at hok
   split at hok
   ·cases hok
   ·rename_i hne
    obtain ⟨k1,k2⟩:=itemsF_parts p q t l2 f _ (by omega) hok h (by omega)
    refine ⟨fun g hg=>?_,k2⟩
    obtain ⟨g,rfl⟩:∃ k,g=k+1:=⟨g - 1,by omega⟩
    have hd:=decode_fit p q pos hpl (by omega) hne
    rw [itemsF_step p g pos hpl,hd,k1 g (by omega)]
  ·rw [itemsF_end _ f pos hlt] at h
   simp at h
theorem items_parts (p q:ByteArray) (l1 l2:List (Nat × Nat)) (hok:okB (p++q)=true) (h:items (p++q)=l1++l2) (hp:sumW l1=p.size):items p=l1∧items q=l2∧okB p=true∧okB q=true:=by
 have hok':okL (l1++l2)=true:=by rw [← h];exact hok
 obtain ⟨k1,k2⟩:=itemsF_parts p q l1 l2 (p++q).size 0 (by omega) hok' h (by omega)
 have e1:items p=l1:=k1 _ (by omega)
 refine ⟨e1,k2.symm,?_,?_⟩
 ·unfold okB;rw [e1];exact ((okL_app l1 l2).1 hok').1
 ·unfold okB;rw [← k2];exact ((okL_app l1 l2).1 hok').2
theorem cut_app (s:ByteArray) (a:Nat) (h:a≤s.size):s.extract 0 a++s.extract a s.size=s:=by
 apply ByteArray.ext
 simp only [ByteArray.data_append,ByteArray.data_extract]
 rw [Array.extract_append_extract]
 have h2:s.data.size=s.size:=rfl
 rw [Nat.min_eq_left (Nat.zero_le _),Nat.max_eq_right h,← h2,Array.extract_size]
theorem cut_ok {s:ByteArray} {a:Nat} (hok:okB s=true) (h:Bnd s a):okB (s.extract 0 a)=true∧okB (s.extract a s.size)=true∧items s=items (s.extract 0 a)++items (s.extract a s.size):=by
 have hle:=bnd_le h
 obtain ⟨l1,l2,h1,h2⟩:=h
 have e:=cut_app s a hle
 have hz:(s.extract 0 a).size=a:=by rw [size_extract s 0 a (by omega) hle];omega
 obtain ⟨k1,k2,k3,k4⟩:=items_parts (s.extract 0 a) (s.extract a s.size) l1 l2 (by rw [e];exact hok) (by rw [e];exact h1) (by rw [hz];exact h2)
 exact ⟨k3,k4,by rw [k1,k2];exact h1⟩
theorem bnd_iff {s:ByteArray} {a:Nat} (hok:okB s=true) (ha:a≤s.size):Bnd s a ↔ okB (s.extract 0 a)=true:=by
 constructor
 ·intro h;exact (cut_ok hok h).1
 ·intro h
  have e:=items_append (s.extract 0 a) (s.extract a s.size) h
  rw [cut_app s a ha] at e
  exact ⟨_,_,e,by rw [sumW_items,size_extract s 0 a (by omega) ha];omega⟩
theorem decodeN_low (n b0 b1 b2 b3:Nat) (h:b0<128):decodeN n b0 b1 b2 b3=(b0,1):=by unfold decodeN;rw [if_pos h]
theorem decodeN_rest (n b0 b1 b2 b3:Nat) (hok:¬ ((decodeN n b0 b1 b2 b3).1=65533∧(decodeN n b0 b1 b2 b3).2=1)) :
  (1<(decodeN n b0 b1 b2 b3).2→128≤b0∧128≤b1)∧(2<(decodeN n b0 b1 b2 b3).2→128≤b2)∧(3<(decodeN n b0 b1 b2 b3).2→128≤b3):=by
 unfold decodeN at hok ⊢
 by_cases c0:b0<128
 ·rw [if_pos c0];simp
 ·rw [if_neg c0] at hok ⊢
  by_cases q1:b0 / 32=6∧(1<n∧b1 / 64=2)
  ·rw [if_pos q1] at hok ⊢
   split <;> simp <;> omega
  ·rw [if_neg q1] at hok ⊢
   by_cases q2:b0 / 16=14∧(1<n∧b1 / 64=2)∧(2<n∧b2 / 64=2)
   ·rw [if_pos q2] at hok ⊢
    split <;> simp <;> omega
   ·rw [if_neg q2] at hok ⊢
    by_cases q3:b0 / 8=30∧(1<n∧b1 / 64=2)∧(2<n∧b2 / 64=2)∧(3<n∧b3 / 64=2)
    ·rw [if_pos q3] at hok ⊢
     split <;> simp <;> omega
    ·rw [if_neg q3] at hok;simp at hok
theorem decodeN_wide (n b0 b1 b2 b3:Nat):(decodeN n b0 b1 b2 b3).2≤4:=by
 unfold decodeN
 repeat' split
 all_goals (simp only;omega)
theorem low_here (s:ByteArray):∀ (f pos i:Nat),s.size - pos≤f→okL (itemsF s f pos)=true→pos≤i→i<s.size→(s.get! i).toNat<128→∃ l1 l2,itemsF s f pos=l1++(s.get! i |>.toNat,1) :: l2∧pos+sumW l1=i
 | 0,pos,i,hf,_,hp,hi,_=>by omega
 | f+1,pos,i,hf,hok,hp,hi,hlow=>by
  have hlt:pos<s.size:=by omega
  rw [itemsF_step s f pos hlt] at hok ⊢
  simp only [okL] at hok
  split at hok
  ·cases hok
  ·rename_i hne
   rcases Nat.lt_or_ge pos i with h1|h1
   ·have hw:=width_pos s pos hlt
    by_cases h2:i<pos+(Utf8.decode s pos).2
    ·exfalso
     have hd:=decode_at s pos
     rw [hd] at hne h2
     have hr:=decodeN_rest _ _ _ _ _ hne
     have h4:=decodeN_wide (s.size - pos) (s.get! pos).toNat (s.get! (pos+1)).toNat (s.get! (pos+2)).toNat (s.get! (pos+3)).toNat
     rcases Nat.lt_or_ge (i - pos) 2 with h|h
     ·obtain rfl:i=pos+1:=by omega
      have:=(hr.1 (by omega)).2;omega
     ·rcases Nat.lt_or_ge (i - pos) 3 with h|h
      ·obtain rfl:i=pos+2:=by omega
       have:=hr.2.1 (by omega);omega
      ·obtain rfl:i=pos+3:=by omega
       have:=hr.2.2 (by omega);omega
    ·obtain ⟨l1,l2,e1,e2⟩:=low_here s f _ i (by omega) hok (by omega) hi hlow
     exact ⟨Utf8.decode s pos :: l1,l2,by rw [e1];rfl,by simp only [sumW];omega⟩
   ·obtain rfl:i=pos:=by omega
    refine ⟨[],itemsF s f (i+(Utf8.decode s i).2),?_,by simp [sumW]⟩
    rw [List.nil_append]
    congr 1
    rw [decode_at,decodeN_low _ _ _ _ _ hlow]
theorem bnd_low {s:ByteArray} {i:Nat} (hok:okB s=true) (hi:i<s.size) (hlow:(s.get! i).toNat<128):Bnd s i∧Bnd s (i+1):=by
 obtain ⟨l1,l2,h1,h2⟩:=low_here s s.size 0 i (by omega) hok (by omega) hi hlow
 refine ⟨⟨l1,_,h1,by omega⟩,⟨l1++[(_,1)],l2,by rw [List.append_assoc];exact h1,?_⟩⟩
 rw [sumW_append];simp only [sumW];omega
end Go.Proofs.YtojoahlpgmnbnaaGreatDoor.L
namespace Go.Proofs.YtojoahlpgmnbnaaGreatDoor.U
open Go.Lib
end Go.Proofs.YtojoahlpgmnbnaaGreatDoor.U
namespace Go.Proofs.YtojoahlpgmnbnaaGreatDoor.U
open Go.RowKit
open Go.Lib hiding intOf
end Go.Proofs.YtojoahlpgmnbnaaGreatDoor.U
namespace Go.Proofs.YtojoahlpgmnbnaaGreatDoor.U
open Go.RowKit
open Go.Lib hiding intOf
end Go.Proofs.YtojoahlpgmnbnaaGreatDoor.U
namespace Go.Proofs.YtojoahlpgmnbnaaGreatDoor.U
open Go.RowKit
open Go.Lib hiding intOf
end Go.Proofs.YtojoahlpgmnbnaaGreatDoor.U
namespace Go.Proofs.YtojoahlpgmnbnaaGreatDoor.U
open Go.RowKit
open Go.Lib hiding intOf
end Go.Proofs.YtojoahlpgmnbnaaGreatDoor.U
namespace Go.Proofs.YtojoahlpgmnbnaaGreatDoor.U
open Go.RowKit
open Go.Lib hiding intOf
end Go.Proofs.YtojoahlpgmnbnaaGreatDoor.U
namespace Go.Proofs.YtojoahlpgmnbnaaGreatDoor.U
open Go.Lib
def posL:List (Nat × Nat)→Nat→List Nat
 | [],p=>[p]
 | x :: t,p=>p :: posL t (p+x.2)
def unL:List (Nat × Nat)→Nat→List Nat
 | [],a=>[a]
 | x :: t,a=>a :: unL t (a+uw x.1)
theorem length_le:∀ l:List (Nat × Nat),Wide l→l.length≤sumW l
 | [],_=>Nat.le_refl _
 | x :: t,h=>by
  have h1:=h x (by simp)
  have h2:=length_le t (fun y hy=>h y (by simp [hy]))
  simp only [List.length_cons,sumW];omega
def Split (s:ByteArray) (l:List (Nat × Nat)) (f pos:Nat):Prop:=items s=l++itemsF s f pos∧sumW l=pos∧s.size - pos≤f∧pos≤s.size
theorem split_zero (s:ByteArray):Split s [] s.size 0:=⟨rfl,rfl,by omega,by omega⟩
end Go.Proofs.YtojoahlpgmnbnaaGreatDoor.U
namespace Go.Proofs.YtojoahlpgmnbnaaGreatDoor.U
open Go.RowKit
open Go.Lib hiding intOf
def I (n:Nat):Value:=.int .i64 n
def Row (w:World) (g:Nat) (l:List Nat):Prop:=∀ i,i<l.length→w.cell? ⟨g,i,none⟩=some (.int .i64 (l.getD i 0:Nat))
def Two (w0:World) (B:Nat) (s:ByteArray) (bv uv av:Value) (wr:World):Prop :=
 ∃ (l:List (Nat × Nat)) (f pos g1 c1 g2 c2:Nat),av=.int .i64 pos∧bv=.slice (some ⟨g1,0,none⟩) (l.length+1) c1∧uv=.slice (some ⟨g2,0,none⟩) (l.length+1) c2 ∧
  Split s l f pos∧okL (itemsF s f pos)=okB s ∧
  wr.ownsRow B 3 1 (.slice (some ⟨g1,0,none⟩) (l.length+1) c1) (l.length+1) ((posL l 0).map I)∧wr.ownsRow B 3 1 (.slice (some ⟨g2,0,none⟩) (l.length+1) c2) (l.length+1) ((unL l 0).map I) ∧
  g1≠g2∧Below B w0 wr
theorem start (w:World) (s:ByteArray) (e:TypeId) (he:e=3):Two w w.heap.size s (.slice (some ⟨w.heap.size,0,none⟩) 1 1) (.slice (some ⟨w.heap.size+1,0,none⟩) 1 1) (.int .i64 0)
  ((w.alloc (.cells #[.int .i64 0] e)).alloc (.cells #[.int .i64 0] e)):=by
 subst he
 have h1:=World.ownsRow_lit (base:=w.heap.size) (e:=3) (size:=1) w #[.int .i64 0] 1 (Nat.le_refl _) (by decide) rfl
 have h2:=World.ownsRow_lit (base:=w.heap.size) (e:=3) (size:=1) (w.alloc (.cells #[.int .i64 0] 3)) #[.int .i64 0] 1 (by rw [World.size_alloc];omega) (by decide) rfl
 rw [World.size_alloc] at h2
 exact ⟨[],s.size,0,w.heap.size,1,w.heap.size+1,1,rfl,rfl,rfl,split_zero s,rfl,h1.alloc _,h2,by omega,((Below.refl _ _).alloc (Nat.le_refl _) _).alloc (by rw [World.size_alloc];omega) _⟩
end Go.Proofs.YtojoahlpgmnbnaaGreatDoor.U
namespace Go.Proofs.YtojoahlpgmnbnaaGreatDoor.U
open Go.RowKit
open Go.Lib hiding intOf
end Go.Proofs.YtojoahlpgmnbnaaGreatDoor.U
namespace Go.Proofs.YtojoahlpgmnbnaaGreatDoor.S
open Go.RowKit
open Go.Lib hiding intOf
open U L
theorem tl_get (s:ByteArray) {i:Nat} (h:i<s.size):s.toList[i]?=some s[i]:=by
 have:=tl_drop s h
 rw [← List.head?_drop,this];rfl
theorem get_tl (s:ByteArray) {i:Nat} {c:UInt8} (h:s.toList[i]?=some c):i<s.size∧s.get! i=c:=by
 have hi:i<s.size:=by rw [← tl_len];exact (List.getElem?_eq_some_iff.1 h).1
 refine ⟨hi,?_⟩
 rw [tl_get s hi] at h
 rw [Utf8W.get!_of_lt s i hi]
 exact Option.some.inj h
theorem bnd_byte {s:ByteArray} {i:Nat} {c:UInt8} (hok:okB s=true) (h:s.toList[i]?=some c) (hc:c.toNat<128):Bnd s i∧Bnd s (i+1):=by
 obtain ⟨h1,h2⟩:=get_tl s h
 exact bnd_low hok h1 (by rw [h2];exact hc)
theorem tl_mk (s:ByteArray):(⟨s.toList.toArray⟩:ByteArray)=s:=by
 rw [ByteArray.toList_eq]
theorem wid_is (s:ByteArray):wid s.toList=(Utf8.decode s 0).2:=by unfold wid;rw [tl_mk]
theorem items_first (s:ByteArray) (h:0<s.size):∃ l,items s=Utf8.decode s 0 :: l:=by
 unfold items
 obtain ⟨n,hn⟩:∃ n,s.size=n+1:=⟨s.size - 1,by omega⟩
 rw [hn,itemsF_step s n 0 h]
 exact ⟨_,rfl⟩
theorem bnd_wid {s:ByteArray} (h:0<s.size):Bnd s (wid s.toList):=by
 obtain ⟨l,hl⟩:=items_first s h
 exact ⟨[Utf8.decode s 0],l,hl,by rw [wid_is];simp [sumW]⟩
theorem bnd_min {s:ByteArray} (h:0<s.size) {a:Nat} (hb:Bnd s a) (ha:0<a):wid s.toList≤a:=by
 obtain ⟨l,hl⟩:=items_first s h
 obtain ⟨l1,l2,h1,h2⟩:=hb
 rw [hl] at h1
 cases l1 with
 | nil=>simp [sumW] at h2;omega
 | cons x y =>
  simp only [List.cons_append,List.cons.injEq] at h1
  rw [← h2,wid_is,h1.1]
  simp [sumW]
theorem nmc_low {c:UInt8} (h:nmc c=true):c.toNat<128:=by
 unfold nmc lett figu at h
 simp [UInt8.le_iff_toNat_le] at h
 rcases h with ((h|h)|h)|h
 ·omega
 ·omega
 ·subst h;decide
 ·omega
theorem tw_last {p:UInt8→Bool} {r:By} {i:Nat} (h:i<(r.takeWhile p).length):∃ c,r[i]?=some c∧p c=true:=by
 obtain ⟨c,hc⟩:∃ c,(r.takeWhile p)[i]?=some c:=⟨_,List.getElem?_eq_getElem h⟩
 refine ⟨c,?_,?_⟩
 ·rw [← tw_take p r,List.getElem?_take_of_lt h] at hc
  exact hc
 ·have hm:c∈r.takeWhile p:=List.mem_of_getElem? hc
  have:=List.all_takeWhile (p:=p) (l:=r)
  exact (List.all_eq_true.1 this) c hm
theorem quoTail_last:∀ (r:By) (n:Nat),quoTail r=some n→r[n - 1]?=some 34
 | [],n,h=>by simp [quoTail] at h
 | c :: r,n,h=>by
  simp only [quoTail] at h
  split at h
  ·cases h
  ·split at h
   ·rename_i h34
    cases h;simp [h34]
   ·cases hq:quoTail r with
    | none=>rw [hq] at h;cases h
    | some m =>
     rw [hq] at h
     simp only [Option.map_some,Option.some.injEq] at h
     subst h
     have h1:=quoTail_last r m hq
     have h2:=(quoTail_le r m hq).1
     obtain ⟨k,rfl⟩:∃ k,m=k+1:=⟨m - 1,by omega⟩
     simpa using h1
theorem word_bnd {s:ByteArray} (hok:okB s=true) (h:0<s.size):Bnd s (wordL true s.toList).2:=by
 have hl:=tl_drop s h
 rw [List.drop_zero] at hl
 have key:∀ k c,1≤k→s.toList[k - 1]?=some c→c.toNat<128→Bnd s k:=fun k c hk h1 h2=>by
  have:=(bnd_byte hok h1 h2).2
  rwa [show k - 1+1=k by omega] at this
 unfold wordL
 generalize s.toList.drop (0+1)=r at hl
 generalize s[0]=z at hl
 split
 ·rename_i h1
  simp only
  rw [hl] at h1 ⊢
  simp only [nameLen] at h1 ⊢
  split at h1
  ·rename_i hz
   rw [if_pos hz]
   cases hm:(r.takeWhile nmc).length with
   | zero=>exact key 1 z (Nat.le_refl _) (by rw [hl];rfl) (nmc_low (by unfold nmc;simp [hz]))
   | succ m =>
    obtain ⟨c,h3,h4⟩:=tw_last (p:=nmc) (r:=r) (i:=m) (by omega)
    exact key (1+(m+1)) c (by omega) (by rw [hl,show 1+(m+1) - 1=m+1 by omega];simpa using h3) (nmc_low h4)
  ·omega
 ·split
  ·rename_i h1
   simp only
   obtain ⟨m,hm⟩:∃ m,numLen s.toList=m+1:=⟨numLen s.toList - 1,by omega⟩
   obtain ⟨c,h3,h4⟩:=tw_last (p:=figu) (r:=s.toList) (i:=m) (by unfold numLen at hm;omega)
   rw [hm]
   exact key (m+1) c (by omega) (by rw [show m+1 - 1=m by omega];exact h3) (nmc_low (by unfold nmc;simp [h4]))
  ·split
   ·rename_i h1
    simp only
    rw [hl] at h1 ⊢
    simp only [quoLen] at h1 ⊢
    split at h1
    ·rename_i hz
     rw [if_pos hz]
     cases hq:quoTail r with
     | none=>rw [hq] at h1;simp at h1
     | some n =>
      simp only
      have h3:=quoTail_last r n hq
      have h4:=(quoTail_le r n hq).1
      obtain ⟨k,rfl⟩:∃ k,n=k+1:=⟨n - 1,by omega⟩
      exact key (k+1+1) 34 (by omega) (by rw [hl];simpa using h3) (by decide)
    ·omega
   ·split
    ·rename_i h1
     simp only
     rw [hl] at h1
     simp at h1
     exact key 1 z (Nat.le_refl _) (by rw [hl];rfl) (by rw [h1];decide)
    ·simp only
     unfold markLen
     split
     ·rename_i h2
      rw [hl] at h2
      match r,h2,hl with
      | b :: u,h2,hl =>
       refine key 2 b (by omega) (by rw [hl];rfl) ?_
       simp [two] at h2
       rcases h2 with (((((⟨_,h⟩|⟨_,h⟩)|⟨_,h⟩)|⟨_,h⟩)|⟨_,h⟩)|⟨_,h⟩)|⟨_,h⟩ <;> (rw [h];decide)
     ·rw [if_pos rfl]
      exact bnd_wid h
theorem suf_ok {s:ByteArray} {m:Nat} (hok:okB s=true) (h:Bnd s m):okB (s.extract m s.size)=true:=(cut_ok hok h).2.1
def OtherP (s:ByteArray) (n:Nat):Prop:=(1≤n∧n≤s.size∧okB (s.extract 0 n)=true∧∀ j,1≤j→j<n→okB (s.extract 0 j)=false)∨(n=1∧∀ j,1≤j→j≤4→j≤s.size→okB (s.extract 0 j)=false)
theorem ok_low (c:UInt8) (h:c.toNat<128) (s:ByteArray) (hs:s.toList=[c]):okB s=true:=by
 have hz:s.size=1:=by rw [← tl_len,hs];rfl
 have hd:Utf8.decode s 0=(c.toNat,1):=by
  have hg:s.get! 0=c:=(get_tl s (i:=0) (c:=c) (by rw [hs];rfl)).2
  rw [decode_at,hg,decodeN_low _ _ _ _ _ h]
 unfold okB items
 rw [hz,itemsF_step s 0 0 (by omega),hd,itemsF_end s 0 _ (by simp [hz])]
 simp only [okL]
 rw [if_neg (by omega)]
theorem OtherP.low {s:ByteArray} {n:Nat} (h:OtherP s n) (h0:0<s.size) (hc:s[0].toNat<128):n=1:=by
 have h1:okB (s.extract 0 1)=true:=ok_low s[0] hc _ (by
  rw [ext_take]
  have:=tl_drop s h0
  rw [List.drop_zero] at this
  rw [this];rfl)
 rcases h with ⟨h2,_,_,h4⟩|⟨h2,_⟩
 ·by_cases hn:n=1
  ·exact hn
  ·rw [h4 1 (Nat.le_refl _) (by omega)] at h1;cases h1
 ·exact h2
theorem OtherP.right {s:ByteArray} {n:Nat} (h:OtherP s n) (h0:0<s.size) (hok:okB s=true):n=wid s.toList:=by
 have hw:=bnd_wid h0
 have hwb:=wid_bounds (l:=s.toList) (by intro e;have:=tl_len s;rw [e] at this;simp at this;omega)
 rw [tl_len] at hwb
 have hw4:wid s.toList≤4:=by rw [wid_is,decode_at];exact decodeN_wide _ _ _ _ _
 have hwo:=(bnd_iff hok hwb.2).1 hw
 rcases h with ⟨h1,h2,h3,h4⟩|⟨h1,h2⟩
 ·have hb:=(bnd_iff hok h2).2 h3
  have hle:=bnd_min h0 hb (by omega)
  by_cases e:wid s.toList<n
  ·rw [h4 _ hwb.1 e] at hwo;cases hwo
  ·omega
 ·rw [h2 _ hwb.1 hw4 hwb.2] at hwo;cases hwo
theorem two_or (s:ByteArray) (h:2≤s.size):∃ t:By,(s.extract 0 2).toList=t∧(two s.toList=((t==[58,61])||(t==[61,61])||(t==[33,61])||(t==[60,61])||(t==[62,61])||(t==[38,38])||(t==[124,124]))):=by
 refine ⟨_,rfl,?_⟩
 rw [ext_take]
 have hl:=tl_len s
 match hh:s.toList with
 | []=>rw [hh] at hl;simp at hl;omega
 | [a]=>rw [hh] at hl;simp at hl;omega
 | a :: b :: r =>
  simp only [List.take_succ_cons,List.take_zero,two]
  have e:∀ x y:UInt8,([a,b]==[x,y])=(a==x&&b==y):=fun x y=>by
   show (a==x&&(b==y&&true))=_
   rw [Bool.and_true]
  simp only [e]
theorem two_short (s:ByteArray) (h:s.size<2):two s.toList=false:=by
 have hl:=tl_len s
 match hh:s.toList with
 | []=>rfl
 | [a]=>rfl
 | a :: b :: r=>rw [hh] at hl;simp at hl;omega
end Go.Proofs.YtojoahlpgmnbnaaGreatDoor.S
namespace Go.Proofs.YtojoahlpgmnbnaaGreatDoor.S
open Go.RowKit
open Go.Lib hiding intOf
open U L
def tokC (t:TokP):List Value:=[.int .i64 t.w,.string ⟨t.t.toArray⟩,.int .i64 t.f,.int .i64 t.e]
def tokCs:List TokP→List Value
 | []=>[]
 | t :: r=>tokC t++tokCs r
theorem tokCs_length:∀ l:List TokP,(tokCs l).length=4*l.length
 | []=>rfl
 | d :: r=>by simp only [tokCs,List.length_append,tokCs_length r,List.length_cons,tokC,List.length_nil];omega
theorem tokCs_app:∀ (a b:List TokP),tokCs (a++b)=tokCs a++tokCs b
 | [],b=>rfl
 | d :: r,b=>by simp only [List.cons_append,tokCs,tokCs_app r b,List.append_assoc]
theorem tokCs_at:∀ (l:List TokP) (i j:Nat) (hi:i<l.length),j<4→(tokCs l)[i*4+j]?=(tokC l[i])[j]?
 | [],i,j,hi,_=>by simp at hi
 | d :: r,0,j,hi,hj=>by simp only [tokCs,Nat.zero_mul,Nat.zero_add,List.getElem_cons_zero];rw [List.getElem?_append_left (by simp [tokC];omega)]
 | d :: r,i+1,j,hi,hj=>by
  simp only [tokCs,List.getElem_cons_succ]
  rw [List.getElem?_append_right (by simp [tokC];omega),show (i+1)*4+j - (tokC d).length=i*4+j by simp [tokC];omega]
  exact tokCs_at r i j (by simpa using hi) hj
def ToksAt (W:World) (g off:Nat) (l:List TokP):Prop:=∀ j u,(tokCs l)[j]?=some u→W.cell? ⟨g,off+j,none⟩=some u
theorem tok_at {W:World} {l:List TokP} {g off:Nat} (i:Nat) (hc:ToksAt W g off l) (hi:i<l.length) :
  W.cell? ⟨g,off+i*4,none⟩=some (.int .i64 l[i].w)∧W.cell? ⟨g,off+i*4+1,none⟩=some (.string ⟨l[i].t.toArray⟩)∧W.cell? ⟨g,off+i*4+2,none⟩=some (.int .i64 l[i].f)∧W.cell? ⟨g,off+i*4+3,none⟩=some (.int .i64 l[i].e):=by
 refine ⟨hc (i*4) _ ?_,hc (i*4+1) _ (by rw [tokCs_at l i 1 hi (by omega)];rfl),hc (i*4+2) _ (by rw [tokCs_at l i 2 hi (by omega)];rfl),hc (i*4+3) _ (by rw [tokCs_at l i 3 hi (by omega)];rfl)⟩
 have:=tokCs_at l i 0 hi (by omega)
 rw [Nat.add_zero] at this;rw [this];rfl
def ToksIn (B:Nat) (W:World) (l:List TokP) (v:Value):Prop:=∃ a cap,v=.slice a l.length cap∧l.length≤cap∧(l=[]∨∃ g off,a=some ⟨g,off,none⟩∧B≤g∧g<W.heap.size∧ToksAt W g off l)
theorem row_some {w:World} {B n size:Nat} {e:TypeId} {v:Value} {xs:List Value} (h:w.ownsRow B e size v n xs) (hn:0<n):∃ g c,v=.slice (some ⟨g,0,none⟩) n c∧n≤c∧B≤g∧g<w.heap.size:=by
 rcases h.2 with ⟨_,h0⟩|⟨g,cap,cur,rfl,_,_,hc,_⟩
 ·have:=h.1;omega
 ·have:=h.lt g rfl
  exact ⟨g,cap,rfl,hc,this.1,this.2⟩
theorem toks_at {w:World} {B n c g:Nat} {l:List TokP} (h:w.ownsRow B 86 4 (.slice (some ⟨g,0,none⟩) n c) n (tokCs l)) (hn:l.length=n):ToksAt w g 0 l:=fun j u hj=>by
 have hj2:=(List.getElem?_eq_some_iff.1 hj).1
 rw [tokCs_length] at hj2
 rw [Nat.zero_add,h.cellAt j (by omega)]
 exact hj
theorem toks_row {w:World} {B B' n:Nat} {l:List TokP} {v:Value} (h:w.ownsRow B' 86 4 v n (tokCs l)) (hn:l.length=n) (hB:B≤B'):ToksIn B w l v:=by
 rcases Nat.eq_zero_or_pos n with h0|h0
 ·have hl:l=[]:=List.length_eq_zero_iff.1 (hn.trans h0)
  rcases h.2 with ⟨rfl,_⟩|⟨g,cap,cur,rfl,_⟩
  ·exact ⟨none,0,by rw [hl];rfl,by rw [hl];simp,.inl hl⟩
  ·exact ⟨_,cap,by rw [hn],by rw [hl];simp,.inl hl⟩
 ·obtain ⟨g,c,rfl,hc,hg,_⟩:=row_some h h0
  exact ⟨_,c,by rw [hn],by omega,.inr ⟨g,0,rfl,by omega,(h.lt g rfl).2,toks_at h hn⟩⟩
theorem plain_toks:∀ (l:List TokP),∀ u∈tokCs l,u.oneCell'=true
 | [],u,h=>by simp [tokCs] at h
 | d :: r,u,h=>by
  simp only [tokCs,List.mem_append] at h
  rcases h with h|h
  ·simp only [tokC,List.mem_cons,List.not_mem_nil,or_false] at h
   rcases h with rfl|rfl|rfl|rfl <;> rfl
  ·exact plain_toks r u h
theorem owns_len {w:World} {B n size:Nat} {e:TypeId} {v:Value} {xs:List Value} (h:w.ownsRow B e size v n xs):∃ a c,v=.slice a n c:=by
 rcases h.2 with ⟨rfl,h0⟩|⟨g,cap,cur,rfl,_⟩
 ·exact ⟨none,0,by subst h0;rfl⟩
 ·exact ⟨_,cap,rfl⟩
theorem below_grown {Z n size:Nat} {w2 W w':World} {e:TypeId} {v:Value} {xs:List Value} {o:Obj} (hL:Below Z w2 W) (hR:W.ownsRow Z e size v n xs) (hg:(W.alloc o).grownBy w' v.ownBlock) (hz:Z≤W.heap.size):Below Z w2 w':=by
 refine ⟨hg.os.trans hL.os,hg.tape.trans hL.tape,hg.output.trans hL.output,?_,fun k hk=>?_⟩
 ·have h1:=hg.size
  have h2:=hL.size
  rw [World.size_alloc] at h1;omega
 ·exact ((hg.block k (by rw [World.size_alloc];omega) (fun e=>by have:=(hR.lt k e.symm).1;omega)).trans (Below.heap_alloc _ _ _ (by omega))).trans (hL.block k hk)
theorem owns_later {B n size:Nat} {e:TypeId} {v:Value} {xs:List Value} {W W':World} (h:W.ownsRow B e size v n xs) (hb:Below W.heap.size W W'):W'.ownsRow B e size v n xs:=by
 have hg:W.grownBy W' none:=⟨hb.os,hb.tape,hb.output,hb.size,fun j hj _=>hb.block j hj⟩
 exact h.kept hg (by cases v.ownBlock <;> simp)
theorem infoTok:(Tryz.prog.info? 86).map (fun i=>(i.zero,i.size,i.bytes))=some (some (.agg #[.int .i64 0,.string ⟨#[]⟩,.int .i64 0,.int .i64 0]),4,40):=by kernel_rfl
theorem one_tok {w:World} {q:Nat} {d:TokP} {t:TypeId} (h:w.heap[q]?=some (.cells #[.int .i64 d.w,.string ⟨d.t.toArray⟩,.int .i64 d.f,.int .i64 d.e] t (0,0))) :
  ∀ k u,(tokCs [d])[k]?=some u→w.cell? ((⟨q,0,none⟩:Addr).add k)=some u:=fun k u hk=>by
 obtain ⟨c0,c1,c2,c3⟩:=tk_cells h
 rw [Addr.add_lit,Nat.zero_add]
 have hk2:=(List.getElem?_eq_some_iff.1 hk).1
 rw [tokCs_length] at hk2
 simp only [tokCs,tokC,List.append_nil] at hk
 match k,hk2 with
 | 0,_=>simp at hk;subst hk;exact c0
 | 1,_=>simp at hk;subst hk;exact c1
 | 2,_=>simp at hk;subst hk;exact c2
 | 3,_=>simp at hk;subst hk;exact c3
theorem new_tok (W:World) (d:TokP):∀ k u,(tokCs [d])[k]?=some u→(W.alloc (.cells #[.int .i64 d.w,.string ⟨d.t.toArray⟩,.int .i64 d.f,.int .i64 d.e] 86)).cell? ((⟨W.heap.size,0,none⟩:Addr).add k)=some u:=one_tok (heap_alloc_new W _)
theorem new_tokS (W:World) (a f e:Int) (x:ByteArray):∀ k u,(tokCs [⟨a,x.toList,f,e⟩])[k]?=some u→(W.alloc (.cells #[.int .i64 a,.string x,.int .i64 f,.int .i64 e] 86)).cell? ((⟨W.heap.size,0,none⟩:Addr).add k)=some u:=by
 have h:=new_tok W ⟨a,x.toList,f,e⟩
 rwa [tl_mk] at h
def endL (l:List TokP):Bool:=match l.getLast? with|none=>false|some t=>endsP t.w t.t
theorem endL_snoc (l:List TokP) (t:TokP):endL (l++[t])=endsP t.w t.t:=by unfold endL;simp
def scanAt (right:Bool) (s:ByteArray) (i:Nat) (b:Bool):List TokP:=scanF right (s.size+1) (s.toList.drop i) i b
structure ScSt (right:Bool) (s:ByteArray) (i:Nat) (O:List TokP):Prop where
 all:scanB right s.toList=O++scanAt right s i (endL O)
 ok:right=true→okB (s.extract i s.size)=true
 few:O.length≤i
theorem scSt_start (right:Bool) (s:ByteArray) (h:right=true→okB s=true):ScSt right s 0 [] :=
 ⟨by unfold scanB scanAt;rw [tl_len];rfl,fun h1=>by rw [ByteArray.extract_zero_size];exact h h1,Nat.le_refl _⟩
theorem scanAt_end (right:Bool) (s:ByteArray) (b:Bool):scanAt right s s.size b=if b then [⟨5,[],s.size,s.size⟩] else []:=by
 unfold scanAt
 rw [tl_end s (Nat.le_refl _)]
 rfl
theorem scanAt_step (right:Bool) (s:ByteArray) {i:Nat} (h:i<s.size) (b:Bool) :
  scanAt right s i b=if s[i]=10∧b=true then ⟨5,[],i,((i+1:Nat):Int)⟩ :: scanAt right s (i+1) false
   else if blank s[i]=true then scanAt right s (i+1) b
   else if 0<cmtLen (s.toList.drop i) then scanAt right s (i+cmtLen (s.toList.drop i)) b
   else ⟨(wordL right (s.toList.drop i)).1,(s.toList.drop i).take (wordL right (s.toList.drop i)).2,i,((i+(wordL right (s.toList.drop i)).2:Nat):Int)⟩ ::
    scanAt right s (i+(wordL right (s.toList.drop i)).2) (endsP (wordL right (s.toList.drop i)).1 ((s.toList.drop i).take (wordL right (s.toList.drop i)).2)):=by
 have hl:=tl_drop s h
 have hn:∀ (m:Nat) (x:Bool),i<m→scanF right s.size (s.toList.drop m) m x=scanAt right s m x:=fun m x hm=>by
  unfold scanAt
  have:(s.toList.drop m).length<s.size:=by rw [List.length_drop,tl_len];omega
  exact scanF_fuel right _ _ _ _ _ this (by omega)
 have hw:=(word_bounds right (l:=s.toList.drop i) (by rw [hl];simp)).1
 rw [← hn (i+1) _ (by omega),← hn (i+1) _ (by omega),← hn (i+(wordL right (s.toList.drop i)).2) _ (by omega)]
 have hd:∀ k,s.toList.drop (i+k)=(s.toList.drop i).drop k:=fun k=>by rw [List.drop_drop]
 by_cases hc:0<cmtLen (s.toList.drop i)
 ·rw [← hn (i+cmtLen (s.toList.drop i)) _ (by omega)]
  simp only [hd (cmtLen _),hd (wordL _ _).2]
  unfold scanAt
  rw [hl]
  rfl
 ·rw [if_neg hc,hd (wordL _ _).2]
  unfold scanAt
  rw [hl] at hc ⊢
  simp only [scanF]
  rw [if_neg hc]
theorem ext_ext (s:ByteArray) {i k:Nat} (_h:i+k≤s.size):(s.extract i s.size).extract k (s.extract i s.size).size=s.extract (i+k) s.size:=by
 apply ByteArray.ext
 apply Array.toList_inj.1
 rw [← ByteArray.toList_eq,← ByteArray.toList_eq,ext_drop,ext_drop,ext_drop,List.drop_drop]
theorem ok_on {right:Bool} {s:ByteArray} {i k:Nat} (hok:right=true→okB (s.extract i s.size)=true) (h:i+k≤s.size) (hb:right=true→Bnd (s.extract i s.size) k):right=true→okB (s.extract (i+k) s.size)=true:=fun hr=>by
 rw [← ext_ext s h]
 exact suf_ok (hok hr) (hb hr)
theorem bnd_size {s:ByteArray} (hok:okB s=true):Bnd s s.size:=(bnd_iff hok (Nat.le_refl _)).2 (by rw [ByteArray.extract_zero_size];exact hok)
theorem cmt_bnd {s:ByteArray} (hok:okB s=true) (h:0<cmtLen s.toList):Bnd s (cmtLen s.toList):=by
 have hle:=cmt_le s.toList
 rw [tl_len] at hle
 have key:cmtLen s.toList<s.size→s.toList[cmtLen s.toList]?=some 10:=fun hlt=>by
  match hs:s.toList,h with
  | a :: b :: r,h =>
   rw [hs] at hlt
   simp only [cmtLen] at h hlt ⊢
   split at h
   ·rename_i hab
    rw [if_pos hab] at hlt ⊢
    have hz:s.size=r.length+2:=by rw [← tl_len,hs];rfl
    have hr:(r.takeWhile (fun c=>decide (c≠10))).length<r.length:=by omega
    rw [show 2+(r.takeWhile (fun c=>decide (c≠10))).length=(r.takeWhile (fun c=>decide (c≠10))).length+2 by omega]
    simp only [List.getElem?_cons_succ]
    clear h hlt hab hs hle hz hok
    induction r with
    | nil=>simp at hr
    | cons c u ih =>
     by_cases hc:c=10
     ·subst hc;simp
     ·rw [List.takeWhile_cons,if_pos (by simpa using hc)] at hr ⊢
      simp only [List.length_cons,List.getElem?_cons_succ] at hr ⊢
      exact ih (by omega)
   ·omega
 by_cases hlt:cmtLen s.toList<s.size
 ·exact (bnd_byte hok (key hlt) (by decide)).1
 ·rw [show cmtLen s.toList=s.size by omega]
  exact bnd_size hok
theorem first_ext (s:ByteArray) {i:Nat} (h:i<s.size):(s.extract i s.size).toList[0]?=some s[i]:=by
 rw [ext_drop,tl_drop s h];rfl
theorem scSt_10 {right:Bool} {s:ByteArray} {i:Nat} {O:List TokP} (h:ScSt right s i O) (hi:i<s.size) (hc:s[i]=10) (hb:endL O=true):ScSt right s (i+1) (O++[⟨5,[],i,((i+1:Nat):Int)⟩]):=by
 refine ⟨?_,ok_on h.ok (by omega) (fun hr=>(bnd_byte (h.ok hr) (first_ext s hi) (by rw [hc];decide)).2),by have:=h.few;simp;omega⟩
 rw [h.all,hb,scanAt_step right s hi,if_pos ⟨hc,rfl⟩,endL_snoc]
 simp [endsP]
theorem scSt_blank {right:Bool} {s:ByteArray} {i:Nat} {O:List TokP} (h:ScSt right s i O) (hi:i<s.size) (hc:¬ (s[i]=10∧endL O=true)) (hb:blank s[i]=true):ScSt right s (i+1) O:=by
 refine ⟨?_,ok_on h.ok (by omega) (fun hr=>(bnd_byte (h.ok hr) (first_ext s hi) ?_).2),by have:=h.few;omega⟩
 ·rw [h.all,scanAt_step right s hi,if_neg hc,if_pos hb]
 ·unfold blank at hb
  simp at hb
  rcases hb with ((hb|hb)|hb)|hb <;> (rw [hb];decide)
theorem scSt_cmt {right:Bool} {s:ByteArray} {i:Nat} {O:List TokP} (h:ScSt right s i O) (hi:i<s.size) (hb:blank s[i]=false) (hk:0<cmtLen (s.extract i s.size).toList):ScSt right s (i+cmtLen (s.extract i s.size).toList) O:=by
 have hle:=cmt_le (s.extract i s.size).toList
 rw [ext_drop,List.length_drop,tl_len] at hle
 refine ⟨?_,ok_on h.ok (by rw [ext_drop];omega) (fun hr=>cmt_bnd (h.ok hr) hk),by have:=h.few;omega⟩
 rw [ext_drop] at hk ⊢
 rw [h.all,scanAt_step right s hi,if_neg (fun e=>by rw [e.1] at hb;cases hb),if_neg (by rw [hb];simp),if_pos hk]
theorem scSt_word {right:Bool} {s:ByteArray} {i:Nat} {O:List TokP} (h:ScSt right s i O) (hi:i<s.size) (hb:blank s[i]=false) (hk:cmtLen (s.extract i s.size).toList=0) {w:Int} {k:Nat} (hw:wordL right (s.extract i s.size).toList=(w,k)) :
  i+k≤s.size∧1≤k∧ScSt right s (i+k) (O++[⟨w,(s.extract i (i+k)).toList,i,((i+k:Nat):Int)⟩]):=by
 have hbd:=word_bounds right (l:=(s.extract i s.size).toList) (by rw [ext_drop,tl_drop s hi];simp)
 rw [hw,ext_drop,List.length_drop,tl_len] at hbd
 have he:(s.extract i (i+k)).toList=(s.toList.drop i).take k:=by rw [ext_list,show i+k - i=k by omega]
 refine ⟨by omega,hbd.1,?_,ok_on h.ok (by omega) (fun hr=>?_),by have:=h.few;simp;omega⟩
 ·rw [ext_drop] at hk hw
  rw [h.all,scanAt_step right s hi,if_neg (fun e=>by rw [e.1] at hb;cases hb),if_neg (by rw [hb];simp),if_neg (by omega),hw,endL_snoc,he]
  simp
 ·subst hr
  have hz:0<(s.extract i s.size).size:=by rw [size_extract s i s.size (by omega) (Nat.le_refl _)];omega
  have:=word_bnd (h.ok rfl) hz
  rwa [hw] at this
end Go.Proofs.YtojoahlpgmnbnaaGreatDoor.S
namespace Go.Proofs.YtojoahlpgmnbnaaGreatDoor.S
open Go.RowKit
open Go.Lib hiding intOf
open U L
theorem drewB {B:Nat} {a w:World} (h:Below B a w) (n:Nat):Below B a (w.drewN n):=⟨h.os,h.tape,h.output,h.size,h.block⟩
theorem scanF_len (right:Bool):∀ (n:Nat) (l:By) (pos:Nat) (e:Bool),(scanF right n l pos e).length≤l.length+1
 | 0,_,_,_=>by simp [scanF]
 | n+1,[],pos,e=>by simp only [scanF];split <;> simp
 | n+1,c :: r,pos,e=>by
  have hc:=cmt_le (c :: r)
  have hw:=word_bounds right (l:=c :: r) (by simp)
  simp only [scanF]
  split
  ·have:=scanF_len right n r (pos+1) false
   simp only [List.length_cons];omega
  ·split
   ·have:=scanF_len right n r (pos+1) e
    simp only [List.length_cons];omega
   ·split
    ·have:=scanF_len right n ((c :: r).drop (cmtLen (c :: r))) (pos+cmtLen (c :: r)) e
     rw [List.length_drop] at this;omega
    ·have:=scanF_len right n ((c :: r).drop (wordL right (c :: r)).2) (pos+(wordL right (c :: r)).2) (endsP (wordL right (c :: r)).1 ((c :: r).take (wordL right (c :: r)).2))
     rw [List.length_drop] at this
     rw [List.length_cons];omega
end Go.Proofs.YtojoahlpgmnbnaaGreatDoor.S
namespace Go.Proofs.YtojoahlpgmnbnaaGreatDoor.T
open Go.RowKit
open Go.Lib hiding intOf
open U S L
def bstr (x:By):ByteArray:=⟨x.toArray⟩
def five:Pt→Value→List Value
 | .mk k t f e _,lv=>[.string (bstr k),.string (bstr t),.int .i64 f,.int .i64 e,lv]
def CellsAt (W:World) (g off:Nat) (xs:List Value):Prop:=∀ j u,xs[j]?=some u→W.cell? ⟨g,off+j,none⟩=some u
mutual
def KidsIn (W:World) (R:Nat→Prop):Pt→Value→Prop
 | .mk _ _ _ _ ks,lv=>∃ a cap,lv=.slice a ks.length cap∧ks.length≤cap∧(ks=[]∨∃ g off xs,a=some ⟨g,off,none⟩∧R g∧CellsAt W g off xs∧PartsIn W R ks xs)
def PartsIn (W:World) (R:Nat→Prop):List Pt→List Value→Prop
 | [],xs=>xs=[]
 | p :: r,xs=>∃ lv rest,xs=five p lv++rest∧KidsIn W R p lv∧PartsIn W R r rest
end
def Still (R:Nat→Prop) (W W':World):Prop:=∀ g,R g→g<W.heap.size→W'.heap[g]?=W.heap[g]?
theorem CellsAt.later {W W':World} {R:Nat→Prop} {g off:Nat} {xs:List Value} (h:CellsAt W g off xs) (hR:R g) (hs:Still R W W'):CellsAt W' g off xs:=by
 intro j u hj
 have h1:=h j u hj
 have hlt:g<W.heap.size:=World.block_lt_of_cell? W _ h1
 have h2:=hs g hR hlt
 unfold World.cell? at h1 ⊢
 rw [h2];exact h1
mutual
theorem KidsIn.later {W W':World} {R R':Nat→Prop} (hs:Still R W W') (hR:∀ g,R g→R' g):∀ (p:Pt) (lv:Value),KidsIn W R p lv→KidsIn W' R' p lv
 | .mk k t f e ks,lv,h=>by
  obtain ⟨a,cap,h1,h0,h2⟩:=h
  refine ⟨a,cap,h1,h0,?_⟩
  rcases h2 with h2|⟨g,off,xs,h3,h4,h5,h6⟩
  ·exact .inl h2
  ·exact .inr ⟨g,off,xs,h3,hR g h4,h5.later h4 hs,PartsIn.later hs hR ks xs h6⟩
theorem PartsIn.later {W W':World} {R R':Nat→Prop} (hs:Still R W W') (hR:∀ g,R g→R' g):∀ (l:List Pt) (xs:List Value),PartsIn W R l xs→PartsIn W' R' l xs
 | [],_,h=>h
 | p :: r,xs,h=>by
  obtain ⟨lv,rest,h1,h2,h3⟩:=h
  exact ⟨lv,rest,h1,KidsIn.later hs hR p lv h2,PartsIn.later hs hR r rest h3⟩
end
theorem five_length (p:Pt) (lv:Value):(five p lv).length=5:=by cases p;rfl
theorem PartsIn.length {W:World} {R:Nat→Prop}:∀ {l:List Pt} {xs:List Value},PartsIn W R l xs→xs.length=5*l.length
 | [],xs,h=>by have h:xs=[]:=h;subst h;rfl
 | p :: r,xs,h=>by
  obtain ⟨lv,rest,rfl,_,h3⟩:=h
  have:=PartsIn.length h3
  rw [List.length_append,five_length,this];simp;omega
theorem PartsIn.snoc {W:World} {R:Nat→Prop}:∀ {l:List Pt} {xs:List Value} {p:Pt} {lv:Value},PartsIn W R l xs→KidsIn W R p lv→PartsIn W R (l++[p]) (xs++five p lv)
 | [],xs,p,lv,h,hv=>by
  have h:xs=[]:=h
  subst h
  exact ⟨lv,[],by simp,hv,rfl⟩
 | u :: r,xs,p,lv,h,hv=>by
  obtain ⟨lv',rest,rfl,h2,h3⟩:=h
  exact ⟨lv',rest++five p lv,by simp,h2,PartsIn.snoc h3 hv⟩
end Go.Proofs.YtojoahlpgmnbnaaGreatDoor.T
namespace Go.Proofs.YtojoahlpgmnbnaaGreatDoor.K
open Go.RowKit
open Go.Lib hiding intOf
open U S T
abbrev ptr (b:Nat):Value:=.pointer (some ⟨b,0,none⟩)
def fnOf:Mth→Nat
 | .decl=>101
 | .semis=>102
 | .noMore=>103
 | .name=>119
 | .params=>120
 | .result=>121
 | .block=>122
 | .fin=>123
 | .field=>126
 | .param=>135
 | .typeOf=>136
 | .stmt=>137
 | .returned=>144
 | .expr=>146
 | .assigned=>147
 | .otherwise=>150
 | .pre=>151
 | .between=>152
 | .ifOrBlock=>153
 | .text=>154
 | .behind=>156
 | .operand=>155
 | .called=>159
def mval (d:Nat) (k:Mth):Value:=.func (.func (fnOf k)) #[ptr d] #[]
def clos (f b1 b2:Nat):Value:=.func (.func f) #[] #[ptr b1,ptr b2]
def Fr (O:Nat→Prop) (W:World) (k:Nat):Prop:=k<W.heap.size∧¬ O k∧∃ o:Obj,W.heap[k]?=some o∧o.isCells=true
def BoxAt (O:Nat→Prop) (W:World) (b:Nat) (v:Value) (t:TypeId):Prop:=Fr O W b∧W.heap[b]?=some (.cells #[v] t (0,0))
def Clos (O:Nat→Prop) (W:World) (d f:Nat) (u:Value) (t:TypeId) (v:Value):Prop:=∃ b1 b2,v=clos f b1 b2∧BoxAt O W b1 (ptr d) 110∧BoxAt O W b2 u t
def StpIn (O:Nat→Prop) (W:World) (d:Nat):Stp→Value→Prop
 | .m k,v=>v=mval d k
 | .word x,v=>Clos O W d 131 (.string (bstr x)) 9 v
 | .lines k,v=>Clos O W d 139 (mval d k) 1 v
 | .more k,v=>Clos O W d 148 (mval d k) 1 v
 | .commas k,v=>Clos O W d 142 (mval d k) 1 v
 | .moreC k,v=>Clos O W d 149 (mval d k) 1 v
def StpsIn (O:Nat→Prop) (W:World) (d:Nat):List Stp→List Value→Prop
 | [],vs=>vs=[]
 | s :: r,vs=>∃ v us,vs=us++[v]∧StpIn O W d s v∧StpsIn O W d r us
def six (o:Open) (kv:Value):List Value:=[.string (bstr o.k),.string (bstr o.t),.int .i64 o.f,.int .i64 0,kv,.int .i64 o.kf]
def OpensIn (O:Nat→Prop) (W:World):List Open→List Value→List (Option Nat)→Prop
 | [],xs,bs=>xs=[]∧bs=[]
 | o :: r,xs,bs=>∃ kv ks us bs',xs=us++six o kv∧bs=kv.ownBlock :: bs'∧W.ownsRow 0 49 5 kv o.kids.length ks∧PartsIn W (Fr O W) o.kids ks∧OpensIn O W r us bs'
def Apart:List (Option Nat)→Prop
 | []=>True
 | b :: r=>(∀ g,b=some g→some g ∉ r)∧Apart r
def endT (size:Nat):TokP:=⟨-1,[],size,size⟩
def WordsIn (O:Nat→Prop) (W:World) (L:List TokP) (size:Nat) (lv:Value):Prop:=∃ g off cap,lv=.slice (some ⟨g,off,none⟩) (L.length+1) cap∧Fr O W g∧ToksAt W g off (L++[endT size])
structure MemX (d:Nat) (L:List TokP) (size:Nat) (lv:Value) (s:St) (O:Nat→Prop) (tv ov:Value) (bs:List (Option Nat)) (vs xs:List Value) (W:World):Prop where
 blk:W.heap[d]?=some (.cells #[lv,.int .i64 s.i,tv,ov] 123 (0,0))
 words:WordsIn O W L size lv
 todoR:W.ownsRow 0 1 1 tv s.todo.length vs
 todo:StpsIn O W d s.todo vs
 opnR:W.ownsRow 0 128 6 ov s.opn.length xs
 opn:OpensIn O W s.opn xs bs
 apart:Apart bs
 own:∀ k,O k ↔ k=d∨tv.ownBlock=some k∨ov.ownBlock=some k∨some k∈bs
def Mem (d:Nat) (L:List TokP) (size:Nat) (lv:Value) (s:St) (O:Nat→Prop) (W:World):Prop:=∃ tv ov bs vs xs,MemX d L size lv s O tv ov bs vs xs W
structure Stay (O O':Nat→Prop) (W W':World):Prop where
 os:W'.os=W.os
 tape:W'.tape=W.tape
 output:W'.output=W.output
 size:W.heap.size≤W'.heap.size
 own:∀ k,O' k→O k∨W.heap.size≤k
 block:∀ k,k<W.heap.size→¬ O k→W'.heap[k]?=W.heap[k]?
section
variable {O O' O'':Nat→Prop} {W W' W'':World} {d:Nat}
theorem Stay.refl (O:Nat→Prop) (W:World):Stay O O W W:=⟨rfl,rfl,rfl,Nat.le_refl _,fun _ h=>.inl h,fun _ _ _=>rfl⟩
theorem Stay.trans (h:Stay O O' W W') (k:Stay O' O'' W' W''):Stay O O'' W W'' where
 os:=k.os.trans h.os
 tape:=k.tape.trans h.tape
 output:=k.output.trans h.output
 size:=Nat.le_trans h.size k.size
 own:=fun x hx=>(k.own x hx).elim (fun h1=>h.own x h1) (fun h1=>.inr (Nat.le_trans h.size h1))
 block:=fun x hx hO=>(k.block x (Nat.lt_of_lt_of_le hx h.size) (fun h1=>(h.own x h1).elim hO (fun h2=>absurd h2 (by omega)))).trans (h.block x hx hO)
theorem Stay.of_below (h:Below W.heap.size W W'):Stay O O W W':=⟨h.os,h.tape,h.output,h.size,fun _ h=>.inl h,fun k hk _=>h.block k hk⟩
theorem Stay.at (h:Stay O O' W W') {k:Nat} (hk:Fr O W k):W'.heap[k]?=W.heap[k]?:=h.block k hk.1 hk.2.1
theorem Stay.fr (h:Stay O O' W W') {k:Nat} (hk:Fr O W k):Fr O' W' k:=⟨Nat.lt_of_lt_of_le hk.1 h.size,fun h1=>(h.own k h1).elim hk.2.1 (fun h2=>absurd h2 (by have:=hk.1;omega)),by rw [h.at hk];exact hk.2.2⟩
theorem BoxAt.stay {b:Nat} {v:Value} {t:TypeId} (hb:BoxAt O W b v t) (h:Stay O O' W W'):BoxAt O' W' b v t:=⟨h.fr hb.1,(h.at hb.1).trans hb.2⟩
theorem Clos.stay {f:Nat} {u v:Value} {t:TypeId} (hc:Clos O W d f u t v) (h:Stay O O' W W'):Clos O' W' d f u t v:=by
 obtain ⟨b1,b2,h1,h2,h3⟩:=hc
 exact ⟨b1,b2,h1,h2.stay h,h3.stay h⟩
theorem StpIn.stay {s:Stp} {v:Value} (hs:StpIn O W d s v) (h:Stay O O' W W'):StpIn O' W' d s v:=by
 cases s with
 | m k=>exact hs
 | word x=>exact Clos.stay hs h
 | lines k=>exact Clos.stay hs h
 | more k=>exact Clos.stay hs h
 | commas k=>exact Clos.stay hs h
 | moreC k=>exact Clos.stay hs h
theorem StpsIn.stay (h:Stay O O' W W'):∀ {l:List Stp} {vs:List Value},StpsIn O W d l vs→StpsIn O' W' d l vs
 | [],_,hs=>hs
 | _ :: _,_,⟨v,us,h1,h2,h3⟩=>⟨v,us,h1,h2.stay h,StpsIn.stay h h3⟩
theorem StpsIn.length:∀ {l:List Stp} {vs:List Value},StpsIn O W d l vs→vs.length=l.length
 | [],_,hs=>by rw [show _=[] from hs];rfl
 | _ :: _,_,⟨v,us,h1,h2,h3⟩=>by rw [h1,List.length_append,StpsIn.length h3];rfl
theorem WordsIn.stay {L:List TokP} {size:Nat} {lv:Value} (hw:WordsIn O W L size lv) (h:Stay O O' W W'):WordsIn O' W' L size lv:=by
 obtain ⟨g,off,cap,h1,h2,h3⟩:=hw
 refine ⟨g,off,cap,h1,h.fr h2,fun j u hj=>?_⟩
 have h4:=h3 j u hj
 unfold World.cell? at h4 ⊢
 rw [h.at h2];exact h4
theorem parts_stay (h:Stay O O' W W') {l:List Pt} {ks:List Value} (hp:PartsIn W (Fr O W) l ks):PartsIn W' (Fr O' W') l ks :=
 PartsIn.later (R:=Fr O W) (R':=Fr O' W') (fun _ hg _=>h.at hg) (fun _ hg=>h.fr hg) l ks hp
theorem OpensIn.stay (h:Stay O O' W W'):∀ {l:List Open} {xs:List Value} {bs:List (Option Nat)},OpensIn O W l xs bs→(∀ g,some g∈bs→W'.heap[g]?=W.heap[g]?)→OpensIn O' W' l xs bs
 | [],_,_,hs,_=>hs
 | o :: r,_,_,⟨kv,ks,us,bs',h1,h2,h3,h4,h5⟩,hb=>by
  subst h2
  exact ⟨kv,ks,us,bs',h1,rfl,owns_same' h3 (fun k hk=>hb k (by rw [hk];exact List.mem_cons_self)),parts_stay h h4,OpensIn.stay h h5 (fun g hg=>hb g (List.mem_cons_of_mem _ hg))⟩
where
 owns_same' {w w':World} {B n size:Nat} {e:TypeId} {v:Value} {xs:List Value} (h:w.ownsRow B e size v n xs) (hs:∀ k,v.ownBlock=some k→w'.heap[k]?=w.heap[k]?):w'.ownsRow B e size v n xs:=by
  refine ⟨h.1,?_⟩
  rcases h.2 with h|⟨g,cap,cur,rfl,h2,h3,h4⟩
  ·exact .inl h
  ·exact .inr ⟨g,cap,cur,rfl,h2,(hs g rfl).trans h3,h4⟩
end
section
variable {O:Nat→Prop} {W W':World} {d:Nat} {L:List TokP} {size:Nat} {lv:Value} {s:St}
theorem MemX.lt {tv ov:Value} {bs:List (Option Nat)} {vs xs:List Value} (h:MemX d L size lv s O tv ov bs vs xs W):∀ k,O k→k<W.heap.size:=by
 intro k hk
 rcases (h.own k).1 hk with rfl|h1|h1|h1
 ·exact (Array.getElem?_eq_some_iff.1 h.blk).1
 ·exact (h.todoR.lt k h1).2
 ·exact (h.opnR.lt k h1).2
 ·have go:∀ {l:List Open} {xs:List Value} {bs:List (Option Nat)},OpensIn O W l xs bs→some k∈bs→k<W.heap.size:=by
   intro l
   induction l with
   | nil=>rintro xs bs ⟨_,rfl⟩ h;cases h
   | cons o r ih =>
    rintro xs bs ⟨kv,ks,us,bs',_,rfl,h3,_,h5⟩ h
    rcases List.mem_cons.1 h with h|h
    ·exact (h3.lt k h.symm).2
    ·exact ih h5 h
  exact go h.opn h1
structure Calm (O:Nat→Prop) (W W':World):Prop where
 size:W.heap.size≤W'.heap.size
 own:∀ k,O k→W'.heap[k]?=W.heap[k]?
 fr:∀ k,Fr O W k→W'.heap[k]?=W.heap[k]?
theorem Calm.up (h:Calm O W W') {k:Nat} (hk:Fr O W k):Fr O W' k:=⟨Nat.lt_of_lt_of_le hk.1 h.size,hk.2.1,by rw [h.fr k hk];exact hk.2.2⟩
theorem Clos.calm {f:Nat} {u v:Value} {t:TypeId} (hc:Clos O W d f u t v) (h:Calm O W W'):Clos O W' d f u t v:=by
 obtain ⟨b1,b2,h1,h2,h3⟩:=hc
 exact ⟨b1,b2,h1,⟨h.up h2.1,(h.fr _ h2.1).trans h2.2⟩,⟨h.up h3.1,(h.fr _ h3.1).trans h3.2⟩⟩
theorem StpIn.calm {s:Stp} {v:Value} (hs:StpIn O W d s v) (h:Calm O W W'):StpIn O W' d s v:=by
 cases s with
 | m k=>exact hs
 | word x=>exact Clos.calm hs h
 | lines k=>exact Clos.calm hs h
 | more k=>exact Clos.calm hs h
 | commas k=>exact Clos.calm hs h
 | moreC k=>exact Clos.calm hs h
theorem StpsIn.calm (h:Calm O W W'):∀ {l:List Stp} {vs:List Value},StpsIn O W d l vs→StpsIn O W' d l vs
 | [],_,hs=>hs
 | _ :: _,_,⟨v,us,h1,h2,h3⟩=>⟨v,us,h1,h2.calm h,StpsIn.calm h h3⟩
theorem owns_at {w w':World} {B n size:Nat} {e:TypeId} {v:Value} {xs:List Value} (h:w.ownsRow B e size v n xs) (hs:∀ k,v.ownBlock=some k→w'.heap[k]?=w.heap[k]?):w'.ownsRow B e size v n xs:=by
 refine ⟨h.1,?_⟩
 rcases h.2 with h|⟨g,cap,cur,rfl,h2,h3,h4⟩
 ·exact .inl h
 ·exact .inr ⟨g,cap,cur,rfl,h2,(hs g rfl).trans h3,h4⟩
theorem OpensIn.calm (h:Calm O W W'):∀ {l:List Open} {xs:List Value} {bs:List (Option Nat)},OpensIn O W l xs bs→(∀ g,some g∈bs→W'.heap[g]?=W.heap[g]?)→OpensIn O W' l xs bs
 | [],_,_,hs,_=>hs
 | o :: r,_,_,⟨kv,ks,us,bs',h1,h2,h3,h4,h5⟩,hb=>by
  subst h2
  exact ⟨kv,ks,us,bs',h1,rfl,owns_at h3 (fun k hk=>hb k (by rw [hk];exact List.mem_cons_self)),PartsIn.later (R:=Fr O W) (R':=Fr O W') (fun g hg _=>h.fr g hg) (fun g hg=>h.up hg) _ _ h4,OpensIn.calm h h5 (fun g hg=>hb g (List.mem_cons_of_mem _ hg))⟩
theorem Mem.calm (hM:Mem d L size lv s O W) (h:Calm O W W'):Mem d L size lv s O W':=by
 obtain ⟨tv,ov,bs,vs,xs,hM⟩:=hM
 have hd:=h.own d ((hM.own d).2 (.inl rfl))
 refine ⟨tv,ov,bs,vs,xs,hd.trans hM.blk,?_,owns_at hM.todoR (fun k hk=>h.own k ((hM.own k).2 (.inr (.inl hk)))),hM.todo.calm h,owns_at hM.opnR (fun k hk=>h.own k ((hM.own k).2 (.inr (.inr (.inl hk))))),
  OpensIn.calm h hM.opn (fun g hg=>h.own g ((hM.own g).2 (.inr (.inr (.inr hg))))),hM.apart,hM.own⟩
 obtain ⟨g,off,cap,h1,h2,h3⟩:=hM.words
 refine ⟨g,off,cap,h1,h.up h2,fun j u hj=>?_⟩
 have h4:=h3 j u hj
 unfold World.cell? at h4 ⊢
 rw [h.fr g h2];exact h4
theorem Mem.below (h:Mem d L size lv s O W) (hb:Below W.heap.size W W'):Mem d L size lv s O W':=by
 obtain ⟨tv,ov,bs,vs,xs,h⟩:=h
 have hs:Stay O O W W':=.of_below hb
 exact ⟨tv,ov,bs,vs,xs,(hb.block d (Array.getElem?_eq_some_iff.1 h.blk).1).trans h.blk,h.words.stay hs,owns_later h.todoR hb,h.todo.stay hs,owns_later h.opnR hb,
  OpensIn.stay hs h.opn (fun g hg=>hb.block g (h.lt g ((h.own g).2 (.inr (.inr (.inr hg)))))),h.apart,h.own⟩
theorem Mem.lt (h:Mem d L size lv s O W):∀ k,O k→k<W.heap.size:=by
 obtain ⟨tv,ov,bs,vs,xs,h⟩:=h;exact h.lt
theorem Mem.dlt (h:Mem d L size lv s O W):d<W.heap.size:=by
 obtain ⟨tv,ov,bs,vs,xs,h⟩:=h;exact (Array.getElem?_eq_some_iff.1 h.blk).1
theorem Mem.word (h:Mem d L size lv s O W) (hi:s.i≤L.length):∃ g off cap n,n=L.length+1∧g<W.heap.size∧W.cell? ⟨d,0,none⟩=some (.slice (some ⟨g,off,none⟩) n cap)∧W.cell? ⟨d,1,none⟩=some (.int .i64 s.i) ∧
  W.cell? ⟨g,off+s.i*4,none⟩=some (.int .i64 (tok L size s.i).w)∧W.cell? ⟨g,off+s.i*4+1,none⟩=some (.string ⟨(tok L size s.i).t.toArray⟩)∧W.cell? ⟨g,off+s.i*4+2,none⟩=some (.int .i64 (tok L size s.i).f)∧W.cell? ⟨g,off+s.i*4+3,none⟩=some (.int .i64 (tok L size s.i).e):=by
 obtain ⟨tv,ov,bs,vs,xs,h⟩:=h
 obtain ⟨g,off,cap,rfl,h2,h3⟩:=h.words
 have hl:s.i<(L++[endT size]).length:=by simp;omega
 have ht:(L++[endT size])[s.i]=tok L size s.i:=by
  by_cases h1:s.i<L.length
  ·rw [tok_in size h1,List.getElem_append_left h1]
  ·rw [tok_out size h1,List.getElem_append_right (by omega)];simp [endT]
 have h4:=tok_at s.i h3 hl
 rw [ht] at h4
 have hb:=h.blk
 exact ⟨g,off,cap,L.length+1,rfl,h2.1,by simp [World.cell?,hb],by simp [World.cell?,hb],h4.1,h4.2.1,h4.2.2.1,h4.2.2.2⟩
end
end Go.Proofs.YtojoahlpgmnbnaaGreatDoor.K
