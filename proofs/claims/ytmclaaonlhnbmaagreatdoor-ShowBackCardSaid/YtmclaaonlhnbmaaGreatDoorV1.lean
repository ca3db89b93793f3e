/- What the claim needs of the texts SAgain, KWith, KText, HKid, HScan, HWf, HVal, HGood, HRead. -/
import Derived.Test.YtmclaaonlhnbmaaGreatDoorS1
import Derived.Test.YtmclaaonlhnbmaaGreatDoorS2
import Derived.Test.YtmclaaonlhnbmaaGreatDoorS3
import Derived.Test.YtmclaaonlhnbmaaGreatDoorS4
import Derived.Test.YtmclaaonlhnbmaaGreatDoorS5
import Derived.Test.YtmclaaonlhnbmaaGreatDoorS6
import Derived.Test.YtmclaaonlhnbmaaGreatDoorS7
import Derived.Test.YtmclaaonlhnbmaaGreatDoorS8
import Derived.Test.YtmclaaonlhnbmaaGreatDoorS9
import Derived.Test.YtmclaaonlhnbmaaGreatDoorS10
import Derived.Test.YtmclaaonlhnbmaaGreatDoorS11
import Derived.Test.YtmclaaonlhnbmaaGreatDoorS12
import Derived.Test.YtmclaaonlhnbmaaGreatDoorS13
import Derived.Test.YtmclaaonlhnbmaaGreatDoorS14
import Derived.Test.YtmclaaonlhnbmaaGreatDoorS15
import Derived.Test.YtmclaaonlhnbmaaGreatDoorS16
import Derived.Test.YtmclaaonlhnbmaaGreatDoorS17
import Derived.Lib.DecodeN
import Derived.Lib.ValidU
import Derived.Lib.ValidAsc
import Derived.Lib.RuneCountTail
import Derived.Test.YtmclaaonlhnbmaaGreatDoorProg
import Derived.WalkKit
import Derived.WalkMore
import Derived.WalkSmall
import Derived.Below
import Derived.Lib.Hide
import Derived.Shelf.Unicode.DecodeSlow
import Derived.Deep.DeepMust
import Derived.Maps.AppendAt
import Derived.Deep.QuietTactic
import Derived.BigQuiet
import Derived.Laws.AppendOwn
import Derived.Lib.SmallJoins
import Derived.RangeFuncOwn
import Derived.Deep.AppendLies
import Derived.Deep.RegionHeld3
import Derived.Deep.RegionWith
import Derived.BigRegion
import Derived.Deep.DeepCutAuto
import Derived.Defers
import Derived.Recover
import Derived.Laws.Pointers
import Derived.Laws.Rows
import Derived.RangeFuncNested
import Derived.RangeFuncBound
import Derived.RangeFuncCalls
import Derived.RangeFuncLeaves
import Derived.OwnWalkIn
import Derived.TacticsInMore
import Derived.LoopNIn
import Derived.LoopIn
import Derived.Laws.OwnMore
import Derived.Deep.LoopGhost
import Derived.Shelf.Strings.Builder1
import Derived.Shelf.Strings.Builder2
import Derived.Shelf.Strings.BuilderF
import Derived.Shelf.Strings.BuilderK
import Derived.Shelf.Strings.Prefix
import Derived.Shelf.Bits.Mul64
import Derived.Shelf.Strings.Repeat
import Derived.Shelf.Unicode.ValidAny
import Derived.OwnWalk
import Derived.Test.YtmclaaonlhnbmaaGreatDoorRows
import Derived.OpenShut
import Derived.Lib.LaidTab
import Derived.Lib.LaidU8T
import Derived.PinnedBridge
import Derived.Lib.Builder
import Derived.Lib.FrozenHead
import Derived.Lib.UnsafeStr
import Derived.Lib.OthersKept
import Derived.Lib.BufferKept
import Derived.Laws.Externs
import Derived.Maps.OwnOps
import Derived.Maps.Views
import Derived.Maps.RangeWalk
import Derived.Maps.OwnSet
namespace Go.Proofs.YtmclaaonlhnbmaaGreatDoor.S
open Go.Lib Go.Proofs.YtmclaaonlhnbmaaGreatDoor.U
theorem tw_stop {p:UInt8→Bool} {d:UInt8} (hd:p d=false) (b:By):∀ r:By,(r++d :: b).takeWhile p=r.takeWhile p
 | []=>by simp [hd]
 | c :: r=>by
  simp only [List.cons_append,List.takeWhile_cons]
  rw [tw_stop hd b r]
theorem wid_low (c:UInt8) (r:By) (h:c.toNat<128):wid (c :: r)=1:=by
 have hg:((⟨(c :: r).toArray⟩:ByteArray).get! 0).toNat=c.toNat:=by
  show ((c :: r).toArray[0]!).toNat=c.toNat
  simp
 unfold wid
 rw [decode_at,hg]
 unfold decodeN
 rw [if_pos h]
end Go.Proofs.YtmclaaonlhnbmaaGreatDoor.S
namespace Go.Proofs.YtmclaaonlhnbmaaGreatDoor.K
open Go.Lib Go.Proofs.YtmclaaonlhnbmaaGreatDoor.U Go.Proofs.YtmclaaonlhnbmaaGreatDoor.S Go.Proofs.YtmclaaonlhnbmaaGreatDoor.T
section
variable {α β:Type} {L:List TokP} {i j a b a' b':Nat} {p:Pt}
theorem must_ok {x:By} {u:Unit} (h:mustT L x i=.ok u j):j=i+1∧isT L x i=true:=by
 unfold mustT at h
 split at h
 ·rename_i h1;cases h;exact ⟨rfl,h1⟩
 ·cases h
theorem name_ok {s:By} (h:nameT L i=.ok s j):j=i+1∧comesT L 0 i=true:=by
 unfold nameT at h
 split at h
 ·rename_i h1;cases h;exact ⟨rfl,h1⟩
 ·cases h
section
variable (hI:Idx L)
include hI
end
end
end Go.Proofs.YtmclaaonlhnbmaaGreatDoor.K
namespace Go.Proofs.YtmclaaonlhnbmaaGreatDoor.K
open Go.Lib Go.Proofs.YtmclaaonlhnbmaaGreatDoor.U Go.Proofs.YtmclaaonlhnbmaaGreatDoor.S Go.Proofs.YtmclaaonlhnbmaaGreatDoor.T
def EE (L:List TokP) (x:Int):Int:=if x≤0 then 0 else match L[x.toNat - 1]? with
 | some t=>t.e
 | none=>0
section
variable {F E:Int→Int} {L:List TokP} {lo hi:Int} (U:Ups F E L.length lo hi) (hF:F 0=0) (hE:E 0=0)
include U hF hE
end
end Go.Proofs.YtmclaaonlhnbmaaGreatDoor.K
namespace Go.Proofs.YtmclaaonlhnbmaaGreatDoor.H
open Go.RowKit
open Go.Lib hiding intOf
open Go.Proofs.YtmclaaonlhnbmaaGreatDoor.U Go.Proofs.YtmclaaonlhnbmaaGreatDoor.S Go.Proofs.YtmclaaonlhnbmaaGreatDoor.T Go.Proofs.YtmclaaonlhnbmaaGreatDoor.K
open Go.Proofs.YtmclaaonlhnbmaaGreatDoor.J (arg wtP wtL kids_form kids_row kid_at KidAt cells_five new_block kids_below Pt.ind wtL_mem wtL_length)
theorem bstr_list (x:By):(bstr x).data.toList=x:=rfl
end Go.Proofs.YtmclaaonlhnbmaaGreatDoor.H
namespace Go.Proofs.YtmclaaonlhnbmaaGreatDoor.H
open Go.Lib Go.Proofs.YtmclaaonlhnbmaaGreatDoor.U Go.Proofs.YtmclaaonlhnbmaaGreatDoor.S Go.Proofs.YtmclaaonlhnbmaaGreatDoor.T Go.Proofs.YtmclaaonlhnbmaaGreatDoor.K
abbrev Wd:=Int × By
def wds:List Pc→Bool→List Wd × Bool
 | [],en=>([],en)
 | .wd w t :: r,_=>((w,t) :: (wds r (endsP w t)).1,(wds r (endsP w t)).2)
 | .sp b :: r,en=>if en=true∧(10:UInt8)∈b then ((5,[]) :: (wds r false).1,(wds r false).2) else wds r en
theorem wds_app:∀ (a b:List Pc) (en:Bool),wds (a++b) en=((wds a en).1++(wds b (wds a en).2).1,(wds b (wds a en).2).2)
 | [],b,en=>by simp [wds]
 | .wd w t :: r,b,en=>by simp only [List.cons_append,wds];rw [wds_app r b]
 | .sp l :: r,b,en=>by
  simp only [List.cons_append,wds]
  split
  ·rw [wds_app r b];simp
  ·rw [wds_app r b]
def fin (p:List Wd × Bool):List Wd:=p.1++(if p.2 then [(5,[])] else [])
def marksL:List By:=[[40],[41],[123],[125],[91],[93],[44],[46],[42],[38],[45],[33],[61],[58,61],[124,124],[38,38],[61,61],[33,61],[60],[60,61],[62],[62,61],[43],[47],[37]]
def isNm (t:By):Prop:=t≠[]∧nameLen t=t.length
def VW (w:Int) (t:By):Prop:=(w=0∧isNm t∧keyB t=false)∨(w=3∧isNm t∧keyB t=true)∨(w=1∧t≠[]∧∀ c∈t,figu c=true)∨(w=2∧t≠[]∧quoLen t=t.length)∨(w=4∧t∈marksL)
def Sep (w:Int) (t:By) (r:By):Prop :=
 ((w=0∨w=3)→∀ c,r.head?=some c→nmc c=false)∧(w=1→∀ c,r.head?=some c→figu c=false)∧(w=4→t.length=1→∀ c,r.head?=some c→two (t++[c])=false∧¬ (t=[47]∧c=47))
def Good:List Pc→Prop
 | []=>True
 | .wd w t :: r=>VW w t∧Sep w t (byt r)∧Good r
 | .sp l :: r=>(∀ c∈l,S.blank c=true)∧Good r
theorem tw_stop (p:UInt8→Bool) {a r:By} (ha:∀ c∈a,p c=true) (hr:∀ c,r.head?=some c→p c=false):(a++r).takeWhile p=a:=by
 induction a with
 | nil =>
  cases r with
  | nil=>rfl
  | cons c r=>rw [List.nil_append,List.takeWhile_cons,hr c rfl];rfl
 | cons x a ih =>
  rw [List.cons_append,List.takeWhile_cons,ha x List.mem_cons_self,if_pos rfl,ih (fun c hc=>ha c (List.mem_cons_of_mem _ hc))]
theorem tw_all (p:UInt8→Bool) {a:By} (h:(a.takeWhile p).length=a.length):∀ c∈a,p c=true:=by
 induction a with
 | nil=>intro c hc;cases hc
 | cons x a ih =>
  rw [List.takeWhile_cons] at h
  split at h
  ·rename_i hx
   intro c hc
   rcases List.mem_cons.1 hc with rfl|hc
   ·exact hx
   ·exact ih (by simpa using h) c hc
  ·simp at h
theorem nm_app {t r:By} (h:isNm t) (hr:∀ c,r.head?=some c→nmc c=false):nameLen (t++r)=t.length:=by
 obtain ⟨h0,h1⟩:=h
 cases t with
 | nil=>exact absurd rfl h0
 | cons c s =>
  simp only [nameLen,List.cons_append,List.length_cons] at h1 ⊢
  split at h1
  ·rename_i hc
   rw [if_pos hc,tw_stop nmc (tw_all nmc (by omega)) hr];omega
  ·omega
theorem fig_facts {c:UInt8} (h:figu c=true):lett c=false∧S.blank c=false∧c≠47∧c≠10:=by
 simp only [figu,decide_eq_true_eq,UInt8.le_iff_toNat_le] at h
 have e:∀ n:Nat,n<256→(c=UInt8.ofNat n ↔ c.toNat=n):=fun n hn=>⟨fun h=>by rw [h];simp;omega,fun h=>by apply UInt8.toNat_inj.1;rw [h];simp;omega⟩
 have k:(48:UInt8).toNat=48:=rfl
 have k2:(57:UInt8).toNat=57:=rfl
 rw [k,k2] at h
 refine ⟨?_,?_,?_,?_⟩
 ·simp only [lett,Bool.or_eq_false_iff,decide_eq_false_iff_not,UInt8.le_iff_toNat_le,← UInt8.toNat_inj]
  have a1:(97:UInt8).toNat=97:=rfl
  have a2:(65:UInt8).toNat=65:=rfl
  have a3:(95:UInt8).toNat=95:=rfl
  rw [a1,a2,a3];omega
 ·simp only [S.blank,Bool.or_eq_false_iff,beq_eq_false_iff_ne,ne_eq,← UInt8.toNat_inj]
  have a1:(32:UInt8).toNat=32:=rfl
  have a2:(9:UInt8).toNat=9:=rfl
  have a3:(13:UInt8).toNat=13:=rfl
  have a4:(10:UInt8).toNat=10:=rfl
  rw [a1,a2,a3,a4];omega
 ·intro hc;rw [hc] at h;revert h;decide
 ·intro hc;rw [hc] at h;revert h;decide
theorem let_facts {c:UInt8} (h:lett c=true):S.blank c=false∧c≠47∧c≠10:=by
 refine ⟨?_,?_,?_⟩
 ·cases hb:S.blank c with
  | false=>rfl
  | true =>
   simp only [S.blank,Bool.or_eq_true,beq_iff_eq] at hb
   rcases hb with ((rfl|rfl)|rfl)|rfl <;> revert h <;> decide
 ·rintro rfl;revert h;decide
 ·rintro rfl;revert h;decide
theorem quo_app:∀ {t r:By} {n:Nat},quoTail t=some n→quoTail (t++r)=some n
 | [],_,_,h=>by cases h
 | c :: s,r,n,h=>by
  rw [quoTail] at h
  rw [List.cons_append,quoTail]
  by_cases h1:c=10
  ·rw [if_pos h1] at h;cases h
  ·rw [if_neg h1] at h ⊢
   by_cases h2:c=34
   ·rw [if_pos h2] at h ⊢;exact h
   ·rw [if_neg h2] at h ⊢
    cases hq:quoTail s with
    | none=>rw [hq] at h;cases h
    | some k=>rw [hq] at h;rw [quo_app hq];exact h
theorem cmt_not {c:UInt8} {r:By} (h:c≠47):cmtLen (c :: r)=0:=by
 cases r with
 | nil=>rfl
 | cons b s=>simp only [cmtLen];rw [if_neg (fun e=>h e.1)]
theorem two_app {a:UInt8} {r:By} (h:∀ c,r.head?=some c→two ([a]++[c])=false):two (a :: r)=false:=by
 cases r with
 | nil=>rfl
 | cons c s=>exact h c rfl
theorem cmt_app {a:UInt8} {r:By} (h:∀ c,r.head?=some c→¬ (a=47∧c=47)):cmtLen (a :: r)=0:=by
 cases r with
 | nil=>rfl
 | cons c s=>simp only [cmtLen];rw [if_neg (h c rfl)]
theorem mark_one {a:UInt8} {r:By} (right:Bool) (ha:a.toNat<128) (h1:lett a=false) (h2:figu a=false) (h3:a≠34) (h4:a≠59) (h:two (a :: r)=false):wordL right (a :: r)=(4,1):=by
 have e1:nameLen (a :: r)=0:=by simp only [nameLen,h1];rfl
 have e2:numLen (a :: r)=0:=by simp only [numLen,List.takeWhile_cons,h2];rfl
 have e3:quoLen (a :: r)=0:=by simp only [quoLen,if_neg h3]
 have e4:(a :: r).head?=some 59 ↔ False:=by simp [h4]
 have e5:markLen right (a :: r)=1:=by
  unfold markLen
  rw [h,wid_low a r ha];cases right <;> rfl
 unfold wordL
 rw [e1,e2,e3,e5];simp [h4]
theorem mark_two {a b:UInt8} {r:By} (right:Bool) (h1:lett a=false) (h2:figu a=false) (h3:a≠34) (h4:a≠59) (h:two (a :: b :: r)=true):wordL right (a :: b :: r)=(4,2):=by
 have e1:nameLen (a :: b :: r)=0:=by simp only [nameLen,h1];rfl
 have e2:numLen (a :: b :: r)=0:=by simp only [numLen,List.takeWhile_cons,h2];rfl
 have e3:quoLen (a :: b :: r)=0:=by simp only [quoLen,if_neg h3]
 have e5:markLen right (a :: b :: r)=2:=by unfold markLen;rw [h];rfl
 unfold wordL
 rw [e1,e2,e3,e5];simp [h4]
theorem word_of {w:Int} {t r:By} (right:Bool) (hv:VW w t) (hs:Sep w t r) :
  ∃ c s,t=c :: s∧S.blank c=false∧c≠10∧cmtLen (t++r)=0∧wordL right (t++r)=(w,t.length):=by
 obtain ⟨s1,s2,s3⟩:=hs
 have nm:∀ (k:Bool),isNm t→keyB t=k→(∀ c,r.head?=some c→nmc c=false)→∃ c s,t=c :: s∧S.blank c=false∧c≠10∧cmtLen (t++r)=0∧wordL right (t++r)=(if k then 3 else 0,t.length):=by
  intro k hn hk hr
  have hl:=nm_app hn hr
  obtain ⟨h0,h1⟩:=hn
  cases t with
  | nil=>exact absurd rfl h0
  | cons c s =>
   have hc:lett c=true:=by
    cases hc:lett c with
    | true=>rfl
    | false=>simp only [nameLen,hc] at h1;simp at h1
   obtain ⟨b1,b2,b3⟩:=let_facts hc
   refine ⟨c,s,rfl,b1,b3,cmt_not b2,?_⟩
   unfold wordL
   rw [hl,if_pos (by simp),List.take_left,hk]
 rcases hv with ⟨rfl,hn,hk⟩|⟨rfl,hn,hk⟩|⟨rfl,h0,hf⟩|⟨rfl,h0,hq⟩|⟨rfl,hm⟩
 ·exact nm false hn hk (s1 (Or.inl rfl))
 ·exact nm true hn hk (s1 (Or.inr rfl))
 ·cases t with
  | nil=>exact absurd rfl h0
  | cons c s =>
   obtain ⟨b0,b1,b2,b3⟩:=fig_facts (hf c List.mem_cons_self)
   refine ⟨c,s,rfl,b1,b3,cmt_not b2,?_⟩
   have hl:numLen ((c :: s)++r)=(c :: s).length:=by unfold numLen;rw [tw_stop figu hf (s2 rfl)]
   have e1:nameLen ((c :: s)++r)=0:=by simp only [List.cons_append,nameLen,b0];rfl
   unfold wordL
   rw [e1,hl];simp
 ·cases t with
  | nil=>exact absurd rfl h0
  | cons c s =>
   have hc:c=34:=by
    by_cases hc:c=34
    ·exact hc
    ·simp only [quoLen,if_neg hc] at hq;simp at hq
   subst hc
   have hl:quoLen ((34 :: s)++r)=(34 :: s:By).length:=by
    simp only [quoLen,List.cons_append,if_true] at hq ⊢
    cases hqt:quoTail s with
    | none=>rw [hqt] at hq;simp at hq
    | some k=>rw [hqt] at hq;rw [quo_app hqt];exact hq
   refine ⟨34,s,rfl,rfl,by decide,cmt_not (by decide),?_⟩
   have e1:nameLen ((34 :: s)++r)=0:=rfl
   have e2:numLen ((34 :: s)++r)=0:=rfl
   unfold wordL
   rw [e1,e2,hl];simp
 ·have one:∀ a:UInt8,t=[a]→S.blank a=false→a≠10→a.toNat<128→lett a=false→figu a=false→a≠34→a≠59 →
      ∃ c s,t=c :: s∧S.blank c=false∧c≠10∧cmtLen (t++r)=0∧wordL right (t++r)=(4,t.length):=by
   rintro a rfl b1 b2 b3 b4 b5 b6 b7
   have h3:=s3 rfl rfl
   exact ⟨a,[],rfl,b1,b2,cmt_app (fun c hc e=>(h3 c hc).2 ⟨by rw [e.1],e.2⟩),mark_one right b3 b4 b5 b6 b7 (two_app fun c hc=>(h3 c hc).1)⟩
  have dbl:∀ a b:UInt8,t=[a,b]→S.blank a=false→a≠10→a≠47→lett a=false→figu a=false→a≠34→a≠59→two [a,b]=true →
    ∃ c s,t=c :: s∧S.blank c=false∧c≠10∧cmtLen (t++r)=0∧wordL right (t++r)=(4,t.length):=by
   rintro a b rfl b1 b2 b3 b4 b5 b6 b7 b8
   exact ⟨a,[b],rfl,b1,b2,cmt_not b3,mark_two right b4 b5 b6 b7 b8⟩
  simp only [marksL,List.mem_cons,List.not_mem_nil,or_false] at hm
  rcases hm with h|h|h|h|h|h|h|h|h|h|h|h|h|h|h|h|h|h|h|h|h|h|h|h|h <;>
   first
   | exact one _ h (by decide) (by decide) (by decide) (by decide) (by decide) (by decide) (by decide)
   | exact dbl _ _ h (by decide) (by decide) (by decide) (by decide) (by decide) (by decide) (by decide) (by decide)
def wt (t:TokP):Wd:=(t.w,t.t)
theorem scan_sp (right:Bool):∀ (l r:By) (n pos:Nat) (en:Bool),(∀ c∈l,S.blank c=true)→l.length+r.length<n →
  ∃ m pos',r.length<m∧(scanF right n (l++r) pos en).map wt=(if en=true∧(10:UInt8)∈l then [(5,[])] else [])++(scanF right m r pos' (if en=true∧(10:UInt8)∈l then false else en)).map wt
 | [],r,n,pos,en,_,hn=>⟨n,pos,by simpa using hn,by simp⟩
 | c :: l,r,n,pos,en,hb,hn=>by
  obtain ⟨n,rfl⟩:∃ k,n=k+1:=⟨n - 1,by omega⟩
  have hc:=hb c List.mem_cons_self
  have hl:=fun d hd=>hb d (List.mem_cons_of_mem _ hd)
  simp only [List.length_cons] at hn
  rw [List.cons_append,scanF]
  by_cases h:c=10∧en=true
  ·obtain ⟨rfl,rfl⟩:=h
   obtain ⟨m,p,hm,e⟩:=scan_sp right l r n (pos+1) false hl (by omega)
   refine ⟨m,p,hm,?_⟩
   rw [if_pos ⟨rfl,rfl⟩,List.map_cons,e]
   simp [wt]
  ·rw [if_neg h,if_pos hc]
   obtain ⟨m,p,hm,e⟩:=scan_sp right l r n (pos+1) en hl (by omega)
   refine ⟨m,p,hm,?_⟩
   have hi:(en=true∧(10:UInt8)∈c :: l) ↔ (en=true∧(10:UInt8)∈l):=by
    constructor
    ·rintro ⟨h1,h2⟩
     rcases List.mem_cons.1 h2 with rfl|h2
     ·exact absurd ⟨rfl,h1⟩ h
     ·exact ⟨h1,h2⟩
    ·rintro ⟨h1,h2⟩;exact ⟨h1,List.mem_cons_of_mem _ h2⟩
   rw [e];simp only [hi]
theorem scan_pcs (right:Bool):∀ (ps:List Pc) (n pos:Nat) (en:Bool),Good ps→(byt ps).length<n →
  (scanF right n (byt ps) pos en).map wt=fin (wds ps en)
 | [],n,pos,en,_,hn=>by
  obtain ⟨n,rfl⟩:∃ k,n=k+1:=⟨n - 1,by omega⟩
  show (scanF right (n+1) [] pos en).map wt=_
  rw [scanF];cases en <;> simp [fin,wds,wt]
 | .sp l :: r,n,pos,en,hg,hn=>by
  obtain ⟨h1,h2⟩:=hg
  have hbb:byt (.sp l :: r)=l++byt r:=rfl
  rw [hbb] at hn ⊢
  obtain ⟨m,p,hm,e⟩:=scan_sp right l (byt r) n pos en h1 (by simpa using hn)
  rw [e,scan_pcs right r m p _ h2 hm]
  by_cases h:en=true∧(10:UInt8)∈l
  ·simp only [if_pos h,wds,fin,List.cons_append,List.nil_append]
  ·simp only [if_neg h,wds,List.nil_append]
 | .wd w t :: r,n,pos,en,hg,hn=>by
  obtain ⟨hv,hs,h2⟩:=hg
  have hbb:byt (.wd w t :: r)=t++byt r:=rfl
  rw [hbb] at hn ⊢
  obtain ⟨c,s,rfl,b1,b2,b3,b4⟩:=word_of right hv hs
  obtain ⟨n,rfl⟩:∃ k,n=k+1:=⟨n - 1,by omega⟩
  rw [List.cons_append] at b3 b4 hn ⊢
  simp only [List.length_cons,List.length_append] at hn
  rw [scanF,if_neg (fun e=>b2 e.1),if_neg (by rw [b1];decide),b3,if_neg (by omega),b4]
  have e1:(c :: (s++byt r)).take (c :: s).length=c :: s:=by rw [← List.cons_append,List.take_left]
  have e2:(c :: (s++byt r)).drop (c :: s).length=byt r:=by rw [← List.cons_append,List.drop_left]
  simp only [e1,e2,List.map_cons]
  rw [scan_pcs right r n _ _ h2 (by omega)]
  rfl
end Go.Proofs.YtmclaaonlhnbmaaGreatDoor.H
namespace Go.Proofs.YtmclaaonlhnbmaaGreatDoor.H
open Go.Lib Go.Proofs.YtmclaaonlhnbmaaGreatDoor.U Go.Proofs.YtmclaaonlhnbmaaGreatDoor.S Go.Proofs.YtmclaaonlhnbmaaGreatDoor.T Go.Proofs.YtmclaaonlhnbmaaGreatDoor.K
def one10 (l:By):Nat:=if (10:UInt8)∈l then 1 else 0
def cnt:List Pc→Nat
 | []=>0
 | .wd _ _ :: r=>cnt r+1
 | .sp l :: r=>cnt r+one10 l
theorem cnt_app:∀ a b,cnt (a++b)=cnt a+cnt b
 | [],b=>by simp [cnt]
 | .wd w t :: r,b=>by rw [List.cons_append,cnt,cnt,cnt_app r b];omega
 | .sp l :: r,b=>by rw [List.cons_append,cnt,cnt,cnt_app r b];omega
theorem cnt_nil:cnt []=0:=rfl
theorem cnt_wd (w:Int) (t:By) (r:List Pc):cnt (.wd w t :: r)=cnt r+1:=rfl
theorem cnt_sp (r:List Pc):cnt (.sp [32] :: r)=cnt r:=rfl
theorem cnt_nl (n:Nat) (r:List Pc):cnt (.sp (10 :: tabs n) :: r)=cnt r+1:=by rw [cnt,one10,if_pos List.mem_cons_self]
theorem cnt_held (b:Bool) (l:List Pc):cnt (held b l)≤cnt l+2:=by
 unfold held;cases b
 ·simp
 ·simp [cnt_wd,cnt_app,cnt_nil]
def sums (l:List (List Pc)):Nat:=(l.map fun x=>cnt x+1).sum
theorem sums_nil:sums []=0:=rfl
theorem sums_cons (x:List Pc) (r:List (List Pc)):sums (x :: r)=cnt x+1+sums r:=by simp [sums]
theorem sums_app (a b:List (List Pc)):sums (a++b)=sums a+sums b:=by simp [sums]
theorem cnt_sep:∀ r:List (List Pc),cnt (r.map fun y=>Pc.wd 4 [44] :: .sp [32] :: y).flatten=sums r
 | []=>rfl
 | x :: r=>by rw [List.map_cons,List.flatten_cons,cnt_app,cnt_sep r,sums_cons,cnt_wd,cnt_sp]
theorem cnt_commas (l:List (List Pc)):cnt (commas l)≤sums l:=by
 cases l with
 | nil=>exact Nat.le_refl _
 | cons x r=>rw [commas,cnt_app,cnt_sep,sums_cons];omega
theorem cnt_rows (ind:Nat):∀ l:List (List Pc),cnt (l.map fun x=>Pc.sp (10 :: tabs (ind+1)) :: x).flatten=sums l
 | []=>rfl
 | x :: r=>by rw [List.map_cons,List.flatten_cons,cnt_app,cnt_rows ind r,sums_cons,cnt_nl]
theorem cnt_lines (ind:Nat) (l:List (List Pc)):cnt (linesP ind l)≤sums l+3:=by
 unfold linesP
 rw [cnt_wd,cnt_app,cnt_app,cnt_rows]
 split
 ·simp only [cnt_nil,cnt_wd];omega
 ·simp only [cnt_nil,cnt_wd,cnt_nl];omega
inductive TyW:Pt→Prop
 | name {t:By} {f e:Int}:VW 0 t→TyW (.mk kName t f e [])
 | star {x:Pt} {f e:Int}:TyW x→TyW (.mk kStar [] f e [x])
 | slice {x:Pt} {f e:Int}:TyW x→TyW (.mk kSlice [] f e [x])
inductive ExW:Pt→Prop
 | num {t:By} {f e:Int}:VW 1 t→ExW (.mk kNum t f e [])
 | str {t:By} {f e:Int}:VW 2 t→ExW (.mk kStr t f e [])
 | id {t:By} {f e:Int}:VW 0 t→ExW (.mk kId t f e [])
 | call {t:By} {f e:Int} {ks:List Pt}:VW 0 t→t≠kNew→t≠kMake→(∀ q∈ks,ExW q)→ExW (.mk kCall t f e ks)
 | new' {x:Pt} {f e:Int}:TyW x→ExW (.mk kNew [] f e [x])
 | make' {x y:Pt} {f e:Int}:TyW x→ExW y→ExW (.mk kMake [] f e [x,y])
 | field {x:Pt} {t:By} {f e:Int}:VW 0 t→ExW x→ExW (.mk kField t f e [x])
 | index {x y:Pt} {f e:Int}:ExW x→ExW y→ExW (.mk kIndex [] f e [x,y])
 | unary {x:Pt} {t:By} {f e:Int}:t∈[[38],[42],[45],[33]]→ExW x→ExW (.mk kUnary t f e [x])
 | binary {x y:Pt} {t:By} {f e:Int}:0<strB t→t∈marksL→ExW x→ExW y→ExW (.mk kBinary t f e [x,y])
inductive StW:Pt→Prop
 | var {x:Pt} {t:By} {f e:Int}:VW 0 t→TyW x→StW (.mk kVar t f e [x])
 | block {ks:List Pt} {f e:Int}:(∀ q∈ks,StW q)→StW (.mk kBlock [] f e ks)
 | if2 {c b:Pt} {f e:Int}:ExW c→StW b→kindP b=kBlock→StW (.mk kIf [] f e [c,b])
 | if3 {c b o:Pt} {f e:Int}:ExW c→StW b→kindP b=kBlock→StW o→kindP o=kBlock∨kindP o=kIf→StW (.mk kIf [] f e [c,b,o])
 | for' {c b:Pt} {f e:Int}:ExW c→StW b→kindP b=kBlock→StW (.mk kFor [] f e [c,b])
 | ret0 {f e:Int}:StW (.mk kReturn [] f e [])
 | ret {c:Pt} {f e:Int}:ExW c→StW (.mk kReturn [] f e [c])
 | assign {a b:Pt} {f e:Int}:ExW a→ExW b→StW (.mk kAssign [] f e [a,b])
 | define {a b:Pt} {f e:Int}:ExW a→ExW b→StW (.mk kDefine [] f e [a,b])
 | expr {a:Pt} {f e:Int}:ExW a→StW (.mk kExpr [] f e [a])
inductive PaW (k:By):Pt→Prop
 | mk {x:Pt} {t:By} {f e:Int}:VW 0 t→TyW x→PaW k (.mk k t f e [x])
inductive DcW:Pt→Prop
 | func {ps rs:List Pt} {b:Pt} {t:By} {f e:Int}:VW 0 t→(∀ q∈ps,PaW kParam q)→(rs=[]∨∃ x,rs=[x]∧TyW x)→StW b→kindP b=kBlock→DcW (.mk kFunc t f e [allP kParams ps,allP kResult rs,b])
 | var {x:Pt} {t:By} {f e:Int}:VW 0 t→TyW x→DcW (.mk kVar t f e [x])
 | typ {ks:List Pt} {t:By} {f e:Int}:VW 0 t→(∀ q∈ks,PaW kField q)→DcW (.mk kType t f e ks)
theorem kdw_name:kd kName=.name:=by decide
theorem kdw_star:kd kStar=.star:=by decide
theorem kdw_slice:kd kSlice=.slice:=by decide
theorem kdw_num:kd kNum=.num:=by decide
theorem kdw_str:kd kStr=.str:=by decide
theorem kdw_id:kd kId=.id:=by decide
theorem kdw_call:kd kCall=.call:=by decide
theorem kdw_new:kd kNew=.new':=by decide
theorem kdw_make:kd kMake=.make':=by decide
theorem kdw_field:kd kField=.field:=by decide
theorem kdw_index:kd kIndex=.index:=by decide
theorem kdw_unary:kd kUnary=.unary:=by decide
theorem kdw_binary:kd kBinary=.binary:=by decide
theorem kdw_var:kd kVar=.var:=by decide
theorem kdw_block:kd kBlock=.block:=by decide
theorem kdw_if:kd kIf=.if':=by decide
theorem kdw_for:kd kFor=.for':=by decide
theorem kdw_ret:kd kReturn=.ret:=by decide
theorem kdw_assign:kd kAssign=.assign:=by decide
theorem kdw_define:kd kDefine=.define:=by decide
theorem kdw_expr:kd kExpr=.expr:=by decide
theorem kdw_param:kd kParam=.param:=by decide
theorem kdw_func:kd kFunc=.func:=by decide
theorem kdw_typ:kd kType=.typ:=by decide
theorem kidAt0 (a:Pt) (r:List Pt):kidAt (a :: r) 0=a:=rfl
theorem kidAt1 (a b:Pt) (r:List Pt):kidAt (a :: b :: r) 1=b:=rfl
theorem kidAt2 (a b c:Pt) (r:List Pt):kidAt (a :: b :: c :: r) 2=c:=rfl
section
variable {L:List TokP}
def WL (L:List TokP):Prop:=∀ t∈L,(t.w=0→VW 0 t.t)∧(t.w=1→VW 1 t.t)∧(t.w=2→VW 2 t.t)
def TyO (p:Pt) (i j:Nat):Prop:=TyW p∧∀ ind,cnt (pcs ind p)+3+4*i≤4*j
def ExO (p:Pt) (i j:Nat):Prop:=ExW p∧∀ ind,cnt (pcs ind p)+3+4*i≤4*j
def StO (p:Pt) (i j:Nat):Prop:=StW p∧∀ ind,cnt (pcs ind p)+1+4*i≤4*j
def AllO (S:Nat→Pt→List Pc) (P:Pt→Prop) (l:List Pt) (i j:Nat):Prop:=(∀ q∈l,P q)∧∀ ind,sums (l.map (S ind))+4*i≤4*j
theorem AllO.nil (S:Nat→Pt→List Pc) (P:Pt→Prop) (i:Nat):AllO S P [] i i:=⟨fun _ h=>(nomatch h),fun _=>(by rw [List.map_nil,sums_nil];omega)⟩
theorem AllO.snoc {S:Nat→Pt→List Pc} {P:Pt→Prop} {l:List Pt} {p:Pt} {i j k:Nat} (h:AllO S P l i j) (hp:P p) (hc:∀ ind,cnt (S ind p)+1+4*j≤4*k):AllO S P (l++[p]) i k:=by
 refine ⟨fun q hq=>?_,fun ind=>?_⟩
 ·rcases List.mem_append.1 hq with hq|hq
  ·exact h.1 q hq
  ·rw [List.mem_singleton.1 hq];exact hp
 ·have:=h.2 ind;have:=hc ind
  rw [List.map_append,sums_app,List.map_cons,List.map_nil,sums_cons,sums_nil];omega
theorem AllO.to {S:Nat→Pt→List Pc} {P:Pt→Prop} {l:List Pt} {i j k:Nat} (h:AllO S P l i j) (hk:j≤k):AllO S P l i k:=⟨h.1,fun ind=>by have:=h.2 ind;omega⟩
theorem comes_word (hL:WL L) {w:Int} {i:Nat} (h:comesT L w i=true) (hw:w=0∨w=1∨w=2):VW w (textT L i):=by
 unfold comesT at h;unfold textT
 cases hi:L[i]? with
 | none=>rw [hi] at h;cases h
 | some t =>
  rw [hi] at h
  have hm:=hL t (List.mem_of_getElem? hi)
  have e:t.w=w:=by simpa using h
  rcases hw with rfl|rfl|rfl
  ·exact hm.1 e
  ·exact hm.2.1 e
  ·exact hm.2.2 e
theorem name_word (hL:WL L) {s:By} {i j:Nat} (h:nameT L i=.ok s j):VW 0 s∧j=i+1:=by
 obtain ⟨h1,h2⟩:=name_ok h
 unfold nameT at h
 rw [if_pos h2] at h
 cases h
 exact ⟨comes_word hL h2 (.inl rfl),rfl⟩
theorem part_eq {k t:By} {f:Int} {ks:List Pt} {j m:Nat} {p:Pt} (h:T.part L k t f ks j=.ok p m):p=.mk k t f (toT L j) ks∧m=j:=by
 unfold T.part at h;cases h;exact ⟨rfl,rfl⟩
theorem typed_wf (hL:WL L):∀ (n i:Nat) {p:Pt} {j:Nat},typed L n i=.ok p j→TyO p i j
 | 0,_,_,_,h=>by cases h
 | n+1,i,p,j,h=>by
  unfold typed at h
  split at h
  ·obtain ⟨x,k,h2,h3⟩:=next_ok.1 h
   obtain ⟨rfl,rfl⟩:=part_eq h3
   obtain ⟨a,b⟩:=typed_wf hL n _ h2
   refine ⟨.star a,fun ind=>?_⟩
   have:=b ind
   rw [pcs_mk,kdw_star];simp only [bodyP,kidAt0,cnt_wd];omega
  ·split at h
   ·obtain ⟨u,k,h2,h3⟩:=next_ok.1 h
    obtain ⟨x,m,h4,h5⟩:=next_ok.1 h3
    obtain ⟨rfl,rfl⟩:=part_eq h5
    obtain ⟨rfl,_⟩:=must_ok h2
    obtain ⟨a,b⟩:=typed_wf hL n _ h4
    refine ⟨.slice a,fun ind=>?_⟩
    have:=b ind
    rw [pcs_mk,kdw_slice];simp only [bodyP,kidAt0,cnt_wd];omega
   ·obtain ⟨s,k,h2,h3⟩:=next_ok.1 h
    obtain ⟨rfl,rfl⟩:=part_eq h3
    obtain ⟨a,rfl⟩:=name_word hL h2
    refine ⟨.name a,fun ind=>?_⟩
    rw [pcs_mk,kdw_name];simp only [bodyP,cnt_wd,cnt_nil];omega
theorem param_wf (hL:WL L) {n i j:Nat} {k:By} {p:Pt} (h:param L n k i=.ok p j):PaW k p∧∃ s x f e,p=.mk k s f e [x]∧VW 0 s∧TyO x (i+1) j:=by
 unfold param at h
 obtain ⟨s,m,h2,h3⟩:=next_ok.1 h
 obtain ⟨x,o,h4,h5⟩:=next_ok.1 h3
 obtain ⟨rfl,rfl⟩:=part_eq h5
 obtain ⟨a,rfl⟩:=name_word hL h2
 have hx:=typed_wf hL n _ h4
 exact ⟨.mk a hx.1,s,x,_,_,rfl,a,hx⟩
theorem params_wf (hL:WL L) (m:Nat):∀ (n i0 i:Nat) (acc:List Pt) {l:List Pt} {j:Nat},params L m n i acc=.ok l j→AllO pcs (PaW kParam) acc i0 i→AllO pcs (PaW kParam) l i0 j
 | 0,_,_,_,_,_,h,_=>by cases h
 | n+1,i0,i,acc,l,j,h,ha=>by
  unfold params at h
  obtain ⟨p,k,h2,h3⟩:=next_ok.1 h
  obtain ⟨hp,s,x,f,e,rfl,_,hx⟩:=param_wf hL h2
  have ha':=ha.snoc hp (fun ind=>(by
   have:=hx.2 ind
   rw [pcs_mk,kdw_param];simp only [bodyP,kidAt0,cnt_app,cnt_wd,cnt_sp,cnt_nil];omega:cnt (pcs ind _)+1+4*i≤4*k))
  split at h3
  ·cases h3;exact ha'.to (by omega)
  ·obtain ⟨u,m',h4,h5⟩:=next_ok.1 h3
   obtain ⟨rfl,_⟩:=must_ok h4
   exact params_wf hL m n i0 _ _ h5 (ha'.to (by omega))
theorem fields_wf (hL:WL L) (m:Nat):∀ (n i0 i:Nat) (acc:List Pt) {l:List Pt} {j:Nat},fields L m n i acc=.ok l j→AllO (fun _=>declared pcs) (PaW kField) acc i0 i→AllO (fun _=>declared pcs) (PaW kField) l i0 j
 | 0,_,_,_,_,_,h,_=>by cases h
 | n+1,i0,i,acc,l,j,h,ha=>by
  unfold fields at h
  split at h
  ·cases h;exact ha
  ·obtain ⟨p,k,h2,h3⟩:=next_ok.1 h
   obtain ⟨hp,s,x,f,e,rfl,_,hx⟩:=param_wf hL h2
   have ha':=ha.snoc (k:=k) hp (fun _=>(by
    have:=hx.2 1
    unfold declared
    rw [if_pos (show kindP (.mk kField s f e [x])=kField from rfl)]
    show cnt (.wd 0 s :: .sp [32] :: pcs 1 x)+1+4*i≤4*k
    simp only [cnt_wd,cnt_sp];omega))
   split at h3
   ·cases h3
   ·exact fields_wf hL m n i0 _ _ h3 (ha'.to (by omega))
theorem strong_word {i:Nat} {than:Int} (h0:0≤than) (h:than<strongT L i):0<strB (textT L i)∧textT L i∈marksL:=by
 unfold strongT at h;unfold textT
 cases hi:L[i]? with
 | none=>rw [hi] at h;simp only at h;omega
 | some t =>
  rw [hi] at h;simp only at h ⊢
  unfold strong at h
  split at h
  ·unfold strB
   repeat' split at h
   all_goals first|omega|skip
   all_goals (rename_i hx;first|(rcases hx with hx|hx|hx|hx|hx|hx)|(rcases hx with hx|hx|hx)|(rcases hx with hx|hx)|skip)
   all_goals (rw [hx];decide)
  ·omega
structure WfE (L:List TokP) (n:Nat):Prop where
 expr:∀ than i p j,(0:Int)≤than→expr L n than i=.ok p j→ExO p i j
 exprs:∀ than f a i0 i p j,(0:Int)≤than→exprs L n than f a i=.ok p j→ExO a i0 i→ExO p i0 j
 prefixT:∀ i p j,prefixT L n i=.ok p j→ExO p i j
 tails:∀ f a i0 i p j,tails L n f a i=.ok p j→ExO a i0 i→ExO p i0 j
 operand:∀ i p j,operand L n i=.ok p j→ExO p i j
 args:∀ i0 i acc l j,args L n i acc=.ok l j→AllO pcs ExW acc i0 i→AllO pcs ExW l i0 j
theorem wfE (hL:WL L):∀ n,WfE L n
 | 0=>⟨fun _ _ _ _ _ h=>by simp only [expr] at h;(cases h),fun _ _ _ _ _ _ _ _ h=>by simp only [exprs] at h;(cases h),fun _ _ _ h=>by simp only [prefixT] at h;(cases h),fun _ _ _ _ _ _ h=>by simp only [tails] at h;(cases h),fun _ _ _ h=>by simp only [operand] at h;(cases h),fun _ _ _ _ _ h=>by simp only [args] at h;(cases h)⟩
 | n+1=>by
  have ih:=wfE hL n
  refine ⟨fun than i p j h0 h=>?_,fun than f a i0 i p j h0 h ha=>?_,fun i p j h=>?_,fun f a i0 i p j h ha=>?_,fun i p j h=>?_,fun i0 i acc l j h hacc=>?_⟩
  ·rw [expr] at h
   obtain ⟨a,k,h2,h3⟩:=next_ok.1 h
   exact ih.exprs _ _ _ _ _ _ _ h0 h3 (ih.prefixT _ _ _ h2)
  ·rw [exprs] at h
   split at h
   ·rename_i hs
    obtain ⟨b,k,h2,h3⟩:=next_ok.1 h
    obtain ⟨s1,s2⟩:=strong_word h0 hs.2
    obtain ⟨b1,b2⟩:=ih.expr _ _ _ _ (by omega) h2
    refine ih.exprs _ _ _ i0 _ _ _ h0 h3 ⟨.binary s1 s2 ha.1 b1,fun ind=>?_⟩
    have:=b2 ind;have:=ha.2 ind
    have q1:=cnt_held (lHeld (textT L i) a) (pcs ind a)
    have q2:=cnt_held (rHeld (textT L i) b) (pcs ind b)
    rw [pcs_mk,kdw_binary];simp only [bodyP,kidAt0,kidAt1,cnt_app,cnt_wd,cnt_sp,cnt_nil];omega
   ·cases h;exact ha
  ·rw [prefixT] at h
   have un:∀ x:By,x∈[[38],[42],[45],[33]]→((prefixT L n (i+1)).next fun e j=>T.part L kUnary x (fromT L i) [e] j)=.ok p j→ExO p i j:=fun x hx h=>by
    obtain ⟨e,k,h2,h3⟩:=next_ok.1 h
    obtain ⟨rfl,rfl⟩:=part_eq h3
    obtain ⟨b1,b2⟩:=ih.prefixT _ _ _ h2
    refine ⟨.unary hx b1,fun ind=>?_⟩
    have:=b2 ind
    have q1:=cnt_held (uHeld x e) (pcs ind e)
    rw [pcs_mk,kdw_unary];simp only [bodyP,kidAt0,cnt_wd];omega
   repeat' split at h
   ·exact un _ (by simp) h
   ·exact un _ (by simp) h
   ·exact un _ (by simp) h
   ·exact un _ (by simp) h
   ·obtain ⟨a,k,h2,h3⟩:=next_ok.1 h
    exact ih.tails _ _ _ _ _ _ h3 (ih.operand _ _ _ h2)
  ·rw [tails] at h
   split at h
   ·obtain ⟨s,k,h2,h3⟩:=next_ok.1 h
    obtain ⟨b1,rfl⟩:=name_word hL h2
    refine ih.tails _ _ i0 _ _ _ h3 ⟨.field b1 ha.1,fun ind=>?_⟩
    have:=ha.2 ind
    have q1:=cnt_held (oHeld a) (pcs ind a)
    rw [pcs_mk,kdw_field];simp only [bodyP,kidAt0,cnt_app,cnt_wd,cnt_nil];omega
   ·split at h
    ·obtain ⟨e,k,h2,h3⟩:=next_ok.1 h
     obtain ⟨u,m,h5,h6⟩:=next_ok.1 h3
     obtain ⟨rfl,_⟩:=must_ok h5
     obtain ⟨b1,b2⟩:=ih.expr _ _ _ _ (Int.le_refl 0) h2
     refine ih.tails _ _ i0 _ _ _ h6 ⟨.index ha.1 b1,fun ind=>?_⟩
     have:=ha.2 ind;have:=b2 ind
     have q1:=cnt_held (oHeld a) (pcs ind a)
     rw [pcs_mk,kdw_index];simp only [bodyP,kidAt0,kidAt1,cnt_app,cnt_wd,cnt_nil];omega
    ·cases h;exact ha
  ·rw [operand] at h
   have lit:∀ (k:By) (w:Int),(cnt (bodyP pcs 0 (textT L i) [] (kd k))=1∧∀ ind,bodyP pcs ind (textT L i) [] (kd k)=bodyP pcs 0 (textT L i) [] (kd k))→ExW (.mk k (textT L i) (fromT L i) (toT L (i+1)) [])→ExO (.mk k (textT L i) (fromT L i) (toT L (i+1)) []) i (i+1):=fun k w hc hw=>⟨hw,fun ind=>by rw [pcs_mk,hc.2 ind];omega⟩
   split at h
   ·rename_i hw
    obtain ⟨rfl,rfl⟩:=part_eq h
    exact lit _ 1 ⟨rfl,fun _=>rfl⟩ (.num (comes_word hL hw (by decide)))
   ·split at h
    ·rename_i hw
     obtain ⟨rfl,rfl⟩:=part_eq h
     exact lit _ 2 ⟨rfl,fun _=>rfl⟩ (.str (comes_word hL hw (by decide)))
    ·split at h
     ·obtain ⟨e,k,h2,h3⟩:=next_ok.1 h
      obtain ⟨u,m,h5,h6⟩:=next_ok.1 h3
      obtain ⟨rfl,_⟩:=must_ok h5
      cases h6
      obtain ⟨b1,b2⟩:=ih.expr _ _ _ _ (Int.le_refl 0) h2
      exact ⟨b1,fun ind=>by have:=b2 ind;omega⟩
     ·obtain ⟨s,k,h2,h3⟩:=next_ok.1 h
      obtain ⟨b1,rfl⟩:=name_word hL h2
      split at h3
      ·obtain ⟨rfl,rfl⟩:=part_eq h3
       refine ⟨.id b1,fun ind=>?_⟩
       rw [pcs_mk,kdw_id];simp only [bodyP,cnt_wd,cnt_nil];omega
      ·split at h3
       ·obtain ⟨x,m,h5,h6⟩:=next_ok.1 h3
        obtain ⟨u,o,h7,h8⟩:=next_ok.1 h6
        obtain ⟨rfl,_⟩:=must_ok h7
        obtain ⟨rfl,rfl⟩:=part_eq h8
        obtain ⟨c1,c2⟩:=typed_wf hL n _ h5
        refine ⟨.new' c1,fun ind=>?_⟩
        have:=c2 ind
        rw [pcs_mk,kdw_new];simp only [bodyP,called,List.map_cons,List.map_nil,commas,List.flatten_nil,cnt_app,cnt_wd,cnt_nil];omega
       ·split at h3
        ·obtain ⟨x,m,h5,h6⟩:=next_ok.1 h3
         obtain ⟨u,o,h7,h8⟩:=next_ok.1 h6
         obtain ⟨e,q,h9,h10⟩:=next_ok.1 h8
         obtain ⟨u2,r,h11,h12⟩:=next_ok.1 h10
         obtain ⟨rfl,_⟩:=must_ok h7
         obtain ⟨rfl,_⟩:=must_ok h11
         obtain ⟨rfl,rfl⟩:=part_eq h12
         obtain ⟨c1,c2⟩:=typed_wf hL n _ h5
         obtain ⟨d1,d2⟩:=ih.expr _ _ _ _ (Int.le_refl 0) h9
         refine ⟨.make' c1 d1,fun ind=>?_⟩
         have:=c2 ind;have:=d2 ind
         rw [pcs_mk,kdw_make];simp only [bodyP,called,List.map_cons,List.map_nil,commas,List.flatten_nil,List.flatten_cons,cnt_app,cnt_wd,cnt_sp,cnt_nil];omega
        ·rename_i hn hm
         have call:∀ l j',AllO pcs ExW l (i+2) j'→ExO (.mk kCall s (fromT L i) (toT L j') l) i j':=fun l j' hl=>by
          refine ⟨.call b1 hn hm hl.1,fun ind=>?_⟩
          have:=hl.2 ind
          have q1:=cnt_commas (l.map (pcs ind))
          rw [pcs_mk,kdw_call];simp only [bodyP,called,cnt_app,cnt_wd,cnt_nil];omega
         split at h3
         ·obtain ⟨rfl,rfl⟩:=part_eq h3
          exact call _ _ ((AllO.nil _ _ _).to (by omega))
         ·obtain ⟨l,m,h5,h6⟩:=next_ok.1 h3
          obtain ⟨rfl,rfl⟩:=part_eq h6
          exact call _ _ (ih.args _ _ _ _ _ h5 (AllO.nil _ _ _))
  ·rw [args] at h
   obtain ⟨a,k,h2,h3⟩:=next_ok.1 h
   obtain ⟨b1,b2⟩:=ih.expr _ _ _ _ (Int.le_refl 0) h2
   have ha:=hacc.snoc b1 (fun ind=>by have:=b2 ind;show cnt (pcs ind a)+1+4*i≤4*k;omega)
   split at h3
   ·cases h3;exact ha.to (by omega)
   ·obtain ⟨u,m,h4,h5⟩:=next_ok.1 h3
    obtain ⟨rfl,_⟩:=must_ok h4
    exact ih.args _ _ _ _ _ h5 (ha.to (by omega))
theorem variable_wf (hL:WL L) {n i j:Nat} {p:Pt} (h:variable' L n i=.ok p j):StO p i j∧DcW p:=by
 unfold variable' at h
 obtain ⟨u,k,h2,h3⟩:=next_ok.1 h
 obtain ⟨s,m,h4,h5⟩:=next_ok.1 h3
 obtain ⟨x,o,h6,h7⟩:=next_ok.1 h5
 obtain ⟨rfl,_⟩:=must_ok h2
 obtain ⟨a,rfl⟩:=name_word hL h4
 obtain ⟨rfl,rfl⟩:=part_eq h7
 obtain ⟨b1,b2⟩:=typed_wf hL n _ h6
 refine ⟨⟨.var a b1,fun ind=>?_⟩,.var a b1⟩
 have:=b2 ind
 rw [pcs_mk,kdw_var];simp only [bodyP,kidAt0,cnt_app,cnt_wd,cnt_sp,cnt_nil];omega
structure WfS (L:List TokP) (n:Nat):Prop where
 block:∀ i p j,block L n i=.ok p j→StO p i j∧kindP p=kBlock
 stmts:∀ i0 i acc l j,stmts L n i acc=.ok l j→AllO (fun ind=>pcs (ind+1)) StW acc i0 i→AllO (fun ind=>pcs (ind+1)) StW l i0 j
 branch:∀ i p j,branch L n i=.ok p j→StO p i j∧kindP p=kIf
 stmt:∀ i p j,stmt L n i=.ok p j→StO p i j
theorem wfS (hL:WL L):∀ n,WfS L n
 | 0=>⟨fun _ _ _ h=>by simp only [block] at h;(cases h),fun _ _ _ _ _ h=>by simp only [stmts] at h;(cases h),fun _ _ _ h=>by simp only [branch] at h;(cases h),fun _ _ _ h=>by simp only [stmt] at h;(cases h)⟩
 | n+1=>by
  have ih:=wfS hL n
  have he:=wfE hL n
  refine ⟨fun i p j h=>?_,fun i0 i acc l j h ha=>?_,fun i p j h=>?_,fun i p j h=>?_⟩
  ·rw [block] at h
   obtain ⟨u,k,h2,h3⟩:=next_ok.1 h
   obtain ⟨l,m,h4,h5⟩:=next_ok.1 h3
   obtain ⟨u2,o,h6,h7⟩:=next_ok.1 h5
   obtain ⟨rfl,_⟩:=must_ok h2
   obtain ⟨rfl,_⟩:=must_ok h6
   obtain ⟨rfl,rfl⟩:=part_eq h7
   obtain ⟨b1,b2⟩:=ih.stmts _ _ _ _ _ h4 (AllO.nil _ _ _)
   refine ⟨⟨.block b1,fun ind=>?_⟩,rfl⟩
   have q0:=b2 ind
   dsimp only at q0
   have q1:=cnt_lines ind (l.map (pcs (ind+1)))
   rw [pcs_mk,kdw_block];simp only [bodyP];omega
  ·rw [stmts] at h
   split at h
   ·cases h;exact ha
   ·obtain ⟨p,k,h2,h3⟩:=next_ok.1 h
    split at h3
    ·cases h3
    ·obtain ⟨b1,b2⟩:=ih.stmt _ _ _ h2
     exact ih.stmts _ _ _ _ _ h3 ((ha.snoc (k:=k) b1 (fun ind=>b2 (ind+1))).to (by omega))
  ·rw [branch] at h
   obtain ⟨u,k,h2,h3⟩:=next_ok.1 h
   obtain ⟨e,m,h4,h5⟩:=next_ok.1 h3
   obtain ⟨b,o,h6,h7⟩:=next_ok.1 h5
   obtain ⟨rfl,_⟩:=must_ok h2
   obtain ⟨a1,a2⟩:=he.expr _ _ _ _ (Int.le_refl 0) h4
   obtain ⟨⟨b1,b2⟩,b3⟩:=ih.block _ _ _ h6
   have three:∀ (x:Pt) (f:Int) (q:Nat),StO x (o+1) q→kindP x=kBlock∨kindP x=kIf→StO (.mk kIf [] f (toT L q) [e,b,x]) i q:=fun x f q hx hk=>by
    refine ⟨.if3 a1 b1 b3 hx.1 hk,fun ind=>?_⟩
    have:=a2 ind;have:=b2 ind;have:=hx.2 ind
    rw [pcs_mk,kdw_if];simp only [bodyP,kidAt0,kidAt1,kidAt2,cnt_app,cnt_wd,cnt_sp,cnt_nil]
    rw [if_pos (by simp)];simp only [cnt_app,cnt_wd,cnt_sp,cnt_nil];omega
   split at h7
   ·split at h7
    ·obtain ⟨x,q,h10,h11⟩:=next_ok.1 h7
     obtain ⟨rfl,rfl⟩:=part_eq h11
     obtain ⟨c1,c2⟩:=ih.branch _ _ _ h10
     exact ⟨three _ _ _ c1 (.inr c2),rfl⟩
    ·obtain ⟨x,q,h10,h11⟩:=next_ok.1 h7
     obtain ⟨rfl,rfl⟩:=part_eq h11
     obtain ⟨c1,c2⟩:=ih.block _ _ _ h10
     exact ⟨three _ _ _ c1 (.inl c2),rfl⟩
   ·obtain ⟨rfl,rfl⟩:=part_eq h7
    refine ⟨⟨.if2 a1 b1 b3,fun ind=>?_⟩,rfl⟩
    have:=a2 ind;have:=b2 ind
    rw [pcs_mk,kdw_if];simp only [bodyP,kidAt0,kidAt1,cnt_app,cnt_wd,cnt_sp,cnt_nil]
    rw [if_neg (by simp)];simp only [cnt_nil];omega
  ·rw [stmt] at h
   split at h
   ·exact (variable_wf hL h).1
   split at h
   ·exact (ih.branch _ _ _ h).1
   split at h
   ·exact (ih.block _ _ _ h).1
   split at h
   ·obtain ⟨e,k,h2,h3⟩:=next_ok.1 h
    obtain ⟨b,m,h4,h5⟩:=next_ok.1 h3
    obtain ⟨rfl,rfl⟩:=part_eq h5
    obtain ⟨a1,a2⟩:=he.expr _ _ _ _ (Int.le_refl 0) h2
    obtain ⟨⟨b1,b2⟩,b3⟩:=ih.block _ _ _ h4
    refine ⟨.for' a1 b1 b3,fun ind=>?_⟩
    have:=a2 ind;have:=b2 ind
    rw [pcs_mk,kdw_for];simp only [bodyP,kidAt0,kidAt1,cnt_app,cnt_wd,cnt_sp,cnt_nil];omega
   split at h
   ·split at h
    ·obtain ⟨rfl,rfl⟩:=part_eq h
     refine ⟨.ret0,fun ind=>?_⟩
     rw [pcs_mk,kdw_ret];simp only [bodyP,if_true,cnt_wd,cnt_nil];omega
    ·obtain ⟨e,k,h2,h3⟩:=next_ok.1 h
     obtain ⟨rfl,rfl⟩:=part_eq h3
     obtain ⟨a1,a2⟩:=he.expr _ _ _ _ (Int.le_refl 0) h2
     refine ⟨.ret a1,fun ind=>?_⟩
     have:=a2 ind
     rw [pcs_mk,kdw_ret];simp only [bodyP,kidAt0,cnt_wd]
     rw [if_neg (by simp)];simp only [cnt_sp];omega
   ·obtain ⟨a,k,h2,h3⟩:=next_ok.1 h
    obtain ⟨a1,a2⟩:=he.expr _ _ _ _ (Int.le_refl 0) h2
    split at h3
    ·obtain ⟨b,m,h4,h5⟩:=next_ok.1 h3
     obtain ⟨rfl,rfl⟩:=part_eq h5
     obtain ⟨b1,b2⟩:=he.expr _ _ _ _ (Int.le_refl 0) h4
     refine ⟨.assign a1 b1,fun ind=>?_⟩
     have:=a2 ind;have:=b2 ind
     rw [pcs_mk,kdw_assign];simp only [bodyP,kidAt0,kidAt1,cnt_app,cnt_wd,cnt_sp,cnt_nil];omega
    ·split at h3
     ·obtain ⟨b,m,h4,h5⟩:=next_ok.1 h3
      obtain ⟨rfl,rfl⟩:=part_eq h5
      obtain ⟨b1,b2⟩:=he.expr _ _ _ _ (Int.le_refl 0) h4
      refine ⟨.define a1 b1,fun ind=>?_⟩
      have:=a2 ind;have:=b2 ind
      rw [pcs_mk,kdw_define];simp only [bodyP,kidAt0,kidAt1,cnt_app,cnt_wd,cnt_sp,cnt_nil];omega
     ·obtain ⟨rfl,rfl⟩:=part_eq h3
      refine ⟨.expr a1,fun ind=>?_⟩
      have:=a2 ind
      rw [pcs_mk,kdw_expr];simp only [bodyP,kidAt0];omega
theorem ks_all (k:By) (l:List Pt):ksP (allP k l)=l:=by
 cases l with
 | nil=>rfl
 | cons p r=>obtain ⟨kk,t,f,e,ks⟩:=p;rfl
theorem decl_wf (hL:WL L) {n j:Nat} {p:Pt} (h:decl L n=.ok p j):DcW p∧cnt (pcs 0 p)+1≤4*j:=by
 unfold decl at h
 split at h
 ·unfold func' at h
  obtain ⟨u,k,h2,h3⟩:=next_ok.1 h
  obtain ⟨s,m,h4,h5⟩:=next_ok.1 h3
  obtain ⟨u2,o,h6,h7⟩:=next_ok.1 h5
  obtain ⟨ps,q,h8,h9⟩:=next_ok.1 h7
  obtain ⟨rs,v,h10,h11⟩:=next_ok.1 h9
  obtain ⟨b,w,h12,h13⟩:=next_ok.1 h11
  obtain ⟨rfl,_⟩:=must_ok h2
  obtain ⟨hs,rfl⟩:=name_word hL h4
  obtain ⟨rfl,_⟩:=must_ok h6
  obtain ⟨rfl,rfl⟩:=part_eq h13
  have hp:AllO pcs (PaW kParam) ps 3 q:=by
   split at h8
   ·cases h8;exact (AllO.nil _ _ _).to (by omega)
   ·exact params_wf hL n n _ _ [] h8 (AllO.nil _ _ _)
  have hr:(rs=[]∧q≤v)∨∃ x,rs=[x]∧TyO x q v:=by
   split at h10
   ·cases h10;exact .inl ⟨rfl,Nat.le_refl _⟩
   ·obtain ⟨x,z,h14,h15⟩:=next_ok.1 h10
    cases h15
    exact .inr ⟨x,rfl,typed_wf hL n _ h14⟩
  obtain ⟨⟨b1,b2⟩,b3⟩:=(wfS hL n).block _ _ _ h12
  have q0:=hp.2 0
  have q1:=cnt_commas (ps.map (pcs 0))
  have q2:=b2 0
  refine ⟨.func hs hp.1 ?_ b1 b3,?_⟩
  ·rcases hr with ⟨rfl,_⟩|⟨x,rfl,hx⟩
   ·exact .inl rfl
   ·exact .inr ⟨x,rfl,hx.1⟩
  ·rw [pcs_mk,kdw_func]
   simp only [bodyP,kidAt0,kidAt1,kidAt2,ks_all,cnt_app,cnt_wd,cnt_sp,cnt_nil]
   rcases hr with ⟨rfl,hq⟩|⟨x,rfl,hx⟩
   ·rw [if_pos rfl];simp only [cnt_nil];omega
   ·have:=hx.2 0
    rw [if_neg (by simp)];simp only [kidAt0,cnt_app,cnt_sp,cnt_nil];omega
 ·split at h
  ·obtain ⟨⟨_,h2⟩,h3⟩:=variable_wf hL h
   exact ⟨h3,by have:=h2 0;omega⟩
  ·split at h
   ·unfold record at h
    obtain ⟨u,k,h2,h3⟩:=next_ok.1 h
    obtain ⟨s,m,h4,h5⟩:=next_ok.1 h3
    obtain ⟨u2,o,h6,h7⟩:=next_ok.1 h5
    obtain ⟨u3,q,h8,h9⟩:=next_ok.1 h7
    obtain ⟨l,v,h10,h11⟩:=next_ok.1 h9
    obtain ⟨u4,w,h12,h13⟩:=next_ok.1 h11
    obtain ⟨rfl,_⟩:=must_ok h2
    obtain ⟨hs,rfl⟩:=name_word hL h4
    obtain ⟨rfl,_⟩:=must_ok h6
    obtain ⟨rfl,_⟩:=must_ok h8
    obtain ⟨rfl,_⟩:=must_ok h12
    obtain ⟨rfl,rfl⟩:=part_eq h13
    obtain ⟨b1,b2⟩:=fields_wf hL n n _ _ [] h10 (AllO.nil _ _ _)
    have q0:=b2 0
    dsimp only at q0
    have q1:=cnt_lines 0 (l.map (declared pcs))
    refine ⟨.typ hs b1,?_⟩
    rw [pcs_mk,kdw_typ];simp only [bodyP,cnt_app,cnt_wd,cnt_sp,cnt_nil];omega
   ·cases h
end
end Go.Proofs.YtmclaaonlhnbmaaGreatDoor.H
namespace Go.Proofs.YtmclaaonlhnbmaaGreatDoor.H
open Go.Lib Go.Proofs.YtmclaaonlhnbmaaGreatDoor.U Go.Proofs.YtmclaaonlhnbmaaGreatDoor.S Go.Proofs.YtmclaaonlhnbmaaGreatDoor.T Go.Proofs.YtmclaaonlhnbmaaGreatDoor.K
theorem tw_take (p:UInt8→Bool):∀ r:By,r.take (r.takeWhile p).length=r.takeWhile p
 | []=>rfl
 | c :: r=>by
  rw [List.takeWhile_cons]
  split
  ·rw [List.length_cons,List.take_succ_cons,tw_take p r]
  ·rfl
theorem tw_mem (p:UInt8→Bool):∀ (r:By),∀ c∈r.takeWhile p,p c=true
 | [],_,h=>by cases h
 | c :: r,d,h=>by
  rw [List.takeWhile_cons] at h
  split at h
  ·rename_i hc
   rcases List.mem_cons.1 h with rfl|h
   ·exact hc
   ·exact tw_mem p r d h
  ·cases h
theorem nm_take {l:By} (h:0<nameLen l):isNm (l.take (nameLen l)):=by
 cases l with
 | nil=>simp [nameLen] at h
 | cons c r =>
  simp only [nameLen] at h ⊢
  split at h
  ·rename_i hc
   rw [if_pos hc,show 1+(r.takeWhile nmc).length=(r.takeWhile nmc).length+1 from by omega,List.take_succ_cons,tw_take]
   refine ⟨by simp,?_⟩
   have hs:=tw_stop nmc (a:=r.takeWhile nmc) (r:=[]) (tw_mem nmc r) (fun c hc=>by cases hc)
   rw [List.append_nil] at hs
   rw [nameLen,if_pos hc,hs,List.length_cons];omega
  ·omega
theorem quo_take:∀ {s:By} {n:Nat},quoTail s=some n→quoTail (s.take n)=some n∧n≤s.length
 | [],_,h=>by cases h
 | c :: s,n,h=>by
  rw [quoTail] at h
  by_cases h1:c=10
  ·rw [if_pos h1] at h;cases h
  ·rw [if_neg h1] at h
   by_cases h2:c=34
   ·rw [if_pos h2] at h;cases h
    rw [List.take_succ_cons,quoTail,if_neg h1,if_pos h2];exact ⟨rfl,by simp⟩
   ·rw [if_neg h2] at h
    cases hq:quoTail s with
    | none=>rw [hq] at h;cases h
    | some k =>
     rw [hq] at h;cases h
     obtain ⟨a,b⟩:=quo_take hq
     rw [List.take_succ_cons,quoTail,if_neg h1,if_neg h2,a]
     exact ⟨rfl,Nat.succ_le_succ b⟩
theorem quoT_take {l:By} (h:0<quoLen l):quoLen (l.take (quoLen l))=(l.take (quoLen l)).length∧l.take (quoLen l)≠[]:=by
 cases l with
 | nil=>simp [quoLen] at h
 | cons c r =>
  simp only [quoLen] at h ⊢
  by_cases hc:c=34
  ·rw [if_pos hc] at h ⊢
   cases hq:quoTail r with
   | none=>rw [hq] at h;simp at h
   | some k =>
    obtain ⟨a,b⟩:=quo_take hq
    simp only [List.take_succ_cons]
    refine ⟨?_,by simp⟩
    simp only [if_pos hc,a,List.length_cons,List.length_take];omega
  ·rw [if_neg hc] at h;omega
def VT (t:TokP):Prop:=(t.w=0→VW 0 t.t)∧(t.w=1→VW 1 t.t)∧(t.w=2→VW 2 t.t)
theorem vt_word (right:Bool) (l:By) (f e:Int):VT ⟨(wordL right l).1,l.take (wordL right l).2,f,e⟩:=by
 unfold VT wordL
 by_cases h1:0<nameLen l
 ·rw [if_pos h1]
  cases hk:keyB (l.take (nameLen l)) with
  | true=>exact ⟨by simp,by simp,by simp⟩
  | false=>exact ⟨fun _=>.inl ⟨rfl,nm_take h1,hk⟩,by simp,by simp⟩
 ·rw [if_neg h1]
  by_cases h2:0<numLen l
  ·rw [if_pos h2]
   refine ⟨by simp,fun _=>.inr (.inr (.inl ⟨rfl,?_,?_⟩)),by simp⟩
   ·show l.take (numLen l)≠[]
    unfold numLen at h2 ⊢
    rw [tw_take];intro h;rw [h] at h2;simp at h2
   ·show ∀ c∈l.take (numLen l),figu c=true
    unfold numLen;rw [tw_take];exact tw_mem figu l
  ·rw [if_neg h2]
   by_cases h3:0<quoLen l
   ·rw [if_pos h3]
    obtain ⟨a,b⟩:=quoT_take h3
    exact ⟨by simp,by simp,fun _=>.inr (.inr (.inr (.inl ⟨rfl,b,a⟩)))⟩
   ·rw [if_neg h3]
    split
    ·exact ⟨by simp,by simp,by simp⟩
    ·exact ⟨by simp,by simp,by simp⟩
theorem vt_scan (right:Bool):∀ (n:Nat) (l:By) (pos:Nat) (en:Bool),∀ t∈scanF right n l pos en,VT t
 | 0,_,_,_,t,h=>by rw [scanF] at h;cases h
 | n+1,[],pos,en,t,h=>by
  rw [scanF] at h
  split at h
  ·rw [List.mem_singleton.1 h];exact ⟨by simp,by simp,by simp⟩
  ·cases h
 | n+1,c :: r,pos,en,t,h=>by
  rw [scanF] at h
  split at h
  ·rcases List.mem_cons.1 h with rfl|h
   ·exact ⟨by simp,by simp,by simp⟩
   ·exact vt_scan right n _ _ _ t h
  ·split at h
   ·exact vt_scan right n _ _ _ t h
   ·split at h
    ·exact vt_scan right n _ _ _ t h
    ·rcases List.mem_cons.1 h with rfl|h
     ·exact vt_word right (c :: r) _ _
     ·exact vt_scan right n _ _ _ t h
theorem wl_scan (right:Bool) (l:By):WL (scanB right l):=fun t ht=>vt_scan right _ _ _ _ t ht
end Go.Proofs.YtmclaaonlhnbmaaGreatDoor.H
namespace Go.Proofs.YtmclaaonlhnbmaaGreatDoor.H
open Go.Lib Go.Proofs.YtmclaaonlhnbmaaGreatDoor.U Go.Proofs.YtmclaaonlhnbmaaGreatDoor.S Go.Proofs.YtmclaaonlhnbmaaGreatDoor.T Go.Proofs.YtmclaaonlhnbmaaGreatDoor.K
def Gd:List Pc→By→Prop
 | [],_=>True
 | .wd w t :: r,x=>VW w t∧Sep w t (byt r++x)∧Gd r x
 | .sp l :: r,x=>(∀ c∈l,S.blank c=true)∧Gd r x
theorem gd_good:∀ ps,Gd ps []→Good ps
 | [],_=>trivial
 | .wd w t :: r,⟨h1,h2,h3⟩=>⟨h1,by rw [List.append_nil] at h2;exact h2,gd_good r h3⟩
 | .sp l :: r,⟨h1,h2⟩=>⟨h1,gd_good r h2⟩
theorem gd_app:∀ {a b:List Pc} {x:By},Gd a (byt b++x)→Gd b x→Gd (a++b) x
 | [],_,_,_,h=>h
 | .wd w t :: r,b,x,⟨h1,h2,h3⟩,h=>⟨h1,by show Sep w t (byt (r++b)++x);rw [byt_app,List.append_assoc];exact h2,gd_app h3 h⟩
 | .sp l :: r,b,x,⟨h1,h2⟩,h=>⟨h1,gd_app h2 h⟩
def Fol (x:By):Prop:=∀ c,x.head?=some c→nmc c=false
theorem fol_nil:Fol []:=fun c h=>by cases h
theorem fol_cons {c:UInt8} {r:By} (h:nmc c=false):Fol (c :: r):=fun d hd=>by cases hd;exact h
theorem fig_nmc {c:UInt8} (h:nmc c=false):figu c=false:=by unfold nmc at h;exact (Bool.or_eq_false_iff.1 h).2
theorem sep_lit {w:Int} {t x:By} (hw:w≠4) (hx:Fol x):Sep w t x:=⟨fun _=>hx,fun _ c hc=>fig_nmc (hx c hc),fun h=>absurd h hw⟩
theorem sep_two {a b:UInt8} {x:By}:Sep 4 [a,b] x:=⟨fun h=>by omega,fun h=>by omega,fun _ h=>by cases h⟩
theorem sep_one {a:UInt8} {x:By} (h:∀ c,x.head?=some c→two [a,c]=false∧¬ (a=47∧c=47)):Sep 4 [a] x :=
 ⟨fun h=>by omega,fun h=>by omega,fun _ _ c hc=>⟨(h c hc).1,fun e=>(h c hc).2 ⟨by have:=e.1;simpa using this,e.2⟩⟩⟩
theorem sep_alone {a:UInt8} {x:By} (h:a=40∨a=41∨a=123∨a=125∨a=91∨a=93∨a=44∨a=46∨a=42∨a=45):Sep 4 [a] x:=by
 refine sep_one fun c _=>?_
 rcases h with rfl|rfl|rfl|rfl|rfl|rfl|rfl|rfl|rfl|rfl <;> exact ⟨by simp [two],by simp⟩
theorem sep_sp {a:UInt8} {x:By}:Sep 4 [a] (32 :: x):=sep_one fun c hc=>by
 cases hc
 exact ⟨by simp [two],by simp⟩
theorem vw_mark {t:By} (h:t∈marksL):VW 4 t:=.inr (.inr (.inr (.inr ⟨rfl,h⟩)))
theorem sep_mark {t x:By} (h:t∈marksL):Sep 4 t (32 :: x):=by
 simp only [marksL,List.mem_cons,List.not_mem_nil,or_false] at h
 rcases h with h|h|h|h|h|h|h|h|h|h|h|h|h|h|h|h|h|h|h|h|h|h|h|h|h <;> rw [h] <;> first|exact sep_sp|exact sep_two
theorem bl32:∀ c∈([32]:By),S.blank c=true:=by decide
theorem bl_tabs (n:Nat):∀ c∈(10 :: tabs n:By),S.blank c=true:=fun c hc=>by
 rcases List.mem_cons.1 hc with rfl|hc
 ·rfl
 ·rw [List.eq_of_mem_replicate hc];rfl
theorem gd_key {t:By} {r:List Pc} {x:By} (ht:isNm t) (hk:keyB t=true) (hx:Fol (byt r++x)) (h:Gd r x):Gd (.wd 3 t :: r) x:=⟨.inr (.inl ⟨rfl,ht,hk⟩),sep_lit (by decide) hx,h⟩
theorem gd_nm {t:By} {r:List Pc} {x:By} (ht:VW 0 t) (hx:Fol (byt r++x)) (h:Gd r x):Gd (.wd 0 t :: r) x:=⟨ht,sep_lit (by decide) hx,h⟩
theorem gd_one {a:UInt8} {r:List Pc} {x:By} (h:a=40∨a=41∨a=123∨a=125∨a=91∨a=93∨a=44∨a=46∨a=42∨a=45) (hr:Gd r x):Gd (.wd 4 [a] :: r) x :=
 ⟨vw_mark (by rcases h with rfl|rfl|rfl|rfl|rfl|rfl|rfl|rfl|rfl|rfl <;> decide),sep_alone h,hr⟩
theorem gd_sp {r:List Pc} {x:By} (h:Gd r x):Gd (.sp [32] :: r) x:=⟨bl32,h⟩
theorem gd_held {b:Bool} {l:List Pc} {x:By} (h:∀ y,Fol y→Gd l y) (hx:Fol x):Gd (held b l) x:=by
 unfold held
 cases b with
 | false=>exact h x hx
 | true=>exact gd_one (by decide) (gd_app (h _ (fol_cons rfl)) (gd_one (by decide) trivial))
theorem gd_sepd:∀ {l:List (List Pc)} {x:By},(∀ q∈l,∀ y,Fol y→Gd q y)→Fol x→Gd (l.map fun y=>Pc.wd 4 [44] :: .sp [32] :: y).flatten x∧Fol (byt (l.map fun y=>Pc.wd 4 [44] :: .sp [32] :: y).flatten++x)
 | [],_,_,hx=>⟨trivial,hx⟩
 | q :: l,x,h,hx=>by
  obtain ⟨a,b⟩:=gd_sepd (fun q hq=>h q (List.mem_cons_of_mem _ hq)) hx
  rw [List.map_cons,List.flatten_cons]
  exact ⟨gd_app (gd_one (by decide) (gd_sp (h q List.mem_cons_self _ b))) a,fol_cons rfl⟩
theorem gd_commas {l:List (List Pc)} {x:By} (h:∀ q∈l,∀ y,Fol y→Gd q y) (hx:Fol x):Gd (commas l) x:=by
 cases l with
 | nil=>trivial
 | cons q l =>
  obtain ⟨a,b⟩:=gd_sepd (fun q hq=>h q (List.mem_cons_of_mem _ hq)) hx
  exact gd_app (h q List.mem_cons_self _ b) a
theorem gd_rows (ind:Nat):∀ {l:List (List Pc)} {x:By},(∀ q∈l,∀ y,Fol y→Gd q y)→Fol x→Gd (l.map fun y=>Pc.sp (10 :: tabs (ind+1)) :: y).flatten x∧Fol (byt (l.map fun y=>Pc.sp (10 :: tabs (ind+1)) :: y).flatten++x)
 | [],_,_,hx=>⟨trivial,hx⟩
 | q :: l,x,h,hx=>by
  obtain ⟨a,b⟩:=gd_rows ind (fun q hq=>h q (List.mem_cons_of_mem _ hq)) hx
  rw [List.map_cons,List.flatten_cons]
  refine ⟨gd_app ⟨bl_tabs _,h q List.mem_cons_self _ b⟩ a,?_⟩
  rw [List.cons_append,byt_sp];exact fol_cons rfl
theorem gd_lines (ind:Nat) {l:List (List Pc)} {x:By} (h:∀ q∈l,∀ y,Fol y→Gd q y):Gd (linesP ind l) x:=by
 unfold linesP
 refine gd_one (by decide) (gd_app (gd_rows ind h ?_).1 (gd_app ?_ (gd_one (by decide) trivial)))
 ·split
  ·exact fol_cons rfl
  ·exact fol_cons rfl
 ·split
  ·trivial
  ·exact ⟨bl_tabs _,trivial⟩
theorem gd_called {t:By} {l:List (List Pc)} {x:By} (ht:VW 0 t) (h:∀ q∈l,∀ y,Fol y→Gd q y):Gd (called t l) x:=by
 unfold called
 exact gd_nm ht (fol_cons rfl) (gd_one (by decide) (gd_app (gd_commas h (fol_cons rfl)) (gd_one (by decide) trivial)))
theorem vw_new:VW 0 kNew:=.inl ⟨rfl,⟨by decide,rfl⟩,rfl⟩
theorem vw_make:VW 0 kMake:=.inl ⟨rfl,⟨by decide,rfl⟩,rfl⟩
theorem ty_gd:∀ {p:Pt},TyW p→∀ ind x,Fol x→Gd (pcs ind p) x:=by
 intro p h
 induction h with
 | name ht=>intro ind x hx;rw [pcs_mk,kdw_name];exact gd_nm ht hx trivial
 | star _ ih=>intro ind x hx;rw [pcs_mk,kdw_star];exact gd_one (by decide) (ih ind x hx)
 | slice _ ih=>intro ind x hx;rw [pcs_mk,kdw_slice];exact gd_one (by decide) (gd_one (by decide) (ih ind x hx))
def Hd (p:Pt) (c:UInt8):Prop:=c≠61∧(c=38→(kindP p=kUnary∧textP p=[38])∨kindP p=kBinary)
theorem vw_head {w:Int} {t:By} (h:VW w t) (hw:w=0∨w=1∨w=2):∃ c s,t=c :: s∧c≠61∧c≠38:=by
 rcases h with ⟨_,⟨h0,h1⟩,_⟩|⟨rfl,_⟩|⟨_,h0,h1⟩|⟨_,h0,h1⟩|⟨rfl,_⟩
 ·cases t with
  | nil=>exact absurd rfl h0
  | cons c s =>
   refine ⟨c,s,rfl,?_,?_⟩ <;> (rintro rfl;simp [nameLen,show lett 61=false from rfl,show lett 38=false from rfl] at h1)
 ·omega
 ·cases t with
  | nil=>exact absurd rfl h0
  | cons c s =>
   have:=h1 c List.mem_cons_self
   refine ⟨c,s,rfl,?_,?_⟩ <;> (rintro rfl;revert this;decide)
 ·cases t with
  | nil=>exact absurd rfl h0
  | cons c s =>
   refine ⟨c,s,rfl,?_,?_⟩ <;> (rintro rfl;simp [quoLen] at h1)
 ·omega
theorem hd_lit {w:Int} {t:By} {p:Pt} {r:List Pc} (h:VW w t) (hw:w=0∨w=1∨w=2):∃ c s,byt (.wd w t :: r)=c :: s∧Hd p c:=by
 obtain ⟨c,s,rfl,h1,h2⟩:=vw_head h hw
 exact ⟨c,s++byt r,by rw [byt_wd];rfl,h1,fun e=>absurd e h2⟩
theorem hd_held {b:Bool} {l r:List Pc} {a p:Pt} (h:∃ c s,byt l=c :: s∧Hd a c) (hp:b=false→∀ c,Hd a c→Hd p c):∃ c s,byt (held b l++r)=c :: s∧Hd p c:=by
 cases b with
 | true=>exact ⟨40,_,rfl,by decide,fun e=>absurd e (by decide)⟩
 | false =>
  obtain ⟨c,s,e,hc⟩:=h
  exact ⟨c,s++byt r,by rw [byt_app];unfold held;simp only [Bool.false_eq_true,if_false];rw [e];rfl,hp rfl c hc⟩
theorem hd_tail {a:Pt} (ho:oHeld a=false) {p:Pt} (c:UInt8) (h:Hd a c):Hd p c:=by
 unfold oHeld at ho
 rw [Bool.or_eq_false_iff] at ho
 refine ⟨h.1,fun e=>?_⟩
 rcases h.2 e with h|h
 ·exact absurd h.1 (by simpa using ho.2)
 ·exact absurd h (by simpa using ho.1)
theorem ex_head {p:Pt} (h:ExW p) (ind:Nat):∃ c s,byt (pcs ind p)=c :: s∧Hd p c:=by
 induction h with
 | num ht=>rw [pcs_mk,kdw_num];exact hd_lit ht (by decide)
 | str ht=>rw [pcs_mk,kdw_str];exact hd_lit ht (by decide)
 | id ht=>rw [pcs_mk,kdw_id];exact hd_lit ht (by decide)
 | call ht _ _ _ _=>rw [pcs_mk,kdw_call];exact hd_lit ht (by decide)
 | new' _=>rw [pcs_mk,kdw_new];exact hd_lit vw_new (by decide)
 | make' _ _ _=>rw [pcs_mk,kdw_make];exact hd_lit vw_make (by decide)
 | field _ _ ih=>rw [pcs_mk,kdw_field];exact hd_held ih fun hb c hc=>hd_tail hb c hc
 | index _ _ ih _=>rw [pcs_mk,kdw_index];exact hd_held ih fun hb c hc=>hd_tail hb c hc
 | unary ht _ _ =>
  rw [pcs_mk,kdw_unary]
  simp only [List.mem_cons,List.not_mem_nil,or_false] at ht
  rcases ht with rfl|rfl|rfl|rfl
  ·exact ⟨38,_,rfl,by decide,fun _=>.inl ⟨rfl,rfl⟩⟩
  ·exact ⟨42,_,rfl,by decide,fun e=>absurd e (by decide)⟩
  ·exact ⟨45,_,rfl,by decide,fun e=>absurd e (by decide)⟩
  ·exact ⟨33,_,rfl,by decide,fun e=>absurd e (by decide)⟩
 | binary _ _ _ _ ih _=>rw [pcs_mk,kdw_binary];exact hd_held ih fun _ c hc=>⟨hc.1,fun _=>.inr rfl⟩
theorem un_sep {t x:By} (ht:t∈[[38],[42],[45],[33]]) (h:∃ c s,x=c :: s∧c≠61∧(t=[38]→c≠38)):Sep 4 t x:=by
 obtain ⟨c,s,rfl,h1,h2⟩:=h
 simp only [List.mem_cons,List.not_mem_nil,or_false] at ht
 rcases ht with rfl|rfl|rfl|rfl
 ·refine sep_one fun d hd=>?_
  cases hd
  have:=h2 rfl
  exact ⟨by simp [two,this],by simp⟩
 ·exact sep_alone (by decide)
 ·exact sep_alone (by decide)
 ·refine sep_one fun d hd=>?_
  cases hd
  exact ⟨by simp [two,h1],by simp⟩
theorem ex_gd {p:Pt} (h:ExW p):∀ ind x,Fol x→Gd (pcs ind p) x:=by
 induction h with
 | num ht=>intro ind x hx;rw [pcs_mk,kdw_num];exact ⟨ht,sep_lit (by decide) hx,trivial⟩
 | str ht=>intro ind x hx;rw [pcs_mk,kdw_str];exact ⟨ht,sep_lit (by decide) hx,trivial⟩
 | id ht=>intro ind x hx;rw [pcs_mk,kdw_id];exact gd_nm ht hx trivial
 | call ht _ _ _ ih =>
  intro ind x hx;rw [pcs_mk,kdw_call]
  refine gd_called ht fun q hq=>?_
  obtain ⟨k,hk,rfl⟩:=List.mem_map.1 hq
  exact ih k hk ind
 | new' hx =>
  intro ind x _;rw [pcs_mk,kdw_new]
  refine gd_called vw_new fun q hq=>?_
  obtain ⟨k,hk,rfl⟩:=List.mem_map.1 hq
  rw [List.mem_singleton.1 hk];exact ty_gd hx ind
 | make' hx hy ih =>
  intro ind x _;rw [pcs_mk,kdw_make]
  refine gd_called vw_make fun q hq=>?_
  obtain ⟨k,hk,rfl⟩:=List.mem_map.1 hq
  rcases List.mem_cons.1 hk with rfl|hk
  ·exact ty_gd hx ind
  ·rw [List.mem_singleton.1 hk];exact ih ind
 | field ht _ ih=>intro ind x hx;rw [pcs_mk,kdw_field];exact gd_app (gd_held (ih ind) (fol_cons rfl)) (gd_one (by decide) (gd_nm ht hx trivial))
 | index _ _ ih ih2=>intro ind x hx;rw [pcs_mk,kdw_index];exact gd_app (gd_held (ih ind) (fol_cons rfl)) (gd_one (by decide) (gd_app (ih2 ind _ (fol_cons rfl)) (gd_one (by decide) trivial)))
 | @unary a t f e ht ha ih =>
  intro ind x hx
  rw [pcs_mk,kdw_unary]
  refine ⟨vw_mark (by simp only [List.mem_cons,List.not_mem_nil,or_false] at ht;rcases ht with rfl|rfl|rfl|rfl <;> decide),un_sep ht ?_,gd_held (ih ind) hx⟩
  rw [kidAt0]
  cases hu:uHeld t a with
  | true=>exact ⟨40,_,rfl,by decide,fun _=>by decide⟩
  | false =>
   obtain ⟨c,s,e1,e2,e3⟩:=ex_head ha ind
   refine ⟨c,s++x,?_,e2,fun e4 e5=>?_⟩
   ·unfold held;simp only [Bool.false_eq_true,if_false];rw [e1];rfl
   ·unfold uHeld at hu
    rw [Bool.or_eq_false_iff] at hu
    rcases e3 e5 with ⟨k1,k2⟩|k1
    ·have:=hu.2;rw [e4,k1,k2] at this;simp at this
    ·have:=hu.1;rw [k1] at this;simp at this
 | binary _ ht _ _ ih ih2 =>
  intro ind x hx
  rw [pcs_mk,kdw_binary]
  exact gd_app (gd_held (ih ind) (fol_cons rfl)) (gd_sp ⟨vw_mark ht,sep_mark ht,gd_sp (gd_held (ih2 ind) hx)⟩)
theorem key_nm (k:By) (h:keyB k=true):isNm k:=by
 unfold keyB at h
 simp only [Bool.or_eq_true,beq_iff_eq] at h
 rcases h with ((((((rfl|rfl)|rfl)|rfl)|rfl)|rfl)|rfl)|rfl <;> exact ⟨by decide,rfl⟩
theorem st_gd {p:Pt} (h:StW p):∀ ind x,Fol x→Gd (pcs ind p) x:=by
 induction h with
 | var ht hx=>intro ind x hf;rw [pcs_mk,kdw_var];exact gd_key (key_nm _ rfl) rfl (fol_cons rfl) (gd_sp (gd_nm ht (fol_cons rfl) (gd_sp (ty_gd hx ind x hf))))
 | block _ ih =>
  intro ind x hf;rw [pcs_mk,kdw_block]
  refine gd_lines ind fun q hq=>?_
  obtain ⟨k,hk,rfl⟩:=List.mem_map.1 hq
  exact ih k hk (ind+1)
 | if2 hc _ _ ih =>
  intro ind x hf;rw [pcs_mk,kdw_if]
  simp only [bodyP,kidAt0,kidAt1]
  rw [if_neg (by simp),List.append_nil]
  simp only [List.cons_append,List.nil_append]
  exact gd_key (key_nm _ rfl) rfl (fol_cons rfl) (gd_sp (gd_app (ex_gd hc ind _ (fol_cons rfl)) (gd_sp (ih ind _ hf))))
 | if3 hc _ _ _ _ ih ih2 =>
  intro ind x hf;rw [pcs_mk,kdw_if]
  simp only [bodyP,kidAt0,kidAt1,kidAt2]
  rw [if_pos (by simp)]
  simp only [List.cons_append,List.nil_append]
  exact gd_key (key_nm _ rfl) rfl (fol_cons rfl) (gd_sp (gd_app (ex_gd hc ind _ (fol_cons rfl)) (gd_sp (gd_app (ih ind _ (fol_cons rfl)) (gd_sp (gd_key (key_nm _ rfl) rfl (fol_cons rfl) (gd_sp (ih2 ind x hf))))))))
 | for' hc _ _ ih =>
  intro ind x hf;rw [pcs_mk,kdw_for]
  simp only [bodyP,kidAt0,kidAt1,List.cons_append,List.nil_append]
  exact gd_key (key_nm _ rfl) rfl (fol_cons rfl) (gd_sp (gd_app (ex_gd hc ind _ (fol_cons rfl)) (gd_sp (ih ind x hf))))
 | ret0=>intro ind x hf;rw [pcs_mk,kdw_ret];exact gd_key (key_nm _ rfl) rfl hf trivial
 | ret hc=>intro ind x hf;rw [pcs_mk,kdw_ret];exact gd_key (key_nm _ rfl) rfl (fol_cons rfl) (gd_sp (ex_gd hc ind x hf))
 | assign ha hb=>intro ind x hf;rw [pcs_mk,kdw_assign];exact gd_app (ex_gd ha ind _ (fol_cons rfl)) (gd_sp ⟨vw_mark (by decide),sep_sp,gd_sp (ex_gd hb ind x hf)⟩)
 | define ha hb=>intro ind x hf;rw [pcs_mk,kdw_define];exact gd_app (ex_gd ha ind _ (fol_cons rfl)) (gd_sp ⟨vw_mark (by decide),sep_two,gd_sp (ex_gd hb ind x hf)⟩)
 | expr ha=>intro ind x hf;rw [pcs_mk,kdw_expr];exact ex_gd ha ind x hf
theorem dc_gd {p:Pt} (h:DcW p):Gd (pcs 0 p) []:=by
 cases h with
 | func ht hp hr hb hk =>
  rw [pcs_mk,kdw_func]
  simp only [bodyP,kidAt0,kidAt1,kidAt2,ks_all,List.cons_append,List.nil_append]
  refine gd_key (key_nm _ rfl) rfl (fol_cons rfl) (gd_sp (gd_nm ht (fol_cons rfl) (gd_one (by decide) (gd_app (gd_commas (fun q hq=>?_) (fol_cons rfl)) (gd_one (by decide) (gd_sp (gd_app ?_ (st_gd hb 0 _ fol_nil))))))))
  ·obtain ⟨k,hk,rfl⟩:=List.mem_map.1 hq
   cases hp k hk with
   | mk h1 h2=>intro y hy;rw [pcs_mk,kdw_param];exact gd_nm h1 (fol_cons rfl) (gd_sp (ty_gd h2 0 y hy))
  ·rcases hr with rfl|⟨x,rfl,hx⟩
   ·trivial
   ·rw [if_neg (by simp)]
    exact gd_app (ty_gd hx 0 _ (fol_cons rfl)) (gd_sp trivial)
 | var ht hx=>exact st_gd (.var ht hx) 0 _ fol_nil
 | typ ht hp =>
  rw [pcs_mk,kdw_typ]
  refine gd_key (key_nm _ rfl) rfl (fol_cons rfl) (gd_sp (gd_nm ht (fol_cons rfl) (gd_sp (gd_key (key_nm _ rfl) rfl (fol_cons rfl) (gd_sp (gd_lines 0 fun q hq=>?_))))))
  obtain ⟨k,hk,rfl⟩:=List.mem_map.1 hq
  cases hp k hk with
  | mk h1 h2 =>
   intro y hy
   unfold declared
   rw [if_pos (show kindP _=kField from rfl)]
   exact gd_nm h1 (fol_cons rfl) (gd_sp (ty_gd h2 1 y hy))
end Go.Proofs.YtmclaaonlhnbmaaGreatDoor.H
namespace Go.Proofs.YtmclaaonlhnbmaaGreatDoor.H
open Go.Lib Go.Proofs.YtmclaaonlhnbmaaGreatDoor.U Go.Proofs.YtmclaaonlhnbmaaGreatDoor.S Go.Proofs.YtmclaaonlhnbmaaGreatDoor.T Go.Proofs.YtmclaaonlhnbmaaGreatDoor.K
def At (L:List TokP) (i:Nat) (ws:List Wd):Prop:=∃ post,(L.drop i).map wt=ws++post
def Wt (L:List TokP) (i:Nat) (w:Int) (t:By):Prop:=∃ k,L[i]?=some k∧k.w=w∧k.t=t
section
variable {L:List TokP}
theorem at_cons {i:Nat} {w:Int} {t:By} {r:List Wd} (h:At L i ((w,t) :: r)):Wt L i w t∧At L (i+1) r:=by
 obtain ⟨post,h⟩:=h
 cases hd:L.drop i with
 | nil=>rw [hd] at h;cases h
 | cons k s =>
  rw [hd,List.map_cons,List.cons_append] at h
  obtain ⟨h1,h2⟩:=List.cons.inj h
  have hk:L[i]?=some k:=by rw [← List.head?_drop,hd];rfl
  refine ⟨⟨k,hk,by have:=congrArg Prod.fst h1;exact this,by have:=congrArg Prod.snd h1;exact this⟩,post,?_⟩
  rw [← List.drop_drop,hd];exact h2
theorem at_app:∀ {a b:List Wd} {i:Nat},At L i (a++b)→At L i a∧At L (i+a.length) b
 | [],b,i,h=>⟨⟨(L.drop i).map wt,rfl⟩,h⟩
 | (w,t) :: a,b,i,h=>by
  obtain ⟨_,h2⟩:=at_cons (h:At L i ((w,t) :: (a++b)))
  obtain ⟨_,h4⟩:=at_app h2
  refine ⟨?_,by rw [List.length_cons,show i+(a.length+1)=i+1+a.length from by omega];exact h4⟩
  obtain ⟨post,h⟩:=h
  exact ⟨b++post,by rw [h,List.append_assoc]⟩
theorem isT_at {i:Nat} {w:Int} {t:By} (h:Wt L i w t) (x:By):isT L x i=(t==x&&(w==4||w==3)):=by
 obtain ⟨k,h1,rfl,rfl⟩:=h
 unfold isT;rw [h1]
theorem comes_at {i:Nat} {w:Int} {t:By} (h:Wt L i w t) (v:Int):comesT L v i=(w==v):=by
 obtain ⟨k,h1,rfl,rfl⟩:=h
 unfold comesT;rw [h1]
theorem text_at {i:Nat} {w:Int} {t:By} (h:Wt L i w t):textT L i=t:=by
 obtain ⟨k,h1,rfl,rfl⟩:=h
 unfold textT;rw [h1]
theorem len_at {i:Nat} {w:Int} {t:By} (h:Wt L i w t):i<L.length:=by
 obtain ⟨k,h1,_⟩:=h
 exact (List.getElem?_eq_some_iff.1 h1).1
theorem name_at {i:Nat} {t:By} (h:Wt L i 0 t):nameT L i=.ok t (i+1):=by
 unfold nameT;rw [comes_at h,text_at h];rfl
theorem must_at {i:Nat} {w:Int} {t:By} (h:Wt L i w t) (hw:w=4∨w=3):mustT L t i=.ok () (i+1):=by
 unfold mustT;rw [isT_at h]
 rcases hw with rfl|rfl <;> simp
theorem is_mark {i:Nat} {w:Int} {t:By} (h:Wt L i w t) (hw:w=4∨w=3):isT L t i=true:=by
 rw [isT_at h];rcases hw with rfl|rfl <;> simp
theorem not_low {i:Nat} {w:Int} {t:By} (h:Wt L i w t) (hw:w=0∨w=1∨w=2∨w=5) (x:By):isT L x i=false:=by
 rw [isT_at h];rcases hw with rfl|rfl|rfl|rfl <;> simp
theorem not_text {i:Nat} {w:Int} {t x:By} (h:Wt L i w t) (hx:t≠x):isT L x i=false:=by
 rw [isT_at h];simp [hx]
theorem strong_at {i:Nat} {t:By} (h:Wt L i 4 t):strongT L i=strB t:=by
 obtain ⟨k,h1,h2,rfl⟩:=h
 unfold strongT;rw [h1];unfold strong strB
 simp only [h2,if_true]
 repeat' split
 all_goals rfl
theorem strong_low {i:Nat} {w:Int} {t:By} (h:Wt L i w t) (hw:w≠4):strongT L i=0:=by
 obtain ⟨k,h1,rfl,rfl⟩:=h
 unfold strongT;rw [h1];unfold strong
 simp only [if_neg hw]
end
def Tell (p:Pt) (ws:List Wd):Prop:=∀ ind en,wds (pcs ind p) en=(ws,true)
def TyR (p:Pt) (ws:List Wd):Prop:=∀ (L:List TokP) (i n:Nat),At L i ws→ws.length≤n→∃ q,strip q=strip p∧typed L n i=.ok q (i+ws.length)
def TyF (ws:List Wd):Prop:=∃ w t r,ws=(w,t) :: r∧(w=0∨w=4∧(t=[42]∨t=[91]))
theorem strip_mk {k t:By} {f e f' e':Int} {ks ks':List Pt} (h:stripL ks=stripL ks'):strip (.mk k t f e ks)=strip (.mk k t f' e' ks'):=by rw [strip,strip,h]
theorem strip1 {x y:Pt} (h:strip x=strip y):stripL [x]=stripL [y]:=by simp only [stripL,h]
theorem strip2 {x y a b:Pt} (h:strip x=strip y) (k:strip a=strip b):stripL [x,a]=stripL [y,b]:=by simp only [stripL,h,k]
theorem wds_wd (w:Int) (t:By) (r:List Pc) (en:Bool):wds (.wd w t :: r) en=((w,t) :: (wds r (endsP w t)).1,(wds r (endsP w t)).2):=rfl
theorem wds_sp (r:List Pc) (en:Bool):wds (.sp [32] :: r) en=wds r en:=by
 rw [wds,if_neg (by rintro ⟨_,h⟩;revert h;decide)]
theorem wds_nil (en:Bool):wds [] en=([],en):=rfl
theorem ty_read {p:Pt} (h:TyW p):∃ ws,Tell p ws∧TyF ws∧TyR p ws:=by
 induction h with
 | @name t f e ht =>
  refine ⟨[(0,t)],fun ind en=>by rw [pcs_mk,kdw_name];rfl,⟨0,t,[],rfl,.inl rfl⟩,fun L i n ha hn=>?_⟩
  obtain ⟨n,rfl⟩:∃ k,n=k+1:=⟨n - 1,by simp only [List.length_cons] at hn;omega⟩
  obtain ⟨h1,_⟩:=at_cons ha
  exact ⟨_,strip_mk rfl,by unfold typed;rw [not_low h1 (.inl rfl),not_low h1 (.inl rfl),name_at h1];rfl⟩
 | @star x f e _ ih =>
  obtain ⟨ws,h1,_,h3⟩:=ih
  refine ⟨(4,[42]) :: ws,fun ind en=>by rw [pcs_mk,kdw_star];simp only [bodyP,kidAt0,wds_wd,h1 ind],⟨4,_,_,rfl,.inr ⟨rfl,.inl rfl⟩⟩,fun L i n ha hn=>?_⟩
  simp only [List.length_cons] at hn ⊢
  obtain ⟨n,rfl⟩:∃ k,n=k+1:=⟨n - 1,by omega⟩
  obtain ⟨a1,a2⟩:=at_cons ha
  obtain ⟨q,hq,e1⟩:=h3 L (i+1) n a2 (by omega)
  refine ⟨.mk kStar [] (fromT L i) (toT L (i+(ws.length+1))) [q],strip_mk (strip1 hq),?_⟩
  rw [typed,if_pos (is_mark a1 (.inl rfl)),e1,show i+(ws.length+1)=i+1+ws.length from by omega];rfl
 | @slice x f e _ ih =>
  obtain ⟨ws,h1,_,h3⟩:=ih
  refine ⟨(4,[91]) :: (4,[93]) :: ws,fun ind en=>by rw [pcs_mk,kdw_slice];simp only [bodyP,kidAt0,wds_wd,h1 ind],⟨4,_,_,rfl,.inr ⟨rfl,.inr rfl⟩⟩,fun L i n ha hn=>?_⟩
  simp only [List.length_cons] at hn ⊢
  obtain ⟨n,rfl⟩:∃ k,n=k+1:=⟨n - 1,by omega⟩
  obtain ⟨a1,a2⟩:=at_cons ha
  obtain ⟨a3,a4⟩:=at_cons a2
  obtain ⟨q,hq,e1⟩:=h3 L (i+1+1) n a4 (by omega)
  refine ⟨.mk kSlice [] (fromT L i) (toT L (i+(ws.length+1+1))) [q],strip_mk (strip1 hq),?_⟩
  rw [typed,not_text a1 (by decide),is_mark a1 (.inl rfl),must_at a3 (.inl rfl)]
  simp only [Bool.false_eq_true,if_false,if_true,Out.next]
  rw [e1,show i+(ws.length+1+1)=i+1+1+ws.length from by omega];rfl
def NoT (L:List TokP) (j:Nat):Prop:=isT L [46] j=false∧isT L [91] j=false∧isT L [40] j=false
def TT (p:Pt) (ws:List Wd):Prop:=∀ (L:List TokP) (i n:Nat) (f:Int),At L i ws→8*ws.length≤n→isT L [40] (i+ws.length)=false →
 ∃ q m,strip q=strip p∧n+4≤m+8*ws.length∧((operand L n i).next fun a j=>tails L n f a j)=tails L m f q (i+ws.length)
def PP (p:Pt) (ws:List Wd):Prop:=∀ (L:List TokP) (i n:Nat),At L i ws→8*ws.length+1≤n→NoT L (i+ws.length) →
 ∃ q,strip q=strip p∧prefixT L n i=.ok q (i+ws.length)
def EE (lvl:Nat) (p:Pt) (ws:List Wd):Prop:=∀ (L:List TokP) (i n:Nat) (than:Int),At L i ws→8*ws.length+2≤n→0≤than→than<lvl→strongT L (i+ws.length)≤lvl→NoT L (i+ws.length) →
 ∃ q m,strip q=strip p∧n+4≤m+8*ws.length∧expr L n than i=exprs L m than (fromT L i) q (i+ws.length)
def TF (ws:List Wd):Prop:=∃ w t r,ws=(w,t) :: r∧(w=0∨w=1∨w=2∨w=4∧t=[40])
def EF (ws:List Wd):Prop:=∃ w t r,ws=(w,t) :: r∧(w=0∨w=1∨w=2∨w=4∧(t=[40]∨t∈[[38],[42],[45],[33]]))
theorem TF.ef {ws:List Wd} (h:TF ws):EF ws:=by
 obtain ⟨w,t,r,rfl,h⟩:=h
 refine ⟨w,t,r,rfl,?_⟩
 rcases h with h|h|h|⟨h,k⟩
 ·exact .inl h
 ·exact .inr (.inl h)
 ·exact .inr (.inr (.inl h))
 ·exact .inr (.inr (.inr ⟨h,.inl k⟩))
theorem tails_stop {L:List TokP} {m:Nat} {f:Int} {q:Pt} {j:Nat} (hm:0<m) (h:NoT L j):tails L m f q j=.ok q j:=by
 obtain ⟨m,rfl⟩:∃ k,m=k+1:=⟨m - 1,by omega⟩
 rw [tails,h.1,h.2.1];rfl
theorem exprs_stop {L:List TokP} {m:Nat} {than f:Int} {q:Pt} {j:Nat} (hm:0<m) (h:strongT L j≤than):exprs L m than f q j=.ok q j:=by
 obtain ⟨m,rfl⟩:∃ k,m=k+1:=⟨m - 1,by omega⟩
 rw [exprs,if_neg (by rintro ⟨_,h2⟩;omega)]
theorem tt_pp {p:Pt} {ws:List Wd} (hf:TF ws) (h:TT p ws):PP p ws:=by
 intro L i n ha hn hx
 obtain ⟨n,rfl⟩:∃ k,n=k+1:=⟨n - 1,by omega⟩
 obtain ⟨q,m,h1,h2,h3⟩:=h L i n (fromT L i) ha (by omega) hx.2.2
 refine ⟨q,h1,?_⟩
 have hw:∀ x∈([[38],[42],[45],[33]]:List By),isT L x i=false:=by
  obtain ⟨w,t,r,rfl,hw⟩:=hf
  obtain ⟨a,_⟩:=at_cons ha
  intro x hm
  rcases hw with rfl|rfl|rfl|⟨rfl,rfl⟩
  ·exact not_low a (.inl rfl) x
  ·exact not_low a (.inr (.inl rfl)) x
  ·exact not_low a (.inr (.inr (.inl rfl))) x
  ·refine not_text a (fun e=>?_)
   rw [← e] at hm;revert hm;decide
 rw [prefixT,hw _ (by simp),hw _ (by simp),hw _ (by simp),hw _ (by simp)]
 simp only [Bool.false_eq_true,if_false]
 rw [h3,tails_stop (by omega) hx]
theorem pp_ee {p:Pt} {ws:List Wd} (hw:0<ws.length) (h:PP p ws):EE 6 p ws:=by
 intro L i n than ha hn _ _ _ hx
 obtain ⟨n,rfl⟩:∃ k,n=k+1:=⟨n - 1,by omega⟩
 obtain ⟨q,h1,h2⟩:=h L i n ha (by omega) hx
 refine ⟨q,n,h1,by omega,?_⟩
 rw [expr,h2];rfl
theorem ee_tt {lvl:Nat} {p:Pt} {ws:List Wd} (hl:0<lvl) (h:EE lvl p ws):TT p ((4,[40]) :: (ws++[(4,[41])])):=by
 intro L i n f ha hn _
 simp only [List.length_cons,List.length_append,List.length_nil] at hn ⊢
 obtain ⟨n,rfl⟩:∃ k,n=k+1:=⟨n - 1,by omega⟩
 obtain ⟨a1,a2⟩:=at_cons ha
 obtain ⟨a3,a4⟩:=at_app a2
 obtain ⟨a5,_⟩:=at_cons a4
 have hs:strongT L (i+1+ws.length)=0:=by rw [strong_at a5];rfl
 obtain ⟨q,m,h1,h2,h3⟩:=h L (i+1) n 0 a3 (by omega) (Int.le_refl 0) (by omega) (by omega) ⟨not_text a5 (by decide),not_text a5 (by decide),not_text a5 (by decide)⟩
 refine ⟨q,n+1,h1,by omega,?_⟩
 rw [operand,comes_at a1,comes_at a1,is_mark a1 (.inl rfl),h3,exprs_stop (by omega) (by rw [hs];omega)]
 simp only [Out.next]
 rw [must_at a5 (.inl rfl)]
 simp only [show ((4:Int)==1)=false from rfl,show ((4:Int)==2)=false from rfl,Bool.false_eq_true,if_false,if_true]
 rw [show i+(ws.length+(0+1)+1)=i+1+ws.length+1 from by omega]
def lvl (p:Pt):Nat:=if kindP p=kBinary then strB (textP p) else 6
theorem strB_le (t:By):strB t≤5:=by
 unfold strB
 repeat' split
 all_goals omega
theorem lvl_of {k t:By} {f e:Int} {ks:List Pt} (h:k≠kBinary):lvl (.mk k t f e ks)=6:=if_neg h
theorem ex_lvl {p:Pt} (h:ExW p):0<lvl p:=by
 cases h with
 | binary h=>exact h
 | _=>rw [lvl_of (by decide)];omega
structure ER (p:Pt) (ws:List Wd):Prop where
 tell:Tell p ws
 first:EF ws
 ee:EE (lvl p) p ws
 pp:kindP p≠kBinary→PP p ws
 tt:kindP p≠kBinary→kindP p≠kUnary→TF ws∧TT p ws
theorem EF.pos {ws:List Wd} (h:EF ws):0<ws.length:=by
 obtain ⟨w,t,r,rfl,_⟩:=h;simp
theorem er_pp {k t:By} {f e:Int} {ks:List Pt} {ws:List Wd} (hb:k≠kBinary) (hu:k=kUnary) (tell:Tell (.mk k t f e ks) ws) (ef:EF ws) (h:PP (.mk k t f e ks) ws):ER (.mk k t f e ks) ws :=
 ⟨tell,ef,by rw [lvl_of hb];exact pp_ee ef.pos h,fun _=>h,fun _ k=>absurd hu k⟩
theorem er_tt {k t:By} {f e:Int} {ks:List Pt} {ws:List Wd} (hb:k≠kBinary) (tell:Tell (.mk k t f e ks) ws) (tf:TF ws) (h:TT (.mk k t f e ks) ws):ER (.mk k t f e ks) ws :=
 ⟨tell,tf.ef,by rw [lvl_of hb];exact pp_ee tf.ef.pos (tt_pp tf h),fun _=>tt_pp tf h,fun _ _=>⟨tf,h⟩⟩
theorem tell_held {p:Pt} {ws:List Wd} (h:Tell p ws) (ind:Nat) (en:Bool):wds (held true (pcs ind p)) en=((4,[40]) :: (ws++[(4,[41])]),true):=by
 unfold held
 simp only [if_true,wds_wd,wds_app,h ind,wds_nil];rfl
theorem brk_tf (ws:List Wd):TF ((4,[40]) :: (ws++[(4,[41])])):=⟨_,_,_,rfl,.inr (.inr (.inr ⟨rfl,rfl⟩))⟩
def TellH (b:Bool) (p:Pt) (ws:List Wd):Prop:=∀ ind en,wds (held b (pcs ind p)) en=(ws,true)
theorem held_off {b:Bool} {p:Pt} {ws:List Wd} (hb:b=false) (h:Tell p ws):TellH b p ws:=fun ind en=>by
 rw [hb];exact h ind en
theorem held_on {b:Bool} {p:Pt} {ws:List Wd} (hb:b=true) (h:Tell p ws):TellH b p ((4,[40]) :: (ws++[(4,[41])])):=fun ind en=>by
 rw [hb];exact tell_held h ind en
theorem o_held {a:Pt} {ws:List Wd} (hl:0<lvl a) (h:ER a ws):∃ ws',TellH (oHeld a) a ws'∧TF ws'∧TT a ws':=by
 cases hb:oHeld a with
 | true=>exact ⟨_,held_on rfl h.tell,brk_tf ws,ee_tt hl h.ee⟩
 | false =>
  unfold oHeld at hb
  rw [Bool.or_eq_false_iff,decide_eq_false_iff_not,decide_eq_false_iff_not] at hb
  obtain ⟨h1,h2⟩:=h.tt hb.1 hb.2
  exact ⟨ws,held_off rfl h.tell,h1,h2⟩
theorem u_held {t:By} {a:Pt} {ws:List Wd} (hl:0<lvl a) (h:ER a ws):∃ ws',TellH (uHeld t a) a ws'∧EF ws'∧PP a ws':=by
 cases hb:uHeld t a with
 | true=>exact ⟨_,held_on rfl h.tell,(brk_tf ws).ef,tt_pp (brk_tf ws) (ee_tt hl h.ee)⟩
 | false =>
  unfold uHeld at hb
  rw [Bool.or_eq_false_iff,decide_eq_false_iff_not] at hb
  exact ⟨ws,held_off rfl h.tell,h.first,h.pp hb.1⟩
theorem l_held {t:By} {a:Pt} {ws:List Wd} (hl:0<lvl a) (h:ER a ws):∃ ws' l,TellH (lHeld t a) a ws'∧EF ws'∧strB t≤l∧EE l a ws':=by
 have:=strB_le t
 cases hb:lHeld t a with
 | true=>exact ⟨_,6,held_on rfl h.tell,(brk_tf ws).ef,by omega,pp_ee (brk_tf ws).ef.pos (tt_pp (brk_tf ws) (ee_tt hl h.ee))⟩
 | false =>
  refine ⟨ws,lvl a,held_off rfl h.tell,h.first,?_,h.ee⟩
  unfold lHeld at hb
  unfold lvl
  split
  ·rename_i hk
   rw [hk] at hb;simp at hb;exact hb
  ·omega
theorem r_held {t:By} {a:Pt} {ws:List Wd} (hl:0<lvl a) (h:ER a ws):∃ ws' l,TellH (rHeld t a) a ws'∧EF ws'∧strB t<l∧EE l a ws':=by
 have:=strB_le t
 cases hb:rHeld t a with
 | true=>exact ⟨_,6,held_on rfl h.tell,(brk_tf ws).ef,by omega,pp_ee (brk_tf ws).ef.pos (tt_pp (brk_tf ws) (ee_tt hl h.ee))⟩
 | false =>
  refine ⟨ws,lvl a,held_off rfl h.tell,h.first,?_,h.ee⟩
  unfold rHeld at hb
  unfold lvl
  split
  ·rename_i hk
   rw [hk] at hb;simp at hb;exact hb
  ·omega
def AR (ks:List Pt) (ws:List Wd):Prop:=(∀ ind en,wds (commas (ks.map (pcs ind))) en=(ws,true))∧EF ws ∧
 ∀ (L:List TokP) (i n:Nat) (acc:List Pt),At L i (ws++[(4,[41])])→8*ws.length+3≤n→∃ qs,stripL qs=stripL ks∧args L n i acc=.ok (acc++qs) (i+ws.length+1)
theorem commas_two (x y:List Pc) (r:List (List Pc)):commas (x :: y :: r)=x++(.wd 4 [44] :: .sp [32] :: commas (y :: r)):=by
 simp [commas]
theorem args_read:∀ (ks:List Pt),ks≠[]→(∀ q∈ks,0<lvl q∧∃ ws,ER q ws)→∃ ws,AR ks ws
 | [],h,_=>absurd rfl h
 | [a],_,hk=>by
  obtain ⟨hl,ws,h⟩:=hk a List.mem_cons_self
  refine ⟨ws,fun ind en=>?_,h.first,fun L i n acc ha hn=>?_⟩
  ·simp only [List.map_cons,List.map_nil,commas,List.flatten_nil,List.append_nil];exact h.tell ind en
  ·obtain ⟨n,rfl⟩:∃ k,n=k+1:=⟨n - 1,by omega⟩
   obtain ⟨a1,a2⟩:=at_app ha
   obtain ⟨a3,_⟩:=at_cons a2
   have hs:strongT L (i+ws.length)=0:=by rw [strong_at a3];rfl
   obtain ⟨q,m,h1,h2,h3⟩:=h.ee L i n 0 a1 (by omega) (Int.le_refl 0) (by omega) (by omega) ⟨not_text a3 (by decide),not_text a3 (by decide),not_text a3 (by decide)⟩
   refine ⟨[q],strip1 h1,?_⟩
   rw [args,h3,exprs_stop (by omega) (by rw [hs];omega)]
   simp only [Out.next,is_mark a3 (.inl rfl),if_true]
 | a :: b :: r,_,hk=>by
  obtain ⟨hl,ws,h⟩:=hk a List.mem_cons_self
  obtain ⟨wr,h4,h5,h6⟩:=args_read (b :: r) (by simp) (fun q hq=>hk q (List.mem_cons_of_mem _ hq))
  refine ⟨ws++(4,[44]) :: wr,fun ind en=>?_,?_,fun L i n acc ha hn=>?_⟩
  ·simp only [List.map_cons,commas_two,wds_app,h.tell ind,wds_wd,wds_sp]
   have:=h4 ind (endsP 4 [44])
   rw [List.map_cons] at this
   rw [this]
  ·obtain ⟨w,t,r',rfl,hw⟩:=h.first
   exact ⟨w,t,_,rfl,hw⟩
  ·simp only [List.length_append,List.length_cons] at hn ⊢
   obtain ⟨n,rfl⟩:∃ k,n=k+1:=⟨n - 1,by omega⟩
   rw [List.append_assoc] at ha
   obtain ⟨a1,a2⟩:=at_app ha
   obtain ⟨a3,a4⟩:=at_cons a2
   have hs:strongT L (i+ws.length)=0:=by rw [strong_at a3];rfl
   obtain ⟨q,m,h1,h2,h3⟩:=h.ee L i n 0 a1 (by omega) (Int.le_refl 0) (by omega) (by omega) ⟨not_text a3 (by decide),not_text a3 (by decide),not_text a3 (by decide)⟩
   obtain ⟨qs,h7,h8⟩:=h6 L (i+ws.length+1) n (acc++[q]) a4 (by omega)
   refine ⟨q :: qs,by rw [stripL,stripL,h1,h7],?_⟩
   rw [args,h3,exprs_stop (by omega) (by rw [hs];omega)]
   simp only [Out.next,not_text a3 (show ([44]:By)≠[41] by decide),Bool.false_eq_true,if_false]
   rw [must_at a3 (.inl rfl)]
   simp only []
   rw [h8,List.append_assoc,show i+(ws.length+(wr.length+1))+1=i+ws.length+1+wr.length+1 from by omega];rfl
theorem called_read {t:By} {ks:List Pt} {f e:Int} (_ht:VW 0 t) (h1:t≠kNew) (h2:t≠kMake) (ih:∀ q∈ks,0<lvl q∧∃ ws,ER q ws):∃ ws,ER (.mk kCall t f e ks) ws:=by
 cases ks with
 | nil =>
  refine ⟨[(0,t),(4,[40]),(4,[41])],er_tt (by decide) (fun ind en=>?_) ⟨0,t,_,rfl,.inl rfl⟩ fun L i n f' ha hn hc=>?_⟩
  ·rw [pcs_mk,kdw_call];rfl
  ·simp only [List.length_cons,List.length_nil] at hn ⊢
   obtain ⟨n,rfl⟩:∃ k,n=k+1:=⟨n - 1,by omega⟩
   obtain ⟨a1,a2⟩:=at_cons ha
   obtain ⟨a3,a4⟩:=at_cons a2
   obtain ⟨a5,_⟩:=at_cons a4
   refine ⟨.mk kCall t (fromT L i) (toT L (i+3)) [],n+1,strip_mk rfl,by omega,?_⟩
   rw [operand,comes_at a1,comes_at a1,not_low a1 (.inl rfl),name_at a1]
   simp only [show ((0:Int)==1)=false from rfl,show ((0:Int)==2)=false from rfl,Bool.false_eq_true,if_false,Out.next,is_mark a3 (.inl rfl),if_neg h1,if_neg h2,is_mark a5 (.inl rfl),if_true,T.part]
   rfl
 | cons b r =>
  obtain ⟨wa,k1,k2,k3⟩:=args_read (b :: r) (by simp) ih
  refine ⟨(0,t) :: (4,[40]) :: (wa++[(4,[41])]),er_tt (by decide) (fun ind en=>?_) ⟨0,t,_,rfl,.inl rfl⟩ fun L i n f' ha hn hc=>?_⟩
  ·rw [pcs_mk,kdw_call]
   simp only [bodyP,called,wds_wd,wds_app,k1 ind,wds_nil];rfl
  ·simp only [List.length_cons,List.length_append,List.length_nil] at hn ⊢
   obtain ⟨n,rfl⟩:∃ k,n=k+1:=⟨n - 1,by omega⟩
   obtain ⟨a1,a2⟩:=at_cons ha
   obtain ⟨a3,a4⟩:=at_cons a2
   obtain ⟨qs,h7,h8⟩:=k3 L (i+1+1) n [] a4 (by omega)
   have hne:isT L [41] (i+1+1)=false:=by
    obtain ⟨w,x,r',rfl,hw⟩:=k2
    obtain ⟨a5,_⟩:=at_cons a4
    rcases hw with rfl|rfl|rfl|⟨rfl,hx⟩
    ·exact not_low a5 (.inl rfl) _
    ·exact not_low a5 (.inr (.inl rfl)) _
    ·exact not_low a5 (.inr (.inr (.inl rfl))) _
    ·refine not_text a5 (fun e=>?_)
     rw [e] at hx;revert hx;decide
   refine ⟨.mk kCall t (fromT L i) (toT L (i+1+1+wa.length+1)) qs,n+1,strip_mk h7,by omega,?_⟩
   rw [operand,comes_at a1,comes_at a1,not_low a1 (.inl rfl),name_at a1]
   simp only [show ((0:Int)==1)=false from rfl,show ((0:Int)==2)=false from rfl,Bool.false_eq_true,if_false,Out.next,is_mark a3 (.inl rfl),if_neg h1,if_neg h2,hne]
   rw [h8]
   simp only [T.part,List.nil_append]
   rw [show i+(wa.length+(0+1)+1+1)=i+1+1+wa.length+1 from by omega]
   rfl
theorem ex_read {p:Pt} (h:ExW p):∃ ws,ER p ws:=by
 induction h with
 | @num t f e ht =>
  refine ⟨[(1,t)],er_tt (by decide) (fun ind en=>by rw [pcs_mk,kdw_num];rfl) ⟨1,t,_,rfl,.inr (.inl rfl)⟩ fun L i n f' ha hn hc=>?_⟩
  simp only [List.length_cons,List.length_nil] at hn ⊢
  obtain ⟨n,rfl⟩:∃ k,n=k+1:=⟨n - 1,by omega⟩
  obtain ⟨a1,_⟩:=at_cons ha
  refine ⟨.mk kNum t (fromT L i) (toT L (i+1)) [],n+1,strip_mk rfl,by omega,?_⟩
  rw [operand,comes_at a1,text_at a1];rfl
 | @str t f e ht =>
  refine ⟨[(2,t)],er_tt (by decide) (fun ind en=>by rw [pcs_mk,kdw_str];rfl) ⟨2,t,_,rfl,.inr (.inr (.inl rfl))⟩ fun L i n f' ha hn hc=>?_⟩
  simp only [List.length_cons,List.length_nil] at hn ⊢
  obtain ⟨n,rfl⟩:∃ k,n=k+1:=⟨n - 1,by omega⟩
  obtain ⟨a1,_⟩:=at_cons ha
  refine ⟨.mk kStr t (fromT L i) (toT L (i+1)) [],n+1,strip_mk rfl,by omega,?_⟩
  rw [operand,comes_at a1,comes_at a1,text_at a1];rfl
 | @id t f e ht =>
  refine ⟨[(0,t)],er_tt (by decide) (fun ind en=>by rw [pcs_mk,kdw_id];rfl) ⟨0,t,_,rfl,.inl rfl⟩ fun L i n f' ha hn hc=>?_⟩
  simp only [List.length_cons,List.length_nil] at hn hc ⊢
  obtain ⟨n,rfl⟩:∃ k,n=k+1:=⟨n - 1,by omega⟩
  obtain ⟨a1,_⟩:=at_cons ha
  refine ⟨.mk kId t (fromT L i) (toT L (i+1)) [],n+1,strip_mk rfl,by omega,?_⟩
  rw [operand,comes_at a1,comes_at a1,not_low a1 (.inl rfl),name_at a1]
  simp only [show ((0:Int)==1)=false from rfl,show ((0:Int)==2)=false from rfl,Bool.false_eq_true,if_false,Out.next]
  rw [if_pos hc];rfl
 | call ht h1 h2 hk ih=>exact called_read ht h1 h2 fun q hq=>⟨ex_lvl (hk q hq),ih q hq⟩
 | @new' x f e hx =>
  obtain ⟨wx,t1,t2,t3⟩:=ty_read hx
  refine ⟨(0,kNew) :: (4,[40]) :: (wx++[(4,[41])]),er_tt (by decide) (fun ind en=>?_) ⟨0,_,_,rfl,.inl rfl⟩ fun L i n f' ha hn hc=>?_⟩
  ·rw [pcs_mk,kdw_new]
   simp only [bodyP,called,List.map_cons,List.map_nil,commas,List.flatten_nil,List.append_nil,wds_wd,wds_app,t1 ind,wds_nil];rfl
  ·simp only [List.length_cons,List.length_append,List.length_nil] at hn ⊢
   obtain ⟨n,rfl⟩:∃ k,n=k+1:=⟨n - 1,by omega⟩
   obtain ⟨a1,a2⟩:=at_cons ha
   obtain ⟨a3,a4⟩:=at_cons a2
   obtain ⟨a5,a6⟩:=at_app a4
   obtain ⟨a7,_⟩:=at_cons a6
   obtain ⟨q,h7,h8⟩:=t3 L (i+1+1) n a5 (by omega)
   refine ⟨.mk kNew [] (fromT L i) (toT L (i+1+1+wx.length+1)) [q],n+1,strip_mk (strip1 h7),by omega,?_⟩
   rw [operand,comes_at a1,comes_at a1,not_low a1 (.inl rfl),name_at a1]
   simp only [show ((0:Int)==1)=false from rfl,show ((0:Int)==2)=false from rfl,Bool.false_eq_true,if_false,Out.next,is_mark a3 (.inl rfl),if_true]
   rw [h8]
   simp only []
   rw [must_at a7 (.inl rfl)]
   simp only [T.part]
   rw [show i+(wx.length+(0+1)+1+1)=i+1+1+wx.length+1 from by omega]
   rfl
 | @make' x y f e hx hy ih =>
  obtain ⟨wx,t1,t2,t3⟩:=ty_read hx
  obtain ⟨wy,hr⟩:=ih
  refine ⟨(0,kMake) :: (4,[40]) :: (wx++(4,[44]) :: (wy++[(4,[41])])),er_tt (by decide) (fun ind en=>?_) ⟨0,_,_,rfl,.inl rfl⟩ fun L i n f' ha hn hc=>?_⟩
  ·rw [pcs_mk,kdw_make]
   simp only [bodyP,called,List.map_cons,List.map_nil,commas,List.flatten_nil,List.flatten_cons,List.append_nil,List.append_assoc,List.cons_append,wds_wd,wds_app,wds_sp,t1 ind,hr.tell ind,wds_nil];rfl
  ·simp only [List.length_cons,List.length_append,List.length_nil] at hn ⊢
   obtain ⟨n,rfl⟩:∃ k,n=k+1:=⟨n - 1,by omega⟩
   obtain ⟨a1,a2⟩:=at_cons ha
   obtain ⟨a3,a4⟩:=at_cons a2
   obtain ⟨a5,a6⟩:=at_app a4
   obtain ⟨a7,a8⟩:=at_cons a6
   obtain ⟨a9,b1⟩:=at_app a8
   obtain ⟨b2,_⟩:=at_cons b1
   obtain ⟨q,h7,h8⟩:=t3 L (i+1+1) n a5 (by omega)
   have hs:strongT L (i+1+1+wx.length+1+wy.length)=0:=by rw [strong_at b2];rfl
   obtain ⟨q2,m,h9,h10,h11⟩:=hr.ee L (i+1+1+wx.length+1) n 0 a9 (by omega) (Int.le_refl 0) (by have:=ex_lvl hy;omega) (by omega) ⟨not_text b2 (by decide),not_text b2 (by decide),not_text b2 (by decide)⟩
   refine ⟨.mk kMake [] (fromT L i) (toT L (i+1+1+wx.length+1+wy.length+1)) [q,q2],n+1,strip_mk (strip2 h7 h9),by omega,?_⟩
   rw [operand,comes_at a1,comes_at a1,not_low a1 (.inl rfl),name_at a1]
   simp only [show ((0:Int)==1)=false from rfl,show ((0:Int)==2)=false from rfl,Bool.false_eq_true,if_false,Out.next,is_mark a3 (.inl rfl),if_true,show (kMake=kNew)=False from by simp [kMake,kNew]]
   rw [h8]
   simp only []
   rw [must_at a7 (.inl rfl)]
   simp only []
   rw [h11,exprs_stop (by omega) (by rw [hs];omega)]
   simp only []
   rw [must_at b2 (.inl rfl)]
   simp only [T.part]
   rw [show i+(wx.length+(wy.length+(0+1)+1)+1+1)=i+1+1+wx.length+1+wy.length+1 from by omega]
   rfl
 | @field x t f e ht hx ih =>
  obtain ⟨w0,hr⟩:=ih
  obtain ⟨wx,t1,t2,t3⟩:=o_held (ex_lvl hx) hr
  refine ⟨wx++[(4,[46]),(0,t)],er_tt (by decide) (fun ind en=>?_) ?_ fun L i n f' ha hn hc=>?_⟩
  ·rw [pcs_mk,kdw_field]
   simp only [bodyP,kidAt0,wds_wd,wds_app,t1 ind,wds_nil];rfl
  ·obtain ⟨w,x,r,rfl,hw⟩:=t2
   exact ⟨w,x,_,rfl,hw⟩
  ·simp only [List.length_cons,List.length_append,List.length_nil] at hn ⊢
   obtain ⟨a1,a2⟩:=at_app ha
   obtain ⟨a3,a4⟩:=at_cons a2
   obtain ⟨a5,_⟩:=at_cons a4
   obtain ⟨q,m,h1,h2,h3⟩:=t3 L i n f' a1 (by omega) (not_text a3 (by decide))
   obtain ⟨m,rfl⟩:∃ k,m=k+1:=⟨m - 1,by omega⟩
   refine ⟨.mk kField t f' (toT L (i+wx.length+1+1)) [q],m,strip_mk (strip1 h1),by omega,?_⟩
   rw [h3,tails,is_mark a3 (.inl rfl),name_at a5]
   simp only [if_true,Out.next]
   rw [show i+(wx.length+(0+1+1))=i+wx.length+1+1 from by omega]
 | @index x y f e hx hy ih ih2 =>
  obtain ⟨w0,hr⟩:=ih
  obtain ⟨wy,hy2⟩:=ih2
  obtain ⟨wx,t1,t2,t3⟩:=o_held (ex_lvl hx) hr
  refine ⟨wx++(4,[91]) :: (wy++[(4,[93])]),er_tt (by decide) (fun ind en=>?_) ?_ fun L i n f' ha hn hc=>?_⟩
  ·rw [pcs_mk,kdw_index]
   simp only [bodyP,kidAt0,kidAt1,wds_wd,wds_app,t1 ind,hy2.tell ind,wds_nil];rfl
  ·obtain ⟨w,x,r,rfl,hw⟩:=t2
   exact ⟨w,x,_,rfl,hw⟩
  ·simp only [List.length_cons,List.length_append,List.length_nil] at hn ⊢
   obtain ⟨a1,a2⟩:=at_app ha
   obtain ⟨a3,a4⟩:=at_cons a2
   obtain ⟨a5,a6⟩:=at_app a4
   obtain ⟨a7,_⟩:=at_cons a6
   obtain ⟨q,m,h1,h2,h3⟩:=t3 L i n f' a1 (by omega) (not_text a3 (by decide))
   obtain ⟨m,rfl⟩:∃ k,m=k+1:=⟨m - 1,by omega⟩
   have hs:strongT L (i+wx.length+1+wy.length)=0:=by rw [strong_at a7];rfl
   obtain ⟨q2,m2,h9,h10,h11⟩:=hy2.ee L (i+wx.length+1) m 0 a5 (by omega) (Int.le_refl 0) (by have:=ex_lvl hy;omega) (by omega) ⟨not_text a7 (by decide),not_text a7 (by decide),not_text a7 (by decide)⟩
   refine ⟨.mk kIndex [] f' (toT L (i+wx.length+1+wy.length+1)) [q,q2],m,strip_mk (strip2 h1 h9),by omega,?_⟩
   rw [h3,tails,not_text a3 (by decide),is_mark a3 (.inl rfl),h11,exprs_stop (by omega) (by rw [hs];omega)]
   simp only [Bool.false_eq_true,if_false,if_true,Out.next]
   rw [must_at a7 (.inl rfl)]
   simp only []
   rw [show i+(wx.length+(wy.length+(0+1)+1))=i+wx.length+1+wy.length+1 from by omega]
 | @unary x t f e ht hx ih =>
  obtain ⟨w0,hr⟩:=ih
  obtain ⟨wx,t1,t2,t3⟩:=u_held (t:=t) (ex_lvl hx) hr
  refine ⟨(4,t) :: wx,er_pp (by decide) rfl (fun ind en=>?_) ⟨4,t,wx,rfl,.inr (.inr (.inr ⟨rfl,.inr ht⟩))⟩ fun L i n ha hn hj=>?_⟩
  ·rw [pcs_mk,kdw_unary]
   simp only [bodyP,kidAt0,wds_wd,t1 ind]
  ·simp only [List.length_cons] at hn hj ⊢
   obtain ⟨n,rfl⟩:∃ k,n=k+1:=⟨n - 1,by omega⟩
   obtain ⟨a1,a2⟩:=at_cons ha
   have hij:i+(wx.length+1)=i+1+wx.length:=by omega
   rw [hij] at hj ⊢
   obtain ⟨q,h1,h2⟩:=t3 L (i+1) n a2 (by omega) hj
   refine ⟨.mk kUnary t (fromT L i) (toT L (i+1+wx.length)) [q],strip_mk (strip1 h1),?_⟩
   rw [prefixT]
   simp only [List.mem_cons,List.not_mem_nil,or_false] at ht
   rcases ht with rfl|rfl|rfl|rfl
   ·rw [is_mark a1 (.inl rfl),if_pos rfl,h2];rfl
   ·rw [not_text a1 (by decide),is_mark a1 (.inl rfl),if_neg (by decide),if_pos rfl,h2];rfl
   ·rw [not_text a1 (x:=[38]) (by decide),not_text a1 (x:=[42]) (by decide),is_mark a1 (.inl rfl),if_neg (by decide),if_neg (by decide),if_pos rfl,h2];rfl
   ·rw [not_text a1 (x:=[38]) (by decide),not_text a1 (x:=[42]) (by decide),not_text a1 (x:=[45]) (by decide),is_mark a1 (.inl rfl),if_neg (by decide),if_neg (by decide),if_neg (by decide),if_pos rfl,h2];rfl
 | @binary x y t f e ht hm hx hy ih ih2 =>
  obtain ⟨w1,hr1⟩:=ih
  obtain ⟨w2,hr2⟩:=ih2
  obtain ⟨wx,l1,t1,t2,t3,t4⟩:=l_held (t:=t) (ex_lvl hx) hr1
  obtain ⟨wy,l2,u1,u2,u3,u4⟩:=r_held (t:=t) (ex_lvl hy) hr2
  refine ⟨wx++(4,t) :: wy,fun ind en=>?_,?_,?_,fun h=>absurd rfl h,fun h=>absurd rfl h⟩
  ·rw [pcs_mk,kdw_binary]
   simp only [bodyP,kidAt0,kidAt1,wds_wd,wds_app,wds_sp,t1 ind,u1 ind,List.cons_append,List.nil_append]
  ·obtain ⟨w,x,r,rfl,hw⟩:=t2
   exact ⟨w,x,_,rfl,hw⟩
  ·have hl:lvl (.mk kBinary t f e [x,y])=strB t:=rfl
   rw [hl]
   intro L i n than ha hn h0 h1 h2 hj
   simp only [List.length_cons,List.length_append] at hn h2 hj ⊢
   obtain ⟨a1,a2⟩:=at_app ha
   obtain ⟨a3,a4⟩:=at_cons a2
   have hij:i+(wx.length+(wy.length+1))=i+wx.length+1+wy.length:=by omega
   rw [hij] at h2 hj ⊢
   have hs:strongT L (i+wx.length)=strB t:=strong_at a3
   have hd:∀ z∈([[46],[91],[40]]:List By),t≠z:=fun z hz e=>by rw [← e] at hz;simp only [List.mem_cons,List.not_mem_nil,or_false] at hz;rcases hz with rfl|rfl|rfl <;> (revert ht;decide)
   obtain ⟨q,m,k1,k2,k3⟩:=t4 L i n than a1 (by omega) h0 (by omega) (by rw [hs];omega) ⟨not_text a3 (hd _ (by simp)),not_text a3 (hd _ (by simp)),not_text a3 (hd _ (by simp))⟩
   obtain ⟨m,rfl⟩:∃ k,m=k+1:=⟨m - 1,by omega⟩
   obtain ⟨q2,m2,k4,k5,k6⟩:=u4 L (i+wx.length+1) m (strB t) a4 (by omega) (by omega) (by omega) (by omega) hj
   refine ⟨.mk kBinary t (fromT L i) (toT L (i+wx.length+1+wy.length)) [q,q2],m,strip_mk (strip2 k1 k4),by omega,?_⟩
   rw [k3,exprs,if_pos ⟨len_at a3,by rw [hs];exact h1⟩,hs,k6,exprs_stop (by omega) h2,text_at a3]
   rfl
end Go.Proofs.YtmclaaonlhnbmaaGreatDoor.H
