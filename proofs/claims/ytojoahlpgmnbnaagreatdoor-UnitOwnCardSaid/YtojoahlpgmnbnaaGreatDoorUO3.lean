/- What the claim needs of the texts KMem, KNext, KThen, KBegin. -/
import Derived.Test.YtojoahlpgmnbnaaGreatDoorUOOp
import Derived.Test.YtojoahlpgmnbnaaGreatDoorUO1
import Derived.Test.YtojoahlpgmnbnaaGreatDoorUO2
import Derived.Deep.QuietTactic
import Derived.RangeFuncOwn
import Derived.Deep.AppendLies
import Derived.Deep.RegionHeld3
import Derived.Deep.RegionWith
import Derived.BigQuiet
import Derived.BigRegion
import Derived.Deep.DeepCutAuto
import Derived.Defers
import Derived.Recover
import Derived.Laws.Pointers
import Derived.Laws.Rows
import Derived.RangeFuncNested
import Derived.RangeFuncBound
import Derived.RangeFuncCalls
import Derived.RangeFuncLeaves
import Derived.WalkKit
import Derived.OwnWalkIn
import Derived.TacticsInMore
import Derived.LoopNIn
import Derived.LoopIn
set_option maxRecDepth 20000
set_option maxHeartbeats 16000000
namespace Go.Proofs.YtojoahlpgmnbnaaGreatDoor
namespace K
open Go.RowKit
open Go.Lib hiding intOf
open U S T
abbrev ptr (b:Nat):Value:=.pointer (some ⟨b,0,none⟩)
def IQ:BH→Nat
 | .decl=>101
 | .vw=>102
 | .nC=>103
 | .name=>119
 | .params=>120
 | .result=>121
 | .block=>122
 | .fin=>123
 | .field=>126
 | .param=>135
 | .typeOf=>136
 | .stmt=>137
 | .returned=>144
 | .expr=>146
 | .assigned=>147
 | .otherwise=>150
 | .pre=>151
 | .between=>152
 | .iY=>153
 | .text=>154
 | .behind=>156
 | .operand=>155
 | .called=>159
def sU (d:Nat) (k:BH):Value:=.func (.func (IQ k)) #[ptr d] #[]
def adT (f b1 b2:Nat):Value:=.func (.func f) #[] #[ptr b1,ptr b2]
def Fr (O:Nat→Prop) (W:World) (k:Nat):Prop:=k<W.heap.size∧¬ O k∧∃ o:Obj,W.heap[k]?=some o∧o.isCells=true
def jk (O:Nat→Prop) (W:World) (b:Nat) (v:Value) (t:TypeId):Prop:=Fr O W b∧W.heap[b]?=some (.cells #[v] t (0,0))
def sG (O:Nat→Prop) (W:World) (d f:Nat) (u:Value) (t:TypeId) (v:Value):Prop:=∃ b1 b2,v=adT f b1 b2∧jk O W b1 (ptr d) 110∧jk O W b2 u t
def qD (O:Nat→Prop) (W:World) (d:Nat):Stp→Value→Prop
 | .m k,v=>v=sU d k
 | .word x,v=>sG O W d 131 (.string (aU x)) 9 v
 | .lines k,v=>sG O W d 139 (sU d k) 1 v
 | .more k,v=>sG O W d 148 (sU d k) 1 v
 | .jE k,v=>sG O W d 142 (sU d k) 1 v
 | .kK k,v=>sG O W d 149 (sU d k) 1 v
def nZ (O:Nat→Prop) (W:World) (d:Nat):List Stp→List Value→Prop
 | [],vs=>vs=[]
 | s :: r,vs=>∃ v us,vs=us++[v]∧qD O W d s v∧nZ O W d r us
def six (o:Open) (kv:Value):List Value:=[.string (aU o.k),.string (aU o.t),.int .i64 o.f,.int .i64 0,kv,.int .i64 o.kf]
def gL (O:Nat→Prop) (W:World):List Open→List Value→List (Option Nat)→Prop
 | [],xs,bs=>xs=[]∧bs=[]
 | o :: r,xs,bs=>∃ kv ks us bs',xs=us++six o kv∧bs=kv.ownBlock :: bs'∧W.ownsRow 0 49 5 kv o.kids.length ks∧aO W (Fr O W) o.kids ks∧gL O W r us bs'
def Apart:List (Option Nat)→Prop
 | []=>True
 | b :: r=>(∀ g,b=some g→some g ∉ r)∧Apart r
def sV (size:Nat):aZ:=⟨-1,[],size,size⟩
def BK (O:Nat→Prop) (W:World) (L:List aZ) (size:Nat) (lv:Value):Prop:=∃ g off cap,lv=.slice (some ⟨g,off,none⟩) (L.length+1) cap∧Fr O W g∧Cr W g off (L++[sV size])
structure nT (d:Nat) (L:List aZ) (size:Nat) (lv:Value) (s:St) (O:Nat→Prop) (tv ov:Value) (bs:List (Option Nat)) (vs xs:List Value) (W:World):Prop where
 blk:W.heap[d]?=some (.cells #[lv,.int .i64 s.i,tv,ov] 123 (0,0))
 words:BK O W L size lv
 lQ:W.ownsRow 0 1 1 tv s.todo.length vs
 todo:nZ O W d s.todo vs
 qx:W.ownsRow 0 128 6 ov s.opn.length xs
 opn:gL O W s.opn xs bs
 apart:Apart bs
 own:∀ k,O k ↔ k=d∨tv.ownBlock=some k∨ov.ownBlock=some k∨some k∈bs
def Mem (d:Nat) (L:List aZ) (size:Nat) (lv:Value) (s:St) (O:Nat→Prop) (W:World):Prop:=∃ tv ov bs vs xs,nT d L size lv s O tv ov bs vs xs W
structure bN (O O':Nat→Prop) (W W':World):Prop where
 os:W'.os=W.os
 tape:W'.tape=W.tape
 output:W'.output=W.output
 size:W.heap.size≤W'.heap.size
 own:∀ k,O' k→O k∨W.heap.size≤k
 block:∀ k,k<W.heap.size→¬ O k→W'.heap[k]?=W.heap[k]?
section
variable {O O' O'':Nat→Prop} {W W' W'':World} {d:Nat}
theorem bN.refl (O:Nat→Prop) (W:World):bN O O W W:=⟨rfl,rfl,rfl,ae _,fun _ h=>.inl h,fun _ _ _=>rfl⟩
theorem bN.trans (h:bN O O' W W') (k:bN O' O'' W' W''):bN O O'' W W'' where
 os:=k.os.trans h.os
 tape:=k.tape.trans h.tape
 output:=k.output.trans h.output
 size:=aJ h.size k.size
 own:=fun x hx=>(k.own x hx).elim (fun h1=>h.own x h1) (fun h1=>.inr (aJ h.size h1))
 block:=fun x hx hO=>(k.block x (aD hx h.size) (fun h1=>(h.own x h1).elim hO (fun h2=>absurd h2 (by omega)))).trans (h.block x hx hO)
theorem bN.of_below (h:Below W.heap.size W W'):bN O O W W':=⟨h.os,h.tape,h.output,h.size,fun _ h=>.inl h,fun k hk _=>h.block k hk⟩
theorem bN.at (h:bN O O' W W') {k:Nat} (hk:Fr O W k):W'.heap[k]?=W.heap[k]?:=h.block k hk.1 hk.2.1
theorem bN.fr (h:bN O O' W W') {k:Nat} (hk:Fr O W k):Fr O' W' k:=⟨aD hk.1 h.size,fun h1=>(h.own k h1).elim hk.2.1 (fun h2=>absurd h2 (by have:=hk.1;omega)),by rw [h.at hk];exact hk.2.2⟩
theorem jk.stay {b:Nat} {v:Value} {t:TypeId} (hb:jk O W b v t) (h:bN O O' W W'):jk O' W' b v t:=⟨h.fr hb.1,(h.at hb.1).trans hb.2⟩
theorem sG.stay {f:Nat} {u v:Value} {t:TypeId} (hc:sG O W d f u t v) (h:bN O O' W W'):sG O' W' d f u t v:=by
 obtain ⟨b1,b2,h1,h2,h3⟩:=hc
 exact ⟨b1,b2,h1,h2.stay h,h3.stay h⟩
theorem qD.stay {s:Stp} {v:Value} (hs:qD O W d s v) (h:bN O O' W W'):qD O' W' d s v:=by
 cases s with
 | m k=>exact hs
 | word x=>exact sG.stay hs h
 | lines k=>exact sG.stay hs h
 | more k=>exact sG.stay hs h
 | jE k=>exact sG.stay hs h
 | kK k=>exact sG.stay hs h
theorem nZ.stay (h:bN O O' W W'):∀ {l:List Stp} {vs:List Value},nZ O W d l vs→nZ O' W' d l vs
 | [],_,hs=>hs
 | _ :: _,_,⟨v,us,h1,h2,h3⟩=>⟨v,us,h1,h2.stay h,nZ.stay h h3⟩
theorem nZ.length:∀ {l:List Stp} {vs:List Value},nZ O W d l vs→vs.length=l.length
 | [],_,hs=>by rw [show _=[] from hs];rfl
 | _ :: _,_,⟨v,us,h1,h2,h3⟩=>by rw [h1,aM,nZ.length h3];rfl
theorem BK.stay {L:List aZ} {size:Nat} {lv:Value} (hw:BK O W L size lv) (h:bN O O' W W'):BK O' W' L size lv:=by
 obtain ⟨g,off,cap,h1,h2,h3⟩:=hw;refine ⟨g,off,cap,h1,h.fr h2,fun j u hj=>?_⟩;have h4:=h3 j u hj
 unfold World.cell? at h4 ⊢
 rw [h.at h2];exact h4
theorem lS (h:bN O O' W W') {l:List Pt} {ks:List Value} (hp:aO W (Fr O W) l ks):aO W' (Fr O' W') l ks :=
 aO.later (R:=Fr O W) (R':=Fr O' W') (fun _ hg _=>h.at hg) (fun _ hg=>h.fr hg) l ks hp
theorem gL.stay (h:bN O O' W W'):∀ {l:List Open} {xs:List Value} {bs:List (Option Nat)},gL O W l xs bs→(∀ g,some g∈bs→W'.heap[g]?=W.heap[g]?)→gL O' W' l xs bs
 | [],_,_,hs,_=>hs
 | o :: r,_,_,⟨kv,ks,us,bs',h1,h2,h3,h4,h5⟩,hb=>by
  subst h2
  exact ⟨kv,ks,us,bs',h1,rfl,KP h3 (fun k hk=>hb k (by rw [hk];exact bO)),lS h h4,gL.stay h h5 (fun g hg=>hb g (bf _ hg))⟩
where
 KP {w w':World} {B n size:Nat} {e:TypeId} {v:Value} {xs:List Value} (h:w.ownsRow B e size v n xs) (hs:∀ k,v.ownBlock=some k→w'.heap[k]?=w.heap[k]?):w'.ownsRow B e size v n xs:=by
  refine ⟨h.1,?_⟩
  rcases h.2 with h|⟨g,cap,cur,rfl,h2,h3,h4⟩
  ·exact .inl h
  ·exact .inr ⟨g,cap,cur,rfl,h2,(hs g rfl).trans h3,h4⟩
end
section
variable {O:Nat→Prop} {W W':World} {d:Nat} {L:List aZ} {size:Nat} {lv:Value} {s:St}
theorem nT.lt {tv ov:Value} {bs:List (Option Nat)} {vs xs:List Value} (h:nT d L size lv s O tv ov bs vs xs W):∀ k,O k→k<W.heap.size:=by
 intro k hk
 rcases (h.own k).1 hk with rfl|h1|h1|h1
 ·exact (af.1 h.blk).1
 ·exact (h.lQ.lt k h1).2
 ·exact (h.qx.lt k h1).2
 ·have go:∀ {l:List Open} {xs:List Value} {bs:List (Option Nat)},gL O W l xs bs→some k∈bs→k<W.heap.size:=by
   intro l
   induction l with
   | nil=>rintro xs bs ⟨_,rfl⟩ h;cases h
   | cons o r ih =>
    rintro xs bs ⟨kv,ks,us,bs',_,rfl,h3,_,h5⟩ h
    rcases bA.1 h with h|h
    ·exact (h3.lt k h.symm).2
    ·exact ih h5 h
  exact go h.opn h1
structure Calm (O:Nat→Prop) (W W':World):Prop where
 size:W.heap.size≤W'.heap.size
 own:∀ k,O k→W'.heap[k]?=W.heap[k]?
 fr:∀ k,Fr O W k→W'.heap[k]?=W.heap[k]?
theorem Calm.up (h:Calm O W W') {k:Nat} (hk:Fr O W k):Fr O W' k:=⟨aD hk.1 h.size,hk.2.1,by rw [h.fr k hk];exact hk.2.2⟩
theorem sG.calm {f:Nat} {u v:Value} {t:TypeId} (hc:sG O W d f u t v) (h:Calm O W W'):sG O W' d f u t v:=by
 obtain ⟨b1,b2,h1,h2,h3⟩:=hc
 exact ⟨b1,b2,h1,⟨h.up h2.1,(h.fr _ h2.1).trans h2.2⟩,⟨h.up h3.1,(h.fr _ h3.1).trans h3.2⟩⟩
theorem qD.calm {s:Stp} {v:Value} (hs:qD O W d s v) (h:Calm O W W'):qD O W' d s v:=by
 cases s with
 | m k=>exact hs
 | word x=>exact sG.calm hs h
 | lines k=>exact sG.calm hs h
 | more k=>exact sG.calm hs h
 | jE k=>exact sG.calm hs h
 | kK k=>exact sG.calm hs h
theorem nZ.calm (h:Calm O W W'):∀ {l:List Stp} {vs:List Value},nZ O W d l vs→nZ O W' d l vs
 | [],_,hs=>hs
 | _ :: _,_,⟨v,us,h1,h2,h3⟩=>⟨v,us,h1,h2.calm h,nZ.calm h h3⟩
theorem iH {w w':World} {B n size:Nat} {e:TypeId} {v:Value} {xs:List Value} (h:w.ownsRow B e size v n xs) (hs:∀ k,v.ownBlock=some k→w'.heap[k]?=w.heap[k]?):w'.ownsRow B e size v n xs:=by
 refine ⟨h.1,?_⟩
 rcases h.2 with h|⟨g,cap,cur,rfl,h2,h3,h4⟩
 ·exact .inl h
 ·exact .inr ⟨g,cap,cur,rfl,h2,(hs g rfl).trans h3,h4⟩
theorem gL.calm (h:Calm O W W'):∀ {l:List Open} {xs:List Value} {bs:List (Option Nat)},gL O W l xs bs→(∀ g,some g∈bs→W'.heap[g]?=W.heap[g]?)→gL O W' l xs bs
 | [],_,_,hs,_=>hs
 | o :: r,_,_,⟨kv,ks,us,bs',h1,h2,h3,h4,h5⟩,hb=>by
  subst h2
  exact ⟨kv,ks,us,bs',h1,rfl,iH h3 (fun k hk=>hb k (by rw [hk];exact bO)),aO.later (R:=Fr O W) (R':=Fr O W') (fun g hg _=>h.fr g hg) (fun g hg=>h.up hg) _ _ h4,gL.calm h h5 (fun g hg=>hb g (bf _ hg))⟩
theorem Mem.calm (hM:Mem d L size lv s O W) (h:Calm O W W'):Mem d L size lv s O W':=by
 obtain ⟨tv,ov,bs,vs,xs,hM⟩:=hM;have hd:=h.own d ((hM.own d).2 (.inl rfl))
 refine ⟨tv,ov,bs,vs,xs,hd.trans hM.blk,?_,iH hM.lQ (fun k hk=>h.own k ((hM.own k).2 (.inr (.inl hk)))),hM.todo.calm h,iH hM.qx (fun k hk=>h.own k ((hM.own k).2 (.inr (.inr (.inl hk))))),
  gL.calm h hM.opn (fun g hg=>h.own g ((hM.own g).2 (.inr (.inr (.inr hg))))),hM.apart,hM.own⟩
 obtain ⟨g,off,cap,h1,h2,h3⟩:=hM.words;refine ⟨g,off,cap,h1,h.up h2,fun j u hj=>?_⟩;have h4:=h3 j u hj
 unfold World.cell? at h4 ⊢
 rw [h.fr g h2];exact h4
theorem Mem.below (h:Mem d L size lv s O W) (hb:Below W.heap.size W W'):Mem d L size lv s O W':=by
 obtain ⟨tv,ov,bs,vs,xs,h⟩:=h;have hs:bN O O W W':=.of_below hb
 exact ⟨tv,ov,bs,vs,xs,(hb.block d (af.1 h.blk).1).trans h.blk,h.words.stay hs,aV h.lQ hb,h.todo.stay hs,aV h.qx hb,
  gL.stay hs h.opn (fun g hg=>hb.block g (h.lt g ((h.own g).2 (.inr (.inr (.inr hg)))))),h.apart,h.own⟩
theorem Mem.lt (h:Mem d L size lv s O W):∀ k,O k→k<W.heap.size:=by
 obtain ⟨tv,ov,bs,vs,xs,h⟩:=h;exact h.lt
theorem Mem.dlt (h:Mem d L size lv s O W):d<W.heap.size:=by
 obtain ⟨tv,ov,bs,vs,xs,h⟩:=h;exact (af.1 h.blk).1
theorem Mem.word (h:Mem d L size lv s O W) (hi:s.i≤L.length):∃ g off cap n,n=L.length+1∧g<W.heap.size∧W.cell? ⟨d,0,none⟩=some (.slice (some ⟨g,off,none⟩) n cap)∧W.cell? ⟨d,1,none⟩=some (.int .i64 s.i) ∧
  W.cell? ⟨g,off+s.i*4,none⟩=some (.int .i64 (tok L size s.i).w)∧W.cell? ⟨g,off+s.i*4+1,none⟩=some (.string ⟨(tok L size s.i).t.toArray⟩)∧W.cell? ⟨g,off+s.i*4+2,none⟩=some (.int .i64 (tok L size s.i).f)∧W.cell? ⟨g,off+s.i*4+3,none⟩=some (.int .i64 (tok L size s.i).e):=by
 obtain ⟨tv,ov,bs,vs,xs,h⟩:=h;obtain ⟨g,off,cap,rfl,h2,h3⟩:=h.words
 have hl:s.i<(L++[sV size]).length:=by simp;omega
 have ht:(L++[sV size])[s.i]=tok L size s.i:=by
  by_cases h1:s.i<L.length
  ·rw [mI size h1,List.getElem_append_left h1]
  ·rw [qF size h1,List.getElem_append_right (by omega)];simp [sV]
 have h4:=xM s.i h3 hl;rw [ht] at h4;have hb:=h.blk
 exact ⟨g,off,cap,L.length+1,rfl,h2.1,by simp [World.cell?,hb],by simp [World.cell?,hb],h4.1,h4.2.1,h4.2.2.1,h4.2.2.2⟩
end
def NC (t:aZ):Value:=.agg #[.int .i64 t.w,.string ⟨t.t.toArray⟩,.int .i64 t.f,.int .i64 t.e]
theorem fO (W:World) (o:Obj):(W.alloc o).heap[W.heap.size]?=some o:=aG W o
theorem IU (a b c e:Value) (W:World):(Instr.field 86 (.agg #[a,b,c,e]) 0).run Tryz.prog W=.ok a W:=by kernel_rfl
theorem En (a b c e:Value) (W:World):(Instr.field 86 (.agg #[a,b,c,e]) 1).run Tryz.prog W=.ok b W:=by kernel_rfl
theorem aam (a b c e:Value) (W:World):(Instr.field 86 (.agg #[a,b,c,e]) 2).run Tryz.prog W=.ok c W:=by kernel_rfl
section
variable {d:Nat} {L:List aZ} {size:Nat} {lv:Value} {s:St} {O:Nat→Prop}
theorem yM {W:World} (hM:Mem d L size lv s O W) (hi:s.i≤L.length) :
  Calls Tryz.prog 116 #[ptr d] W fun e W'=>e=.returned (NC (tok L size s.i))∧Below W.heap.size W W':=by
 obtain ⟨g,off,cap,n,hn,hg,c0,c1,k0,k1,k2,k3⟩:=hM.word hi;have hd:=hM.dlt;generalize tok L size s.i=t at k0 k1 k2 k3 ⊢;obtain ⟨tw,tt,tf,te⟩:=t;obtain ⟨y,hy⟩:∃ y:ByteArray,(⟨tt.toArray⟩:ByteArray)=y:=⟨_,rfl⟩;dsimp only [NC] at k0 k1 k2 k3 ⊢;rw [hy] at k1 ⊢;obtain ⟨i,hi'⟩:∃ i,s.i=i:=⟨_,rfl⟩;rw [hi'] at c1 k0 k1 k2 k3
 have hlt:i<n:=by omega
 have aan:(0:Int)≤(i:Int):=by omega
 have hin1:(i:Int)<(n:Int):=by omega
 clear hy hM hi hi' hn
 go_enter Tryz.func116,Tryz.ntmps116
 go_upto_region 1 with fail
 go_region
 go_wp2_with fail
 have hp:((W.alloc (.cells #[.int .i64 tw,.string y,.int .i64 tf,.int .i64 te] 86)).drew).heap[W.heap.size]?=some (.cells #[.int .i64 tw,.string y,.int .i64 tf,.int .i64 te] 86 (0,0)):=fO W _;refine aB (v:=.agg #[.int .i64 tw,.string y,.int .i64 tf,.int .i64 te]) (aQ rfl _ _ W.heap.size 86 #[.int .i64 tw,.string y,.int .i64 tf,.int .i64 te] (0,0) _ (by rfl) hp Tryz.underlying86 rfl (by kernel_rfl)) rfl ?_
 exact ⟨rfl,((aj _ _).alloc (ae _) _).drew⟩
theorem iM {W:World} (hM:Mem d L size lv s O W) (hi:s.i≤L.length) (x:By) :
  Calls Tryz.prog 133 #[ptr d,.string (aU x)] W fun e W'=>e=.returned (.bool (rY L size x s.i))∧Below W.heap.size W W':=by
 have c1:=yM hM hi
 unfold rY
 generalize tok L size s.i=t at c1 ⊢;obtain ⟨tw,tt,tf,te⟩:=t;dsimp only [NC] at c1 ⊢;obtain ⟨y,hy⟩:∃ y:ByteArray,(⟨tt.toArray⟩:ByteArray)=y:=⟨_,rfl⟩;obtain ⟨z,hz⟩:∃ y:ByteArray,aU x=y:=⟨_,rfl⟩
 have hyl:tt=y.toList:=by rw [← hy,bu]
 have hzl:x=z.toList:=by rw [← hz,bu];rfl
 rw [hy] at c1;rw [hz,hyl,hzl];clear hy hz hyl hzl hM hi;obtain ⟨b,hb⟩:∃ b,(y.toList==z.toList)=b:=⟨_,rfl⟩;rw [hb]
 have hf:=fun W=>En (.int .i64 tw) (.string y) (.int .i64 tf) (.int .i64 te) W
 go_enter Tryz.func133,Tryz.ntmps133
 go_wp2_with fail
 refine c1.mono ?_;rintro e w1 ⟨rfl,hb1⟩
 go_wp2_with fail
 go_ret
 exact ⟨by first|rfl|rw [hb],hb1⟩
def Panics (L:List aZ) (size:Nat) (i:Nat) (W:World) (e:Ending) (W':World):Prop:=e=.panicked [{ v:=.iface 124 (.int .i64 (tok L size i).f),recovered:=false }]∧Below W.heap.size W W'
theorem Cv {W:World} (hM:Mem d L size lv s O W) (hi:s.i≤L.length):Calls Tryz.prog 127 #[ptr d] W (Panics L size s.i W):=by
 have c1:=yM hM hi
 unfold Panics
 generalize tok L size s.i=t at c1 ⊢;obtain ⟨tw,tt,tf,te⟩:=t;dsimp only [NC] at c1 ⊢;clear hM hi
 have hf:=fun W=>aam (.int .i64 tw) (.string ⟨tt.toArray⟩) (.int .i64 tf) (.int .i64 te) W
 go_enter Tryz.func127,Tryz.ntmps127
 go_wp2_with fail
 refine c1.mono ?_;rintro e w1 ⟨rfl,hb1⟩
 go_wp2_with fail
 exact ⟨rfl,rfl,hb1⟩
theorem Uh {W:World} (g n k c:Nat) (hn:n=k+1) (hk:k≤1099511627776) (c3:W.cell? ⟨d,3,none⟩=some (.slice (some ⟨g,0,none⟩) n c)) :
  Calls Tryz.prog 104 #[ptr d] W fun e W'=>e=.returned (.pointer (some ⟨g,k*6,none⟩))∧∃ m,W'=W.drewN m:=by
 have hk0:(0:Int)≤(k:Int):=by omega
 have hkn:(k:Int)<(n:Int):=by omega
 have hk2:k<n:=by omega
 have hi1:IntKind.i64.wrap ((n:Int) - 1)=(k:Int):=(bg _ (by omega)).trans (by omega);clear hn
 go_enter Tryz.func104,Tryz.ntmps104
 go_upto_region 1 with fail
 go_quiet (fail)
 go_wp2_with fail
 go_ret
 exact ⟨rfl,_,rfl⟩
end
def Steps {σ α:Type} (P:Program) (gf:Nat) (lb:Array Value) (encs:α→Array Value) (K:Nat→Prop) (R:σ→α→σ→Prop) (s0:σ) (S:σ→Prop) (w:World):Prop :=
 ∀ (l:Nat) (J:σ→World→Prop) (W:World),(∀ k,K k→W.heap[k]?=w.heap[k]?) →
  (∀ s x s' W1,R s x s'→J s W1→YieldAt Fence.wide 2 P l (encs x) W1 fun e W2=>e=.returned (.bool true)∧J s' W2∧∀ k,K k→W2.heap[k]?=W1.heap[k]?)→J s0 W →
  CallsIn Fence.wide 3 P gf (#[.func (.yield l) #[] #[]]++lb) W fun e W2=>(∃ v,e=.returned v)∧∃ s,S s∧J s W2
def KQ (K:Nat→Prop) (J:World→Prop) (W:World):Exit→Act→World→Prop
 | .normal,_,W2=>KeepsOthers W W2∧(∀ k,K k→W2.heap[k]?=W.heap[k]?)∧J W2
 | .ret,_,_=>False
 | .exit _,_,_=>False
 | .goto _,_,_=>False
 | .panic _,_,_=>False
 | .outgrown,_,_=>False
theorem Cw {σ α:Type} {P:Program} {g:Operand} {ps:Array Tmp} {assign body:Code} {Q:Exit→Act→World→Prop} {a:Act} {w w0:World} {gf:Nat} {lb:Array Value} {encs:α→Array Value} {K:Nat→Prop} {R:σ→α→σ→Prop} {s0:σ} {S:σ→Prop}
  (hg:a.eval g=.func (.func gf) #[] lb) (eg:∀ args w,(callFunc gf args).run P w=.ok (.enter gf args) w) (hseq:Steps P gf lb encs K R s0 S w0) (hb0:∀ k,K k→w.heap[k]?=w0.heap[k]?) (hn0:∀ k,K k→k<w.heap.size) (hps:∀ x,(encs x).size=ps.size)
  (I:σ→World→Prop) (hI:OwnFrom w.heap.size I) (h0:I s0 w) (a1:α→Act)
  (hassign:∀ (l:Nat) (x:α) (W:World) (K:Act→World→Prop),K (a1 x) W→assign.wpIn (Fence.wide.inRound l) 2 P (Exit.then K (fun _ _ _=>False)) { tmps:=(ps.zip (encs x)).foldl (fun t (p,v)=>t.setIfInBounds p v) a.tmps,defers:=[] } W)
  (hbody:∀ (l:Nat) (s:σ) (x:α) (s':σ) (W:World),R s x s'→I s W→body.wpIn (Fence.wide.inRound l) 2 P (KQ K (I s') W) (a1 x) W)
  (hdone:∀ (D:Nat) (s:σ) (W:World),w.heap.size≤D→S s→I s W→W.heap[D]?=some (.deferred (some []))→Q .normal { a with defers:={ target:=.collected D,args:=#[] } :: a.defers } W) :
  (Code.rangeFunc g ps assign body).wp P Q a w:=by
 refine (wpIn_wide (n:=4)).1 (wpIn_rangeFunc fun fn hfn=>?_);obtain ⟨D,hD⟩:∃ D,w.heap.size=D:=⟨_,rfl⟩
 obtain ⟨rec,hrec⟩:∃ rec:LoopState→Loop,rec=fun st=>{ state:=st,pending:=none,fn,tmps:=a.tmps,params:=ps,assign,body,defers:=D }:=⟨_,rfl⟩
 obtain ⟨W1,hW1⟩:∃ W1,(w.alloc (.deferred (some []))).alloc (.loop (rec .ready))=W1:=⟨_,rfl⟩
 have hK1:W1.heap[D]?=some (.deferred (some [])):=by
  rw [← hW1,← hD];exact (dx _ _ _ (by simp)).trans (gu w _)
 have hL1:W1.heap[D+1]?=some (.loop (rec .ready)):=by
  have h:=gu (w.alloc (.deferred (some []))) (.loop (rec .ready));rw [aX,hD,hW1] at h
  exact h
 have hI1:I s0 W1:=by rw [← hW1];exact hI.alloc _ (hI.alloc _ h0)
 have hb1:∀ k,K k→W1.heap[k]?=w0.heap[k]?:=fun k hk=>by
  have hlt:=hn0 k hk;rw [← hW1];exact (dx _ _ _ (by simp;omega)).trans ((dx _ _ _ (by omega)).trans (hb0 k hk))
 have henter:=run_enterLoop_outer (P:=P) (w:=w) fn a.tmps ps assign body;rw [hD] at henter
 refine ⟨D+1,[{ target:=.collected D,args:=#[] }],W1,{ target:=.fn (.func gf) lb,args:=#[.func (.yield (D+1)) #[] #[]] },W1,gf,#[.func (.yield (D+1)) #[] #[]]++lb,W1,?_,?_,fun _ _=>trivial,?_,fun h=>by (simp [Fence.wide] at h),?_⟩
 ·rw [Fence.wide_round,← hW1,hrec]
  exact henter
 ·simp only [resolve,hg]
  simp [go_sem]
 ·simp [invoke,go_sem,eg]
 ·rw [hD] at hI hn0
  refine (hseq (D+1) (fun s W=>I s W∧W.heap[D+1]?=some (.loop (rec .ready))∧W.heap[D]?=some (.deferred (some []))) W1 hb1 ?_ ⟨hI1,hL1,hK1⟩).mono ?_
  ·rintro s x s' W hR ⟨hi,hl,hk⟩
   have hlt:D+1<W.heap.size:=(af.1 hl).1;obtain ⟨W2,hW2⟩:∃ W2,W.putObj (D+1) (.loop (rec .busy))=W2:=⟨_,rfl⟩
   have hl2:W2.heap[D+1]?=some (.loop (rec .busy)):=by rw [← hW2];exact World.putObj_heap_same hlt
   have hk2:W2.heap[D]?=some (.deferred (some [])):=by rw [← hW2];exact (dQ (by omega)).trans hk
   have hi2:I s W2:=by rw [← hW2];exact hI.putObj _ hi (by omega) hl rfl
   have hb2:∀ k,K k→W2.heap[k]?=W.heap[k]?:=fun k hk=>by have:=hn0 k hk;rw [← hW2];exact dQ (by omega)
   have KR:(Instr.beginRound (D+1)).run P W=.ok () W2:=by
    have h:=run_beginRound (P:=P) hl (by rw [hrec]);rw [← hW2,h,hrec]
   have hy:=run_yield (P:=P) (args:=encs x) hl (by rw [hrec];exact hps x);rw [hrec] at hy;refine ⟨fn,_,assign,body,hy,roundIn_of_wpIn hfn (hassign _ x W _ ⟨_,KR,wpIn_mono (hbody _ s x s' W2 hR hi2) ?_⟩)⟩;rintro e a3 W3 hp
   cases e with
   | normal =>
    obtain ⟨hko,hb3,hi3⟩:=hp;have hl3:=hko.same _ _ hl2 rfl;have hk3:=hko.same _ _ hk2 rfl;have hlt3:D+1<W3.heap.size:=(af.1 hl3).1;have hend:=run_endRound (P:=P) none hl3
    have hb4:∀ k,K k→(W3.putObj (D+1) (.loop (rec .ready))).heap[k]?=W3.heap[k]?:=fun k hk=>by have:=hn0 k hk;exact dQ (by omega)
    refine ⟨_,W3.putObj (D+1) (.loop (rec .ready)),?_,rfl,⟨hI.putObj _ hi3 (by omega) hl3 rfl,World.putObj_heap_same hlt3,(dQ (by omega)).trans hk3⟩,fun k hk=>(hb4 k hk).trans ((hb3 k hk).trans (hb2 k hk))⟩;rw [hrec] at hend ⊢
    exact hend
   | ret=>exact hp.elim
   | exit id=>exact hp.elim
   | goto t=>exact hp.elim
   | panic ch=>exact hp.elim
   | outgrown=>exact hp.elim
  ·rintro e W2 ⟨⟨v,rfl⟩,s,hS,hi,hl,hk⟩
   have hend:=run_endLoop (P:=P) hl (by rw [hrec];simp)
   have hp:(rec .ready).pending=none:=by rw [hrec]
   rw [hp] at hend
   exact ⟨none,_,hend,hdone D s _ (by omega) hS (hI.putObj _ hi (by omega) hl rfl) ((dQ (by omega)).trans hk)⟩
def aao (s:List Value) (x:Int × Value) (s':List Value):Prop:=s=s'++[x.2]∧x.1=(s'.length:Int)
def Xy (x:Int × Value):Array Value:=#[.int .i64 x.1,x.2]
attribute [local go_sem] Oper.semAt_some
theorem KS (vs:List Value) (k g:Nat) (w:World) (hk:w.heap[k]?=some (.cells #[.slice (some ⟨g,0,none⟩) vs.length vs.length] 121 (0,0))) (hg:w.heap[g]?=some (.cells vs.toArray 1 (0,0))) (hs:vs.length≤1000) :
  Steps Tryz.prog 130 #[ptr k] Xy (fun b=>b=k∨b=g) aao vs (fun s=>s=[]) w:=by
 intro l J W hW hY h0;have hk0:W.heap[k]?=some (.cells #[.slice (some ⟨g,0,none⟩) vs.length vs.length] 121 (0,0)):=(hW k (.inl rfl)).trans hk;have hg0:W.heap[g]?=some (.cells vs.toArray 1 (0,0)):=(hW g (.inr rfl)).trans hg;have HY:=hid hY;have IV:=hid hk0;have HG0:=hid hg0;clear hY hW hk hg;obtain ⟨n,hn⟩:∃ n,vs.length=n:=⟨_,rfl⟩;have HN:=hid hn;rw [hn] at hk0 hs IV
 have hc0:W.cell? ⟨k,0,none⟩=some (.slice (some ⟨g,0,none⟩) n n):=by simp [World.cell?,hk0]
 clear hk0 hg0 hn;refine callsIn_of_wp Tryz.func130 rfl trivial ?_ rfl;simp only [Tryz.ntmps130,List.size_toArray,aH,dM,Nat.reduceAdd,Nat.reduceSub,Array.replicate_succ,Array.replicate_zero,List.push_toArray,List.append_toArray,fA,bH];have e0:IntKind.i64.wrap ((n:Int) - 1)=(n:Int) - 1:=bg _ (by omega)
 gi_wp2
 gi_loopw [3] (fun iv wr=>∃ (i:Nat),iv=.int .i64 ((i:Int) - 1)∧i≤n∧Hid (J (vs.take i) wr)∧Hid (wr.heap[k]?=some (.cells #[.slice (some ⟨g,0,none⟩) n n] 121 (0,0)))∧Hid (wr.heap[g]?=some (.cells vs.toArray 1 (0,0)))) (fun iv _=>(intOf iv+1).toNat)
 case atStart=>exact ⟨n,by first|rfl|rw [e0],ae _,hid (by rw [bX (by rw [HN.out];exact ae _)];exact h0),IV,HG0⟩
 case round =>
  obtain ⟨i,rfl,hi,HJ,HK,HG⟩:=hrel
  have hc:wr.cell? ⟨k,0,none⟩=some (.slice (some ⟨g,0,none⟩) n n):=by simp [World.cell?,HK.out]
  clear hc0
  by_cases h1:i=0
  ·subst h1
   have hd:decide ((0:Int)≤((0:Nat):Int) - 1)=false:=by decide
   gi_wp2
   go_end0
   exact ⟨⟨_,rfl⟩,[],rfl,HJ.out⟩
  ·obtain ⟨j,rfl⟩:∃ j,i=j+1:=⟨i - 1,by omega⟩
   have hjl:j<vs.length:=by rw [HN.out];omega
   obtain ⟨v,hv⟩:∃ v,vs[j]=v:=⟨_,rfl⟩
   have hcj:wr.cell? ⟨g,j,none⟩=some v:=by
    have h:=HG.out
    simp [World.cell?,h,hjl,hv]
   have e1:((j+1:Nat):Int) - 1=(j:Int):=by omega
   rw [e1];obtain ⟨fn,tmps,assign,body,hy,hR⟩:=HY.out (vs.take (j+1)) ((j:Int),v) (vs.take j) wr ⟨by rw [List.take_add_one,aC hjl,hv];rfl,by rw [il];dsimp only;omega⟩ HJ.out;dsimp only [Xy] at hy
   have hj0:(0:Int)≤(j:Int):=by omega
   have hjn:(j:Int)<(n:Int):=by omega
   have ah9:j<n:=by omega
   have e2:IntKind.i64.wrap ((j:Int) - 1)=(j:Int) - 1:=bg _ (by omega);clear hv hjl e1
   gi_wp2
   refine hR.mono ?_;rintro e W3 ⟨rfl,hJ3,hk3⟩;have ZH:=hid hJ3;have Ui:Hid (W3.heap[k]?=some (.cells #[.slice (some ⟨g,0,none⟩) n n] 121 (0,0))):=hid ((hk3 k (.inl rfl)).trans HK.out);have HG3:Hid (W3.heap[g]?=some (.cells vs.toArray 1 (0,0))):=hid ((hk3 g (.inr rfl)).trans HG.out);clear hJ3 hk3
   gi_wp2
   go_roundw
   case rel=>exact ⟨j,by first|rfl|rw [e2],by omega,ZH,Ui,HG3⟩
   case measure=>simp [intOf]
theorem KT {l n:Nat} {P:Program} {o:Oper} {a:Act} {w:World} {K:Act→World→Prop} {Q:Exit→Act→World→Prop} (hd:∀ c,o.op≠.defer c) (_hq:¬ LetsOut Q) (h:o.wp P a w K Q):o.wpIn (Fence.wide.inRound l) n P a w K Q:=by
 refine ⟨fun _ _=>trivial,?_⟩;rw [Fence.inRound_round,Oper.semAt_some l _ _ hd]
 unfold Oper.wp at h
 generalize (execOp a.eval o).run P w=r at h
 cases r with
 | ok x w' =>
  cases x with
  | value v=>exact h
  | skip=>exact h
  | defer d=>exact h
  | enter f args=>exact ⟨fun h=>by simp [Fence.wide,Fence.inRound] at h,CallsIn.mono (CallsIn.inRound l (callsIn_wide.2 h)) (fun e w'' he=>by cases e <;> exact he)⟩
  | row r x=>exact ⟨fun h=>by simp [Fence.wide,Fence.inRound] at h,fun c cs _=>let ⟨v,w',q,st⟩:=h c cs;⟨v,w',q,stepsIn_wide.2 st⟩⟩
  | _=>exact h.elim
 | halt x w'=>cases x <;> first|exact h|exact h.elim
theorem wH {l n:Nat} {P:Program} {ops:Array Oper} {Q:Exit→Act→World→Prop} {md:Region.Mode} (hd:∀ o∈ops,∀ c,o.op≠.defer c) (hq:¬ LetsOut Q) :
  ∀ (fuel:Nat) (listed:Array Bool) (a:Act) (w:World),wpAny P md ops Q fuel listed a w→wpAnyIn (Fence.wide.inRound l) n P md ops Q fuel listed a w
 | 0,_,_,_,h=>h
 | fuel+1,listed,a,w,h=>by
  refine ⟨h.1,fun i hi=>?_⟩;have h2:=h.2 i hi
  unfold wpOp at h2
  unfold wpOpIn
  cases ho:ops[i]? with
  | none=>rw [ho] at h2;exact wH hd hq fuel _ a w h2
  | some o =>
   rw [ho] at h2;have hm:o∈ops:=Array.mem_of_getElem? ho;dsimp only at h2 ⊢
   split at h2
   ·rename_i hw
    rw [ay hw]
    rcases h2 with h2|h2
    ·exact Oper.wpIn_mono (fun a' w' h'=>wH hd hq fuel _ a' w' h') (KT (hd o hm) hq h2)
    ·exact absurd h2.2 hq
   ·rename_i hw
    rw [ai hw]
    exact ⟨fun _ _=>trivial,wH hd hq fuel _ _ w h2⟩
theorem Gi {l n id:Nat} {P:Program} {ops:Array Oper} {Q:Exit→Act→World→Prop} {a:Act} {w:World} (hm:P.follows .mixedOrders=true) (hd:∀ o∈ops,∀ c,o.op≠.defer c) (hq:¬ LetsOut Q)
  (h:wpAny P .any ops Q ops.size (Array.replicate ops.size false) a w.drew):(Code.region id ops true).wpIn (Fence.wide.inRound l) n P Q a w :=
 wpIn_region_draw fun t=>by
  simp only [Region.schedule,hm,Bool.true_or,if_true]
  exact wpAnyIn_sound ops.size t _ a _ (wH hd hq _ _ _ _ h)
theorem dA {P:Program} {ops:Array Oper} {S:World→Prop} {o:Oper} {v:Value} {a:Act} (t:TypeId) (x:Operand) (ho:o.op=.load t x) (hw:Region.wanted o (yielded ops a.tmps)=true) (h:∀ X,S X→(Instr.loadAt t (a.eval x)).run P X=.ok v X):YieldsIf P ops S o v a :=
 .inl ⟨hw,fun X hX=>by unfold execOp;rw [ho];simp only [iV,h X hX,eP,iW]⟩
theorem AO {c:Prop} [Decidable c] {A B:Prop} (hc:c) (hA:A):if c then A else B:=by rw [ay hc];exact hA
theorem IW {d bx:Nat} {W:World} (h:W.cell? ⟨bx,0,none⟩=some (ptr d)):(Instr.loadAt 110 (.pointer (some ⟨bx,0,none⟩))).run Tryz.prog W=.ok (ptr d) W:=by
 simp [go_sem,h]
theorem aaq:(Tryz.prog.info? 1).map (fun i=>(i.zero,i.size,i.bytes))=some (some Value.nilFunc,1,8):=by kernel_rfl
section
variable {d:Nat} {L:List aZ} {size:Nat} {lv:Value} {s:St} {O:Nat→Prop}
def Ty (W:World) (k:Nat) (t:TypeId):Prop:=∃ cs fr,W.heap[k]?=some (.cells cs t fr)
theorem Ty.one {W:World} {k:Nat} {t u:TypeId} (h:Ty W k t) (h':Ty W k u):t=u:=by
 obtain ⟨_,_,h⟩:=h;obtain ⟨_,_,h'⟩:=h';rw [h] at h'
 injection h' with h'
 injection h'
theorem dF {W:World} {B n size k:Nat} {e:TypeId} {v:Value} {xs:List Value} (h:W.ownsRow B e size v n xs) (hk:v.ownBlock=some k):Ty W k e:=by
 rcases h.2 with ⟨rfl,_⟩|⟨g,cap,cur,rfl,_,h3,_⟩
 ·cases hk
 ·obtain rfl:g=k:=by simpa [Value.ownBlock] using hk
  exact ⟨_,_,h3⟩
theorem og {W:World} {k:Nat}:∀ {l:List Open} {xs:List Value} {bs:List (Option Nat)},gL O W l xs bs→some k∈bs→Ty W k 49
 | [],_,_,⟨_,h⟩,hk=>by rw [h] at hk;cases hk
 | o :: r,_,_,⟨kv,ks,us,bs',_,h2,h3,_,h5⟩,hk=>by
  rw [h2] at hk
  rcases bA.1 hk with hk|hk
  ·exact dF h3 hk.symm
  ·exact og h5 hk
theorem nT.ty {W:World} {tv ov:Value} {bs:List (Option Nat)} {vs xs:List Value} (h:nT d L size lv s O tv ov bs vs xs W) {k:Nat} (hk:O k):Ty W k 123∨Ty W k 1∨Ty W k 128∨Ty W k 49:=by
 rcases (h.own k).1 hk with rfl|h1|h1|h1
 ·exact .inl ⟨_,_,h.blk⟩
 ·exact .inr (.inl (dF h.lQ h1))
 ·exact .inr (.inr (.inl (dF h.qx h1)))
 ·exact .inr (.inr (.inr (og h.opn h1)))
theorem Mem.ty {W:World} (h:Mem d L size lv s O W) {k:Nat} (hk:O k):Ty W k 123∨Ty W k 1∨Ty W k 128∨Ty W k 49:=by
 obtain ⟨tv,ov,bs,vs,xs,h⟩:=h;exact h.ty hk
theorem Mem.Uj {W:World} (h:Mem d L size lv s O W) {k:Nat} {t:TypeId} (ht:Ty W k t) (h1:t≠123) (h2:t≠1) (h3:t≠128) (h4:t≠49):¬ O k:=by
 intro hk
 rcases h.ty hk with h|h|h|h
 ·exact h1 (ht.one h)
 ·exact h2 (ht.one h)
 ·exact h3 (ht.one h)
 ·exact h4 (ht.one h)
theorem Mem.EL {W:World} (h:Mem d L size lv s O W) {k:Nat} (hk:O k):∃ o:Obj,W.heap[k]?=some o∧o.isCells=true:=by
 rcases h.ty hk with ⟨cs,fr,h⟩|⟨cs,fr,h⟩|⟨cs,fr,h⟩|⟨cs,fr,h⟩ <;> exact ⟨_,h,rfl⟩
theorem bN.others {O':Nat→Prop} {W W':World} (h:bN O O' W W') (hM:Mem d L size lv s O W):KeepsOthers W W':=by
 refine ⟨h.size,fun k o hk hc=>?_⟩;have hlt:k<W.heap.size:=(af.1 hk).1
 rw [h.block k hlt (fun hO=>by
  obtain ⟨o',h1,h2⟩:=hM.EL hO
  rw [hk] at h1;cases h1;rw [hc] at h2;cases h2)]
 exact hk
theorem Qm {W Wd w5:World} {tv ov:Value} {bs:List (Option Nat)} {us xs:List Value} {x:Stp} {v:Value} {o:Obj} {g5 c5 m:Nat} (hM:nT d L size lv s O tv ov bs us xs W) (hm:s.todo.length=m) (hx:qD O W d x v) (hd:Below W.heap.size W Wd)
  (bY:w5.ownsRow 0 1 1 (.slice (some ⟨g5,0,none⟩) (m+1) c5) (m+1) (us++[v])) (aP:(Wd.alloc o).grownBy w5 tv.ownBlock) (hat:tv.ownBlock=some g5∨W.heap.size≤g5) :
  w5.cell? ⟨d,2,none⟩=some tv∧w5.frozen? ⟨d,2,none⟩=false∧∃ O',Mem d L size lv { s with todo:=x :: s.todo } O' (w5.setCell ⟨d,2,none⟩ (.slice (some ⟨g5,0,none⟩) (m+1) c5))∧bN O O' W (w5.setCell ⟨d,2,none⟩ (.slice (some ⟨g5,0,none⟩) (m+1) c5)):=by
 have hdl:d<W.heap.size:=(af.1 hM.blk).1
 have htd:tv.ownBlock≠some d:=fun e=>by have h1:=dF hM.lQ e;have h2:Ty W d _:=⟨_,_,hM.blk⟩;exact absurd (h1.one h2) (by decide)
 have h5:∀ k,k<W.heap.size→tv.ownBlock≠some k→w5.heap[k]?=W.heap[k]?:=fun k hk hne =>
  (aP.block k (by rw [aX];have:=hd.size;omega) (fun e=>hne e.symm)).trans ((dx Wd o k (by have:=hd.size;omega)).trans (hd.block k hk))
 have hb5:=(h5 d hdl htd).trans hM.blk;refine ⟨by simp [World.cell?,hb5],by simp [World.frozen?,hb5],fun k=>k=d∨g5=k∨ov.ownBlock=some k∨some k∈bs,?_⟩
 have hset:∀ k,k≠d→(w5.setCell ⟨d,2,none⟩ (.slice (some ⟨g5,0,none⟩) (m+1) c5)).heap[k]?=w5.heap[k]?:=fun k hk=>ak _ _ _ _ hk
 have Xu:W.heap.size≤w5.heap.size:=by have h1:=aP.size;have h2:=hd.size;rw [aX] at h1;omega
 have hS:bN O (fun k=>k=d∨g5=k∨ov.ownBlock=some k∨some k∈bs) W (w5.setCell ⟨d,2,none⟩ (.slice (some ⟨g5,0,none⟩) (m+1) c5)):=by
  refine ⟨aP.os.trans hd.os,aP.tape.trans hd.tape,aP.output.trans hd.output,by simpa using Xu,?_,?_⟩
  ·rintro k (rfl|rfl|h1|h1)
   ·exact .inl ((hM.own _).2 (.inl rfl))
   ·exact hat.elim (fun h=>.inl ((hM.own _).2 (.inr (.inl h)))) .inr
   ·exact .inl ((hM.own _).2 (.inr (.inr (.inl h1))))
   ·exact .inl ((hM.own _).2 (.inr (.inr (.inr h1))))
  ·intro k hk hO
   have hkd:k≠d:=fun e=>hO ((hM.own k).2 (.inl e))
   rw [hset k hkd]
   exact h5 k hk (fun e=>hO ((hM.own k).2 (.inr (.inl e))))
 refine ⟨⟨_,ov,bs,us++[v],xs,az hb5 _,hM.words.stay hS,?_,⟨v,us,rfl,hx.stay hS,hM.todo.stay hS⟩,?_,?_,hM.apart,?_⟩,hS⟩
 ·show World.ownsRow _ 0 _ 1 _ (s.todo.length+1) _
  rw [hm];refine iH bY (fun k hk=>?_)
  have h1:g5=k:=by simpa [Value.ownBlock] using hk
  refine hset k (fun e=>?_);have h2:Ty w5 k 1:=dF bY hk;rw [e] at h2
  exact absurd (h2.one ⟨_,_,hb5⟩) (by decide)
 ·refine iH hM.qx (fun k hk=>?_)
  have h1:=dF hM.qx hk
  have hkd:k≠d:=fun e=>by rw [e] at h1;exact absurd (h1.one ⟨_,_,hM.blk⟩) (by decide)
  exact (hset k hkd).trans (h5 k (hM.qx.lt k hk).2 (fun e=>absurd (h1.one (dF hM.lQ e)) (by decide)))
 ·refine gL.stay hS hM.opn (fun k hk=>?_)
  have h1:=og hM.opn hk
  have hkd:k≠d:=fun e=>by rw [e] at h1;exact absurd (h1.one ⟨_,_,hM.blk⟩) (by decide)
  exact (hset k hkd).trans (h5 k (hM.lt k ((hM.own k).2 (.inr (.inr (.inr hk))))) (fun e=>absurd (h1.one (dF hM.lQ e)) (by decide)))
 ·intro k
  simp [Value.ownBlock]
def vJ (O:Nat→Prop) (W:World) (d:Nat):List Stp→List Value→Prop
 | [],vs=>vs=[]
 | x :: l,vs=>∃ v us,vs=v :: us∧qD O W d x v∧vJ O W d l us
theorem vJ.get {W:World}:∀ {l:List Stp} {vs:List Value},vJ O W d l vs→vs.length=l.length∧∀ (i:Nat) (v:Value),vs[i]?=some v→∃ x:Stp,l[i]?=some x∧qD O W d x v
 | [],_,h=>by rw [show _=[] from h];exact ⟨rfl,fun i v h=>by simp at h⟩
 | x :: l,_,⟨v,us,h1,h2,h3⟩=>by
  obtain ⟨h4,h5⟩:=vJ.get h3;subst h1;refine ⟨by simp [h4],fun i u hi=>?_⟩
  cases i with
  | zero=>exact ⟨x,rfl,by simp at hi;rw [← hi];exact h2⟩
  | succ i=>simpa using h5 i u (by simpa using hi)
theorem Qn {W:World} {x:Stp} {v:Value} (h:qD O W d x v):∃ f a c,v=.func f a c:=by
 cases x with
 | m k=>exact ⟨_,_,_,h⟩
 | word x=>obtain ⟨_,_,rfl,_⟩:=h;exact ⟨_,_,_,rfl⟩
 | lines k=>obtain ⟨_,_,rfl,_⟩:=h;exact ⟨_,_,_,rfl⟩
 | more k=>obtain ⟨_,_,rfl,_⟩:=h;exact ⟨_,_,_,rfl⟩
 | jE k=>obtain ⟨_,_,rfl,_⟩:=h;exact ⟨_,_,_,rfl⟩
 | kK k=>obtain ⟨_,_,rfl,_⟩:=h;exact ⟨_,_,_,rfl⟩
theorem Uk {W:World} {x:Stp} {v:Value} (h:qD O W d x v):v.oneCell'=true:=by
 cases x with
 | m k=>rw [show v=sU d k from h];rfl
 | word x=>obtain ⟨_,_,rfl,_⟩:=h;rfl
 | lines k=>obtain ⟨_,_,rfl,_⟩:=h;rfl
 | more k=>obtain ⟨_,_,rfl,_⟩:=h;rfl
 | jE k=>obtain ⟨_,_,rfl,_⟩:=h;rfl
 | kK k=>obtain ⟨_,_,rfl,_⟩:=h;rfl
def IX (d:Nat) (L:List aZ) (size:Nat) (lv:Value) (s:St) (O:Nat→Prop) (l:List Stp) (bx:Nat) (W0:World) (b:List Value) (W:World):Prop :=
 ∃ O',Mem d L size lv { s with todo:=l.drop b.length++s.todo } O' W∧bN O O' W0 W∧W.heap[bx]?=some (.cells #[ptr d] 110 (0,0))
theorem IY {l:List Stp} {bx B:Nat} {W0:World} (hB:W0.heap.size≤B):OwnFrom B (IX d L size lv s O l bx W0):=by
 rintro b W W' row ⟨O',hM,hS,hbx⟩ hg hr
 have same:∀ k (o:Obj),W.heap[k]?=some o→o.isCells=true→W'.heap[k]?=W.heap[k]?:=fun k o hk hc =>
  hg.block k (af.1 hk).1 (fun e=>by obtain ⟨_,o',h1,h2⟩:=hr k e.symm;rw [hk] at h1;cases h1;rw [hc] at h2;cases h2)
 have hC:Calm O' W W':=⟨hg.size,fun k hk=>by obtain ⟨o,h1,h2⟩:=hM.EL hk;exact same k o h1 h2,fun k hk=>by obtain ⟨o,h1,h2⟩:=hk.2.2;exact same k o h1 h2⟩;refine ⟨O',hM.calm hC,⟨hg.os.trans hS.os,hg.tape.trans hS.tape,hg.output.trans hS.output,aJ hS.size hg.size,hS.own,fun k hk hO=>(hg.block k (aD hk hS.size) (fun e=>?_)).trans (hS.block k hk hO)⟩,(same bx _ hbx rfl).trans hbx⟩;have:=(hr k e.symm).1
 omega
theorem ND {l:List Stp} {bx B k:Nat} {W0:World} {cs:Array Value} {t:TypeId} {vs:List Value} (hB:W0.heap.size≤B):OwnFrom B (fun b W'=>IX d L size lv s O l bx W0 b W'∧W'.heap[k]?=some (.cells cs t (0,0))∧∃ t,vs=b++t):=by
 rintro b W W' row ⟨h1,h2,h3⟩ hg hr;refine ⟨IY hB b W W' row h1 hg hr,(hg.block k (af.1 h2).1 (fun e=>?_)).trans h2,h3⟩;obtain ⟨_,o',h4,h5⟩:=hr k e.symm;rw [h2] at h4;cases h4;cases h5
theorem Qo {W:World} (hM:Mem d L size lv s O W) (l:List Stp) (vs:List Value) (g:Nat) (hg:Fr O W g) (hc:W.heap[g]?=some (.cells vs.toArray 1 (0,0))) (ha:vJ O W d l vs) (hl:vs.length≤1000) (ht:s.todo.length≤1000000) :
  Calls Tryz.prog 100 #[ptr d,.slice (some ⟨g,0,none⟩) vs.length vs.length] W fun e W'=>e=.returned (.tuple #[])∧∃ O',Mem d L size lv { s with todo:=l++s.todo } O' W'∧bN O O' W W':=by
 obtain ⟨bx,hbx⟩:∃ d,W.heap.size=d:=⟨_,rfl⟩;have HA:=hid ha.get;refine (callsIn_wide (n:=4)).1 ?_;refine callsIn_of_wp_marks Tryz.func100 rfl trivial ?_ rfl;simp only [Tryz.ntmps100,List.size_toArray,aH,dM,Nat.reduceAdd,Nat.reduceSub,Array.replicate_succ,Array.replicate_zero,List.push_toArray,List.append_toArray,fA,bH];refine wpIn_wide.2 ?_
 have c1:∀ X:World,Calls Tryz.prog 115 #[.slice (some ⟨g,0,none⟩) vs.length vs.length] X fun e w'=>e=.returned (.func (.func 130) #[] #[ptr X.heap.size])∧w'=X.alloc (.cells #[.slice (some ⟨g,0,none⟩) vs.length vs.length] 121):=by
  intro X
  go_enter Tryz.func115,Tryz.ntmps115
  go_wp2_with fail
  go_ret
  exact ⟨rfl,rfl⟩
 go_wp2_with (go_at_call 115;refine (c1 _).mono ?_;rintro e w' ⟨rfl,rfl⟩)
 clear c1;obtain ⟨W0,hW0⟩:∃ W0,(W.alloc (.cells #[ptr d] 110)).alloc (.cells #[.slice (some ⟨g,0,none⟩) vs.length vs.length] 121)=W0:=⟨_,rfl⟩
 have hz0:W0.heap.size=bx+2:=by rw [← hW0];simp [hbx]
 have hB0:Below W.heap.size W W0:=by rw [← hW0];exact ((aj _ _).alloc (ae _) _).alloc (by simp) _
 have hx0:W0.heap[bx]?=some (.cells #[ptr d] 110 (0,0)):=by
  rw [← hW0,dx _ _ _ (by simp;omega),← hbx];exact fO _ _
 have hx1:W0.heap[bx+1]?=some (.cells #[.slice (some ⟨g,0,none⟩) vs.length vs.length] 121 (0,0)):=by
  rw [← hW0];have h:=fO (W.alloc (.cells #[ptr d] 110)) (.cells #[.slice (some ⟨g,0,none⟩) vs.length vs.length] 121);rw [aX,hbx] at h
  exact h
 have hg0:=(hB0.block g hg.1).trans hc;have hI0:IX d L size lv s O l bx W vs W0:=⟨O,by rw [gD (by rw [HA.out.1];exact ae _)];exact hM.below hB0,.of_below hB0,hx0⟩;have hgl:=hg.1;have hgO:=hg.2.1;have HG:=hid hc;rw [hbx] at hgl;rw [hW0];clear hW0 hc
 refine Cw (gf:=130) (lb:=#[ptr (bx+1)]) (K:=fun b=>b=bx+1∨b=g) rfl (enters_of Tryz.func130 (by kernel_rfl) rfl) (KS vs (bx+1) g W0 hx1 hg0 hl) (fun _ _=>rfl) (by rintro k (rfl|rfl) <;> omega) (fun _=>rfl) (fun b W'=>IX d L size lv s O l bx W b W'∧W'.heap[bx+1]?=some (.cells #[.slice (some ⟨g,0,none⟩) vs.length vs.length] 121 (0,0))∧∃ t,vs=b++t) (ND (by omega)) ⟨hI0,hx1,[],by simp⟩
  (fun x=>{ tmps:=#[ptr d,.slice (some ⟨g,0,none⟩) vs.length vs.length,ptr bx,undef,undef,x.2,.slice (some ⟨g,0,none⟩) vs.length vs.length,.func (.func 130) #[] #[ptr (bx+1)],.int .i64 x.1,x.2,undef,undef,undef,undef,undef,undef,undef,undef,undef,undef],defers:=[] }) ?assign ?body ?done
 case assign =>
  intro l x W K hK;dsimp only [Xy]
  gi_wp2
  exact hK
 case body =>
  rintro lo b ⟨i,v⟩ b' W1 ⟨hb,hi⟩ ⟨⟨O',hM1,hS1,Eo⟩,hkx,hpre⟩;dsimp only at hb hi ⊢;obtain ⟨tv,ov,bs,us,xs,hX⟩:=hM1
  obtain ⟨x,hx,hxs⟩:∃ x,l.drop b'.length=x :: l.drop b.length∧qD O' W1 d x v:=by
   have adV:∃ t,vs=b++t:=hpre;obtain ⟨t,ht⟩:=adV
   have hv:vs[b'.length]?=some v:=by rw [ht,hb];simp
   obtain ⟨x,h1,h2⟩:=HA.out.2 _ _ hv
   have hlt:b'.length<l.length:=by
    rcases dW b'.length l.length with h|h
    ·exact h
    ·rw [dh h] at h1;cases h1
   refine ⟨x,?_,h2.stay hS1⟩;rw [bZ hlt];rw [aC hlt] at h1;rw [aY h1,hb];simp
  obtain ⟨m,hm⟩:∃ m,(l.drop b.length++s.todo).length=m:=⟨_,rfl⟩
  have hm6:m≤1001000:=by
   have h1:=HA.out.1;rw [← hm,aM,bC];omega
  have KU:=hX.lQ;rw [show (St.todo { s with todo:=l.drop b.length++s.todo }).length=m from hm] at KU;obtain ⟨ta,tc,rfl⟩:=fD KU;obtain ⟨iF,hi0,hz0,hz1,hz2⟩:=fF aaq;have hblk:=hX.blk;have hdl:d<W1.heap.size:=(af.1 hblk).1;have hbl:bx<W1.heap.size:=(af.1 Eo).1;obtain ⟨Wd,hWd⟩:∃ Wd,W1.drew=Wd:=⟨_,rfl⟩
  have hbd:Below W1.heap.size W1 Wd:=by rw [← hWd];exact (aj _ _).drew
  have Ul:Hid (Wd.cell? ⟨d,2,none⟩=some (.slice ta m tc)):=hid ((hbd.cell (p:=⟨d,2,none⟩) hdl).trans (by simp [World.cell?,hblk]))
  have hsd:Wd.heap.size=W1.heap.size:=by rw [← hWd];rfl
  have adX:Hid ((Wd.alloc (.cells #[v] 1)).cell? ⟨d,2,none⟩=some (.slice ta m tc)):=hid (by
   have h1:(Wd.alloc (.cells #[v] 1)).heap[d]?=Wd.heap[d]?:=dx _ _ _ (by omega);have h2:=Ul.out;simp only [World.cell?] at h2 ⊢
   rw [h1];exact h2)
  have hSd:Wd.cell? ⟨bx,0,none⟩=some (ptr d):=(hbd.cell (p:=⟨bx,0,none⟩) hbl).trans (by simp [World.cell?,Eo])
  have Wn:Hid ((Wd.alloc (.cells #[v] 1)).cell? ⟨bx,0,none⟩=some (ptr d)):=hid (by
   have h1:(Wd.alloc (.cells #[v] 1)).heap[bx]?=Wd.heap[bx]?:=dx _ _ _ (by omega);have h2:=hSd;simp only [World.cell?] at h2 ⊢
   rw [h1];exact h2)
  have HTa:Hid ((Wd.alloc (.cells #[v] 1)).ownsRow 0 1 1 (.slice ta m tc) m us):=hid ((aV KU hbd).alloc _);have KV:=hid (Uk hxs)
  have HE:Hid (∀ (g5 c5:Nat) (w5:World),w5.ownsRow 0 1 1 (.slice (some ⟨g5,0,none⟩) (m+1) c5) (m+1) (us++[v])→(Wd.alloc (.cells #[v] 1)).grownBy w5 (Value.slice ta m tc).ownBlock→((Value.slice ta m tc).ownBlock=some g5∨g5=(Wd.alloc (.cells #[v] 1)).heap.size) →
    w5.cell? ⟨bx,0,none⟩=some (ptr d)∧w5.cell? ⟨d,2,none⟩=some (.slice ta m tc)∧w5.frozen? ⟨d,2,none⟩=false∧(w5.setCell ⟨d,2,none⟩ (.slice (some ⟨g5,0,none⟩) (m+1) c5)).cell? ⟨bx,0,none⟩=some (ptr d) ∧
    KeepsOthers W1 (w5.setCell ⟨d,2,none⟩ (.slice (some ⟨g5,0,none⟩) (m+1) c5))∧(∀ k,(k=bx+1∨k=g)→(w5.setCell ⟨d,2,none⟩ (.slice (some ⟨g5,0,none⟩) (m+1) c5)).heap[k]?=W1.heap[k]?)∧(IX d L size lv s O l bx W b' (w5.setCell ⟨d,2,none⟩ (.slice (some ⟨g5,0,none⟩) (m+1) c5))∧(w5.setCell ⟨d,2,none⟩ (.slice (some ⟨g5,0,none⟩) (m+1) c5)).heap[bx+1]?=some (.cells #[.slice (some ⟨g,0,none⟩) vs.length vs.length] 121 (0,0))∧∃ t,vs=b'++t)):=hid (by
   intro g5 c5 w5 bY aP hat;have Xz:(Value.slice ta m tc).ownBlock=some g5∨W1.heap.size≤g5:=hat.imp id (fun h=>by rw [h,aX];omega);obtain ⟨p1,p2,O2,p3,p4⟩:=Qm hX hm hxs hbd bY aP Xz;have hMX:Mem d L size lv { s with todo:=l.drop b.length++s.todo } O' W1:=⟨_,_,_,_,_,hX⟩
   have hnb:∀ k t,Ty W1 k t→t≠123→t≠1→t≠128→t≠49→(w5.setCell ⟨d,2,none⟩ (.slice (some ⟨g5,0,none⟩) (m+1) c5)).heap[k]?=W1.heap[k]?:=fun k t ht a b c e=>by
    obtain ⟨cs,fr,h⟩:=ht
    exact p4.block k (af.1 h).1 (hMX.Uj ⟨cs,fr,h⟩ a b c e)
   have q1:=hnb bx _ ⟨_,_,Eo⟩ (by decide) (by decide) (by decide) (by decide)
   have q2:(w5.setCell ⟨d,2,none⟩ (.slice (some ⟨g5,0,none⟩) (m+1) c5)).cell? ⟨bx,0,none⟩=some (ptr d):=by simp [World.cell?,q1,Eo]
   have adY:bx≠d:=fun e=>by rw [e,hblk] at Eo;cases Eo
   refine ⟨?_,p1,p2,q2,p4.others hMX,?_,⟨O2,?_,hS1.trans p4,q1.trans Eo⟩,(hnb (bx+1) _ ⟨_,_,hkx⟩ (by decide) (by decide) (by decide) (by decide)).trans hkx,by obtain ⟨t,ht⟩:=hpre;exact ⟨v :: t,by rw [ht,hb];simp⟩⟩
   ·rw [iy (w:=w5.setCell ⟨d,2,none⟩ (.slice (some ⟨g5,0,none⟩) (m+1) c5)) (ak _ _ _ _ adY).symm]
    exact q2
   ·rintro k (rfl|rfl)
    ·exact hnb (bx+1) _ ⟨_,_,hkx⟩ (by decide) (by decide) (by decide) (by decide)
    ·exact p4.block k (aD (by omega) hS1.size) (fun h=>(hS1.own k h).elim hgO (fun h=>by omega))
   ·rw [hx];exact p3)
  obtain ⟨vf,va,vc,rfl⟩:=Qn hxs;clear hsd hX hb hi hpre hbd hblk hdl hbl hx hxs KU hm hS1 Eo
  gi_wp2_with fail
  refine Gi (by kernel_rfl) (by simp) (by rintro ⟨_,_,h⟩;exact h) ?_;rw [hWd];refine wpAny_of_held (S:=fun X=>X.cell? ⟨bx,0,none⟩=some (ptr d)) _ _ _ _ ?_;have ag:=hSd;refine OP.y 0 rfl (ptr d) (dA 110 (.tmp 2) rfl (by rfl) (fun X hX=>IW hX)) ag ?_;simp only [OP.s];refine OP.y 1 rfl (ptr d) (dA 110 (.tmp 2) rfl (by rfl) (fun X hX=>IW hX)) ag ?_;simp only [OP.s];refine OP.m 5 rfl (.func vf va vc) ag ?_;simp only [OP.s];refine OP.m 2 rfl (ptr d) ag ?_;simp only [OP.s];refine OP.m 3 rfl (.pointer (some ⟨d,2,none⟩)) ag ?_;simp only [OP.s]
  refine OP.q 4 6 rfl rfl (fun K hK=>?_) fun K hK=>?_
  focus
   refine OP.w ?_;have q2:=Ul.out
   go_simp
   refine hK.out _ _ ag (fun jN=>?_)
   try simp only [OP.s]
   clear hK K q2
   refine OP.r 6 rfl fun K hK=>?_
   go_simp
   refine hK.out _ _ Wn.out (fun lT=>?_)
   try simp only [OP.s]
   clear hK K
  rotate_left
  focus
   refine OP.w ?_
   go_simp
   refine hK.out _ _ Wn.out (fun jN=>?_)
   try simp only [OP.s]
   clear hK K
   refine OP.r 4 rfl fun K hK=>?_
   have q2:=adX.out
   go_simp
   refine hK.out _ _ Wn.out (fun lT=>?_)
   try simp only [OP.s]
   clear hK K q2
  rotate_left
  all_goals
   refine OP.r 7 rfl fun K hK=>?_
   refine eD _ (.tmp 14) (.tmp 16) 121 rfl 0 1 iF Value.nilFunc 1 8 Tryz.underlying121 hi0 hz0 hz1 hz2 rfl (by decide) (.slice ta m tc) m us rfl HTa.out ⟨Wd.heap.size,0,none⟩ 1 1 [.func vf va vc] rfl rfl (cell_one_new Wd (.func vf va vc) 1) (by simpa using KV.out) (by decide) (by unfold maxLen;omega) (by omega) (aL _) _ rfl ?_;intro g5 c5 w5 bY aP hat Bt;have he:=HE.out g5 c5 w5 bY aP hat;refine hK.out _ _ he.1 (fun qy=>?_)
   try simp only [OP.s]
   clear hK K;refine OP.m 8 rfl (ptr d) qy ?_;simp only [OP.s];refine OP.m 9 rfl (.pointer (some ⟨d,2,none⟩)) qy ?_;simp only [OP.s];have q2:=he.2.1;have f2:=he.2.2.1
   refine OP.r 10 rfl fun K hK=>?_
   go_simp
   refine hK.out _ _ he.2.2.2.1 (fun _=>?_)
   try simp only [OP.s]
   clear hK K;refine bL (by kernel_rfl) ?_ _
   exact he.2.2.2.2
 case done =>
  rintro D b W1 hD rfl ⟨⟨O',hM1,hS1,Eo⟩,hkx,hpre⟩ hK;have h:=(IY (d:=d) (L:=L) (size:=size) (lv:=lv) (s:=s) (O:=O) (l:=l) (bx:=bx) (B:=W.heap.size) (ae _)).putObj (s:=([]:List Value)) (.deferred none) ⟨O',hM1,hS1,Eo⟩ (by omega) hK rfl;refine ⟨by simp,.inl ⟨_,_,rfl,run_takeDeferred hK,?_⟩⟩;obtain ⟨O2,h1,h2,_⟩:=h
  exact ⟨_,aI rfl _ _ _,rfl,O2,h1,h2⟩
end
theorem Qp:(Tryz.prog.info? 128).map (fun i=>(i.zero,i.size,i.bytes))=some (some (.agg #[.string ⟨#[]⟩,.string ⟨#[]⟩,.int .i64 0,.int .i64 0,.slice none 0 0,.int .i64 0]),6,80):=by kernel_rfl
section
variable {d:Nat} {L:List aZ} {size:Nat} {lv:Value} {s:St} {O:Nat→Prop}
theorem sW {W:World} {k:Nat}:∀ {l:List Open} {xs:List Value} {bs:List (Option Nat)},gL O W l xs bs→some k∈bs→k<W.heap.size
 | [],_,_,⟨_,h⟩,hk=>by rw [h] at hk;cases hk
 | o :: r,_,_,⟨kv,ks,us,bs',_,h2,h3,_,h5⟩,hk=>by
  rw [h2] at hk
  rcases bA.1 hk with hk|hk
  ·exact (h3.lt k hk.symm).2
  ·exact sW h5 hk
theorem MH (o:Open) (kv:Value) (h:∃ a n c,kv=.slice a n c):∀ u∈six o kv,u.oneCell'=true:=by
 obtain ⟨a,n,c,rfl⟩:=h;intro u hu;simp only [six,bA,ek,or_false] at hu
 rcases hu with rfl|rfl|rfl|rfl|rfl|rfl <;> rfl
theorem EM {W Wd w5:World} {tv ov kv:Value} {bs:List (Option Nat)} {us xs ks:List Value} {o:Open} {g5 c5 m:Nat} (hM:nT d L size lv s O tv ov bs us xs W) (hm:s.opn.length=m) (hd:Below W.heap.size W Wd)
  (bY:w5.ownsRow 0 128 6 (.slice (some ⟨g5,0,none⟩) (m+1) c5) (m+1) (xs++six o kv)) (aP:Wd.grownBy w5 ov.ownBlock) (hat:ov.ownBlock=some g5∨g5=Wd.heap.size)
  (NF:Wd.ownsRow 0 49 5 kv o.kids.length ks) (hks:aO W (Fr O W) o.kids ks) (hkn:∀ k,kv.ownBlock=some k→W.heap.size≤k) :
  w5.cell? ⟨d,3,none⟩=some ov∧w5.frozen? ⟨d,3,none⟩=false∧∃ O',Mem d L size lv { s with opn:=o :: s.opn } O' (w5.setCell ⟨d,3,none⟩ (.slice (some ⟨g5,0,none⟩) (m+1) c5))∧bN O O' W (w5.setCell ⟨d,3,none⟩ (.slice (some ⟨g5,0,none⟩) (m+1) c5)):=by
 have hdl:d<W.heap.size:=(af.1 hM.blk).1
 have hod:ov.ownBlock≠some d:=fun e=>by have h1:=dF hM.qx e;have h2:Ty W d _:=⟨_,_,hM.blk⟩;exact absurd (h1.one h2) (by decide)
 have h5d:∀ k,k<Wd.heap.size→ov.ownBlock≠some k→w5.heap[k]?=Wd.heap[k]?:=fun k hk hne=>aP.block k hk (fun e=>hne e.symm)
 have h5:∀ k,k<W.heap.size→ov.ownBlock≠some k→w5.heap[k]?=W.heap[k]?:=fun k hk hne=>(h5d k (aD hk hd.size) hne).trans (hd.block k hk)
 have hb5:=(h5 d hdl hod).trans hM.blk;have Xz:ov.ownBlock=some g5∨W.heap.size≤g5:=hat.imp id (fun h=>by rw [h];exact hd.size)
 have hset:∀ k,k≠d→(w5.setCell ⟨d,3,none⟩ (.slice (some ⟨g5,0,none⟩) (m+1) c5)).heap[k]?=w5.heap[k]?:=fun k hk=>ak _ _ _ _ hk
 have Xu:W.heap.size≤w5.heap.size:=aJ hd.size aP.size;refine ⟨by simp [World.cell?,hb5],by simp [World.frozen?,hb5],fun k=>k=d∨tv.ownBlock=some k∨g5=k∨some k∈kv.ownBlock :: bs,?_⟩
 have hS:bN O (fun k=>k=d∨tv.ownBlock=some k∨g5=k∨some k∈kv.ownBlock :: bs) W (w5.setCell ⟨d,3,none⟩ (.slice (some ⟨g5,0,none⟩) (m+1) c5)):=by
  refine ⟨aP.os.trans hd.os,aP.tape.trans hd.tape,aP.output.trans hd.output,by simpa using Xu,?_,?_⟩
  ·rintro k (rfl|h1|rfl|h1)
   ·exact .inl ((hM.own _).2 (.inl rfl))
   ·exact .inl ((hM.own _).2 (.inr (.inl h1)))
   ·exact Xz.elim (fun h=>.inl ((hM.own _).2 (.inr (.inr (.inl h))))) .inr
   ·rcases bA.1 h1 with h1|h1
    ·exact .inr (hkn k h1.symm)
    ·exact .inl ((hM.own _).2 (.inr (.inr (.inr h1))))
  ·intro k hk hO
   have hkd:k≠d:=fun e=>hO ((hM.own k).2 (.inl e))
   rw [hset k hkd]
   exact h5 k hk (fun e=>hO ((hM.own k).2 (.inr (.inr (.inl e)))))
 have adZ:∀ k,kv.ownBlock=some k→(w5.setCell ⟨d,3,none⟩ (.slice (some ⟨g5,0,none⟩) (m+1) c5)).heap[k]?=Wd.heap[k]?:=fun k hk=>by
  have h1:=hkn k hk;rw [hset k (by omega)]
  exact h5d k (NF.lt k hk).2 (fun e=>by have:=(hM.qx.lt k e).2;omega)
 refine ⟨⟨tv,_,kv.ownBlock :: bs,us,xs++six o kv,az hb5 _,hM.words.stay hS,?_,hM.todo.stay hS,?_,⟨kv,ks,xs,bs,rfl,rfl,iH NF adZ,lS hS hks,?_⟩,⟨fun k hk hb=>?_,hM.apart⟩,?_⟩,hS⟩
 ·refine iH hM.lQ (fun k hk=>?_)
  have h1:=dF hM.lQ hk
  have hkd:k≠d:=fun e=>by rw [e] at h1;exact absurd (h1.one ⟨_,_,hM.blk⟩) (by decide)
  exact (hset k hkd).trans (h5 k (hM.lQ.lt k hk).2 (fun e=>absurd (h1.one (dF hM.qx e)) (by decide)))
 ·show World.ownsRow _ 0 _ 6 _ (s.opn.length+1) _
  rw [hm];refine iH bY (fun k hk=>?_)
  have h1:g5=k:=by simpa [Value.ownBlock] using hk
  refine hset k (fun e=>?_);have h2:Ty w5 k 128:=dF bY hk;rw [e] at h2
  exact absurd (h2.one ⟨_,_,hb5⟩) (by decide)
 ·refine gL.stay hS hM.opn (fun k hk=>?_)
  have h1:=og hM.opn hk
  have hkd:k≠d:=fun e=>by rw [e] at h1;exact absurd (h1.one ⟨_,_,hM.blk⟩) (by decide)
  exact (hset k hkd).trans (h5 k (sW hM.opn hk) (fun e=>absurd (h1.one (dF hM.qx e)) (by decide)))
 ·have h1:=hkn k hk
  have h2:=sW hM.opn hb
  omega
 ·intro k
  simp [Value.ownBlock]
theorem IZ (W:World) (o:Open) (kv:Value):∀ j u,(six o kv)[j]?=some u→(W.alloc (.cells #[.string (aU o.k),.string (aU o.t),.int .i64 o.f,.int .i64 0,kv,.int .i64 o.kf] 128)).cell? ((⟨W.heap.size,0,none⟩:Addr).add j)=some u :=
 dm (cs:=#[.string (aU o.k),.string (aU o.t),.int .i64 o.f,.int .i64 0,kv,.int .i64 o.kf]) (t:=128) (fr:=(0,0)) (fO _ _)
theorem eU {W:World} (hM:Mem d L size lv s O W) (hi:s.i≤L.length) (k:By) (hm6:s.opn.length≤1000000) :
  Calls Tryz.prog 117 #[ptr d,.string (aU k)] W fun e W'=>e=.returned (.tuple #[])∧∃ O',Mem d L size lv { s with opn:=⟨k,[],(tok L size s.i).f,[],0⟩ :: s.opn } O' W'∧bN O O' W W':=by
 obtain ⟨tv,ov,bs,us,xs,hX⟩:=id hM;obtain ⟨m,hm⟩:∃ m,s.opn.length=m:=⟨_,rfl⟩;have hR:=hX.qx;rw [hm] at hR hm6;obtain ⟨oa,oc,rfl⟩:=fD hR;obtain ⟨iB,hi0,hz0,hz1,hz2⟩:=fF Qp
 have cN:=fun X (hX:Below W.heap.size W X)=>yM (hM.below hX) hi
 have hdl:=hM.dlt
 have q3:W.cell? ⟨d,3,none⟩=some (.slice oa m oc):=by have:=hX.blk;simp [World.cell?,this]
 obtain ⟨o,ho⟩:∃ o:Open,⟨k,[],(tok L size s.i).f,[],0⟩=o:=⟨_,rfl⟩;have HO:=hid ho
 have hok:aU k=aU o.k:=by rw [← ho]
 have hof:(tok L size s.i).f=o.f:=by rw [← ho]
 rw [ho,hok];generalize tok L size s.i=t at cN hof;obtain ⟨tw,tt,tf,te⟩:=t;dsimp only [NC] at cN hof;rw [hof] at cN
 have hfl:=fun X=>aam (.int .i64 tw) (.string ⟨tt.toArray⟩) (.int .i64 o.f) (.int .i64 te) X
 have hcell:∀ X,Below W.heap.size W X→X.cell? ⟨d,3,none⟩=some (.slice oa m oc):=fun X hX=>(hX.cell (p:=⟨d,3,none⟩) hdl).trans q3
 have Qq:=hid hcell
 have HE:Hid (∀ (w1 w5:World) (g5 c5:Nat),Below W.heap.size W w1→w5.ownsRow 0 128 6 (.slice (some ⟨g5,0,none⟩) (m+1) c5) (m+1) (xs++six o (.slice none 0 0))→(w1.alloc (.cells #[.string (aU o.k),.string ⟨#[]⟩,.int .i64 o.f,.int .i64 0,.slice none 0 0,.int .i64 0] 128)).grownBy w5 (Value.slice oa m oc).ownBlock →
   ((Value.slice oa m oc).ownBlock=some g5∨g5=(w1.alloc (.cells #[.string (aU o.k),.string ⟨#[]⟩,.int .i64 o.f,.int .i64 0,.slice none 0 0,.int .i64 0] 128)).heap.size) →
   w5.cell? ⟨d,3,none⟩=some (.slice oa m oc)∧w5.frozen? ⟨d,3,none⟩=false∧∃ O',Mem d L size lv { s with opn:=o :: s.opn } O' (w5.setCell ⟨d,3,none⟩ (.slice (some ⟨g5,0,none⟩) (m+1) c5))∧bN O O' W (w5.setCell ⟨d,3,none⟩ (.slice (some ⟨g5,0,none⟩) (m+1) c5))):=hid (fun w1 w5 g5 c5 hb bY aP hat =>
  EM hX hm (hb.alloc hb.size _) bY aP hat (by rw [← HO.out];exact dD _ _ _ _) (by rw [← HO.out];rfl) (fun k h=>by cases h))
 have HR:Hid (∀ X,Below W.heap.size W X→(X.alloc (.cells #[.string (aU o.k),.string ⟨#[]⟩,.int .i64 o.f,.int .i64 0,.slice none 0 0,.int .i64 0] 128)).ownsRow 0 128 6 (.slice oa m oc) m xs):=hid (fun X hX=>(aV hR hX).alloc _)
 have Um:Hid (∀ X:World,∀ j u,(six o (.slice none 0 0))[j]?=some u→(X.alloc (.cells #[.string (aU o.k),.string ⟨#[]⟩,.int .i64 o.f,.int .i64 0,.slice none 0 0,.int .i64 0] 128)).cell? ((⟨X.heap.size,0,none⟩:Addr).add j)=some u):=hid (fun X=>by
  have h:=IZ X o (.slice none 0 0);rw [show aU o.t=⟨#[]⟩ by rw [← HO.out];rfl,show o.kf=0 by rw [← HO.out]] at h
  exact h)
 obtain ⟨kk,hkk⟩:∃ kk,aU o.k=kk:=⟨_,rfl⟩;obtain ⟨ff,BL⟩:∃ ff,o.f=ff:=⟨_,rfl⟩;rw [hkk,BL] at HE;rw [hkk,BL] at HR Um;rw [BL] at cN hfl;rw [hkk];have XA:=hid (show Below W.heap.size W W.drew from (aj _ _).drew);clear hof ho hok hX hM hR q3 hm hcell hdl hi hkk BL HO
 go_enter Tryz.func117,Tryz.ntmps117
 go_upto_region 0 with fail
 refine aS (S:=fun _=>True) (by kernel_rfl) trivial fun ag=>?_
 refine OP.m 0 rfl (ptr d) ag ?_;simp only [OP.s];refine OP.m 1 rfl (ptr d) ag ?_;simp only [OP.s];refine OP.m 2 rfl (ptr d) ag ?_;simp only [OP.s];refine OP.m 3 rfl (.pointer (some ⟨d,3,none⟩)) ag ?_;simp only [OP.s];refine OP.m 5 rfl (.string kk) ag ?_;simp only [OP.s];refine OP.m 6 rfl (ptr d) ag ?_;simp only [OP.s]
 refine OP.q 4 7 rfl rfl (fun K hK=>?_) fun K hK=>?_
 focus
  refine OP.w ?_;have q3:=Qq.out W.drew XA.out
  go_simp
  refine hK.out _ _ trivial fun ag=>?_
  try simp only [OP.s]
  clear hK K;clear q3
  refine OP.r 7 rfl fun K hK=>?_
  go_simp
  go_at_call 116
  refine (cN _ XA.out).mono ?_;rintro e w1 ⟨rfl,hb1⟩;have hb2:=XA.out.trans (hb1.mono XA.out.size);dsimp only
  refine hK.out _ _ trivial fun ag=>?_
  try simp only [OP.s]
  clear hK K;refine OP.t 8 rfl (.int .i64 ff) (fun X hX=>by simp [execOp,Act.eval,hfl]) ag ?_;simp only [OP.s];refine OP.t 9 rfl (.agg #[.string kk,.string ⟨#[]⟩,.int .i64 ff,.int .i64 0,.slice none 0 0]) (fun X hX=>by kernel_rfl) ag ?_;simp only [OP.s];refine OP.t 10 rfl (.agg #[.string kk,.string ⟨#[]⟩,.int .i64 ff,.int .i64 0,.slice none 0 0,.int .i64 0]) (fun X hX=>by kernel_rfl) ag ?_;simp only [OP.s]
  refine OP.r 11 rfl fun K hK=>?_
  go_simp
  refine hK.out _ _ trivial fun ag=>?_
  try simp only [OP.s]
  clear hK K
 rotate_left
 focus
  refine OP.w ?_
  go_simp
  go_at_call 116
  refine (cN _ XA.out).mono ?_;rintro e w1 ⟨rfl,hb1⟩;have hb2:=XA.out.trans (hb1.mono XA.out.size);dsimp only
  refine hK.out _ _ trivial fun ag=>?_
  try simp only [OP.s]
  clear hK K;refine OP.t 8 rfl (.int .i64 ff) (fun X hX=>by simp [execOp,Act.eval,hfl]) ag ?_;simp only [OP.s];refine OP.t 9 rfl (.agg #[.string kk,.string ⟨#[]⟩,.int .i64 ff,.int .i64 0,.slice none 0 0]) (fun X hX=>by kernel_rfl) ag ?_;simp only [OP.s];refine OP.t 10 rfl (.agg #[.string kk,.string ⟨#[]⟩,.int .i64 ff,.int .i64 0,.slice none 0 0,.int .i64 0]) (fun X hX=>by kernel_rfl) ag ?_;simp only [OP.s]
  refine OP.q 4 11 rfl rfl (fun K hK=>?_) fun K hK=>?_
  focus
   refine OP.w ?_;have q3:=Qq.out w1 hb2
   go_simp
   refine hK.out _ _ trivial fun ag=>?_
   try simp only [OP.s]
   clear hK K;clear q3
   refine OP.r 11 rfl fun K hK=>?_
   go_simp
   refine hK.out _ _ trivial fun ag=>?_
   try simp only [OP.s]
   clear hK K
  rotate_left
  focus
   refine OP.w ?_
   go_simp
   refine hK.out _ _ trivial fun ag=>?_
   try simp only [OP.s]
   clear hK K
   refine OP.r 4 rfl fun K hK=>?_
   have q3:=Qq.out (w1.alloc (.cells #[.string kk,.string ⟨#[]⟩,.int .i64 ff,.int .i64 0,.slice none 0 0,.int .i64 0] 128)) (hb2.alloc hb2.size _)
   go_simp
   refine hK.out _ _ trivial fun ag=>?_
   try simp only [OP.s]
   clear hK K;clear q3
  rotate_left
 rotate_left 2
 all_goals
  refine OP.r 12 rfl fun K hK=>?_
  refine eD _ (.tmp 8) (.tmp 15) 120 rfl 0 128 iB (.agg #[.string ⟨#[]⟩,.string ⟨#[]⟩,.int .i64 0,.int .i64 0,.slice none 0 0,.int .i64 0]) 6 80 Tryz.underlying120 hi0 hz0 hz1 hz2 rfl (by decide) (.slice oa m oc) m xs rfl (HR.out _ hb2) ⟨w1.heap.size,0,none⟩ 1 1 (six o (.slice none 0 0)) rfl rfl (Um.out _) (MH _ _ ⟨_,_,_,rfl⟩) (by decide) (by unfold maxLen;omega) (by omega) (aL _) _ rfl ?_;intro g5 c5 w5 bY aP hat Bt;have he:=HE.out w1 w5 g5 c5 hb2 bY aP hat
  refine hK.out _ _ trivial fun ag=>?_
  try simp only [OP.s]
  clear hK K;refine OP.m 13 rfl (ptr d) ag ?_;simp only [OP.s];refine OP.m 14 rfl (.pointer (some ⟨d,3,none⟩)) ag ?_;simp only [OP.s];have q3:=he.1;have f3:=he.2.1
  refine OP.r 15 rfl fun K hK=>?_
  go_simp
  refine hK.out _ _ trivial fun ag=>?_
  try simp only [OP.s]
  clear hK K;refine bL (by kernel_rfl) ?_ _
  exact fZ (aI rfl _ _ _) rfl ⟨rfl,he.2.2⟩
end
end K
end Go.Proofs.YtojoahlpgmnbnaaGreatDoor
