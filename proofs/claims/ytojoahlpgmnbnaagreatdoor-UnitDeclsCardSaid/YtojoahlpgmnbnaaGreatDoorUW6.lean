/- What the claim needs of the texts KFin. -/
import Derived.Test.YtojoahlpgmnbnaaGreatDoorUWOp
import Derived.Test.YtojoahlpgmnbnaaGreatDoorUW5
set_option maxRecDepth 20000
set_option maxHeartbeats 16000000
namespace Go.Proofs.YtojoahlpgmnbnaaGreatDoor
namespace K
open Go.RowKit
open Go.Lib hiding intOf
open U S T
section
variable {d:Nat} {L:List bn} {size:Nat} {lv:Value} {s:St} {O:Nat→Prop}
theorem C5 {B d j:Nat} {W W':World} {cs:Array Value} {t:TypeId} (v:Value) (h:Below B W W') (hd:d<B) (hb:W.heap[d]?=some (.cells cs t (0,0))):Below B (W.setCell ⟨d,j,none⟩ v) (W'.setCell ⟨d,j,none⟩ v):=by
 refine ⟨h.os,h.tape,h.output,by simpa using h.size,fun k hk=>?_⟩
 by_cases hkd:k=d
 ·subst hkd
  rw [ay hb v,ay ((h.block k hk).trans hb) v]
 ·rw [aj _ _ _ _ hkd,aj _ _ _ _ hkd]
  exact h.block k hk
theorem y8:(Tryz.prog.info? 49).map (fun i=>(i.zero,i.size,i.bytes))=some (some (.agg #[.string ⟨#[]⟩,.string ⟨#[]⟩,.int .i64 0,.int .i64 0,.slice none 0 0]),5,72):=by kernel_rfl
theorem wY (W:World):∀ j u,([.string ⟨#[]⟩,.string ⟨#[]⟩,.int .i64 0,.int .i64 0,.slice none 0 0]:List Value)[j]?=some u→(W.alloc (.cells #[.string ⟨#[]⟩,.string ⟨#[]⟩,.int .i64 0,.int .i64 0,.slice none 0 0] 49)).cell? ((⟨W.heap.size,0,none⟩:Addr).add j)=some u :=
 dn (cs:=#[.string ⟨#[]⟩,.string ⟨#[]⟩,.int .i64 0,.int .i64 0,.slice none 0 0]) (t:=49) (fr:=(0,0)) (fI _ _)
theorem tJ:∀ u∈([.string ⟨#[]⟩,.string ⟨#[]⟩,.int .i64 0,.int .i64 0,.slice none 0 0]:List Value),u.oneCell'=true:=by
 intro u hu;simp only [bB,ed,or_false] at hu
 rcases hu with rfl|rfl|rfl|rfl|rfl <;> rfl
structure qh (w' w:World):Prop where
 os:w'.os=w.os
 tape:w'.tape=w.tape
 output:w'.output=w.output
 size:w'.heap.size=w.heap.size
theorem qh.set (w:World) (a:Addr) (v:Value):qh (w.setCell a v) w:=⟨rfl,rfl,rfl,by simp⟩
theorem qh.trans {a b c:World} (h:qh a b) (k:qh b c):qh a c:=⟨h.os.trans k.os,h.tape.trans k.tape,h.output.trans k.output,h.size.trans k.size⟩
theorem M7 {w:World} {g n c m:Nat} {xs ys:List Value} (h:w.ownsRow 0 49 5 (.slice (some ⟨g,0,none⟩) n c) n (xs++ys)) (hx:xs.length=m*5) (hy:ys.length=5) (a b e f k:Value) :
  (((((w.setCell ⟨g,m*5,none⟩ a).setCell ⟨g,m*5+1,none⟩ b).setCell ⟨g,m*5+2,none⟩ e).setCell ⟨g,m*5+3,none⟩ f).setCell ⟨g,m*5+4,none⟩ k).ownsRow 0 49 5 (.slice (some ⟨g,0,none⟩) n c) n (xs++[a,b,e,f,k]) ∧
  (∀ q,q≠g→(((((w.setCell ⟨g,m*5,none⟩ a).setCell ⟨g,m*5+1,none⟩ b).setCell ⟨g,m*5+2,none⟩ e).setCell ⟨g,m*5+3,none⟩ f).setCell ⟨g,m*5+4,none⟩ k).heap[q]?=w.heap[q]?)∧qh (((((w.setCell ⟨g,m*5,none⟩ a).setCell ⟨g,m*5+1,none⟩ b).setCell ⟨g,m*5+2,none⟩ e).setCell ⟨g,m*5+3,none⟩ f).setCell ⟨g,m*5+4,none⟩ k) w:=by
 have h1:=(((((h.stored (m*5) a).1.stored (m*5+1) b).1.stored (m*5+2) e).1.stored (m*5+3) f).1.stored (m*5+4) k).1
 refine ⟨?_,fun q hq=>by
  have st:∀ (u:World) (i:Nat) (v:Value),(u.setCell ⟨g,i,none⟩ v).heap[q]?=u.heap[q]?:=fun u i v=>aj u _ v q hq
  rw [st,st,st,st,st],(qh.set _ _ _).trans ((qh.set _ _ _).trans ((qh.set _ _ _).trans ((qh.set _ _ _).trans (qh.set _ _ _))))⟩
 match ys,hy with
 | [y0,y1,y2,y3,y4],_ =>
  have e0:(xs++[y0,y1,y2,y3,y4]).set (m*5) a=xs++[a,y1,y2,y3,y4]:=by rw [fo _ _ (by omega),show m*5 - xs.length=0 by omega];rfl
  have e1:(xs++[a,y1,y2,y3,y4]).set (m*5+1) b=xs++[a,b,y2,y3,y4]:=by rw [fo _ _ (by omega),show m*5+1 - xs.length=1 by omega];rfl
  have e2:(xs++[a,b,y2,y3,y4]).set (m*5+2) e=xs++[a,b,e,y3,y4]:=by rw [fo _ _ (by omega),show m*5+2 - xs.length=2 by omega];rfl
  have e3:(xs++[a,b,e,y3,y4]).set (m*5+3) f=xs++[a,b,e,f,y4]:=by rw [fo _ _ (by omega),show m*5+3 - xs.length=3 by omega];rfl
  have e4:(xs++[a,b,e,f,y4]).set (m*5+4) k=xs++[a,b,e,f,k]:=by rw [fo _ _ (by omega),show m*5+4 - xs.length=4 by omega];rfl
  rw [e0,e1,e2,e3,e4] at h1
  exact h1
theorem UH {W W':World} {tv ov kv qF:Value} {bs o8:List (Option Nat)} {us xs lT ks:List Value} {a:Open} {r:List Open} {g c g7 c7:Nat} {p:Pt} {kf:Int} (hM:oh d L size lv s O tv ov bs us xs W) (hT:nR d O a r ov bs xs W g c kv ks lT o8)
  (hrow:W'.ownsRow 0 49 5 (.slice (some ⟨g7,0,none⟩) (a.kids.length+1) c7) (a.kids.length+1) (ks++five p qF))
  (aeB:W'.ownsRow 0 128 6 (.slice (some ⟨g,0,none⟩) (r.length+1) c) (r.length+1) (lT++six (a.add p kf) (.slice (some ⟨g7,0,none⟩) (a.kids.length+1) c7)))
  (hset:∀ k,k<W.heap.size→kv.ownBlock≠some k→k≠g→W'.heap[k]?=W.heap[k]?) (hat:kv.ownBlock=some g7∨W.heap.size≤g7)
  (hos:W'.os=W.os) (htp:W'.tape=W.tape) (hou:W'.output=W.output) (hsz:W.heap.size≤W'.heap.size) (hp:aU W (Fr O W) p qF) :
  ∃ O',Mem d L size lv { s with opn:=a.add p kf :: r } O' W'∧bN O O' W W':=by
 have hb:=hM.blk;have hOg:O g:=(hM.own g).2 (.inr (.inr (.inl (by rw [hT.hov];rfl))))
 have hS:bN O (fun k=>k=d∨tv.ownBlock=some k∨ov.ownBlock=some k∨some k∈some g7 :: o8) W W':=by
  refine ⟨hos,htp,hou,hsz,?_,fun k hk hO=>hset k hk (fun e=>hO ((hM.own k).2 (.inr (.inr (.inr (by rw [hT.hbs,e];exact bF)))))) (fun e=>hO (e ▸ hOg))⟩;rintro k (rfl|h1|h1|h1)
  ·exact .inl ((hM.own _).2 (.inl rfl))
  ·exact .inl ((hM.own _).2 (.inr (.inl h1)))
  ·exact .inl ((hM.own _).2 (.inr (.inr (.inl h1))))
  ·rcases bB.1 h1 with h1|h1
   ·obtain rfl:=bf h1
    exact hat.elim (fun h=>.inl ((hM.own _).2 (.inr (.inr (.inr (by rw [hT.hbs,h];exact bF)))))) .inr
   ·exact .inl ((hM.own k).2 (.inr (.inr (.inr (by rw [hT.hbs];exact aV _ h1)))))
 have keep:∀ {k:Nat} {t:TypeId},Ty W k t→t≠128→t≠49→W'.heap[k]?=W.heap[k]?:=fun {k t} h1 h2 h3=>by
  have hk:k<W.heap.size:=by obtain ⟨_,_,h⟩:=h1;exact (af.1 h).1
  exact hset k hk (fun e=>h3 (h1.one (cZ hT.own e))) (fun e=>by rw [e] at h1;exact h2 (h1.one hT.ty))
 refine ⟨_,⟨tv,ov,some g7 :: o8,us,lT++six (a.add p kf) (.slice (some ⟨g7,0,none⟩) (a.kids.length+1) c7),(keep ⟨_,_,hb⟩ (by decide) (by decide)).trans hb,hM.words.stay hS,iA hM.lN (fun k hk=>keep (cZ hM.lN hk) (by decide) (by decide)),hM.todo.stay hS,by rw [hT.hov];exact aeB,?_,⟨fun k hk hb1=>?_,hT.apart.2⟩,fun k=>Iff.rfl⟩,hS⟩
 ·refine ⟨.slice (some ⟨g7,0,none⟩) (a.kids.length+1) c7,ks++five p qF,lT,o8,rfl,rfl,?_,?_,gI.stay hS hT.rest (fun k hk=>hset k (tu hT.rest hk) (fun e=>hT.apart.1 k e hk) (fun e=>by have h1:=oC hT.rest hk;rw [e] at h1;exact absurd (h1.one hT.ty) (by decide)))⟩
  ·show World.ownsRow _ 0 _ 5 _ (a.kids++[p]).length _
   rw [aO]
   exact hrow
  ·exact aP.snoc (lQ hS hT.parts) (aU.later (R:=Fr O W) (R':=Fr _ W') (fun k hk _=>hS.at hk) (fun k hk=>hS.fr hk) p qF hp)
 ·have h1:g7=k:=bf hk
  subst h1
  rcases hat with h|h
  ·exact hT.apart.1 _ h hb1
  ·have:=tu hT.rest hb1;omega
theorem Ab (p:Pt) (qF:Value):∃ (q0 q1:ByteArray) (q2 q3:Int),five p qF=[.string q0,.string q1,.int .i64 q2,.int .i64 q3,qF]:=by
 obtain ⟨k,t,f,e,ks⟩:=p
 exact ⟨_,_,_,_,rfl⟩
theorem eD {W:World} {R:Nat→Prop} {p:Pt} {qF:Value} (h:aU W R p qF):∃ a n c,qF=.slice a n c:=by
 obtain ⟨k,t,f,e,ks⟩:=p;obtain ⟨a,c,h,_⟩:=h
 exact ⟨_,_,_,h⟩
theorem bZ {b:Nat} {y0 y1:ByteArray} {f e:Int} {v:Value} {t:TypeId} {W:World} {x0 x1 x2 x3 x4:Value} (h:W.heap[b]?=some (.cells #[x0,x1,x2,x3,x4] t (0,0))) :
  (((((W.setCell ⟨b,0,none⟩ (.string y0)).setCell ⟨b,1,none⟩ (.string y1)).setCell ⟨b,2,none⟩ (.int .i64 f)).setCell ⟨b,3,none⟩ (.int .i64 e)).setCell ⟨b,4,none⟩ v).heap[b]?=some (.cells #[.string y0,.string y1,.int .i64 f,.int .i64 e,v] t (0,0)):=by
 have e0:=ay (i:=0) h (.string y0);have e1:=ay (i:=1) e0 (.string y1);have e2:=ay (i:=2) e1 (.int .i64 f);have e3:=ay (i:=3) e2 (.int .i64 e);have e4:=ay (i:=4) e3 v
 exact e4
theorem y9 {W w7 X:World} {tv ov kv qF:Value} {bs o8:List (Option Nat)} {us xs lT ks:List Value} {a:Open} {r:List Open} {g c g7 c7 m:Nat} {p:Pt} {kf:Int} {q0 q1:ByteArray} {q2 q3:Int} (hM:oh d L size lv s O tv ov bs us xs W) (hso:s.opn=a :: r) (hT:nR d O a r ov bs xs W g c kv ks lT o8)
  (hm:a.kids.length=m) (h5:five p qF=[.string q0,.string q1,.int .i64 q2,.int .i64 q3,qF])
  (bP:w7.ownsRow 0 49 5 (.slice (some ⟨g7,0,none⟩) (m+1) c7) (m+1) (ks++[.string ⟨#[]⟩,.string ⟨#[]⟩,.int .i64 0,.int .i64 0,.slice none 0 0]))
  (vk:∀ k,k<W.heap.size→kv.ownBlock≠some k→w7.heap[k]?=W.heap[k]?) (hat:kv.ownBlock=some g7∨W.heap.size≤g7) (hos:w7.os=W.os) (htp:w7.tape=W.tape) (hou:w7.output=W.output) (hsz:W.heap.size≤w7.heap.size) (hp:aU W (Fr O W) p qF)
  (hX:X=(((((w7.setCell ⟨g7,m*5,none⟩ (.string q0)).setCell ⟨g7,m*5+1,none⟩ (.string q1)).setCell ⟨g7,m*5+2,none⟩ (.int .i64 q2)).setCell ⟨g7,m*5+3,none⟩ (.int .i64 q3)).setCell ⟨g7,m*5+4,none⟩ qF).setCell ⟨g,r.length*6+4,none⟩ (.slice (some ⟨g7,0,none⟩) (m+1) c7) ∨
   X=((((((w7.setCell ⟨g,r.length*6+4,none⟩ (.slice (some ⟨g7,0,none⟩) (m+1) c7)).setCell ⟨g7,m*5,none⟩ (.string q0)).setCell ⟨g7,m*5+1,none⟩ (.string q1)).setCell ⟨g7,m*5+2,none⟩ (.int .i64 q2)).setCell ⟨g7,m*5+3,none⟩ (.int .i64 q3)).setCell ⟨g7,m*5+4,none⟩ qF)) :
  X.cell? ⟨g,r.length*6+5,none⟩=some (.int .i64 a.kf)∧X.frozen? ⟨g,r.length*6+5,none⟩=false ∧
  ∃ O',Mem d L size lv { s with opn:=a.add p kf :: r } O' (X.setCell ⟨g,r.length*6+5,none⟩ (.int .i64 kf))∧bN O O' W (X.setCell ⟨g,r.length*6+5,none⟩ (.int .i64 kf)):=by
 have hkg:kv.ownBlock≠some g:=fun e=>absurd ((cZ hT.own e).one hT.ty) (by decide)
 have aaV:=vk g hT.lt hkg;have aaW:Ty w7 g7 49:=cZ bP (k:=g7) rfl
 have hgg:g≠g7:=fun e=>by
  obtain ⟨cs,fr,h2⟩:=hT.ty;rw [← e] at aaW
  exact absurd (aaW.one ⟨cs,fr,aaV.trans h2⟩) (by decide)
 have hlk:ks.length=m*5:=by have:=hT.own.1;rw [hm] at this;exact this
 have hR7:w7.ownsRow 0 128 6 (.slice (some ⟨g,0,none⟩) (r.length+1) c) (r.length+1) (lT++six a kv):=by
  have hR:=hM.qB;rw [hso,hT.hov,hT.hxs] at hR
  exact iA hR (fun k hk=>by
   obtain rfl:g=k:=by simpa [Value.ownBlock] using hk
   exact aaV)
 have aaY:(lT++six a kv).set (r.length*6+4) (.slice (some ⟨g7,0,none⟩) (m+1) c7)=lT++(six a kv).set 4 (.slice (some ⟨g7,0,none⟩) (m+1) c7):=by
  rw [fo _ _ (by rw [hT.len];omega),show r.length*6+4 - lT.length=4 by rw [hT.len];omega]
 have key:X.ownsRow 0 49 5 (.slice (some ⟨g7,0,none⟩) (m+1) c7) (m+1) (ks++five p qF)∧X.ownsRow 0 128 6 (.slice (some ⟨g,0,none⟩) (r.length+1) c) (r.length+1) (lT++(six a kv).set 4 (.slice (some ⟨g7,0,none⟩) (m+1) c7)) ∧
   (∀ k,k≠g→k≠g7→X.heap[k]?=w7.heap[k]?)∧qh X w7:=by
  rw [h5]
  rcases hX with hX|hX
  ·obtain ⟨s1,s2,s3⟩:=M7 bP hlk rfl (.string q0) (.string q1) (.int .i64 q2) (.int .i64 q3) qF
   generalize (((((w7.setCell ⟨g7,m*5,none⟩ (.string q0)).setCell ⟨g7,m*5+1,none⟩ (.string q1)).setCell ⟨g7,m*5+2,none⟩ (.int .i64 q2)).setCell ⟨g7,m*5+3,none⟩ (.int .i64 q3)).setCell ⟨g7,m*5+4,none⟩ qF)=Y at hX s1 s2 s3;rw [hX];clear hX;have hR8:=iA hR7 (fun k hk=>s2 k (fun e=>hgg ((bf hk).trans e)));have h9:=(hR8.stored (r.length*6+4) (.slice (some ⟨g7,0,none⟩) (m+1) c7)).1;rw [aaY] at h9
   exact ⟨iA s1 (fun k hk=>aj _ _ _ _ (fun e=>hgg ((bf hk).trans e).symm)),h9,fun k h1 h2=>(aj _ _ _ _ h1).trans (s2 k h2),(qh.set _ _ _).trans s3⟩
  ·have h8:=(hR7.stored (r.length*6+4) (.slice (some ⟨g7,0,none⟩) (m+1) c7)).1
   rw [aaY] at h8;have WL:=iA (w':=w7.setCell ⟨g,r.length*6+4,none⟩ (.slice (some ⟨g7,0,none⟩) (m+1) c7)) bP (fun k hk=>aj _ _ _ _ (fun e=>hgg ((bf hk).trans e).symm))
   have aaZ:∀ k,k≠g→(w7.setCell ⟨g,r.length*6+4,none⟩ (.slice (some ⟨g7,0,none⟩) (m+1) c7)).heap[k]?=w7.heap[k]?:=fun k h1=>aj _ _ _ _ h1
   have hsw:qh (w7.setCell ⟨g,r.length*6+4,none⟩ (.slice (some ⟨g7,0,none⟩) (m+1) c7)) w7:=qh.set _ _ _;generalize w7.setCell ⟨g,r.length*6+4,none⟩ (.slice (some ⟨g7,0,none⟩) (m+1) c7)=Z at hX h8 WL aaZ hsw;obtain ⟨s1,s2,s3⟩:=M7 WL hlk rfl (.string q0) (.string q1) (.int .i64 q2) (.int .i64 q3) qF;generalize (((((Z.setCell ⟨g7,m*5,none⟩ (.string q0)).setCell ⟨g7,m*5+1,none⟩ (.string q1)).setCell ⟨g7,m*5+2,none⟩ (.int .i64 q2)).setCell ⟨g7,m*5+3,none⟩ (.int .i64 q3)).setCell ⟨g7,m*5+4,none⟩ qF)=Y at hX s1 s2 s3;rw [hX]
   exact ⟨s1,iA h8 (fun k hk=>s2 k (fun e=>hgg ((bf hk).trans e))),fun k h1 h2=>(s2 k h2).trans (aaZ k h1),s3.trans hsw⟩
 clear hX;obtain ⟨y1,y2,y3,y4⟩:=key;have hlast:=(y2.stored (r.length*6+5) (.int .i64 kf)).1
 have aeC:(lT++(six a kv).set 4 (.slice (some ⟨g7,0,none⟩) (m+1) c7)).set (r.length*6+5) (.int .i64 kf)=lT++six (a.add p kf) (.slice (some ⟨g7,0,none⟩) (m+1) c7):=by
  rw [fo _ _ (by rw [hT.len];omega),show r.length*6+5 - lT.length=5 by rw [hT.len];omega];rfl
 rw [aeC] at hlast
 refine ⟨?_,y2.frozenAt _,?_⟩
 ·rw [y2.cellAt (r.length*6+5) (by omega),aI (by rw [hT.len];omega),show r.length*6+5 - lT.length=5 by rw [hT.len];omega];rfl
 ·subst hm
  refine UH hM hT (iA y1 (fun k hk=>aj _ _ _ _ (fun e=>hgg ((bf hk).trans e).symm))) hlast ?_ hat (y4.os.trans hos) (y4.tape.trans htp) (y4.output.trans hou) (by rw [(qh.set _ _ _).size,y4.size];exact hsz) hp;intro k h1 h2 h3;refine (aj _ _ _ _ h3).trans ((y3 k h3 ?_).trans (vk k h1 h2));rintro rfl
  rcases hat with h|h
  ·exact h2 h
  ·omega
theorem nS {w:World} {g g' m:Nat} (a b e f k:Value) (h:g'≠g):(((((w.setCell ⟨g,m*5,none⟩ a).setCell ⟨g,m*5+1,none⟩ b).setCell ⟨g,m*5+2,none⟩ e).setCell ⟨g,m*5+3,none⟩ f).setCell ⟨g,m*5+4,none⟩ k).heap[g']?=w.heap[g']?:=by
 have st:∀ (u:World) (i:Nat) (v:Value),(u.setCell ⟨g,i,none⟩ v).heap[g']?=u.heap[g']?:=fun u i v=>aj u _ v g' h
 rw [st,st,st,st,st]
theorem za {o:Oper} {a:Act} (g m c:Nat) (W:World) (ho:o.op=.indexAddr 47 (.tmp 68) (.tmp 66)) (h1:a.eval (.tmp 68)=.slice (some ⟨g,0,none⟩) (m+1) c) (h2:a.eval (.tmp 66)=.int .i64 m):(execOp a.eval o).run Tryz.prog W=.ok (.value (.pointer (some ⟨g,m*5,none⟩))) W:=by
 have hm:(0:Int)≤(m:Int):=by omega
 have hm2:(m:Int)<((m+1:Nat):Int):=by omega
 have hm3:m<m+1:=by omega
 have hr:(Instr.indexAt 47 (.slice (some ⟨g,0,none⟩) (m+1) c) (.int .i64 m)).run Tryz.prog W=.ok (.pointer (some ⟨g,m*5,none⟩)) W:=by
  simp [go_sem]
  intro h
  omega
 unfold execOp
 rw [ho];simp only [h1,h2,iQ,hr,eP,iR]
theorem tK {b:Nat} {y0 y1:ByteArray} {f e:Int} {a:Option Addr} {m c:Nat} {t:TypeId} {W:World} (h:W.heap[b]?=some (.cells #[.string y0,.string y1,.int .i64 f,.int .i64 e,.slice a m c] t (0,0))) :
  (Instr.loadAt 49 (.pointer (some ⟨b,0,none⟩))).run Tryz.prog W=.ok (.agg #[.string y0,.string y1,.int .i64 f,.int .i64 e,.slice a m c]) W:=by
 have c0:W.cell? ⟨b,0,none⟩=some (.string y0):=by simp [World.cell?,h]
 have c1:W.cell? ⟨b,1,none⟩=some (.string y1):=by simp [World.cell?,h]
 have c2:W.cell? ⟨b,2,none⟩=some (.int .i64 f):=by simp [World.cell?,h]
 have c3:W.cell? ⟨b,3,none⟩=some (.int .i64 e):=by simp [World.cell?,h]
 have c4:W.cell? ⟨b,4,none⟩=some (.slice a m c):=by simp [World.cell?,h]
 simp [go_sem,c0,c1,c2,c3,c4]
theorem QQ (o:Open) (en:Int) (p:Pt) (h:o.close en=some p):(o.k=Kw∧∃ rest,o.kids=p :: rest)∨((o.k=eT∨o.k=fF)∧p=.mk o.k o.t (yQ o.kids) (vM o.kids) o.kids)∨(o.k≠Kw∧¬ (o.k=eT∨o.k=fF)∧p=.mk o.k o.t o.f en o.kids):=by
 unfold Open.close at h
 by_cases h1:o.k=Kw
 ·rw [au h1] at h
  cases hk:o.kids with
  | nil=>rw [hk] at h;cases h
  | cons x r=>rw [hk] at h;cases h;exact .inl ⟨h1,r,rfl⟩
 ·rw [ai h1] at h
  by_cases h2:o.k=eT∨o.k=fF
  ·rw [au h2] at h;cases h;exact .inr (.inl ⟨h2,rfl⟩)
  ·rw [ai h2] at h;cases h;exact .inr (.inr ⟨h1,h2,rfl⟩)
theorem QR {W:World} (hM:Mem d L size lv s O W) (hs:Small L s) (o a:Open) (r:List Open) (ho:s.opn=o :: a :: r) (hi:0<s.i) (p:Pt) (hp:o.close (tok L size (s.i - 1)).e=some p) :
  Calls Tryz.prog 123 #[ptr d] W (Does d L size lv s.i O W (.go ⟨s.i,s.todo,a.add p o.f :: r⟩)):=by
 obtain ⟨tv,ov,bs,us,xs,hX⟩:=id hM;obtain ⟨g,c,kv,ks,lT,o8,hT⟩:=lC hX ho;obtain ⟨R,hR⟩:∃ R,r.length+1=R:=⟨_,rfl⟩
 have hRl:R≤1000000:=by have:=hs.opn;rw [ho,aH,aH] at this;omega
 obtain ⟨ka,kc,rfl⟩:=eH hT.own;obtain ⟨O2,hXp,hSp,hKp,hPp,hFp,q3,f3⟩:=UG hX ho hT;rw [hR] at hXp hSp hKp hPp hFp;obtain ⟨V,hV⟩:∃ V,W.setCell ⟨d,3,none⟩ (.slice (some ⟨g,0,none⟩) R c)=V:=⟨_,rfl⟩;rw [hV] at hXp hSp hKp hPp hFp
 have Oa:V.heap.size=W.heap.size:=by rw [← hV];simp
 obtain ⟨K,hK⟩:∃ K,o.kids.length=K:=⟨_,rfl⟩
 have hKl:K≤1000000:=by rw [← hK];exact hs.kids o (by rw [ho];exact bF)
 have cT:=kV hX hT (by rw [aH];omega) (ah _ _);have k0:=hT.cell 0 _ rfl;have k1:=hT.cell 1 _ rfl;have k2:=hT.cell 2 _ rfl;have k3:=hT.cell 3 _ rfl;have k4:=hT.cell 4 _ rfl;rw [show (a :: r).length=R from hR] at cT k0 k1 k2 k3 k4;rw [bV] at k0;rw [hK] at k4;obtain ⟨N,hN⟩:∃ N,R+1=N:=⟨_,rfl⟩;have hov:=hT.hov;rw [show (a :: r).length+1=N by rw [aH,hR,hN]] at hov;rw [hov] at q3
 have hcap:R≤c:=by
  have h1:=hX.qB;rw [ho,hov] at h1
  rcases h1.2 with ⟨h2,_⟩|⟨g',cap,cur,h2,_,_,h4,_⟩
  ·cases h2
  ·cases h2;simp only [aH] at h4;omega
 have hdl:=hM.dlt;have hblk:=hX.blk;have M8:Hid (∀ X,Below W.heap.size W X→Below W.heap.size V (X.setCell ⟨d,3,none⟩ (.slice (some ⟨g,0,none⟩) R c))):=hid (fun X hX=>by rw [← hV];exact C5 _ hX hdl hblk);have ID:=hid hXp;have HKV:=hid hKp;have EC:=hid hPp;have HFV:=hid hFp;have vZ:=hid hSp;have GG:=hid Oa;have HKK:=hid hK;have HRR:=hid hR;have HGD:=hid hT.ne;have HGL:=hid hT.lt;have ait:=hid (fun k hk=>cZ hT.own (k:=k) hk);have HDW:=hid (show Below W.heap.size W W from ah _ _);clear hX hT hXp hKp hPp hFp hSp Oa hV hblk hov hM
 go_enter Tryz.func123,Tryz.ntmps123
 go_wp2_with fail
 refine cT.mono ?_;rintro e v0 ⟨rfl,m0,rfl⟩;dsimp only;have HB1:=hid (jY W m0);replace k0:(W.drewN m0).cell? ⟨g,R*6,none⟩=_:=k0;replace k1:(W.drewN m0).cell? ⟨g,R*6+1,none⟩=_:=k1;replace k2:(W.drewN m0).cell? ⟨g,R*6+2,none⟩=_:=k2;replace k3:(W.drewN m0).cell? ⟨g,R*6+3,none⟩=_:=k3;replace k4:(W.drewN m0).cell? ⟨g,R*6+4,none⟩=_:=k4;generalize W.drewN m0=W1 at HB1 k0 k1 k2 k3 k4 ⊢;obtain ⟨ky,hky⟩:∃ y,aX o.k=y:=⟨_,rfl⟩;obtain ⟨ty,hty⟩:∃ y,aX o.t=y:=⟨_,rfl⟩;obtain ⟨of,hof⟩:∃ y,o.f=y:=⟨_,rfl⟩;rw [hky] at k0;rw [hty] at k1;rw [hof] at k2;clear cT
 go_upto_region 1 with fail
 clear k0 k1 k2 k3 k4;obtain ⟨bp,hbp⟩:∃ bp,W1.heap.size=bp:=⟨_,rfl⟩;rw [hbp];obtain ⟨W2,hW2⟩:∃ W2,W1.alloc (.cells #[.string ky,.string ty,.int .i64 of,.int .i64 0,.slice ka K kc] 49)=W2:=⟨_,rfl⟩
 have BK:Below W1.heap.size W1 W2:=by rw [← hW2];exact (ah _ _).alloc (ae _) _
 have hp2:W2.heap[bp]?=some (.cells #[.string ky,.string ty,.int .i64 of,.int .i64 0,.slice ka K kc] 49 (0,0)):=by rw [← hW2,← hbp];exact fI _ _
 rw [hW2];have hB2:=HB1.out.trans (BK.mono HB1.out.size)
 have aa0:W.heap.size≤bp:=by rw [← hbp];exact HB1.out.size
 have aa1:bp≠d:=by omega
 replace q3:=(hB2.cell (p:=⟨d,3,none⟩) hdl).trans q3
 replace f3:W2.frozen? ⟨d,3,none⟩=false:=by have h:=hB2.block d hdl;simp only [World.frozen?] at f3 ⊢;rw [h];exact f3
 have hR0:(0:Int)≤(R:Int):=by omega
 have hRc:(R:Int)≤(c:Int):=by omega
 have hRN:R≤N:=by omega
 have hi1:IntKind.i64.wrap ((N:Int) - 1)=(R:Int):=(bq _ (by omega)).trans (by omega);have Ye:=hid (M8.out W2 hB2);have ED:=hid hp2;have P7:=hid aa0;have Hdb:=hid aa1;clear hW2 BK hp2 hN hB2 aa0 aa1 HB1 hbp M8
 go_region
 obtain ⟨Wp,hWp⟩:∃ Wp,W2.setCell ⟨d,3,none⟩ (.slice (some ⟨g,0,none⟩) R c)=Wp:=⟨_,rfl⟩;rw [hWp] at Ye ⊢
 have Ob:Wp.drew.heap[bp]?=some (.cells #[.string ky,.string ty,.int .i64 of,.int .i64 0,.slice ka K kc] 49 (0,0)):=by
  show Wp.heap[bp]?=_
  rw [← hWp,aj _ _ _ _ Hdb.out];exact ED.out
 have UI:=hid (show Below W.heap.size V Wp.drew from Ye.out.drew);clear Ye ED q3 f3;generalize Wp.drew=W3 at UI Ob ⊢;clear hWp
 have E6:Below V.heap.size V W3:=by rw [GG.out];exact UI.out
 have hX3:=ID.out.below E6
 have p2:W3.cell? ⟨bp,2,none⟩=some (.int .i64 of):=by simp [World.cell?,Ob]
 obtain ⟨J,hJ⟩:∃ J,s.i=J+1:=⟨s.i - 1,by omega⟩;obtain ⟨gw,wo,wc,nw,hnw,hgw,w0,w1,w3⟩:=hX3.Yd (j:=J) (by have:=hs.i;omega);dsimp only at w1;have hin:=hs.i;have hin2:=hs.len;obtain ⟨I,hI⟩:∃ I,s.i=I:=⟨_,rfl⟩;rw [hI] at w1 hJ hin hp
 have hIJ:I - 1=J:=by omega
 rw [hIJ] at hp;obtain ⟨en,hen⟩:∃ en,(tok L size J).e=en:=⟨_,rfl⟩;rw [hen] at w3 hp
 have hJ0:(0:Int)≤(J:Int):=by omega
 have hJn:(J:Int)<(nw:Int):=by omega
 have aeG:J<nw:=by omega
 have hi2:IntKind.i64.wrap ((I:Int) - 1)=(J:Int):=(bq _ (by omega)).trans (by omega)
 have q3:W3.cell? ⟨bp,3,none⟩=some (.int .i64 0):=by simp [World.cell?,Ob]
 have f3:W3.frozen? ⟨bp,3,none⟩=false:=by simp [World.frozen?,Ob]
 have HP:=hid hp;have Hkk:=hid hky;have Htt:=hid hty;have UJ:=hid hof;have HII:=hid hI;have Hb3:=hid Ob;clear hIJ hnw hi1 hR0 hRc hRN hcap hX3 E6 hI hJ hin hen hp hky hty hof Ob hR hK
 go_upto_region 3 with fail
 go_region
 obtain ⟨W4,Oc⟩:∃ W4,(W3.setCell ⟨bp,3,none⟩ (.int .i64 en)).drew=W4:=⟨_,rfl⟩
 have hb4:W4.heap[bp]?=some (.cells #[.string ky,.string ty,.int .i64 of,.int .i64 en,.slice ka K kc] 49 (0,0)):=by rw [← Oc];exact ay Hb3.out _
 have UK:=hid (show Below W.heap.size V W4 by rw [← Oc];exact (UI.out.setCell (p:=⟨bp,3,none⟩) P7.out _).drew);rw [Oc];clear Oc Hb3 UI p2 w0 w1 w3 q3 f3 hJ0 hJn aeG hi2 hgw
 have p0:W4.cell? ⟨bp,0,none⟩=some (.string ky):=by simp [World.cell?,hb4]
 have p4:W4.cell? ⟨bp,4,none⟩=some (.slice ka K kc):=by simp [World.cell?,hb4]
 have p1:W4.cell? ⟨bp,1,none⟩=some (.string ty):=by simp [World.cell?,hb4]
 have p2:W4.cell? ⟨bp,2,none⟩=some (.int .i64 of):=by simp [World.cell?,hb4]
 have p3:W4.cell? ⟨bp,3,none⟩=some (.int .i64 en):=by simp [World.cell?,hb4]
 have z0:W4.frozen? ⟨bp,0,none⟩=false:=by simp [World.frozen?,hb4]
 have z1:W4.frozen? ⟨bp,1,none⟩=false:=by simp [World.frozen?,hb4]
 have z2:W4.frozen? ⟨bp,2,none⟩=false:=by simp [World.frozen?,hb4]
 have z3:W4.frozen? ⟨bp,3,none⟩=false:=by simp [World.frozen?,hb4]
 have z4:W4.frozen? ⟨bp,4,none⟩=false:=by simp [World.frozen?,hb4]
 have E6:Below V.heap.size V W4:=by rw [GG.out];exact UK.out
 have hP:=HP.out
 unfold Open.close at hP
 have hkt:ky.toList=o.k:=by rw [← Hkk.out];unfold aX;rw [bg]
 rcases QQ o en p HP.out with ⟨hw,rest,QS⟩|⟨hw,hpe⟩|⟨hw1,hw2,hpe⟩
 case' inl =>
  have h1:(ky.toList==[40])=true:=by rw [hkt,hw];rfl
  have hPo:=EC.out;have hKo:=aR HKV.out E6;rw [QS] at hPo;obtain ⟨qF,agZ,hks,hki,_⟩:=hPo;rw [HKK.out] at hKo
  have hK0:0<K:=by rw [← HKK.out,QS];simp
  obtain ⟨gk,kcc,N6,_,_⟩:=hKo.form hK0
  cases N6
  obtain ⟨pa,pn,pc,rfl⟩:=eD hki;obtain ⟨q0,q1,q2,q3,oU⟩:=Ab p (.slice pa pn pc)
  have e:∀ j,j<5→W4.cell? ⟨gk,j,none⟩=([.string q0,.string q1,.int .i64 q2,.int .i64 q3,.slice pa pn pc]:List Value)[j]?:=fun j hj=>by rw [hKo.cellAt j (by omega),hks,bu (by rw [eO];exact hj),oU]
  have e0:W4.cell? ⟨gk,0,none⟩=some (.string q0):=e 0 (by omega);have e1:W4.cell? ⟨gk,1,none⟩=some (.string q1):=e 1 (by omega);have e2:W4.cell? ⟨gk,2,none⟩=some (.int .i64 q2):=e 2 (by omega);have e3:W4.cell? ⟨gk,3,none⟩=some (.int .i64 q3):=e 3 (by omega);have e4:W4.cell? ⟨gk,4,none⟩=some (.slice pa pn pc):=e 4 (by omega);have hb5:=bZ (y0:=q0) (y1:=q1) (f:=q2) (e:=q3) (v:=.slice pa pn pc) hb4
  have C6:Below W.heap.size V (((((W4.setCell ⟨bp,0,none⟩ (.string q0)).setCell ⟨bp,1,none⟩ (.string q1)).setCell ⟨bp,2,none⟩ (.int .i64 q2)).setCell ⟨bp,3,none⟩ (.int .i64 q3)).setCell ⟨bp,4,none⟩ (.slice pa pn pc)) :=
   ((((UK.out.setCell (p:=⟨bp,0,none⟩) P7.out _).setCell (p:=⟨bp,1,none⟩) P7.out _).setCell (p:=⟨bp,2,none⟩) P7.out _).setCell (p:=⟨bp,3,none⟩) P7.out _).setCell (p:=⟨bp,4,none⟩) P7.out _
  have WM:=hid hki;have H5:=hid oU;have sw:=hid hb5;have tL:=hid C6;clear hKo hks QS hki e hw hkt oU hb5 C6 hP
  go_wp2_with fail
  clear hb4 E6 hK0;clear e0 e1 e2 e3 e4 p0 p1 p2 p3 p4 z0 z1 z2 z3 z4 h1;generalize (((((W4.setCell ⟨bp,0,none⟩ (.string q0)).setCell ⟨bp,1,none⟩ (.string q1)).setCell ⟨bp,2,none⟩ (.int .i64 q2)).setCell ⟨bp,3,none⟩ (.int .i64 q3)).setCell ⟨bp,4,none⟩ (.slice pa pn pc))=W5 at sw tL ⊢
 case' inr.inl =>
  have h1:(ky.toList==[40])=false:=by rw [hkt];rcases hw with hw|hw <;> rw [hw] <;> rfl
  have hKo:=aR HKV.out E6;have hPo:=lQ (W:=V) (W':=W4) (bN.of_below E6) EC.out;rw [HKK.out] at hKo;have cS:=tH (W:=W4) o.kids (.slice ka K kc) ks (by rw [HKK.out];exact hKo) hPo (by rw [HKK.out];exact hKl);have hki:=mZ (by rw [HKK.out];have h:=HKV.out;rw [HKK.out] at h;exact h) EC.out HFV.out o.k o.t (yQ o.kids) (vM o.kids);rw [HKK.out] at hki;rw [← hpe] at hki
  have oU:five p (.slice ka K kc)=[.string ky,.string ty,.int .i64 (yQ o.kids),.int .i64 (vM o.kids),.slice ka K kc]:=by rw [hpe,← Hkk.out,← Htt.out];rfl
  obtain ⟨q2,hq2⟩:∃ q,yQ o.kids=q:=⟨_,rfl⟩;obtain ⟨q3,hq3⟩:∃ q,vM o.kids=q:=⟨_,rfl⟩;rw [hq2,hq3] at cS oU
  have key:∀ m1,(((W4.drewN m1).setCell ⟨bp,2,none⟩ (.int .i64 q2)).setCell ⟨bp,3,none⟩ (.int .i64 q3)).heap[bp]?=some (.cells #[.string ky,.string ty,.int .i64 q2,.int .i64 q3,.slice ka K kc] 49 (0,0))∧Below W.heap.size V (((W4.drewN m1).setCell ⟨bp,2,none⟩ (.int .i64 q2)).setCell ⟨bp,3,none⟩ (.int .i64 q3)):=fun m1=>by
   have hbm:(W4.drewN m1).heap[bp]?=some (.cells #[.string ky,.string ty,.int .i64 of,.int .i64 en,.slice ka K kc] 49 (0,0)):=hb4;have x1:=ay (i:=2) hbm (.int .i64 q2)
   exact ⟨ay (i:=3) x1 (.int .i64 q3),((show Below W.heap.size V (W4.drewN m1) from UK.out.trans ⟨rfl,rfl,rfl,ae _,fun _ _=>rfl⟩).setCell (p:=⟨bp,2,none⟩) P7.out _).setCell (p:=⟨bp,3,none⟩) P7.out _⟩
  have UM:=hid key;have WM:=hid hki;have H5:=hid oU
  have hw':(ky.toList==[112,97,114,97,109,115])=true∨((ky.toList==[112,97,114,97,109,115])=false∧(ky.toList==[114,101,115,117,108,116])=true):=by rw [hkt];rcases hw with hw|hw <;> rw [hw] <;> simp [eT,fF]
  clear hKo hki hkt oU E6 hpe key hw hPo hP
  have st:∀ m1,(W4.drewN m1).cell? ⟨bp,2,none⟩=some (.int .i64 of)∧(W4.drewN m1).cell? ⟨bp,3,none⟩=some (.int .i64 en)∧(W4.drewN m1).frozen? ⟨bp,2,none⟩=false∧(W4.drewN m1).frozen? ⟨bp,3,none⟩=false∧(W4.drewN m1).heap[bp]?=some (.cells #[.string ky,.string ty,.int .i64 of,.int .i64 en,.slice ka K kc] 49 (0,0)):=fun m1=>⟨p2,p3,z2,z3,hb4⟩
  have HSt:=hid st;clear st
  rcases hw' with h2|⟨h2,h3⟩
 case' inr.inl.inl =>
  go_wp2_with fail
  refine cS.mono ?_;rintro e vs ⟨rfl,m1,rfl⟩;dsimp only;obtain ⟨n2,n3,n4,n5,n6⟩:=HSt.out m1;obtain ⟨hb5,C6⟩:=UM.out m1;have sw:=hid hb5;have tL:=hid C6;clear hb4 hb5 C6 p0 p1 p2 p3 p4 z0 z1 z2 z3 z4 UM HSt;generalize W4.drewN m1=W4' at n2 n3 n4 n5 n6 sw tL ⊢
  go_wp2_with fail
  clear n2 n3 n4 n5 n6 cS h1 h2;generalize ((W4'.setCell ⟨bp,2,none⟩ (.int .i64 q2)).setCell ⟨bp,3,none⟩ (.int .i64 q3))=W5 at sw tL ⊢;obtain ⟨q0,rfl⟩:∃ q,q=ky:=⟨_,rfl⟩;obtain ⟨q1,rfl⟩:∃ q,q=ty:=⟨_,rfl⟩;obtain ⟨pa,rfl⟩:∃ q,q=ka:=⟨_,rfl⟩;obtain ⟨pn,rfl⟩:∃ q,q=K:=⟨_,rfl⟩;obtain ⟨pc,rfl⟩:∃ q,q=kc:=⟨_,rfl⟩
 case' inr.inl.inr =>
  go_wp2_with fail
  refine cS.mono ?_;rintro e vs ⟨rfl,m1,rfl⟩;dsimp only;obtain ⟨n2,n3,n4,n5,n6⟩:=HSt.out m1;obtain ⟨hb5,C6⟩:=UM.out m1;have sw:=hid hb5;have tL:=hid C6;clear hb4 hb5 C6 p0 p1 p2 p3 p4 z0 z1 z2 z3 z4 UM HSt;generalize W4.drewN m1=W4' at n2 n3 n4 n5 n6 sw tL ⊢
  go_wp2_with fail
  clear n2 n3 n4 n5 n6 cS h1 h2 h3;generalize ((W4'.setCell ⟨bp,2,none⟩ (.int .i64 q2)).setCell ⟨bp,3,none⟩ (.int .i64 q3))=W5 at sw tL ⊢;obtain ⟨q0,rfl⟩:∃ q,q=ky:=⟨_,rfl⟩;obtain ⟨q1,rfl⟩:∃ q,q=ty:=⟨_,rfl⟩;obtain ⟨pa,rfl⟩:∃ q,q=ka:=⟨_,rfl⟩;obtain ⟨pn,rfl⟩:∃ q,q=K:=⟨_,rfl⟩;obtain ⟨pc,rfl⟩:∃ q,q=kc:=⟨_,rfl⟩
 case' inr.inr =>
  have h1:(ky.toList==[40])=false:=by rw [hkt];exact dS.2 hw1
  have h2:(ky.toList==[112,97,114,97,109,115])=false:=by rw [hkt];exact dS.2 (fun e=>hw2 (.inl e))
  have h3:(ky.toList==[114,101,115,117,108,116])=false:=by rw [hkt];exact dS.2 (fun e=>hw2 (.inr e))
  have hki:=mZ (by rw [HKK.out];have h:=HKV.out;rw [HKK.out] at h;exact h) EC.out HFV.out o.k o.t o.f en;rw [HKK.out] at hki;rw [← hpe] at hki
  have oU:five p (.slice ka K kc)=[.string ky,.string ty,.int .i64 of,.int .i64 en,.slice ka K kc]:=by rw [hpe,← Hkk.out,← Htt.out,← UJ.out];rfl
  have hb5:=hb4;have C6:=UK.out;have WM:=hid hki;have H5:=hid oU;have sw:=hid hb5;have tL:=hid C6;clear hki hkt oU E6 hpe hb5 C6 hP hw1 hw2
  go_wp2_with fail
  clear hb4 p0 p1 p2 p3 p4 z0 z1 z2 z3 z4 h1 h2 h3;obtain ⟨q0,rfl⟩:∃ q,q=ky:=⟨_,rfl⟩;obtain ⟨q1,rfl⟩:∃ q,q=ty:=⟨_,rfl⟩;obtain ⟨pa,rfl⟩:∃ q,q=ka:=⟨_,rfl⟩;obtain ⟨pn,rfl⟩:∃ q,q=K:=⟨_,rfl⟩;obtain ⟨pc,rfl⟩:∃ q,q=kc:=⟨_,rfl⟩;obtain ⟨q3,rfl⟩:∃ q,q=en:=⟨_,rfl⟩;obtain ⟨W5,rfl⟩:∃ q,q=W4:=⟨_,rfl⟩;obtain ⟨q2,hq2⟩:∃ q,of=q:=⟨_,rfl⟩;rw [hq2] at H5 sw;clear hq2
 all_goals
  obtain ⟨g',c',kva,Ac,Yf,Yg,qV⟩:=lC ID.out (o:=a) (r:=r) rfl;have hgc:=qV.hov;simp only [dh,bS,Addr.mk.injEq,and_true] at hgc;obtain ⟨rfl,_,rfl⟩:=hgc
  have hrl:r.length≤1000000:=by have:=HRR.out;omega
  have cA:=kV ID.out qV hrl (by rw [GG.out];exact tL.out:Below V.heap.size V W5);refine cA.mono ?_;rintro e v6 ⟨rfl,m2,rfl⟩;dsimp only;clear cA;have nM:Hid ((W5.drewN m2).heap[bp]?=some (.cells #[.string q0,.string q1,.int .i64 q2,.int .i64 q3,.slice pa pn pc] 49 (0,0))):=hid sw.out;have yf:Hid (Below W.heap.size V (W5.drewN m2)):=hid (tL.out.trans ⟨rfl,rfl,rfl,ae _,fun _ _=>rfl⟩);clear sw tL;generalize W5.drewN m2=W6 at nM yf ⊢;obtain ⟨qa,qc,rfl⟩:=eH qV.own;obtain ⟨m,hm⟩:∃ m,a.kids.length=m:=⟨_,rfl⟩
  have XN:m≤1000000:=by rw [← hm];exact hs.kids a (by rw [ho];exact aV _ bF)
  rw [hm] at qV;obtain ⟨iP,hi0,hz0,hz1,hz2⟩:=eB y8;obtain ⟨Wd,hWd⟩:∃ Wd,W6.drew=Wd:=⟨_,rfl⟩
  have hBd:Below W.heap.size V Wd:=by rw [← hWd];exact yf.out.drew
  have hbd:Wd.heap[bp]?=some (.cells #[.string q0,.string q1,.int .i64 q2,.int .i64 q3,.slice pa pn pc] 49 (0,0)):=by rw [← hWd];exact nM.out
  have hbl:bp<Wd.heap.size:=(af.1 hbd).1
  have gD:Below V.heap.size V Wd:=by rw [GG.out];exact hBd
  have mh:Below Wd.heap.size Wd (Wd.alloc (.cells #[.string ⟨#[]⟩,.string ⟨#[]⟩,.int .i64 0,.int .i64 0,.slice none 0 0] 49)):=(ah _ _).alloc (ae _) _;have CV:Hid ((Wd.alloc (.cells #[.string ⟨#[]⟩,.string ⟨#[]⟩,.int .i64 0,.int .i64 0,.slice none 0 0] 49)).heap[bp]?=some (.cells #[.string q0,.string q1,.int .i64 q2,.int .i64 q3,.slice pa pn pc] 49 (0,0))):=hid ((mh.block bp hbl).trans hbd);have Yh:Hid (nR d O2 a r (.slice (some ⟨g,0,none⟩) R c) o8 lT V g c (.slice qa m qc) Ac Yf Yg):=hid qV;have hc4:=qV.cell 4 _ rfl;have UL:Hid (Wd.cell? ⟨g,r.length*6+4,none⟩=some (.slice qa m qc)):=hid ((gD.cell (p:=⟨g,r.length*6+4,none⟩) qV.lt).trans hc4);have Lg:Hid ((Wd.alloc (.cells #[.string ⟨#[]⟩,.string ⟨#[]⟩,.int .i64 0,.int .i64 0,.slice none 0 0] 49)).cell? ⟨g,r.length*6+4,none⟩=some (.slice qa m qc)):=hid (((gD.trans (mh.mono gD.size)).cell (p:=⟨g,r.length*6+4,none⟩) qV.lt).trans hc4);have rD:(Wd.alloc (.cells #[.string ⟨#[]⟩,.string ⟨#[]⟩,.int .i64 0,.int .i64 0,.slice none 0 0] 49)).ownsRow 0 49 5 (.slice qa m qc) m Ac:=aR (by have h:=qV.own;rw [hm] at h;exact h) (gD.trans (mh.mono gD.size));have C8:=hid rD
  have HE:Hid (∀ (g7 c7:Nat) (w7:World),w7.ownsRow 0 49 5 (.slice (some ⟨g7,0,none⟩) (m+1) c7) (m+1) (Ac++[.string ⟨#[]⟩,.string ⟨#[]⟩,.int .i64 0,.int .i64 0,.slice none 0 0])→(Wd.alloc (.cells #[.string ⟨#[]⟩,.string ⟨#[]⟩,.int .i64 0,.int .i64 0,.slice none 0 0] 49)).grownBy w7 (Value.slice qa m qc).ownBlock→((Value.slice qa m qc).ownBlock=some g7∨g7=(Wd.alloc (.cells #[.string ⟨#[]⟩,.string ⟨#[]⟩,.int .i64 0,.int .i64 0,.slice none 0 0] 49)).heap.size) →
    w7.heap[bp]?=some (.cells #[.string q0,.string q1,.int .i64 q2,.int .i64 q3,.slice pa pn pc] 49 (0,0))∧(w7.cell? ⟨g,r.length*6+4,none⟩=some (.slice qa m qc)∧w7.frozen? ⟨g,r.length*6+4,none⟩=false)∧(g7≠g∧g≠g7∧bp≠g7∧bp≠g) ∧
    ((∀ j u,([.string ⟨#[]⟩,.string ⟨#[]⟩,.int .i64 0,.int .i64 0,.slice none 0 0]:List Value)[j]?=some u→w7.cell? ⟨g7,m*5+j,none⟩=some u)∧∀ j,w7.frozen? ⟨g7,j,none⟩=false) ∧
    ∀ X,(X=(((((w7.setCell ⟨g7,m*5,none⟩ (.string q0)).setCell ⟨g7,m*5+1,none⟩ (.string q1)).setCell ⟨g7,m*5+2,none⟩ (.int .i64 q2)).setCell ⟨g7,m*5+3,none⟩ (.int .i64 q3)).setCell ⟨g7,m*5+4,none⟩ (.slice pa pn pc)).setCell ⟨g,r.length*6+4,none⟩ (.slice (some ⟨g7,0,none⟩) (m+1) c7)∨X=((((((w7.setCell ⟨g,r.length*6+4,none⟩ (.slice (some ⟨g7,0,none⟩) (m+1) c7)).setCell ⟨g7,m*5,none⟩ (.string q0)).setCell ⟨g7,m*5+1,none⟩ (.string q1)).setCell ⟨g7,m*5+2,none⟩ (.int .i64 q2)).setCell ⟨g7,m*5+3,none⟩ (.int .i64 q3)).setCell ⟨g7,m*5+4,none⟩ (.slice pa pn pc)))→X.cell? ⟨g,r.length*6+5,none⟩=some (.int .i64 a.kf)∧X.frozen? ⟨g,r.length*6+5,none⟩=false∧∃ O',Mem d L size lv { ({ s with opn:=a :: r }:St) with opn:=a.add p of :: r } O' (X.setCell ⟨g,r.length*6+5,none⟩ (.int .i64 of))∧bN O2 O' V (X.setCell ⟨g,r.length*6+5,none⟩ (.int .i64 of))):=hid (by
   intro g7 c7 w7 bP aN hat;have oM:=Yh.out;have Jq:V.heap.size≤(Wd.alloc (.cells #[.string ⟨#[]⟩,.string ⟨#[]⟩,.int .i64 0,.int .i64 0,.slice none 0 0] 49)).heap.size:=(gD.trans (mh.mono gD.size)).size
   have vk:∀ k,k<V.heap.size→(Value.slice qa m qc).ownBlock≠some k→w7.heap[k]?=V.heap[k]?:=fun k h1 h2=>(aN.block k (aC h1 Jq) (fun e=>h2 e.symm)).trans ((gD.trans (mh.mono gD.size)).block k h1)
   have hkg:(Value.slice qa m qc).ownBlock≠some g:=fun e=>absurd ((cZ oM.own e).one oM.ty) (by decide)
   have hgw:=vk g oM.lt hkg
   have Yi:V.heap.size≤bp:=by rw [GG.out];exact P7.out
   have hkb:∀ k,(Value.slice qa m qc).ownBlock=some k→k<V.heap.size:=fun k h=>(oM.own.lt k h).2
   have Lh:w7.heap[bp]?=some (.cells #[.string q0,.string q1,.int .i64 q2,.int .i64 q3,.slice pa pn pc] 49 (0,0)):=(aN.block bp (aC hbl mh.size) (fun e=>by have:=hkb bp e.symm;omega)).trans CV.out
   have C9:g7≠g:=fun e=>by
    obtain ⟨cs,fr,h2⟩:=oM.ty;have h1:Ty w7 g7 49:=cZ bP (k:=g7) rfl;rw [e] at h1
    exact absurd (h1.one ⟨cs,fr,hgw.trans h2⟩) (by decide)
   have Li:bp≠g7:=fun e=>by
    rcases hat with h|h
    ·have:=hkb g7 h;omega
    ·have:=mh.size;rw [aT] at h;omega
   have hbg:bp≠g:=fun e=>by have:=oM.lt;omega
   have hlk:Ac.length=m*5:=rD.1
   refine ⟨Lh,⟨?_,?_⟩,⟨C9,C9.symm,Li,hbg⟩,⟨fun j u hj=>?_,fun j=>bP.frozenAt j⟩,fun X hX=>?_⟩
   ·have h:=oM.cell 4 _ rfl
    simp only [World.cell?] at h ⊢;rw [hgw];exact h
   ·have h:=oM.frozen (r.length*6+4)
    simp only [World.frozen?] at h ⊢;rw [hgw];exact h
   ·have WN:j<5:=(aL.1 hj).1
    rw [bP.cellAt (m*5+j) (by omega),aI (by omega),show m*5+j - Ac.length=j by omega]
    exact hj
   ·exact y9 (W:=V) ID.out rfl oM hm H5.out bP vk (hat.imp id (fun h=>by rw [h];exact Jq)) ((aN.os).trans (gD.trans (mh.mono gD.size)).os) ((aN.tape).trans (gD.trans (mh.mono gD.size)).tape) ((aN.output).trans (gD.trans (mh.mono gD.size)).output) (aJ Jq aN.size) WM.out hX)
  have Lj:=hid hbd;clear qV hBd hbl gD mh hc4 rD hbd yf nM hm
  go_upto_region 11 with fail
  refine aK (S:=fun X:World=>X.heap[bp]?=some (.cells #[.string q0,.string q1,.int .i64 q2,.int .i64 q3,.slice pa pn pc] 49 (0,0))) (by kernel_rfl) (by rw [hWd];exact Lj.out) fun ag=>?_
  rw [hWd] at ag ⊢;refine OP.m 0 rfl (.pointer (some ⟨g,r.length*6,none⟩)) ag ?_;simp only [OP.s];refine OP.m 1 rfl (.pointer (some ⟨g,r.length*6,none⟩)) ag ?_;simp only [OP.s];refine OP.m 2 rfl (.pointer (some ⟨g,r.length*6,none⟩)) ag ?_;simp only [OP.s];refine OP.m 3 rfl (.pointer (some ⟨g,r.length*6+4,none⟩)) ag ?_;simp only [OP.s];refine OP.y 5 rfl (.agg #[.string q0,.string q1,.int .i64 q2,.int .i64 q3,.slice pa pn pc]) (cu 49 (.tmp 2) rfl (by rfl) (fun X hX=>tK hX)) ag ?_;simp only [OP.s]
  refine OP.q 4 7 rfl rfl (fun K hK=>?_) fun K hK=>?_
  focus
   refine OP.w ?_;have q4:=UL.out
   go_simp
   refine hK.out _ _ ag fun ag=>?_
   try simp only [OP.s]
   clear hK K;clear q4;refine OP.t 6 rfl (.int .i64 m) (fun X hX=>by kernel_rfl) ag ?_;simp only [OP.s]
   refine OP.r 7 rfl fun K hK=>?_
   go_simp
   refine hK.out _ _ CV.out fun ag=>?_
   try simp only [OP.s]
   clear hK K
  rotate_left
  focus
   refine OP.w ?_
   go_simp
   refine hK.out _ _ CV.out fun ag=>?_
   try simp only [OP.s]
   clear hK K
   refine OP.r 4 rfl fun K hK=>?_
   have q4:=Lg.out
   go_simp
   refine hK.out _ _ CV.out fun ag=>?_
   try simp only [OP.s]
   clear hK K;clear q4;refine OP.t 6 rfl (.int .i64 m) (fun X hX=>by kernel_rfl) ag ?_;simp only [OP.s]
  rotate_left
  all_goals
   refine OP.r 8 rfl fun K hK=>?_
   refine dI _ (.tmp 64) (.tmp 67) 47 rfl 0 49 iP (.agg #[.string ⟨#[]⟩,.string ⟨#[]⟩,.int .i64 0,.int .i64 0,.slice none 0 0]) 5 72 Tryz.underlying47 hi0 hz0 hz1 hz2 rfl (by decide) (.slice qa m qc) m Ac rfl C8.out ⟨Wd.heap.size,0,none⟩ 1 1 [.string ⟨#[]⟩,.string ⟨#[]⟩,.int .i64 0,.int .i64 0,.slice none 0 0] rfl rfl (wY Wd) tJ (by decide) (by unfold maxLen;omega) (by omega) (aM _) _ rfl ?_;intro g7 c7 w7 bP aN hat QT;obtain ⟨rW,⟨h4,f4⟩,⟨n1,n2,n3,n4⟩,⟨hz,M9⟩,hfin⟩:=HE.out g7 c7 w7 bP aN hat;have HFin:=hid hfin;have HZ:=hid hz;have qG:=hid M9;clear bP aN hat hfin hz M9
   refine hK.out _ _ rW fun ag=>?_
   try simp only [OP.s]
   clear hK K;refine OP.t 9 rfl (.pointer (some ⟨g7,m*5,none⟩)) (fun X hX=>za g7 m c7 X rfl rfl rfl) ag ?_;simp only [OP.s];refine OP.m 11 rfl (.pointer (some ⟨g,r.length*6,none⟩)) ag ?_;simp only [OP.s];refine OP.m 12 rfl (.pointer (some ⟨g,r.length*6,none⟩)) ag ?_;simp only [OP.s];refine OP.m 13 rfl (.pointer (some ⟨g,r.length*6+4,none⟩)) ag ?_;simp only [OP.s]
   refine OP.q 10 14 rfl rfl (fun K hK=>?_) fun K hK=>?_
   ·refine OP.w ?_
    have z0:w7.cell? ⟨g7,m*5,none⟩=some (.string ⟨#[]⟩):=HZ.out 0 _ rfl;have z1:w7.cell? ⟨g7,m*5+1,none⟩=some (.string ⟨#[]⟩):=HZ.out 1 _ rfl;have z2:w7.cell? ⟨g7,m*5+2,none⟩=some (.int .i64 0):=HZ.out 2 _ rfl;have z3:w7.cell? ⟨g7,m*5+3,none⟩=some (.int .i64 0):=HZ.out 3 _ rfl;have z4:w7.cell? ⟨g7,m*5+4,none⟩=some (.slice none 0 0):=HZ.out 4 _ rfl;have y0:=qG.out (m*5);have y1:=qG.out (m*5+1);have y2:=qG.out (m*5+2);have y3:=qG.out (m*5+3);have y4:=qG.out (m*5+4)
    go_simp
    refine hK.out _ _ (by simp only [nS _ _ _ _ _ n3];exact rW) fun ag=>?_
    try simp only [OP.s]
    clear hK K;clear z0 z1 z2 z3 z4 y0 y1 y2 y3 y4;obtain ⟨Y,hY⟩:∃ Y,(((((w7.setCell ⟨g7,m*5,none⟩ (.string q0)).setCell ⟨g7,m*5+1,none⟩ (.string q1)).setCell ⟨g7,m*5+2,none⟩ (.int .i64 q2)).setCell ⟨g7,m*5+3,none⟩ (.int .i64 q3)).setCell ⟨g7,m*5+4,none⟩ (.slice pa pn pc))=Y:=⟨_,rfl⟩
    have Yj:Y.cell? ⟨g,r.length*6+4,none⟩=some (.slice qa m qc):=by rw [← hY];simp only [World.cell?,nS _ _ _ _ _ n2];exact h4
    have Yk:Y.frozen? ⟨g,r.length*6+4,none⟩=false:=by rw [← hY];simp only [World.frozen?,nS _ _ _ _ _ n2];exact f4
    have QU:Y.heap[bp]?=some (.cells #[.string q0,.string q1,.int .i64 q2,.int .i64 q3,.slice pa pn pc] 49 (0,0)):=by rw [← hY,nS _ _ _ _ _ n3];exact rW
    rw [hY]
    refine OP.r 14 rfl fun K hK=>?_
    go_simp
    refine hK.out _ _ (by rw [aj _ _ _ _ n4];exact QU) fun ag=>?_
    try simp only [OP.s]
    clear hK K;refine bz (by kernel_rfl) ?_ _;obtain ⟨x5,xf,O9,tC,tF⟩:=HFin.out _ (.inl (by rw [hY]));clear Yj Yk QU h4 f4 hY rW HZ qG HFin;have jw:=hid tC;have Da:=hid tF;clear tC tF;generalize Y.setCell ⟨g,r.length*6+4,none⟩ (.slice (some ⟨g7,0,none⟩) (m+1) c7)=Z at x5 xf jw Da ⊢
    go_wp2_with fail
    first|go_end0|refine aA (aD rfl _ _ _) rfl ?_
    exact ⟨rfl,O9,by rw [UJ.out];exact jw.out,vZ.out.trans Da.out⟩
   ·refine OP.w ?_
    go_simp
    refine hK.out _ _ (by rw [aj _ _ _ _ n4];exact rW) fun ag=>?_
    try simp only [OP.s]
    clear hK K;obtain ⟨Z,hZ⟩:∃ Z,w7.setCell ⟨g,r.length*6+4,none⟩ (.slice (some ⟨g7,0,none⟩) (m+1) c7)=Z:=⟨_,rfl⟩
    have mQ:Z.heap[g7]?=w7.heap[g7]?:=by rw [← hZ];exact aj _ _ _ _ n1
    have z0:Z.cell? ⟨g7,m*5,none⟩=some (.string ⟨#[]⟩):=by have h:=HZ.out 0 _ rfl;simp only [World.cell?] at h ⊢;rw [mQ];exact h
    have z1:Z.cell? ⟨g7,m*5+1,none⟩=some (.string ⟨#[]⟩):=by have h:=HZ.out 1 _ rfl;simp only [World.cell?] at h ⊢;rw [mQ];exact h
    have z2:Z.cell? ⟨g7,m*5+2,none⟩=some (.int .i64 0):=by have h:=HZ.out 2 _ rfl;simp only [World.cell?] at h ⊢;rw [mQ];exact h
    have z3:Z.cell? ⟨g7,m*5+3,none⟩=some (.int .i64 0):=by have h:=HZ.out 3 _ rfl;simp only [World.cell?] at h ⊢;rw [mQ];exact h
    have z4:Z.cell? ⟨g7,m*5+4,none⟩=some (.slice none 0 0):=by have h:=HZ.out 4 _ rfl;simp only [World.cell?] at h ⊢;rw [mQ];exact h
    have y0:Z.frozen? ⟨g7,m*5,none⟩=false:=by have h:=qG.out (m*5);simp only [World.frozen?] at h ⊢;rw [mQ];exact h
    have y1:Z.frozen? ⟨g7,m*5+1,none⟩=false:=by have h:=qG.out (m*5+1);simp only [World.frozen?] at h ⊢;rw [mQ];exact h
    have y2:Z.frozen? ⟨g7,m*5+2,none⟩=false:=by have h:=qG.out (m*5+2);simp only [World.frozen?] at h ⊢;rw [mQ];exact h
    have y3:Z.frozen? ⟨g7,m*5+3,none⟩=false:=by have h:=qG.out (m*5+3);simp only [World.frozen?] at h ⊢;rw [mQ];exact h
    have y4:Z.frozen? ⟨g7,m*5+4,none⟩=false:=by have h:=qG.out (m*5+4);simp only [World.frozen?] at h ⊢;rw [mQ];exact h
    have QV:Z.heap[bp]?=some (.cells #[.string q0,.string q1,.int .i64 q2,.int .i64 q3,.slice pa pn pc] 49 (0,0)):=by rw [← hZ,aj _ _ _ _ n4];exact rW
    rw [hZ];clear mQ
    refine OP.r 10 rfl fun K hK=>?_
    go_simp
    refine hK.out _ _ (by rw [nS _ _ _ _ _ n3];exact QV) fun ag=>?_
    try simp only [OP.s]
    clear hK K;refine bz (by kernel_rfl) ?_ _;obtain ⟨x5,xf,O9,tC,tF⟩:=HFin.out _ (.inr (by rw [hZ]));clear z0 z1 z2 z3 z4 y0 y1 y2 y3 y4 h4 f4 hZ rW QV HZ qG HFin;have jw:=hid tC;have Da:=hid tF;clear tC tF;generalize (((((Z.setCell ⟨g7,m*5,none⟩ (.string q0)).setCell ⟨g7,m*5+1,none⟩ (.string q1)).setCell ⟨g7,m*5+2,none⟩ (.int .i64 q2)).setCell ⟨g7,m*5+3,none⟩ (.int .i64 q3)).setCell ⟨g7,m*5+4,none⟩ (.slice pa pn pc))=Y at x5 xf jw Da ⊢
    go_wp2_with fail
    first|go_end0|refine aA (aD rfl _ _ _) rfl ?_
    exact ⟨rfl,O9,by rw [UJ.out];exact jw.out,vZ.out.trans Da.out⟩
end
end K
end Go.Proofs.YtojoahlpgmnbnaaGreatDoor
