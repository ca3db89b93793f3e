/- What the claim needs of the texts KFin. -/
import Derived.Test.YtojoahlpgmnbnaaGreatDoorUOOp
import Derived.Test.YtojoahlpgmnbnaaGreatDoorUO5
set_option maxRecDepth 20000
set_option maxHeartbeats 16000000
namespace Go.Proofs.YtojoahlpgmnbnaaGreatDoor
namespace K
open Go.RowKit
open Go.Lib hiding intOf
open U S T
section
variable {d:Nat} {L:List aZ} {size:Nat} {lv:Value} {s:St} {O:Nat→Prop}
theorem CK {B d j:Nat} {W W':World} {cs:Array Value} {t:TypeId} (v:Value) (h:Below B W W') (hd:d<B) (hb:W.heap[d]?=some (.cells cs t (0,0))):Below B (W.setCell ⟨d,j,none⟩ v) (W'.setCell ⟨d,j,none⟩ v):=by
 refine ⟨h.os,h.tape,h.output,by simpa using h.size,fun k hk=>?_⟩
 by_cases hkd:k=d
 ·subst hkd
  rw [az hb v,az ((h.block k hk).trans hb) v]
 ·rw [ak _ _ _ _ hkd,ak _ _ _ _ hkd]
  exact h.block k hk
theorem EO:(Tryz.prog.info? 49).map (fun i=>(i.zero,i.size,i.bytes))=some (some (.agg #[.string ⟨#[]⟩,.string ⟨#[]⟩,.int .i64 0,.int .i64 0,.slice none 0 0]),5,72):=by kernel_rfl
theorem NJ (W:World):∀ j u,([.string ⟨#[]⟩,.string ⟨#[]⟩,.int .i64 0,.int .i64 0,.slice none 0 0]:List Value)[j]?=some u→(W.alloc (.cells #[.string ⟨#[]⟩,.string ⟨#[]⟩,.int .i64 0,.int .i64 0,.slice none 0 0] 49)).cell? ((⟨W.heap.size,0,none⟩:Addr).add j)=some u :=
 dm (cs:=#[.string ⟨#[]⟩,.string ⟨#[]⟩,.int .i64 0,.int .i64 0,.slice none 0 0]) (t:=49) (fr:=(0,0)) (fO _ _)
theorem CL:∀ u∈([.string ⟨#[]⟩,.string ⟨#[]⟩,.int .i64 0,.int .i64 0,.slice none 0 0]:List Value),u.oneCell'=true:=by
 intro u hu;simp only [bA,ek,or_false] at hu
 rcases hu with rfl|rfl|rfl|rfl|rfl <;> rfl
structure pY (w' w:World):Prop where
 os:w'.os=w.os
 tape:w'.tape=w.tape
 output:w'.output=w.output
 size:w'.heap.size=w.heap.size
theorem pY.set (w:World) (a:Addr) (v:Value):pY (w.setCell a v) w:=⟨rfl,rfl,rfl,by simp⟩
theorem pY.trans {a b c:World} (h:pY a b) (k:pY b c):pY a c:=⟨h.os.trans k.os,h.tape.trans k.tape,h.output.trans k.output,h.size.trans k.size⟩
theorem MM {w:World} {g n c m:Nat} {xs ys:List Value} (h:w.ownsRow 0 49 5 (.slice (some ⟨g,0,none⟩) n c) n (xs++ys)) (hx:xs.length=m*5) (hy:ys.length=5) (a b e f k:Value) :
  (((((w.setCell ⟨g,m*5,none⟩ a).setCell ⟨g,m*5+1,none⟩ b).setCell ⟨g,m*5+2,none⟩ e).setCell ⟨g,m*5+3,none⟩ f).setCell ⟨g,m*5+4,none⟩ k).ownsRow 0 49 5 (.slice (some ⟨g,0,none⟩) n c) n (xs++[a,b,e,f,k]) ∧
  (∀ q,q≠g→(((((w.setCell ⟨g,m*5,none⟩ a).setCell ⟨g,m*5+1,none⟩ b).setCell ⟨g,m*5+2,none⟩ e).setCell ⟨g,m*5+3,none⟩ f).setCell ⟨g,m*5+4,none⟩ k).heap[q]?=w.heap[q]?)∧pY (((((w.setCell ⟨g,m*5,none⟩ a).setCell ⟨g,m*5+1,none⟩ b).setCell ⟨g,m*5+2,none⟩ e).setCell ⟨g,m*5+3,none⟩ f).setCell ⟨g,m*5+4,none⟩ k) w:=by
 have h1:=(((((h.stored (m*5) a).1.stored (m*5+1) b).1.stored (m*5+2) e).1.stored (m*5+3) f).1.stored (m*5+4) k).1
 refine ⟨?_,fun q hq=>by
  have st:∀ (u:World) (i:Nat) (v:Value),(u.setCell ⟨g,i,none⟩ v).heap[q]?=u.heap[q]?:=fun u i v=>ak u _ v q hq
  rw [st,st,st,st,st],(pY.set _ _ _).trans ((pY.set _ _ _).trans ((pY.set _ _ _).trans ((pY.set _ _ _).trans (pY.set _ _ _))))⟩
 match ys,hy with
 | [y0,y1,y2,y3,y4],_ =>
  have e0:(xs++[y0,y1,y2,y3,y4]).set (m*5) a=xs++[a,y1,y2,y3,y4]:=by rw [fo _ _ (by omega),show m*5 - xs.length=0 by omega];rfl
  have e1:(xs++[a,y1,y2,y3,y4]).set (m*5+1) b=xs++[a,b,y2,y3,y4]:=by rw [fo _ _ (by omega),show m*5+1 - xs.length=1 by omega];rfl
  have e2:(xs++[a,b,y2,y3,y4]).set (m*5+2) e=xs++[a,b,e,y3,y4]:=by rw [fo _ _ (by omega),show m*5+2 - xs.length=2 by omega];rfl
  have e3:(xs++[a,b,e,y3,y4]).set (m*5+3) f=xs++[a,b,e,f,y4]:=by rw [fo _ _ (by omega),show m*5+3 - xs.length=3 by omega];rfl
  have e4:(xs++[a,b,e,f,y4]).set (m*5+4) k=xs++[a,b,e,f,k]:=by rw [fo _ _ (by omega),show m*5+4 - xs.length=4 by omega];rfl
  rw [e0,e1,e2,e3,e4] at h1
  exact h1
theorem Uv {W W':World} {tv ov kv qB:Value} {bs qp:List (Option Nat)} {us xs mF ks:List Value} {a:Open} {r:List Open} {g c g7 c7:Nat} {p:Pt} {kf:Int} (hM:nT d L size lv s O tv ov bs us xs W) (hT:pX d O a r ov bs xs W g c kv ks mF qp)
  (hrow:W'.ownsRow 0 49 5 (.slice (some ⟨g7,0,none⟩) (a.kids.length+1) c7) (a.kids.length+1) (ks++five p qB))
  (ad9:W'.ownsRow 0 128 6 (.slice (some ⟨g,0,none⟩) (r.length+1) c) (r.length+1) (mF++six (a.add p kf) (.slice (some ⟨g7,0,none⟩) (a.kids.length+1) c7)))
  (hset:∀ k,k<W.heap.size→kv.ownBlock≠some k→k≠g→W'.heap[k]?=W.heap[k]?) (hat:kv.ownBlock=some g7∨W.heap.size≤g7)
  (hos:W'.os=W.os) (htp:W'.tape=W.tape) (hou:W'.output=W.output) (hsz:W.heap.size≤W'.heap.size) (hp:aT W (Fr O W) p qB) :
  ∃ O',Mem d L size lv { s with opn:=a.add p kf :: r } O' W'∧bN O O' W W':=by
 have hb:=hM.blk;have hOg:O g:=(hM.own g).2 (.inr (.inr (.inl (by rw [hT.hov];rfl))))
 have hS:bN O (fun k=>k=d∨tv.ownBlock=some k∨ov.ownBlock=some k∨some k∈some g7 :: qp) W W':=by
  refine ⟨hos,htp,hou,hsz,?_,fun k hk hO=>hset k hk (fun e=>hO ((hM.own k).2 (.inr (.inr (.inr (by rw [hT.hbs,e];exact bO)))))) (fun e=>hO (e ▸ hOg))⟩;rintro k (rfl|h1|h1|h1)
  ·exact .inl ((hM.own _).2 (.inl rfl))
  ·exact .inl ((hM.own _).2 (.inr (.inl h1)))
  ·exact .inl ((hM.own _).2 (.inr (.inr (.inl h1))))
  ·rcases bA.1 h1 with h1|h1
   ·obtain rfl:=aY h1
    exact hat.elim (fun h=>.inl ((hM.own _).2 (.inr (.inr (.inr (by rw [hT.hbs,h];exact bO)))))) .inr
   ·exact .inl ((hM.own k).2 (.inr (.inr (.inr (by rw [hT.hbs];exact bf _ h1)))))
 have keep:∀ {k:Nat} {t:TypeId},Ty W k t→t≠128→t≠49→W'.heap[k]?=W.heap[k]?:=fun {k t} h1 h2 h3=>by
  have hk:k<W.heap.size:=by obtain ⟨_,_,h⟩:=h1;exact (af.1 h).1
  exact hset k hk (fun e=>h3 (h1.one (dF hT.own e))) (fun e=>by rw [e] at h1;exact h2 (h1.one hT.ty))
 refine ⟨_,⟨tv,ov,some g7 :: qp,us,mF++six (a.add p kf) (.slice (some ⟨g7,0,none⟩) (a.kids.length+1) c7),(keep ⟨_,_,hb⟩ (by decide) (by decide)).trans hb,hM.words.stay hS,iH hM.lQ (fun k hk=>keep (dF hM.lQ hk) (by decide) (by decide)),hM.todo.stay hS,by rw [hT.hov];exact ad9,?_,⟨fun k hk hb1=>?_,hT.apart.2⟩,fun k=>Iff.rfl⟩,hS⟩
 ·refine ⟨.slice (some ⟨g7,0,none⟩) (a.kids.length+1) c7,ks++five p qB,mF,qp,rfl,rfl,?_,?_,gL.stay hS hT.rest (fun k hk=>hset k (sW hT.rest hk) (fun e=>hT.apart.1 k e hk) (fun e=>by have h1:=og hT.rest hk;rw [e] at h1;exact absurd (h1.one hT.ty) (by decide)))⟩
  ·show World.ownsRow _ 0 _ 5 _ (a.kids++[p]).length _
   rw [aM]
   exact hrow
  ·exact aO.snoc (lS hS hT.parts) (aT.later (R:=Fr O W) (R':=Fr _ W') (fun k hk _=>hS.at hk) (fun k hk=>hS.fr hk) p qB hp)
 ·have h1:g7=k:=aY hk
  subst h1
  rcases hat with h|h
  ·exact hT.apart.1 _ h hb1
  ·have:=sW hT.rest hb1;omega
theorem zS (p:Pt) (qB:Value):∃ (q0 q1:ByteArray) (q2 q3:Int),five p qB=[.string q0,.string q1,.int .i64 q2,.int .i64 q3,qB]:=by
 obtain ⟨k,t,f,e,ks⟩:=p
 exact ⟨_,_,_,_,rfl⟩
theorem eF {W:World} {R:Nat→Prop} {p:Pt} {qB:Value} (h:aT W R p qB):∃ a n c,qB=.slice a n c:=by
 obtain ⟨k,t,f,e,ks⟩:=p;obtain ⟨a,c,h,_⟩:=h
 exact ⟨_,_,_,h⟩
theorem cr {b:Nat} {y0 y1:ByteArray} {f e:Int} {v:Value} {t:TypeId} {W:World} {x0 x1 x2 x3 x4:Value} (h:W.heap[b]?=some (.cells #[x0,x1,x2,x3,x4] t (0,0))) :
  (((((W.setCell ⟨b,0,none⟩ (.string y0)).setCell ⟨b,1,none⟩ (.string y1)).setCell ⟨b,2,none⟩ (.int .i64 f)).setCell ⟨b,3,none⟩ (.int .i64 e)).setCell ⟨b,4,none⟩ v).heap[b]?=some (.cells #[.string y0,.string y1,.int .i64 f,.int .i64 e,v] t (0,0)):=by
 have e0:=az (i:=0) h (.string y0);have e1:=az (i:=1) e0 (.string y1);have e2:=az (i:=2) e1 (.int .i64 f);have e3:=az (i:=3) e2 (.int .i64 e);have e4:=az (i:=4) e3 v
 exact e4
theorem QB {W w7 X:World} {tv ov kv qB:Value} {bs qp:List (Option Nat)} {us xs mF ks:List Value} {a:Open} {r:List Open} {g c g7 c7 m:Nat} {p:Pt} {kf:Int} {q0 q1:ByteArray} {q2 q3:Int} (hM:nT d L size lv s O tv ov bs us xs W) (hso:s.opn=a :: r) (hT:pX d O a r ov bs xs W g c kv ks mF qp)
  (hm:a.kids.length=m) (h5:five p qB=[.string q0,.string q1,.int .i64 q2,.int .i64 q3,qB])
  (bY:w7.ownsRow 0 49 5 (.slice (some ⟨g7,0,none⟩) (m+1) c7) (m+1) (ks++[.string ⟨#[]⟩,.string ⟨#[]⟩,.int .i64 0,.int .i64 0,.slice none 0 0]))
  (Gs:∀ k,k<W.heap.size→kv.ownBlock≠some k→w7.heap[k]?=W.heap[k]?) (hat:kv.ownBlock=some g7∨W.heap.size≤g7) (hos:w7.os=W.os) (htp:w7.tape=W.tape) (hou:w7.output=W.output) (hsz:W.heap.size≤w7.heap.size) (hp:aT W (Fr O W) p qB)
  (hX:X=(((((w7.setCell ⟨g7,m*5,none⟩ (.string q0)).setCell ⟨g7,m*5+1,none⟩ (.string q1)).setCell ⟨g7,m*5+2,none⟩ (.int .i64 q2)).setCell ⟨g7,m*5+3,none⟩ (.int .i64 q3)).setCell ⟨g7,m*5+4,none⟩ qB).setCell ⟨g,r.length*6+4,none⟩ (.slice (some ⟨g7,0,none⟩) (m+1) c7) ∨
   X=((((((w7.setCell ⟨g,r.length*6+4,none⟩ (.slice (some ⟨g7,0,none⟩) (m+1) c7)).setCell ⟨g7,m*5,none⟩ (.string q0)).setCell ⟨g7,m*5+1,none⟩ (.string q1)).setCell ⟨g7,m*5+2,none⟩ (.int .i64 q2)).setCell ⟨g7,m*5+3,none⟩ (.int .i64 q3)).setCell ⟨g7,m*5+4,none⟩ qB)) :
  X.cell? ⟨g,r.length*6+5,none⟩=some (.int .i64 a.kf)∧X.frozen? ⟨g,r.length*6+5,none⟩=false ∧
  ∃ O',Mem d L size lv { s with opn:=a.add p kf :: r } O' (X.setCell ⟨g,r.length*6+5,none⟩ (.int .i64 kf))∧bN O O' W (X.setCell ⟨g,r.length*6+5,none⟩ (.int .i64 kf)):=by
 have hkg:kv.ownBlock≠some g:=fun e=>absurd ((dF hT.own e).one hT.ty) (by decide)
 have aay:=Gs g hT.lt hkg;have aaz:Ty w7 g7 49:=dF bY (k:=g7) rfl
 have hgg:g≠g7:=fun e=>by
  obtain ⟨cs,fr,h2⟩:=hT.ty;rw [← e] at aaz
  exact absurd (aaz.one ⟨cs,fr,aay.trans h2⟩) (by decide)
 have hlk:ks.length=m*5:=by have:=hT.own.1;rw [hm] at this;exact this
 have hR7:w7.ownsRow 0 128 6 (.slice (some ⟨g,0,none⟩) (r.length+1) c) (r.length+1) (mF++six a kv):=by
  have hR:=hM.qx;rw [hso,hT.hov,hT.hxs] at hR
  exact iH hR (fun k hk=>by
   obtain rfl:g=k:=by simpa [Value.ownBlock] using hk
   exact aay)
 have aaB:(mF++six a kv).set (r.length*6+4) (.slice (some ⟨g7,0,none⟩) (m+1) c7)=mF++(six a kv).set 4 (.slice (some ⟨g7,0,none⟩) (m+1) c7):=by
  rw [fo _ _ (by rw [hT.len];omega),show r.length*6+4 - mF.length=4 by rw [hT.len];omega]
 have key:X.ownsRow 0 49 5 (.slice (some ⟨g7,0,none⟩) (m+1) c7) (m+1) (ks++five p qB)∧X.ownsRow 0 128 6 (.slice (some ⟨g,0,none⟩) (r.length+1) c) (r.length+1) (mF++(six a kv).set 4 (.slice (some ⟨g7,0,none⟩) (m+1) c7)) ∧
   (∀ k,k≠g→k≠g7→X.heap[k]?=w7.heap[k]?)∧pY X w7:=by
  rw [h5]
  rcases hX with hX|hX
  ·obtain ⟨s1,s2,s3⟩:=MM bY hlk rfl (.string q0) (.string q1) (.int .i64 q2) (.int .i64 q3) qB
   generalize (((((w7.setCell ⟨g7,m*5,none⟩ (.string q0)).setCell ⟨g7,m*5+1,none⟩ (.string q1)).setCell ⟨g7,m*5+2,none⟩ (.int .i64 q2)).setCell ⟨g7,m*5+3,none⟩ (.int .i64 q3)).setCell ⟨g7,m*5+4,none⟩ qB)=Y at hX s1 s2 s3;rw [hX];clear hX;have hR8:=iH hR7 (fun k hk=>s2 k (fun e=>hgg ((aY hk).trans e)));have h9:=(hR8.stored (r.length*6+4) (.slice (some ⟨g7,0,none⟩) (m+1) c7)).1;rw [aaB] at h9
   exact ⟨iH s1 (fun k hk=>ak _ _ _ _ (fun e=>hgg ((aY hk).trans e).symm)),h9,fun k h1 h2=>(ak _ _ _ _ h1).trans (s2 k h2),(pY.set _ _ _).trans s3⟩
  ·have h8:=(hR7.stored (r.length*6+4) (.slice (some ⟨g7,0,none⟩) (m+1) c7)).1
   rw [aaB] at h8;have Wt:=iH (w':=w7.setCell ⟨g,r.length*6+4,none⟩ (.slice (some ⟨g7,0,none⟩) (m+1) c7)) bY (fun k hk=>ak _ _ _ _ (fun e=>hgg ((aY hk).trans e).symm))
   have aaC:∀ k,k≠g→(w7.setCell ⟨g,r.length*6+4,none⟩ (.slice (some ⟨g7,0,none⟩) (m+1) c7)).heap[k]?=w7.heap[k]?:=fun k h1=>ak _ _ _ _ h1
   have hsw:pY (w7.setCell ⟨g,r.length*6+4,none⟩ (.slice (some ⟨g7,0,none⟩) (m+1) c7)) w7:=pY.set _ _ _;generalize w7.setCell ⟨g,r.length*6+4,none⟩ (.slice (some ⟨g7,0,none⟩) (m+1) c7)=Z at hX h8 Wt aaC hsw;obtain ⟨s1,s2,s3⟩:=MM Wt hlk rfl (.string q0) (.string q1) (.int .i64 q2) (.int .i64 q3) qB;generalize (((((Z.setCell ⟨g7,m*5,none⟩ (.string q0)).setCell ⟨g7,m*5+1,none⟩ (.string q1)).setCell ⟨g7,m*5+2,none⟩ (.int .i64 q2)).setCell ⟨g7,m*5+3,none⟩ (.int .i64 q3)).setCell ⟨g7,m*5+4,none⟩ qB)=Y at hX s1 s2 s3;rw [hX]
   exact ⟨s1,iH h8 (fun k hk=>s2 k (fun e=>hgg ((aY hk).trans e))),fun k h1 h2=>(s2 k h2).trans (aaC k h1),s3.trans hsw⟩
 clear hX;obtain ⟨y1,y2,y3,y4⟩:=key;have hlast:=(y2.stored (r.length*6+5) (.int .i64 kf)).1
 have aea:(mF++(six a kv).set 4 (.slice (some ⟨g7,0,none⟩) (m+1) c7)).set (r.length*6+5) (.int .i64 kf)=mF++six (a.add p kf) (.slice (some ⟨g7,0,none⟩) (m+1) c7):=by
  rw [fo _ _ (by rw [hT.len];omega),show r.length*6+5 - mF.length=5 by rw [hT.len];omega];rfl
 rw [aea] at hlast
 refine ⟨?_,y2.frozenAt _,?_⟩
 ·rw [y2.cellAt (r.length*6+5) (by omega),aK (by rw [hT.len];omega),show r.length*6+5 - mF.length=5 by rw [hT.len];omega];rfl
 ·subst hm
  refine Uv hM hT (iH y1 (fun k hk=>ak _ _ _ _ (fun e=>hgg ((aY hk).trans e).symm))) hlast ?_ hat (y4.os.trans hos) (y4.tape.trans htp) (y4.output.trans hou) (by rw [(pY.set _ _ _).size,y4.size];exact hsz) hp;intro k h1 h2 h3;refine (ak _ _ _ _ h3).trans ((y3 k h3 ?_).trans (Gs k h1 h2));rintro rfl
  rcases hat with h|h
  ·exact h2 h
  ·omega
theorem Jc {w:World} {g g' m:Nat} (a b e f k:Value) (h:g'≠g):(((((w.setCell ⟨g,m*5,none⟩ a).setCell ⟨g,m*5+1,none⟩ b).setCell ⟨g,m*5+2,none⟩ e).setCell ⟨g,m*5+3,none⟩ f).setCell ⟨g,m*5+4,none⟩ k).heap[g']?=w.heap[g']?:=by
 have st:∀ (u:World) (i:Nat) (v:Value),(u.setCell ⟨g,i,none⟩ v).heap[g']?=u.heap[g']?:=fun u i v=>ak u _ v g' h
 rw [st,st,st,st,st]
theorem QC {o:Oper} {a:Act} (g m c:Nat) (W:World) (ho:o.op=.indexAddr 47 (.tmp 68) (.tmp 66)) (h1:a.eval (.tmp 68)=.slice (some ⟨g,0,none⟩) (m+1) c) (h2:a.eval (.tmp 66)=.int .i64 m):(execOp a.eval o).run Tryz.prog W=.ok (.value (.pointer (some ⟨g,m*5,none⟩))) W:=by
 have hm:(0:Int)≤(m:Int):=by omega
 have hm2:(m:Int)<((m+1:Nat):Int):=by omega
 have hm3:m<m+1:=by omega
 have hr:(Instr.indexAt 47 (.slice (some ⟨g,0,none⟩) (m+1) c) (.int .i64 m)).run Tryz.prog W=.ok (.pointer (some ⟨g,m*5,none⟩)) W:=by
  simp [go_sem]
  intro h
  omega
 unfold execOp
 rw [ho];simp only [h1,h2,iV,hr,eP,iW]
theorem EP {b:Nat} {y0 y1:ByteArray} {f e:Int} {a:Option Addr} {m c:Nat} {t:TypeId} {W:World} (h:W.heap[b]?=some (.cells #[.string y0,.string y1,.int .i64 f,.int .i64 e,.slice a m c] t (0,0))) :
  (Instr.loadAt 49 (.pointer (some ⟨b,0,none⟩))).run Tryz.prog W=.ok (.agg #[.string y0,.string y1,.int .i64 f,.int .i64 e,.slice a m c]) W:=by
 have c0:W.cell? ⟨b,0,none⟩=some (.string y0):=by simp [World.cell?,h]
 have c1:W.cell? ⟨b,1,none⟩=some (.string y1):=by simp [World.cell?,h]
 have c2:W.cell? ⟨b,2,none⟩=some (.int .i64 f):=by simp [World.cell?,h]
 have c3:W.cell? ⟨b,3,none⟩=some (.int .i64 e):=by simp [World.cell?,h]
 have c4:W.cell? ⟨b,4,none⟩=some (.slice a m c):=by simp [World.cell?,h]
 simp [go_sem,c0,c1,c2,c3,c4]
theorem QD (o:Open) (en:Int) (p:Pt) (h:o.close en=some p):(o.k=Ki∧∃ rest,o.kids=p :: rest)∨((o.k=eT∨o.k=fJ)∧p=.mk o.k o.t (yE o.kids) (vz o.kids) o.kids)∨(o.k≠Ki∧¬ (o.k=eT∨o.k=fJ)∧p=.mk o.k o.t o.f en o.kids):=by
 unfold Open.close at h
 by_cases h1:o.k=Ki
 ·rw [ay h1] at h
  cases hk:o.kids with
  | nil=>rw [hk] at h;cases h
  | cons x r=>rw [hk] at h;cases h;exact .inl ⟨h1,r,rfl⟩
 ·rw [ai h1] at h
  by_cases h2:o.k=eT∨o.k=fJ
  ·rw [ay h2] at h;cases h;exact .inr (.inl ⟨h2,rfl⟩)
  ·rw [ai h2] at h;cases h;exact .inr (.inr ⟨h1,h2,rfl⟩)
theorem QE {W:World} (hM:Mem d L size lv s O W) (hs:Small L s) (o a:Open) (r:List Open) (ho:s.opn=o :: a :: r) (hi:0<s.i) (p:Pt) (hp:o.close (tok L size (s.i - 1)).e=some p) :
  Calls Tryz.prog 123 #[ptr d] W (Does d L size lv s.i O W (.go ⟨s.i,s.todo,a.add p o.f :: r⟩)):=by
 obtain ⟨tv,ov,bs,us,xs,hX⟩:=id hM;obtain ⟨g,c,kv,ks,mF,qp,hT⟩:=nG hX ho;obtain ⟨R,hR⟩:∃ R,r.length+1=R:=⟨_,rfl⟩
 have hRl:R≤1000000:=by have:=hs.opn;rw [ho,aH,aH] at this;omega
 obtain ⟨ka,kc,rfl⟩:=fD hT.own;obtain ⟨O2,hXp,hSp,hKp,hPp,hFp,q3,f3⟩:=Uu hX ho hT;rw [hR] at hXp hSp hKp hPp hFp;obtain ⟨V,hV⟩:∃ V,W.setCell ⟨d,3,none⟩ (.slice (some ⟨g,0,none⟩) R c)=V:=⟨_,rfl⟩;rw [hV] at hXp hSp hKp hPp hFp
 have NK:V.heap.size=W.heap.size:=by rw [← hV];simp
 obtain ⟨K,hK⟩:∃ K,o.kids.length=K:=⟨_,rfl⟩
 have hKl:K≤1000000:=by rw [← hK];exact hs.kids o (by rw [ho];exact bO)
 have cT:=nu hX hT (by rw [aH];omega) (aj _ _);have k0:=hT.cell 0 _ rfl;have k1:=hT.cell 1 _ rfl;have k2:=hT.cell 2 _ rfl;have k3:=hT.cell 3 _ rfl;have k4:=hT.cell 4 _ rfl;rw [show (a :: r).length=R from hR] at cT k0 k1 k2 k3 k4;rw [bS] at k0;rw [hK] at k4;obtain ⟨N,hN⟩:∃ N,R+1=N:=⟨_,rfl⟩;have hov:=hT.hov;rw [show (a :: r).length+1=N by rw [aH,hR,hN]] at hov;rw [hov] at q3
 have hcap:R≤c:=by
  have h1:=hX.qx;rw [ho,hov] at h1
  rcases h1.2 with ⟨h2,_⟩|⟨g',cap,cur,h2,_,_,h4,_⟩
  ·cases h2
  ·cases h2;simp only [aH] at h4;omega
 have hdl:=hM.dlt;have hblk:=hX.blk;have MN:Hid (∀ X,Below W.heap.size W X→Below W.heap.size V (X.setCell ⟨d,3,none⟩ (.slice (some ⟨g,0,none⟩) R c))):=hid (fun X hX=>by rw [← hV];exact CK _ hX hdl hblk);have Uw:=hid hXp;have HKV:=hid hKp;have Er:=hid hPp;have HFV:=hid hFp;have yO:=hid hSp;have TP:=hid NK;have HKK:=hid hK;have HRR:=hid hR;have HGD:=hid hT.ne;have HGL:=hid hT.lt;have ail:=hid (fun k hk=>dF hT.own (k:=k) hk);have HDW:=hid (show Below W.heap.size W W from aj _ _);clear hX hT hXp hKp hPp hFp hSp NK hV hblk hov hM
 go_enter Tryz.func123,Tryz.ntmps123
 go_wp2_with fail
 refine cT.mono ?_;rintro e v0 ⟨rfl,m0,rfl⟩;dsimp only;have HB1:=hid (jX W m0);replace k0:(W.drewN m0).cell? ⟨g,R*6,none⟩=_:=k0;replace k1:(W.drewN m0).cell? ⟨g,R*6+1,none⟩=_:=k1;replace k2:(W.drewN m0).cell? ⟨g,R*6+2,none⟩=_:=k2;replace k3:(W.drewN m0).cell? ⟨g,R*6+3,none⟩=_:=k3;replace k4:(W.drewN m0).cell? ⟨g,R*6+4,none⟩=_:=k4;generalize W.drewN m0=W1 at HB1 k0 k1 k2 k3 k4 ⊢;obtain ⟨ky,hky⟩:∃ y,aU o.k=y:=⟨_,rfl⟩;obtain ⟨ty,hty⟩:∃ y,aU o.t=y:=⟨_,rfl⟩;obtain ⟨of,hof⟩:∃ y,o.f=y:=⟨_,rfl⟩;rw [hky] at k0;rw [hty] at k1;rw [hof] at k2;clear cT
 go_upto_region 1 with fail
 clear k0 k1 k2 k3 k4;obtain ⟨bp,hbp⟩:∃ bp,W1.heap.size=bp:=⟨_,rfl⟩;rw [hbp];obtain ⟨W2,hW2⟩:∃ W2,W1.alloc (.cells #[.string ky,.string ty,.int .i64 of,.int .i64 0,.slice ka K kc] 49)=W2:=⟨_,rfl⟩
 have Bu:Below W1.heap.size W1 W2:=by rw [← hW2];exact (aj _ _).alloc (ae _) _
 have hp2:W2.heap[bp]?=some (.cells #[.string ky,.string ty,.int .i64 of,.int .i64 0,.slice ka K kc] 49 (0,0)):=by rw [← hW2,← hbp];exact fO _ _
 rw [hW2];have hB2:=HB1.out.trans (Bu.mono HB1.out.size)
 have aaD:W.heap.size≤bp:=by rw [← hbp];exact HB1.out.size
 have aaE:bp≠d:=by omega
 replace q3:=(hB2.cell (p:=⟨d,3,none⟩) hdl).trans q3
 replace f3:W2.frozen? ⟨d,3,none⟩=false:=by have h:=hB2.block d hdl;simp only [World.frozen?] at f3 ⊢;rw [h];exact f3
 have hR0:(0:Int)≤(R:Int):=by omega
 have hRc:(R:Int)≤(c:Int):=by omega
 have hRN:R≤N:=by omega
 have hi1:IntKind.i64.wrap ((N:Int) - 1)=(R:Int):=(bg _ (by omega)).trans (by omega);have XO:=hid (MN.out W2 hB2);have Es:=hid hp2;have Ux:=hid aaD;have Hdb:=hid aaE;clear hW2 Bu hp2 hN hB2 aaD aaE HB1 hbp MN
 go_region
 obtain ⟨Wp,hWp⟩:∃ Wp,W2.setCell ⟨d,3,none⟩ (.slice (some ⟨g,0,none⟩) R c)=Wp:=⟨_,rfl⟩;rw [hWp] at XO ⊢
 have NL:Wp.drew.heap[bp]?=some (.cells #[.string ky,.string ty,.int .i64 of,.int .i64 0,.slice ka K kc] 49 (0,0)):=by
  show Wp.heap[bp]?=_
  rw [← hWp,ak _ _ _ _ Hdb.out];exact Es.out
 have Uy:=hid (show Below W.heap.size V Wp.drew from XO.out.drew);clear XO Es q3 f3;generalize Wp.drew=W3 at Uy NL ⊢;clear hWp
 have ER:Below V.heap.size V W3:=by rw [TP.out];exact Uy.out
 have hX3:=Uw.out.below ER
 have p2:W3.cell? ⟨bp,2,none⟩=some (.int .i64 of):=by simp [World.cell?,NL]
 obtain ⟨J,hJ⟩:∃ J,s.i=J+1:=⟨s.i - 1,by omega⟩;obtain ⟨gw,wo,wc,nw,hnw,hgw,w0,w1,w3⟩:=hX3.XN (j:=J) (by have:=hs.i;omega);dsimp only at w1;have hin:=hs.i;have hin2:=hs.len;obtain ⟨I,hI⟩:∃ I,s.i=I:=⟨_,rfl⟩;rw [hI] at w1 hJ hin hp
 have hIJ:I - 1=J:=by omega
 rw [hIJ] at hp;obtain ⟨en,hen⟩:∃ en,(tok L size J).e=en:=⟨_,rfl⟩;rw [hen] at w3 hp
 have hJ0:(0:Int)≤(J:Int):=by omega
 have hJn:(J:Int)<(nw:Int):=by omega
 have aee:J<nw:=by omega
 have hi2:IntKind.i64.wrap ((I:Int) - 1)=(J:Int):=(bg _ (by omega)).trans (by omega)
 have q3:W3.cell? ⟨bp,3,none⟩=some (.int .i64 0):=by simp [World.cell?,NL]
 have f3:W3.frozen? ⟨bp,3,none⟩=false:=by simp [World.frozen?,NL]
 have HP:=hid hp;have Hkk:=hid hky;have Htt:=hid hty;have Hff:=hid hof;have HII:=hid hI;have Hb3:=hid NL;clear hIJ hnw hi1 hR0 hRc hRN hcap hX3 ER hI hJ hin hen hp hky hty hof NL hR hK
 go_upto_region 3 with fail
 go_region
 obtain ⟨W4,NM⟩:∃ W4,(W3.setCell ⟨bp,3,none⟩ (.int .i64 en)).drew=W4:=⟨_,rfl⟩
 have hb4:W4.heap[bp]?=some (.cells #[.string ky,.string ty,.int .i64 of,.int .i64 en,.slice ka K kc] 49 (0,0)):=by rw [← NM];exact az Hb3.out _
 have Uz:=hid (show Below W.heap.size V W4 by rw [← NM];exact (Uy.out.setCell (p:=⟨bp,3,none⟩) Ux.out _).drew);rw [NM];clear NM Hb3 Uy p2 w0 w1 w3 q3 f3 hJ0 hJn aee hi2 hgw
 have p0:W4.cell? ⟨bp,0,none⟩=some (.string ky):=by simp [World.cell?,hb4]
 have p4:W4.cell? ⟨bp,4,none⟩=some (.slice ka K kc):=by simp [World.cell?,hb4]
 have p1:W4.cell? ⟨bp,1,none⟩=some (.string ty):=by simp [World.cell?,hb4]
 have p2:W4.cell? ⟨bp,2,none⟩=some (.int .i64 of):=by simp [World.cell?,hb4]
 have p3:W4.cell? ⟨bp,3,none⟩=some (.int .i64 en):=by simp [World.cell?,hb4]
 have z0:W4.frozen? ⟨bp,0,none⟩=false:=by simp [World.frozen?,hb4]
 have z1:W4.frozen? ⟨bp,1,none⟩=false:=by simp [World.frozen?,hb4]
 have z2:W4.frozen? ⟨bp,2,none⟩=false:=by simp [World.frozen?,hb4]
 have z3:W4.frozen? ⟨bp,3,none⟩=false:=by simp [World.frozen?,hb4]
 have z4:W4.frozen? ⟨bp,4,none⟩=false:=by simp [World.frozen?,hb4]
 have ER:Below V.heap.size V W4:=by rw [TP.out];exact Uz.out
 have hP:=HP.out
 unfold Open.close at hP
 have hkt:ky.toList=o.k:=by rw [← Hkk.out];unfold aU;rw [bu]
 rcases QD o en p HP.out with ⟨hw,rest,QF⟩|⟨hw,hpe⟩|⟨hw1,hw2,hpe⟩
 case' inl =>
  have h1:(ky.toList==[40])=true:=by rw [hkt,hw];rfl
  have hPo:=Er.out;have hKo:=aV HKV.out ER;rw [QF] at hPo;obtain ⟨qB,agC,hks,hki,_⟩:=hPo;rw [HKK.out] at hKo
  have hK0:0<K:=by rw [← HKK.out,QF];simp
  obtain ⟨gk,kcc,NF,_,_⟩:=hKo.form hK0
  cases NF
  obtain ⟨pa,pn,pc,rfl⟩:=eF hki;obtain ⟨q0,q1,q2,q3,oJ⟩:=zS p (.slice pa pn pc)
  have e:∀ j,j<5→W4.cell? ⟨gk,j,none⟩=([.string q0,.string q1,.int .i64 q2,.int .i64 q3,.slice pa pn pc]:List Value)[j]?:=fun j hj=>by rw [hKo.cellAt j (by omega),hks,bn (by rw [eO];exact hj),oJ]
  have e0:W4.cell? ⟨gk,0,none⟩=some (.string q0):=e 0 (by omega);have e1:W4.cell? ⟨gk,1,none⟩=some (.string q1):=e 1 (by omega);have e2:W4.cell? ⟨gk,2,none⟩=some (.int .i64 q2):=e 2 (by omega);have e3:W4.cell? ⟨gk,3,none⟩=some (.int .i64 q3):=e 3 (by omega);have e4:W4.cell? ⟨gk,4,none⟩=some (.slice pa pn pc):=e 4 (by omega);have hb5:=cr (y0:=q0) (y1:=q1) (f:=q2) (e:=q3) (v:=.slice pa pn pc) hb4
  have CO:Below W.heap.size V (((((W4.setCell ⟨bp,0,none⟩ (.string q0)).setCell ⟨bp,1,none⟩ (.string q1)).setCell ⟨bp,2,none⟩ (.int .i64 q2)).setCell ⟨bp,3,none⟩ (.int .i64 q3)).setCell ⟨bp,4,none⟩ (.slice pa pn pc)) :=
   ((((Uz.out.setCell (p:=⟨bp,0,none⟩) Ux.out _).setCell (p:=⟨bp,1,none⟩) Ux.out _).setCell (p:=⟨bp,2,none⟩) Ux.out _).setCell (p:=⟨bp,3,none⟩) Ux.out _).setCell (p:=⟨bp,4,none⟩) Ux.out _
  have HKI:=hid hki;have H5:=hid oJ;have sN:=hid hb5;have CP:=hid CO;clear hKo hks QF hki e hw hkt oJ hb5 CO hP
  go_wp2_with fail
  clear hb4 ER hK0;clear e0 e1 e2 e3 e4 p0 p1 p2 p3 p4 z0 z1 z2 z3 z4 h1;generalize (((((W4.setCell ⟨bp,0,none⟩ (.string q0)).setCell ⟨bp,1,none⟩ (.string q1)).setCell ⟨bp,2,none⟩ (.int .i64 q2)).setCell ⟨bp,3,none⟩ (.int .i64 q3)).setCell ⟨bp,4,none⟩ (.slice pa pn pc))=W5 at sN CP ⊢
 case' inr.inl =>
  have h1:(ky.toList==[40])=false:=by rw [hkt];rcases hw with hw|hw <;> rw [hw] <;> rfl
  have hKo:=aV HKV.out ER;have hPo:=lS (W:=V) (W':=W4) (bN.of_below ER) Er.out;rw [HKK.out] at hKo;have cS:=sZ (W:=W4) o.kids (.slice ka K kc) ks (by rw [HKK.out];exact hKo) hPo (by rw [HKK.out];exact hKl);have hki:=mU (by rw [HKK.out];have h:=HKV.out;rw [HKK.out] at h;exact h) Er.out HFV.out o.k o.t (yE o.kids) (vz o.kids);rw [HKK.out] at hki;rw [← hpe] at hki
  have oJ:five p (.slice ka K kc)=[.string ky,.string ty,.int .i64 (yE o.kids),.int .i64 (vz o.kids),.slice ka K kc]:=by rw [hpe,← Hkk.out,← Htt.out];rfl
  obtain ⟨q2,hq2⟩:∃ q,yE o.kids=q:=⟨_,rfl⟩;obtain ⟨q3,hq3⟩:∃ q,vz o.kids=q:=⟨_,rfl⟩;rw [hq2,hq3] at cS oJ
  have key:∀ m1,(((W4.drewN m1).setCell ⟨bp,2,none⟩ (.int .i64 q2)).setCell ⟨bp,3,none⟩ (.int .i64 q3)).heap[bp]?=some (.cells #[.string ky,.string ty,.int .i64 q2,.int .i64 q3,.slice ka K kc] 49 (0,0))∧Below W.heap.size V (((W4.drewN m1).setCell ⟨bp,2,none⟩ (.int .i64 q2)).setCell ⟨bp,3,none⟩ (.int .i64 q3)):=fun m1=>by
   have hbm:(W4.drewN m1).heap[bp]?=some (.cells #[.string ky,.string ty,.int .i64 of,.int .i64 en,.slice ka K kc] 49 (0,0)):=hb4;have x1:=az (i:=2) hbm (.int .i64 q2)
   exact ⟨az (i:=3) x1 (.int .i64 q3),((show Below W.heap.size V (W4.drewN m1) from Uz.out.trans ⟨rfl,rfl,rfl,ae _,fun _ _=>rfl⟩).setCell (p:=⟨bp,2,none⟩) Ux.out _).setCell (p:=⟨bp,3,none⟩) Ux.out _⟩
  have UA:=hid key;have HKI:=hid hki;have H5:=hid oJ
  have hw':(ky.toList==[112,97,114,97,109,115])=true∨((ky.toList==[112,97,114,97,109,115])=false∧(ky.toList==[114,101,115,117,108,116])=true):=by rw [hkt];rcases hw with hw|hw <;> rw [hw] <;> simp [eT,fJ]
  clear hKo hki hkt oJ ER hpe key hw hPo hP
  have st:∀ m1,(W4.drewN m1).cell? ⟨bp,2,none⟩=some (.int .i64 of)∧(W4.drewN m1).cell? ⟨bp,3,none⟩=some (.int .i64 en)∧(W4.drewN m1).frozen? ⟨bp,2,none⟩=false∧(W4.drewN m1).frozen? ⟨bp,3,none⟩=false∧(W4.drewN m1).heap[bp]?=some (.cells #[.string ky,.string ty,.int .i64 of,.int .i64 en,.slice ka K kc] 49 (0,0)):=fun m1=>⟨p2,p3,z2,z3,hb4⟩
  have HSt:=hid st;clear st
  rcases hw' with h2|⟨h2,h3⟩
 case' inr.inl.inl =>
  go_wp2_with fail
  refine cS.mono ?_;rintro e vs ⟨rfl,m1,rfl⟩;dsimp only;obtain ⟨n2,n3,n4,n5,n6⟩:=HSt.out m1;obtain ⟨hb5,CO⟩:=UA.out m1;have sN:=hid hb5;have CP:=hid CO;clear hb4 hb5 CO p0 p1 p2 p3 p4 z0 z1 z2 z3 z4 UA HSt;generalize W4.drewN m1=W4' at n2 n3 n4 n5 n6 sN CP ⊢
  go_wp2_with fail
  clear n2 n3 n4 n5 n6 cS h1 h2;generalize ((W4'.setCell ⟨bp,2,none⟩ (.int .i64 q2)).setCell ⟨bp,3,none⟩ (.int .i64 q3))=W5 at sN CP ⊢;obtain ⟨q0,rfl⟩:∃ q,q=ky:=⟨_,rfl⟩;obtain ⟨q1,rfl⟩:∃ q,q=ty:=⟨_,rfl⟩;obtain ⟨pa,rfl⟩:∃ q,q=ka:=⟨_,rfl⟩;obtain ⟨pn,rfl⟩:∃ q,q=K:=⟨_,rfl⟩;obtain ⟨pc,rfl⟩:∃ q,q=kc:=⟨_,rfl⟩
 case' inr.inl.inr =>
  go_wp2_with fail
  refine cS.mono ?_;rintro e vs ⟨rfl,m1,rfl⟩;dsimp only;obtain ⟨n2,n3,n4,n5,n6⟩:=HSt.out m1;obtain ⟨hb5,CO⟩:=UA.out m1;have sN:=hid hb5;have CP:=hid CO;clear hb4 hb5 CO p0 p1 p2 p3 p4 z0 z1 z2 z3 z4 UA HSt;generalize W4.drewN m1=W4' at n2 n3 n4 n5 n6 sN CP ⊢
  go_wp2_with fail
  clear n2 n3 n4 n5 n6 cS h1 h2 h3;generalize ((W4'.setCell ⟨bp,2,none⟩ (.int .i64 q2)).setCell ⟨bp,3,none⟩ (.int .i64 q3))=W5 at sN CP ⊢;obtain ⟨q0,rfl⟩:∃ q,q=ky:=⟨_,rfl⟩;obtain ⟨q1,rfl⟩:∃ q,q=ty:=⟨_,rfl⟩;obtain ⟨pa,rfl⟩:∃ q,q=ka:=⟨_,rfl⟩;obtain ⟨pn,rfl⟩:∃ q,q=K:=⟨_,rfl⟩;obtain ⟨pc,rfl⟩:∃ q,q=kc:=⟨_,rfl⟩
 case' inr.inr =>
  have h1:(ky.toList==[40])=false:=by rw [hkt];exact dU.2 hw1
  have h2:(ky.toList==[112,97,114,97,109,115])=false:=by rw [hkt];exact dU.2 (fun e=>hw2 (.inl e))
  have h3:(ky.toList==[114,101,115,117,108,116])=false:=by rw [hkt];exact dU.2 (fun e=>hw2 (.inr e))
  have hki:=mU (by rw [HKK.out];have h:=HKV.out;rw [HKK.out] at h;exact h) Er.out HFV.out o.k o.t o.f en;rw [HKK.out] at hki;rw [← hpe] at hki
  have oJ:five p (.slice ka K kc)=[.string ky,.string ty,.int .i64 of,.int .i64 en,.slice ka K kc]:=by rw [hpe,← Hkk.out,← Htt.out,← Hff.out];rfl
  have hb5:=hb4;have CO:=Uz.out;have HKI:=hid hki;have H5:=hid oJ;have sN:=hid hb5;have CP:=hid CO;clear hki hkt oJ ER hpe hb5 CO hP hw1 hw2
  go_wp2_with fail
  clear hb4 p0 p1 p2 p3 p4 z0 z1 z2 z3 z4 h1 h2 h3;obtain ⟨q0,rfl⟩:∃ q,q=ky:=⟨_,rfl⟩;obtain ⟨q1,rfl⟩:∃ q,q=ty:=⟨_,rfl⟩;obtain ⟨pa,rfl⟩:∃ q,q=ka:=⟨_,rfl⟩;obtain ⟨pn,rfl⟩:∃ q,q=K:=⟨_,rfl⟩;obtain ⟨pc,rfl⟩:∃ q,q=kc:=⟨_,rfl⟩;obtain ⟨q3,rfl⟩:∃ q,q=en:=⟨_,rfl⟩;obtain ⟨W5,rfl⟩:∃ q,q=W4:=⟨_,rfl⟩;obtain ⟨q2,hq2⟩:∃ q,of=q:=⟨_,rfl⟩;rw [hq2] at H5 sN;clear hq2
 all_goals
  obtain ⟨g',c',kva,ZK,usa,bsa,KU⟩:=nG Uw.out (o:=a) (r:=r) rfl;have hgc:=KU.hov;simp only [cZ,bW,Addr.mk.injEq,and_true] at hgc;obtain ⟨rfl,_,rfl⟩:=hgc
  have hrl:r.length≤1000000:=by have:=HRR.out;omega
  have cA:=nu Uw.out KU hrl (by rw [TP.out];exact CP.out:Below V.heap.size V W5);refine cA.mono ?_;rintro e v6 ⟨rfl,m2,rfl⟩;dsimp only;clear cA;have qP:Hid ((W5.drewN m2).heap[bp]?=some (.cells #[.string q0,.string q1,.int .i64 q2,.int .i64 q3,.slice pa pn pc] 49 (0,0))):=hid sN.out;have XP:Hid (Below W.heap.size V (W5.drewN m2)):=hid (CP.out.trans ⟨rfl,rfl,rfl,ae _,fun _ _=>rfl⟩);clear sN CP;generalize W5.drewN m2=W6 at qP XP ⊢;obtain ⟨qa,qc,rfl⟩:=fD KU.own;obtain ⟨m,hm⟩:∃ m,a.kids.length=m:=⟨_,rfl⟩
  have hml:m≤1000000:=by rw [← hm];exact hs.kids a (by rw [ho];exact bf _ bO)
  rw [hm] at KU;obtain ⟨iP,hi0,hz0,hz1,hz2⟩:=fF EO;obtain ⟨Wd,hWd⟩:∃ Wd,W6.drew=Wd:=⟨_,rfl⟩
  have hBd:Below W.heap.size V Wd:=by rw [← hWd];exact XP.out.drew
  have hbd:Wd.heap[bp]?=some (.cells #[.string q0,.string q1,.int .i64 q2,.int .i64 q3,.slice pa pn pc] 49 (0,0)):=by rw [← hWd];exact qP.out
  have hbl:bp<Wd.heap.size:=(af.1 hbd).1
  have xc:Below V.heap.size V Wd:=by rw [TP.out];exact hBd
  have wI:Below Wd.heap.size Wd (Wd.alloc (.cells #[.string ⟨#[]⟩,.string ⟨#[]⟩,.int .i64 0,.int .i64 0,.slice none 0 0] 49)):=(aj _ _).alloc (ae _) _;have Wn:Hid ((Wd.alloc (.cells #[.string ⟨#[]⟩,.string ⟨#[]⟩,.int .i64 0,.int .i64 0,.slice none 0 0] 49)).heap[bp]?=some (.cells #[.string q0,.string q1,.int .i64 q2,.int .i64 q3,.slice pa pn pc] 49 (0,0))):=hid ((wI.block bp hbl).trans hbd);have HTl:Hid (pX d O2 a r (.slice (some ⟨g,0,none⟩) R c) qp mF V g c (.slice qa m qc) ZK usa bsa):=hid KU;have hc4:=KU.cell 4 _ rfl;have HC4:Hid (Wd.cell? ⟨g,r.length*6+4,none⟩=some (.slice qa m qc)):=hid ((xc.cell (p:=⟨g,r.length*6+4,none⟩) KU.lt).trans hc4);have aej:Hid ((Wd.alloc (.cells #[.string ⟨#[]⟩,.string ⟨#[]⟩,.int .i64 0,.int .i64 0,.slice none 0 0] 49)).cell? ⟨g,r.length*6+4,none⟩=some (.slice qa m qc)):=hid (((xc.trans (wI.mono xc.size)).cell (p:=⟨g,r.length*6+4,none⟩) KU.lt).trans hc4);have QG:(Wd.alloc (.cells #[.string ⟨#[]⟩,.string ⟨#[]⟩,.int .i64 0,.int .i64 0,.slice none 0 0] 49)).ownsRow 0 49 5 (.slice qa m qc) m ZK:=aV (by have h:=KU.own;rw [hm] at h;exact h) (xc.trans (wI.mono xc.size));have aaH:=hid QG
  have HE:Hid (∀ (g7 c7:Nat) (w7:World),w7.ownsRow 0 49 5 (.slice (some ⟨g7,0,none⟩) (m+1) c7) (m+1) (ZK++[.string ⟨#[]⟩,.string ⟨#[]⟩,.int .i64 0,.int .i64 0,.slice none 0 0])→(Wd.alloc (.cells #[.string ⟨#[]⟩,.string ⟨#[]⟩,.int .i64 0,.int .i64 0,.slice none 0 0] 49)).grownBy w7 (Value.slice qa m qc).ownBlock→((Value.slice qa m qc).ownBlock=some g7∨g7=(Wd.alloc (.cells #[.string ⟨#[]⟩,.string ⟨#[]⟩,.int .i64 0,.int .i64 0,.slice none 0 0] 49)).heap.size) →
    w7.heap[bp]?=some (.cells #[.string q0,.string q1,.int .i64 q2,.int .i64 q3,.slice pa pn pc] 49 (0,0))∧(w7.cell? ⟨g,r.length*6+4,none⟩=some (.slice qa m qc)∧w7.frozen? ⟨g,r.length*6+4,none⟩=false)∧(g7≠g∧g≠g7∧bp≠g7∧bp≠g) ∧
    ((∀ j u,([.string ⟨#[]⟩,.string ⟨#[]⟩,.int .i64 0,.int .i64 0,.slice none 0 0]:List Value)[j]?=some u→w7.cell? ⟨g7,m*5+j,none⟩=some u)∧∀ j,w7.frozen? ⟨g7,j,none⟩=false) ∧
    ∀ X,(X=(((((w7.setCell ⟨g7,m*5,none⟩ (.string q0)).setCell ⟨g7,m*5+1,none⟩ (.string q1)).setCell ⟨g7,m*5+2,none⟩ (.int .i64 q2)).setCell ⟨g7,m*5+3,none⟩ (.int .i64 q3)).setCell ⟨g7,m*5+4,none⟩ (.slice pa pn pc)).setCell ⟨g,r.length*6+4,none⟩ (.slice (some ⟨g7,0,none⟩) (m+1) c7)∨X=((((((w7.setCell ⟨g,r.length*6+4,none⟩ (.slice (some ⟨g7,0,none⟩) (m+1) c7)).setCell ⟨g7,m*5,none⟩ (.string q0)).setCell ⟨g7,m*5+1,none⟩ (.string q1)).setCell ⟨g7,m*5+2,none⟩ (.int .i64 q2)).setCell ⟨g7,m*5+3,none⟩ (.int .i64 q3)).setCell ⟨g7,m*5+4,none⟩ (.slice pa pn pc)))→X.cell? ⟨g,r.length*6+5,none⟩=some (.int .i64 a.kf)∧X.frozen? ⟨g,r.length*6+5,none⟩=false∧∃ O',Mem d L size lv { ({ s with opn:=a :: r }:St) with opn:=a.add p of :: r } O' (X.setCell ⟨g,r.length*6+5,none⟩ (.int .i64 of))∧bN O2 O' V (X.setCell ⟨g,r.length*6+5,none⟩ (.int .i64 of))):=hid (by
   intro g7 c7 w7 bY aP hat;have zI:=HTl.out;have hzV:V.heap.size≤(Wd.alloc (.cells #[.string ⟨#[]⟩,.string ⟨#[]⟩,.int .i64 0,.int .i64 0,.slice none 0 0] 49)).heap.size:=(xc.trans (wI.mono xc.size)).size
   have Gs:∀ k,k<V.heap.size→(Value.slice qa m qc).ownBlock≠some k→w7.heap[k]?=V.heap[k]?:=fun k h1 h2=>(aP.block k (aD h1 hzV) (fun e=>h2 e.symm)).trans ((xc.trans (wI.mono xc.size)).block k h1)
   have hkg:(Value.slice qa m qc).ownBlock≠some g:=fun e=>absurd ((dF zI.own e).one zI.ty) (by decide)
   have hgw:=Gs g zI.lt hkg
   have aiu:V.heap.size≤bp:=by rw [TP.out];exact Ux.out
   have hkb:∀ k,(Value.slice qa m qc).ownBlock=some k→k<V.heap.size:=fun k h=>(zI.own.lt k h).2
   have aek:w7.heap[bp]?=some (.cells #[.string q0,.string q1,.int .i64 q2,.int .i64 q3,.slice pa pn pc] 49 (0,0)):=(aP.block bp (aD hbl wI.size) (fun e=>by have:=hkb bp e.symm;omega)).trans Wn.out
   have aaJ:g7≠g:=fun e=>by
    obtain ⟨cs,fr,h2⟩:=zI.ty;have h1:Ty w7 g7 49:=dF bY (k:=g7) rfl;rw [e] at h1
    exact absurd (h1.one ⟨cs,fr,hgw.trans h2⟩) (by decide)
   have ael:bp≠g7:=fun e=>by
    rcases hat with h|h
    ·have:=hkb g7 h;omega
    ·have:=wI.size;rw [aX] at h;omega
   have hbg:bp≠g:=fun e=>by have:=zI.lt;omega
   have hlk:ZK.length=m*5:=QG.1
   refine ⟨aek,⟨?_,?_⟩,⟨aaJ,aaJ.symm,ael,hbg⟩,⟨fun j u hj=>?_,fun j=>bY.frozenAt j⟩,fun X hX=>?_⟩
   ·have h:=zI.cell 4 _ rfl
    simp only [World.cell?] at h ⊢;rw [hgw];exact h
   ·have h:=zI.frozen (r.length*6+4)
    simp only [World.frozen?] at h ⊢;rw [hgw];exact h
   ·have hj5:j<5:=(aN.1 hj).1
    rw [bY.cellAt (m*5+j) (by omega),aK (by omega),show m*5+j - ZK.length=j by omega]
    exact hj
   ·exact QB (W:=V) Uw.out rfl zI hm H5.out bY Gs (hat.imp id (fun h=>by rw [h];exact hzV)) ((aP.os).trans (xc.trans (wI.mono xc.size)).os) ((aP.tape).trans (xc.trans (wI.mono xc.size)).tape) ((aP.output).trans (xc.trans (wI.mono xc.size)).output) (aJ hzV aP.size) HKI.out hX)
  have aem:=hid hbd;clear KU hBd hbl xc wI hc4 QG hbd XP qP hm
  go_upto_region 11 with fail
  refine aS (S:=fun X:World=>X.heap[bp]?=some (.cells #[.string q0,.string q1,.int .i64 q2,.int .i64 q3,.slice pa pn pc] 49 (0,0))) (by kernel_rfl) (by rw [hWd];exact aem.out) fun ag=>?_
  rw [hWd] at ag ⊢;refine OP.m 0 rfl (.pointer (some ⟨g,r.length*6,none⟩)) ag ?_;simp only [OP.s];refine OP.m 1 rfl (.pointer (some ⟨g,r.length*6,none⟩)) ag ?_;simp only [OP.s];refine OP.m 2 rfl (.pointer (some ⟨g,r.length*6,none⟩)) ag ?_;simp only [OP.s];refine OP.m 3 rfl (.pointer (some ⟨g,r.length*6+4,none⟩)) ag ?_;simp only [OP.s];refine OP.y 5 rfl (.agg #[.string q0,.string q1,.int .i64 q2,.int .i64 q3,.slice pa pn pc]) (dA 49 (.tmp 2) rfl (by rfl) (fun X hX=>EP hX)) ag ?_;simp only [OP.s]
  refine OP.q 4 7 rfl rfl (fun K hK=>?_) fun K hK=>?_
  focus
   refine OP.w ?_;have q4:=HC4.out
   go_simp
   refine hK.out _ _ ag fun ag=>?_
   try simp only [OP.s]
   clear hK K;clear q4;refine OP.t 6 rfl (.int .i64 m) (fun X hX=>by kernel_rfl) ag ?_;simp only [OP.s]
   refine OP.r 7 rfl fun K hK=>?_
   go_simp
   refine hK.out _ _ Wn.out fun ag=>?_
   try simp only [OP.s]
   clear hK K
  rotate_left
  focus
   refine OP.w ?_
   go_simp
   refine hK.out _ _ Wn.out fun ag=>?_
   try simp only [OP.s]
   clear hK K
   refine OP.r 4 rfl fun K hK=>?_
   have q4:=aej.out
   go_simp
   refine hK.out _ _ Wn.out fun ag=>?_
   try simp only [OP.s]
   clear hK K;clear q4;refine OP.t 6 rfl (.int .i64 m) (fun X hX=>by kernel_rfl) ag ?_;simp only [OP.s]
  rotate_left
  all_goals
   refine OP.r 8 rfl fun K hK=>?_
   refine eD _ (.tmp 64) (.tmp 67) 47 rfl 0 49 iP (.agg #[.string ⟨#[]⟩,.string ⟨#[]⟩,.int .i64 0,.int .i64 0,.slice none 0 0]) 5 72 Tryz.underlying47 hi0 hz0 hz1 hz2 rfl (by decide) (.slice qa m qc) m ZK rfl aaH.out ⟨Wd.heap.size,0,none⟩ 1 1 [.string ⟨#[]⟩,.string ⟨#[]⟩,.int .i64 0,.int .i64 0,.slice none 0 0] rfl rfl (NJ Wd) CL (by decide) (by unfold maxLen;omega) (by omega) (aL _) _ rfl ?_;intro g7 c7 w7 bY aP hat aaL;obtain ⟨Eg,⟨h4,f4⟩,⟨n1,n2,n3,n4⟩,⟨hz,hzf⟩,hfin⟩:=HE.out g7 c7 w7 bY aP hat;have HFin:=hid hfin;have HZ:=hid hz;have PQ:=hid hzf;clear bY aP hat hfin hz hzf
   refine hK.out _ _ Eg fun ag=>?_
   try simp only [OP.s]
   clear hK K;refine OP.t 9 rfl (.pointer (some ⟨g7,m*5,none⟩)) (fun X hX=>QC g7 m c7 X rfl rfl rfl) ag ?_;simp only [OP.s];refine OP.m 11 rfl (.pointer (some ⟨g,r.length*6,none⟩)) ag ?_;simp only [OP.s];refine OP.m 12 rfl (.pointer (some ⟨g,r.length*6,none⟩)) ag ?_;simp only [OP.s];refine OP.m 13 rfl (.pointer (some ⟨g,r.length*6+4,none⟩)) ag ?_;simp only [OP.s]
   refine OP.q 10 14 rfl rfl (fun K hK=>?_) fun K hK=>?_
   ·refine OP.w ?_
    have z0:w7.cell? ⟨g7,m*5,none⟩=some (.string ⟨#[]⟩):=HZ.out 0 _ rfl;have z1:w7.cell? ⟨g7,m*5+1,none⟩=some (.string ⟨#[]⟩):=HZ.out 1 _ rfl;have z2:w7.cell? ⟨g7,m*5+2,none⟩=some (.int .i64 0):=HZ.out 2 _ rfl;have z3:w7.cell? ⟨g7,m*5+3,none⟩=some (.int .i64 0):=HZ.out 3 _ rfl;have z4:w7.cell? ⟨g7,m*5+4,none⟩=some (.slice none 0 0):=HZ.out 4 _ rfl;have y0:=PQ.out (m*5);have y1:=PQ.out (m*5+1);have y2:=PQ.out (m*5+2);have y3:=PQ.out (m*5+3);have y4:=PQ.out (m*5+4)
    go_simp
    refine hK.out _ _ (by simp only [Jc _ _ _ _ _ n3];exact Eg) fun ag=>?_
    try simp only [OP.s]
    clear hK K;clear z0 z1 z2 z3 z4 y0 y1 y2 y3 y4;obtain ⟨Y,hY⟩:∃ Y,(((((w7.setCell ⟨g7,m*5,none⟩ (.string q0)).setCell ⟨g7,m*5+1,none⟩ (.string q1)).setCell ⟨g7,m*5+2,none⟩ (.int .i64 q2)).setCell ⟨g7,m*5+3,none⟩ (.int .i64 q3)).setCell ⟨g7,m*5+4,none⟩ (.slice pa pn pc))=Y:=⟨_,rfl⟩
    have h4Y:Y.cell? ⟨g,r.length*6+4,none⟩=some (.slice qa m qc):=by rw [← hY];simp only [World.cell?,Jc _ _ _ _ _ n2];exact h4
    have f4Y:Y.frozen? ⟨g,r.length*6+4,none⟩=false:=by rw [← hY];simp only [World.frozen?,Jc _ _ _ _ _ n2];exact f4
    have hbY:Y.heap[bp]?=some (.cells #[.string q0,.string q1,.int .i64 q2,.int .i64 q3,.slice pa pn pc] 49 (0,0)):=by rw [← hY,Jc _ _ _ _ _ n3];exact Eg
    rw [hY]
    refine OP.r 14 rfl fun K hK=>?_
    go_simp
    refine hK.out _ _ (by rw [ak _ _ _ _ n4];exact hbY) fun ag=>?_
    try simp only [OP.s]
    clear hK K;refine bL (by kernel_rfl) ?_ _;obtain ⟨x5,xf,O9,Cz,CF⟩:=HFin.out _ (.inl (by rw [hY]));clear h4Y f4Y hbY h4 f4 hY Eg HZ PQ HFin;have kF:=hid Cz;have HS9:=hid CF;clear Cz CF;generalize Y.setCell ⟨g,r.length*6+4,none⟩ (.slice (some ⟨g7,0,none⟩) (m+1) c7)=Z at x5 xf kF HS9 ⊢
    go_wp2_with fail
    first|go_end0|refine aB (aI rfl _ _ _) rfl ?_
    exact ⟨rfl,O9,by rw [Hff.out];exact kF.out,yO.out.trans HS9.out⟩
   ·refine OP.w ?_
    go_simp
    refine hK.out _ _ (by rw [ak _ _ _ _ n4];exact Eg) fun ag=>?_
    try simp only [OP.s]
    clear hK K;obtain ⟨Z,hZ⟩:∃ Z,w7.setCell ⟨g,r.length*6+4,none⟩ (.slice (some ⟨g7,0,none⟩) (m+1) c7)=Z:=⟨_,rfl⟩
    have yA:Z.heap[g7]?=w7.heap[g7]?:=by rw [← hZ];exact ak _ _ _ _ n1
    have z0:Z.cell? ⟨g7,m*5,none⟩=some (.string ⟨#[]⟩):=by have h:=HZ.out 0 _ rfl;simp only [World.cell?] at h ⊢;rw [yA];exact h
    have z1:Z.cell? ⟨g7,m*5+1,none⟩=some (.string ⟨#[]⟩):=by have h:=HZ.out 1 _ rfl;simp only [World.cell?] at h ⊢;rw [yA];exact h
    have z2:Z.cell? ⟨g7,m*5+2,none⟩=some (.int .i64 0):=by have h:=HZ.out 2 _ rfl;simp only [World.cell?] at h ⊢;rw [yA];exact h
    have z3:Z.cell? ⟨g7,m*5+3,none⟩=some (.int .i64 0):=by have h:=HZ.out 3 _ rfl;simp only [World.cell?] at h ⊢;rw [yA];exact h
    have z4:Z.cell? ⟨g7,m*5+4,none⟩=some (.slice none 0 0):=by have h:=HZ.out 4 _ rfl;simp only [World.cell?] at h ⊢;rw [yA];exact h
    have y0:Z.frozen? ⟨g7,m*5,none⟩=false:=by have h:=PQ.out (m*5);simp only [World.frozen?] at h ⊢;rw [yA];exact h
    have y1:Z.frozen? ⟨g7,m*5+1,none⟩=false:=by have h:=PQ.out (m*5+1);simp only [World.frozen?] at h ⊢;rw [yA];exact h
    have y2:Z.frozen? ⟨g7,m*5+2,none⟩=false:=by have h:=PQ.out (m*5+2);simp only [World.frozen?] at h ⊢;rw [yA];exact h
    have y3:Z.frozen? ⟨g7,m*5+3,none⟩=false:=by have h:=PQ.out (m*5+3);simp only [World.frozen?] at h ⊢;rw [yA];exact h
    have y4:Z.frozen? ⟨g7,m*5+4,none⟩=false:=by have h:=PQ.out (m*5+4);simp only [World.frozen?] at h ⊢;rw [yA];exact h
    have hbZ:Z.heap[bp]?=some (.cells #[.string q0,.string q1,.int .i64 q2,.int .i64 q3,.slice pa pn pc] 49 (0,0)):=by rw [← hZ,ak _ _ _ _ n4];exact Eg
    rw [hZ];clear yA
    refine OP.r 10 rfl fun K hK=>?_
    go_simp
    refine hK.out _ _ (by rw [Jc _ _ _ _ _ n3];exact hbZ) fun ag=>?_
    try simp only [OP.s]
    clear hK K;refine bL (by kernel_rfl) ?_ _;obtain ⟨x5,xf,O9,Cz,CF⟩:=HFin.out _ (.inr (by rw [hZ]));clear z0 z1 z2 z3 z4 y0 y1 y2 y3 y4 h4 f4 hZ Eg hbZ HZ PQ HFin;have kF:=hid Cz;have HS9:=hid CF;clear Cz CF;generalize (((((Z.setCell ⟨g7,m*5,none⟩ (.string q0)).setCell ⟨g7,m*5+1,none⟩ (.string q1)).setCell ⟨g7,m*5+2,none⟩ (.int .i64 q2)).setCell ⟨g7,m*5+3,none⟩ (.int .i64 q3)).setCell ⟨g7,m*5+4,none⟩ (.slice pa pn pc))=Y at x5 xf kF HS9 ⊢
    go_wp2_with fail
    first|go_end0|refine aB (aI rfl _ _ _) rfl ?_
    exact ⟨rfl,O9,by rw [Hff.out];exact kF.out,yO.out.trans HS9.out⟩
end
end K
end Go.Proofs.YtojoahlpgmnbnaaGreatDoor
