/- What the claim needs of the texts KFin. -/
import Derived.Test.YtojoahlpgmnbnaaGreatDoorUFOp
import Derived.Test.YtojoahlpgmnbnaaGreatDoorUF4
namespace Go.Proofs.YtojoahlpgmnbnaaGreatDoor.K
open Go.RowKit
open Go.Lib hiding intOf
open U S T
section
variable {d:Nat} {L:List TokP} {size:Nat} {lv:Value} {s:St} {O:Nat→Prop}
theorem below_both {B d j:Nat} {W W':World} {cs:Array Value} {t:TypeId} (v:Value) (h:Below B W W') (hd:d<B) (hb:W.heap[d]?=some (.cells cs t (0,0))):Below B (W.setCell ⟨d,j,none⟩ v) (W'.setCell ⟨d,j,none⟩ v):=by
 refine ⟨h.os,h.tape,h.output,by simpa using h.size,fun k hk=>?_⟩
 by_cases hkd:k=d
 ·subst hkd
  rw [Go.Joins.block_setCell hb v,Go.Joins.block_setCell ((h.block k hk).trans hb) v]
 ·rw [Below.heap_setCell _ _ _ _ hkd,Below.heap_setCell _ _ _ _ hkd]
  exact h.block k hk
theorem infoP:(Tryz.prog.info? 49).map (fun i=>(i.zero,i.size,i.bytes))=some (some (.agg #[.string ⟨#[]⟩,.string ⟨#[]⟩,.int .i64 0,.int .i64 0,.slice none 0 0]),5,72):=by kernel_rfl
theorem news_five (W:World):∀ j u,([.string ⟨#[]⟩,.string ⟨#[]⟩,.int .i64 0,.int .i64 0,.slice none 0 0]:List Value)[j]?=some u→(W.alloc (.cells #[.string ⟨#[]⟩,.string ⟨#[]⟩,.int .i64 0,.int .i64 0,.slice none 0 0] 49)).cell? ((⟨W.heap.size,0,none⟩:Addr).add j)=some u :=
 World.news_of_block (cs:=#[.string ⟨#[]⟩,.string ⟨#[]⟩,.int .i64 0,.int .i64 0,.slice none 0 0]) (t:=49) (fr:=(0,0)) (heap_new _ _)
theorem five_one:∀ u∈([.string ⟨#[]⟩,.string ⟨#[]⟩,.int .i64 0,.int .i64 0,.slice none 0 0]:List Value),u.oneCell'=true:=by
 intro u hu
 simp only [List.mem_cons,List.not_mem_nil,or_false] at hu
 rcases hu with rfl|rfl|rfl|rfl|rfl <;> rfl
structure SameW (w' w:World):Prop where
 os:w'.os=w.os
 tape:w'.tape=w.tape
 output:w'.output=w.output
 size:w'.heap.size=w.heap.size
theorem SameW.set (w:World) (a:Addr) (v:Value):SameW (w.setCell a v) w:=⟨rfl,rfl,rfl,by simp⟩
theorem SameW.trans {a b c:World} (h:SameW a b) (k:SameW b c):SameW a c:=⟨h.os.trans k.os,h.tape.trans k.tape,h.output.trans k.output,h.size.trans k.size⟩
theorem stored5 {w:World} {g n c m:Nat} {xs ys:List Value} (h:w.ownsRow 0 49 5 (.slice (some ⟨g,0,none⟩) n c) n (xs++ys)) (hx:xs.length=m*5) (hy:ys.length=5) (a b e f k:Value) :
  (((((w.setCell ⟨g,m*5,none⟩ a).setCell ⟨g,m*5+1,none⟩ b).setCell ⟨g,m*5+2,none⟩ e).setCell ⟨g,m*5+3,none⟩ f).setCell ⟨g,m*5+4,none⟩ k).ownsRow 0 49 5 (.slice (some ⟨g,0,none⟩) n c) n (xs++[a,b,e,f,k]) ∧
  (∀ q,q≠g→(((((w.setCell ⟨g,m*5,none⟩ a).setCell ⟨g,m*5+1,none⟩ b).setCell ⟨g,m*5+2,none⟩ e).setCell ⟨g,m*5+3,none⟩ f).setCell ⟨g,m*5+4,none⟩ k).heap[q]?=w.heap[q]?)∧SameW (((((w.setCell ⟨g,m*5,none⟩ a).setCell ⟨g,m*5+1,none⟩ b).setCell ⟨g,m*5+2,none⟩ e).setCell ⟨g,m*5+3,none⟩ f).setCell ⟨g,m*5+4,none⟩ k) w:=by
 have h1:=(((((h.stored (m*5) a).1.stored (m*5+1) b).1.stored (m*5+2) e).1.stored (m*5+3) f).1.stored (m*5+4) k).1
 refine ⟨?_,fun q hq=>by
  have st:∀ (u:World) (i:Nat) (v:Value),(u.setCell ⟨g,i,none⟩ v).heap[q]?=u.heap[q]?:=fun u i v=>Below.heap_setCell u _ v q hq
  rw [st,st,st,st,st],(SameW.set _ _ _).trans ((SameW.set _ _ _).trans ((SameW.set _ _ _).trans ((SameW.set _ _ _).trans (SameW.set _ _ _))))⟩
 match ys,hy with
 | [y0,y1,y2,y3,y4],_ =>
  have e0:(xs++[y0,y1,y2,y3,y4]).set (m*5) a=xs++[a,y1,y2,y3,y4]:=by rw [List.set_append_right _ _ (by omega),show m*5 - xs.length=0 by omega];rfl
  have e1:(xs++[a,y1,y2,y3,y4]).set (m*5+1) b=xs++[a,b,y2,y3,y4]:=by rw [List.set_append_right _ _ (by omega),show m*5+1 - xs.length=1 by omega];rfl
  have e2:(xs++[a,b,y2,y3,y4]).set (m*5+2) e=xs++[a,b,e,y3,y4]:=by rw [List.set_append_right _ _ (by omega),show m*5+2 - xs.length=2 by omega];rfl
  have e3:(xs++[a,b,e,y3,y4]).set (m*5+3) f=xs++[a,b,e,f,y4]:=by rw [List.set_append_right _ _ (by omega),show m*5+3 - xs.length=3 by omega];rfl
  have e4:(xs++[a,b,e,f,y4]).set (m*5+4) k=xs++[a,b,e,f,k]:=by rw [List.set_append_right _ _ (by omega),show m*5+4 - xs.length=4 by omega];rfl
  rw [e0,e1,e2,e3,e4] at h1
  exact h1
theorem add_gen {W W':World} {tv ov kv plv:Value} {bs bs1:List (Option Nat)} {us xs us1 ks:List Value} {a:Open} {r:List Open} {g c g7 c7:Nat} {p:Pt} {kf:Int} (hM:MemX d L size lv s O tv ov bs us xs W) (hT:TopAt d O a r ov bs xs W g c kv ks us1 bs1)
  (hrow:W'.ownsRow 0 49 5 (.slice (some ⟨g7,0,none⟩) (a.kids.length+1) c7) (a.kids.length+1) (ks++five p plv))
  (hopn:W'.ownsRow 0 128 6 (.slice (some ⟨g,0,none⟩) (r.length+1) c) (r.length+1) (us1++six (a.add p kf) (.slice (some ⟨g7,0,none⟩) (a.kids.length+1) c7)))
  (hset:∀ k,k<W.heap.size→kv.ownBlock≠some k→k≠g→W'.heap[k]?=W.heap[k]?) (hat:kv.ownBlock=some g7∨W.heap.size≤g7)
  (hos:W'.os=W.os) (htp:W'.tape=W.tape) (hou:W'.output=W.output) (hsz:W.heap.size≤W'.heap.size) (hp:KidsIn W (Fr O W) p plv) :
  ∃ O',Mem d L size lv { s with opn:=a.add p kf :: r } O' W'∧Stay O O' W W':=by
 have hb:=hM.blk
 have hOg:O g:=(hM.own g).2 (.inr (.inr (.inl (by rw [hT.hov];rfl))))
 have hS:Stay O (fun k=>k=d∨tv.ownBlock=some k∨ov.ownBlock=some k∨some k∈some g7 :: bs1) W W':=by
  refine ⟨hos,htp,hou,hsz,?_,fun k hk hO=>hset k hk (fun e=>hO ((hM.own k).2 (.inr (.inr (.inr (by rw [hT.hbs,e];exact List.mem_cons_self)))))) (fun e=>hO (e ▸ hOg))⟩
  rintro k (rfl|h1|h1|h1)
  ·exact .inl ((hM.own _).2 (.inl rfl))
  ·exact .inl ((hM.own _).2 (.inr (.inl h1)))
  ·exact .inl ((hM.own _).2 (.inr (.inr (.inl h1))))
  ·rcases List.mem_cons.1 h1 with h1|h1
   ·obtain rfl:=Option.some.inj h1
    exact hat.elim (fun h=>.inl ((hM.own _).2 (.inr (.inr (.inr (by rw [hT.hbs,h];exact List.mem_cons_self)))))) .inr
   ·exact .inl ((hM.own k).2 (.inr (.inr (.inr (by rw [hT.hbs];exact List.mem_cons_of_mem _ h1)))))
 have keep:∀ {k:Nat} {t:TypeId},Ty W k t→t≠128→t≠49→W'.heap[k]?=W.heap[k]?:=fun {k t} h1 h2 h3=>by
  have hk:k<W.heap.size:=by obtain ⟨_,_,h⟩:=h1;exact (Array.getElem?_eq_some_iff.1 h).1
  exact hset k hk (fun e=>h3 (h1.one (owns_ty hT.own e))) (fun e=>by rw [e] at h1;exact h2 (h1.one hT.ty))
 refine ⟨_,⟨tv,ov,some g7 :: bs1,us,us1++six (a.add p kf) (.slice (some ⟨g7,0,none⟩) (a.kids.length+1) c7),(keep ⟨_,_,hb⟩ (by decide) (by decide)).trans hb,hM.words.stay hS,owns_at hM.todoR (fun k hk=>keep (owns_ty hM.todoR hk) (by decide) (by decide)),hM.todo.stay hS,by rw [hT.hov];exact hopn,?_,⟨fun k hk hb1=>?_,hT.apart.2⟩,fun k=>Iff.rfl⟩,hS⟩
 ·refine ⟨.slice (some ⟨g7,0,none⟩) (a.kids.length+1) c7,ks++five p plv,us1,bs1,rfl,rfl,?_,?_,OpensIn.stay hS hT.rest (fun k hk=>hset k (opens_lt hT.rest hk) (fun e=>hT.apart.1 k e hk) (fun e=>by have h1:=opens_ty hT.rest hk;rw [e] at h1;exact absurd (h1.one hT.ty) (by decide)))⟩
  ·show World.ownsRow _ 0 _ 5 _ (a.kids++[p]).length _
   rw [List.length_append]
   exact hrow
  ·exact PartsIn.snoc (parts_stay hS hT.parts) (KidsIn.later (R:=Fr O W) (R':=Fr _ W') (fun k hk _=>hS.at hk) (fun k hk=>hS.fr hk) p plv hp)
 ·have h1:g7=k:=Option.some.inj hk
  subst h1
  rcases hat with h|h
  ·exact hT.apart.1 _ h hb1
  ·have:=opens_lt hT.rest hb1;omega
theorem five_form (p:Pt) (plv:Value):∃ (q0 q1:ByteArray) (q2 q3:Int),five p plv=[.string q0,.string q1,.int .i64 q2,.int .i64 q3,plv]:=by
 obtain ⟨k,t,f,e,ks⟩:=p
 exact ⟨_,_,_,_,rfl⟩
theorem kids_form {W:World} {R:Nat→Prop} {p:Pt} {plv:Value} (h:KidsIn W R p plv):∃ a n c,plv=.slice a n c:=by
 obtain ⟨k,t,f,e,ks⟩:=p
 obtain ⟨a,c,h,_⟩:=h
 exact ⟨_,_,_,h⟩
theorem cells_five {b:Nat} {y0 y1:ByteArray} {f e:Int} {v:Value} {t:TypeId} {W:World} {x0 x1 x2 x3 x4:Value} (h:W.heap[b]?=some (.cells #[x0,x1,x2,x3,x4] t (0,0))) :
  (((((W.setCell ⟨b,0,none⟩ (.string y0)).setCell ⟨b,1,none⟩ (.string y1)).setCell ⟨b,2,none⟩ (.int .i64 f)).setCell ⟨b,3,none⟩ (.int .i64 e)).setCell ⟨b,4,none⟩ v).heap[b]?=some (.cells #[.string y0,.string y1,.int .i64 f,.int .i64 e,v] t (0,0)):=by
 have e0:=Go.Joins.block_setCell (i:=0) h (.string y0)
 have e1:=Go.Joins.block_setCell (i:=1) e0 (.string y1)
 have e2:=Go.Joins.block_setCell (i:=2) e1 (.int .i64 f)
 have e3:=Go.Joins.block_setCell (i:=3) e2 (.int .i64 e)
 have e4:=Go.Joins.block_setCell (i:=4) e3 v
 exact e4
theorem fin_rows {W w7 X:World} {tv ov kv plv:Value} {bs bs1:List (Option Nat)} {us xs us1 ks:List Value} {a:Open} {r:List Open} {g c g7 c7 m:Nat} {p:Pt} {kf:Int} {q0 q1:ByteArray} {q2 q3:Int} (hM:MemX d L size lv s O tv ov bs us xs W) (hso:s.opn=a :: r) (hT:TopAt d O a r ov bs xs W g c kv ks us1 bs1)
  (hm:a.kids.length=m) (h5:five p plv=[.string q0,.string q1,.int .i64 q2,.int .i64 q3,plv])
  (hown:w7.ownsRow 0 49 5 (.slice (some ⟨g7,0,none⟩) (m+1) c7) (m+1) (ks++[.string ⟨#[]⟩,.string ⟨#[]⟩,.int .i64 0,.int .i64 0,.slice none 0 0]))
  (hfar:∀ k,k<W.heap.size→kv.ownBlock≠some k→w7.heap[k]?=W.heap[k]?) (hat:kv.ownBlock=some g7∨W.heap.size≤g7) (hos:w7.os=W.os) (htp:w7.tape=W.tape) (hou:w7.output=W.output) (hsz:W.heap.size≤w7.heap.size) (hp:KidsIn W (Fr O W) p plv)
  (hX:X=(((((w7.setCell ⟨g7,m*5,none⟩ (.string q0)).setCell ⟨g7,m*5+1,none⟩ (.string q1)).setCell ⟨g7,m*5+2,none⟩ (.int .i64 q2)).setCell ⟨g7,m*5+3,none⟩ (.int .i64 q3)).setCell ⟨g7,m*5+4,none⟩ plv).setCell ⟨g,r.length*6+4,none⟩ (.slice (some ⟨g7,0,none⟩) (m+1) c7) ∨
   X=((((((w7.setCell ⟨g,r.length*6+4,none⟩ (.slice (some ⟨g7,0,none⟩) (m+1) c7)).setCell ⟨g7,m*5,none⟩ (.string q0)).setCell ⟨g7,m*5+1,none⟩ (.string q1)).setCell ⟨g7,m*5+2,none⟩ (.int .i64 q2)).setCell ⟨g7,m*5+3,none⟩ (.int .i64 q3)).setCell ⟨g7,m*5+4,none⟩ plv)) :
  X.cell? ⟨g,r.length*6+5,none⟩=some (.int .i64 a.kf)∧X.frozen? ⟨g,r.length*6+5,none⟩=false ∧
  ∃ O',Mem d L size lv { s with opn:=a.add p kf :: r } O' (X.setCell ⟨g,r.length*6+5,none⟩ (.int .i64 kf))∧Stay O O' W (X.setCell ⟨g,r.length*6+5,none⟩ (.int .i64 kf)):=by
 have hkg:kv.ownBlock≠some g:=fun e=>absurd ((owns_ty hT.own e).one hT.ty) (by decide)
 have hg7w:=hfar g hT.lt hkg
 have hty7:Ty w7 g7 49:=owns_ty hown (k:=g7) rfl
 have hgg:g≠g7:=fun e=>by
  obtain ⟨cs,fr,h2⟩:=hT.ty
  rw [← e] at hty7
  exact absurd (hty7.one ⟨cs,fr,hg7w.trans h2⟩) (by decide)
 have hlk:ks.length=m*5:=by have:=hT.own.1;rw [hm] at this;exact this
 have hR7:w7.ownsRow 0 128 6 (.slice (some ⟨g,0,none⟩) (r.length+1) c) (r.length+1) (us1++six a kv):=by
  have hR:=hM.opnR
  rw [hso,hT.hov,hT.hxs] at hR
  exact owns_at hR (fun k hk=>by
   obtain rfl:g=k:=by simpa [Value.ownBlock] using hk
   exact hg7w)
 have set4:(us1++six a kv).set (r.length*6+4) (.slice (some ⟨g7,0,none⟩) (m+1) c7)=us1++(six a kv).set 4 (.slice (some ⟨g7,0,none⟩) (m+1) c7):=by
  rw [List.set_append_right _ _ (by rw [hT.len];omega),show r.length*6+4 - us1.length=4 by rw [hT.len];omega]
 have key:X.ownsRow 0 49 5 (.slice (some ⟨g7,0,none⟩) (m+1) c7) (m+1) (ks++five p plv)∧X.ownsRow 0 128 6 (.slice (some ⟨g,0,none⟩) (r.length+1) c) (r.length+1) (us1++(six a kv).set 4 (.slice (some ⟨g7,0,none⟩) (m+1) c7)) ∧
   (∀ k,k≠g→k≠g7→X.heap[k]?=w7.heap[k]?)∧SameW X w7:=by
  rw [h5]
  rcases hX with hX|hX
  ·obtain ⟨s1,s2,s3⟩:=stored5 hown hlk rfl (.string q0) (.string q1) (.int .i64 q2) (.int .i64 q3) plv
   generalize (((((w7.setCell ⟨g7,m*5,none⟩ (.string q0)).setCell ⟨g7,m*5+1,none⟩ (.string q1)).setCell ⟨g7,m*5+2,none⟩ (.int .i64 q2)).setCell ⟨g7,m*5+3,none⟩ (.int .i64 q3)).setCell ⟨g7,m*5+4,none⟩ plv)=Y at hX s1 s2 s3
   rw [hX]
   clear hX
   have hR8:=owns_at hR7 (fun k hk=>s2 k (fun e=>hgg ((Option.some.inj hk).trans e)))
   have h9:=(hR8.stored (r.length*6+4) (.slice (some ⟨g7,0,none⟩) (m+1) c7)).1
   rw [set4] at h9
   exact ⟨owns_at s1 (fun k hk=>Below.heap_setCell _ _ _ _ (fun e=>hgg ((Option.some.inj hk).trans e).symm)),h9,fun k h1 h2=>(Below.heap_setCell _ _ _ _ h1).trans (s2 k h2),(SameW.set _ _ _).trans s3⟩
  ·have h8:=(hR7.stored (r.length*6+4) (.slice (some ⟨g7,0,none⟩) (m+1) c7)).1
   rw [set4] at h8
   have hown8:=owns_at (w':=w7.setCell ⟨g,r.length*6+4,none⟩ (.slice (some ⟨g7,0,none⟩) (m+1) c7)) hown (fun k hk=>Below.heap_setCell _ _ _ _ (fun e=>hgg ((Option.some.inj hk).trans e).symm))
   have hfr8:∀ k,k≠g→(w7.setCell ⟨g,r.length*6+4,none⟩ (.slice (some ⟨g7,0,none⟩) (m+1) c7)).heap[k]?=w7.heap[k]?:=fun k h1=>Below.heap_setCell _ _ _ _ h1
   have hsw:SameW (w7.setCell ⟨g,r.length*6+4,none⟩ (.slice (some ⟨g7,0,none⟩) (m+1) c7)) w7:=SameW.set _ _ _
   generalize w7.setCell ⟨g,r.length*6+4,none⟩ (.slice (some ⟨g7,0,none⟩) (m+1) c7)=Z at hX h8 hown8 hfr8 hsw
   obtain ⟨s1,s2,s3⟩:=stored5 hown8 hlk rfl (.string q0) (.string q1) (.int .i64 q2) (.int .i64 q3) plv
   generalize (((((Z.setCell ⟨g7,m*5,none⟩ (.string q0)).setCell ⟨g7,m*5+1,none⟩ (.string q1)).setCell ⟨g7,m*5+2,none⟩ (.int .i64 q2)).setCell ⟨g7,m*5+3,none⟩ (.int .i64 q3)).setCell ⟨g7,m*5+4,none⟩ plv)=Y at hX s1 s2 s3
   rw [hX]
   exact ⟨s1,owns_at h8 (fun k hk=>s2 k (fun e=>hgg ((Option.some.inj hk).trans e))),fun k h1 h2=>(s2 k h2).trans (hfr8 k h1),s3.trans hsw⟩
 clear hX
 obtain ⟨y1,y2,y3,y4⟩:=key
 have hlast:=(y2.stored (r.length*6+5) (.int .i64 kf)).1
 have set5:(us1++(six a kv).set 4 (.slice (some ⟨g7,0,none⟩) (m+1) c7)).set (r.length*6+5) (.int .i64 kf)=us1++six (a.add p kf) (.slice (some ⟨g7,0,none⟩) (m+1) c7):=by
  rw [List.set_append_right _ _ (by rw [hT.len];omega),show r.length*6+5 - us1.length=5 by rw [hT.len];omega];rfl
 rw [set5] at hlast
 refine ⟨?_,y2.frozenAt _,?_⟩
 ·rw [y2.cellAt (r.length*6+5) (by omega),List.getElem?_append_right (by rw [hT.len];omega),show r.length*6+5 - us1.length=5 by rw [hT.len];omega];rfl
 ·subst hm
  refine add_gen hM hT (owns_at y1 (fun k hk=>Below.heap_setCell _ _ _ _ (fun e=>hgg ((Option.some.inj hk).trans e).symm))) hlast ?_ hat (y4.os.trans hos) (y4.tape.trans htp) (y4.output.trans hou) (by rw [(SameW.set _ _ _).size,y4.size];exact hsz) hp
  intro k h1 h2 h3
  refine (Below.heap_setCell _ _ _ _ h3).trans ((y3 k h3 ?_).trans (hfar k h1 h2))
  rintro rfl
  rcases hat with h|h
  ·exact h2 h
  ·omega
theorem heap5 {w:World} {g g' m:Nat} (a b e f k:Value) (h:g'≠g):(((((w.setCell ⟨g,m*5,none⟩ a).setCell ⟨g,m*5+1,none⟩ b).setCell ⟨g,m*5+2,none⟩ e).setCell ⟨g,m*5+3,none⟩ f).setCell ⟨g,m*5+4,none⟩ k).heap[g']?=w.heap[g']?:=by
 have st:∀ (u:World) (i:Nat) (v:Value),(u.setCell ⟨g,i,none⟩ v).heap[g']?=u.heap[g']?:=fun u i v=>Below.heap_setCell u _ v g' h
 rw [st,st,st,st,st]
theorem idx_part {o:Oper} {a:Act} (g m c:Nat) (W:World) (ho:o.op=.indexAddr 47 (.tmp 68) (.tmp 66)) (h1:a.eval (.tmp 68)=.slice (some ⟨g,0,none⟩) (m+1) c) (h2:a.eval (.tmp 66)=.int .i64 m):(execOp a.eval o).run Tryz.prog W=.ok (.value (.pointer (some ⟨g,m*5,none⟩))) W:=by
 have hm:(0:Int)≤(m:Int):=by omega
 have hm2:(m:Int)<((m+1:Nat):Int):=by omega
 have hm3:m<m+1:=by omega
 have hr:(Instr.indexAt 47 (.slice (some ⟨g,0,none⟩) (m+1) c) (.int .i64 m)).run Tryz.prog W=.ok (.pointer (some ⟨g,m*5,none⟩)) W:=by
  simp [go_sem]
  intro h
  omega
 unfold execOp
 rw [ho]
 simp only [h1,h2,Sem.run_bind,hr,Result.andThen_ok,Sem.run_pure]
theorem load_five {b:Nat} {y0 y1:ByteArray} {f e:Int} {a:Option Addr} {m c:Nat} {t:TypeId} {W:World} (h:W.heap[b]?=some (.cells #[.string y0,.string y1,.int .i64 f,.int .i64 e,.slice a m c] t (0,0))) :
  (Instr.loadAt 49 (.pointer (some ⟨b,0,none⟩))).run Tryz.prog W=.ok (.agg #[.string y0,.string y1,.int .i64 f,.int .i64 e,.slice a m c]) W:=by
 have c0:W.cell? ⟨b,0,none⟩=some (.string y0):=by simp [World.cell?,h]
 have c1:W.cell? ⟨b,1,none⟩=some (.string y1):=by simp [World.cell?,h]
 have c2:W.cell? ⟨b,2,none⟩=some (.int .i64 f):=by simp [World.cell?,h]
 have c3:W.cell? ⟨b,3,none⟩=some (.int .i64 e):=by simp [World.cell?,h]
 have c4:W.cell? ⟨b,4,none⟩=some (.slice a m c):=by simp [World.cell?,h]
 simp [go_sem,c0,c1,c2,c3,c4]
theorem fin_ways (o:Open) (en:Int) (p:Pt) (h:o.close en=some p):(o.k=kBr∧∃ rest,o.kids=p :: rest)∨((o.k=kParams∨o.k=kResult)∧p=.mk o.k o.t (spanF o.kids) (spanE o.kids) o.kids)∨(o.k≠kBr∧¬ (o.k=kParams∨o.k=kResult)∧p=.mk o.k o.t o.f en o.kids):=by
 unfold Open.close at h
 by_cases h1:o.k=kBr
 ·rw [if_pos h1] at h
  cases hk:o.kids with
  | nil=>rw [hk] at h;cases h
  | cons x r=>rw [hk] at h;cases h;exact .inl ⟨h1,r,rfl⟩
 ·rw [if_neg h1] at h
  by_cases h2:o.k=kParams∨o.k=kResult
  ·rw [if_pos h2] at h;cases h;exact .inr (.inl ⟨h2,rfl⟩)
  ·rw [if_neg h2] at h;cases h;exact .inr (.inr ⟨h1,h2,rfl⟩)
set_option maxHeartbeats 16000000 in
set_option maxRecDepth 20000 in
theorem g_fin {W:World} (hM:Mem d L size lv s O W) (hs:Small L s) (o a:Open) (r:List Open) (ho:s.opn=o :: a :: r) (hi:0<s.i) (p:Pt) (hp:o.close (tok L size (s.i - 1)).e=some p) :
  Calls Tryz.prog 123 #[ptr d] W (Does d L size lv s.i O W (.go ⟨s.i,s.todo,a.add p o.f :: r⟩)):=by
 obtain ⟨tv,ov,bs,us,xs,hX⟩:=id hM
 obtain ⟨g,c,kv,ks,us1,bs1,hT⟩:=top_of hX ho
 obtain ⟨R,hR⟩:∃ R,r.length+1=R:=⟨_,rfl⟩
 have hRl:R≤1000000:=by have:=hs.opn;rw [ho,List.length_cons,List.length_cons] at this;omega
 obtain ⟨ka,kc,rfl⟩:=owns_len hT.own
 obtain ⟨O2,hXp,hSp,hKp,hPp,hFp,q3,f3⟩:=pop_mem hX ho hT
 rw [hR] at hXp hSp hKp hPp hFp
 obtain ⟨V,hV⟩:∃ V,W.setCell ⟨d,3,none⟩ (.slice (some ⟨g,0,none⟩) R c)=V:=⟨_,rfl⟩
 rw [hV] at hXp hSp hKp hPp hFp
 have hVs:V.heap.size=W.heap.size:=by rw [← hV];simp
 obtain ⟨K,hK⟩:∃ K,o.kids.length=K:=⟨_,rfl⟩
 have hKl:K≤1000000:=by rw [← hK];exact hs.kids o (by rw [ho];exact List.mem_cons_self)
 have cT:=top_any hX hT (by rw [List.length_cons];omega) (Below.refl _ _)
 have k0:=hT.cell 0 _ rfl
 have k1:=hT.cell 1 _ rfl
 have k2:=hT.cell 2 _ rfl
 have k3:=hT.cell 3 _ rfl
 have k4:=hT.cell 4 _ rfl
 rw [show (a :: r).length=R from hR] at cT k0 k1 k2 k3 k4
 rw [Nat.add_zero] at k0
 rw [hK] at k4
 obtain ⟨N,hN⟩:∃ N,R+1=N:=⟨_,rfl⟩
 have hov:=hT.hov
 rw [show (a :: r).length+1=N by rw [List.length_cons,hR,hN]] at hov
 rw [hov] at q3
 have hcap:R≤c:=by
  have h1:=hX.opnR
  rw [ho,hov] at h1
  rcases h1.2 with ⟨h2,_⟩|⟨g',cap,cur,h2,_,_,h4,_⟩
  ·cases h2
  ·cases h2;simp only [List.length_cons] at h4;omega
 have hdl:=hM.dlt
 have hblk:=hX.blk
 have HBoth:Hid (∀ X,Below W.heap.size W X→Below W.heap.size V (X.setCell ⟨d,3,none⟩ (.slice (some ⟨g,0,none⟩) R c))):=hid (fun X hX=>by rw [← hV];exact below_both _ hX hdl hblk)
 have HXV:=hid hXp
 have HKV:=hid hKp
 have HPV:=hid hPp
 have HFV:=hid hFp
 have HSV:=hid hSp
 have HVs:=hid hVs
 have HKK:=hid hK
 have HRR:=hid hR
 have HGD:=hid hT.ne
 have HGL:=hid hT.lt
 have HKty:=hid (fun k hk=>owns_ty hT.own (k:=k) hk)
 have HDW:=hid (show Below W.heap.size W W from Below.refl _ _)
 clear hX hT hXp hKp hPp hFp hSp hVs hV hblk hov hM
 go_enter Tryz.func123,Tryz.ntmps123
 go_wp2_with fail
 refine cT.mono ?_
 rintro e v0 ⟨rfl,m0,rfl⟩
 dsimp only
 have HB1:=hid (drewB' W m0)
 replace k0:(W.drewN m0).cell? ⟨g,R*6,none⟩=_:=k0
 replace k1:(W.drewN m0).cell? ⟨g,R*6+1,none⟩=_:=k1
 replace k2:(W.drewN m0).cell? ⟨g,R*6+2,none⟩=_:=k2
 replace k3:(W.drewN m0).cell? ⟨g,R*6+3,none⟩=_:=k3
 replace k4:(W.drewN m0).cell? ⟨g,R*6+4,none⟩=_:=k4
 generalize W.drewN m0=W1 at HB1 k0 k1 k2 k3 k4 ⊢
 obtain ⟨ky,hky⟩:∃ y,bstr o.k=y:=⟨_,rfl⟩
 obtain ⟨ty,hty⟩:∃ y,bstr o.t=y:=⟨_,rfl⟩
 obtain ⟨of,hof⟩:∃ y,o.f=y:=⟨_,rfl⟩
 rw [hky] at k0
 rw [hty] at k1
 rw [hof] at k2
 clear cT
 go_upto_region 1 with fail
 clear k0 k1 k2 k3 k4
 obtain ⟨bp,hbp⟩:∃ bp,W1.heap.size=bp:=⟨_,rfl⟩
 rw [hbp]
 obtain ⟨W2,hW2⟩:∃ W2,W1.alloc (.cells #[.string ky,.string ty,.int .i64 of,.int .i64 0,.slice ka K kc] 49)=W2:=⟨_,rfl⟩
 have hb12:Below W1.heap.size W1 W2:=by rw [← hW2];exact (Below.refl _ _).alloc (Nat.le_refl _) _
 have hp2:W2.heap[bp]?=some (.cells #[.string ky,.string ty,.int .i64 of,.int .i64 0,.slice ka K kc] 49 (0,0)):=by rw [← hW2,← hbp];exact heap_new _ _
 rw [hW2]
 have hB2:=HB1.out.trans (hb12.mono HB1.out.size)
 have hbpW:W.heap.size≤bp:=by rw [← hbp];exact HB1.out.size
 have hdbp:bp≠d:=by omega
 replace q3:=(hB2.cell (p:=⟨d,3,none⟩) hdl).trans q3
 replace f3:W2.frozen? ⟨d,3,none⟩=false:=by have h:=hB2.block d hdl;simp only [World.frozen?] at f3 ⊢;rw [h];exact f3
 have hR0:(0:Int)≤(R:Int):=by omega
 have hRc:(R:Int)≤(c:Int):=by omega
 have hRN:R≤N:=by omega
 have hi1:IntKind.i64.wrap ((N:Int) - 1)=(R:Int):=(IntWalk.i64_in _ (by omega)).trans (by omega)
 have HBV2:=hid (HBoth.out W2 hB2)
 have HP2:=hid hp2
 have HbW:=hid hbpW
 have Hdb:=hid hdbp
 clear hW2 hb12 hp2 hN hB2 hbpW hdbp HB1 hbp HBoth
 go_region
 obtain ⟨Wp,hWp⟩:∃ Wp,W2.setCell ⟨d,3,none⟩ (.slice (some ⟨g,0,none⟩) R c)=Wp:=⟨_,rfl⟩
 rw [hWp] at HBV2 ⊢
 have hbp3:Wp.drew.heap[bp]?=some (.cells #[.string ky,.string ty,.int .i64 of,.int .i64 0,.slice ka K kc] 49 (0,0)):=by
  show Wp.heap[bp]?=_
  rw [← hWp,Below.heap_setCell _ _ _ _ Hdb.out];exact HP2.out
 have HBV3:=hid (show Below W.heap.size V Wp.drew from HBV2.out.drew)
 clear HBV2 HP2 q3 f3
 generalize Wp.drew=W3 at HBV3 hbp3 ⊢
 clear hWp
 have hBV:Below V.heap.size V W3:=by rw [HVs.out];exact HBV3.out
 have hX3:=HXV.out.below hBV
 have p2:W3.cell? ⟨bp,2,none⟩=some (.int .i64 of):=by simp [World.cell?,hbp3]
 obtain ⟨J,hJ⟩:∃ J,s.i=J+1:=⟨s.i - 1,by omega⟩
 obtain ⟨gw,wo,wc,nw,hnw,hgw,w0,w1,w3⟩:=hX3.wordAt (j:=J) (by have:=hs.i;omega)
 dsimp only at w1
 have hin:=hs.i
 have hin2:=hs.len
 obtain ⟨I,hI⟩:∃ I,s.i=I:=⟨_,rfl⟩
 rw [hI] at w1 hJ hin hp
 have hIJ:I - 1=J:=by omega
 rw [hIJ] at hp
 obtain ⟨en,hen⟩:∃ en,(tok L size J).e=en:=⟨_,rfl⟩
 rw [hen] at w3 hp
 have hJ0:(0:Int)≤(J:Int):=by omega
 have hJn:(J:Int)<(nw:Int):=by omega
 have hJn':J<nw:=by omega
 have hi2:IntKind.i64.wrap ((I:Int) - 1)=(J:Int):=(IntWalk.i64_in _ (by omega)).trans (by omega)
 have q3:W3.cell? ⟨bp,3,none⟩=some (.int .i64 0):=by simp [World.cell?,hbp3]
 have f3:W3.frozen? ⟨bp,3,none⟩=false:=by simp [World.frozen?,hbp3]
 have HP:=hid hp
 have Hkk:=hid hky
 have Htt:=hid hty
 have Hff:=hid hof
 have HII:=hid hI
 have Hb3:=hid hbp3
 clear hIJ hnw hi1 hR0 hRc hRN hcap hX3 hBV hI hJ hin hen hp hky hty hof hbp3 hR hK
 go_upto_region 3 with fail
 go_region
 obtain ⟨W4,hW4⟩:∃ W4,(W3.setCell ⟨bp,3,none⟩ (.int .i64 en)).drew=W4:=⟨_,rfl⟩
 have hb4:W4.heap[bp]?=some (.cells #[.string ky,.string ty,.int .i64 of,.int .i64 en,.slice ka K kc] 49 (0,0)):=by rw [← hW4];exact Go.Joins.block_setCell Hb3.out _
 have HBV4:=hid (show Below W.heap.size V W4 by rw [← hW4];exact (HBV3.out.setCell (p:=⟨bp,3,none⟩) HbW.out _).drew)
 rw [hW4]
 clear hW4 Hb3 HBV3 p2 w0 w1 w3 q3 f3 hJ0 hJn hJn' hi2 hgw
 have p0:W4.cell? ⟨bp,0,none⟩=some (.string ky):=by simp [World.cell?,hb4]
 have p4:W4.cell? ⟨bp,4,none⟩=some (.slice ka K kc):=by simp [World.cell?,hb4]
 have p1:W4.cell? ⟨bp,1,none⟩=some (.string ty):=by simp [World.cell?,hb4]
 have p2:W4.cell? ⟨bp,2,none⟩=some (.int .i64 of):=by simp [World.cell?,hb4]
 have p3:W4.cell? ⟨bp,3,none⟩=some (.int .i64 en):=by simp [World.cell?,hb4]
 have z0:W4.frozen? ⟨bp,0,none⟩=false:=by simp [World.frozen?,hb4]
 have z1:W4.frozen? ⟨bp,1,none⟩=false:=by simp [World.frozen?,hb4]
 have z2:W4.frozen? ⟨bp,2,none⟩=false:=by simp [World.frozen?,hb4]
 have z3:W4.frozen? ⟨bp,3,none⟩=false:=by simp [World.frozen?,hb4]
 have z4:W4.frozen? ⟨bp,4,none⟩=false:=by simp [World.frozen?,hb4]
 have hBV:Below V.heap.size V W4:=by rw [HVs.out];exact HBV4.out
 have hP:=HP.out
 unfold Open.close at hP
 have hkt:ky.toList=o.k:=by rw [← Hkk.out];unfold bstr;rw [ByteArray.toList_eq]
 rcases fin_ways o en p HP.out with ⟨hw,rest,hkids⟩|⟨hw,hpe⟩|⟨hw1,hw2,hpe⟩
 case inl =>
  have h1:(ky.toList==[40])=true:=by rw [hkt,hw];rfl
  have hPo:=HPV.out
  have hKo:=owns_later HKV.out hBV
  rw [hkids] at hPo
  obtain ⟨plv,krest,hks,hki,_⟩:=hPo
  rw [HKK.out] at hKo
  have hK0:0<K:=by rw [← HKK.out,hkids];simp
  obtain ⟨gk,kcc,hkv,_,_⟩:=hKo.form hK0
  cases hkv
  obtain ⟨pa,pn,pc,rfl⟩:=kids_form hki
  obtain ⟨q0,q1,q2,q3,hfive⟩:=five_form p (.slice pa pn pc)
  have e:∀ j,j<5→W4.cell? ⟨gk,j,none⟩=([.string q0,.string q1,.int .i64 q2,.int .i64 q3,.slice pa pn pc]:List Value)[j]?:=fun j hj=>by rw [hKo.cellAt j (by omega),hks,List.getElem?_append_left (by rw [five_length];exact hj),hfive]
  have e0:W4.cell? ⟨gk,0,none⟩=some (.string q0):=e 0 (by omega)
  have e1:W4.cell? ⟨gk,1,none⟩=some (.string q1):=e 1 (by omega)
  have e2:W4.cell? ⟨gk,2,none⟩=some (.int .i64 q2):=e 2 (by omega)
  have e3:W4.cell? ⟨gk,3,none⟩=some (.int .i64 q3):=e 3 (by omega)
  have e4:W4.cell? ⟨gk,4,none⟩=some (.slice pa pn pc):=e 4 (by omega)
  have hb5:=cells_five (y0:=q0) (y1:=q1) (f:=q2) (e:=q3) (v:=.slice pa pn pc) hb4
  have hbv5:Below W.heap.size V (((((W4.setCell ⟨bp,0,none⟩ (.string q0)).setCell ⟨bp,1,none⟩ (.string q1)).setCell ⟨bp,2,none⟩ (.int .i64 q2)).setCell ⟨bp,3,none⟩ (.int .i64 q3)).setCell ⟨bp,4,none⟩ (.slice pa pn pc)) :=
   ((((HBV4.out.setCell (p:=⟨bp,0,none⟩) HbW.out _).setCell (p:=⟨bp,1,none⟩) HbW.out _).setCell (p:=⟨bp,2,none⟩) HbW.out _).setCell (p:=⟨bp,3,none⟩) HbW.out _).setCell (p:=⟨bp,4,none⟩) HbW.out _
  have HKI:=hid hki
  have H5:=hid hfive
  have HB5:=hid hb5
  have HBV5:=hid hbv5
  clear hKo hks hkids hki e hw hkt hfive hb5 hbv5 hP
  go_wp2_with fail
  clear hb4 hBV hK0
  clear e0 e1 e2 e3 e4 p0 p1 p2 p3 p4 z0 z1 z2 z3 z4 h1
  generalize (((((W4.setCell ⟨bp,0,none⟩ (.string q0)).setCell ⟨bp,1,none⟩ (.string q1)).setCell ⟨bp,2,none⟩ (.int .i64 q2)).setCell ⟨bp,3,none⟩ (.int .i64 q3)).setCell ⟨bp,4,none⟩ (.slice pa pn pc))=W5 at HB5 HBV5 ⊢
  obtain ⟨g',c',kva,ksa,usa,bsa,hTa⟩:=top_of HXV.out (o:=a) (r:=r) rfl
  have hgc:=hTa.hov
  simp only [Value.slice.injEq,Option.some.injEq,Addr.mk.injEq,and_true] at hgc
  obtain ⟨rfl,_,rfl⟩:=hgc
  have hrl:r.length≤1000000:=by have:=HRR.out;omega
  have cA:=top_any HXV.out hTa hrl (by rw [HVs.out];exact HBV5.out:Below V.heap.size V W5)
  refine cA.mono ?_
  rintro e v6 ⟨rfl,m2,rfl⟩
  dsimp only
  clear cA
  have HB6:Hid ((W5.drewN m2).heap[bp]?=some (.cells #[.string q0,.string q1,.int .i64 q2,.int .i64 q3,.slice pa pn pc] 49 (0,0))):=hid HB5.out
  have HBV6:Hid (Below W.heap.size V (W5.drewN m2)):=hid (HBV5.out.trans ⟨rfl,rfl,rfl,Nat.le_refl _,fun _ _=>rfl⟩)
  clear HB5 HBV5
  generalize W5.drewN m2=W6 at HB6 HBV6 ⊢
  obtain ⟨qa,qc,rfl⟩:=owns_len hTa.own
  obtain ⟨m,hm⟩:∃ m,a.kids.length=m:=⟨_,rfl⟩
  have hml:m≤1000000:=by rw [← hm];exact hs.kids a (by rw [ho];exact List.mem_cons_of_mem _ List.mem_cons_self)
  rw [hm] at hTa
  obtain ⟨iP,hi0,hz0,hz1,hz2⟩:=info_parts infoP
  obtain ⟨Wd,hWd⟩:∃ Wd,W6.drew=Wd:=⟨_,rfl⟩
  have hBd:Below W.heap.size V Wd:=by rw [← hWd];exact HBV6.out.drew
  have hbd:Wd.heap[bp]?=some (.cells #[.string q0,.string q1,.int .i64 q2,.int .i64 q3,.slice pa pn pc] 49 (0,0)):=by rw [← hWd];exact HB6.out
  have hbl:bp<Wd.heap.size:=(Array.getElem?_eq_some_iff.1 hbd).1
  have hBd':Below V.heap.size V Wd:=by rw [HVs.out];exact hBd
  have hba:Below Wd.heap.size Wd (Wd.alloc (.cells #[.string ⟨#[]⟩,.string ⟨#[]⟩,.int .i64 0,.int .i64 0,.slice none 0 0] 49)):=(Below.refl _ _).alloc (Nat.le_refl _) _
  have HSa:Hid ((Wd.alloc (.cells #[.string ⟨#[]⟩,.string ⟨#[]⟩,.int .i64 0,.int .i64 0,.slice none 0 0] 49)).heap[bp]?=some (.cells #[.string q0,.string q1,.int .i64 q2,.int .i64 q3,.slice pa pn pc] 49 (0,0))):=hid ((hba.block bp hbl).trans hbd)
  have HTl:Hid (TopAt d O2 a r (.slice (some ⟨g,0,none⟩) R c) bs1 us1 V g c (.slice qa m qc) ksa usa bsa):=hid hTa
  have hc4:=hTa.cell 4 _ rfl
  have HC4:Hid (Wd.cell? ⟨g,r.length*6+4,none⟩=some (.slice qa m qc)):=hid ((hBd'.cell (p:=⟨g,r.length*6+4,none⟩) hTa.lt).trans hc4)
  have HC4a:Hid ((Wd.alloc (.cells #[.string ⟨#[]⟩,.string ⟨#[]⟩,.int .i64 0,.int .i64 0,.slice none 0 0] 49)).cell? ⟨g,r.length*6+4,none⟩=some (.slice qa m qc)):=hid (((hBd'.trans (hba.mono hBd'.size)).cell (p:=⟨g,r.length*6+4,none⟩) hTa.lt).trans hc4)
  have hRowa:(Wd.alloc (.cells #[.string ⟨#[]⟩,.string ⟨#[]⟩,.int .i64 0,.int .i64 0,.slice none 0 0] 49)).ownsRow 0 49 5 (.slice qa m qc) m ksa:=owns_later (by have h:=hTa.own;rw [hm] at h;exact h) (hBd'.trans (hba.mono hBd'.size))
  have HRowa:=hid hRowa
  have HE:Hid (∀ (g7 c7:Nat) (w7:World),w7.ownsRow 0 49 5 (.slice (some ⟨g7,0,none⟩) (m+1) c7) (m+1) (ksa++[.string ⟨#[]⟩,.string ⟨#[]⟩,.int .i64 0,.int .i64 0,.slice none 0 0])→(Wd.alloc (.cells #[.string ⟨#[]⟩,.string ⟨#[]⟩,.int .i64 0,.int .i64 0,.slice none 0 0] 49)).grownBy w7 (Value.slice qa m qc).ownBlock→((Value.slice qa m qc).ownBlock=some g7∨g7=(Wd.alloc (.cells #[.string ⟨#[]⟩,.string ⟨#[]⟩,.int .i64 0,.int .i64 0,.slice none 0 0] 49)).heap.size) →
    w7.heap[bp]?=some (.cells #[.string q0,.string q1,.int .i64 q2,.int .i64 q3,.slice pa pn pc] 49 (0,0))∧(w7.cell? ⟨g,r.length*6+4,none⟩=some (.slice qa m qc)∧w7.frozen? ⟨g,r.length*6+4,none⟩=false)∧(g7≠g∧g≠g7∧bp≠g7∧bp≠g) ∧
    ((∀ j u,([.string ⟨#[]⟩,.string ⟨#[]⟩,.int .i64 0,.int .i64 0,.slice none 0 0]:List Value)[j]?=some u→w7.cell? ⟨g7,m*5+j,none⟩=some u)∧∀ j,w7.frozen? ⟨g7,j,none⟩=false) ∧
    ∀ X,(X=(((((w7.setCell ⟨g7,m*5,none⟩ (.string q0)).setCell ⟨g7,m*5+1,none⟩ (.string q1)).setCell ⟨g7,m*5+2,none⟩ (.int .i64 q2)).setCell ⟨g7,m*5+3,none⟩ (.int .i64 q3)).setCell ⟨g7,m*5+4,none⟩ (.slice pa pn pc)).setCell ⟨g,r.length*6+4,none⟩ (.slice (some ⟨g7,0,none⟩) (m+1) c7)∨X=((((((w7.setCell ⟨g,r.length*6+4,none⟩ (.slice (some ⟨g7,0,none⟩) (m+1) c7)).setCell ⟨g7,m*5,none⟩ (.string q0)).setCell ⟨g7,m*5+1,none⟩ (.string q1)).setCell ⟨g7,m*5+2,none⟩ (.int .i64 q2)).setCell ⟨g7,m*5+3,none⟩ (.int .i64 q3)).setCell ⟨g7,m*5+4,none⟩ (.slice pa pn pc)))→X.cell? ⟨g,r.length*6+5,none⟩=some (.int .i64 a.kf)∧X.frozen? ⟨g,r.length*6+5,none⟩=false∧∃ O',Mem d L size lv { ({ s with opn:=a :: r }:St) with opn:=a.add p of :: r } O' (X.setCell ⟨g,r.length*6+5,none⟩ (.int .i64 of))∧Stay O2 O' V (X.setCell ⟨g,r.length*6+5,none⟩ (.int .i64 of))):=hid (by
   intro g7 c7 w7 hown hgrow hat
   have hTo:=HTl.out
   have hzV:V.heap.size≤(Wd.alloc (.cells #[.string ⟨#[]⟩,.string ⟨#[]⟩,.int .i64 0,.int .i64 0,.slice none 0 0] 49)).heap.size:=(hBd'.trans (hba.mono hBd'.size)).size
   have hfar:∀ k,k<V.heap.size→(Value.slice qa m qc).ownBlock≠some k→w7.heap[k]?=V.heap[k]?:=fun k h1 h2=>(hgrow.block k (Nat.lt_of_lt_of_le h1 hzV) (fun e=>h2 e.symm)).trans ((hBd'.trans (hba.mono hBd'.size)).block k h1)
   have hkg:(Value.slice qa m qc).ownBlock≠some g:=fun e=>absurd ((owns_ty hTo.own e).one hTo.ty) (by decide)
   have hgw:=hfar g hTo.lt hkg
   have hbpV:V.heap.size≤bp:=by rw [HVs.out];exact HbW.out
   have hkb:∀ k,(Value.slice qa m qc).ownBlock=some k→k<V.heap.size:=fun k h=>(hTo.own.lt k h).2
   have hbp7:w7.heap[bp]?=some (.cells #[.string q0,.string q1,.int .i64 q2,.int .i64 q3,.slice pa pn pc] 49 (0,0)):=(hgrow.block bp (Nat.lt_of_lt_of_le hbl hba.size) (fun e=>by have:=hkb bp e.symm;omega)).trans HSa.out
   have hg7g:g7≠g:=fun e=>by
    obtain ⟨cs,fr,h2⟩:=hTo.ty
    have h1:Ty w7 g7 49:=owns_ty hown (k:=g7) rfl
    rw [e] at h1
    exact absurd (h1.one ⟨cs,fr,hgw.trans h2⟩) (by decide)
   have hbg7:bp≠g7:=fun e=>by
    rcases hat with h|h
    ·have:=hkb g7 h;omega
    ·have:=hba.size;rw [World.size_alloc] at h;omega
   have hbg:bp≠g:=fun e=>by have:=hTo.lt;omega
   have hlk:ksa.length=m*5:=hRowa.1
   refine ⟨hbp7,⟨?_,?_⟩,⟨hg7g,hg7g.symm,hbg7,hbg⟩,⟨fun j u hj=>?_,fun j=>hown.frozenAt j⟩,fun X hX=>?_⟩
   ·have h:=hTo.cell 4 _ rfl
    simp only [World.cell?] at h ⊢
    rw [hgw];exact h
   ·have h:=hTo.frozen (r.length*6+4)
    simp only [World.frozen?] at h ⊢
    rw [hgw];exact h
   ·have hj5:j<5:=(List.getElem?_eq_some_iff.1 hj).1
    rw [hown.cellAt (m*5+j) (by omega),List.getElem?_append_right (by omega),show m*5+j - ksa.length=j by omega]
    exact hj
   ·exact fin_rows (W:=V) HXV.out rfl hTo hm H5.out hown hfar (hat.imp id (fun h=>by rw [h];exact hzV)) ((hgrow.os).trans (hBd'.trans (hba.mono hBd'.size)).os) ((hgrow.tape).trans (hBd'.trans (hba.mono hBd'.size)).tape) ((hgrow.output).trans (hBd'.trans (hba.mono hBd'.size)).output) (Nat.le_trans hzV hgrow.size) HKI.out hX)
  have HBDh:=hid hbd
  clear hTa hBd hbl hBd' hba hc4 hRowa hbd HBV6 HB6 hm
  go_upto_region 11 with fail
  refine wp_region_held_drew (S:=fun X:World=>X.heap[bp]?=some (.cells #[.string q0,.string q1,.int .i64 q2,.int .i64 q3,.slice pa pn pc] 49 (0,0))) (by kernel_rfl) (by rw [hWd];exact HBDh.out) (fun hHeld=>?_)
  rw [hWd] at hHeld ⊢
  refine wpAnyH_take (i:=0) (oi:=OP.p21) (v:=.pointer (some ⟨g,r.length*6,none⟩)) rfl (by kernel_rfl) (by kernel_rfl) (by kernel_rfl) (fun _ _ _ h=>h) (Or.inl ⟨by rfl,fun X hX=>rfl⟩) hHeld ?_
  (try simp only [Act.put,List.setIfInBounds_toArray,List.set_cons_zero,List.set_cons_succ])
  refine wpAnyH_take (i:=1) (oi:=OP.p22) (v:=.pointer (some ⟨g,r.length*6,none⟩)) rfl (by kernel_rfl) (by kernel_rfl) (by kernel_rfl) (fun _ _ _ h=>h) (Or.inl ⟨by rfl,fun X hX=>rfl⟩) hHeld ?_
  (try simp only [Act.put,List.setIfInBounds_toArray,List.set_cons_zero,List.set_cons_succ])
  refine wpAnyH_take (i:=2) (oi:=OP.p23) (v:=.pointer (some ⟨g,r.length*6,none⟩)) rfl (by kernel_rfl) (by kernel_rfl) (by kernel_rfl) (fun _ _ _ h=>h) (Or.inl ⟨by rfl,fun X hX=>rfl⟩) hHeld ?_
  (try simp only [Act.put,List.setIfInBounds_toArray,List.set_cons_zero,List.set_cons_succ])
  refine wpAnyH_take (i:=3) (oi:=OP.p24) (v:=.pointer (some ⟨g,r.length*6+4,none⟩)) rfl (by kernel_rfl) (by kernel_rfl) (by kernel_rfl) (fun _ _ _ h=>h) (Or.inl ⟨by rfl,fun X hX=>rfl⟩) hHeld ?_
  (try simp only [Act.put,List.setIfInBounds_toArray,List.set_cons_zero,List.set_cons_succ])
  refine wpAnyH_take (i:=5) (oi:=OP.p25) (v:=.agg #[.string q0,.string q1,.int .i64 q2,.int .i64 q3,.slice pa pn pc]) rfl (by kernel_rfl) (by kernel_rfl) (by kernel_rfl) (fun _ _ _ h=>h) (yields_load 49 (.tmp 2) rfl (by rfl) (fun X hX=>load_five hX)) hHeld ?_
  (try simp only [Act.put,List.setIfInBounds_toArray,List.set_cons_zero,List.set_cons_succ])
  refine wpAnyH_ready (rs:=[4,7]) (by kernel_rfl) (by simp) ?_
  refine (AllReadyH.cons (o:=OP.p26) rfl (fun K hK=>?_) (AllReadyH.cons (o:=OP.p27) rfl (fun K hK=>?_) AllReadyH.nil))
  ·refine wanted_step (by kernel_rfl) ?_
   have q4:=HC4.out
   go_simp
   refine hK.out _ _ (hHeld) (fun hHeld=>?_)
   (try simp only [Act.put,List.setIfInBounds_toArray,List.set_cons_zero,List.set_cons_succ])
   clear hK K
   clear q4
   refine wpAnyH_take (i:=6) (oi:=OP.p28) (v:=.int .i64 m) rfl (by kernel_rfl) (by kernel_rfl) (by kernel_rfl) (fun _ _ _ h=>h) (Or.inl ⟨by rfl,fun X hX=>by kernel_rfl⟩) hHeld ?_
   (try simp only [Act.put,List.setIfInBounds_toArray,List.set_cons_zero,List.set_cons_succ])
   refine wpAnyH_ready (rs:=[7]) (by kernel_rfl) (by simp) ?_
   refine (AllReadyH.cons (o:=OP.p27) rfl (fun K hK=>?_) AllReadyH.nil)
   refine wanted_step (by kernel_rfl) ?_
   go_simp
   refine hK.out _ _ (HSa.out) (fun hHeld=>?_)
   (try simp only [Act.put,List.setIfInBounds_toArray,List.set_cons_zero,List.set_cons_succ])
   clear hK K
   refine wpAnyH_ready (rs:=[8]) (by kernel_rfl) (by simp) ?_
   refine (AllReadyH.cons (o:=OP.p29) rfl (fun K hK=>?_) AllReadyH.nil)
   refine wanted_step (by kernel_rfl) ?_
   refine wp_append_lies _ (.tmp 64) (.tmp 67) 47 rfl 0 49 iP (.agg #[.string ⟨#[]⟩,.string ⟨#[]⟩,.int .i64 0,.int .i64 0,.slice none 0 0]) 5 72 Tryz.underlying47 hi0 hz0 hz1 hz2 rfl (by decide) (.slice qa m qc) m ksa rfl HRowa.out ⟨Wd.heap.size,0,none⟩ 1 1 [.string ⟨#[]⟩,.string ⟨#[]⟩,.int .i64 0,.int .i64 0,.slice none 0 0] rfl rfl (news_five Wd) five_one (by decide) (by unfold maxLen;omega) (by omega) (Nat.zero_le _) _ rfl ?_
   intro g7 c7 w7 hown hgrow hat hlt7
   obtain ⟨hb7,⟨h4,f4⟩,⟨n1,n2,n3,n4⟩,⟨hz,hzf⟩,hfin⟩:=HE.out g7 c7 w7 hown hgrow hat
   have HFin:=hid hfin
   have HZ:=hid hz
   have HZF:=hid hzf
   clear hown hgrow hat hfin hz hzf
   refine hK.out _ _ (hb7) (fun hHeld=>?_)
   (try simp only [Act.put,List.setIfInBounds_toArray,List.set_cons_zero,List.set_cons_succ])
   clear hK K
   refine wpAnyH_take (i:=9) (oi:=OP.p30) (v:=.pointer (some ⟨g7,m*5,none⟩)) rfl (by kernel_rfl) (by kernel_rfl) (by kernel_rfl) (fun _ _ _ h=>h) (Or.inl ⟨by rfl,fun X hX=>idx_part g7 m c7 X rfl rfl rfl⟩) hHeld ?_
   (try simp only [Act.put,List.setIfInBounds_toArray,List.set_cons_zero,List.set_cons_succ])
   refine wpAnyH_take (i:=11) (oi:=OP.p31) (v:=.pointer (some ⟨g,r.length*6,none⟩)) rfl (by kernel_rfl) (by kernel_rfl) (by kernel_rfl) (fun _ _ _ h=>h) (Or.inl ⟨by rfl,fun X hX=>rfl⟩) hHeld ?_
   (try simp only [Act.put,List.setIfInBounds_toArray,List.set_cons_zero,List.set_cons_succ])
   refine wpAnyH_take (i:=12) (oi:=OP.p32) (v:=.pointer (some ⟨g,r.length*6,none⟩)) rfl (by kernel_rfl) (by kernel_rfl) (by kernel_rfl) (fun _ _ _ h=>h) (Or.inl ⟨by rfl,fun X hX=>rfl⟩) hHeld ?_
   (try simp only [Act.put,List.setIfInBounds_toArray,List.set_cons_zero,List.set_cons_succ])
   refine wpAnyH_take (i:=13) (oi:=OP.p33) (v:=.pointer (some ⟨g,r.length*6+4,none⟩)) rfl (by kernel_rfl) (by kernel_rfl) (by kernel_rfl) (fun _ _ _ h=>h) (Or.inl ⟨by rfl,fun X hX=>rfl⟩) hHeld ?_
   (try simp only [Act.put,List.setIfInBounds_toArray,List.set_cons_zero,List.set_cons_succ])
   refine wpAnyH_ready (rs:=[10,14]) (by kernel_rfl) (by simp) ?_
   refine (AllReadyH.cons (o:=OP.p34) rfl (fun K hK=>?_) (AllReadyH.cons (o:=OP.p35) rfl (fun K hK=>?_) AllReadyH.nil))
   ·refine wanted_step (by kernel_rfl) ?_
    have z0:w7.cell? ⟨g7,m*5,none⟩=some (.string ⟨#[]⟩):=HZ.out 0 _ rfl
    have z1:w7.cell? ⟨g7,m*5+1,none⟩=some (.string ⟨#[]⟩):=HZ.out 1 _ rfl
    have z2:w7.cell? ⟨g7,m*5+2,none⟩=some (.int .i64 0):=HZ.out 2 _ rfl
    have z3:w7.cell? ⟨g7,m*5+3,none⟩=some (.int .i64 0):=HZ.out 3 _ rfl
    have z4:w7.cell? ⟨g7,m*5+4,none⟩=some (.slice none 0 0):=HZ.out 4 _ rfl
    have y0:=HZF.out (m*5)
    have y1:=HZF.out (m*5+1)
    have y2:=HZF.out (m*5+2)
    have y3:=HZF.out (m*5+3)
    have y4:=HZF.out (m*5+4)
    go_simp
    refine hK.out _ _ (by simp only [heap5 _ _ _ _ _ n3];exact hb7) (fun hHeld=>?_)
    (try simp only [Act.put,List.setIfInBounds_toArray,List.set_cons_zero,List.set_cons_succ])
    clear hK K
    clear z0 z1 z2 z3 z4 y0 y1 y2 y3 y4
    obtain ⟨Y,hY⟩:∃ Y,(((((w7.setCell ⟨g7,m*5,none⟩ (.string q0)).setCell ⟨g7,m*5+1,none⟩ (.string q1)).setCell ⟨g7,m*5+2,none⟩ (.int .i64 q2)).setCell ⟨g7,m*5+3,none⟩ (.int .i64 q3)).setCell ⟨g7,m*5+4,none⟩ (.slice pa pn pc))=Y:=⟨_,rfl⟩
    have h4Y:Y.cell? ⟨g,r.length*6+4,none⟩=some (.slice qa m qc):=by rw [← hY];simp only [World.cell?,heap5 _ _ _ _ _ n2];exact h4
    have f4Y:Y.frozen? ⟨g,r.length*6+4,none⟩=false:=by rw [← hY];simp only [World.frozen?,heap5 _ _ _ _ _ n2];exact f4
    have hbY:Y.heap[bp]?=some (.cells #[.string q0,.string q1,.int .i64 q2,.int .i64 q3,.slice pa pn pc] 49 (0,0)):=by rw [← hY,heap5 _ _ _ _ _ n3];exact hb7
    rw [hY]
    refine wpAnyH_ready (rs:=[14]) (by kernel_rfl) (by simp) ?_
    refine (AllReadyH.cons (o:=OP.p35) rfl (fun K hK=>?_) AllReadyH.nil)
    refine wanted_step (by kernel_rfl) ?_
    go_simp
    refine hK.out _ _ (by rw [Below.heap_setCell _ _ _ _ n4];exact hbY) (fun hHeld=>?_)
    (try simp only [Act.put,List.setIfInBounds_toArray,List.set_cons_zero,List.set_cons_succ])
    clear hK K
    refine wpAnyH_done (by kernel_rfl) ?_ _
    obtain ⟨x5,xf,O9,hM9,hS9⟩:=HFin.out _ (.inl (by rw [hY]))
    clear h4Y f4Y hbY h4 f4 hY hb7 HZ HZF HFin
    have HM9:=hid hM9
    have HS9:=hid hS9
    clear hM9 hS9
    generalize Y.setCell ⟨g,r.length*6+4,none⟩ (.slice (some ⟨g7,0,none⟩) (m+1) c7)=Z at x5 xf HM9 HS9 ⊢
    go_wp2_with fail
    first|go_end0|refine bodyPost_ret (results_none rfl _ _ _) rfl ?_
    exact ⟨rfl,O9,by rw [Hff.out];exact HM9.out,HSV.out.trans HS9.out⟩
   ·refine wanted_step (by kernel_rfl) ?_
    go_simp
    refine hK.out _ _ (by rw [Below.heap_setCell _ _ _ _ n4];exact hb7) (fun hHeld=>?_)
    (try simp only [Act.put,List.setIfInBounds_toArray,List.set_cons_zero,List.set_cons_succ])
    clear hK K
    obtain ⟨Z,hZ⟩:∃ Z,w7.setCell ⟨g,r.length*6+4,none⟩ (.slice (some ⟨g7,0,none⟩) (m+1) c7)=Z:=⟨_,rfl⟩
    have hz7:Z.heap[g7]?=w7.heap[g7]?:=by rw [← hZ];exact Below.heap_setCell _ _ _ _ n1
    have z0:Z.cell? ⟨g7,m*5,none⟩=some (.string ⟨#[]⟩):=by have h:=HZ.out 0 _ rfl;simp only [World.cell?] at h ⊢;rw [hz7];exact h
    have z1:Z.cell? ⟨g7,m*5+1,none⟩=some (.string ⟨#[]⟩):=by have h:=HZ.out 1 _ rfl;simp only [World.cell?] at h ⊢;rw [hz7];exact h
    have z2:Z.cell? ⟨g7,m*5+2,none⟩=some (.int .i64 0):=by have h:=HZ.out 2 _ rfl;simp only [World.cell?] at h ⊢;rw [hz7];exact h
    have z3:Z.cell? ⟨g7,m*5+3,none⟩=some (.int .i64 0):=by have h:=HZ.out 3 _ rfl;simp only [World.cell?] at h ⊢;rw [hz7];exact h
    have z4:Z.cell? ⟨g7,m*5+4,none⟩=some (.slice none 0 0):=by have h:=HZ.out 4 _ rfl;simp only [World.cell?] at h ⊢;rw [hz7];exact h
    have y0:Z.frozen? ⟨g7,m*5,none⟩=false:=by have h:=HZF.out (m*5);simp only [World.frozen?] at h ⊢;rw [hz7];exact h
    have y1:Z.frozen? ⟨g7,m*5+1,none⟩=false:=by have h:=HZF.out (m*5+1);simp only [World.frozen?] at h ⊢;rw [hz7];exact h
    have y2:Z.frozen? ⟨g7,m*5+2,none⟩=false:=by have h:=HZF.out (m*5+2);simp only [World.frozen?] at h ⊢;rw [hz7];exact h
    have y3:Z.frozen? ⟨g7,m*5+3,none⟩=false:=by have h:=HZF.out (m*5+3);simp only [World.frozen?] at h ⊢;rw [hz7];exact h
    have y4:Z.frozen? ⟨g7,m*5+4,none⟩=false:=by have h:=HZF.out (m*5+4);simp only [World.frozen?] at h ⊢;rw [hz7];exact h
    have hbZ:Z.heap[bp]?=some (.cells #[.string q0,.string q1,.int .i64 q2,.int .i64 q3,.slice pa pn pc] 49 (0,0)):=by rw [← hZ,Below.heap_setCell _ _ _ _ n4];exact hb7
    rw [hZ]
    clear hz7
    refine wpAnyH_ready (rs:=[10]) (by kernel_rfl) (by simp) ?_
    refine (AllReadyH.cons (o:=OP.p34) rfl (fun K hK=>?_) AllReadyH.nil)
    refine wanted_step (by kernel_rfl) ?_
    go_simp
    refine hK.out _ _ (by rw [heap5 _ _ _ _ _ n3];exact hbZ) (fun hHeld=>?_)
    (try simp only [Act.put,List.setIfInBounds_toArray,List.set_cons_zero,List.set_cons_succ])
    clear hK K
    refine wpAnyH_done (by kernel_rfl) ?_ _
    obtain ⟨x5,xf,O9,hM9,hS9⟩:=HFin.out _ (.inr (by rw [hZ]))
    clear z0 z1 z2 z3 z4 y0 y1 y2 y3 y4 h4 f4 hZ hb7 hbZ HZ HZF HFin
    have HM9:=hid hM9
    have HS9:=hid hS9
    clear hM9 hS9
    generalize (((((Z.setCell ⟨g7,m*5,none⟩ (.string q0)).setCell ⟨g7,m*5+1,none⟩ (.string q1)).setCell ⟨g7,m*5+2,none⟩ (.int .i64 q2)).setCell ⟨g7,m*5+3,none⟩ (.int .i64 q3)).setCell ⟨g7,m*5+4,none⟩ (.slice pa pn pc))=Y at x5 xf HM9 HS9 ⊢
    go_wp2_with fail
    first|go_end0|refine bodyPost_ret (results_none rfl _ _ _) rfl ?_
    exact ⟨rfl,O9,by rw [Hff.out];exact HM9.out,HSV.out.trans HS9.out⟩
  ·refine wanted_step (by kernel_rfl) ?_
   go_simp
   refine hK.out _ _ (HSa.out) (fun hHeld=>?_)
   (try simp only [Act.put,List.setIfInBounds_toArray,List.set_cons_zero,List.set_cons_succ])
   clear hK K
   refine wpAnyH_ready (rs:=[4]) (by kernel_rfl) (by simp) ?_
   refine (AllReadyH.cons (o:=OP.p26) rfl (fun K hK=>?_) AllReadyH.nil)
   refine wanted_step (by kernel_rfl) ?_
   have q4:=HC4a.out
   go_simp
   refine hK.out _ _ (HSa.out) (fun hHeld=>?_)
   (try simp only [Act.put,List.setIfInBounds_toArray,List.set_cons_zero,List.set_cons_succ])
   clear hK K
   clear q4
   refine wpAnyH_take (i:=6) (oi:=OP.p28) (v:=.int .i64 m) rfl (by kernel_rfl) (by kernel_rfl) (by kernel_rfl) (fun _ _ _ h=>h) (Or.inl ⟨by rfl,fun X hX=>by kernel_rfl⟩) hHeld ?_
   (try simp only [Act.put,List.setIfInBounds_toArray,List.set_cons_zero,List.set_cons_succ])
   refine wpAnyH_ready (rs:=[8]) (by kernel_rfl) (by simp) ?_
   refine (AllReadyH.cons (o:=OP.p29) rfl (fun K hK=>?_) AllReadyH.nil)
   refine wanted_step (by kernel_rfl) ?_
   refine wp_append_lies _ (.tmp 64) (.tmp 67) 47 rfl 0 49 iP (.agg #[.string ⟨#[]⟩,.string ⟨#[]⟩,.int .i64 0,.int .i64 0,.slice none 0 0]) 5 72 Tryz.underlying47 hi0 hz0 hz1 hz2 rfl (by decide) (.slice qa m qc) m ksa rfl HRowa.out ⟨Wd.heap.size,0,none⟩ 1 1 [.string ⟨#[]⟩,.string ⟨#[]⟩,.int .i64 0,.int .i64 0,.slice none 0 0] rfl rfl (news_five Wd) five_one (by decide) (by unfold maxLen;omega) (by omega) (Nat.zero_le _) _ rfl ?_
   intro g7 c7 w7 hown hgrow hat hlt7
   obtain ⟨hb7,⟨h4,f4⟩,⟨n1,n2,n3,n4⟩,⟨hz,hzf⟩,hfin⟩:=HE.out g7 c7 w7 hown hgrow hat
   have HFin:=hid hfin
   have HZ:=hid hz
   have HZF:=hid hzf
   clear hown hgrow hat hfin hz hzf
   refine hK.out _ _ (hb7) (fun hHeld=>?_)
   (try simp only [Act.put,List.setIfInBounds_toArray,List.set_cons_zero,List.set_cons_succ])
   clear hK K
   refine wpAnyH_take (i:=9) (oi:=OP.p30) (v:=.pointer (some ⟨g7,m*5,none⟩)) rfl (by kernel_rfl) (by kernel_rfl) (by kernel_rfl) (fun _ _ _ h=>h) (Or.inl ⟨by rfl,fun X hX=>idx_part g7 m c7 X rfl rfl rfl⟩) hHeld ?_
   (try simp only [Act.put,List.setIfInBounds_toArray,List.set_cons_zero,List.set_cons_succ])
   refine wpAnyH_take (i:=11) (oi:=OP.p31) (v:=.pointer (some ⟨g,r.length*6,none⟩)) rfl (by kernel_rfl) (by kernel_rfl) (by kernel_rfl) (fun _ _ _ h=>h) (Or.inl ⟨by rfl,fun X hX=>rfl⟩) hHeld ?_
   (try simp only [Act.put,List.setIfInBounds_toArray,List.set_cons_zero,List.set_cons_succ])
   refine wpAnyH_take (i:=12) (oi:=OP.p32) (v:=.pointer (some ⟨g,r.length*6,none⟩)) rfl (by kernel_rfl) (by kernel_rfl) (by kernel_rfl) (fun _ _ _ h=>h) (Or.inl ⟨by rfl,fun X hX=>rfl⟩) hHeld ?_
   (try simp only [Act.put,List.setIfInBounds_toArray,List.set_cons_zero,List.set_cons_succ])
   refine wpAnyH_take (i:=13) (oi:=OP.p33) (v:=.pointer (some ⟨g,r.length*6+4,none⟩)) rfl (by kernel_rfl) (by kernel_rfl) (by kernel_rfl) (fun _ _ _ h=>h) (Or.inl ⟨by rfl,fun X hX=>rfl⟩) hHeld ?_
   (try simp only [Act.put,List.setIfInBounds_toArray,List.set_cons_zero,List.set_cons_succ])
   refine wpAnyH_ready (rs:=[10,14]) (by kernel_rfl) (by simp) ?_
   refine (AllReadyH.cons (o:=OP.p34) rfl (fun K hK=>?_) (AllReadyH.cons (o:=OP.p35) rfl (fun K hK=>?_) AllReadyH.nil))
   ·refine wanted_step (by kernel_rfl) ?_
    have z0:w7.cell? ⟨g7,m*5,none⟩=some (.string ⟨#[]⟩):=HZ.out 0 _ rfl
    have z1:w7.cell? ⟨g7,m*5+1,none⟩=some (.string ⟨#[]⟩):=HZ.out 1 _ rfl
    have z2:w7.cell? ⟨g7,m*5+2,none⟩=some (.int .i64 0):=HZ.out 2 _ rfl
    have z3:w7.cell? ⟨g7,m*5+3,none⟩=some (.int .i64 0):=HZ.out 3 _ rfl
    have z4:w7.cell? ⟨g7,m*5+4,none⟩=some (.slice none 0 0):=HZ.out 4 _ rfl
    have y0:=HZF.out (m*5)
    have y1:=HZF.out (m*5+1)
    have y2:=HZF.out (m*5+2)
    have y3:=HZF.out (m*5+3)
    have y4:=HZF.out (m*5+4)
    go_simp
    refine hK.out _ _ (by simp only [heap5 _ _ _ _ _ n3];exact hb7) (fun hHeld=>?_)
    (try simp only [Act.put,List.setIfInBounds_toArray,List.set_cons_zero,List.set_cons_succ])
    clear hK K
    clear z0 z1 z2 z3 z4 y0 y1 y2 y3 y4
    obtain ⟨Y,hY⟩:∃ Y,(((((w7.setCell ⟨g7,m*5,none⟩ (.string q0)).setCell ⟨g7,m*5+1,none⟩ (.string q1)).setCell ⟨g7,m*5+2,none⟩ (.int .i64 q2)).setCell ⟨g7,m*5+3,none⟩ (.int .i64 q3)).setCell ⟨g7,m*5+4,none⟩ (.slice pa pn pc))=Y:=⟨_,rfl⟩
    have h4Y:Y.cell? ⟨g,r.length*6+4,none⟩=some (.slice qa m qc):=by rw [← hY];simp only [World.cell?,heap5 _ _ _ _ _ n2];exact h4
    have f4Y:Y.frozen? ⟨g,r.length*6+4,none⟩=false:=by rw [← hY];simp only [World.frozen?,heap5 _ _ _ _ _ n2];exact f4
    have hbY:Y.heap[bp]?=some (.cells #[.string q0,.string q1,.int .i64 q2,.int .i64 q3,.slice pa pn pc] 49 (0,0)):=by rw [← hY,heap5 _ _ _ _ _ n3];exact hb7
    rw [hY]
    refine wpAnyH_ready (rs:=[14]) (by kernel_rfl) (by simp) ?_
    refine (AllReadyH.cons (o:=OP.p35) rfl (fun K hK=>?_) AllReadyH.nil)
    refine wanted_step (by kernel_rfl) ?_
    go_simp
    refine hK.out _ _ (by rw [Below.heap_setCell _ _ _ _ n4];exact hbY) (fun hHeld=>?_)
    (try simp only [Act.put,List.setIfInBounds_toArray,List.set_cons_zero,List.set_cons_succ])
    clear hK K
    refine wpAnyH_done (by kernel_rfl) ?_ _
    obtain ⟨x5,xf,O9,hM9,hS9⟩:=HFin.out _ (.inl (by rw [hY]))
    clear h4Y f4Y hbY h4 f4 hY hb7 HZ HZF HFin
    have HM9:=hid hM9
    have HS9:=hid hS9
    clear hM9 hS9
    generalize Y.setCell ⟨g,r.length*6+4,none⟩ (.slice (some ⟨g7,0,none⟩) (m+1) c7)=Z at x5 xf HM9 HS9 ⊢
    go_wp2_with fail
    first|go_end0|refine bodyPost_ret (results_none rfl _ _ _) rfl ?_
    exact ⟨rfl,O9,by rw [Hff.out];exact HM9.out,HSV.out.trans HS9.out⟩
   ·refine wanted_step (by kernel_rfl) ?_
    go_simp
    refine hK.out _ _ (by rw [Below.heap_setCell _ _ _ _ n4];exact hb7) (fun hHeld=>?_)
    (try simp only [Act.put,List.setIfInBounds_toArray,List.set_cons_zero,List.set_cons_succ])
    clear hK K
    obtain ⟨Z,hZ⟩:∃ Z,w7.setCell ⟨g,r.length*6+4,none⟩ (.slice (some ⟨g7,0,none⟩) (m+1) c7)=Z:=⟨_,rfl⟩
    have hz7:Z.heap[g7]?=w7.heap[g7]?:=by rw [← hZ];exact Below.heap_setCell _ _ _ _ n1
    have z0:Z.cell? ⟨g7,m*5,none⟩=some (.string ⟨#[]⟩):=by have h:=HZ.out 0 _ rfl;simp only [World.cell?] at h ⊢;rw [hz7];exact h
    have z1:Z.cell? ⟨g7,m*5+1,none⟩=some (.string ⟨#[]⟩):=by have h:=HZ.out 1 _ rfl;simp only [World.cell?] at h ⊢;rw [hz7];exact h
    have z2:Z.cell? ⟨g7,m*5+2,none⟩=some (.int .i64 0):=by have h:=HZ.out 2 _ rfl;simp only [World.cell?] at h ⊢;rw [hz7];exact h
    have z3:Z.cell? ⟨g7,m*5+3,none⟩=some (.int .i64 0):=by have h:=HZ.out 3 _ rfl;simp only [World.cell?] at h ⊢;rw [hz7];exact h
    have z4:Z.cell? ⟨g7,m*5+4,none⟩=some (.slice none 0 0):=by have h:=HZ.out 4 _ rfl;simp only [World.cell?] at h ⊢;rw [hz7];exact h
    have y0:Z.frozen? ⟨g7,m*5,none⟩=false:=by have h:=HZF.out (m*5);simp only [World.frozen?] at h ⊢;rw [hz7];exact h
    have y1:Z.frozen? ⟨g7,m*5+1,none⟩=false:=by have h:=HZF.out (m*5+1);simp only [World.frozen?] at h ⊢;rw [hz7];exact h
    have y2:Z.frozen? ⟨g7,m*5+2,none⟩=false:=by have h:=HZF.out (m*5+2);simp only [World.frozen?] at h ⊢;rw [hz7];exact h
    have y3:Z.frozen? ⟨g7,m*5+3,none⟩=false:=by have h:=HZF.out (m*5+3);simp only [World.frozen?] at h ⊢;rw [hz7];exact h
    have y4:Z.frozen? ⟨g7,m*5+4,none⟩=false:=by have h:=HZF.out (m*5+4);simp only [World.frozen?] at h ⊢;rw [hz7];exact h
    have hbZ:Z.heap[bp]?=some (.cells #[.string q0,.string q1,.int .i64 q2,.int .i64 q3,.slice pa pn pc] 49 (0,0)):=by rw [← hZ,Below.heap_setCell _ _ _ _ n4];exact hb7
    rw [hZ]
    clear hz7
    refine wpAnyH_ready (rs:=[10]) (by kernel_rfl) (by simp) ?_
    refine (AllReadyH.cons (o:=OP.p34) rfl (fun K hK=>?_) AllReadyH.nil)
    refine wanted_step (by kernel_rfl) ?_
    go_simp
    refine hK.out _ _ (by rw [heap5 _ _ _ _ _ n3];exact hbZ) (fun hHeld=>?_)
    (try simp only [Act.put,List.setIfInBounds_toArray,List.set_cons_zero,List.set_cons_succ])
    clear hK K
    refine wpAnyH_done (by kernel_rfl) ?_ _
    obtain ⟨x5,xf,O9,hM9,hS9⟩:=HFin.out _ (.inr (by rw [hZ]))
    clear z0 z1 z2 z3 z4 y0 y1 y2 y3 y4 h4 f4 hZ hb7 hbZ HZ HZF HFin
    have HM9:=hid hM9
    have HS9:=hid hS9
    clear hM9 hS9
    generalize (((((Z.setCell ⟨g7,m*5,none⟩ (.string q0)).setCell ⟨g7,m*5+1,none⟩ (.string q1)).setCell ⟨g7,m*5+2,none⟩ (.int .i64 q2)).setCell ⟨g7,m*5+3,none⟩ (.int .i64 q3)).setCell ⟨g7,m*5+4,none⟩ (.slice pa pn pc))=Y at x5 xf HM9 HS9 ⊢
    go_wp2_with fail
    first|go_end0|refine bodyPost_ret (results_none rfl _ _ _) rfl ?_
    exact ⟨rfl,O9,by rw [Hff.out];exact HM9.out,HSV.out.trans HS9.out⟩
 case' inr.inl =>
  have h1:(ky.toList==[40])=false:=by rw [hkt];rcases hw with hw|hw <;> rw [hw] <;> rfl
  have hKo:=owns_later HKV.out hBV
  have hPo:=parts_stay (W:=V) (W':=W4) (Stay.of_below hBV) HPV.out
  rw [HKK.out] at hKo
  have cS:=span_any (W:=W4) o.kids (.slice ka K kc) ks (by rw [HKK.out];exact hKo) hPo (by rw [HKK.out];exact hKl)
  have hki:=kids_row (by rw [HKK.out];have h:=HKV.out;rw [HKK.out] at h;exact h) HPV.out HFV.out o.k o.t (spanF o.kids) (spanE o.kids)
  rw [HKK.out] at hki
  rw [← hpe] at hki
  have hfive:five p (.slice ka K kc)=[.string ky,.string ty,.int .i64 (spanF o.kids),.int .i64 (spanE o.kids),.slice ka K kc]:=by rw [hpe,← Hkk.out,← Htt.out];rfl
  obtain ⟨q2,hq2⟩:∃ q,spanF o.kids=q:=⟨_,rfl⟩
  obtain ⟨q3,hq3⟩:∃ q,spanE o.kids=q:=⟨_,rfl⟩
  rw [hq2,hq3] at cS hfive
  have key:∀ m1,(((W4.drewN m1).setCell ⟨bp,2,none⟩ (.int .i64 q2)).setCell ⟨bp,3,none⟩ (.int .i64 q3)).heap[bp]?=some (.cells #[.string ky,.string ty,.int .i64 q2,.int .i64 q3,.slice ka K kc] 49 (0,0))∧Below W.heap.size V (((W4.drewN m1).setCell ⟨bp,2,none⟩ (.int .i64 q2)).setCell ⟨bp,3,none⟩ (.int .i64 q3)):=fun m1=>by
   have hbm:(W4.drewN m1).heap[bp]?=some (.cells #[.string ky,.string ty,.int .i64 of,.int .i64 en,.slice ka K kc] 49 (0,0)):=hb4
   have x1:=Go.Joins.block_setCell (i:=2) hbm (.int .i64 q2)
   exact ⟨Go.Joins.block_setCell (i:=3) x1 (.int .i64 q3),((show Below W.heap.size V (W4.drewN m1) from HBV4.out.trans ⟨rfl,rfl,rfl,Nat.le_refl _,fun _ _=>rfl⟩).setCell (p:=⟨bp,2,none⟩) HbW.out _).setCell (p:=⟨bp,3,none⟩) HbW.out _⟩
  have HKey:=hid key
  have HKI:=hid hki
  have H5:=hid hfive
  have hw':(ky.toList==[112,97,114,97,109,115])=true∨((ky.toList==[112,97,114,97,109,115])=false∧(ky.toList==[114,101,115,117,108,116])=true):=by rw [hkt];rcases hw with hw|hw <;> rw [hw] <;> simp [kParams,kResult]
  clear hKo hki hkt hfive hBV hpe key hw hPo hP
  have st:∀ m1,(W4.drewN m1).cell? ⟨bp,2,none⟩=some (.int .i64 of)∧(W4.drewN m1).cell? ⟨bp,3,none⟩=some (.int .i64 en)∧(W4.drewN m1).frozen? ⟨bp,2,none⟩=false∧(W4.drewN m1).frozen? ⟨bp,3,none⟩=false∧(W4.drewN m1).heap[bp]?=some (.cells #[.string ky,.string ty,.int .i64 of,.int .i64 en,.slice ka K kc] 49 (0,0)):=fun m1=>⟨p2,p3,z2,z3,hb4⟩
  have HSt:=hid st
  clear st
  rcases hw' with h2|⟨h2,h3⟩
 case inr.inl.inl =>
  go_wp2_with fail
  refine cS.mono ?_
  rintro e vs ⟨rfl,m1,rfl⟩
  dsimp only
  obtain ⟨n2,n3,n4,n5,n6⟩:=HSt.out m1
  obtain ⟨hb5,hbv5⟩:=HKey.out m1
  have HB5:=hid hb5
  have HBV5:=hid hbv5
  clear hb4 hb5 hbv5 p0 p1 p2 p3 p4 z0 z1 z2 z3 z4 HKey HSt
  generalize W4.drewN m1=W4' at n2 n3 n4 n5 n6 HB5 HBV5 ⊢
  go_wp2_with fail
  clear n2 n3 n4 n5 n6 cS h1 h2
  generalize ((W4'.setCell ⟨bp,2,none⟩ (.int .i64 q2)).setCell ⟨bp,3,none⟩ (.int .i64 q3))=W5 at HB5 HBV5 ⊢
  obtain ⟨g',c',kva,ksa,usa,bsa,hTa⟩:=top_of HXV.out (o:=a) (r:=r) rfl
  have hgc:=hTa.hov
  simp only [Value.slice.injEq,Option.some.injEq,Addr.mk.injEq,and_true] at hgc
  obtain ⟨rfl,_,rfl⟩:=hgc
  have hrl:r.length≤1000000:=by have:=HRR.out;omega
  have cA:=top_any HXV.out hTa hrl (by rw [HVs.out];exact HBV5.out:Below V.heap.size V W5)
  refine cA.mono ?_
  rintro e v6 ⟨rfl,m2,rfl⟩
  dsimp only
  clear cA
  have HB6:Hid ((W5.drewN m2).heap[bp]?=some (.cells #[.string ky,.string ty,.int .i64 q2,.int .i64 q3,.slice ka K kc] 49 (0,0))):=hid HB5.out
  have HBV6:Hid (Below W.heap.size V (W5.drewN m2)):=hid (HBV5.out.trans ⟨rfl,rfl,rfl,Nat.le_refl _,fun _ _=>rfl⟩)
  clear HB5 HBV5
  generalize W5.drewN m2=W6 at HB6 HBV6 ⊢
  obtain ⟨qa,qc,rfl⟩:=owns_len hTa.own
  obtain ⟨m,hm⟩:∃ m,a.kids.length=m:=⟨_,rfl⟩
  have hml:m≤1000000:=by rw [← hm];exact hs.kids a (by rw [ho];exact List.mem_cons_of_mem _ List.mem_cons_self)
  rw [hm] at hTa
  obtain ⟨iP,hi0,hz0,hz1,hz2⟩:=info_parts infoP
  obtain ⟨Wd,hWd⟩:∃ Wd,W6.drew=Wd:=⟨_,rfl⟩
  have hBd:Below W.heap.size V Wd:=by rw [← hWd];exact HBV6.out.drew
  have hbd:Wd.heap[bp]?=some (.cells #[.string ky,.string ty,.int .i64 q2,.int .i64 q3,.slice ka K kc] 49 (0,0)):=by rw [← hWd];exact HB6.out
  have hbl:bp<Wd.heap.size:=(Array.getElem?_eq_some_iff.1 hbd).1
  have hBd':Below V.heap.size V Wd:=by rw [HVs.out];exact hBd
  have hba:Below Wd.heap.size Wd (Wd.alloc (.cells #[.string ⟨#[]⟩,.string ⟨#[]⟩,.int .i64 0,.int .i64 0,.slice none 0 0] 49)):=(Below.refl _ _).alloc (Nat.le_refl _) _
  have HSa:Hid ((Wd.alloc (.cells #[.string ⟨#[]⟩,.string ⟨#[]⟩,.int .i64 0,.int .i64 0,.slice none 0 0] 49)).heap[bp]?=some (.cells #[.string ky,.string ty,.int .i64 q2,.int .i64 q3,.slice ka K kc] 49 (0,0))):=hid ((hba.block bp hbl).trans hbd)
  have HTl:Hid (TopAt d O2 a r (.slice (some ⟨g,0,none⟩) R c) bs1 us1 V g c (.slice qa m qc) ksa usa bsa):=hid hTa
  have hc4:=hTa.cell 4 _ rfl
  have HC4:Hid (Wd.cell? ⟨g,r.length*6+4,none⟩=some (.slice qa m qc)):=hid ((hBd'.cell (p:=⟨g,r.length*6+4,none⟩) hTa.lt).trans hc4)
  have HC4a:Hid ((Wd.alloc (.cells #[.string ⟨#[]⟩,.string ⟨#[]⟩,.int .i64 0,.int .i64 0,.slice none 0 0] 49)).cell? ⟨g,r.length*6+4,none⟩=some (.slice qa m qc)):=hid (((hBd'.trans (hba.mono hBd'.size)).cell (p:=⟨g,r.length*6+4,none⟩) hTa.lt).trans hc4)
  have hRowa:(Wd.alloc (.cells #[.string ⟨#[]⟩,.string ⟨#[]⟩,.int .i64 0,.int .i64 0,.slice none 0 0] 49)).ownsRow 0 49 5 (.slice qa m qc) m ksa:=owns_later (by have h:=hTa.own;rw [hm] at h;exact h) (hBd'.trans (hba.mono hBd'.size))
  have HRowa:=hid hRowa
  have HE:Hid (∀ (g7 c7:Nat) (w7:World),w7.ownsRow 0 49 5 (.slice (some ⟨g7,0,none⟩) (m+1) c7) (m+1) (ksa++[.string ⟨#[]⟩,.string ⟨#[]⟩,.int .i64 0,.int .i64 0,.slice none 0 0])→(Wd.alloc (.cells #[.string ⟨#[]⟩,.string ⟨#[]⟩,.int .i64 0,.int .i64 0,.slice none 0 0] 49)).grownBy w7 (Value.slice qa m qc).ownBlock→((Value.slice qa m qc).ownBlock=some g7∨g7=(Wd.alloc (.cells #[.string ⟨#[]⟩,.string ⟨#[]⟩,.int .i64 0,.int .i64 0,.slice none 0 0] 49)).heap.size) →
    w7.heap[bp]?=some (.cells #[.string ky,.string ty,.int .i64 q2,.int .i64 q3,.slice ka K kc] 49 (0,0))∧(w7.cell? ⟨g,r.length*6+4,none⟩=some (.slice qa m qc)∧w7.frozen? ⟨g,r.length*6+4,none⟩=false)∧(g7≠g∧g≠g7∧bp≠g7∧bp≠g) ∧
    ((∀ j u,([.string ⟨#[]⟩,.string ⟨#[]⟩,.int .i64 0,.int .i64 0,.slice none 0 0]:List Value)[j]?=some u→w7.cell? ⟨g7,m*5+j,none⟩=some u)∧∀ j,w7.frozen? ⟨g7,j,none⟩=false) ∧
    ∀ X,(X=(((((w7.setCell ⟨g7,m*5,none⟩ (.string ky)).setCell ⟨g7,m*5+1,none⟩ (.string ty)).setCell ⟨g7,m*5+2,none⟩ (.int .i64 q2)).setCell ⟨g7,m*5+3,none⟩ (.int .i64 q3)).setCell ⟨g7,m*5+4,none⟩ (.slice ka K kc)).setCell ⟨g,r.length*6+4,none⟩ (.slice (some ⟨g7,0,none⟩) (m+1) c7)∨X=((((((w7.setCell ⟨g,r.length*6+4,none⟩ (.slice (some ⟨g7,0,none⟩) (m+1) c7)).setCell ⟨g7,m*5,none⟩ (.string ky)).setCell ⟨g7,m*5+1,none⟩ (.string ty)).setCell ⟨g7,m*5+2,none⟩ (.int .i64 q2)).setCell ⟨g7,m*5+3,none⟩ (.int .i64 q3)).setCell ⟨g7,m*5+4,none⟩ (.slice ka K kc)))→X.cell? ⟨g,r.length*6+5,none⟩=some (.int .i64 a.kf)∧X.frozen? ⟨g,r.length*6+5,none⟩=false∧∃ O',Mem d L size lv { ({ s with opn:=a :: r }:St) with opn:=a.add p of :: r } O' (X.setCell ⟨g,r.length*6+5,none⟩ (.int .i64 of))∧Stay O2 O' V (X.setCell ⟨g,r.length*6+5,none⟩ (.int .i64 of))):=hid (by
   intro g7 c7 w7 hown hgrow hat
   have hTo:=HTl.out
   have hzV:V.heap.size≤(Wd.alloc (.cells #[.string ⟨#[]⟩,.string ⟨#[]⟩,.int .i64 0,.int .i64 0,.slice none 0 0] 49)).heap.size:=(hBd'.trans (hba.mono hBd'.size)).size
   have hfar:∀ k,k<V.heap.size→(Value.slice qa m qc).ownBlock≠some k→w7.heap[k]?=V.heap[k]?:=fun k h1 h2=>(hgrow.block k (Nat.lt_of_lt_of_le h1 hzV) (fun e=>h2 e.symm)).trans ((hBd'.trans (hba.mono hBd'.size)).block k h1)
   have hkg:(Value.slice qa m qc).ownBlock≠some g:=fun e=>absurd ((owns_ty hTo.own e).one hTo.ty) (by decide)
   have hgw:=hfar g hTo.lt hkg
   have hbpV:V.heap.size≤bp:=by rw [HVs.out];exact HbW.out
   have hkb:∀ k,(Value.slice qa m qc).ownBlock=some k→k<V.heap.size:=fun k h=>(hTo.own.lt k h).2
   have hbp7:w7.heap[bp]?=some (.cells #[.string ky,.string ty,.int .i64 q2,.int .i64 q3,.slice ka K kc] 49 (0,0)):=(hgrow.block bp (Nat.lt_of_lt_of_le hbl hba.size) (fun e=>by have:=hkb bp e.symm;omega)).trans HSa.out
   have hg7g:g7≠g:=fun e=>by
    obtain ⟨cs,fr,h2⟩:=hTo.ty
    have h1:Ty w7 g7 49:=owns_ty hown (k:=g7) rfl
    rw [e] at h1
    exact absurd (h1.one ⟨cs,fr,hgw.trans h2⟩) (by decide)
   have hbg7:bp≠g7:=fun e=>by
    rcases hat with h|h
    ·have:=hkb g7 h;omega
    ·have:=hba.size;rw [World.size_alloc] at h;omega
   have hbg:bp≠g:=fun e=>by have:=hTo.lt;omega
   have hlk:ksa.length=m*5:=hRowa.1
   refine ⟨hbp7,⟨?_,?_⟩,⟨hg7g,hg7g.symm,hbg7,hbg⟩,⟨fun j u hj=>?_,fun j=>hown.frozenAt j⟩,fun X hX=>?_⟩
   ·have h:=hTo.cell 4 _ rfl
    simp only [World.cell?] at h ⊢
    rw [hgw];exact h
   ·have h:=hTo.frozen (r.length*6+4)
    simp only [World.frozen?] at h ⊢
    rw [hgw];exact h
   ·have hj5:j<5:=(List.getElem?_eq_some_iff.1 hj).1
    rw [hown.cellAt (m*5+j) (by omega),List.getElem?_append_right (by omega),show m*5+j - ksa.length=j by omega]
    exact hj
   ·exact fin_rows (W:=V) HXV.out rfl hTo hm H5.out hown hfar (hat.imp id (fun h=>by rw [h];exact hzV)) ((hgrow.os).trans (hBd'.trans (hba.mono hBd'.size)).os) ((hgrow.tape).trans (hBd'.trans (hba.mono hBd'.size)).tape) ((hgrow.output).trans (hBd'.trans (hba.mono hBd'.size)).output) (Nat.le_trans hzV hgrow.size) HKI.out hX)
  have HBDh:=hid hbd
  clear hTa hBd hbl hBd' hba hc4 hRowa hbd HBV6 HB6 hm
  go_upto_region 11 with fail
  refine wp_region_held_drew (S:=fun X:World=>X.heap[bp]?=some (.cells #[.string ky,.string ty,.int .i64 q2,.int .i64 q3,.slice ka K kc] 49 (0,0))) (by kernel_rfl) (by rw [hWd];exact HBDh.out) (fun hHeld=>?_)
  rw [hWd] at hHeld ⊢
  refine wpAnyH_take (i:=0) (oi:=OP.p21) (v:=.pointer (some ⟨g,r.length*6,none⟩)) rfl (by kernel_rfl) (by kernel_rfl) (by kernel_rfl) (fun _ _ _ h=>h) (Or.inl ⟨by rfl,fun X hX=>rfl⟩) hHeld ?_
  (try simp only [Act.put,List.setIfInBounds_toArray,List.set_cons_zero,List.set_cons_succ])
  refine wpAnyH_take (i:=1) (oi:=OP.p22) (v:=.pointer (some ⟨g,r.length*6,none⟩)) rfl (by kernel_rfl) (by kernel_rfl) (by kernel_rfl) (fun _ _ _ h=>h) (Or.inl ⟨by rfl,fun X hX=>rfl⟩) hHeld ?_
  (try simp only [Act.put,List.setIfInBounds_toArray,List.set_cons_zero,List.set_cons_succ])
  refine wpAnyH_take (i:=2) (oi:=OP.p23) (v:=.pointer (some ⟨g,r.length*6,none⟩)) rfl (by kernel_rfl) (by kernel_rfl) (by kernel_rfl) (fun _ _ _ h=>h) (Or.inl ⟨by rfl,fun X hX=>rfl⟩) hHeld ?_
  (try simp only [Act.put,List.setIfInBounds_toArray,List.set_cons_zero,List.set_cons_succ])
  refine wpAnyH_take (i:=3) (oi:=OP.p24) (v:=.pointer (some ⟨g,r.length*6+4,none⟩)) rfl (by kernel_rfl) (by kernel_rfl) (by kernel_rfl) (fun _ _ _ h=>h) (Or.inl ⟨by rfl,fun X hX=>rfl⟩) hHeld ?_
  (try simp only [Act.put,List.setIfInBounds_toArray,List.set_cons_zero,List.set_cons_succ])
  refine wpAnyH_take (i:=5) (oi:=OP.p25) (v:=.agg #[.string ky,.string ty,.int .i64 q2,.int .i64 q3,.slice ka K kc]) rfl (by kernel_rfl) (by kernel_rfl) (by kernel_rfl) (fun _ _ _ h=>h) (yields_load 49 (.tmp 2) rfl (by rfl) (fun X hX=>load_five hX)) hHeld ?_
  (try simp only [Act.put,List.setIfInBounds_toArray,List.set_cons_zero,List.set_cons_succ])
  refine wpAnyH_ready (rs:=[4,7]) (by kernel_rfl) (by simp) ?_
  refine (AllReadyH.cons (o:=OP.p26) rfl (fun K hK=>?_) (AllReadyH.cons (o:=OP.p27) rfl (fun K hK=>?_) AllReadyH.nil))
  ·refine wanted_step (by kernel_rfl) ?_
   have q4:=HC4.out
   go_simp
   refine hK.out _ _ (hHeld) (fun hHeld=>?_)
   (try simp only [Act.put,List.setIfInBounds_toArray,List.set_cons_zero,List.set_cons_succ])
   clear hK K
   clear q4
   refine wpAnyH_take (i:=6) (oi:=OP.p28) (v:=.int .i64 m) rfl (by kernel_rfl) (by kernel_rfl) (by kernel_rfl) (fun _ _ _ h=>h) (Or.inl ⟨by rfl,fun X hX=>by kernel_rfl⟩) hHeld ?_
   (try simp only [Act.put,List.setIfInBounds_toArray,List.set_cons_zero,List.set_cons_succ])
   refine wpAnyH_ready (rs:=[7]) (by kernel_rfl) (by simp) ?_
   refine (AllReadyH.cons (o:=OP.p27) rfl (fun K hK=>?_) AllReadyH.nil)
   refine wanted_step (by kernel_rfl) ?_
   go_simp
   refine hK.out _ _ (HSa.out) (fun hHeld=>?_)
   (try simp only [Act.put,List.setIfInBounds_toArray,List.set_cons_zero,List.set_cons_succ])
   clear hK K
   refine wpAnyH_ready (rs:=[8]) (by kernel_rfl) (by simp) ?_
   refine (AllReadyH.cons (o:=OP.p29) rfl (fun K hK=>?_) AllReadyH.nil)
   refine wanted_step (by kernel_rfl) ?_
   refine wp_append_lies _ (.tmp 64) (.tmp 67) 47 rfl 0 49 iP (.agg #[.string ⟨#[]⟩,.string ⟨#[]⟩,.int .i64 0,.int .i64 0,.slice none 0 0]) 5 72 Tryz.underlying47 hi0 hz0 hz1 hz2 rfl (by decide) (.slice qa m qc) m ksa rfl HRowa.out ⟨Wd.heap.size,0,none⟩ 1 1 [.string ⟨#[]⟩,.string ⟨#[]⟩,.int .i64 0,.int .i64 0,.slice none 0 0] rfl rfl (news_five Wd) five_one (by decide) (by unfold maxLen;omega) (by omega) (Nat.zero_le _) _ rfl ?_
   intro g7 c7 w7 hown hgrow hat hlt7
   obtain ⟨hb7,⟨h4,f4⟩,⟨n1,n2,n3,n4⟩,⟨hz,hzf⟩,hfin⟩:=HE.out g7 c7 w7 hown hgrow hat
   have HFin:=hid hfin
   have HZ:=hid hz
   have HZF:=hid hzf
   clear hown hgrow hat hfin hz hzf
   refine hK.out _ _ (hb7) (fun hHeld=>?_)
   (try simp only [Act.put,List.setIfInBounds_toArray,List.set_cons_zero,List.set_cons_succ])
   clear hK K
   refine wpAnyH_take (i:=9) (oi:=OP.p30) (v:=.pointer (some ⟨g7,m*5,none⟩)) rfl (by kernel_rfl) (by kernel_rfl) (by kernel_rfl) (fun _ _ _ h=>h) (Or.inl ⟨by rfl,fun X hX=>idx_part g7 m c7 X rfl rfl rfl⟩) hHeld ?_
   (try simp only [Act.put,List.setIfInBounds_toArray,List.set_cons_zero,List.set_cons_succ])
   refine wpAnyH_take (i:=11) (oi:=OP.p31) (v:=.pointer (some ⟨g,r.length*6,none⟩)) rfl (by kernel_rfl) (by kernel_rfl) (by kernel_rfl) (fun _ _ _ h=>h) (Or.inl ⟨by rfl,fun X hX=>rfl⟩) hHeld ?_
   (try simp only [Act.put,List.setIfInBounds_toArray,List.set_cons_zero,List.set_cons_succ])
   refine wpAnyH_take (i:=12) (oi:=OP.p32) (v:=.pointer (some ⟨g,r.length*6,none⟩)) rfl (by kernel_rfl) (by kernel_rfl) (by kernel_rfl) (fun _ _ _ h=>h) (Or.inl ⟨by rfl,fun X hX=>rfl⟩) hHeld ?_
   (try simp only [Act.put,List.setIfInBounds_toArray,List.set_cons_zero,List.set_cons_succ])
   refine wpAnyH_take (i:=13) (oi:=OP.p33) (v:=.pointer (some ⟨g,r.length*6+4,none⟩)) rfl (by kernel_rfl) (by kernel_rfl) (by kernel_rfl) (fun _ _ _ h=>h) (Or.inl ⟨by rfl,fun X hX=>rfl⟩) hHeld ?_
   (try simp only [Act.put,List.setIfInBounds_toArray,List.set_cons_zero,List.set_cons_succ])
   refine wpAnyH_ready (rs:=[10,14]) (by kernel_rfl) (by simp) ?_
   refine (AllReadyH.cons (o:=OP.p34) rfl (fun K hK=>?_) (AllReadyH.cons (o:=OP.p35) rfl (fun K hK=>?_) AllReadyH.nil))
   ·refine wanted_step (by kernel_rfl) ?_
    have z0:w7.cell? ⟨g7,m*5,none⟩=some (.string ⟨#[]⟩):=HZ.out 0 _ rfl
    have z1:w7.cell? ⟨g7,m*5+1,none⟩=some (.string ⟨#[]⟩):=HZ.out 1 _ rfl
    have z2:w7.cell? ⟨g7,m*5+2,none⟩=some (.int .i64 0):=HZ.out 2 _ rfl
    have z3:w7.cell? ⟨g7,m*5+3,none⟩=some (.int .i64 0):=HZ.out 3 _ rfl
    have z4:w7.cell? ⟨g7,m*5+4,none⟩=some (.slice none 0 0):=HZ.out 4 _ rfl
    have y0:=HZF.out (m*5)
    have y1:=HZF.out (m*5+1)
    have y2:=HZF.out (m*5+2)
    have y3:=HZF.out (m*5+3)
    have y4:=HZF.out (m*5+4)
    go_simp
    refine hK.out _ _ (by simp only [heap5 _ _ _ _ _ n3];exact hb7) (fun hHeld=>?_)
    (try simp only [Act.put,List.setIfInBounds_toArray,List.set_cons_zero,List.set_cons_succ])
    clear hK K
    clear z0 z1 z2 z3 z4 y0 y1 y2 y3 y4
    obtain ⟨Y,hY⟩:∃ Y,(((((w7.setCell ⟨g7,m*5,none⟩ (.string ky)).setCell ⟨g7,m*5+1,none⟩ (.string ty)).setCell ⟨g7,m*5+2,none⟩ (.int .i64 q2)).setCell ⟨g7,m*5+3,none⟩ (.int .i64 q3)).setCell ⟨g7,m*5+4,none⟩ (.slice ka K kc))=Y:=⟨_,rfl⟩
    have h4Y:Y.cell? ⟨g,r.length*6+4,none⟩=some (.slice qa m qc):=by rw [← hY];simp only [World.cell?,heap5 _ _ _ _ _ n2];exact h4
    have f4Y:Y.frozen? ⟨g,r.length*6+4,none⟩=false:=by rw [← hY];simp only [World.frozen?,heap5 _ _ _ _ _ n2];exact f4
    have hbY:Y.heap[bp]?=some (.cells #[.string ky,.string ty,.int .i64 q2,.int .i64 q3,.slice ka K kc] 49 (0,0)):=by rw [← hY,heap5 _ _ _ _ _ n3];exact hb7
    rw [hY]
    refine wpAnyH_ready (rs:=[14]) (by kernel_rfl) (by simp) ?_
    refine (AllReadyH.cons (o:=OP.p35) rfl (fun K hK=>?_) AllReadyH.nil)
    refine wanted_step (by kernel_rfl) ?_
    go_simp
    refine hK.out _ _ (by rw [Below.heap_setCell _ _ _ _ n4];exact hbY) (fun hHeld=>?_)
    (try simp only [Act.put,List.setIfInBounds_toArray,List.set_cons_zero,List.set_cons_succ])
    clear hK K
    refine wpAnyH_done (by kernel_rfl) ?_ _
    obtain ⟨x5,xf,O9,hM9,hS9⟩:=HFin.out _ (.inl (by rw [hY]))
    clear h4Y f4Y hbY h4 f4 hY hb7 HZ HZF HFin
    have HM9:=hid hM9
    have HS9:=hid hS9
    clear hM9 hS9
    generalize Y.setCell ⟨g,r.length*6+4,none⟩ (.slice (some ⟨g7,0,none⟩) (m+1) c7)=Z at x5 xf HM9 HS9 ⊢
    go_wp2_with fail
    first|go_end0|refine bodyPost_ret (results_none rfl _ _ _) rfl ?_
    exact ⟨rfl,O9,by rw [Hff.out];exact HM9.out,HSV.out.trans HS9.out⟩
   ·refine wanted_step (by kernel_rfl) ?_
    go_simp
    refine hK.out _ _ (by rw [Below.heap_setCell _ _ _ _ n4];exact hb7) (fun hHeld=>?_)
    (try simp only [Act.put,List.setIfInBounds_toArray,List.set_cons_zero,List.set_cons_succ])
    clear hK K
    obtain ⟨Z,hZ⟩:∃ Z,w7.setCell ⟨g,r.length*6+4,none⟩ (.slice (some ⟨g7,0,none⟩) (m+1) c7)=Z:=⟨_,rfl⟩
    have hz7:Z.heap[g7]?=w7.heap[g7]?:=by rw [← hZ];exact Below.heap_setCell _ _ _ _ n1
    have z0:Z.cell? ⟨g7,m*5,none⟩=some (.string ⟨#[]⟩):=by have h:=HZ.out 0 _ rfl;simp only [World.cell?] at h ⊢;rw [hz7];exact h
    have z1:Z.cell? ⟨g7,m*5+1,none⟩=some (.string ⟨#[]⟩):=by have h:=HZ.out 1 _ rfl;simp only [World.cell?] at h ⊢;rw [hz7];exact h
    have z2:Z.cell? ⟨g7,m*5+2,none⟩=some (.int .i64 0):=by have h:=HZ.out 2 _ rfl;simp only [World.cell?] at h ⊢;rw [hz7];exact h
    have z3:Z.cell? ⟨g7,m*5+3,none⟩=some (.int .i64 0):=by have h:=HZ.out 3 _ rfl;simp only [World.cell?] at h ⊢;rw [hz7];exact h
    have z4:Z.cell? ⟨g7,m*5+4,none⟩=some (.slice none 0 0):=by have h:=HZ.out 4 _ rfl;simp only [World.cell?] at h ⊢;rw [hz7];exact h
    have y0:Z.frozen? ⟨g7,m*5,none⟩=false:=by have h:=HZF.out (m*5);simp only [World.frozen?] at h ⊢;rw [hz7];exact h
    have y1:Z.frozen? ⟨g7,m*5+1,none⟩=false:=by have h:=HZF.out (m*5+1);simp only [World.frozen?] at h ⊢;rw [hz7];exact h
    have y2:Z.frozen? ⟨g7,m*5+2,none⟩=false:=by have h:=HZF.out (m*5+2);simp only [World.frozen?] at h ⊢;rw [hz7];exact h
    have y3:Z.frozen? ⟨g7,m*5+3,none⟩=false:=by have h:=HZF.out (m*5+3);simp only [World.frozen?] at h ⊢;rw [hz7];exact h
    have y4:Z.frozen? ⟨g7,m*5+4,none⟩=false:=by have h:=HZF.out (m*5+4);simp only [World.frozen?] at h ⊢;rw [hz7];exact h
    have hbZ:Z.heap[bp]?=some (.cells #[.string ky,.string ty,.int .i64 q2,.int .i64 q3,.slice ka K kc] 49 (0,0)):=by rw [← hZ,Below.heap_setCell _ _ _ _ n4];exact hb7
    rw [hZ]
    clear hz7
    refine wpAnyH_ready (rs:=[10]) (by kernel_rfl) (by simp) ?_
    refine (AllReadyH.cons (o:=OP.p34) rfl (fun K hK=>?_) AllReadyH.nil)
    refine wanted_step (by kernel_rfl) ?_
    go_simp
    refine hK.out _ _ (by rw [heap5 _ _ _ _ _ n3];exact hbZ) (fun hHeld=>?_)
    (try simp only [Act.put,List.setIfInBounds_toArray,List.set_cons_zero,List.set_cons_succ])
    clear hK K
    refine wpAnyH_done (by kernel_rfl) ?_ _
    obtain ⟨x5,xf,O9,hM9,hS9⟩:=HFin.out _ (.inr (by rw [hZ]))
    clear z0 z1 z2 z3 z4 y0 y1 y2 y3 y4 h4 f4 hZ hb7 hbZ HZ HZF HFin
    have HM9:=hid hM9
    have HS9:=hid hS9
    clear hM9 hS9
    generalize (((((Z.setCell ⟨g7,m*5,none⟩ (.string ky)).setCell ⟨g7,m*5+1,none⟩ (.string ty)).setCell ⟨g7,m*5+2,none⟩ (.int .i64 q2)).setCell ⟨g7,m*5+3,none⟩ (.int .i64 q3)).setCell ⟨g7,m*5+4,none⟩ (.slice ka K kc))=Y at x5 xf HM9 HS9 ⊢
    go_wp2_with fail
    first|go_end0|refine bodyPost_ret (results_none rfl _ _ _) rfl ?_
    exact ⟨rfl,O9,by rw [Hff.out];exact HM9.out,HSV.out.trans HS9.out⟩
  ·refine wanted_step (by kernel_rfl) ?_
   go_simp
   refine hK.out _ _ (HSa.out) (fun hHeld=>?_)
   (try simp only [Act.put,List.setIfInBounds_toArray,List.set_cons_zero,List.set_cons_succ])
   clear hK K
   refine wpAnyH_ready (rs:=[4]) (by kernel_rfl) (by simp) ?_
   refine (AllReadyH.cons (o:=OP.p26) rfl (fun K hK=>?_) AllReadyH.nil)
   refine wanted_step (by kernel_rfl) ?_
   have q4:=HC4a.out
   go_simp
   refine hK.out _ _ (HSa.out) (fun hHeld=>?_)
   (try simp only [Act.put,List.setIfInBounds_toArray,List.set_cons_zero,List.set_cons_succ])
   clear hK K
   clear q4
   refine wpAnyH_take (i:=6) (oi:=OP.p28) (v:=.int .i64 m) rfl (by kernel_rfl) (by kernel_rfl) (by kernel_rfl) (fun _ _ _ h=>h) (Or.inl ⟨by rfl,fun X hX=>by kernel_rfl⟩) hHeld ?_
   (try simp only [Act.put,List.setIfInBounds_toArray,List.set_cons_zero,List.set_cons_succ])
   refine wpAnyH_ready (rs:=[8]) (by kernel_rfl) (by simp) ?_
   refine (AllReadyH.cons (o:=OP.p29) rfl (fun K hK=>?_) AllReadyH.nil)
   refine wanted_step (by kernel_rfl) ?_
   refine wp_append_lies _ (.tmp 64) (.tmp 67) 47 rfl 0 49 iP (.agg #[.string ⟨#[]⟩,.string ⟨#[]⟩,.int .i64 0,.int .i64 0,.slice none 0 0]) 5 72 Tryz.underlying47 hi0 hz0 hz1 hz2 rfl (by decide) (.slice qa m qc) m ksa rfl HRowa.out ⟨Wd.heap.size,0,none⟩ 1 1 [.string ⟨#[]⟩,.string ⟨#[]⟩,.int .i64 0,.int .i64 0,.slice none 0 0] rfl rfl (news_five Wd) five_one (by decide) (by unfold maxLen;omega) (by omega) (Nat.zero_le _) _ rfl ?_
   intro g7 c7 w7 hown hgrow hat hlt7
   obtain ⟨hb7,⟨h4,f4⟩,⟨n1,n2,n3,n4⟩,⟨hz,hzf⟩,hfin⟩:=HE.out g7 c7 w7 hown hgrow hat
   have HFin:=hid hfin
   have HZ:=hid hz
   have HZF:=hid hzf
   clear hown hgrow hat hfin hz hzf
   refine hK.out _ _ (hb7) (fun hHeld=>?_)
   (try simp only [Act.put,List.setIfInBounds_toArray,List.set_cons_zero,List.set_cons_succ])
   clear hK K
   refine wpAnyH_take (i:=9) (oi:=OP.p30) (v:=.pointer (some ⟨g7,m*5,none⟩)) rfl (by kernel_rfl) (by kernel_rfl) (by kernel_rfl) (fun _ _ _ h=>h) (Or.inl ⟨by rfl,fun X hX=>idx_part g7 m c7 X rfl rfl rfl⟩) hHeld ?_
   (try simp only [Act.put,List.setIfInBounds_toArray,List.set_cons_zero,List.set_cons_succ])
   refine wpAnyH_take (i:=11) (oi:=OP.p31) (v:=.pointer (some ⟨g,r.length*6,none⟩)) rfl (by kernel_rfl) (by kernel_rfl) (by kernel_rfl) (fun _ _ _ h=>h) (Or.inl ⟨by rfl,fun X hX=>rfl⟩) hHeld ?_
   (try simp only [Act.put,List.setIfInBounds_toArray,List.set_cons_zero,List.set_cons_succ])
   refine wpAnyH_take (i:=12) (oi:=OP.p32) (v:=.pointer (some ⟨g,r.length*6,none⟩)) rfl (by kernel_rfl) (by kernel_rfl) (by kernel_rfl) (fun _ _ _ h=>h) (Or.inl ⟨by rfl,fun X hX=>rfl⟩) hHeld ?_
   (try simp only [Act.put,List.setIfInBounds_toArray,List.set_cons_zero,List.set_cons_succ])
   refine wpAnyH_take (i:=13) (oi:=OP.p33) (v:=.pointer (some ⟨g,r.length*6+4,none⟩)) rfl (by kernel_rfl) (by kernel_rfl) (by kernel_rfl) (fun _ _ _ h=>h) (Or.inl ⟨by rfl,fun X hX=>rfl⟩) hHeld ?_
   (try simp only [Act.put,List.setIfInBounds_toArray,List.set_cons_zero,List.set_cons_succ])
   refine wpAnyH_ready (rs:=[10,14]) (by kernel_rfl) (by simp) ?_
   refine (AllReadyH.cons (o:=OP.p34) rfl (fun K hK=>?_) (AllReadyH.cons (o:=OP.p35) rfl (fun K hK=>?_) AllReadyH.nil))
   ·refine wanted_step (by kernel_rfl) ?_
    have z0:w7.cell? ⟨g7,m*5,none⟩=some (.string ⟨#[]⟩):=HZ.out 0 _ rfl
    have z1:w7.cell? ⟨g7,m*5+1,none⟩=some (.string ⟨#[]⟩):=HZ.out 1 _ rfl
    have z2:w7.cell? ⟨g7,m*5+2,none⟩=some (.int .i64 0):=HZ.out 2 _ rfl
    have z3:w7.cell? ⟨g7,m*5+3,none⟩=some (.int .i64 0):=HZ.out 3 _ rfl
    have z4:w7.cell? ⟨g7,m*5+4,none⟩=some (.slice none 0 0):=HZ.out 4 _ rfl
    have y0:=HZF.out (m*5)
    have y1:=HZF.out (m*5+1)
    have y2:=HZF.out (m*5+2)
    have y3:=HZF.out (m*5+3)
    have y4:=HZF.out (m*5+4)
    go_simp
    refine hK.out _ _ (by simp only [heap5 _ _ _ _ _ n3];exact hb7) (fun hHeld=>?_)
    (try simp only [Act.put,List.setIfInBounds_toArray,List.set_cons_zero,List.set_cons_succ])
    clear hK K
    clear z0 z1 z2 z3 z4 y0 y1 y2 y3 y4
    obtain ⟨Y,hY⟩:∃ Y,(((((w7.setCell ⟨g7,m*5,none⟩ (.string ky)).setCell ⟨g7,m*5+1,none⟩ (.string ty)).setCell ⟨g7,m*5+2,none⟩ (.int .i64 q2)).setCell ⟨g7,m*5+3,none⟩ (.int .i64 q3)).setCell ⟨g7,m*5+4,none⟩ (.slice ka K kc))=Y:=⟨_,rfl⟩
    have h4Y:Y.cell? ⟨g,r.length*6+4,none⟩=some (.slice qa m qc):=by rw [← hY];simp only [World.cell?,heap5 _ _ _ _ _ n2];exact h4
    have f4Y:Y.frozen? ⟨g,r.length*6+4,none⟩=false:=by rw [← hY];simp only [World.frozen?,heap5 _ _ _ _ _ n2];exact f4
    have hbY:Y.heap[bp]?=some (.cells #[.string ky,.string ty,.int .i64 q2,.int .i64 q3,.slice ka K kc] 49 (0,0)):=by rw [← hY,heap5 _ _ _ _ _ n3];exact hb7
    rw [hY]
    refine wpAnyH_ready (rs:=[14]) (by kernel_rfl) (by simp) ?_
    refine (AllReadyH.cons (o:=OP.p35) rfl (fun K hK=>?_) AllReadyH.nil)
    refine wanted_step (by kernel_rfl) ?_
    go_simp
    refine hK.out _ _ (by rw [Below.heap_setCell _ _ _ _ n4];exact hbY) (fun hHeld=>?_)
    (try simp only [Act.put,List.setIfInBounds_toArray,List.set_cons_zero,List.set_cons_succ])
    clear hK K
    refine wpAnyH_done (by kernel_rfl) ?_ _
    obtain ⟨x5,xf,O9,hM9,hS9⟩:=HFin.out _ (.inl (by rw [hY]))
    clear h4Y f4Y hbY h4 f4 hY hb7 HZ HZF HFin
    have HM9:=hid hM9
    have HS9:=hid hS9
    clear hM9 hS9
    generalize Y.setCell ⟨g,r.length*6+4,none⟩ (.slice (some ⟨g7,0,none⟩) (m+1) c7)=Z at x5 xf HM9 HS9 ⊢
    go_wp2_with fail
    first|go_end0|refine bodyPost_ret (results_none rfl _ _ _) rfl ?_
    exact ⟨rfl,O9,by rw [Hff.out];exact HM9.out,HSV.out.trans HS9.out⟩
   ·refine wanted_step (by kernel_rfl) ?_
    go_simp
    refine hK.out _ _ (by rw [Below.heap_setCell _ _ _ _ n4];exact hb7) (fun hHeld=>?_)
    (try simp only [Act.put,List.setIfInBounds_toArray,List.set_cons_zero,List.set_cons_succ])
    clear hK K
    obtain ⟨Z,hZ⟩:∃ Z,w7.setCell ⟨g,r.length*6+4,none⟩ (.slice (some ⟨g7,0,none⟩) (m+1) c7)=Z:=⟨_,rfl⟩
    have hz7:Z.heap[g7]?=w7.heap[g7]?:=by rw [← hZ];exact Below.heap_setCell _ _ _ _ n1
    have z0:Z.cell? ⟨g7,m*5,none⟩=some (.string ⟨#[]⟩):=by have h:=HZ.out 0 _ rfl;simp only [World.cell?] at h ⊢;rw [hz7];exact h
    have z1:Z.cell? ⟨g7,m*5+1,none⟩=some (.string ⟨#[]⟩):=by have h:=HZ.out 1 _ rfl;simp only [World.cell?] at h ⊢;rw [hz7];exact h
    have z2:Z.cell? ⟨g7,m*5+2,none⟩=some (.int .i64 0):=by have h:=HZ.out 2 _ rfl;simp only [World.cell?] at h ⊢;rw [hz7];exact h
    have z3:Z.cell? ⟨g7,m*5+3,none⟩=some (.int .i64 0):=by have h:=HZ.out 3 _ rfl;simp only [World.cell?] at h ⊢;rw [hz7];exact h
    have z4:Z.cell? ⟨g7,m*5+4,none⟩=some (.slice none 0 0):=by have h:=HZ.out 4 _ rfl;simp only [World.cell?] at h ⊢;rw [hz7];exact h
    have y0:Z.frozen? ⟨g7,m*5,none⟩=false:=by have h:=HZF.out (m*5);simp only [World.frozen?] at h ⊢;rw [hz7];exact h
    have y1:Z.frozen? ⟨g7,m*5+1,none⟩=false:=by have h:=HZF.out (m*5+1);simp only [World.frozen?] at h ⊢;rw [hz7];exact h
    have y2:Z.frozen? ⟨g7,m*5+2,none⟩=false:=by have h:=HZF.out (m*5+2);simp only [World.frozen?] at h ⊢;rw [hz7];exact h
    have y3:Z.frozen? ⟨g7,m*5+3,none⟩=false:=by have h:=HZF.out (m*5+3);simp only [World.frozen?] at h ⊢;rw [hz7];exact h
    have y4:Z.frozen? ⟨g7,m*5+4,none⟩=false:=by have h:=HZF.out (m*5+4);simp only [World.frozen?] at h ⊢;rw [hz7];exact h
    have hbZ:Z.heap[bp]?=some (.cells #[.string ky,.string ty,.int .i64 q2,.int .i64 q3,.slice ka K kc] 49 (0,0)):=by rw [← hZ,Below.heap_setCell _ _ _ _ n4];exact hb7
    rw [hZ]
    clear hz7
    refine wpAnyH_ready (rs:=[10]) (by kernel_rfl) (by simp) ?_
    refine (AllReadyH.cons (o:=OP.p34) rfl (fun K hK=>?_) AllReadyH.nil)
    refine wanted_step (by kernel_rfl) ?_
    go_simp
    refine hK.out _ _ (by rw [heap5 _ _ _ _ _ n3];exact hbZ) (fun hHeld=>?_)
    (try simp only [Act.put,List.setIfInBounds_toArray,List.set_cons_zero,List.set_cons_succ])
    clear hK K
    refine wpAnyH_done (by kernel_rfl) ?_ _
    obtain ⟨x5,xf,O9,hM9,hS9⟩:=HFin.out _ (.inr (by rw [hZ]))
    clear z0 z1 z2 z3 z4 y0 y1 y2 y3 y4 h4 f4 hZ hb7 hbZ HZ HZF HFin
    have HM9:=hid hM9
    have HS9:=hid hS9
    clear hM9 hS9
    generalize (((((Z.setCell ⟨g7,m*5,none⟩ (.string ky)).setCell ⟨g7,m*5+1,none⟩ (.string ty)).setCell ⟨g7,m*5+2,none⟩ (.int .i64 q2)).setCell ⟨g7,m*5+3,none⟩ (.int .i64 q3)).setCell ⟨g7,m*5+4,none⟩ (.slice ka K kc))=Y at x5 xf HM9 HS9 ⊢
    go_wp2_with fail
    first|go_end0|refine bodyPost_ret (results_none rfl _ _ _) rfl ?_
    exact ⟨rfl,O9,by rw [Hff.out];exact HM9.out,HSV.out.trans HS9.out⟩
 case inr.inl.inr =>
  go_wp2_with fail
  refine cS.mono ?_
  rintro e vs ⟨rfl,m1,rfl⟩
  dsimp only
  obtain ⟨n2,n3,n4,n5,n6⟩:=HSt.out m1
  obtain ⟨hb5,hbv5⟩:=HKey.out m1
  have HB5:=hid hb5
  have HBV5:=hid hbv5
  clear hb4 hb5 hbv5 p0 p1 p2 p3 p4 z0 z1 z2 z3 z4 HKey HSt
  generalize W4.drewN m1=W4' at n2 n3 n4 n5 n6 HB5 HBV5 ⊢
  go_wp2_with fail
  clear n2 n3 n4 n5 n6 cS h1 h2 h3
  generalize ((W4'.setCell ⟨bp,2,none⟩ (.int .i64 q2)).setCell ⟨bp,3,none⟩ (.int .i64 q3))=W5 at HB5 HBV5 ⊢
  obtain ⟨g',c',kva,ksa,usa,bsa,hTa⟩:=top_of HXV.out (o:=a) (r:=r) rfl
  have hgc:=hTa.hov
  simp only [Value.slice.injEq,Option.some.injEq,Addr.mk.injEq,and_true] at hgc
  obtain ⟨rfl,_,rfl⟩:=hgc
  have hrl:r.length≤1000000:=by have:=HRR.out;omega
  have cA:=top_any HXV.out hTa hrl (by rw [HVs.out];exact HBV5.out:Below V.heap.size V W5)
  refine cA.mono ?_
  rintro e v6 ⟨rfl,m2,rfl⟩
  dsimp only
  clear cA
  have HB6:Hid ((W5.drewN m2).heap[bp]?=some (.cells #[.string ky,.string ty,.int .i64 q2,.int .i64 q3,.slice ka K kc] 49 (0,0))):=hid HB5.out
  have HBV6:Hid (Below W.heap.size V (W5.drewN m2)):=hid (HBV5.out.trans ⟨rfl,rfl,rfl,Nat.le_refl _,fun _ _=>rfl⟩)
  clear HB5 HBV5
  generalize W5.drewN m2=W6 at HB6 HBV6 ⊢
  obtain ⟨qa,qc,rfl⟩:=owns_len hTa.own
  obtain ⟨m,hm⟩:∃ m,a.kids.length=m:=⟨_,rfl⟩
  have hml:m≤1000000:=by rw [← hm];exact hs.kids a (by rw [ho];exact List.mem_cons_of_mem _ List.mem_cons_self)
  rw [hm] at hTa
  obtain ⟨iP,hi0,hz0,hz1,hz2⟩:=info_parts infoP
  obtain ⟨Wd,hWd⟩:∃ Wd,W6.drew=Wd:=⟨_,rfl⟩
  have hBd:Below W.heap.size V Wd:=by rw [← hWd];exact HBV6.out.drew
  have hbd:Wd.heap[bp]?=some (.cells #[.string ky,.string ty,.int .i64 q2,.int .i64 q3,.slice ka K kc] 49 (0,0)):=by rw [← hWd];exact HB6.out
  have hbl:bp<Wd.heap.size:=(Array.getElem?_eq_some_iff.1 hbd).1
  have hBd':Below V.heap.size V Wd:=by rw [HVs.out];exact hBd
  have hba:Below Wd.heap.size Wd (Wd.alloc (.cells #[.string ⟨#[]⟩,.string ⟨#[]⟩,.int .i64 0,.int .i64 0,.slice none 0 0] 49)):=(Below.refl _ _).alloc (Nat.le_refl _) _
  have HSa:Hid ((Wd.alloc (.cells #[.string ⟨#[]⟩,.string ⟨#[]⟩,.int .i64 0,.int .i64 0,.slice none 0 0] 49)).heap[bp]?=some (.cells #[.string ky,.string ty,.int .i64 q2,.int .i64 q3,.slice ka K kc] 49 (0,0))):=hid ((hba.block bp hbl).trans hbd)
  have HTl:Hid (TopAt d O2 a r (.slice (some ⟨g,0,none⟩) R c) bs1 us1 V g c (.slice qa m qc) ksa usa bsa):=hid hTa
  have hc4:=hTa.cell 4 _ rfl
  have HC4:Hid (Wd.cell? ⟨g,r.length*6+4,none⟩=some (.slice qa m qc)):=hid ((hBd'.cell (p:=⟨g,r.length*6+4,none⟩) hTa.lt).trans hc4)
  have HC4a:Hid ((Wd.alloc (.cells #[.string ⟨#[]⟩,.string ⟨#[]⟩,.int .i64 0,.int .i64 0,.slice none 0 0] 49)).cell? ⟨g,r.length*6+4,none⟩=some (.slice qa m qc)):=hid (((hBd'.trans (hba.mono hBd'.size)).cell (p:=⟨g,r.length*6+4,none⟩) hTa.lt).trans hc4)
  have hRowa:(Wd.alloc (.cells #[.string ⟨#[]⟩,.string ⟨#[]⟩,.int .i64 0,.int .i64 0,.slice none 0 0] 49)).ownsRow 0 49 5 (.slice qa m qc) m ksa:=owns_later (by have h:=hTa.own;rw [hm] at h;exact h) (hBd'.trans (hba.mono hBd'.size))
  have HRowa:=hid hRowa
  have HE:Hid (∀ (g7 c7:Nat) (w7:World),w7.ownsRow 0 49 5 (.slice (some ⟨g7,0,none⟩) (m+1) c7) (m+1) (ksa++[.string ⟨#[]⟩,.string ⟨#[]⟩,.int .i64 0,.int .i64 0,.slice none 0 0])→(Wd.alloc (.cells #[.string ⟨#[]⟩,.string ⟨#[]⟩,.int .i64 0,.int .i64 0,.slice none 0 0] 49)).grownBy w7 (Value.slice qa m qc).ownBlock→((Value.slice qa m qc).ownBlock=some g7∨g7=(Wd.alloc (.cells #[.string ⟨#[]⟩,.string ⟨#[]⟩,.int .i64 0,.int .i64 0,.slice none 0 0] 49)).heap.size) →
    w7.heap[bp]?=some (.cells #[.string ky,.string ty,.int .i64 q2,.int .i64 q3,.slice ka K kc] 49 (0,0))∧(w7.cell? ⟨g,r.length*6+4,none⟩=some (.slice qa m qc)∧w7.frozen? ⟨g,r.length*6+4,none⟩=false)∧(g7≠g∧g≠g7∧bp≠g7∧bp≠g) ∧
    ((∀ j u,([.string ⟨#[]⟩,.string ⟨#[]⟩,.int .i64 0,.int .i64 0,.slice none 0 0]:List Value)[j]?=some u→w7.cell? ⟨g7,m*5+j,none⟩=some u)∧∀ j,w7.frozen? ⟨g7,j,none⟩=false) ∧
    ∀ X,(X=(((((w7.setCell ⟨g7,m*5,none⟩ (.string ky)).setCell ⟨g7,m*5+1,none⟩ (.string ty)).setCell ⟨g7,m*5+2,none⟩ (.int .i64 q2)).setCell ⟨g7,m*5+3,none⟩ (.int .i64 q3)).setCell ⟨g7,m*5+4,none⟩ (.slice ka K kc)).setCell ⟨g,r.length*6+4,none⟩ (.slice (some ⟨g7,0,none⟩) (m+1) c7)∨X=((((((w7.setCell ⟨g,r.length*6+4,none⟩ (.slice (some ⟨g7,0,none⟩) (m+1) c7)).setCell ⟨g7,m*5,none⟩ (.string ky)).setCell ⟨g7,m*5+1,none⟩ (.string ty)).setCell ⟨g7,m*5+2,none⟩ (.int .i64 q2)).setCell ⟨g7,m*5+3,none⟩ (.int .i64 q3)).setCell ⟨g7,m*5+4,none⟩ (.slice ka K kc)))→X.cell? ⟨g,r.length*6+5,none⟩=some (.int .i64 a.kf)∧X.frozen? ⟨g,r.length*6+5,none⟩=false∧∃ O',Mem d L size lv { ({ s with opn:=a :: r }:St) with opn:=a.add p of :: r } O' (X.setCell ⟨g,r.length*6+5,none⟩ (.int .i64 of))∧Stay O2 O' V (X.setCell ⟨g,r.length*6+5,none⟩ (.int .i64 of))):=hid (by
   intro g7 c7 w7 hown hgrow hat
   have hTo:=HTl.out
   have hzV:V.heap.size≤(Wd.alloc (.cells #[.string ⟨#[]⟩,.string ⟨#[]⟩,.int .i64 0,.int .i64 0,.slice none 0 0] 49)).heap.size:=(hBd'.trans (hba.mono hBd'.size)).size
   have hfar:∀ k,k<V.heap.size→(Value.slice qa m qc).ownBlock≠some k→w7.heap[k]?=V.heap[k]?:=fun k h1 h2=>(hgrow.block k (Nat.lt_of_lt_of_le h1 hzV) (fun e=>h2 e.symm)).trans ((hBd'.trans (hba.mono hBd'.size)).block k h1)
   have hkg:(Value.slice qa m qc).ownBlock≠some g:=fun e=>absurd ((owns_ty hTo.own e).one hTo.ty) (by decide)
   have hgw:=hfar g hTo.lt hkg
   have hbpV:V.heap.size≤bp:=by rw [HVs.out];exact HbW.out
   have hkb:∀ k,(Value.slice qa m qc).ownBlock=some k→k<V.heap.size:=fun k h=>(hTo.own.lt k h).2
   have hbp7:w7.heap[bp]?=some (.cells #[.string ky,.string ty,.int .i64 q2,.int .i64 q3,.slice ka K kc] 49 (0,0)):=(hgrow.block bp (Nat.lt_of_lt_of_le hbl hba.size) (fun e=>by have:=hkb bp e.symm;omega)).trans HSa.out
   have hg7g:g7≠g:=fun e=>by
    obtain ⟨cs,fr,h2⟩:=hTo.ty
    have h1:Ty w7 g7 49:=owns_ty hown (k:=g7) rfl
    rw [e] at h1
    exact absurd (h1.one ⟨cs,fr,hgw.trans h2⟩) (by decide)
   have hbg7:bp≠g7:=fun e=>by
    rcases hat with h|h
    ·have:=hkb g7 h;omega
    ·have:=hba.size;rw [World.size_alloc] at h;omega
   have hbg:bp≠g:=fun e=>by have:=hTo.lt;omega
   have hlk:ksa.length=m*5:=hRowa.1
   refine ⟨hbp7,⟨?_,?_⟩,⟨hg7g,hg7g.symm,hbg7,hbg⟩,⟨fun j u hj=>?_,fun j=>hown.frozenAt j⟩,fun X hX=>?_⟩
   ·have h:=hTo.cell 4 _ rfl
    simp only [World.cell?] at h ⊢
    rw [hgw];exact h
   ·have h:=hTo.frozen (r.length*6+4)
    simp only [World.frozen?] at h ⊢
    rw [hgw];exact h
   ·have hj5:j<5:=(List.getElem?_eq_some_iff.1 hj).1
    rw [hown.cellAt (m*5+j) (by omega),List.getElem?_append_right (by omega),show m*5+j - ksa.length=j by omega]
    exact hj
   ·exact fin_rows (W:=V) HXV.out rfl hTo hm H5.out hown hfar (hat.imp id (fun h=>by rw [h];exact hzV)) ((hgrow.os).trans (hBd'.trans (hba.mono hBd'.size)).os) ((hgrow.tape).trans (hBd'.trans (hba.mono hBd'.size)).tape) ((hgrow.output).trans (hBd'.trans (hba.mono hBd'.size)).output) (Nat.le_trans hzV hgrow.size) HKI.out hX)
  have HBDh:=hid hbd
  clear hTa hBd hbl hBd' hba hc4 hRowa hbd HBV6 HB6 hm
  go_upto_region 11 with fail
  refine wp_region_held_drew (S:=fun X:World=>X.heap[bp]?=some (.cells #[.string ky,.string ty,.int .i64 q2,.int .i64 q3,.slice ka K kc] 49 (0,0))) (by kernel_rfl) (by rw [hWd];exact HBDh.out) (fun hHeld=>?_)
  rw [hWd] at hHeld ⊢
  refine wpAnyH_take (i:=0) (oi:=OP.p21) (v:=.pointer (some ⟨g,r.length*6,none⟩)) rfl (by kernel_rfl) (by kernel_rfl) (by kernel_rfl) (fun _ _ _ h=>h) (Or.inl ⟨by rfl,fun X hX=>rfl⟩) hHeld ?_
  (try simp only [Act.put,List.setIfInBounds_toArray,List.set_cons_zero,List.set_cons_succ])
  refine wpAnyH_take (i:=1) (oi:=OP.p22) (v:=.pointer (some ⟨g,r.length*6,none⟩)) rfl (by kernel_rfl) (by kernel_rfl) (by kernel_rfl) (fun _ _ _ h=>h) (Or.inl ⟨by rfl,fun X hX=>rfl⟩) hHeld ?_
  (try simp only [Act.put,List.setIfInBounds_toArray,List.set_cons_zero,List.set_cons_succ])
  refine wpAnyH_take (i:=2) (oi:=OP.p23) (v:=.pointer (some ⟨g,r.length*6,none⟩)) rfl (by kernel_rfl) (by kernel_rfl) (by kernel_rfl) (fun _ _ _ h=>h) (Or.inl ⟨by rfl,fun X hX=>rfl⟩) hHeld ?_
  (try simp only [Act.put,List.setIfInBounds_toArray,List.set_cons_zero,List.set_cons_succ])
  refine wpAnyH_take (i:=3) (oi:=OP.p24) (v:=.pointer (some ⟨g,r.length*6+4,none⟩)) rfl (by kernel_rfl) (by kernel_rfl) (by kernel_rfl) (fun _ _ _ h=>h) (Or.inl ⟨by rfl,fun X hX=>rfl⟩) hHeld ?_
  (try simp only [Act.put,List.setIfInBounds_toArray,List.set_cons_zero,List.set_cons_succ])
  refine wpAnyH_take (i:=5) (oi:=OP.p25) (v:=.agg #[.string ky,.string ty,.int .i64 q2,.int .i64 q3,.slice ka K kc]) rfl (by kernel_rfl) (by kernel_rfl) (by kernel_rfl) (fun _ _ _ h=>h) (yields_load 49 (.tmp 2) rfl (by rfl) (fun X hX=>load_five hX)) hHeld ?_
  (try simp only [Act.put,List.setIfInBounds_toArray,List.set_cons_zero,List.set_cons_succ])
  refine wpAnyH_ready (rs:=[4,7]) (by kernel_rfl) (by simp) ?_
  refine (AllReadyH.cons (o:=OP.p26) rfl (fun K hK=>?_) (AllReadyH.cons (o:=OP.p27) rfl (fun K hK=>?_) AllReadyH.nil))
  ·refine wanted_step (by kernel_rfl) ?_
   have q4:=HC4.out
   go_simp
   refine hK.out _ _ (hHeld) (fun hHeld=>?_)
   (try simp only [Act.put,List.setIfInBounds_toArray,List.set_cons_zero,List.set_cons_succ])
   clear hK K
   clear q4
   refine wpAnyH_take (i:=6) (oi:=OP.p28) (v:=.int .i64 m) rfl (by kernel_rfl) (by kernel_rfl) (by kernel_rfl) (fun _ _ _ h=>h) (Or.inl ⟨by rfl,fun X hX=>by kernel_rfl⟩) hHeld ?_
   (try simp only [Act.put,List.setIfInBounds_toArray,List.set_cons_zero,List.set_cons_succ])
   refine wpAnyH_ready (rs:=[7]) (by kernel_rfl) (by simp) ?_
   refine (AllReadyH.cons (o:=OP.p27) rfl (fun K hK=>?_) AllReadyH.nil)
   refine wanted_step (by kernel_rfl) ?_
   go_simp
   refine hK.out _ _ (HSa.out) (fun hHeld=>?_)
   (try simp only [Act.put,List.setIfInBounds_toArray,List.set_cons_zero,List.set_cons_succ])
   clear hK K
   refine wpAnyH_ready (rs:=[8]) (by kernel_rfl) (by simp) ?_
   refine (AllReadyH.cons (o:=OP.p29) rfl (fun K hK=>?_) AllReadyH.nil)
   refine wanted_step (by kernel_rfl) ?_
   refine wp_append_lies _ (.tmp 64) (.tmp 67) 47 rfl 0 49 iP (.agg #[.string ⟨#[]⟩,.string ⟨#[]⟩,.int .i64 0,.int .i64 0,.slice none 0 0]) 5 72 Tryz.underlying47 hi0 hz0 hz1 hz2 rfl (by decide) (.slice qa m qc) m ksa rfl HRowa.out ⟨Wd.heap.size,0,none⟩ 1 1 [.string ⟨#[]⟩,.string ⟨#[]⟩,.int .i64 0,.int .i64 0,.slice none 0 0] rfl rfl (news_five Wd) five_one (by decide) (by unfold maxLen;omega) (by omega) (Nat.zero_le _) _ rfl ?_
   intro g7 c7 w7 hown hgrow hat hlt7
   obtain ⟨hb7,⟨h4,f4⟩,⟨n1,n2,n3,n4⟩,⟨hz,hzf⟩,hfin⟩:=HE.out g7 c7 w7 hown hgrow hat
   have HFin:=hid hfin
   have HZ:=hid hz
   have HZF:=hid hzf
   clear hown hgrow hat hfin hz hzf
   refine hK.out _ _ (hb7) (fun hHeld=>?_)
   (try simp only [Act.put,List.setIfInBounds_toArray,List.set_cons_zero,List.set_cons_succ])
   clear hK K
   refine wpAnyH_take (i:=9) (oi:=OP.p30) (v:=.pointer (some ⟨g7,m*5,none⟩)) rfl (by kernel_rfl) (by kernel_rfl) (by kernel_rfl) (fun _ _ _ h=>h) (Or.inl ⟨by rfl,fun X hX=>idx_part g7 m c7 X rfl rfl rfl⟩) hHeld ?_
   (try simp only [Act.put,List.setIfInBounds_toArray,List.set_cons_zero,List.set_cons_succ])
   refine wpAnyH_take (i:=11) (oi:=OP.p31) (v:=.pointer (some ⟨g,r.length*6,none⟩)) rfl (by kernel_rfl) (by kernel_rfl) (by kernel_rfl) (fun _ _ _ h=>h) (Or.inl ⟨by rfl,fun X hX=>rfl⟩) hHeld ?_
   (try simp only [Act.put,List.setIfInBounds_toArray,List.set_cons_zero,List.set_cons_succ])
   refine wpAnyH_take (i:=12) (oi:=OP.p32) (v:=.pointer (some ⟨g,r.length*6,none⟩)) rfl (by kernel_rfl) (by kernel_rfl) (by kernel_rfl) (fun _ _ _ h=>h) (Or.inl ⟨by rfl,fun X hX=>rfl⟩) hHeld ?_
   (try simp only [Act.put,List.setIfInBounds_toArray,List.set_cons_zero,List.set_cons_succ])
   refine wpAnyH_take (i:=13) (oi:=OP.p33) (v:=.pointer (some ⟨g,r.length*6+4,none⟩)) rfl (by kernel_rfl) (by kernel_rfl) (by kernel_rfl) (fun _ _ _ h=>h) (Or.inl ⟨by rfl,fun X hX=>rfl⟩) hHeld ?_
   (try simp only [Act.put,List.setIfInBounds_toArray,List.set_cons_zero,List.set_cons_succ])
   refine wpAnyH_ready (rs:=[10,14]) (by kernel_rfl) (by simp) ?_
   refine (AllReadyH.cons (o:=OP.p34) rfl (fun K hK=>?_) (AllReadyH.cons (o:=OP.p35) rfl (fun K hK=>?_) AllReadyH.nil))
   ·refine wanted_step (by kernel_rfl) ?_
    have z0:w7.cell? ⟨g7,m*5,none⟩=some (.string ⟨#[]⟩):=HZ.out 0 _ rfl
    have z1:w7.cell? ⟨g7,m*5+1,none⟩=some (.string ⟨#[]⟩):=HZ.out 1 _ rfl
    have z2:w7.cell? ⟨g7,m*5+2,none⟩=some (.int .i64 0):=HZ.out 2 _ rfl
    have z3:w7.cell? ⟨g7,m*5+3,none⟩=some (.int .i64 0):=HZ.out 3 _ rfl
    have z4:w7.cell? ⟨g7,m*5+4,none⟩=some (.slice none 0 0):=HZ.out 4 _ rfl
    have y0:=HZF.out (m*5)
    have y1:=HZF.out (m*5+1)
    have y2:=HZF.out (m*5+2)
    have y3:=HZF.out (m*5+3)
    have y4:=HZF.out (m*5+4)
    go_simp
    refine hK.out _ _ (by simp only [heap5 _ _ _ _ _ n3];exact hb7) (fun hHeld=>?_)
    (try simp only [Act.put,List.setIfInBounds_toArray,List.set_cons_zero,List.set_cons_succ])
    clear hK K
    clear z0 z1 z2 z3 z4 y0 y1 y2 y3 y4
    obtain ⟨Y,hY⟩:∃ Y,(((((w7.setCell ⟨g7,m*5,none⟩ (.string ky)).setCell ⟨g7,m*5+1,none⟩ (.string ty)).setCell ⟨g7,m*5+2,none⟩ (.int .i64 q2)).setCell ⟨g7,m*5+3,none⟩ (.int .i64 q3)).setCell ⟨g7,m*5+4,none⟩ (.slice ka K kc))=Y:=⟨_,rfl⟩
    have h4Y:Y.cell? ⟨g,r.length*6+4,none⟩=some (.slice qa m qc):=by rw [← hY];simp only [World.cell?,heap5 _ _ _ _ _ n2];exact h4
    have f4Y:Y.frozen? ⟨g,r.length*6+4,none⟩=false:=by rw [← hY];simp only [World.frozen?,heap5 _ _ _ _ _ n2];exact f4
    have hbY:Y.heap[bp]?=some (.cells #[.string ky,.string ty,.int .i64 q2,.int .i64 q3,.slice ka K kc] 49 (0,0)):=by rw [← hY,heap5 _ _ _ _ _ n3];exact hb7
    rw [hY]
    refine wpAnyH_ready (rs:=[14]) (by kernel_rfl) (by simp) ?_
    refine (AllReadyH.cons (o:=OP.p35) rfl (fun K hK=>?_) AllReadyH.nil)
    refine wanted_step (by kernel_rfl) ?_
    go_simp
    refine hK.out _ _ (by rw [Below.heap_setCell _ _ _ _ n4];exact hbY) (fun hHeld=>?_)
    (try simp only [Act.put,List.setIfInBounds_toArray,List.set_cons_zero,List.set_cons_succ])
    clear hK K
    refine wpAnyH_done (by kernel_rfl) ?_ _
    obtain ⟨x5,xf,O9,hM9,hS9⟩:=HFin.out _ (.inl (by rw [hY]))
    clear h4Y f4Y hbY h4 f4 hY hb7 HZ HZF HFin
    have HM9:=hid hM9
    have HS9:=hid hS9
    clear hM9 hS9
    generalize Y.setCell ⟨g,r.length*6+4,none⟩ (.slice (some ⟨g7,0,none⟩) (m+1) c7)=Z at x5 xf HM9 HS9 ⊢
    go_wp2_with fail
    first|go_end0|refine bodyPost_ret (results_none rfl _ _ _) rfl ?_
    exact ⟨rfl,O9,by rw [Hff.out];exact HM9.out,HSV.out.trans HS9.out⟩
   ·refine wanted_step (by kernel_rfl) ?_
    go_simp
    refine hK.out _ _ (by rw [Below.heap_setCell _ _ _ _ n4];exact hb7) (fun hHeld=>?_)
    (try simp only [Act.put,List.setIfInBounds_toArray,List.set_cons_zero,List.set_cons_succ])
    clear hK K
    obtain ⟨Z,hZ⟩:∃ Z,w7.setCell ⟨g,r.length*6+4,none⟩ (.slice (some ⟨g7,0,none⟩) (m+1) c7)=Z:=⟨_,rfl⟩
    have hz7:Z.heap[g7]?=w7.heap[g7]?:=by rw [← hZ];exact Below.heap_setCell _ _ _ _ n1
    have z0:Z.cell? ⟨g7,m*5,none⟩=some (.string ⟨#[]⟩):=by have h:=HZ.out 0 _ rfl;simp only [World.cell?] at h ⊢;rw [hz7];exact h
    have z1:Z.cell? ⟨g7,m*5+1,none⟩=some (.string ⟨#[]⟩):=by have h:=HZ.out 1 _ rfl;simp only [World.cell?] at h ⊢;rw [hz7];exact h
    have z2:Z.cell? ⟨g7,m*5+2,none⟩=some (.int .i64 0):=by have h:=HZ.out 2 _ rfl;simp only [World.cell?] at h ⊢;rw [hz7];exact h
    have z3:Z.cell? ⟨g7,m*5+3,none⟩=some (.int .i64 0):=by have h:=HZ.out 3 _ rfl;simp only [World.cell?] at h ⊢;rw [hz7];exact h
    have z4:Z.cell? ⟨g7,m*5+4,none⟩=some (.slice none 0 0):=by have h:=HZ.out 4 _ rfl;simp only [World.cell?] at h ⊢;rw [hz7];exact h
    have y0:Z.frozen? ⟨g7,m*5,none⟩=false:=by have h:=HZF.out (m*5);simp only [World.frozen?] at h ⊢;rw [hz7];exact h
    have y1:Z.frozen? ⟨g7,m*5+1,none⟩=false:=by have h:=HZF.out (m*5+1);simp only [World.frozen?] at h ⊢;rw [hz7];exact h
    have y2:Z.frozen? ⟨g7,m*5+2,none⟩=false:=by have h:=HZF.out (m*5+2);simp only [World.frozen?] at h ⊢;rw [hz7];exact h
    have y3:Z.frozen? ⟨g7,m*5+3,none⟩=false:=by have h:=HZF.out (m*5+3);simp only [World.frozen?] at h ⊢;rw [hz7];exact h
    have y4:Z.frozen? ⟨g7,m*5+4,none⟩=false:=by have h:=HZF.out (m*5+4);simp only [World.frozen?] at h ⊢;rw [hz7];exact h
    have hbZ:Z.heap[bp]?=some (.cells #[.string ky,.string ty,.int .i64 q2,.int .i64 q3,.slice ka K kc] 49 (0,0)):=by rw [← hZ,Below.heap_setCell _ _ _ _ n4];exact hb7
    rw [hZ]
    clear hz7
    refine wpAnyH_ready (rs:=[10]) (by kernel_rfl) (by simp) ?_
    refine (AllReadyH.cons (o:=OP.p34) rfl (fun K hK=>?_) AllReadyH.nil)
    refine wanted_step (by kernel_rfl) ?_
    go_simp
    refine hK.out _ _ (by rw [heap5 _ _ _ _ _ n3];exact hbZ) (fun hHeld=>?_)
    (try simp only [Act.put,List.setIfInBounds_toArray,List.set_cons_zero,List.set_cons_succ])
    clear hK K
    refine wpAnyH_done (by kernel_rfl) ?_ _
    obtain ⟨x5,xf,O9,hM9,hS9⟩:=HFin.out _ (.inr (by rw [hZ]))
    clear z0 z1 z2 z3 z4 y0 y1 y2 y3 y4 h4 f4 hZ hb7 hbZ HZ HZF HFin
    have HM9:=hid hM9
    have HS9:=hid hS9
    clear hM9 hS9
    generalize (((((Z.setCell ⟨g7,m*5,none⟩ (.string ky)).setCell ⟨g7,m*5+1,none⟩ (.string ty)).setCell ⟨g7,m*5+2,none⟩ (.int .i64 q2)).setCell ⟨g7,m*5+3,none⟩ (.int .i64 q3)).setCell ⟨g7,m*5+4,none⟩ (.slice ka K kc))=Y at x5 xf HM9 HS9 ⊢
    go_wp2_with fail
    first|go_end0|refine bodyPost_ret (results_none rfl _ _ _) rfl ?_
    exact ⟨rfl,O9,by rw [Hff.out];exact HM9.out,HSV.out.trans HS9.out⟩
  ·refine wanted_step (by kernel_rfl) ?_
   go_simp
   refine hK.out _ _ (HSa.out) (fun hHeld=>?_)
   (try simp only [Act.put,List.setIfInBounds_toArray,List.set_cons_zero,List.set_cons_succ])
   clear hK K
   refine wpAnyH_ready (rs:=[4]) (by kernel_rfl) (by simp) ?_
   refine (AllReadyH.cons (o:=OP.p26) rfl (fun K hK=>?_) AllReadyH.nil)
   refine wanted_step (by kernel_rfl) ?_
   have q4:=HC4a.out
   go_simp
   refine hK.out _ _ (HSa.out) (fun hHeld=>?_)
   (try simp only [Act.put,List.setIfInBounds_toArray,List.set_cons_zero,List.set_cons_succ])
   clear hK K
   clear q4
   refine wpAnyH_take (i:=6) (oi:=OP.p28) (v:=.int .i64 m) rfl (by kernel_rfl) (by kernel_rfl) (by kernel_rfl) (fun _ _ _ h=>h) (Or.inl ⟨by rfl,fun X hX=>by kernel_rfl⟩) hHeld ?_
   (try simp only [Act.put,List.setIfInBounds_toArray,List.set_cons_zero,List.set_cons_succ])
   refine wpAnyH_ready (rs:=[8]) (by kernel_rfl) (by simp) ?_
   refine (AllReadyH.cons (o:=OP.p29) rfl (fun K hK=>?_) AllReadyH.nil)
   refine wanted_step (by kernel_rfl) ?_
   refine wp_append_lies _ (.tmp 64) (.tmp 67) 47 rfl 0 49 iP (.agg #[.string ⟨#[]⟩,.string ⟨#[]⟩,.int .i64 0,.int .i64 0,.slice none 0 0]) 5 72 Tryz.underlying47 hi0 hz0 hz1 hz2 rfl (by decide) (.slice qa m qc) m ksa rfl HRowa.out ⟨Wd.heap.size,0,none⟩ 1 1 [.string ⟨#[]⟩,.string ⟨#[]⟩,.int .i64 0,.int .i64 0,.slice none 0 0] rfl rfl (news_five Wd) five_one (by decide) (by unfold maxLen;omega) (by omega) (Nat.zero_le _) _ rfl ?_
   intro g7 c7 w7 hown hgrow hat hlt7
   obtain ⟨hb7,⟨h4,f4⟩,⟨n1,n2,n3,n4⟩,⟨hz,hzf⟩,hfin⟩:=HE.out g7 c7 w7 hown hgrow hat
   have HFin:=hid hfin
   have HZ:=hid hz
   have HZF:=hid hzf
   clear hown hgrow hat hfin hz hzf
   refine hK.out _ _ (hb7) (fun hHeld=>?_)
   (try simp only [Act.put,List.setIfInBounds_toArray,List.set_cons_zero,List.set_cons_succ])
   clear hK K
   refine wpAnyH_take (i:=9) (oi:=OP.p30) (v:=.pointer (some ⟨g7,m*5,none⟩)) rfl (by kernel_rfl) (by kernel_rfl) (by kernel_rfl) (fun _ _ _ h=>h) (Or.inl ⟨by rfl,fun X hX=>idx_part g7 m c7 X rfl rfl rfl⟩) hHeld ?_
   (try simp only [Act.put,List.setIfInBounds_toArray,List.set_cons_zero,List.set_cons_succ])
   refine wpAnyH_take (i:=11) (oi:=OP.p31) (v:=.pointer (some ⟨g,r.length*6,none⟩)) rfl (by kernel_rfl) (by kernel_rfl) (by kernel_rfl) (fun _ _ _ h=>h) (Or.inl ⟨by rfl,fun X hX=>rfl⟩) hHeld ?_
   (try simp only [Act.put,List.setIfInBounds_toArray,List.set_cons_zero,List.set_cons_succ])
   refine wpAnyH_take (i:=12) (oi:=OP.p32) (v:=.pointer (some ⟨g,r.length*6,none⟩)) rfl (by kernel_rfl) (by kernel_rfl) (by kernel_rfl) (fun _ _ _ h=>h) (Or.inl ⟨by rfl,fun X hX=>rfl⟩) hHeld ?_
   (try simp only [Act.put,List.setIfInBounds_toArray,List.set_cons_zero,List.set_cons_succ])
   refine wpAnyH_take (i:=13) (oi:=OP.p33) (v:=.pointer (some ⟨g,r.length*6+4,none⟩)) rfl (by kernel_rfl) (by kernel_rfl) (by kernel_rfl) (fun _ _ _ h=>h) (Or.inl ⟨by rfl,fun X hX=>rfl⟩) hHeld ?_
   (try simp only [Act.put,List.setIfInBounds_toArray,List.set_cons_zero,List.set_cons_succ])
   refine wpAnyH_ready (rs:=[10,14]) (by kernel_rfl) (by simp) ?_
   refine (AllReadyH.cons (o:=OP.p34) rfl (fun K hK=>?_) (AllReadyH.cons (o:=OP.p35) rfl (fun K hK=>?_) AllReadyH.nil))
   ·refine wanted_step (by kernel_rfl) ?_
    have z0:w7.cell? ⟨g7,m*5,none⟩=some (.string ⟨#[]⟩):=HZ.out 0 _ rfl
    have z1:w7.cell? ⟨g7,m*5+1,none⟩=some (.string ⟨#[]⟩):=HZ.out 1 _ rfl
    have z2:w7.cell? ⟨g7,m*5+2,none⟩=some (.int .i64 0):=HZ.out 2 _ rfl
    have z3:w7.cell? ⟨g7,m*5+3,none⟩=some (.int .i64 0):=HZ.out 3 _ rfl
    have z4:w7.cell? ⟨g7,m*5+4,none⟩=some (.slice none 0 0):=HZ.out 4 _ rfl
    have y0:=HZF.out (m*5)
    have y1:=HZF.out (m*5+1)
    have y2:=HZF.out (m*5+2)
    have y3:=HZF.out (m*5+3)
    have y4:=HZF.out (m*5+4)
    go_simp
    refine hK.out _ _ (by simp only [heap5 _ _ _ _ _ n3];exact hb7) (fun hHeld=>?_)
    (try simp only [Act.put,List.setIfInBounds_toArray,List.set_cons_zero,List.set_cons_succ])
    clear hK K
    clear z0 z1 z2 z3 z4 y0 y1 y2 y3 y4
    obtain ⟨Y,hY⟩:∃ Y,(((((w7.setCell ⟨g7,m*5,none⟩ (.string ky)).setCell ⟨g7,m*5+1,none⟩ (.string ty)).setCell ⟨g7,m*5+2,none⟩ (.int .i64 q2)).setCell ⟨g7,m*5+3,none⟩ (.int .i64 q3)).setCell ⟨g7,m*5+4,none⟩ (.slice ka K kc))=Y:=⟨_,rfl⟩
    have h4Y:Y.cell? ⟨g,r.length*6+4,none⟩=some (.slice qa m qc):=by rw [← hY];simp only [World.cell?,heap5 _ _ _ _ _ n2];exact h4
    have f4Y:Y.frozen? ⟨g,r.length*6+4,none⟩=false:=by rw [← hY];simp only [World.frozen?,heap5 _ _ _ _ _ n2];exact f4
    have hbY:Y.heap[bp]?=some (.cells #[.string ky,.string ty,.int .i64 q2,.int .i64 q3,.slice ka K kc] 49 (0,0)):=by rw [← hY,heap5 _ _ _ _ _ n3];exact hb7
    rw [hY]
    refine wpAnyH_ready (rs:=[14]) (by kernel_rfl) (by simp) ?_
    refine (AllReadyH.cons (o:=OP.p35) rfl (fun K hK=>?_) AllReadyH.nil)
    refine wanted_step (by kernel_rfl) ?_
    go_simp
    refine hK.out _ _ (by rw [Below.heap_setCell _ _ _ _ n4];exact hbY) (fun hHeld=>?_)
    (try simp only [Act.put,List.setIfInBounds_toArray,List.set_cons_zero,List.set_cons_succ])
    clear hK K
    refine wpAnyH_done (by kernel_rfl) ?_ _
    obtain ⟨x5,xf,O9,hM9,hS9⟩:=HFin.out _ (.inl (by rw [hY]))
    clear h4Y f4Y hbY h4 f4 hY hb7 HZ HZF HFin
    have HM9:=hid hM9
    have HS9:=hid hS9
    clear hM9 hS9
    generalize Y.setCell ⟨g,r.length*6+4,none⟩ (.slice (some ⟨g7,0,none⟩) (m+1) c7)=Z at x5 xf HM9 HS9 ⊢
    go_wp2_with fail
    first|go_end0|refine bodyPost_ret (results_none rfl _ _ _) rfl ?_
    exact ⟨rfl,O9,by rw [Hff.out];exact HM9.out,HSV.out.trans HS9.out⟩
   ·refine wanted_step (by kernel_rfl) ?_
    go_simp
    refine hK.out _ _ (by rw [Below.heap_setCell _ _ _ _ n4];exact hb7) (fun hHeld=>?_)
    (try simp only [Act.put,List.setIfInBounds_toArray,List.set_cons_zero,List.set_cons_succ])
    clear hK K
    obtain ⟨Z,hZ⟩:∃ Z,w7.setCell ⟨g,r.length*6+4,none⟩ (.slice (some ⟨g7,0,none⟩) (m+1) c7)=Z:=⟨_,rfl⟩
    have hz7:Z.heap[g7]?=w7.heap[g7]?:=by rw [← hZ];exact Below.heap_setCell _ _ _ _ n1
    have z0:Z.cell? ⟨g7,m*5,none⟩=some (.string ⟨#[]⟩):=by have h:=HZ.out 0 _ rfl;simp only [World.cell?] at h ⊢;rw [hz7];exact h
    have z1:Z.cell? ⟨g7,m*5+1,none⟩=some (.string ⟨#[]⟩):=by have h:=HZ.out 1 _ rfl;simp only [World.cell?] at h ⊢;rw [hz7];exact h
    have z2:Z.cell? ⟨g7,m*5+2,none⟩=some (.int .i64 0):=by have h:=HZ.out 2 _ rfl;simp only [World.cell?] at h ⊢;rw [hz7];exact h
    have z3:Z.cell? ⟨g7,m*5+3,none⟩=some (.int .i64 0):=by have h:=HZ.out 3 _ rfl;simp only [World.cell?] at h ⊢;rw [hz7];exact h
    have z4:Z.cell? ⟨g7,m*5+4,none⟩=some (.slice none 0 0):=by have h:=HZ.out 4 _ rfl;simp only [World.cell?] at h ⊢;rw [hz7];exact h
    have y0:Z.frozen? ⟨g7,m*5,none⟩=false:=by have h:=HZF.out (m*5);simp only [World.frozen?] at h ⊢;rw [hz7];exact h
    have y1:Z.frozen? ⟨g7,m*5+1,none⟩=false:=by have h:=HZF.out (m*5+1);simp only [World.frozen?] at h ⊢;rw [hz7];exact h
    have y2:Z.frozen? ⟨g7,m*5+2,none⟩=false:=by have h:=HZF.out (m*5+2);simp only [World.frozen?] at h ⊢;rw [hz7];exact h
    have y3:Z.frozen? ⟨g7,m*5+3,none⟩=false:=by have h:=HZF.out (m*5+3);simp only [World.frozen?] at h ⊢;rw [hz7];exact h
    have y4:Z.frozen? ⟨g7,m*5+4,none⟩=false:=by have h:=HZF.out (m*5+4);simp only [World.frozen?] at h ⊢;rw [hz7];exact h
    have hbZ:Z.heap[bp]?=some (.cells #[.string ky,.string ty,.int .i64 q2,.int .i64 q3,.slice ka K kc] 49 (0,0)):=by rw [← hZ,Below.heap_setCell _ _ _ _ n4];exact hb7
    rw [hZ]
    clear hz7
    refine wpAnyH_ready (rs:=[10]) (by kernel_rfl) (by simp) ?_
    refine (AllReadyH.cons (o:=OP.p34) rfl (fun K hK=>?_) AllReadyH.nil)
    refine wanted_step (by kernel_rfl) ?_
    go_simp
    refine hK.out _ _ (by rw [heap5 _ _ _ _ _ n3];exact hbZ) (fun hHeld=>?_)
    (try simp only [Act.put,List.setIfInBounds_toArray,List.set_cons_zero,List.set_cons_succ])
    clear hK K
    refine wpAnyH_done (by kernel_rfl) ?_ _
    obtain ⟨x5,xf,O9,hM9,hS9⟩:=HFin.out _ (.inr (by rw [hZ]))
    clear z0 z1 z2 z3 z4 y0 y1 y2 y3 y4 h4 f4 hZ hb7 hbZ HZ HZF HFin
    have HM9:=hid hM9
    have HS9:=hid hS9
    clear hM9 hS9
    generalize (((((Z.setCell ⟨g7,m*5,none⟩ (.string ky)).setCell ⟨g7,m*5+1,none⟩ (.string ty)).setCell ⟨g7,m*5+2,none⟩ (.int .i64 q2)).setCell ⟨g7,m*5+3,none⟩ (.int .i64 q3)).setCell ⟨g7,m*5+4,none⟩ (.slice ka K kc))=Y at x5 xf HM9 HS9 ⊢
    go_wp2_with fail
    first|go_end0|refine bodyPost_ret (results_none rfl _ _ _) rfl ?_
    exact ⟨rfl,O9,by rw [Hff.out];exact HM9.out,HSV.out.trans HS9.out⟩
 case inr.inr =>
  have h1:(ky.toList==[40])=false:=by rw [hkt];exact beq_eq_false_iff_ne.2 hw1
  have h2:(ky.toList==[112,97,114,97,109,115])=false:=by rw [hkt];exact beq_eq_false_iff_ne.2 (fun e=>hw2 (.inl e))
  have h3:(ky.toList==[114,101,115,117,108,116])=false:=by rw [hkt];exact beq_eq_false_iff_ne.2 (fun e=>hw2 (.inr e))
  have hki:=kids_row (by rw [HKK.out];have h:=HKV.out;rw [HKK.out] at h;exact h) HPV.out HFV.out o.k o.t o.f en
  rw [HKK.out] at hki
  rw [← hpe] at hki
  have hfive:five p (.slice ka K kc)=[.string ky,.string ty,.int .i64 of,.int .i64 en,.slice ka K kc]:=by rw [hpe,← Hkk.out,← Htt.out,← Hff.out];rfl
  have hb5:=hb4
  have hbv5:=HBV4.out
  have HKI:=hid hki
  have H5:=hid hfive
  have HB5:=hid hb5
  have HBV5:=hid hbv5
  clear hki hkt hfive hBV hpe hb5 hbv5 hP hw1 hw2
  go_wp2_with fail
  clear hb4 p0 p1 p2 p3 p4 z0 z1 z2 z3 z4 h1 h2 h3
  obtain ⟨g',c',kva,ksa,usa,bsa,hTa⟩:=top_of HXV.out (o:=a) (r:=r) rfl
  have hgc:=hTa.hov
  simp only [Value.slice.injEq,Option.some.injEq,Addr.mk.injEq,and_true] at hgc
  obtain ⟨rfl,_,rfl⟩:=hgc
  have hrl:r.length≤1000000:=by have:=HRR.out;omega
  have cA:=top_any HXV.out hTa hrl (by rw [HVs.out];exact HBV5.out:Below V.heap.size V W4)
  refine cA.mono ?_
  rintro e v6 ⟨rfl,m2,rfl⟩
  dsimp only
  clear cA
  have HB6:Hid ((W4.drewN m2).heap[bp]?=some (.cells #[.string ky,.string ty,.int .i64 of,.int .i64 en,.slice ka K kc] 49 (0,0))):=hid HB5.out
  have HBV6:Hid (Below W.heap.size V (W4.drewN m2)):=hid (HBV5.out.trans ⟨rfl,rfl,rfl,Nat.le_refl _,fun _ _=>rfl⟩)
  clear HB5 HBV5
  generalize W4.drewN m2=W6 at HB6 HBV6 ⊢
  obtain ⟨qa,qc,rfl⟩:=owns_len hTa.own
  obtain ⟨m,hm⟩:∃ m,a.kids.length=m:=⟨_,rfl⟩
  have hml:m≤1000000:=by rw [← hm];exact hs.kids a (by rw [ho];exact List.mem_cons_of_mem _ List.mem_cons_self)
  rw [hm] at hTa
  obtain ⟨iP,hi0,hz0,hz1,hz2⟩:=info_parts infoP
  obtain ⟨Wd,hWd⟩:∃ Wd,W6.drew=Wd:=⟨_,rfl⟩
  have hBd:Below W.heap.size V Wd:=by rw [← hWd];exact HBV6.out.drew
  have hbd:Wd.heap[bp]?=some (.cells #[.string ky,.string ty,.int .i64 of,.int .i64 en,.slice ka K kc] 49 (0,0)):=by rw [← hWd];exact HB6.out
  have hbl:bp<Wd.heap.size:=(Array.getElem?_eq_some_iff.1 hbd).1
  have hBd':Below V.heap.size V Wd:=by rw [HVs.out];exact hBd
  have hba:Below Wd.heap.size Wd (Wd.alloc (.cells #[.string ⟨#[]⟩,.string ⟨#[]⟩,.int .i64 0,.int .i64 0,.slice none 0 0] 49)):=(Below.refl _ _).alloc (Nat.le_refl _) _
  have HSa:Hid ((Wd.alloc (.cells #[.string ⟨#[]⟩,.string ⟨#[]⟩,.int .i64 0,.int .i64 0,.slice none 0 0] 49)).heap[bp]?=some (.cells #[.string ky,.string ty,.int .i64 of,.int .i64 en,.slice ka K kc] 49 (0,0))):=hid ((hba.block bp hbl).trans hbd)
  have HTl:Hid (TopAt d O2 a r (.slice (some ⟨g,0,none⟩) R c) bs1 us1 V g c (.slice qa m qc) ksa usa bsa):=hid hTa
  have hc4:=hTa.cell 4 _ rfl
  have HC4:Hid (Wd.cell? ⟨g,r.length*6+4,none⟩=some (.slice qa m qc)):=hid ((hBd'.cell (p:=⟨g,r.length*6+4,none⟩) hTa.lt).trans hc4)
  have HC4a:Hid ((Wd.alloc (.cells #[.string ⟨#[]⟩,.string ⟨#[]⟩,.int .i64 0,.int .i64 0,.slice none 0 0] 49)).cell? ⟨g,r.length*6+4,none⟩=some (.slice qa m qc)):=hid (((hBd'.trans (hba.mono hBd'.size)).cell (p:=⟨g,r.length*6+4,none⟩) hTa.lt).trans hc4)
  have hRowa:(Wd.alloc (.cells #[.string ⟨#[]⟩,.string ⟨#[]⟩,.int .i64 0,.int .i64 0,.slice none 0 0] 49)).ownsRow 0 49 5 (.slice qa m qc) m ksa:=owns_later (by have h:=hTa.own;rw [hm] at h;exact h) (hBd'.trans (hba.mono hBd'.size))
  have HRowa:=hid hRowa
  have HE:Hid (∀ (g7 c7:Nat) (w7:World),w7.ownsRow 0 49 5 (.slice (some ⟨g7,0,none⟩) (m+1) c7) (m+1) (ksa++[.string ⟨#[]⟩,.string ⟨#[]⟩,.int .i64 0,.int .i64 0,.slice none 0 0])→(Wd.alloc (.cells #[.string ⟨#[]⟩,.string ⟨#[]⟩,.int .i64 0,.int .i64 0,.slice none 0 0] 49)).grownBy w7 (Value.slice qa m qc).ownBlock→((Value.slice qa m qc).ownBlock=some g7∨g7=(Wd.alloc (.cells #[.string ⟨#[]⟩,.string ⟨#[]⟩,.int .i64 0,.int .i64 0,.slice none 0 0] 49)).heap.size) →
    w7.heap[bp]?=some (.cells #[.string ky,.string ty,.int .i64 of,.int .i64 en,.slice ka K kc] 49 (0,0))∧(w7.cell? ⟨g,r.length*6+4,none⟩=some (.slice qa m qc)∧w7.frozen? ⟨g,r.length*6+4,none⟩=false)∧(g7≠g∧g≠g7∧bp≠g7∧bp≠g) ∧
    ((∀ j u,([.string ⟨#[]⟩,.string ⟨#[]⟩,.int .i64 0,.int .i64 0,.slice none 0 0]:List Value)[j]?=some u→w7.cell? ⟨g7,m*5+j,none⟩=some u)∧∀ j,w7.frozen? ⟨g7,j,none⟩=false) ∧
    ∀ X,(X=(((((w7.setCell ⟨g7,m*5,none⟩ (.string ky)).setCell ⟨g7,m*5+1,none⟩ (.string ty)).setCell ⟨g7,m*5+2,none⟩ (.int .i64 of)).setCell ⟨g7,m*5+3,none⟩ (.int .i64 en)).setCell ⟨g7,m*5+4,none⟩ (.slice ka K kc)).setCell ⟨g,r.length*6+4,none⟩ (.slice (some ⟨g7,0,none⟩) (m+1) c7)∨X=((((((w7.setCell ⟨g,r.length*6+4,none⟩ (.slice (some ⟨g7,0,none⟩) (m+1) c7)).setCell ⟨g7,m*5,none⟩ (.string ky)).setCell ⟨g7,m*5+1,none⟩ (.string ty)).setCell ⟨g7,m*5+2,none⟩ (.int .i64 of)).setCell ⟨g7,m*5+3,none⟩ (.int .i64 en)).setCell ⟨g7,m*5+4,none⟩ (.slice ka K kc)))→X.cell? ⟨g,r.length*6+5,none⟩=some (.int .i64 a.kf)∧X.frozen? ⟨g,r.length*6+5,none⟩=false∧∃ O',Mem d L size lv { ({ s with opn:=a :: r }:St) with opn:=a.add p of :: r } O' (X.setCell ⟨g,r.length*6+5,none⟩ (.int .i64 of))∧Stay O2 O' V (X.setCell ⟨g,r.length*6+5,none⟩ (.int .i64 of))):=hid (by
   intro g7 c7 w7 hown hgrow hat
   have hTo:=HTl.out
   have hzV:V.heap.size≤(Wd.alloc (.cells #[.string ⟨#[]⟩,.string ⟨#[]⟩,.int .i64 0,.int .i64 0,.slice none 0 0] 49)).heap.size:=(hBd'.trans (hba.mono hBd'.size)).size
   have hfar:∀ k,k<V.heap.size→(Value.slice qa m qc).ownBlock≠some k→w7.heap[k]?=V.heap[k]?:=fun k h1 h2=>(hgrow.block k (Nat.lt_of_lt_of_le h1 hzV) (fun e=>h2 e.symm)).trans ((hBd'.trans (hba.mono hBd'.size)).block k h1)
   have hkg:(Value.slice qa m qc).ownBlock≠some g:=fun e=>absurd ((owns_ty hTo.own e).one hTo.ty) (by decide)
   have hgw:=hfar g hTo.lt hkg
   have hbpV:V.heap.size≤bp:=by rw [HVs.out];exact HbW.out
   have hkb:∀ k,(Value.slice qa m qc).ownBlock=some k→k<V.heap.size:=fun k h=>(hTo.own.lt k h).2
   have hbp7:w7.heap[bp]?=some (.cells #[.string ky,.string ty,.int .i64 of,.int .i64 en,.slice ka K kc] 49 (0,0)):=(hgrow.block bp (Nat.lt_of_lt_of_le hbl hba.size) (fun e=>by have:=hkb bp e.symm;omega)).trans HSa.out
   have hg7g:g7≠g:=fun e=>by
    obtain ⟨cs,fr,h2⟩:=hTo.ty
    have h1:Ty w7 g7 49:=owns_ty hown (k:=g7) rfl
    rw [e] at h1
    exact absurd (h1.one ⟨cs,fr,hgw.trans h2⟩) (by decide)
   have hbg7:bp≠g7:=fun e=>by
    rcases hat with h|h
    ·have:=hkb g7 h;omega
    ·have:=hba.size;rw [World.size_alloc] at h;omega
   have hbg:bp≠g:=fun e=>by have:=hTo.lt;omega
   have hlk:ksa.length=m*5:=hRowa.1
   refine ⟨hbp7,⟨?_,?_⟩,⟨hg7g,hg7g.symm,hbg7,hbg⟩,⟨fun j u hj=>?_,fun j=>hown.frozenAt j⟩,fun X hX=>?_⟩
   ·have h:=hTo.cell 4 _ rfl
    simp only [World.cell?] at h ⊢
    rw [hgw];exact h
   ·have h:=hTo.frozen (r.length*6+4)
    simp only [World.frozen?] at h ⊢
    rw [hgw];exact h
   ·have hj5:j<5:=(List.getElem?_eq_some_iff.1 hj).1
    rw [hown.cellAt (m*5+j) (by omega),List.getElem?_append_right (by omega),show m*5+j - ksa.length=j by omega]
    exact hj
   ·exact fin_rows (W:=V) HXV.out rfl hTo hm H5.out hown hfar (hat.imp id (fun h=>by rw [h];exact hzV)) ((hgrow.os).trans (hBd'.trans (hba.mono hBd'.size)).os) ((hgrow.tape).trans (hBd'.trans (hba.mono hBd'.size)).tape) ((hgrow.output).trans (hBd'.trans (hba.mono hBd'.size)).output) (Nat.le_trans hzV hgrow.size) HKI.out hX)
  have HBDh:=hid hbd
  clear hTa hBd hbl hBd' hba hc4 hRowa hbd HBV6 HB6 hm
  go_upto_region 11 with fail
  refine wp_region_held_drew (S:=fun X:World=>X.heap[bp]?=some (.cells #[.string ky,.string ty,.int .i64 of,.int .i64 en,.slice ka K kc] 49 (0,0))) (by kernel_rfl) (by rw [hWd];exact HBDh.out) (fun hHeld=>?_)
  rw [hWd] at hHeld ⊢
  refine wpAnyH_take (i:=0) (oi:=OP.p21) (v:=.pointer (some ⟨g,r.length*6,none⟩)) rfl (by kernel_rfl) (by kernel_rfl) (by kernel_rfl) (fun _ _ _ h=>h) (Or.inl ⟨by rfl,fun X hX=>rfl⟩) hHeld ?_
  (try simp only [Act.put,List.setIfInBounds_toArray,List.set_cons_zero,List.set_cons_succ])
  refine wpAnyH_take (i:=1) (oi:=OP.p22) (v:=.pointer (some ⟨g,r.length*6,none⟩)) rfl (by kernel_rfl) (by kernel_rfl) (by kernel_rfl) (fun _ _ _ h=>h) (Or.inl ⟨by rfl,fun X hX=>rfl⟩) hHeld ?_
  (try simp only [Act.put,List.setIfInBounds_toArray,List.set_cons_zero,List.set_cons_succ])
  refine wpAnyH_take (i:=2) (oi:=OP.p23) (v:=.pointer (some ⟨g,r.length*6,none⟩)) rfl (by kernel_rfl) (by kernel_rfl) (by kernel_rfl) (fun _ _ _ h=>h) (Or.inl ⟨by rfl,fun X hX=>rfl⟩) hHeld ?_
  (try simp only [Act.put,List.setIfInBounds_toArray,List.set_cons_zero,List.set_cons_succ])
  refine wpAnyH_take (i:=3) (oi:=OP.p24) (v:=.pointer (some ⟨g,r.length*6+4,none⟩)) rfl (by kernel_rfl) (by kernel_rfl) (by kernel_rfl) (fun _ _ _ h=>h) (Or.inl ⟨by rfl,fun X hX=>rfl⟩) hHeld ?_
  (try simp only [Act.put,List.setIfInBounds_toArray,List.set_cons_zero,List.set_cons_succ])
  refine wpAnyH_take (i:=5) (oi:=OP.p25) (v:=.agg #[.string ky,.string ty,.int .i64 of,.int .i64 en,.slice ka K kc]) rfl (by kernel_rfl) (by kernel_rfl) (by kernel_rfl) (fun _ _ _ h=>h) (yields_load 49 (.tmp 2) rfl (by rfl) (fun X hX=>load_five hX)) hHeld ?_
  (try simp only [Act.put,List.setIfInBounds_toArray,List.set_cons_zero,List.set_cons_succ])
  refine wpAnyH_ready (rs:=[4,7]) (by kernel_rfl) (by simp) ?_
  refine (AllReadyH.cons (o:=OP.p26) rfl (fun K hK=>?_) (AllReadyH.cons (o:=OP.p27) rfl (fun K hK=>?_) AllReadyH.nil))
  ·refine wanted_step (by kernel_rfl) ?_
   have q4:=HC4.out
   go_simp
   refine hK.out _ _ (hHeld) (fun hHeld=>?_)
   (try simp only [Act.put,List.setIfInBounds_toArray,List.set_cons_zero,List.set_cons_succ])
   clear hK K
   clear q4
   refine wpAnyH_take (i:=6) (oi:=OP.p28) (v:=.int .i64 m) rfl (by kernel_rfl) (by kernel_rfl) (by kernel_rfl) (fun _ _ _ h=>h) (Or.inl ⟨by rfl,fun X hX=>by kernel_rfl⟩) hHeld ?_
   (try simp only [Act.put,List.setIfInBounds_toArray,List.set_cons_zero,List.set_cons_succ])
   refine wpAnyH_ready (rs:=[7]) (by kernel_rfl) (by simp) ?_
   refine (AllReadyH.cons (o:=OP.p27) rfl (fun K hK=>?_) AllReadyH.nil)
   refine wanted_step (by kernel_rfl) ?_
   go_simp
   refine hK.out _ _ (HSa.out) (fun hHeld=>?_)
   (try simp only [Act.put,List.setIfInBounds_toArray,List.set_cons_zero,List.set_cons_succ])
   clear hK K
   refine wpAnyH_ready (rs:=[8]) (by kernel_rfl) (by simp) ?_
   refine (AllReadyH.cons (o:=OP.p29) rfl (fun K hK=>?_) AllReadyH.nil)
   refine wanted_step (by kernel_rfl) ?_
   refine wp_append_lies _ (.tmp 64) (.tmp 67) 47 rfl 0 49 iP (.agg #[.string ⟨#[]⟩,.string ⟨#[]⟩,.int .i64 0,.int .i64 0,.slice none 0 0]) 5 72 Tryz.underlying47 hi0 hz0 hz1 hz2 rfl (by decide) (.slice qa m qc) m ksa rfl HRowa.out ⟨Wd.heap.size,0,none⟩ 1 1 [.string ⟨#[]⟩,.string ⟨#[]⟩,.int .i64 0,.int .i64 0,.slice none 0 0] rfl rfl (news_five Wd) five_one (by decide) (by unfold maxLen;omega) (by omega) (Nat.zero_le _) _ rfl ?_
   intro g7 c7 w7 hown hgrow hat hlt7
   obtain ⟨hb7,⟨h4,f4⟩,⟨n1,n2,n3,n4⟩,⟨hz,hzf⟩,hfin⟩:=HE.out g7 c7 w7 hown hgrow hat
   have HFin:=hid hfin
   have HZ:=hid hz
   have HZF:=hid hzf
   clear hown hgrow hat hfin hz hzf
   refine hK.out _ _ (hb7) (fun hHeld=>?_)
   (try simp only [Act.put,List.setIfInBounds_toArray,List.set_cons_zero,List.set_cons_succ])
   clear hK K
   refine wpAnyH_take (i:=9) (oi:=OP.p30) (v:=.pointer (some ⟨g7,m*5,none⟩)) rfl (by kernel_rfl) (by kernel_rfl) (by kernel_rfl) (fun _ _ _ h=>h) (Or.inl ⟨by rfl,fun X hX=>idx_part g7 m c7 X rfl rfl rfl⟩) hHeld ?_
   (try simp only [Act.put,List.setIfInBounds_toArray,List.set_cons_zero,List.set_cons_succ])
   refine wpAnyH_take (i:=11) (oi:=OP.p31) (v:=.pointer (some ⟨g,r.length*6,none⟩)) rfl (by kernel_rfl) (by kernel_rfl) (by kernel_rfl) (fun _ _ _ h=>h) (Or.inl ⟨by rfl,fun X hX=>rfl⟩) hHeld ?_
   (try simp only [Act.put,List.setIfInBounds_toArray,List.set_cons_zero,List.set_cons_succ])
   refine wpAnyH_take (i:=12) (oi:=OP.p32) (v:=.pointer (some ⟨g,r.length*6,none⟩)) rfl (by kernel_rfl) (by kernel_rfl) (by kernel_rfl) (fun _ _ _ h=>h) (Or.inl ⟨by rfl,fun X hX=>rfl⟩) hHeld ?_
   (try simp only [Act.put,List.setIfInBounds_toArray,List.set_cons_zero,List.set_cons_succ])
   refine wpAnyH_take (i:=13) (oi:=OP.p33) (v:=.pointer (some ⟨g,r.length*6+4,none⟩)) rfl (by kernel_rfl) (by kernel_rfl) (by kernel_rfl) (fun _ _ _ h=>h) (Or.inl ⟨by rfl,fun X hX=>rfl⟩) hHeld ?_
   (try simp only [Act.put,List.setIfInBounds_toArray,List.set_cons_zero,List.set_cons_succ])
   refine wpAnyH_ready (rs:=[10,14]) (by kernel_rfl) (by simp) ?_
   refine (AllReadyH.cons (o:=OP.p34) rfl (fun K hK=>?_) (AllReadyH.cons (o:=OP.p35) rfl (fun K hK=>?_) AllReadyH.nil))
   ·refine wanted_step (by kernel_rfl) ?_
    have z0:w7.cell? ⟨g7,m*5,none⟩=some (.string ⟨#[]⟩):=HZ.out 0 _ rfl
    have z1:w7.cell? ⟨g7,m*5+1,none⟩=some (.string ⟨#[]⟩):=HZ.out 1 _ rfl
    have z2:w7.cell? ⟨g7,m*5+2,none⟩=some (.int .i64 0):=HZ.out 2 _ rfl
    have z3:w7.cell? ⟨g7,m*5+3,none⟩=some (.int .i64 0):=HZ.out 3 _ rfl
    have z4:w7.cell? ⟨g7,m*5+4,none⟩=some (.slice none 0 0):=HZ.out 4 _ rfl
    have y0:=HZF.out (m*5)
    have y1:=HZF.out (m*5+1)
    have y2:=HZF.out (m*5+2)
    have y3:=HZF.out (m*5+3)
    have y4:=HZF.out (m*5+4)
    go_simp
    refine hK.out _ _ (by simp only [heap5 _ _ _ _ _ n3];exact hb7) (fun hHeld=>?_)
    (try simp only [Act.put,List.setIfInBounds_toArray,List.set_cons_zero,List.set_cons_succ])
    clear hK K
    clear z0 z1 z2 z3 z4 y0 y1 y2 y3 y4
    obtain ⟨Y,hY⟩:∃ Y,(((((w7.setCell ⟨g7,m*5,none⟩ (.string ky)).setCell ⟨g7,m*5+1,none⟩ (.string ty)).setCell ⟨g7,m*5+2,none⟩ (.int .i64 of)).setCell ⟨g7,m*5+3,none⟩ (.int .i64 en)).setCell ⟨g7,m*5+4,none⟩ (.slice ka K kc))=Y:=⟨_,rfl⟩
    have h4Y:Y.cell? ⟨g,r.length*6+4,none⟩=some (.slice qa m qc):=by rw [← hY];simp only [World.cell?,heap5 _ _ _ _ _ n2];exact h4
    have f4Y:Y.frozen? ⟨g,r.length*6+4,none⟩=false:=by rw [← hY];simp only [World.frozen?,heap5 _ _ _ _ _ n2];exact f4
    have hbY:Y.heap[bp]?=some (.cells #[.string ky,.string ty,.int .i64 of,.int .i64 en,.slice ka K kc] 49 (0,0)):=by rw [← hY,heap5 _ _ _ _ _ n3];exact hb7
    rw [hY]
    refine wpAnyH_ready (rs:=[14]) (by kernel_rfl) (by simp) ?_
    refine (AllReadyH.cons (o:=OP.p35) rfl (fun K hK=>?_) AllReadyH.nil)
    refine wanted_step (by kernel_rfl) ?_
    go_simp
    refine hK.out _ _ (by rw [Below.heap_setCell _ _ _ _ n4];exact hbY) (fun hHeld=>?_)
    (try simp only [Act.put,List.setIfInBounds_toArray,List.set_cons_zero,List.set_cons_succ])
    clear hK K
    refine wpAnyH_done (by kernel_rfl) ?_ _
    obtain ⟨x5,xf,O9,hM9,hS9⟩:=HFin.out _ (.inl (by rw [hY]))
    clear h4Y f4Y hbY h4 f4 hY hb7 HZ HZF HFin
    have HM9:=hid hM9
    have HS9:=hid hS9
    clear hM9 hS9
    generalize Y.setCell ⟨g,r.length*6+4,none⟩ (.slice (some ⟨g7,0,none⟩) (m+1) c7)=Z at x5 xf HM9 HS9 ⊢
    go_wp2_with fail
    first|go_end0|refine bodyPost_ret (results_none rfl _ _ _) rfl ?_
    exact ⟨rfl,O9,by rw [Hff.out];exact HM9.out,HSV.out.trans HS9.out⟩
   ·refine wanted_step (by kernel_rfl) ?_
    go_simp
    refine hK.out _ _ (by rw [Below.heap_setCell _ _ _ _ n4];exact hb7) (fun hHeld=>?_)
    (try simp only [Act.put,List.setIfInBounds_toArray,List.set_cons_zero,List.set_cons_succ])
    clear hK K
    obtain ⟨Z,hZ⟩:∃ Z,w7.setCell ⟨g,r.length*6+4,none⟩ (.slice (some ⟨g7,0,none⟩) (m+1) c7)=Z:=⟨_,rfl⟩
    have hz7:Z.heap[g7]?=w7.heap[g7]?:=by rw [← hZ];exact Below.heap_setCell _ _ _ _ n1
    have z0:Z.cell? ⟨g7,m*5,none⟩=some (.string ⟨#[]⟩):=by have h:=HZ.out 0 _ rfl;simp only [World.cell?] at h ⊢;rw [hz7];exact h
    have z1:Z.cell? ⟨g7,m*5+1,none⟩=some (.string ⟨#[]⟩):=by have h:=HZ.out 1 _ rfl;simp only [World.cell?] at h ⊢;rw [hz7];exact h
    have z2:Z.cell? ⟨g7,m*5+2,none⟩=some (.int .i64 0):=by have h:=HZ.out 2 _ rfl;simp only [World.cell?] at h ⊢;rw [hz7];exact h
    have z3:Z.cell? ⟨g7,m*5+3,none⟩=some (.int .i64 0):=by have h:=HZ.out 3 _ rfl;simp only [World.cell?] at h ⊢;rw [hz7];exact h
    have z4:Z.cell? ⟨g7,m*5+4,none⟩=some (.slice none 0 0):=by have h:=HZ.out 4 _ rfl;simp only [World.cell?] at h ⊢;rw [hz7];exact h
    have y0:Z.frozen? ⟨g7,m*5,none⟩=false:=by have h:=HZF.out (m*5);simp only [World.frozen?] at h ⊢;rw [hz7];exact h
    have y1:Z.frozen? ⟨g7,m*5+1,none⟩=false:=by have h:=HZF.out (m*5+1);simp only [World.frozen?] at h ⊢;rw [hz7];exact h
    have y2:Z.frozen? ⟨g7,m*5+2,none⟩=false:=by have h:=HZF.out (m*5+2);simp only [World.frozen?] at h ⊢;rw [hz7];exact h
    have y3:Z.frozen? ⟨g7,m*5+3,none⟩=false:=by have h:=HZF.out (m*5+3);simp only [World.frozen?] at h ⊢;rw [hz7];exact h
    have y4:Z.frozen? ⟨g7,m*5+4,none⟩=false:=by have h:=HZF.out (m*5+4);simp only [World.frozen?] at h ⊢;rw [hz7];exact h
    have hbZ:Z.heap[bp]?=some (.cells #[.string ky,.string ty,.int .i64 of,.int .i64 en,.slice ka K kc] 49 (0,0)):=by rw [← hZ,Below.heap_setCell _ _ _ _ n4];exact hb7
    rw [hZ]
    clear hz7
    refine wpAnyH_ready (rs:=[10]) (by kernel_rfl) (by simp) ?_
    refine (AllReadyH.cons (o:=OP.p34) rfl (fun K hK=>?_) AllReadyH.nil)
    refine wanted_step (by kernel_rfl) ?_
    go_simp
    refine hK.out _ _ (by rw [heap5 _ _ _ _ _ n3];exact hbZ) (fun hHeld=>?_)
    (try simp only [Act.put,List.setIfInBounds_toArray,List.set_cons_zero,List.set_cons_succ])
    clear hK K
    refine wpAnyH_done (by kernel_rfl) ?_ _
    obtain ⟨x5,xf,O9,hM9,hS9⟩:=HFin.out _ (.inr (by rw [hZ]))
    clear z0 z1 z2 z3 z4 y0 y1 y2 y3 y4 h4 f4 hZ hb7 hbZ HZ HZF HFin
    have HM9:=hid hM9
    have HS9:=hid hS9
    clear hM9 hS9
    generalize (((((Z.setCell ⟨g7,m*5,none⟩ (.string ky)).setCell ⟨g7,m*5+1,none⟩ (.string ty)).setCell ⟨g7,m*5+2,none⟩ (.int .i64 of)).setCell ⟨g7,m*5+3,none⟩ (.int .i64 en)).setCell ⟨g7,m*5+4,none⟩ (.slice ka K kc))=Y at x5 xf HM9 HS9 ⊢
    go_wp2_with fail
    first|go_end0|refine bodyPost_ret (results_none rfl _ _ _) rfl ?_
    exact ⟨rfl,O9,by rw [Hff.out];exact HM9.out,HSV.out.trans HS9.out⟩
  ·refine wanted_step (by kernel_rfl) ?_
   go_simp
   refine hK.out _ _ (HSa.out) (fun hHeld=>?_)
   (try simp only [Act.put,List.setIfInBounds_toArray,List.set_cons_zero,List.set_cons_succ])
   clear hK K
   refine wpAnyH_ready (rs:=[4]) (by kernel_rfl) (by simp) ?_
   refine (AllReadyH.cons (o:=OP.p26) rfl (fun K hK=>?_) AllReadyH.nil)
   refine wanted_step (by kernel_rfl) ?_
   have q4:=HC4a.out
   go_simp
   refine hK.out _ _ (HSa.out) (fun hHeld=>?_)
   (try simp only [Act.put,List.setIfInBounds_toArray,List.set_cons_zero,List.set_cons_succ])
   clear hK K
   clear q4
   refine wpAnyH_take (i:=6) (oi:=OP.p28) (v:=.int .i64 m) rfl (by kernel_rfl) (by kernel_rfl) (by kernel_rfl) (fun _ _ _ h=>h) (Or.inl ⟨by rfl,fun X hX=>by kernel_rfl⟩) hHeld ?_
   (try simp only [Act.put,List.setIfInBounds_toArray,List.set_cons_zero,List.set_cons_succ])
   refine wpAnyH_ready (rs:=[8]) (by kernel_rfl) (by simp) ?_
   refine (AllReadyH.cons (o:=OP.p29) rfl (fun K hK=>?_) AllReadyH.nil)
   refine wanted_step (by kernel_rfl) ?_
   refine wp_append_lies _ (.tmp 64) (.tmp 67) 47 rfl 0 49 iP (.agg #[.string ⟨#[]⟩,.string ⟨#[]⟩,.int .i64 0,.int .i64 0,.slice none 0 0]) 5 72 Tryz.underlying47 hi0 hz0 hz1 hz2 rfl (by decide) (.slice qa m qc) m ksa rfl HRowa.out ⟨Wd.heap.size,0,none⟩ 1 1 [.string ⟨#[]⟩,.string ⟨#[]⟩,.int .i64 0,.int .i64 0,.slice none 0 0] rfl rfl (news_five Wd) five_one (by decide) (by unfold maxLen;omega) (by omega) (Nat.zero_le _) _ rfl ?_
   intro g7 c7 w7 hown hgrow hat hlt7
   obtain ⟨hb7,⟨h4,f4⟩,⟨n1,n2,n3,n4⟩,⟨hz,hzf⟩,hfin⟩:=HE.out g7 c7 w7 hown hgrow hat
   have HFin:=hid hfin
   have HZ:=hid hz
   have HZF:=hid hzf
   clear hown hgrow hat hfin hz hzf
   refine hK.out _ _ (hb7) (fun hHeld=>?_)
   (try simp only [Act.put,List.setIfInBounds_toArray,List.set_cons_zero,List.set_cons_succ])
   clear hK K
   refine wpAnyH_take (i:=9) (oi:=OP.p30) (v:=.pointer (some ⟨g7,m*5,none⟩)) rfl (by kernel_rfl) (by kernel_rfl) (by kernel_rfl) (fun _ _ _ h=>h) (Or.inl ⟨by rfl,fun X hX=>idx_part g7 m c7 X rfl rfl rfl⟩) hHeld ?_
   (try simp only [Act.put,List.setIfInBounds_toArray,List.set_cons_zero,List.set_cons_succ])
   refine wpAnyH_take (i:=11) (oi:=OP.p31) (v:=.pointer (some ⟨g,r.length*6,none⟩)) rfl (by kernel_rfl) (by kernel_rfl) (by kernel_rfl) (fun _ _ _ h=>h) (Or.inl ⟨by rfl,fun X hX=>rfl⟩) hHeld ?_
   (try simp only [Act.put,List.setIfInBounds_toArray,List.set_cons_zero,List.set_cons_succ])
   refine wpAnyH_take (i:=12) (oi:=OP.p32) (v:=.pointer (some ⟨g,r.length*6,none⟩)) rfl (by kernel_rfl) (by kernel_rfl) (by kernel_rfl) (fun _ _ _ h=>h) (Or.inl ⟨by rfl,fun X hX=>rfl⟩) hHeld ?_
   (try simp only [Act.put,List.setIfInBounds_toArray,List.set_cons_zero,List.set_cons_succ])
   refine wpAnyH_take (i:=13) (oi:=OP.p33) (v:=.pointer (some ⟨g,r.length*6+4,none⟩)) rfl (by kernel_rfl) (by kernel_rfl) (by kernel_rfl) (fun _ _ _ h=>h) (Or.inl ⟨by rfl,fun X hX=>rfl⟩) hHeld ?_
   (try simp only [Act.put,List.setIfInBounds_toArray,List.set_cons_zero,List.set_cons_succ])
   refine wpAnyH_ready (rs:=[10,14]) (by kernel_rfl) (by simp) ?_
   refine (AllReadyH.cons (o:=OP.p34) rfl (fun K hK=>?_) (AllReadyH.cons (o:=OP.p35) rfl (fun K hK=>?_) AllReadyH.nil))
   ·refine wanted_step (by kernel_rfl) ?_
    have z0:w7.cell? ⟨g7,m*5,none⟩=some (.string ⟨#[]⟩):=HZ.out 0 _ rfl
    have z1:w7.cell? ⟨g7,m*5+1,none⟩=some (.string ⟨#[]⟩):=HZ.out 1 _ rfl
    have z2:w7.cell? ⟨g7,m*5+2,none⟩=some (.int .i64 0):=HZ.out 2 _ rfl
    have z3:w7.cell? ⟨g7,m*5+3,none⟩=some (.int .i64 0):=HZ.out 3 _ rfl
    have z4:w7.cell? ⟨g7,m*5+4,none⟩=some (.slice none 0 0):=HZ.out 4 _ rfl
    have y0:=HZF.out (m*5)
    have y1:=HZF.out (m*5+1)
    have y2:=HZF.out (m*5+2)
    have y3:=HZF.out (m*5+3)
    have y4:=HZF.out (m*5+4)
    go_simp
    refine hK.out _ _ (by simp only [heap5 _ _ _ _ _ n3];exact hb7) (fun hHeld=>?_)
    (try simp only [Act.put,List.setIfInBounds_toArray,List.set_cons_zero,List.set_cons_succ])
    clear hK K
    clear z0 z1 z2 z3 z4 y0 y1 y2 y3 y4
    obtain ⟨Y,hY⟩:∃ Y,(((((w7.setCell ⟨g7,m*5,none⟩ (.string ky)).setCell ⟨g7,m*5+1,none⟩ (.string ty)).setCell ⟨g7,m*5+2,none⟩ (.int .i64 of)).setCell ⟨g7,m*5+3,none⟩ (.int .i64 en)).setCell ⟨g7,m*5+4,none⟩ (.slice ka K kc))=Y:=⟨_,rfl⟩
    have h4Y:Y.cell? ⟨g,r.length*6+4,none⟩=some (.slice qa m qc):=by rw [← hY];simp only [World.cell?,heap5 _ _ _ _ _ n2];exact h4
    have f4Y:Y.frozen? ⟨g,r.length*6+4,none⟩=false:=by rw [← hY];simp only [World.frozen?,heap5 _ _ _ _ _ n2];exact f4
    have hbY:Y.heap[bp]?=some (.cells #[.string ky,.string ty,.int .i64 of,.int .i64 en,.slice ka K kc] 49 (0,0)):=by rw [← hY,heap5 _ _ _ _ _ n3];exact hb7
    rw [hY]
    refine wpAnyH_ready (rs:=[14]) (by kernel_rfl) (by simp) ?_
    refine (AllReadyH.cons (o:=OP.p35) rfl (fun K hK=>?_) AllReadyH.nil)
    refine wanted_step (by kernel_rfl) ?_
    go_simp
    refine hK.out _ _ (by rw [Below.heap_setCell _ _ _ _ n4];exact hbY) (fun hHeld=>?_)
    (try simp only [Act.put,List.setIfInBounds_toArray,List.set_cons_zero,List.set_cons_succ])
    clear hK K
    refine wpAnyH_done (by kernel_rfl) ?_ _
    obtain ⟨x5,xf,O9,hM9,hS9⟩:=HFin.out _ (.inl (by rw [hY]))
    clear h4Y f4Y hbY h4 f4 hY hb7 HZ HZF HFin
    have HM9:=hid hM9
    have HS9:=hid hS9
    clear hM9 hS9
    generalize Y.setCell ⟨g,r.length*6+4,none⟩ (.slice (some ⟨g7,0,none⟩) (m+1) c7)=Z at x5 xf HM9 HS9 ⊢
    go_wp2_with fail
    first|go_end0|refine bodyPost_ret (results_none rfl _ _ _) rfl ?_
    exact ⟨rfl,O9,by rw [Hff.out];exact HM9.out,HSV.out.trans HS9.out⟩
   ·refine wanted_step (by kernel_rfl) ?_
    go_simp
    refine hK.out _ _ (by rw [Below.heap_setCell _ _ _ _ n4];exact hb7) (fun hHeld=>?_)
    (try simp only [Act.put,List.setIfInBounds_toArray,List.set_cons_zero,List.set_cons_succ])
    clear hK K
    obtain ⟨Z,hZ⟩:∃ Z,w7.setCell ⟨g,r.length*6+4,none⟩ (.slice (some ⟨g7,0,none⟩) (m+1) c7)=Z:=⟨_,rfl⟩
    have hz7:Z.heap[g7]?=w7.heap[g7]?:=by rw [← hZ];exact Below.heap_setCell _ _ _ _ n1
    have z0:Z.cell? ⟨g7,m*5,none⟩=some (.string ⟨#[]⟩):=by have h:=HZ.out 0 _ rfl;simp only [World.cell?] at h ⊢;rw [hz7];exact h
    have z1:Z.cell? ⟨g7,m*5+1,none⟩=some (.string ⟨#[]⟩):=by have h:=HZ.out 1 _ rfl;simp only [World.cell?] at h ⊢;rw [hz7];exact h
    have z2:Z.cell? ⟨g7,m*5+2,none⟩=some (.int .i64 0):=by have h:=HZ.out 2 _ rfl;simp only [World.cell?] at h ⊢;rw [hz7];exact h
    have z3:Z.cell? ⟨g7,m*5+3,none⟩=some (.int .i64 0):=by have h:=HZ.out 3 _ rfl;simp only [World.cell?] at h ⊢;rw [hz7];exact h
    have z4:Z.cell? ⟨g7,m*5+4,none⟩=some (.slice none 0 0):=by have h:=HZ.out 4 _ rfl;simp only [World.cell?] at h ⊢;rw [hz7];exact h
    have y0:Z.frozen? ⟨g7,m*5,none⟩=false:=by have h:=HZF.out (m*5);simp only [World.frozen?] at h ⊢;rw [hz7];exact h
    have y1:Z.frozen? ⟨g7,m*5+1,none⟩=false:=by have h:=HZF.out (m*5+1);simp only [World.frozen?] at h ⊢;rw [hz7];exact h
    have y2:Z.frozen? ⟨g7,m*5+2,none⟩=false:=by have h:=HZF.out (m*5+2);simp only [World.frozen?] at h ⊢;rw [hz7];exact h
    have y3:Z.frozen? ⟨g7,m*5+3,none⟩=false:=by have h:=HZF.out (m*5+3);simp only [World.frozen?] at h ⊢;rw [hz7];exact h
    have y4:Z.frozen? ⟨g7,m*5+4,none⟩=false:=by have h:=HZF.out (m*5+4);simp only [World.frozen?] at h ⊢;rw [hz7];exact h
    have hbZ:Z.heap[bp]?=some (.cells #[.string ky,.string ty,.int .i64 of,.int .i64 en,.slice ka K kc] 49 (0,0)):=by rw [← hZ,Below.heap_setCell _ _ _ _ n4];exact hb7
    rw [hZ]
    clear hz7
    refine wpAnyH_ready (rs:=[10]) (by kernel_rfl) (by simp) ?_
    refine (AllReadyH.cons (o:=OP.p34) rfl (fun K hK=>?_) AllReadyH.nil)
    refine wanted_step (by kernel_rfl) ?_
    go_simp
    refine hK.out _ _ (by rw [heap5 _ _ _ _ _ n3];exact hbZ) (fun hHeld=>?_)
    (try simp only [Act.put,List.setIfInBounds_toArray,List.set_cons_zero,List.set_cons_succ])
    clear hK K
    refine wpAnyH_done (by kernel_rfl) ?_ _
    obtain ⟨x5,xf,O9,hM9,hS9⟩:=HFin.out _ (.inr (by rw [hZ]))
    clear z0 z1 z2 z3 z4 y0 y1 y2 y3 y4 h4 f4 hZ hb7 hbZ HZ HZF HFin
    have HM9:=hid hM9
    have HS9:=hid hS9
    clear hM9 hS9
    generalize (((((Z.setCell ⟨g7,m*5,none⟩ (.string ky)).setCell ⟨g7,m*5+1,none⟩ (.string ty)).setCell ⟨g7,m*5+2,none⟩ (.int .i64 of)).setCell ⟨g7,m*5+3,none⟩ (.int .i64 en)).setCell ⟨g7,m*5+4,none⟩ (.slice ka K kc))=Y at x5 xf HM9 HS9 ⊢
    go_wp2_with fail
    first|go_end0|refine bodyPost_ret (results_none rfl _ _ _) rfl ?_
    exact ⟨rfl,O9,by rw [Hff.out];exact HM9.out,HSV.out.trans HS9.out⟩
end
end Go.Proofs.YtojoahlpgmnbnaaGreatDoor.K
