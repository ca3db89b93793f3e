/- What the claim needs of the texts MOf04. -/
import Derived.Test.YtpbnhnilfpoljaaGreatDoorRB25
import Derived.Test.YtpbnhnilfpoljaaGreatDoorRB14
import Derived.Test.YtpbnhnilfpoljaaGreatDoorRB22
namespace Go.Proofs.YtpbnhnilfpoljaaGreatDoor.M
open Go.RowKit
open Go.Lib Go.Proofs.YtpbnhnilfpoljaaGreatDoor.V
theorem of_int {W:World} {q i:Nat} {cs:Array Value} {t:TypeId} {v:Value} (h:W.heap[q]?=some (.cells cs t (0,0))) (hv:cs[i]?=some v):(Instr.loadAt 3 (.pointer (some ⟨q,i,none⟩))).run Tryz.prog W=.ok v W:=by
 have k:=(block_cell h i).trans hv
 simp [go_sem,k]
theorem of_str {W:World} {q i:Nat} {cs:Array Value} {t:TypeId} {v:Value} (h:W.heap[q]?=some (.cells cs t (0,0))) (hv:cs[i]?=some v):(Instr.loadAt 9 (.pointer (some ⟨q,i,none⟩))).run Tryz.prog W=.ok v W:=by
 have k:=(block_cell h i).trans hv
 simp [go_sem,k]
theorem of_place {W:World} {q i:Nat} {cs:Array Value} {t:TypeId} {v u:Value} (h:W.heap[q]?=some (.cells cs t (0,0))) (hv:cs[i]?=some v) (hu:cs[i+1]?=some u):(Instr.loadAt 29 (.pointer (some ⟨q,i,none⟩))).run Tryz.prog W=.ok (.agg #[v,u]) W:=by
 have k:=(block_cell h i).trans hv
 have l:=(block_cell h (i+1)).trans hu
 simp [go_sem,k,l]
theorem of_val {W:World} {q i:Nat} {cs:Array Value} {t:TypeId} {v0 v1 v2 v3 v4 v5:Value} (h:W.heap[q]?=some (.cells cs t (0,0))) (h0:cs[i]?=some v0) (h1:cs[i+1]?=some v1) (h2:cs[i+2]?=some v2) (h3:cs[i+3]?=some v3) (h4:cs[i+4]?=some v4) (h5:cs[i+5]?=some v5) :
  (Instr.loadAt 26 (.pointer (some ⟨q,i,none⟩))).run Tryz.prog W=.ok (.agg #[v0,v1,v2,v3,v4,v5]) W:=by
 have k0:=(block_cell h i).trans h0
 have k1:=(block_cell h (i+1)).trans h1
 have k2:=(block_cell h (i+2)).trans h2
 have k3:=(block_cell h (i+3)).trans h3
 have k4:=(block_cell h (i+4)).trans h4
 have k5:=(block_cell h (i+5)).trans h5
 simp [go_sem,k0,k1,k2,k3,k4,k5]
theorem of_build (k iso inn version pl pu oso onn:Int) (ion oon:Bool) (itx name text otx:ByteArray) (a1 a2 o1 o2:Value) (W:World) :
  (Instr.build 43 #[(0,.int .i64 k),(1,.agg #[.int .i64 iso,.bool ion,.int .i64 inn,.string itx,a1,a2]),(2,.string name),(3,.int .i64 version),(4,.string text),(6,.agg #[.int .i64 pl,.int .i64 pu]),(7,.agg #[.int .i64 oso,.bool oon,.int .i64 onn,.string otx,o1,o2])]).run Tryz.prog W
   = .ok (.agg #[.int .i64 k,.int .i64 iso,.bool ion,.int .i64 inn,.string itx,a1,a2,.string name,.int .i64 version,.string text,.slice none 0 0,.int .i64 pl,.int .i64 pu,.int .i64 oso,.bool oon,.int .i64 onn,.string otx,o1,o2]) W:=by kernel_rfl
theorem of_alloc (W:World):(Instr.alloc 43 true (.tuple #[])).run Tryz.prog W=.ok (.pointer (some ⟨W.heap.size,0,none⟩)) (W.alloc (.cells #[.int .i64 0,.int .i64 0,.bool false,.int .i64 0,.string ⟨#[]⟩,.slice none 0 0,.slice none 0 0,.string ⟨#[]⟩,.int .i64 0,.string ⟨#[]⟩,.slice none 0 0,.int .i64 0,.int .i64 0,.int .i64 0,.bool false,.int .i64 0,.string ⟨#[]⟩,.slice none 0 0,.slice none 0 0] 43)):=by kernel_rfl
theorem of_store {q:Nat} {old cs:Array Value} {V:Value} {W:World} (hV:Value.agg cs=V) (h:W.heap[q]?=some (.cells old 43 (0,0))) (ho:old.size=19) (hs:cs.size=19) (h1:cs.all (·.oneCell')=true) :
  (Instr.storeAt 43 (.pointer (some ⟨q,0,none⟩)) V).run Tryz.prog W=.ok () (W.setRow q cs):=by
 rw [← hV];exact run_storeRow h (by rw [hs];kernel_rfl) (by rw [ho,hs]) h1
theorem of_yields_build {P:Program} {ops:Array Oper} {S:World→Prop} {o:Oper} {v:Value} {a:Act} (t:TypeId) (l:List (Nat × Operand)) (ho:o.op=.build t l.toArray) (hw:Region.wanted o (yielded ops a.tmps)=true) (h:∀ X,S X→(Instr.build t (l.map fun p=>(p.1,a.eval p.2)).toArray).run P X=.ok v X):YieldsIf P ops S o v a :=
 .inl ⟨hw,fun X hX=>by
  have e:(l.toArray.map fun p=>(p.1,a.eval p.2))=(l.map fun p=>(p.1,a.eval p.2)).toArray:=by simp
  have h2:(Instr.build t (l.toArray.map fun p=>(p.1,a.eval p.2))).run P X=.ok v X:=by rw [e];exact h X hX
  unfold execOp;rw [ho];simp only [Sem.run_bind,h2,Result.andThen_ok,Sem.run_pure]⟩
structure OcStof (l:List EditP) (q:Nat) (out:Array Value) (sl:Value) (i:Nat) (wc wr:World):Prop where
 mt:Mut wc.heap.size q wc wr
 own:wr.ownsRow wc.heap.size 84 6 sl i (editCs (l.take i))
 out:wr.heap[q]?=some (.cells (out.setIfInBounds 10 sl) 43 (0,0))
theorem cell_sameof {W W':World} {b:Nat} (h:W'.heap[b]?=W.heap[b]?) (i:Nat):W'.cell? ⟨b,i,none⟩=W.cell? ⟨b,i,none⟩:=by simp [World.cell?,h]
theorem block_frozenof {q:Nat} {cs:Array Value} {t:TypeId} {W:World} (h:W.heap[q]?=some (.cells cs t (0,0))) (i:Nat):W.frozen? ⟨q,i,none⟩=false:=by simp [World.frozen?,h]
theorem oc_farof {l:List EditP} {q:Nat} {out:Array Value} {sl:Value} {i:Nat} {wc wr w2 w3:World} {zo:Obj} (hst:OcStof l q out sl i wc wr) (hm:Mut wc.heap.size q wc w2) (hgrow:(w2.alloc zo).grownBy w3 sl.ownBlock) :
  ∀ k,k<wc.heap.size→w3.heap[k]?=w2.heap[k]?:=by
 have hrow:∀ k,sl.ownBlock=some k→wc.heap.size≤k:=fun k hk=>(row_lt hst.own k hk).1
 have hmz:=hm.size
 intro k hk
 rw [hgrow.block k (by simp;omega) (fun h=>by have:=hrow k h.symm;omega),Below.heap_alloc _ _ k (by omega)]
theorem oc_stepof {l:List EditP} {q:Nat} {out:Array Value} {sl:Value} {i gg capg:Nat} {wc wr w2 w3:World} {zo:Obj} (hst:OcStof l q out sl i wc wr) (hi:i<l.length) (hql:q<wc.heap.size) (hm:Mut wc.heap.size q wc w2) (hq2:w2.heap[q]?=wr.heap[q]?)
  (hgrow:(w2.alloc zo).grownBy w3 sl.ownBlock) (hown3:w3.ownsRow wc.heap.size 84 6 (.slice (some ⟨gg,0,none⟩) (i+1) capg) (i+1) (editCs (l.take i)++editC l[i])) :
  OcStof l q out (.slice (some ⟨gg,0,none⟩) (i+1) capg) (i+1) wc (w3.setCell ⟨q,10,none⟩ (.slice (some ⟨gg,0,none⟩) (i+1) capg)):=by
 have far:=oc_farof hst hm hgrow
 have hs3:=hgrow.size
 simp only [World.size_alloc] at hs3
 have hmz:=hm.size
 have hgB:=(row_lt hown3 gg rfl).1
 refine ⟨?_,?_,?_⟩
 ·exact (hm.trans ⟨hgrow.os,hgrow.tape,hgrow.output,by omega,fun k hk _=>far k hk⟩).setCell 10 _
 ·rw [List.take_succ_eq_append_getElem hi,editCs_snoc]
  exact ownsRow_same hown3 (fun g' hg'=>Below.heap_setCell _ _ _ _ (by have:=(row_lt hown3 g' hg').1;simp;omega))
 ·have h3:w3.heap[q]?=some (.cells (out.setIfInBounds 10 sl) 43 (0,0)):=(far q hql).trans (hq2.trans hst.out)
  have h4:=Go.Joins.block_setCell (i:=10) h3 (.slice (some ⟨gg,0,none⟩) (i+1) capg)
  simpa using h4
theorem of_wpalloc {P:Program} {w:World} {o:Oper} {a:Act} {K:Act→World→Prop} {Q:Exit→Act→World→Prop} (t:TypeId) (ho:o.op=.alloc t) (v:Value) (w':World)
  (hr:(Instr.alloc t true (.tuple #[])).run P w=.ok v w') (h:K (a.put o.dst v) w'):o.wp P a w K Q:=by
 unfold Oper.wp
 simp [execOp,ho,hr,Result.andThen]
 exact h
set_option maxHeartbeats 4000000 in
set_option maxRecDepth 20000 in
theorem of_call (c:CallP) (il ik ch ol ok:Value) (w:World) (h:CallIn w (fun _=>True) c il ik ch ol ok) (hwi:wt c.id≤1099511627776) (hwo:wt c.other≤1099511627776) (hll:c.changes.length≤1000000) :
  Calls Tryz.prog 9 #[argC c il ik ch ol ok] w fun e w'=>Below w.heap.size w w'∧∃ il' ch' ol',e=.returned (argC c il' ik ch' ol' ok)∧CallIn w' (fun _=>True) c il' ik ch' ol' ok:=by
 obtain ⟨i0,hi0,hz0,hz1,hz2⟩:=info_parts infoE
 have cI:=fun W (hb:Below w.heap.size w W)=>of_v c.id il ik w.heap.size W (val_below (val_here h.id) hb) hb.size hwi
 have cO:=fun W (hb:Below w.heap.size w W)=>of_v c.other ol ok w.heap.size W (val_below (val_here h.other) hb) hb.size hwo
 obtain ⟨k,⟨iso,ion,inn,itx,ilst,iks⟩,name,version,text,chs,⟨pl,pu⟩,⟨oso,oon,onn,otx,olst,oks⟩⟩:=c
 obtain ⟨hi,he,ho⟩:=h
 obtain ⟨⟨ia1,ic1,rfl,_⟩,⟨ia2,ic2,rfl,_⟩⟩:=hi
 obtain ⟨⟨oa1,oc1,rfl,_⟩,⟨oa2,oc2,rfl,_⟩⟩:=ho
 obtain ⟨ca,cc,rfl,hE⟩:=he.bound
 have HE:=Lib.hid hE
 clear he hE
 simp only [argC,callC,arg,six',six,strCell,List.cons_append,List.nil_append] at cI cO ⊢
 simp only at hll
 obtain ⟨ln,hln⟩:∃ k,chs.length=k:=⟨_,rfl⟩
 have HLN:=Lib.hid hln
 rw [hln] at hll ⊢
 clear hln
 obtain ⟨h1,h2,h3,h4⟩:=two w (.cells #[.int .i64 k,.int .i64 iso,.bool ion,.int .i64 inn,.string ⟨itx.toArray⟩,.slice ia1 ilst.length ic1,.slice ia2 iks.length ic2,.string ⟨name.toArray⟩,.int .i64 version,.string ⟨text.toArray⟩,.slice ca ln cc,.int .i64 pl,.int .i64 pu,.int .i64 oso,.bool oon,.int .i64 onn,.string ⟨otx.toArray⟩,.slice oa1 olst.length oc1,.slice oa2 oks.length oc2] 31) (.cells #[.int .i64 0,.int .i64 0,.bool false,.int .i64 0,.string ⟨#[]⟩,.slice none 0 0,.slice none 0 0,.string ⟨#[]⟩,.int .i64 0,.string ⟨#[]⟩,.slice none 0 0,.int .i64 0,.int .i64 0,.int .i64 0,.bool false,.int .i64 0,.string ⟨#[]⟩,.slice none 0 0,.slice none 0 0] 43)
 obtain ⟨W2,hW2⟩:∃ W2,(w.alloc (.cells #[.int .i64 k,.int .i64 iso,.bool ion,.int .i64 inn,.string ⟨itx.toArray⟩,.slice ia1 ilst.length ic1,.slice ia2 iks.length ic2,.string ⟨name.toArray⟩,.int .i64 version,.string ⟨text.toArray⟩,.slice ca ln cc,.int .i64 pl,.int .i64 pu,.int .i64 oso,.bool oon,.int .i64 onn,.string ⟨otx.toArray⟩,.slice oa1 olst.length oc1,.slice oa2 oks.length oc2] 31)).alloc (.cells #[.int .i64 0,.int .i64 0,.bool false,.int .i64 0,.string ⟨#[]⟩,.slice none 0 0,.slice none 0 0,.string ⟨#[]⟩,.int .i64 0,.string ⟨#[]⟩,.slice none 0 0,.int .i64 0,.int .i64 0,.int .i64 0,.bool false,.int .i64 0,.string ⟨#[]⟩,.slice none 0 0,.slice none 0 0] 43)=W2:=⟨_,rfl⟩
 have CI:Hid (∀ W,Below w.heap.size w W→Calls Tryz.prog 20 #[.agg #[.int .i64 iso,.bool ion,.int .i64 inn,.string ⟨itx.toArray⟩,.slice ia1 ilst.length ic1,.slice ia2 iks.length ic2]] W fun e w'=>∃ x1 x2,e=.returned (.agg #[.int .i64 iso,.bool ion,.int .i64 inn,.string ⟨itx.toArray⟩,.slice x1 ilst.length x2,.slice ia2 iks.length ic2])∧Below W.heap.size W w'∧ValIn w' (fun g=>g<w.heap.size∨W.heap.size≤g) (.mk iso ion inn itx ilst iks) (.slice x1 ilst.length x2) (.slice ia2 iks.length ic2)):=Lib.hid fun W hb=>by
  refine (cI W hb).mono ?_
  rintro e w' ⟨h1,lv,rfl,h3⟩
  have h3':=h3
  obtain ⟨⟨x1,x2,rfl,_⟩,_⟩:=h3'
  exact ⟨x1,x2,rfl,h1,h3⟩
 have CO:Hid (∀ W,Below w.heap.size w W→Calls Tryz.prog 20 #[.agg #[.int .i64 oso,.bool oon,.int .i64 onn,.string ⟨otx.toArray⟩,.slice oa1 olst.length oc1,.slice oa2 oks.length oc2]] W fun e w'=>∃ x1 x2,e=.returned (.agg #[.int .i64 oso,.bool oon,.int .i64 onn,.string ⟨otx.toArray⟩,.slice x1 olst.length x2,.slice oa2 oks.length oc2])∧Below W.heap.size W w'∧ValIn w' (fun g=>g<w.heap.size∨W.heap.size≤g) (.mk oso oon onn otx olst oks) (.slice x1 olst.length x2) (.slice oa2 oks.length oc2)):=Lib.hid fun W hb=>by
  refine (cO W hb).mono ?_
  rintro e w' ⟨h1,lv,rfl,h3⟩
  have h3':=h3
  obtain ⟨⟨x1,x2,rfl,_⟩,_⟩:=h3'
  exact ⟨x1,x2,rfl,h1,h3⟩
 rw [hW2] at h1 h2 h3 h4
 have hBW:=h3
 have HSZ:=Lib.hid (show W2.heap.size=w.heap.size+2 from h4)
 clear h4
 go_enter Tryz.func9,Tryz.ntmps9
 go_upto_region 1 with fail
 go_cut [3] (fun v3 wx=>∃ q y1 y2 z1 z2,v3=.pointer (some ⟨q,0,none⟩)∧Hid (w.heap.size+2≤q∧Below W2.heap.size W2 wx∧wx.heap[q]?=some (.cells #[.int .i64 k,.int .i64 iso,.bool ion,.int .i64 inn,.string ⟨itx.toArray⟩,.slice y1 ilst.length y2,.slice ia2 iks.length ic2,.string ⟨name.toArray⟩,.int .i64 version,.string ⟨text.toArray⟩,.slice none 0 0,.int .i64 pl,.int .i64 pu,.int .i64 oso,.bool oon,.int .i64 onn,.string ⟨otx.toArray⟩,.slice z1 olst.length z2,.slice oa2 oks.length oc2] 43 (0,0))∧ValIn wx (fun g=>g<w.heap.size∨w.heap.size+2≤g∧g≠q) (.mk iso ion inn itx ilst iks) (.slice y1 ilst.length y2) (.slice ia2 iks.length ic2)∧ValIn wx (fun g=>g<w.heap.size∨w.heap.size+2≤g∧g≠q) (.mk oso oon onn otx olst oks) (.slice z1 olst.length z2) (.slice oa2 oks.length oc2)))
 case first =>
  refine wp_region_held_drew (S:=(fun X=>X.heap[w.heap.size]?=some (.cells #[.int .i64 k,.int .i64 iso,.bool ion,.int .i64 inn,.string ⟨itx.toArray⟩,.slice ia1 ilst.length ic1,.slice ia2 iks.length ic2,.string ⟨name.toArray⟩,.int .i64 version,.string ⟨text.toArray⟩,.slice ca ln cc,.int .i64 pl,.int .i64 pu,.int .i64 oso,.bool oon,.int .i64 onn,.string ⟨otx.toArray⟩,.slice oa1 olst.length oc1,.slice oa2 oks.length oc2] 31 (0,0))∧Below W2.heap.size W2 X)) (by kernel_rfl) ⟨h1,(Below.refl _ _).drew⟩ (fun hHeld=>?_)
  refine wpAnyH_take (i:=0) (oi:=({ dst:=some 6,op:=Op.fieldAddr 31 (Operand.tmp 1) 0,type:=0,pos := "law.go:27",after:=#[],guard:=none }:Oper)) (v:=.pointer (some ⟨w.heap.size,0,none⟩)) rfl (by kernel_rfl) (by kernel_rfl) (by kernel_rfl) (fun _ _ _ h=>h) (Or.inl ⟨by rfl,fun X hX=>rfl⟩) hHeld ?_
  (try simp only [Act.put,List.setIfInBounds_toArray,List.set_cons_zero,List.set_cons_succ])
  refine wpAnyH_take (i:=1) (oi:=({ dst:=some 7,op:=Op.load 3 (Operand.tmp 6),type:=3,pos := "law.go:27",after:=#[{ on:=0,ground:=Ground.data }],guard:=none }:Oper)) (v:=.int .i64 k) rfl (by kernel_rfl) (by kernel_rfl) (by kernel_rfl) (fun _ _ _ h=>h) (yields_load 3 (.tmp 6) rfl (by rfl) (fun X hX=>of_int hX.1 rfl)) hHeld ?_
  (try simp only [Act.put,List.setIfInBounds_toArray,List.set_cons_zero,List.set_cons_succ])
  refine wpAnyH_take (i:=2) (oi:=({ dst:=some 8,op:=Op.fieldAddr 31 (Operand.tmp 1) 1,type:=0,pos := "law.go:27",after:=#[],guard:=none }:Oper)) (v:=.pointer (some ⟨w.heap.size,1,none⟩)) rfl (by kernel_rfl) (by kernel_rfl) (by kernel_rfl) (fun _ _ _ h=>h) (Or.inl ⟨by rfl,fun X hX=>rfl⟩) hHeld ?_
  (try simp only [Act.put,List.setIfInBounds_toArray,List.set_cons_zero,List.set_cons_succ])
  refine wpAnyH_take (i:=3) (oi:=({ dst:=some 9,op:=Op.load 26 (Operand.tmp 8),type:=26,pos := "law.go:27",after:=#[{ on:=2,ground:=Ground.data }],guard:=none }:Oper)) (v:=.agg #[.int .i64 iso,.bool ion,.int .i64 inn,.string ⟨itx.toArray⟩,.slice ia1 ilst.length ic1,.slice ia2 iks.length ic2]) rfl (by kernel_rfl) (by kernel_rfl) (by kernel_rfl) (fun _ _ _ h=>h) (yields_load 26 (.tmp 8) rfl (by rfl) (fun X hX=>of_val hX.1 rfl rfl rfl rfl rfl rfl)) hHeld ?_
  (try simp only [Act.put,List.setIfInBounds_toArray,List.set_cons_zero,List.set_cons_succ])
  refine wpAnyH_take (i:=5) (oi:=({ dst:=some 11,op:=Op.fieldAddr 31 (Operand.tmp 1) 2,type:=0,pos := "law.go:27",after:=#[],guard:=none }:Oper)) (v:=.pointer (some ⟨w.heap.size,7,none⟩)) rfl (by kernel_rfl) (by kernel_rfl) (by kernel_rfl) (fun _ _ _ h=>h) (Or.inl ⟨by rfl,fun X hX=>rfl⟩) hHeld ?_
  (try simp only [Act.put,List.setIfInBounds_toArray,List.set_cons_zero,List.set_cons_succ])
  refine wpAnyH_take (i:=6) (oi:=({ dst:=some 12,op:=Op.load 9 (Operand.tmp 11),type:=9,pos := "law.go:27",after:=#[{ on:=5,ground:=Ground.data }],guard:=none }:Oper)) (v:=.string ⟨name.toArray⟩) rfl (by kernel_rfl) (by kernel_rfl) (by kernel_rfl) (fun _ _ _ h=>h) (yields_load 9 (.tmp 11) rfl (by rfl) (fun X hX=>of_str hX.1 rfl)) hHeld ?_
  (try simp only [Act.put,List.setIfInBounds_toArray,List.set_cons_zero,List.set_cons_succ])
  refine wpAnyH_take (i:=7) (oi:=({ dst:=some 13,op:=Op.fieldAddr 31 (Operand.tmp 1) 3,type:=0,pos := "law.go:27",after:=#[],guard:=none }:Oper)) (v:=.pointer (some ⟨w.heap.size,8,none⟩)) rfl (by kernel_rfl) (by kernel_rfl) (by kernel_rfl) (fun _ _ _ h=>h) (Or.inl ⟨by rfl,fun X hX=>rfl⟩) hHeld ?_
  (try simp only [Act.put,List.setIfInBounds_toArray,List.set_cons_zero,List.set_cons_succ])
  refine wpAnyH_take (i:=8) (oi:=({ dst:=some 14,op:=Op.load 3 (Operand.tmp 13),type:=3,pos := "law.go:27",after:=#[{ on:=7,ground:=Ground.data }],guard:=none }:Oper)) (v:=.int .i64 version) rfl (by kernel_rfl) (by kernel_rfl) (by kernel_rfl) (fun _ _ _ h=>h) (yields_load 3 (.tmp 13) rfl (by rfl) (fun X hX=>of_int hX.1 rfl)) hHeld ?_
  (try simp only [Act.put,List.setIfInBounds_toArray,List.set_cons_zero,List.set_cons_succ])
  refine wpAnyH_take (i:=9) (oi:=({ dst:=some 15,op:=Op.fieldAddr 31 (Operand.tmp 1) 4,type:=0,pos := "law.go:27",after:=#[],guard:=none }:Oper)) (v:=.pointer (some ⟨w.heap.size,9,none⟩)) rfl (by kernel_rfl) (by kernel_rfl) (by kernel_rfl) (fun _ _ _ h=>h) (Or.inl ⟨by rfl,fun X hX=>rfl⟩) hHeld ?_
  (try simp only [Act.put,List.setIfInBounds_toArray,List.set_cons_zero,List.set_cons_succ])
  refine wpAnyH_take (i:=10) (oi:=({ dst:=some 16,op:=Op.load 9 (Operand.tmp 15),type:=9,pos := "law.go:27",after:=#[{ on:=9,ground:=Ground.data }],guard:=none }:Oper)) (v:=.string ⟨text.toArray⟩) rfl (by kernel_rfl) (by kernel_rfl) (by kernel_rfl) (fun _ _ _ h=>h) (yields_load 9 (.tmp 15) rfl (by rfl) (fun X hX=>of_str hX.1 rfl)) hHeld ?_
  (try simp only [Act.put,List.setIfInBounds_toArray,List.set_cons_zero,List.set_cons_succ])
  refine wpAnyH_take (i:=11) (oi:=({ dst:=some 17,op:=Op.fieldAddr 31 (Operand.tmp 1) 6,type:=0,pos := "law.go:27",after:=#[],guard:=none }:Oper)) (v:=.pointer (some ⟨w.heap.size,11,none⟩)) rfl (by kernel_rfl) (by kernel_rfl) (by kernel_rfl) (fun _ _ _ h=>h) (Or.inl ⟨by rfl,fun X hX=>rfl⟩) hHeld ?_
  (try simp only [Act.put,List.setIfInBounds_toArray,List.set_cons_zero,List.set_cons_succ])
  refine wpAnyH_take (i:=12) (oi:=({ dst:=some 18,op:=Op.load 29 (Operand.tmp 17),type:=29,pos := "law.go:27",after:=#[{ on:=11,ground:=Ground.data }],guard:=none }:Oper)) (v:=.agg #[.int .i64 pl,.int .i64 pu]) rfl (by kernel_rfl) (by kernel_rfl) (by kernel_rfl) (fun _ _ _ h=>h) (yields_load 29 (.tmp 17) rfl (by rfl) (fun X hX=>of_place hX.1 rfl rfl)) hHeld ?_
  (try simp only [Act.put,List.setIfInBounds_toArray,List.set_cons_zero,List.set_cons_succ])
  refine wpAnyH_take (i:=13) (oi:=({ dst:=some 19,op:=Op.fieldAddr 31 (Operand.tmp 1) 7,type:=0,pos := "law.go:27",after:=#[],guard:=none }:Oper)) (v:=.pointer (some ⟨w.heap.size,13,none⟩)) rfl (by kernel_rfl) (by kernel_rfl) (by kernel_rfl) (fun _ _ _ h=>h) (Or.inl ⟨by rfl,fun X hX=>rfl⟩) hHeld ?_
  (try simp only [Act.put,List.setIfInBounds_toArray,List.set_cons_zero,List.set_cons_succ])
  refine wpAnyH_take (i:=14) (oi:=({ dst:=some 20,op:=Op.load 26 (Operand.tmp 19),type:=26,pos := "law.go:27",after:=#[{ on:=13,ground:=Ground.data }],guard:=none }:Oper)) (v:=.agg #[.int .i64 oso,.bool oon,.int .i64 onn,.string ⟨otx.toArray⟩,.slice oa1 olst.length oc1,.slice oa2 oks.length oc2]) rfl (by kernel_rfl) (by kernel_rfl) (by kernel_rfl) (fun _ _ _ h=>h) (yields_load 26 (.tmp 19) rfl (by rfl) (fun X hX=>of_val hX.1 rfl rfl rfl rfl rfl rfl)) hHeld ?_
  (try simp only [Act.put,List.setIfInBounds_toArray,List.set_cons_zero,List.set_cons_succ])
  refine wpAnyH_ready (rs:=[4,17]) (by kernel_rfl) (by simp) ?_
  refine (AllReadyH.cons (o:=({ dst:=some 10,op:=Op.call { callee:=Callee.value (Operand.func 20),args:=#[Operand.tmp 9],argTypes:=#[26] },type:=36,pos := "law.go:27",after:=#[{ on:=3,ground:=Ground.data }],guard:=none }:Oper)) rfl (fun K hK=>?_) (AllReadyH.cons (o:=({ dst:=some 3,op:=Op.alloc 43,type:=0,pos := "law.go:27",after:=#[],guard:=none }:Oper)) rfl (fun K hK=>?_) AllReadyH.nil))
  ·refine wanted_step (by kernel_rfl) ?_
   go_simp
   go_at_call 20
   refine (CI.out _ (hBW.trans (hHeld.2.mono hBW.size))).mono ?_
   rintro e wa ⟨y1,y2,rfl,hba,hva⟩
   refine hK.out _ _ ⟨(hba.block _ (Array.getElem?_eq_some_iff.1 hHeld.1).1).trans hHeld.1,hHeld.2.trans (hba.mono hHeld.2.size)⟩ (fun hHelda=>?_)
   (try simp only [Act.put,List.setIfInBounds_toArray,List.set_cons_zero,List.set_cons_succ])
   have hza:=hHeld.2.size
   have hsa:=hba.size
   replace hHeld:=hHelda
   clear hK
   refine wpAnyH_ready (rs:=[15,17]) (by kernel_rfl) (by simp) ?_
   refine (AllReadyH.cons (o:=({ dst:=some 21,op:=Op.call { callee:=Callee.value (Operand.func 20),args:=#[Operand.tmp 20],argTypes:=#[26] },type:=36,pos := "law.go:27",after:=#[{ on:=14,ground:=Ground.data },{ on:=4,ground:=Ground.chain }],guard:=none }:Oper)) rfl (fun K hK=>?_) (AllReadyH.cons (o:=({ dst:=some 3,op:=Op.alloc 43,type:=0,pos := "law.go:27",after:=#[],guard:=none }:Oper)) rfl (fun K hK=>?_) AllReadyH.nil))
   ·refine wanted_step (by kernel_rfl) ?_
    go_simp
    go_at_call 20
    refine (CO.out _ (hBW.trans (hHeld.2.mono hBW.size))).mono ?_
    rintro e wb ⟨z1,z2,rfl,hbb,hvb⟩
    refine hK.out _ _ ⟨(hbb.block _ (Array.getElem?_eq_some_iff.1 hHeld.1).1).trans hHeld.1,hHeld.2.trans (hbb.mono hHeld.2.size)⟩ (fun hHeldb=>?_)
    (try simp only [Act.put,List.setIfInBounds_toArray,List.set_cons_zero,List.set_cons_succ])
    have hzb:=hHeld.2.size
    have hsb:=hbb.size
    replace hHeld:=hHeldb
    clear hK
    replace hva:=val_below hva hbb
    obtain ⟨V,hV⟩:∃ V,Value.agg #[.int .i64 k,.int .i64 iso,.bool ion,.int .i64 inn,.string ⟨itx.toArray⟩,.slice y1 ilst.length y2,.slice ia2 iks.length ic2,.string ⟨name.toArray⟩,.int .i64 version,.string ⟨text.toArray⟩,.slice none 0 0,.int .i64 pl,.int .i64 pu,.int .i64 oso,.bool oon,.int .i64 onn,.string ⟨otx.toArray⟩,.slice z1 olst.length z2,.slice oa2 oks.length oc2]=V:=⟨_,rfl⟩
    refine wpAnyH_take (i:=16) (oi:=({ dst:=some 22,op:=Op.build 43 #[(0,Operand.tmp 7),(1,Operand.tmp 10),(2,Operand.tmp 12),(3,Operand.tmp 14),(4,Operand.tmp 16),(6,Operand.tmp 18),(7,Operand.tmp 21)],type:=43,pos := "law.go:27",after:=#[{ on:=1,ground:=Ground.data },{ on:=4,ground:=Ground.data },{ on:=6,ground:=Ground.data },{ on:=8,ground:=Ground.data },{ on:=10,ground:=Ground.data },{ on:=12,ground:=Ground.data },{ on:=15,ground:=Ground.data }],guard:=none }:Oper)) (v:=V) rfl (by kernel_rfl) (by kernel_rfl) (by kernel_rfl) (fun _ _ _ h=>h) (of_yields_build 43 [(0,Operand.tmp 7),(1,Operand.tmp 10),(2,Operand.tmp 12),(3,Operand.tmp 14),(4,Operand.tmp 16),(6,Operand.tmp 18),(7,Operand.tmp 21)] rfl (by rfl) (fun X _=>(of_build _ _ _ _ _ _ _ _ _ _ _ _ _ _ _ _ _ _ X).trans (by rw [hV]))) hHeld ?_
    (try simp only [Act.put,List.setIfInBounds_toArray,List.set_cons_zero,List.set_cons_succ])
    refine wpAnyH_ready (rs:=[17]) (by kernel_rfl) (by simp) ?_
    refine (AllReadyH.cons (o:=({ dst:=some 3,op:=Op.alloc 43,type:=0,pos := "law.go:27",after:=#[],guard:=none }:Oper)) rfl (fun K hK=>?_) AllReadyH.nil)
    ·refine wanted_step (by kernel_rfl) ?_
     refine of_wpalloc 43 rfl _ _ (of_alloc _) ?_
     refine hK.out _ _ ⟨(Below.heap_alloc _ _ _ (Array.getElem?_eq_some_iff.1 hHeld.1).1).trans hHeld.1,hHeld.2.alloc hHeld.2.size _⟩ (fun hHelda=>?_)
     (try simp only [Act.put,List.setIfInBounds_toArray,List.set_cons_zero,List.set_cons_succ])
     have hq:=heap_alloc_new wb (.cells #[.int .i64 0,.int .i64 0,.bool false,.int .i64 0,.string ⟨#[]⟩,.slice none 0 0,.slice none 0 0,.string ⟨#[]⟩,.int .i64 0,.string ⟨#[]⟩,.slice none 0 0,.int .i64 0,.int .i64 0,.int .i64 0,.bool false,.int .i64 0,.string ⟨#[]⟩,.slice none 0 0,.slice none 0 0] 43)
     have hq2:=hHeld.2.size
     have hq3:wb.heap.size<(wb.alloc (.cells #[.int .i64 0,.int .i64 0,.bool false,.int .i64 0,.string ⟨#[]⟩,.slice none 0 0,.slice none 0 0,.string ⟨#[]⟩,.int .i64 0,.string ⟨#[]⟩,.slice none 0 0,.int .i64 0,.int .i64 0,.int .i64 0,.bool false,.int .i64 0,.string ⟨#[]⟩,.slice none 0 0,.slice none 0 0] 43)).heap.size:=by simp
     replace hHeld:=hHelda
     clear hK
     replace hva:=val_below (ValIn.bound _ _ _ hva) ((Below.refl _ _).alloc (Nat.le_refl _) (.cells #[.int .i64 0,.int .i64 0,.bool false,.int .i64 0,.string ⟨#[]⟩,.slice none 0 0,.slice none 0 0,.string ⟨#[]⟩,.int .i64 0,.string ⟨#[]⟩,.slice none 0 0,.int .i64 0,.int .i64 0,.int .i64 0,.bool false,.int .i64 0,.string ⟨#[]⟩,.slice none 0 0,.slice none 0 0] 43))
     replace hvb:=val_below (ValIn.bound _ _ _ hvb) ((Below.refl _ _).alloc (Nat.le_refl _) (.cells #[.int .i64 0,.int .i64 0,.bool false,.int .i64 0,.string ⟨#[]⟩,.slice none 0 0,.slice none 0 0,.string ⟨#[]⟩,.int .i64 0,.string ⟨#[]⟩,.slice none 0 0,.int .i64 0,.int .i64 0,.int .i64 0,.bool false,.int .i64 0,.string ⟨#[]⟩,.slice none 0 0,.slice none 0 0] 43))
     refine wpAnyH_ready (rs:=[18]) (by kernel_rfl) (by simp) ?_
     refine AllReadyH.cons (o:=({ dst:=none,op:=Op.store 43 (Operand.tmp 3) (Operand.tmp 22),type:=0,pos := "law.go:27",after:=#[{ on:=17,ground:=Ground.data },{ on:=16,ground:=Ground.data },{ on:=15,ground:=Ground.chain },{ on:=0,ground:=Ground.phase },{ on:=1,ground:=Ground.phase },{ on:=2,ground:=Ground.phase },{ on:=3,ground:=Ground.phase },{ on:=4,ground:=Ground.phase },{ on:=5,ground:=Ground.phase },{ on:=6,ground:=Ground.phase },{ on:=7,ground:=Ground.phase },{ on:=8,ground:=Ground.phase },{ on:=9,ground:=Ground.phase },{ on:=10,ground:=Ground.phase },{ on:=11,ground:=Ground.phase },{ on:=12,ground:=Ground.phase },{ on:=13,ground:=Ground.phase },{ on:=14,ground:=Ground.phase },{ on:=15,ground:=Ground.phase },{ on:=16,ground:=Ground.phase },{ on:=17,ground:=Ground.phase }],guard:=none }:Oper)) rfl (fun K hK=>?_) AllReadyH.nil
     refine wanted_step (by kernel_rfl) ?_
     refine wp_storeV rfl 43 (.tmp 3) (.tmp 22) rfl _ (of_store hV hq rfl rfl (by kernel_rfl)) ?_
     have hSZ:=HSZ.out
     have hdr:W2.drew.heap.size=W2.heap.size:=rfl
     refine hK.out _ _ ⟨(setRow_other _ _ _ _ (by omega)).trans hHeld.1,Below.setRow' hHeld.2 (by omega) _⟩ (fun hHeldz=>?_)
     refine wpAnyH_done (by kernel_rfl) ?_ _
     clear hK hSZ hdr
     go_wp2_with fail
     go_meet
     have hSZ:=HSZ.out
     have hdr:W2.drew.heap.size=W2.heap.size:=rfl
     exact ⟨_,y1,y2,z1,z2,rfl,Lib.hid ⟨by omega,hHeldz.2,setRow_heap _ _ _ _ _ _ hq,ValIn.later (fun b hb _=>setRow_other _ _ _ _ (by omega)) (fun b hb=>by omega) _ _ _ hva,ValIn.later (fun b hb _=>setRow_other _ _ _ _ (by omega)) (fun b hb=>by omega) _ _ _ hvb⟩⟩
   ·refine wanted_step (by kernel_rfl) ?_
    refine of_wpalloc 43 rfl _ _ (of_alloc _) ?_
    refine hK.out _ _ ⟨(Below.heap_alloc _ _ _ (Array.getElem?_eq_some_iff.1 hHeld.1).1).trans hHeld.1,hHeld.2.alloc hHeld.2.size _⟩ (fun hHelda=>?_)
    (try simp only [Act.put,List.setIfInBounds_toArray,List.set_cons_zero,List.set_cons_succ])
    have hq:=heap_alloc_new wa (.cells #[.int .i64 0,.int .i64 0,.bool false,.int .i64 0,.string ⟨#[]⟩,.slice none 0 0,.slice none 0 0,.string ⟨#[]⟩,.int .i64 0,.string ⟨#[]⟩,.slice none 0 0,.int .i64 0,.int .i64 0,.int .i64 0,.bool false,.int .i64 0,.string ⟨#[]⟩,.slice none 0 0,.slice none 0 0] 43)
    have hq2:=hHeld.2.size
    have hq3:wa.heap.size<(wa.alloc (.cells #[.int .i64 0,.int .i64 0,.bool false,.int .i64 0,.string ⟨#[]⟩,.slice none 0 0,.slice none 0 0,.string ⟨#[]⟩,.int .i64 0,.string ⟨#[]⟩,.slice none 0 0,.int .i64 0,.int .i64 0,.int .i64 0,.bool false,.int .i64 0,.string ⟨#[]⟩,.slice none 0 0,.slice none 0 0] 43)).heap.size:=by simp
    replace hHeld:=hHelda
    clear hK
    replace hva:=val_below (ValIn.bound _ _ _ hva) ((Below.refl _ _).alloc (Nat.le_refl _) (.cells #[.int .i64 0,.int .i64 0,.bool false,.int .i64 0,.string ⟨#[]⟩,.slice none 0 0,.slice none 0 0,.string ⟨#[]⟩,.int .i64 0,.string ⟨#[]⟩,.slice none 0 0,.int .i64 0,.int .i64 0,.int .i64 0,.bool false,.int .i64 0,.string ⟨#[]⟩,.slice none 0 0,.slice none 0 0] 43))
    refine wpAnyH_ready (rs:=[15]) (by kernel_rfl) (by simp) ?_
    refine (AllReadyH.cons (o:=({ dst:=some 21,op:=Op.call { callee:=Callee.value (Operand.func 20),args:=#[Operand.tmp 20],argTypes:=#[26] },type:=36,pos := "law.go:27",after:=#[{ on:=14,ground:=Ground.data },{ on:=4,ground:=Ground.chain }],guard:=none }:Oper)) rfl (fun K hK=>?_) AllReadyH.nil)
    ·refine wanted_step (by kernel_rfl) ?_
     go_simp
     go_at_call 20
     refine (CO.out _ (hBW.trans (hHeld.2.mono hBW.size))).mono ?_
     rintro e wb ⟨z1,z2,rfl,hbb,hvb⟩
     refine hK.out _ _ ⟨(hbb.block _ (Array.getElem?_eq_some_iff.1 hHeld.1).1).trans hHeld.1,hHeld.2.trans (hbb.mono hHeld.2.size)⟩ (fun hHeldb=>?_)
     (try simp only [Act.put,List.setIfInBounds_toArray,List.set_cons_zero,List.set_cons_succ])
     have hzb:=hHeld.2.size
     have hsb:=hbb.size
     replace hHeld:=hHeldb
     clear hK
     replace hq:=(hbb.block _ (Array.getElem?_eq_some_iff.1 hq).1).trans hq
     replace hva:=val_below hva hbb
     obtain ⟨V,hV⟩:∃ V,Value.agg #[.int .i64 k,.int .i64 iso,.bool ion,.int .i64 inn,.string ⟨itx.toArray⟩,.slice y1 ilst.length y2,.slice ia2 iks.length ic2,.string ⟨name.toArray⟩,.int .i64 version,.string ⟨text.toArray⟩,.slice none 0 0,.int .i64 pl,.int .i64 pu,.int .i64 oso,.bool oon,.int .i64 onn,.string ⟨otx.toArray⟩,.slice z1 olst.length z2,.slice oa2 oks.length oc2]=V:=⟨_,rfl⟩
     refine wpAnyH_take (i:=16) (oi:=({ dst:=some 22,op:=Op.build 43 #[(0,Operand.tmp 7),(1,Operand.tmp 10),(2,Operand.tmp 12),(3,Operand.tmp 14),(4,Operand.tmp 16),(6,Operand.tmp 18),(7,Operand.tmp 21)],type:=43,pos := "law.go:27",after:=#[{ on:=1,ground:=Ground.data },{ on:=4,ground:=Ground.data },{ on:=6,ground:=Ground.data },{ on:=8,ground:=Ground.data },{ on:=10,ground:=Ground.data },{ on:=12,ground:=Ground.data },{ on:=15,ground:=Ground.data }],guard:=none }:Oper)) (v:=V) rfl (by kernel_rfl) (by kernel_rfl) (by kernel_rfl) (fun _ _ _ h=>h) (of_yields_build 43 [(0,Operand.tmp 7),(1,Operand.tmp 10),(2,Operand.tmp 12),(3,Operand.tmp 14),(4,Operand.tmp 16),(6,Operand.tmp 18),(7,Operand.tmp 21)] rfl (by rfl) (fun X _=>(of_build _ _ _ _ _ _ _ _ _ _ _ _ _ _ _ _ _ _ X).trans (by rw [hV]))) hHeld ?_
     (try simp only [Act.put,List.setIfInBounds_toArray,List.set_cons_zero,List.set_cons_succ])
     refine wpAnyH_ready (rs:=[18]) (by kernel_rfl) (by simp) ?_
     refine AllReadyH.cons (o:=({ dst:=none,op:=Op.store 43 (Operand.tmp 3) (Operand.tmp 22),type:=0,pos := "law.go:27",after:=#[{ on:=17,ground:=Ground.data },{ on:=16,ground:=Ground.data },{ on:=15,ground:=Ground.chain },{ on:=0,ground:=Ground.phase },{ on:=1,ground:=Ground.phase },{ on:=2,ground:=Ground.phase },{ on:=3,ground:=Ground.phase },{ on:=4,ground:=Ground.phase },{ on:=5,ground:=Ground.phase },{ on:=6,ground:=Ground.phase },{ on:=7,ground:=Ground.phase },{ on:=8,ground:=Ground.phase },{ on:=9,ground:=Ground.phase },{ on:=10,ground:=Ground.phase },{ on:=11,ground:=Ground.phase },{ on:=12,ground:=Ground.phase },{ on:=13,ground:=Ground.phase },{ on:=14,ground:=Ground.phase },{ on:=15,ground:=Ground.phase },{ on:=16,ground:=Ground.phase },{ on:=17,ground:=Ground.phase }],guard:=none }:Oper)) rfl (fun K hK=>?_) AllReadyH.nil
     refine wanted_step (by kernel_rfl) ?_
     refine wp_storeV rfl 43 (.tmp 3) (.tmp 22) rfl _ (of_store hV hq rfl rfl (by kernel_rfl)) ?_
     have hSZ:=HSZ.out
     have hdr:W2.drew.heap.size=W2.heap.size:=rfl
     refine hK.out _ _ ⟨(setRow_other _ _ _ _ (by omega)).trans hHeld.1,Below.setRow' hHeld.2 (by omega) _⟩ (fun hHeldz=>?_)
     refine wpAnyH_done (by kernel_rfl) ?_ _
     clear hK hSZ hdr
     go_wp2_with fail
     go_meet
     have hSZ:=HSZ.out
     have hdr:W2.drew.heap.size=W2.heap.size:=rfl
     exact ⟨_,y1,y2,z1,z2,rfl,Lib.hid ⟨by omega,hHeldz.2,setRow_heap _ _ _ _ _ _ hq,ValIn.later (fun b hb _=>setRow_other _ _ _ _ (by omega)) (fun b hb=>by omega) _ _ _ hva,ValIn.later (fun b hb _=>setRow_other _ _ _ _ (by omega)) (fun b hb=>by omega) _ _ _ hvb⟩⟩
  ·refine wanted_step (by kernel_rfl) ?_
   refine of_wpalloc 43 rfl _ _ (of_alloc _) ?_
   refine hK.out _ _ ⟨(Below.heap_alloc _ _ _ (Array.getElem?_eq_some_iff.1 hHeld.1).1).trans hHeld.1,hHeld.2.alloc hHeld.2.size _⟩ (fun hHelda=>?_)
   (try simp only [Act.put,List.setIfInBounds_toArray,List.set_cons_zero,List.set_cons_succ])
   have hq:=heap_alloc_new W2.drew (.cells #[.int .i64 0,.int .i64 0,.bool false,.int .i64 0,.string ⟨#[]⟩,.slice none 0 0,.slice none 0 0,.string ⟨#[]⟩,.int .i64 0,.string ⟨#[]⟩,.slice none 0 0,.int .i64 0,.int .i64 0,.int .i64 0,.bool false,.int .i64 0,.string ⟨#[]⟩,.slice none 0 0,.slice none 0 0] 43)
   have hq2:=hHeld.2.size
   have hq3:W2.drew.heap.size<(W2.drew.alloc (.cells #[.int .i64 0,.int .i64 0,.bool false,.int .i64 0,.string ⟨#[]⟩,.slice none 0 0,.slice none 0 0,.string ⟨#[]⟩,.int .i64 0,.string ⟨#[]⟩,.slice none 0 0,.int .i64 0,.int .i64 0,.int .i64 0,.bool false,.int .i64 0,.string ⟨#[]⟩,.slice none 0 0,.slice none 0 0] 43)).heap.size:=by simp
   replace hHeld:=hHelda
   clear hK
   refine wpAnyH_ready (rs:=[4]) (by kernel_rfl) (by simp) ?_
   refine (AllReadyH.cons (o:=({ dst:=some 10,op:=Op.call { callee:=Callee.value (Operand.func 20),args:=#[Operand.tmp 9],argTypes:=#[26] },type:=36,pos := "law.go:27",after:=#[{ on:=3,ground:=Ground.data }],guard:=none }:Oper)) rfl (fun K hK=>?_) AllReadyH.nil)
   ·refine wanted_step (by kernel_rfl) ?_
    go_simp
    go_at_call 20
    refine (CI.out _ (hBW.trans (hHeld.2.mono hBW.size))).mono ?_
    rintro e wa ⟨y1,y2,rfl,hba,hva⟩
    refine hK.out _ _ ⟨(hba.block _ (Array.getElem?_eq_some_iff.1 hHeld.1).1).trans hHeld.1,hHeld.2.trans (hba.mono hHeld.2.size)⟩ (fun hHelda=>?_)
    (try simp only [Act.put,List.setIfInBounds_toArray,List.set_cons_zero,List.set_cons_succ])
    have hza:=hHeld.2.size
    have hsa:=hba.size
    replace hHeld:=hHelda
    clear hK
    replace hq:=(hba.block _ (Array.getElem?_eq_some_iff.1 hq).1).trans hq
    refine wpAnyH_ready (rs:=[15]) (by kernel_rfl) (by simp) ?_
    refine (AllReadyH.cons (o:=({ dst:=some 21,op:=Op.call { callee:=Callee.value (Operand.func 20),args:=#[Operand.tmp 20],argTypes:=#[26] },type:=36,pos := "law.go:27",after:=#[{ on:=14,ground:=Ground.data },{ on:=4,ground:=Ground.chain }],guard:=none }:Oper)) rfl (fun K hK=>?_) AllReadyH.nil)
    ·refine wanted_step (by kernel_rfl) ?_
     go_simp
     go_at_call 20
     refine (CO.out _ (hBW.trans (hHeld.2.mono hBW.size))).mono ?_
     rintro e wb ⟨z1,z2,rfl,hbb,hvb⟩
     refine hK.out _ _ ⟨(hbb.block _ (Array.getElem?_eq_some_iff.1 hHeld.1).1).trans hHeld.1,hHeld.2.trans (hbb.mono hHeld.2.size)⟩ (fun hHeldb=>?_)
     (try simp only [Act.put,List.setIfInBounds_toArray,List.set_cons_zero,List.set_cons_succ])
     have hzb:=hHeld.2.size
     have hsb:=hbb.size
     replace hHeld:=hHeldb
     clear hK
     replace hq:=(hbb.block _ (Array.getElem?_eq_some_iff.1 hq).1).trans hq
     replace hva:=val_below hva hbb
     obtain ⟨V,hV⟩:∃ V,Value.agg #[.int .i64 k,.int .i64 iso,.bool ion,.int .i64 inn,.string ⟨itx.toArray⟩,.slice y1 ilst.length y2,.slice ia2 iks.length ic2,.string ⟨name.toArray⟩,.int .i64 version,.string ⟨text.toArray⟩,.slice none 0 0,.int .i64 pl,.int .i64 pu,.int .i64 oso,.bool oon,.int .i64 onn,.string ⟨otx.toArray⟩,.slice z1 olst.length z2,.slice oa2 oks.length oc2]=V:=⟨_,rfl⟩
     refine wpAnyH_take (i:=16) (oi:=({ dst:=some 22,op:=Op.build 43 #[(0,Operand.tmp 7),(1,Operand.tmp 10),(2,Operand.tmp 12),(3,Operand.tmp 14),(4,Operand.tmp 16),(6,Operand.tmp 18),(7,Operand.tmp 21)],type:=43,pos := "law.go:27",after:=#[{ on:=1,ground:=Ground.data },{ on:=4,ground:=Ground.data },{ on:=6,ground:=Ground.data },{ on:=8,ground:=Ground.data },{ on:=10,ground:=Ground.data },{ on:=12,ground:=Ground.data },{ on:=15,ground:=Ground.data }],guard:=none }:Oper)) (v:=V) rfl (by kernel_rfl) (by kernel_rfl) (by kernel_rfl) (fun _ _ _ h=>h) (of_yields_build 43 [(0,Operand.tmp 7),(1,Operand.tmp 10),(2,Operand.tmp 12),(3,Operand.tmp 14),(4,Operand.tmp 16),(6,Operand.tmp 18),(7,Operand.tmp 21)] rfl (by rfl) (fun X _=>(of_build _ _ _ _ _ _ _ _ _ _ _ _ _ _ _ _ _ _ X).trans (by rw [hV]))) hHeld ?_
     (try simp only [Act.put,List.setIfInBounds_toArray,List.set_cons_zero,List.set_cons_succ])
     refine wpAnyH_ready (rs:=[18]) (by kernel_rfl) (by simp) ?_
     refine AllReadyH.cons (o:=({ dst:=none,op:=Op.store 43 (Operand.tmp 3) (Operand.tmp 22),type:=0,pos := "law.go:27",after:=#[{ on:=17,ground:=Ground.data },{ on:=16,ground:=Ground.data },{ on:=15,ground:=Ground.chain },{ on:=0,ground:=Ground.phase },{ on:=1,ground:=Ground.phase },{ on:=2,ground:=Ground.phase },{ on:=3,ground:=Ground.phase },{ on:=4,ground:=Ground.phase },{ on:=5,ground:=Ground.phase },{ on:=6,ground:=Ground.phase },{ on:=7,ground:=Ground.phase },{ on:=8,ground:=Ground.phase },{ on:=9,ground:=Ground.phase },{ on:=10,ground:=Ground.phase },{ on:=11,ground:=Ground.phase },{ on:=12,ground:=Ground.phase },{ on:=13,ground:=Ground.phase },{ on:=14,ground:=Ground.phase },{ on:=15,ground:=Ground.phase },{ on:=16,ground:=Ground.phase },{ on:=17,ground:=Ground.phase }],guard:=none }:Oper)) rfl (fun K hK=>?_) AllReadyH.nil
     refine wanted_step (by kernel_rfl) ?_
     refine wp_storeV rfl 43 (.tmp 3) (.tmp 22) rfl _ (of_store hV hq rfl rfl (by kernel_rfl)) ?_
     have hSZ:=HSZ.out
     have hdr:W2.drew.heap.size=W2.heap.size:=rfl
     refine hK.out _ _ ⟨(setRow_other _ _ _ _ (by omega)).trans hHeld.1,Below.setRow' hHeld.2 (by omega) _⟩ (fun hHeldz=>?_)
     refine wpAnyH_done (by kernel_rfl) ?_ _
     clear hK hSZ hdr
     go_wp2_with fail
     go_meet
     have hSZ:=HSZ.out
     have hdr:W2.drew.heap.size=W2.heap.size:=rfl
     exact ⟨_,y1,y2,z1,z2,rfl,Lib.hid ⟨by omega,hHeldz.2,setRow_heap _ _ _ _ _ _ hq,ValIn.later (fun b hb _=>setRow_other _ _ _ _ (by omega)) (fun b hb=>by omega) _ _ _ hva,ValIn.later (fun b hb _=>setRow_other _ _ _ _ (by omega)) (fun b hb=>by omega) _ _ _ hvb⟩⟩
 obtain ⟨q,y1,y2,z1,z2,rfl,HX⟩:=hcut
 obtain ⟨hq2,hbc,hqc,hvi,hvo⟩:=HX.out
 have hql:q<wc.heap.size:=(Array.getElem?_eq_some_iff.1 hqc).1
 have hSZ:=HSZ.out
 have hzc:=hbc.size
 have HBOX:=Lib.hid ((hbc.block w.heap.size (by omega)).trans h1)
 have HRES:=Lib.hid ((hbc.block (w.heap.size+1) (by omega)).trans h2)
 have HBC:=Lib.hid (hBW.trans (hbc.mono hBW.size))
 have HVI:=Lib.hid (ValIn.bound _ _ _ hvi)
 have HVO:=Lib.hid (ValIn.bound _ _ _ hvo)
 have HST:Hid (OcStof chs q #[.int .i64 k,.int .i64 iso,.bool ion,.int .i64 inn,.string ⟨itx.toArray⟩,.slice y1 ilst.length y2,.slice ia2 iks.length ic2,.string ⟨name.toArray⟩,.int .i64 version,.string ⟨text.toArray⟩,.slice none 0 0,.int .i64 pl,.int .i64 pu,.int .i64 oso,.bool oon,.int .i64 onn,.string ⟨otx.toArray⟩,.slice z1 olst.length z2,.slice oa2 oks.length oc2] (.slice none 0 0) 0 wc wc):=Lib.hid ⟨Mut.refl _ _ _,World.ownsRow_nil _ _ _ _,by rw [hqc];rfl⟩
 have hqw:w.heap.size+2≤q:=hq2
 have hwq:w.heap.size+2≤wc.heap.size:=by omega
 clear HX hbc hqc hvi hvo h1 h2 hBW hSZ CI CO hzc hq2 cI cO
 go_wp2_with fail
 go_loopw [4] (fun iv wr=>∃ (i:Nat) (ao:Option Addr) (cap:Nat),iv=.int .i64 i∧i≤ln∧Hid (OcStof chs q #[.int .i64 k,.int .i64 iso,.bool ion,.int .i64 inn,.string ⟨itx.toArray⟩,.slice y1 ilst.length y2,.slice ia2 iks.length ic2,.string ⟨name.toArray⟩,.int .i64 version,.string ⟨text.toArray⟩,.slice none 0 0,.int .i64 pl,.int .i64 pu,.int .i64 oso,.bool oon,.int .i64 onn,.string ⟨otx.toArray⟩,.slice z1 olst.length z2,.slice oa2 oks.length oc2] (.slice ao i cap) i wc wr)) (fun iv _=>ln - (Go.RowKit.intOf iv).toNat)
 case atStart=>exact ⟨0,none,0,rfl,by omega,HST⟩
 case round =>
  obtain ⟨i,ao,cap,rfl,hi,HI⟩:=hrel
  have hzr:=HI.out.mt.size
  have k10:wr.cell? ⟨w.heap.size,10,none⟩=some (.slice ca ln cc):=by rw [block_cell ((HI.out.mt.block w.heap.size (by omega) (by omega)).trans HBOX.out)];rfl
  by_cases hlt:i<ln
  ·have hil:i<chs.length:=by rw [HLN.out];exact hlt
   obtain ⟨g,off,rfl,hg,hc⟩:=HE.out.resolve_left (fun h=>by rw [h] at hil;exact Nat.not_lt_zero _ hil)
   have hsm:Same (fun g=>True∧g<w.heap.size) w wr:=fun b hb _=>(HI.out.mt.block b (by omega) (by omega)).trans (HBC.out.block b hb.2)
   obtain ⟨p0,p1,p2,p3,p4,p5⟩:=edit_at i (hc.later (R:=fun g=>True∧g<w.heap.size) hg hsm) hil
   obtain ⟨E,hE⟩:∃ E,chs[i]=E:=⟨_,rfl⟩
   simp only [hE] at p0 p1 p2 p3 p4 p5
   obtain ⟨⟨fl,fu⟩,⟨tl,tu⟩,tx,wh⟩:=E
   have HEE:=Lib.hid hE
   have hgw:=hg.2
   clear hc hsm hE hg
   go_upto_region 6 with fail
   obtain ⟨W1,hW1⟩:∃ W,wr.alloc (.cells #[.int .i64 0,.int .i64 0,.int .i64 0,.int .i64 0,.string ⟨#[]⟩,.bool wh] 84)=W:=⟨_,rfl⟩
   have e1:W1.heap[wr.heap.size]?=some (.cells #[.int .i64 0,.int .i64 0,.int .i64 0,.int .i64 0,.string ⟨#[]⟩,.bool wh] 84 (0,0)):=by rw [← hW1];exact heap_alloc_new _ _
   have m1:Mut wc.heap.size q wc W1:=by rw [← hW1];exact HI.out.mt.alloc hzr _
   have f1:∀ b,b<wr.heap.size→W1.heap[b]?=wr.heap[b]?:=fun b hb=>by rw [← hW1];exact Below.heap_alloc _ _ _ hb
   rw [hW1]
   replace k10:=(cell_sameof (f1 w.heap.size (by omega)) _).trans k10
   replace p0:=(cell_sameof (f1 g (by omega)) _).trans p0
   replace p1:=(cell_sameof (f1 g (by omega)) _).trans p1
   replace p2:=(cell_sameof (f1 g (by omega)) _).trans p2
   replace p3:=(cell_sameof (f1 g (by omega)) _).trans p3
   replace p4:=(cell_sameof (f1 g (by omega)) _).trans p4
   obtain ⟨⟨r0,r1,r2,r3,r4,r5⟩,fz⟩:=cells_six e1
   clear hW1 p5
   go_upto_region 7 with fail
   obtain ⟨W3,hW3⟩:∃ W,((W1.setCell ⟨wr.heap.size,0,none⟩ (.int .i64 fl)).setCell ⟨wr.heap.size,1,none⟩ (.int .i64 fu))=W:=⟨_,rfl⟩
   have e2:W3.heap[wr.heap.size]?=some (.cells #[.int .i64 fl,.int .i64 fu,.int .i64 0,.int .i64 0,.string ⟨#[]⟩,.bool wh] 84 (0,0)):=by rw [← hW3];exact (Go.Joins.block_setCell (i:=1) (Go.Joins.block_setCell (i:=0) e1 (.int .i64 fl)) (.int .i64 fu))
   have m2:Mut wc.heap.size q wc W3:=by rw [← hW3];exact ((m1.setNew ⟨wr.heap.size,0,none⟩ (by exact hzr) _).setNew ⟨wr.heap.size,1,none⟩ (by exact hzr) _)
   have f2:∀ b,b<wr.heap.size→W3.heap[b]?=wr.heap[b]?:=fun b hb=>by rw [← hW3,Below.heap_setCell _ _ _ _ (by simp;omega),Below.heap_setCell _ _ _ _ (by simp;omega)];exact f1 b hb
   have g2:∀ b,b<wr.heap.size→W3.heap[b]?=W1.heap[b]?:=fun b hb=>(f2 b hb).trans (f1 b hb).symm
   rw [hW3]
   replace k10:=(cell_sameof (g2 w.heap.size (by omega)) _).trans k10
   replace p0:=(cell_sameof (g2 g (by omega)) _).trans p0
   replace p1:=(cell_sameof (g2 g (by omega)) _).trans p1
   replace p2:=(cell_sameof (g2 g (by omega)) _).trans p2
   replace p3:=(cell_sameof (g2 g (by omega)) _).trans p3
   replace p4:=(cell_sameof (g2 g (by omega)) _).trans p4
   clear fz r0 r1 r2 r3 r4 r5
   obtain ⟨⟨r0,r1,r2,r3,r4,r5⟩,fz⟩:=cells_six e2
   clear hW3 e1 m1 f1 g2
   go_upto_region 8 with fail
   obtain ⟨W4,hW4⟩:∃ W,((W3.setCell ⟨wr.heap.size,2,none⟩ (.int .i64 tl)).setCell ⟨wr.heap.size,3,none⟩ (.int .i64 tu))=W:=⟨_,rfl⟩
   have e3:W4.heap[wr.heap.size]?=some (.cells #[.int .i64 fl,.int .i64 fu,.int .i64 tl,.int .i64 tu,.string ⟨#[]⟩,.bool wh] 84 (0,0)):=by rw [← hW4];exact (Go.Joins.block_setCell (i:=3) (Go.Joins.block_setCell (i:=2) e2 (.int .i64 tl)) (.int .i64 tu))
   have m3:Mut wc.heap.size q wc W4:=by rw [← hW4];exact ((m2.setNew ⟨wr.heap.size,2,none⟩ (by exact hzr) _).setNew ⟨wr.heap.size,3,none⟩ (by exact hzr) _)
   have f3:∀ b,b<wr.heap.size→W4.heap[b]?=wr.heap[b]?:=fun b hb=>by rw [← hW4,Below.heap_setCell _ _ _ _ (by simp;omega),Below.heap_setCell _ _ _ _ (by simp;omega)];exact f2 b hb
   have g3:∀ b,b<wr.heap.size→W4.heap[b]?=W3.heap[b]?:=fun b hb=>(f3 b hb).trans (f2 b hb).symm
   rw [hW4]
   replace k10:=(cell_sameof (g3 w.heap.size (by omega)) _).trans k10
   replace p0:=(cell_sameof (g3 g (by omega)) _).trans p0
   replace p1:=(cell_sameof (g3 g (by omega)) _).trans p1
   replace p2:=(cell_sameof (g3 g (by omega)) _).trans p2
   replace p3:=(cell_sameof (g3 g (by omega)) _).trans p3
   replace p4:=(cell_sameof (g3 g (by omega)) _).trans p4
   clear fz r0 r1 r2 r3 r4 r5
   obtain ⟨⟨r0,r1,r2,r3,r4,r5⟩,fz⟩:=cells_six e3
   clear hW4 e2 m2 f2 g3
   go_upto_region 9 with fail
   obtain ⟨W5,hW5⟩:∃ W,(W4.setCell ⟨wr.heap.size,4,none⟩ (.string ⟨tx.toArray⟩))=W:=⟨_,rfl⟩
   have e4:W5.heap[wr.heap.size]?=some (.cells #[.int .i64 fl,.int .i64 fu,.int .i64 tl,.int .i64 tu,.string ⟨tx.toArray⟩,.bool wh] 84 (0,0)):=by rw [← hW5];exact (Go.Joins.block_setCell (i:=4) e3 (.string ⟨tx.toArray⟩))
   have m4:Mut wc.heap.size q wc W5:=by rw [← hW5];exact (m3.setNew ⟨wr.heap.size,4,none⟩ (by exact hzr) _)
   have f4:∀ b,b<wr.heap.size→W5.heap[b]?=wr.heap[b]?:=fun b hb=>by rw [← hW5,Below.heap_setCell _ _ _ _ (by simp;omega)];exact f3 b hb
   have g4:∀ b,b<wr.heap.size→W5.heap[b]?=W4.heap[b]?:=fun b hb=>(f4 b hb).trans (f3 b hb).symm
   rw [hW5]
   replace k10:=(cell_sameof (g4 w.heap.size (by omega)) _).trans k10
   replace p0:=(cell_sameof (g4 g (by omega)) _).trans p0
   replace p1:=(cell_sameof (g4 g (by omega)) _).trans p1
   replace p2:=(cell_sameof (g4 g (by omega)) _).trans p2
   replace p3:=(cell_sameof (g4 g (by omega)) _).trans p3
   replace p4:=(cell_sameof (g4 g (by omega)) _).trans p4
   clear fz r0 r1 r2 r3 r4 r5
   obtain ⟨⟨r0,r1,r2,r3,r4,r5⟩,fz⟩:=cells_six e4
   clear hW5 e3 m3 f3 g4
   have kq:W5.cell? ⟨q,10,none⟩=some (.slice ao i cap):=by rw [block_cell ((f4 q (by omega)).trans HI.out.out)];rfl
   have hown2:W5.ownsRow wc.heap.size 84 6 (.slice ao i cap) i (editCs (chs.take i)):=ownsRow_same HI.out.own fun k hk=>f4 k (row_lt HI.out.own k hk).2
   have hone:=editC_one ⟨⟨fl,fu⟩,⟨tl,tu⟩,tx,wh⟩
   have hmz:=m4.size
   simp only [editC,strCell] at hone
   clear p0 p1 p2 p3 p4 k10 fz e4
   go_wp2_with (at_builtin;refine wpList_append_lies _ rfl (.tmp 65) (.tmp 67) 41 rfl wc.heap.size 84 i0 _ 6 56 Tryz.underlying41 hi0 hz0 hz1 hz2 rfl (by decide) (.slice ao i cap) i _ rfl (hown2.alloc _) ⟨W5.heap.size,0,none⟩ 1 1 [.int .i64 fl,.int .i64 fu,.int .i64 tl,.int .i64 tu,.string ⟨tx.toArray⟩,.bool wh] rfl rfl (World.news_of_block (cs:=#[.int .i64 fl,.int .i64 fu,.int .i64 tl,.int .i64 tu,.string ⟨tx.toArray⟩,.bool wh]) (t:=84) (fr:=(0,0)) (heap_alloc_new W5 _)) hone (by omega) (by unfold maxLen;omega) (by omega) (by simp;omega) (W5.heap.size+1) (by simp) ?_)
   intro gg capg w3 hown3 hgrow hat hlt3
   have hfin:=oc_stepof HI.out hil hql m4 (f4 q (by omega)) hgrow (by rw [HEE.out];exact hown3)
   have b3:=((oc_farof HI.out m4 hgrow) q hql).trans ((f4 q (by omega)).trans HI.out.out)
   have kb3:w3.cell? ⟨q,10,none⟩=some (.slice ao i cap):=by rw [block_cell b3];rfl
   have fb3:=block_frozenof b3
   have HFIN:=Lib.hid hfin
   clear hfin hown3 hgrow hown2 hone b3 hat r0 r1 r2 r3 r4 r5 kq
   go_wp2_with fail
   go_roundw
   case rel=>exact ⟨i+1,some ⟨gg,0,none⟩,capg,by go_num,by omega,HFIN⟩
   case measure=>simp [Go.RowKit.intOf];omega
  ·obtain rfl:i=ln:=by omega
   go_upto_region 10 with fail
   have hst:=HI.out
   have hq3:wr.heap[q]?=some (.cells #[.int .i64 k,.int .i64 iso,.bool ion,.int .i64 inn,.string ⟨itx.toArray⟩,.slice y1 ilst.length y2,.slice ia2 iks.length ic2,.string ⟨name.toArray⟩,.int .i64 version,.string ⟨text.toArray⟩,.slice ao i cap,.int .i64 pl,.int .i64 pu,.int .i64 oso,.bool oon,.int .i64 onn,.string ⟨otx.toArray⟩,.slice z1 olst.length z2,.slice oa2 oks.length oc2] 43 (0,0)):=hst.out
   have hres:=(hst.mt.block (w.heap.size+1) (by omega) (by omega)).trans HRES.out
   obtain ⟨V,hV⟩:∃ V,Value.agg #[.int .i64 k,.int .i64 iso,.bool ion,.int .i64 inn,.string ⟨itx.toArray⟩,.slice y1 ilst.length y2,.slice ia2 iks.length ic2,.string ⟨name.toArray⟩,.int .i64 version,.string ⟨text.toArray⟩,.slice ao i cap,.int .i64 pl,.int .i64 pu,.int .i64 oso,.bool oon,.int .i64 onn,.string ⟨otx.toArray⟩,.slice z1 olst.length z2,.slice oa2 oks.length oc2]=V:=⟨_,rfl⟩
   go_step
   refine wpList_loadTab rfl 43 (.tmp 3) rfl V ((run_loadRow hq3 Tryz.underlying43 rfl (by kernel_rfl)).trans (by rw [hV])) ?_
   refine wpList_storeV rfl rfl 43 (.tmp 2) (.tmp 70) rfl _ (of_store hV hres rfl rfl (by kernel_rfl)) ?_
   have hF:=setRow_heap _ _ _ #[.int .i64 k,.int .i64 iso,.bool ion,.int .i64 inn,.string ⟨itx.toArray⟩,.slice y1 ilst.length y2,.slice ia2 iks.length ic2,.string ⟨name.toArray⟩,.int .i64 version,.string ⟨text.toArray⟩,.slice ao i cap,.int .i64 pl,.int .i64 pu,.int .i64 oso,.bool oon,.int .i64 onn,.string ⟨otx.toArray⟩,.slice z1 olst.length z2,.slice oa2 oks.length oc2] _ _ hres
   have HF:=Lib.hid hF
   have hown:=hst.own
   rw [show chs.take i=chs by rw [← HLN.out];exact List.take_length] at hown
   have hown':=ownsRow_same (W':=wr.setRow (w.heap.size+1) #[.int .i64 k,.int .i64 iso,.bool ion,.int .i64 inn,.string ⟨itx.toArray⟩,.slice y1 ilst.length y2,.slice ia2 iks.length ic2,.string ⟨name.toArray⟩,.int .i64 version,.string ⟨text.toArray⟩,.slice ao i cap,.int .i64 pl,.int .i64 pu,.int .i64 oso,.bool oon,.int .i64 onn,.string ⟨otx.toArray⟩,.slice z1 olst.length z2,.slice oa2 oks.length oc2]) hown (fun g hg=>setRow_other _ _ _ _ (by have:=(row_lt hown g hg).1;omega))
   have hE:EditsIn (wr.setRow (w.heap.size+1) #[.int .i64 k,.int .i64 iso,.bool ion,.int .i64 inn,.string ⟨itx.toArray⟩,.slice y1 ilst.length y2,.slice ia2 iks.length ic2,.string ⟨name.toArray⟩,.int .i64 version,.string ⟨text.toArray⟩,.slice ao i cap,.int .i64 pl,.int .i64 pu,.int .i64 oso,.bool oon,.int .i64 onn,.string ⟨otx.toArray⟩,.slice z1 olst.length z2,.slice oa2 oks.length oc2]) (fun _=>True) chs (.slice ao i cap):=by
    refine ⟨ao,cap,by rw [HLN.out],?_⟩
    rcases hown'.2 with ⟨g1,g2⟩|⟨g,cp,cur,g1,hg,hgg,hle,hcap,hsz,htake⟩
    ·exact .inl (List.eq_nil_of_length_eq_zero (by rw [HLN.out];exact g2))
    ·cases g1
     exact .inr ⟨g,0,rfl,trivial,cells_of_own hown'⟩
   have hmt:=hst.mt
   have hVI:=ValIn.later (W':=wr.setRow (w.heap.size+1) #[.int .i64 k,.int .i64 iso,.bool ion,.int .i64 inn,.string ⟨itx.toArray⟩,.slice y1 ilst.length y2,.slice ia2 iks.length ic2,.string ⟨name.toArray⟩,.int .i64 version,.string ⟨text.toArray⟩,.slice ao i cap,.int .i64 pl,.int .i64 pu,.int .i64 oso,.bool oon,.int .i64 onn,.string ⟨otx.toArray⟩,.slice z1 olst.length z2,.slice oa2 oks.length oc2]) (R':=fun _=>True) (fun b hb _=>(setRow_other _ _ _ _ (by omega)).trans (hmt.block b hb.2 (by omega))) (fun _ _=>trivial) _ _ _ HVI.out
   have hVO:=ValIn.later (W':=wr.setRow (w.heap.size+1) #[.int .i64 k,.int .i64 iso,.bool ion,.int .i64 inn,.string ⟨itx.toArray⟩,.slice y1 ilst.length y2,.slice ia2 iks.length ic2,.string ⟨name.toArray⟩,.int .i64 version,.string ⟨text.toArray⟩,.slice ao i cap,.int .i64 pl,.int .i64 pu,.int .i64 oso,.bool oon,.int .i64 onn,.string ⟨otx.toArray⟩,.slice z1 olst.length z2,.slice oa2 oks.length oc2]) (R':=fun _=>True) (fun b hb _=>(setRow_other _ _ _ _ (by omega)).trans (hmt.block b hb.2 (by omega))) (fun _ _=>trivial) _ _ _ HVO.out
   have hBF:Below w.heap.size w (wr.setRow (w.heap.size+1) #[.int .i64 k,.int .i64 iso,.bool ion,.int .i64 inn,.string ⟨itx.toArray⟩,.slice y1 ilst.length y2,.slice ia2 iks.length ic2,.string ⟨name.toArray⟩,.int .i64 version,.string ⟨text.toArray⟩,.slice ao i cap,.int .i64 pl,.int .i64 pu,.int .i64 oso,.bool oon,.int .i64 onn,.string ⟨otx.toArray⟩,.slice z1 olst.length z2,.slice oa2 oks.length oc2]):=Below.setRow' (HBC.out.trans ⟨hmt.os,hmt.tape,hmt.output,hmt.size,fun k hk=>hmt.block k (by omega) (by omega)⟩) (by omega) _
   have HALL:=Lib.hid (And.intro hBF (And.intro hVI (And.intro hE hVO)))
   clear hst hown hown' hE hmt hVI hVO hBF hF hq3 hres
   go_wp2_with fail
   (try simp only [Exit.inBlock,Exit.then])
   refine bodyPost_ret (v:=.agg #[.int .i64 k,.int .i64 iso,.bool ion,.int .i64 inn,.string ⟨itx.toArray⟩,.slice y1 ilst.length y2,.slice ia2 iks.length ic2,.string ⟨name.toArray⟩,.int .i64 version,.string ⟨text.toArray⟩,.slice ao i cap,.int .i64 pl,.int .i64 pu,.int .i64 oso,.bool oon,.int .i64 onn,.string ⟨otx.toArray⟩,.slice z1 olst.length z2,.slice oa2 oks.length oc2]) (results_cell_row rfl _ _ (w.heap.size+1) 43 #[.int .i64 k,.int .i64 iso,.bool ion,.int .i64 inn,.string ⟨itx.toArray⟩,.slice y1 ilst.length y2,.slice ia2 iks.length ic2,.string ⟨name.toArray⟩,.int .i64 version,.string ⟨text.toArray⟩,.slice ao i cap,.int .i64 pl,.int .i64 pu,.int .i64 oso,.bool oon,.int .i64 onn,.string ⟨otx.toArray⟩,.slice z1 olst.length z2,.slice oa2 oks.length oc2] (0,0) _ (by rfl) HF.out Tryz.underlying43 rfl (by kernel_rfl)) rfl ?_
   exact ⟨HALL.out.1,_,_,_,rfl,⟨HALL.out.2.1,HALL.out.2.2.1,HALL.out.2.2.2⟩⟩
end Go.Proofs.YtpbnhnilfpoljaaGreatDoor.M
