/- What the claim needs of the texts MBackK, MBackL, MBackS. -/
import Derived.Test.YtpbnhnilfpoljaaGreatDoorRB26
import Derived.Test.YtpbnhnilfpoljaaGreatDoorRB27
import Derived.Test.YtpbnhnilfpoljaaGreatDoorRB32
import Derived.Test.YtpbnhnilfpoljaaGreatDoorRB35
namespace Go.Proofs.YtpbnhnilfpoljaaGreatDoor.M
open Go.RowKit
open Go.Lib Go.Proofs.YtpbnhnilfpoljaaGreatDoor.V
def IsSl (v:Value):Prop:=∃ a n c,v=.slice a n c
theorem val_sl {W:World} {R:Nat→Prop} {v:Val} {lv kv:Value} (h:ValIn W R v lv kv):IsSl lv∧IsSl kv:=by
 obtain ⟨so,on,n,t,l,ks⟩:=v
 obtain ⟨⟨a1,c1,rfl,_⟩,⟨a2,c2,rfl,_⟩⟩:=h
 exact ⟨⟨_,_,_,rfl⟩,⟨_,_,_,rfl⟩⟩
theorem edits_sl {W:World} {R:Nat→Prop} {l:List EditP} {ch:Value} (h:EditsIn W R l ch):IsSl ch:=by
 obtain ⟨a,c,rfl,_⟩:=h
 exact ⟨_,_,_,rfl⟩
def callA (c:CallP) (il ik ch ol ok:Value):Array Value:=(callC c il ik ch ol ok).toArray
def valA (v:Val) (lv kv:Value):Array Value:=(six' v lv kv).toArray
theorem callA_size (c:CallP) (il ik ch ol ok:Value):(callA c il ik ch ol ok).size=19:=by
 obtain ⟨k,⟨iso,ion,inn,itx,ilst,iks⟩,name,version,text,chs,⟨pl,pu⟩,⟨oso,oon,onn,otx,olst,oks⟩⟩:=c
 rfl
theorem valA_size (v:Val) (lv kv:Value):(valA v lv kv).size=6:=by
 obtain ⟨so,on,n,t,l,ks⟩:=v
 rfl
theorem callA_one {W:World} {R:Nat→Prop} {c:CallP} {il ik ch ol ok:Value} (h:CallIn W R c il ik ch ol ok):(callA c il ik ch ol ok).all (·.oneCell')=true:=by
 obtain ⟨h1,h2⟩:=val_sl h.id
 have h3:=edits_sl h.edits
 obtain ⟨h4,h5⟩:=val_sl h.other
 obtain ⟨k,⟨iso,ion,inn,itx,ilst,iks⟩,name,version,text,chs,⟨pl,pu⟩,⟨oso,oon,onn,otx,olst,oks⟩⟩:=c
 obtain ⟨_,_,_,rfl⟩:=h1
 obtain ⟨_,_,_,rfl⟩:=h2
 obtain ⟨_,_,_,rfl⟩:=h3
 obtain ⟨_,_,_,rfl⟩:=h4
 obtain ⟨_,_,_,rfl⟩:=h5
 simp [callA,callC,six',six,strCell,Value.oneCell']
theorem valA_one {W:World} {R:Nat→Prop} {v:Val} {lv kv:Value} (h:ValIn W R v lv kv):(valA v lv kv).all (·.oneCell')=true:=by
 obtain ⟨h1,h2⟩:=val_sl h
 obtain ⟨so,on,n,t,l,ks⟩:=v
 obtain ⟨_,_,_,rfl⟩:=h1
 obtain ⟨_,_,_,rfl⟩:=h2
 kernel_rfl
section
variable {W:World} {g:Nat} {cs old:Array Value} {t:TypeId}
theorem load_rcall (h:W.heap[g]?=some (.cells cs t (0,0))) (hs:cs.size=19):(Instr.loadAt 31 (.pointer (some ⟨g,0,none⟩))).run Tryz.prog W=.ok (.agg cs) W :=
 run_loadRow h Tryz.underlying31 rfl (by rw [hs];kernel_rfl)
theorem load_call (h:W.heap[g]?=some (.cells cs t (0,0))) (hs:cs.size=19):(Instr.loadAt 43 (.pointer (some ⟨g,0,none⟩))).run Tryz.prog W=.ok (.agg cs) W :=
 run_loadRow h Tryz.underlying43 rfl (by rw [hs];kernel_rfl)
theorem load_value (h:W.heap[g]?=some (.cells cs t (0,0))) (hs:cs.size=6):(Instr.loadAt 36 (.pointer (some ⟨g,0,none⟩))).run Tryz.prog W=.ok (.agg cs) W :=
 run_loadRow h Tryz.underlying36 rfl (by rw [hs];kernel_rfl)
theorem load_rvalue (h:W.heap[g]?=some (.cells cs t (0,0))) (hs:cs.size=6):(Instr.loadAt 26 (.pointer (some ⟨g,0,none⟩))).run Tryz.prog W=.ok (.agg cs) W :=
 run_loadRow h Tryz.underlying26 rfl (by rw [hs];kernel_rfl)
theorem store_call (h:W.heap[g]?=some (.cells old t (0,0))) (ho:old.size=19) (hs:cs.size=19) (h1:cs.all (·.oneCell')=true) :
  (Instr.storeAt 43 (.pointer (some ⟨g,0,none⟩)) (.agg cs)).run Tryz.prog W=.ok () (W.setRow g cs) :=
 run_storeRow h (by rw [hs];kernel_rfl) (by rw [ho,hs]) h1
theorem store_value (h:W.heap[g]?=some (.cells old t (0,0))) (ho:old.size=6) (hs:cs.size=6) (h1:cs.all (·.oneCell')=true) :
  (Instr.storeAt 36 (.pointer (some ⟨g,0,none⟩)) (.agg cs)).run Tryz.prog W=.ok () (W.setRow g cs) :=
 run_storeRow h (by rw [hs];kernel_rfl) (by rw [ho,hs]) h1
end
theorem made {w:World} {old cs:Array Value} {t:TypeId} {W:World} (h:(w.alloc (.cells old t)).setRow w.heap.size cs=W) :
  W.heap[w.heap.size]?=some (.cells cs t (0,0))∧Below w.heap.size w W:=by
 rw [← h]
 exact ⟨setRow_heap _ _ _ _ _ _ (heap_alloc_new _ _),Below.setRow' ((Below.refl _ _).alloc (Nat.le_refl _) _) (Nat.le_refl _) _⟩
def CLies (W:World) (c:CallP) (cs:Array Value):Prop:=∃ il ik ch ol ok,cs=callA c il ik ch ol ok∧CallIn W (fun _=>True) c il ik ch ol ok
def VLies (W:World) (v:Val) (vs:Array Value):Prop:=∃ lv kv,vs=valA v lv kv∧ValIn W (fun _=>True) v lv kv
section
variable {W W':World} {c:CallP} {v:Val} {cs vs:Array Value}
theorem CLies.later (h:CLies W c cs) (hb:Below W.heap.size W W'):CLies W' c cs:=by
 obtain ⟨il,ik,ch,ol,ok,h1,h2⟩:=h
 exact ⟨il,ik,ch,ol,ok,h1,h2.bound.later (R':=fun _=>True) (fun g hg _=>hb.block g hg.2) (fun _ _=>trivial)⟩
theorem CLies.size (h:CLies W c cs):cs.size=19:=by obtain ⟨il,ik,ch,ol,ok,rfl,_⟩:=h;exact callA_size _ _ _ _ _ _
theorem CLies.one (h:CLies W c cs):cs.all (·.oneCell')=true:=by obtain ⟨il,ik,ch,ol,ok,rfl,h2⟩:=h;exact callA_one h2
theorem VLies.later (h:VLies W v vs) (hb:Below W.heap.size W W'):VLies W' v vs:=by
 obtain ⟨lv,kv,h1,h2⟩:=h
 exact ⟨lv,kv,h1,val_below h2 hb⟩
theorem VLies.size (h:VLies W v vs):vs.size=6:=by obtain ⟨lv,kv,rfl,_⟩:=h;exact valA_size _ _ _
theorem VLies.one (h:VLies W v vs):vs.all (·.oneCell')=true:=by obtain ⟨lv,kv,rfl,h2⟩:=h;exact valA_one h2
end
theorem c_true {W:World} {R:Nat→Prop} {c:CallP} {il ik ch ol ok:Value} (h:CallIn W R c il ik ch ol ok):CLies W c (callA c il ik ch ol ok):=⟨il,ik,ch,ol,ok,rfl,h.later (fun _ _ _=>rfl) (fun _ _=>trivial)⟩
theorem v_true {W:World} {R:Nat→Prop} {v:Val} {lv kv:Value} (h:ValIn W R v lv kv):VLies W v (valA v lv kv):=⟨lv,kv,rfl,h.later (fun _ _ _=>rfl) (fun _ _=>trivial) _ _ _⟩
section
variable {c:CallP} {v:Val} {cs vs:Array Value} (W:World)
theorem k_small (h:CLies W c cs) (hz:wt c.id+wt c.other+c.name.length+c.text.length+wtE c.changes≤1099511627776) :
  Calls Tryz.prog 6 #[.agg cs] W fun e w'=>Below W.heap.size W w'∧(e=.returned (.bool false)∨e=.returned (.bool true)∧SmallC c):=by
 obtain ⟨il,ik,ch,ol,ok,rfl,h2⟩:=h
 exact small_any c il ik ch ol ok _ W h2 hz
theorem k_size (h:VLies W v vs) (hw:wt v≤1099511627776):Calls Tryz.prog 13 #[.agg vs] W fun e w'=>e=.returned (.int .i64 (sizeV v))∧Below W.heap.size W w':=by
 obtain ⟨lv,kv,rfl,h2⟩:=h
 exact size_v v lv kv _ W h2 hw
theorem k_of (h:CLies W c cs) (hs:SmallC c):Calls Tryz.prog 9 #[.agg cs] W fun e w'=>Below W.heap.size W w'∧∃ ds,e=.returned (.agg ds)∧CLies w' c ds:=by
 obtain ⟨il,ik,ch,ol,ok,rfl,h2⟩:=h
 refine (of_call c il ik ch ol ok W h2 (by have:=hs.id;omega) (by have:=hs.other;omega) (by have:=hs.edits;have:=wtE_length c.changes;omega)).mono ?_
 rintro e w' ⟨hb,il',ch',ol',rfl,h3⟩
 exact ⟨hb,_,rfl,c_true h3⟩
theorem k_to (h:CLies W c cs) (hs:SmallC c):Calls Tryz.prog 16 #[.agg cs] W fun e w'=>Below W.heap.size W w'∧∃ ds,e=.returned (.agg ds)∧CLies w' c ds:=by
 obtain ⟨il,ik,ch,ol,ok,rfl,h2⟩:=h
 refine (to_call c il ik ch ol ok W h2 (by have:=hs.id;omega) (by have:=hs.other;omega) (by have:=hs.edits;have:=wtE_length c.changes;omega)).mono ?_
 rintro e w' ⟨hb,il',ch',ol',rfl,h3⟩
 exact ⟨hb,_,rfl,c_true h3⟩
theorem k_write (h:CLies W c cs) (hs:SmallC c) (hE:EnvW W) (hM:MTab W) {r:Val} {er:Int} (hr:(if writesB c=true then messageW c else zV)=r) (her:(if writesB c=true then (0:Int) else 42)=er) :
  Calls Tryz.prog 8 #[.agg cs] W fun e w'=>Below W.heap.size W w'∧∃ ws,e=.returned (.tuple #[.agg ws,.int .i64 er])∧VLies w' r ws:=by
 obtain ⟨il,ik,ch,ol,ok,rfl,h2⟩:=h
 refine (write_any c il ik ch ol ok _ W h2 hs hE hM).mono ?_
 rintro e w' ⟨hb,lv,kv,rfl,h3⟩
 subst hr her
 exact ⟨hb,_,rfl,v_true h3⟩
theorem k_read (h:VLies W v vs) (hw:wt v≤65536) (hE:EnvW W) (hM:MTab W) {d:CallP} {er:Int} (hr:readW v=(d,er)) :
  Calls Tryz.prog 14 #[.agg vs] W fun e w'=>Below W.heap.size W w'∧∃ ds,e=.returned (.tuple #[.agg ds,.int .i64 er])∧CLies w' d ds:=by
 obtain ⟨lv,kv,rfl,h2⟩:=h
 have h:=read_any v lv kv _ W h2 hw hE hM
 unfold ReadP at h
 rw [hr] at h
 refine h.mono ?_
 rintro e w' ⟨hb,il,ik,ch,ol,ok,rfl,h3⟩
 exact ⟨hb,_,rfl,c_true h3⟩
theorem k_vwrite (h:VLies W v vs) (hw:wt v≤65536) (hE:EnvW W) (hr:rightTop v=true) :
  Calls Tryz.prog 17 #[.agg vs] W fun e w'=>e=.returned (.tuple #[.string ⟨(write v).toArray⟩,.int .i64 0])∧Below W.heap.size W w':=by
 obtain ⟨lv,kv,rfl,h2⟩:=h
 have h:=write_out v hw W lv kv h2 hE
 unfold outS outE at h
 rw [if_pos hr,if_pos hr] at h
 exact h
theorem k_vread (hs:(write v).length≤274877906944) (hE:EnvW W) (hr:rightTop v=true) :
  Calls Tryz.prog 18 #[.string ⟨(write v).toArray⟩] W fun e w'=>Below W.heap.size W w'∧∃ ws,e=.returned (.tuple #[.agg ws,.int .i64 0])∧VLies w' v ws:=by
 have hz:(⟨(write v).toArray⟩:ByteArray).size≤274877906944:=by
  have e:(⟨(write v).toArray⟩:ByteArray).size=(write v).length:=by simp [ByteArray.size]
  rw [e];exact hs
 have h:=V.read_any ⟨(write v).toArray⟩ W hz hE
 rw [readB_write v hr] at h
 obtain ⟨so,on,n,t,l,ks⟩:=v
 refine h.mono ?_
 rintro e w' ⟨hb,lv,kv,rfl,h3⟩
 exact ⟨hb,_,rfl,v_true h3⟩
theorem k_same {u:Val} {us:Array Value} (h:VLies W v vs) (h':VLies W u us) (hw:wt v≤65536) (hw':wt u≤1099511627776) :
  Calls Tryz.prog 19 #[.agg vs,.agg us] W fun e w'=>e=.returned (.bool (sameP v u))∧Below W.heap.size W w':=by
 obtain ⟨lv,kv,rfl,h2⟩:=h
 obtain ⟨lu,ku,rfl,h3⟩:=h'
 exact same_vals v u lv kv lu ku _ _ W h2 h3 hw hw'
theorem k_csame {d:CallP} {ds:Array Value} (h:CLies W c cs) (h':CLies W d ds) (hs:SmallC c) (hs':SmallC d) :
  Calls Tryz.prog 15 #[.agg cs,.agg ds] W fun e w'=>e=.returned (.bool (sameC c d))∧Below W.heap.size W w':=by
 obtain ⟨il,ik,ch,ol,ok,rfl,h2⟩:=h
 obtain ⟨il',ik',ch',ol',ok',rfl,h3⟩:=h'
 exact rsamec_any c d _ _ _ _ _ _ _ _ _ _ _ _ W h2 h3 (by have:=hs.id;omega) (by have:=hs.other;omega) (by have:=hs'.id;omega) (by have:=hs'.other;omega) (by have:=hs.edits;have:=wtE_length c.changes;omega)
theorem k_vof (h:VLies W v vs) (hw:wt v≤1099511627776):Calls Tryz.prog 20 #[.agg vs] W fun e w'=>Below W.heap.size W w'∧∃ us,e=.returned (.agg us)∧VLies w' v us:=by
 obtain ⟨lv,kv,rfl,h2⟩:=h
 refine (of_v2 h2 hw W (Below.refl _ _)).mono ?_
 rintro e w' ⟨hb,lv',rfl,h3⟩
 exact ⟨hb,_,rfl,v_true h3⟩
end
theorem bstep {A B:World} {q:Nat} {o:Obj} (h:A.heap[q]?=some o) (hb:Below A.heap.size A B):B.heap[q]?=some o :=
 (hb.block q (Array.getElem?_eq_some_iff.1 h).1).trans h
theorem bnext {W0 w w':World} (hb:Below W0.heap.size W0 w) (hb2:Below w.heap.size w w'):Below W0.heap.size W0 w':=hb.trans (hb2.mono hb.size)
theorem six_arr {vs:Array Value} (h:vs.size=6):∃ a b c d e f,vs=#[a,b,c,d,e,f]:=by
 obtain ⟨l⟩:=vs
 match l,h with
 | [a,b,c,d,e,f],_=>exact ⟨a,b,c,d,e,f,rfl⟩
theorem sameC_self (c:CallP):sameC c c=true:=(sameC_iff c c).2 rfl
end Go.Proofs.YtpbnhnilfpoljaaGreatDoor.M
namespace Go.Proofs.YtpbnhnilfpoljaaGreatDoor.M
open Go.RowKit
open Go.Lib Go.Proofs.YtpbnhnilfpoljaaGreatDoor.V
set_option maxHeartbeats 4000000 in
set_option maxRecDepth 20000 in
theorem back_long (c:CallP) (v:Val) (il ik ch ol ok lv kv:Value) (w:World) (h:CallIn w (fun _=>True) c il ik ch ol ok) (hv:ValIn w (fun _=>True) v lv kv)
  (hz:wt c.id+wt c.other+c.name.length+c.text.length+wtE c.changes≤1099511627776) (hwv:wt v≤1099511627776) (hbig:400<sizeV v) (hE:EnvW w) (hM:MTab w) :
  Calls Tryz.prog 4 #[argC c il ik ch ol ok,arg v lv kv] w fun e w'=>e=.returned (.bool true)∧Below w.heap.size w w':=by
 have cS:=fun W (hb:Below w.heap.size w W)=>small_any c il ik ch ol ok _ W (h.bound.later (R':=fun _=>True) (fun g hg _=>hb.block g hg.2) (fun _ _=>trivial)) hz
 have cV:=fun W (hb:Below w.heap.size w W)=>size_v v lv kv _ W (val_below hv hb) hwv
 have cA:=fun W (hb:Below w.heap.size w W)=>alive_any W (hE.later hb) (hM.later hb)
 have hzv:=sizeV_le v
 generalize SmallC c=SM at cS
 obtain ⟨zv,hzv2⟩:∃ z,sizeV v=z:=⟨_,rfl⟩
 simp only [hzv2] at cV hbig hzv
 have hzv3:zv≤1099511627776:=by omega
 obtain ⟨k,⟨iso,ion,inn,itx,ilst,iks⟩,name,version,text,chs,⟨pl,pu⟩,⟨oso,oon,onn,otx,olst,oks⟩⟩:=c
 obtain ⟨vso,von,vn,vt,vl,vks⟩:=v
 obtain ⟨hi,he,ho⟩:=h
 obtain ⟨⟨ia1,ic1,rfl,_⟩,⟨ia2,ic2,rfl,_⟩⟩:=hi
 obtain ⟨⟨oa1,oc1,rfl,_⟩,⟨oa2,oc2,rfl,_⟩⟩:=ho
 obtain ⟨ca,cc,rfl,_⟩:=he
 obtain ⟨⟨va1,vc1,rfl,_⟩,⟨va2,vc2,rfl,_⟩⟩:=hv
 simp only [argC,callC,arg,six',six,strCell,List.cons_append,List.nil_append] at cS cV ⊢
 obtain ⟨t1,t2,t3,t4⟩:=two w (.cells #[.int .i64 k,.int .i64 iso,.bool ion,.int .i64 inn,.string ⟨itx.toArray⟩,.slice ia1 ilst.length ic1,.slice ia2 iks.length ic2,.string ⟨name.toArray⟩,.int .i64 version,.string ⟨text.toArray⟩,.slice ca chs.length cc,.int .i64 pl,.int .i64 pu,.int .i64 oso,.bool oon,.int .i64 onn,.string ⟨otx.toArray⟩,.slice oa1 olst.length oc1,.slice oa2 oks.length oc2] 31) (.cells #[.int .i64 vso,.bool von,.int .i64 vn,.string ⟨vt.toArray⟩,.slice va1 vl.length vc1,.slice va2 vks.length vc2] 26)
 obtain ⟨W2,hW2⟩:∃ W2,(w.alloc (.cells #[.int .i64 k,.int .i64 iso,.bool ion,.int .i64 inn,.string ⟨itx.toArray⟩,.slice ia1 ilst.length ic1,.slice ia2 iks.length ic2,.string ⟨name.toArray⟩,.int .i64 version,.string ⟨text.toArray⟩,.slice ca chs.length cc,.int .i64 pl,.int .i64 pu,.int .i64 oso,.bool oon,.int .i64 onn,.string ⟨otx.toArray⟩,.slice oa1 olst.length oc1,.slice oa2 oks.length oc2] 31)).alloc (.cells #[.int .i64 vso,.bool von,.int .i64 vn,.string ⟨vt.toArray⟩,.slice va1 vl.length vc1,.slice va2 vks.length vc2] 26)=W2:=⟨_,rfl⟩
 rw [hW2] at t1 t2 t3 t4
 have HB2:=Lib.hid t3
 have HX2:=Lib.hid t2
 have HC2:=Lib.hid t1
 have hz2:w.heap.size+2≤W2.heap.size:=by omega
 have CS:=Lib.hid cS
 have CV:=Lib.hid cV
 have CA:=Lib.hid cA
 clear cS cV cA t1 t2 t3 t4 hz hwv hzv hzv2 hE hM
 go_enter Tryz.func4,Tryz.ntmps4
 go_upto_region 1 with fail
 (try rw [hW2])
 clear hW2
 obtain ⟨V,hV⟩:∃ V,Value.agg #[.int .i64 k,.int .i64 iso,.bool ion,.int .i64 inn,.string ⟨itx.toArray⟩,.slice ia1 ilst.length ic1,.slice ia2 iks.length ic2,.string ⟨name.toArray⟩,.int .i64 version,.string ⟨text.toArray⟩,.slice ca chs.length cc,.int .i64 pl,.int .i64 pu,.int .i64 oso,.bool oon,.int .i64 onn,.string ⟨otx.toArray⟩,.slice oa1 olst.length oc1,.slice oa2 oks.length oc2]=V:=⟨_,rfl⟩
 go_step
 refine wpList_loadTab rfl 31 (.tmp 2) rfl V ((run_loadRow HC2.out Tryz.underlying31 rfl (by kernel_rfl)).trans (by rw [hV])) ?_
 have hcs:=CS.out W2 HB2.out
 rw [show Value.agg (List.toArray [.int .i64 k,.int .i64 iso,.bool ion,.int .i64 inn,.string ⟨itx.toArray⟩,.slice ia1 ilst.length ic1,.slice ia2 iks.length ic2,.string ⟨name.toArray⟩,.int .i64 version,.string ⟨text.toArray⟩,.slice ca chs.length cc,.int .i64 pl,.int .i64 pu,.int .i64 oso,.bool oon,.int .i64 onn,.string ⟨otx.toArray⟩,.slice oa1 olst.length oc1,.slice oa2 oks.length oc2])=V from hV] at hcs
 have HCS:=Lib.hid hcs
 clear hcs CS
 go_wp2_with fail
 refine HCS.out.mono ?_
 rintro e w3 ⟨hb3,hpost⟩
 have HB3:=Lib.hid (HB2.out.trans (hb3.mono HB2.out.size))
 have hx3:=(hb3.block (w.heap.size+1) (by omega)).trans HX2.out
 obtain ⟨⟨k0,k1,k2,k3,k4,k5⟩,kf⟩:=cells_six hx3
 have HCV:=Lib.hid (CV.out w3 HB3.out)
 clear HCS hb3 hx3 HC2 HX2
 rcases hpost with rfl|⟨rfl,_⟩
 ·go_wp2_with fail
  refine (CA.out _ HB3.out).mono ?_
  rintro e w4 ⟨rfl,hb4⟩
  have HB4:=Lib.hid (HB3.out.trans (hb4.mono HB3.out.size))
  go_wp2_with fail
  go_ret
  exact ⟨rfl,HB4.out⟩
 ·go_wp2_with fail
  refine HCV.out.mono ?_
  rintro e w4 ⟨rfl,hb4⟩
  have HB4:=Lib.hid (HB3.out.trans (hb4.mono HB3.out.size))
  clear hb4 HCV k0 k1 k2 k3 k4 k5 kf
  go_wp2_with fail
  refine (CA.out _ HB4.out).mono ?_
  rintro e w5 ⟨rfl,hb5⟩
  have HB5:=Lib.hid (HB4.out.trans (hb5.mono HB4.out.size))
  go_wp2_with fail
  go_ret
  exact ⟨rfl,HB5.out⟩
end Go.Proofs.YtpbnhnilfpoljaaGreatDoor.M
namespace Go.Proofs.YtpbnhnilfpoljaaGreatDoor.M
open Go.RowKit
open Go.Lib Go.Proofs.YtpbnhnilfpoljaaGreatDoor.V
set_option maxHeartbeats 16000000 in
set_option maxRecDepth 20000 in
theorem back_short (c:CallP) (v:Val) (cs vs:Array Value) (w:World) (hc:CLies w c cs) (hv:VLies w v vs) (hz:wt c.id+wt c.other+c.name.length+c.text.length+wtE c.changes≤1099511627776) (hsm:sizeV v≤400) (hE:EnvW w) (hM:MTab w) :
  Calls Tryz.prog 4 #[.agg cs,.agg vs] w fun e w'=>e=.returned (.bool true)∧Below w.heap.size w w':=by
 have hwv:wt v≤400:=by rw [wt_of_size v hsm];exact hsm
 have hzv:¬ (400:Int)<(sizeV v:Int):=by omega
 obtain ⟨zv,hzv2⟩:∃ z,sizeV v=z:=⟨_,rfl⟩
 have CV:=Lib.hid (fun W (h:VLies W v vs)=>k_size W h (by omega))
 rw [hzv2] at CV hzv
 have CA:=Lib.hid (fun W (hb:Below w.heap.size w W)=>alive_any W (hE.later hb) (hM.later hb))
 have HE:=Lib.hid hE
 have HM:=Lib.hid hM
 have hwr:writesB c=true∨writesB c=false:=by cases writesB c <;> simp
 have HWD0:=Lib.hid hwr
 obtain ⟨d,er,hr⟩:∃ d er,readW v=(d,er):=⟨_,_,rfl⟩
 have HR:=Lib.hid hr
 have HWV:=Lib.hid hwv
 have HZ:=Lib.hid hz
 obtain ⟨v0,v1,v2,v3,v4,v5,rfl⟩:=six_arr hv.size
 obtain ⟨t1,t2,t3,t4⟩:=two w (.cells cs 31) (.cells #[v0,v1,v2,v3,v4,v5] 26)
 obtain ⟨W2,hW2⟩:∃ W2,(w.alloc (.cells cs 31)).alloc (.cells #[v0,v1,v2,v3,v4,v5] 26)=W2:=⟨_,rfl⟩
 rw [hW2] at t1 t2 t3 t4
 have HC:=Lib.hid t1
 have HVb:=Lib.hid t2
 have HB:=Lib.hid t3
 have HCc:=Lib.hid (hc.later t3)
 have HVv:=Lib.hid (hv.later t3)
 clear t1 t2 t3 t4 hc hv hwr hE hM hwv hz hsm hzv2 hr
 go_enter Tryz.func4,Tryz.ntmps4
 go_upto_region 1 with fail
 (try rw [hW2])
 clear hW2
 go_step
 refine wpList_loadTab rfl 31 (.tmp 2) rfl _ (load_rcall HC.out HCc.out.size) ?_
 go_wp2_with fail
 refine (k_small _ HCc.out HZ.out).mono ?_
 rintro e w3 ⟨hb3,hpost⟩
 replace HC:=Lib.hid (bstep HC.out hb3)
 replace HVb:=Lib.hid (bstep HVb.out hb3)
 replace HCc:=Lib.hid (HCc.out.later hb3)
 replace HVv:=Lib.hid (HVv.out.later hb3)
 replace HB:=Lib.hid (bnext HB.out hb3)
 clear hb3
 rcases hpost with rfl|⟨rfl,hSM⟩
 ·go_wp2_with fail
  refine (CA.out _ HB.out).mono ?_
  rintro e w4 ⟨rfl,hb4⟩
  go_wp2_with fail
  go_ret
  exact ⟨rfl,bnext HB.out hb4⟩
 have HSM:=Lib.hid hSM
 clear hSM
 obtain ⟨⟨k0,k1,k2,k3,k4,k5⟩,kf⟩:=cells_six HVb.out
 go_wp2_with fail
 refine (CV.out _ HVv.out).mono ?_
 rintro e w4 ⟨rfl,hb4⟩
 replace HC:=Lib.hid (bstep HC.out hb4)
 replace HVb:=Lib.hid (bstep HVb.out hb4)
 replace HCc:=Lib.hid (HCc.out.later hb4)
 replace HVv:=Lib.hid (HVv.out.later hb4)
 replace HB:=Lib.hid (bnext HB.out hb4)
 clear hb4
 clear k0 k1 k2 k3 k4 k5 kf CV
 go_upto_region 4 with fail
 go_step
 refine wpList_loadTab rfl 31 (.tmp 2) rfl _ (load_rcall HC.out HCc.out.size) ?_
 go_wp2_with fail
 refine (k_of _ HCc.out HSM.out).mono ?_
 rintro e w5 ⟨hb5,os,rfl,ho⟩
 have HO:=Lib.hid ho
 clear ho
 replace HC:=Lib.hid (bstep HC.out hb5)
 replace HVb:=Lib.hid (bstep HVb.out hb5)
 replace HCc:=Lib.hid (HCc.out.later hb5)
 replace HVv:=Lib.hid (HVv.out.later hb5)
 replace HB:=Lib.hid (bnext HB.out hb5)
 clear hb5
 rcases HWD0.out with hwr|hwr
 case' inl =>
  have HWR:=Lib.hid hwr
  clear hwr HWD0
  go_wp2_with fail
  refine (k_write _ HO.out HSM.out (HE.out.later HB.out) (HM.out.later HB.out) (r:=messageW c) (er:=0) (by rw [HWR.out];rfl) (by rw [HWR.out];rfl)).mono ?_
  rintro e w6 ⟨hb6,ws,rfl,hws⟩
  have HW:=Lib.hid hws
  clear HO hws
  replace HC:=Lib.hid (bstep HC.out hb6)
  replace HVb:=Lib.hid (bstep HVb.out hb6)
  replace HCc:=Lib.hid (HCc.out.later hb6)
  replace HVv:=Lib.hid (HVv.out.later hb6)
  replace HB:=Lib.hid (bnext HB.out hb6)
  clear hb6
  dsimp only
  iterate 13 go_step
  refine wpList_storeV rfl rfl 36 (.tmp 6) (.tmp 36) rfl _ (store_value (heap_alloc_new _ _) rfl HW.out.size HW.out.one) ?_
  obtain ⟨W6,hW6⟩:∃ W,(w6.alloc (.cells #[.int .i64 0,.bool false,.int .i64 0,.string ⟨#[]⟩,.slice none 0 0,.slice none 0 0] 36)).setRow w6.heap.size ws=W:=⟨_,rfl⟩
  obtain ⟨hx6,hb6⟩:=made hW6
  go_upto_region 5 with fail
  (try rw [hW6])
  obtain ⟨q6,hq6⟩:∃ q,w6.heap.size=q:=⟨_,rfl⟩
  rw [hq6] at hx6 ⊢
  have HX6:=Lib.hid hx6
  clear hx6 hW6 hq6
  replace HC:=Lib.hid (bstep HC.out hb6)
  replace HVb:=Lib.hid (bstep HVb.out hb6)
  replace HCc:=Lib.hid (HCc.out.later hb6)
  replace HVv:=Lib.hid (HVv.out.later hb6)
  replace HB:=Lib.hid (bnext HB.out hb6)
  replace HW:=Lib.hid (HW.out.later hb6)
  clear hb6
  have HM0:=Lib.hid ((writesB_iff c).1 HWR.out)
  have HRT:=Lib.hid (readW_right HM0.out).1
  have HWT:=Lib.hid (wt_message HSM.out)
  go_upto_region 6 with fail
  go_step
  refine wpList_loadTab rfl 36 (.tmp 6) rfl _ (load_value HX6.out HW.out.size) ?_
  go_wp2_with fail
  refine (k_read _ HW.out (by have:=HWT.out;omega) (HE.out.later HB.out) (HM.out.later HB.out) HM0.out).mono ?_
  rintro e w7 ⟨hb7,rs,rfl,hrs⟩
  have HL8:=Lib.hid hrs
  clear hrs
  replace HC:=Lib.hid (bstep HC.out hb7)
  replace HVb:=Lib.hid (bstep HVb.out hb7)
  replace HCc:=Lib.hid (HCc.out.later hb7)
  replace HVv:=Lib.hid (HVv.out.later hb7)
  replace HB:=Lib.hid (bnext HB.out hb7)
  replace HW:=Lib.hid (HW.out.later hb7)
  replace HX6:=Lib.hid (bstep HX6.out hb7)
  clear hb7
  dsimp only
  iterate 13 go_step
  refine wpList_storeV rfl rfl 43 (.tmp 8) (.tmp 43) rfl _ (store_call (heap_alloc_new _ _) rfl HL8.out.size HL8.out.one) ?_
  obtain ⟨W8,hW8⟩:∃ W,(w7.alloc (.cells #[.int .i64 0,.int .i64 0,.bool false,.int .i64 0,.string ⟨#[]⟩,.slice none 0 0,.slice none 0 0,.string ⟨#[]⟩,.int .i64 0,.string ⟨#[]⟩,.slice none 0 0,.int .i64 0,.int .i64 0,.int .i64 0,.bool false,.int .i64 0,.string ⟨#[]⟩,.slice none 0 0,.slice none 0 0] 43)).setRow w7.heap.size rs=W:=⟨_,rfl⟩
  obtain ⟨hx8,hb8⟩:=made hW8
  go_upto_region 7 with fail
  (try rw [hW8])
  obtain ⟨q8,hq8⟩:∃ q,w7.heap.size=q:=⟨_,rfl⟩
  rw [hq8] at hx8 ⊢
  have HX8:=Lib.hid hx8
  clear hx8 hW8 hq8
  replace HC:=Lib.hid (bstep HC.out hb8)
  replace HVb:=Lib.hid (bstep HVb.out hb8)
  replace HCc:=Lib.hid (HCc.out.later hb8)
  replace HVv:=Lib.hid (HVv.out.later hb8)
  replace HB:=Lib.hid (bnext HB.out hb8)
  replace HW:=Lib.hid (HW.out.later hb8)
  replace HX6:=Lib.hid (bstep HX6.out hb8)
  replace HL8:=Lib.hid (HL8.out.later hb8)
  clear hb8
  go_upto_region 7 with fail
  refine wp_region_held_drew (S:=fun X=>X.heap[q8]?=some (.cells rs 43 (0,0))∧X.heap[w.heap.size]?=some (.cells cs 31 (0,0))∧Below W8.heap.size W8 X) (by kernel_rfl) ⟨HX8.out,HC.out,(Below.refl _ _).drew⟩ (fun hHeld=>?_)
  refine wpAnyH_take (i:=0) (oi:=({ dst:=some 45,op:=Op.load 43 (Operand.tmp 8),type:=43,pos := "law.go:89",after:=#[],guard:=none }:Oper)) (v:=.agg rs) rfl (by kernel_rfl) (by kernel_rfl) (by kernel_rfl) (fun _ _ _ h=>h) (yields_load 43 (.tmp 8) rfl (by rfl) (fun X hX=>load_call hX.1 HL8.out.size)) hHeld ?_
  (try simp only [Act.put,List.setIfInBounds_toArray,List.set_cons_zero,List.set_cons_succ])
  refine wpAnyH_take (i:=2) (oi:=({ dst:=some 47,op:=Op.load 31 (Operand.tmp 2),type:=31,pos := "law.go:89",after:=#[],guard:=none }:Oper)) (v:=.agg cs) rfl (by kernel_rfl) (by kernel_rfl) (by kernel_rfl) (fun _ _ _ h=>h) (yields_load 31 (.tmp 2) rfl (by rfl) (fun X hX=>load_rcall hX.2.1 HCc.out.size)) hHeld ?_
  (try simp only [Act.put,List.setIfInBounds_toArray,List.set_cons_zero,List.set_cons_succ])
  have hl8:=HL8.out.later (Below.drew (Below.refl _ _))
  have hcc:=HCc.out.later (Below.drew (Below.refl _ _))
  refine wpAnyH_ready (rs:=[1]) (by kernel_rfl) (by simp) ?_
  refine (AllReadyH.cons (o:=({ dst:=some 46,op:=Op.call { callee:=Callee.value (Operand.func 16),args:=#[Operand.tmp 45],argTypes:=#[43] },type:=31,pos := "law.go:89",after:=#[{ on:=0,ground:=Ground.data }],guard:=none }:Oper)) rfl (fun K hK=>?_) AllReadyH.nil)
  refine wanted_step (by kernel_rfl) ?_
  go_simp
  go_at_call 16
  refine (k_to _ hl8 HSM.out).mono ?_
  rintro e wa ⟨hba,ds,rfl,hda⟩
  refine hK.out _ _ ⟨bstep hHeld.1 hba,bstep hHeld.2.1 hba,hHeld.2.2.trans (hba.mono hHeld.2.2.size)⟩ (fun hHeldz=>?_)
  (try simp only [Act.put,List.setIfInBounds_toArray,List.set_cons_zero,List.set_cons_succ])
  replace hHeld:=hHeldz
  clear hK hHeldz
  replace hcc:=hcc.later hba
  refine wpAnyH_ready (rs:=[3]) (by kernel_rfl) (by simp) ?_
  refine (AllReadyH.cons (o:=({ dst:=some 48,op:=Op.call { callee:=Callee.value (Operand.func 15),args:=#[Operand.tmp 46,Operand.tmp 47],argTypes:=#[31,31] },type:=4,pos := "law.go:89",after:=#[{ on:=1,ground:=Ground.data },{ on:=2,ground:=Ground.data },{ on:=1,ground:=Ground.chain }],guard:=none }:Oper)) rfl (fun K hK=>?_) AllReadyH.nil)
  refine wanted_step (by kernel_rfl) ?_
  go_simp
  go_at_call 15
  refine (k_csame _ hda hcc HSM.out HSM.out).mono ?_
  rintro e wb ⟨rfl,hbb⟩
  refine hK.out _ _ ⟨bstep hHeld.1 hbb,bstep hHeld.2.1 hbb,hHeld.2.2.trans (hbb.mono hHeld.2.2.size)⟩ (fun hHeldz=>?_)
  (try simp only [Act.put,List.setIfInBounds_toArray,List.set_cons_zero,List.set_cons_succ])
  replace hHeld:=hHeldz
  clear hK hHeldz
  rw [sameC_self]
  refine wpAnyH_take (i:=4) (oi:=({ dst:=some 10,op:=Op.assign (Operand.tmp 48),type:=4,pos := "law.go:89",after:=#[{ on:=3,ground:=Ground.data },{ on:=3,ground:=Ground.chain },{ on:=0,ground:=Ground.phase },{ on:=1,ground:=Ground.phase },{ on:=2,ground:=Ground.phase },{ on:=3,ground:=Ground.phase }],guard:=none }:Oper)) (v:=.bool true) rfl (by kernel_rfl) (by kernel_rfl) (by kernel_rfl) (fun _ _ _ h=>h) (Or.inl ⟨by rfl,fun X hX=>rfl⟩) hHeld ?_
  (try simp only [Act.put,List.setIfInBounds_toArray,List.set_cons_zero,List.set_cons_succ])
  refine wpAnyH_done (by kernel_rfl) ?_ _
  have hb7:=hHeld.2.2
  clear hHeld hda hcc hl8 hba hbb
  replace HC:=Lib.hid (bstep HC.out hb7)
  replace HVb:=Lib.hid (bstep HVb.out hb7)
  replace HCc:=Lib.hid (HCc.out.later hb7)
  replace HVv:=Lib.hid (HVv.out.later hb7)
  replace HB:=Lib.hid (bnext HB.out hb7)
  replace HW:=Lib.hid (HW.out.later hb7)
  replace HX6:=Lib.hid (bstep HX6.out hb7)
  replace HL8:=Lib.hid (HL8.out.later hb7)
  replace HX8:=Lib.hid (bstep HX8.out hb7)
  clear hb7
  go_upto_region 8 with fail
  go_step
  refine wpList_loadTab rfl 36 (.tmp 6) rfl _ (load_value HX6.out HW.out.size) ?_
  go_wp2_with fail
  refine (k_vwrite _ HW.out (by have:=HWT.out;omega) (HE.out.later HB.out) HRT.out).mono ?_
  rintro e w9 ⟨rfl,hb9⟩
  replace HC:=Lib.hid (bstep HC.out hb9)
  replace HVb:=Lib.hid (bstep HVb.out hb9)
  replace HCc:=Lib.hid (HCc.out.later hb9)
  replace HVv:=Lib.hid (HVv.out.later hb9)
  replace HB:=Lib.hid (bnext HB.out hb9)
  replace HW:=Lib.hid (HW.out.later hb9)
  replace HX6:=Lib.hid (bstep HX6.out hb9)
  replace HL8:=Lib.hid (HL8.out.later hb9)
  replace HX8:=Lib.hid (bstep HX8.out hb9)
  clear hb9
  go_wp2_with fail
  refine (k_vread w9 (by have h1:=HWT.out;have h2:=write_le _ (by have:=HRT.out;simp only [rightTop,Bool.and_eq_true] at this;exact this.2);omega) (HE.out.later HB.out) HRT.out).mono ?_
  rintro e w10 ⟨hb10,us,rfl,hus⟩
  have HU:=Lib.hid hus
  clear hus
  replace HC:=Lib.hid (bstep HC.out hb10)
  replace HVb:=Lib.hid (bstep HVb.out hb10)
  replace HCc:=Lib.hid (HCc.out.later hb10)
  replace HVv:=Lib.hid (HVv.out.later hb10)
  replace HB:=Lib.hid (bnext HB.out hb10)
  replace HW:=Lib.hid (HW.out.later hb10)
  replace HX6:=Lib.hid (bstep HX6.out hb10)
  replace HL8:=Lib.hid (HL8.out.later hb10)
  replace HX8:=Lib.hid (bstep HX8.out hb10)
  clear hb10
  dsimp only
  iterate 13 go_step
  refine wpList_storeV rfl rfl 36 (.tmp 13) (.tmp 57) rfl _ (store_value (heap_alloc_new _ _) rfl HU.out.size HU.out.one) ?_
  obtain ⟨W13,hW13⟩:∃ W,(w10.alloc (.cells #[.int .i64 0,.bool false,.int .i64 0,.string ⟨#[]⟩,.slice none 0 0,.slice none 0 0] 36)).setRow w10.heap.size us=W:=⟨_,rfl⟩
  obtain ⟨hx13,hb13⟩:=made hW13
  go_upto_region 10 with fail
  (try rw [hW13])
  obtain ⟨q13,hq13⟩:∃ q,w10.heap.size=q:=⟨_,rfl⟩
  rw [hq13] at hx13 ⊢
  have HX13:=Lib.hid hx13
  clear hx13 hW13 hq13
  replace HC:=Lib.hid (bstep HC.out hb13)
  replace HVb:=Lib.hid (bstep HVb.out hb13)
  replace HCc:=Lib.hid (HCc.out.later hb13)
  replace HVv:=Lib.hid (HVv.out.later hb13)
  replace HB:=Lib.hid (bnext HB.out hb13)
  replace HW:=Lib.hid (HW.out.later hb13)
  replace HX6:=Lib.hid (bstep HX6.out hb13)
  replace HL8:=Lib.hid (HL8.out.later hb13)
  replace HX8:=Lib.hid (bstep HX8.out hb13)
  replace HU:=Lib.hid (HU.out.later hb13)
  clear hb13
  obtain ⟨u0,u1,u2,u3,u4,u5,hu6⟩:=six_arr HU.out.size
  obtain ⟨x0,x1,x2,x3,x4,x5,hw6⟩:=six_arr HW.out.size
  have HU1:=HU.out
  have HW1:=HW.out
  have HX13':=HX13.out
  have HX6':=HX6.out
  rw [hu6] at HU1 HX13'
  rw [hw6] at HW1 HX6'
  have CS:=Lib.hid (k_same _ HU1 HW1 (by have:=HWT.out;omega) (by have:=HWT.out;omega))
  rw [sameP_self] at CS
  obtain ⟨⟨k0,k1,k2,k3,k4,k5⟩,kf⟩:=cells_six HX13'
  obtain ⟨⟨j0,j1,j2,j3,j4,j5⟩,jf⟩:=cells_six HX6'
  clear HU1 HW1 HX13' HX6' hu6 hw6
  go_wp2_with fail
  refine (CS.out).mono ?_
  rintro e w11 ⟨rfl,hb11⟩
  replace HC:=Lib.hid (bstep HC.out hb11)
  replace HVb:=Lib.hid (bstep HVb.out hb11)
  replace HCc:=Lib.hid (HCc.out.later hb11)
  replace HVv:=Lib.hid (HVv.out.later hb11)
  replace HB:=Lib.hid (bnext HB.out hb11)
  replace HW:=Lib.hid (HW.out.later hb11)
  replace HX6:=Lib.hid (bstep HX6.out hb11)
  replace HL8:=Lib.hid (HL8.out.later hb11)
  replace HX8:=Lib.hid (bstep HX8.out hb11)
  replace HU:=Lib.hid (HU.out.later hb11)
  replace HX13:=Lib.hid (bstep HX13.out hb11)
  clear hb11
  clear k0 k1 k2 k3 k4 k5 kf j0 j1 j2 j3 j4 j5 jf CS
  clear HX6 HX8 HX13 HL8 HU HW HM0 HRT HWT HWR
  go_upto_region 12 with fail
 case' inr =>
  have HWR:=Lib.hid hwr
  clear hwr HWD0
  go_wp2_with fail
  refine (k_write _ HO.out HSM.out (HE.out.later HB.out) (HM.out.later HB.out) (r:=zV) (er:=42) (by rw [HWR.out];rfl) (by rw [HWR.out];rfl)).mono ?_
  rintro e w6 ⟨hb6,ws,rfl,hws⟩
  have HW:=Lib.hid hws
  clear HO hws
  replace HC:=Lib.hid (bstep HC.out hb6)
  replace HVb:=Lib.hid (bstep HVb.out hb6)
  replace HCc:=Lib.hid (HCc.out.later hb6)
  replace HVv:=Lib.hid (HVv.out.later hb6)
  replace HB:=Lib.hid (bnext HB.out hb6)
  clear hb6
  dsimp only
  iterate 13 go_step
  refine wpList_storeV rfl rfl 36 (.tmp 6) (.tmp 36) rfl _ (store_value (heap_alloc_new _ _) rfl HW.out.size HW.out.one) ?_
  obtain ⟨W6,hW6⟩:∃ W,(w6.alloc (.cells #[.int .i64 0,.bool false,.int .i64 0,.string ⟨#[]⟩,.slice none 0 0,.slice none 0 0] 36)).setRow w6.heap.size ws=W:=⟨_,rfl⟩
  obtain ⟨hx6,hb6⟩:=made hW6
  go_upto_region 5 with fail
  (try rw [hW6])
  obtain ⟨q6,hq6⟩:∃ q,w6.heap.size=q:=⟨_,rfl⟩
  rw [hq6] at hx6 ⊢
  have HX6:=Lib.hid hx6
  clear hx6 hW6 hq6
  replace HC:=Lib.hid (bstep HC.out hb6)
  replace HVb:=Lib.hid (bstep HVb.out hb6)
  replace HCc:=Lib.hid (HCc.out.later hb6)
  replace HVv:=Lib.hid (HVv.out.later hb6)
  replace HB:=Lib.hid (bnext HB.out hb6)
  replace HW:=Lib.hid (HW.out.later hb6)
  clear hb6
  clear HX6 HW HWR
  go_upto_region 12 with fail
 all_goals
  go_step
  refine wpList_loadTab rfl 26 (.tmp 3) rfl _ (load_rvalue HVb.out HVv.out.size) ?_
  go_wp2_with fail
  refine (k_vof _ HVv.out (by have:=HWV.out;omega)).mono ?_
  rintro e w12 ⟨hb12,os,rfl,ho⟩
  have HO:=Lib.hid ho
  clear ho
  replace HC:=Lib.hid (bstep HC.out hb12)
  replace HVb:=Lib.hid (bstep HVb.out hb12)
  replace HCc:=Lib.hid (HCc.out.later hb12)
  replace HVv:=Lib.hid (HVv.out.later hb12)
  replace HB:=Lib.hid (bnext HB.out hb12)
  clear hb12
  go_wp2_with fail
  refine (k_read _ HO.out (by have:=HWV.out;omega) (HE.out.later HB.out) (HM.out.later HB.out) HR.out).mono ?_
  rintro e w13 ⟨hb13,ds,rfl,hds⟩
  have HL15:=Lib.hid hds
  clear HO hds
  replace HC:=Lib.hid (bstep HC.out hb13)
  replace HVb:=Lib.hid (bstep HVb.out hb13)
  replace HCc:=Lib.hid (HCc.out.later hb13)
  replace HVv:=Lib.hid (HVv.out.later hb13)
  replace HB:=Lib.hid (bnext HB.out hb13)
  clear hb13
  dsimp only
  iterate 13 go_step
  refine wpList_storeV rfl rfl 43 (.tmp 15) (.tmp 83) rfl _ (store_call (heap_alloc_new _ _) rfl HL15.out.size HL15.out.one) ?_
  obtain ⟨W15,hW15⟩:∃ W,(w13.alloc (.cells #[.int .i64 0,.int .i64 0,.bool false,.int .i64 0,.string ⟨#[]⟩,.slice none 0 0,.slice none 0 0,.string ⟨#[]⟩,.int .i64 0,.string ⟨#[]⟩,.slice none 0 0,.int .i64 0,.int .i64 0,.int .i64 0,.bool false,.int .i64 0,.string ⟨#[]⟩,.slice none 0 0,.slice none 0 0] 43)).setRow w13.heap.size ds=W:=⟨_,rfl⟩
  obtain ⟨hx15,hb15⟩:=made hW15
  go_upto_region 13 with fail
  (try rw [hW15])
  obtain ⟨q15,hq15⟩:∃ q,w13.heap.size=q:=⟨_,rfl⟩
  rw [hq15] at hx15 ⊢
  have HX15:=Lib.hid hx15
  clear hx15 hW15 hq15
  replace HC:=Lib.hid (bstep HC.out hb15)
  replace HVb:=Lib.hid (bstep HVb.out hb15)
  replace HCc:=Lib.hid (HCc.out.later hb15)
  replace HVv:=Lib.hid (HVv.out.later hb15)
  replace HB:=Lib.hid (bnext HB.out hb15)
  replace HL15:=Lib.hid (HL15.out.later hb15)
  clear hb15
  by_cases her:er=0
  ·subst her
   have HSD:=Lib.hid (read_small HWV.out HR.out)
   have HWD:=Lib.hid (readW_again HR.out)
   have HM1:=Lib.hid ((writesB_iff d).1 HWD.out)
   go_upto_region 15 with fail
   go_step
   refine wpList_loadTab rfl 43 (.tmp 15) rfl _ (load_call HX15.out HL15.out.size) ?_
   go_wp2_with fail
   refine (k_write _ HL15.out HSD.out (HE.out.later HB.out) (HM.out.later HB.out) (r:=messageW d) (er:=0) (by rw [HWD.out];rfl) (by rw [HWD.out];rfl)).mono ?_
   rintro e w15 ⟨hb15,xs,rfl,hxs⟩
   have HX:=Lib.hid hxs
   clear hxs
   replace HC:=Lib.hid (bstep HC.out hb15)
   replace HVb:=Lib.hid (bstep HVb.out hb15)
   replace HCc:=Lib.hid (HCc.out.later hb15)
   replace HVv:=Lib.hid (HVv.out.later hb15)
   replace HB:=Lib.hid (bnext HB.out hb15)
   replace HL15:=Lib.hid (HL15.out.later hb15)
   replace HX15:=Lib.hid (bstep HX15.out hb15)
   clear hb15
   dsimp only
   iterate 13 go_step
   refine wpList_storeV rfl rfl 36 (.tmp 17) (.tmp 91) rfl _ (store_value (heap_alloc_new _ _) rfl HX.out.size HX.out.one) ?_
   obtain ⟨W17,hW17⟩:∃ W,(w15.alloc (.cells #[.int .i64 0,.bool false,.int .i64 0,.string ⟨#[]⟩,.slice none 0 0,.slice none 0 0] 36)).setRow w15.heap.size xs=W:=⟨_,rfl⟩
   obtain ⟨hx17,hb17⟩:=made hW17
   go_upto_region 16 with fail
   (try rw [hW17])
   obtain ⟨q17,hq17⟩:∃ q,w15.heap.size=q:=⟨_,rfl⟩
   rw [hq17] at hx17 ⊢
   have HX17:=Lib.hid hx17
   clear hx17 hW17 hq17
   replace HC:=Lib.hid (bstep HC.out hb17)
   replace HVb:=Lib.hid (bstep HVb.out hb17)
   replace HCc:=Lib.hid (HCc.out.later hb17)
   replace HVv:=Lib.hid (HVv.out.later hb17)
   replace HB:=Lib.hid (bnext HB.out hb17)
   replace HL15:=Lib.hid (HL15.out.later hb17)
   replace HX15:=Lib.hid (bstep HX15.out hb17)
   replace HX:=Lib.hid (HX.out.later hb17)
   clear hb17
   go_step
   refine wpList_loadTab rfl 36 (.tmp 17) rfl _ (load_value HX17.out HX.out.size) ?_
   go_wp2_with fail
   refine (k_read _ HX.out (by have:=wt_message HSD.out;omega) (HE.out.later HB.out) (HM.out.later HB.out) HM1.out).mono ?_
   rintro e w16 ⟨hb16,ys,rfl,hys⟩
   have HL19:=Lib.hid hys
   clear hys
   replace HC:=Lib.hid (bstep HC.out hb16)
   replace HVb:=Lib.hid (bstep HVb.out hb16)
   replace HCc:=Lib.hid (HCc.out.later hb16)
   replace HVv:=Lib.hid (HVv.out.later hb16)
   replace HB:=Lib.hid (bnext HB.out hb16)
   replace HL15:=Lib.hid (HL15.out.later hb16)
   replace HX15:=Lib.hid (bstep HX15.out hb16)
   replace HX:=Lib.hid (HX.out.later hb16)
   replace HX17:=Lib.hid (bstep HX17.out hb16)
   clear hb16
   dsimp only
   iterate 13 go_step
   refine wpList_storeV rfl rfl 43 (.tmp 19) (.tmp 96) rfl _ (store_call (heap_alloc_new _ _) rfl HL19.out.size HL19.out.one) ?_
   obtain ⟨W19,hW19⟩:∃ W,(w16.alloc (.cells #[.int .i64 0,.int .i64 0,.bool false,.int .i64 0,.string ⟨#[]⟩,.slice none 0 0,.slice none 0 0,.string ⟨#[]⟩,.int .i64 0,.string ⟨#[]⟩,.slice none 0 0,.int .i64 0,.int .i64 0,.int .i64 0,.bool false,.int .i64 0,.string ⟨#[]⟩,.slice none 0 0,.slice none 0 0] 43)).setRow w16.heap.size ys=W:=⟨_,rfl⟩
   obtain ⟨hx19,hb19⟩:=made hW19
   go_upto_region 17 with fail
   (try rw [hW19])
   obtain ⟨q19,hq19⟩:∃ q,w16.heap.size=q:=⟨_,rfl⟩
   rw [hq19] at hx19 ⊢
   have HX19:=Lib.hid hx19
   clear hx19 hW19 hq19
   replace HC:=Lib.hid (bstep HC.out hb19)
   replace HVb:=Lib.hid (bstep HVb.out hb19)
   replace HCc:=Lib.hid (HCc.out.later hb19)
   replace HVv:=Lib.hid (HVv.out.later hb19)
   replace HB:=Lib.hid (bnext HB.out hb19)
   replace HL15:=Lib.hid (HL15.out.later hb19)
   replace HX15:=Lib.hid (bstep HX15.out hb19)
   replace HX:=Lib.hid (HX.out.later hb19)
   replace HX17:=Lib.hid (bstep HX17.out hb19)
   replace HL19:=Lib.hid (HL19.out.later hb19)
   clear hb19
   go_upto_region 17 with fail
   refine wp_region_held_drew (S:=fun X=>X.heap[q15]?=some (.cells ds 43 (0,0))∧X.heap[q19]?=some (.cells ys 43 (0,0))∧Below W19.heap.size W19 X) (by kernel_rfl) ⟨HX15.out,HX19.out,(Below.refl _ _).drew⟩ (fun hHeld=>?_)
   refine wpAnyH_take (i:=0) (oi:=({ dst:=some 98,op:=Op.load 43 (Operand.tmp 15),type:=43,pos := "law.go:102",after:=#[],guard:=none }:Oper)) (v:=.agg ds) rfl (by kernel_rfl) (by kernel_rfl) (by kernel_rfl) (fun _ _ _ h=>h) (yields_load 43 (.tmp 15) rfl (by rfl) (fun X hX=>load_call hX.1 HL15.out.size)) hHeld ?_
   (try simp only [Act.put,List.setIfInBounds_toArray,List.set_cons_zero,List.set_cons_succ])
   refine wpAnyH_take (i:=2) (oi:=({ dst:=some 100,op:=Op.load 43 (Operand.tmp 19),type:=43,pos := "law.go:102",after:=#[],guard:=none }:Oper)) (v:=.agg ys) rfl (by kernel_rfl) (by kernel_rfl) (by kernel_rfl) (fun _ _ _ h=>h) (yields_load 43 (.tmp 19) rfl (by rfl) (fun X hX=>load_call hX.2.1 HL19.out.size)) hHeld ?_
   (try simp only [Act.put,List.setIfInBounds_toArray,List.set_cons_zero,List.set_cons_succ])
   have hl15:=HL15.out.later (Below.drew (Below.refl _ _))
   have hl19:=HL19.out.later (Below.drew (Below.refl _ _))
   refine wpAnyH_ready (rs:=[1]) (by kernel_rfl) (by simp) ?_
   refine (AllReadyH.cons (o:=({ dst:=some 99,op:=Op.call { callee:=Callee.value (Operand.func 16),args:=#[Operand.tmp 98],argTypes:=#[43] },type:=31,pos := "law.go:102",after:=#[{ on:=0,ground:=Ground.data }],guard:=none }:Oper)) rfl (fun K hK=>?_) AllReadyH.nil)
   refine wanted_step (by kernel_rfl) ?_
   go_simp
   go_at_call 16
   refine (k_to _ hl15 HSD.out).mono ?_
   rintro e wa ⟨hba,es,rfl,hda⟩
   refine hK.out _ _ ⟨bstep hHeld.1 hba,bstep hHeld.2.1 hba,hHeld.2.2.trans (hba.mono hHeld.2.2.size)⟩ (fun hHeldz=>?_)
   (try simp only [Act.put,List.setIfInBounds_toArray,List.set_cons_zero,List.set_cons_succ])
   replace hHeld:=hHeldz
   clear hK hHeldz
   replace hl19:=hl19.later hba
   refine wpAnyH_ready (rs:=[3]) (by kernel_rfl) (by simp) ?_
   refine (AllReadyH.cons (o:=({ dst:=some 101,op:=Op.call { callee:=Callee.value (Operand.func 16),args:=#[Operand.tmp 100],argTypes:=#[43] },type:=31,pos := "law.go:102",after:=#[{ on:=2,ground:=Ground.data },{ on:=1,ground:=Ground.chain }],guard:=none }:Oper)) rfl (fun K hK=>?_) AllReadyH.nil)
   refine wanted_step (by kernel_rfl) ?_
   go_simp
   go_at_call 16
   refine (k_to _ hl19 HSD.out).mono ?_
   rintro e wb ⟨hbb,fs,rfl,hdb⟩
   refine hK.out _ _ ⟨bstep hHeld.1 hbb,bstep hHeld.2.1 hbb,hHeld.2.2.trans (hbb.mono hHeld.2.2.size)⟩ (fun hHeldz=>?_)
   (try simp only [Act.put,List.setIfInBounds_toArray,List.set_cons_zero,List.set_cons_succ])
   replace hHeld:=hHeldz
   clear hK hHeldz
   replace hda:=hda.later hbb
   refine wpAnyH_ready (rs:=[4]) (by kernel_rfl) (by simp) ?_
   refine (AllReadyH.cons (o:=({ dst:=some 102,op:=Op.call { callee:=Callee.value (Operand.func 15),args:=#[Operand.tmp 99,Operand.tmp 101],argTypes:=#[31,31] },type:=4,pos := "law.go:102",after:=#[{ on:=1,ground:=Ground.data },{ on:=3,ground:=Ground.data },{ on:=3,ground:=Ground.chain }],guard:=none }:Oper)) rfl (fun K hK=>?_) AllReadyH.nil)
   refine wanted_step (by kernel_rfl) ?_
   go_simp
   go_at_call 15
   refine (k_csame _ hda hdb HSD.out HSD.out).mono ?_
   rintro e wc ⟨rfl,hbc⟩
   refine hK.out _ _ ⟨bstep hHeld.1 hbc,bstep hHeld.2.1 hbc,hHeld.2.2.trans (hbc.mono hHeld.2.2.size)⟩ (fun hHeldz=>?_)
   (try simp only [Act.put,List.setIfInBounds_toArray,List.set_cons_zero,List.set_cons_succ])
   replace hHeld:=hHeldz
   clear hK hHeldz
   rw [sameC_self]
   refine wpAnyH_take (i:=5) (oi:=({ dst:=some 21,op:=Op.assign (Operand.tmp 102),type:=4,pos := "law.go:102",after:=#[{ on:=4,ground:=Ground.data },{ on:=4,ground:=Ground.chain },{ on:=0,ground:=Ground.phase },{ on:=1,ground:=Ground.phase },{ on:=2,ground:=Ground.phase },{ on:=3,ground:=Ground.phase },{ on:=4,ground:=Ground.phase }],guard:=none }:Oper)) (v:=.bool true) rfl (by kernel_rfl) (by kernel_rfl) (by kernel_rfl) (fun _ _ _ h=>h) (Or.inl ⟨by rfl,fun X hX=>rfl⟩) hHeld ?_
   (try simp only [Act.put,List.setIfInBounds_toArray,List.set_cons_zero,List.set_cons_succ])
   refine wpAnyH_done (by kernel_rfl) ?_ _
   have hb17:=hHeld.2.2
   clear hHeld hda hdb hl15 hl19 hba hbb hbc
   replace HC:=Lib.hid (bstep HC.out hb17)
   replace HVb:=Lib.hid (bstep HVb.out hb17)
   replace HCc:=Lib.hid (HCc.out.later hb17)
   replace HVv:=Lib.hid (HVv.out.later hb17)
   replace HB:=Lib.hid (bnext HB.out hb17)
   replace HL15:=Lib.hid (HL15.out.later hb17)
   replace HX15:=Lib.hid (bstep HX15.out hb17)
   replace HX:=Lib.hid (HX.out.later hb17)
   replace HX17:=Lib.hid (bstep HX17.out hb17)
   replace HL19:=Lib.hid (HL19.out.later hb17)
   replace HX19:=Lib.hid (bstep HX19.out hb17)
   clear hb17
   have cA:=CA.out _ HB.out
   go_wp2_with fail
   refine cA.mono ?_
   rintro e w18 ⟨rfl,hb18⟩
   go_wp2_with fail
   go_ret
   exact ⟨rfl,bnext HB.out hb18⟩
  ·have hee:(er==0)=false:=by simpa using her
   clear her
   have cA:=CA.out _ HB.out
   go_wp2_with fail
   refine cA.mono ?_
   rintro e w14 ⟨rfl,hb14⟩
   go_wp2_with fail
   go_ret
   exact ⟨rfl,bnext HB.out hb14⟩
theorem back_any (c:CallP) (v:Val) (il ik ch ol ok lv kv:Value) (w:World) (h:CallIn w (fun _=>True) c il ik ch ol ok) (hv:ValIn w (fun _=>True) v lv kv)
  (hz:wt c.id+wt c.other+c.name.length+c.text.length+wtE c.changes≤1099511627776) (hwv:wt v≤1099511627776) (hE:EnvW w) (hM:MTab w) :
  Calls Tryz.prog 4 #[argC c il ik ch ol ok,arg v lv kv] w fun e w'=>e=.returned (.bool true)∧Below w.heap.size w w':=by
 by_cases hb:400<sizeV v
 ·exact back_long c v il ik ch ol ok lv kv w h hv hz hwv hb hE hM
 ·exact back_short c v _ _ w (c_true h) (v_true hv) hz (by omega) hE hM
end Go.Proofs.YtpbnhnilfpoljaaGreatDoor.M
