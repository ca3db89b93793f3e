/- What the claim needs of the texts MWrite1, MWrite2, MWrite3. -/
import Derived.Test.YtpbnhnilfpoljaaGreatDoorRB32
namespace Go.Proofs.YtpbnhnilfpoljaaGreatDoor.M
open Go.RowKit
open Go.Lib Go.Proofs.YtpbnhnilfpoljaaGreatDoor.V
structure PSt (B:Nat) (ps:List (List UInt8 × Val)) (v:Value) (n:Nat) (xs:List Value) (W:World):Prop where
 own:W.ownsRow B 78 7 v n xs
 parts:PartsL W (fun g=>B≤g∧v.ownBlock≠some g) ps xs
theorem PSt.nil (B:Nat) (W:World):PSt B [] (.slice none 0 0) 0 [] W:=⟨World.ownsRow_nil _ _ _ _,rfl⟩
theorem PSt.later {B n:Nat} {ps:List (List UInt8 × Val)} {v:Value} {xs:List Value} {W W':World} (h:PSt B ps v n xs W) (hb:Below W.heap.size W W'):PSt B ps v n xs W' :=
 ⟨ownsRow_same h.own fun g hg=>hb.block g (row_lt h.own g hg).2,PartsL.later (fun g _ hlt=>hb.block g hlt) (fun _ h=>h) _ _ h.parts⟩
theorem PSt.step {B n gg cap:Nat} {ps:List (List UInt8 × Val)} {v:Value} {xs:List Value} {W w2 w3:World} {zo:Obj} {key:List UInt8} {val:Val} {lv kv:Value} (h:PSt B ps v n xs W) (hb2:Below W.heap.size W w2) (hv:ValIn w2 (fun g=>W.heap.size≤g) val lv kv) (hB:B≤W.heap.size)
  (hgrow:(w2.alloc zo).grownBy w3 v.ownBlock) (hown3:w3.ownsRow B 78 7 (.slice (some ⟨gg,0,none⟩) (n+1) cap) (n+1) (xs++(strCell key :: six' val lv kv))) (hat:v.ownBlock=some gg∨gg=w2.heap.size+1) :
  PSt B (ps++[(key,val)]) (.slice (some ⟨gg,0,none⟩) (n+1) cap) (n+1) (xs++(strCell key :: six' val lv kv)) w3∧Below B W w3:=by
 have hrow:∀ k,v.ownBlock=some k→B≤k∧k<W.heap.size:=fun k hk=>row_lt h.own k hk
 have hz2:=hb2.size
 have hs3:=hgrow.size
 simp only [World.size_alloc] at hs3
 have hgB:=(row_lt hown3 gg rfl).1
 have hggw:∀ k,k<w2.heap.size→v.ownBlock≠some k→k≠gg:=fun k hk hne h=>by
  subst h;rcases hat with h|h
  ·exact hne h
  ·omega
 have far3:∀ k,k<w2.heap.size→v.ownBlock≠some k→w3.heap[k]?=w2.heap[k]?:=fun k hk hne=>by
  rw [hgrow.block k (by simp;omega) (fun h=>hne h.symm)]
  exact Below.heap_alloc w2 zo k (by omega)
 refine ⟨⟨hown3,?_⟩,hgrow.os.trans hb2.os,hgrow.tape.trans hb2.tape,hgrow.output.trans hb2.output,by omega,fun k hk=>?_⟩
 ·refine PartsL.append ?_ ⟨lv,kv,[],by simp,?_,rfl⟩
  ·refine PartsL.later (R:=fun g=>(B≤g∧v.ownBlock≠some g)∧g<W.heap.size) (fun g hg hlt=>?_) (fun g hg=>?_) _ _ (PartsL.bound _ _ h.parts)
   ·exact (far3 g (by omega) hg.1.2).trans (hb2.block g hlt)
   ·refine ⟨hg.1.1,fun h2=>?_⟩
    have h2:gg=g:=by simpa [Value.ownBlock] using h2
    exact hggw g (by omega) hg.1.2 h2.symm
  ·refine ValIn.later (R:=fun g=>W.heap.size≤g∧g<w2.heap.size) (fun g hg hlt=>?_) (fun g hg=>?_) _ _ _ (ValIn.bound _ _ _ hv)
   ·have hne:v.ownBlock≠some g:=fun h=>by have:=hrow g h;omega
    exact far3 g hlt hne
   ·have hne:v.ownBlock≠some g:=fun h=>by have:=hrow g h;omega
    refine ⟨by omega,fun h2=>?_⟩
    have h2:gg=g:=by simpa [Value.ownBlock] using h2
    exact hggw g hg.2 hne h2.symm
 ·have hne:v.ownBlock≠some k:=fun h=>by have:=hrow k h;omega
  exact (far3 k (by omega) hne).trans (hb2.block k (by omega))
theorem PSt.at {B n gg cap:Nat} {ps:List (List UInt8 × Val)} {xs:List Value} {W:World} (h:PSt B ps (.slice (some ⟨gg,0,none⟩) n cap) n xs W):PartsAt W (fun g=>B≤g) ps gg 0 :=
 ⟨xs,cells_of_own h.own,PartsL.later (fun _ _ _=>rfl) (fun _ h=>h.1) _ _ h.parts⟩
theorem method_of (k:Int):methodP (ofK k)=methodP k∧toldK (ofK k)=toldK k:=by
 unfold ofK
 split
 ·exact ⟨rfl,rfl⟩
 ·rename_i h
  constructor
  ·unfold methodP
   rw [if_neg (by omega),if_neg (by omega),if_neg (by omega),if_neg (by omega),if_neg (by omega),if_neg (by omega),if_neg (by omega),if_neg (by omega),if_neg (by omega),if_neg (by omega),if_neg (by omega),if_neg (by omega),if_neg (by omega),if_neg (by omega),if_neg (by omega),if_neg (by omega),if_neg (by omega),if_neg (by omega)]
  ·unfold toldK
   rw [decide_eq_false (by omega),decide_eq_false (by omega)]
structure Light (N:Nat) (d:CallP):Prop where
 id:wt d.id≤N
 other:wt d.other≤N
 edits:d.changes.length≤N
theorem zV_wt {v:Val} {N:Nat} (h:wt v≤N):wt zV≤N:=by
 have h1:=wt_pos v
 have h2:wt zV=1:=by decide
 omega
theorem listL (l:List Val):l.length≤wtL l:=wtL_length l
theorem call0_light {N:Nat} (k:Int) {i:Val} (hi:wt i≤N):Light N (call0 k i):=⟨hi,zV_wt hi,Nat.zero_le _⟩
theorem params_light {N:Nat} (k:Int) {i p:Val} (hi:wt i≤N) (hp:wt p≤N):Light N (paramsP k i p):=by
 unfold paramsP
 split
 ·exact call0_light k hi
 split
 ·exact ⟨hi,Nat.le_trans (getZ_wt p _) hp,Nat.zero_le _⟩
 ·refine ⟨hi,zV_wt hi,?_⟩
  show (if k=5 then changesAt p else []).length≤N
  split
  ·unfold changesAt
   rw [List.length_map]
   exact Nat.le_trans (listL _) (Nat.le_trans (list_wt _) (Nat.le_trans (getZ_wt p _) hp))
  ·exact Nat.zero_le _
theorem read_light {N:Nat} {v:Val} (h:wt v≤N):Light N (readW v).1:=by
 have hi:=Nat.le_trans (getZ_wt v [bId]) h
 have hp:=Nat.le_trans (getZ_wt v [bParams]) h
 have hz:=zV_wt h
 unfold readW
 split
 ·unfold readM
  split
  ·exact call0_light _ hz
  split
  ·exact call0_light _ hi
  split
  ·exact params_light _ hi hp
  ·exact call0_light _ hi
 ·exact call0_light _ hz
end Go.Proofs.YtpbnhnilfpoljaaGreatDoor.M
namespace Go.Proofs.YtpbnhnilfpoljaaGreatDoor.M
open Go.RowKit
open Go.Lib Go.Proofs.YtpbnhnilfpoljaaGreatDoor.V
def WriteP (c:CallP) (w:World) (e:Ending) (w':World):Prop :=
 Below w.heap.size w w'∧∃ lv kv,e=.returned (.tuple #[arg (if writesB c=true then messageW c else zV) lv kv,.int .i64 (if writesB c=true then 0 else 42)])∧ValIn w' (fun b=>w.heap.size≤b) (if writesB c=true then messageW c else zV) lv kv
theorem results_val {fn:Func} {p u:Tmp} (h:fn.results=#[.cell p 36,.tmp u]) {tmps:Array Value} {W:World} {q:Nat} {y0 y1 y2 y3 y4 y5:Value} (hp:tmps.getD p undef=.pointer (some ⟨q,0,none⟩)) (hc:W.heap[q]?=some (.cells #[y0,y1,y2,y3,y4,y5] 36 (0,0))) :
  (results fn tmps).run Tryz.prog W=.ok (.tuple #[.agg #[y0,y1,y2,y3,y4,y5],tmps.getD u undef]) W:=by
 rw [results_cell_tmp h,hp]
 have hl:=run_loadVar_row (P:=Tryz.prog) W q 36 36 #[y0,y1,y2,y3,y4,y5] (0,0) _ hc Tryz.underlying36 rfl (by kernel_rfl)
 simp [asAddr,Result.andThen,hl]
theorem wp_loadV {P:Program} {w:World} {o:Oper} {a:Act} {K:Act→World→Prop} {Q:Exit→Act→World→Prop} (t:TypeId) (x:Operand) (ho:o.op=.load t x) (v:Value)
  (hr:(Instr.loadAt t (a.eval x)).run P w=.ok v w) (h:K (a.put o.dst v) w):o.wp P a w K Q:=by
 unfold Oper.wp
 simp [execOp,ho,hr,Result.andThen]
 exact h
theorem tab_lt {W:World} (h:MTab W):0<W.heap.size:=cells_lt h (by simp [tabM])
theorem MTab.later' {B:Nat} {W W':World} (h:MTab W) (hb:Below B W W') (hB:0<B):MTab W':=CellsAt.later (R:=fun g=>g<B) h hB (fun g hg _=>hb.block g hg)
end Go.Proofs.YtpbnhnilfpoljaaGreatDoor.M
namespace Go.Proofs.YtpbnhnilfpoljaaGreatDoor.M
open Go.RowKit
open Go.Lib Go.Proofs.YtpbnhnilfpoljaaGreatDoor.V
set_option maxHeartbeats 40000000 in
set_option maxRecDepth 20000 in
theorem write_nf (a:CallP) (ail' aik' ach' aol' aok':Value) (R:Nat→Prop) (w:World) (ha0:CallIn w R a ail' aik' ach' aol' aok') (hs:SmallC a) (hE:EnvW w) (hM:MTab w) (hidc:sortOf a.id=0) (htold:toldK a.kind=false) :
  Calls Tryz.prog 8 #[argC a ail' aik' ach' aol' aok'] w (WriteP a w):=by
 obtain ⟨i0,hi0,hz0,hz1,hz2⟩:=info_parts infoP
 have ha:CallIn w (fun g=>g<w.heap.size) a ail' aik' ach' aol' aok':=ha0.bound.later (fun _ _ _=>rfl) (fun _ h=>h.2)
 have HSm:=Lib.hid hs
 have hi1:=ha.id
 have ho1:=ha.other
 have hE1:=ha.edits
 obtain ⟨ak,⟨aiso,aion,ainn,aitx,ail,aiks⟩,anm,av,atx,ach,⟨apl,apu⟩,⟨aoso,aoon,aonn,aotx,aol,aoks⟩⟩:=a
 obtain ⟨⟨ai1,ai2,rfl,_⟩,⟨ai3,ai4,rfl,_⟩⟩:=hi1
 obtain ⟨⟨ao1,ao2,rfl,_⟩,⟨ao3,ao4,rfl,_⟩⟩:=ho1
 obtain ⟨ac1,ac2,rfl,_⟩:=hE1
 have HMO:=Lib.hid (method_of ak)
 simp only [argC,callC,six',six,strCell,List.cons_append,List.nil_append]
 obtain ⟨h1,h2,h3,h4⟩:=two w (.cells #[.int .i64 ak,.int .i64 aiso,.bool aion,.int .i64 ainn,.string ⟨aitx.toArray⟩,.slice ai1 ail.length ai2,.slice ai3 aiks.length ai4,.string ⟨anm.toArray⟩,.int .i64 av,.string ⟨atx.toArray⟩,.slice ac1 ach.length ac2,.int .i64 apl,.int .i64 apu,.int .i64 aoso,.bool aoon,.int .i64 aonn,.string ⟨aotx.toArray⟩,.slice ao1 aol.length ao2,.slice ao3 aoks.length ao4] 43) (.cells #[.int .i64 0,.bool false,.int .i64 0,.string ⟨#[]⟩,.slice none 0 0,.slice none 0 0] 36)
 obtain ⟨W2,hW2⟩:∃ W2,(w.alloc (.cells #[.int .i64 ak,.int .i64 aiso,.bool aion,.int .i64 ainn,.string ⟨aitx.toArray⟩,.slice ai1 ail.length ai2,.slice ai3 aiks.length ai4,.string ⟨anm.toArray⟩,.int .i64 av,.string ⟨atx.toArray⟩,.slice ac1 ach.length ac2,.int .i64 apl,.int .i64 apu,.int .i64 aoso,.bool aoon,.int .i64 aonn,.string ⟨aotx.toArray⟩,.slice ao1 aol.length ao2,.slice ao3 aoks.length ao4] 43)).alloc (.cells #[.int .i64 0,.bool false,.int .i64 0,.string ⟨#[]⟩,.slice none 0 0,.slice none 0 0] 36)=W2:=⟨_,rfl⟩
 rw [hW2] at h1 h2 h3 h4
 have hz2':w.heap.size+2≤W2.heap.size:=by omega
 have a0:W2.cell? ⟨w.heap.size,0,none⟩=some (.int .i64 ak):=by unfold World.cell?;rw [h1];rfl
 have CM:=Lib.hid (of_any ak W2 (hM.later h3))
 have HA2:=Lib.hid h1
 have HR2:=Lib.hid h2
 have HB2:=Lib.hid h3
 have HE2:=Lib.hid (hE.later h3)
 have HT2:=Lib.hid (hM.later h3)
 have HC2:=Lib.hid (ha.later (R':=fun g=>g<w.heap.size) (fun g hg hlt=>h3.block g hlt) (fun _ h=>h))
 clear h1 h2 h3 h4 hE hM ha ha0 hs
 go_enter Tryz.func8,Tryz.ntmps8
 go_wp2_with fail
 refine CM.out.mono ?_
 rintro e w3 ⟨rfl,hb3⟩
 have hz3:=hb3.size
 clear CM a0
 obtain ⟨VA,hVA⟩:∃ V,Value.agg #[.int .i64 ak,.int .i64 aiso,.bool aion,.int .i64 ainn,.string ⟨aitx.toArray⟩,.slice ai1 ail.length ai2,.slice ai3 aiks.length ai4,.string ⟨anm.toArray⟩,.int .i64 av,.string ⟨atx.toArray⟩,.slice ac1 ach.length ac2,.int .i64 apl,.int .i64 apu,.int .i64 aoso,.bool aoon,.int .i64 aonn,.string ⟨aotx.toArray⟩,.slice ao1 aol.length ao2,.slice ao3 aoks.length ao4]=V:=⟨_,rfl⟩
 simp only [hVA]
 have HVA:=Lib.hid hVA
 clear hVA
 simp only [methC]
 rw [HMO.out.1,HMO.out.2]
 generalize ofK ak=mk0
 generalize reqP mk0=mrq
 have hto:toldK ak=false:=htold
 have HTo:=Lib.hid hto
 rw [hto]
 clear hto HMO htold
 obtain ⟨mq,hmq⟩:∃ q,w3.heap.size=q:=⟨_,rfl⟩
 go_upto_region 3 with fail
 obtain ⟨W4,hW4⟩:∃ W4,w3.alloc (.cells #[.int .i64 mk0,.string ⟨(methodP ak).toArray⟩,.bool mrq,.bool false] 73)=W4:=⟨_,rfl⟩
 have hb34:Below w3.heap.size w3 W4:=by rw [← hW4];exact (Below.refl _ _).alloc (Nat.le_refl _) _
 have hb24:Below W2.heap.size W2 W4:=hb3.trans (hb34.mono hz3)
 obtain ⟨B,hBe⟩:∃ B,W4.heap.size=B:=⟨_,rfl⟩
 have HG4:=Lib.hid (show W4.heap[mq]?=some (.cells #[.int .i64 mk0,.string ⟨(methodP ak).toArray⟩,.bool mrq,.bool false] 73 (0,0)) by rw [← hW4,← hmq];exact heap_alloc_new _ _)
 have hmB:mq<B:=by rw [← hBe,← hW4,← hmq];simp
 have HA:=Lib.hid ((hb24.block w.heap.size (by omega)).trans HA2.out)
 have HR4:=Lib.hid ((hb24.block (w.heap.size+1) (by omega)).trans HR2.out)
 have HB4:=Lib.hid (HB2.out.trans (hb24.mono HB2.out.size))
 have HE4:=Lib.hid (HE2.out.later hb24)
 have HM4:=Lib.hid (HT2.out.later hb24)
 have HC4:=Lib.hid (HC2.out.later (R':=fun g=>g<w.heap.size) (fun g hg hlt=>hb24.block g (by omega)) (fun _ h=>h))
 have hgB:=tab_lt HM4.out
 rw [hBe] at hgB
 have hBl:W4.heap.size≤B:=Nat.le_of_eq hBe
 have hBl2:w.heap.size≤B:=by omega
 have hwB:w.heap.size+2≤B:=by omega
 clear hb3 hb34 hb24 HA2 HR2 HB2 HE2 HT2 HC2
 (try rw [hW4])
 clear hW4 hW2
 have HQ:Hid (writesB ⟨ak,.mk aiso aion ainn aitx ail aiks,anm,av,atx,ach,⟨apl,apu⟩,.mk aoso aoon aonn aotx aol aoks⟩=((readW (messageW ⟨ak,.mk aiso aion ainn aitx ail aiks,anm,av,atx,ach,⟨apl,apu⟩,.mk aoso aoon aonn aotx aol aoks⟩)).2==0&&sameC (readW (messageW ⟨ak,.mk aiso aion ainn aitx ail aiks,anm,av,atx,ach,⟨apl,apu⟩,.mk aoso aoon aonn aotx aol aoks⟩)).1 ⟨ak,.mk aiso aion ainn aitx ail aiks,anm,av,atx,ach,⟨apl,apu⟩,.mk aoso aoon aonn aotx aol aoks⟩)):=Lib.hid rfl
 have c1:W4.cell? ⟨w.heap.size,1,none⟩=some (.int .i64 aiso):=by unfold World.cell?;rw [HA.out];rfl
 have HMW:Hid (messageW ⟨ak,.mk aiso aion ainn aitx ail aiks,anm,av,atx,ach,⟨apl,apu⟩,.mk aoso aoon aonn aotx aol aoks⟩=recP ([bJsonrpc]++(if aiso=0 then [] else [bId])++[bMethod]++(if false=true then [bParams] else [])) ([strP bTwo]++(if aiso=0 then [] else [.mk aiso aion ainn aitx ail aiks])++[strP (methodP ak)]++(if false=true then [toldV ⟨ak,.mk aiso aion ainn aitx ail aiks,anm,av,atx,ach,⟨apl,apu⟩,.mk aoso aoon aonn aotx aol aoks⟩] else []))):=Lib.hid (by unfold messageW;rw [HTo.out];rfl)
 have hi:aiso=0:=hidc
 have hib:(aiso==(0:Int))=true:=by rw [hi];rfl
 have hib2:(aiso != (0:Int))=false:=by rw [hi];rfl
 rw [if_pos hi,if_pos hi] at HMW
 clear hi hidc
 have g1:W4.cell? ⟨mq,1,none⟩=some (.string ⟨(methodP ak).toArray⟩):=by unfold World.cell?;rw [(Below.refl B W4).block mq (by omega),HG4.out];rfl
 have g3:W4.cell? ⟨mq,3,none⟩=some (.bool false):=by unfold World.cell?;rw [(Below.refl B W4).block mq (by omega),HG4.out];rfl
 have hzW:=((Below.refl B W4)).size
 go_wp2_with fail
 refine (text_any _ W4).mono ?_
 rintro e w7 ⟨rfl,hb7⟩
 have hz7:=hb7.size
 clear g1 g3
 go_wp2_with (at_builtin;refine wpList_append_lies _ rfl (.tmp 23) (.tmp 28) 75 rfl B 78 i0 _ 7 104 Tryz.underlying75 hi0 hz0 hz1 hz2 rfl (by decide) (.slice none 0 0) 0 [] rfl (World.ownsRow_nil _ _ _ _) ⟨w7.heap.size,0,none⟩ 1 1 [.string ⟨#[109,101,116,104,111,100]⟩,.int .i64 3,.bool false,.int .i64 0,.string ⟨(methodP ak).toArray⟩,.slice none 0 0,.slice none 0 0] rfl rfl (World.news_of_block (cs:=#[.string ⟨#[109,101,116,104,111,100]⟩,.int .i64 3,.bool false,.int .i64 0,.string ⟨(methodP ak).toArray⟩,.slice none 0 0,.slice none 0 0]) (t:=78) (fr:=(0,0)) (heap_alloc_new w7 _)) (by intro u hu;simp at hu;rcases hu with rfl|rfl|rfl|rfl|rfl|rfl|rfl <;> rfl) (by omega) (by unfold maxLen;omega) (by omega) (by simp;omega) (w7.heap.size+1) (by simp) ?_)
 intro gg cg W7 hown hgrow hat hlt
 obtain ⟨hs7,hb7'⟩:=PSt.step (key:=bMethod) (val:=strP (methodP ak)) (lv:=.slice none 0 0) (kv:=.slice none 0 0) (PSt.nil B W4) hb7 (leaf_in _ _ _ _ _ _) (by omega) hgrow hown hat
 have HS7:=Lib.hid hs7
 have HB7:=Lib.hid ((Below.refl B W4).trans hb7')
 have hz7':=hb7'.size
 clear hown hgrow hat hlt hs7 hb7' hb7
 have k3:W7.cell? ⟨mq,3,none⟩=some (.bool false):=by unfold World.cell?;rw [HB7.out.block mq (by omega),HG4.out];rfl
 have cW:=fun c=>written_any [(bMethod,strP (methodP ak))] _ 0 c _ W7 HS7.out.at (by simp) (by simp)
 simp only [List.map_cons,List.map_nil,List.length_cons,List.length_nil,Nat.zero_add] at cW
 rw [show recP [bJsonrpc,bMethod] [strP bTwo,strP (methodP ak)]=messageW ⟨ak,.mk aiso aion ainn aitx ail aiks,anm,av,atx,ach,⟨apl,apu⟩,.mk aoso aoon aonn aotx aol aoks⟩ from (HMW.out).symm] at cW
 have hsm:=HSm.out
 have HW:=Lib.hid (wt_message hsm)
 have CWr:=Lib.hid cW
 clear cW hsm
 obtain ⟨MV,hMV⟩:∃ v,messageW ⟨ak,.mk aiso aion ainn aitx ail aiks,anm,av,atx,ach,⟨apl,apu⟩,.mk aoso aoon aonn aotx aol aoks⟩=v:=⟨_,rfl⟩
 rw [hMV] at CWr HW HQ
 clear HS7
 go_wp2_with fail
 refine (CWr.out _).mono ?_
 rintro e w9 ⟨hb9,mlv,mkv,rfl,hv9⟩
 have hz9:=hb9.size
 clear CWr
 obtain ⟨mso,mon,mn,mt,ml,mks⟩:=MV
 have hv9':=hv9
 obtain ⟨⟨m1,m2,rfl,_⟩,⟨m3,m4,rfl,_⟩⟩:=hv9'
 obtain ⟨W9,hW9⟩:∃ W9,w9.alloc (.cells #[.int .i64 mso,.bool mon,.int .i64 mn,.string ⟨mt.toArray⟩,.slice m1 ml.length m2,.slice m3 mks.length m4] 36)=W9:=⟨_,rfl⟩
 have hbw:Below w9.heap.size w9 W9:=by rw [← hW9];exact (Below.refl _ _).alloc (Nat.le_refl _) _
 obtain ⟨q,hq⟩:∃ q,w9.heap.size=q:=⟨_,rfl⟩
 have HX9:=Lib.hid (show W9.heap[q]?=some (.cells #[.int .i64 mso,.bool mon,.int .i64 mn,.string ⟨mt.toArray⟩,.slice m1 ml.length m2,.slice m3 mks.length m4] 36 (0,0)) by rw [← hW9,← hq];exact heap_alloc_new _ _)
 have hb49:Below B W4 W9:=HB7.out.trans ((hb9.trans (hbw.mono hz9)).mono (by omega))
 have HB9:=Lib.hid hb49
 have HV9:=Lib.hid (show ValIn W9 (fun b=>w.heap.size+2≤b∧b<q) (.mk mso mon mn mt ml mks) (.slice m1 ml.length m2) (.slice m3 mks.length m4) from ValIn.later (R:=fun b=>(B≤b∨W7.heap.size≤b)∧b<w9.heap.size) (fun b hb hlt=>hbw.block b hlt) (fun b hb=>by omega) _ _ _ (ValIn.bound _ _ _ hv9))
 have hz9':q<W9.heap.size:=by rw [← hW9,← hq];simp
 have CR:=Lib.hid (read_any _ _ _ _ W9 HV9.out (by have:=HW.out;omega) ((HE4.out).later (hb49.mono hBl)) ((HM4.out).later' hb49 hgB))
 clear hb9 hbw hv9 HB7 hb49
 simp only [arg,six',six,strCell]
 go_upto_region 9 with fail
 (try rw [hW9])
 (try rw [hq])
 clear hW9
 have hDD:=read_light (HW.out)
 obtain ⟨d,hd⟩:∃ d,(readW (.mk mso mon mn mt ml mks)).1=d:=⟨_,rfl⟩
 obtain ⟨er,her⟩:∃ x,(readW (.mk mso mon mn mt ml mks)).2=x:=⟨_,rfl⟩
 have CR2:=CR.out
 unfold ReadP at CR2
 rw [hd,her] at CR2
 rw [hd] at hDD
 have HDD:=Lib.hid hDD
 have HQ2:Hid (writesB ⟨ak,.mk aiso aion ainn aitx ail aiks,anm,av,atx,ach,⟨apl,apu⟩,.mk aoso aoon aonn aotx aol aoks⟩=((er==0)&&sameC d ⟨ak,.mk aiso aion ainn aitx ail aiks,anm,av,atx,ach,⟨apl,apu⟩,.mk aoso aoon aonn aotx aol aoks⟩)):=Lib.hid (by rw [HQ.out,hd,her])
 clear hd her CR hDD HQ
 simp only [arg,six',six,strCell] at CR2
 have CRH:=Lib.hid CR2
 clear CR2
 obtain ⟨⟨q0,q1,q2,q3,q4,q5⟩,qf⟩:=cells_six HX9.out
 go_wp2_with fail
 refine CRH.out.mono ?_
 rintro e w10 ⟨hb10,dil,dik,dch,dol,dok,rfl,hc10⟩
 have hz10:=hb10.size
 clear CRH q0 q1 q2 q3 q4 q5 qf
 have cS:=fun W (hb:Below w10.heap.size w10 W) (ha:CallIn W (fun g=>g<w.heap.size) ⟨ak,.mk aiso aion ainn aitx ail aiks,anm,av,atx,ach,⟨apl,apu⟩,.mk aoso aoon aonn aotx aol aoks⟩ (.slice ai1 ail.length ai2) (.slice ai3 aiks.length ai4) (.slice ac1 ach.length ac2) (.slice ao1 aol.length ao2) (.slice ao3 aoks.length ao4))=>samec_any d ⟨ak,.mk aiso aion ainn aitx ail aiks,anm,av,atx,ach,⟨apl,apu⟩,.mk aoso aoon aonn aotx aol aoks⟩ dil dik dch dol dok (.slice ai1 ail.length ai2) (.slice ai3 aiks.length ai4) (.slice ac1 ach.length ac2) (.slice ao1 aol.length ao2) (.slice ao3 aoks.length ao4) _ _ W (hc10.bound.later (R':=fun g=>W9.heap.size≤g∧g<w10.heap.size) (fun g hg hlt=>hb.block g hlt) (fun _ h=>h)) ha (by have:=HDD.out.id;omega) (by have:=HDD.out.other;omega) (Nat.le_trans HSm.out.id (by decide)) (Nat.le_trans HSm.out.other (by decide)) (by have:=HDD.out.edits;omega)
 have hhi:=hc10.id
 have hho:=hc10.other
 have hhe:=hc10.edits
 obtain ⟨dk,⟨diso,dion,dinn,ditx,dil,diks⟩,dnm,dv,dtx,dch,⟨dpl,dpu⟩,⟨doso,doon,donn,dotx,dol,doks⟩⟩:=d
 obtain ⟨⟨di1,di2,rfl,_⟩,⟨di3,di4,rfl,_⟩⟩:=hhi
 obtain ⟨⟨do1,do2,rfl,_⟩,⟨do3,do4,rfl,_⟩⟩:=hho
 obtain ⟨dc1,dc2,rfl,_⟩:=hhe
 simp only [argC,callC,six',six,strCell,List.cons_append,List.nil_append] at cS ⊢
 generalize sameC ⟨dk,.mk diso dion dinn ditx dil diks,dnm,dv,dtx,dch,⟨dpl,dpu⟩,.mk doso doon donn dotx dol doks⟩ ⟨ak,.mk aiso aion ainn aitx ail aiks,anm,av,atx,ach,⟨apl,apu⟩,.mk aoso aoon aonn aotx aol aoks⟩=sm at cS HQ2
 simp only [HVA.out] at cS
 obtain ⟨V,hV⟩:∃ V,Value.agg #[.int .i64 dk,.int .i64 diso,.bool dion,.int .i64 dinn,.string ⟨ditx.toArray⟩,.slice di1 dil.length di2,.slice di3 diks.length di4,.string ⟨dnm.toArray⟩,.int .i64 dv,.string ⟨dtx.toArray⟩,.slice dc1 dch.length dc2,.int .i64 dpl,.int .i64 dpu,.int .i64 doso,.bool doon,.int .i64 donn,.string ⟨dotx.toArray⟩,.slice do1 dol.length do2,.slice do3 doks.length do4]=V:=⟨_,rfl⟩
 simp only [hV] at cS ⊢
 have CS:=Lib.hid cS
 clear cS hc10 HDD
 iterate 13 go_step
 refine wpList_storeV rfl rfl 43 (.tmp 7) (.tmp 43) rfl _ (store_as hV (heap_alloc_new _ _) rfl rfl (by kernel_rfl)) ?_
 obtain ⟨W11,hW11⟩:∃ W11,(w10.alloc (.cells #[.int .i64 0,.int .i64 0,.bool false,.int .i64 0,.string ⟨#[]⟩,.slice none 0 0,.slice none 0 0,.string ⟨#[]⟩,.int .i64 0,.string ⟨#[]⟩,.slice none 0 0,.int .i64 0,.int .i64 0,.int .i64 0,.bool false,.int .i64 0,.string ⟨#[]⟩,.slice none 0 0,.slice none 0 0] 43)).setRow w10.heap.size #[.int .i64 dk,.int .i64 diso,.bool dion,.int .i64 dinn,.string ⟨ditx.toArray⟩,.slice di1 dil.length di2,.slice di3 diks.length di4,.string ⟨dnm.toArray⟩,.int .i64 dv,.string ⟨dtx.toArray⟩,.slice dc1 dch.length dc2,.int .i64 dpl,.int .i64 dpu,.int .i64 doso,.bool doon,.int .i64 donn,.string ⟨dotx.toArray⟩,.slice do1 dol.length do2,.slice do3 doks.length do4]=W11:=⟨_,rfl⟩
 have hb11:Below w10.heap.size w10 W11:=by rw [← hW11];exact Below.setRow' ((Below.refl _ _).alloc (Nat.le_refl _) _) (Nat.le_refl _) _
 obtain ⟨u,hu⟩:∃ u,w10.heap.size=u:=⟨_,rfl⟩
 have HU:=Lib.hid (show Cs u #[.int .i64 dk,.int .i64 diso,.bool dion,.int .i64 dinn,.string ⟨ditx.toArray⟩,.slice di1 dil.length di2,.slice di3 diks.length di4,.string ⟨dnm.toArray⟩,.int .i64 dv,.string ⟨dtx.toArray⟩,.slice dc1 dch.length dc2,.int .i64 dpl,.int .i64 dpu,.int .i64 doso,.bool doon,.int .i64 donn,.string ⟨dotx.toArray⟩,.slice do1 dol.length do2,.slice do3 doks.length do4] W11 by rw [← hW11,← hu];exact Cs.row (old:=zeroC) (heap_alloc_new _ _) _)
 have hb911:Below W9.heap.size W9 W11:=hb10.trans (hb11.mono hz10)
 have HB11:=Lib.hid (HB9.out.trans (hb911.mono (by omega)))
 have HX11:=Lib.hid ((hb911.block q hz9').trans HX9.out)
 have HV11:=Lib.hid (ValIn.later (R':=fun b=>w.heap.size+2≤b∧b<q) (fun b hb _=>hb911.block b (by omega)) (fun _ h=>h) _ _ _ HV9.out)
 have CS2:=Lib.hid (CS.out W11 hb11 (HC4.out.later (R':=fun g=>g<w.heap.size) (fun g hg hlt=>HB11.out.block g (by omega)) (fun _ h=>h)))
 have HBW:=Lib.hid (HB4.out.trans (HB11.out.mono hBl2))
 have hr11:W11.heap[w.heap.size+1]?=some (.cells #[.int .i64 0,.bool false,.int .i64 0,.string ⟨#[]⟩,.slice none 0 0,.slice none 0 0] 36 (0,0)):=(HB11.out.block _ (by omega)).trans HR4.out
 have HR11:=Lib.hid hr11
 have hul:=HU.out.lt
 go_upto_region 10 with fail
 (try rw [hW11])
 (try rw [hu])
 clear hW11 HB9 HX9 HV9 CS hb10 hb11 hb911 hr11
 have HLA:=Lib.hid (show (Instr.loadAt 43 (.pointer (some ⟨w.heap.size,0,none⟩))).run Tryz.prog W11=.ok VA W11 from (Cs.load (show Cs w.heap.size #[.int .i64 ak,.int .i64 aiso,.bool aion,.int .i64 ainn,.string ⟨aitx.toArray⟩,.slice ai1 ail.length ai2,.slice ai3 aiks.length ai4,.string ⟨anm.toArray⟩,.int .i64 av,.string ⟨atx.toArray⟩,.slice ac1 ach.length ac2,.int .i64 apl,.int .i64 apu,.int .i64 aoso,.bool aoon,.int .i64 aonn,.string ⟨aotx.toArray⟩,.slice ao1 aol.length ao2,.slice ao3 aoks.length ao4] W11 from (HB11.out.block _ (by omega)).trans HA.out) rfl).trans (by rw [HVA.out]))
 have HLD:=Lib.hid (show (Instr.loadAt 43 (.pointer (some ⟨u,0,none⟩))).run Tryz.prog W11=.ok V W11 from (HU.out.load rfl).trans (by rw [hV]))
 clear hV
 by_cases he0:er=0
 ·have heb:(er==(0:Int))=true:=by rw [he0];rfl
  have heb2:(er != (0:Int))=false:=by rw [he0];rfl
  have HQ3:Hid (writesB ⟨ak,.mk aiso aion ainn aitx ail aiks,anm,av,atx,ach,⟨apl,apu⟩,.mk aoso aoon aonn aotx aol aoks⟩=sm):=Lib.hid (by rw [HQ2.out,heb];rfl)
  clear he0 HQ2
  iterate 11 (first|go_guarded|go_step)
  refine wp_loadV 43 (.tmp 7) rfl V HLD.out ?_
  iterate 1 go_step
  refine BigFrame.wpList_want (by kernel_rfl) (fun K2 hK2=>?_)
  refine wp_loadV 43 (.tmp 1) rfl VA HLA.out ?_
  go_wp2_with fail
  refine CS2.out.mono ?_
  rintro e w12 ⟨rfl,hb12⟩
  have hz12:=hb12.size
  have HBF:=Lib.hid (HBW.out.trans (hb12.mono (by have:=HBW.out.size;omega)))
  have HX12:=Lib.hid ((hb12.block q (by omega)).trans HX11.out)
  have HV12:=Lib.hid (ValIn.later (R':=fun b=>w.heap.size+2≤b∧b<q) (fun b hb _=>hb12.block b (by omega)) (fun _ h=>h) _ _ _ HV11.out)
  have HR12:=Lib.hid ((hb12.block (w.heap.size+1) (by omega)).trans HR11.out)
  clear CS2 HX11 HV11 HR11 hb12 HBW
  cases sm with
  | true =>
   obtain ⟨⟨q0,q1,q2,q3,q4,q5⟩,qf⟩:=cells_six HX12.out
   obtain ⟨⟨r0,r1,r2,r3,r4,r5⟩,rf⟩:=cells_six HR12.out
   obtain ⟨HP1,HMB,HV4⟩:=ret6 HR12.out HBF.out (Nat.le_succ _) HV12.out (fun b hb=>by omega)
   clear HX12 HV12 HR12 HBF
   go_wp2_with fail
   refine bodyPost_ret (v:=.tuple #[.agg #[.int .i64 mso,.bool mon,.int .i64 mn,.string ⟨mt.toArray⟩,.slice m1 ml.length m2,.slice m3 mks.length m4],.int .i64 0]) ((results_val (fn:=Tryz.f8) (p:=2) (u:=3) (by rfl) (by rfl) HP1.out).trans rfl) rfl ?_
   unfold WriteP
   rw [HQ3.out,if_pos rfl,if_pos rfl,hMV]
   exact ⟨HMB.out,_,_,rfl,ValIn.later (fun _ _ _=>rfl) (fun b hb=>by omega) _ _ _ HV4.out⟩
  | false =>
   obtain ⟨⟨r0,r1,r2,r3,r4,r5⟩,rf⟩:=cells_six HR12.out
   obtain ⟨HP1,HMB,HV4⟩:=ret6 (so:=0) (on:=false) (n:=0) (t:=[]) (l:=[]) (ks:=[]) (lv:=.slice none 0 0) (kv:=.slice none 0 0) (R:=fun _=>False) HR12.out HBF.out (Nat.le_succ _) (leaf_in w12 _ 0 false 0 []) (fun b hb=>hb.elim)
   go_wp2_with fail
   refine bodyPost_ret (v:=.tuple #[.agg #[.int .i64 0,.bool false,.int .i64 0,.string ⟨#[]⟩,.slice none 0 0,.slice none 0 0],.int .i64 42]) ((results_val (fn:=Tryz.f8) (p:=2) (u:=3) (by rfl) (by rfl) HP1.out).trans rfl) rfl ?_
   unfold WriteP
   rw [HQ3.out,if_neg (by decide),if_neg (by decide)]
   exact ⟨HMB.out,.slice none 0 0,.slice none 0 0,rfl,leaf_in _ _ _ _ _ _⟩
 ·have heb:(er==(0:Int))=false:=beq_eq_false_iff_ne.2 he0
  have heb2:(er != (0:Int))=true:=by rw [bne,heb];rfl
  have HQ3:Hid (writesB ⟨ak,.mk aiso aion ainn aitx ail aiks,anm,av,atx,ach,⟨apl,apu⟩,.mk aoso aoon aonn aotx aol aoks⟩=false):=Lib.hid (by rw [HQ2.out,heb];rfl)
  obtain ⟨⟨r0,r1,r2,r3,r4,r5⟩,rf⟩:=cells_six HR11.out
  clear he0 HQ2 CS2
  obtain ⟨HP1,HMB,HV4⟩:=ret6 (so:=0) (on:=false) (n:=0) (t:=[]) (l:=[]) (ks:=[]) (lv:=.slice none 0 0) (kv:=.slice none 0 0) (R:=fun _=>False) HR11.out HBW.out (Nat.le_succ _) (leaf_in W11 _ 0 false 0 []) (fun b hb=>hb.elim)
  go_wp2_with fail
  refine bodyPost_ret (v:=.tuple #[.agg #[.int .i64 0,.bool false,.int .i64 0,.string ⟨#[]⟩,.slice none 0 0,.slice none 0 0],.int .i64 42]) ((results_val (fn:=Tryz.f8) (p:=2) (u:=3) (by rfl) (by rfl) HP1.out).trans rfl) rfl ?_
  unfold WriteP
  rw [HQ3.out,if_neg (by decide),if_neg (by decide)]
  exact ⟨HMB.out,.slice none 0 0,.slice none 0 0,rfl,leaf_in _ _ _ _ _ _⟩
end Go.Proofs.YtpbnhnilfpoljaaGreatDoor.M
