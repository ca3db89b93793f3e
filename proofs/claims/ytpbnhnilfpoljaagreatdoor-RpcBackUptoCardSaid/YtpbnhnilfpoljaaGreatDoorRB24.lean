/- What the claim needs of the texts MRead1, MRow. -/
import Derived.Test.YtpbnhnilfpoljaaGreatDoorRB23
import Derived.Laws.ResultCell
namespace Go.Proofs.YtpbnhnilfpoljaaGreatDoor.M
open Go.RowKit
open Go.Lib Go.Proofs.YtpbnhnilfpoljaaGreatDoor.V
theorem need_msg (v:Val):(!((((false||!isText v [bJsonrpc])||!isText v [bMethod])||badP v bId [2,3])||badP v bParams [5,4])&&(textAt v [bJsonrpc]==bTwo))=!wrongP v:=by
 unfold wrongP badP idP
 have e1:decide (sortOf (getZ v [bId])∈([2,3]:List Int))=(sortOf (getZ v [bId])==2||sortOf (getZ v [bId])==3):=by rw [Bool.eq_iff_iff];simp
 have e2:decide (sortOf (getZ v [bParams])∈([5,4]:List Int))=(sortOf (getZ v [bParams])==5||sortOf (getZ v [bParams])==4):=by rw [Bool.eq_iff_iff];simp
 have e3:(textAt v [bJsonrpc]==bTwo)=decide (textAt v [bJsonrpc]=bTwo):=by rw [Bool.eq_iff_iff];simp
 rw [e1,e2,e3]
 generalize isText v [bJsonrpc]=x1
 generalize isText v [bMethod]=x2
 generalize hasP v [bId]=x3
 generalize hasP v [bParams]=x4
 generalize decide (textAt v [bJsonrpc]=bTwo)=x5
 generalize (sortOf (getZ v [bId])==2||sortOf (getZ v [bId])==3)=x6
 generalize (sortOf (getZ v [bParams])==5)=x7
 generalize (sortOf (getZ v [bParams])==4)=x8
 revert x1 x2 x3 x4 x5 x6 x7 x8
 decide
def Ms (q:Nat) (cs:Array Value) (W:World):Prop:=W.heap[q]?=some (.cells cs 90 (0,0))
theorem Ms.lt {q:Nat} {cs:Array Value} {W:World} (h:Ms q cs W):q<W.heap.size:=(Array.getElem?_eq_some_iff.1 h).1
theorem Ms.took {q d:Nat} {b:Bool} {cs:Array Value} {W W':World} (h:Ms q cs W) (hk:Took d b W W') (hq:q≠d):Ms q cs W':=(hk.1.block q h.lt hq).trans h
theorem Ms.alloc {q:Nat} {cs:Array Value} {W:World} (h:Ms q cs W) (ob:Obj):Ms q cs (W.alloc ob):=(Below.heap_alloc W ob q h.lt).trans h
theorem Ms.set {q:Nat} {cs:Array Value} {W:World} (h:Ms q cs W) (i:Nat) (v:Value):Ms q (cs.setIfInBounds i v) (W.setCell ⟨q,i,none⟩ v):=Go.Joins.block_setCell (i:=i) h v
theorem Ms.cell {q:Nat} {cs:Array Value} {W:World} (h:Ms q cs W) (i:Nat):W.cell? ⟨q,i,none⟩=cs[i]?:=by unfold Ms at h;simp [World.cell?,h]
theorem Ms.frozen {q:Nat} {cs:Array Value} {W:World} (h:Ms q cs W) (i:Nat):W.frozen? ⟨q,i,none⟩=false:=by unfold Ms at h;simp [World.frozen?,h]
theorem Took.below2 {d B:Nat} {b:Bool} {w W W':World} (h:Took d b W W') (hb:Below B w W) (hB:B≤W.heap.size) (hd:B≤d):Below B w W':=hb.trans ((h.1.mono hB).below hd)
def MsgP (v:Val) (w:World) (e:Ending) (w':World):Prop :=
 Below w.heap.size w w'∧if rightTop v=true then ∃ il ik pl pk,e=.returned (.tuple #[.agg (strCell (textAt v [bMethod]) :: (six' (getZ v [bId]) il ik++(six' (getZ v [bParams]) pl pk++[.bool (hasP v [bId])]))).toArray,.bool (!wrongP v)]) ∧
   ValIn w' (fun g=>w.heap.size≤g) (getZ v [bId]) il ik∧ValIn w' (fun g=>w.heap.size≤g) (getZ v [bParams]) pl pk
  else e=.returned (.tuple #[.agg #[.string ⟨#[]⟩,.int .i64 0,.bool false,.int .i64 0,.string ⟨#[]⟩,.slice none 0 0,.slice none 0 0,.int .i64 0,.bool false,.int .i64 0,.string ⟨#[]⟩,.slice none 0 0,.slice none 0 0,.bool false],.bool false])
set_option maxHeartbeats 16000000 in
set_option maxRecDepth 20000 in
theorem message_any (v:Val) (lv kv:Value) (R:Nat→Prop) (w:World) (hv0:ValIn w R v lv kv) (hw:wt v≤65536) (hE:EnvW w) :
  Calls Tryz.prog 38 #[arg v lv kv] w (MsgP v w):=by
 have hv:ValIn w (fun g=>g<w.heap.size) v lv kv:=(ValIn.bound _ _ _ hv0).later (fun _ _ _=>rfl) (fun _ h=>h.2) _ _ _
 have hv':=hv
 obtain ⟨so,on,n,t,l,ks⟩:=v
 obtain ⟨⟨a1,c1,rfl,_⟩,⟨a2,c2,rfl,_⟩⟩:=hv'
 have cR:=fun W (hb:Below w.heap.size w W)=>right_top so on n t l ks _ _ _ W (val_below hv hb) (by omega) (hE.later hb)
 have hvl:∀ W,Below w.heap.size w W→ValIn W (fun g=>g<w.heap.size) (.mk so on n t l ks) (.slice a1 l.length c1) (.slice a2 ks.length c2):=fun W hb=>val_below hv hb
 have cJ:=fun W d b (hb:Below w.heap.size w W) (hk:Tk d b W)=>ttext_any (.mk so on n t l ks) _ _ bJsonrpc d b _ W hk (hvl W hb) hw
 have cM:=fun W d b (hb:Below w.heap.size w W) (hk:Tk d b W)=>ttext_any (.mk so on n t l ks) _ _ bMethod d b _ W hk (hvl W hb) hw
 have cI:=fun W g d b (hb:Below w.heap.size w W) (hk:Tk d b W) hs=>perhaps_any (.mk so on n t l ks) _ _ bId [2,3] g 0 2 d b _ W hk (hvl W hb) hw hs (by simp) (by simp)
 have cP:=fun W g d b (hb:Below w.heap.size w W) (hk:Tk d b W) hs=>perhaps_any (.mk so on n t l ks) _ _ bParams [5,4] g 0 2 d b _ W hk (hvl W hb) hw hs (by simp) (by simp)
 unfold MsgP
 rw [← need_msg]
 generalize rightTop (.mk so on n t l ks)=r at cR ⊢
 generalize isText (.mk so on n t l ks) [bJsonrpc]=x1 at cJ ⊢
 generalize textAt (.mk so on n t l ks) [bJsonrpc]=js at cJ ⊢
 generalize isText (.mk so on n t l ks) [bMethod]=x2 at cM ⊢
 generalize textAt (.mk so on n t l ks) [bMethod]=met at cM ⊢
 generalize badP (.mk so on n t l ks) bId [2,3]=x3 at cI ⊢
 generalize hasP (.mk so on n t l ks) [bId]=ask at cI ⊢
 generalize getZ (.mk so on n t l ks) [bId]=iv at cI ⊢
 generalize badP (.mk so on n t l ks) bParams [5,4]=x4 at cP ⊢
 generalize hasP (.mk so on n t l ks) [bParams]=pas at cP ⊢
 generalize getZ (.mk so on n t l ks) [bParams]=pv at cP ⊢
 obtain ⟨iso,ion,inn,itx,ilst,iks⟩:=iv
 obtain ⟨pso,pon,pnn,ptx,plst,pks⟩:=pv
 simp only [arg,six',six,strCell,bJsonrpc,bMethod,bId,bParams,bTwo,List.length_cons,List.length_nil,Nat.zero_add] at cR cJ cM cI cP ⊢
 clear hv hv0 hw hvl hE
 generalize l.length=m1 at cR cJ cM cI cP ⊢
 generalize ks.length=m2 at cR cJ cM cI cP ⊢
 obtain ⟨h1,h2,h3,h4⟩:=two w (.cells #[.int .i64 so,.bool on,.int .i64 n,.string ⟨t.toArray⟩,.slice a1 m1 c1,.slice a2 m2 c2] 36) (.cells #[.string ⟨#[]⟩,.int .i64 0,.bool false,.int .i64 0,.string ⟨#[]⟩,.slice none 0 0,.slice none 0 0,.int .i64 0,.bool false,.int .i64 0,.string ⟨#[]⟩,.slice none 0 0,.slice none 0 0,.bool false] 90)
 obtain ⟨W2,hW2⟩:∃ W2,(w.alloc (.cells #[.int .i64 so,.bool on,.int .i64 n,.string ⟨t.toArray⟩,.slice a1 m1 c1,.slice a2 m2 c2] 36)).alloc (.cells #[.string ⟨#[]⟩,.int .i64 0,.bool false,.int .i64 0,.string ⟨#[]⟩,.slice none 0 0,.slice none 0 0,.int .i64 0,.bool false,.int .i64 0,.string ⟨#[]⟩,.slice none 0 0,.slice none 0 0,.bool false] 90)=W2:=⟨_,rfl⟩
 rw [hW2] at h1 h2 h3 h4
 obtain ⟨⟨q0,q1,q2,q3,q4,q5⟩,qf⟩:=cells_six h1
 have hz2:w.heap.size+2≤W2.heap.size:=by omega
 have CR:=Lib.hid (cR W2 h3)
 have CJ:=Lib.hid cJ
 have CM:=Lib.hid cM
 have CI:=Lib.hid cI
 have CP:=Lib.hid cP
 have HB2:=Lib.hid h3
 have HX2:=Lib.hid h1
 have HR2:=Lib.hid (show Ms (w.heap.size+1) #[.string ⟨#[]⟩,.int .i64 0,.bool false,.int .i64 0,.string ⟨#[]⟩,.slice none 0 0,.slice none 0 0,.int .i64 0,.bool false,.int .i64 0,.string ⟨#[]⟩,.slice none 0 0,.slice none 0 0,.bool false] W2 from h2)
 clear h1 h2 h3 h4 cR cJ cM cI cP
 go_enter Tryz.func38,Tryz.ntmps38
 go_wp2_with fail
 refine CR.out.mono ?_
 rintro e w3 ⟨rfl,hb3⟩
 have hz3:=hb3.size
 have HX3:=Lib.hid ((hb3.block w.heap.size (by omega)).trans HX2.out)
 have HR3:=Lib.hid (show Ms (w.heap.size+1) #[.string ⟨#[]⟩,.int .i64 0,.bool false,.int .i64 0,.string ⟨#[]⟩,.slice none 0 0,.slice none 0 0,.int .i64 0,.bool false,.int .i64 0,.string ⟨#[]⟩,.slice none 0 0,.slice none 0 0,.bool false] w3 from (hb3.block (w.heap.size+1) (by omega)).trans HR2.out)
 have HB3:=Lib.hid (HB2.out.trans (hb3.mono HB2.out.size))
 clear q0 q1 q2 q3 q4 q5 qf hW2 CR HB2 HX2 HR2 hb3
 cases r with
 | false =>
  have j0:=HR3.out.cell 0
  have j1:=HR3.out.cell 1
  have j2:=HR3.out.cell 2
  have j3:=HR3.out.cell 3
  have j4:=HR3.out.cell 4
  have j5:=HR3.out.cell 5
  have j6:=HR3.out.cell 6
  have j7:=HR3.out.cell 7
  have j8:=HR3.out.cell 8
  have j9:=HR3.out.cell 9
  have j10:=HR3.out.cell 10
  have j11:=HR3.out.cell 11
  have j12:=HR3.out.cell 12
  have j13:=HR3.out.cell 13
  simp only [List.getElem?_toArray,List.getElem?_cons_zero,List.getElem?_cons_succ] at j0 j1 j2 j3 j4 j5 j6 j7 j8 j9 j10 j11 j12 j13
  have jf:=HR3.out.frozen
  have HBF:=Lib.hid (show Below w.heap.size w ((((((((((((((w3.setCell ⟨w.heap.size+1,0,none⟩ (.string ⟨#[]⟩)).setCell ⟨w.heap.size+1,1,none⟩ (.int .i64 0)).setCell ⟨w.heap.size+1,2,none⟩ (.bool false)).setCell ⟨w.heap.size+1,3,none⟩ (.int .i64 0)).setCell ⟨w.heap.size+1,4,none⟩ (.string ⟨#[]⟩)).setCell ⟨w.heap.size+1,5,none⟩ (.slice none 0 0)).setCell ⟨w.heap.size+1,6,none⟩ (.slice none 0 0)).setCell ⟨w.heap.size+1,7,none⟩ (.int .i64 0)).setCell ⟨w.heap.size+1,8,none⟩ (.bool false)).setCell ⟨w.heap.size+1,9,none⟩ (.int .i64 0)).setCell ⟨w.heap.size+1,10,none⟩ (.string ⟨#[]⟩)).setCell ⟨w.heap.size+1,11,none⟩ (.slice none 0 0)).setCell ⟨w.heap.size+1,12,none⟩ (.slice none 0 0)).setCell ⟨w.heap.size+1,13,none⟩ (.bool false)) from ((((((((((((((HB3.out.setCell (p:=⟨w.heap.size+1,0,none⟩) (Nat.le_succ _) _).setCell (p:=⟨w.heap.size+1,1,none⟩) (Nat.le_succ _) _).setCell (p:=⟨w.heap.size+1,2,none⟩) (Nat.le_succ _) _).setCell (p:=⟨w.heap.size+1,3,none⟩) (Nat.le_succ _) _).setCell (p:=⟨w.heap.size+1,4,none⟩) (Nat.le_succ _) _).setCell (p:=⟨w.heap.size+1,5,none⟩) (Nat.le_succ _) _).setCell (p:=⟨w.heap.size+1,6,none⟩) (Nat.le_succ _) _).setCell (p:=⟨w.heap.size+1,7,none⟩) (Nat.le_succ _) _).setCell (p:=⟨w.heap.size+1,8,none⟩) (Nat.le_succ _) _).setCell (p:=⟨w.heap.size+1,9,none⟩) (Nat.le_succ _) _).setCell (p:=⟨w.heap.size+1,10,none⟩) (Nat.le_succ _) _).setCell (p:=⟨w.heap.size+1,11,none⟩) (Nat.le_succ _) _).setCell (p:=⟨w.heap.size+1,12,none⟩) (Nat.le_succ _) _).setCell (p:=⟨w.heap.size+1,13,none⟩) (Nat.le_succ _) _))
  go_wp2_with fail
  refine bodyPost_ret (v:=.tuple #[.agg #[.string ⟨#[]⟩,.int .i64 0,.bool false,.int .i64 0,.string ⟨#[]⟩,.slice none 0 0,.slice none 0 0,.int .i64 0,.bool false,.int .i64 0,.string ⟨#[]⟩,.slice none 0 0,.slice none 0 0,.bool false],.bool false]) (by simp [results,Tryz.results38,go_sem,j0,j1,j2,j3,j4,j5,j6,j7,j8,j9,j10,j11,j12,j13]) rfl ?_
  exact ⟨HBF.out,by simp⟩
 | true =>
  obtain ⟨h1,h2,h3,h4⟩:=two w3 (.cells #[.bool false] 133) (.cells #[.string ⟨#[]⟩,.int .i64 0,.bool false,.int .i64 0,.string ⟨#[]⟩,.slice none 0 0,.slice none 0 0,.int .i64 0,.bool false,.int .i64 0,.string ⟨#[]⟩,.slice none 0 0,.slice none 0 0,.bool false] 90)
  obtain ⟨W5,hW5⟩:∃ W5,(w3.alloc (.cells #[.bool false] 133)).alloc (.cells #[.string ⟨#[]⟩,.int .i64 0,.bool false,.int .i64 0,.string ⟨#[]⟩,.slice none 0 0,.slice none 0 0,.int .i64 0,.bool false,.int .i64 0,.string ⟨#[]⟩,.slice none 0 0,.slice none 0 0,.bool false] 90)=W5:=⟨_,rfl⟩
  rw [hW5] at h1 h2 h3 h4
  have hz5:w3.heap.size+2≤W5.heap.size:=by omega
  have hB5:Below w.heap.size w W5:=HB3.out.trans (h3.mono HB3.out.size)
  have hX5:=(h3.block w.heap.size (by omega)).trans HX3.out
  have CJ5:=Lib.hid (CJ.out W5 w3.heap.size false hB5 h1)
  have HR5:=Lib.hid (show Ms (w.heap.size+1) #[.string ⟨#[]⟩,.int .i64 0,.bool false,.int .i64 0,.string ⟨#[]⟩,.slice none 0 0,.slice none 0 0,.int .i64 0,.bool false,.int .i64 0,.string ⟨#[]⟩,.slice none 0 0,.slice none 0 0,.bool false] W5 from (h3.block (w.heap.size+1) (by omega)).trans HR3.out)
  have HM5:=Lib.hid (show Ms (w3.heap.size+1) #[.string ⟨#[]⟩,.int .i64 0,.bool false,.int .i64 0,.string ⟨#[]⟩,.slice none 0 0,.slice none 0 0,.int .i64 0,.bool false,.int .i64 0,.string ⟨#[]⟩,.slice none 0 0,.slice none 0 0,.bool false] W5 from h2)
  have HB5:=Lib.hid hB5
  have HX5:=Lib.hid hX5
  obtain ⟨⟨q0,q1,q2,q3,q4,q5⟩,qf⟩:=cells_six hX5
  clear h1 h2 h3 h4 hB5 hX5 CJ HR3 HX3 HB3
  go_wp2_with fail
  refine CJ5.out.mono ?_
  rintro e w6 ⟨hk6,rfl⟩
  have hz6:=hk6.size
  have hX6:=(hk6.1.block w.heap.size (by omega) (by omega)).trans HX5.out
  have hB6:=hk6.below2 HB5.out (by omega) (by omega)
  have HR6:=Lib.hid (HR5.out.took hk6 (by omega))
  have HM6:=Lib.hid (HM5.out.took hk6 (by omega))
  have CM6:=Lib.hid (CM.out w6 w3.heap.size _ hB6 hk6.2)
  have HB6:=Lib.hid hB6
  have HX6:=Lib.hid hX6
  clear q0 q1 q2 q3 q4 q5 qf hW5 CJ5 HR5 HM5 HB5 HX5 hk6 hB6 CM
  obtain ⟨⟨q0,q1,q2,q3,q4,q5⟩,qf⟩:=cells_six hX6
  clear hX6
  go_wp2_with fail
  refine CM6.out.mono ?_
  rintro e w7 ⟨hk7,rfl⟩
  have hz7:=hk7.size
  have hX7:=(hk7.1.block w.heap.size (by omega) (by omega)).trans HX6.out
  have hB7:=hk7.below2 HB6.out (by omega) (by omega)
  have hR7:=HR6.out.took hk7 (by omega)
  have hM7:=HM6.out.took hk7 (by omega)
  have m0:=hM7.cell 0
  have m0f:=hM7.frozen 0
  simp only [List.getElem?_toArray,List.getElem?_cons_zero] at m0
  obtain ⟨W8,hW8⟩:∃ W8,w7.setCell ⟨w3.heap.size+1,0,none⟩ (.string ⟨met.toArray⟩)=W8:=⟨_,rfl⟩
  have far8:∀ k,k≠w3.heap.size+1→W8.heap[k]?=w7.heap[k]?:=fun k hk=>by rw [← hW8,Below.heap_setCell _ _ _ _ hk]
  have hM8:Ms (w3.heap.size+1) #[.string ⟨met.toArray⟩,.int .i64 0,.bool false,.int .i64 0,.string ⟨#[]⟩,.slice none 0 0,.slice none 0 0,.int .i64 0,.bool false,.int .i64 0,.string ⟨#[]⟩,.slice none 0 0,.slice none 0 0,.bool false] W8:=by rw [← hW8];exact hM7.set 0 _
  have hR8:Ms (w.heap.size+1) #[.string ⟨#[]⟩,.int .i64 0,.bool false,.int .i64 0,.string ⟨#[]⟩,.slice none 0 0,.slice none 0 0,.int .i64 0,.bool false,.int .i64 0,.string ⟨#[]⟩,.slice none 0 0,.slice none 0 0,.bool false] W8:=(far8 _ (by omega)).trans hR7
  have hX8:=(far8 w.heap.size (by omega)).trans hX7
  have hB8:Below w.heap.size w W8:=by rw [← hW8];exact hB7.setCell (p:=⟨w3.heap.size+1,0,none⟩) (by show w.heap.size≤w3.heap.size+1;omega) _
  have hT8:Tk (w3.heap.size) _ W8:=(far8 _ (by omega)).trans hk7.2
  have hz8:w7.heap.size≤W8.heap.size:=by rw [← hW8,sc_size];omega
  have CI8:=Lib.hid (CI.out (W8.alloc (.cells #[.int .i64 2,.int .i64 3] 22)) W8.heap.size w3.heap.size _ (hB8.alloc hB8.size _) (hT8.below ((Below.refl _ _).alloc (Nat.le_refl _) _)) (cells_of_block (heap_alloc_new W8 _)))
  have HR8:=Lib.hid (hR8.alloc (.cells #[.int .i64 2,.int .i64 3] 22))
  have HM8:=Lib.hid (hM8.alloc (.cells #[.int .i64 2,.int .i64 3] 22))
  have HB8:=Lib.hid (hB8.alloc hB8.size (.cells #[.int .i64 2,.int .i64 3] 22))
  have HX8:=Lib.hid ((Below.heap_alloc W8 (.cells #[.int .i64 2,.int .i64 3] 22) w.heap.size (by omega)).trans hX8)
  clear q0 q1 q2 q3 q4 q5 qf CM6 HR6 HM6 HB6 HX6 hk7 hX7 hB7 hR7 hM7 far8 hM8 hR8 hB8 hT8 CI
  obtain ⟨⟨q0,q1,q2,q3,q4,q5⟩,qf⟩:=cells_six hX8
  clear hX8
  go_wp2_with fail
  refine CI8.out.mono ?_
  rintro e w9 ⟨hk9,lv1,kv1,rfl,hv9⟩
  have hv9':=hv9
  obtain ⟨⟨i1,i2,rfl,_⟩,⟨i3,i4,rfl,_⟩⟩:=hv9'
  have hz9:=hk9.size
  simp only [World.size_alloc] at hz9 hv9
  have hX9:=(hk9.1.block w.heap.size (by simp;omega) (by omega)).trans HX8.out
  have hB9:=hk9.below2 HB8.out (by simp;omega) (by omega)
  have hR9:=HR8.out.took hk9 (by omega)
  have hM9:=HM8.out.took hk9 (by omega)
  have m1:=hM9.cell 1
  have m2:=hM9.cell 2
  have m3:=hM9.cell 3
  have m4:=hM9.cell 4
  have m5:=hM9.cell 5
  have m6:=hM9.cell 6
  have m13:=hM9.cell 13
  have mf:=hM9.frozen
  simp only [List.getElem?_toArray,List.getElem?_cons_zero,List.getElem?_cons_succ] at m1 m2 m3 m4 m5 m6 m13
  obtain ⟨W10,hW10⟩:∃ W10,((((((w9.setCell ⟨w3.heap.size+1,1,none⟩ (.int .i64 iso)).setCell ⟨w3.heap.size+1,2,none⟩ (.bool ion)).setCell ⟨w3.heap.size+1,3,none⟩ (.int .i64 inn)).setCell ⟨w3.heap.size+1,4,none⟩ (.string ⟨itx.toArray⟩)).setCell ⟨w3.heap.size+1,5,none⟩ (.slice i1 ilst.length i2)).setCell ⟨w3.heap.size+1,6,none⟩ (.slice i3 iks.length i4)).setCell ⟨w3.heap.size+1,13,none⟩ (.bool ask)=W10:=⟨_,rfl⟩
  have far10:∀ k,k≠w3.heap.size+1→W10.heap[k]?=w9.heap[k]?:=fun k hk=>by rw [← hW10,Below.heap_setCell _ _ _ _ hk,Below.heap_setCell _ _ _ _ hk,Below.heap_setCell _ _ _ _ hk,Below.heap_setCell _ _ _ _ hk,Below.heap_setCell _ _ _ _ hk,Below.heap_setCell _ _ _ _ hk,Below.heap_setCell _ _ _ _ hk]
  have hM10:Ms (w3.heap.size+1) #[.string ⟨met.toArray⟩,.int .i64 iso,.bool ion,.int .i64 inn,.string ⟨itx.toArray⟩,.slice i1 ilst.length i2,.slice i3 iks.length i4,.int .i64 0,.bool false,.int .i64 0,.string ⟨#[]⟩,.slice none 0 0,.slice none 0 0,.bool ask] W10:=by rw [← hW10];exact ((((((hM9.set 1 _).set 2 _).set 3 _).set 4 _).set 5 _).set 6 _).set 13 _
  have hR10:Ms (w.heap.size+1) #[.string ⟨#[]⟩,.int .i64 0,.bool false,.int .i64 0,.string ⟨#[]⟩,.slice none 0 0,.slice none 0 0,.int .i64 0,.bool false,.int .i64 0,.string ⟨#[]⟩,.slice none 0 0,.slice none 0 0,.bool false] W10:=(far10 _ (by omega)).trans hR9
  have hX10:=(far10 w.heap.size (by omega)).trans hX9
  have hz10:w9.heap.size≤W10.heap.size:=by rw [← hW10];simp only [sc_size];omega
  have hB10:Below w.heap.size w W10:=by
   have h7:=(((((((hB9.setCell (p:=⟨w3.heap.size+1,1,none⟩) (show w.heap.size≤w3.heap.size+1 by omega) (.int .i64 iso)).setCell (p:=⟨w3.heap.size+1,2,none⟩) (show w.heap.size≤w3.heap.size+1 by omega) (.bool ion)).setCell (p:=⟨w3.heap.size+1,3,none⟩) (show w.heap.size≤w3.heap.size+1 by omega) (.int .i64 inn)).setCell (p:=⟨w3.heap.size+1,4,none⟩) (show w.heap.size≤w3.heap.size+1 by omega) (.string ⟨itx.toArray⟩)).setCell (p:=⟨w3.heap.size+1,5,none⟩) (show w.heap.size≤w3.heap.size+1 by omega) (.slice i1 ilst.length i2)).setCell (p:=⟨w3.heap.size+1,6,none⟩) (show w.heap.size≤w3.heap.size+1 by omega) (.slice i3 iks.length i4)).setCell (p:=⟨w3.heap.size+1,13,none⟩) (show w.heap.size≤w3.heap.size+1 by omega) (.bool ask))
   rw [← hW10];exact h7
  have hT10:Tk (w3.heap.size) _ W10:=(far10 _ (by omega)).trans hk9.2
  have hv10:ValIn W10 (fun g=>w3.heap.size+2≤g) (.mk iso ion inn itx ilst iks) (.slice i1 ilst.length i2) (.slice i3 iks.length i4):=ValIn.later (fun g hg _=>far10 g (by omega)) (fun g hg=>by omega) _ _ _ hv9
  have CP10:=Lib.hid (CP.out (W10.alloc (.cells #[.int .i64 5,.int .i64 4] 22)) W10.heap.size w3.heap.size _ (hB10.alloc hB10.size _) (hT10.below ((Below.refl _ _).alloc (Nat.le_refl _) _)) (cells_of_block (heap_alloc_new W10 _)))
  have HR10:=Lib.hid (hR10.alloc (.cells #[.int .i64 5,.int .i64 4] 22))
  have HM10:=Lib.hid (hM10.alloc (.cells #[.int .i64 5,.int .i64 4] 22))
  have HB10:=Lib.hid (hB10.alloc hB10.size (.cells #[.int .i64 5,.int .i64 4] 22))
  have HV10:=Lib.hid (val_below hv10 ((Below.refl _ _).alloc (Nat.le_refl _) (.cells #[.int .i64 5,.int .i64 4] 22)))
  clear q0 q1 q2 q3 q4 q5 qf CI8 HR8 HM8 HB8 HX8 hk9 hX9 hB9 hR9 hM9 far10 hM10 hR10 hB10 hT10 CP hv9 hv10 hW8 m0 m0f
  obtain ⟨⟨q0,q1,q2,q3,q4,q5⟩,qf⟩:=cells_six hX10
  clear hX10
  go_wp2_with fail
  refine CP10.out.mono ?_
  rintro e w11 ⟨hk11,lv2,kv2,rfl,hv11⟩
  have hv11':=hv11
  obtain ⟨⟨p1,p2,rfl,_⟩,⟨p3,p4,rfl,_⟩⟩:=hv11'
  have hz11:=hk11.size
  simp only [World.size_alloc] at hz11 hv11
  have hB11:=hk11.below2 HB10.out (by simp;omega) (by omega)
  have hR11:=HR10.out.took hk11 (by omega)
  have hM11:=HM10.out.took hk11 (by omega)
  have hi11:=hk11.val HV10.out (fun g hg=>by omega)
  clear q0 q1 q2 q3 q4 q5 qf hW10 m1 m2 m3 m4 m5 m6 m13 mf
  have m7:=hM11.cell 7
  have m8:=hM11.cell 8
  have m9:=hM11.cell 9
  have m10:=hM11.cell 10
  have m11:=hM11.cell 11
  have m12:=hM11.cell 12
  have mf:=hM11.frozen
  simp only [List.getElem?_toArray,List.getElem?_cons_zero,List.getElem?_cons_succ] at m7 m8 m9 m10 m11 m12
  obtain ⟨W12,hW12⟩:∃ W12,((((((w11.setCell ⟨w3.heap.size+1,7,none⟩ (.int .i64 pso)).setCell ⟨w3.heap.size+1,8,none⟩ (.bool pon)).setCell ⟨w3.heap.size+1,9,none⟩ (.int .i64 pnn)).setCell ⟨w3.heap.size+1,10,none⟩ (.string ⟨ptx.toArray⟩)).setCell ⟨w3.heap.size+1,11,none⟩ (.slice p1 plst.length p2)).setCell ⟨w3.heap.size+1,12,none⟩ (.slice p3 pks.length p4))=W12:=⟨_,rfl⟩
  have far12:∀ k,k≠w3.heap.size+1→W12.heap[k]?=w11.heap[k]?:=fun k hk=>by rw [← hW12,Below.heap_setCell _ _ _ _ hk,Below.heap_setCell _ _ _ _ hk,Below.heap_setCell _ _ _ _ hk,Below.heap_setCell _ _ _ _ hk,Below.heap_setCell _ _ _ _ hk,Below.heap_setCell _ _ _ _ hk]
  have hM12:Ms (w3.heap.size+1) #[.string ⟨met.toArray⟩,.int .i64 iso,.bool ion,.int .i64 inn,.string ⟨itx.toArray⟩,.slice i1 ilst.length i2,.slice i3 iks.length i4,.int .i64 pso,.bool pon,.int .i64 pnn,.string ⟨ptx.toArray⟩,.slice p1 plst.length p2,.slice p3 pks.length p4,.bool ask] W12:=by rw [← hW12];exact (((((hM11.set 7 _).set 8 _).set 9 _).set 10 _).set 11 _).set 12 _
  have hR12:Ms (w.heap.size+1) #[.string ⟨#[]⟩,.int .i64 0,.bool false,.int .i64 0,.string ⟨#[]⟩,.slice none 0 0,.slice none 0 0,.int .i64 0,.bool false,.int .i64 0,.string ⟨#[]⟩,.slice none 0 0,.slice none 0 0,.bool false] W12:=(far12 _ (by omega)).trans hR11
  have hB12:Below w.heap.size w W12:=by
   have h7:=((((((hB11.setCell (p:=⟨w3.heap.size+1,7,none⟩) (show w.heap.size≤w3.heap.size+1 by omega) (.int .i64 pso)).setCell (p:=⟨w3.heap.size+1,8,none⟩) (show w.heap.size≤w3.heap.size+1 by omega) (.bool pon)).setCell (p:=⟨w3.heap.size+1,9,none⟩) (show w.heap.size≤w3.heap.size+1 by omega) (.int .i64 pnn)).setCell (p:=⟨w3.heap.size+1,10,none⟩) (show w.heap.size≤w3.heap.size+1 by omega) (.string ⟨ptx.toArray⟩)).setCell (p:=⟨w3.heap.size+1,11,none⟩) (show w.heap.size≤w3.heap.size+1 by omega) (.slice p1 plst.length p2)).setCell (p:=⟨w3.heap.size+1,12,none⟩) (show w.heap.size≤w3.heap.size+1 by omega) (.slice p3 pks.length p4))
   rw [← hW12];exact h7
  have hT12:Tk (w3.heap.size) _ W12:=(far12 _ (by omega)).trans hk11.2
  have hi12:ValIn W12 (fun g=>w3.heap.size+2≤g) (.mk iso ion inn itx ilst iks) (.slice i1 ilst.length i2) (.slice i3 iks.length i4):=ValIn.later (fun g hg _=>far12 g (by omega)) (fun g hg=>hg) _ _ _ hi11
  have hp12:ValIn W12 (fun g=>w3.heap.size+2≤g) (.mk pso pon pnn ptx plst pks) (.slice p1 plst.length p2) (.slice p3 pks.length p4):=ValIn.later (fun g hg _=>far12 g (by omega)) (fun g hg=>by omega) _ _ _ hv11
  have n0:=hM12.cell 0
  have j0:=hR12.cell 0
  have n1:=hM12.cell 1
  have j1:=hR12.cell 1
  have n2:=hM12.cell 2
  have j2:=hR12.cell 2
  have n3:=hM12.cell 3
  have j3:=hR12.cell 3
  have n4:=hM12.cell 4
  have j4:=hR12.cell 4
  have n5:=hM12.cell 5
  have j5:=hR12.cell 5
  have n6:=hM12.cell 6
  have j6:=hR12.cell 6
  have n7:=hM12.cell 7
  have j7:=hR12.cell 7
  have n8:=hM12.cell 8
  have j8:=hR12.cell 8
  have n9:=hM12.cell 9
  have j9:=hR12.cell 9
  have n10:=hM12.cell 10
  have j10:=hR12.cell 10
  have n11:=hM12.cell 11
  have j11:=hR12.cell 11
  have n12:=hM12.cell 12
  have j12:=hR12.cell 12
  have n13:=hM12.cell 13
  have j13:=hR12.cell 13
  have jf:=hR12.frozen
  have t0:=hT12.c0
  simp only [List.getElem?_toArray,List.getElem?_cons_zero,List.getElem?_cons_succ] at n0 j0 n1 j1 n2 j2 n3 j3 n4 j4 n5 j5 n6 j6 n7 j7 n8 j8 n9 j9 n10 j10 n11 j11 n12 j12 n13 j13
  obtain ⟨WF,hWF⟩:∃ WF,((((((((((((((W12.setCell ⟨w.heap.size+1,0,none⟩ (.string ⟨met.toArray⟩)).setCell ⟨w.heap.size+1,1,none⟩ (.int .i64 iso)).setCell ⟨w.heap.size+1,2,none⟩ (.bool ion)).setCell ⟨w.heap.size+1,3,none⟩ (.int .i64 inn)).setCell ⟨w.heap.size+1,4,none⟩ (.string ⟨itx.toArray⟩)).setCell ⟨w.heap.size+1,5,none⟩ (.slice i1 ilst.length i2)).setCell ⟨w.heap.size+1,6,none⟩ (.slice i3 iks.length i4)).setCell ⟨w.heap.size+1,7,none⟩ (.int .i64 pso)).setCell ⟨w.heap.size+1,8,none⟩ (.bool pon)).setCell ⟨w.heap.size+1,9,none⟩ (.int .i64 pnn)).setCell ⟨w.heap.size+1,10,none⟩ (.string ⟨ptx.toArray⟩)).setCell ⟨w.heap.size+1,11,none⟩ (.slice p1 plst.length p2)).setCell ⟨w.heap.size+1,12,none⟩ (.slice p3 pks.length p4)).setCell ⟨w.heap.size+1,13,none⟩ (.bool ask))=WF:=⟨_,rfl⟩
  have farF:∀ k,k≠w.heap.size+1→WF.heap[k]?=W12.heap[k]?:=fun k hk=>by rw [← hWF,Below.heap_setCell _ _ _ _ hk,Below.heap_setCell _ _ _ _ hk,Below.heap_setCell _ _ _ _ hk,Below.heap_setCell _ _ _ _ hk,Below.heap_setCell _ _ _ _ hk,Below.heap_setCell _ _ _ _ hk,Below.heap_setCell _ _ _ _ hk,Below.heap_setCell _ _ _ _ hk,Below.heap_setCell _ _ _ _ hk,Below.heap_setCell _ _ _ _ hk,Below.heap_setCell _ _ _ _ hk,Below.heap_setCell _ _ _ _ hk,Below.heap_setCell _ _ _ _ hk,Below.heap_setCell _ _ _ _ hk]
  have hBF:Below w.heap.size w WF:=by
   have h7:=((((((((((((((hB12.setCell (p:=⟨w.heap.size+1,0,none⟩) (Nat.le_succ _) (.string ⟨met.toArray⟩)).setCell (p:=⟨w.heap.size+1,1,none⟩) (Nat.le_succ _) (.int .i64 iso)).setCell (p:=⟨w.heap.size+1,2,none⟩) (Nat.le_succ _) (.bool ion)).setCell (p:=⟨w.heap.size+1,3,none⟩) (Nat.le_succ _) (.int .i64 inn)).setCell (p:=⟨w.heap.size+1,4,none⟩) (Nat.le_succ _) (.string ⟨itx.toArray⟩)).setCell (p:=⟨w.heap.size+1,5,none⟩) (Nat.le_succ _) (.slice i1 ilst.length i2)).setCell (p:=⟨w.heap.size+1,6,none⟩) (Nat.le_succ _) (.slice i3 iks.length i4)).setCell (p:=⟨w.heap.size+1,7,none⟩) (Nat.le_succ _) (.int .i64 pso)).setCell (p:=⟨w.heap.size+1,8,none⟩) (Nat.le_succ _) (.bool pon)).setCell (p:=⟨w.heap.size+1,9,none⟩) (Nat.le_succ _) (.int .i64 pnn)).setCell (p:=⟨w.heap.size+1,10,none⟩) (Nat.le_succ _) (.string ⟨ptx.toArray⟩)).setCell (p:=⟨w.heap.size+1,11,none⟩) (Nat.le_succ _) (.slice p1 plst.length p2)).setCell (p:=⟨w.heap.size+1,12,none⟩) (Nat.le_succ _) (.slice p3 pks.length p4)).setCell (p:=⟨w.heap.size+1,13,none⟩) (Nat.le_succ _) (.bool ask))
   rw [← hWF];exact h7
  have g1:Ms (w.heap.size+1) #[.string ⟨met.toArray⟩,.int .i64 0,.bool false,.int .i64 0,.string ⟨#[]⟩,.slice none 0 0,.slice none 0 0,.int .i64 0,.bool false,.int .i64 0,.string ⟨#[]⟩,.slice none 0 0,.slice none 0 0,.bool false] (W12.setCell ⟨w.heap.size+1,0,none⟩ (.string ⟨met.toArray⟩)):=hR12.set 0 _
  have g2:Ms (w.heap.size+1) #[.string ⟨met.toArray⟩,.int .i64 iso,.bool false,.int .i64 0,.string ⟨#[]⟩,.slice none 0 0,.slice none 0 0,.int .i64 0,.bool false,.int .i64 0,.string ⟨#[]⟩,.slice none 0 0,.slice none 0 0,.bool false] ((W12.setCell ⟨w.heap.size+1,0,none⟩ (.string ⟨met.toArray⟩)).setCell ⟨w.heap.size+1,1,none⟩ (.int .i64 iso)):=g1.set 1 _
  have g3:Ms (w.heap.size+1) #[.string ⟨met.toArray⟩,.int .i64 iso,.bool ion,.int .i64 0,.string ⟨#[]⟩,.slice none 0 0,.slice none 0 0,.int .i64 0,.bool false,.int .i64 0,.string ⟨#[]⟩,.slice none 0 0,.slice none 0 0,.bool false] (((W12.setCell ⟨w.heap.size+1,0,none⟩ (.string ⟨met.toArray⟩)).setCell ⟨w.heap.size+1,1,none⟩ (.int .i64 iso)).setCell ⟨w.heap.size+1,2,none⟩ (.bool ion)):=g2.set 2 _
  have g4:Ms (w.heap.size+1) #[.string ⟨met.toArray⟩,.int .i64 iso,.bool ion,.int .i64 inn,.string ⟨#[]⟩,.slice none 0 0,.slice none 0 0,.int .i64 0,.bool false,.int .i64 0,.string ⟨#[]⟩,.slice none 0 0,.slice none 0 0,.bool false] ((((W12.setCell ⟨w.heap.size+1,0,none⟩ (.string ⟨met.toArray⟩)).setCell ⟨w.heap.size+1,1,none⟩ (.int .i64 iso)).setCell ⟨w.heap.size+1,2,none⟩ (.bool ion)).setCell ⟨w.heap.size+1,3,none⟩ (.int .i64 inn)):=g3.set 3 _
  have g5:Ms (w.heap.size+1) #[.string ⟨met.toArray⟩,.int .i64 iso,.bool ion,.int .i64 inn,.string ⟨itx.toArray⟩,.slice none 0 0,.slice none 0 0,.int .i64 0,.bool false,.int .i64 0,.string ⟨#[]⟩,.slice none 0 0,.slice none 0 0,.bool false] (((((W12.setCell ⟨w.heap.size+1,0,none⟩ (.string ⟨met.toArray⟩)).setCell ⟨w.heap.size+1,1,none⟩ (.int .i64 iso)).setCell ⟨w.heap.size+1,2,none⟩ (.bool ion)).setCell ⟨w.heap.size+1,3,none⟩ (.int .i64 inn)).setCell ⟨w.heap.size+1,4,none⟩ (.string ⟨itx.toArray⟩)):=g4.set 4 _
  have g6:Ms (w.heap.size+1) #[.string ⟨met.toArray⟩,.int .i64 iso,.bool ion,.int .i64 inn,.string ⟨itx.toArray⟩,.slice i1 ilst.length i2,.slice none 0 0,.int .i64 0,.bool false,.int .i64 0,.string ⟨#[]⟩,.slice none 0 0,.slice none 0 0,.bool false] ((((((W12.setCell ⟨w.heap.size+1,0,none⟩ (.string ⟨met.toArray⟩)).setCell ⟨w.heap.size+1,1,none⟩ (.int .i64 iso)).setCell ⟨w.heap.size+1,2,none⟩ (.bool ion)).setCell ⟨w.heap.size+1,3,none⟩ (.int .i64 inn)).setCell ⟨w.heap.size+1,4,none⟩ (.string ⟨itx.toArray⟩)).setCell ⟨w.heap.size+1,5,none⟩ (.slice i1 ilst.length i2)):=g5.set 5 _
  have g7:Ms (w.heap.size+1) #[.string ⟨met.toArray⟩,.int .i64 iso,.bool ion,.int .i64 inn,.string ⟨itx.toArray⟩,.slice i1 ilst.length i2,.slice i3 iks.length i4,.int .i64 0,.bool false,.int .i64 0,.string ⟨#[]⟩,.slice none 0 0,.slice none 0 0,.bool false] (((((((W12.setCell ⟨w.heap.size+1,0,none⟩ (.string ⟨met.toArray⟩)).setCell ⟨w.heap.size+1,1,none⟩ (.int .i64 iso)).setCell ⟨w.heap.size+1,2,none⟩ (.bool ion)).setCell ⟨w.heap.size+1,3,none⟩ (.int .i64 inn)).setCell ⟨w.heap.size+1,4,none⟩ (.string ⟨itx.toArray⟩)).setCell ⟨w.heap.size+1,5,none⟩ (.slice i1 ilst.length i2)).setCell ⟨w.heap.size+1,6,none⟩ (.slice i3 iks.length i4)):=g6.set 6 _
  have g8:Ms (w.heap.size+1) #[.string ⟨met.toArray⟩,.int .i64 iso,.bool ion,.int .i64 inn,.string ⟨itx.toArray⟩,.slice i1 ilst.length i2,.slice i3 iks.length i4,.int .i64 pso,.bool false,.int .i64 0,.string ⟨#[]⟩,.slice none 0 0,.slice none 0 0,.bool false] ((((((((W12.setCell ⟨w.heap.size+1,0,none⟩ (.string ⟨met.toArray⟩)).setCell ⟨w.heap.size+1,1,none⟩ (.int .i64 iso)).setCell ⟨w.heap.size+1,2,none⟩ (.bool ion)).setCell ⟨w.heap.size+1,3,none⟩ (.int .i64 inn)).setCell ⟨w.heap.size+1,4,none⟩ (.string ⟨itx.toArray⟩)).setCell ⟨w.heap.size+1,5,none⟩ (.slice i1 ilst.length i2)).setCell ⟨w.heap.size+1,6,none⟩ (.slice i3 iks.length i4)).setCell ⟨w.heap.size+1,7,none⟩ (.int .i64 pso)):=g7.set 7 _
  have g9:Ms (w.heap.size+1) #[.string ⟨met.toArray⟩,.int .i64 iso,.bool ion,.int .i64 inn,.string ⟨itx.toArray⟩,.slice i1 ilst.length i2,.slice i3 iks.length i4,.int .i64 pso,.bool pon,.int .i64 0,.string ⟨#[]⟩,.slice none 0 0,.slice none 0 0,.bool false] (((((((((W12.setCell ⟨w.heap.size+1,0,none⟩ (.string ⟨met.toArray⟩)).setCell ⟨w.heap.size+1,1,none⟩ (.int .i64 iso)).setCell ⟨w.heap.size+1,2,none⟩ (.bool ion)).setCell ⟨w.heap.size+1,3,none⟩ (.int .i64 inn)).setCell ⟨w.heap.size+1,4,none⟩ (.string ⟨itx.toArray⟩)).setCell ⟨w.heap.size+1,5,none⟩ (.slice i1 ilst.length i2)).setCell ⟨w.heap.size+1,6,none⟩ (.slice i3 iks.length i4)).setCell ⟨w.heap.size+1,7,none⟩ (.int .i64 pso)).setCell ⟨w.heap.size+1,8,none⟩ (.bool pon)):=g8.set 8 _
  have g10:Ms (w.heap.size+1) #[.string ⟨met.toArray⟩,.int .i64 iso,.bool ion,.int .i64 inn,.string ⟨itx.toArray⟩,.slice i1 ilst.length i2,.slice i3 iks.length i4,.int .i64 pso,.bool pon,.int .i64 pnn,.string ⟨#[]⟩,.slice none 0 0,.slice none 0 0,.bool false] ((((((((((W12.setCell ⟨w.heap.size+1,0,none⟩ (.string ⟨met.toArray⟩)).setCell ⟨w.heap.size+1,1,none⟩ (.int .i64 iso)).setCell ⟨w.heap.size+1,2,none⟩ (.bool ion)).setCell ⟨w.heap.size+1,3,none⟩ (.int .i64 inn)).setCell ⟨w.heap.size+1,4,none⟩ (.string ⟨itx.toArray⟩)).setCell ⟨w.heap.size+1,5,none⟩ (.slice i1 ilst.length i2)).setCell ⟨w.heap.size+1,6,none⟩ (.slice i3 iks.length i4)).setCell ⟨w.heap.size+1,7,none⟩ (.int .i64 pso)).setCell ⟨w.heap.size+1,8,none⟩ (.bool pon)).setCell ⟨w.heap.size+1,9,none⟩ (.int .i64 pnn)):=g9.set 9 _
  have g11:Ms (w.heap.size+1) #[.string ⟨met.toArray⟩,.int .i64 iso,.bool ion,.int .i64 inn,.string ⟨itx.toArray⟩,.slice i1 ilst.length i2,.slice i3 iks.length i4,.int .i64 pso,.bool pon,.int .i64 pnn,.string ⟨ptx.toArray⟩,.slice none 0 0,.slice none 0 0,.bool false] (((((((((((W12.setCell ⟨w.heap.size+1,0,none⟩ (.string ⟨met.toArray⟩)).setCell ⟨w.heap.size+1,1,none⟩ (.int .i64 iso)).setCell ⟨w.heap.size+1,2,none⟩ (.bool ion)).setCell ⟨w.heap.size+1,3,none⟩ (.int .i64 inn)).setCell ⟨w.heap.size+1,4,none⟩ (.string ⟨itx.toArray⟩)).setCell ⟨w.heap.size+1,5,none⟩ (.slice i1 ilst.length i2)).setCell ⟨w.heap.size+1,6,none⟩ (.slice i3 iks.length i4)).setCell ⟨w.heap.size+1,7,none⟩ (.int .i64 pso)).setCell ⟨w.heap.size+1,8,none⟩ (.bool pon)).setCell ⟨w.heap.size+1,9,none⟩ (.int .i64 pnn)).setCell ⟨w.heap.size+1,10,none⟩ (.string ⟨ptx.toArray⟩)):=g10.set 10 _
  have g12:Ms (w.heap.size+1) #[.string ⟨met.toArray⟩,.int .i64 iso,.bool ion,.int .i64 inn,.string ⟨itx.toArray⟩,.slice i1 ilst.length i2,.slice i3 iks.length i4,.int .i64 pso,.bool pon,.int .i64 pnn,.string ⟨ptx.toArray⟩,.slice p1 plst.length p2,.slice none 0 0,.bool false] ((((((((((((W12.setCell ⟨w.heap.size+1,0,none⟩ (.string ⟨met.toArray⟩)).setCell ⟨w.heap.size+1,1,none⟩ (.int .i64 iso)).setCell ⟨w.heap.size+1,2,none⟩ (.bool ion)).setCell ⟨w.heap.size+1,3,none⟩ (.int .i64 inn)).setCell ⟨w.heap.size+1,4,none⟩ (.string ⟨itx.toArray⟩)).setCell ⟨w.heap.size+1,5,none⟩ (.slice i1 ilst.length i2)).setCell ⟨w.heap.size+1,6,none⟩ (.slice i3 iks.length i4)).setCell ⟨w.heap.size+1,7,none⟩ (.int .i64 pso)).setCell ⟨w.heap.size+1,8,none⟩ (.bool pon)).setCell ⟨w.heap.size+1,9,none⟩ (.int .i64 pnn)).setCell ⟨w.heap.size+1,10,none⟩ (.string ⟨ptx.toArray⟩)).setCell ⟨w.heap.size+1,11,none⟩ (.slice p1 plst.length p2)):=g11.set 11 _
  have g13:Ms (w.heap.size+1) #[.string ⟨met.toArray⟩,.int .i64 iso,.bool ion,.int .i64 inn,.string ⟨itx.toArray⟩,.slice i1 ilst.length i2,.slice i3 iks.length i4,.int .i64 pso,.bool pon,.int .i64 pnn,.string ⟨ptx.toArray⟩,.slice p1 plst.length p2,.slice p3 pks.length p4,.bool false] (((((((((((((W12.setCell ⟨w.heap.size+1,0,none⟩ (.string ⟨met.toArray⟩)).setCell ⟨w.heap.size+1,1,none⟩ (.int .i64 iso)).setCell ⟨w.heap.size+1,2,none⟩ (.bool ion)).setCell ⟨w.heap.size+1,3,none⟩ (.int .i64 inn)).setCell ⟨w.heap.size+1,4,none⟩ (.string ⟨itx.toArray⟩)).setCell ⟨w.heap.size+1,5,none⟩ (.slice i1 ilst.length i2)).setCell ⟨w.heap.size+1,6,none⟩ (.slice i3 iks.length i4)).setCell ⟨w.heap.size+1,7,none⟩ (.int .i64 pso)).setCell ⟨w.heap.size+1,8,none⟩ (.bool pon)).setCell ⟨w.heap.size+1,9,none⟩ (.int .i64 pnn)).setCell ⟨w.heap.size+1,10,none⟩ (.string ⟨ptx.toArray⟩)).setCell ⟨w.heap.size+1,11,none⟩ (.slice p1 plst.length p2)).setCell ⟨w.heap.size+1,12,none⟩ (.slice p3 pks.length p4)):=g12.set 12 _
  have g14:Ms (w.heap.size+1) #[.string ⟨met.toArray⟩,.int .i64 iso,.bool ion,.int .i64 inn,.string ⟨itx.toArray⟩,.slice i1 ilst.length i2,.slice i3 iks.length i4,.int .i64 pso,.bool pon,.int .i64 pnn,.string ⟨ptx.toArray⟩,.slice p1 plst.length p2,.slice p3 pks.length p4,.bool ask] ((((((((((((((W12.setCell ⟨w.heap.size+1,0,none⟩ (.string ⟨met.toArray⟩)).setCell ⟨w.heap.size+1,1,none⟩ (.int .i64 iso)).setCell ⟨w.heap.size+1,2,none⟩ (.bool ion)).setCell ⟨w.heap.size+1,3,none⟩ (.int .i64 inn)).setCell ⟨w.heap.size+1,4,none⟩ (.string ⟨itx.toArray⟩)).setCell ⟨w.heap.size+1,5,none⟩ (.slice i1 ilst.length i2)).setCell ⟨w.heap.size+1,6,none⟩ (.slice i3 iks.length i4)).setCell ⟨w.heap.size+1,7,none⟩ (.int .i64 pso)).setCell ⟨w.heap.size+1,8,none⟩ (.bool pon)).setCell ⟨w.heap.size+1,9,none⟩ (.int .i64 pnn)).setCell ⟨w.heap.size+1,10,none⟩ (.string ⟨ptx.toArray⟩)).setCell ⟨w.heap.size+1,11,none⟩ (.slice p1 plst.length p2)).setCell ⟨w.heap.size+1,12,none⟩ (.slice p3 pks.length p4)).setCell ⟨w.heap.size+1,13,none⟩ (.bool ask)):=g13.set 13 _
  have hRF:Ms (w.heap.size+1) #[.string ⟨met.toArray⟩,.int .i64 iso,.bool ion,.int .i64 inn,.string ⟨itx.toArray⟩,.slice i1 ilst.length i2,.slice i3 iks.length i4,.int .i64 pso,.bool pon,.int .i64 pnn,.string ⟨ptx.toArray⟩,.slice p1 plst.length p2,.slice p3 pks.length p4,.bool ask] WF:=by rw [← hWF];exact g14
  clear g1 g2 g3 g4 g5 g6 g7 g8 g9 g10 g11 g12 g13 g14
  have f0:=hRF.cell 0
  have f1:=hRF.cell 1
  have f2:=hRF.cell 2
  have f3:=hRF.cell 3
  have f4:=hRF.cell 4
  have f5:=hRF.cell 5
  have f6:=hRF.cell 6
  have f7:=hRF.cell 7
  have f8:=hRF.cell 8
  have f9:=hRF.cell 9
  have f10:=hRF.cell 10
  have f11:=hRF.cell 11
  have f12:=hRF.cell 12
  have f13:=hRF.cell 13
  simp only [List.getElem?_toArray,List.getElem?_cons_zero,List.getElem?_cons_succ] at f0 f1 f2 f3 f4 f5 f6 f7 f8 f9 f10 f11 f12 f13
  have HBF:=Lib.hid hBF
  have HIF:=Lib.hid (show ValIn WF (fun g=>w.heap.size≤g) (.mk iso ion inn itx ilst iks) (.slice i1 ilst.length i2) (.slice i3 iks.length i4) from ValIn.later (fun g hg _=>farF g (by omega)) (fun g hg=>by omega) _ _ _ hi12)
  have HPF:=Lib.hid (show ValIn WF (fun g=>w.heap.size≤g) (.mk pso pon pnn ptx plst pks) (.slice p1 plst.length p2) (.slice p3 pks.length p4) from ValIn.later (fun g hg _=>farF g (by omega)) (fun g hg=>by omega) _ _ _ hp12)
  clear CP10 HR10 HM10 HB10 HV10 hk11 hB11 hR11 hM11 hi11 far12 hM12 hR12 hB12 hT12 hi12 hp12 farF hBF hv11
  clear hRF
  go_wp2_with fail
  ·refine bodyPost_ret (v:=.tuple #[.agg #[.string ⟨met.toArray⟩,.int .i64 iso,.bool ion,.int .i64 inn,.string ⟨itx.toArray⟩,.slice i1 ilst.length i2,.slice i3 iks.length i4,.int .i64 pso,.bool pon,.int .i64 pnn,.string ⟨ptx.toArray⟩,.slice p1 plst.length p2,.slice p3 pks.length p4,.bool ask],.bool (js==[50,46,48])]) (by simp [results,Tryz.results38,go_sem,f0,f1,f2,f3,f4,f5,f6,f7,f8,f9,f10,f11,f12,f13]) rfl ?_
   refine ⟨HBF.out,.slice i1 ilst.length i2,.slice i3 iks.length i4,.slice p1 plst.length p2,.slice p3 pks.length p4,?_,HIF.out,HPF.out⟩
   simp
  ·refine bodyPost_ret (v:=.tuple #[.agg #[.string ⟨met.toArray⟩,.int .i64 iso,.bool ion,.int .i64 inn,.string ⟨itx.toArray⟩,.slice i1 ilst.length i2,.slice i3 iks.length i4,.int .i64 pso,.bool pon,.int .i64 pnn,.string ⟨ptx.toArray⟩,.slice p1 plst.length p2,.slice p3 pks.length p4,.bool ask],.bool false]) (by simp [results,Tryz.results38,go_sem,f0,f1,f2,f3,f4,f5,f6,f7,f8,f9,f10,f11,f12,f13]) rfl ?_
   refine ⟨HBF.out,.slice i1 ilst.length i2,.slice i3 iks.length i4,.slice p1 plst.length p2,.slice p3 pks.length p4,?_,HIF.out,HPF.out⟩
   rename_i hfl
   have e:(((x1&&x2)&&!x3)&&!x4)=false:=by
    revert hfl
    cases x1 <;> cases x2 <;> cases x3 <;> cases x4 <;> simp
   simp only [e,Bool.false_and]
end Go.Proofs.YtpbnhnilfpoljaaGreatDoor.M
namespace Go.Proofs.YtpbnhnilfpoljaaGreatDoor.M
open Go.RowKit
open Go.Lib Go.Proofs.YtpbnhnilfpoljaaGreatDoor.V
theorem wpList_buildV {P:Program} {w:World} {ops:Array Oper} {rest:List Oper} {o:Oper} {a:Act} {Q:Exit→Act→World→Prop} (hgd:o.guard=none) (t:TypeId) (l:List (Nat × Operand)) (ho:o.op=.build t l.toArray) (v:Value)
  (hr:(Instr.build t (l.map fun p=>(p.1,a.eval p.2)).toArray).run P w=.ok v w) (h:wpList P ops Q rest (a.put o.dst v) w):wpList P ops Q (o :: rest) a w:=by
 refine wpList_plain hgd fun K hK=>?_
 unfold Oper.wp
 have e:(l.toArray.map fun p=>(p.1,a.eval p.2))=(l.map fun p=>(p.1,a.eval p.2)).toArray:=by simp
 have hr':(Instr.build t (l.toArray.map fun p=>(p.1,a.eval p.2))).run P w=.ok v w:=by rw [e];exact hr
 unfold execOp
 rw [ho]
 simp only [Sem.run_bind,hr',Result.andThen_ok]
 exact hK _ _ h
theorem wpList_storeV {P:Program} {w:World} {ops:Array Oper} {rest:List Oper} {o:Oper} {a:Act} {Q:Exit→Act→World→Prop} (hgd:o.guard=none) (hd:o.dst=none) (t:TypeId) (x y:Operand) (ho:o.op=.store t x y) (w':World)
  (hr:(Instr.storeAt t (a.eval x) (a.eval y)).run P w=.ok () w') (h:wpList P ops Q rest a w'):wpList P ops Q (o :: rest) a w:=by
 refine wpList_plain hgd fun K hK=>?_
 unfold Oper.wp
 have e:a.put o.dst undef=a:=by rw [hd];rfl
 simp [execOp,ho,hr,Result.andThen]
 exact hK _ _ (by rw [e];exact h)
theorem run_loadRow {P:Program} {W:World} {g:Nat} {t ty:TypeId} {cs:Array Value} {d:TypeDesc} (hg:W.heap[g]?=some (.cells cs t (0,0)))
  (hu:P.underlying ty=some d) (hd:(match d with|.struct _|.array _ _=>true|_=>false)=true) (hi:(P.info? ty).map (·.size)=some cs.size) :
  (Instr.loadAt ty (.pointer (some ⟨g,0,none⟩))).run P W=.ok (.agg cs) W:=by
 simp only [Instr.loadAt,Instr.sureAddr,Sem.run_bind,Sem.run_pure,Result.andThen_ok,run_loadVar_row W g t ty cs (0,0) d hg hu hd hi]
theorem run_storeRow {P:Program} {W:World} {g:Nat} {t ty:TypeId} {old cs:Array Value} (hg:W.heap[g]?=some (.cells old t (0,0)))
  (hi:(P.info? ty).map (·.size)=some cs.size) (ho:old.size=cs.size) (h1:cs.all (·.oneCell')=true) :
  (Instr.storeAt ty (.pointer (some ⟨g,0,none⟩)) (.agg cs)).run P W=.ok () (W.setRow g cs):=by
 simp only [Instr.storeAt,Instr.sureAddr,Sem.run_bind,Sem.run_pure,Result.andThen_ok,run_storeVar_row W g t ty old cs hg hi ho h1]
theorem Below.setRow' {B g:Nat} {w W:World} (h:Below B w W) (hg:B≤g) (cs:Array Value):Below B w (W.setRow g cs) :=
 h.trans ⟨rfl,rfl,rfl,by simp,fun k hk=>setRow_other _ _ _ _ (by omega)⟩
def Cs (q:Nat) (cs:Array Value) (W:World):Prop:=W.heap[q]?=some (.cells cs 43 (0,0))
theorem Cs.lt {q:Nat} {cs:Array Value} {W:World} (h:Cs q cs W):q<W.heap.size:=(Array.getElem?_eq_some_iff.1 h).1
theorem Cs.took {q d:Nat} {b:Bool} {cs:Array Value} {W W':World} (h:Cs q cs W) (hk:Took d b W W') (hq:q≠d):Cs q cs W':=(hk.1.block q h.lt hq).trans h
theorem Cs.below {q:Nat} {cs:Array Value} {W W':World} (h:Cs q cs W) (hb:Below W.heap.size W W'):Cs q cs W':=(hb.block q h.lt).trans h
theorem Cs.alloc {q:Nat} {cs:Array Value} {W:World} (h:Cs q cs W) (ob:Obj):Cs q cs (W.alloc ob):=(Below.heap_alloc W ob q h.lt).trans h
theorem Cs.set {q:Nat} {cs:Array Value} {W:World} (h:Cs q cs W) (i:Nat) (v:Value):Cs q (cs.setIfInBounds i v) (W.setCell ⟨q,i,none⟩ v):=Go.Joins.block_setCell (i:=i) h v
theorem Cs.other {q:Nat} {cs:Array Value} {W:World} (h:Cs q cs W) (g i:Nat) (v:Value) (hq:q≠g):Cs q cs (W.setCell ⟨g,i,none⟩ v):=(Below.heap_setCell _ _ _ _ hq).trans h
theorem Cs.cell {q:Nat} {cs:Array Value} {W:World} (h:Cs q cs W) (i:Nat):W.cell? ⟨q,i,none⟩=cs[i]?:=by unfold Cs at h;simp [World.cell?,h]
theorem Cs.frozen {q:Nat} {cs:Array Value} {W:World} (h:Cs q cs W) (i:Nat):W.frozen? ⟨q,i,none⟩=false:=by unfold Cs at h;simp [World.frozen?,h]
theorem Cs.row {q:Nat} {old:Array Value} {W:World} (h:Cs q old W) (cs:Array Value):Cs q cs (W.setRow q cs):=setRow_heap _ _ _ _ _ _ h
theorem Cs.row_ne {q g:Nat} {cs:Array Value} {W:World} (h:Cs q cs W) (hq:q≠g) (cs':Array Value):Cs q cs (W.setRow g cs'):=(setRow_other _ _ _ _ hq).trans h
theorem Cs.load {q:Nat} {cs:Array Value} {W:World} (h:Cs q cs W) (hs:cs.size=19):(Instr.loadAt 43 (.pointer (some ⟨q,0,none⟩))).run Tryz.prog W=.ok (.agg cs) W :=
 run_loadRow h Tryz.underlying43 rfl (by rw [hs];kernel_rfl)
theorem Cs.store {q:Nat} {old cs:Array Value} {W:World} (h:Cs q old W) (ho:old.size=19) (hs:cs.size=19) (h1:cs.all (·.oneCell')=true) :
  (Instr.storeAt 43 (.pointer (some ⟨q,0,none⟩)) (.agg cs)).run Tryz.prog W=.ok () (W.setRow q cs) :=
 run_storeRow h (by rw [hs];kernel_rfl) (by rw [ho,hs]) h1
theorem results_call {fn:Func} {p u:Tmp} (h:fn.results=#[.cell p 43,.tmp u]) {tmps:Array Value} {W:World} {q:Nat} {cs:Array Value} (hp:tmps.getD p undef=.pointer (some ⟨q,0,none⟩)) (hc:Cs q cs W) (hs:cs.size=19) :
  (results fn tmps).run Tryz.prog W=.ok (.tuple #[.agg cs,tmps.getD u undef]) W:=by
 rw [results_cell_tmp h,hp]
 have hl:=run_loadVar_row (P:=Tryz.prog) W q 43 43 cs (0,0) _ hc Tryz.underlying43 rfl (by rw [hs];kernel_rfl)
 simp [asAddr,Result.andThen,hl]
end Go.Proofs.YtpbnhnilfpoljaaGreatDoor.M
