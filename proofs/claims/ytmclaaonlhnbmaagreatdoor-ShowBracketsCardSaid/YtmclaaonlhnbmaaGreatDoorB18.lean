/- What the claim needs of the texts HLBr. -/
import Derived.Test.YtmclaaonlhnbmaaGreatDoorBOp
import Derived.Test.YtmclaaonlhnbmaaGreatDoorB17
import Derived.Test.YtmclaaonlhnbmaaGreatDoorB16
namespace Go.Proofs.YtmclaaonlhnbmaaGreatDoor.H
open Go.RowKit
open Go.Lib hiding intOf
open U S T K
open Go.Proofs.YtmclaaonlhnbmaaGreatDoor.J (arg wtP wtL kids_row kid_at KidAt new_block kids_below Pt.ind wtL_mem wtL_length)
theorem and_7 (z:Int):∃ q:Nat,bits BinOp.and .i64 z 7=(q:Int)∧q≤7:=by
 refine ⟨(BitVec.ofInt 64 z &&& BitVec.ofInt 64 7).toNat,?_,?_⟩
 ·have h:(BitVec.ofInt 64 z &&& BitVec.ofInt 64 7).toNat≤7:=by
   rw [BitVec.toNat_and]
   exact Nat.le_trans Nat.and_le_right (by decide)
  show IntKind.i64.wrap (((BitVec.ofInt 64 z &&& BitVec.ofInt 64 7).toNat:Nat):Int)=_
  exact IntWalk.i64_in _ (by omega)
 ·rw [BitVec.toNat_and]
  exact Nat.le_trans Nat.and_le_right (by decide)
theorem cells_at {W:World} {g:Nat} {xs:List Value} {t:TypeId} (h:W.heap[g]?=some (.cells xs.toArray t (0,0))):CellsAt W g 0 xs:=by
 intro j u hj
 rw [Lib.cell_of_heap h,Nat.zero_add,List.getElem?_toArray]
 exact hj
theorem lies_id (W:World):KidsIn W (fun _=>True) idP (.slice none 0 0):=⟨none,0,rfl,Nat.le_refl _,.inl rfl⟩
theorem lies_two {W:World} {g:Nat} {k t:By} {f e:Int} {p q:Pt} {lv lv2:Value} {cs:Array Value} (h:W.heap[g]?=some (.cells cs 25 (0,0))) (hc:cs=(five p lv++(five q lv2++[])).toArray) (hp:KidsIn W (fun _=>True) p lv) (hq:KidsIn W (fun _=>True) q lv2):KidsIn W (fun _=>True) (.mk k t f e [p,q]) (.slice (some ⟨g,0,none⟩) 2 2):=by
 subst hc
 exact ⟨_,2,rfl,Nat.le_refl _,.inr ⟨g,0,_,rfl,trivial,cells_at h,lv,_,rfl,hp,lv2,_,rfl,hq,rfl⟩⟩
theorem yields_idx {ops:Array Oper} {S:World→Prop} {o:Oper} {a:Act} {g off n c:Nat} (x y:Operand) (k:Nat) (ho:o.op=.indexAddr 23 x y) (hw:Region.wanted o (yielded ops a.tmps)=true) (hx:a.eval x=.slice (some ⟨g,off,none⟩) n c) (hy:a.eval y=.int .i64 k) (hk:k<n):YieldsIf Tryz.prog ops S o (.pointer (some ⟨g,off+k*5,none⟩)) a :=
 .inl ⟨hw,fun X _=>by
  have hm:(0:Int)≤(k:Int):=by omega
  have hm2:(k:Int)<(n:Int):=by omega
  have hr:(Instr.indexAt 23 (.slice (some ⟨g,off,none⟩) n c) (.int .i64 k)).run Tryz.prog X=.ok (.pointer (some ⟨g,off+k*5,none⟩)) X:=by
   simp [go_sem]
   intro h
   omega
  unfold execOp
  rw [ho]
  simp only [hx,hy,Sem.run_bind,hr,Result.andThen_ok,Sem.run_pure]⟩
theorem load_sl {b j n c:Nat} {a:Option Addr} {W:World} (h:W.cell? ⟨b,j,none⟩=some (.slice a n c)):(Instr.loadAt 23 (.pointer (some ⟨b,j,none⟩))).run Tryz.prog W=.ok (.slice a n c) W:=by
 simp [go_sem,h]
theorem load_at5 {b o:Nat} {y0 y1:ByteArray} {f e:Int} {a:Option Addr} {m c:Nat} {W:World} (c0:W.cell? ⟨b,o,none⟩=some (.string y0)) (c1:W.cell? ⟨b,o+1,none⟩=some (.string y1)) (c2:W.cell? ⟨b,o+2,none⟩=some (.int .i64 f)) (c3:W.cell? ⟨b,o+3,none⟩=some (.int .i64 e)) (c4:W.cell? ⟨b,o+4,none⟩=some (.slice a m c)) :
  (Instr.loadAt 25 (.pointer (some ⟨b,o,none⟩))).run Tryz.prog W=.ok (.agg #[.string y0,.string y1,.int .i64 f,.int .i64 e,.slice a m c]) W:=by
 simp [go_sem,c0,c1,c2,c3,c4]
mutual
theorem wt_strip2:∀ p,wtP (strip p)=wtP p
 | .mk k t f e ks=>by rw [strip,wtP,wtP,wt_stripL2 ks]
theorem wt_stripL2:∀ l,wtL (stripL l)=wtL l
 | []=>rfl
 | p :: r=>by rw [stripL,wtL,wtL,wt_strip2 p,wt_stripL2 r]
end
theorem alike_wt2 {p q:Pt} (h:alikeP p q=true):wtP p=wtP q:=by rw [← wt_strip2 p,(alike_iff p q).1 h,wt_strip2]
theorem two_wt {m n:By} (r:Bool) (hm:m.length≤2) (hn:n.length≤2):wtP (twoP m n r)≤100:=by
 cases r <;> simp [twoP,oneP,idP,wtP,wtL] <;> omega
theorem two_deep (m n:By) (r:Bool):deep (twoP m n r)≤10:=by
 cases r <;> simp [twoP,oneP,idP,deep,deepL]
theorem br_cells {W:World} {k t:By} {f e:Int} {ks:List Pt} {a:Option Addr} {c:Nat} {p:Pt} (h:KidsIn W (fun _=>True) (.mk k t f e ks) (.slice a 3 c)) (n1:ks.length=3) (n2:(ksP (kidAt ks 2)).length=1) (n3:(ksP (kidAt (ksP (kidAt ks 2)) 0)).length=1) (hp:kidAt (ksP (kidAt (ksP (kidAt ks 2)) 0)) 0=p) :
  ∃ g off g2 off2 g3 off3 c2 c3 y0 y1 f9 e9 a9 n9 c9 lv,a=some ⟨g,off,none⟩∧W.cell? ⟨g,off+2*5+4,none⟩=some (.slice (some ⟨g2,off2,none⟩) 1 c2)∧W.cell? ⟨g2,off2+0*5+4,none⟩=some (.slice (some ⟨g3,off3,none⟩) 1 c3) ∧
   W.cell? ⟨g3,off3+0*5,none⟩=some (.string y0)∧W.cell? ⟨g3,off3+0*5+1,none⟩=some (.string y1)∧W.cell? ⟨g3,off3+0*5+2,none⟩=some (.int .i64 f9)∧W.cell? ⟨g3,off3+0*5+3,none⟩=some (.int .i64 e9)∧W.cell? ⟨g3,off3+0*5+4,none⟩=some (.slice a9 n9 c9) ∧
   Value.agg #[.string y0,.string y1,.int .i64 f9,.int .i64 e9,.slice a9 n9 c9]=arg p lv∧KidsIn W (fun _=>True) p lv:=by
 have row:∀ {k t:By} {f e:Int} {ks:List Pt} {a:Option Addr} {n c i:Nat},KidsIn W (fun _=>True) (.mk k t f e ks) (.slice a n c)→i<ks.length→∃ g off,a=some ⟨g,off,none⟩∧∃ k' t' f' e' ks' a' c',KidAt W (fun _=>True) (kidAt ks i) g (off+i*5) k' t' f' e' ks' a' c':=fun {k t f e ks a n c i} h hi=>by
  obtain ⟨_,_,h2⟩:=kids_row h
  obtain ⟨g,off,xs,ha,_,hc,hp⟩:=h2.resolve_left (fun h=>by rw [h] at hi;exact Nat.not_lt_zero _ hi)
  obtain ⟨k',t',f',e',ks',a',c',hK⟩:=kid_at hp hc i hi
  refine ⟨g,off,ha,k',t',f',e',ks',a',c',?_⟩
  have e1:kidAt ks i=ks[i]:=by unfold kidAt;rw [List.getElem?_eq_getElem hi];rfl
  rw [e1];exact hK
 obtain ⟨g,off,rfl,k2,t2,f2,e2,l2,a2,c2,hK⟩:=row h (show 2<ks.length by omega)
 have q2:=hK.eq
 rw [q2] at n2 n3 hp
 change l2.length=1 at n2
 change (ksP (kidAt l2 0)).length=1 at n3
 change kidAt (ksP (kidAt l2 0)) 0=p at hp
 obtain ⟨g2,off2,rfl,k3,t3,f3,e3,l3,a3,c3,hK3⟩:=row hK.kids (show 0<l2.length by omega)
 have q3:=hK3.eq
 rw [q3] at n3 hp
 change l3.length=1 at n3
 change kidAt l3 0=p at hp
 obtain ⟨g3,off3,rfl,k4,t4,f4,e4,l4,a4,c4,hK4⟩:=row hK3.kids (show 0<l3.length by omega)
 have q4:=hK4.eq
 rw [hp] at q4
 have z1:=hK.k4
 rw [n2] at z1
 have z2:=hK3.k4
 rw [n3] at z2
 exact ⟨g,off,g2,off2,g3,off3,c2,c3,_,_,_,_,_,_,_,.slice a4 l4.length c4,rfl,z1,z2,hK4.k0,hK4.k1,hK4.k2,hK4.k3,hK4.k4,by rw [q4];rfl,by rw [q4];exact hK4.kids⟩
theorem br_told {s:ByteArray} {l:By} {p':Pt} {at' er:Int} (hs:s=bstr l) (hok:okB (bstr l)=true) (hd:declP (scanB true l) l.length=(p',at',er)) (w:World) (hl:l.length≤500) (hT:Tabs w) (hG:MTab w) :
  Calls Tryz.prog 8 #[.string s] w fun e w'=>∃ lv,e=.returned (.tuple #[arg p' lv,.int .i64 at',.int .i64 er])∧KidsIn w' (fun _=>True) p' lv∧Below w.heap.size w w'∧wtP p'≤100000000:=by
 subst hs
 have hz:(bstr l).size=l.length:=by show l.toArray.size=_;simp
 have ht:(bstr l).toList=l:=by rw [ByteArray.toList_eq];rfl
 refine (decl_any (bstr l) w (by omega) hT hG).mono ?_
 rintro e w' ⟨q,a,r,lv,h1,h2,h3,h4,h5⟩
 rw [hok,ht,hz,hd] at h1
 cases h1
 exact ⟨lv,h2,h3,h4,h5⟩
theorem add_bstr (x y:By):bstr x++bstr y=bstr (x++y):=by
 unfold bstr
 apply ByteArray.ext
 simp
theorem marks_at (i:Nat) (hi:i<13):(#[.string ⟨#[124,124]⟩,.string ⟨#[38,38]⟩,.string ⟨#[61,61]⟩,.string ⟨#[33,61]⟩,.string ⟨#[60]⟩,.string ⟨#[60,61]⟩,.string ⟨#[62]⟩,.string ⟨#[62,61]⟩,.string ⟨#[43]⟩,.string ⟨#[45]⟩,.string ⟨#[42]⟩,.string ⟨#[47]⟩,.string ⟨#[37]⟩]:Array Value)[i]?=some (.string (bstr (markAt i))):=by
 have h:∀ i:Nat,i<13→i=0∨i=1∨i=2∨i=3∨i=4∨i=5∨i=6∨i=7∨i=8∨i=9∨i=10∨i=11∨i=12:=by omega
 rcases h i hi with rfl|rfl|rfl|rfl|rfl|rfl|rfl|rfl|rfl|rfl|rfl|rfl|rfl <;> rfl
set_option maxHeartbeats 16000000 in
set_option maxRecDepth 20000 in
theorem br_law (x y:Int) (r:Bool) (w:World) (hT:Tabs w) (hG:MTab w) :
  Calls Tryz.prog 5 #[.int .i64 x,.int .i64 y,.bool r] w fun e w'=>e=.returned (.bool true)∧Below w.heap.size w w':=by
 have HT:=hid (fun X (h:Below w.heap.size w X)=>hT.later h)
 have HG:=hid (fun X (h:Below w.heap.size w X)=>hG.later h)
 obtain ⟨i,hi,hi7⟩:=and_7 x
 obtain ⟨j,hj,hj7⟩:=and_7 y
 obtain ⟨p1,q1,hbr⟩:=br_is i j r (by omega) (by omega)
 have HBR:=hid hbr
 have hwrap:IntKind.i64.wrap (5+(j:Int))=((5+j:Nat):Int):=by rw [IntKind.wrap_i64];omega
 have hi0:(0:Int)≤(i:Int):=by omega
 have hi1:(i:Int)<13:=by omega
 have hj0:(0:Int)≤((5+j:Nat):Int):=by omega
 have hj1:((5+j:Nat):Int)<13:=by omega
 have hz1:=mark_len i
 have hz2:=mark_len (5+j)
 have hm1:=marks_at i (by omega)
 have hm2:=marks_at (5+j) (by omega)
 generalize markAt i=m at HBR hz1 hm1
 generalize markAt (5+j)=n at HBR hz2 hm2
 obtain ⟨mb,hmb⟩:∃ z,bstr m=z:=⟨_,rfl⟩
 obtain ⟨nb,hnb⟩:∃ z,bstr n=z:=⟨_,rfl⟩
 rw [hmb] at hm1
 rw [hnb] at hm2
 have HMB:=hid hmb
 have HNB:=hid hnb
 obtain ⟨jj,hJ⟩:∃ z,5+j=z:=⟨_,rfl⟩
 rw [hJ] at hwrap hj0 hj1 hm2
 clear hbr hmb hnb hJ hT hG
 go_enter Tryz.func5,Tryz.ntmps5
 go_upto_region 2 with fail
 obtain ⟨w1,hw1,hq1,hb1,_⟩:=new_block w (.cells #[.string ⟨#[124,124]⟩,.string ⟨#[38,38]⟩,.string ⟨#[61,61]⟩,.string ⟨#[33,61]⟩,.string ⟨#[60]⟩,.string ⟨#[60,61]⟩,.string ⟨#[62]⟩,.string ⟨#[62,61]⟩,.string ⟨#[43]⟩,.string ⟨#[45]⟩,.string ⟨#[42]⟩,.string ⟨#[47]⟩,.string ⟨#[37]⟩] 9)
 rw [hw1]
 have k1:w1.cell? ⟨w.heap.size,i,none⟩=some (.string mb):=by rw [Lib.cell_of_heap hq1];exact hm1
 have k2:w1.cell? ⟨w.heap.size,jj,none⟩=some (.string nb):=by rw [Lib.cell_of_heap hq1];exact hm2
 have HB1:=hid hb1
 clear hw1 hq1 hb1 hm1 hm2
 go_upto_region 4 with fail
 clear k1 k2
 go_upto_region 5 with fail
 obtain ⟨w2,hw2,hq2,hb2,hz2'⟩:=new_block w1 (.cells #[.string ⟨#[105,100]⟩,.string ⟨#[120]⟩,.int .i64 0,.int .i64 0,.slice none 0 0] 25)
 rw [hw2]
 obtain ⟨⟨x0,x1,x2,x3,x4⟩,xf⟩:=J.cells_five hq2
 have HB2:=hid (HB1.out.trans (hb2.mono HB1.out.size))
 obtain ⟨bx,hbx⟩:∃ z,w1.heap.size=z:=⟨_,rfl⟩
 rw [hbx] at x0 x1 x2 x3 x4 xf hq2 hz2' ⊢
 clear hw2 hb2 hbx
 go_upto_region 6 with fail
 obtain ⟨w3,hw3,hq3,hb3,hz3⟩:=new_block w2 (.cells #[.string ⟨#[105,100]⟩,.string ⟨#[120]⟩,.int .i64 0,.int .i64 0,.slice none 0 0,.string ⟨#[105,100]⟩,.string ⟨#[120]⟩,.int .i64 0,.int .i64 0,.slice none 0 0] 25)
 rw [hw3]
 obtain ⟨g1,hg1⟩:∃ z,w2.heap.size=z:=⟨_,rfl⟩
 rw [hg1] at hq3 hz3 ⊢
 obtain ⟨w4,hw4,hq4,hb4,hz4⟩:=new_block w3 (.cells #[.string ⟨#[98,105,110,97,114,121]⟩,.string mb,.int .i64 0,.int .i64 0,.slice (some ⟨g1,0,none⟩) 2 2] 25)
 rw [hw4]
 have hb24:=hb3.trans (hb4.mono hb3.size)
 have hx4:=(hb24.block _ hz2').trans hq2
 have h34:=(hb4.block _ hz3).trans hq3
 have hs3:w3.heap.size=g1+1:=by rw [← hw3,← hg1];simp
 obtain ⟨b1,hb1⟩:∃ z,g1+1=z:=⟨_,rfl⟩
 rw [hs3,hb1] at hq4 hz4
 rw [hb1]
 clear hs3
 have hz2'':=Nat.lt_of_lt_of_le hz2' hb24.size
 have hz3':=Nat.lt_of_lt_of_le hz3 hb4.size
 have HB4:=hid (HB2.out.trans (hb24.mono HB2.out.size))
 obtain ⟨⟨x0,x1,x2,x3,x4⟩,xf⟩:=J.cells_five hx4
 obtain ⟨⟨o0,o1,o2,o3,o4⟩,of⟩:=J.cells_five hq4
 clear hw3 hw4 hb3 hb4 hb24 hg1 hb1 hq2 hq3 hz2' hz3
 go_upto_region 7 with fail
 obtain ⟨w5,hw5,hq5,hb5,hz5⟩:=new_block w4 (.cells #[.string ⟨#[98,105,110,97,114,121]⟩,.string mb,.int .i64 0,.int .i64 0,.slice (some ⟨g1,0,none⟩) 2 2,.string ⟨#[105,100]⟩,.string ⟨#[120]⟩,.int .i64 0,.int .i64 0,.slice none 0 0] 25)
 rw [hw5]
 obtain ⟨g2,hg2⟩:∃ z,w4.heap.size=z:=⟨_,rfl⟩
 rw [hg2] at hq5 hz5 ⊢
 obtain ⟨w6,hw6,hq6,hb6,hz6⟩:=new_block w5 (.cells #[.string ⟨#[98,105,110,97,114,121]⟩,.string nb,.int .i64 0,.int .i64 0,.slice (some ⟨g2,0,none⟩) 2 2] 25)
 rw [hw6]
 have hb46:=hb5.trans (hb6.mono hb5.size)
 have hx6:=(hb46.block _ hz2'').trans hx4
 have ho6:=(hb46.block _ hz4).trans hq4
 have h36:=(hb46.block _ hz3').trans h34
 have h56:=(hb6.block _ hz5).trans hq5
 obtain ⟨bt,hbt⟩:∃ z,w5.heap.size=z:=⟨_,rfl⟩
 have hbt':w.heap.size≤bt:=by rw [← hbt];have:=HB4.out.size;have:=hb5.size;omega
 have hgbt:g1<bt:=by have:=hb5.size;omega
 have hs5:w5.heap.size=g2+1:=by rw [← hw5,← hg2];simp
 rw [hbt] at hq6 hz6 hs5
 rw [← hs5]
 clear hs5
 have HB6:=hid (HB4.out.trans (hb46.mono HB4.out.size))
 have ko6:KidsIn w6 (fun _=>True) (oneP m) (.slice (some ⟨g1,0,none⟩) 2 2):=lies_two h36 rfl (lies_id _) (lies_id _)
 clear hw5 hw6 hb5 hb6 hb46 hg2 hbt hx4 hq4 h34 hq5 hz2'' hz3' hz4 hz5 x0 x1 x2 x3 x4 xf o0 o1 o2 o3 o4 of
 cases r
 case false =>
  have kt:KidsIn w6 (fun _=>True) (twoP m n false) (.slice (some ⟨g2,0,none⟩) 2 2):=lies_two h56 (by rw [← HMB.out];rfl) ko6 (lies_id _)
  clear hx6 ho6 h36 h56 ko6 hgbt
  have HB8:=HB6
  have hq8:=hq6
  go_upto_region 9 with fail
  have HCS:=hid (show Value.agg #[.string ⟨#[98,105,110,97,114,121]⟩,.string nb,.int .i64 0,.int .i64 0,.slice (some ⟨g2,0,none⟩) 2 2]=arg (twoP m n false) (.slice (some ⟨g2,0,none⟩) 2 2) by rw [← HNB.out];rfl)
  have HKT:=hid kt
  have HQT:=hid hq8
  have hwt:=two_wt false hz1 hz2
  have hdp:=two_deep m n false
  have hsl:=HBR.out.len
  have cS:=show_any (twoP m n false) _ _ (fun _=>True) w6 HCS.out kt (by omega) (by omega) (by omega)
  obtain ⟨S,hS⟩:∃ z,showP 0 (twoP m n false)=z:=⟨_,rfl⟩
  rw [hS] at cS hsl HBR
  obtain ⟨sb,hsb⟩:∃ z,bstr S=z:=⟨_,rfl⟩
  rw [hsb] at cS
  have HSB:=hid hsb
  obtain ⟨⟨p0,p1',p2,p3,p4⟩,pf⟩:=J.cells_five HQT.out
  clear kt hq8 hS hsb
  go_wp2_with fail
  refine cS.mono ?_
  rintro e' w10 ⟨rfl,hb10⟩
  have HB10:=hid hb10
  clear cS hb10 p0 p1' p2 p3 p4 pf
  have hsz:sb.size=S.length:=by rw [← HSB.out];show S.toArray.size=_;simp
  have ad1:¬ 9223372036854775807<19+sb.size:=by omega
  have ad2:¬ 9223372036854775807<19+sb.size+2:=by omega
  have ad3:¬ 9223372036854775807<20+sb.size:=by omega
  have ad4:¬ 9223372036854775807<20+sb.size+4:=by omega
  have c1:=br_told (s:=⟨#[102,117,110,99,32,102,40,41,32,123,10,9,114,101,116,117,114,110,32]⟩++sb++⟨#[10,125]⟩) (by rw [← HSB.out];show bstr brA++bstr S++bstr brZ=_;rw [add_bstr,add_bstr,List.append_assoc]) HBR.out.ok1 HBR.out.d1 w10 (by simp only [List.length_append,brA,brZ,List.length_cons,List.length_nil];omega) (HT.out _ (HB8.out.trans (HB10.out.mono HB8.out.size))) (HG.out _ (HB8.out.trans (HB10.out.mono HB8.out.size)))
  go_wp2_with fail
  refine c1.mono ?_
  rintro e' w11 ⟨lv1,rfl,hk11,hb11,hwt1⟩
  have HB11:=hid (HB10.out.trans (hb11.mono HB10.out.size))
  clear c1 hb11
  have hn1:=HBR.out.n1
  obtain ⟨k1,t1,f1,e1,ks1⟩:=p1
  obtain ⟨a1,c1,rfl⟩:=J.kids_form hk11
  change ks1.length=3 at hn1
  rw [show arg (.mk k1 t1 f1 e1 ks1) (.slice a1 ks1.length c1)=.agg #[.string (bstr k1),.string (bstr t1),.int .i64 f1,.int .i64 e1,.slice a1 ks1.length c1] from rfl]
  obtain ⟨kb1,hkb1⟩:∃ z,bstr k1=z:=⟨_,rfl⟩
  obtain ⟨tb1,htb1⟩:∃ z,bstr t1=z:=⟨_,rfl⟩
  rw [hn1] at hk11 ⊢
  rw [hkb1,htb1]
  have HP1:=hid (show Value.agg #[.string kb1,.string tb1,.int .i64 f1,.int .i64 e1,.slice a1 3 c1]=arg (.mk k1 t1 f1 e1 ks1) (.slice a1 3 c1) by rw [← hkb1,← htb1];rfl)
  have HK11:=hid hk11
  have HW1:=hid hwt1
  have HN1:=hid hn1
  clear hkb1 htb1 hk11 hwt1 hn1
  go_upto_region 11 with fail
  obtain ⟨w12,hw12,hq12,hb12,hz12⟩:=new_block w11 (.cells #[.string kb1,.string tb1,.int .i64 f1,.int .i64 e1,.slice a1 3 c1] 25)
  rw [hw12]
  have HK12:=hid (kids_below HK11.out hb12)
  have HB12:=hid (HB11.out.trans (hb12.mono HB11.out.size))
  obtain ⟨bp,hbp⟩:∃ z,w11.heap.size=z:=⟨_,rfl⟩
  rw [hbp] at hq12 hz12 ⊢
  have HQ12:=hid hq12
  have HZ12:=hid hz12
  clear hw12 hb12 hbp hq12 hz12 HK11
  have c1':=br_told (s:=⟨#[102,117,110,99,32,102,40,41,32,123,32,114,101,116,117,114,110,32,40,40]⟩++sb++⟨#[41,41,32,125]⟩) (by rw [← HSB.out];show bstr brB++bstr S++bstr brY=_;rw [add_bstr,add_bstr,List.append_assoc]) HBR.out.ok2 HBR.out.d2 w12 (by simp only [List.length_append,brB,brY,List.length_cons,List.length_nil];omega) (HT.out _ (HB8.out.trans (HB12.out.mono HB8.out.size))) (HG.out _ (HB8.out.trans (HB12.out.mono HB8.out.size)))
  go_wp2_with fail
  refine c1'.mono ?_
  rintro e' w13 ⟨lv2,rfl,hk13,hb13,hwt2⟩
  have HB13:=hid (HB12.out.trans (hb13.mono HB12.out.size))
  have HK13p:=hid (kids_below HK12.out hb13)
  have HQ13:=hid ((hb13.block _ HZ12.out).trans HQ12.out)
  have HZ13:=hid (Nat.lt_of_lt_of_le HZ12.out hb13.size)
  clear c1' hb13 HK12 HQ12 HZ12
  obtain ⟨k2,t2,f2,e2,ks2⟩:=q1
  obtain ⟨a2,c2,rfl⟩:=J.kids_form hk13
  rw [show arg (.mk k2 t2 f2 e2 ks2) (.slice a2 ks2.length c2)=.agg #[.string (bstr k2),.string (bstr t2),.int .i64 f2,.int .i64 e2,.slice a2 ks2.length c2] from rfl]
  obtain ⟨kb2,hkb2⟩:∃ z,bstr k2=z:=⟨_,rfl⟩
  obtain ⟨tb2,htb2⟩:∃ z,bstr t2=z:=⟨_,rfl⟩
  obtain ⟨n2,hn2⟩:∃ z,ks2.length=z:=⟨_,rfl⟩
  rw [hn2,hkb2,htb2]
  have HP2:=hid (show Value.agg #[.string kb2,.string tb2,.int .i64 f2,.int .i64 e2,.slice a2 n2 c2]=arg (.mk k2 t2 f2 e2 ks2) (.slice a2 ks2.length c2) by rw [← hkb2,← htb2,← hn2];rfl)
  have HK13:=hid hk13
  have HW2:=hid hwt2
  clear hkb2 htb2 hn2 hk13 hwt2
  go_upto_region 12 with fail
  obtain ⟨w14,hw14,hq14,hb14,hz14⟩:=new_block w13 (.cells #[.string kb2,.string tb2,.int .i64 f2,.int .i64 e2,.slice a2 n2 c2] 25)
  rw [hw14]
  have HKp:=hid (kids_below HK13p.out hb14)
  have HKq:=hid (kids_below HK13.out hb14)
  have HB14:=hid (HB13.out.trans (hb14.mono HB13.out.size))
  have HQp:=hid ((hb14.block _ HZ13.out).trans HQ13.out)
  have HZp:=hid (Nat.lt_of_lt_of_le HZ13.out hb14.size)
  obtain ⟨bq,hbq⟩:∃ z,w13.heap.size=z:=⟨_,rfl⟩
  rw [hbq] at hq14 hz14 ⊢
  have HQq:=hid hq14
  have HZq:=hid hz14
  clear hw14 hb14 hbq hq14 hz14 HK13 HK13p HQ13 HZ13
  obtain ⟨P9,hP9⟩:∃ z,kidAt (ksP (kidAt (ksP (kidAt ks1 2)) 0)) 0=z:=⟨_,rfl⟩
  obtain ⟨g7,o7,g8,o8,g9,o9,c8,c9,y0,y1,f9,e9,a9,n9,c9',lv9,rfl,z1,z2,v0,v1,v2,v3,v4,hv9,hk9⟩:=br_cells HKp.out HN1.out HBR.out.n2 HBR.out.n3 hP9
  have ha2:=HBR.out.a2
  change alikeP (kidAt (ksP (kidAt (ksP (kidAt ks1 2)) 0)) 0) _=true at ha2
  rw [hP9] at ha2
  have HV9:=hid hv9
  have HK9:=hid hk9
  have HA2:=hid ha2
  clear hP9 hv9 hk9 ha2
  obtain ⟨⟨p0,p1',p2,p3,p4⟩,pf⟩:=J.cells_five HQp.out
  have HL:=hid (fun X (hX:Below w14.heap.size w14 X)=>And.intro ((hX.cell (World.block_lt_of_cell? w14 _ z1)).trans z1) (And.intro ((hX.cell (World.block_lt_of_cell? w14 _ z2)).trans z2) (And.intro ((hX.cell (World.block_lt_of_cell? w14 _ v0)).trans v0) (And.intro ((hX.cell (World.block_lt_of_cell? w14 _ v1)).trans v1) (And.intro ((hX.cell (World.block_lt_of_cell? w14 _ v2)).trans v2) (And.intro ((hX.cell (World.block_lt_of_cell? w14 _ v3)).trans v3) ((hX.cell (World.block_lt_of_cell? w14 _ v4)).trans v4)))))))
  clear v0 v1 v2 v3 v4
  go_upto_region 14 with fail
  have HTB:=hid (fun X (hX:Below w14.heap.size w14 X)=>((HB14.out.trans (hX.mono HB14.out.size)).block bt (Array.getElem?_eq_some_iff.1 HQT.out).1).trans HQT.out)
  have HPB:=hid (fun X (hX:Below w14.heap.size w14 X)=>(hX.block _ HZp.out).trans HQp.out)
  have HQB:=hid (fun X (hX:Below w14.heap.size w14 X)=>(hX.block _ HZq.out).trans HQq.out)
  have HW:=hid (fun X (hX:Below w14.heap.size w14 X)=>HB8.out.trans ((HB14.out.trans (hX.mono HB14.out.size)).mono HB8.out.size))
  have HKT9:=hid (fun X (hX:Below w14.heap.size w14 X)=>kids_below HKT.out (HB14.out.trans (hX.mono HB14.out.size)))
  have cA:=hid (fun X (hX:Below w14.heap.size w14 X)=>alive_any X (HT.out _ (HW.out X hX)) (HG.out _ (HW.out X hX)))
  have cP:=hid (fun X (hX:Below w14.heap.size w14 X)=>alike_part _ _ _ _ _ _ (fun _=>True) (fun _=>True) X HP1.out HP2.out (kids_below HKp.out hX) (kids_below HKq.out hX) (by have:=HW1.out;omega) (by have:=HW2.out;omega))
  rw [HBR.out.a1] at cP
  have hw9:wtP P9≤1099511627776:=by rw [alike_wt2 HA2.out];omega
  have cT:=hid (fun X (hX:Below w14.heap.size w14 X)=>alike_part P9 (twoP m n false) _ _ _ _ (fun _=>True) (fun _=>True) X HV9.out HCS.out (kids_below HK9.out hX) (HKT9.out X hX) hw9 (by omega))
  rw [HA2.out] at cT
  have HB:=hid (Below.refl w14.heap.size w14).drew
  refine wp_region_held_drew (S:=fun X:World=>Below w14.heap.size w14 X) (by kernel_rfl) HB.out (fun hHeld=>?_)
  refine wpAnyH_ready (rs:=[0]) (by kernel_rfl) (by simp) ?_
  refine (AllReadyH.cons (o:=OP.p99) rfl (fun K hK=>?_) AllReadyH.nil)
  refine wanted_step (by kernel_rfl) ?_
  go_simp
  go_at_call 11
  refine (cA.out _ HB.out).mono ?_
  rintro e' w15 ⟨rfl,hb⟩
  dsimp only
  replace HB:=hid (HB.out.trans (hb.mono HB.out.size))
  clear hb
  refine hK.out _ _ (HB.out) (fun hHeld=>?_)
  (try simp only [Act.put,List.setIfInBounds_toArray,List.set_cons_zero,List.set_cons_succ])
  clear hK K
  refine wpAnyH_take (i:=1) (oi:=OP.p100) (v:=.bool true) rfl (by kernel_rfl) (by kernel_rfl) (by kernel_rfl) (fun _ _ _ h=>h) (Or.inl ⟨by rfl,fun X hX=>rfl⟩) hHeld ?_
  (try simp only [Act.put,List.setIfInBounds_toArray,List.set_cons_zero,List.set_cons_succ])
  refine wpAnyH_take (i:=2) (oi:=OP.p101) (v:=(.agg #[.string kb1,.string tb1,.int .i64 f1,.int .i64 e1,.slice (some ⟨g7,o7,none⟩) 3 c1])) rfl (by kernel_rfl) (by kernel_rfl) (by kernel_rfl) (fun _ _ _ h=>h) (yields_load 25 (.tmp 14) rfl (by rfl) (fun X hX=>load_five (HPB.out X hX))) hHeld ?_
  (try simp only [Act.put,List.setIfInBounds_toArray,List.set_cons_zero,List.set_cons_succ])
  refine wpAnyH_take (i:=3) (oi:=OP.p102) (v:=(.agg #[.string kb2,.string tb2,.int .i64 f2,.int .i64 e2,.slice a2 n2 c2])) rfl (by kernel_rfl) (by kernel_rfl) (by kernel_rfl) (fun _ _ _ h=>h) (yields_load 25 (.tmp 17) rfl (by rfl) (fun X hX=>load_five (HQB.out X hX))) hHeld ?_
  (try simp only [Act.put,List.setIfInBounds_toArray,List.set_cons_zero,List.set_cons_succ])
  refine wpAnyH_ready (rs:=[4]) (by kernel_rfl) (by simp) ?_
  refine (AllReadyH.cons (o:=OP.p103) rfl (fun K hK=>?_) AllReadyH.nil)
  refine wanted_step (by kernel_rfl) ?_
  go_simp
  go_at_call 13
  refine (cP.out _ HB.out).mono ?_
  rintro e' w16 ⟨rfl,hb⟩
  dsimp only
  replace HB:=hid (HB.out.trans (hb.mono HB.out.size))
  clear hb
  refine hK.out _ _ (HB.out) (fun hHeld=>?_)
  (try simp only [Act.put,List.setIfInBounds_toArray,List.set_cons_zero,List.set_cons_succ])
  clear hK K
  refine wpAnyH_take (i:=5) (oi:=OP.p104) (v:=.bool true) rfl (by kernel_rfl) (by kernel_rfl) (by kernel_rfl) (fun _ _ _ h=>h) (Or.inl ⟨by rfl,fun X hX=>rfl⟩) hHeld ?_
  (try simp only [Act.put,List.setIfInBounds_toArray,List.set_cons_zero,List.set_cons_succ])
  refine wpAnyH_take (i:=6) (oi:=OP.p105) (v:=.bool true) rfl (by kernel_rfl) (by kernel_rfl) (by kernel_rfl) (fun _ _ _ h=>h) (Or.inl ⟨by rfl,fun X hX=>rfl⟩) hHeld ?_
  (try simp only [Act.put,List.setIfInBounds_toArray,List.set_cons_zero,List.set_cons_succ])
  refine wpAnyH_take (i:=7) (oi:=OP.p106) (v:=(.pointer (some ⟨bp,4,none⟩))) rfl (by kernel_rfl) (by kernel_rfl) (by kernel_rfl) (fun _ _ _ h=>h) (Or.inl ⟨by rfl,fun X hX=>rfl⟩) hHeld ?_
  (try simp only [Act.put,List.setIfInBounds_toArray,List.set_cons_zero,List.set_cons_succ])
  refine wpAnyH_take (i:=8) (oi:=OP.p107) (v:=(.slice (some ⟨g7,o7,none⟩) 3 c1)) rfl (by kernel_rfl) (by kernel_rfl) (by kernel_rfl) (fun _ _ _ h=>h) (yields_load 23 (.tmp 107) rfl (by rfl) (fun X hX=>load_sl (J.cells_five (HPB.out X hX)).1.2.2.2.2)) hHeld ?_
  (try simp only [Act.put,List.setIfInBounds_toArray,List.set_cons_zero,List.set_cons_succ])
  refine wpAnyH_take (i:=9) (oi:=OP.p108) (v:=(.pointer (some ⟨g7,o7+2*5,none⟩))) rfl (by kernel_rfl) (by kernel_rfl) (by kernel_rfl) (fun _ _ _ h=>h) (yields_idx (Operand.tmp 108) (Operand.const (Value.int IntKind.i64 2)) 2 rfl (by rfl) rfl rfl (by decide)) hHeld ?_
  (try simp only [Act.put,List.setIfInBounds_toArray,List.set_cons_zero,List.set_cons_succ])
  refine wpAnyH_take (i:=10) (oi:=OP.p109) (v:=(.pointer (some ⟨g7,o7+2*5+4,none⟩))) rfl (by kernel_rfl) (by kernel_rfl) (by kernel_rfl) (fun _ _ _ h=>h) (Or.inl ⟨by rfl,fun X hX=>rfl⟩) hHeld ?_
  (try simp only [Act.put,List.setIfInBounds_toArray,List.set_cons_zero,List.set_cons_succ])
  refine wpAnyH_take (i:=11) (oi:=OP.p110) (v:=(.slice (some ⟨g8,o8,none⟩) 1 c8)) rfl (by kernel_rfl) (by kernel_rfl) (by kernel_rfl) (fun _ _ _ h=>h) (yields_load 23 (.tmp 110) rfl (by rfl) (fun X hX=>load_sl (HL.out X hX).1)) hHeld ?_
  (try simp only [Act.put,List.setIfInBounds_toArray,List.set_cons_zero,List.set_cons_succ])
  refine wpAnyH_take (i:=12) (oi:=OP.p111) (v:=(.pointer (some ⟨g8,o8+0*5,none⟩))) rfl (by kernel_rfl) (by kernel_rfl) (by kernel_rfl) (fun _ _ _ h=>h) (yields_idx (Operand.tmp 111) (Operand.const (Value.int IntKind.i64 0)) 0 rfl (by rfl) rfl rfl (by decide)) hHeld ?_
  (try simp only [Act.put,List.setIfInBounds_toArray,List.set_cons_zero,List.set_cons_succ])
  refine wpAnyH_take (i:=13) (oi:=OP.p112) (v:=(.pointer (some ⟨g8,o8+0*5+4,none⟩))) rfl (by kernel_rfl) (by kernel_rfl) (by kernel_rfl) (fun _ _ _ h=>h) (Or.inl ⟨by rfl,fun X hX=>rfl⟩) hHeld ?_
  (try simp only [Act.put,List.setIfInBounds_toArray,List.set_cons_zero,List.set_cons_succ])
  refine wpAnyH_take (i:=14) (oi:=OP.p113) (v:=(.slice (some ⟨g9,o9,none⟩) 1 c9)) rfl (by kernel_rfl) (by kernel_rfl) (by kernel_rfl) (fun _ _ _ h=>h) (yields_load 23 (.tmp 113) rfl (by rfl) (fun X hX=>load_sl (HL.out X hX).2.1)) hHeld ?_
  (try simp only [Act.put,List.setIfInBounds_toArray,List.set_cons_zero,List.set_cons_succ])
  refine wpAnyH_take (i:=15) (oi:=OP.p114) (v:=(.pointer (some ⟨g9,o9+0*5,none⟩))) rfl (by kernel_rfl) (by kernel_rfl) (by kernel_rfl) (fun _ _ _ h=>h) (yields_idx (Operand.tmp 114) (Operand.const (Value.int IntKind.i64 0)) 0 rfl (by rfl) rfl rfl (by decide)) hHeld ?_
  (try simp only [Act.put,List.setIfInBounds_toArray,List.set_cons_zero,List.set_cons_succ])
  refine wpAnyH_take (i:=16) (oi:=OP.p115) (v:=(.agg #[.string y0,.string y1,.int .i64 f9,.int .i64 e9,.slice a9 n9 c9'])) rfl (by kernel_rfl) (by kernel_rfl) (by kernel_rfl) (fun _ _ _ h=>h) (yields_load 25 (.tmp 115) rfl (by rfl) (fun X hX=>load_at5 (HL.out X hX).2.2.1 (HL.out X hX).2.2.2.1 (HL.out X hX).2.2.2.2.1 (HL.out X hX).2.2.2.2.2.1 (HL.out X hX).2.2.2.2.2.2)) hHeld ?_
  (try simp only [Act.put,List.setIfInBounds_toArray,List.set_cons_zero,List.set_cons_succ])
  refine wpAnyH_take (i:=17) (oi:=OP.p116) (v:=(.agg #[.string ⟨#[98,105,110,97,114,121]⟩,.string nb,.int .i64 0,.int .i64 0,.slice (some ⟨g2,0,none⟩) 2 2])) rfl (by kernel_rfl) (by kernel_rfl) (by kernel_rfl) (fun _ _ _ h=>h) (yields_load 25 (.tmp 12) rfl (by rfl) (fun X hX=>load_five (HTB.out X hX))) hHeld ?_
  (try simp only [Act.put,List.setIfInBounds_toArray,List.set_cons_zero,List.set_cons_succ])
  refine wpAnyH_ready (rs:=[18]) (by kernel_rfl) (by simp) ?_
  refine (AllReadyH.cons (o:=OP.p117) rfl (fun K hK=>?_) AllReadyH.nil)
  refine wanted_step (by kernel_rfl) ?_
  go_simp
  go_at_call 13
  refine (cT.out _ HB.out).mono ?_
  rintro e' w17 ⟨rfl,hb⟩
  dsimp only
  replace HB:=hid (HB.out.trans (hb.mono HB.out.size))
  clear hb
  refine hK.out _ _ (HB.out) (fun hHeld=>?_)
  (try simp only [Act.put,List.setIfInBounds_toArray,List.set_cons_zero,List.set_cons_succ])
  clear hK K
  refine wpAnyH_take (i:=19) (oi:=OP.p118) (v:=.bool true) rfl (by kernel_rfl) (by kernel_rfl) (by kernel_rfl) (fun _ _ _ h=>h) (Or.inl ⟨by rfl,fun X hX=>rfl⟩) hHeld ?_
  (try simp only [Act.put,List.setIfInBounds_toArray,List.set_cons_zero,List.set_cons_succ])
  refine wpAnyH_take (i:=20) (oi:=OP.p119) (v:=.bool true) rfl (by kernel_rfl) (by kernel_rfl) (by kernel_rfl) (fun _ _ _ h=>h) (Or.inl ⟨by rfl,fun X hX=>rfl⟩) hHeld ?_
  (try simp only [Act.put,List.setIfInBounds_toArray,List.set_cons_zero,List.set_cons_succ])
  refine wpAnyH_done (by kernel_rfl) ?_ _
  clear hHeld
  (try go_wp2_with fail)
  go_ret
  exact ⟨rfl,HW.out _ HB.out⟩
 case true =>
  obtain ⟨⟨x0,x1,x2,x3,x4⟩,xf⟩:=J.cells_five hx6
  obtain ⟨⟨o0,o1,o2,o3,o4⟩,of⟩:=J.cells_five ho6
  obtain ⟨w7,hw7,hq7,hb7,hz7⟩:=new_block w6 (.cells #[.string ⟨#[105,100]⟩,.string ⟨#[120]⟩,.int .i64 0,.int .i64 0,.slice none 0 0,.string ⟨#[98,105,110,97,114,121]⟩,.string mb,.int .i64 0,.int .i64 0,.slice (some ⟨g1,0,none⟩) 2 2] 25)
  obtain ⟨g3,hg3⟩:∃ z,w6.heap.size=z:=⟨_,rfl⟩
  have ht7:=(hb7.block _ hz6).trans hq6
  obtain ⟨w8,hw8,hq8,hot,hbl⟩:=set5 (.string ⟨#[98,105,110,97,114,121]⟩) (.string nb) (.int .i64 0) (.int .i64 0) (.slice (some ⟨g3,0,none⟩) 2 2) ht7
  have hb78:=HB6.out.trans ((hb7.mono HB6.out.size).trans (hbl w.heap.size hbt'))
  have hne3:g3≠bt:=by omega
  rw [hg3] at hq7
  have h78:=(hot g3 hne3).trans hq7
  have ko8:KidsIn w8 (fun _=>True) (oneP m) (.slice (some ⟨g1,0,none⟩) 2 2):=lies_two ((hot g1 (by omega)).trans ((hb7.block _ (by omega)).trans h36)) rfl (lies_id _) (lies_id _)
  have kt:KidsIn w8 (fun _=>True) (twoP m n true) (.slice (some ⟨g3,0,none⟩) 2 2):=lies_two h78 (by rw [← HMB.out];rfl) (lies_id _) ko8
  obtain ⟨⟨u0,u1,u2,u3,u4⟩,uf⟩:=J.cells_five ht7
  have HB8:=hid hb78
  clear hne3 hq7 hz7 ht7 hot hbl hb78 h78 ko8 hx6 ho6 h36 h56 ko6 hgbt hb7
  go_upto_region 9 with fail
  try rw [hw8]
  have HCS:=hid (show Value.agg #[.string ⟨#[98,105,110,97,114,121]⟩,.string nb,.int .i64 0,.int .i64 0,.slice (some ⟨g3,0,none⟩) 2 2]=arg (twoP m n true) (.slice (some ⟨g3,0,none⟩) 2 2) by rw [← HNB.out];rfl)
  have HKT:=hid kt
  have HQT:=hid hq8
  have hwt:=two_wt true hz1 hz2
  have hdp:=two_deep m n true
  have hsl:=HBR.out.len
  have cS:=show_any (twoP m n true) _ _ (fun _=>True) w8 HCS.out kt (by omega) (by omega) (by omega)
  obtain ⟨S,hS⟩:∃ z,showP 0 (twoP m n true)=z:=⟨_,rfl⟩
  rw [hS] at cS hsl HBR
  obtain ⟨sb,hsb⟩:∃ z,bstr S=z:=⟨_,rfl⟩
  rw [hsb] at cS
  have HSB:=hid hsb
  obtain ⟨⟨p0,p1',p2,p3,p4⟩,pf⟩:=J.cells_five HQT.out
  clear kt hq8 hS hsb
  go_wp2_with fail
  refine cS.mono ?_
  rintro e' w10 ⟨rfl,hb10⟩
  have HB10:=hid hb10
  clear cS hb10 p0 p1' p2 p3 p4 pf
  have hsz:sb.size=S.length:=by rw [← HSB.out];show S.toArray.size=_;simp
  have ad1:¬ 9223372036854775807<19+sb.size:=by omega
  have ad2:¬ 9223372036854775807<19+sb.size+2:=by omega
  have ad3:¬ 9223372036854775807<20+sb.size:=by omega
  have ad4:¬ 9223372036854775807<20+sb.size+4:=by omega
  have c1:=br_told (s:=⟨#[102,117,110,99,32,102,40,41,32,123,10,9,114,101,116,117,114,110,32]⟩++sb++⟨#[10,125]⟩) (by rw [← HSB.out];show bstr brA++bstr S++bstr brZ=_;rw [add_bstr,add_bstr,List.append_assoc]) HBR.out.ok1 HBR.out.d1 w10 (by simp only [List.length_append,brA,brZ,List.length_cons,List.length_nil];omega) (HT.out _ (HB8.out.trans (HB10.out.mono HB8.out.size))) (HG.out _ (HB8.out.trans (HB10.out.mono HB8.out.size)))
  go_wp2_with fail
  refine c1.mono ?_
  rintro e' w11 ⟨lv1,rfl,hk11,hb11,hwt1⟩
  have HB11:=hid (HB10.out.trans (hb11.mono HB10.out.size))
  clear c1 hb11
  have hn1:=HBR.out.n1
  obtain ⟨k1,t1,f1,e1,ks1⟩:=p1
  obtain ⟨a1,c1,rfl⟩:=J.kids_form hk11
  change ks1.length=3 at hn1
  rw [show arg (.mk k1 t1 f1 e1 ks1) (.slice a1 ks1.length c1)=.agg #[.string (bstr k1),.string (bstr t1),.int .i64 f1,.int .i64 e1,.slice a1 ks1.length c1] from rfl]
  obtain ⟨kb1,hkb1⟩:∃ z,bstr k1=z:=⟨_,rfl⟩
  obtain ⟨tb1,htb1⟩:∃ z,bstr t1=z:=⟨_,rfl⟩
  rw [hn1] at hk11 ⊢
  rw [hkb1,htb1]
  have HP1:=hid (show Value.agg #[.string kb1,.string tb1,.int .i64 f1,.int .i64 e1,.slice a1 3 c1]=arg (.mk k1 t1 f1 e1 ks1) (.slice a1 3 c1) by rw [← hkb1,← htb1];rfl)
  have HK11:=hid hk11
  have HW1:=hid hwt1
  have HN1:=hid hn1
  clear hkb1 htb1 hk11 hwt1 hn1
  go_upto_region 11 with fail
  obtain ⟨w12,hw12,hq12,hb12,hz12⟩:=new_block w11 (.cells #[.string kb1,.string tb1,.int .i64 f1,.int .i64 e1,.slice a1 3 c1] 25)
  rw [hw12]
  have HK12:=hid (kids_below HK11.out hb12)
  have HB12:=hid (HB11.out.trans (hb12.mono HB11.out.size))
  obtain ⟨bp,hbp⟩:∃ z,w11.heap.size=z:=⟨_,rfl⟩
  rw [hbp] at hq12 hz12 ⊢
  have HQ12:=hid hq12
  have HZ12:=hid hz12
  clear hw12 hb12 hbp hq12 hz12 HK11
  have c1':=br_told (s:=⟨#[102,117,110,99,32,102,40,41,32,123,32,114,101,116,117,114,110,32,40,40]⟩++sb++⟨#[41,41,32,125]⟩) (by rw [← HSB.out];show bstr brB++bstr S++bstr brY=_;rw [add_bstr,add_bstr,List.append_assoc]) HBR.out.ok2 HBR.out.d2 w12 (by simp only [List.length_append,brB,brY,List.length_cons,List.length_nil];omega) (HT.out _ (HB8.out.trans (HB12.out.mono HB8.out.size))) (HG.out _ (HB8.out.trans (HB12.out.mono HB8.out.size)))
  go_wp2_with fail
  refine c1'.mono ?_
  rintro e' w13 ⟨lv2,rfl,hk13,hb13,hwt2⟩
  have HB13:=hid (HB12.out.trans (hb13.mono HB12.out.size))
  have HK13p:=hid (kids_below HK12.out hb13)
  have HQ13:=hid ((hb13.block _ HZ12.out).trans HQ12.out)
  have HZ13:=hid (Nat.lt_of_lt_of_le HZ12.out hb13.size)
  clear c1' hb13 HK12 HQ12 HZ12
  obtain ⟨k2,t2,f2,e2,ks2⟩:=q1
  obtain ⟨a2,c2,rfl⟩:=J.kids_form hk13
  rw [show arg (.mk k2 t2 f2 e2 ks2) (.slice a2 ks2.length c2)=.agg #[.string (bstr k2),.string (bstr t2),.int .i64 f2,.int .i64 e2,.slice a2 ks2.length c2] from rfl]
  obtain ⟨kb2,hkb2⟩:∃ z,bstr k2=z:=⟨_,rfl⟩
  obtain ⟨tb2,htb2⟩:∃ z,bstr t2=z:=⟨_,rfl⟩
  obtain ⟨n2,hn2⟩:∃ z,ks2.length=z:=⟨_,rfl⟩
  rw [hn2,hkb2,htb2]
  have HP2:=hid (show Value.agg #[.string kb2,.string tb2,.int .i64 f2,.int .i64 e2,.slice a2 n2 c2]=arg (.mk k2 t2 f2 e2 ks2) (.slice a2 ks2.length c2) by rw [← hkb2,← htb2,← hn2];rfl)
  have HK13:=hid hk13
  have HW2:=hid hwt2
  clear hkb2 htb2 hn2 hk13 hwt2
  go_upto_region 12 with fail
  obtain ⟨w14,hw14,hq14,hb14,hz14⟩:=new_block w13 (.cells #[.string kb2,.string tb2,.int .i64 f2,.int .i64 e2,.slice a2 n2 c2] 25)
  rw [hw14]
  have HKp:=hid (kids_below HK13p.out hb14)
  have HKq:=hid (kids_below HK13.out hb14)
  have HB14:=hid (HB13.out.trans (hb14.mono HB13.out.size))
  have HQp:=hid ((hb14.block _ HZ13.out).trans HQ13.out)
  have HZp:=hid (Nat.lt_of_lt_of_le HZ13.out hb14.size)
  obtain ⟨bq,hbq⟩:∃ z,w13.heap.size=z:=⟨_,rfl⟩
  rw [hbq] at hq14 hz14 ⊢
  have HQq:=hid hq14
  have HZq:=hid hz14
  clear hw14 hb14 hbq hq14 hz14 HK13 HK13p HQ13 HZ13
  obtain ⟨P9,hP9⟩:∃ z,kidAt (ksP (kidAt (ksP (kidAt ks1 2)) 0)) 0=z:=⟨_,rfl⟩
  obtain ⟨g7,o7,g8,o8,g9,o9,c8,c9,y0,y1,f9,e9,a9,n9,c9',lv9,rfl,z1,z2,v0,v1,v2,v3,v4,hv9,hk9⟩:=br_cells HKp.out HN1.out HBR.out.n2 HBR.out.n3 hP9
  have ha2:=HBR.out.a2
  change alikeP (kidAt (ksP (kidAt (ksP (kidAt ks1 2)) 0)) 0) _=true at ha2
  rw [hP9] at ha2
  have HV9:=hid hv9
  have HK9:=hid hk9
  have HA2:=hid ha2
  clear hP9 hv9 hk9 ha2
  obtain ⟨⟨p0,p1',p2,p3,p4⟩,pf⟩:=J.cells_five HQp.out
  have HL:=hid (fun X (hX:Below w14.heap.size w14 X)=>And.intro ((hX.cell (World.block_lt_of_cell? w14 _ z1)).trans z1) (And.intro ((hX.cell (World.block_lt_of_cell? w14 _ z2)).trans z2) (And.intro ((hX.cell (World.block_lt_of_cell? w14 _ v0)).trans v0) (And.intro ((hX.cell (World.block_lt_of_cell? w14 _ v1)).trans v1) (And.intro ((hX.cell (World.block_lt_of_cell? w14 _ v2)).trans v2) (And.intro ((hX.cell (World.block_lt_of_cell? w14 _ v3)).trans v3) ((hX.cell (World.block_lt_of_cell? w14 _ v4)).trans v4)))))))
  clear v0 v1 v2 v3 v4
  go_upto_region 14 with fail
  have HTB:=hid (fun X (hX:Below w14.heap.size w14 X)=>((HB14.out.trans (hX.mono HB14.out.size)).block bt (Array.getElem?_eq_some_iff.1 HQT.out).1).trans HQT.out)
  have HPB:=hid (fun X (hX:Below w14.heap.size w14 X)=>(hX.block _ HZp.out).trans HQp.out)
  have HQB:=hid (fun X (hX:Below w14.heap.size w14 X)=>(hX.block _ HZq.out).trans HQq.out)
  have HW:=hid (fun X (hX:Below w14.heap.size w14 X)=>HB8.out.trans ((HB14.out.trans (hX.mono HB14.out.size)).mono HB8.out.size))
  have HKT9:=hid (fun X (hX:Below w14.heap.size w14 X)=>kids_below HKT.out (HB14.out.trans (hX.mono HB14.out.size)))
  have cA:=hid (fun X (hX:Below w14.heap.size w14 X)=>alive_any X (HT.out _ (HW.out X hX)) (HG.out _ (HW.out X hX)))
  have cP:=hid (fun X (hX:Below w14.heap.size w14 X)=>alike_part _ _ _ _ _ _ (fun _=>True) (fun _=>True) X HP1.out HP2.out (kids_below HKp.out hX) (kids_below HKq.out hX) (by have:=HW1.out;omega) (by have:=HW2.out;omega))
  rw [HBR.out.a1] at cP
  have hw9:wtP P9≤1099511627776:=by rw [alike_wt2 HA2.out];omega
  have cT:=hid (fun X (hX:Below w14.heap.size w14 X)=>alike_part P9 (twoP m n true) _ _ _ _ (fun _=>True) (fun _=>True) X HV9.out HCS.out (kids_below HK9.out hX) (HKT9.out X hX) hw9 (by omega))
  rw [HA2.out] at cT
  have HB:=hid (Below.refl w14.heap.size w14).drew
  refine wp_region_held_drew (S:=fun X:World=>Below w14.heap.size w14 X) (by kernel_rfl) HB.out (fun hHeld=>?_)
  refine wpAnyH_ready (rs:=[0]) (by kernel_rfl) (by simp) ?_
  refine (AllReadyH.cons (o:=OP.p99) rfl (fun K hK=>?_) AllReadyH.nil)
  refine wanted_step (by kernel_rfl) ?_
  go_simp
  go_at_call 11
  refine (cA.out _ HB.out).mono ?_
  rintro e' w15 ⟨rfl,hb⟩
  dsimp only
  replace HB:=hid (HB.out.trans (hb.mono HB.out.size))
  clear hb
  refine hK.out _ _ (HB.out) (fun hHeld=>?_)
  (try simp only [Act.put,List.setIfInBounds_toArray,List.set_cons_zero,List.set_cons_succ])
  clear hK K
  refine wpAnyH_take (i:=1) (oi:=OP.p100) (v:=.bool true) rfl (by kernel_rfl) (by kernel_rfl) (by kernel_rfl) (fun _ _ _ h=>h) (Or.inl ⟨by rfl,fun X hX=>rfl⟩) hHeld ?_
  (try simp only [Act.put,List.setIfInBounds_toArray,List.set_cons_zero,List.set_cons_succ])
  refine wpAnyH_take (i:=2) (oi:=OP.p101) (v:=(.agg #[.string kb1,.string tb1,.int .i64 f1,.int .i64 e1,.slice (some ⟨g7,o7,none⟩) 3 c1])) rfl (by kernel_rfl) (by kernel_rfl) (by kernel_rfl) (fun _ _ _ h=>h) (yields_load 25 (.tmp 14) rfl (by rfl) (fun X hX=>load_five (HPB.out X hX))) hHeld ?_
  (try simp only [Act.put,List.setIfInBounds_toArray,List.set_cons_zero,List.set_cons_succ])
  refine wpAnyH_take (i:=3) (oi:=OP.p102) (v:=(.agg #[.string kb2,.string tb2,.int .i64 f2,.int .i64 e2,.slice a2 n2 c2])) rfl (by kernel_rfl) (by kernel_rfl) (by kernel_rfl) (fun _ _ _ h=>h) (yields_load 25 (.tmp 17) rfl (by rfl) (fun X hX=>load_five (HQB.out X hX))) hHeld ?_
  (try simp only [Act.put,List.setIfInBounds_toArray,List.set_cons_zero,List.set_cons_succ])
  refine wpAnyH_ready (rs:=[4]) (by kernel_rfl) (by simp) ?_
  refine (AllReadyH.cons (o:=OP.p103) rfl (fun K hK=>?_) AllReadyH.nil)
  refine wanted_step (by kernel_rfl) ?_
  go_simp
  go_at_call 13
  refine (cP.out _ HB.out).mono ?_
  rintro e' w16 ⟨rfl,hb⟩
  dsimp only
  replace HB:=hid (HB.out.trans (hb.mono HB.out.size))
  clear hb
  refine hK.out _ _ (HB.out) (fun hHeld=>?_)
  (try simp only [Act.put,List.setIfInBounds_toArray,List.set_cons_zero,List.set_cons_succ])
  clear hK K
  refine wpAnyH_take (i:=5) (oi:=OP.p104) (v:=.bool true) rfl (by kernel_rfl) (by kernel_rfl) (by kernel_rfl) (fun _ _ _ h=>h) (Or.inl ⟨by rfl,fun X hX=>rfl⟩) hHeld ?_
  (try simp only [Act.put,List.setIfInBounds_toArray,List.set_cons_zero,List.set_cons_succ])
  refine wpAnyH_take (i:=6) (oi:=OP.p105) (v:=.bool true) rfl (by kernel_rfl) (by kernel_rfl) (by kernel_rfl) (fun _ _ _ h=>h) (Or.inl ⟨by rfl,fun X hX=>rfl⟩) hHeld ?_
  (try simp only [Act.put,List.setIfInBounds_toArray,List.set_cons_zero,List.set_cons_succ])
  refine wpAnyH_take (i:=7) (oi:=OP.p106) (v:=(.pointer (some ⟨bp,4,none⟩))) rfl (by kernel_rfl) (by kernel_rfl) (by kernel_rfl) (fun _ _ _ h=>h) (Or.inl ⟨by rfl,fun X hX=>rfl⟩) hHeld ?_
  (try simp only [Act.put,List.setIfInBounds_toArray,List.set_cons_zero,List.set_cons_succ])
  refine wpAnyH_take (i:=8) (oi:=OP.p107) (v:=(.slice (some ⟨g7,o7,none⟩) 3 c1)) rfl (by kernel_rfl) (by kernel_rfl) (by kernel_rfl) (fun _ _ _ h=>h) (yields_load 23 (.tmp 107) rfl (by rfl) (fun X hX=>load_sl (J.cells_five (HPB.out X hX)).1.2.2.2.2)) hHeld ?_
  (try simp only [Act.put,List.setIfInBounds_toArray,List.set_cons_zero,List.set_cons_succ])
  refine wpAnyH_take (i:=9) (oi:=OP.p108) (v:=(.pointer (some ⟨g7,o7+2*5,none⟩))) rfl (by kernel_rfl) (by kernel_rfl) (by kernel_rfl) (fun _ _ _ h=>h) (yields_idx (Operand.tmp 108) (Operand.const (Value.int IntKind.i64 2)) 2 rfl (by rfl) rfl rfl (by decide)) hHeld ?_
  (try simp only [Act.put,List.setIfInBounds_toArray,List.set_cons_zero,List.set_cons_succ])
  refine wpAnyH_take (i:=10) (oi:=OP.p109) (v:=(.pointer (some ⟨g7,o7+2*5+4,none⟩))) rfl (by kernel_rfl) (by kernel_rfl) (by kernel_rfl) (fun _ _ _ h=>h) (Or.inl ⟨by rfl,fun X hX=>rfl⟩) hHeld ?_
  (try simp only [Act.put,List.setIfInBounds_toArray,List.set_cons_zero,List.set_cons_succ])
  refine wpAnyH_take (i:=11) (oi:=OP.p110) (v:=(.slice (some ⟨g8,o8,none⟩) 1 c8)) rfl (by kernel_rfl) (by kernel_rfl) (by kernel_rfl) (fun _ _ _ h=>h) (yields_load 23 (.tmp 110) rfl (by rfl) (fun X hX=>load_sl (HL.out X hX).1)) hHeld ?_
  (try simp only [Act.put,List.setIfInBounds_toArray,List.set_cons_zero,List.set_cons_succ])
  refine wpAnyH_take (i:=12) (oi:=OP.p111) (v:=(.pointer (some ⟨g8,o8+0*5,none⟩))) rfl (by kernel_rfl) (by kernel_rfl) (by kernel_rfl) (fun _ _ _ h=>h) (yields_idx (Operand.tmp 111) (Operand.const (Value.int IntKind.i64 0)) 0 rfl (by rfl) rfl rfl (by decide)) hHeld ?_
  (try simp only [Act.put,List.setIfInBounds_toArray,List.set_cons_zero,List.set_cons_succ])
  refine wpAnyH_take (i:=13) (oi:=OP.p112) (v:=(.pointer (some ⟨g8,o8+0*5+4,none⟩))) rfl (by kernel_rfl) (by kernel_rfl) (by kernel_rfl) (fun _ _ _ h=>h) (Or.inl ⟨by rfl,fun X hX=>rfl⟩) hHeld ?_
  (try simp only [Act.put,List.setIfInBounds_toArray,List.set_cons_zero,List.set_cons_succ])
  refine wpAnyH_take (i:=14) (oi:=OP.p113) (v:=(.slice (some ⟨g9,o9,none⟩) 1 c9)) rfl (by kernel_rfl) (by kernel_rfl) (by kernel_rfl) (fun _ _ _ h=>h) (yields_load 23 (.tmp 113) rfl (by rfl) (fun X hX=>load_sl (HL.out X hX).2.1)) hHeld ?_
  (try simp only [Act.put,List.setIfInBounds_toArray,List.set_cons_zero,List.set_cons_succ])
  refine wpAnyH_take (i:=15) (oi:=OP.p114) (v:=(.pointer (some ⟨g9,o9+0*5,none⟩))) rfl (by kernel_rfl) (by kernel_rfl) (by kernel_rfl) (fun _ _ _ h=>h) (yields_idx (Operand.tmp 114) (Operand.const (Value.int IntKind.i64 0)) 0 rfl (by rfl) rfl rfl (by decide)) hHeld ?_
  (try simp only [Act.put,List.setIfInBounds_toArray,List.set_cons_zero,List.set_cons_succ])
  refine wpAnyH_take (i:=16) (oi:=OP.p115) (v:=(.agg #[.string y0,.string y1,.int .i64 f9,.int .i64 e9,.slice a9 n9 c9'])) rfl (by kernel_rfl) (by kernel_rfl) (by kernel_rfl) (fun _ _ _ h=>h) (yields_load 25 (.tmp 115) rfl (by rfl) (fun X hX=>load_at5 (HL.out X hX).2.2.1 (HL.out X hX).2.2.2.1 (HL.out X hX).2.2.2.2.1 (HL.out X hX).2.2.2.2.2.1 (HL.out X hX).2.2.2.2.2.2)) hHeld ?_
  (try simp only [Act.put,List.setIfInBounds_toArray,List.set_cons_zero,List.set_cons_succ])
  refine wpAnyH_take (i:=17) (oi:=OP.p116) (v:=(.agg #[.string ⟨#[98,105,110,97,114,121]⟩,.string nb,.int .i64 0,.int .i64 0,.slice (some ⟨g3,0,none⟩) 2 2])) rfl (by kernel_rfl) (by kernel_rfl) (by kernel_rfl) (fun _ _ _ h=>h) (yields_load 25 (.tmp 12) rfl (by rfl) (fun X hX=>load_five (HTB.out X hX))) hHeld ?_
  (try simp only [Act.put,List.setIfInBounds_toArray,List.set_cons_zero,List.set_cons_succ])
  refine wpAnyH_ready (rs:=[18]) (by kernel_rfl) (by simp) ?_
  refine (AllReadyH.cons (o:=OP.p117) rfl (fun K hK=>?_) AllReadyH.nil)
  refine wanted_step (by kernel_rfl) ?_
  go_simp
  go_at_call 13
  refine (cT.out _ HB.out).mono ?_
  rintro e' w17 ⟨rfl,hb⟩
  dsimp only
  replace HB:=hid (HB.out.trans (hb.mono HB.out.size))
  clear hb
  refine hK.out _ _ (HB.out) (fun hHeld=>?_)
  (try simp only [Act.put,List.setIfInBounds_toArray,List.set_cons_zero,List.set_cons_succ])
  clear hK K
  refine wpAnyH_take (i:=19) (oi:=OP.p118) (v:=.bool true) rfl (by kernel_rfl) (by kernel_rfl) (by kernel_rfl) (fun _ _ _ h=>h) (Or.inl ⟨by rfl,fun X hX=>rfl⟩) hHeld ?_
  (try simp only [Act.put,List.setIfInBounds_toArray,List.set_cons_zero,List.set_cons_succ])
  refine wpAnyH_take (i:=20) (oi:=OP.p119) (v:=.bool true) rfl (by kernel_rfl) (by kernel_rfl) (by kernel_rfl) (fun _ _ _ h=>h) (Or.inl ⟨by rfl,fun X hX=>rfl⟩) hHeld ?_
  (try simp only [Act.put,List.setIfInBounds_toArray,List.set_cons_zero,List.set_cons_succ])
  refine wpAnyH_done (by kernel_rfl) ?_ _
  clear hHeld
  (try go_wp2_with fail)
  go_ret
  exact ⟨rfl,HW.out _ HB.out⟩
end Go.Proofs.YtmclaaonlhnbmaaGreatDoor.H
