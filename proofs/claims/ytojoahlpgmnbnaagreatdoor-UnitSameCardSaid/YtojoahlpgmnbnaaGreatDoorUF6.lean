/- What the claim needs of the texts KWrap, KStr. -/
import Derived.Test.YtojoahlpgmnbnaaGreatDoorUFOp
import Derived.Test.YtojoahlpgmnbnaaGreatDoorUF5
namespace Go.Proofs.YtojoahlpgmnbnaaGreatDoor.K
open Go.RowKit
open Go.Lib hiding intOf
open U S T
section
variable {d:Nat} {L:List TokP} {size:Nat} {lv:Value} {s:St} {O:Nat→Prop}
theorem parts_split {W:World} {Q:Nat→Prop}:∀ {l:List Pt} {xs:List Value} {p:Pt},PartsIn W Q (l++[p]) xs→∃ ys plv,xs=ys++five p plv∧PartsIn W Q l ys∧KidsIn W Q p plv
 | [],xs,p,⟨pv,rest,h1,h2,h3⟩=>⟨[],pv,by rw [h1,show rest=[] from h3];simp,rfl,h2⟩
 | q :: r,xs,p,⟨qv,rest,h1,h2,h3⟩=>by
  obtain ⟨ys,plv,h4,h5,h6⟩:=parts_split h3
  exact ⟨five q qv++ys,plv,by rw [h1,h4,List.append_assoc],⟨qv,ys,rfl,h2,h5⟩,h6⟩
theorem drop_kid {W:World} {tv ov:Value} {bs bs1:List (Option Nat)} {us xs us1 ks:List Value} {a:Open} {r:List Open} {g c m qc:Nat} {qa:Option Addr} {l:List Pt} {p:Pt} (hM:MemX d L size lv s O tv ov bs us xs W) (hs:s.opn=a :: r) (hT:TopAt d O a r ov bs xs W g c (.slice qa (m+1) qc) ks us1 bs1) (hk:a.kids=l++[p]) (hm:l.length=m) :
  ∃ gk ys plv,qa=some ⟨gk,0,none⟩∧ks=ys++five p plv∧KidsIn W (Fr O W) p plv∧m≤qc∧(∀ j,j<5→W.cell? ⟨gk,m*5+j,none⟩=(five p plv)[j]?)∧gk<W.heap.size∧gk≠g ∧
   MemX d L size lv { s with opn:={ a with kids:=l } :: r } O tv ov bs us (us1++six { a with kids:=l } (.slice qa m qc)) (W.setCell ⟨g,r.length*6+4,none⟩ (.slice qa m qc))∧Stay O O W (W.setCell ⟨g,r.length*6+4,none⟩ (.slice qa m qc)):=by
 have hp:=hT.parts
 rw [hk] at hp
 obtain ⟨ys,plv,h1,h2,h3⟩:=parts_split hp
 have hown:=hT.own
 rw [hk,List.length_append,hm] at hown
 obtain ⟨gk,kc,he,_,hgl⟩:=hown.form (Nat.succ_pos m)
 cases he
 have hlen:ys.length=m*5:=by have:=hown.1;rw [h1,List.length_append,five_length] at this;simp at this;omega
 have hcap:m≤qc:=by
  rcases hown.2 with ⟨h,_⟩|⟨_,_,_,h,_,_,h4,_⟩
  ·cases h
  ·cases h;omega
 have hcell:∀ j,j<5→W.cell? ⟨gk,m*5+j,none⟩=(five p plv)[j]?:=fun j hj=>by
  have h:=hown.cellAt (m*5+j) (by show _<(m+1)*5;omega)
  rw [h,h1,List.getElem?_append_right (by omega),show m*5+j - ys.length=j by omega]
 have hne:gk≠g:=fun e=>by
  have h4:=owns_ty hown (k:=gk) rfl
  rw [e] at h4
  exact absurd (h4.one hT.ty) (by decide)
 rw [h1] at hown
 have hdrop:=owns_take hown hlen
 obtain ⟨q1,q2⟩:=put_top hM hs hT 4 (by decide) (.slice (some ⟨gk,0,none⟩) m qc) (o':={ a with kids:=l }) (kv':=.slice (some ⟨gk,0,none⟩) m qc) (ks':=ys) rfl (by show W.ownsRow 0 _ 5 _ l.length _;rw [hm];exact hdrop) h2 rfl
 exact ⟨gk,ys,plv,rfl,h1,h3,hcap,hcell,hgl,hne,q1,q2⟩
theorem top_blk {W:World} {tv ov kv:Value} {bs bs1:List (Option Nat)} {us xs us1 ks:List Value} {a:Open} {r:List Open} {g c:Nat} (hM:MemX d L size lv s O tv ov bs us xs W) (hs:s.opn=a :: r) (hT:TopAt d O a r ov bs xs W g c kv ks us1 bs1):∃ cs,W.heap[g]?=some (.cells cs 128 (0,0)):=by
 have hR:=hM.opnR
 rw [hs,hT.hov] at hR
 rcases hR.2 with ⟨h,_⟩|⟨_,_,cur,h,_,h3,_⟩
 ·cases h
 ·cases h;exact ⟨cur,h3⟩
set_option maxHeartbeats 16000000 in
set_option maxRecDepth 20000 in
theorem g_wrap {W:World} (hM:Mem d L size lv s O W) (hs:Small L s) (k:By) (a:Open) (r:List Open) (ho:s.opn=a :: r) (l:List Pt) (p:Pt) (hk:a.kids=l++[p]) :
  Calls Tryz.prog 158 #[ptr d,.string (bstr k)] W fun e W'=>e=.returned (.tuple #[])∧∃ O',Mem d L size lv { s with opn:=⟨k,[],a.kf,[p],0⟩ :: { a with kids:=l } :: r } O' W'∧Stay O O' W W':=by
 obtain ⟨tv,ov,bs,us,xs,hX⟩:=id hM
 obtain ⟨g,c,kv,ks,us1,bs1,hT⟩:=top_of hX ho
 obtain ⟨qa,qc,rfl⟩:=owns_len hT.own
 obtain ⟨m,hm⟩:∃ m,l.length=m:=⟨_,rfl⟩
 have hkl:a.kids.length=m+1:=by rw [hk,List.length_append,hm];rfl
 have hml:m+1≤1000000:=by rw [← hkl];exact hs.kids a (by rw [ho];exact List.mem_cons_self)
 have hrl:r.length≤1000000:=by have:=hs.opn;rw [ho,List.length_cons] at this;omega
 rw [hkl] at hT
 obtain ⟨gk,ys,plv,rfl,hks,hki,hcap,hcell,hgl,hgk,hXV,hSV⟩:=drop_kid hX ho hT hk hm
 obtain ⟨pa,pn,pc,rfl⟩:=kids_form hki
 obtain ⟨q0,q1,q2,q3,hfive⟩:=five_form p (.slice pa pn pc)
 obtain ⟨cs,hgb⟩:=top_blk hX ho hT
 have cT:=top_any hX hT hrl (Below.refl _ _)
 have k4:=hT.cell 4 _ rfl
 have k5:=hT.cell 5 _ rfl
 have f4:=hT.frozen (r.length*6+4)
 have e0:W.cell? ⟨gk,m*5,none⟩=some (.string q0):=by rw [show m*5=m*5+0 from rfl,hcell 0 (by omega),hfive];rfl
 have e1:W.cell? ⟨gk,m*5+1,none⟩=some (.string q1):=by rw [hcell 1 (by omega),hfive];rfl
 have e2:W.cell? ⟨gk,m*5+2,none⟩=some (.int .i64 q2):=by rw [hcell 2 (by omega),hfive];rfl
 have e3:W.cell? ⟨gk,m*5+3,none⟩=some (.int .i64 q3):=by rw [hcell 3 (by omega),hfive];rfl
 have e4:W.cell? ⟨gk,m*5+4,none⟩=some (.slice pa pn pc):=by rw [hcell 4 (by omega),hfive];rfl
 obtain ⟨N,hN⟩:∃ N,m+1=N:=⟨_,rfl⟩
 rw [hN] at k4
 have hm0:(0:Int)≤(m:Int):=by omega
 have hmN:(m:Int)<(N:Int):=by omega
 have hmN':m<N:=by omega
 have hmc:(m:Int)≤(qc:Int):=by omega
 have hi1:IntKind.i64.wrap ((N:Int) - 1)=(m:Int):=(IntWalk.i64_in _ (by omega)).trans (by omega)
 obtain ⟨V,hV⟩:∃ V,W.setCell ⟨g,r.length*6+4,none⟩ (.slice (some ⟨gk,0,none⟩) m qc)=V:=⟨_,rfl⟩
 rw [hV] at hXV hSV
 have hVs:V.heap.size=W.heap.size:=by rw [← hV];simp
 have HBoth:Hid (∀ X,Below W.heap.size W X→Below W.heap.size V (X.setCell ⟨g,r.length*6+4,none⟩ (.slice (some ⟨gk,0,none⟩) m qc))):=hid (fun X hX=>by rw [← hV];exact below_both _ hX hT.lt hgb)
 have hglt:=hT.lt
 have k5V:V.cell? ⟨g,r.length*6+5,none⟩=some (.int .i64 a.kf):=by
  obtain ⟨g2,c2,kv2,ks2,us2,bs2,hT2⟩:=top_of hXV (o:={ a with kids:=l }) (r:=r) rfl
  have h2:=hT2.hov
  rw [hT.hov] at h2
  simp only [Value.slice.injEq,Option.some.injEq,Addr.mk.injEq,and_true,true_and] at h2
  rw [h2.1]
  exact hT2.cell 5 _ rfl
 have HXV:=hid hXV
 have HSV:=hid hSV
 have HKI:=hid hki
 have H5:=hid hfive
 have HVs:=hid hVs
 have HM:=hid hm
 have HK5:=hid k5V
 have HOV:=hid hT.hov
 have HTy:=hid hT.ty
 clear hX hT hXV hSV hki hfive hVs hV hgb hcell hks hkl hk hm k5 hN k5V hgl
 go_enter Tryz.func158,Tryz.ntmps158
 go_wp2_with fail
 refine cT.mono ?_
 rintro e v0 ⟨rfl,m0,rfl⟩
 dsimp only
 replace k4:(W.drewN m0).cell? _=_:=k4
 replace f4:(W.drewN m0).frozen? _=_:=f4
 replace e0:(W.drewN m0).cell? _=_:=e0
 replace e1:(W.drewN m0).cell? _=_:=e1
 replace e2:(W.drewN m0).cell? _=_:=e2
 replace e3:(W.drewN m0).cell? _=_:=e3
 replace e4:(W.drewN m0).cell? _=_:=e4
 have HB1:=hid (drewB' W m0)
 generalize W.drewN m0=W1 at HB1 k4 f4 e0 e1 e2 e3 e4 ⊢
 clear cT
 have hg1:g<W1.heap.size:=Nat.lt_of_lt_of_le hglt HB1.out.size
 go_upto_region 4 with fail
 clear k4 f4 e0 e1 e2 e3 e4 hi1 hm0 hmN hmN' hmc
 have hB1s:=HBoth.out W1 HB1.out
 obtain ⟨W2,hW2⟩:∃ W2,W1.setCell ⟨g,r.length*6+4,none⟩ (.slice (some ⟨gk,0,none⟩) m qc)=W2:=⟨_,rfl⟩
 rw [hW2] at hB1s ⊢
 have hz2:W2.heap.size=W1.heap.size:=by rw [← hW2];simp
 rw [← hz2]
 obtain ⟨bp,hbp⟩:∃ bp,W2.heap.size=bp:=⟨_,rfl⟩
 obtain ⟨W3,hW3⟩:∃ W3,W2.alloc (.cells #[.string q0,.string q1,.int .i64 q2,.int .i64 q3,.slice pa pn pc] 49)=W3:=⟨_,rfl⟩
 have hb3:W3.heap[bp]?=some (.cells #[.string q0,.string q1,.int .i64 q2,.int .i64 q3,.slice pa pn pc] 49 (0,0)):=by rw [← hW3,← hbp];exact heap_new _ _
 have hB3:Below W.heap.size V W3:=by rw [← hW3];exact hB1s.alloc (by have:=hB1s.size;rw [HVs.out] at this;exact this) _
 rw [hbp,hW3]
 obtain ⟨Wd,hWd⟩:∃ Wd,W3.drew=Wd:=⟨_,rfl⟩
 have hbd:Wd.heap[bp]?=some (.cells #[.string q0,.string q1,.int .i64 q2,.int .i64 q3,.slice pa pn pc] 49 (0,0)):=by rw [← hWd];exact hb3
 have hBd:Below W.heap.size V Wd:=by rw [← hWd];exact hB3.drew
 have hBV:Below V.heap.size V Wd:=by rw [HVs.out];exact hBd
 have hbl:bp<Wd.heap.size:=(Array.getElem?_eq_some_iff.1 hbd).1
 obtain ⟨kf,hkf⟩:∃ kf,a.kf=kf:=⟨_,rfl⟩
 obtain ⟨kk,hkk⟩:∃ kk,bstr k=kk:=⟨_,rfl⟩
 have hba1:Below Wd.heap.size Wd (Wd.alloc (.cells #[.string q0,.string q1,.int .i64 q2,.int .i64 q3,.slice pa pn pc] 49)):=(Below.refl _ _).alloc (Nat.le_refl _) _
 have hba2:Below Wd.heap.size Wd ((Wd.alloc (.cells #[.string q0,.string q1,.int .i64 q2,.int .i64 q3,.slice pa pn pc] 49)).alloc (.cells #[.string kk,.string ⟨#[]⟩,.int .i64 kf,.int .i64 0,.slice (some ⟨Wd.heap.size,0,none⟩) 1 1,.int .i64 0] 128)):=hba1.alloc hba1.size _
 have hBA2:Below V.heap.size V ((Wd.alloc (.cells #[.string q0,.string q1,.int .i64 q2,.int .i64 q3,.slice pa pn pc] 49)).alloc (.cells #[.string kk,.string ⟨#[]⟩,.int .i64 kf,.int .i64 0,.slice (some ⟨Wd.heap.size,0,none⟩) 1 1,.int .i64 0] 128)):=hBV.trans (hba2.mono hBV.size)
 have hd3:V.cell? ⟨d,3,none⟩=some ov:=by have h:=HXV.out.blk;simp [World.cell?,h]
 have hdl:d<V.heap.size:=(Array.getElem?_eq_some_iff.1 HXV.out.blk).1
 have hgl:g<V.heap.size:=by rw [HVs.out];exact hglt
 have hR:=HXV.out.opnR
 obtain ⟨n,hn⟩:∃ n,r.length+1=n:=⟨_,rfl⟩
 have hnl:n≤1000001:=by omega
 have hov:=HOV.out
 rw [hn] at hov
 replace hR:V.ownsRow 0 128 6 (.slice (some ⟨g,0,none⟩) n c) n (us1++six { a with kids:=l } (.slice (some ⟨gk,0,none⟩) m qc)):=by
  rw [hov] at hR
  rw [show (({ s with opn:={ a with kids:=l } :: r }:St).opn).length=n from hn] at hR
  exact hR
 rw [hov] at hd3
 have cell3:∀ X,Below V.heap.size V X→X.cell? ⟨d,3,none⟩=some (.slice (some ⟨g,0,none⟩) n c):=fun X hX=>(hX.cell (p:=⟨d,3,none⟩) hdl).trans hd3
 have HC3_0:=hid (cell3 _ hBV)
 have HC3_1:=hid (cell3 _ (hBV.trans (hba1.mono hBV.size)))
 have HC3_2:=hid (cell3 _ hBA2)
 have HC9_0:Hid (Wd.cell? ⟨g,r.length*6+5,none⟩=some (.int .i64 a.kf)):=hid ((hBV.cell (p:=⟨g,r.length*6+5,none⟩) hgl).trans HK5.out)
 have HC9_1:Hid ((Wd.alloc (.cells #[.string q0,.string q1,.int .i64 q2,.int .i64 q3,.slice pa pn pc] 49)).cell? ⟨g,r.length*6+5,none⟩=some (.int .i64 a.kf)):=hid (((hBV.trans (hba1.mono hBV.size)).cell (p:=⟨g,r.length*6+5,none⟩) hgl).trans HK5.out)
 have HS0:=hid hbd
 have HS1:=hid ((hba1.block bp hbl).trans hbd)
 have HS2:=hid ((hba2.block bp hbl).trans hbd)
 rw [hkf] at HC9_0 HC9_1
 rw [hkk]
 have HRow:=hid (owns_later hR hBA2)
 obtain ⟨iB,hi0,hz0,hz1,hzz⟩:=info_parts infoB
 have HKf:=hid hkf
 have HNew:Hid (∀ j u,(six ⟨k,[],kf,[p],0⟩ (.slice (some ⟨Wd.heap.size,0,none⟩) 1 1))[j]?=some u→((Wd.alloc (.cells #[.string q0,.string q1,.int .i64 q2,.int .i64 q3,.slice pa pn pc] 49)).alloc (.cells #[.string kk,.string ⟨#[]⟩,.int .i64 kf,.int .i64 0,.slice (some ⟨Wd.heap.size,0,none⟩) 1 1,.int .i64 0] 128)).cell? ((⟨Wd.heap.size+1,0,none⟩:Addr).add j)=some u):=hid (by
  have h:=news_six (Wd.alloc (.cells #[.string q0,.string q1,.int .i64 q2,.int .i64 q3,.slice pa pn pc] 49)) ⟨k,[],kf,[p],0⟩ (.slice (some ⟨Wd.heap.size,0,none⟩) 1 1)
  rw [World.size_alloc] at h
  rw [show bstr (⟨k,[],kf,[p],0⟩:Open).k=kk from hkk] at h
  exact h)
 have HE:Hid (∀ (g5 c5:Nat) (w5:World),w5.ownsRow 0 128 6 (.slice (some ⟨g5,0,none⟩) (n+1) c5) (n+1) ((us1++six { a with kids:=l } (.slice (some ⟨gk,0,none⟩) m qc))++six ⟨k,[],kf,[p],0⟩ (.slice (some ⟨Wd.heap.size,0,none⟩) 1 1))→((Wd.alloc (.cells #[.string q0,.string q1,.int .i64 q2,.int .i64 q3,.slice pa pn pc] 49)).alloc (.cells #[.string kk,.string ⟨#[]⟩,.int .i64 kf,.int .i64 0,.slice (some ⟨Wd.heap.size,0,none⟩) 1 1,.int .i64 0] 128)).grownBy w5 (Value.slice (some ⟨g,0,none⟩) n c).ownBlock→((Value.slice (some ⟨g,0,none⟩) n c).ownBlock=some g5∨g5=((Wd.alloc (.cells #[.string q0,.string q1,.int .i64 q2,.int .i64 q3,.slice pa pn pc] 49)).alloc (.cells #[.string kk,.string ⟨#[]⟩,.int .i64 kf,.int .i64 0,.slice (some ⟨Wd.heap.size,0,none⟩) 1 1,.int .i64 0] 128)).heap.size) →
   w5.heap[bp]?=some (.cells #[.string q0,.string q1,.int .i64 q2,.int .i64 q3,.slice pa pn pc] 49 (0,0))∧(w5.setCell ⟨d,3,none⟩ (.slice (some ⟨g5,0,none⟩) (n+1) c5)).heap[bp]?=some (.cells #[.string q0,.string q1,.int .i64 q2,.int .i64 q3,.slice pa pn pc] 49 (0,0))∧w5.cell? ⟨d,3,none⟩=some (.slice (some ⟨g,0,none⟩) n c)∧w5.frozen? ⟨d,3,none⟩=false∧∃ O',Mem d L size lv { s with opn:=⟨k,[],kf,[p],0⟩ :: { a with kids:=l } :: r } O' (w5.setCell ⟨d,3,none⟩ (.slice (some ⟨g5,0,none⟩) (n+1) c5))∧Stay O O' W (w5.setCell ⟨d,3,none⟩ (.slice (some ⟨g5,0,none⟩) (n+1) c5))):=hid (by
  intro g5 c5 w5 hown hgrow hat
  have hkv:((Wd.alloc (.cells #[.string q0,.string q1,.int .i64 q2,.int .i64 q3,.slice pa pn pc] 49)).alloc (.cells #[.string kk,.string ⟨#[]⟩,.int .i64 kf,.int .i64 0,.slice (some ⟨Wd.heap.size,0,none⟩) 1 1,.int .i64 0] 128)).ownsRow 0 49 5 (.slice (some ⟨Wd.heap.size,0,none⟩) 1 1) 1 (five p (.slice pa pn pc)):=by
   rw [H5.out]
   exact (World.ownsRow_lit Wd #[.string q0,.string q1,.int .i64 q2,.int .i64 q3,.slice pa pn pc] 1 (Nat.zero_le _) (by decide) (by rfl)).alloc _
  have hX:=HXV.out
  rw [hov] at hX
  obtain ⟨h1,h2,O',h3,h4⟩:=push_open hX (m:=n) hn hBA2 hown hgrow hat (kv:=.slice (some ⟨Wd.heap.size,0,none⟩) 1 1) (ks:=five p (.slice pa pn pc)) hkv ⟨.slice pa pn pc,[],by simp,KidsIn.later (R:=Fr O W) (R':=Fr O V) (fun k hk _=>HSV.out.at hk) (fun k hk=>HSV.out.fr hk) p _ HKI.out,rfl⟩ (fun k hk=>by
   obtain rfl:Wd.heap.size=k:=Option.some.inj hk
   exact hBV.size)
  have hgb:g≠bp:=fun e=>by
   have h6:=hB1s.size
   rw [HVs.out] at h6
   omega
  have h5:w5.heap[bp]?=some (.cells #[.string q0,.string q1,.int .i64 q2,.int .i64 q3,.slice pa pn pc] 49 (0,0)):=(hgrow.block bp (Nat.lt_of_lt_of_le hbl hba2.size) (fun e=>hgb (Option.some.inj e).symm)).trans HS2.out
  have hdb:bp≠d:=by have h6:=hB1s.size;omega
  exact ⟨h5,(Below.heap_setCell _ _ _ _ hdb).trans h5,h1,h2,O',h3,HSV.out.trans h4⟩)
 clear hkf hR cell3 hBA2 hba1 hba2 hBV hBd hbd hbl hov hd3 hdl hgl hB1s hB3 hb3 hz2 hW2
 refine wp_region_held_drew (S:=fun X:World=>X.heap[bp]?=some (.cells #[.string q0,.string q1,.int .i64 q2,.int .i64 q3,.slice pa pn pc] 49 (0,0))) (by kernel_rfl) (by rw [hWd];exact HS0.out) (fun hHeld=>?_)
 rw [hWd] at hHeld ⊢
 refine wpAnyH_take (i:=0) (oi:=({ dst:=some 35,op:=Op.move (Operand.tmp 0),type:=110,pos := "reader.go:123",after:=#[],guard:=none }:Oper)) (v:=ptr d) rfl (by kernel_rfl) (by kernel_rfl) (by kernel_rfl) (fun _ _ _ h=>h) (Or.inl ⟨by rfl,fun X hX=>rfl⟩) hHeld ?_
 (try simp only [Act.put,List.setIfInBounds_toArray,List.set_cons_zero,List.set_cons_succ])
 refine wpAnyH_take (i:=1) (oi:=({ dst:=some 36,op:=Op.move (Operand.tmp 0),type:=110,pos := "reader.go:123",after:=#[],guard:=none }:Oper)) (v:=ptr d) rfl (by kernel_rfl) (by kernel_rfl) (by kernel_rfl) (fun _ _ _ h=>h) (Or.inl ⟨by rfl,fun X hX=>rfl⟩) hHeld ?_
 (try simp only [Act.put,List.setIfInBounds_toArray,List.set_cons_zero,List.set_cons_succ])
 refine wpAnyH_take (i:=2) (oi:=({ dst:=some 37,op:=Op.nilCheck (Operand.tmp 36),type:=0,pos := "reader.go:123",after:=#[{ on:=1,ground:=Ground.data }],guard:=none }:Oper)) (v:=ptr d) rfl (by kernel_rfl) (by kernel_rfl) (by kernel_rfl) (fun _ _ _ h=>h) (Or.inl ⟨by rfl,fun X hX=>rfl⟩) hHeld ?_
 (try simp only [Act.put,List.setIfInBounds_toArray,List.set_cons_zero,List.set_cons_succ])
 refine wpAnyH_take (i:=3) (oi:=({ dst:=some 38,op:=Op.fieldAddr 123 (Operand.tmp 37) 3,type:=0,pos := "reader.go:123",after:=#[{ on:=2,ground:=Ground.data }],guard:=none }:Oper)) (v:=.pointer (some ⟨d,3,none⟩)) rfl (by kernel_rfl) (by kernel_rfl) (by kernel_rfl) (fun _ _ _ h=>h) (Or.inl ⟨by rfl,fun X hX=>rfl⟩) hHeld ?_
 (try simp only [Act.put,List.setIfInBounds_toArray,List.set_cons_zero,List.set_cons_succ])
 refine wpAnyH_take (i:=5) (oi:=({ dst:=some 40,op:=Op.move (Operand.tmp 1),type:=9,pos := "reader.go:123",after:=#[],guard:=none }:Oper)) (v:=.string kk) rfl (by kernel_rfl) (by kernel_rfl) (by kernel_rfl) (fun _ _ _ h=>h) (Or.inl ⟨by rfl,fun X hX=>rfl⟩) hHeld ?_
 (try simp only [Act.put,List.setIfInBounds_toArray,List.set_cons_zero,List.set_cons_succ])
 refine wpAnyH_take (i:=6) (oi:=({ dst:=some 41,op:=Op.move (Operand.tmp 4),type:=129,pos := "reader.go:123",after:=#[],guard:=none }:Oper)) (v:=.pointer (some ⟨g,r.length*6,none⟩)) rfl (by kernel_rfl) (by kernel_rfl) (by kernel_rfl) (fun _ _ _ h=>h) (Or.inl ⟨by rfl,fun X hX=>rfl⟩) hHeld ?_
 (try simp only [Act.put,List.setIfInBounds_toArray,List.set_cons_zero,List.set_cons_succ])
 refine wpAnyH_take (i:=7) (oi:=({ dst:=some 42,op:=Op.nilCheck (Operand.tmp 41),type:=0,pos := "reader.go:123",after:=#[{ on:=6,ground:=Ground.data }],guard:=none }:Oper)) (v:=.pointer (some ⟨g,r.length*6,none⟩)) rfl (by kernel_rfl) (by kernel_rfl) (by kernel_rfl) (fun _ _ _ h=>h) (Or.inl ⟨by rfl,fun X hX=>rfl⟩) hHeld ?_
 (try simp only [Act.put,List.setIfInBounds_toArray,List.set_cons_zero,List.set_cons_succ])
 refine wpAnyH_take (i:=8) (oi:=({ dst:=some 43,op:=Op.fieldAddr 128 (Operand.tmp 42) 1,type:=0,pos := "reader.go:123",after:=#[{ on:=7,ground:=Ground.data }],guard:=none }:Oper)) (v:=.pointer (some ⟨g,r.length*6+5,none⟩)) rfl (by kernel_rfl) (by kernel_rfl) (by kernel_rfl) (fun _ _ _ h=>h) (Or.inl ⟨by rfl,fun X hX=>rfl⟩) hHeld ?_
 (try simp only [Act.put,List.setIfInBounds_toArray,List.set_cons_zero,List.set_cons_succ])
 refine wpAnyH_take (i:=10) (oi:=({ dst:=some 45,op:=Op.load 49 (Operand.tmp 6),type:=49,pos := "reader.go:123",after:=#[],guard:=none }:Oper)) (v:=.agg #[.string q0,.string q1,.int .i64 q2,.int .i64 q3,.slice pa pn pc]) rfl (by kernel_rfl) (by kernel_rfl) (by kernel_rfl) (fun _ _ _ h=>h) (yields_load 49 (.tmp 6) rfl (by rfl) (fun X hX=>load_five hX)) hHeld ?_
 (try simp only [Act.put,List.setIfInBounds_toArray,List.set_cons_zero,List.set_cons_succ])
 refine wpAnyH_ready (rs:=[4,9,11]) (by kernel_rfl) (by simp) ?_
 refine (AllReadyH.cons (o:=OP.p36) rfl (fun K hK=>?_) (AllReadyH.cons (o:=OP.p37) rfl (fun K hK=>?_) (AllReadyH.cons (o:=OP.p38) rfl (fun K hK=>?_) AllReadyH.nil)))
 ·refine wanted_step (by kernel_rfl) ?_
  have q4:=HC3_0.out
  go_simp
  refine hK.out _ _ (HS0.out) (fun hHeld=>?_)
  (try simp only [Act.put,List.setIfInBounds_toArray,List.set_cons_zero,List.set_cons_succ])
  clear hK K
  clear q4
  refine wpAnyH_ready (rs:=[9,11]) (by kernel_rfl) (by simp) ?_
  refine (AllReadyH.cons (o:=OP.p37) rfl (fun K hK=>?_) (AllReadyH.cons (o:=OP.p38) rfl (fun K hK=>?_) AllReadyH.nil))
  ·refine wanted_step (by kernel_rfl) ?_
   have q4:=HC9_0.out
   go_simp
   refine hK.out _ _ (HS0.out) (fun hHeld=>?_)
   (try simp only [Act.put,List.setIfInBounds_toArray,List.set_cons_zero,List.set_cons_succ])
   clear hK K
   clear q4
   refine wpAnyH_ready (rs:=[11]) (by kernel_rfl) (by simp) ?_
   refine (AllReadyH.cons (o:=OP.p38) rfl (fun K hK=>?_) AllReadyH.nil)
   refine wanted_step (by kernel_rfl) ?_
   go_simp
   refine hK.out _ _ (HS1.out) (fun hHeld=>?_)
   (try simp only [Act.put,List.setIfInBounds_toArray,List.set_cons_zero,List.set_cons_succ])
   clear hK K
   refine wpAnyH_take (i:=12) (oi:=OP.p39) (v:=.agg #[.string kk,.string ⟨#[]⟩,.int .i64 kf,.int .i64 0,.slice (some ⟨Wd.heap.size,0,none⟩) 1 1]) rfl (by kernel_rfl) (by kernel_rfl) (by kernel_rfl) (fun _ _ _ h=>h) (Or.inl ⟨by rfl,fun X hX=>by kernel_rfl⟩) hHeld ?_
   (try simp only [Act.put,List.setIfInBounds_toArray,List.set_cons_zero,List.set_cons_succ])
   refine wpAnyH_take (i:=13) (oi:=OP.p40) (v:=.agg #[.string kk,.string ⟨#[]⟩,.int .i64 kf,.int .i64 0,.slice (some ⟨Wd.heap.size,0,none⟩) 1 1,.int .i64 0]) rfl (by kernel_rfl) (by kernel_rfl) (by kernel_rfl) (fun _ _ _ h=>h) (Or.inl ⟨by rfl,fun X hX=>by kernel_rfl⟩) hHeld ?_
   (try simp only [Act.put,List.setIfInBounds_toArray,List.set_cons_zero,List.set_cons_succ])
   refine wpAnyH_ready (rs:=[14]) (by kernel_rfl) (by simp) ?_
   refine (AllReadyH.cons (o:=OP.p41) rfl (fun K hK=>?_) AllReadyH.nil)
   refine wanted_step (by kernel_rfl) ?_
   go_simp
   refine hK.out _ _ (HS2.out) (fun hHeld=>?_)
   (try simp only [Act.put,List.setIfInBounds_toArray,List.set_cons_zero,List.set_cons_succ])
   clear hK K
   refine wpAnyH_ready (rs:=[15]) (by kernel_rfl) (by simp) ?_
   refine (AllReadyH.cons (o:=OP.p42) rfl (fun K hK=>?_) AllReadyH.nil)
   refine wanted_step (by kernel_rfl) ?_
   refine wp_append_lies _ (.tmp 39) (.tmp 49) 120 rfl 0 128 iB (.agg #[.string ⟨#[]⟩,.string ⟨#[]⟩,.int .i64 0,.int .i64 0,.slice none 0 0,.int .i64 0]) 6 80 Tryz.underlying120 hi0 hz0 hz1 hzz rfl (by decide) (.slice (some ⟨g,0,none⟩) n c) n _ rfl HRow.out ⟨Wd.heap.size+1,0,none⟩ 1 1 (six ⟨k,[],kf,[p],0⟩ (.slice (some ⟨Wd.heap.size,0,none⟩) 1 1)) rfl rfl HNew.out (six_one _ _ ⟨_,_,_,rfl⟩) (by decide) (by unfold maxLen;omega) (by omega) (Nat.zero_le _) _ rfl ?_
   intro g5 c5 w5 hown hgrow hat hlt5
   obtain ⟨hs5,hs6,q3,f3,hfin⟩:=HE.out g5 c5 w5 hown hgrow hat
   have HFin:=hid hfin
   clear hfin hown hgrow hat
   refine hK.out _ _ (hs5) (fun hHeld=>?_)
   (try simp only [Act.put,List.setIfInBounds_toArray,List.set_cons_zero,List.set_cons_succ])
   clear hK K
   refine wpAnyH_take (i:=16) (oi:=OP.p43) (v:=ptr d) rfl (by kernel_rfl) (by kernel_rfl) (by kernel_rfl) (fun _ _ _ h=>h) (Or.inl ⟨by rfl,fun X hX=>rfl⟩) hHeld ?_
   (try simp only [Act.put,List.setIfInBounds_toArray,List.set_cons_zero,List.set_cons_succ])
   refine wpAnyH_take (i:=17) (oi:=OP.p44) (v:=.pointer (some ⟨d,3,none⟩)) rfl (by kernel_rfl) (by kernel_rfl) (by kernel_rfl) (fun _ _ _ h=>h) (Or.inl ⟨by rfl,fun X hX=>rfl⟩) hHeld ?_
   (try simp only [Act.put,List.setIfInBounds_toArray,List.set_cons_zero,List.set_cons_succ])
   refine wpAnyH_ready (rs:=[18]) (by kernel_rfl) (by simp) ?_
   refine (AllReadyH.cons (o:=OP.p45) rfl (fun K hK=>?_) AllReadyH.nil)
   refine wanted_step (by kernel_rfl) ?_
   go_simp
   refine hK.out _ _ (hs6) (fun hHeld=>?_)
   (try simp only [Act.put,List.setIfInBounds_toArray,List.set_cons_zero,List.set_cons_succ])
   clear hK K
   refine wpAnyH_done (by kernel_rfl) ?_ _
   have hF:=HFin.out
   rw [← HKf.out] at hF
   exact bodyPost_end (results_none rfl _ _ _) rfl ⟨rfl,hF⟩
  ·refine wanted_step (by kernel_rfl) ?_
   go_simp
   refine hK.out _ _ (HS1.out) (fun hHeld=>?_)
   (try simp only [Act.put,List.setIfInBounds_toArray,List.set_cons_zero,List.set_cons_succ])
   clear hK K
   refine wpAnyH_ready (rs:=[9]) (by kernel_rfl) (by simp) ?_
   refine (AllReadyH.cons (o:=OP.p37) rfl (fun K hK=>?_) AllReadyH.nil)
   refine wanted_step (by kernel_rfl) ?_
   have q4:=HC9_1.out
   go_simp
   refine hK.out _ _ (HS1.out) (fun hHeld=>?_)
   (try simp only [Act.put,List.setIfInBounds_toArray,List.set_cons_zero,List.set_cons_succ])
   clear hK K
   clear q4
   refine wpAnyH_take (i:=12) (oi:=OP.p39) (v:=.agg #[.string kk,.string ⟨#[]⟩,.int .i64 kf,.int .i64 0,.slice (some ⟨Wd.heap.size,0,none⟩) 1 1]) rfl (by kernel_rfl) (by kernel_rfl) (by kernel_rfl) (fun _ _ _ h=>h) (Or.inl ⟨by rfl,fun X hX=>by kernel_rfl⟩) hHeld ?_
   (try simp only [Act.put,List.setIfInBounds_toArray,List.set_cons_zero,List.set_cons_succ])
   refine wpAnyH_take (i:=13) (oi:=OP.p40) (v:=.agg #[.string kk,.string ⟨#[]⟩,.int .i64 kf,.int .i64 0,.slice (some ⟨Wd.heap.size,0,none⟩) 1 1,.int .i64 0]) rfl (by kernel_rfl) (by kernel_rfl) (by kernel_rfl) (fun _ _ _ h=>h) (Or.inl ⟨by rfl,fun X hX=>by kernel_rfl⟩) hHeld ?_
   (try simp only [Act.put,List.setIfInBounds_toArray,List.set_cons_zero,List.set_cons_succ])
   refine wpAnyH_ready (rs:=[14]) (by kernel_rfl) (by simp) ?_
   refine (AllReadyH.cons (o:=OP.p41) rfl (fun K hK=>?_) AllReadyH.nil)
   refine wanted_step (by kernel_rfl) ?_
   go_simp
   refine hK.out _ _ (HS2.out) (fun hHeld=>?_)
   (try simp only [Act.put,List.setIfInBounds_toArray,List.set_cons_zero,List.set_cons_succ])
   clear hK K
   refine wpAnyH_ready (rs:=[15]) (by kernel_rfl) (by simp) ?_
   refine (AllReadyH.cons (o:=OP.p42) rfl (fun K hK=>?_) AllReadyH.nil)
   refine wanted_step (by kernel_rfl) ?_
   refine wp_append_lies _ (.tmp 39) (.tmp 49) 120 rfl 0 128 iB (.agg #[.string ⟨#[]⟩,.string ⟨#[]⟩,.int .i64 0,.int .i64 0,.slice none 0 0,.int .i64 0]) 6 80 Tryz.underlying120 hi0 hz0 hz1 hzz rfl (by decide) (.slice (some ⟨g,0,none⟩) n c) n _ rfl HRow.out ⟨Wd.heap.size+1,0,none⟩ 1 1 (six ⟨k,[],kf,[p],0⟩ (.slice (some ⟨Wd.heap.size,0,none⟩) 1 1)) rfl rfl HNew.out (six_one _ _ ⟨_,_,_,rfl⟩) (by decide) (by unfold maxLen;omega) (by omega) (Nat.zero_le _) _ rfl ?_
   intro g5 c5 w5 hown hgrow hat hlt5
   obtain ⟨hs5,hs6,q3,f3,hfin⟩:=HE.out g5 c5 w5 hown hgrow hat
   have HFin:=hid hfin
   clear hfin hown hgrow hat
   refine hK.out _ _ (hs5) (fun hHeld=>?_)
   (try simp only [Act.put,List.setIfInBounds_toArray,List.set_cons_zero,List.set_cons_succ])
   clear hK K
   refine wpAnyH_take (i:=16) (oi:=OP.p43) (v:=ptr d) rfl (by kernel_rfl) (by kernel_rfl) (by kernel_rfl) (fun _ _ _ h=>h) (Or.inl ⟨by rfl,fun X hX=>rfl⟩) hHeld ?_
   (try simp only [Act.put,List.setIfInBounds_toArray,List.set_cons_zero,List.set_cons_succ])
   refine wpAnyH_take (i:=17) (oi:=OP.p44) (v:=.pointer (some ⟨d,3,none⟩)) rfl (by kernel_rfl) (by kernel_rfl) (by kernel_rfl) (fun _ _ _ h=>h) (Or.inl ⟨by rfl,fun X hX=>rfl⟩) hHeld ?_
   (try simp only [Act.put,List.setIfInBounds_toArray,List.set_cons_zero,List.set_cons_succ])
   refine wpAnyH_ready (rs:=[18]) (by kernel_rfl) (by simp) ?_
   refine (AllReadyH.cons (o:=OP.p45) rfl (fun K hK=>?_) AllReadyH.nil)
   refine wanted_step (by kernel_rfl) ?_
   go_simp
   refine hK.out _ _ (hs6) (fun hHeld=>?_)
   (try simp only [Act.put,List.setIfInBounds_toArray,List.set_cons_zero,List.set_cons_succ])
   clear hK K
   refine wpAnyH_done (by kernel_rfl) ?_ _
   have hF:=HFin.out
   rw [← HKf.out] at hF
   exact bodyPost_end (results_none rfl _ _ _) rfl ⟨rfl,hF⟩
 ·refine wanted_step (by kernel_rfl) ?_
  have q4:=HC9_0.out
  go_simp
  refine hK.out _ _ (HS0.out) (fun hHeld=>?_)
  (try simp only [Act.put,List.setIfInBounds_toArray,List.set_cons_zero,List.set_cons_succ])
  clear hK K
  clear q4
  refine wpAnyH_ready (rs:=[4,11]) (by kernel_rfl) (by simp) ?_
  refine (AllReadyH.cons (o:=OP.p36) rfl (fun K hK=>?_) (AllReadyH.cons (o:=OP.p38) rfl (fun K hK=>?_) AllReadyH.nil))
  ·refine wanted_step (by kernel_rfl) ?_
   have q4:=HC3_0.out
   go_simp
   refine hK.out _ _ (HS0.out) (fun hHeld=>?_)
   (try simp only [Act.put,List.setIfInBounds_toArray,List.set_cons_zero,List.set_cons_succ])
   clear hK K
   clear q4
   refine wpAnyH_ready (rs:=[11]) (by kernel_rfl) (by simp) ?_
   refine (AllReadyH.cons (o:=OP.p38) rfl (fun K hK=>?_) AllReadyH.nil)
   refine wanted_step (by kernel_rfl) ?_
   go_simp
   refine hK.out _ _ (HS1.out) (fun hHeld=>?_)
   (try simp only [Act.put,List.setIfInBounds_toArray,List.set_cons_zero,List.set_cons_succ])
   clear hK K
   refine wpAnyH_take (i:=12) (oi:=OP.p39) (v:=.agg #[.string kk,.string ⟨#[]⟩,.int .i64 kf,.int .i64 0,.slice (some ⟨Wd.heap.size,0,none⟩) 1 1]) rfl (by kernel_rfl) (by kernel_rfl) (by kernel_rfl) (fun _ _ _ h=>h) (Or.inl ⟨by rfl,fun X hX=>by kernel_rfl⟩) hHeld ?_
   (try simp only [Act.put,List.setIfInBounds_toArray,List.set_cons_zero,List.set_cons_succ])
   refine wpAnyH_take (i:=13) (oi:=OP.p40) (v:=.agg #[.string kk,.string ⟨#[]⟩,.int .i64 kf,.int .i64 0,.slice (some ⟨Wd.heap.size,0,none⟩) 1 1,.int .i64 0]) rfl (by kernel_rfl) (by kernel_rfl) (by kernel_rfl) (fun _ _ _ h=>h) (Or.inl ⟨by rfl,fun X hX=>by kernel_rfl⟩) hHeld ?_
   (try simp only [Act.put,List.setIfInBounds_toArray,List.set_cons_zero,List.set_cons_succ])
   refine wpAnyH_ready (rs:=[14]) (by kernel_rfl) (by simp) ?_
   refine (AllReadyH.cons (o:=OP.p41) rfl (fun K hK=>?_) AllReadyH.nil)
   refine wanted_step (by kernel_rfl) ?_
   go_simp
   refine hK.out _ _ (HS2.out) (fun hHeld=>?_)
   (try simp only [Act.put,List.setIfInBounds_toArray,List.set_cons_zero,List.set_cons_succ])
   clear hK K
   refine wpAnyH_ready (rs:=[15]) (by kernel_rfl) (by simp) ?_
   refine (AllReadyH.cons (o:=OP.p42) rfl (fun K hK=>?_) AllReadyH.nil)
   refine wanted_step (by kernel_rfl) ?_
   refine wp_append_lies _ (.tmp 39) (.tmp 49) 120 rfl 0 128 iB (.agg #[.string ⟨#[]⟩,.string ⟨#[]⟩,.int .i64 0,.int .i64 0,.slice none 0 0,.int .i64 0]) 6 80 Tryz.underlying120 hi0 hz0 hz1 hzz rfl (by decide) (.slice (some ⟨g,0,none⟩) n c) n _ rfl HRow.out ⟨Wd.heap.size+1,0,none⟩ 1 1 (six ⟨k,[],kf,[p],0⟩ (.slice (some ⟨Wd.heap.size,0,none⟩) 1 1)) rfl rfl HNew.out (six_one _ _ ⟨_,_,_,rfl⟩) (by decide) (by unfold maxLen;omega) (by omega) (Nat.zero_le _) _ rfl ?_
   intro g5 c5 w5 hown hgrow hat hlt5
   obtain ⟨hs5,hs6,q3,f3,hfin⟩:=HE.out g5 c5 w5 hown hgrow hat
   have HFin:=hid hfin
   clear hfin hown hgrow hat
   refine hK.out _ _ (hs5) (fun hHeld=>?_)
   (try simp only [Act.put,List.setIfInBounds_toArray,List.set_cons_zero,List.set_cons_succ])
   clear hK K
   refine wpAnyH_take (i:=16) (oi:=OP.p43) (v:=ptr d) rfl (by kernel_rfl) (by kernel_rfl) (by kernel_rfl) (fun _ _ _ h=>h) (Or.inl ⟨by rfl,fun X hX=>rfl⟩) hHeld ?_
   (try simp only [Act.put,List.setIfInBounds_toArray,List.set_cons_zero,List.set_cons_succ])
   refine wpAnyH_take (i:=17) (oi:=OP.p44) (v:=.pointer (some ⟨d,3,none⟩)) rfl (by kernel_rfl) (by kernel_rfl) (by kernel_rfl) (fun _ _ _ h=>h) (Or.inl ⟨by rfl,fun X hX=>rfl⟩) hHeld ?_
   (try simp only [Act.put,List.setIfInBounds_toArray,List.set_cons_zero,List.set_cons_succ])
   refine wpAnyH_ready (rs:=[18]) (by kernel_rfl) (by simp) ?_
   refine (AllReadyH.cons (o:=OP.p45) rfl (fun K hK=>?_) AllReadyH.nil)
   refine wanted_step (by kernel_rfl) ?_
   go_simp
   refine hK.out _ _ (hs6) (fun hHeld=>?_)
   (try simp only [Act.put,List.setIfInBounds_toArray,List.set_cons_zero,List.set_cons_succ])
   clear hK K
   refine wpAnyH_done (by kernel_rfl) ?_ _
   have hF:=HFin.out
   rw [← HKf.out] at hF
   exact bodyPost_end (results_none rfl _ _ _) rfl ⟨rfl,hF⟩
  ·refine wanted_step (by kernel_rfl) ?_
   go_simp
   refine hK.out _ _ (HS1.out) (fun hHeld=>?_)
   (try simp only [Act.put,List.setIfInBounds_toArray,List.set_cons_zero,List.set_cons_succ])
   clear hK K
   refine wpAnyH_take (i:=12) (oi:=OP.p39) (v:=.agg #[.string kk,.string ⟨#[]⟩,.int .i64 kf,.int .i64 0,.slice (some ⟨Wd.heap.size,0,none⟩) 1 1]) rfl (by kernel_rfl) (by kernel_rfl) (by kernel_rfl) (fun _ _ _ h=>h) (Or.inl ⟨by rfl,fun X hX=>by kernel_rfl⟩) hHeld ?_
   (try simp only [Act.put,List.setIfInBounds_toArray,List.set_cons_zero,List.set_cons_succ])
   refine wpAnyH_take (i:=13) (oi:=OP.p40) (v:=.agg #[.string kk,.string ⟨#[]⟩,.int .i64 kf,.int .i64 0,.slice (some ⟨Wd.heap.size,0,none⟩) 1 1,.int .i64 0]) rfl (by kernel_rfl) (by kernel_rfl) (by kernel_rfl) (fun _ _ _ h=>h) (Or.inl ⟨by rfl,fun X hX=>by kernel_rfl⟩) hHeld ?_
   (try simp only [Act.put,List.setIfInBounds_toArray,List.set_cons_zero,List.set_cons_succ])
   refine wpAnyH_ready (rs:=[4,14]) (by kernel_rfl) (by simp) ?_
   refine (AllReadyH.cons (o:=OP.p36) rfl (fun K hK=>?_) (AllReadyH.cons (o:=OP.p41) rfl (fun K hK=>?_) AllReadyH.nil))
   ·refine wanted_step (by kernel_rfl) ?_
    have q4:=HC3_1.out
    go_simp
    refine hK.out _ _ (HS1.out) (fun hHeld=>?_)
    (try simp only [Act.put,List.setIfInBounds_toArray,List.set_cons_zero,List.set_cons_succ])
    clear hK K
    clear q4
    refine wpAnyH_ready (rs:=[14]) (by kernel_rfl) (by simp) ?_
    refine (AllReadyH.cons (o:=OP.p41) rfl (fun K hK=>?_) AllReadyH.nil)
    refine wanted_step (by kernel_rfl) ?_
    go_simp
    refine hK.out _ _ (HS2.out) (fun hHeld=>?_)
    (try simp only [Act.put,List.setIfInBounds_toArray,List.set_cons_zero,List.set_cons_succ])
    clear hK K
    refine wpAnyH_ready (rs:=[15]) (by kernel_rfl) (by simp) ?_
    refine (AllReadyH.cons (o:=OP.p42) rfl (fun K hK=>?_) AllReadyH.nil)
    refine wanted_step (by kernel_rfl) ?_
    refine wp_append_lies _ (.tmp 39) (.tmp 49) 120 rfl 0 128 iB (.agg #[.string ⟨#[]⟩,.string ⟨#[]⟩,.int .i64 0,.int .i64 0,.slice none 0 0,.int .i64 0]) 6 80 Tryz.underlying120 hi0 hz0 hz1 hzz rfl (by decide) (.slice (some ⟨g,0,none⟩) n c) n _ rfl HRow.out ⟨Wd.heap.size+1,0,none⟩ 1 1 (six ⟨k,[],kf,[p],0⟩ (.slice (some ⟨Wd.heap.size,0,none⟩) 1 1)) rfl rfl HNew.out (six_one _ _ ⟨_,_,_,rfl⟩) (by decide) (by unfold maxLen;omega) (by omega) (Nat.zero_le _) _ rfl ?_
    intro g5 c5 w5 hown hgrow hat hlt5
    obtain ⟨hs5,hs6,q3,f3,hfin⟩:=HE.out g5 c5 w5 hown hgrow hat
    have HFin:=hid hfin
    clear hfin hown hgrow hat
    refine hK.out _ _ (hs5) (fun hHeld=>?_)
    (try simp only [Act.put,List.setIfInBounds_toArray,List.set_cons_zero,List.set_cons_succ])
    clear hK K
    refine wpAnyH_take (i:=16) (oi:=OP.p43) (v:=ptr d) rfl (by kernel_rfl) (by kernel_rfl) (by kernel_rfl) (fun _ _ _ h=>h) (Or.inl ⟨by rfl,fun X hX=>rfl⟩) hHeld ?_
    (try simp only [Act.put,List.setIfInBounds_toArray,List.set_cons_zero,List.set_cons_succ])
    refine wpAnyH_take (i:=17) (oi:=OP.p44) (v:=.pointer (some ⟨d,3,none⟩)) rfl (by kernel_rfl) (by kernel_rfl) (by kernel_rfl) (fun _ _ _ h=>h) (Or.inl ⟨by rfl,fun X hX=>rfl⟩) hHeld ?_
    (try simp only [Act.put,List.setIfInBounds_toArray,List.set_cons_zero,List.set_cons_succ])
    refine wpAnyH_ready (rs:=[18]) (by kernel_rfl) (by simp) ?_
    refine (AllReadyH.cons (o:=OP.p45) rfl (fun K hK=>?_) AllReadyH.nil)
    refine wanted_step (by kernel_rfl) ?_
    go_simp
    refine hK.out _ _ (hs6) (fun hHeld=>?_)
    (try simp only [Act.put,List.setIfInBounds_toArray,List.set_cons_zero,List.set_cons_succ])
    clear hK K
    refine wpAnyH_done (by kernel_rfl) ?_ _
    have hF:=HFin.out
    rw [← HKf.out] at hF
    exact bodyPost_end (results_none rfl _ _ _) rfl ⟨rfl,hF⟩
   ·refine wanted_step (by kernel_rfl) ?_
    go_simp
    refine hK.out _ _ (HS2.out) (fun hHeld=>?_)
    (try simp only [Act.put,List.setIfInBounds_toArray,List.set_cons_zero,List.set_cons_succ])
    clear hK K
    refine wpAnyH_ready (rs:=[4]) (by kernel_rfl) (by simp) ?_
    refine (AllReadyH.cons (o:=OP.p36) rfl (fun K hK=>?_) AllReadyH.nil)
    refine wanted_step (by kernel_rfl) ?_
    have q4:=HC3_2.out
    go_simp
    refine hK.out _ _ (HS2.out) (fun hHeld=>?_)
    (try simp only [Act.put,List.setIfInBounds_toArray,List.set_cons_zero,List.set_cons_succ])
    clear hK K
    clear q4
    refine wpAnyH_ready (rs:=[15]) (by kernel_rfl) (by simp) ?_
    refine (AllReadyH.cons (o:=OP.p42) rfl (fun K hK=>?_) AllReadyH.nil)
    refine wanted_step (by kernel_rfl) ?_
    refine wp_append_lies _ (.tmp 39) (.tmp 49) 120 rfl 0 128 iB (.agg #[.string ⟨#[]⟩,.string ⟨#[]⟩,.int .i64 0,.int .i64 0,.slice none 0 0,.int .i64 0]) 6 80 Tryz.underlying120 hi0 hz0 hz1 hzz rfl (by decide) (.slice (some ⟨g,0,none⟩) n c) n _ rfl HRow.out ⟨Wd.heap.size+1,0,none⟩ 1 1 (six ⟨k,[],kf,[p],0⟩ (.slice (some ⟨Wd.heap.size,0,none⟩) 1 1)) rfl rfl HNew.out (six_one _ _ ⟨_,_,_,rfl⟩) (by decide) (by unfold maxLen;omega) (by omega) (Nat.zero_le _) _ rfl ?_
    intro g5 c5 w5 hown hgrow hat hlt5
    obtain ⟨hs5,hs6,q3,f3,hfin⟩:=HE.out g5 c5 w5 hown hgrow hat
    have HFin:=hid hfin
    clear hfin hown hgrow hat
    refine hK.out _ _ (hs5) (fun hHeld=>?_)
    (try simp only [Act.put,List.setIfInBounds_toArray,List.set_cons_zero,List.set_cons_succ])
    clear hK K
    refine wpAnyH_take (i:=16) (oi:=OP.p43) (v:=ptr d) rfl (by kernel_rfl) (by kernel_rfl) (by kernel_rfl) (fun _ _ _ h=>h) (Or.inl ⟨by rfl,fun X hX=>rfl⟩) hHeld ?_
    (try simp only [Act.put,List.setIfInBounds_toArray,List.set_cons_zero,List.set_cons_succ])
    refine wpAnyH_take (i:=17) (oi:=OP.p44) (v:=.pointer (some ⟨d,3,none⟩)) rfl (by kernel_rfl) (by kernel_rfl) (by kernel_rfl) (fun _ _ _ h=>h) (Or.inl ⟨by rfl,fun X hX=>rfl⟩) hHeld ?_
    (try simp only [Act.put,List.setIfInBounds_toArray,List.set_cons_zero,List.set_cons_succ])
    refine wpAnyH_ready (rs:=[18]) (by kernel_rfl) (by simp) ?_
    refine (AllReadyH.cons (o:=OP.p45) rfl (fun K hK=>?_) AllReadyH.nil)
    refine wanted_step (by kernel_rfl) ?_
    go_simp
    refine hK.out _ _ (hs6) (fun hHeld=>?_)
    (try simp only [Act.put,List.setIfInBounds_toArray,List.set_cons_zero,List.set_cons_succ])
    clear hK K
    refine wpAnyH_done (by kernel_rfl) ?_ _
    have hF:=HFin.out
    rw [← HKf.out] at hF
    exact bodyPost_end (results_none rfl _ _ _) rfl ⟨rfl,hF⟩
 ·refine wanted_step (by kernel_rfl) ?_
  go_simp
  refine hK.out _ _ (HS1.out) (fun hHeld=>?_)
  (try simp only [Act.put,List.setIfInBounds_toArray,List.set_cons_zero,List.set_cons_succ])
  clear hK K
  refine wpAnyH_ready (rs:=[4,9]) (by kernel_rfl) (by simp) ?_
  refine (AllReadyH.cons (o:=OP.p36) rfl (fun K hK=>?_) (AllReadyH.cons (o:=OP.p37) rfl (fun K hK=>?_) AllReadyH.nil))
  ·refine wanted_step (by kernel_rfl) ?_
   have q4:=HC3_1.out
   go_simp
   refine hK.out _ _ (HS1.out) (fun hHeld=>?_)
   (try simp only [Act.put,List.setIfInBounds_toArray,List.set_cons_zero,List.set_cons_succ])
   clear hK K
   clear q4
   refine wpAnyH_ready (rs:=[9]) (by kernel_rfl) (by simp) ?_
   refine (AllReadyH.cons (o:=OP.p37) rfl (fun K hK=>?_) AllReadyH.nil)
   refine wanted_step (by kernel_rfl) ?_
   have q4:=HC9_1.out
   go_simp
   refine hK.out _ _ (HS1.out) (fun hHeld=>?_)
   (try simp only [Act.put,List.setIfInBounds_toArray,List.set_cons_zero,List.set_cons_succ])
   clear hK K
   clear q4
   refine wpAnyH_take (i:=12) (oi:=OP.p39) (v:=.agg #[.string kk,.string ⟨#[]⟩,.int .i64 kf,.int .i64 0,.slice (some ⟨Wd.heap.size,0,none⟩) 1 1]) rfl (by kernel_rfl) (by kernel_rfl) (by kernel_rfl) (fun _ _ _ h=>h) (Or.inl ⟨by rfl,fun X hX=>by kernel_rfl⟩) hHeld ?_
   (try simp only [Act.put,List.setIfInBounds_toArray,List.set_cons_zero,List.set_cons_succ])
   refine wpAnyH_take (i:=13) (oi:=OP.p40) (v:=.agg #[.string kk,.string ⟨#[]⟩,.int .i64 kf,.int .i64 0,.slice (some ⟨Wd.heap.size,0,none⟩) 1 1,.int .i64 0]) rfl (by kernel_rfl) (by kernel_rfl) (by kernel_rfl) (fun _ _ _ h=>h) (Or.inl ⟨by rfl,fun X hX=>by kernel_rfl⟩) hHeld ?_
   (try simp only [Act.put,List.setIfInBounds_toArray,List.set_cons_zero,List.set_cons_succ])
   refine wpAnyH_ready (rs:=[14]) (by kernel_rfl) (by simp) ?_
   refine (AllReadyH.cons (o:=OP.p41) rfl (fun K hK=>?_) AllReadyH.nil)
   refine wanted_step (by kernel_rfl) ?_
   go_simp
   refine hK.out _ _ (HS2.out) (fun hHeld=>?_)
   (try simp only [Act.put,List.setIfInBounds_toArray,List.set_cons_zero,List.set_cons_succ])
   clear hK K
   refine wpAnyH_ready (rs:=[15]) (by kernel_rfl) (by simp) ?_
   refine (AllReadyH.cons (o:=OP.p42) rfl (fun K hK=>?_) AllReadyH.nil)
   refine wanted_step (by kernel_rfl) ?_
   refine wp_append_lies _ (.tmp 39) (.tmp 49) 120 rfl 0 128 iB (.agg #[.string ⟨#[]⟩,.string ⟨#[]⟩,.int .i64 0,.int .i64 0,.slice none 0 0,.int .i64 0]) 6 80 Tryz.underlying120 hi0 hz0 hz1 hzz rfl (by decide) (.slice (some ⟨g,0,none⟩) n c) n _ rfl HRow.out ⟨Wd.heap.size+1,0,none⟩ 1 1 (six ⟨k,[],kf,[p],0⟩ (.slice (some ⟨Wd.heap.size,0,none⟩) 1 1)) rfl rfl HNew.out (six_one _ _ ⟨_,_,_,rfl⟩) (by decide) (by unfold maxLen;omega) (by omega) (Nat.zero_le _) _ rfl ?_
   intro g5 c5 w5 hown hgrow hat hlt5
   obtain ⟨hs5,hs6,q3,f3,hfin⟩:=HE.out g5 c5 w5 hown hgrow hat
   have HFin:=hid hfin
   clear hfin hown hgrow hat
   refine hK.out _ _ (hs5) (fun hHeld=>?_)
   (try simp only [Act.put,List.setIfInBounds_toArray,List.set_cons_zero,List.set_cons_succ])
   clear hK K
   refine wpAnyH_take (i:=16) (oi:=OP.p43) (v:=ptr d) rfl (by kernel_rfl) (by kernel_rfl) (by kernel_rfl) (fun _ _ _ h=>h) (Or.inl ⟨by rfl,fun X hX=>rfl⟩) hHeld ?_
   (try simp only [Act.put,List.setIfInBounds_toArray,List.set_cons_zero,List.set_cons_succ])
   refine wpAnyH_take (i:=17) (oi:=OP.p44) (v:=.pointer (some ⟨d,3,none⟩)) rfl (by kernel_rfl) (by kernel_rfl) (by kernel_rfl) (fun _ _ _ h=>h) (Or.inl ⟨by rfl,fun X hX=>rfl⟩) hHeld ?_
   (try simp only [Act.put,List.setIfInBounds_toArray,List.set_cons_zero,List.set_cons_succ])
   refine wpAnyH_ready (rs:=[18]) (by kernel_rfl) (by simp) ?_
   refine (AllReadyH.cons (o:=OP.p45) rfl (fun K hK=>?_) AllReadyH.nil)
   refine wanted_step (by kernel_rfl) ?_
   go_simp
   refine hK.out _ _ (hs6) (fun hHeld=>?_)
   (try simp only [Act.put,List.setIfInBounds_toArray,List.set_cons_zero,List.set_cons_succ])
   clear hK K
   refine wpAnyH_done (by kernel_rfl) ?_ _
   have hF:=HFin.out
   rw [← HKf.out] at hF
   exact bodyPost_end (results_none rfl _ _ _) rfl ⟨rfl,hF⟩
  ·refine wanted_step (by kernel_rfl) ?_
   have q4:=HC9_1.out
   go_simp
   refine hK.out _ _ (HS1.out) (fun hHeld=>?_)
   (try simp only [Act.put,List.setIfInBounds_toArray,List.set_cons_zero,List.set_cons_succ])
   clear hK K
   clear q4
   refine wpAnyH_take (i:=12) (oi:=OP.p39) (v:=.agg #[.string kk,.string ⟨#[]⟩,.int .i64 kf,.int .i64 0,.slice (some ⟨Wd.heap.size,0,none⟩) 1 1]) rfl (by kernel_rfl) (by kernel_rfl) (by kernel_rfl) (fun _ _ _ h=>h) (Or.inl ⟨by rfl,fun X hX=>by kernel_rfl⟩) hHeld ?_
   (try simp only [Act.put,List.setIfInBounds_toArray,List.set_cons_zero,List.set_cons_succ])
   refine wpAnyH_take (i:=13) (oi:=OP.p40) (v:=.agg #[.string kk,.string ⟨#[]⟩,.int .i64 kf,.int .i64 0,.slice (some ⟨Wd.heap.size,0,none⟩) 1 1,.int .i64 0]) rfl (by kernel_rfl) (by kernel_rfl) (by kernel_rfl) (fun _ _ _ h=>h) (Or.inl ⟨by rfl,fun X hX=>by kernel_rfl⟩) hHeld ?_
   (try simp only [Act.put,List.setIfInBounds_toArray,List.set_cons_zero,List.set_cons_succ])
   refine wpAnyH_ready (rs:=[4,14]) (by kernel_rfl) (by simp) ?_
   refine (AllReadyH.cons (o:=OP.p36) rfl (fun K hK=>?_) (AllReadyH.cons (o:=OP.p41) rfl (fun K hK=>?_) AllReadyH.nil))
   ·refine wanted_step (by kernel_rfl) ?_
    have q4:=HC3_1.out
    go_simp
    refine hK.out _ _ (HS1.out) (fun hHeld=>?_)
    (try simp only [Act.put,List.setIfInBounds_toArray,List.set_cons_zero,List.set_cons_succ])
    clear hK K
    clear q4
    refine wpAnyH_ready (rs:=[14]) (by kernel_rfl) (by simp) ?_
    refine (AllReadyH.cons (o:=OP.p41) rfl (fun K hK=>?_) AllReadyH.nil)
    refine wanted_step (by kernel_rfl) ?_
    go_simp
    refine hK.out _ _ (HS2.out) (fun hHeld=>?_)
    (try simp only [Act.put,List.setIfInBounds_toArray,List.set_cons_zero,List.set_cons_succ])
    clear hK K
    refine wpAnyH_ready (rs:=[15]) (by kernel_rfl) (by simp) ?_
    refine (AllReadyH.cons (o:=OP.p42) rfl (fun K hK=>?_) AllReadyH.nil)
    refine wanted_step (by kernel_rfl) ?_
    refine wp_append_lies _ (.tmp 39) (.tmp 49) 120 rfl 0 128 iB (.agg #[.string ⟨#[]⟩,.string ⟨#[]⟩,.int .i64 0,.int .i64 0,.slice none 0 0,.int .i64 0]) 6 80 Tryz.underlying120 hi0 hz0 hz1 hzz rfl (by decide) (.slice (some ⟨g,0,none⟩) n c) n _ rfl HRow.out ⟨Wd.heap.size+1,0,none⟩ 1 1 (six ⟨k,[],kf,[p],0⟩ (.slice (some ⟨Wd.heap.size,0,none⟩) 1 1)) rfl rfl HNew.out (six_one _ _ ⟨_,_,_,rfl⟩) (by decide) (by unfold maxLen;omega) (by omega) (Nat.zero_le _) _ rfl ?_
    intro g5 c5 w5 hown hgrow hat hlt5
    obtain ⟨hs5,hs6,q3,f3,hfin⟩:=HE.out g5 c5 w5 hown hgrow hat
    have HFin:=hid hfin
    clear hfin hown hgrow hat
    refine hK.out _ _ (hs5) (fun hHeld=>?_)
    (try simp only [Act.put,List.setIfInBounds_toArray,List.set_cons_zero,List.set_cons_succ])
    clear hK K
    refine wpAnyH_take (i:=16) (oi:=OP.p43) (v:=ptr d) rfl (by kernel_rfl) (by kernel_rfl) (by kernel_rfl) (fun _ _ _ h=>h) (Or.inl ⟨by rfl,fun X hX=>rfl⟩) hHeld ?_
    (try simp only [Act.put,List.setIfInBounds_toArray,List.set_cons_zero,List.set_cons_succ])
    refine wpAnyH_take (i:=17) (oi:=OP.p44) (v:=.pointer (some ⟨d,3,none⟩)) rfl (by kernel_rfl) (by kernel_rfl) (by kernel_rfl) (fun _ _ _ h=>h) (Or.inl ⟨by rfl,fun X hX=>rfl⟩) hHeld ?_
    (try simp only [Act.put,List.setIfInBounds_toArray,List.set_cons_zero,List.set_cons_succ])
    refine wpAnyH_ready (rs:=[18]) (by kernel_rfl) (by simp) ?_
    refine (AllReadyH.cons (o:=OP.p45) rfl (fun K hK=>?_) AllReadyH.nil)
    refine wanted_step (by kernel_rfl) ?_
    go_simp
    refine hK.out _ _ (hs6) (fun hHeld=>?_)
    (try simp only [Act.put,List.setIfInBounds_toArray,List.set_cons_zero,List.set_cons_succ])
    clear hK K
    refine wpAnyH_done (by kernel_rfl) ?_ _
    have hF:=HFin.out
    rw [← HKf.out] at hF
    exact bodyPost_end (results_none rfl _ _ _) rfl ⟨rfl,hF⟩
   ·refine wanted_step (by kernel_rfl) ?_
    go_simp
    refine hK.out _ _ (HS2.out) (fun hHeld=>?_)
    (try simp only [Act.put,List.setIfInBounds_toArray,List.set_cons_zero,List.set_cons_succ])
    clear hK K
    refine wpAnyH_ready (rs:=[4]) (by kernel_rfl) (by simp) ?_
    refine (AllReadyH.cons (o:=OP.p36) rfl (fun K hK=>?_) AllReadyH.nil)
    refine wanted_step (by kernel_rfl) ?_
    have q4:=HC3_2.out
    go_simp
    refine hK.out _ _ (HS2.out) (fun hHeld=>?_)
    (try simp only [Act.put,List.setIfInBounds_toArray,List.set_cons_zero,List.set_cons_succ])
    clear hK K
    clear q4
    refine wpAnyH_ready (rs:=[15]) (by kernel_rfl) (by simp) ?_
    refine (AllReadyH.cons (o:=OP.p42) rfl (fun K hK=>?_) AllReadyH.nil)
    refine wanted_step (by kernel_rfl) ?_
    refine wp_append_lies _ (.tmp 39) (.tmp 49) 120 rfl 0 128 iB (.agg #[.string ⟨#[]⟩,.string ⟨#[]⟩,.int .i64 0,.int .i64 0,.slice none 0 0,.int .i64 0]) 6 80 Tryz.underlying120 hi0 hz0 hz1 hzz rfl (by decide) (.slice (some ⟨g,0,none⟩) n c) n _ rfl HRow.out ⟨Wd.heap.size+1,0,none⟩ 1 1 (six ⟨k,[],kf,[p],0⟩ (.slice (some ⟨Wd.heap.size,0,none⟩) 1 1)) rfl rfl HNew.out (six_one _ _ ⟨_,_,_,rfl⟩) (by decide) (by unfold maxLen;omega) (by omega) (Nat.zero_le _) _ rfl ?_
    intro g5 c5 w5 hown hgrow hat hlt5
    obtain ⟨hs5,hs6,q3,f3,hfin⟩:=HE.out g5 c5 w5 hown hgrow hat
    have HFin:=hid hfin
    clear hfin hown hgrow hat
    refine hK.out _ _ (hs5) (fun hHeld=>?_)
    (try simp only [Act.put,List.setIfInBounds_toArray,List.set_cons_zero,List.set_cons_succ])
    clear hK K
    refine wpAnyH_take (i:=16) (oi:=OP.p43) (v:=ptr d) rfl (by kernel_rfl) (by kernel_rfl) (by kernel_rfl) (fun _ _ _ h=>h) (Or.inl ⟨by rfl,fun X hX=>rfl⟩) hHeld ?_
    (try simp only [Act.put,List.setIfInBounds_toArray,List.set_cons_zero,List.set_cons_succ])
    refine wpAnyH_take (i:=17) (oi:=OP.p44) (v:=.pointer (some ⟨d,3,none⟩)) rfl (by kernel_rfl) (by kernel_rfl) (by kernel_rfl) (fun _ _ _ h=>h) (Or.inl ⟨by rfl,fun X hX=>rfl⟩) hHeld ?_
    (try simp only [Act.put,List.setIfInBounds_toArray,List.set_cons_zero,List.set_cons_succ])
    refine wpAnyH_ready (rs:=[18]) (by kernel_rfl) (by simp) ?_
    refine (AllReadyH.cons (o:=OP.p45) rfl (fun K hK=>?_) AllReadyH.nil)
    refine wanted_step (by kernel_rfl) ?_
    go_simp
    refine hK.out _ _ (hs6) (fun hHeld=>?_)
    (try simp only [Act.put,List.setIfInBounds_toArray,List.set_cons_zero,List.set_cons_succ])
    clear hK K
    refine wpAnyH_done (by kernel_rfl) ?_ _
    have hF:=HFin.out
    rw [← HKf.out] at hF
    exact bodyPost_end (results_none rfl _ _ _) rfl ⟨rfl,hF⟩
end
end Go.Proofs.YtojoahlpgmnbnaaGreatDoor.K
namespace Go.Proofs.YtojoahlpgmnbnaaGreatDoor.K
open Go.RowKit
open Go.Lib hiding intOf
open U S T
section
variable {d:Nat} {L:List TokP} {size:Nat} {lv:Value} {s:St} {O:Nat→Prop}
def tabS:List Value:=[.string ⟨#[124,124]⟩,.int .i64 1,.string ⟨#[38,38]⟩,.int .i64 2,.string ⟨#[61,61]⟩,.int .i64 3,.string ⟨#[33,61]⟩,.int .i64 3,.string ⟨#[60]⟩,.int .i64 3,.string ⟨#[60,61]⟩,.int .i64 3,.string ⟨#[62]⟩,.int .i64 3,.string ⟨#[62,61]⟩,.int .i64 3,.string ⟨#[43]⟩,.int .i64 4,.string ⟨#[45]⟩,.int .i64 4,.string ⟨#[42]⟩,.int .i64 5,.string ⟨#[47]⟩,.int .i64 5,.string ⟨#[37]⟩,.int .i64 5]
def PTab (O:Nat→Prop) (W:World):Prop:=Fr O W 2∧CellsAt W 2 0 tabS
theorem PTab.stay {O':Nat→Prop} {W W':World} (h:PTab O W) (hS:Stay O O' W W'):PTab O' W':=⟨hS.fr h.1,fun j u hj=>by
 have h1:=h.2 j u hj
 unfold World.cell? at h1 ⊢
 rw [hS.at h.1];exact h1⟩
theorem tab_add {W:World} {g j:Nat} {u:Value} (h:W.cell? ⟨g,0+j,none⟩=some u):W.cell? ((⟨g,0,none⟩:Addr).add j)=some u:=by
 rw [Nat.zero_add] at h
 by_cases h0:j=0
 ·subst h0;simpa [Addr.add] using h
 ·simpa [Addr.add,h0] using h
theorem run_tab {W:World} (h:CellsAt W 2 0 tabS):(Instr.loadAt 153 (.pointer (some ⟨2,0,none⟩))).run Tryz.prog W=.ok (.agg tabS.toArray) W:=by
 have h2:=run_loadCells_list (P:=Tryz.prog) (w:=W) ⟨2,0,none⟩ tabS (fun j u hj=>tab_add (h j u hj))
 have h3:tabS.length=26:=rfl
 rw [h3] at h2
 unfold Instr.loadAt Instr.sureAddr loadVar
 simp only [Sem.run_bind,Sem.run_pure,Result.andThen_ok,Tryz.isAgg153,Tryz.sizeOf153,h2,if_true]
theorem wpList_loadTab {P:Program} {w:World} {ops:Array Oper} {rest:List Oper} {o:Oper} {a:Act} {Q:Exit→Act→World→Prop} (hgd:o.guard=none) (t:TypeId) (x:Operand) (ho:o.op=.load t x) (v:Value)
  (hr:(Instr.loadAt t (a.eval x)).run P w=.ok v w) (h:wpList P ops Q rest (a.put o.dst v) w):wpList P ops Q (o :: rest) a w:=by
 refine wpList_plain hgd fun K hK=>?_
 unfold Oper.wp
 simp [execOp,ho,hr,Result.andThen]
 exact hK _ _ h
theorem wpList_indexTab {P:Program} {w:World} {ops:Array Oper} {rest:List Oper} {o:Oper} {a:Act} {Q:Exit→Act→World→Prop} (hgd:o.guard=none) (t:TypeId) (x y:Operand) (ho:o.op=.index t x y) (v:Value)
  (hr:(Instr.index t (a.eval x) (a.eval y)).run P w=.ok v w) (h:wpList P ops Q rest (a.put o.dst v) w):wpList P ops Q (o :: rest) a w:=by
 refine wpList_plain hgd fun K hK=>?_
 unfold Oper.wp
 simp [execOp,ho,hr,Result.andThen]
 exact hK _ _ h
theorem run_row0 (W:World):(Instr.index 153 (.agg tabS.toArray) (.int .i64 0)).run Tryz.prog W=.ok (.agg #[.string ⟨#[124,124]⟩,.int .i64 1]) W:=by kernel_rfl
theorem run_row1 (W:World):(Instr.index 153 (.agg tabS.toArray) (.int .i64 1)).run Tryz.prog W=.ok (.agg #[.string ⟨#[38,38]⟩,.int .i64 2]) W:=by kernel_rfl
theorem run_row2 (W:World):(Instr.index 153 (.agg tabS.toArray) (.int .i64 2)).run Tryz.prog W=.ok (.agg #[.string ⟨#[61,61]⟩,.int .i64 3]) W:=by kernel_rfl
theorem run_row3 (W:World):(Instr.index 153 (.agg tabS.toArray) (.int .i64 3)).run Tryz.prog W=.ok (.agg #[.string ⟨#[33,61]⟩,.int .i64 3]) W:=by kernel_rfl
theorem run_row4 (W:World):(Instr.index 153 (.agg tabS.toArray) (.int .i64 4)).run Tryz.prog W=.ok (.agg #[.string ⟨#[60]⟩,.int .i64 3]) W:=by kernel_rfl
theorem run_row5 (W:World):(Instr.index 153 (.agg tabS.toArray) (.int .i64 5)).run Tryz.prog W=.ok (.agg #[.string ⟨#[60,61]⟩,.int .i64 3]) W:=by kernel_rfl
theorem run_row6 (W:World):(Instr.index 153 (.agg tabS.toArray) (.int .i64 6)).run Tryz.prog W=.ok (.agg #[.string ⟨#[62]⟩,.int .i64 3]) W:=by kernel_rfl
theorem run_row7 (W:World):(Instr.index 153 (.agg tabS.toArray) (.int .i64 7)).run Tryz.prog W=.ok (.agg #[.string ⟨#[62,61]⟩,.int .i64 3]) W:=by kernel_rfl
theorem run_row8 (W:World):(Instr.index 153 (.agg tabS.toArray) (.int .i64 8)).run Tryz.prog W=.ok (.agg #[.string ⟨#[43]⟩,.int .i64 4]) W:=by kernel_rfl
theorem run_row9 (W:World):(Instr.index 153 (.agg tabS.toArray) (.int .i64 9)).run Tryz.prog W=.ok (.agg #[.string ⟨#[45]⟩,.int .i64 4]) W:=by kernel_rfl
theorem run_row10 (W:World):(Instr.index 153 (.agg tabS.toArray) (.int .i64 10)).run Tryz.prog W=.ok (.agg #[.string ⟨#[42]⟩,.int .i64 5]) W:=by kernel_rfl
theorem run_row11 (W:World):(Instr.index 153 (.agg tabS.toArray) (.int .i64 11)).run Tryz.prog W=.ok (.agg #[.string ⟨#[47]⟩,.int .i64 5]) W:=by kernel_rfl
theorem run_row12 (W:World):(Instr.index 153 (.agg tabS.toArray) (.int .i64 12)).run Tryz.prog W=.ok (.agg #[.string ⟨#[37]⟩,.int .i64 5]) W:=by kernel_rfl
def markAt:Nat→By
 | 0=>[124,124]
 | 1=>[38,38]
 | 2=>[61,61]
 | 3=>[33,61]
 | 4=>[60]
 | 5=>[60,61]
 | 6=>[62]
 | 7=>[62,61]
 | 8=>[43]
 | 9=>[45]
 | 10=>[42]
 | 11=>[47]
 | 12=>[37]
 | _=>[]
theorem strP_none {x:By} (h:∀ j,j<13→x≠markAt j):strP x=0:=by
 have h0:=h 0 (by decide);have h1:=h 1 (by decide);have h2:=h 2 (by decide);have h3:=h 3 (by decide);have h4:=h 4 (by decide);have h5:=h 5 (by decide);have h6:=h 6 (by decide)
 have h7:=h 7 (by decide);have h8:=h 8 (by decide);have h9:=h 9 (by decide);have h10:=h 10 (by decide);have h11:=h 11 (by decide);have h12:=h 12 (by decide)
 simp only [markAt] at h0 h1 h2 h3 h4 h5 h6 h7 h8 h9 h10 h11 h12
 unfold strP
 simp only [h0,h1,h2,h3,h4,h5,h6,h7,h8,h9,h10,h11,h12,or_self,if_false]
set_option maxHeartbeats 16000000 in
set_option maxRecDepth 100000 in
theorem str_any (y:ByteArray) (w:World) (hC:CellsAt w 2 0 tabS):Calls Tryz.prog 157 #[.string y] w fun e w'=>e=.returned (.int .i64 (strP y.toList))∧Below w.heap.size w w':=by
 obtain ⟨T,hT⟩:∃ T,Value.agg tabS.toArray=T:=⟨_,rfl⟩
 have hL:=run_tab hC
 rw [hT] at hL
 have hi0:=run_row0
 simp only [hT] at hi0
 have hi1:=run_row1
 simp only [hT] at hi1
 have hi2:=run_row2
 simp only [hT] at hi2
 have hi3:=run_row3
 simp only [hT] at hi3
 have hi4:=run_row4
 simp only [hT] at hi4
 have hi5:=run_row5
 simp only [hT] at hi5
 have hi6:=run_row6
 simp only [hT] at hi6
 have hi7:=run_row7
 simp only [hT] at hi7
 have hi8:=run_row8
 simp only [hT] at hi8
 have hi9:=run_row9
 simp only [hT] at hi9
 have hi10:=run_row10
 simp only [hT] at hi10
 have hi11:=run_row11
 simp only [hT] at hi11
 have hi12:=run_row12
 simp only [hT] at hi12
 clear hC hT
 go_enter Tryz.func157,Tryz.ntmps157
 go_wp2_with (refine wpList_loadTab rfl _ _ rfl T hL ?_)
 clear hL
 go_loopw [6] (fun iv wr=>∃ i:Nat,iv=.int .i64 i∧i≤13∧Hid (∀ j,j<i→y.toList≠markAt j)∧Hid (Below w.heap.size w wr)) (fun iv _=>13 - (Go.RowKit.intOf iv).toNat)
 case atStart=>exact ⟨0,rfl,by omega,hid (fun k h=>by omega),hid (Below.refl _ _)⟩
 case round =>
  obtain ⟨i,rfl,hi,HN,HBw⟩:=hrel
  have hcs:i=0∨i=1∨i=2∨i=3∨i=4∨i=5∨i=6∨i=7∨i=8∨i=9∨i=10∨i=11∨i=12∨i=13:=by omega
  rcases hcs with rfl|rfl|rfl|rfl|rfl|rfl|rfl|rfl|rfl|rfl|rfl|rfl|rfl|rfl
  ·obtain ⟨b,hb⟩:∃ b,([124,124]==y.toList)=b:=⟨_,rfl⟩
   have hb2:(y.toList==[124,124])=b:=by rw [← hb];exact Bool.beq_comm
   have HB3:Hid (Below w.heap.size w (wr.alloc (.cells #[.string ⟨#[124,124]⟩,.int .i64 1] 152))):=hid (HBw.out.alloc HBw.out.size _)
   cases b with
   | true =>
    have hy:Hid (strP y.toList=1):=hid (by rw [show y.toList=[124,124] by simpa using hb2];rfl)
    go_wp2_with (refine wpList_indexTab rfl _ _ _ rfl _ (hi0 _) ?_)
    go_ret
    rw [hy.out]
    exact ⟨rfl,HB3.out⟩
   | false =>
    have hy:Hid (∀ j,j<0+1→y.toList≠markAt j):=hid (fun j hj=>by
     rcases Nat.lt_or_ge j 0 with h|h
     ·exact HN.out j h
     ·obtain rfl:j=0:=by omega
      simpa [markAt] using hb2)
    go_wp2_with (refine wpList_indexTab rfl _ _ _ rfl _ (hi0 _) ?_)
    go_roundw
    case rel=>exact ⟨1,rfl,by omega,hy,HB3⟩
    case measure=>simp [Go.RowKit.intOf]
  ·obtain ⟨b,hb⟩:∃ b,([38,38]==y.toList)=b:=⟨_,rfl⟩
   have hb2:(y.toList==[38,38])=b:=by rw [← hb];exact Bool.beq_comm
   have HB3:Hid (Below w.heap.size w (wr.alloc (.cells #[.string ⟨#[38,38]⟩,.int .i64 2] 152))):=hid (HBw.out.alloc HBw.out.size _)
   cases b with
   | true =>
    have hy:Hid (strP y.toList=2):=hid (by rw [show y.toList=[38,38] by simpa using hb2];rfl)
    go_wp2_with (refine wpList_indexTab rfl _ _ _ rfl _ (hi1 _) ?_)
    go_ret
    rw [hy.out]
    exact ⟨rfl,HB3.out⟩
   | false =>
    have hy:Hid (∀ j,j<1+1→y.toList≠markAt j):=hid (fun j hj=>by
     rcases Nat.lt_or_ge j 1 with h|h
     ·exact HN.out j h
     ·obtain rfl:j=1:=by omega
      simpa [markAt] using hb2)
    go_wp2_with (refine wpList_indexTab rfl _ _ _ rfl _ (hi1 _) ?_)
    go_roundw
    case rel=>exact ⟨2,rfl,by omega,hy,HB3⟩
    case measure=>simp [Go.RowKit.intOf]
  ·obtain ⟨b,hb⟩:∃ b,([61,61]==y.toList)=b:=⟨_,rfl⟩
   have hb2:(y.toList==[61,61])=b:=by rw [← hb];exact Bool.beq_comm
   have HB3:Hid (Below w.heap.size w (wr.alloc (.cells #[.string ⟨#[61,61]⟩,.int .i64 3] 152))):=hid (HBw.out.alloc HBw.out.size _)
   cases b with
   | true =>
    have hy:Hid (strP y.toList=3):=hid (by rw [show y.toList=[61,61] by simpa using hb2];rfl)
    go_wp2_with (refine wpList_indexTab rfl _ _ _ rfl _ (hi2 _) ?_)
    go_ret
    rw [hy.out]
    exact ⟨rfl,HB3.out⟩
   | false =>
    have hy:Hid (∀ j,j<2+1→y.toList≠markAt j):=hid (fun j hj=>by
     rcases Nat.lt_or_ge j 2 with h|h
     ·exact HN.out j h
     ·obtain rfl:j=2:=by omega
      simpa [markAt] using hb2)
    go_wp2_with (refine wpList_indexTab rfl _ _ _ rfl _ (hi2 _) ?_)
    go_roundw
    case rel=>exact ⟨3,rfl,by omega,hy,HB3⟩
    case measure=>simp [Go.RowKit.intOf]
  ·obtain ⟨b,hb⟩:∃ b,([33,61]==y.toList)=b:=⟨_,rfl⟩
   have hb2:(y.toList==[33,61])=b:=by rw [← hb];exact Bool.beq_comm
   have HB3:Hid (Below w.heap.size w (wr.alloc (.cells #[.string ⟨#[33,61]⟩,.int .i64 3] 152))):=hid (HBw.out.alloc HBw.out.size _)
   cases b with
   | true =>
    have hy:Hid (strP y.toList=3):=hid (by rw [show y.toList=[33,61] by simpa using hb2];rfl)
    go_wp2_with (refine wpList_indexTab rfl _ _ _ rfl _ (hi3 _) ?_)
    go_ret
    rw [hy.out]
    exact ⟨rfl,HB3.out⟩
   | false =>
    have hy:Hid (∀ j,j<3+1→y.toList≠markAt j):=hid (fun j hj=>by
     rcases Nat.lt_or_ge j 3 with h|h
     ·exact HN.out j h
     ·obtain rfl:j=3:=by omega
      simpa [markAt] using hb2)
    go_wp2_with (refine wpList_indexTab rfl _ _ _ rfl _ (hi3 _) ?_)
    go_roundw
    case rel=>exact ⟨4,rfl,by omega,hy,HB3⟩
    case measure=>simp [Go.RowKit.intOf]
  ·obtain ⟨b,hb⟩:∃ b,([60]==y.toList)=b:=⟨_,rfl⟩
   have hb2:(y.toList==[60])=b:=by rw [← hb];exact Bool.beq_comm
   have HB3:Hid (Below w.heap.size w (wr.alloc (.cells #[.string ⟨#[60]⟩,.int .i64 3] 152))):=hid (HBw.out.alloc HBw.out.size _)
   cases b with
   | true =>
    have hy:Hid (strP y.toList=3):=hid (by rw [show y.toList=[60] by simpa using hb2];rfl)
    go_wp2_with (refine wpList_indexTab rfl _ _ _ rfl _ (hi4 _) ?_)
    go_ret
    rw [hy.out]
    exact ⟨rfl,HB3.out⟩
   | false =>
    have hy:Hid (∀ j,j<4+1→y.toList≠markAt j):=hid (fun j hj=>by
     rcases Nat.lt_or_ge j 4 with h|h
     ·exact HN.out j h
     ·obtain rfl:j=4:=by omega
      simpa [markAt] using hb2)
    go_wp2_with (refine wpList_indexTab rfl _ _ _ rfl _ (hi4 _) ?_)
    go_roundw
    case rel=>exact ⟨5,rfl,by omega,hy,HB3⟩
    case measure=>simp [Go.RowKit.intOf]
  ·obtain ⟨b,hb⟩:∃ b,([60,61]==y.toList)=b:=⟨_,rfl⟩
   have hb2:(y.toList==[60,61])=b:=by rw [← hb];exact Bool.beq_comm
   have HB3:Hid (Below w.heap.size w (wr.alloc (.cells #[.string ⟨#[60,61]⟩,.int .i64 3] 152))):=hid (HBw.out.alloc HBw.out.size _)
   cases b with
   | true =>
    have hy:Hid (strP y.toList=3):=hid (by rw [show y.toList=[60,61] by simpa using hb2];rfl)
    go_wp2_with (refine wpList_indexTab rfl _ _ _ rfl _ (hi5 _) ?_)
    go_ret
    rw [hy.out]
    exact ⟨rfl,HB3.out⟩
   | false =>
    have hy:Hid (∀ j,j<5+1→y.toList≠markAt j):=hid (fun j hj=>by
     rcases Nat.lt_or_ge j 5 with h|h
     ·exact HN.out j h
     ·obtain rfl:j=5:=by omega
      simpa [markAt] using hb2)
    go_wp2_with (refine wpList_indexTab rfl _ _ _ rfl _ (hi5 _) ?_)
    go_roundw
    case rel=>exact ⟨6,rfl,by omega,hy,HB3⟩
    case measure=>simp [Go.RowKit.intOf]
  ·obtain ⟨b,hb⟩:∃ b,([62]==y.toList)=b:=⟨_,rfl⟩
   have hb2:(y.toList==[62])=b:=by rw [← hb];exact Bool.beq_comm
   have HB3:Hid (Below w.heap.size w (wr.alloc (.cells #[.string ⟨#[62]⟩,.int .i64 3] 152))):=hid (HBw.out.alloc HBw.out.size _)
   cases b with
   | true =>
    have hy:Hid (strP y.toList=3):=hid (by rw [show y.toList=[62] by simpa using hb2];rfl)
    go_wp2_with (refine wpList_indexTab rfl _ _ _ rfl _ (hi6 _) ?_)
    go_ret
    rw [hy.out]
    exact ⟨rfl,HB3.out⟩
   | false =>
    have hy:Hid (∀ j,j<6+1→y.toList≠markAt j):=hid (fun j hj=>by
     rcases Nat.lt_or_ge j 6 with h|h
     ·exact HN.out j h
     ·obtain rfl:j=6:=by omega
      simpa [markAt] using hb2)
    go_wp2_with (refine wpList_indexTab rfl _ _ _ rfl _ (hi6 _) ?_)
    go_roundw
    case rel=>exact ⟨7,rfl,by omega,hy,HB3⟩
    case measure=>simp [Go.RowKit.intOf]
  ·obtain ⟨b,hb⟩:∃ b,([62,61]==y.toList)=b:=⟨_,rfl⟩
   have hb2:(y.toList==[62,61])=b:=by rw [← hb];exact Bool.beq_comm
   have HB3:Hid (Below w.heap.size w (wr.alloc (.cells #[.string ⟨#[62,61]⟩,.int .i64 3] 152))):=hid (HBw.out.alloc HBw.out.size _)
   cases b with
   | true =>
    have hy:Hid (strP y.toList=3):=hid (by rw [show y.toList=[62,61] by simpa using hb2];rfl)
    go_wp2_with (refine wpList_indexTab rfl _ _ _ rfl _ (hi7 _) ?_)
    go_ret
    rw [hy.out]
    exact ⟨rfl,HB3.out⟩
   | false =>
    have hy:Hid (∀ j,j<7+1→y.toList≠markAt j):=hid (fun j hj=>by
     rcases Nat.lt_or_ge j 7 with h|h
     ·exact HN.out j h
     ·obtain rfl:j=7:=by omega
      simpa [markAt] using hb2)
    go_wp2_with (refine wpList_indexTab rfl _ _ _ rfl _ (hi7 _) ?_)
    go_roundw
    case rel=>exact ⟨8,rfl,by omega,hy,HB3⟩
    case measure=>simp [Go.RowKit.intOf]
  ·obtain ⟨b,hb⟩:∃ b,([43]==y.toList)=b:=⟨_,rfl⟩
   have hb2:(y.toList==[43])=b:=by rw [← hb];exact Bool.beq_comm
   have HB3:Hid (Below w.heap.size w (wr.alloc (.cells #[.string ⟨#[43]⟩,.int .i64 4] 152))):=hid (HBw.out.alloc HBw.out.size _)
   cases b with
   | true =>
    have hy:Hid (strP y.toList=4):=hid (by rw [show y.toList=[43] by simpa using hb2];rfl)
    go_wp2_with (refine wpList_indexTab rfl _ _ _ rfl _ (hi8 _) ?_)
    go_ret
    rw [hy.out]
    exact ⟨rfl,HB3.out⟩
   | false =>
    have hy:Hid (∀ j,j<8+1→y.toList≠markAt j):=hid (fun j hj=>by
     rcases Nat.lt_or_ge j 8 with h|h
     ·exact HN.out j h
     ·obtain rfl:j=8:=by omega
      simpa [markAt] using hb2)
    go_wp2_with (refine wpList_indexTab rfl _ _ _ rfl _ (hi8 _) ?_)
    go_roundw
    case rel=>exact ⟨9,rfl,by omega,hy,HB3⟩
    case measure=>simp [Go.RowKit.intOf]
  ·obtain ⟨b,hb⟩:∃ b,([45]==y.toList)=b:=⟨_,rfl⟩
   have hb2:(y.toList==[45])=b:=by rw [← hb];exact Bool.beq_comm
   have HB3:Hid (Below w.heap.size w (wr.alloc (.cells #[.string ⟨#[45]⟩,.int .i64 4] 152))):=hid (HBw.out.alloc HBw.out.size _)
   cases b with
   | true =>
    have hy:Hid (strP y.toList=4):=hid (by rw [show y.toList=[45] by simpa using hb2];rfl)
    go_wp2_with (refine wpList_indexTab rfl _ _ _ rfl _ (hi9 _) ?_)
    go_ret
    rw [hy.out]
    exact ⟨rfl,HB3.out⟩
   | false =>
    have hy:Hid (∀ j,j<9+1→y.toList≠markAt j):=hid (fun j hj=>by
     rcases Nat.lt_or_ge j 9 with h|h
     ·exact HN.out j h
     ·obtain rfl:j=9:=by omega
      simpa [markAt] using hb2)
    go_wp2_with (refine wpList_indexTab rfl _ _ _ rfl _ (hi9 _) ?_)
    go_roundw
    case rel=>exact ⟨10,rfl,by omega,hy,HB3⟩
    case measure=>simp [Go.RowKit.intOf]
  ·obtain ⟨b,hb⟩:∃ b,([42]==y.toList)=b:=⟨_,rfl⟩
   have hb2:(y.toList==[42])=b:=by rw [← hb];exact Bool.beq_comm
   have HB3:Hid (Below w.heap.size w (wr.alloc (.cells #[.string ⟨#[42]⟩,.int .i64 5] 152))):=hid (HBw.out.alloc HBw.out.size _)
   cases b with
   | true =>
    have hy:Hid (strP y.toList=5):=hid (by rw [show y.toList=[42] by simpa using hb2];rfl)
    go_wp2_with (refine wpList_indexTab rfl _ _ _ rfl _ (hi10 _) ?_)
    go_ret
    rw [hy.out]
    exact ⟨rfl,HB3.out⟩
   | false =>
    have hy:Hid (∀ j,j<10+1→y.toList≠markAt j):=hid (fun j hj=>by
     rcases Nat.lt_or_ge j 10 with h|h
     ·exact HN.out j h
     ·obtain rfl:j=10:=by omega
      simpa [markAt] using hb2)
    go_wp2_with (refine wpList_indexTab rfl _ _ _ rfl _ (hi10 _) ?_)
    go_roundw
    case rel=>exact ⟨11,rfl,by omega,hy,HB3⟩
    case measure=>simp [Go.RowKit.intOf]
  ·obtain ⟨b,hb⟩:∃ b,([47]==y.toList)=b:=⟨_,rfl⟩
   have hb2:(y.toList==[47])=b:=by rw [← hb];exact Bool.beq_comm
   have HB3:Hid (Below w.heap.size w (wr.alloc (.cells #[.string ⟨#[47]⟩,.int .i64 5] 152))):=hid (HBw.out.alloc HBw.out.size _)
   cases b with
   | true =>
    have hy:Hid (strP y.toList=5):=hid (by rw [show y.toList=[47] by simpa using hb2];rfl)
    go_wp2_with (refine wpList_indexTab rfl _ _ _ rfl _ (hi11 _) ?_)
    go_ret
    rw [hy.out]
    exact ⟨rfl,HB3.out⟩
   | false =>
    have hy:Hid (∀ j,j<11+1→y.toList≠markAt j):=hid (fun j hj=>by
     rcases Nat.lt_or_ge j 11 with h|h
     ·exact HN.out j h
     ·obtain rfl:j=11:=by omega
      simpa [markAt] using hb2)
    go_wp2_with (refine wpList_indexTab rfl _ _ _ rfl _ (hi11 _) ?_)
    go_roundw
    case rel=>exact ⟨12,rfl,by omega,hy,HB3⟩
    case measure=>simp [Go.RowKit.intOf]
  ·obtain ⟨b,hb⟩:∃ b,([37]==y.toList)=b:=⟨_,rfl⟩
   have hb2:(y.toList==[37])=b:=by rw [← hb];exact Bool.beq_comm
   have HB3:Hid (Below w.heap.size w (wr.alloc (.cells #[.string ⟨#[37]⟩,.int .i64 5] 152))):=hid (HBw.out.alloc HBw.out.size _)
   cases b with
   | true =>
    have hy:Hid (strP y.toList=5):=hid (by rw [show y.toList=[37] by simpa using hb2];rfl)
    go_wp2_with (refine wpList_indexTab rfl _ _ _ rfl _ (hi12 _) ?_)
    go_ret
    rw [hy.out]
    exact ⟨rfl,HB3.out⟩
   | false =>
    have hy:Hid (∀ j,j<12+1→y.toList≠markAt j):=hid (fun j hj=>by
     rcases Nat.lt_or_ge j 12 with h|h
     ·exact HN.out j h
     ·obtain rfl:j=12:=by omega
      simpa [markAt] using hb2)
    go_wp2_with (refine wpList_indexTab rfl _ _ _ rfl _ (hi12 _) ?_)
    go_roundw
    case rel=>exact ⟨13,rfl,by omega,hy,HB3⟩
    case measure=>simp [Go.RowKit.intOf]
  ·have hy:Hid (strP y.toList=0):=hid (strP_none (fun j hj=>HN.out j hj))
   go_wp2_with fail
   go_ret
   rw [hy.out]
   exact ⟨rfl,HBw.out⟩
end
end Go.Proofs.YtojoahlpgmnbnaaGreatDoor.K
