/- What the claim needs of the texts KWrap, KStr. -/
import Derived.Test.YtojoahlpgmnbnaaGreatDoorUOOp
import Derived.Test.YtojoahlpgmnbnaaGreatDoorUO6
set_option maxRecDepth 20000
set_option maxHeartbeats 16000000
namespace Go.Proofs.YtojoahlpgmnbnaaGreatDoor
namespace K
open Go.RowKit
open Go.Lib hiding intOf
open U S T
section
variable {d:Nat} {L:List aZ} {size:Nat} {lv:Value} {s:St} {O:Nat→Prop}
theorem AQ {W:World} {Q:Nat→Prop}:∀ {l:List Pt} {xs:List Value} {p:Pt},aO W Q (l++[p]) xs→∃ ys qB,xs=ys++five p qB∧aO W Q l ys∧aT W Q p qB
 | [],xs,p,⟨pv,rest,h1,h2,h3⟩=>⟨[],pv,by rw [h1,show rest=[] from h3];simp,rfl,h2⟩
 | q :: r,xs,p,⟨qv,rest,h1,h2,h3⟩=>by
  obtain ⟨ys,qB,h4,h5,h6⟩:=AQ h3
  exact ⟨five q qv++ys,qB,by rw [h1,h4,dC],⟨qv,ys,rfl,h2,h5⟩,h6⟩
theorem QH {W:World} {tv ov:Value} {bs qp:List (Option Nat)} {us xs mF ks:List Value} {a:Open} {r:List Open} {g c m qc:Nat} {qa:Option Addr} {l:List Pt} {p:Pt} (hM:nT d L size lv s O tv ov bs us xs W) (hs:s.opn=a :: r) (hT:pX d O a r ov bs xs W g c (.slice qa (m+1) qc) ks mF qp) (hk:a.kids=l++[p]) (hm:l.length=m) :
  ∃ gk ys qB,qa=some ⟨gk,0,none⟩∧ks=ys++five p qB∧aT W (Fr O W) p qB∧m≤qc∧(∀ j,j<5→W.cell? ⟨gk,m*5+j,none⟩=(five p qB)[j]?)∧gk<W.heap.size∧gk≠g ∧
   nT d L size lv { s with opn:={ a with kids:=l } :: r } O tv ov bs us (mF++six { a with kids:=l } (.slice qa m qc)) (W.setCell ⟨g,r.length*6+4,none⟩ (.slice qa m qc))∧bN O O W (W.setCell ⟨g,r.length*6+4,none⟩ (.slice qa m qc)):=by
 have hp:=hT.parts;rw [hk] at hp;obtain ⟨ys,qB,h1,h2,h3⟩:=AQ hp;have bY:=hT.own;rw [hk,aM,hm] at bY;obtain ⟨gk,kc,he,_,hgl⟩:=bY.form (dX m)
 cases he
 have hlen:ys.length=m*5:=by have:=bY.1;rw [h1,aM,eO] at this;simp at this;omega
 have hcap:m≤qc:=by
  rcases bY.2 with ⟨h,_⟩|⟨_,_,_,h,_,_,h4,_⟩
  ·cases h
  ·cases h;omega
 have hcell:∀ j,j<5→W.cell? ⟨gk,m*5+j,none⟩=(five p qB)[j]?:=fun j hj=>by
  have h:=bY.cellAt (m*5+j) (by show _<(m+1)*5;omega);rw [h,h1,aK (by omega),show m*5+j - ys.length=j by omega]
 have hne:gk≠g:=fun e=>by
  have h4:=dF bY (k:=gk) rfl;rw [e] at h4
  exact absurd (h4.one hT.ty) (by decide)
 rw [h1] at bY;have hdrop:=zQ bY hlen;obtain ⟨q1,q2⟩:=Gm hM hs hT 4 (by decide) (.slice (some ⟨gk,0,none⟩) m qc) (o':={ a with kids:=l }) (kv':=.slice (some ⟨gk,0,none⟩) m qc) (ks':=ys) rfl (by show W.ownsRow 0 _ 5 _ l.length _;rw [hm];exact hdrop) h2 rfl
 exact ⟨gk,ys,qB,rfl,h1,h3,hcap,hcell,hgl,hne,q1,q2⟩
theorem UB {W:World} {tv ov kv:Value} {bs qp:List (Option Nat)} {us xs mF ks:List Value} {a:Open} {r:List Open} {g c:Nat} (hM:nT d L size lv s O tv ov bs us xs W) (hs:s.opn=a :: r) (hT:pX d O a r ov bs xs W g c kv ks mF qp):∃ cs,W.heap[g]?=some (.cells cs 128 (0,0)):=by
 have hR:=hM.qx;rw [hs,hT.hov] at hR
 rcases hR.2 with ⟨h,_⟩|⟨_,_,cur,h,_,h3,_⟩
 ·cases h
 ·cases h;exact ⟨cur,h3⟩
theorem K5 {W:World} (hM:Mem d L size lv s O W) (hs:Small L s) (k:By) (a:Open) (r:List Open) (ho:s.opn=a :: r) (l:List Pt) (p:Pt) (hk:a.kids=l++[p]) :
  Calls Tryz.prog 158 #[ptr d,.string (aU k)] W fun e W'=>e=.returned (.tuple #[])∧∃ O',Mem d L size lv { s with opn:=⟨k,[],a.kf,[p],0⟩ :: { a with kids:=l } :: r } O' W'∧bN O O' W W':=by
 obtain ⟨tv,ov,bs,us,xs,hX⟩:=id hM;obtain ⟨g,c,kv,ks,mF,qp,hT⟩:=nG hX ho;obtain ⟨qa,qc,rfl⟩:=fD hT.own;obtain ⟨m,hm⟩:∃ m,l.length=m:=⟨_,rfl⟩
 have hkl:a.kids.length=m+1:=by rw [hk,aM,hm];rfl
 have hml:m+1≤1000000:=by rw [← hkl];exact hs.kids a (by rw [ho];exact bO)
 have hrl:r.length≤1000000:=by have:=hs.opn;rw [ho,aH] at this;omega
 rw [hkl] at hT;obtain ⟨gk,ys,qB,rfl,hks,hki,hcap,hcell,hgl,hgk,hXV,hSV⟩:=QH hX ho hT hk hm;obtain ⟨pa,pn,pc,rfl⟩:=eF hki;obtain ⟨q0,q1,q2,q3,oJ⟩:=zS p (.slice pa pn pc);obtain ⟨cs,hgb⟩:=UB hX ho hT;have cT:=nu hX hT hrl (aj _ _);have k4:=hT.cell 4 _ rfl;have k5:=hT.cell 5 _ rfl;have f4:=hT.frozen (r.length*6+4)
 have e0:W.cell? ⟨gk,m*5,none⟩=some (.string q0):=by rw [show m*5=m*5+0 from rfl,hcell 0 (by omega),oJ];rfl
 have e1:W.cell? ⟨gk,m*5+1,none⟩=some (.string q1):=by rw [hcell 1 (by omega),oJ];rfl
 have e2:W.cell? ⟨gk,m*5+2,none⟩=some (.int .i64 q2):=by rw [hcell 2 (by omega),oJ];rfl
 have e3:W.cell? ⟨gk,m*5+3,none⟩=some (.int .i64 q3):=by rw [hcell 3 (by omega),oJ];rfl
 have e4:W.cell? ⟨gk,m*5+4,none⟩=some (.slice pa pn pc):=by rw [hcell 4 (by omega),oJ];rfl
 obtain ⟨N,hN⟩:∃ N,m+1=N:=⟨_,rfl⟩;rw [hN] at k4
 have hm0:(0:Int)≤(m:Int):=by omega
 have hmN:(m:Int)<(N:Int):=by omega
 have aeo:m<N:=by omega
 have hmc:(m:Int)≤(qc:Int):=by omega
 have hi1:IntKind.i64.wrap ((N:Int) - 1)=(m:Int):=(bg _ (by omega)).trans (by omega);obtain ⟨V,hV⟩:∃ V,W.setCell ⟨g,r.length*6+4,none⟩ (.slice (some ⟨gk,0,none⟩) m qc)=V:=⟨_,rfl⟩;rw [hV] at hXV hSV
 have NK:V.heap.size=W.heap.size:=by rw [← hV];simp
 have MN:Hid (∀ X,Below W.heap.size W X→Below W.heap.size V (X.setCell ⟨g,r.length*6+4,none⟩ (.slice (some ⟨gk,0,none⟩) m qc))):=hid (fun X hX=>by rw [← hV];exact CK _ hX hT.lt hgb);have aaO:=hT.lt
 have k5V:V.cell? ⟨g,r.length*6+5,none⟩=some (.int .i64 a.kf):=by
  obtain ⟨g2,c2,kv2,ks2,us2,bs2,Kl⟩:=nG hXV (o:={ a with kids:=l }) (r:=r) rfl;have h2:=Kl.hov;rw [hT.hov] at h2;simp only [cZ,bW,Addr.mk.injEq,and_true,true_and] at h2;rw [h2.1]
  exact Kl.cell 5 _ rfl
 have Uw:=hid hXV;have yO:=hid hSV;have HKI:=hid hki;have H5:=hid oJ;have TP:=hid NK;have HM:=hid hm;have HK5:=hid k5V;have HOV:=hid hT.hov;have HTy:=hid hT.ty;clear hX hT hXV hSV hki oJ NK hV hgb hcell hks hkl hk hm k5 hN k5V hgl
 go_enter Tryz.func158,Tryz.ntmps158
 go_wp2_with fail
 refine cT.mono ?_;rintro e v0 ⟨rfl,m0,rfl⟩;dsimp only;replace k4:(W.drewN m0).cell? _=_:=k4;replace f4:(W.drewN m0).frozen? _=_:=f4;replace e0:(W.drewN m0).cell? _=_:=e0;replace e1:(W.drewN m0).cell? _=_:=e1;replace e2:(W.drewN m0).cell? _=_:=e2;replace e3:(W.drewN m0).cell? _=_:=e3;replace e4:(W.drewN m0).cell? _=_:=e4;have HB1:=hid (jX W m0);generalize W.drewN m0=W1 at HB1 k4 f4 e0 e1 e2 e3 e4 ⊢;clear cT;have hg1:g<W1.heap.size:=aD aaO HB1.out.size
 go_upto_region 4 with fail
 clear k4 f4 e0 e1 e2 e3 e4 hi1 hm0 hmN aeo hmc;have NN:=MN.out W1 HB1.out;obtain ⟨W2,hW2⟩:∃ W2,W1.setCell ⟨g,r.length*6+4,none⟩ (.slice (some ⟨gk,0,none⟩) m qc)=W2:=⟨_,rfl⟩;rw [hW2] at NN ⊢
 have hz2:W2.heap.size=W1.heap.size:=by rw [← hW2];simp
 rw [← hz2];obtain ⟨bp,hbp⟩:∃ bp,W2.heap.size=bp:=⟨_,rfl⟩;obtain ⟨W3,hW3⟩:∃ W3,W2.alloc (.cells #[.string q0,.string q1,.int .i64 q2,.int .i64 q3,.slice pa pn pc] 49)=W3:=⟨_,rfl⟩
 have hb3:W3.heap[bp]?=some (.cells #[.string q0,.string q1,.int .i64 q2,.int .i64 q3,.slice pa pn pc] 49 (0,0)):=by rw [← hW3,← hbp];exact fO _ _
 have hB3:Below W.heap.size V W3:=by rw [← hW3];exact NN.alloc (by have:=NN.size;rw [TP.out] at this;exact this) _
 rw [hbp,hW3];obtain ⟨Wd,hWd⟩:∃ Wd,W3.drew=Wd:=⟨_,rfl⟩
 have hbd:Wd.heap[bp]?=some (.cells #[.string q0,.string q1,.int .i64 q2,.int .i64 q3,.slice pa pn pc] 49 (0,0)):=by rw [← hWd];exact hb3
 have hBd:Below W.heap.size V Wd:=by rw [← hWd];exact hB3.drew
 have ER:Below V.heap.size V Wd:=by rw [TP.out];exact hBd
 have hbl:bp<Wd.heap.size:=(af.1 hbd).1;obtain ⟨kf,UC⟩:∃ kf,a.kf=kf:=⟨_,rfl⟩;obtain ⟨kk,hkk⟩:∃ kk,aU k=kk:=⟨_,rfl⟩;have NP:Below Wd.heap.size Wd (Wd.alloc (.cells #[.string q0,.string q1,.int .i64 q2,.int .i64 q3,.slice pa pn pc] 49)):=(aj _ _).alloc (ae _) _;have UD:Below Wd.heap.size Wd ((Wd.alloc (.cells #[.string q0,.string q1,.int .i64 q2,.int .i64 q3,.slice pa pn pc] 49)).alloc (.cells #[.string kk,.string ⟨#[]⟩,.int .i64 kf,.int .i64 0,.slice (some ⟨Wd.heap.size,0,none⟩) 1 1,.int .i64 0] 128)):=NP.alloc NP.size _;have UE:Below V.heap.size V ((Wd.alloc (.cells #[.string q0,.string q1,.int .i64 q2,.int .i64 q3,.slice pa pn pc] 49)).alloc (.cells #[.string kk,.string ⟨#[]⟩,.int .i64 kf,.int .i64 0,.slice (some ⟨Wd.heap.size,0,none⟩) 1 1,.int .i64 0] 128)):=ER.trans (UD.mono ER.size)
 have hd3:V.cell? ⟨d,3,none⟩=some ov:=by have h:=Uw.out.blk;simp [World.cell?,h]
 have hdl:d<V.heap.size:=(af.1 Uw.out.blk).1
 have hgl:g<V.heap.size:=by rw [TP.out];exact aaO
 have hR:=Uw.out.qx;obtain ⟨n,hn⟩:∃ n,r.length+1=n:=⟨_,rfl⟩
 have hnl:n≤1000001:=by omega
 have hov:=HOV.out;rw [hn] at hov
 replace hR:V.ownsRow 0 128 6 (.slice (some ⟨g,0,none⟩) n c) n (mF++six { a with kids:=l } (.slice (some ⟨gk,0,none⟩) m qc)):=by
  rw [hov] at hR;rw [show (({ s with opn:={ a with kids:=l } :: r }:St).opn).length=n from hn] at hR
  exact hR
 rw [hov] at hd3
 have MO:∀ X,Below V.heap.size V X→X.cell? ⟨d,3,none⟩=some (.slice (some ⟨g,0,none⟩) n c):=fun X hX=>(hX.cell (p:=⟨d,3,none⟩) hdl).trans hd3
 have Wu:=hid (MO _ ER);have QI:=hid (MO _ (ER.trans (NP.mono ER.size)));have Wv:=hid (MO _ UE);have QJ:Hid (Wd.cell? ⟨g,r.length*6+5,none⟩=some (.int .i64 a.kf)):=hid ((ER.cell (p:=⟨g,r.length*6+5,none⟩) hgl).trans HK5.out);have MP:Hid ((Wd.alloc (.cells #[.string q0,.string q1,.int .i64 q2,.int .i64 q3,.slice pa pn pc] 49)).cell? ⟨g,r.length*6+5,none⟩=some (.int .i64 a.kf)):=hid (((ER.trans (NP.mono ER.size)).cell (p:=⟨g,r.length*6+5,none⟩) hgl).trans HK5.out);have Jd:=hid hbd;have Gt:=hid ((NP.block bp hbl).trans hbd);have HS2:=hid ((UD.block bp hbl).trans hbd);rw [UC] at QJ MP;rw [hkk];have XQ:=hid (aV hR UE);obtain ⟨iB,hi0,hz0,hz1,hzz⟩:=fF Qp;have HKf:=hid UC
 have Um:Hid (∀ j u,(six ⟨k,[],kf,[p],0⟩ (.slice (some ⟨Wd.heap.size,0,none⟩) 1 1))[j]?=some u→((Wd.alloc (.cells #[.string q0,.string q1,.int .i64 q2,.int .i64 q3,.slice pa pn pc] 49)).alloc (.cells #[.string kk,.string ⟨#[]⟩,.int .i64 kf,.int .i64 0,.slice (some ⟨Wd.heap.size,0,none⟩) 1 1,.int .i64 0] 128)).cell? ((⟨Wd.heap.size+1,0,none⟩:Addr).add j)=some u):=hid (by
  have h:=IZ (Wd.alloc (.cells #[.string q0,.string q1,.int .i64 q2,.int .i64 q3,.slice pa pn pc] 49)) ⟨k,[],kf,[p],0⟩ (.slice (some ⟨Wd.heap.size,0,none⟩) 1 1);rw [aX] at h;rw [show aU (⟨k,[],kf,[p],0⟩:Open).k=kk from hkk] at h
  exact h)
 have HE:Hid (∀ (g5 c5:Nat) (w5:World),w5.ownsRow 0 128 6 (.slice (some ⟨g5,0,none⟩) (n+1) c5) (n+1) ((mF++six { a with kids:=l } (.slice (some ⟨gk,0,none⟩) m qc))++six ⟨k,[],kf,[p],0⟩ (.slice (some ⟨Wd.heap.size,0,none⟩) 1 1))→((Wd.alloc (.cells #[.string q0,.string q1,.int .i64 q2,.int .i64 q3,.slice pa pn pc] 49)).alloc (.cells #[.string kk,.string ⟨#[]⟩,.int .i64 kf,.int .i64 0,.slice (some ⟨Wd.heap.size,0,none⟩) 1 1,.int .i64 0] 128)).grownBy w5 (Value.slice (some ⟨g,0,none⟩) n c).ownBlock→((Value.slice (some ⟨g,0,none⟩) n c).ownBlock=some g5∨g5=((Wd.alloc (.cells #[.string q0,.string q1,.int .i64 q2,.int .i64 q3,.slice pa pn pc] 49)).alloc (.cells #[.string kk,.string ⟨#[]⟩,.int .i64 kf,.int .i64 0,.slice (some ⟨Wd.heap.size,0,none⟩) 1 1,.int .i64 0] 128)).heap.size) →
   w5.heap[bp]?=some (.cells #[.string q0,.string q1,.int .i64 q2,.int .i64 q3,.slice pa pn pc] 49 (0,0))∧(w5.setCell ⟨d,3,none⟩ (.slice (some ⟨g5,0,none⟩) (n+1) c5)).heap[bp]?=some (.cells #[.string q0,.string q1,.int .i64 q2,.int .i64 q3,.slice pa pn pc] 49 (0,0))∧w5.cell? ⟨d,3,none⟩=some (.slice (some ⟨g,0,none⟩) n c)∧w5.frozen? ⟨d,3,none⟩=false∧∃ O',Mem d L size lv { s with opn:=⟨k,[],kf,[p],0⟩ :: { a with kids:=l } :: r } O' (w5.setCell ⟨d,3,none⟩ (.slice (some ⟨g5,0,none⟩) (n+1) c5))∧bN O O' W (w5.setCell ⟨d,3,none⟩ (.slice (some ⟨g5,0,none⟩) (n+1) c5))):=hid (by
  intro g5 c5 w5 bY aP hat
  have NF:((Wd.alloc (.cells #[.string q0,.string q1,.int .i64 q2,.int .i64 q3,.slice pa pn pc] 49)).alloc (.cells #[.string kk,.string ⟨#[]⟩,.int .i64 kf,.int .i64 0,.slice (some ⟨Wd.heap.size,0,none⟩) 1 1,.int .i64 0] 128)).ownsRow 0 49 5 (.slice (some ⟨Wd.heap.size,0,none⟩) 1 1) 1 (five p (.slice pa pn pc)):=by
   rw [H5.out]
   exact (World.ownsRow_lit Wd #[.string q0,.string q1,.int .i64 q2,.int .i64 q3,.slice pa pn pc] 1 (aL _) (by decide) (by rfl)).alloc _
  have hX:=Uw.out;rw [hov] at hX
  obtain ⟨h1,h2,O',h3,h4⟩:=EM hX (m:=n) hn UE bY aP hat (kv:=.slice (some ⟨Wd.heap.size,0,none⟩) 1 1) (ks:=five p (.slice pa pn pc)) NF ⟨.slice pa pn pc,[],by simp,aT.later (R:=Fr O W) (R':=Fr O V) (fun k hk _=>yO.out.at hk) (fun k hk=>yO.out.fr hk) p _ HKI.out,rfl⟩ (fun k hk=>by
   obtain rfl:Wd.heap.size=k:=aY hk
   exact ER.size)
  have hgb:g≠bp:=fun e=>by
   have h6:=NN.size;rw [TP.out] at h6
   omega
  have h5:w5.heap[bp]?=some (.cells #[.string q0,.string q1,.int .i64 q2,.int .i64 q3,.slice pa pn pc] 49 (0,0)):=(aP.block bp (aD hbl UD.size) (fun e=>hgb (aY e).symm)).trans HS2.out
  have hdb:bp≠d:=by have h6:=NN.size;omega
  exact ⟨h5,(ak _ _ _ _ hdb).trans h5,h1,h2,O',h3,yO.out.trans h4⟩)
 clear UC hR MO UE NP UD ER hBd hbd hbl hov hd3 hdl hgl NN hB3 hb3 hz2 hW2
 refine aS (S:=fun X:World=>X.heap[bp]?=some (.cells #[.string q0,.string q1,.int .i64 q2,.int .i64 q3,.slice pa pn pc] 49 (0,0))) (by kernel_rfl) (by rw [hWd];exact Jd.out) fun ag=>?_
 rw [hWd] at ag ⊢;refine OP.m 0 rfl (ptr d) ag ?_;simp only [OP.s];refine OP.m 1 rfl (ptr d) ag ?_;simp only [OP.s];refine OP.m 2 rfl (ptr d) ag ?_;simp only [OP.s];refine OP.m 3 rfl (.pointer (some ⟨d,3,none⟩)) ag ?_;simp only [OP.s];refine OP.m 5 rfl (.string kk) ag ?_;simp only [OP.s];refine OP.m 6 rfl (.pointer (some ⟨g,r.length*6,none⟩)) ag ?_;simp only [OP.s];refine OP.m 7 rfl (.pointer (some ⟨g,r.length*6,none⟩)) ag ?_;simp only [OP.s];refine OP.m 8 rfl (.pointer (some ⟨g,r.length*6+5,none⟩)) ag ?_;simp only [OP.s];refine OP.y 10 rfl (.agg #[.string q0,.string q1,.int .i64 q2,.int .i64 q3,.slice pa pn pc]) (dA 49 (.tmp 6) rfl (by rfl) (fun X hX=>EP hX)) ag ?_;simp only [OP.s];refine OP.l [4,9,11] ?_
 refine (OP.c rfl (fun K hK=>?_) (OP.c rfl (fun K hK=>?_) (OP.c rfl (fun K hK=>?_) AllReadyH.nil)))
 focus
  refine OP.w ?_;have q4:=Wu.out
  go_simp
  refine hK.out _ _ Jd.out fun ag=>?_
  try simp only [OP.s]
  clear hK K;clear q4
  refine OP.q 9 11 rfl rfl (fun K hK=>?_) fun K hK=>?_
  focus
   refine OP.w ?_;have q4:=QJ.out
   go_simp
   refine hK.out _ _ Jd.out fun ag=>?_
   try simp only [OP.s]
   clear hK K;clear q4
   refine OP.r 11 rfl fun K hK=>?_
   go_simp
   refine hK.out _ _ Gt.out fun ag=>?_
   try simp only [OP.s]
   clear hK K
  rotate_left
  focus
   refine OP.w ?_
   go_simp
   refine hK.out _ _ Gt.out fun ag=>?_
   try simp only [OP.s]
   clear hK K
   refine OP.r 9 rfl fun K hK=>?_
   have q4:=MP.out
   go_simp
   refine hK.out _ _ Gt.out fun ag=>?_
   try simp only [OP.s]
   clear hK K;clear q4
  rotate_left
  all_goals
   refine OP.t 12 rfl (.agg #[.string kk,.string ⟨#[]⟩,.int .i64 kf,.int .i64 0,.slice (some ⟨Wd.heap.size,0,none⟩) 1 1]) (fun X hX=>by kernel_rfl) ag ?_;simp only [OP.s];refine OP.t 13 rfl (.agg #[.string kk,.string ⟨#[]⟩,.int .i64 kf,.int .i64 0,.slice (some ⟨Wd.heap.size,0,none⟩) 1 1,.int .i64 0]) (fun X hX=>by kernel_rfl) ag ?_;simp only [OP.s]
   refine OP.r 14 rfl fun K hK=>?_
   go_simp
   refine hK.out _ _ HS2.out fun ag=>?_
   try simp only [OP.s]
   clear hK K
 rotate_left 2
 focus
  refine OP.w ?_;have q4:=QJ.out
  go_simp
  refine hK.out _ _ Jd.out fun ag=>?_
  try simp only [OP.s]
  clear hK K;clear q4
  refine OP.q 4 11 rfl rfl (fun K hK=>?_) fun K hK=>?_
  focus
   refine OP.w ?_;have q4:=Wu.out
   go_simp
   refine hK.out _ _ Jd.out fun ag=>?_
   try simp only [OP.s]
   clear hK K;clear q4
   refine OP.r 11 rfl fun K hK=>?_
   go_simp
   refine hK.out _ _ Gt.out fun ag=>?_
   try simp only [OP.s]
   clear hK K;refine OP.t 12 rfl (.agg #[.string kk,.string ⟨#[]⟩,.int .i64 kf,.int .i64 0,.slice (some ⟨Wd.heap.size,0,none⟩) 1 1]) (fun X hX=>by kernel_rfl) ag ?_;simp only [OP.s];refine OP.t 13 rfl (.agg #[.string kk,.string ⟨#[]⟩,.int .i64 kf,.int .i64 0,.slice (some ⟨Wd.heap.size,0,none⟩) 1 1,.int .i64 0]) (fun X hX=>by kernel_rfl) ag ?_;simp only [OP.s]
   refine OP.r 14 rfl fun K hK=>?_
   go_simp
   refine hK.out _ _ HS2.out fun ag=>?_
   try simp only [OP.s]
   clear hK K
  rotate_left
  focus
   refine OP.w ?_
   go_simp
   refine hK.out _ _ Gt.out fun ag=>?_
   try simp only [OP.s]
   clear hK K;refine OP.t 12 rfl (.agg #[.string kk,.string ⟨#[]⟩,.int .i64 kf,.int .i64 0,.slice (some ⟨Wd.heap.size,0,none⟩) 1 1]) (fun X hX=>by kernel_rfl) ag ?_;simp only [OP.s];refine OP.t 13 rfl (.agg #[.string kk,.string ⟨#[]⟩,.int .i64 kf,.int .i64 0,.slice (some ⟨Wd.heap.size,0,none⟩) 1 1,.int .i64 0]) (fun X hX=>by kernel_rfl) ag ?_;simp only [OP.s]
   refine OP.q 4 14 rfl rfl (fun K hK=>?_) fun K hK=>?_
   focus
    refine OP.w ?_;have q4:=QI.out
    go_simp
    refine hK.out _ _ Gt.out fun ag=>?_
    try simp only [OP.s]
    clear hK K;clear q4
    refine OP.r 14 rfl fun K hK=>?_
    go_simp
    refine hK.out _ _ HS2.out fun ag=>?_
    try simp only [OP.s]
    clear hK K
   rotate_left
   focus
    refine OP.w ?_
    go_simp
    refine hK.out _ _ HS2.out fun ag=>?_
    try simp only [OP.s]
    clear hK K
    refine OP.r 4 rfl fun K hK=>?_
    have q4:=Wv.out
    go_simp
    refine hK.out _ _ HS2.out fun ag=>?_
    try simp only [OP.s]
    clear hK K;clear q4
   rotate_left
  rotate_left 2
 rotate_left 3
 focus
  refine OP.w ?_
  go_simp
  refine hK.out _ _ Gt.out fun ag=>?_
  try simp only [OP.s]
  clear hK K
  refine OP.q 4 9 rfl rfl (fun K hK=>?_) fun K hK=>?_
  focus
   refine OP.w ?_;have q4:=QI.out
   go_simp
   refine hK.out _ _ Gt.out fun ag=>?_
   try simp only [OP.s]
   clear hK K;clear q4
   refine OP.r 9 rfl fun K hK=>?_
   have q4:=MP.out
   go_simp
   refine hK.out _ _ Gt.out fun ag=>?_
   try simp only [OP.s]
   clear hK K;clear q4;refine OP.t 12 rfl (.agg #[.string kk,.string ⟨#[]⟩,.int .i64 kf,.int .i64 0,.slice (some ⟨Wd.heap.size,0,none⟩) 1 1]) (fun X hX=>by kernel_rfl) ag ?_;simp only [OP.s];refine OP.t 13 rfl (.agg #[.string kk,.string ⟨#[]⟩,.int .i64 kf,.int .i64 0,.slice (some ⟨Wd.heap.size,0,none⟩) 1 1,.int .i64 0]) (fun X hX=>by kernel_rfl) ag ?_;simp only [OP.s]
   refine OP.r 14 rfl fun K hK=>?_
   go_simp
   refine hK.out _ _ HS2.out fun ag=>?_
   try simp only [OP.s]
   clear hK K
  rotate_left
  focus
   refine OP.w ?_;have q4:=MP.out
   go_simp
   refine hK.out _ _ Gt.out fun ag=>?_
   try simp only [OP.s]
   clear hK K;clear q4;refine OP.t 12 rfl (.agg #[.string kk,.string ⟨#[]⟩,.int .i64 kf,.int .i64 0,.slice (some ⟨Wd.heap.size,0,none⟩) 1 1]) (fun X hX=>by kernel_rfl) ag ?_;simp only [OP.s];refine OP.t 13 rfl (.agg #[.string kk,.string ⟨#[]⟩,.int .i64 kf,.int .i64 0,.slice (some ⟨Wd.heap.size,0,none⟩) 1 1,.int .i64 0]) (fun X hX=>by kernel_rfl) ag ?_;simp only [OP.s]
   refine OP.q 4 14 rfl rfl (fun K hK=>?_) fun K hK=>?_
   focus
    refine OP.w ?_;have q4:=QI.out
    go_simp
    refine hK.out _ _ Gt.out fun ag=>?_
    try simp only [OP.s]
    clear hK K;clear q4
    refine OP.r 14 rfl fun K hK=>?_
    go_simp
    refine hK.out _ _ HS2.out fun ag=>?_
    try simp only [OP.s]
    clear hK K
   rotate_left
   focus
    refine OP.w ?_
    go_simp
    refine hK.out _ _ HS2.out fun ag=>?_
    try simp only [OP.s]
    clear hK K
    refine OP.r 4 rfl fun K hK=>?_
    have q4:=Wv.out
    go_simp
    refine hK.out _ _ HS2.out fun ag=>?_
    try simp only [OP.s]
    clear hK K;clear q4
   rotate_left
  rotate_left 2
 rotate_left 3
 all_goals
  refine OP.r 15 rfl fun K hK=>?_
  refine eD _ (.tmp 39) (.tmp 49) 120 rfl 0 128 iB (.agg #[.string ⟨#[]⟩,.string ⟨#[]⟩,.int .i64 0,.int .i64 0,.slice none 0 0,.int .i64 0]) 6 80 Tryz.underlying120 hi0 hz0 hz1 hzz rfl (by decide) (.slice (some ⟨g,0,none⟩) n c) n _ rfl XQ.out ⟨Wd.heap.size+1,0,none⟩ 1 1 (six ⟨k,[],kf,[p],0⟩ (.slice (some ⟨Wd.heap.size,0,none⟩) 1 1)) rfl rfl Um.out (MH _ _ ⟨_,_,_,rfl⟩) (by decide) (by unfold maxLen;omega) (by omega) (aL _) _ rfl ?_;intro g5 c5 w5 bY aP hat Bt;obtain ⟨hs5,hs6,q3,f3,hfin⟩:=HE.out g5 c5 w5 bY aP hat;have HFin:=hid hfin;clear hfin bY aP hat
  refine hK.out _ _ hs5 fun ag=>?_
  try simp only [OP.s]
  clear hK K;refine OP.m 16 rfl (ptr d) ag ?_;simp only [OP.s];refine OP.m 17 rfl (.pointer (some ⟨d,3,none⟩)) ag ?_;simp only [OP.s]
  refine OP.r 18 rfl fun K hK=>?_
  go_simp
  refine hK.out _ _ hs6 fun ag=>?_
  try simp only [OP.s]
  clear hK K;refine bL (by kernel_rfl) ?_ _;have hF:=HFin.out;rw [← HKf.out] at hF
  exact fZ (aI rfl _ _ _) rfl ⟨rfl,hF⟩
end
section
variable {d:Nat} {L:List aZ} {size:Nat} {lv:Value} {s:St} {O:Nat→Prop}
def oP:List Value:=[.string ⟨#[124,124]⟩,.int .i64 1,.string ⟨#[38,38]⟩,.int .i64 2,.string ⟨#[61,61]⟩,.int .i64 3,.string ⟨#[33,61]⟩,.int .i64 3,.string ⟨#[60]⟩,.int .i64 3,.string ⟨#[60,61]⟩,.int .i64 3,.string ⟨#[62]⟩,.int .i64 3,.string ⟨#[62,61]⟩,.int .i64 3,.string ⟨#[43]⟩,.int .i64 4,.string ⟨#[45]⟩,.int .i64 4,.string ⟨#[42]⟩,.int .i64 5,.string ⟨#[47]⟩,.int .i64 5,.string ⟨#[37]⟩,.int .i64 5]
def Et (O:Nat→Prop) (W:World):Prop:=Fr O W 2∧dK W 2 0 oP
theorem Et.stay {O':Nat→Prop} {W W':World} (h:Et O W) (hS:bN O O' W W'):Et O' W':=⟨hS.fr h.1,fun j u hj=>by
 have h1:=h.2 j u hj
 unfold World.cell? at h1 ⊢
 rw [hS.at h.1];exact h1⟩
theorem UF {W:World} {g j:Nat} {u:Value} (h:W.cell? ⟨g,0+j,none⟩=some u):W.cell? ((⟨g,0,none⟩:Addr).add j)=some u:=by
 rw [bz] at h
 by_cases h0:j=0
 ·subst h0;simpa [Addr.add] using h
 ·simpa [Addr.add,h0] using h
theorem UG {W:World} (h:dK W 2 0 oP):(Instr.loadAt 153 (.pointer (some ⟨2,0,none⟩))).run Tryz.prog W=.ok (.agg oP.toArray) W:=by
 have h2:=run_loadCells_list (P:=Tryz.prog) (w:=W) ⟨2,0,none⟩ oP (fun j u hj=>UF (h j u hj));have h3:oP.length=26:=rfl;rw [h3] at h2
 unfold Instr.loadAt Instr.sureAddr loadVar
 simp only [iV,iW,eP,Tryz.isAgg153,Tryz.sizeOf153,h2,if_true]
theorem CQ {P:Program} {w:World} {ops:Array Oper} {rest:List Oper} {o:Oper} {a:Act} {Q:Exit→Act→World→Prop} (hgd:o.guard=none) (t:TypeId) (x:Operand) (ho:o.op=.load t x) (v:Value)
  (hr:(Instr.loadAt t (a.eval x)).run P w=.ok v w) (h:wpList P ops Q rest (a.put o.dst v) w):wpList P ops Q (o :: rest) a w:=by
 refine wpList_plain hgd fun K hK=>?_
 unfold Oper.wp
 simp [execOp,ho,hr,Result.andThen]
 exact hK _ _ h
theorem bK {P:Program} {w:World} {ops:Array Oper} {rest:List Oper} {o:Oper} {a:Act} {Q:Exit→Act→World→Prop} (hgd:o.guard=none) (t:TypeId) (x y:Operand) (ho:o.op=.index t x y) (v:Value)
  (hr:(Instr.index t (a.eval x) (a.eval y)).run P w=.ok v w) (h:wpList P ops Q rest (a.put o.dst v) w):wpList P ops Q (o :: rest) a w:=by
 refine wpList_plain hgd fun K hK=>?_
 unfold Oper.wp
 simp [execOp,ho,hr,Result.andThen]
 exact hK _ _ h
theorem QK (W:World):(Instr.index 153 (.agg oP.toArray) (.int .i64 0)).run Tryz.prog W=.ok (.agg #[.string ⟨#[124,124]⟩,.int .i64 1]) W:=by kernel_rfl
theorem QL (W:World):(Instr.index 153 (.agg oP.toArray) (.int .i64 1)).run Tryz.prog W=.ok (.agg #[.string ⟨#[38,38]⟩,.int .i64 2]) W:=by kernel_rfl
theorem QM (W:World):(Instr.index 153 (.agg oP.toArray) (.int .i64 2)).run Tryz.prog W=.ok (.agg #[.string ⟨#[61,61]⟩,.int .i64 3]) W:=by kernel_rfl
theorem QN (W:World):(Instr.index 153 (.agg oP.toArray) (.int .i64 3)).run Tryz.prog W=.ok (.agg #[.string ⟨#[33,61]⟩,.int .i64 3]) W:=by kernel_rfl
theorem QO (W:World):(Instr.index 153 (.agg oP.toArray) (.int .i64 4)).run Tryz.prog W=.ok (.agg #[.string ⟨#[60]⟩,.int .i64 3]) W:=by kernel_rfl
theorem QP (W:World):(Instr.index 153 (.agg oP.toArray) (.int .i64 5)).run Tryz.prog W=.ok (.agg #[.string ⟨#[60,61]⟩,.int .i64 3]) W:=by kernel_rfl
theorem QQ (W:World):(Instr.index 153 (.agg oP.toArray) (.int .i64 6)).run Tryz.prog W=.ok (.agg #[.string ⟨#[62]⟩,.int .i64 3]) W:=by kernel_rfl
theorem QR (W:World):(Instr.index 153 (.agg oP.toArray) (.int .i64 7)).run Tryz.prog W=.ok (.agg #[.string ⟨#[62,61]⟩,.int .i64 3]) W:=by kernel_rfl
theorem QS (W:World):(Instr.index 153 (.agg oP.toArray) (.int .i64 8)).run Tryz.prog W=.ok (.agg #[.string ⟨#[43]⟩,.int .i64 4]) W:=by kernel_rfl
theorem QT (W:World):(Instr.index 153 (.agg oP.toArray) (.int .i64 9)).run Tryz.prog W=.ok (.agg #[.string ⟨#[45]⟩,.int .i64 4]) W:=by kernel_rfl
theorem NQ (W:World):(Instr.index 153 (.agg oP.toArray) (.int .i64 10)).run Tryz.prog W=.ok (.agg #[.string ⟨#[42]⟩,.int .i64 5]) W:=by kernel_rfl
theorem NR (W:World):(Instr.index 153 (.agg oP.toArray) (.int .i64 11)).run Tryz.prog W=.ok (.agg #[.string ⟨#[47]⟩,.int .i64 5]) W:=by kernel_rfl
theorem NS (W:World):(Instr.index 153 (.agg oP.toArray) (.int .i64 12)).run Tryz.prog W=.ok (.agg #[.string ⟨#[37]⟩,.int .i64 5]) W:=by kernel_rfl
def iQ:Nat→By
 | 0=>[124,124]
 | 1=>[38,38]
 | 2=>[61,61]
 | 3=>[33,61]
 | 4=>[60]
 | 5=>[60,61]
 | 6=>[62]
 | 7=>[62,61]
 | 8=>[43]
 | 9=>[45]
 | 10=>[42]
 | 11=>[47]
 | 12=>[37]
 | _=>[]
theorem NT {x:By} (h:∀ j,j<13→x≠iQ j):mH x=0:=by
 have h0:=h 0 (by decide);have h1:=h 1 (by decide);have h2:=h 2 (by decide);have h3:=h 3 (by decide);have h4:=h 4 (by decide);have h5:=h 5 (by decide);have h6:=h 6 (by decide);have h7:=h 7 (by decide);have h8:=h 8 (by decide);have h9:=h 9 (by decide);have h10:=h 10 (by decide);have h11:=h 11 (by decide);have h12:=h 12 (by decide);simp only [iQ] at h0 h1 h2 h3 h4 h5 h6 h7 h8 h9 h10 h11 h12
 unfold mH
 simp only [h0,h1,h2,h3,h4,h5,h6,h7,h8,h9,h10,h11,h12,or_self,if_false]
set_option maxRecDepth 100000 in
theorem MQ (y:ByteArray) (w:World) (hC:dK w 2 0 oP):Calls Tryz.prog 157 #[.string y] w fun e w'=>e=.returned (.int .i64 (mH y.toList))∧Below w.heap.size w w':=by
 obtain ⟨T,hT⟩:∃ T,Value.agg oP.toArray=T:=⟨_,rfl⟩;have hL:=UG hC;rw [hT] at hL;have hi0:=QK;simp only [hT] at hi0;have hi1:=QL;simp only [hT] at hi1;have hi2:=QM;simp only [hT] at hi2;have hi3:=QN;simp only [hT] at hi3;have hi4:=QO;simp only [hT] at hi4;have hi5:=QP;simp only [hT] at hi5;have hi6:=QQ;simp only [hT] at hi6;have hi7:=QR;simp only [hT] at hi7;have hi8:=QS;simp only [hT] at hi8;have hi9:=QT;simp only [hT] at hi9;have QU:=NQ;simp only [hT] at QU;have XR:=NR;simp only [hT] at XR;have XT:=NS;simp only [hT] at XT;clear hC hT
 go_enter Tryz.func157,Tryz.ntmps157
 go_wp2_with (refine CQ rfl _ _ rfl T hL ?_)
 clear hL
 go_loopw [6] (fun iv wr=>∃ i:Nat,iv=.int .i64 i∧i≤13∧Hid (∀ j,j<i→y.toList≠iQ j)∧Hid (Below w.heap.size w wr)) (fun iv _=>13 - (Go.RowKit.intOf iv).toNat)
 case atStart=>exact ⟨0,rfl,by omega,hid (fun k h=>by omega),hid (aj _ _)⟩
 case round =>
  obtain ⟨i,rfl,hi,HN,zT⟩:=hrel
  have hcs:i=0∨i=1∨i=2∨i=3∨i=4∨i=5∨i=6∨i=7∨i=8∨i=9∨i=10∨i=11∨i=12∨i=13:=by omega
  rcases hcs with rfl|rfl|rfl|rfl|rfl|rfl|rfl|rfl|rfl|rfl|rfl|rfl|rfl|rfl
  ·obtain ⟨b,hb⟩:∃ b,([124,124]==y.toList)=b:=⟨_,rfl⟩
   have hb2:(y.toList==[124,124])=b:=by rw [← hb];exact fU
   have HB3:Hid (Below w.heap.size w (wr.alloc (.cells #[.string ⟨#[124,124]⟩,.int .i64 1] 152))):=hid (zT.out.alloc zT.out.size _)
   cases b with
   | true =>
    have hy:Hid (mH y.toList=1):=hid (by rw [show y.toList=[124,124] by simpa using hb2];rfl)
    go_wp2_with (refine bK rfl _ _ _ rfl _ (hi0 _) ?_)
    go_ret
    rw [hy.out]
    exact ⟨rfl,HB3.out⟩
   | false =>
    have hy:Hid (∀ j,j<0+1→y.toList≠iQ j):=hid (fun j hj=>by
     rcases dW j 0 with h|h
     ·exact HN.out j h
     ·obtain rfl:j=0:=by omega
      simpa [iQ] using hb2)
    go_wp2_with (refine bK rfl _ _ _ rfl _ (hi0 _) ?_)
    go_roundw
    case rel=>exact ⟨1,rfl,by omega,hy,HB3⟩
    case measure=>simp [Go.RowKit.intOf]
  ·obtain ⟨b,hb⟩:∃ b,([38,38]==y.toList)=b:=⟨_,rfl⟩
   have hb2:(y.toList==[38,38])=b:=by rw [← hb];exact fU
   have HB3:Hid (Below w.heap.size w (wr.alloc (.cells #[.string ⟨#[38,38]⟩,.int .i64 2] 152))):=hid (zT.out.alloc zT.out.size _)
   cases b with
   | true =>
    have hy:Hid (mH y.toList=2):=hid (by rw [show y.toList=[38,38] by simpa using hb2];rfl)
    go_wp2_with (refine bK rfl _ _ _ rfl _ (hi1 _) ?_)
    go_ret
    rw [hy.out]
    exact ⟨rfl,HB3.out⟩
   | false =>
    have hy:Hid (∀ j,j<1+1→y.toList≠iQ j):=hid (fun j hj=>by
     rcases dW j 1 with h|h
     ·exact HN.out j h
     ·obtain rfl:j=1:=by omega
      simpa [iQ] using hb2)
    go_wp2_with (refine bK rfl _ _ _ rfl _ (hi1 _) ?_)
    go_roundw
    case rel=>exact ⟨2,rfl,by omega,hy,HB3⟩
    case measure=>simp [Go.RowKit.intOf]
  ·obtain ⟨b,hb⟩:∃ b,([61,61]==y.toList)=b:=⟨_,rfl⟩
   have hb2:(y.toList==[61,61])=b:=by rw [← hb];exact fU
   have HB3:Hid (Below w.heap.size w (wr.alloc (.cells #[.string ⟨#[61,61]⟩,.int .i64 3] 152))):=hid (zT.out.alloc zT.out.size _)
   cases b with
   | true =>
    have hy:Hid (mH y.toList=3):=hid (by rw [show y.toList=[61,61] by simpa using hb2];rfl)
    go_wp2_with (refine bK rfl _ _ _ rfl _ (hi2 _) ?_)
    go_ret
    rw [hy.out]
    exact ⟨rfl,HB3.out⟩
   | false =>
    have hy:Hid (∀ j,j<2+1→y.toList≠iQ j):=hid (fun j hj=>by
     rcases dW j 2 with h|h
     ·exact HN.out j h
     ·obtain rfl:j=2:=by omega
      simpa [iQ] using hb2)
    go_wp2_with (refine bK rfl _ _ _ rfl _ (hi2 _) ?_)
    go_roundw
    case rel=>exact ⟨3,rfl,by omega,hy,HB3⟩
    case measure=>simp [Go.RowKit.intOf]
  ·obtain ⟨b,hb⟩:∃ b,([33,61]==y.toList)=b:=⟨_,rfl⟩
   have hb2:(y.toList==[33,61])=b:=by rw [← hb];exact fU
   have HB3:Hid (Below w.heap.size w (wr.alloc (.cells #[.string ⟨#[33,61]⟩,.int .i64 3] 152))):=hid (zT.out.alloc zT.out.size _)
   cases b with
   | true =>
    have hy:Hid (mH y.toList=3):=hid (by rw [show y.toList=[33,61] by simpa using hb2];rfl)
    go_wp2_with (refine bK rfl _ _ _ rfl _ (hi3 _) ?_)
    go_ret
    rw [hy.out]
    exact ⟨rfl,HB3.out⟩
   | false =>
    have hy:Hid (∀ j,j<3+1→y.toList≠iQ j):=hid (fun j hj=>by
     rcases dW j 3 with h|h
     ·exact HN.out j h
     ·obtain rfl:j=3:=by omega
      simpa [iQ] using hb2)
    go_wp2_with (refine bK rfl _ _ _ rfl _ (hi3 _) ?_)
    go_roundw
    case rel=>exact ⟨4,rfl,by omega,hy,HB3⟩
    case measure=>simp [Go.RowKit.intOf]
  ·obtain ⟨b,hb⟩:∃ b,([60]==y.toList)=b:=⟨_,rfl⟩
   have hb2:(y.toList==[60])=b:=by rw [← hb];exact fU
   have HB3:Hid (Below w.heap.size w (wr.alloc (.cells #[.string ⟨#[60]⟩,.int .i64 3] 152))):=hid (zT.out.alloc zT.out.size _)
   cases b with
   | true =>
    have hy:Hid (mH y.toList=3):=hid (by rw [show y.toList=[60] by simpa using hb2];rfl)
    go_wp2_with (refine bK rfl _ _ _ rfl _ (hi4 _) ?_)
    go_ret
    rw [hy.out]
    exact ⟨rfl,HB3.out⟩
   | false =>
    have hy:Hid (∀ j,j<4+1→y.toList≠iQ j):=hid (fun j hj=>by
     rcases dW j 4 with h|h
     ·exact HN.out j h
     ·obtain rfl:j=4:=by omega
      simpa [iQ] using hb2)
    go_wp2_with (refine bK rfl _ _ _ rfl _ (hi4 _) ?_)
    go_roundw
    case rel=>exact ⟨5,rfl,by omega,hy,HB3⟩
    case measure=>simp [Go.RowKit.intOf]
  ·obtain ⟨b,hb⟩:∃ b,([60,61]==y.toList)=b:=⟨_,rfl⟩
   have hb2:(y.toList==[60,61])=b:=by rw [← hb];exact fU
   have HB3:Hid (Below w.heap.size w (wr.alloc (.cells #[.string ⟨#[60,61]⟩,.int .i64 3] 152))):=hid (zT.out.alloc zT.out.size _)
   cases b with
   | true =>
    have hy:Hid (mH y.toList=3):=hid (by rw [show y.toList=[60,61] by simpa using hb2];rfl)
    go_wp2_with (refine bK rfl _ _ _ rfl _ (hi5 _) ?_)
    go_ret
    rw [hy.out]
    exact ⟨rfl,HB3.out⟩
   | false =>
    have hy:Hid (∀ j,j<5+1→y.toList≠iQ j):=hid (fun j hj=>by
     rcases dW j 5 with h|h
     ·exact HN.out j h
     ·obtain rfl:j=5:=by omega
      simpa [iQ] using hb2)
    go_wp2_with (refine bK rfl _ _ _ rfl _ (hi5 _) ?_)
    go_roundw
    case rel=>exact ⟨6,rfl,by omega,hy,HB3⟩
    case measure=>simp [Go.RowKit.intOf]
  ·obtain ⟨b,hb⟩:∃ b,([62]==y.toList)=b:=⟨_,rfl⟩
   have hb2:(y.toList==[62])=b:=by rw [← hb];exact fU
   have HB3:Hid (Below w.heap.size w (wr.alloc (.cells #[.string ⟨#[62]⟩,.int .i64 3] 152))):=hid (zT.out.alloc zT.out.size _)
   cases b with
   | true =>
    have hy:Hid (mH y.toList=3):=hid (by rw [show y.toList=[62] by simpa using hb2];rfl)
    go_wp2_with (refine bK rfl _ _ _ rfl _ (hi6 _) ?_)
    go_ret
    rw [hy.out]
    exact ⟨rfl,HB3.out⟩
   | false =>
    have hy:Hid (∀ j,j<6+1→y.toList≠iQ j):=hid (fun j hj=>by
     rcases dW j 6 with h|h
     ·exact HN.out j h
     ·obtain rfl:j=6:=by omega
      simpa [iQ] using hb2)
    go_wp2_with (refine bK rfl _ _ _ rfl _ (hi6 _) ?_)
    go_roundw
    case rel=>exact ⟨7,rfl,by omega,hy,HB3⟩
    case measure=>simp [Go.RowKit.intOf]
  ·obtain ⟨b,hb⟩:∃ b,([62,61]==y.toList)=b:=⟨_,rfl⟩
   have hb2:(y.toList==[62,61])=b:=by rw [← hb];exact fU
   have HB3:Hid (Below w.heap.size w (wr.alloc (.cells #[.string ⟨#[62,61]⟩,.int .i64 3] 152))):=hid (zT.out.alloc zT.out.size _)
   cases b with
   | true =>
    have hy:Hid (mH y.toList=3):=hid (by rw [show y.toList=[62,61] by simpa using hb2];rfl)
    go_wp2_with (refine bK rfl _ _ _ rfl _ (hi7 _) ?_)
    go_ret
    rw [hy.out]
    exact ⟨rfl,HB3.out⟩
   | false =>
    have hy:Hid (∀ j,j<7+1→y.toList≠iQ j):=hid (fun j hj=>by
     rcases dW j 7 with h|h
     ·exact HN.out j h
     ·obtain rfl:j=7:=by omega
      simpa [iQ] using hb2)
    go_wp2_with (refine bK rfl _ _ _ rfl _ (hi7 _) ?_)
    go_roundw
    case rel=>exact ⟨8,rfl,by omega,hy,HB3⟩
    case measure=>simp [Go.RowKit.intOf]
  ·obtain ⟨b,hb⟩:∃ b,([43]==y.toList)=b:=⟨_,rfl⟩
   have hb2:(y.toList==[43])=b:=by rw [← hb];exact fU
   have HB3:Hid (Below w.heap.size w (wr.alloc (.cells #[.string ⟨#[43]⟩,.int .i64 4] 152))):=hid (zT.out.alloc zT.out.size _)
   cases b with
   | true =>
    have hy:Hid (mH y.toList=4):=hid (by rw [show y.toList=[43] by simpa using hb2];rfl)
    go_wp2_with (refine bK rfl _ _ _ rfl _ (hi8 _) ?_)
    go_ret
    rw [hy.out]
    exact ⟨rfl,HB3.out⟩
   | false =>
    have hy:Hid (∀ j,j<8+1→y.toList≠iQ j):=hid (fun j hj=>by
     rcases dW j 8 with h|h
     ·exact HN.out j h
     ·obtain rfl:j=8:=by omega
      simpa [iQ] using hb2)
    go_wp2_with (refine bK rfl _ _ _ rfl _ (hi8 _) ?_)
    go_roundw
    case rel=>exact ⟨9,rfl,by omega,hy,HB3⟩
    case measure=>simp [Go.RowKit.intOf]
  ·obtain ⟨b,hb⟩:∃ b,([45]==y.toList)=b:=⟨_,rfl⟩
   have hb2:(y.toList==[45])=b:=by rw [← hb];exact fU
   have HB3:Hid (Below w.heap.size w (wr.alloc (.cells #[.string ⟨#[45]⟩,.int .i64 4] 152))):=hid (zT.out.alloc zT.out.size _)
   cases b with
   | true =>
    have hy:Hid (mH y.toList=4):=hid (by rw [show y.toList=[45] by simpa using hb2];rfl)
    go_wp2_with (refine bK rfl _ _ _ rfl _ (hi9 _) ?_)
    go_ret
    rw [hy.out]
    exact ⟨rfl,HB3.out⟩
   | false =>
    have hy:Hid (∀ j,j<9+1→y.toList≠iQ j):=hid (fun j hj=>by
     rcases dW j 9 with h|h
     ·exact HN.out j h
     ·obtain rfl:j=9:=by omega
      simpa [iQ] using hb2)
    go_wp2_with (refine bK rfl _ _ _ rfl _ (hi9 _) ?_)
    go_roundw
    case rel=>exact ⟨10,rfl,by omega,hy,HB3⟩
    case measure=>simp [Go.RowKit.intOf]
  ·obtain ⟨b,hb⟩:∃ b,([42]==y.toList)=b:=⟨_,rfl⟩
   have hb2:(y.toList==[42])=b:=by rw [← hb];exact fU
   have HB3:Hid (Below w.heap.size w (wr.alloc (.cells #[.string ⟨#[42]⟩,.int .i64 5] 152))):=hid (zT.out.alloc zT.out.size _)
   cases b with
   | true =>
    have hy:Hid (mH y.toList=5):=hid (by rw [show y.toList=[42] by simpa using hb2];rfl)
    go_wp2_with (refine bK rfl _ _ _ rfl _ (QU _) ?_)
    go_ret
    rw [hy.out]
    exact ⟨rfl,HB3.out⟩
   | false =>
    have hy:Hid (∀ j,j<10+1→y.toList≠iQ j):=hid (fun j hj=>by
     rcases dW j 10 with h|h
     ·exact HN.out j h
     ·obtain rfl:j=10:=by omega
      simpa [iQ] using hb2)
    go_wp2_with (refine bK rfl _ _ _ rfl _ (QU _) ?_)
    go_roundw
    case rel=>exact ⟨11,rfl,by omega,hy,HB3⟩
    case measure=>simp [Go.RowKit.intOf]
  ·obtain ⟨b,hb⟩:∃ b,([47]==y.toList)=b:=⟨_,rfl⟩
   have hb2:(y.toList==[47])=b:=by rw [← hb];exact fU
   have HB3:Hid (Below w.heap.size w (wr.alloc (.cells #[.string ⟨#[47]⟩,.int .i64 5] 152))):=hid (zT.out.alloc zT.out.size _)
   cases b with
   | true =>
    have hy:Hid (mH y.toList=5):=hid (by rw [show y.toList=[47] by simpa using hb2];rfl)
    go_wp2_with (refine bK rfl _ _ _ rfl _ (XR _) ?_)
    go_ret
    rw [hy.out]
    exact ⟨rfl,HB3.out⟩
   | false =>
    have hy:Hid (∀ j,j<11+1→y.toList≠iQ j):=hid (fun j hj=>by
     rcases dW j 11 with h|h
     ·exact HN.out j h
     ·obtain rfl:j=11:=by omega
      simpa [iQ] using hb2)
    go_wp2_with (refine bK rfl _ _ _ rfl _ (XR _) ?_)
    go_roundw
    case rel=>exact ⟨12,rfl,by omega,hy,HB3⟩
    case measure=>simp [Go.RowKit.intOf]
  ·obtain ⟨b,hb⟩:∃ b,([37]==y.toList)=b:=⟨_,rfl⟩
   have hb2:(y.toList==[37])=b:=by rw [← hb];exact fU
   have HB3:Hid (Below w.heap.size w (wr.alloc (.cells #[.string ⟨#[37]⟩,.int .i64 5] 152))):=hid (zT.out.alloc zT.out.size _)
   cases b with
   | true =>
    have hy:Hid (mH y.toList=5):=hid (by rw [show y.toList=[37] by simpa using hb2];rfl)
    go_wp2_with (refine bK rfl _ _ _ rfl _ (XT _) ?_)
    go_ret
    rw [hy.out]
    exact ⟨rfl,HB3.out⟩
   | false =>
    have hy:Hid (∀ j,j<12+1→y.toList≠iQ j):=hid (fun j hj=>by
     rcases dW j 12 with h|h
     ·exact HN.out j h
     ·obtain rfl:j=12:=by omega
      simpa [iQ] using hb2)
    go_wp2_with (refine bK rfl _ _ _ rfl _ (XT _) ?_)
    go_roundw
    case rel=>exact ⟨13,rfl,by omega,hy,HB3⟩
    case measure=>simp [Go.RowKit.intOf]
  ·have hy:Hid (mH y.toList=0):=hid (NT (fun j hj=>HN.out j hj))
   go_wp2_with fail
   go_ret
   rw [hy.out]
   exact ⟨rfl,zT.out⟩
end
end K
end Go.Proofs.YtojoahlpgmnbnaaGreatDoor
