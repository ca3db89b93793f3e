/- What the claim needs of the texts URd, UCopy, UApi, SRef5, QRef, QRefP. -/
import Derived.Test.YtojoahlpgmnbnaaGreatDoorUWOp
import Derived.Test.YtojoahlpgmnbnaaGreatDoorUW15
import Derived.Test.YtojoahlpgmnbnaaGreatDoorUW2
import Derived.Test.YtojoahlpgmnbnaaGreatDoorUW13
import Derived.Maps.AppendAt
set_option maxRecDepth 20000
set_option maxHeartbeats 16000000
namespace Go.Proofs.YtojoahlpgmnbnaaGreatDoor
namespace Ud
open Go.RowKit
open Go.Lib hiding intOf
open U S Q T J
open K (gu pW Nn qH)
theorem VT {B d:Nat} {W W':World} {l:List kD} {v v0 v1 v2:Value} {t:TypeId} (hN:∀ d∈l,pW (sF d.p)) (h:iY B (fun _=>True) W l v) (hq:W.heap[d]?=some (.cells #[v0,v1,v2] t (0,0))) (ho:∀ k,k≠d→W'.heap[k]?=W.heap[k]?) (hs:W.heap.size≤W'.heap.size):iY B (fun _=>True) W' l v:=by
 have far:∀ o u,W.cell? ⟨d,o,none⟩=some u→o<3:=fun o u h=>by
  rw [jN hq] at h
  exact (af.1 h).1
 have hX:∀ b o (k t:By) (f e:Int) (ks:List Pt) (lv:Value),k≠[]→dJ W b o (five (.mk k t f e ks) lv)→dJ W' b o (five (.mk k t f e ks) lv):=by
  intro b o k t f e ks lv _ hc q u hq
  have hb:b≠d:=fun h=>by
   subst h;have:=far _ _ (hc 4 _ rfl)
   omega
  have:=hc q u hq
  unfold World.cell? at this ⊢
  rw [ho b hb]
  exact this
 obtain ⟨a,c,h1,h2,h3⟩:=h;refine ⟨a,c,h1,h2,h3.imp id ?_⟩;rintro ⟨g,off,e1,e2,e3,e4⟩;refine ⟨g,off,e1,e2,aC e3 hs,fun i hi=>?_⟩;obtain ⟨lv,k1,k2⟩:=e4 i hi
 have hg:g≠d:=fun h=>by
  subst h;have:=far _ _ (k1 9 _ (Xi _ _))
  omega
 refine ⟨lv,fun q u hq=>?_,uK hX _ _ (hN _ (bG hi)) k2⟩;have:=k1 q u hq
 unfold World.cell? at this ⊢
 rw [ho g hg]
 exact this
theorem zl (s:ByteArray) (w:World) (OL:List kD) (v':Value) (hs:s.size≤600) (hT:rM w) (hG:qH w) (hv':iY 0 (fun _=>True) w OL v') (zB:OL.length≤1000000) (hO:Qg OL) :
  Calls Tryz.prog 23 #[.string s,v'] w fun e w'=>∃ d,e=.returned (uf d)∧Un w.heap.size w' d s (qm (mG (decls s)) (mG OL))∧Below w.heap.size w w':=by
 have cD:=Hg s w (by omega) hT;have hD:=tZ s hs;have hdb:=nW s;have HT:=hid hT;have HG:=hid hG;have HV':=hid hv'
 have HUn:Hid (∀ (W:World) (d:Nat) (v:Value) (k:Int),w.heap.size≤d→W.heap[d]?=some (.cells #[v,.string s,.int .i64 k] 58 (0,0))→k=(qm (mG (decls s)) (mG OL):Nat)→iY w.heap.size (fun _=>True) W (decls s) v→Un w.heap.size W d s (qm (mG (decls s)) (mG OL))):=hid (fun W d v k h1 h2 h3 h4=>by
  subst h3
  exact ⟨h1,v,h2,h4.weak (aM _) (fun _ h=>h)⟩)
 obtain ⟨D,hDD⟩:∃ D,decls s=D:=⟨_,rfl⟩;rw [hDD] at cD hD hdb HUn ⊢;have hle:=Co (mG D) (mG OL);have hkk:qm (mG D) (mG OL)=nk (mG D) (mG OL)+mI (mG D) (mG OL):=rfl;obtain ⟨K,hK⟩:∃ K,qm (mG D) (mG OL)=K:=⟨_,rfl⟩;rw [hK] at hkk HUn ⊢;obtain ⟨n,hn⟩:∃ n,D.length=n:=⟨_,rfl⟩;obtain ⟨on,hon⟩:∃ n,OL.length=n:=⟨_,rfl⟩;obtain ⟨hd,hhd⟩:∃ n,nk (mG D) (mG OL)=n:=⟨_,rfl⟩;obtain ⟨tl,htl⟩:∃ n,mI (mG D) (mG OL)=n:=⟨_,rfl⟩;obtain ⟨rs,hrs⟩:∃ r,n - tl=r:=⟨_,rfl⟩;rw [jP,jP,hn,hon,hhd,htl] at hle;rw [hhd,htl] at hkk;have HD:=hid hD;have HOK:=hid hO;have HE:=hid (And.intro hn (And.intro hon (And.intro hhd (And.intro htl hrs))));rw [hn] at cD hdb;rw [hon] at zB;obtain ⟨oa,oc,rfl⟩:=ny hv';rw [hon] at HV' ⊢;have hvs:=hv';clear hT hG hv' hD hO hDD hK hn hon hhd htl hvs
 go_enter Tryz.func23,Tryz.ntmps23
 go_wp2_with fail
 refine cD.mono ?_;rintro e w1 ⟨v,rfl,bP,hb1⟩;obtain ⟨a,c,rfl⟩:=eH bP
 have hnc:n≤c:=by
  rcases bP.2 with ⟨h,h0⟩|⟨_,_,_,h,_,_,h2,_⟩
  ·omega
  ·cases h;exact h2
 obtain ⟨W2,hW2,hq2,hb2,hz2⟩:=gY w1 (.cells #[.slice a n c,.string s,.int .i64 0] 58)
 have hst:D=[]∨∃ g c2,Value.slice a n c=.slice (some ⟨g,0,none⟩) n c2∧St w.heap.size D 0 g c2 W2∧w1.heap.size≠g:=by
  rcases gW n with h0|h0
  ·left
   exact dF.1 (HE.out.1.trans h0)
  ·right
   obtain ⟨g,c2,h1,_,_,h4⟩:=lM bP h0;simp only [dh] at h1;obtain ⟨rfl,_,rfl⟩:=h1
   exact ⟨g,c,rfl,(ab4 bP HE.out.1).later hb2,by omega⟩
 have HB2:=hid (hb1.trans (hb2.mono hb1.size))
 have hnil:D=[]→iY w.heap.size (fun _=>True) w [] (.slice a n c):=fun h=>⟨a,c,by rw [← HE.out.1,h],aM _,.inl rfl⟩
 obtain ⟨v1,v2,v3,v4,F⟩:=Tf w D OL a c n hd tl rs on (.slice oa on oc) HD.out HOK.out (by rw [HE.out.1];omega) (by rw [HE.out.2.1];exact zB) HT.out HG.out HV'.out HE.out.1 HE.out.2.1 HE.out.2.2.1 HE.out.2.2.2.1 HE.out.2.2.2.2 hnc hnil
 have htx:EI W2 (.slice a n c) (mG D):=by
  rcases hst with h0|⟨g,c2,h1,h2,_⟩
  ·exact ⟨a,c,by rw [jP,HE.out.1],.inl (by rw [h0];rfl)⟩
  ·refine ⟨a,c,by rw [jP,HE.out.1],.inr ⟨g,0,?_,fun i hi=>?_⟩⟩
   ·cases h1;rfl
   ·have hi2:i<D.length:=by rw [← jP];exact hi
    obtain ⟨_,cur,e1,_,_,_,e5⟩:=h2;have e6:(mG D)[i]=D[i].tx:=List.getElem_map _;rw [e6,bA,jN e1]
    exact e5 i hi2 (aM _) 2 _ rfl
 have cS:=Md W2 (mG D) (mG OL) _ _ htx (Mc (HV'.out.later HB2.out)) (by rw [jP,HE.out.1];omega) (by rw [jP,HE.out.2.1];exact zB);rw [HE.out.2.2.1,HE.out.2.2.2.1] at cS;obtain ⟨d,hd'⟩:∃ d,w1.heap.size=d:=⟨_,rfl⟩
 have hdw:w.heap.size≤d:=by rw [← hd'];exact hb1.size
 rw [hd'] at hst hq2 hz2;obtain ⟨⟨k0,k1,k2⟩,kf⟩:=jG hq2;have BN:=hid hq2;have HST:=hid hst;have HF:=hid F;clear cD bP hb1 hb2 hnil htx hq2 hst F
 go_wp2_with fail
 refine cS.mono ?_;rintro e w3 ⟨rfl,hb3⟩;have hq3:=(hb3.block d hz2).trans BN.out;have HB3:=hid (HB2.out.trans (hb3.mono HB2.out.size))
 have HC:=hid (HF.out.fill w3 d (HST.out.imp id (by
  rintro ⟨g,c2,h1,h2,h3⟩
  exact ⟨g,c2,h1,h2.later hb3,h3⟩)) HB3.out (aC hz2 hb3.size))
 have c1:=HC.out;have s1:=HF.out.s1
 have hsub:((n:Int) - (tl:Int))=(rs:Int):=by omega
 obtain ⟨⟨k0,k1,k2⟩,kf⟩:=jG hq3;have Qd:=hid hq3;clear cS hb3 hq3 HST
 go_wp2_with fail
 refine c1.mono ?_;rintro e w4 ⟨rfl,hb4,hq4,Et,c2⟩;have hq4:=hq4.trans Qd.out;have s2:=HF.out.s2;obtain ⟨⟨k0,k1,k2⟩,kf⟩:=jG hq4;have JO:=hid hq4;clear c1 s1 hb4 hq4 HC Et
 go_wp2_with fail
 refine c2.mono ?_;rintro e w5 ⟨rfl,hb5,xZ,XJ,c3⟩;have xZ:=xZ.trans JO.out;have s3:=HF.out.s3;have s4:=HF.out.s4;have HC3:=hid c3;have HQ5:=hid xZ;clear c2 s2 k0 k1 k2 kf hb5 XJ;have k0:=(jG xZ).1.1
 go_upto_region 6 with fail
 refine aK (S:=fun X=>X.cell? ⟨d,0,none⟩=some (.slice a n c)) (by kernel_rfl) k0 fun ag=>?_
 have hb6:Below w5.heap.size w5 w5.drew:=(ah w5.heap.size w5).drew;have c4:=HC3.out _ hb6;have IC:w5.drew.heap[d]?=_:=xZ;obtain ⟨V,hV⟩:∃ V,w5.drew=V:=⟨_,rfl⟩;rw [hV] at ag c4 IC ⊢;clear hV hb6 xZ k0 HC3;have VU:=hid IC
 have hsub2:((on:Int) - (tl:Int))=((on - tl:Nat):Int):=by omega
 have hwr:IntKind.i64.wrap ((on - tl:Nat):Int)=((on - tl:Nat):Int):=by rw [IntKind.wrap_i64];omega
 clear IC;refine OP.m 0 rfl (.pointer (some ⟨d,0,none⟩)) ag ?_;simp only [OP.s];refine OP.t 1 rfl (.pointer (some ⟨d,0,none⟩)) (fun X hX=>by go_simp) ag ?_;simp only [OP.s];refine OP.m 2 rfl (.pointer (some ⟨d,0,none⟩)) ag ?_;simp only [OP.s];refine OP.t 3 rfl (.slice a n c) (fun X hX=>by have c0:X.cell? ⟨d,0,none⟩=some (.slice a n c):=hX;go_simp) ag ?_;simp only [OP.s];refine OP.m 4 rfl (.int .i64 rs) ag ?_;simp only [OP.s];refine OP.t 5 rfl v3 (fun X hX=>by go_simp) ag ?_;simp only [OP.s];refine OP.m 6 rfl (.slice oa on oc) ag ?_;simp only [OP.s];refine OP.m 7 rfl (.slice oa on oc) ag ?_;simp only [OP.s];refine OP.t 8 rfl (.int .i64 on) (fun X hX=>by go_simp) ag ?_;simp only [OP.s];refine OP.m 9 rfl (.int .i64 tl) ag ?_;simp only [OP.s];refine OP.t 10 rfl (.int .i64 ((on - tl:Nat):Int)) (fun X hX=>by go_simp) ag ?_;simp only [OP.s];refine OP.t 11 rfl v4 (fun X hX=>by go_simp) ag ?_;simp only [OP.s]
 refine OP.r 12 rfl fun K hK=>?_
 go_simp
 go_at_call 35
 refine c4.mono ?_;rintro e w7 ⟨rfl,rW,iZ,mQ,hdc⟩;have iZ:=iZ.trans HQ5.out;dsimp only
 refine hK.out _ _ ((jG iZ).1.1) fun ag=>?_
 try simp only [OP.s]
 clear hK K;refine bz (by kernel_rfl) ?_ _;clear ag c4 VU s3 s4 c3;obtain ⟨W8,Me,hq8,ho8,qO⟩:=Ps (.int .i64 K) iZ;obtain ⟨⟨k0,k1,k2⟩,kf⟩:=jG iZ
 have hKb:K≤1000000:=by omega
 have hadd:((hd:Int)+(tl:Int))=(K:Int):=by omega
 have hB8:=rW.trans (qO w.heap.size hdw);have ab5:iY w.heap.size (fun _=>True) W8 D (.slice a n c):=VT (Te HD.out) hdc iZ ho8 (qO 0 (aM _)).size;have HU:=hid (HUn.out W8 d _ _ hdw hq8 rfl ab5);have Xl:=hid hB8;clear iZ hq8 ho8 qO hB8 hdc ab5 rW HUn HF hkk hsub hsub2 hwr hle
 go_wp2_with fail
 go_ret
 exact ⟨d,rfl,HU.out,Xl.out⟩
def kE:List (kD × Value)→List Value
 | []=>[]
 | d :: r=>xB d.1 d.2++kE r
theorem qQ:∀ l:List (kD × Value),(kE l).length=l.length*10
 | []=>rfl
 | d :: r=>by rw [kE,aO,gF,qQ r,aH];omega
theorem DX:∀ (l:List (kD × Value)) (i j:Nat) (hi:i<l.length),j<10→(kE l)[i*10+j]?=(xB l[i].1 l[i].2)[j]?
 | d :: r,0,j,_,hj=>by
  rw [kE,bu (by rw [gF];omega),Nat.zero_mul,bA];rfl
 | d :: r,i+1,j,hi,hj=>by
  have hl:=gF d.1 d.2;rw [kE,aI (by rw [hl];omega),hl,show (i+1)*10+j - 10=i*10+j by omega]
  exact DX r i j (by simpa using hi) hj
theorem Tg {W:World} {R:Nat→Prop} {p:Pt} {lv:Value} (h:aU W R p lv):lv.oneCell'=true:=by
 obtain ⟨k,t,f,e,ks⟩:=p;obtain ⟨a,c,rfl,_⟩:=h
 rfl
theorem J9 {W:World} {R:Nat→Prop} {g:Nat}:∀ (D:List kD) (off:Nat),(∀ i (hi:i<D.length),JY W R g (off+i*10) D[i]) →
  ∃ L:List (kD × Value),L.map (·.1)=D∧(∀ x∈L,aU W R x.1.p x.2)∧dJ W g off (kE L)
 | [],_,_=>⟨[],rfl,fun x h=>absurd h (ed),fun j u hj=>by rw [kE] at hj;simp at hj⟩
 | d :: D,off,h=>by
  obtain ⟨lv,h1,h2⟩:=h 0 (by simp)
  obtain ⟨L,e1,e2,e3⟩:=J9 D (off+10) (fun i hi=>by
   have:=h (i+1) (by simpa using hi);rw [show off+10+i*10=off+(i+1)*10 by omega]
   exact this)
  rw [Nat.zero_mul,bV] at h1
  refine ⟨(d,lv) :: L,by rw [List.map_cons,e1],?_,?_⟩
  ·intro x hx
   rcases bB.1 hx with rfl|hx
   ·exact h2
   ·exact e2 x hx
  ·intro j u hj
   rw [kE] at hj;have hl:=gF d lv
   by_cases ajx:j<10
   ·rw [bu (by rw [hl];omega)] at hj
    exact h1 j u hj
   ·rw [aI (by rw [hl];omega),hl] at hj
    have:=e3 (j - 10) u hj;rw [show off+10+(j - 10)=off+j by omega] at this
    exact this
theorem Mf {w:World} {a:Option Addr} {n c:Nat} {xs:List Value} (hc:n=0∨∃ g off,a=some ⟨g,off,none⟩∧dJ w g off xs) (hl:xs.length=n*10) (hone:∀ u∈xs,u.oneCell'=true) (hw:n≤1000000) :
  Calls Tryz.prog 37 #[.slice a n c] w fun e w'=>∃ v',e=.returned v'∧w'.ownsRow w.heap.size 52 10 v' n xs∧Below w.heap.size w w':=by
 obtain ⟨iP,hi0,hz0,hz1,hz2⟩:=eB SY
 have q22:∀ (w:World) (a:Option Addr) (n c n' c':Nat),(binOp .eql 56 (.slice a n c) (.slice none n' c')).run Tryz.prog w=.ok (.bool a.isNone) w:=fun w a n c n' c'=>Lib.run_eql_slice_nil w _ _ a n c n' c' Tryz.underlying56
 have HC:=hid hc;have HL:=hid hl;have HO:=hid hone;clear hc hl hone
 cases a with
 | none =>
  have h0:n=0:=by
   rcases HC.out with h|⟨g,off,h,_⟩
   ·exact h
   ·cases h
  subst h0;have hx:xs=[]:=eF (by have:=HL.out;omega);subst hx
  go_enter Tryz.func37,Tryz.ntmps37
  go_wp2_with fail
  go_ret
  exact ⟨_,rfl,dB _ _ _ _,ah _ _⟩
 | some ad =>
  go_enter Tryz.func37,Tryz.ntmps37
  have hcb:∀ X,Below w.heap.size w X→(n=0∨∃ g off,some ad=some ⟨g,off,none⟩∧dJ X g off xs):=fun X hX=>HC.out.imp id (fun ⟨g,off,h1,h2⟩=>⟨g,off,h1,fun j u hj=>(hX.cell (aY w _ (h2 j u hj))).trans (h2 j u hj)⟩)
  have HCB:=hid hcb;clear hcb
  go_wp2_with (at_builtin;refine oG rfl _ _ 56 rfl w.heap.size 52 iP _ 10 120 Tryz.underlying56 hi0 hz0 hz1 hz2 rfl (by decide) _ 0 [] rfl (World.ownsRow_made w #[] 0 (ae _) (aM _) rfl) _ n c xs rfl HL.out (HCB.out _ ((ah _ _).alloc (ae _) _)) HO.out (by unfold maxLen;omega) (by omega) (by simp) ?_)
  intro v' w1 bP aN _;have hb:Below w.heap.size w w1:=((ah _ w).alloc (ae _) (.cells #[] 52)).grown aN (by simp) (by intro k hk;simp [Value.ownBlock] at hk;omega);have Y1:Hid (w1.ownsRow w.heap.size 52 10 v' n xs):=hid (by simpa using bP);have HB:=hid hb;clear bP aN hb
  go_wp2_with fail
  go_ret
  exact ⟨v',rfl,Y1.out,HB.out⟩
def Fz (W:World) (lv:Value):Prop:=∀ (ad:Addr) (n c:Nat),lv=.slice (some ad) n c→0<n→∃ cur:Array Value,W.heap[ad.block]?=some (.cells cur 49 (0,0))
theorem Fz.later {W W':World} {lv:Value} (h:Fz W lv) (ho:∀ ad n c,lv=.slice (some ad) n c→0<n→W'.heap[ad.block]?=W.heap[ad.block]?):Fz W' lv:=fun ad n c h1 h2=>by
 obtain ⟨cur,h3⟩:=h ad n c h1 h2
 exact ⟨cur,(ho ad n c h1 h2).trans h3⟩
theorem Fz.below {W W':World} {lv:Value} (h:Fz W lv) (hb:Below W.heap.size W W'):Fz W' lv:=fun ad n c h1 h2=>by
 obtain ⟨cur,h3⟩:=h ad n c h1 h2
 exact ⟨cur,(hb.block _ (af.1 h3).1).trans h3⟩
structure Cp (H:Nat) (L:List (kD × Value)) (j g cap:Nat) (W:World):Prop where
 ge:H≤g
 row:∃ cur:Array Value,W.heap[g]?=some (.cells cur 52 (0,0))∧cur.size=cap*10∧L.length≤cap ∧
  (∀ i (hi:i<L.length),i<j→∃ lv,(∀ q u,(xB L[i].1 lv)[q]?=some u→cur[i*10+q]?=some u)∧aU W (fun k=>H≤k∧k≠g) L[i].1.p lv∧Fz W lv) ∧
  (∀ i (hi:i<L.length),j≤i→∀ q u,(xB L[i].1 L[i].2)[q]?=some u→cur[i*10+q]?=some u)
theorem Cp.lt {H:Nat} {L:List (kD × Value)} {j g cap:Nat} {W:World} (h:Cp H L j g cap W):g<W.heap.size:=by
 obtain ⟨cur,h1,_⟩:=h.row
 exact (af.1 h1).1
theorem Cp.later {H:Nat} {L:List (kD × Value)} {j g cap:Nat} {W W':World} (h:Cp H L j g cap W) (hb:Below W.heap.size W W'):Cp H L j g cap W':=by
 have hl:=h.lt;obtain ⟨ge,cur,h1,h2,h3,h4,h5⟩:=h;refine ⟨ge,cur,(hb.block _ hl).trans h1,h2,h3,fun i hi hij=>?_,h5⟩;obtain ⟨lv,e1,e2,e3⟩:=h4 i hi hij
 exact ⟨lv,e1,dE e2 hb,e3.below hb⟩
theorem VV {W:World} {R:Nat→Prop} {p:Pt} {lv:Value} (h:aU W R p lv):∀ ad n c,lv=.slice (some ad) n c→0<n→R ad.block:=by
 obtain ⟨k,t,f,e,ks⟩:=p;obtain ⟨a,c,rfl,_,h2⟩:=h;intro ad n c' h3 h4;simp only [dh] at h3;obtain ⟨rfl,rfl,rfl⟩:=h3
 rcases h2 with rfl|⟨g,off,xs,e1,e2,_⟩
 ·simp at h4
 ·cases e1;exact e2
theorem Cp.cells {H:Nat} {L:List (kD × Value)} {j g cap o:Nat} {W:World} (h:Cp H L j g cap W) (hj:j<L.length) (ho:j*10=o):∃ cur,W.heap[g]?=some (.cells cur 52 (0,0))∧o+10≤cur.size ∧
  (∀ q u,(xB L[j].1 L[j].2)[q]?=some u→W.cell? ⟨g,o+q,none⟩=some u)∧∀ x,W.frozen? ⟨g,x,none⟩=false:=by
 obtain ⟨_,cur,h1,h2,h3,_,h5⟩:=h;have hz:=h5 j hj (ae _);rw [ho] at hz;refine ⟨cur,h1,?_,fun q u hq=>(jN h1 _).trans (hz q u hq),yu h1⟩;rw [h2]
 omega
theorem Ti (d:kD) (lv CQ:Value) (q:Nat) (h:q<3∨8≤q):(xB d lv)[q]?=(xB d CQ)[q]?:=by
 obtain ⟨f,e,tx,⟨k,t,pf,pe,ks⟩,x,r⟩:=d
 rcases q with _|_|_|_|_|_|_|_|q
 ·rfl
 ·rfl
 ·rfl
 ·omega
 ·omega
 ·omega
 ·omega
 ·omega
 ·rfl
theorem Cp.done {H:Nat} {L:List (kD × Value)} {j g cap o:Nat} {W:World} (h:Cp H L j g cap W) (hj:j<L.length) (ho:j*10=o) {k t:By} {f e:Int} {ks:List Pt} {a:Option Addr} {c n:Nat} {kb tb:ByteArray} (hd:L[j].1.p=.mk k t f e ks) (hk:aU W (fun b=>H≤b∧b≠g) (.mk k t f e ks) (.slice a n c)) (hf:Fz W (.slice a n c)) (hkb:aX k=kb) (htb:aX t=tb) :
  ∃ W',((((W.setCell ⟨g,o+3,none⟩ (.string kb)).setCell ⟨g,o+3+1,none⟩ (.string tb)).setCell ⟨g,o+3+2,none⟩ (.int .i64 f)).setCell ⟨g,o+3+3,none⟩ (.int .i64 e)).setCell ⟨g,o+3+4,none⟩ (.slice a n c)=W'∧Cp H L (j+1) g cap W'∧Below H W W':=by
 obtain ⟨cur,h1,h2,_,_⟩:=h.cells hj ho;obtain ⟨W',cur',e1,e2,e3,e4,e5,e6,e7⟩:=zo (o:=o+3) (.string kb) (.string tb) (.int .i64 f) (.int .i64 e) (.slice a n c) h1 (by omega);refine ⟨W',e1,?_,e7 H h.ge⟩;obtain ⟨ge,afH,g1,g2,g3,g4,g5⟩:=h;rw [h1] at g1
 cases g1
 have Xm:∀ {p:Pt} {lv:Value},aU W (fun b=>H≤b∧b≠g) p lv→aU W' (fun b=>H≤b∧b≠g) p lv:=fun hk=>aU.later (fun b hb _=>e6 b hb.2) (fun _ h=>h) _ _ hk
 have Xn:∀ {p:Pt} {lv:Value},aU W (fun b=>H≤b∧b≠g) p lv→Fz W lv→Fz W' lv:=fun hk hf=>hf.later (fun ad n c x y=>e6 _ (VV hk ad n c x y).2)
 refine ⟨ge,cur',e2,by rw [e3];exact g2,g3,fun i hi hij=>?_,fun i hi hij q u hq=>?_⟩
 ·by_cases hi2:i<j
  ·obtain ⟨CQ,x1,x2,x3⟩:=g4 i hi hi2
   refine ⟨CQ,fun q u hq=>?_,Xm x2,Xn x2 x3⟩;have tY:=(aL.1 hq).1;rw [gF] at tY;rw [e5 _ (by omega)]
   exact x1 q u hq
  ·obtain rfl:i=j:=by omega
   rw [hd];refine ⟨.slice a n c,fun q u hq=>?_,Xm hk,Xn hk hf⟩;have tY:=(aL.1 hq).1;rw [gF] at tY
   by_cases hqq:q<3∨8≤q
   ·rw [e5 _ (by omega)]
    refine g5 i hi (ae _) q u ?_;rw [Ti _ _ (.slice a n c) q hqq]
    exact hq
   ·rw [show i*10+q=o+3+(q - 3) by omega]
    refine e4 (q - 3) u ?_
    unfold xB at hq
    rw [hd,five,hkb,htb] at hq;obtain ⟨q',rfl⟩:∃ z,q=z+3:=⟨q - 3,by omega⟩;rw [gp]
    have xZ:q'<5:=by omega
    simp only [ig] at hq;rw [bu (by simpa using xZ)] at hq
    exact hq
 ·have tY:=(aL.1 hq).1
  rw [gF] at tY;rw [e5 _ (by omega)]
  exact g5 i hi (by omega) q u hq
end Ud
namespace Ud
open Go.RowKit
open Go.Lib hiding intOf
open U S Q T J
open K (gu pW Nn qH kS Cj)
theorem VW (t:ByteArray) (ht:t.size≤600):sM (declT t).1≤100000000:=by
 unfold declT kS
 cases hf:K.pg (fD (okB t) t.toList) with
 | bad j=>simp only;decide
 | part p =>
  have h:=Cj (by have e:=dP t;omega) hf;simp only
  split
  ·decide
  ·exact h
theorem DY {D:List kD} (h:Qg D):∀ d∈D,lW 0 d.p=d.p∧sM d.p≤100000000:=fun d hd=>by
 have h1:=J2 d.tx (by have:=(h d hd).2;omega);have h2:=VW d.tx (h d hd).2;rw [(h d hd).1] at h1 h2
 exact ⟨h1,h2⟩
def Hu (H:Nat) (W:World) (D:List kD) (v:Value):Prop:=∃ a c L,v=.slice a D.length c∧L.map (·.1)=D∧D.length≤c∧(D=[]∨∃ g,a=some ⟨g,0,none⟩∧Cp H L D.length g c W)
theorem Hu.dcs {H:Nat} {W:World} {D:List kD} {v:Value} (h:Hu H W D v):iY H (fun k=>H≤k) W D v:=by
 obtain ⟨a,c,L,h1,h2,h3,h4⟩:=h;refine ⟨a,c,h1,h3,h4.imp id ?_⟩;rintro ⟨g,e1,hC⟩;have hl:=hC.lt;obtain ⟨ge,cur,g1,g2,g3,g4,_⟩:=hC;refine ⟨g,0,e1,ge,hl,fun i hi=>?_⟩
 have Xo:i<L.length:=by rw [← h2,fM] at hi;exact hi
 obtain ⟨lv,x1,x2,_⟩:=g4 i Xo hi
 have e:L[i].1=D[i]:=by
  have:=List.getElem_map (l:=L) (f:=fun x:kD × Value=>x.1) (i:=i) (h:=by rw [fM];exact Xo);rw [← this]
  congr 1
 rw [e] at x1 x2
 exact ⟨lv,fun q u hq=>by rw [bA,jN g1];exact x1 q u hq,aU.later (fun _ _ _=>rfl) (fun k hk=>hk.1) _ _ x2⟩
theorem Mg (w:World) (D:List kD) (v:Value) (hv:iY 0 (fun _=>True) w D v) (hlen:D.length≤1000000) (hp:∀ d∈D,lW 0 d.p=d.p∧sM d.p≤100000000) :
  Calls Tryz.prog 25 #[v] w fun e w'=>∃ v',e=.returned v'∧Hu w.heap.size w' D v'∧Below w.heap.size w w':=by
 obtain ⟨a,c,rfl,hc,hrow⟩:=hv
 have hR:∃ L:List (kD × Value),L.map (·.1)=D∧(∀ x∈L,aU w (fun k=>k<w.heap.size) x.1.p x.2)∧(D.length=0∨∃ g off,a=some ⟨g,off,none⟩∧dJ w g off (kE L)):=by
  rcases hrow with rfl|⟨g,off,rfl,_,_,h4⟩
  ·exact ⟨[],rfl,fun x h=>absurd h (ed),.inl rfl⟩
  ·obtain ⟨L,e1,e2,e3⟩:=J9 D off h4
   exact ⟨L,e1,fun x hx=>aU.later (fun _ _ _=>rfl) (fun k hk=>hk.2) _ _ (zC _ _ (e2 x hx)),.inr ⟨g,off,rfl,e3⟩⟩
 obtain ⟨L,hL,hK,hcl⟩:=hR
 have hLD:D.length=L.length:=by rw [← hL,fM]
 have hone:∀ u∈kE L,u.oneCell'=true:=by
  clear hcl hLD hL
  induction L with
  | nil=>intro u hu;rw [kE] at hu;cases hu
  | cons x r ih =>
   intro u hu;rw [kE] at hu
   rcases List.mem_append.1 hu with h|h
   ·exact Cq _ _ (Tg (hK x bF)) u h
   ·exact ih (fun y hy=>hK y (aV _ hy)) u h
 obtain ⟨n,hn⟩:∃ n,D.length=n:=⟨_,rfl⟩;rw [hn] at hcl hlen hLD ⊢;have cC:=Mf (c:=c) hcl (by rw [qQ,← hLD]) hone hlen;have HL:=hid hL;have HK:=hid hK;have HP:=hid hp;have HN:=hid (And.intro hn hLD);clear hrow hL hK hcl hone hp hn hLD hc
 go_enter Tryz.func25,Tryz.ntmps25
 go_wp2_with fail
 refine cC.mono ?_;rintro e w1 ⟨v',rfl,bP,hb1⟩;obtain ⟨a',c',rfl⟩:=eH bP
 have hst:n=0∨∃ g,a'=some ⟨g,0,none⟩∧Cp w.heap.size L 0 g c' w1:=by
  rcases gW n with h0|h0
  ·exact .inl h0
  ·right
   obtain ⟨g,c2,h1,_,_,_⟩:=lM bP h0;simp only [dh] at h1;obtain ⟨rfl,_,rfl⟩:=h1
   have hcell:=fun j hj=>bP.cellAt j hj
   rcases bP.2 with ⟨h',_⟩|⟨g',cap',cur,h',hB,hg,hnc,_,hsz,_⟩
   ·simp at h'
   ·simp only [dh,bS,Addr.mk.injEq,and_true,true_and] at h'
    obtain ⟨rfl,rfl⟩:=h';refine ⟨_,rfl,hB,cur,hg,hsz,by rw [← HN.out.2];exact hnc,fun i _ h0=>absurd h0 (aS _),fun i hi _ q u hq=>?_⟩;have tY:=(aL.1 hq).1;rw [gF] at tY
    have hin:i<n:=by rw [HN.out.2];exact hi
    rw [← jN hg,hcell _ (by omega),DX L i q hi tY]
    exact hq
 have hnc:n≤c':=by
  rcases bP.2 with ⟨h,h0⟩|⟨_,_,_,h,_,_,h2,_⟩
  ·omega
  ·cases h;exact h2
 have HS:=hid hst;have HB1:=hid hb1;clear cC bP hst hb1
 go_wp2_with fail
 go_loopw [9] (fun iv wr=>∃ i:Nat,iv=.int .i64 i∧i≤n∧Hid (n=0∨∃ g,a'=some ⟨g,0,none⟩∧Cp w.heap.size L i g c' wr)∧Hid (Below w.heap.size w wr)) (fun iv _=>n - (Go.RowKit.intOf iv).toNat)
 case atStart=>exact ⟨0,rfl,aM _,HS,HB1⟩
 case round =>
  obtain ⟨i,rfl,hi,Qf,FQ⟩:=hrel;clear HS HB1
  by_cases hlt:i<n
  ·obtain ⟨g,rfl,hC⟩:=Qf.out.resolve_left (by omega)
   have Xo:i<L.length:=by rw [← HN.out.2];exact hlt
   obtain ⟨cur,_,_,hcl,cf⟩:=hC.cells Xo rfl
   have hmem:L[i].1∈D:=by rw [← HL.out];exact List.mem_map.2 ⟨_,bG Xo,rfl⟩
   have hpi:=HP.out _ hmem;have hki:=HK.out _ (bG Xo);have HC:=hid hC;obtain ⟨p,hpe⟩:∃ p,L[i].1.p=p:=⟨_,rfl⟩;obtain ⟨lv,hlv⟩:∃ lv,L[i].2=lv:=⟨_,rfl⟩;rw [hpe] at hpi hki;rw [hlv] at hki;obtain ⟨k,t,f,e,ks⟩:=p;obtain ⟨pa,pc,rfl⟩:=eD hki
   have Hw:∀ q u,(five (.mk k t f e ks) (.slice pa ks.length pc))[q]?=some u→wr.cell? ⟨g,i*10+3+q,none⟩=some u:=fun q u hq=>by
    have h5:=(aL.1 hq).1;rw [eO] at h5
    have:=hcl (q+3) u (by
     unfold xB
     rw [hpe,hlv];simp only [ig];rw [bu (by rw [eO];exact h5)]
     exact hq)
    rw [show i*10+3+q=i*10+(q+3) by omega]
    exact this
   have cS:=Ph (.mk k t f e ks) (.slice pa ks.length pc) (fun k=>k<w.heap.size) wr 0 (aU.later (fun b hb _=>FQ.out.block b hb) (fun _ h=>h) _ _ hki) (by omega);rw [hpi.1] at cS;have c3:=Hw 0 _ rfl;have c4:=Hw 1 _ rfl;have c5:=Hw 2 _ rfl;have c6:=Hw 3 _ rfl;have c7:=Hw 4 _ rfl;rw [bV] at c3;simp only [arg,five] at cS;have HPE:=hid hpe;obtain ⟨kb,hkb⟩:∃ z,aX k=z:=⟨_,rfl⟩;obtain ⟨tb,htb⟩:∃ z,aX t=z:=⟨_,rfl⟩;obtain ⟨m,hm⟩:∃ z,ks.length=z:=⟨_,rfl⟩;rw [hkb] at cS c3;rw [htb] at cS c4;rw [hm] at cS c7;have HY:=hid (And.intro hkb (And.intro htb hm));clear hC hcl hmem hpi hki Hw cf hpe hlv hkb htb hm
   go_wp2_with fail
   refine cS.mono ?_;rintro e' w2 ⟨lv2,rfl,hk2,hb2,hf2⟩;obtain ⟨a2,c2,rfl⟩:=eD hk2;have hC2:=HC.out.later hb2;have hB2:=FQ.out.trans (hb2.mono FQ.out.size);obtain ⟨cur,_,_,hcl,cf⟩:=hC2.cells Xo rfl;have d3:=hcl 3 _ (by unfold xB;rw [HPE.out];rfl);have d4:=hcl 4 _ (by unfold xB;rw [HPE.out];rfl);have d5:=hcl 5 _ (by unfold xB;rw [HPE.out];rfl);have d6:=hcl 6 _ (by unfold xB;rw [HPE.out];rfl);have d7:=hcl 7 _ (by unfold xB;rw [HPE.out];rfl);have hgw:=HC.out.lt;have hk3:aU w2 (fun b=>w.heap.size≤b∧b≠g) (.mk k t f e ks) (.slice a2 ks.length c2):=aU.later (fun _ _ _=>rfl) (fun b hb=>⟨aJ FQ.out.size hb,by omega⟩) _ _ hk2;obtain ⟨W',yc,hC3,hb3⟩:=hC2.done Xo rfl HPE.out hk3 hf2 HY.out.1 HY.out.2.1;rw [HY.out.2.2] at yc;have HC3:=hid hC3;have HB3:=hid (hB2.trans hb3);simp only [arg,five];rw [HY.out.1,HY.out.2.1,HY.out.2.2];clear cS hk2 hb2 hf2 hC2 hB2 hcl hk3 hC3 hb3 c3 c4 c5 c6 c7 hgw
   go_wp2_with fail
   go_roundw
   case rel=>exact ⟨i+1,by go_num,by omega,hid (.inr ⟨g,rfl,HC3.out⟩),HB3⟩
   case measure=>simp [Go.RowKit.intOf];omega
  ·obtain rfl:i=n:=by omega
   go_wp2_with fail
   go_ret
   refine ⟨_,rfl,⟨a',c',L,by rw [HN.out.1];rfl,HL.out,by rw [HN.out.1];exact hnc,Qf.out.imp (fun h=>dF.1 (HN.out.1.trans h)) (fun ⟨g,h1,h2⟩=>⟨g,h1,by rw [HN.out.1];exact h2⟩)⟩,FQ.out⟩
theorem Pv (A:List ByteArray):qm A (mG [])=0:=by
 have h:=Co A (mG []);rw [jP] at h
 unfold qm
 simp at h
 omega
theorem VX:Qg []:=fun d hd=>absurd hd (ed)
theorem Ch (s:ByteArray) (w:World) (hs:s.size≤600) (hT:rM w) (hG:qH w) :
  Calls Tryz.prog 8 #[.string s] w fun e w'=>∃ d,e=.returned (uf d)∧Un w.heap.size w' d s 0∧Below w.heap.size w w':=by
 have c1:=zl s w [] _ hs hT hG (iY.nil 0 _ w) (aM _) VX;rw [Pv] at c1;clear hT hG hs
 go_enter Tryz.func8,Tryz.ntmps8
 go_wp2_with fail
 refine c1.mono ?_;rintro e w2 ⟨d,rfl,hU,hb⟩;have HU:=hid hU;have HB:=hid hb;clear c1 hU hb
 go_wp2_with fail
 go_ret
 exact ⟨d,rfl,HU.out,HB.out⟩
theorem FT (s t:ByteArray) (w:World) (B d k:Nat) (hs:s.size≤600) (ht:t.size≤600) (hT:rM w) (hG:qH w) (hU:Un B w d t k) :
  Calls Tryz.prog 9 #[uf d,.string s] w fun e w'=>∃ d',e=.returned (uf d')∧Un w.heap.size w' d' s (qm (mG (decls s)) (mG (decls t)))∧Below w.heap.size w w':=by
 obtain ⟨_,v,hq,hv⟩:=hU;have c1:=zl s w (decls t) v hs hT hG hv (by have:=nW t;omega) (tZ t ht);obtain ⟨⟨k0,k1,k2⟩,kf⟩:=jG hq;obtain ⟨a,c,rfl⟩:=ny hv;clear hT hG hs ht hq hv
 unfold uf
 go_enter Tryz.func9,Tryz.ntmps9
 go_wp2_with fail
 refine c1.mono ?_;rintro e w2 ⟨d',rfl,hU,hb⟩;have HU:=hid hU;have HB:=hid hb;clear c1 hU hb k0 k1 k2 kf
 go_wp2_with fail
 go_ret
 exact ⟨d',rfl,HU.out,HB.out⟩
theorem wH (s:ByteArray) (w:World) (B d k:Nat) (hU:Un B w d s k) :
  Calls Tryz.prog 19 #[uf d] w fun e w'=>e=.returned (.string s)∧w=w':=by
 obtain ⟨_,v,hq,_⟩:=hU;obtain ⟨⟨k0,k1,k2⟩,kf⟩:=jG hq;clear hq
 unfold uf
 go_enter Tryz.func19,Tryz.ntmps19
 go_wp2_with fail
 go_ret
 exact ⟨rfl,rfl⟩
theorem zD (s:ByteArray) (w:World) (B d k:Nat) (hU:Un B w d s k) :
  Calls Tryz.prog 14 #[uf d] w fun e w'=>e=.returned (.int .i64 k)∧w=w':=by
 obtain ⟨_,v,hq,_⟩:=hU;obtain ⟨⟨k0,k1,k2⟩,kf⟩:=jG hq;clear hq
 unfold uf
 go_enter Tryz.func14,Tryz.ntmps14
 go_wp2_with fail
 go_ret
 exact ⟨rfl,rfl⟩
theorem AB (s:ByteArray) (w:World) (B d k:Nat) (hs:s.size≤600) (hU:Un B w d s k) :
  Calls Tryz.prog 12 #[uf d] w fun e w'=>∃ v,e=.returned v∧Hu w.heap.size w' (decls s) v∧Below w.heap.size w w':=by
 obtain ⟨_,v,hq,hv⟩:=hU;have c1:=Mg w (decls s) v hv (by have:=nW s;omega) (DY (tZ s hs));obtain ⟨⟨k0,k1,k2⟩,kf⟩:=jG hq;obtain ⟨a,c,rfl⟩:=ny hv;clear hs hq hv
 unfold uf
 go_enter Tryz.func12,Tryz.ntmps12
 go_wp2_with fail
 refine c1.mono ?_;rintro e w2 ⟨v',rfl,hU,hb⟩;have HU:=hid hU;have HB:=hid hb;clear c1 hU hb k0 k1 k2 kf
 go_wp2_with fail
 go_ret
 exact ⟨_,rfl,HU.out,HB.out⟩
end Ud
namespace S
open Go.RowKit
open Go.Lib hiding intOf
open U L
theorem Ka (z:UInt8):(blank z=true∧(z=32∨z=9∨z=13∨z=10))∨(blank z=false∧z≠32∧z≠9∧z≠13∧z≠10):=by
 unfold blank
 by_cases h1:z=32
 ·exact .inl ⟨by simp [h1],.inl h1⟩
 ·by_cases h2:z=9
  ·exact .inl ⟨by simp [h2],.inr (.inl h2)⟩
  ·by_cases h3:z=13
   ·exact .inl ⟨by simp [h3],.inr (.inr (.inl h3))⟩
   ·by_cases h4:z=10
    ·exact .inl ⟨by simp [h4],.inr (.inr (.inr h4))⟩
    ·exact .inr ⟨by simp [h1,h2,h3,h4],h1,h2,h3,h4⟩
theorem Bt (s:ByteArray) (w:World) (hs:s.size≤1000000) :
  Calls Tryz.prog 39 #[.string s] w fun e w'=>∃ v,e=.returned v∧K3 w.heap.size w' (fD (okB s) s.toList) v∧Below w.heap.size w w':=by
 obtain ⟨i0,hi0,hz0,hz1,hz2⟩:=eB MX;have cR:=EX s w hs;obtain ⟨right,hright⟩:∃ right,okB s=right:=⟨_,rfl⟩;have Jr:Hid (og right s 0 []):=hid (xY right s (fun h=>by rw [hright];exact h));rw [hright] at cR ⊢;clear hright;have CC:=hid (fun (i:Nat) (hi:i<s.size) X=>IX (s.extract i s.size) X (by rw [size_extract s i s.size (by omega) (ae _)];omega));have CW:=hid (fun (i:Nat) (hi:i<s.size) (hr:right=true→okB (s.extract i s.size)=true) X=>Qz (s.extract i s.size) right X (by rw [size_extract s i s.size (by omega) (ae _)];omega) (by rw [size_extract s i s.size (by omega) (ae _)];omega) hr);have CE:=hid (fun k f e' t X=>Qo k f e' t X)
 go_enter Tryz.func39,Tryz.ntmps39
 go_wp2_with fail
 refine cR.mono ?_;rintro e w1 ⟨rfl,hb1⟩;obtain ⟨Z,hZ⟩:∃ Z,w1.heap.size=Z:=⟨_,rfl⟩
 have hwZ:w.heap.size≤Z:=by have:=hb1.size;omega
 have HB1:=hid hb1;have HZ:=hid hZ;clear hb1 cR hZ
 go_wp2_with fail
 go_loopw [3,5] (fun ov iv wr=>∃ (i:Nat) (O:List bn),iv=.int .i64 i∧i≤s.size∧Hid (og right s i O)∧Hid (wr.ownsRow Z 86 4 ov O.length (fV O))∧Hid (Below Z w1 wr)) (fun _ iv _=>s.size - (intOf iv).toNat)
 case atStart=>exact ⟨0,[],rfl,aM _,Jr,hid (dB _ _ _ _),hid (ah _ _)⟩
 case round =>
  obtain ⟨i,O,rfl,hi,HS,HR,HL⟩:=hrel;clear Jr;obtain ⟨oa,oc,rfl⟩:=eH HR.out
  have hzr:Z≤wr.heap.size:=by have:=HL.out.size;have:=HZ.out;omega
  have VY:O.length≤1000000:=by have:=HS.out.few;omega
  by_cases hlt:i<s.size
  ·have cC:=CC.out i hlt wr
   obtain ⟨z,hz⟩:∃ z,s[i]=z:=⟨_,rfl⟩;have xF:=hid hz;obtain ⟨n,hn⟩:∃ n,eG (s.extract i s.size).toList=n:=⟨_,rfl⟩;rw [hn] at cC;have HN:=hid hn;clear hn
   by_cases h0:O.length=0
   ·have WZ:O=[]:=dF.1 h0
    have Zf:Hid (sW O=false):=hid (by rw [WZ];rfl);have HO:=hid h0;rw [h0] at HR ⊢;clear h0 WZ VY
    go_wp2_with fail
    refine cC.mono ?_;rintro e w3 ⟨rfl,rfl⟩;have Pw:=hzr;have JK:=HL;have HR3:=HR;clear cC HR HL hzr
    rcases Ka z with ⟨hbl,z32|z9|Kb|Hy⟩|⟨hbl,n32,n9,n13,n10⟩
    focus
     clear hbl;have Am:Hid (og right s (i+1) O):=hid (kC HS.out hlt (fun e=>by have h:=xF.out.symm.trans e.1;rw [z32] at h;cases h) (by rw [xF.out,z32];rfl))
     have e32:((z.toNat:Int)==32)=true:=by rw [z32];rfl
     have e9:((z.toNat:Int)==9)=false:=by rw [z32];rfl
     have e13:((z.toNat:Int)==13)=false:=by rw [z32];rfl
     have e10:((z.toNat:Int)==10)=false:=by rw [z32];rfl
     clear z32 HS
    rotate_left
    focus
     clear hbl;have Am:Hid (og right s (i+1) O):=hid (kC HS.out hlt (fun e=>by have h:=xF.out.symm.trans e.1;rw [z9] at h;cases h) (by rw [xF.out,z9];rfl))
     have e32:((z.toNat:Int)==32)=false:=by rw [z9];rfl
     have e9:((z.toNat:Int)==9)=true:=by rw [z9];rfl
     have e13:((z.toNat:Int)==13)=false:=by rw [z9];rfl
     have e10:((z.toNat:Int)==10)=false:=by rw [z9];rfl
     clear z9 HS
    rotate_left
    focus
     clear hbl;have Am:Hid (og right s (i+1) O):=hid (kC HS.out hlt (fun e=>by have h:=xF.out.symm.trans e.1;rw [Kb] at h;cases h) (by rw [xF.out,Kb];rfl))
     have e32:((z.toNat:Int)==32)=false:=by rw [Kb];rfl
     have e9:((z.toNat:Int)==9)=false:=by rw [Kb];rfl
     have e13:((z.toNat:Int)==13)=true:=by rw [Kb];rfl
     have e10:((z.toNat:Int)==10)=false:=by rw [Kb];rfl
     clear Kb HS
    rotate_left
    focus
     clear hbl;have Am:Hid (og right s (i+1) O):=hid (kC HS.out hlt (fun e=>by have h:=e.2;rw [Zf.out] at h;cases h) (by rw [xF.out,Hy];rfl))
     have e32:((z.toNat:Int)==32)=false:=by rw [Hy];rfl
     have e9:((z.toNat:Int)==9)=false:=by rw [Hy];rfl
     have e13:((z.toNat:Int)==13)=false:=by rw [Hy];rfl
     have e10:((z.toNat:Int)==10)=true:=by rw [Hy];rfl
     clear Hy HS
    rotate_left
    ·have Xp:=hid hbl
     have e32:((z.toNat:Int)==32)=false:=by have h:=qg z 32;rw [dm n32] at h;exact h
     have e9:((z.toNat:Int)==9)=false:=by have h:=qg z 9;rw [dm n9] at h;exact h
     have e13:((z.toNat:Int)==13)=false:=by have h:=qg z 13;rw [dm n13] at h;exact h
     have e10:((z.toNat:Int)==10)=false:=by have h:=qg z 10;rw [dm n10] at h;exact h
     clear hbl n32 n9 n13 n10
     by_cases hn0:0<n
     ·have hle:i+n≤s.size:=by have h:=uA (s.extract i s.size).toList;rw [HN.out,kK,bC,dP] at h;omega
      have Am:Hid (og right s (i+n) O):=hid (by have h:=CP HS.out hlt (by rw [xF.out];exact Xp.out) (by rw [HN.out];exact hn0);rwa [HN.out] at h);clear HS
      go_wp2_with fail
      go_roundw
      case rel=>exact ⟨i+n,O,by go_num,by omega,Am,hid (by have h:=HR3.out;rw [HO.out];exact h),JK⟩
      case measure=>simp [intOf];omega
     ·have cW:=CW.out i hlt HS.out.ok wr
      obtain ⟨⟨x,j⟩,hw⟩:∃ p,eX right (s.extract i s.size).toList=p:=⟨_,rfl⟩;rw [hw] at cW;obtain ⟨hij,hj1,hN2⟩:=zY HS.out hlt (by rw [xF.out];exact Xp.out) (by rw [HN.out];omega) hw;have Am:=hid hN2;simp only at cW;clear HS hN2 hw
      go_wp2_with fail
      refine cW.mono ?_;rintro e w4 ⟨rfl,hb4⟩
      have Zg:Z≤w4.heap.size:=by have:=hb4.size;omega
      have HL4:Hid (Below Z w1 w4):=hid (JK.out.trans (hb4.mono Pw));have HR4:=hid (aR HR3.out hb4);clear hb4 cW HR3 JK
      go_wp2_with fail
      rw [run_slice_string _ _ _ _ _ _ _ Tryz.underlying9 (by omega) (by omega) (by omega),show ((i:Int)).toNat=i by omega,show ((i:Int)+(j:Int)).toNat=i+j by omega]
      go_wp2_with (at_builtin;refine gK _ rfl _ _ 79 rfl Z 86 i0 (.agg #[.int .i64 0,.string ⟨#[]⟩,.int .i64 0,.int .i64 0]) 4 40 Tryz.underlying79 hi0 hz0 hz1 hz2 rfl (by decide) _ _ _ rfl (HR4.out.alloc _) ⟨w4.heap.size,0,none⟩ 1 1 (fV [⟨x,(s.extract i (i+j)).toList,i,((i+j:Nat):Int)⟩]) rfl rfl ?c1 (nK _) ?c3 ?c4 ?c5 ?_)
      case c1=>exact CO _ _ _ _ _
      case c3=>unfold maxLen;omega
      case c4=>omega
      case c5=>rw [aT];omega
      intro v5 w5 hv5 hg5 _;have HV5:=hid hv5;have sw:=hid (below_grown HL4.out HR4.out hg5 Zg);clear hv5 hg5
      go_wp2_with fail
      go_roundw
      case rel=>exact ⟨i+j,_,by go_num,by omega,Am,hid (by have:=HV5.out;rw [← oZ] at this;simpa [aO,HO.out] using this),sw⟩
      case measure=>simp [intOf];omega
    all_goals
     go_wp2_with fail
     go_roundw
     case rel=>exact ⟨i+1,O,by go_num,by omega,Am,hid (by have h:=HR3.out;rw [HO.out];exact h),JK⟩
     case measure=>simp [intOf];omega
   ·obtain ⟨k,hk⟩:∃ k,O.length=k+1:=⟨O.length - 1,by omega⟩
    obtain ⟨g,c,hv,hkc,hgZ,hgw⟩:=lM HR.out (by omega)
    cases hv
    have YC:=BX HR.out rfl
    have Sg:k<O.length:=by omega
    have hcl:=xX k YC Sg;obtain ⟨t,ht⟩:∃ t,O[k]=t:=⟨_,rfl⟩;rw [ht] at hcl
    have hend:sW O=pZ t.w t.t:=by
     unfold sW
     rw [List.getLast?_eq_getElem?,hk,gp,aB Sg,ht]
    simp only [bA] at hcl;obtain ⟨c0,c1,c2,c3⟩:=hcl;have Tj:=hid hend
    have hk6:k≤1000000:=by omega
    clear hend YC ht h0 VY;have cE:=CE.out t.w t.f t.e ⟨t.t.toArray⟩ wr;have HO:=hid hk;rw [hk] at HR Sg ⊢;clear hk
    go_wp2_with fail
    refine cC.mono ?_;rintro e w2 ⟨rfl,rfl⟩
    go_wp2_with fail
    refine cE.mono ?_;rintro e w3 ⟨rfl,hb3⟩
    have Pw:Z≤w3.heap.size:=by have:=hb3.size;omega
    have JK:Hid (Below Z w1 w3):=hid (HL.out.trans (hb3.mono hzr));have HR3:Hid (w3.ownsRow Z 86 4 (.slice (some ⟨g,0,none⟩) (k+1) oc) (k+1) (fV O)):=hid (aR HR.out hb3);obtain ⟨b,hb⟩:∃ b,pZ t.w (⟨t.t.toArray⟩:ByteArray).toList=b:=⟨_,rfl⟩;rw [hb];have Zf:Hid (sW O=b):=hid (by rw [Tj.out,← hb,bg]);clear cE hb c0 c1 c2 c3 hb3 HR HL Tj;clear cC
    rcases Ka z with ⟨hbl,z32|z9|Kb|Hy⟩|⟨hbl,n32,n9,n13,n10⟩
    focus
     clear hbl;have Am:Hid (og right s (i+1) O):=hid (kC HS.out hlt (fun e=>by have h:=xF.out.symm.trans e.1;rw [z32] at h;cases h) (by rw [xF.out,z32];rfl))
     have e32:((z.toNat:Int)==32)=true:=by rw [z32];rfl
     have e9:((z.toNat:Int)==9)=false:=by rw [z32];rfl
     have e13:((z.toNat:Int)==13)=false:=by rw [z32];rfl
     have e10:((z.toNat:Int)==10)=false:=by rw [z32];rfl
     clear z32 HS
    rotate_left
    focus
     clear hbl;have Am:Hid (og right s (i+1) O):=hid (kC HS.out hlt (fun e=>by have h:=xF.out.symm.trans e.1;rw [z9] at h;cases h) (by rw [xF.out,z9];rfl))
     have e32:((z.toNat:Int)==32)=false:=by rw [z9];rfl
     have e9:((z.toNat:Int)==9)=true:=by rw [z9];rfl
     have e13:((z.toNat:Int)==13)=false:=by rw [z9];rfl
     have e10:((z.toNat:Int)==10)=false:=by rw [z9];rfl
     clear z9 HS
    rotate_left
    focus
     clear hbl;have Am:Hid (og right s (i+1) O):=hid (kC HS.out hlt (fun e=>by have h:=xF.out.symm.trans e.1;rw [Kb] at h;cases h) (by rw [xF.out,Kb];rfl))
     have e32:((z.toNat:Int)==32)=false:=by rw [Kb];rfl
     have e9:((z.toNat:Int)==9)=false:=by rw [Kb];rfl
     have e13:((z.toNat:Int)==13)=true:=by rw [Kb];rfl
     have e10:((z.toNat:Int)==10)=false:=by rw [Kb];rfl
     clear Kb HS
    rotate_left
    ·clear hbl
     cases b
     ·have Am:Hid (og right s (i+1) O):=hid (kC HS.out hlt (fun e=>by have h:=e.2;rw [Zf.out] at h;cases h) (by rw [xF.out,Hy];rfl))
      have e32:((z.toNat:Int)==32)=false:=by rw [Hy];rfl
      have e9:((z.toNat:Int)==9)=false:=by rw [Hy];rfl
      have e13:((z.toNat:Int)==13)=false:=by rw [Hy];rfl
      have e10:((z.toNat:Int)==10)=true:=by rw [Hy];rfl
      clear Hy HS
      go_wp2_with fail
      go_roundw
      case rel=>exact ⟨i+1,O,by go_num,by omega,Am,hid (by have h:=HR3.out;rw [HO.out];exact h),JK⟩
      case measure=>simp [intOf];omega
     ·have Am:Hid (og right s (i+1) (O++[⟨5,[],i,((i+1:Nat):Int)⟩])):=hid (MZ HS.out hlt (xF.out.trans Hy) Zf.out)
      have e32:((z.toNat:Int)==32)=false:=by rw [Hy];rfl
      have e9:((z.toNat:Int)==9)=false:=by rw [Hy];rfl
      have e13:((z.toNat:Int)==13)=false:=by rw [Hy];rfl
      have e10:((z.toNat:Int)==10)=true:=by rw [Hy];rfl
      clear Hy HS
      go_wp2_with (at_builtin;refine gK _ rfl _ _ 79 rfl Z 86 i0 (.agg #[.int .i64 0,.string ⟨#[]⟩,.int .i64 0,.int .i64 0]) 4 40 Tryz.underlying79 hi0 hz0 hz1 hz2 rfl (by decide) _ _ _ rfl (HR3.out.alloc _) ⟨w3.heap.size,0,none⟩ 1 1 (fV [⟨5,[],i,((i+1:Nat):Int)⟩]) rfl rfl ?c1 (nK _) ?c3 ?c4 ?c5 ?_)
      case c1=>exact BZ _ _
      case c3=>unfold maxLen;omega
      case c4=>omega
      case c5=>rw [aT];omega
      intro v5 w5 hv5 hg5 _;have HV5:=hid hv5;have sw:=hid (below_grown JK.out HR3.out hg5 Pw);clear hv5 hg5
      go_wp2_with fail
      go_roundw
      case rel=>exact ⟨i+1,_,by go_num,by omega,Am,hid (by have:=HV5.out;rw [← oZ] at this;simpa [aO,HO.out] using this),sw⟩
      case measure=>simp [intOf];omega
    ·have Xp:=hid hbl
     have e32:((z.toNat:Int)==32)=false:=by have h:=qg z 32;rw [dm n32] at h;exact h
     have e9:((z.toNat:Int)==9)=false:=by have h:=qg z 9;rw [dm n9] at h;exact h
     have e13:((z.toNat:Int)==13)=false:=by have h:=qg z 13;rw [dm n13] at h;exact h
     have e10:((z.toNat:Int)==10)=false:=by have h:=qg z 10;rw [dm n10] at h;exact h
     clear hbl n32 n9 n13 n10
     by_cases hn0:0<n
     ·have hle:i+n≤s.size:=by have h:=uA (s.extract i s.size).toList;rw [HN.out,kK,bC,dP] at h;omega
      have Am:Hid (og right s (i+n) O):=hid (by have h:=CP HS.out hlt (by rw [xF.out];exact Xp.out) (by rw [HN.out];exact hn0);rwa [HN.out] at h);clear HS
      go_wp2_with fail
      go_roundw
      case rel=>exact ⟨i+n,O,by go_num,by omega,Am,hid (by have h:=HR3.out;rw [HO.out];exact h),JK⟩
      case measure=>simp [intOf];omega
     ·have cW:=CW.out i hlt HS.out.ok w3
      obtain ⟨⟨x,j⟩,hw⟩:∃ p,eX right (s.extract i s.size).toList=p:=⟨_,rfl⟩;rw [hw] at cW;obtain ⟨hij,hj1,hN2⟩:=zY HS.out hlt (by rw [xF.out];exact Xp.out) (by rw [HN.out];omega) hw;have Am:=hid hN2;simp only at cW;clear HS hN2 hw
      go_wp2_with fail
      refine cW.mono ?_;rintro e w4 ⟨rfl,hb4⟩
      have Zg:Z≤w4.heap.size:=by have:=hb4.size;omega
      have HL4:Hid (Below Z w1 w4):=hid (JK.out.trans (hb4.mono Pw));have HR4:=hid (aR HR3.out hb4);clear hb4 cW HR3 JK
      go_wp2_with fail
      rw [run_slice_string _ _ _ _ _ _ _ Tryz.underlying9 (by omega) (by omega) (by omega),show ((i:Int)).toNat=i by omega,show ((i:Int)+(j:Int)).toNat=i+j by omega]
      go_wp2_with (at_builtin;refine gK _ rfl _ _ 79 rfl Z 86 i0 (.agg #[.int .i64 0,.string ⟨#[]⟩,.int .i64 0,.int .i64 0]) 4 40 Tryz.underlying79 hi0 hz0 hz1 hz2 rfl (by decide) _ _ _ rfl (HR4.out.alloc _) ⟨w4.heap.size,0,none⟩ 1 1 (fV [⟨x,(s.extract i (i+j)).toList,i,((i+j:Nat):Int)⟩]) rfl rfl ?c1 (nK _) ?c3 ?c4 ?c5 ?_)
      case c1=>exact CO _ _ _ _ _
      case c3=>unfold maxLen;omega
      case c4=>omega
      case c5=>rw [aT];omega
      intro v5 w5 hv5 hg5 _;have HV5:=hid hv5;have sw:=hid (below_grown HL4.out HR4.out hg5 Zg);clear hv5 hg5
      go_wp2_with fail
      go_roundw
      case rel=>exact ⟨i+j,_,by go_num,by omega,Am,hid (by have:=HV5.out;rw [← oZ] at this;simpa [aO,HO.out] using this),sw⟩
      case measure=>simp [intOf];omega
    all_goals
     go_wp2_with fail
     go_roundw
     case rel=>exact ⟨i+1,O,by go_num,by omega,Am,hid (by have h:=HR3.out;rw [HO.out];exact h),JK⟩
     case measure=>simp [intOf];omega
  ·obtain rfl:i=s.size:=by omega
   by_cases h0:O.length=0
   ·have WZ:O=[]:=dF.1 h0
    have HF:Hid (fD right s.toList=O):=hid (by have h:=HS.out.all;rw [nL,WZ] at h;rw [h,WZ];rfl);have HO:=hid h0;rw [h0] at HR ⊢;clear h0 WZ VY HS
    go_wp2_with fail
    go_ret
    exact ⟨_,rfl,by rw [HF.out];exact vV HR.out HO.out hwZ,HB1.out.trans (HL.out.mono hwZ)⟩
   ·obtain ⟨k,hk⟩:∃ k,O.length=k+1:=⟨O.length - 1,by omega⟩
    obtain ⟨g,c,hv,hkc,hgZ,hgw⟩:=lM HR.out (by omega)
    cases hv
    have YC:=BX HR.out rfl
    have Sg:k<O.length:=by omega
    have hcl:=xX k YC Sg;obtain ⟨t,ht⟩:∃ t,O[k]=t:=⟨_,rfl⟩;rw [ht] at hcl
    have hend:sW O=pZ t.w t.t:=by
     unfold sW
     rw [List.getLast?_eq_getElem?,hk,gp,aB Sg,ht]
    simp only [bA] at hcl;obtain ⟨c0,c1,c2,c3⟩:=hcl;have Tj:=hid hend
    have hk6:k≤1000000:=by omega
    clear hend YC ht h0 VY;have cE:=CE.out t.w t.f t.e ⟨t.t.toArray⟩ wr;have HO:=hid hk;rw [hk] at HR Sg ⊢;clear hk
    go_wp2_with fail
    refine cE.mono ?_;rintro e w3 ⟨rfl,hb3⟩
    have Pw:Z≤w3.heap.size:=by have:=hb3.size;omega
    have JK:Hid (Below Z w1 w3):=hid (HL.out.trans (hb3.mono hzr));have HR3:Hid (w3.ownsRow Z 86 4 (.slice (some ⟨g,0,none⟩) (k+1) oc) (k+1) (fV O)):=hid (aR HR.out hb3);obtain ⟨b,hb⟩:∃ b,pZ t.w (⟨t.t.toArray⟩:ByteArray).toList=b:=⟨_,rfl⟩;rw [hb];have Zf:Hid (sW O=b):=hid (by rw [Tj.out,← hb,bg]);clear cE hb c0 c1 c2 c3 hb3 HR HL Tj
    cases b
    ·have HF:Hid (fD right s.toList=O):=hid (by have h:=HS.out.all;rw [nL,Zf.out] at h;simpa using h)
     clear HS
     go_wp2_with fail
     go_ret
     exact ⟨_,rfl,by rw [HF.out];exact vV HR3.out HO.out hwZ,HB1.out.trans (JK.out.mono hwZ)⟩
    ·have HF:Hid (fD right s.toList=O++[⟨5,[],s.size,s.size⟩]):=hid (by have h:=HS.out.all;rw [nL,Zf.out] at h;simpa using h)
     clear HS
     go_wp2_with (at_builtin;refine gK _ rfl _ _ 79 rfl Z 86 i0 (.agg #[.int .i64 0,.string ⟨#[]⟩,.int .i64 0,.int .i64 0]) 4 40 Tryz.underlying79 hi0 hz0 hz1 hz2 rfl (by decide) _ _ _ rfl (HR3.out.alloc _) ⟨w3.heap.size,0,none⟩ 1 1 (fV [⟨5,[],s.size,s.size⟩]) rfl rfl ?c1 (nK _) ?c3 ?c4 ?c5 ?_)
     case c1=>exact BZ _ _
     case c3=>unfold maxLen;omega
     case c4=>omega
     case c5=>rw [aT];omega
     intro v5 w5 hv5 hg5 _;have HV5:=hid hv5;have sw:=hid (below_grown JK.out HR3.out hg5 Pw);clear hv5 hg5
     go_wp2_with fail
     go_ret
     exact ⟨_,rfl,by rw [HF.out];exact vV (n:=k+1+1) (by have:=HV5.out;rw [← oZ] at this;exact this) (by simp [HO.out]) hwZ,HB1.out.trans (sw.out.mono hwZ)⟩
end S
namespace Q
open Go.RowKit
open Go.Lib hiding intOf
open U S L
theorem Hz (c:UInt8) (w:World):Calls Tryz.prog 50 #[.int .u8 (c.toNat:Nat)] w fun e w'=>e=.returned (.bool (rV c))∧w=w':=by
 have hf:rV c=decide (((97≤c.toNat∧c.toNat≤122)∨(65≤c.toNat∧c.toNat≤90)∨c.toNat=95)∨(48≤c.toNat∧c.toNat≤57)):=by
  unfold rV mo kF
  have:decide (c=95)=decide (c.toNat=95):=by
   rw [decide_eq_decide]
   exact ⟨fun h=>by rw [h];rfl,fun h=>UInt8.toNat_inj.1 h⟩
  rw [this]
  simp [gM,Bool.or_assoc]
 rw [hf];generalize c.toNat=n;obtain ⟨R,hR⟩:∃ R,decide (((97≤n∧n≤122)∨(65≤n∧n≤90)∨n=95)∨(48≤n∧n≤57))=R:=⟨_,rfl⟩;have HR:=hid hR;rw [hR];clear hR
 go_enter Tryz.func50,Tryz.ntmps50
 go_wp2_with fail
 all_goals (go_ret;exact ⟨vQ (by rw [← HR.out,gq];simp;omega),rfl⟩)
def uL (l:By) (i n:Nat):Prop:=(l.drop i).takeWhile rV=(l.drop i).take n++(l.drop (i+n)).takeWhile rV
theorem zF (l:By) (i:Nat):uL l i 0:=by unfold uL;simp
theorem FU (s:ByteArray) {i n:Nat} (h:uL s.toList i n) (hn:i+n<s.size) (hc:rV s[i+n]=true):uL s.toList i (n+1):=by
 unfold uL at h ⊢
 have hl:=fO s hn;rw [h,hl,bK,au hc,← Nat.add_assoc]
 have ht:(s.toList.drop i).take (n+1)=(s.toList.drop i).take n++[s[i+n]]:=by
  rw [List.take_add_one,gX,xV s hn];rfl
 rw [ht];simp
theorem uM (s:ByteArray) {i n:Nat} (h:uL s.toList i n) (hc:(∃ hn:i+n<s.size,rV s[i+n]=false)∨s.size≤i+n):(s.extract i (i+n)).toList=(s.toList.drop i).takeWhile rV:=by
 unfold uL at h
 rw [h,S.ext_list,show i+n - i=n by omega]
 rcases hc with ⟨hn,hc⟩|hc
 ·rw [fO s hn,bK,ai (by rw [hc];simp),eu]
 ·rw [xR s hc];simp
theorem xG (s:ByteArray) (i:Nat) (w:World) (hi:i≤s.size) (hs:s.size≤1000000):Calls Tryz.prog 30 #[.string s,.int .i64 i] w fun e w'=>e=.returned (.bool (yN s.toList i))∧w=w':=by
 have cP:=fun c W=>Hz c W
 obtain ⟨R,hR⟩:∃ R,yN s.toList i=R:=⟨_,rfl⟩;rw [hR]
 have main:(i=0∨s.toList[i - 1]?=some 10)→kw ((s.toList.drop i).takeWhile rV)=R:=fun h=>by
  rw [← hR]
  unfold yN ng
  rcases h with h|h <;> simp [h]
 have off:∀ (hi0:i - 1<s.size),i≠0→s[i - 1].toNat≠10→R=false:=fun hi0 h0 h1=>by
  rw [← hR]
  unfold yN
  rw [xV s hi0]
  have:¬ s[i - 1]=10:=fun e=>h1 (by rw [e];rfl)
  simp [h0,this]
 have HM:=hid main;have HO:=hid off;clear hR main off
 by_cases h0:i=0
 ·have HW:=hid (HM.out (.inl h0))
  have hg:decide (0<i)=false:=by simp [h0]
  clear h0
  go_enter Tryz.func30,Tryz.ntmps30
  go_wp2_with fail
  go_loop [5] (fun nv=>∃ n:Nat,nv=.int .i64 n∧i+n≤s.size∧Hid (uL s.toList i n)) (fun nv=>s.size - (intOf nv).toNat)
  case atStart=>exact ⟨0,rfl,hi,hid (zF _ _)⟩
  case round =>
   obtain ⟨n,rfl,hn,HN⟩:=hrel;have e0:IntKind.i64.wrap ((i:Int)+(n:Int))=(i:Int)+(n:Int):=bq _ (by omega);have e1:IntKind.i64.wrap ((n:Int)+1)=(n:Int)+1:=bq _ (by omega)
   have s0:(0:Int)≤(i:Int):=by omega
   have s1:(i:Int)≤(i:Int)+(n:Int):=by omega
   have s2:(i:Int)+(n:Int)≤(s.size:Int):=by omega
   have s3:i≤i+n:=by omega
   by_cases hlt:i+n<s.size
   ·have s4:(i:Int)+(n:Int)<(s.size:Int):=by omega
    have s5:(0:Int)≤(i:Int)+(n:Int):=by omega
    have g1:=FU s HN.out hlt
    have g2:rV s[i+n]=false→(s.extract i (i+n)).toList=(s.toList.drop i).takeWhile rV:=fun h=>uM s HN.out (.inl ⟨hlt,h⟩)
    obtain ⟨x,hx⟩:∃ x,s[i+n]=x:=⟨_,rfl⟩;rw [hx] at g1 g2;have G1:=hid g1;have G2:=hid g2;clear g1 g2;have c1:=cP x w
    cases hl:rV x
    ·rw [hl] at c1
     have HE:Hid (R=kw (s.extract i (i+n)).toList):=hid (by rw [G2.out hl];exact HW.out.symm);obtain ⟨y,hy⟩:∃ y,s.extract i (i+n)=y:=⟨_,rfl⟩;rw [hy] at HE;clear hl
     go_wp2_with fail
     refine c1.mono ?_;rintro e w2 ⟨rfl,rfl⟩;clear c1
     go_wp2_with fail
     all_goals (go_ret;exact ⟨vQ (by first|(exfalso;simp_all;done)|(rw [HE.out];simp only [kw, *];rfl)|(rw [HE.out];simp [kw, *];done)|(rw [HE.out];simp_all [kw];done)),rfl⟩)
    ·rw [hl] at c1
     have Am:=hid (G1.out hl);clear hl
     go_wp2_with fail
     refine c1.mono ?_;rintro e w2 ⟨rfl,rfl⟩;clear c1
     go_wp2_with fail
     go_round
     case rel=>exact ⟨n+1,by go_num,by omega,Am⟩
     case measure=>simp [intOf];omega
   ·have hz:s.size≤i+n:=by omega
    have HE:Hid (R=kw (s.extract i (i+n)).toList):=hid (by rw [uM s HN.out (.inr hz)];exact HW.out.symm);obtain ⟨y,hy⟩:∃ y,s.extract i (i+n)=y:=⟨_,rfl⟩;rw [hy] at HE
    have s4:¬ (i:Int)+(n:Int)<(s.size:Int):=by omega
    go_wp2_with fail
    all_goals (go_ret;exact ⟨vQ (by first|(exfalso;simp_all;done)|(rw [HE.out];simp only [kw, *];rfl)|(rw [HE.out];simp [kw, *];done)|(rw [HE.out];simp_all [kw];done)),rfl⟩)
 ·have hi0:i - 1<s.size:=by omega
  have g0:=HO.out hi0 h0;have g3:=xV s hi0;obtain ⟨z,hz⟩:∃ z,s[i - 1]=z:=⟨_,rfl⟩;rw [hz] at g0 g3;have G0:=hid g0
  have hg:0<i:=by omega
  have ew:IntKind.i64.wrap ((i:Int) - 1)=((i - 1:Nat):Int):=(bq _ (by omega)).trans (by omega)
  by_cases h10:z.toNat=10
  ·have HW:Hid (kw ((s.toList.drop i).takeWhile rV)=R):=hid (HM.out (.inr (by rw [g3];congr 1;exact UInt8.toNat_inj.1 h10)))
   have ajy:((z.toNat:Int) != 10)=false:=by simp [h10]
   clear h0 g0 g3 h10
   go_enter Tryz.func30,Tryz.ntmps30
   go_wp2_with fail
   go_loop [5] (fun nv=>∃ n:Nat,nv=.int .i64 n∧i+n≤s.size∧Hid (uL s.toList i n)) (fun nv=>s.size - (intOf nv).toNat)
   case atStart=>exact ⟨0,rfl,hi,hid (zF _ _)⟩
   case round =>
    obtain ⟨n,rfl,hn,HN⟩:=hrel;have e0:IntKind.i64.wrap ((i:Int)+(n:Int))=(i:Int)+(n:Int):=bq _ (by omega);have e1:IntKind.i64.wrap ((n:Int)+1)=(n:Int)+1:=bq _ (by omega)
    have s0:(0:Int)≤(i:Int):=by omega
    have s1:(i:Int)≤(i:Int)+(n:Int):=by omega
    have s2:(i:Int)+(n:Int)≤(s.size:Int):=by omega
    have s3:i≤i+n:=by omega
    by_cases hlt:i+n<s.size
    ·have s4:(i:Int)+(n:Int)<(s.size:Int):=by omega
     have s5:(0:Int)≤(i:Int)+(n:Int):=by omega
     have g1:=FU s HN.out hlt
     have g2:rV s[i+n]=false→(s.extract i (i+n)).toList=(s.toList.drop i).takeWhile rV:=fun h=>uM s HN.out (.inl ⟨hlt,h⟩)
     obtain ⟨x,hx⟩:∃ x,s[i+n]=x:=⟨_,rfl⟩;rw [hx] at g1 g2;have G1:=hid g1;have G2:=hid g2;clear g1 g2;have c1:=cP x w
     cases hl:rV x
     ·rw [hl] at c1
      have HE:Hid (R=kw (s.extract i (i+n)).toList):=hid (by rw [G2.out hl];exact HW.out.symm);obtain ⟨y,hy⟩:∃ y,s.extract i (i+n)=y:=⟨_,rfl⟩;rw [hy] at HE;clear hl
      go_wp2_with fail
      refine c1.mono ?_;rintro e w2 ⟨rfl,rfl⟩;clear c1
      go_wp2_with fail
      all_goals (go_ret;exact ⟨vQ (by first|(exfalso;simp_all;done)|(rw [HE.out];simp only [kw, *];rfl)|(rw [HE.out];simp [kw, *];done)|(rw [HE.out];simp_all [kw];done)),rfl⟩)
     ·rw [hl] at c1
      have Am:=hid (G1.out hl);clear hl
      go_wp2_with fail
      refine c1.mono ?_;rintro e w2 ⟨rfl,rfl⟩;clear c1
      go_wp2_with fail
      go_round
      case rel=>exact ⟨n+1,by go_num,by omega,Am⟩
      case measure=>simp [intOf];omega
    ·have hz:s.size≤i+n:=by omega
     have HE:Hid (R=kw (s.extract i (i+n)).toList):=hid (by rw [uM s HN.out (.inr hz)];exact HW.out.symm);obtain ⟨y,hy⟩:∃ y,s.extract i (i+n)=y:=⟨_,rfl⟩;rw [hy] at HE
     have s4:¬ (i:Int)+(n:Int)<(s.size:Int):=by omega
     go_wp2_with fail
     all_goals (go_ret;exact ⟨vQ (by first|(exfalso;simp_all;done)|(rw [HE.out];simp only [kw, *];rfl)|(rw [HE.out];simp [kw, *];done)|(rw [HE.out];simp_all [kw];done)),rfl⟩)
  ·have HF:=hid (G0.out h10)
   clear h0 g0 g3
   go_enter Tryz.func30,Tryz.ntmps30
   go_wp2_with fail
   go_ret
   exact ⟨by rw [HF.out];rfl,rfl⟩
theorem DZ {W:World} {q:Nat} {a b c d a' b' c' d':Value} {t:TypeId} (h:W.heap[q]?=some (.cells #[a,b,c,d] t (0,0))) :
  ((((W.setCell ⟨q,0,none⟩ a').setCell ⟨q,1,none⟩ b').setCell ⟨q,2,none⟩ c').setCell ⟨q,3,none⟩ d').heap[q]?=some (.cells #[a',b',c',d'] t (0,0)):=by
 have hq:q<W.heap.size:=(af.1 h).1
 simp [World.setCell,Array.getElem?_modify,h]
theorem Kc (s:ByteArray) (f e:Nat) (w:World) (hfe:f≤e) (hes:e≤s.size) (hs:s.size≤1000000) :
  Calls Tryz.prog 31 #[.string s,.int .i64 f,.int .i64 e] w fun e' w'=>e'=.returned (.agg #[.int .i64 f,.int .i64 e,.bool (made s.toList f e).d,.bool (made s.toList f e).j])∧Below w.heap.size w w':=by
 have cB:=fun X=>xG s f X (by omega) hs
 have cS:=fun X=>Bt (s.extract f e) X (by rw [ByteArray.size_extract];omega)
 have hd:(made s.toList f e).d=yN s.toList f:=rfl
 have hj:(made s.toList f e).j=(!yN s.toList f&&decide (0<(fD (okB (s.extract f e)) (s.extract f e).toList).length)):=by
  show (!yN s.toList f&&hw ((s.toList.drop f).take (e - f)))=_
  unfold hw
  rw [← S.ext_list,MU]
  congr 1
  cases fD (okB (s.extract f e)) (s.extract f e).toList <;> simp
 rw [hd,hj];obtain ⟨b,hb⟩:∃ b,yN s.toList f=b:=⟨_,rfl⟩;rw [hb] at cB ⊢;obtain ⟨Ts,hTs⟩:∃ Ts,fD (okB (s.extract f e)) (s.extract f e).toList=Ts:=⟨_,rfl⟩;rw [hTs] at cS ⊢;obtain ⟨k,hk⟩:∃ k,Ts.length=k:=⟨_,rfl⟩;have HTK:=hid hk;rw [hk];clear hk;obtain ⟨y,hy⟩:∃ y,s.extract f e=y:=⟨_,rfl⟩
 have s0:(0:Int)≤(f:Int):=by omega
 have s1:(f:Int)≤(e:Int):=by omega
 have s2:(e:Int)≤(s.size:Int):=by omega
 clear hd hj hb hTs;rw [hy] at cS
 go_enter Tryz.func31,Tryz.ntmps31
 go_wp2_with fail
 refine (cB _).mono ?_;rintro e1 w1 ⟨rfl,rfl⟩;clear cB
 go_wp2_with fail
 obtain ⟨W1,hW1⟩:∃ W1,w.alloc (.cells #[.int .i64 0,.int .i64 0,.bool false,.bool false] 62)=W1:=⟨_,rfl⟩
 have hb1:Below w.heap.size w W1:=by rw [← hW1];exact (ah _ w).alloc (ae _) _
 have hq1:W1.heap[w.heap.size]?=some (.cells #[.int .i64 0,.int .i64 0,.bool false,.bool false] 62 (0,0)):=by rw [← hW1];exact gm w _
 rw [hW1];clear hW1;have jC:=hid hq1;have HB1:=hid hb1;clear hb1 hq1;refine (cS W1).mono ?_;rintro e2 w2 ⟨v,rfl,hv,hb2⟩;obtain ⟨a,cp,rfl,_,_⟩:=hv;have oH:=(af.1 jC.out).1;have hq2:=(hb2.block w.heap.size oH).trans jC.out;have hbb:Below w.heap.size w w2:=HB1.out.trans (hb2.mono (eQ oH))
 have hfb:∀ a' b' c' d',Below w.heap.size w ((((w2.setCell ⟨w.heap.size,0,none⟩ a').setCell ⟨w.heap.size,1,none⟩ b').setCell ⟨w.heap.size,2,none⟩ c').setCell ⟨w.heap.size,3,none⟩ d'):=fun a' b' c' d' =>
  (((hbb.setCell (p:=⟨w.heap.size,0,none⟩) (ae _) a').setCell (p:=⟨w.heap.size,1,none⟩) (ae _) b').setCell (p:=⟨w.heap.size,2,none⟩) (ae _) c').setCell (p:=⟨w.heap.size,3,none⟩) (ae _) d'
 have HFB:=hid hfb;have HQ:=hid hq2;obtain ⟨k0,k1,k2,k3⟩:=IW hq2
 have f0:∀ j,w2.frozen? ⟨w.heap.size,j,none⟩=false:=fun j=>by simp [World.frozen?,hq2]
 have g0:=f0 0;have g1:=f0 1;have g2:=f0 2;have g3:=f0 3;rw [HTK.out];clear cS hb2 hq2 hbb hfb f0 hy
 cases b
 ·by_cases hk0:0<k
  ·go_wp2_with fail
   (try simp only [Exit.inBlock,Exit.then])
   have hp:=DZ (a':=.int .i64 f) (b':=.int .i64 e) (c':=.bool false) (d':=.bool true) HQ.out;refine aA (v:=.agg #[.int .i64 f,.int .i64 e,.bool false,.bool true]) (aQ rfl _ _ w.heap.size 62 #[.int .i64 f,.int .i64 e,.bool false,.bool true] (0,0) _ (by rfl) hp Tryz.underlying62 rfl (by kernel_rfl)) rfl ?_
   exact ⟨by simp [hk0],HFB.out _ _ _ _⟩
  ·obtain rfl:k=0:=by omega
   go_wp2_with fail
   (try simp only [Exit.inBlock,Exit.then])
   have hp:=DZ (a':=.int .i64 f) (b':=.int .i64 e) (c':=.bool false) (d':=.bool false) HQ.out;refine aA (v:=.agg #[.int .i64 f,.int .i64 e,.bool false,.bool false]) (aQ rfl _ _ w.heap.size 62 #[.int .i64 f,.int .i64 e,.bool false,.bool false] (0,0) _ (by rfl) hp Tryz.underlying62 rfl (by kernel_rfl)) rfl ?_
   exact ⟨by simp,HFB.out _ _ _ _⟩
 ·go_wp2_with fail
  (try simp only [Exit.inBlock,Exit.then])
  have hp:=DZ (a':=.int .i64 f) (b':=.int .i64 e) (c':=.bool true) (d':=.bool false) HQ.out;refine aA (v:=.agg #[.int .i64 f,.int .i64 e,.bool true,.bool false]) (aQ rfl _ _ w.heap.size 62 #[.int .i64 f,.int .i64 e,.bool true,.bool false] (0,0) _ (by rfl) hp Tryz.underlying62 rfl (by kernel_rfl)) rfl ?_
  exact ⟨by simp,HFB.out _ _ _ _⟩
theorem xH (s:ByteArray) (w:World) (hs:s.size≤1000000) :
  Calls Tryz.prog 21 #[.string s] w fun e w'=>∃ v,e=.returned v∧DJ w.heap.size w' (pieces s.toList) v∧Below w.heap.size w w':=by
 obtain ⟨i0,hi0,hz0,hz1,hz2⟩:=eB abW;have Y9:Hid (pieces s.toList=[]++chain s.toList s.size 0 (ni s.toList 1 (s.size - 1))):=hid (by unfold pieces;rw [dP];rfl);have CB:=hid (fun i (hi:i≤s.size) X=>xG s i X hi hs);have CM:=hid (fun f e (hfe:f≤e) (hes:e≤s.size) X=>Kc s f e X hfe hes hs)
 go_enter Tryz.func21,Tryz.ntmps21
 go_wp2_with fail
 go_loopw [3,4,5] (fun ov fv iv wr=>∃ (f i:Nat) (O:List sG),fv=.int .i64 f∧iv=.int .i64 i∧f<i∧(i≤s.size∨i=1)∧O.length≤i∧Hid (wr.ownsRow w.heap.size 62 4 ov O.length (lY O))∧Hid (Below w.heap.size w wr)∧Hid (pieces s.toList=O++chain s.toList s.size f (ni s.toList i (s.size - i)))) (fun _ _ iv _=>s.size - (intOf iv).toNat)
 case atStart=>exact ⟨0,1,[],rfl,rfl,by omega,.inr rfl,by simp,hid (dB _ _ _ _),hid (ah _ _),Y9⟩
 case round =>
  obtain ⟨f,i,O,rfl,rfl,hfi,hi,hO,HR,HL,HP⟩:=hrel;clear Y9;obtain ⟨va,vc,rfl⟩:=eH HR.out;obtain ⟨m,hm⟩:∃ m,O.length=m:=⟨_,rfl⟩;rw [hm] at HR hO ⊢;have HM:=hid hm;clear hm
  by_cases hlt:i<s.size
  ·have c1:=CB.out i (by omega) wr
   have hst:=Aw s.toList i (s.size - (i+1));rw [show s.size - (i+1)+1=s.size - i by omega] at hst;obtain ⟨b,hb⟩:∃ b,yN s.toList i=b:=⟨_,rfl⟩;rw [hb] at c1 hst
   cases b
   ·have ED:Hid (pieces s.toList=O++chain s.toList s.size f (ni s.toList (i+1) (s.size - (i+1)))):=hid (by rw [HP.out,hst];simp)
    clear hst hb
    go_wp2_with fail
    refine c1.mono ?_;rintro e w2 ⟨rfl,rfl⟩;clear c1
    go_wp2_with fail
    go_roundw
    case rel=>exact ⟨f,i+1,O,rfl,by go_num,by omega,by omega,by rw [HM.out];omega,by rw [HM.out];exact HR,HL,ED⟩
    case measure=>simp [intOf];omega
   ·have c2:=CM.out f i (by omega) (by omega) wr
    have hmd:made s.toList f i=⟨f,i,(made s.toList f i).d,(made s.toList f i).j⟩:=rfl
    have ED:Hid (pieces s.toList=(O++[made s.toList f i])++chain s.toList s.size i (ni s.toList (i+1) (s.size - (i+1)))):=hid (by
     rw [HP.out,hst,au rfl]
     simp [chain,uY,lV])
    rw [hmd] at ED;obtain ⟨md,Tm⟩:∃ md,(made s.toList f i).d=md:=⟨_,rfl⟩;obtain ⟨mj,Tn⟩:∃ mj,(made s.toList f i).j=mj:=⟨_,rfl⟩;rw [Tm,Tn] at ED c2;clear hst hb hmd Tm Tn
    go_wp2_with fail
    refine c1.mono ?_;rintro e w2 ⟨rfl,rfl⟩;clear c1
    go_wp2_with fail
    refine c2.mono ?_;rintro e w5 ⟨rfl,hb5⟩;have vD:=hid (aR HR.out hb5);have Sm:=hid (HL.out.trans (hb5.mono HL.out.size));clear c2 hb5
    go_wp2_with (at_builtin;refine gK _ rfl _ _ 42 rfl w.heap.size 62 i0 (.agg #[.int .i64 0,.int .i64 0,.bool false,.bool false]) 4 24 Tryz.underlying42 hi0 hz0 hz1 hz2 rfl (by decide) _ _ _ rfl (vD.out.alloc _) ⟨w5.heap.size,0,none⟩ 1 1 (lY [⟨f,i,md,mj⟩]) rfl rfl ?c1 (tX _) ?c3 ?c4 ?c5 ?_)
    case c1=>exact Ha _ _ _ _ _ _
    case c3=>unfold maxLen;omega
    case c4=>omega
    case c5=>rw [aT];have:=Sm.out.size;omega
    intro v6 w6 hv6 Px _;have HL6:=hid (below_grown Sm.out vD.out Px Sm.out.size);rw [← nu] at hv6;have Ao:Hid (w6.ownsRow w.heap.size 62 4 v6 (O++[(⟨f,i,md,mj⟩:sG)]).length (lY (O++[⟨f,i,md,mj⟩]))):=hid (by rw [aO,HM.out];exact hv6);clear hv6 Px
    go_wp2_with fail
    go_roundw
    case rel=>exact ⟨i,i+1,O++[⟨f,i,md,mj⟩],rfl,by go_num,by omega,by omega,by rw [aO,HM.out];simp;omega,Ao,HL6,ED⟩
    case measure=>simp [intOf];omega
  ·have hfs:f≤s.size:=by omega
   have c2:=CM.out f s.size hfs (ae _) wr
   have ED:Hid (pieces s.toList=O++[made s.toList f s.size]):=hid (by
    rw [HP.out,show s.size - i=0 by omega]
    rfl)
   have hmd:made s.toList f s.size=⟨f,s.size,(made s.toList f s.size).d,(made s.toList f s.size).j⟩:=rfl;rw [hmd] at ED;obtain ⟨md,Tm⟩:∃ md,(made s.toList f s.size).d=md:=⟨_,rfl⟩;obtain ⟨mj,Tn⟩:∃ mj,(made s.toList f s.size).j=mj:=⟨_,rfl⟩;rw [Tm,Tn] at ED c2;clear hmd Tm Tn
   go_wp2_with fail
   refine c2.mono ?_;rintro e w5 ⟨rfl,hb5⟩;have vD:=hid (aR HR.out hb5);have Sm:=hid (HL.out.trans (hb5.mono HL.out.size));clear c2 hb5
   go_wp2_with (at_builtin;refine gK _ rfl _ _ 42 rfl w.heap.size 62 i0 (.agg #[.int .i64 0,.int .i64 0,.bool false,.bool false]) 4 24 Tryz.underlying42 hi0 hz0 hz1 hz2 rfl (by decide) _ _ _ rfl (vD.out.alloc _) ⟨w5.heap.size,0,none⟩ 1 1 (lY [⟨f,s.size,md,mj⟩]) rfl rfl ?c1 (tX _) ?c3 ?c4 ?c5 ?_)
   case c1=>exact Ha _ _ _ _ _ _
   case c3=>unfold maxLen;omega
   case c4=>omega
   case c5=>rw [aT];have:=Sm.out.size;omega
   intro v6 w6 hv6 Px _;have HL6:=hid (below_grown Sm.out vD.out Px Sm.out.size);rw [← nu] at hv6;have Ao:=hid hv6;clear hv6 Px
   go_wp2_with fail
   go_ret
   refine ⟨_,rfl,?_,HL6.out⟩;rw [ED.out]
   exact NB Ao.out (by rw [aO,HM.out];rfl) (ae _)
end Q
end Go.Proofs.YtojoahlpgmnbnaaGreatDoor
