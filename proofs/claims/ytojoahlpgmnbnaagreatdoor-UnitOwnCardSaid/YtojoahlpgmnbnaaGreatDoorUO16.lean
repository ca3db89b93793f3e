/- What the claim needs of the texts URd, UCopy, UApi, SRef5, QRef, QRefP. -/
import Derived.Test.YtojoahlpgmnbnaaGreatDoorUOOp
import Derived.Test.YtojoahlpgmnbnaaGreatDoorUO15
import Derived.Test.YtojoahlpgmnbnaaGreatDoorUO2
import Derived.Test.YtojoahlpgmnbnaaGreatDoorUO13
import Derived.Maps.AppendAt
set_option maxRecDepth 20000
set_option maxHeartbeats 16000000
namespace Go.Proofs.YtojoahlpgmnbnaaGreatDoor
namespace Ud
open Go.RowKit
open Go.Lib hiding intOf
open U S Q T J
open K (gB pO Nn qd)
theorem VF {B d:Nat} {W W':World} {l:List ku} {v v0 v1 v2:Value} {t:TypeId} (hN:∀ d∈l,pO (sj d.p)) (h:jc B (fun _=>True) W l v) (hq:W.heap[d]?=some (.cells #[v0,v1,v2] t (0,0))) (ho:∀ k,k≠d→W'.heap[k]?=W.heap[k]?) (hs:W.heap.size≤W'.heap.size):jc B (fun _=>True) W' l v:=by
 have far:∀ o u,W.cell? ⟨d,o,none⟩=some u→o<3:=fun o u h=>by
  rw [gF hq] at h
  exact (af.1 h).1
 have hX:∀ b o (k t:By) (f e:Int) (ks:List Pt) (lv:Value),k≠[]→dK W b o (five (.mk k t f e ks) lv)→dK W' b o (five (.mk k t f e ks) lv):=by
  intro b o k t f e ks lv _ hc q u hq
  have hb:b≠d:=fun h=>by
   subst h;have:=far _ _ (hc 4 _ rfl)
   omega
  have:=hc q u hq
  unfold World.cell? at this ⊢
  rw [ho b hb]
  exact this
 obtain ⟨a,c,h1,h2,h3⟩:=h;refine ⟨a,c,h1,h2,h3.imp id ?_⟩;rintro ⟨g,off,e1,e2,e3,e4⟩;refine ⟨g,off,e1,e2,aD e3 hs,fun i hi=>?_⟩;obtain ⟨lv,k1,k2⟩:=e4 i hi
 have hg:g≠d:=fun h=>by
  subst h;have:=far _ _ (k1 9 _ (WU _ _))
  omega
 refine ⟨lv,fun q u hq=>?_,uA hX _ _ (hN _ (bF hi)) k2⟩;have:=k1 q u hq
 unfold World.cell? at this ⊢
 rw [ho g hg]
 exact this
theorem yV (s:ByteArray) (w:World) (OL:List ku) (v':Value) (hs:s.size≤600) (hT:qI w) (hG:qd w) (hv':jc 0 (fun _=>True) w OL v') (zh:OL.length≤1000000) (hO:PY OL) :
  Calls Tryz.prog 23 #[.string s,v'] w fun e w'=>∃ d,e=.returned (oH d)∧Un w.heap.size w' d s (yZ (nU (decls s)) (nU OL))∧Below w.heap.size w w':=by
 have cD:=GZ s w (by omega) hT;have hD:=pE s hs;have hdb:=nO s;have HT:=hid hT;have HG:=hid hG;have HV':=hid hv'
 have HUn:Hid (∀ (W:World) (d:Nat) (v:Value) (k:Int),w.heap.size≤d→W.heap[d]?=some (.cells #[v,.string s,.int .i64 k] 58 (0,0))→k=(yZ (nU (decls s)) (nU OL):Nat)→jc w.heap.size (fun _=>True) W (decls s) v→Un w.heap.size W d s (yZ (nU (decls s)) (nU OL))):=hid (fun W d v k h1 h2 h3 h4=>by
  subst h3
  exact ⟨h1,v,h2,h4.weak (aL _) (fun _ h=>h)⟩)
 obtain ⟨D,hDD⟩:∃ D,decls s=D:=⟨_,rfl⟩;rw [hDD] at cD hD hdb HUn ⊢;have hle:=BZ (nU D) (nU OL);have hkk:yZ (nU D) (nU OL)=rH (nU D) (nU OL)+rJ (nU D) (nU OL):=rfl;obtain ⟨K,hK⟩:∃ K,yZ (nU D) (nU OL)=K:=⟨_,rfl⟩;rw [hK] at hkk HUn ⊢;obtain ⟨n,hn⟩:∃ n,D.length=n:=⟨_,rfl⟩;obtain ⟨on,hon⟩:∃ n,OL.length=n:=⟨_,rfl⟩;obtain ⟨hd,hhd⟩:∃ n,rH (nU D) (nU OL)=n:=⟨_,rfl⟩;obtain ⟨tl,htl⟩:∃ n,rJ (nU D) (nU OL)=n:=⟨_,rfl⟩;obtain ⟨rs,hrs⟩:∃ r,n - tl=r:=⟨_,rfl⟩;rw [kI,kI,hn,hon,hhd,htl] at hle;rw [hhd,htl] at hkk;have HD:=hid hD;have HOK:=hid hO;have HE:=hid (And.intro hn (And.intro hon (And.intro hhd (And.intro htl hrs))));rw [hn] at cD hdb;rw [hon] at zh;obtain ⟨oa,oc,rfl⟩:=lY hv';rw [hon] at HV' ⊢;have hvs:=hv';clear hT hG hv' hD hO hDD hK hn hon hhd htl hvs
 go_enter Tryz.func23,Tryz.ntmps23
 go_wp2_with fail
 refine cD.mono ?_;rintro e w1 ⟨v,rfl,bY,hb1⟩;obtain ⟨a,c,rfl⟩:=fD bY
 have hnc:n≤c:=by
  rcases bY.2 with ⟨h,h0⟩|⟨_,_,_,h,_,_,h2,_⟩
  ·omega
  ·cases h;exact h2
 obtain ⟨W2,hW2,hq2,hb2,hz2⟩:=ic w1 (.cells #[.slice a n c,.string s,.int .i64 0] 58)
 have hst:D=[]∨∃ g c2,Value.slice a n c=.slice (some ⟨g,0,none⟩) n c2∧St w.heap.size D 0 g c2 W2∧w1.heap.size≠g:=by
  rcases eQ n with h0|h0
  ·left
   exact dw.1 (HE.out.1.trans h0)
  ·right
   obtain ⟨g,c2,h1,_,_,h4⟩:=lN bY h0;simp only [cZ] at h1;obtain ⟨rfl,_,rfl⟩:=h1
   exact ⟨g,c,rfl,(abR bY HE.out.1).later hb2,by omega⟩
 have HB2:=hid (hb1.trans (hb2.mono hb1.size))
 have hnil:D=[]→jc w.heap.size (fun _=>True) w [] (.slice a n c):=fun h=>⟨a,c,by rw [← HE.out.1,h],aL _,.inl rfl⟩
 obtain ⟨v1,v2,v3,v4,F⟩:=SK w D OL a c n hd tl rs on (.slice oa on oc) HD.out HOK.out (by rw [HE.out.1];omega) (by rw [HE.out.2.1];exact zh) HT.out HG.out HV'.out HE.out.1 HE.out.2.1 HE.out.2.2.1 HE.out.2.2.2.1 HE.out.2.2.2.2 hnc hnil
 have htx:Ew W2 (.slice a n c) (nU D):=by
  rcases hst with h0|⟨g,c2,h1,h2,_⟩
  ·exact ⟨a,c,by rw [kI,HE.out.1],.inl (by rw [h0];rfl)⟩
  ·refine ⟨a,c,by rw [kI,HE.out.1],.inr ⟨g,0,?_,fun i hi=>?_⟩⟩
   ·cases h1;rfl
   ·have hi2:i<D.length:=by rw [← kI];exact hi
    obtain ⟨_,cur,e1,_,_,_,e5⟩:=h2;have e6:(nU D)[i]=D[i].tx:=List.getElem_map _;rw [e6,bz,gF e1]
    exact e5 i hi2 (aL _) 2 _ rfl
 have cS:=LM W2 (nU D) (nU OL) _ _ htx (YR (HV'.out.later HB2.out)) (by rw [kI,HE.out.1];omega) (by rw [kI,HE.out.2.1];exact zh);rw [HE.out.2.2.1,HE.out.2.2.2.1] at cS;obtain ⟨d,hd'⟩:∃ d,w1.heap.size=d:=⟨_,rfl⟩
 have hdw:w.heap.size≤d:=by rw [← hd'];exact hb1.size
 rw [hd'] at hst hq2 hz2;obtain ⟨⟨k0,k1,k2⟩,kf⟩:=jH hq2;have Bz:=hid hq2;have HST:=hid hst;have HF:=hid F;clear cD bY hb1 hb2 hnil htx hq2 hst F
 go_wp2_with fail
 refine cS.mono ?_;rintro e w3 ⟨rfl,hb3⟩;have hq3:=(hb3.block d hz2).trans Bz.out;have HB3:=hid (HB2.out.trans (hb3.mono HB2.out.size))
 have HC:=hid (HF.out.fill w3 d (HST.out.imp id (by
  rintro ⟨g,c2,h1,h2,h3⟩
  exact ⟨g,c2,h1,h2.later hb3,h3⟩)) HB3.out (aD hz2 hb3.size))
 have c1:=HC.out;have s1:=HF.out.s1
 have hsub:((n:Int) - (tl:Int))=(rs:Int):=by omega
 obtain ⟨⟨k0,k1,k2⟩,kf⟩:=jH hq3;have PV:=hid hq3;clear cS hb3 hq3 HST
 go_wp2_with fail
 refine c1.mono ?_;rintro e w4 ⟨rfl,hb4,hq4,Ef,c2⟩;have hq4:=hq4.trans PV.out;have s2:=HF.out.s2;obtain ⟨⟨k0,k1,k2⟩,kf⟩:=jH hq4;have JA:=hid hq4;clear c1 s1 hb4 hq4 HC Ef
 go_wp2_with fail
 refine c2.mono ?_;rintro e w5 ⟨rfl,hb5,xO,Xu,c3⟩;have xO:=xO.trans JA.out;have s3:=HF.out.s3;have s4:=HF.out.s4;have HC3:=hid c3;have HQ5:=hid xO;clear c2 s2 k0 k1 k2 kf hb5 Xu;have k0:=(jH xO).1.1
 go_upto_region 6 with fail
 refine aS (S:=fun X=>X.cell? ⟨d,0,none⟩=some (.slice a n c)) (by kernel_rfl) k0 fun ag=>?_
 have hb6:Below w5.heap.size w5 w5.drew:=(aj w5.heap.size w5).drew;have c4:=HC3.out _ hb6;have Il:w5.drew.heap[d]?=_:=xO;obtain ⟨V,hV⟩:∃ V,w5.drew=V:=⟨_,rfl⟩;rw [hV] at ag c4 Il ⊢;clear hV hb6 xO k0 HC3;have VG:=hid Il
 have hsub2:((on:Int) - (tl:Int))=((on - tl:Nat):Int):=by omega
 have hwr:IntKind.i64.wrap ((on - tl:Nat):Int)=((on - tl:Nat):Int):=by rw [IntKind.wrap_i64];omega
 clear Il;refine OP.m 0 rfl (.pointer (some ⟨d,0,none⟩)) ag ?_;simp only [OP.s];refine OP.t 1 rfl (.pointer (some ⟨d,0,none⟩)) (fun X hX=>by go_simp) ag ?_;simp only [OP.s];refine OP.m 2 rfl (.pointer (some ⟨d,0,none⟩)) ag ?_;simp only [OP.s];refine OP.t 3 rfl (.slice a n c) (fun X hX=>by have c0:X.cell? ⟨d,0,none⟩=some (.slice a n c):=hX;go_simp) ag ?_;simp only [OP.s];refine OP.m 4 rfl (.int .i64 rs) ag ?_;simp only [OP.s];refine OP.t 5 rfl v3 (fun X hX=>by go_simp) ag ?_;simp only [OP.s];refine OP.m 6 rfl (.slice oa on oc) ag ?_;simp only [OP.s];refine OP.m 7 rfl (.slice oa on oc) ag ?_;simp only [OP.s];refine OP.t 8 rfl (.int .i64 on) (fun X hX=>by go_simp) ag ?_;simp only [OP.s];refine OP.m 9 rfl (.int .i64 tl) ag ?_;simp only [OP.s];refine OP.t 10 rfl (.int .i64 ((on - tl:Nat):Int)) (fun X hX=>by go_simp) ag ?_;simp only [OP.s];refine OP.t 11 rfl v4 (fun X hX=>by go_simp) ag ?_;simp only [OP.s]
 refine OP.r 12 rfl fun K hK=>?_
 go_simp
 go_at_call 35
 refine c4.mono ?_;rintro e w7 ⟨rfl,Eg,jd,yA,hdc⟩;have jd:=jd.trans HQ5.out;dsimp only
 refine hK.out _ _ ((jH jd).1.1) fun ag=>?_
 try simp only [OP.s]
 clear hK K;refine bL (by kernel_rfl) ?_ _;clear ag c4 VG s3 s4 c3;obtain ⟨W8,LP,hq8,ho8,qJ⟩:=OW (.int .i64 K) jd;obtain ⟨⟨k0,k1,k2⟩,kf⟩:=jH jd
 have hKb:K≤1000000:=by omega
 have hadd:((hd:Int)+(tl:Int))=(K:Int):=by omega
 have hB8:=Eg.trans (qJ w.heap.size hdw);have abS:jc w.heap.size (fun _=>True) W8 D (.slice a n c):=VF (SI HD.out) hdc jd ho8 (qJ 0 (aL _)).size;have HU:=hid (HUn.out W8 d _ _ hdw hq8 rfl abS);have WX:=hid hB8;clear jd hq8 ho8 qJ hB8 hdc abS Eg HUn HF hkk hsub hsub2 hwr hle
 go_wp2_with fail
 go_ret
 exact ⟨d,rfl,HU.out,WX.out⟩
def kD:List (ku × Value)→List Value
 | []=>[]
 | d :: r=>xh d.1 d.2++kD r
theorem qL:∀ l:List (ku × Value),(kD l).length=l.length*10
 | []=>rfl
 | d :: r=>by rw [kD,aM,gJ,qL r,aH];omega
theorem DD:∀ (l:List (ku × Value)) (i j:Nat) (hi:i<l.length),j<10→(kD l)[i*10+j]?=(xh l[i].1 l[i].2)[j]?
 | d :: r,0,j,_,hj=>by
  rw [kD,bn (by rw [gJ];omega),Nat.zero_mul,bz];rfl
 | d :: r,i+1,j,hi,hj=>by
  have hl:=gJ d.1 d.2;rw [kD,aK (by rw [hl];omega),hl,show (i+1)*10+j - 10=i*10+j by omega]
  exact DD r i j (by simpa using hi) hj
theorem SL {W:World} {R:Nat→Prop} {p:Pt} {lv:Value} (h:aT W R p lv):lv.oneCell'=true:=by
 obtain ⟨k,t,f,e,ks⟩:=p;obtain ⟨a,c,rfl,_⟩:=h
 rfl
theorem JU {W:World} {R:Nat→Prop} {g:Nat}:∀ (D:List ku) (off:Nat),(∀ i (hi:i<D.length),JK W R g (off+i*10) D[i]) →
  ∃ L:List (ku × Value),L.map (·.1)=D∧(∀ x∈L,aT W R x.1.p x.2)∧dK W g off (kD L)
 | [],_,_=>⟨[],rfl,fun x h=>absurd h (ek),fun j u hj=>by rw [kD] at hj;simp at hj⟩
 | d :: D,off,h=>by
  obtain ⟨lv,h1,h2⟩:=h 0 (by simp)
  obtain ⟨L,e1,e2,e3⟩:=JU D (off+10) (fun i hi=>by
   have:=h (i+1) (by simpa using hi);rw [show off+10+i*10=off+(i+1)*10 by omega]
   exact this)
  rw [Nat.zero_mul,bS] at h1
  refine ⟨(d,lv) :: L,by rw [List.map_cons,e1],?_,?_⟩
  ·intro x hx
   rcases bA.1 hx with rfl|hx
   ·exact h2
   ·exact e2 x hx
  ·intro j u hj
   rw [kD] at hj;have hl:=gJ d lv
   by_cases ajw:j<10
   ·rw [bn (by rw [hl];omega)] at hj
    exact h1 j u hj
   ·rw [aK (by rw [hl];omega),hl] at hj
    have:=e3 (j - 10) u hj;rw [show off+10+(j - 10)=off+j by omega] at this
    exact this
theorem LQ {w:World} {a:Option Addr} {n c:Nat} {xs:List Value} (hc:n=0∨∃ g off,a=some ⟨g,off,none⟩∧dK w g off xs) (hl:xs.length=n*10) (hone:∀ u∈xs,u.oneCell'=true) (hw:n≤1000000) :
  Calls Tryz.prog 37 #[.slice a n c] w fun e w'=>∃ v',e=.returned v'∧w'.ownsRow w.heap.size 52 10 v' n xs∧Below w.heap.size w w':=by
 obtain ⟨iP,hi0,hz0,hz1,hz2⟩:=fF SB
 have q22:∀ (w:World) (a:Option Addr) (n c n' c':Nat),(binOp .eql 56 (.slice a n c) (.slice none n' c')).run Tryz.prog w=.ok (.bool a.isNone) w:=fun w a n c n' c'=>Lib.run_eql_slice_nil w _ _ a n c n' c' Tryz.underlying56
 have HC:=hid hc;have HL:=hid hl;have HO:=hid hone;clear hc hl hone
 cases a with
 | none =>
  have h0:n=0:=by
   rcases HC.out with h|⟨g,off,h,_⟩
   ·exact h
   ·cases h
  subst h0;have hx:xs=[]:=eG (by have:=HL.out;omega);subst hx
  go_enter Tryz.func37,Tryz.ntmps37
  go_wp2_with fail
  go_ret
  exact ⟨_,rfl,dD _ _ _ _,aj _ _⟩
 | some ad =>
  go_enter Tryz.func37,Tryz.ntmps37
  have hcb:∀ X,Below w.heap.size w X→(n=0∨∃ g off,some ad=some ⟨g,off,none⟩∧dK X g off xs):=fun X hX=>HC.out.imp id (fun ⟨g,off,h1,h2⟩=>⟨g,off,h1,fun j u hj=>(hX.cell (bB w _ (h2 j u hj))).trans (h2 j u hj)⟩)
  have HCB:=hid hcb;clear hcb
  go_wp2_with (at_builtin;refine ou rfl _ _ 56 rfl w.heap.size 52 iP _ 10 120 Tryz.underlying56 hi0 hz0 hz1 hz2 rfl (by decide) _ 0 [] rfl (World.ownsRow_made w #[] 0 (ae _) (aL _) rfl) _ n c xs rfl HL.out (HCB.out _ ((aj _ _).alloc (ae _) _)) HO.out (by unfold maxLen;omega) (by omega) (by simp) ?_)
  intro v' w1 bY aP _;have hb:Below w.heap.size w w1:=((aj _ w).alloc (ae _) (.cells #[] 52)).grown aP (by simp) (by intro k hk;simp [Value.ownBlock] at hk;omega);have YF:Hid (w1.ownsRow w.heap.size 52 10 v' n xs):=hid (by simpa using bY);have HB:=hid hb;clear bY aP hb
  go_wp2_with fail
  go_ret
  exact ⟨v',rfl,YF.out,HB.out⟩
def Fz (W:World) (lv:Value):Prop:=∀ (ad:Addr) (n c:Nat),lv=.slice (some ad) n c→0<n→∃ cur:Array Value,W.heap[ad.block]?=some (.cells cur 49 (0,0))
theorem Fz.later {W W':World} {lv:Value} (h:Fz W lv) (ho:∀ ad n c,lv=.slice (some ad) n c→0<n→W'.heap[ad.block]?=W.heap[ad.block]?):Fz W' lv:=fun ad n c h1 h2=>by
 obtain ⟨cur,h3⟩:=h ad n c h1 h2
 exact ⟨cur,(ho ad n c h1 h2).trans h3⟩
theorem Fz.below {W W':World} {lv:Value} (h:Fz W lv) (hb:Below W.heap.size W W'):Fz W' lv:=fun ad n c h1 h2=>by
 obtain ⟨cur,h3⟩:=h ad n c h1 h2
 exact ⟨cur,(hb.block _ (af.1 h3).1).trans h3⟩
structure Cp (H:Nat) (L:List (ku × Value)) (j g cap:Nat) (W:World):Prop where
 ge:H≤g
 row:∃ cur:Array Value,W.heap[g]?=some (.cells cur 52 (0,0))∧cur.size=cap*10∧L.length≤cap ∧
  (∀ i (hi:i<L.length),i<j→∃ lv,(∀ q u,(xh L[i].1 lv)[q]?=some u→cur[i*10+q]?=some u)∧aT W (fun k=>H≤k∧k≠g) L[i].1.p lv∧Fz W lv) ∧
  (∀ i (hi:i<L.length),j≤i→∀ q u,(xh L[i].1 L[i].2)[q]?=some u→cur[i*10+q]?=some u)
theorem Cp.lt {H:Nat} {L:List (ku × Value)} {j g cap:Nat} {W:World} (h:Cp H L j g cap W):g<W.heap.size:=by
 obtain ⟨cur,h1,_⟩:=h.row
 exact (af.1 h1).1
theorem Cp.later {H:Nat} {L:List (ku × Value)} {j g cap:Nat} {W W':World} (h:Cp H L j g cap W) (hb:Below W.heap.size W W'):Cp H L j g cap W':=by
 have hl:=h.lt;obtain ⟨ge,cur,h1,h2,h3,h4,h5⟩:=h;refine ⟨ge,cur,(hb.block _ hl).trans h1,h2,h3,fun i hi hij=>?_,h5⟩;obtain ⟨lv,e1,e2,e3⟩:=h4 i hi hij
 exact ⟨lv,e1,dH e2 hb,e3.below hb⟩
theorem VH {W:World} {R:Nat→Prop} {p:Pt} {lv:Value} (h:aT W R p lv):∀ ad n c,lv=.slice (some ad) n c→0<n→R ad.block:=by
 obtain ⟨k,t,f,e,ks⟩:=p;obtain ⟨a,c,rfl,_,h2⟩:=h;intro ad n c' h3 h4;simp only [cZ] at h3;obtain ⟨rfl,rfl,rfl⟩:=h3
 rcases h2 with rfl|⟨g,off,xs,e1,e2,_⟩
 ·simp at h4
 ·cases e1;exact e2
theorem Cp.cells {H:Nat} {L:List (ku × Value)} {j g cap o:Nat} {W:World} (h:Cp H L j g cap W) (hj:j<L.length) (ho:j*10=o):∃ cur,W.heap[g]?=some (.cells cur 52 (0,0))∧o+10≤cur.size ∧
  (∀ q u,(xh L[j].1 L[j].2)[q]?=some u→W.cell? ⟨g,o+q,none⟩=some u)∧∀ x,W.frozen? ⟨g,x,none⟩=false:=by
 obtain ⟨_,cur,h1,h2,h3,_,h5⟩:=h;have hz:=h5 j hj (ae _);rw [ho] at hz;refine ⟨cur,h1,?_,fun q u hq=>(gF h1 _).trans (hz q u hq),pg h1⟩;rw [h2]
 omega
theorem SN (d:ku) (lv Cu:Value) (q:Nat) (h:q<3∨8≤q):(xh d lv)[q]?=(xh d Cu)[q]?:=by
 obtain ⟨f,e,tx,⟨k,t,pf,pe,ks⟩,x,r⟩:=d
 rcases q with _|_|_|_|_|_|_|_|q
 ·rfl
 ·rfl
 ·rfl
 ·omega
 ·omega
 ·omega
 ·omega
 ·omega
 ·rfl
theorem Cp.done {H:Nat} {L:List (ku × Value)} {j g cap o:Nat} {W:World} (h:Cp H L j g cap W) (hj:j<L.length) (ho:j*10=o) {k t:By} {f e:Int} {ks:List Pt} {a:Option Addr} {c n:Nat} {kb tb:ByteArray} (hd:L[j].1.p=.mk k t f e ks) (hk:aT W (fun b=>H≤b∧b≠g) (.mk k t f e ks) (.slice a n c)) (hf:Fz W (.slice a n c)) (hkb:aU k=kb) (htb:aU t=tb) :
  ∃ W',((((W.setCell ⟨g,o+3,none⟩ (.string kb)).setCell ⟨g,o+3+1,none⟩ (.string tb)).setCell ⟨g,o+3+2,none⟩ (.int .i64 f)).setCell ⟨g,o+3+3,none⟩ (.int .i64 e)).setCell ⟨g,o+3+4,none⟩ (.slice a n c)=W'∧Cp H L (j+1) g cap W'∧Below H W W':=by
 obtain ⟨cur,h1,h2,_,_⟩:=h.cells hj ho;obtain ⟨W',cur',e1,e2,e3,e4,e5,e6,e7⟩:=wT (o:=o+3) (.string kb) (.string tb) (.int .i64 f) (.int .i64 e) (.slice a n c) h1 (by omega);refine ⟨W',e1,?_,e7 H h.ge⟩;obtain ⟨ge,afj,g1,g2,g3,g4,g5⟩:=h;rw [h1] at g1
 cases g1
 have WY:∀ {p:Pt} {lv:Value},aT W (fun b=>H≤b∧b≠g) p lv→aT W' (fun b=>H≤b∧b≠g) p lv:=fun hk=>aT.later (fun b hb _=>e6 b hb.2) (fun _ h=>h) _ _ hk
 have WZ:∀ {p:Pt} {lv:Value},aT W (fun b=>H≤b∧b≠g) p lv→Fz W lv→Fz W' lv:=fun hk hf=>hf.later (fun ad n c x y=>e6 _ (VH hk ad n c x y).2)
 refine ⟨ge,cur',e2,by rw [e3];exact g2,g3,fun i hi hij=>?_,fun i hi hij q u hq=>?_⟩
 ·by_cases hi2:i<j
  ·obtain ⟨Cu,x1,x2,x3⟩:=g4 i hi hi2
   refine ⟨Cu,fun q u hq=>?_,WY x2,WZ x2 x3⟩;have tK:=(aN.1 hq).1;rw [gJ] at tK;rw [e5 _ (by omega)]
   exact x1 q u hq
  ·obtain rfl:i=j:=by omega
   rw [hd];refine ⟨.slice a n c,fun q u hq=>?_,WY hk,WZ hk hf⟩;have tK:=(aN.1 hq).1;rw [gJ] at tK
   by_cases hqq:q<3∨8≤q
   ·rw [e5 _ (by omega)]
    refine g5 i hi (ae _) q u ?_;rw [SN _ _ (.slice a n c) q hqq]
    exact hq
   ·rw [show i*10+q=o+3+(q - 3) by omega]
    refine e4 (q - 3) u ?_
    unfold xh at hq
    rw [hd,five,hkb,htb] at hq;obtain ⟨q',rfl⟩:∃ z,q=z+3:=⟨q - 3,by omega⟩;rw [gy]
    have xO:q'<5:=by omega
    simp only [iw] at hq;rw [bn (by simpa using xO)] at hq
    exact hq
 ·have tK:=(aN.1 hq).1
  rw [gJ] at tK;rw [e5 _ (by omega)]
  exact g5 i hi (by omega) q u hq
end Ud
namespace Ud
open Go.RowKit
open Go.Lib hiding intOf
open U S Q T J
open K (gB pO Nn qd kT BS)
theorem VI (t:ByteArray) (ht:t.size≤600):rT (declT t).1≤100000000:=by
 unfold declT kT
 cases hf:K.oQ (fH (okB t) t.toList) with
 | bad j=>simp only;decide
 | part p =>
  have h:=BS (by have e:=dR t;omega) hf;simp only
  split
  ·decide
  ·exact h
theorem zk {D:List ku} (h:PY D):∀ d∈D,lV 0 d.p=d.p∧rT d.p≤100000000:=fun d hd=>by
 have h1:=JM d.tx (by have:=(h d hd).2;omega);have h2:=VI d.tx (h d hd).2;rw [(h d hd).1] at h1 h2
 exact ⟨h1,h2⟩
def vV (H:Nat) (W:World) (D:List ku) (v:Value):Prop:=∃ a c L,v=.slice a D.length c∧L.map (·.1)=D∧D.length≤c∧(D=[]∨∃ g,a=some ⟨g,0,none⟩∧Cp H L D.length g c W)
theorem vV.VJ {H:Nat} {W:World} {D:List ku} {v:Value} (h:vV H W D v):jc H (fun k=>H≤k) W D v:=by
 obtain ⟨a,c,L,h1,h2,h3,h4⟩:=h;refine ⟨a,c,h1,h3,h4.imp id ?_⟩;rintro ⟨g,e1,hC⟩;have hl:=hC.lt;obtain ⟨ge,cur,g1,g2,g3,g4,_⟩:=hC;refine ⟨g,0,e1,ge,hl,fun i hi=>?_⟩
 have SQ:i<L.length:=by rw [← h2,fB] at hi;exact hi
 obtain ⟨lv,x1,x2,_⟩:=g4 i SQ hi
 have e:L[i].1=D[i]:=by
  have:=List.getElem_map (l:=L) (f:=fun x:ku × Value=>x.1) (i:=i) (h:=by rw [fB];exact SQ);rw [← this]
  congr 1
 rw [e] at x1 x2
 exact ⟨lv,fun q u hq=>by rw [bz,gF g1];exact x1 q u hq,aT.later (fun _ _ _=>rfl) (fun k hk=>hk.1) _ _ x2⟩
theorem LU (w:World) (D:List ku) (v:Value) (hv:jc 0 (fun _=>True) w D v) (hlen:D.length≤1000000) (hp:∀ d∈D,lV 0 d.p=d.p∧rT d.p≤100000000) :
  Calls Tryz.prog 25 #[v] w fun e w'=>∃ v',e=.returned v'∧vV w.heap.size w' D v'∧Below w.heap.size w w':=by
 obtain ⟨a,c,rfl,hc,hrow⟩:=hv
 have hR:∃ L:List (ku × Value),L.map (·.1)=D∧(∀ x∈L,aT w (fun k=>k<w.heap.size) x.1.p x.2)∧(D.length=0∨∃ g off,a=some ⟨g,off,none⟩∧dK w g off (kD L)):=by
  rcases hrow with rfl|⟨g,off,rfl,_,_,h4⟩
  ·exact ⟨[],rfl,fun x h=>absurd h (ek),.inl rfl⟩
  ·obtain ⟨L,e1,e2,e3⟩:=JU D off h4
   exact ⟨L,e1,fun x hx=>aT.later (fun _ _ _=>rfl) (fun k hk=>hk.2) _ _ (zi _ _ (e2 x hx)),.inr ⟨g,off,rfl,e3⟩⟩
 obtain ⟨L,hL,hK,hcl⟩:=hR
 have Z4:D.length=L.length:=by rw [← hL,fB]
 have hone:∀ u∈kD L,u.oneCell'=true:=by
  clear hcl Z4 hL
  induction L with
  | nil=>intro u hu;rw [kD] at hu;cases hu
  | cons x r ih =>
   intro u hu;rw [kD] at hu
   rcases List.mem_append.1 hu with h|h
   ·exact B5 _ _ (SL (hK x bO)) u h
   ·exact ih (fun y hy=>hK y (bf _ hy)) u h
 obtain ⟨n,hn⟩:∃ n,D.length=n:=⟨_,rfl⟩;rw [hn] at hcl hlen Z4 ⊢;have cC:=LQ (c:=c) hcl (by rw [qL,← Z4]) hone hlen;have HL:=hid hL;have HK:=hid hK;have HP:=hid hp;have HN:=hid (And.intro hn Z4);clear hrow hL hK hcl hone hp hn Z4 hc
 go_enter Tryz.func25,Tryz.ntmps25
 go_wp2_with fail
 refine cC.mono ?_;rintro e w1 ⟨v',rfl,bY,hb1⟩;obtain ⟨a',c',rfl⟩:=fD bY
 have hst:n=0∨∃ g,a'=some ⟨g,0,none⟩∧Cp w.heap.size L 0 g c' w1:=by
  rcases eQ n with h0|h0
  ·exact .inl h0
  ·right
   obtain ⟨g,c2,h1,_,_,_⟩:=lN bY h0;simp only [cZ] at h1;obtain ⟨rfl,_,rfl⟩:=h1
   have hcell:=fun j hj=>bY.cellAt j hj
   rcases bY.2 with ⟨h',_⟩|⟨g',cap',cur,h',hB,hg,hnc,_,hsz,_⟩
   ·simp at h'
   ·simp only [cZ,bW,Addr.mk.injEq,and_true,true_and] at h'
    obtain ⟨rfl,rfl⟩:=h';refine ⟨_,rfl,hB,cur,hg,hsz,by rw [← HN.out.2];exact hnc,fun i _ h0=>absurd h0 (bq _),fun i hi _ q u hq=>?_⟩;have tK:=(aN.1 hq).1;rw [gJ] at tK
    have hin:i<n:=by rw [HN.out.2];exact hi
    rw [← gF hg,hcell _ (by omega),DD L i q hi tK]
    exact hq
 have hnc:n≤c':=by
  rcases bY.2 with ⟨h,h0⟩|⟨_,_,_,h,_,_,h2,_⟩
  ·omega
  ·cases h;exact h2
 have HS:=hid hst;have HB1:=hid hb1;clear cC bY hst hb1
 go_wp2_with fail
 go_loopw [9] (fun iv wr=>∃ i:Nat,iv=.int .i64 i∧i≤n∧Hid (n=0∨∃ g,a'=some ⟨g,0,none⟩∧Cp w.heap.size L i g c' wr)∧Hid (Below w.heap.size w wr)) (fun iv _=>n - (Go.RowKit.intOf iv).toNat)
 case atStart=>exact ⟨0,rfl,aL _,HS,HB1⟩
 case round =>
  obtain ⟨i,rfl,hi,PX,FD⟩:=hrel;clear HS HB1
  by_cases hlt:i<n
  ·obtain ⟨g,rfl,hC⟩:=PX.out.resolve_left (by omega)
   have SQ:i<L.length:=by rw [← HN.out.2];exact hlt
   obtain ⟨cur,_,_,hcl,cf⟩:=hC.cells SQ rfl
   have hmem:L[i].1∈D:=by rw [← HL.out];exact List.mem_map.2 ⟨_,bF SQ,rfl⟩
   have hpi:=HP.out _ hmem;have hki:=HK.out _ (bF SQ);have HC:=hid hC;obtain ⟨p,hpe⟩:∃ p,L[i].1.p=p:=⟨_,rfl⟩;obtain ⟨lv,hlv⟩:∃ lv,L[i].2=lv:=⟨_,rfl⟩;rw [hpe] at hpi hki;rw [hlv] at hki;obtain ⟨k,t,f,e,ks⟩:=p;obtain ⟨pa,pc,rfl⟩:=eF hki
   have G7:∀ q u,(five (.mk k t f e ks) (.slice pa ks.length pc))[q]?=some u→wr.cell? ⟨g,i*10+3+q,none⟩=some u:=fun q u hq=>by
    have h5:=(aN.1 hq).1;rw [eO] at h5
    have:=hcl (q+3) u (by
     unfold xh
     rw [hpe,hlv];simp only [iw];rw [bn (by rw [eO];exact h5)]
     exact hq)
    rw [show i*10+3+q=i*10+(q+3) by omega]
    exact this
   have cS:=OJ (.mk k t f e ks) (.slice pa ks.length pc) (fun k=>k<w.heap.size) wr 0 (aT.later (fun b hb _=>FD.out.block b hb) (fun _ h=>h) _ _ hki) (by omega);rw [hpi.1] at cS;have c3:=G7 0 _ rfl;have c4:=G7 1 _ rfl;have c5:=G7 2 _ rfl;have c6:=G7 3 _ rfl;have c7:=G7 4 _ rfl;rw [bS] at c3;simp only [arg,five] at cS;have Z5:=hid hpe;obtain ⟨kb,hkb⟩:∃ z,aU k=z:=⟨_,rfl⟩;obtain ⟨tb,htb⟩:∃ z,aU t=z:=⟨_,rfl⟩;obtain ⟨m,hm⟩:∃ z,ks.length=z:=⟨_,rfl⟩;rw [hkb] at cS c3;rw [htb] at cS c4;rw [hm] at cS c7;have HY:=hid (And.intro hkb (And.intro htb hm));clear hC hcl hmem hpi hki G7 cf hpe hlv hkb htb hm
   go_wp2_with fail
   refine cS.mono ?_;rintro e' w2 ⟨lv2,rfl,hk2,hb2,hf2⟩;obtain ⟨a2,c2,rfl⟩:=eF hk2;have hC2:=HC.out.later hb2;have hB2:=FD.out.trans (hb2.mono FD.out.size);obtain ⟨cur,_,_,hcl,cf⟩:=hC2.cells SQ rfl;have d3:=hcl 3 _ (by unfold xh;rw [Z5.out];rfl);have d4:=hcl 4 _ (by unfold xh;rw [Z5.out];rfl);have d5:=hcl 5 _ (by unfold xh;rw [Z5.out];rfl);have d6:=hcl 6 _ (by unfold xh;rw [Z5.out];rfl);have d7:=hcl 7 _ (by unfold xh;rw [Z5.out];rfl);have hgw:=HC.out.lt;have hk3:aT w2 (fun b=>w.heap.size≤b∧b≠g) (.mk k t f e ks) (.slice a2 ks.length c2):=aT.later (fun _ _ _=>rfl) (fun b hb=>⟨aJ FD.out.size hb,by omega⟩) _ _ hk2;obtain ⟨W',wZ,hC3,hb3⟩:=hC2.done SQ rfl Z5.out hk3 hf2 HY.out.1 HY.out.2.1;rw [HY.out.2.2] at wZ;have HC3:=hid hC3;have HB3:=hid (hB2.trans hb3);simp only [arg,five];rw [HY.out.1,HY.out.2.1,HY.out.2.2];clear cS hk2 hb2 hf2 hC2 hB2 hcl hk3 hC3 hb3 c3 c4 c5 c6 c7 hgw
   go_wp2_with fail
   go_roundw
   case rel=>exact ⟨i+1,by go_num,by omega,hid (.inr ⟨g,rfl,HC3.out⟩),HB3⟩
   case measure=>simp [Go.RowKit.intOf];omega
  ·obtain rfl:i=n:=by omega
   go_wp2_with fail
   go_ret
   refine ⟨_,rfl,⟨a',c',L,by rw [HN.out.1];rfl,HL.out,by rw [HN.out.1];exact hnc,PX.out.imp (fun h=>dw.1 (HN.out.1.trans h)) (fun ⟨g,h1,h2⟩=>⟨g,h1,by rw [HN.out.1];exact h2⟩)⟩,FD.out⟩
theorem OX (A:List ByteArray):yZ A (nU [])=0:=by
 have h:=BZ A (nU []);rw [kI] at h
 unfold yZ
 simp at h
 omega
theorem VK:PY []:=fun d hd=>absurd hd (ek)
theorem yY (s:ByteArray) (w:World) (hs:s.size≤600) (hT:qI w) (hG:qd w) :
  Calls Tryz.prog 8 #[.string s] w fun e w'=>∃ d,e=.returned (oH d)∧Un w.heap.size w' d s 0∧Below w.heap.size w w':=by
 have c1:=yV s w [] _ hs hT hG (jc.nil 0 _ w) (aL _) VK;rw [OX] at c1;clear hT hG hs
 go_enter Tryz.func8,Tryz.ntmps8
 go_wp2_with fail
 refine c1.mono ?_;rintro e w2 ⟨d,rfl,hU,hb⟩;have HU:=hid hU;have HB:=hid hb;clear c1 hU hb
 go_wp2_with fail
 go_ret
 exact ⟨d,rfl,HU.out,HB.out⟩
theorem OY (s t:ByteArray) (w:World) (B d k:Nat) (hs:s.size≤600) (ht:t.size≤600) (hT:qI w) (hG:qd w) (hU:Un B w d t k) :
  Calls Tryz.prog 9 #[oH d,.string s] w fun e w'=>∃ d',e=.returned (oH d')∧Un w.heap.size w' d' s (yZ (nU (decls s)) (nU (decls t)))∧Below w.heap.size w w':=by
 obtain ⟨_,v,hq,hv⟩:=hU;have c1:=yV s w (decls t) v hs hT hG hv (by have:=nO t;omega) (pE t ht);obtain ⟨⟨k0,k1,k2⟩,kf⟩:=jH hq;obtain ⟨a,c,rfl⟩:=lY hv;clear hT hG hs ht hq hv
 unfold oH
 go_enter Tryz.func9,Tryz.ntmps9
 go_wp2_with fail
 refine c1.mono ?_;rintro e w2 ⟨d',rfl,hU,hb⟩;have HU:=hid hU;have HB:=hid hb;clear c1 hU hb k0 k1 k2 kf
 go_wp2_with fail
 go_ret
 exact ⟨d',rfl,HU.out,HB.out⟩
theorem OZ (s:ByteArray) (w:World) (hs:s.size≤600) (hT:qI w) (hG:qd w) :
  Calls Tryz.prog 9 #[.pointer none,.string s] w fun e w'=>∃ d,e=.returned (oH d)∧Un w.heap.size w' d s 0∧Below w.heap.size w w':=by
 have c1:=yY s w hs hT hG;clear hT hG hs
 go_enter Tryz.func9,Tryz.ntmps9
 go_wp2_with fail
 refine c1.mono ?_;rintro e w2 ⟨d,rfl,hU,hb⟩;have HU:=hid hU;have HB:=hid hb;clear c1 hU hb
 go_wp2_with fail
 go_ret
 exact ⟨d,rfl,HU.out,HB.out⟩
theorem zl (s:ByteArray) (w:World) (B d k:Nat) (hU:Un B w d s k) :
  Calls Tryz.prog 19 #[oH d] w fun e w'=>e=.returned (.string s)∧w=w':=by
 obtain ⟨_,v,hq,_⟩:=hU;obtain ⟨⟨k0,k1,k2⟩,kf⟩:=jH hq;clear hq
 unfold oH
 go_enter Tryz.func19,Tryz.ntmps19
 go_wp2_with fail
 go_ret
 exact ⟨rfl,rfl⟩
theorem JV (w:World):Calls Tryz.prog 19 #[.pointer none] w fun e w'=>e=.returned (.string ⟨#[]⟩)∧w=w':=by
 go_enter Tryz.func19,Tryz.ntmps19
 go_wp2_with fail
 go_ret
 exact ⟨rfl,rfl⟩
theorem DF (s:ByteArray) (w:World) (B d k:Nat) (hU:Un B w d s k) :
  Calls Tryz.prog 14 #[oH d] w fun e w'=>e=.returned (.int .i64 k)∧w=w':=by
 obtain ⟨_,v,hq,_⟩:=hU;obtain ⟨⟨k0,k1,k2⟩,kf⟩:=jH hq;clear hq
 unfold oH
 go_enter Tryz.func14,Tryz.ntmps14
 go_wp2_with fail
 go_ret
 exact ⟨rfl,rfl⟩
theorem SS (w:World):Calls Tryz.prog 14 #[.pointer none] w fun e w'=>e=.returned (.int .i64 0)∧w=w':=by
 go_enter Tryz.func14,Tryz.ntmps14
 go_wp2_with fail
 go_ret
 exact ⟨rfl,rfl⟩
theorem qU (s:ByteArray) (w:World) (B d k:Nat) (hs:s.size≤600) (hU:Un B w d s k) :
  Calls Tryz.prog 12 #[oH d] w fun e w'=>∃ v,e=.returned v∧vV w.heap.size w' (decls s) v∧Below w.heap.size w w':=by
 obtain ⟨_,v,hq,hv⟩:=hU;have c1:=LU w (decls s) v hv (by have:=nO s;omega) (zk (pE s hs));obtain ⟨⟨k0,k1,k2⟩,kf⟩:=jH hq;obtain ⟨a,c,rfl⟩:=lY hv;clear hs hq hv
 unfold oH
 go_enter Tryz.func12,Tryz.ntmps12
 go_wp2_with fail
 refine c1.mono ?_;rintro e w2 ⟨v',rfl,hU,hb⟩;have HU:=hid hU;have HB:=hid hb;clear c1 hU hb k0 k1 k2 kf
 go_wp2_with fail
 go_ret
 exact ⟨_,rfl,HU.out,HB.out⟩
theorem O6 (w:World):Calls Tryz.prog 12 #[.pointer none] w fun e w'=>e=.returned (.slice none 0 0)∧w=w':=by
 go_enter Tryz.func12,Tryz.ntmps12
 go_wp2_with fail
 go_ret
 exact ⟨rfl,rfl⟩
end Ud
namespace S
open Go.RowKit
open Go.Lib hiding intOf
open U L
theorem JW (z:UInt8):(blank z=true∧(z=32∨z=9∨z=13∨z=10))∨(blank z=false∧z≠32∧z≠9∧z≠13∧z≠10):=by
 unfold blank
 by_cases h1:z=32
 ·exact .inl ⟨by simp [h1],.inl h1⟩
 ·by_cases h2:z=9
  ·exact .inl ⟨by simp [h2],.inr (.inl h2)⟩
  ·by_cases h3:z=13
   ·exact .inl ⟨by simp [h3],.inr (.inr (.inl h3))⟩
   ·by_cases h4:z=10
    ·exact .inl ⟨by simp [h4],.inr (.inr (.inr h4))⟩
    ·exact .inr ⟨by simp [h1,h2,h3,h4],h1,h2,h3,h4⟩
theorem Be (s:ByteArray) (w:World) (hs:s.size≤1000000) :
  Calls Tryz.prog 39 #[.string s] w fun e w'=>∃ v,e=.returned v∧KO w.heap.size w' (fH (okB s) s.toList) v∧Below w.heap.size w w':=by
 obtain ⟨i0,hi0,hz0,hz1,hz2⟩:=fF ME;have cR:=EJ s w hs;obtain ⟨right,hright⟩:∃ right,okB s=right:=⟨_,rfl⟩;have Jd:Hid (nS right s 0 []):=hid (xN right s (fun h=>by rw [hright];exact h));rw [hright] at cR ⊢;clear hright;have CC:=hid (fun (i:Nat) (hi:i<s.size) X=>IC (s.extract i s.size) X (by rw [size_extract s i s.size (by omega) (ae _)];omega));have CW:=hid (fun (i:Nat) (hi:i<s.size) (hr:right=true→okB (s.extract i s.size)=true) X=>Ql (s.extract i s.size) right X (by rw [size_extract s i s.size (by omega) (ae _)];omega) (by rw [size_extract s i s.size (by omega) (ae _)];omega) hr);have CE:=hid (fun k f e' t X=>Qa k f e' t X)
 go_enter Tryz.func39,Tryz.ntmps39
 go_wp2_with fail
 refine cR.mono ?_;rintro e w1 ⟨rfl,hb1⟩;obtain ⟨Z,hZ⟩:∃ Z,w1.heap.size=Z:=⟨_,rfl⟩
 have Z6:w.heap.size≤Z:=by have:=hb1.size;omega
 have HB1:=hid hb1;have HZ:=hid hZ;clear hb1 cR hZ
 go_wp2_with fail
 go_loopw [3,5] (fun ov iv wr=>∃ (i:Nat) (O:List aZ),iv=.int .i64 i∧i≤s.size∧Hid (nS right s i O)∧Hid (wr.ownsRow Z 86 4 ov O.length (gp O))∧Hid (Below Z w1 wr)) (fun _ iv _=>s.size - (intOf iv).toNat)
 case atStart=>exact ⟨0,[],rfl,aL _,Jd,hid (dD _ _ _ _),hid (aj _ _)⟩
 case round =>
  obtain ⟨i,O,rfl,hi,HS,HR,HL⟩:=hrel;clear Jd;obtain ⟨oa,oc,rfl⟩:=fD HR.out
  have Z7:Z≤wr.heap.size:=by have:=HL.out.size;have:=HZ.out;omega
  have VL:O.length≤1000000:=by have:=HS.out.few;omega
  by_cases hlt:i<s.size
  ·have cC:=CC.out i hlt wr
   obtain ⟨z,hz⟩:∃ z,s[i]=z:=⟨_,rfl⟩;have xq:=hid hz;obtain ⟨n,hn⟩:∃ n,eH (s.extract i s.size).toList=n:=⟨_,rfl⟩;rw [hn] at cC;have HN:=hid hn;clear hn
   by_cases h0:O.length=0
   ·have WI:O=[]:=dw.1 h0
    have YT:Hid (sS O=false):=hid (by rw [WI];rfl);have HO:=hid h0;rw [h0] at HR ⊢;clear h0 WI VL
    go_wp2_with fail
    refine cC.mono ?_;rintro e w3 ⟨rfl,rfl⟩;have O8:=Z7;have Jv:=HL;have HR3:=HR;clear cC HR HL Z7
    rcases JW z with ⟨hbl,z32|z9|JX|G8⟩|⟨hbl,n32,n9,n13,n10⟩
    focus
     clear hbl;have Ac:Hid (nS right s (i+1) O):=hid (kC HS.out hlt (fun e=>by have h:=xq.out.symm.trans e.1;rw [z32] at h;cases h) (by rw [xq.out,z32];rfl))
     have e32:((z.toNat:Int)==32)=true:=by rw [z32];rfl
     have e9:((z.toNat:Int)==9)=false:=by rw [z32];rfl
     have e13:((z.toNat:Int)==13)=false:=by rw [z32];rfl
     have e10:((z.toNat:Int)==10)=false:=by rw [z32];rfl
     clear z32 HS
    rotate_left
    focus
     clear hbl;have Ac:Hid (nS right s (i+1) O):=hid (kC HS.out hlt (fun e=>by have h:=xq.out.symm.trans e.1;rw [z9] at h;cases h) (by rw [xq.out,z9];rfl))
     have e32:((z.toNat:Int)==32)=false:=by rw [z9];rfl
     have e9:((z.toNat:Int)==9)=true:=by rw [z9];rfl
     have e13:((z.toNat:Int)==13)=false:=by rw [z9];rfl
     have e10:((z.toNat:Int)==10)=false:=by rw [z9];rfl
     clear z9 HS
    rotate_left
    focus
     clear hbl;have Ac:Hid (nS right s (i+1) O):=hid (kC HS.out hlt (fun e=>by have h:=xq.out.symm.trans e.1;rw [JX] at h;cases h) (by rw [xq.out,JX];rfl))
     have e32:((z.toNat:Int)==32)=false:=by rw [JX];rfl
     have e9:((z.toNat:Int)==9)=false:=by rw [JX];rfl
     have e13:((z.toNat:Int)==13)=true:=by rw [JX];rfl
     have e10:((z.toNat:Int)==10)=false:=by rw [JX];rfl
     clear JX HS
    rotate_left
    focus
     clear hbl;have Ac:Hid (nS right s (i+1) O):=hid (kC HS.out hlt (fun e=>by have h:=e.2;rw [YT.out] at h;cases h) (by rw [xq.out,G8];rfl))
     have e32:((z.toNat:Int)==32)=false:=by rw [G8];rfl
     have e9:((z.toNat:Int)==9)=false:=by rw [G8];rfl
     have e13:((z.toNat:Int)==13)=false:=by rw [G8];rfl
     have e10:((z.toNat:Int)==10)=true:=by rw [G8];rfl
     clear G8 HS
    rotate_left
    ·have W9:=hid hbl
     have e32:((z.toNat:Int)==32)=false:=by have h:=pW z 32;rw [di n32] at h;exact h
     have e9:((z.toNat:Int)==9)=false:=by have h:=pW z 9;rw [di n9] at h;exact h
     have e13:((z.toNat:Int)==13)=false:=by have h:=pW z 13;rw [di n13] at h;exact h
     have e10:((z.toNat:Int)==10)=false:=by have h:=pW z 10;rw [di n10] at h;exact h
     clear hbl n32 n9 n13 n10
     by_cases hn0:0<n
     ·have hle:i+n≤s.size:=by have h:=ug (s.extract i s.size).toList;rw [HN.out,kL,bC,dR] at h;omega
      have Ac:Hid (nS right s (i+n) O):=hid (by have h:=Ct HS.out hlt (by rw [xq.out];exact W9.out) (by rw [HN.out];exact hn0);rwa [HN.out] at h);clear HS
      go_wp2_with fail
      go_roundw
      case rel=>exact ⟨i+n,O,by go_num,by omega,Ac,hid (by have h:=HR3.out;rw [HO.out];exact h),Jv⟩
      case measure=>simp [intOf];omega
     ·have cW:=CW.out i hlt HS.out.ok wr
      obtain ⟨⟨x,j⟩,hw⟩:∃ p,eX right (s.extract i s.size).toList=p:=⟨_,rfl⟩;rw [hw] at cW;obtain ⟨hij,hj1,hN2⟩:=zP HS.out hlt (by rw [xq.out];exact W9.out) (by rw [HN.out];omega) hw;have Ac:=hid hN2;simp only at cW;clear HS hN2 hw
      go_wp2_with fail
      refine cW.mono ?_;rintro e w4 ⟨rfl,hb4⟩
      have YU:Z≤w4.heap.size:=by have:=hb4.size;omega
      have HL4:Hid (Below Z w1 w4):=hid (Jv.out.trans (hb4.mono O8));have HR4:=hid (aV HR3.out hb4);clear hb4 cW HR3 Jv
      go_wp2_with fail
      rw [run_slice_string _ _ _ _ _ _ _ Tryz.underlying9 (by omega) (by omega) (by omega),show ((i:Int)).toNat=i by omega,show ((i:Int)+(j:Int)).toNat=i+j by omega]
      go_wp2_with (at_builtin;refine gN _ rfl _ _ 79 rfl Z 86 i0 (.agg #[.int .i64 0,.string ⟨#[]⟩,.int .i64 0,.int .i64 0]) 4 40 Tryz.underlying79 hi0 hz0 hz1 hz2 rfl (by decide) _ _ _ rfl (HR4.out.alloc _) ⟨w4.heap.size,0,none⟩ 1 1 (gp [⟨x,(s.extract i (i+j)).toList,i,((i+j:Nat):Int)⟩]) rfl rfl ?c1 (nD _) ?c3 ?c4 ?c5 ?_)
      case c1=>exact Cs _ _ _ _ _
      case c3=>unfold maxLen;omega
      case c4=>omega
      case c5=>rw [aX];omega
      intro v5 w5 hv5 hg5 _;have HV5:=hid hv5;have sN:=hid (below_grown HL4.out HR4.out hg5 YU);clear hv5 hg5
      go_wp2_with fail
      go_roundw
      case rel=>exact ⟨i+j,_,by go_num,by omega,Ac,hid (by have:=HV5.out;rw [← oN] at this;simpa [aM,HO.out] using this),sN⟩
      case measure=>simp [intOf];omega
    all_goals
     go_wp2_with fail
     go_roundw
     case rel=>exact ⟨i+1,O,by go_num,by omega,Ac,hid (by have h:=HR3.out;rw [HO.out];exact h),Jv⟩
     case measure=>simp [intOf];omega
   ·obtain ⟨k,hk⟩:∃ k,O.length=k+1:=⟨O.length - 1,by omega⟩
    obtain ⟨g,c,hv,hkc,hgZ,hgw⟩:=lN HR.out (by omega)
    cases hv
    have Yg:=BI HR.out rfl
    have RN:k<O.length:=by omega
    have hcl:=xM k Yg RN;obtain ⟨t,ht⟩:∃ t,O[k]=t:=⟨_,rfl⟩;rw [ht] at hcl
    have hend:sS O=pR t.w t.t:=by
     unfold sS
     rw [List.getLast?_eq_getElem?,hk,gy,aC RN,ht]
    simp only [bz] at hcl;obtain ⟨c0,c1,c2,c3⟩:=hcl;have SV:=hid hend
    have hk6:k≤1000000:=by omega
    clear hend Yg ht h0 VL;have cE:=CE.out t.w t.f t.e ⟨t.t.toArray⟩ wr;have HO:=hid hk;rw [hk] at HR RN ⊢;clear hk
    go_wp2_with fail
    refine cC.mono ?_;rintro e w2 ⟨rfl,rfl⟩
    go_wp2_with fail
    refine cE.mono ?_;rintro e w3 ⟨rfl,hb3⟩
    have O8:Z≤w3.heap.size:=by have:=hb3.size;omega
    have Jv:Hid (Below Z w1 w3):=hid (HL.out.trans (hb3.mono Z7));have HR3:Hid (w3.ownsRow Z 86 4 (.slice (some ⟨g,0,none⟩) (k+1) oc) (k+1) (gp O)):=hid (aV HR.out hb3);obtain ⟨b,hb⟩:∃ b,pR t.w (⟨t.t.toArray⟩:ByteArray).toList=b:=⟨_,rfl⟩;rw [hb];have YT:Hid (sS O=b):=hid (by rw [SV.out,← hb,bu]);clear cE hb c0 c1 c2 c3 hb3 HR HL SV;clear cC
    rcases JW z with ⟨hbl,z32|z9|JX|G8⟩|⟨hbl,n32,n9,n13,n10⟩
    focus
     clear hbl;have Ac:Hid (nS right s (i+1) O):=hid (kC HS.out hlt (fun e=>by have h:=xq.out.symm.trans e.1;rw [z32] at h;cases h) (by rw [xq.out,z32];rfl))
     have e32:((z.toNat:Int)==32)=true:=by rw [z32];rfl
     have e9:((z.toNat:Int)==9)=false:=by rw [z32];rfl
     have e13:((z.toNat:Int)==13)=false:=by rw [z32];rfl
     have e10:((z.toNat:Int)==10)=false:=by rw [z32];rfl
     clear z32 HS
    rotate_left
    focus
     clear hbl;have Ac:Hid (nS right s (i+1) O):=hid (kC HS.out hlt (fun e=>by have h:=xq.out.symm.trans e.1;rw [z9] at h;cases h) (by rw [xq.out,z9];rfl))
     have e32:((z.toNat:Int)==32)=false:=by rw [z9];rfl
     have e9:((z.toNat:Int)==9)=true:=by rw [z9];rfl
     have e13:((z.toNat:Int)==13)=false:=by rw [z9];rfl
     have e10:((z.toNat:Int)==10)=false:=by rw [z9];rfl
     clear z9 HS
    rotate_left
    focus
     clear hbl;have Ac:Hid (nS right s (i+1) O):=hid (kC HS.out hlt (fun e=>by have h:=xq.out.symm.trans e.1;rw [JX] at h;cases h) (by rw [xq.out,JX];rfl))
     have e32:((z.toNat:Int)==32)=false:=by rw [JX];rfl
     have e9:((z.toNat:Int)==9)=false:=by rw [JX];rfl
     have e13:((z.toNat:Int)==13)=true:=by rw [JX];rfl
     have e10:((z.toNat:Int)==10)=false:=by rw [JX];rfl
     clear JX HS
    rotate_left
    ·clear hbl
     cases b
     ·have Ac:Hid (nS right s (i+1) O):=hid (kC HS.out hlt (fun e=>by have h:=e.2;rw [YT.out] at h;cases h) (by rw [xq.out,G8];rfl))
      have e32:((z.toNat:Int)==32)=false:=by rw [G8];rfl
      have e9:((z.toNat:Int)==9)=false:=by rw [G8];rfl
      have e13:((z.toNat:Int)==13)=false:=by rw [G8];rfl
      have e10:((z.toNat:Int)==10)=true:=by rw [G8];rfl
      clear G8 HS
      go_wp2_with fail
      go_roundw
      case rel=>exact ⟨i+1,O,by go_num,by omega,Ac,hid (by have h:=HR3.out;rw [HO.out];exact h),Jv⟩
      case measure=>simp [intOf];omega
     ·have Ac:Hid (nS right s (i+1) (O++[⟨5,[],i,((i+1:Nat):Int)⟩])):=hid (MG HS.out hlt (xq.out.trans G8) YT.out)
      have e32:((z.toNat:Int)==32)=false:=by rw [G8];rfl
      have e9:((z.toNat:Int)==9)=false:=by rw [G8];rfl
      have e13:((z.toNat:Int)==13)=false:=by rw [G8];rfl
      have e10:((z.toNat:Int)==10)=true:=by rw [G8];rfl
      clear G8 HS
      go_wp2_with (at_builtin;refine gN _ rfl _ _ 79 rfl Z 86 i0 (.agg #[.int .i64 0,.string ⟨#[]⟩,.int .i64 0,.int .i64 0]) 4 40 Tryz.underlying79 hi0 hz0 hz1 hz2 rfl (by decide) _ _ _ rfl (HR3.out.alloc _) ⟨w3.heap.size,0,none⟩ 1 1 (gp [⟨5,[],i,((i+1:Nat):Int)⟩]) rfl rfl ?c1 (nD _) ?c3 ?c4 ?c5 ?_)
      case c1=>exact BJ _ _
      case c3=>unfold maxLen;omega
      case c4=>omega
      case c5=>rw [aX];omega
      intro v5 w5 hv5 hg5 _;have HV5:=hid hv5;have sN:=hid (below_grown Jv.out HR3.out hg5 O8);clear hv5 hg5
      go_wp2_with fail
      go_roundw
      case rel=>exact ⟨i+1,_,by go_num,by omega,Ac,hid (by have:=HV5.out;rw [← oN] at this;simpa [aM,HO.out] using this),sN⟩
      case measure=>simp [intOf];omega
    ·have W9:=hid hbl
     have e32:((z.toNat:Int)==32)=false:=by have h:=pW z 32;rw [di n32] at h;exact h
     have e9:((z.toNat:Int)==9)=false:=by have h:=pW z 9;rw [di n9] at h;exact h
     have e13:((z.toNat:Int)==13)=false:=by have h:=pW z 13;rw [di n13] at h;exact h
     have e10:((z.toNat:Int)==10)=false:=by have h:=pW z 10;rw [di n10] at h;exact h
     clear hbl n32 n9 n13 n10
     by_cases hn0:0<n
     ·have hle:i+n≤s.size:=by have h:=ug (s.extract i s.size).toList;rw [HN.out,kL,bC,dR] at h;omega
      have Ac:Hid (nS right s (i+n) O):=hid (by have h:=Ct HS.out hlt (by rw [xq.out];exact W9.out) (by rw [HN.out];exact hn0);rwa [HN.out] at h);clear HS
      go_wp2_with fail
      go_roundw
      case rel=>exact ⟨i+n,O,by go_num,by omega,Ac,hid (by have h:=HR3.out;rw [HO.out];exact h),Jv⟩
      case measure=>simp [intOf];omega
     ·have cW:=CW.out i hlt HS.out.ok w3
      obtain ⟨⟨x,j⟩,hw⟩:∃ p,eX right (s.extract i s.size).toList=p:=⟨_,rfl⟩;rw [hw] at cW;obtain ⟨hij,hj1,hN2⟩:=zP HS.out hlt (by rw [xq.out];exact W9.out) (by rw [HN.out];omega) hw;have Ac:=hid hN2;simp only at cW;clear HS hN2 hw
      go_wp2_with fail
      refine cW.mono ?_;rintro e w4 ⟨rfl,hb4⟩
      have YU:Z≤w4.heap.size:=by have:=hb4.size;omega
      have HL4:Hid (Below Z w1 w4):=hid (Jv.out.trans (hb4.mono O8));have HR4:=hid (aV HR3.out hb4);clear hb4 cW HR3 Jv
      go_wp2_with fail
      rw [run_slice_string _ _ _ _ _ _ _ Tryz.underlying9 (by omega) (by omega) (by omega),show ((i:Int)).toNat=i by omega,show ((i:Int)+(j:Int)).toNat=i+j by omega]
      go_wp2_with (at_builtin;refine gN _ rfl _ _ 79 rfl Z 86 i0 (.agg #[.int .i64 0,.string ⟨#[]⟩,.int .i64 0,.int .i64 0]) 4 40 Tryz.underlying79 hi0 hz0 hz1 hz2 rfl (by decide) _ _ _ rfl (HR4.out.alloc _) ⟨w4.heap.size,0,none⟩ 1 1 (gp [⟨x,(s.extract i (i+j)).toList,i,((i+j:Nat):Int)⟩]) rfl rfl ?c1 (nD _) ?c3 ?c4 ?c5 ?_)
      case c1=>exact Cs _ _ _ _ _
      case c3=>unfold maxLen;omega
      case c4=>omega
      case c5=>rw [aX];omega
      intro v5 w5 hv5 hg5 _;have HV5:=hid hv5;have sN:=hid (below_grown HL4.out HR4.out hg5 YU);clear hv5 hg5
      go_wp2_with fail
      go_roundw
      case rel=>exact ⟨i+j,_,by go_num,by omega,Ac,hid (by have:=HV5.out;rw [← oN] at this;simpa [aM,HO.out] using this),sN⟩
      case measure=>simp [intOf];omega
    all_goals
     go_wp2_with fail
     go_roundw
     case rel=>exact ⟨i+1,O,by go_num,by omega,Ac,hid (by have h:=HR3.out;rw [HO.out];exact h),Jv⟩
     case measure=>simp [intOf];omega
  ·obtain rfl:i=s.size:=by omega
   by_cases h0:O.length=0
   ·have WI:O=[]:=dw.1 h0
    have HF:Hid (fH right s.toList=O):=hid (by have h:=HS.out.all;rw [nE,WI] at h;rw [h,WI];rfl);have HO:=hid h0;rw [h0] at HR ⊢;clear h0 WI VL HS
    go_wp2_with fail
    go_ret
    exact ⟨_,rfl,by rw [HF.out];exact vI HR.out HO.out Z6,HB1.out.trans (HL.out.mono Z6)⟩
   ·obtain ⟨k,hk⟩:∃ k,O.length=k+1:=⟨O.length - 1,by omega⟩
    obtain ⟨g,c,hv,hkc,hgZ,hgw⟩:=lN HR.out (by omega)
    cases hv
    have Yg:=BI HR.out rfl
    have RN:k<O.length:=by omega
    have hcl:=xM k Yg RN;obtain ⟨t,ht⟩:∃ t,O[k]=t:=⟨_,rfl⟩;rw [ht] at hcl
    have hend:sS O=pR t.w t.t:=by
     unfold sS
     rw [List.getLast?_eq_getElem?,hk,gy,aC RN,ht]
    simp only [bz] at hcl;obtain ⟨c0,c1,c2,c3⟩:=hcl;have SV:=hid hend
    have hk6:k≤1000000:=by omega
    clear hend Yg ht h0 VL;have cE:=CE.out t.w t.f t.e ⟨t.t.toArray⟩ wr;have HO:=hid hk;rw [hk] at HR RN ⊢;clear hk
    go_wp2_with fail
    refine cE.mono ?_;rintro e w3 ⟨rfl,hb3⟩
    have O8:Z≤w3.heap.size:=by have:=hb3.size;omega
    have Jv:Hid (Below Z w1 w3):=hid (HL.out.trans (hb3.mono Z7));have HR3:Hid (w3.ownsRow Z 86 4 (.slice (some ⟨g,0,none⟩) (k+1) oc) (k+1) (gp O)):=hid (aV HR.out hb3);obtain ⟨b,hb⟩:∃ b,pR t.w (⟨t.t.toArray⟩:ByteArray).toList=b:=⟨_,rfl⟩;rw [hb];have YT:Hid (sS O=b):=hid (by rw [SV.out,← hb,bu]);clear cE hb c0 c1 c2 c3 hb3 HR HL SV
    cases b
    ·have HF:Hid (fH right s.toList=O):=hid (by have h:=HS.out.all;rw [nE,YT.out] at h;simpa using h)
     clear HS
     go_wp2_with fail
     go_ret
     exact ⟨_,rfl,by rw [HF.out];exact vI HR3.out HO.out Z6,HB1.out.trans (Jv.out.mono Z6)⟩
    ·have HF:Hid (fH right s.toList=O++[⟨5,[],s.size,s.size⟩]):=hid (by have h:=HS.out.all;rw [nE,YT.out] at h;simpa using h)
     clear HS
     go_wp2_with (at_builtin;refine gN _ rfl _ _ 79 rfl Z 86 i0 (.agg #[.int .i64 0,.string ⟨#[]⟩,.int .i64 0,.int .i64 0]) 4 40 Tryz.underlying79 hi0 hz0 hz1 hz2 rfl (by decide) _ _ _ rfl (HR3.out.alloc _) ⟨w3.heap.size,0,none⟩ 1 1 (gp [⟨5,[],s.size,s.size⟩]) rfl rfl ?c1 (nD _) ?c3 ?c4 ?c5 ?_)
     case c1=>exact BJ _ _
     case c3=>unfold maxLen;omega
     case c4=>omega
     case c5=>rw [aX];omega
     intro v5 w5 hv5 hg5 _;have HV5:=hid hv5;have sN:=hid (below_grown Jv.out HR3.out hg5 O8);clear hv5 hg5
     go_wp2_with fail
     go_ret
     exact ⟨_,rfl,by rw [HF.out];exact vI (n:=k+1+1) (by have:=HV5.out;rw [← oN] at this;exact this) (by simp [HO.out]) Z6,HB1.out.trans (sN.out.mono Z6)⟩
end S
namespace Q
open Go.RowKit
open Go.Lib hiding intOf
open U S L
theorem G9 (c:UInt8) (w:World):Calls Tryz.prog 50 #[.int .u8 (c.toNat:Nat)] w fun e w'=>e=.returned (.bool (rR c))∧w=w':=by
 have hf:rR c=decide (((97≤c.toNat∧c.toNat≤122)∨(65≤c.toNat∧c.toNat≤90)∨c.toNat=95)∨(48≤c.toNat∧c.toNat≤57)):=by
  unfold rR mh kE
  have:decide (c=95)=decide (c.toNat=95):=by
   rw [decide_eq_decide]
   exact ⟨fun h=>by rw [h];rfl,fun h=>UInt8.toNat_inj.1 h⟩
  rw [this]
  simp [gQ,Bool.or_assoc]
 rw [hf];generalize c.toNat=n;obtain ⟨R,hR⟩:∃ R,decide (((97≤n∧n≤122)∨(65≤n∧n≤90)∨n=95)∨(48≤n∧n≤57))=R:=⟨_,rfl⟩;have HR:=hid hR;rw [hR];clear hR
 go_enter Tryz.func50,Tryz.ntmps50
 go_wp2_with fail
 all_goals (go_ret;exact ⟨vD (by rw [← HR.out,gX];simp;omega),rfl⟩)
def uB (l:By) (i n:Nat):Prop:=(l.drop i).takeWhile rR=(l.drop i).take n++(l.drop (i+n)).takeWhile rR
theorem zm (l:By) (i:Nat):uB l i 0:=by unfold uB;simp
theorem FH (s:ByteArray) {i n:Nat} (h:uB s.toList i n) (hn:i+n<s.size) (hc:rR s[i+n]=true):uB s.toList i (n+1):=by
 unfold uB at h ⊢
 have hl:=fT s hn;rw [h,hl,bJ,ay hc,← Nat.add_assoc]
 have ht:(s.toList.drop i).take (n+1)=(s.toList.drop i).take n++[s[i+n]]:=by
  rw [List.take_add_one,ib,xK s hn];rfl
 rw [ht];simp
theorem uC (s:ByteArray) {i n:Nat} (h:uB s.toList i n) (hc:(∃ hn:i+n<s.size,rR s[i+n]=false)∨s.size≤i+n):(s.extract i (i+n)).toList=(s.toList.drop i).takeWhile rR:=by
 unfold uB at h
 rw [h,S.ext_list,show i+n - i=n by omega]
 rcases hc with ⟨hn,hc⟩|hc
 ·rw [fT s hn,bJ,ai (by rw [hc];simp),eB]
 ·rw [xH s hc];simp
theorem xu (s:ByteArray) (i:Nat) (w:World) (hi:i≤s.size) (hs:s.size≤1000000):Calls Tryz.prog 30 #[.string s,.int .i64 i] w fun e w'=>e=.returned (.bool (yB s.toList i))∧w=w':=by
 have cP:=fun c W=>G9 c W
 obtain ⟨R,hR⟩:∃ R,yB s.toList i=R:=⟨_,rfl⟩;rw [hR]
 have main:(i=0∨s.toList[i - 1]?=some 10)→kw ((s.toList.drop i).takeWhile rR)=R:=fun h=>by
  rw [← hR]
  unfold yB mV
  rcases h with h|h <;> simp [h]
 have off:∀ (hi0:i - 1<s.size),i≠0→s[i - 1].toNat≠10→R=false:=fun hi0 h0 h1=>by
  rw [← hR]
  unfold yB
  rw [xK s hi0]
  have:¬ s[i - 1]=10:=fun e=>h1 (by rw [e];rfl)
  simp [h0,this]
 have HM:=hid main;have HO:=hid off;clear hR main off
 by_cases h0:i=0
 ·have HW:=hid (HM.out (.inl h0))
  have hg:decide (0<i)=false:=by simp [h0]
  clear h0
  go_enter Tryz.func30,Tryz.ntmps30
  go_wp2_with fail
  go_loop [5] (fun nv=>∃ n:Nat,nv=.int .i64 n∧i+n≤s.size∧Hid (uB s.toList i n)) (fun nv=>s.size - (intOf nv).toNat)
  case atStart=>exact ⟨0,rfl,hi,hid (zm _ _)⟩
  case round =>
   obtain ⟨n,rfl,hn,HN⟩:=hrel;have e0:IntKind.i64.wrap ((i:Int)+(n:Int))=(i:Int)+(n:Int):=bg _ (by omega);have e1:IntKind.i64.wrap ((n:Int)+1)=(n:Int)+1:=bg _ (by omega)
   have s0:(0:Int)≤(i:Int):=by omega
   have s1:(i:Int)≤(i:Int)+(n:Int):=by omega
   have s2:(i:Int)+(n:Int)≤(s.size:Int):=by omega
   have s3:i≤i+n:=by omega
   by_cases hlt:i+n<s.size
   ·have s4:(i:Int)+(n:Int)<(s.size:Int):=by omega
    have s5:(0:Int)≤(i:Int)+(n:Int):=by omega
    have g1:=FH s HN.out hlt
    have g2:rR s[i+n]=false→(s.extract i (i+n)).toList=(s.toList.drop i).takeWhile rR:=fun h=>uC s HN.out (.inl ⟨hlt,h⟩)
    obtain ⟨x,hx⟩:∃ x,s[i+n]=x:=⟨_,rfl⟩;rw [hx] at g1 g2;have G1:=hid g1;have G2:=hid g2;clear g1 g2;have c1:=cP x w
    cases hl:rR x
    ·rw [hl] at c1
     have HE:Hid (R=kw (s.extract i (i+n)).toList):=hid (by rw [G2.out hl];exact HW.out.symm);obtain ⟨y,hy⟩:∃ y,s.extract i (i+n)=y:=⟨_,rfl⟩;rw [hy] at HE;clear hl
     go_wp2_with fail
     refine c1.mono ?_;rintro e w2 ⟨rfl,rfl⟩;clear c1
     go_wp2_with fail
     all_goals (go_ret;exact ⟨vD (by first|(exfalso;simp_all;done)|(rw [HE.out];simp only [kw, *];rfl)|(rw [HE.out];simp [kw, *];done)|(rw [HE.out];simp_all [kw];done)),rfl⟩)
    ·rw [hl] at c1
     have Ac:=hid (G1.out hl);clear hl
     go_wp2_with fail
     refine c1.mono ?_;rintro e w2 ⟨rfl,rfl⟩;clear c1
     go_wp2_with fail
     go_round
     case rel=>exact ⟨n+1,by go_num,by omega,Ac⟩
     case measure=>simp [intOf];omega
   ·have hz:s.size≤i+n:=by omega
    have HE:Hid (R=kw (s.extract i (i+n)).toList):=hid (by rw [uC s HN.out (.inr hz)];exact HW.out.symm);obtain ⟨y,hy⟩:∃ y,s.extract i (i+n)=y:=⟨_,rfl⟩;rw [hy] at HE
    have s4:¬ (i:Int)+(n:Int)<(s.size:Int):=by omega
    go_wp2_with fail
    all_goals (go_ret;exact ⟨vD (by first|(exfalso;simp_all;done)|(rw [HE.out];simp only [kw, *];rfl)|(rw [HE.out];simp [kw, *];done)|(rw [HE.out];simp_all [kw];done)),rfl⟩)
 ·have hi0:i - 1<s.size:=by omega
  have g0:=HO.out hi0 h0;have g3:=xK s hi0;obtain ⟨z,hz⟩:∃ z,s[i - 1]=z:=⟨_,rfl⟩;rw [hz] at g0 g3;have G0:=hid g0
  have hg:0<i:=by omega
  have ew:IntKind.i64.wrap ((i:Int) - 1)=((i - 1:Nat):Int):=(bg _ (by omega)).trans (by omega)
  by_cases h10:z.toNat=10
  ·have HW:Hid (kw ((s.toList.drop i).takeWhile rR)=R):=hid (HM.out (.inr (by rw [g3];congr 1;exact UInt8.toNat_inj.1 h10)))
   have ajx:((z.toNat:Int) != 10)=false:=by simp [h10]
   clear h0 g0 g3 h10
   go_enter Tryz.func30,Tryz.ntmps30
   go_wp2_with fail
   go_loop [5] (fun nv=>∃ n:Nat,nv=.int .i64 n∧i+n≤s.size∧Hid (uB s.toList i n)) (fun nv=>s.size - (intOf nv).toNat)
   case atStart=>exact ⟨0,rfl,hi,hid (zm _ _)⟩
   case round =>
    obtain ⟨n,rfl,hn,HN⟩:=hrel;have e0:IntKind.i64.wrap ((i:Int)+(n:Int))=(i:Int)+(n:Int):=bg _ (by omega);have e1:IntKind.i64.wrap ((n:Int)+1)=(n:Int)+1:=bg _ (by omega)
    have s0:(0:Int)≤(i:Int):=by omega
    have s1:(i:Int)≤(i:Int)+(n:Int):=by omega
    have s2:(i:Int)+(n:Int)≤(s.size:Int):=by omega
    have s3:i≤i+n:=by omega
    by_cases hlt:i+n<s.size
    ·have s4:(i:Int)+(n:Int)<(s.size:Int):=by omega
     have s5:(0:Int)≤(i:Int)+(n:Int):=by omega
     have g1:=FH s HN.out hlt
     have g2:rR s[i+n]=false→(s.extract i (i+n)).toList=(s.toList.drop i).takeWhile rR:=fun h=>uC s HN.out (.inl ⟨hlt,h⟩)
     obtain ⟨x,hx⟩:∃ x,s[i+n]=x:=⟨_,rfl⟩;rw [hx] at g1 g2;have G1:=hid g1;have G2:=hid g2;clear g1 g2;have c1:=cP x w
     cases hl:rR x
     ·rw [hl] at c1
      have HE:Hid (R=kw (s.extract i (i+n)).toList):=hid (by rw [G2.out hl];exact HW.out.symm);obtain ⟨y,hy⟩:∃ y,s.extract i (i+n)=y:=⟨_,rfl⟩;rw [hy] at HE;clear hl
      go_wp2_with fail
      refine c1.mono ?_;rintro e w2 ⟨rfl,rfl⟩;clear c1
      go_wp2_with fail
      all_goals (go_ret;exact ⟨vD (by first|(exfalso;simp_all;done)|(rw [HE.out];simp only [kw, *];rfl)|(rw [HE.out];simp [kw, *];done)|(rw [HE.out];simp_all [kw];done)),rfl⟩)
     ·rw [hl] at c1
      have Ac:=hid (G1.out hl);clear hl
      go_wp2_with fail
      refine c1.mono ?_;rintro e w2 ⟨rfl,rfl⟩;clear c1
      go_wp2_with fail
      go_round
      case rel=>exact ⟨n+1,by go_num,by omega,Ac⟩
      case measure=>simp [intOf];omega
    ·have hz:s.size≤i+n:=by omega
     have HE:Hid (R=kw (s.extract i (i+n)).toList):=hid (by rw [uC s HN.out (.inr hz)];exact HW.out.symm);obtain ⟨y,hy⟩:∃ y,s.extract i (i+n)=y:=⟨_,rfl⟩;rw [hy] at HE
     have s4:¬ (i:Int)+(n:Int)<(s.size:Int):=by omega
     go_wp2_with fail
     all_goals (go_ret;exact ⟨vD (by first|(exfalso;simp_all;done)|(rw [HE.out];simp only [kw, *];rfl)|(rw [HE.out];simp [kw, *];done)|(rw [HE.out];simp_all [kw];done)),rfl⟩)
  ·have HF:=hid (G0.out h10)
   clear h0 g0 g3
   go_enter Tryz.func30,Tryz.ntmps30
   go_wp2_with fail
   go_ret
   exact ⟨by rw [HF.out];rfl,rfl⟩
theorem DI {W:World} {q:Nat} {a b c d a' b' c' d':Value} {t:TypeId} (h:W.heap[q]?=some (.cells #[a,b,c,d] t (0,0))) :
  ((((W.setCell ⟨q,0,none⟩ a').setCell ⟨q,1,none⟩ b').setCell ⟨q,2,none⟩ c').setCell ⟨q,3,none⟩ d').heap[q]?=some (.cells #[a',b',c',d'] t (0,0)):=by
 have hq:q<W.heap.size:=(af.1 h).1
 simp [World.setCell,Array.getElem?_modify,h]
theorem JY (s:ByteArray) (f e:Nat) (w:World) (hfe:f≤e) (hes:e≤s.size) (hs:s.size≤1000000) :
  Calls Tryz.prog 31 #[.string s,.int .i64 f,.int .i64 e] w fun e' w'=>e'=.returned (.agg #[.int .i64 f,.int .i64 e,.bool (made s.toList f e).d,.bool (made s.toList f e).j])∧Below w.heap.size w w':=by
 have cB:=fun X=>xu s f X (by omega) hs
 have cS:=fun X=>Be (s.extract f e) X (by rw [ByteArray.size_extract];omega)
 have hd:(made s.toList f e).d=yB s.toList f:=rfl
 have hj:(made s.toList f e).j=(!yB s.toList f&&decide (0<(fH (okB (s.extract f e)) (s.extract f e).toList).length)):=by
  show (!yB s.toList f&&hw ((s.toList.drop f).take (e - f)))=_
  unfold hw
  rw [← S.ext_list,My]
  congr 1
  cases fH (okB (s.extract f e)) (s.extract f e).toList <;> simp
 rw [hd,hj];obtain ⟨b,hb⟩:∃ b,yB s.toList f=b:=⟨_,rfl⟩;rw [hb] at cB ⊢;obtain ⟨Ts,hTs⟩:∃ Ts,fH (okB (s.extract f e)) (s.extract f e).toList=Ts:=⟨_,rfl⟩;rw [hTs] at cS ⊢;obtain ⟨k,hk⟩:∃ k,Ts.length=k:=⟨_,rfl⟩;have Z8:=hid hk;rw [hk];clear hk;obtain ⟨y,hy⟩:∃ y,s.extract f e=y:=⟨_,rfl⟩
 have s0:(0:Int)≤(f:Int):=by omega
 have s1:(f:Int)≤(e:Int):=by omega
 have s2:(e:Int)≤(s.size:Int):=by omega
 clear hd hj hb hTs;rw [hy] at cS
 go_enter Tryz.func31,Tryz.ntmps31
 go_wp2_with fail
 refine (cB _).mono ?_;rintro e1 w1 ⟨rfl,rfl⟩;clear cB
 go_wp2_with fail
 obtain ⟨W1,hW1⟩:∃ W1,w.alloc (.cells #[.int .i64 0,.int .i64 0,.bool false,.bool false] 62)=W1:=⟨_,rfl⟩
 have hb1:Below w.heap.size w W1:=by rw [← hW1];exact (aj _ w).alloc (ae _) _
 have hq1:W1.heap[w.heap.size]?=some (.cells #[.int .i64 0,.int .i64 0,.bool false,.bool false] 62 (0,0)):=by rw [← hW1];exact gu w _
 rw [hW1];clear hW1;have jD:=hid hq1;have HB1:=hid hb1;clear hb1 hq1;refine (cS W1).mono ?_;rintro e2 w2 ⟨v,rfl,hv,hb2⟩;obtain ⟨a,cp,rfl,_,_⟩:=hv;have ow:=(af.1 jD.out).1;have hq2:=(hb2.block w.heap.size ow).trans jD.out;have hbb:Below w.heap.size w w2:=HB1.out.trans (hb2.mono (fu ow))
 have hfb:∀ a' b' c' d',Below w.heap.size w ((((w2.setCell ⟨w.heap.size,0,none⟩ a').setCell ⟨w.heap.size,1,none⟩ b').setCell ⟨w.heap.size,2,none⟩ c').setCell ⟨w.heap.size,3,none⟩ d'):=fun a' b' c' d' =>
  (((hbb.setCell (p:=⟨w.heap.size,0,none⟩) (ae _) a').setCell (p:=⟨w.heap.size,1,none⟩) (ae _) b').setCell (p:=⟨w.heap.size,2,none⟩) (ae _) c').setCell (p:=⟨w.heap.size,3,none⟩) (ae _) d'
 have HFB:=hid hfb;have HQ:=hid hq2;obtain ⟨k0,k1,k2,k3⟩:=IB hq2
 have f0:∀ j,w2.frozen? ⟨w.heap.size,j,none⟩=false:=fun j=>by simp [World.frozen?,hq2]
 have g0:=f0 0;have g1:=f0 1;have g2:=f0 2;have g3:=f0 3;rw [Z8.out];clear cS hb2 hq2 hbb hfb f0 hy
 cases b
 ·by_cases hk0:0<k
  ·go_wp2_with fail
   (try simp only [Exit.inBlock,Exit.then])
   have hp:=DI (a':=.int .i64 f) (b':=.int .i64 e) (c':=.bool false) (d':=.bool true) HQ.out;refine aB (v:=.agg #[.int .i64 f,.int .i64 e,.bool false,.bool true]) (aQ rfl _ _ w.heap.size 62 #[.int .i64 f,.int .i64 e,.bool false,.bool true] (0,0) _ (by rfl) hp Tryz.underlying62 rfl (by kernel_rfl)) rfl ?_
   exact ⟨by simp [hk0],HFB.out _ _ _ _⟩
  ·obtain rfl:k=0:=by omega
   go_wp2_with fail
   (try simp only [Exit.inBlock,Exit.then])
   have hp:=DI (a':=.int .i64 f) (b':=.int .i64 e) (c':=.bool false) (d':=.bool false) HQ.out;refine aB (v:=.agg #[.int .i64 f,.int .i64 e,.bool false,.bool false]) (aQ rfl _ _ w.heap.size 62 #[.int .i64 f,.int .i64 e,.bool false,.bool false] (0,0) _ (by rfl) hp Tryz.underlying62 rfl (by kernel_rfl)) rfl ?_
   exact ⟨by simp,HFB.out _ _ _ _⟩
 ·go_wp2_with fail
  (try simp only [Exit.inBlock,Exit.then])
  have hp:=DI (a':=.int .i64 f) (b':=.int .i64 e) (c':=.bool true) (d':=.bool false) HQ.out;refine aB (v:=.agg #[.int .i64 f,.int .i64 e,.bool true,.bool false]) (aQ rfl _ _ w.heap.size 62 #[.int .i64 f,.int .i64 e,.bool true,.bool false] (0,0) _ (by rfl) hp Tryz.underlying62 rfl (by kernel_rfl)) rfl ?_
  exact ⟨by simp,HFB.out _ _ _ _⟩
theorem xw (s:ByteArray) (w:World) (hs:s.size≤1000000) :
  Calls Tryz.prog 21 #[.string s] w fun e w'=>∃ v,e=.returned v∧Dr w.heap.size w' (pieces s.toList) v∧Below w.heap.size w w':=by
 obtain ⟨i0,hi0,hz0,hz1,hz2⟩:=fF abI;have YN:Hid (pieces s.toList=[]++chain s.toList s.size 0 (mW s.toList 1 (s.size - 1))):=hid (by unfold pieces;rw [dR];rfl);have CB:=hid (fun i (hi:i≤s.size) X=>xu s i X hi hs);have CM:=hid (fun f e (hfe:f≤e) (hes:e≤s.size) X=>JY s f e X hfe hes hs)
 go_enter Tryz.func21,Tryz.ntmps21
 go_wp2_with fail
 go_loopw [3,4,5] (fun ov fv iv wr=>∃ (f i:Nat) (O:List su),fv=.int .i64 f∧iv=.int .i64 i∧f<i∧(i≤s.size∨i=1)∧O.length≤i∧Hid (wr.ownsRow w.heap.size 62 4 ov O.length (lX O))∧Hid (Below w.heap.size w wr)∧Hid (pieces s.toList=O++chain s.toList s.size f (mW s.toList i (s.size - i)))) (fun _ _ iv _=>s.size - (intOf iv).toNat)
 case atStart=>exact ⟨0,1,[],rfl,rfl,by omega,.inr rfl,by simp,hid (dD _ _ _ _),hid (aj _ _),YN⟩
 case round =>
  obtain ⟨f,i,O,rfl,rfl,hfi,hi,hO,HR,HL,HP⟩:=hrel;clear YN;obtain ⟨va,vc,rfl⟩:=fD HR.out;obtain ⟨m,hm⟩:∃ m,O.length=m:=⟨_,rfl⟩;rw [hm] at HR hO ⊢;have HM:=hid hm;clear hm
  by_cases hlt:i<s.size
  ·have c1:=CB.out i (by omega) wr
   have hst:=Aj s.toList i (s.size - (i+1));rw [show s.size - (i+1)+1=s.size - i by omega] at hst;obtain ⟨b,hb⟩:∃ b,yB s.toList i=b:=⟨_,rfl⟩;rw [hb] at c1 hst
   cases b
   ·have Es:Hid (pieces s.toList=O++chain s.toList s.size f (mW s.toList (i+1) (s.size - (i+1)))):=hid (by rw [HP.out,hst];simp)
    clear hst hb
    go_wp2_with fail
    refine c1.mono ?_;rintro e w2 ⟨rfl,rfl⟩;clear c1
    go_wp2_with fail
    go_roundw
    case rel=>exact ⟨f,i+1,O,rfl,by go_num,by omega,by omega,by rw [HM.out];omega,by rw [HM.out];exact HR,HL,Es⟩
    case measure=>simp [intOf];omega
   ·have c2:=CM.out f i (by omega) (by omega) wr
    have hmd:made s.toList f i=⟨f,i,(made s.toList f i).d,(made s.toList f i).j⟩:=rfl
    have Es:Hid (pieces s.toList=(O++[made s.toList f i])++chain s.toList s.size i (mW s.toList (i+1) (s.size - (i+1)))):=hid (by
     rw [HP.out,hst,ay rfl]
     simp [chain,uN,lU])
    rw [hmd] at Es;obtain ⟨md,SX⟩:∃ md,(made s.toList f i).d=md:=⟨_,rfl⟩;obtain ⟨mj,SY⟩:∃ mj,(made s.toList f i).j=mj:=⟨_,rfl⟩;rw [SX,SY] at Es c2;clear hst hb hmd SX SY
    go_wp2_with fail
    refine c1.mono ?_;rintro e w2 ⟨rfl,rfl⟩;clear c1
    go_wp2_with fail
    refine c2.mono ?_;rintro e w5 ⟨rfl,hb5⟩;have uV:=hid (aV HR.out hb5);have RY:=hid (HL.out.trans (hb5.mono HL.out.size));clear c2 hb5
    go_wp2_with (at_builtin;refine gN _ rfl _ _ 42 rfl w.heap.size 62 i0 (.agg #[.int .i64 0,.int .i64 0,.bool false,.bool false]) 4 24 Tryz.underlying42 hi0 hz0 hz1 hz2 rfl (by decide) _ _ _ rfl (uV.out.alloc _) ⟨w5.heap.size,0,none⟩ 1 1 (lX [⟨f,i,md,mj⟩]) rfl rfl ?c1 (tJ _) ?c3 ?c4 ?c5 ?_)
    case c1=>exact GU _ _ _ _ _ _
    case c3=>unfold maxLen;omega
    case c4=>omega
    case c5=>rw [aX];have:=RY.out.size;omega
    intro v6 w6 hv6 Pb _;have HL6:=hid (below_grown RY.out uV.out Pb RY.out.size);rw [← mX] at hv6;have Ad:Hid (w6.ownsRow w.heap.size 62 4 v6 (O++[(⟨f,i,md,mj⟩:su)]).length (lX (O++[⟨f,i,md,mj⟩]))):=hid (by rw [aM,HM.out];exact hv6);clear hv6 Pb
    go_wp2_with fail
    go_roundw
    case rel=>exact ⟨i,i+1,O++[⟨f,i,md,mj⟩],rfl,by go_num,by omega,by omega,by rw [aM,HM.out];simp;omega,Ad,HL6,Es⟩
    case measure=>simp [intOf];omega
  ·have hfs:f≤s.size:=by omega
   have c2:=CM.out f s.size hfs (ae _) wr
   have Es:Hid (pieces s.toList=O++[made s.toList f s.size]):=hid (by
    rw [HP.out,show s.size - i=0 by omega]
    rfl)
   have hmd:made s.toList f s.size=⟨f,s.size,(made s.toList f s.size).d,(made s.toList f s.size).j⟩:=rfl;rw [hmd] at Es;obtain ⟨md,SX⟩:∃ md,(made s.toList f s.size).d=md:=⟨_,rfl⟩;obtain ⟨mj,SY⟩:∃ mj,(made s.toList f s.size).j=mj:=⟨_,rfl⟩;rw [SX,SY] at Es c2;clear hmd SX SY
   go_wp2_with fail
   refine c2.mono ?_;rintro e w5 ⟨rfl,hb5⟩;have uV:=hid (aV HR.out hb5);have RY:=hid (HL.out.trans (hb5.mono HL.out.size));clear c2 hb5
   go_wp2_with (at_builtin;refine gN _ rfl _ _ 42 rfl w.heap.size 62 i0 (.agg #[.int .i64 0,.int .i64 0,.bool false,.bool false]) 4 24 Tryz.underlying42 hi0 hz0 hz1 hz2 rfl (by decide) _ _ _ rfl (uV.out.alloc _) ⟨w5.heap.size,0,none⟩ 1 1 (lX [⟨f,s.size,md,mj⟩]) rfl rfl ?c1 (tJ _) ?c3 ?c4 ?c5 ?_)
   case c1=>exact GU _ _ _ _ _ _
   case c3=>unfold maxLen;omega
   case c4=>omega
   case c5=>rw [aX];have:=RY.out.size;omega
   intro v6 w6 hv6 Pb _;have HL6:=hid (below_grown RY.out uV.out Pb RY.out.size);rw [← mX] at hv6;have Ad:=hid hv6;clear hv6 Pb
   go_wp2_with fail
   go_ret
   refine ⟨_,rfl,?_,HL6.out⟩;rw [Es.out]
   exact Na Ad.out (by rw [aM,HM.out];rfl) (ae _)
end Q
end Go.Proofs.YtojoahlpgmnbnaaGreatDoor
