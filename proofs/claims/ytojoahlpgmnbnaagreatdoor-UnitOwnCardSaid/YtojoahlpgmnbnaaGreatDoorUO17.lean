/- What the claim needs of the texts UJunk, ULive, UAlive, URSame, TRd. -/
import Derived.Test.YtojoahlpgmnbnaaGreatDoorUOOp
import Derived.Test.YtojoahlpgmnbnaaGreatDoorUO16
import Derived.ChangeKeysEq
import Derived.Test.YtojoahlpgmnbnaaGreatDoorUO12
import Derived.Test.YtojoahlpgmnbnaaGreatDoorUO14
import Derived.Test.YtojoahlpgmnbnaaGreatDoorUO15
import Derived.Test.YtojoahlpgmnbnaaGreatDoorUO2
import Derived.Deep.QuietTactic
import Derived.BigQuiet
import Derived.BigRegion
import Derived.Deep.DeepCutAuto
set_option maxRecDepth 20000
set_option maxHeartbeats 16000000
namespace Go.Proofs.YtojoahlpgmnbnaaGreatDoor
namespace Ud
open Go.RowKit
open Go.Lib hiding intOf
open U S Q T J
open K (dF)
def uD:List (Nat × Nat)→List Value
 | []=>[]
 | p :: r=>.int .i64 p.1 :: .int .i64 p.2 :: uD r
theorem DJ:∀ (a b:List (Nat × Nat)),uD (a++b)=uD a++uD b
 | [],_=>rfl
 | p :: r,b=>by rw [bH,uD,uD,DJ r b];rfl
theorem Nf:∀ (l:List (Nat × Nat)) (i:Nat) (hi:i<l.length),(uD l)[i*2]?=some (.int .i64 l[i].1)∧(uD l)[i*2+1]?=some (.int .i64 l[i].2)
 | p :: r,0,_=>⟨rfl,rfl⟩
 | p :: r,i+1,hi=>by
  have h:=Nf r i (by simpa using hi);rw [show (i+1)*2=i*2+1+1 by omega,show i*2+1+1+1=i*2+1+1+1 from rfl]
  exact h
theorem Ha:∀ (l:List (Nat × Nat)),∀ u∈uD l,u.oneCell'=true
 | [],u,h=>by cases h
 | p :: r,u,h=>by
  rw [uD] at h
  rcases bA.1 h with rfl|h
  ·rfl
  ·rcases bA.1 h with rfl|h
   ·rfl
   ·exact Ha r u h
theorem Xa:(Tryz.prog.info? 53).map (fun i=>(i.zero,i.size,i.bytes))=some (some (.agg #[.int .i64 0,.int .i64 0]),2,16):=by kernel_rfl
def xx (B:Nat) (W:World) (l:List (Nat × Nat)) (v:Value):Prop:=W.ownsRow B 53 2 v l.length (uD l)
theorem xx.later {B:Nat} {W W':World} {l:List (Nat × Nat)} {v:Value} (h:xx B W l v) (hb:Below W.heap.size W W'):xx B W' l v:=aV h hb
theorem Ca {B:Nat} {W:World} {l:List (Nat × Nat)} {v:Value} (h:xx B W l v):∃ a c,v=.slice a l.length c∧(l=[]∨∃ g,a=some ⟨g,0,none⟩∧B≤g∧g<W.heap.size∧∀ i (hi:i<l.length),W.cell? ⟨g,i*2,none⟩=some (.int .i64 l[i].1)∧W.cell? ⟨g,i*2+1,none⟩=some (.int .i64 l[i].2)):=by
 obtain ⟨a,c,rfl⟩:=fD h;refine ⟨a,c,rfl,?_⟩
 rcases eQ l.length with h0|h0
 ·exact .inl (dw.1 h0)
 ·right
  obtain ⟨g,c2,h1,_,h3,h4⟩:=lN h h0;simp only [cZ] at h1;obtain ⟨rfl,_,rfl⟩:=h1;refine ⟨g,rfl,h3,h4,fun i hi=>?_⟩;obtain ⟨e1,e2⟩:=Nf l i hi
  exact ⟨(h.cellAt _ (by omega)).trans e1,(h.cellAt _ (by omega)).trans e2⟩
def lZ (l:List su):List (Nat × Nat):=(l.filter (·.j)).map fun q=>(q.f,q.e)
theorem FI {l:List su} {i:Nat} (hi:i<l.length) (h:l[i].j=true):lZ (l.take (i+1))=lZ (l.take i)++[(l[i].f,l[i].e)]:=by
 unfold lZ;rw [dE hi,List.filter_append,List.map_append];simp [List.filter,h]
theorem DK {l:List su} {i:Nat} (hi:i<l.length) (h:l[i].j=false):lZ (l.take (i+1))=lZ (l.take i):=by
 unfold lZ;rw [dE hi,List.filter_append,List.map_append];simp [List.filter,h]
theorem YV (W:World) (f e:Nat):∀ k u,(uD [(f,e)])[k]?=some u→(W.alloc (.cells #[.int .i64 f,.int .i64 e] 53)).cell? ((⟨W.heap.size,0,none⟩:Addr).add k)=some u:=dm (cs:=#[.int .i64 f,.int .i64 e]) (gu W _)
theorem zn (u:Value) (s:ByteArray) (w:World) (hu:∃ d,u=.pointer d) (hs:s.size≤1000000) (hT:qI w) (hx:Calls Tryz.prog 19 #[u] w fun e w'=>e=.returned (.string s)∧w=w') :
  Calls Tryz.prog 17 #[u] w fun e w'=>∃ v,e=.returned v∧xx w.heap.size w' (tH s) v∧Below w.heap.size w w':=by
 obtain ⟨i0,hi0,hz0,hz1,hz2⟩:=fF Xa;have cP:=Dx s w hs hT;obtain ⟨P,hP⟩:∃ P,pieces s.toList=P:=⟨_,rfl⟩;have hlen:=o6 s.toList;rw [dR] at hlen;rw [hP] at cP hlen
 have hdl:tH s=lZ P:=by unfold tH lZ;rw [hP]
 rw [hdl];obtain ⟨dd,rfl⟩:=hu;clear hT hP hdl
 go_enter Tryz.func17,Tryz.ntmps17
 go_wp2_with fail
 refine hx.mono ?_;rintro e w0 ⟨rfl,rfl⟩;clear hx
 go_wp2_with fail
 refine cP.mono ?_;rintro e w1 ⟨v,rfl,hv,hb1⟩;obtain ⟨pa,pc,rfl,hcap,hrow⟩:=hv;have HR:=hid hrow;have HB1:=hid hb1;obtain ⟨n,hn⟩:∃ n,P.length=n:=⟨_,rfl⟩;have HN:=hid hn;rw [hn] at hlen hcap ⊢;clear cP hrow hb1 hn
 go_wp2_with fail
 go_loopw [3,10] (fun ov iv wr=>∃ i m:Nat,iv=.int .i64 i∧i≤n∧m≤i∧Hid ((lZ (P.take i)).length=m)∧Hid (wr.ownsRow w1.heap.size 53 2 ov m (uD (lZ (P.take i))))∧Hid (Below w1.heap.size w1 wr)) (fun _ iv _=>n - (Go.RowKit.intOf iv).toNat)
 case atStart=>exact ⟨0,0,rfl,aL _,ae _,hid rfl,hid (dD _ _ _ _),hid (aj _ _)⟩
 case round =>
  obtain ⟨i,m,rfl,hi,hm,HM,HO,HB⟩:=hrel
  by_cases hlt:i<n
  ·have hll:i<P.length:=by rw [HN.out];exact hlt
   obtain ⟨g,off,rfl,_,hg,hc⟩:=HR.out.resolve_left (fun h=>by rw [h] at hll;exact bq _ hll);obtain ⟨p0,p1,p2,p3⟩:=M9 i hc hll;obtain ⟨f,hf⟩:∃ x,P[i].f=x:=⟨_,rfl⟩;obtain ⟨e,he⟩:∃ x,P[i].e=x:=⟨_,rfl⟩;obtain ⟨d,hd⟩:∃ x,P[i].d=x:=⟨_,rfl⟩;obtain ⟨j,hj⟩:∃ x,P[i].j=x:=⟨_,rfl⟩;rw [hf] at p0;rw [he] at p1;rw [hd] at p2;rw [hj] at p3;have q0:=(HB.out.cell (p:=⟨g,off+i*4,none⟩) hg).trans p0;have q1:=(HB.out.cell (p:=⟨g,off+i*4+1,none⟩) hg).trans p1;have q2:=(HB.out.cell (p:=⟨g,off+i*4+2,none⟩) hg).trans p2;have q3:=(HB.out.cell (p:=⟨g,off+i*4+3,none⟩) hg).trans p3;obtain ⟨w2,hw2,hq2,hb2,afg⟩:=ic wr (.cells #[.int .i64 f,.int .i64 e,.bool d,.bool j] 67)
   have k0:w2.cell? ⟨wr.heap.size,0,none⟩=some (.int .i64 f):=by simp [World.cell?,hq2]
   have k1:w2.cell? ⟨wr.heap.size,1,none⟩=some (.int .i64 e):=by simp [World.cell?,hq2]
   have k2:w2.cell? ⟨wr.heap.size,2,none⟩=some (.bool d):=by simp [World.cell?,hq2]
   have k3:w2.cell? ⟨wr.heap.size,3,none⟩=some (.bool j):=by simp [World.cell?,hq2]
   have kf:∀ x,w2.frozen? ⟨wr.heap.size,x,none⟩=false:=fun x=>by simp [World.frozen?,hq2]
   have HB2:=hid (HB.out.trans (hb2.mono HB.out.size));have uo:=hid (aV HO.out hb2);have HFE:=hid (And.intro hf he);clear hc p0 p1 p2 p3 hf he hd hq2 hb2
   go_upto_region 5 with fail
   cases j with
   | false =>
    have HT2:=hid (DK hll hj);clear hj
    go_wp2_with fail
    go_roundw
    case rel=>exact ⟨i+1,m,by go_num,by omega,by omega,hid (by rw [HT2.out];exact HM.out),hid (by rw [HT2.out];exact uo.out),HB2⟩
    case measure=>simp [Go.RowKit.intOf];omega
   | true =>
    have HT2:=hid ((FI hll hj).trans (by rw [HFE.out.1,HFE.out.2]));obtain ⟨oa,oc,rfl⟩:=fD HO.out;clear hj
    go_wp2_with (at_builtin;refine gN _ rfl _ _ 34 rfl w1.heap.size 53 i0 (.agg #[.int .i64 0,.int .i64 0]) 2 16 Tryz.underlying34 hi0 hz0 hz1 hz2 rfl (by decide) _ _ _ rfl (uo.out.alloc _) ⟨w2.heap.size,0,none⟩ 1 1 (uD [(f,e)]) rfl rfl ?c1 (Ha _) ?c3 ?c4 ?c5 ?_)
    case c1=>exact YV _ _ _
    case c3=>unfold maxLen;omega
    case c4=>omega
    case c5=>rw [aX];have:=HB2.out.size;omega
    intro v6 w6 hv6 Pb _;have qP:=hid ((HB2.out.alloc HB2.out.size _).grown Pb (by rw [aX];have:=HB2.out.size;omega) (fun k hk=>(uo.out.lt k hk).1));rw [← DJ] at hv6;have S7:Hid (w6.ownsRow w1.heap.size 53 2 v6 (m+1) (uD (lZ (P.take (i+1))))):=hid (by rw [HT2.out];exact hv6);clear hv6 Pb
    go_wp2_with fail
    go_roundw
    case rel=>exact ⟨i+1,m+1,by go_num,by omega,by omega,hid (by rw [HT2.out,aM,HM.out];rfl),S7,qP⟩
    case measure=>simp [Go.RowKit.intOf];omega
  ·obtain rfl:i=n:=by omega
   go_wp2_with fail
   go_ret
   have hP:P.take i=P:=bX (by rw [HN.out];exact ae _);refine ⟨_,rfl,?_,HB1.out.trans (HB.out.mono HB1.out.size)⟩;have h:=HO.out;rw [hP,← HM.out,hP] at h
   exact jr h HB1.out.size
theorem tL {o:Oper} {a:Act} (x y g off n i c:Nat) (W:World) (ho:o.op=.indexAddr 42 (.tmp x) (.tmp y)) (h1:a.eval (.tmp x)=.slice (some ⟨g,off,none⟩) n c) (h2:a.eval (.tmp y)=.int .i64 i) (hin:i<n):(execOp a.eval o).run Tryz.prog W=.ok (.value (.pointer (some ⟨g,off+i*4,none⟩))) W:=by
 have hm:(0:Int)≤(i:Int):=by omega
 have hm2:(i:Int)<(n:Int):=by omega
 have hr:(Instr.indexAt 42 (.slice (some ⟨g,off,none⟩) n c) (.int .i64 i)).run Tryz.prog W=.ok (.pointer (some ⟨g,off+i*4,none⟩)) W:=by
  simp [go_sem]
  intro h
  omega
 unfold execOp
 rw [ho];simp only [h1,h2,iV,hr,eP,iW]
theorem JZ (s:ByteArray) (w:World) (hs:s.size≤1000000) :
  Calls Tryz.prog 18 #[.string s] w fun e w'=>∃ v,e=.returned v∧xx w.heap.size w' (tH s) v∧Below w.heap.size w w':=by
 obtain ⟨i0,hi0,hz0,hz1,hz2⟩:=fF Xa;have cP:=xw s w hs;obtain ⟨P,hP⟩:∃ P,pieces s.toList=P:=⟨_,rfl⟩;have hlen:=o6 s.toList;rw [dR] at hlen;rw [hP] at cP hlen
 have hdl:tH s=lZ P:=by unfold tH lZ;rw [hP]
 rw [hdl];clear hP hdl
 go_enter Tryz.func18,Tryz.ntmps18
 go_wp2_with fail
 refine cP.mono ?_;rintro e w1 ⟨v,rfl,hv,hb1⟩;obtain ⟨pa,pc,rfl,hcap,hrow⟩:=hv;have HR:=hid hrow;have HB1:=hid hb1;obtain ⟨n,hn⟩:∃ n,P.length=n:=⟨_,rfl⟩;have HN:=hid hn;rw [hn] at hlen hcap ⊢;clear cP hrow hb1 hn
 go_wp2_with fail
 go_loopw [4,5] (fun ov iv wr=>∃ i m:Nat,iv=.int .i64 i∧i≤n∧m≤i∧Hid ((lZ (P.take i)).length=m)∧Hid (wr.ownsRow w1.heap.size 53 2 ov m (uD (lZ (P.take i))))∧Hid (Below w1.heap.size w1 wr)) (fun _ iv _=>n - (Go.RowKit.intOf iv).toNat)
 case atStart=>exact ⟨0,0,rfl,aL _,ae _,hid rfl,hid (dD _ _ _ _),hid (aj _ _)⟩
 case round =>
  obtain ⟨i,m,rfl,hi,hm,HM,HO,HB⟩:=hrel
  by_cases hlt:i<n
  ·have hll:i<P.length:=by rw [HN.out];exact hlt
   obtain ⟨g,off,rfl,_,hg,hc⟩:=HR.out.resolve_left (fun h=>by rw [h] at hll;exact bq _ hll);obtain ⟨p0,p1,p2,p3⟩:=M9 i hc hll;obtain ⟨f,hf⟩:∃ x,P[i].f=x:=⟨_,rfl⟩;obtain ⟨e,he⟩:∃ x,P[i].e=x:=⟨_,rfl⟩;obtain ⟨j,hj⟩:∃ x,P[i].j=x:=⟨_,rfl⟩;rw [hf] at p0;rw [he] at p1;rw [hj] at p3;have q0:=(HB.out.cell (p:=⟨g,off+i*4,none⟩) hg).trans p0;have q1:=(HB.out.cell (p:=⟨g,off+i*4+1,none⟩) hg).trans p1;have q3:=(HB.out.cell (p:=⟨g,off+i*4+3,none⟩) hg).trans p3;have HFE:=hid (And.intro hf he);clear hc p0 p1 p2 p3 hf he
   cases j with
   | false =>
    have HT2:=hid (DK hll hj);clear hj
    go_wp2_with fail
    go_roundw
    case rel=>exact ⟨i+1,m,by go_num,by omega,by omega,hid (by rw [HT2.out];exact HM.out),hid (by rw [HT2.out];exact HO.out),HB⟩
    case measure=>simp [Go.RowKit.intOf];omega
   | true =>
    have HT2:=hid ((FI hll hj).trans (by rw [HFE.out.1,HFE.out.2]));obtain ⟨oa,oc,rfl⟩:=fD HO.out;clear hj
    go_upto_region 7 with fail
    refine aS (S:=fun X=>X.cell? ⟨g,off+i*4,none⟩=some (.int .i64 f)∧X.cell? ⟨g,off+i*4+1,none⟩=some (.int .i64 e)∧Below w1.heap.size w1 X) (by kernel_rfl) ⟨q0,q1,rq HB.out⟩ fun ag=>?_
    have nM:=hid (aV HO.out (aj wr.heap.size wr).drew);have Ya:=hid (show g<wr.drew.heap.size from aD hg HB.out.size);obtain ⟨V,hV⟩:∃ V,wr.drew=V:=⟨_,rfl⟩;rw [hV] at ag nM Ya ⊢;clear hV q0 q1 q3;have HV:=hid ag;refine OP.m 0 rfl (.slice oa m oc) ag ?_;simp only [OP.s];refine OP.m 1 rfl (.slice (some ⟨g,off,none⟩) n pc) ag ?_;simp only [OP.s];refine OP.m 2 rfl (.int .i64 i) ag ?_;simp only [OP.s];refine OP.t 3 rfl (.pointer (some ⟨g,off+i*4,none⟩)) (fun X hX=>tL 20 21 g off n i pc X rfl rfl rfl hlt) ag ?_;simp only [OP.s];refine OP.m 4 rfl (.pointer (some ⟨g,off+i*4,none⟩)) ag ?_;simp only [OP.s];refine OP.t 5 rfl (.int .i64 f) (fun X hX=>by obtain ⟨c0,c1,_⟩:=hX;go_simp) ag ?_;simp only [OP.s];refine OP.m 6 rfl (.slice (some ⟨g,off,none⟩) n pc) ag ?_;simp only [OP.s];refine OP.m 7 rfl (.int .i64 i) ag ?_;simp only [OP.s];refine OP.t 8 rfl (.pointer (some ⟨g,off+i*4,none⟩)) (fun X hX=>tL 25 26 g off n i pc X rfl rfl rfl hlt) ag ?_;simp only [OP.s];refine OP.m 9 rfl (.pointer (some ⟨g,off+i*4+1,none⟩)) ag ?_;simp only [OP.s];refine OP.t 10 rfl (.int .i64 e) (fun X hX=>by obtain ⟨c0,c1,_⟩:=hX;go_simp) ag ?_;simp only [OP.s];refine OP.t 11 rfl (.agg #[.int .i64 f,.int .i64 e]) (fun X hX=>by kernel_rfl) ag ?_;simp only [OP.s]
    refine OP.r 12 rfl fun K hK=>?_
    go_simp
    obtain ⟨X2,hX2,f2,b2,z2⟩:=ic V (.cells #[.int .i64 f,.int .i64 e] 53);rw [hX2];have hb2:=HV.out.2.2.trans (b2.mono HV.out.2.2.size);have hc0:=(b2.cell (p:=⟨g,off+i*4,none⟩) Ya.out).trans HV.out.1;have hc1:=(b2.cell (p:=⟨g,off+i*4+1,none⟩) Ya.out).trans HV.out.2.1;have xn:=hid (aV nM.out b2);have hgx:g<X2.heap.size:=aD Ya.out b2.size;obtain ⟨g2,hg2⟩:∃ g,V.heap.size=g:=⟨_,rfl⟩;rw [hg2] at f2 ⊢;clear hX2 b2 z2
    refine hK.out _ _ ⟨hc0,hc1,hb2⟩ fun ag=>?_
    try simp only [OP.s]
    clear hK K
    refine OP.r 13 rfl fun K hK=>?_
    refine eD _ (.tmp 19) (.tmp 31) 34 rfl w1.heap.size 53 i0 (.agg #[.int .i64 0,.int .i64 0]) 2 16 Tryz.underlying34 hi0 hz0 hz1 hz2 rfl (by decide) (.slice oa m oc) m (uD (lZ (P.take i))) rfl xn.out ⟨g2,0,none⟩ 1 1 (uD [(f,e)]) rfl rfl (dm (cs:=#[.int .i64 f,.int .i64 e]) f2) (Ha _) (by decide) (by unfold maxLen;omega) (by omega) hb2.size _ rfl ?_;intro g4 c4 X3 w3 aP hat hlt3;have hb3:Below w1.heap.size w1 X3:=hb2.grown aP hb2.size (fun k hk=>(xn.out.lt k hk).1)
    have hne:some g≠(Value.slice oa m oc).ownBlock:=fun h=>by have:=(xn.out.lt g h.symm).1;omega
    have hd0:X3.cell? ⟨g,off+i*4,none⟩=some (.int .i64 f):=by unfold World.cell? at hc0 ⊢;rw [aP.block g hgx hne];exact hc0
    have hd1:X3.cell? ⟨g,off+i*4+1,none⟩=some (.int .i64 e):=by unfold World.cell? at hc1 ⊢;rw [aP.block g hgx hne];exact hc1
    rw [← DJ] at w3;have ZZ:Hid (X3.ownsRow w1.heap.size 53 2 (.slice (some ⟨g4,0,none⟩) (m+1) c4) (m+1) (uD (lZ (P.take (i+1))))):=hid (by rw [HT2.out];exact w3);have sN:=hid hb3
    refine hK.out _ _ ⟨hd0,hd1,hb3⟩ fun ag=>?_
    try simp only [OP.s]
    clear hK K;refine OP.m 14 rfl (.slice (some ⟨g4,0,none⟩) (m+1) c4) ag ?_;simp only [OP.s];refine bL (by kernel_rfl) ?_ _;clear ag w3 aP hat hlt3 hb3 hd0 hd1 hc0 hc1 hb2 f2 hne
    go_wp2_with fail
    go_roundw
    case rel=>exact ⟨i+1,m+1,by go_num,by omega,by omega,hid (by rw [HT2.out,aM,HM.out];rfl),ZZ,sN⟩
    case measure=>simp [Go.RowKit.intOf];omega
  ·obtain rfl:i=n:=by omega
   go_wp2_with fail
   go_ret
   have hP:P.take i=P:=bX (by rw [HN.out];exact ae _);refine ⟨_,rfl,?_,HB1.out.trans (HB.out.mono HB1.out.size)⟩;have h:=HO.out;rw [hP,← HM.out,hP] at h
   exact jr h HB1.out.size
theorem J2 {o:Oper} {a:Act} (x y g n i c:Nat) (W:World) (ho:o.op=.indexAddr 34 (.tmp x) (.tmp y)) (h1:a.eval (.tmp x)=.slice (some ⟨g,0,none⟩) n c) (h2:a.eval (.tmp y)=.int .i64 i) (hin:i<n):(execOp a.eval o).run Tryz.prog W=.ok (.value (.pointer (some ⟨g,i*2,none⟩))) W:=by
 have hm:(0:Int)≤(i:Int):=by omega
 have hm2:(i:Int)<(n:Int):=by omega
 have hr:(Instr.indexAt 34 (.slice (some ⟨g,0,none⟩) n c) (.int .i64 i)).run Tryz.prog W=.ok (.pointer (some ⟨g,i*2,none⟩)) W:=by
  simp [go_sem]
  intro h
  omega
 unfold execOp
 rw [ho];simp only [h1,h2,iV,hr,eP,iW]
theorem S9:(Tryz.prog.info? 3).map (fun i=>(i.zero,i.size,i.bytes))=some (some (.int .i64 0),1,8):=by kernel_rfl
theorem eq2 (a b:Int) (W:World):(Op.equalIn 10000 53 (.agg #[.int .i64 a,.int .i64 b]) (.agg #[.int .i64 a,.int .i64 b])).run Tryz.prog W=.ok true W:=by
 have h3:Tryz.prog.underlying 3=some (.int .i64):=Tryz.underlying3
 have hc:Tryz.prog.cellsOf 3=1:=by kernel_rfl
 obtain ⟨i3,hi3,_,_,_⟩:=fF S9
 have hi:∀ (x:Int) W,(Op.equalIn 9999 3 (.int .i64 x) (.int .i64 x)).run Tryz.prog W=.ok true W:=fun x W=>by
  rw [show (9999:Nat)=9998+1 from rfl,run_equalIn_int _ _ _ _ _ _ _ h3]
  simp
 have p0:∀ W,(part 3 #[.int .i64 a,.int .i64 b] (0*1)).run Tryz.prog W=.ok (.int .i64 a) W:=fun W=>by kernel_rfl
 have p1:∀ W,(part 3 #[.int .i64 a,.int .i64 b] (1*1)).run Tryz.prog W=.ok (.int .i64 b) W:=fun W=>by kernel_rfl
 have e:(10000:Nat)=9999+1:=rfl;rw [e,run_equalIn_array W 9999 _ _ Tryz.underlying53 hi3,hc,show List.range 2=[0,1] from rfl];simp only [Op.eqItems,iV,p0,p1,hi,eP,iW,Bool.not_true,Bool.false_eq_true,if_false]
theorem afn (a b:Int) (W:World):(binOp .neq 53 (.agg #[.int .i64 a,.int .i64 b]) (.agg #[.int .i64 a,.int .i64 b])).run Tryz.prog W=.ok (.bool false) W:=by
 have h:=eq2 a b W
 simp [go_sem]
 rw [h]
 rfl
theorem Pd (l:List (Nat × Nat)) (B B':Nat) (w:World) (v v':Value) (hv:xx B w l v) (hv':xx B' w l v') (hlen:l.length≤1000000) :
  Calls Tryz.prog 16 #[v,v'] w fun e w'=>e=.returned (.bool true)∧Below w.heap.size w w':=by
 obtain ⟨a,c,rfl,hr⟩:=Ca hv;obtain ⟨a',c',rfl,hr'⟩:=Ca hv';have HR:=hid hr;have Sl:=hid hr';have hneq:=afn;obtain ⟨n,hn⟩:∃ n,l.length=n:=⟨_,rfl⟩;have HN:=hid hn;rw [hn] at hlen ⊢;clear hv hv' hr hr' hn
 go_enter Tryz.func16,Tryz.ntmps16
 go_wp2_with fail
 go_loopw [5] (fun iv wr=>∃ i:Nat,iv=.int .i64 i∧i≤n∧Hid (Below w.heap.size w wr)) (fun iv _=>n - (Go.RowKit.intOf iv).toNat)
 case atStart=>exact ⟨0,rfl,aL _,hid (aj _ _)⟩
 case round =>
  obtain ⟨i,rfl,hi,HB⟩:=hrel
  by_cases hlt:i<n
  ·have hll:i<l.length:=by rw [HN.out];exact hlt
   obtain ⟨g,rfl,_,hg,hc⟩:=HR.out.resolve_left (fun h=>by rw [h] at hll;exact bq _ hll);obtain ⟨g',rfl,_,hg',hc'⟩:=Sl.out.resolve_left (fun h=>by rw [h] at hll;exact bq _ hll);obtain ⟨p0,p1⟩:=hc i hll;obtain ⟨p2,p3⟩:=hc' i hll;obtain ⟨x,hx⟩:∃ x,l[i].1=x:=⟨_,rfl⟩;obtain ⟨y,hy⟩:∃ x,l[i].2=x:=⟨_,rfl⟩;rw [hx] at p0 p2;rw [hy] at p1 p3;have q0:=(HB.out.cell (p:=⟨g,i*2,none⟩) hg).trans p0;have q1:=(HB.out.cell (p:=⟨g,i*2+1,none⟩) hg).trans p1;have q2:=(HB.out.cell (p:=⟨g',i*2,none⟩) hg').trans p2;have q3:=(HB.out.cell (p:=⟨g',i*2+1,none⟩) hg').trans p3;clear hc hc' p0 p1 p2 p3 hx hy
   go_upto_region 6 with fail
   refine aS (S:=fun X=>X.cell? ⟨g,i*2,none⟩=some (.int .i64 x)∧X.cell? ⟨g,i*2+1,none⟩=some (.int .i64 y)∧X.cell? ⟨g',i*2,none⟩=some (.int .i64 x)∧X.cell? ⟨g',i*2+1,none⟩=some (.int .i64 y)) (by kernel_rfl) ⟨q0,q1,q2,q3⟩ fun ag=>?_
   have HB2:=hid (rq HB.out);obtain ⟨V,hV⟩:∃ V,wr.drew=V:=⟨_,rfl⟩;rw [hV] at ag HB2 ⊢;clear hV q0 q1 q2 q3;refine OP.m 0 rfl (.slice (some ⟨g,0,none⟩) n c) ag ?_;simp only [OP.s];refine OP.m 1 rfl (.int .i64 i) ag ?_;simp only [OP.s];refine OP.t 2 rfl (.pointer (some ⟨g,i*2,none⟩)) (fun X hX=>J2 17 18 g n i c X rfl rfl rfl hlt) ag ?_;simp only [OP.s];refine OP.t 3 rfl (.agg #[.int .i64 x,.int .i64 y]) (fun X hX=>by obtain ⟨c0,c1,c2,c3⟩:=hX;go_simp) ag ?_;simp only [OP.s];refine OP.m 4 rfl (.slice (some ⟨g',0,none⟩) n c') ag ?_;simp only [OP.s];refine OP.m 5 rfl (.int .i64 i) ag ?_;simp only [OP.s];refine OP.t 6 rfl (.pointer (some ⟨g',i*2,none⟩)) (fun X hX=>J2 21 22 g' n i c' X rfl rfl rfl hlt) ag ?_;simp only [OP.s];refine OP.t 7 rfl (.agg #[.int .i64 x,.int .i64 y]) (fun X hX=>by obtain ⟨c0,c1,c2,c3⟩:=hX;go_simp) ag ?_;simp only [OP.s];refine OP.t 8 rfl (.bool false) (fun X hX=>by have h:=hneq x y X;go_simp) ag ?_;simp only [OP.s];refine bL (by kernel_rfl) ?_ _;clear ag
   go_wp2_with fail
   go_roundw
   case rel=>exact ⟨i+1,by go_num,by omega,HB2⟩
   case measure=>simp [Go.RowKit.intOf];omega
  ·obtain rfl:i=n:=by omega
   go_wp2_with fail
   go_ret
   exact ⟨rfl,HB.out⟩
end Ud
namespace Ud
open Go.Lib Go.Proofs.YtojoahlpgmnbnaaGreatDoor.U Go.Proofs.YtojoahlpgmnbnaaGreatDoor.S Go.Proofs.YtojoahlpgmnbnaaGreatDoor.Q Go.Proofs.YtojoahlpgmnbnaaGreatDoor.T
def uO:ByteArray:=⟨#[118,97,114,32,97,32,105,110,116,10,118,97,114,32,98,32,120,32,121,10,122,10,118,97,114,32,99,32,84,10]⟩
def Bf:ByteArray:=⟨#[113,10,118,97,114,32,97,32,105,110,116,10,118,97,114,32,99,32,84,10]⟩
theorem Ao:(decls uO).length=3:=by kernel_rfl
theorem Pe:(decls uO)[1]?.map (fun d=>(d.a,d.r))=some (8,101):=by kernel_rfl
theorem Pf:yZ (nU (decls Bf)) (nU (decls uO))=2:=by kernel_rfl
theorem Pg:tH Bf=[(0,2)]:=by kernel_rfl
end Ud
namespace Ud
open Go.RowKit
open Go.Lib hiding intOf
open U S Q T J
open K (qd)
theorem VM {W:World} {B:Nat} {v:Value} (h:jc B (fun k=>B≤k) W (decls uO) v):∃ g off c,v=.slice (some ⟨g,off,none⟩) 3 c∧W.cell? ⟨g,off+1*10+8,none⟩=some (.int .i64 8)∧W.cell? ⟨g,off+1*10+9,none⟩=some (.int .i64 101):=by
 obtain ⟨a,c,rfl⟩:=lY h;obtain ⟨_,_,hr⟩:=uy h
 have hl:1<(decls uO).length:=by rw [Ao];decide
 obtain ⟨g,off,rfl,_,_,h4⟩:=hr.resolve_left (fun e=>by rw [e] at hl;exact absurd hl (by decide));obtain ⟨f,e,tx,k,t,pf,pe,ks,a,c',x,r,hK⟩:=Ba (h4 1 hl);have h1:=Pe;rw [aC hl,hK.eq] at h1;simp only [Option.map_some,bW,Prod.mk.injEq] at h1;obtain ⟨rfl,rfl⟩:=h1
 exact ⟨g,off,c,by rw [Ao],hK.c8,hK.c9⟩
theorem FJ (w:World) (hT:qI w) (hG:qd w):Calls Tryz.prog 7 #[] w fun e w'=>e=.returned (.bool true)∧Below w.heap.size w w':=by
 have c1:=yY uO w (by decide) hT hG;have HT:=hid hT;have HG:=hid hG;clear hT hG
 go_enter Tryz.func7,Tryz.ntmps7
 go_wp2_with fail
 refine c1.mono ?_;rintro e w1 ⟨d,rfl,YW,hb1⟩;have c2:=OY Bf uO w1 _ d 0 (by decide) (by decide) (HT.out.later hb1) (HG.out.later hb1) YW;rw [Pf] at c2;have HU1:=hid YW;have HB1:=hid hb1;clear c1 YW hb1
 go_wp2_with fail
 refine c2.mono ?_;rintro e w2 ⟨d',rfl,hU2,hb2⟩;have HU2:=hid hU2;have YX:=hid (HU1.out.later hb2);have HB2:=hid (HB1.out.trans (hb2.mono HB1.out.size));have c3:=qU uO w2 _ d 0 (by decide) YX.out;clear c2 hU2 hb2 HU1
 go_wp2_with fail
 refine c3.mono ?_;rintro e w3 ⟨v3,rfl,hD3,hb3⟩;have hD3:=hD3.VJ;have abX:=hid (YX.out.later hb3);have YY:=hid (HU2.out.later hb3);have HB3:=hid (HB2.out.trans (hb3.mono HB2.out.size));have HD3:=hid hD3;have c4:=zn (oH d') Bf w3 ⟨_,rfl⟩ (by decide) (HT.out.later HB3.out) (zl Bf w3 _ d' 2 YY.out);rw [Pg] at c4;clear c3 hD3 hb3 YX HU2
 go_wp2_with fail
 refine c4.mono ?_;rintro e w4 ⟨v4,rfl,hP4,hb4⟩;obtain ⟨ga,oa,ca,rfl,l8,l9⟩:=VM (HD3.out.later hb4);have abY:=hid (abX.out.later hb4);have abZ:=hid (YY.out.later hb4);have uR:=hid (HB3.out.trans (hb4.mono HB3.out.size));have HD4:=hid (HD3.out.later hb4);obtain ⟨a4,c4',rfl,hr4⟩:=Ca hP4;obtain ⟨g4,rfl,_,_,h5⟩:=hr4.resolve_left (fun h=>by cases h);have p1:w4.cell? ⟨g4,1,none⟩=some (.int .i64 2):=(h5 0 (by decide)).2;have k1:=DF uO w4 _ d 0 abY.out;have k2:=DF Bf w4 _ d' 2 abZ.out;have tx:=zl Bf w4 _ d' 2 abZ.out;have cd:=qU uO w4 _ d 0 (by decide) abY.out
 unfold oH at k1 k2 tx cd
 have ajz:(Bf.toList==[])=false:=by kernel_rfl
 simp only [aH,dM]
 unfold oH
 clear c4 hP4 hb4 abX YY h5 hr4 HD3
 go_wp2_with fail
 refine k1.mono ?_;rintro e w5 ⟨rfl,rfl⟩
 go_wp2_with fail
 refine k2.mono ?_;rintro e w5 ⟨rfl,rfl⟩
 go_wp2_with fail
 refine tx.mono ?_;rintro e w5 ⟨rfl,rfl⟩
 go_wp2_with fail
 refine cd.mono ?_;rintro e w5 ⟨v5,rfl,hD5,hb5⟩;have cS:=za (decls uO) _ _ _ _ w5 v5 _ hD5.VJ (HD4.out.later hb5) (fun d hd=>aJ (zk (pE uO (by decide)) d hd).2 (by decide)) (by rw [Ao];decide);have sN:=hid (uR.out.trans (hb5.mono uR.out.size));clear cd hD5 hb5 k1 k2 tx l8 l9 p1
 go_wp2_with fail
 refine cS.mono ?_;rintro e w6 ⟨rfl,hb6⟩;have qP:=hid (sN.out.trans (hb6.mono sN.out.size));clear cS hb6
 go_wp2_with fail
 go_ret
 exact ⟨rfl,qP.out⟩
end Ud
namespace Ud
open Go.RowKit
open Go.Lib hiding intOf
open U S Q T J
theorem kZ {o:Oper} {a:Act} (x y g off n i c:Nat) (W:World) (ho:o.op=.indexAddr 26 (.tmp x) (.tmp y)) (h1:a.eval (.tmp x)=.slice (some ⟨g,off,none⟩) n c) (h2:a.eval (.tmp y)=.int .i64 i) (hin:i<n):(execOp a.eval o).run Tryz.prog W=.ok (.value (.pointer (some ⟨g,off+i*10,none⟩))) W:=by
 have hm:(0:Int)≤(i:Int):=by omega
 have hm2:(i:Int)<(n:Int):=by omega
 have hr:(Instr.indexAt 26 (.slice (some ⟨g,off,none⟩) n c) (.int .i64 i)).run Tryz.prog W=.ok (.pointer (some ⟨g,off+i*10,none⟩)) W:=by
  simp [go_sem]
  intro h
  omega
 unfold execOp
 rw [ho];simp only [h1,h2,iV,hr,eP,iW]
theorem Hd (l:List ku) (B B':Nat) (R R':Nat→Prop) (w:World) (v v':Value) (hv:jc B R w l v) (hv':jc B' R' w l v') (hw:∀ d∈l,rT d.p≤1099511627776) (hlb:l.length≤1000000) :
  Calls Tryz.prog 10 #[v,v'] w fun e w'=>e=.returned (.bool true)∧Below w.heap.size w w':=by
 obtain ⟨a,c,rfl⟩:=lY hv;obtain ⟨a',c',rfl⟩:=lY hv';obtain ⟨_,_,hrow⟩:=uy hv;obtain ⟨_,_,hrow'⟩:=uy hv';have HR:=hid hrow;have Sl:=hid hrow';have PW:=hid hw;obtain ⟨n,hn⟩:∃ n,l.length=n:=⟨_,rfl⟩;have HN:=hid hn;rw [hn] at hlb ⊢;clear hv hv' hrow hrow' hw hn
 go_enter Tryz.func10,Tryz.ntmps10
 go_wp2_with fail
 go_loopw [5] (fun iv wr=>∃ i:Nat,iv=.int .i64 i∧i≤n∧Hid (Below w.heap.size w wr)) (fun iv _=>n - (Go.RowKit.intOf iv).toNat)
 case atStart=>exact ⟨0,rfl,aL _,hid (aj _ _)⟩
 case round =>
  obtain ⟨i,rfl,hi,HB⟩:=hrel
  by_cases hlt:i<n
  ·have hll:i<l.length:=by rw [HN.out];exact hlt
   obtain ⟨g,off,rfl,_,hg,hc⟩:=HR.out.resolve_left (fun h=>by rw [h] at hll;exact bq _ hll);obtain ⟨g',off',rfl,_,hg',hc'⟩:=Sl.out.resolve_left (fun h=>by rw [h] at hll;exact bq _ hll);obtain ⟨f,e,tx,k,t,pf,pe,ks,aa,cc,x,r,hK⟩:=Ba (hc i hll);obtain ⟨f',e',tx',k',t',pf',pe',ks',Io,Ip,x',r',hK'⟩:=Ba (hc' i hll);have heq:=hK.eq.symm.trans hK'.eq;simp only [ku.mk.injEq,Pt.mk.injEq] at heq;obtain ⟨rfl,rfl,rfl,⟨rfl,rfl,rfl,rfl,rfl⟩,rfl,rfl⟩:=heq;have hK:=hK.below HB.out;have hK':=hK'.below HB.out
   have hwp:rT (.mk k t pf pe ks)≤1099511627776:=by have h:=PW.out _ (bF hll);rw [hK.eq] at h;exact h
   have cP:=fun X (hX:Below wr.heap.size wr X)=>J.Sk (.mk k t pf pe ks) (.mk k t pf pe ks) (.slice aa ks.length cc) (.slice Io ks.length Ip) R R' X (dH hK.kids hX) (dH hK'.kids hX) hwp hwp
   simp only [OG,arg,five] at cP;obtain ⟨y0,hy0⟩:∃ x,aU k=x:=⟨_,rfl⟩;obtain ⟨y1,hy1⟩:∃ x,aU t=x:=⟨_,rfl⟩;obtain ⟨z0,hz0⟩:∃ x,ks.length=x:=⟨_,rfl⟩
   have kG:Hid (∀ X,Below wr.heap.size wr X→X.cell? ⟨g',off'+i*10,none⟩=some (.int .i64 f)∧X.cell? ⟨g',off'+i*10+1,none⟩=some (.int .i64 e)∧X.cell? ⟨g',off'+i*10+2,none⟩=some (.string tx)∧X.cell? ⟨g',off'+i*10+3,none⟩=some (.string y0)∧X.cell? ⟨g',off'+i*10+3+1,none⟩=some (.string y1)∧X.cell? ⟨g',off'+i*10+3+2,none⟩=some (.int .i64 pf)∧X.cell? ⟨g',off'+i*10+3+3,none⟩=some (.int .i64 pe)∧X.cell? ⟨g',off'+i*10+3+4,none⟩=some (.slice Io z0 Ip)∧X.cell? ⟨g',off'+i*10+8,none⟩=some (.int .i64 x)∧X.cell? ⟨g',off'+i*10+9,none⟩=some (.int .i64 r)):=hid (fun X hX=>by
    have h:=hK'.below hX;rw [← hy0,← hy1,← hz0]
    exact ⟨h.c0,h.c1,h.c2,h.c3,h.c4,h.c5,h.c6,h.c7,h.c8,h.c9⟩)
   have dP:Hid (∀ X,Below wr.heap.size wr X→X.cell? ⟨g,off+i*10,none⟩=some (.int .i64 f)∧X.cell? ⟨g,off+i*10+1,none⟩=some (.int .i64 e)∧X.cell? ⟨g,off+i*10+2,none⟩=some (.string tx)∧X.cell? ⟨g,off+i*10+3,none⟩=some (.string y0)∧X.cell? ⟨g,off+i*10+3+1,none⟩=some (.string y1)∧X.cell? ⟨g,off+i*10+3+2,none⟩=some (.int .i64 pf)∧X.cell? ⟨g,off+i*10+3+3,none⟩=some (.int .i64 pe)∧X.cell? ⟨g,off+i*10+3+4,none⟩=some (.slice aa z0 cc)∧X.cell? ⟨g,off+i*10+8,none⟩=some (.int .i64 x)∧X.cell? ⟨g,off+i*10+9,none⟩=some (.int .i64 r)):=hid (fun X hX=>by
    have h:=hK.below hX;rw [← hy0,← hy1,← hz0]
    exact ⟨h.c0,h.c1,h.c2,h.c3,h.c4,h.c5,h.c6,h.c7,h.c8,h.c9⟩)
   rw [hy0,hy1,hz0] at cP;have HC:=hid cP
   have e3:(x != x)=false:=by simp
   have e4:(r != r)=false:=by simp
   have e5:((f:Int) != (f:Int))=false:=by simp
   have e6:((e:Int) != (e:Int))=false:=by simp
   have e7:(tx.toList==tx.toList)=true:=by simp
   clear hK hK' hc hc' cP hy0 hy1 hz0 hwp
   go_upto_region 6 with fail
   refine aS (S:=fun X=>Below wr.heap.size wr X) (by kernel_rfl) (aj wr.heap.size wr).drew fun ag=>?_
   obtain ⟨V,hV⟩:∃ V,wr.drew=V:=⟨_,rfl⟩;rw [hV] at ag ⊢;clear hV;have HV:=hid ag;refine OP.m 0 rfl (.slice (some ⟨g,off,none⟩) n c) ag ?_;simp only [OP.s];refine OP.m 1 rfl (.int .i64 i) ag ?_;simp only [OP.s];refine OP.t 2 rfl (.pointer (some ⟨g,off+i*10,none⟩)) (fun X hX=>kZ 18 19 g off n i c X rfl rfl rfl hlt) ag ?_;simp only [OP.s];refine OP.m 3 rfl (.pointer (some ⟨g,off+i*10+3,none⟩)) ag ?_;simp only [OP.s];refine OP.t 4 rfl (.agg #[.string y0,.string y1,.int .i64 pf,.int .i64 pe,.slice aa z0 cc]) (fun X hX=>by obtain ⟨k0,k1,k2,k3,k4,k5,k6,k7,k8,k9⟩:=dP.out X hX;go_simp) ag ?_;simp only [OP.s];refine OP.m 5 rfl (.slice (some ⟨g',off',none⟩) n c') ag ?_;simp only [OP.s];refine OP.m 6 rfl (.int .i64 i) ag ?_;simp only [OP.s];refine OP.t 7 rfl (.pointer (some ⟨g',off'+i*10,none⟩)) (fun X hX=>kZ 23 24 g' off' n i c' X rfl rfl rfl hlt) ag ?_;simp only [OP.s];refine OP.m 8 rfl (.pointer (some ⟨g',off'+i*10+3,none⟩)) ag ?_;simp only [OP.s];refine OP.t 9 rfl (.agg #[.string y0,.string y1,.int .i64 pf,.int .i64 pe,.slice Io z0 Ip]) (fun X hX=>by obtain ⟨k0,k1,k2,k3,k4,k5,k6,k7,k8,k9⟩:=kG.out X hX;go_simp) ag ?_;simp only [OP.s]
   refine OP.r 10 rfl fun K hK=>?_
   go_simp
   go_at_call 24
   refine (HC.out V HV.out).mono ?_;rintro e' w2 ⟨rfl,hb2⟩;have hB2:=HV.out.trans (hb2.mono HV.out.size);dsimp only
   refine hK.out _ _ hB2 fun ag=>?_
   try simp only [OP.s]
   clear hK K;refine OP.m 11 rfl (.bool true) ag ?_;simp only [OP.s];refine bL (by kernel_rfl) ?_ _;clear ag HC HV hb2
   go_upto_region 7 with fail
   refine aS (S:=fun X=>Below wr.heap.size wr X) (by kernel_rfl) (rq hB2) fun ag=>?_
   obtain ⟨V2,hV2⟩:∃ V,w2.drew=V:=⟨_,rfl⟩;rw [hV2] at ag ⊢;have HB2:=hid (HB.out.trans (ag.mono HB.out.size));clear hV2 hB2;refine OP.m 0 rfl (.bool true) ag ?_;simp only [OP.s];refine OP.t 1 rfl (.bool false) (fun X hX=>by go_simp) ag ?_;simp only [OP.s];refine OP.m 2 rfl (.bool false) ag ?_;simp only [OP.s];refine OP.m 3 rfl (.slice (some ⟨g,off,none⟩) n c) ag ?_;simp only [OP.s];refine OP.m 4 rfl (.int .i64 i) ag ?_;simp only [OP.s];refine OP.t 5 rfl (.pointer (some ⟨g,off+i*10,none⟩)) (fun X hX=>kZ 32 33 g off n i c X rfl rfl rfl hlt) ag ?_;simp only [OP.s];refine OP.m 6 rfl (.pointer (some ⟨g,off+i*10,none⟩)) ag ?_;simp only [OP.s];refine OP.t 7 rfl (.int .i64 f) (fun X hX=>by obtain ⟨k0,k1,k2,k3,k4,k5,k6,k7,k8,k9⟩:=dP.out X hX;go_simp) ag ?_;simp only [OP.s];refine OP.m 8 rfl (.slice (some ⟨g',off',none⟩) n c') ag ?_;simp only [OP.s];refine OP.m 9 rfl (.int .i64 i) ag ?_;simp only [OP.s];refine OP.t 10 rfl (.pointer (some ⟨g',off'+i*10,none⟩)) (fun X hX=>kZ 37 38 g' off' n i c' X rfl rfl rfl hlt) ag ?_;simp only [OP.s];refine OP.m 11 rfl (.pointer (some ⟨g',off'+i*10,none⟩)) ag ?_;simp only [OP.s];refine OP.t 12 rfl (.int .i64 f) (fun X hX=>by obtain ⟨k0,k1,k2,k3,k4,k5,k6,k7,k8,k9⟩:=kG.out X hX;go_simp) ag ?_;simp only [OP.s];refine OP.t 13 rfl (.bool false) (fun X hX=>by go_simp) ag ?_;simp only [OP.s];refine OP.m 14 rfl (.bool false) ag ?_;simp only [OP.s];refine OP.m 15 rfl (.bool false) ag ?_;simp only [OP.s]
   refine OP.m 16 rfl (.slice (some ⟨g,off,none⟩) n c) ag ?_;simp only [OP.s];refine OP.m 17 rfl (.int .i64 i) ag ?_;simp only [OP.s];refine OP.t 18 rfl (.pointer (some ⟨g,off+i*10,none⟩)) (fun X hX=>kZ 45 46 g off n i c X rfl rfl rfl hlt) ag ?_;simp only [OP.s];refine OP.m 19 rfl (.pointer (some ⟨g,off+i*10+1,none⟩)) ag ?_;simp only [OP.s];refine OP.t 20 rfl (.int .i64 e) (fun X hX=>by obtain ⟨k0,k1,k2,k3,k4,k5,k6,k7,k8,k9⟩:=dP.out X hX;go_simp) ag ?_;simp only [OP.s];refine OP.m 21 rfl (.slice (some ⟨g',off',none⟩) n c') ag ?_;simp only [OP.s];refine OP.m 22 rfl (.int .i64 i) ag ?_;simp only [OP.s];refine OP.t 23 rfl (.pointer (some ⟨g',off'+i*10,none⟩)) (fun X hX=>kZ 50 51 g' off' n i c' X rfl rfl rfl hlt) ag ?_;simp only [OP.s];refine OP.m 24 rfl (.pointer (some ⟨g',off'+i*10+1,none⟩)) ag ?_;simp only [OP.s];refine OP.t 25 rfl (.int .i64 e) (fun X hX=>by obtain ⟨k0,k1,k2,k3,k4,k5,k6,k7,k8,k9⟩:=kG.out X hX;go_simp) ag ?_;simp only [OP.s];refine OP.t 26 rfl (.bool false) (fun X hX=>by go_simp) ag ?_;simp only [OP.s];refine OP.m 27 rfl (.bool false) ag ?_;simp only [OP.s];refine OP.m 28 rfl (.bool false) ag ?_;simp only [OP.s];refine OP.m 29 rfl (.slice (some ⟨g,off,none⟩) n c) ag ?_;simp only [OP.s];refine OP.m 30 rfl (.int .i64 i) ag ?_;simp only [OP.s];refine OP.t 31 rfl (.pointer (some ⟨g,off+i*10,none⟩)) (fun X hX=>kZ 58 59 g off n i c X rfl rfl rfl hlt) ag ?_;simp only [OP.s];refine OP.m 32 rfl (.pointer (some ⟨g,off+i*10+2,none⟩)) ag ?_;simp only [OP.s]
   refine OP.t 33 rfl (.string tx) (fun X hX=>by obtain ⟨k0,k1,k2,k3,k4,k5,k6,k7,k8,k9⟩:=dP.out X hX;go_simp) ag ?_;simp only [OP.s];refine OP.m 34 rfl (.slice (some ⟨g',off',none⟩) n c') ag ?_;simp only [OP.s];refine OP.m 35 rfl (.int .i64 i) ag ?_;simp only [OP.s];refine OP.t 36 rfl (.pointer (some ⟨g',off'+i*10,none⟩)) (fun X hX=>kZ 63 64 g' off' n i c' X rfl rfl rfl hlt) ag ?_;simp only [OP.s];refine OP.m 37 rfl (.pointer (some ⟨g',off'+i*10+2,none⟩)) ag ?_;simp only [OP.s];refine OP.t 38 rfl (.string tx) (fun X hX=>by obtain ⟨k0,k1,k2,k3,k4,k5,k6,k7,k8,k9⟩:=kG.out X hX;go_simp) ag ?_;simp only [OP.s];refine OP.t 39 rfl (.bool false) (fun X hX=>by go_simp) ag ?_;simp only [OP.s];refine OP.m 40 rfl (.bool false) ag ?_;simp only [OP.s];refine OP.m 41 rfl (.bool false) ag ?_;simp only [OP.s];refine OP.m 42 rfl (.slice (some ⟨g,off,none⟩) n c) ag ?_;simp only [OP.s];refine OP.m 43 rfl (.int .i64 i) ag ?_;simp only [OP.s];refine OP.t 44 rfl (.pointer (some ⟨g,off+i*10,none⟩)) (fun X hX=>kZ 71 72 g off n i c X rfl rfl rfl hlt) ag ?_;simp only [OP.s];refine OP.m 45 rfl (.pointer (some ⟨g,off+i*10+8,none⟩)) ag ?_;simp only [OP.s];refine OP.t 46 rfl (.int .i64 x) (fun X hX=>by obtain ⟨k0,k1,k2,k3,k4,k5,k6,k7,k8,k9⟩:=dP.out X hX;go_simp) ag ?_;simp only [OP.s];refine OP.m 47 rfl (.slice (some ⟨g',off',none⟩) n c') ag ?_;simp only [OP.s];refine OP.m 48 rfl (.int .i64 i) ag ?_;simp only [OP.s]
   refine OP.t 49 rfl (.pointer (some ⟨g',off'+i*10,none⟩)) (fun X hX=>kZ 76 77 g' off' n i c' X rfl rfl rfl hlt) ag ?_;simp only [OP.s];refine OP.m 50 rfl (.pointer (some ⟨g',off'+i*10+8,none⟩)) ag ?_;simp only [OP.s];refine OP.t 51 rfl (.int .i64 x) (fun X hX=>by obtain ⟨k0,k1,k2,k3,k4,k5,k6,k7,k8,k9⟩:=kG.out X hX;go_simp) ag ?_;simp only [OP.s];refine OP.t 52 rfl (.bool false) (fun X hX=>by go_simp) ag ?_;simp only [OP.s];refine OP.m 53 rfl (.bool false) ag ?_;simp only [OP.s];refine OP.m 54 rfl (.bool false) ag ?_;simp only [OP.s];refine OP.m 55 rfl (.slice (some ⟨g,off,none⟩) n c) ag ?_;simp only [OP.s];refine OP.m 56 rfl (.int .i64 i) ag ?_;simp only [OP.s];refine OP.t 57 rfl (.pointer (some ⟨g,off+i*10,none⟩)) (fun X hX=>kZ 84 85 g off n i c X rfl rfl rfl hlt) ag ?_;simp only [OP.s];refine OP.m 58 rfl (.pointer (some ⟨g,off+i*10+9,none⟩)) ag ?_;simp only [OP.s];refine OP.t 59 rfl (.int .i64 r) (fun X hX=>by obtain ⟨k0,k1,k2,k3,k4,k5,k6,k7,k8,k9⟩:=dP.out X hX;go_simp) ag ?_;simp only [OP.s];refine OP.m 60 rfl (.slice (some ⟨g',off',none⟩) n c') ag ?_;simp only [OP.s];refine OP.m 61 rfl (.int .i64 i) ag ?_;simp only [OP.s];refine OP.t 62 rfl (.pointer (some ⟨g',off'+i*10,none⟩)) (fun X hX=>kZ 89 90 g' off' n i c' X rfl rfl rfl hlt) ag ?_;simp only [OP.s];refine OP.m 63 rfl (.pointer (some ⟨g',off'+i*10+9,none⟩)) ag ?_;simp only [OP.s];refine OP.t 64 rfl (.int .i64 r) (fun X hX=>by obtain ⟨k0,k1,k2,k3,k4,k5,k6,k7,k8,k9⟩:=kG.out X hX;go_simp) ag ?_;simp only [OP.s]
   refine OP.t 65 rfl (.bool false) (fun X hX=>by go_simp) ag ?_;simp only [OP.s];refine OP.m 66 rfl (.bool false) ag ?_;simp only [OP.s];refine bL (by kernel_rfl) ?_ _;clear ag
   go_wp2_with fail
   go_roundw
   case rel=>exact ⟨i+1,by go_num,by omega,HB2⟩
   case measure=>simp [Go.RowKit.intOf];omega
  ·obtain rfl:i=n:=by omega
   go_wp2_with fail
   go_ret
   exact ⟨rfl,HB.out⟩
end Ud
namespace T
open Go.RowKit
open Go.Lib hiding intOf
open U S L
structure Mv (B d:Nat) (w w':World):Prop where
 os:w'.os=w.os
 tape:w'.tape=w.tape
 output:w'.output=w.output
 size:w.heap.size≤w'.heap.size
 block:∀ k,k<B→k≠d→w'.heap[k]?=w.heap[k]?
theorem Mv.refl (B d:Nat) (w:World):Mv B d w w:=⟨rfl,rfl,rfl,ae _,fun _ _ _=>rfl⟩
theorem Mv.trans {B d:Nat} {a b c:World} (h:Mv B d a b) (k:Mv B d b c):Mv B d a c :=
 ⟨k.os.trans h.os,k.tape.trans h.tape,k.output.trans h.output,aJ h.size k.size,fun i hi hd=>(k.block i hi hd).trans (h.block i hi hd)⟩
theorem Mv.mono {B B' d:Nat} {w w':World} (h:Mv B d w w') (hB:B'≤B):Mv B' d w w':=⟨h.os,h.tape,h.output,h.size,fun k hk=>h.block k (aD hk hB)⟩
theorem Mv.of_below {B d:Nat} {w w':World} (h:Below B w w'):Mv B d w w':=⟨h.os,h.tape,h.output,h.size,fun k hk _=>h.block k hk⟩
theorem Mv.drewN {B d:Nat} {a w:World} (h:Mv B d a w) (n:Nat):Mv B d a (w.drewN n):=⟨h.os,h.tape,h.output,h.size,h.block⟩
theorem Mv.setCell {B d:Nat} {a w:World} (h:Mv B d a w) (i:Nat) (v:Value):Mv B d a (w.setCell ⟨d,i,none⟩ v):=by
 refine ⟨h.os,h.tape,h.output,by simpa using h.size,fun k hk hd=>?_⟩;rw [ak _ _ _ _ hd]
 exact h.block k hk hd
theorem Mv.alloc {B d:Nat} {a w:World} (h:Mv B d a w) (hB:B≤w.heap.size) (o:Obj):Mv B d a (w.alloc o) :=
 h.trans (Mv.of_below ((aj B w).alloc hB o))
theorem Mv.below {B d:Nat} {w w':World} (h:Mv B d w w') (hd:B≤d):Below B w w':=⟨h.os,h.tape,h.output,h.size,fun k hk=>h.block k hk (by omega)⟩
def Rd (d:Nat) (lv:Value) (i:Nat) (b:Bool) (W:World):Prop:=W.heap[d]?=some (.cells #[lv,.int .i64 i,.bool b] 82 (0,0))
def Tk (d:Nat) (L:List aZ) (lv:Value) (W:World):Prop:=∃ la cap,lv=.slice la L.length cap∧(L=[]∨∃ g off,la=some ⟨g,off,none⟩∧g≠d∧g<W.heap.size∧Cr W g off L)
section
variable {d:Nat} {lv:Value} {i:Nat} {b:Bool} {w w':World} {L:List aZ}
theorem Rd.c0 (h:Rd d lv i b w):w.cell? ⟨d,0,none⟩=some lv:=by unfold Rd at h;simp [World.cell?,h]
theorem Rd.c1 (h:Rd d lv i b w):w.cell? ⟨d,1,none⟩=some (.int .i64 i):=by unfold Rd at h;simp [World.cell?,h]
theorem Rd.c2 (h:Rd d lv i b w):w.cell? ⟨d,2,none⟩=some (.bool b):=by unfold Rd at h;simp [World.cell?,h]
theorem Rd.f1 (h:Rd d lv i b w):w.frozen? ⟨d,1,none⟩=false:=by unfold Rd at h;simp [World.frozen?,h]
theorem Rd.f2 (h:Rd d lv i b w):w.frozen? ⟨d,2,none⟩=false:=by unfold Rd at h;simp [World.frozen?,h]
theorem Rd.lt (h:Rd d lv i b w):d<w.heap.size:=(af.1 h).1
theorem Rd.set1 (h:Rd d lv i b w) {j:Nat} (x:Int) (hx:x=j):Rd d lv j b (w.setCell ⟨d,1,none⟩ (.int .i64 x)):=by subst hx;exact az h _
theorem Rd.set2 (h:Rd d lv i b w) (x:Bool):Rd d lv i x (w.setCell ⟨d,2,none⟩ (.bool x)):=az h _
theorem Rd.below (h:Rd d lv i b w) (hb:Below w.heap.size w w'):Rd d lv i b w':=(hb.block d h.lt).trans h
theorem Rd.drewN (h:Rd d lv i b w) (n:Nat):Rd d lv i b (w.drewN n):=h
theorem Tk.mv {B:Nat} (h:Tk d L lv w) (hm:Mv B d w w') (hB:w.heap.size≤B):Tk d L lv w':=by
 obtain ⟨la,cap,h1,h2⟩:=h;refine ⟨la,cap,h1,?_⟩
 rcases h2 with h2|⟨g,off,h3,h4,h5,h6⟩
 ·exact .inl h2
 ·refine .inr ⟨g,off,h3,h4,aD h5 hm.size,fun j u hj=>?_⟩
  have h7:=h6 j u hj;have h8:=hm.block g (by omega) h4
  unfold World.cell? at h7 ⊢
  rw [h8];exact h7
end
theorem lI {d:Nat} {lv:Value} {w:World} {L:List aZ} {i:Nat} (h:Tk d L lv w) (hi:i<L.length):∃ g off cap,lv=.slice (some ⟨g,off,none⟩) L.length cap∧g≠d ∧
  w.cell? ⟨g,off+i*4,none⟩=some (.int .i64 L[i].w)∧w.cell? ⟨g,off+i*4+1,none⟩=some (.string ⟨L[i].t.toArray⟩)∧w.cell? ⟨g,off+i*4+2,none⟩=some (.int .i64 L[i].f)∧w.cell? ⟨g,off+i*4+3,none⟩=some (.int .i64 L[i].e):=by
 obtain ⟨la,cap,rfl,h2⟩:=h;obtain ⟨g,off,rfl,h4,h5,h6⟩:=h2.resolve_left (fun e=>by rw [e] at hi;exact bq _ hi);obtain ⟨c0,c1,c2,c3⟩:=xM i h6 hi
 exact ⟨g,off,cap,rfl,h4,c0,c1,c2,c3⟩
def Idle (R:Value) (w:World) (e:Ending) (w':World):Prop:=e=.returned R∧∃ k,w'=w.drewN k
theorem He {L:List aZ} (x:By) {i:Nat} (h:¬ i<L.length):bG L x i=false:=by
 unfold bG;rw [dh (by omega)]
theorem YZ {L:List aZ} (x:By) {i:Nat} (h:i<L.length):bG L x i=(L[i].t==x&&(L[i].w==4||L[i].w==3)):=by
 unfold bG;rw [aC h]
theorem rO {L:List aZ} (x:Int) {i:Nat} (h:¬ i<L.length):bT L x i=false:=by
 unfold bT;rw [dh (by omega)]
theorem tN {L:List aZ} (x:Int) {i:Nat} (h:i<L.length):bT L x i=(L[i].w==x):=by
 unfold bT;rw [aC h]
theorem iM (d:Nat) (L:List aZ) (lv:Value) (i:Nat) (b:Bool) (x:By) (w:World) (hR:Rd d lv i b w) (hT:Tk d L lv w) :
  Calls Tryz.prog 40 #[.pointer (some ⟨d,0,none⟩),.string (aU x)] w (Idle (.bool (!b&&bG L x i)) w):=by
 have c0:=hR.c0;have c1:=hR.c1;have c2:=hR.c2;obtain ⟨R,hR2⟩:∃ R,(!b&&bG L x i)=R:=⟨_,rfl⟩;rw [hR2]
 cases b
 ·by_cases hi:i<L.length
  ·obtain ⟨g,off,cap,rfl,hgd,k0,k1,_,_⟩:=lI hT hi
   rw [YZ x hi,Bool.not_false,Bool.true_and] at hR2;generalize L[i]=t at k0 k1 hR2;obtain ⟨tw,tt,tf,te⟩:=t;dsimp only at k0 k1 hR2;obtain ⟨y,hy⟩:∃ y:ByteArray,(⟨tt.toArray⟩:ByteArray)=y:=⟨_,rfl⟩;obtain ⟨z,hz⟩:∃ y:ByteArray,aU x=y:=⟨_,rfl⟩
   have hyl:tt=y.toList:=by rw [← hy,bu]
   have hzl:x=z.toList:=by rw [← hz,bu];rfl
   rw [hy] at k1;rw [hz];rw [hyl,hzl] at hR2;obtain ⟨n,hn⟩:∃ n,L.length=n:=⟨_,rfl⟩;rw [hn] at hi c0;clear hR hT hy hz hyl hzl hn;obtain ⟨e1,he1⟩:∃ e,(y.toList==z.toList)=e:=⟨_,rfl⟩;obtain ⟨e2,he2⟩:∃ e,(tw==4)=e:=⟨_,rfl⟩;obtain ⟨e3,he3⟩:∃ e,(tw==3)=e:=⟨_,rfl⟩;rw [he1,he2,he3] at hR2
   cases e1
   ·have HF:=hid (show R=false by rw [← hR2];rfl)
    clear hR2
    go_enter Tryz.func40,Tryz.ntmps40
    go_upto_region 1 with fail
    go_quiet (fail)
    go_wp2_with fail
    go_ret
    exact ⟨by rw [HF.out];rfl,_,rfl⟩
   ·cases e2
    focus
     cases e3
     ·have HF:=hid (show R=false by rw [← hR2];rfl)
      clear hR2
      go_enter Tryz.func40,Tryz.ntmps40
      go_upto_region 1 with fail
      go_quiet (fail)
      go_wp2_with fail
      go_ret
      exact ⟨by rw [HF.out];rfl,_,rfl⟩
    rotate_left
    rotate_left
    all_goals
     have HF:=hid (show R=true by rw [← hR2];rfl);clear hR2
     go_enter Tryz.func40,Tryz.ntmps40
     go_upto_region 1 with fail
     go_quiet (fail)
     go_wp2_with fail
     go_ret
     exact ⟨by rw [HF.out];rfl,_,rfl⟩
  ·obtain ⟨la,cap,rfl,_⟩:=hT
   have HF:=hid (show R=false by rw [← hR2,He x hi];rfl);obtain ⟨n,hn⟩:∃ n,L.length=n:=⟨_,rfl⟩;rw [hn] at hi c0;clear hR2 hR hn
   go_enter Tryz.func40,Tryz.ntmps40
   go_upto_region 1 with fail
   go_quiet (fail)
   go_wp2_with fail
   go_ret
   exact ⟨by rw [HF.out];rfl,_,rfl⟩
 ·have HF:=hid (show R=false by rw [← hR2];rfl)
  clear hR2 hR hT
  go_enter Tryz.func40,Tryz.ntmps40
  go_upto_region 1 with fail
  go_quiet (fail)
  go_wp2_with fail
  go_ret
  exact ⟨by rw [HF.out];rfl,_,rfl⟩
end T
end Go.Proofs.YtojoahlpgmnbnaaGreatDoor
