/- What the claim needs of the texts URKept. -/
import Derived.Test.YtojoahlpgmnbnaaGreatDoorUWOp
import Derived.Test.YtojoahlpgmnbnaaGreatDoorUW27
set_option maxRecDepth 20000
set_option maxHeartbeats 16000000
namespace Go.Proofs.YtojoahlpgmnbnaaGreatDoor
namespace Ud
open Go.RowKit
open Go.Lib hiding intOf
open U S Q T J
open K (cZ)
theorem MM (A B:List ByteArray):qm A B=qm B A:=by
 have h1:nk A B=nk B A:=by
  refine (tV A B).one ?_;obtain ⟨h1,h2,h3⟩:=tV B A;refine ⟨by omega,fun i hi=>by rw [Nw];exact h2 i hi,?_⟩
  rcases h3 with h3|h3
  ·left;omega
  ·right;rw [Nw];exact h3
 have h2:mI A B=mI B A:=by
  refine (wF A B).one ?_;obtain ⟨g1,g2,g3⟩:=wF B A;rw [h1];refine ⟨by omega,fun i hi=>by rw [Ny];exact g2 i hi,?_⟩
  rcases g3 with g3|g3
  ·left;omega
  ·right;rw [Ny];exact g3
 unfold qm
 rw [h1,h2]
theorem T7 {x y:ByteArray} {b:Bool} (h:decide (x=y)=b):(x.toList==y.toList)=b:=by
 rw [← h,gq,beq_iff_eq,decide_eq_true_iff]
 exact ⟨fun h=>ByteArray.ext (Array.ext' (by rw [← bg,← bg];exact h)),fun h=>by rw [h]⟩
theorem Kv (s t:ByteArray) (w:World) (hs:s.size≤600) (ht:t.size≤600) :
  Calls Tryz.prog 15 #[.string s,.string t] w fun e w'=>e=.returned (.int .i64 (qm (mG (decls s)) (mG (decls t)):Nat))∧Below w.heap.size w w':=by
 have c1:=uW s w hs;have QD:=hid (fun X=>uW t X ht);have hb1:=nW s;have hb2:=nW t;obtain ⟨DA,hDA⟩:∃ D,decls s=D:=⟨_,rfl⟩;obtain ⟨DB,hDB⟩:∃ D,decls t=D:=⟨_,rfl⟩;rw [hDA] at c1 hb1 ⊢;rw [hDB] at QD hb2 ⊢;clear hDA hDB;have hla:=jP DA;have hlb:=jP DB;obtain ⟨TA,hTA⟩:∃ T,mG DA=T:=⟨_,rfl⟩;obtain ⟨TB,hTB⟩:∃ T,mG DB=T:=⟨_,rfl⟩;rw [hTA] at hla ⊢;rw [hTB] at hlb ⊢;have HCH:=hid (tV TA TB);have HCT:=hid (wF TA TB);have HKP:Hid (qm TA TB=nk TA TB+mI TA TB):=hid rfl;obtain ⟨na,hna⟩:∃ n,TA.length=n:=⟨_,rfl⟩;obtain ⟨nb,hnb⟩:∃ n,TB.length=n:=⟨_,rfl⟩;have HNA:=hid hna;have Vg:=hid hnb;rw [hna] at HCH HCT hla;rw [hnb] at HCH HCT hlb;obtain ⟨K,hK⟩:∃ K,qm TA TB=K:=⟨_,rfl⟩;rw [hK] at HKP ⊢
 have aj4:na≤601:=by omega
 have aj5:nb≤601:=by omega
 have HTA:=hid (And.intro hTA hTB);clear hTA hTB hna hnb hb1 hb2 hla hlb hK
 go_enter Tryz.func15,Tryz.ntmps15
 go_wp2_with fail
 refine c1.mono ?_;rintro e w1 ⟨v1,rfl,hv1,hB1⟩;have c2:=QD.out w1;clear c1
 go_wp2_with fail
 refine c2.mono ?_;rintro e w2 ⟨v2,rfl,hv2,hB2⟩;have ta:=Mc (hv1.later hB2);have tb:=Mc hv2;rw [HTA.out.1] at ta;rw [HTA.out.2] at tb;have HB2:=hid (hB1.trans (hB2.mono hB1.size));obtain ⟨a,c,rfl,hra⟩:=ta;obtain ⟨a',c',rfl,hrb⟩:=tb;have HRA:=hid hra;have ZN:=hid hrb;rw [HNA.out,Vg.out];clear c2 QD hv1 hB1 hv2 hB2 hra hrb
 go_wp2_with fail
 go_loopw [7] (fun iv wr=>∃ i:Nat,iv=.int .i64 i∧i≤na∧i≤nb∧Hid (∀ j,j<i→gH TA TB j=true)∧Hid (Below w2.heap.size w2 wr)) (fun iv _=>na - (Go.RowKit.intOf iv).toNat)
 case atStart=>exact ⟨0,rfl,aM _,aM _,hid (fun j h=>absurd h (aS _)),hid (ah _ _)⟩
 case round =>
  obtain ⟨i,rfl,hia,hib,HG,HB⟩:=hrel
  go_upto_region 4 with fail
  go_cut [35] (fun v wx=>∃ b:Bool,v=.bool b∧Hid ((b=true→i<na∧i<nb∧gH TA TB i=true)∧(b=false→nk TA TB=i))∧Hid (Below w2.heap.size w2 wx))
  case first =>
   by_cases hab:i<na∧i<nb
   ·obtain ⟨hlt,Z5⟩:=hab
    have hll:i<TA.length:=by rw [HNA.out];exact hlt
    have EO:i<TB.length:=by rw [Vg.out];exact Z5
    obtain ⟨g,off,rfl,hca⟩:=HRA.out.resolve_left (fun h=>by rw [h] at hll;exact aS _ hll);obtain ⟨g',off',rfl,hcb⟩:=ZN.out.resolve_left (fun h=>by rw [h] at EO;exact aS _ EO);have q0:=hca i hll;have q1:=hcb i EO;obtain ⟨tx,htx⟩:∃ t,TA[i]=t:=⟨_,rfl⟩;obtain ⟨ty,hty⟩:∃ t,TB[i]=t:=⟨_,rfl⟩;rw [htx] at q0;rw [hty] at q1;obtain ⟨bb,hbb⟩:∃ b,decide (tx=ty)=b:=⟨_,rfl⟩;have HGI:Hid (gH TA TB i=bb):=hid (by unfold gH;rw [aB hll,aB EO,htx,hty,← hbb];simp);have VQ:=T7 hbb;have r0:=(HB.out.cell (aY w2 _ q0)).trans q0;have r1:=(HB.out.cell (aY w2 _ q1)).trans q1;clear hca hcb htx hty hbb q0 q1
    refine aK (S:=fun X=>X.cell? ⟨g,off+i*10+2,none⟩=some (.string tx)∧X.cell? ⟨g',off'+i*10+2,none⟩=some (.string ty)) (by kernel_rfl) ⟨r0,r1⟩ fun ag=>?_
    have HB3:=hid (mY HB.out);obtain ⟨V,hV⟩:∃ V,wr.drew=V:=⟨_,rfl⟩;rw [hV] at ag HB3 ⊢;clear hV r0 r1;refine OP.m 0 rfl (.int .i64 i) ag ?_;simp only [OP.s];refine OP.m 1 rfl (.slice (some ⟨g,off,none⟩) na c) ag ?_;simp only [OP.s];refine OP.t 2 rfl (.int .i64 na) (fun X hX=>by go_simp) ag ?_;simp only [OP.s];refine OP.t 3 rfl (.bool true) (fun X hX=>by go_simp) ag ?_;simp only [OP.s];refine OP.m 4 rfl (.bool true) ag ?_;simp only [OP.s];refine OP.m 5 rfl (.int .i64 i) ag ?_;simp only [OP.s];refine OP.m 6 rfl (.slice (some ⟨g',off',none⟩) nb c') ag ?_;simp only [OP.s];refine OP.t 7 rfl (.int .i64 nb) (fun X hX=>by go_simp) ag ?_;simp only [OP.s];refine OP.t 8 rfl (.bool true) (fun X hX=>by go_simp) ag ?_;simp only [OP.s];refine OP.m 9 rfl (.bool true) ag ?_;simp only [OP.s];refine OP.m 10 rfl (.bool true) ag ?_;simp only [OP.s];refine OP.m 11 rfl (.slice (some ⟨g,off,none⟩) na c) ag ?_;simp only [OP.s];refine OP.m 12 rfl (.int .i64 i) ag ?_;simp only [OP.s];refine OP.t 13 rfl (.pointer (some ⟨g,off+i*10,none⟩)) (fun X hX=>jA 24 25 g off na i c X rfl rfl rfl (by omega)) ag ?_;simp only [OP.s];refine OP.m 14 rfl (.pointer (some ⟨g,off+i*10+2,none⟩)) ag ?_;simp only [OP.s];refine OP.t 15 rfl (.string tx) (fun X hX=>by obtain ⟨c0,c1⟩:=hX;go_simp) ag ?_;simp only [OP.s];refine OP.m 16 rfl (.slice (some ⟨g',off',none⟩) nb c') ag ?_;simp only [OP.s];refine OP.m 17 rfl (.int .i64 i) ag ?_;simp only [OP.s]
    refine OP.t 18 rfl (.pointer (some ⟨g',off'+i*10,none⟩)) (fun X hX=>jA 29 30 g' off' nb i c' X rfl rfl rfl (by omega)) ag ?_;simp only [OP.s];refine OP.m 19 rfl (.pointer (some ⟨g',off'+i*10+2,none⟩)) ag ?_;simp only [OP.s];refine OP.t 20 rfl (.string ty) (fun X hX=>by obtain ⟨c0,c1⟩:=hX;go_simp) ag ?_;simp only [OP.s];refine OP.t 21 rfl (.bool bb) (fun X hX=>by go_simp) ag ?_;simp only [OP.s];refine OP.m 22 rfl (.bool bb) ag ?_;simp only [OP.s];refine bz (by kernel_rfl) ?_ _;clear ag
    go_wp2_with fail
    go_meet
    exact ⟨bb,rfl,hid ⟨fun h=>⟨hlt,Z5,HGI.out.trans h⟩,fun h=>HCH.out.one ⟨by omega,HG.out,.inr (HGI.out.trans h)⟩⟩,HB3⟩
   ·have HH:Hid (nk TA TB=i):=hid (HCH.out.one ⟨by omega,HG.out,.inl (by omega)⟩)
    by_cases ha:i<na
    focus
     have hbn:¬ i<nb:=fun h=>hab ⟨ha,h⟩
     clear hab
     refine aK (S:=fun _=>True) (by kernel_rfl) trivial fun ag=>?_
     have HB3:=hid (mY HB.out);obtain ⟨V,hV⟩:∃ V,wr.drew=V:=⟨_,rfl⟩;rw [hV] at HB3 ⊢;clear hV;refine OP.m 0 rfl (.int .i64 i) ag ?_;simp only [OP.s];refine OP.m 1 rfl (.slice a na c) ag ?_;simp only [OP.s];refine OP.t 2 rfl (.int .i64 na) (fun X hX=>by go_simp) ag ?_;simp only [OP.s];refine OP.t 3 rfl (.bool true) (fun X hX=>by go_simp) ag ?_;simp only [OP.s];refine OP.m 4 rfl (.bool true) ag ?_;simp only [OP.s];refine OP.m 5 rfl (.int .i64 i) ag ?_;simp only [OP.s];refine OP.m 6 rfl (.slice a' nb c') ag ?_;simp only [OP.s];refine OP.t 7 rfl (.int .i64 nb) (fun X hX=>by go_simp) ag ?_;simp only [OP.s];refine OP.t 8 rfl (.bool false) (fun X hX=>by go_simp) ag ?_
    rotate_left
    focus
     clear hab
     refine aK (S:=fun _=>True) (by kernel_rfl) trivial fun ag=>?_
     have HB3:=hid (mY HB.out);obtain ⟨V,hV⟩:∃ V,wr.drew=V:=⟨_,rfl⟩;rw [hV] at HB3 ⊢;clear hV;refine OP.m 0 rfl (.int .i64 i) ag ?_;simp only [OP.s];refine OP.m 1 rfl (.slice a na c) ag ?_;simp only [OP.s];refine OP.t 2 rfl (.int .i64 na) (fun X hX=>by go_simp) ag ?_;simp only [OP.s];refine OP.t 3 rfl (.bool false) (fun X hX=>by go_simp) ag ?_;simp only [OP.s];refine OP.m 4 rfl (.bool false) ag ?_;simp only [OP.s];refine OP.n 5 rfl ag ?_;simp only [OP.s];refine OP.n 6 rfl ag ?_;simp only [OP.s];refine OP.n 7 rfl ag ?_;simp only [OP.s];refine OP.n 8 rfl ag ?_
    rotate_left
    all_goals
     simp only [OP.s];refine OP.m 9 rfl (.bool false) ag ?_;simp only [OP.s];refine OP.m 10 rfl (.bool false) ag ?_;simp only [OP.s];refine OP.n 11 rfl ag ?_;simp only [OP.s];refine OP.n 12 rfl ag ?_;simp only [OP.s];refine OP.n 13 rfl ag ?_;simp only [OP.s];refine OP.n 14 rfl ag ?_;simp only [OP.s];refine OP.n 15 rfl ag ?_;simp only [OP.s];refine OP.n 16 rfl ag ?_;simp only [OP.s];refine OP.n 17 rfl ag ?_;simp only [OP.s];refine OP.n 18 rfl ag ?_;simp only [OP.s];refine OP.n 19 rfl ag ?_;simp only [OP.s];refine OP.n 20 rfl ag ?_;simp only [OP.s];refine OP.n 21 rfl ag ?_;simp only [OP.s];refine OP.m 22 rfl (.bool false) ag ?_;simp only [OP.s];refine bz (by kernel_rfl) ?_ _;clear ag
     go_wp2_with fail
     go_meet
     exact ⟨false,rfl,hid ⟨(fun h=>by cases h),fun _=>HH.out⟩,HB3⟩
  case rest =>
   obtain ⟨b,rfl,HD,ac3⟩:=hcut;clear HB
   cases b with
   | true =>
    obtain ⟨h1,h2,h3⟩:=HD.out.1 rfl
    have P9:Hid (∀ j,j<i+1→gH TA TB j=true):=hid (fun j hj=>by
     by_cases h:j<i
     ·exact HG.out j h
     ·rw [show j=i by omega];exact h3)
    clear HD h3
    go_wp2_with fail
    go_roundw
    case rel=>exact ⟨i+1,by go_num,by omega,by omega,P9,ac3⟩
    case measure=>simp [Go.RowKit.intOf];omega
   | false =>
    have HH:Hid (nk TA TB=i):=hid (HD.out.2 rfl);have ac4:=hid (show Y0 (gT TA TB) (min na nb - i) (mI TA TB) by have h:=HCT.out;rw [HH.out] at h;exact h);have agK:Hid (K=i+mI TA TB):=hid (by rw [HKP.out,HH.out]);clear HD HG
    go_wp2_with fail
    go_loopw [8] (fun iv wr2=>∃ k:Nat,iv=.int .i64 k∧k≤min na nb - i∧Hid (∀ j,j<k→gT TA TB j=true)∧Hid (Below w2.heap.size w2 wr2)) (fun iv _=>na - (Go.RowKit.intOf iv).toNat)
    case atStart=>exact ⟨0,rfl,aM _,hid (fun j h=>absurd h (aS _)),ac3⟩
    case round =>
     obtain ⟨k,rfl,hk,HG,HB⟩:=hrel;obtain ⟨q,hq⟩:∃ q,i+k=q:=⟨_,rfl⟩
     have hqi:((i:Int)+(k:Int))=(q:Int):=by omega
     have hwq:IntKind.i64.wrap (q:Int)=(q:Int):=by rw [IntKind.wrap_i64];omega
     go_upto_region 7 with fail
     go_cut [72] (fun v wx=>∃ b:Bool,v=.bool b∧Hid ((b=true→k<min na nb - i∧gT TA TB k=true)∧(b=false→mI TA TB=k))∧Hid (Below w2.heap.size w2 wx))
     case first =>
      by_cases hab:q<na∧q<nb
      ·obtain ⟨hlt,Z5⟩:=hab
       obtain ⟨ma,hma⟩:∃ m,na - 1=m:=⟨_,rfl⟩;obtain ⟨mb,hmb⟩:∃ m,nb - 1=m:=⟨_,rfl⟩;obtain ⟨xa,hxa⟩:∃ m,ma - k=m:=⟨_,rfl⟩;obtain ⟨xb,hxb⟩:∃ m,mb - k=m:=⟨_,rfl⟩
       have aj6:((na:Int) - 1)=(ma:Int):=by omega
       have aj7:((nb:Int) - 1)=(mb:Int):=by omega
       have aj8:((ma:Int) - (k:Int))=(xa:Int):=by omega
       have aj9:((mb:Int) - (k:Int))=(xb:Int):=by omega
       have aka:IntKind.i64.wrap (ma:Int)=(ma:Int):=by rw [IntKind.wrap_i64];omega
       have akb:IntKind.i64.wrap (mb:Int)=(mb:Int):=by rw [IntKind.wrap_i64];omega
       have akc:IntKind.i64.wrap (xa:Int)=(xa:Int):=by rw [IntKind.wrap_i64];omega
       have akd:IntKind.i64.wrap (xb:Int)=(xb:Int):=by rw [IntKind.wrap_i64];omega
       have hll:xa<TA.length:=by rw [HNA.out];omega
       have EO:xb<TB.length:=by rw [Vg.out];omega
       obtain ⟨g,off,rfl,hca⟩:=HRA.out.resolve_left (fun h=>by rw [h] at hll;exact aS _ hll);obtain ⟨g',off',rfl,hcb⟩:=ZN.out.resolve_left (fun h=>by rw [h] at EO;exact aS _ EO);have q0:=hca xa hll;have q1:=hcb xb EO;obtain ⟨tx,htx⟩:∃ t,TA[xa]=t:=⟨_,rfl⟩;obtain ⟨ty,hty⟩:∃ t,TB[xb]=t:=⟨_,rfl⟩;rw [htx] at q0;rw [hty] at q1;obtain ⟨bb,hbb⟩:∃ b,decide (tx=ty)=b:=⟨_,rfl⟩;have HGI:Hid (gT TA TB k=bb):=hid (by unfold gT;rw [HNA.out,Vg.out,hma,hmb,hxa,hxb,aB hll,aB EO,htx,hty,← hbb];simp);have VQ:=T7 hbb;have r0:=(HB.out.cell (aY w2 _ q0)).trans q0;have r1:=(HB.out.cell (aY w2 _ q1)).trans q1
       have hxn:xa<na:=by omega
       have hxm:xb<nb:=by omega
       have HL:=hid (show k<min na nb - i by omega);clear hca hcb htx hty hbb q0 q1 hma hmb hxa hxb hll EO hq hk
       refine aK (S:=fun X=>X.cell? ⟨g,off+xa*10+2,none⟩=some (.string tx)∧X.cell? ⟨g',off'+xb*10+2,none⟩=some (.string ty)) (by kernel_rfl) ⟨r0,r1⟩ fun ag=>?_
       have HB3:=hid (mY HB.out);obtain ⟨V,hV⟩:∃ V,wr.drew=V:=⟨_,rfl⟩;rw [hV] at ag HB3 ⊢;clear hV r0 r1;refine OP.m 0 rfl (.int .i64 i) ag ?_;simp only [OP.s];refine OP.m 1 rfl (.int .i64 k) ag ?_;simp only [OP.s];refine OP.t 2 rfl (.int .i64 q) (fun X hX=>by go_simp) ag ?_;simp only [OP.s];refine OP.m 3 rfl (.slice (some ⟨g,off,none⟩) na c) ag ?_;simp only [OP.s];refine OP.t 4 rfl (.int .i64 na) (fun X hX=>by go_simp) ag ?_;simp only [OP.s];refine OP.t 5 rfl (.bool true) (fun X hX=>by go_simp) ag ?_;simp only [OP.s];refine OP.m 6 rfl (.bool true) ag ?_;simp only [OP.s];refine OP.m 7 rfl (.int .i64 i) ag ?_;simp only [OP.s];refine OP.m 8 rfl (.int .i64 k) ag ?_;simp only [OP.s];refine OP.t 9 rfl (.int .i64 q) (fun X hX=>by go_simp) ag ?_;simp only [OP.s];refine OP.m 10 rfl (.slice (some ⟨g',off',none⟩) nb c') ag ?_;simp only [OP.s];refine OP.t 11 rfl (.int .i64 nb) (fun X hX=>by go_simp) ag ?_;simp only [OP.s];refine OP.t 12 rfl (.bool true) (fun X hX=>by go_simp) ag ?_;simp only [OP.s];refine OP.m 13 rfl (.bool true) ag ?_;simp only [OP.s];refine OP.m 14 rfl (.bool true) ag ?_;simp only [OP.s];refine OP.m 15 rfl (.slice (some ⟨g,off,none⟩) na c) ag ?_;simp only [OP.s];refine OP.m 16 rfl (.slice (some ⟨g,off,none⟩) na c) ag ?_;simp only [OP.s];refine OP.t 17 rfl (.int .i64 na) (fun X hX=>by go_simp) ag ?_;simp only [OP.s];refine OP.t 18 rfl (.int .i64 ma) (fun X hX=>by go_simp) ag ?_;simp only [OP.s];refine OP.m 19 rfl (.int .i64 k) ag ?_;simp only [OP.s]
       refine OP.t 20 rfl (.int .i64 xa) (fun X hX=>by go_simp) ag ?_;simp only [OP.s];refine OP.t 21 rfl (.pointer (some ⟨g,off+xa*10,none⟩)) (fun X hX=>jA 53 58 g off na xa c X rfl rfl rfl (by omega)) ag ?_;simp only [OP.s];refine OP.m 22 rfl (.pointer (some ⟨g,off+xa*10+2,none⟩)) ag ?_;simp only [OP.s];refine OP.t 23 rfl (.string tx) (fun X hX=>by obtain ⟨c0,c1⟩:=hX;go_simp) ag ?_;simp only [OP.s];refine OP.m 24 rfl (.slice (some ⟨g',off',none⟩) nb c') ag ?_;simp only [OP.s];refine OP.m 25 rfl (.slice (some ⟨g',off',none⟩) nb c') ag ?_;simp only [OP.s];refine OP.t 26 rfl (.int .i64 nb) (fun X hX=>by go_simp) ag ?_;simp only [OP.s];refine OP.t 27 rfl (.int .i64 mb) (fun X hX=>by go_simp) ag ?_;simp only [OP.s];refine OP.m 28 rfl (.int .i64 k) ag ?_;simp only [OP.s];refine OP.t 29 rfl (.int .i64 xb) (fun X hX=>by go_simp) ag ?_;simp only [OP.s];refine OP.t 30 rfl (.pointer (some ⟨g',off'+xb*10,none⟩)) (fun X hX=>jA 62 67 g' off' nb xb c' X rfl rfl rfl (by omega)) ag ?_;simp only [OP.s];refine OP.m 31 rfl (.pointer (some ⟨g',off'+xb*10+2,none⟩)) ag ?_;simp only [OP.s];refine OP.t 32 rfl (.string ty) (fun X hX=>by obtain ⟨c0,c1⟩:=hX;go_simp) ag ?_;simp only [OP.s];refine OP.t 33 rfl (.bool bb) (fun X hX=>by go_simp) ag ?_;simp only [OP.s];refine OP.m 34 rfl (.bool bb) ag ?_;simp only [OP.s];refine bz (by kernel_rfl) ?_ _;clear ag
       go_wp2_with fail
       go_meet
       exact ⟨bb,rfl,hid ⟨fun h=>⟨HL.out,HGI.out.trans h⟩,fun h=>ac4.out.one ⟨eQ HL.out,HG.out,.inr (HGI.out.trans h)⟩⟩,HB3⟩
      ·have HH2:Hid (mI TA TB=k):=hid (ac4.out.one ⟨hk,HG.out,.inl (by omega)⟩)
       by_cases ha:q<na
       focus
        have hbn:¬ q<nb:=fun h=>hab ⟨ha,h⟩
        clear hab hq hk
        refine aK (S:=fun _=>True) (by kernel_rfl) trivial fun ag=>?_
        have HB3:=hid (mY HB.out);obtain ⟨V,hV⟩:∃ V,wr.drew=V:=⟨_,rfl⟩;rw [hV] at HB3 ⊢;clear hV;refine OP.m 0 rfl (.int .i64 i) ag ?_;simp only [OP.s];refine OP.m 1 rfl (.int .i64 k) ag ?_;simp only [OP.s];refine OP.t 2 rfl (.int .i64 q) (fun X hX=>by go_simp) ag ?_;simp only [OP.s];refine OP.m 3 rfl (.slice a na c) ag ?_;simp only [OP.s];refine OP.t 4 rfl (.int .i64 na) (fun X hX=>by go_simp) ag ?_;simp only [OP.s];refine OP.t 5 rfl (.bool true) (fun X hX=>by go_simp) ag ?_;simp only [OP.s];refine OP.m 6 rfl (.bool true) ag ?_;simp only [OP.s];refine OP.m 7 rfl (.int .i64 i) ag ?_;simp only [OP.s];refine OP.m 8 rfl (.int .i64 k) ag ?_;simp only [OP.s];refine OP.t 9 rfl (.int .i64 q) (fun X hX=>by go_simp) ag ?_;simp only [OP.s];refine OP.m 10 rfl (.slice a' nb c') ag ?_;simp only [OP.s];refine OP.t 11 rfl (.int .i64 nb) (fun X hX=>by go_simp) ag ?_;simp only [OP.s];refine OP.t 12 rfl (.bool false) (fun X hX=>by go_simp) ag ?_
       rotate_left
       focus
        clear hab hq hk
        refine aK (S:=fun _=>True) (by kernel_rfl) trivial fun ag=>?_
        have HB3:=hid (mY HB.out);obtain ⟨V,hV⟩:∃ V,wr.drew=V:=⟨_,rfl⟩;rw [hV] at HB3 ⊢;clear hV;refine OP.m 0 rfl (.int .i64 i) ag ?_;simp only [OP.s];refine OP.m 1 rfl (.int .i64 k) ag ?_;simp only [OP.s];refine OP.t 2 rfl (.int .i64 q) (fun X hX=>by go_simp) ag ?_;simp only [OP.s];refine OP.m 3 rfl (.slice a na c) ag ?_;simp only [OP.s];refine OP.t 4 rfl (.int .i64 na) (fun X hX=>by go_simp) ag ?_;simp only [OP.s];refine OP.t 5 rfl (.bool false) (fun X hX=>by go_simp) ag ?_;simp only [OP.s];refine OP.m 6 rfl (.bool false) ag ?_;simp only [OP.s];refine OP.n 7 rfl ag ?_;simp only [OP.s];refine OP.n 8 rfl ag ?_;simp only [OP.s];refine OP.n 9 rfl ag ?_;simp only [OP.s];refine OP.n 10 rfl ag ?_;simp only [OP.s];refine OP.n 11 rfl ag ?_;simp only [OP.s];refine OP.n 12 rfl ag ?_
       rotate_left
       all_goals
        simp only [OP.s];refine OP.m 13 rfl (.bool false) ag ?_;simp only [OP.s];refine OP.m 14 rfl (.bool false) ag ?_;simp only [OP.s];refine OP.n 15 rfl ag ?_;simp only [OP.s];refine OP.n 16 rfl ag ?_;simp only [OP.s];refine OP.n 17 rfl ag ?_;simp only [OP.s];refine OP.n 18 rfl ag ?_;simp only [OP.s];refine OP.n 19 rfl ag ?_;simp only [OP.s];refine OP.n 20 rfl ag ?_;simp only [OP.s];refine OP.n 21 rfl ag ?_;simp only [OP.s];refine OP.n 22 rfl ag ?_;simp only [OP.s];refine OP.n 23 rfl ag ?_;simp only [OP.s];refine OP.n 24 rfl ag ?_;simp only [OP.s];refine OP.n 25 rfl ag ?_;simp only [OP.s];refine OP.n 26 rfl ag ?_;simp only [OP.s];refine OP.n 27 rfl ag ?_;simp only [OP.s];refine OP.n 28 rfl ag ?_;simp only [OP.s];refine OP.n 29 rfl ag ?_;simp only [OP.s];refine OP.n 30 rfl ag ?_;simp only [OP.s];refine OP.n 31 rfl ag ?_;simp only [OP.s];refine OP.n 32 rfl ag ?_;simp only [OP.s];refine OP.n 33 rfl ag ?_;simp only [OP.s];refine OP.m 34 rfl (.bool false) ag ?_;simp only [OP.s];refine bz (by kernel_rfl) ?_ _;clear ag
        go_wp2_with fail
        go_meet
        exact ⟨false,rfl,hid ⟨(fun h=>by cases h),fun _=>HH2.out⟩,HB3⟩
     case rest =>
      obtain ⟨b,rfl,HD,ac5⟩:=hcut;clear HB
      cases b with
      | true =>
       obtain ⟨h1,h2⟩:=HD.out.1 rfl
       have P9:Hid (∀ j,j<k+1→gT TA TB j=true):=hid (fun j hj=>by
        by_cases h:j<k
        ·exact HG.out j h
        ·rw [show j=k by omega];exact h2)
       clear HD h2
       go_wp2_with fail
       go_roundw
       case rel=>exact ⟨k+1,by go_num,by omega,P9,ac5⟩
       case measure=>simp [Go.RowKit.intOf];omega
      | false =>
       have hfin:K=q:=by rw [agK.out,HD.out.2 rfl];exact hq
       clear HD hq
       go_wp2_with fail
       go_ret
       exact ⟨by rw [hfin];rfl,HB2.out.trans (ac5.out.mono HB2.out.size)⟩
end Ud
end Go.Proofs.YtojoahlpgmnbnaaGreatDoor
