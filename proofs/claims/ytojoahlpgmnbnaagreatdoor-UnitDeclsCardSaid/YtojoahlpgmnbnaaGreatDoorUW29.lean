/- What the claim needs of the texts ULDecls. -/
import Derived.Test.YtojoahlpgmnbnaaGreatDoorUWOp
import Derived.Test.YtojoahlpgmnbnaaGreatDoorUW17
import Derived.Test.YtojoahlpgmnbnaaGreatDoorUW27
import Derived.Test.YtojoahlpgmnbnaaGreatDoorUW28
set_option maxRecDepth 20000
set_option maxHeartbeats 16000000
namespace Go.Proofs.YtojoahlpgmnbnaaGreatDoor
namespace Ud
open Go.RowKit
open Go.Lib hiding intOf
open U S Q T J
open K (qH)
theorem WG {D:List kD} (h:Qg D):∀ d∈D,sM d.p≤1099511627776:=fun d hd=>aJ (DY h d hd).2 (by decide)
theorem Gg (s:ByteArray) (w0:World) (hs:s.size≤600) :
  (∀ (w:World) (B d k:Nat),Un B w d s k→Calls Tryz.prog 12 #[uf d] w fun e w1=>∃ v,e=.returned v∧Below w.heap.size w w1 ∧
   Calls Tryz.prog 11 #[v] w1 fun e w2=>∃ v2,e=.returned v2∧Below w.heap.size w w2 ∧
    Calls Tryz.prog 13 #[.string s] w2 fun e w3=>∃ v3,e=.returned v3∧Below w.heap.size w w3 ∧
     Calls Tryz.prog 10 #[v2,v3] w3 fun e w4=>e=.returned (.bool true)∧Below w.heap.size w w4):=by
 have _h:=w0;intro w B d k hU
 have hlen:(decls s).length≤1000000:=by have:=nW s;omega
 refine (AB s w B d k hs hU).mono ?_;rintro e w1 ⟨v,rfl,hD,hb1⟩;refine ⟨v,rfl,hb1,(Mi (decls s) _ _ w1 v hD.dcs hlen).mono ?_⟩;rintro e w2 ⟨v2,rfl,hD2,hb2⟩;have hB2:=hb1.trans (hb2.mono hb1.size);refine ⟨v2,rfl,hB2,(uW s w2 hs).mono ?_⟩;rintro e w3 ⟨v3,rfl,hD3,hb3⟩;have hB3:=hB2.trans (hb3.mono hB2.size);refine ⟨v3,rfl,hB3,(Ia (decls s) _ _ _ _ w3 v2 v3 (hD2.later hb3) hD3 (WG (tZ s hs)) hlen).mono ?_⟩;rintro e w4 ⟨rfl,hb4⟩
 exact ⟨rfl,hB3.trans (hb4.mono hB3.size)⟩
theorem EP (s t:ByteArray) (w:World) (hT:rM w) (hG:qH w):Calls Tryz.prog 3 #[.string s,.string t] w fun e w'=>e=.returned (.bool true)∧Below w.heap.size w w':=by
 have HT:=hid hT;have HG:=hid hG;obtain ⟨z,hz⟩:∃ z,s.size=z:=⟨_,rfl⟩;obtain ⟨y,hy⟩:∃ z,t.size=z:=⟨_,rfl⟩;have HZ:=hid (And.intro hz hy)
 by_cases hl:400<z
 ·have cA:=AJ w hT hG
  clear hT hG
  go_enter Tryz.func3,Tryz.ntmps3
  go_wp2_with fail
  refine cA.mono ?_;rintro e w1 ⟨rfl,hb1⟩;have HB:=hid hb1;clear cA hb1
  go_wp2_with fail
  go_ret
  exact ⟨rfl,HB.out⟩
 by_cases hl2:400<y
 ·have cA:=AJ w hT hG
  clear hT hG
  go_enter Tryz.func3,Tryz.ntmps3
  go_wp2_with fail
  refine cA.mono ?_;rintro e w1 ⟨rfl,hb1⟩;have HB:=hid hb1;clear cA hb1
  go_wp2_with fail
  go_ret
  exact ⟨rfl,HB.out⟩
 have c1:=Ch s w (by omega) hT hG
 have hs6:s.size≤600:=by omega
 have ht6:t.size≤600:=by omega
 have HS:=hid (And.intro hs6 ht6);clear hT hG hs6 ht6
 go_enter Tryz.func3,Tryz.ntmps3
 go_wp2_with fail
 refine c1.mono ?_;rintro e w1 ⟨d,rfl,Zi,hb1⟩;have c2:=FT t s w1 _ d 0 HS.out.2 HS.out.1 (HT.out.later hb1) (HG.out.later hb1) Zi;have HU1:=hid Zi;have HB1:=hid hb1;clear c1 Zi hb1
 go_wp2_with fail
 refine c2.mono ?_;rintro e w2 ⟨d',rfl,hU2,hb2⟩;have HU2:=hid hU2;have Mh:=hid (HU1.out.later hb2);have HB2:=hid (HB1.out.trans (hb2.mono HB1.out.size));have c3:=Gg s w2 HS.out.1 w2 _ d 0 Mh.out;clear c2 hU2 hb2 HU1
 go_wp2_with fail
 refine c3.mono ?_;rintro e w3 ⟨v3,rfl,hb3,c4⟩;clear c3
 go_wp2_with fail
 refine c4.mono ?_;rintro e w4 ⟨v4,rfl,hb4,c5⟩;clear c4 hb3
 go_wp2_with fail
 refine c5.mono ?_;rintro e w5 ⟨v5,rfl,hb5,c6⟩;clear c5 hb4
 go_wp2_with fail
 refine c6.mono ?_;rintro e w6 ⟨rfl,hb6⟩;have ac6:=hid (Mh.out.later hb6);have Z6:=hid (HU2.out.later hb6);have nM:=hid (HB2.out.trans (hb6.mono HB2.out.size));have c7:=Gg t w6 HS.out.2 w6 _ d' _ Z6.out;clear c6 hb5 hb6 Mh HU2
 go_wp2_with fail
 refine c7.mono ?_;rintro e w7 ⟨v7,rfl,rW,c8⟩;clear c7
 go_wp2_with fail
 refine c8.mono ?_;rintro e w8 ⟨v8,rfl,qO,c9⟩;clear c8 rW
 go_wp2_with fail
 refine c9.mono ?_;rintro e w9 ⟨v9,rfl,oP,c10⟩;clear c9 qO
 go_wp2_with fail
 refine c10.mono ?_;rintro e wa ⟨rfl,mh⟩;have ac7:=hid (ac6.out.later mh);have ac8:=hid (Z6.out.later mh);have HBa:=hid (nM.out.trans (mh.mono nM.out.size));have cA:=AJ wa (HT.out.later HBa.out) (HG.out.later HBa.out);clear c10 oP mh ac6 Z6
 go_wp2_with fail
 refine cA.mono ?_;rintro e wb ⟨rfl,hbb⟩;have Z7:=hid (ac7.out.later hbb);have WH:=hid (ac8.out.later hbb);have HBb:=hid (HBa.out.trans (hbb.mono HBa.out.size));obtain ⟨K,hK⟩:∃ K,qm (mG (decls t)) (mG (decls s))=K:=⟨_,rfl⟩
 have hK2:qm (mG (decls s)) (mG (decls t))=K:=by rw [MM];exact hK
 rw [hK] at WH;have k1:=zD s wb _ d 0 Z7.out;have k2:=zD t wb _ d' K WH.out;have k3:=Kv s t wb HS.out.1 HS.out.2;rw [hK2] at k3
 unfold uf at k1 k2
 unfold uf
 clear cA hbb ac7 ac8 hK hK2
 go_wp2_with fail
 refine k1.mono ?_;rintro e w' ⟨rfl,rfl⟩
 go_wp2_with fail
 refine k2.mono ?_;rintro e w' ⟨rfl,rfl⟩
 go_wp2_with fail
 refine k3.mono ?_;rintro e wc ⟨rfl,hbc⟩;have Z8:=hid (Z7.out.later hbc);have ac9:=hid (WH.out.later hbc);have HBc:=hid (HBb.out.trans (hbc.mono HBb.out.size));have cJ:=Ke (uf d) s wc ⟨_,rfl⟩ (by have:=HS.out.1;omega) (HT.out.later HBc.out) (wH s wc _ d 0 Z8.out)
 unfold uf at cJ
 have hKK:((K:Int)==(K:Int))=true:=by simp
 clear k1 k2 k3 hbc Z7 WH
 go_wp2_with fail
 refine cJ.mono ?_;rintro e wd ⟨vd,rfl,hPd,hbd⟩;have ada:=hid (Z8.out.later hbd);have adb:=hid (ac9.out.later hbd);have P8:=hid (HBc.out.trans (hbd.mono HBc.out.size));have HPd:=hid hPd;have cR:=Kg s wd (by have:=HS.out.1;omega);clear cJ hPd hbd Z8 ac9
 go_wp2_with fail
 refine cR.mono ?_;rintro e we ⟨ve,rfl,hPe,hbe⟩
 have hlj:(wE s).length≤1000000:=by
  have h1:(wE s).length≤(pieces s.toList).length:=by unfold wE;rw [fM];exact List.length_filter_le _ _
  have h2:=pJ s.toList;rw [dP] at h2;have:=HS.out.1
  omega
 have cP:=Py (wE s) _ _ we vd ve (HPd.out.later hbe) hPe hlj;have ade:=hid (ada.out.later hbe);have adf:=hid (adb.out.later hbe);have HBe:=hid (P8.out.trans (hbe.mono P8.out.size));clear cR hPe hbe ada adb hlj HPd
 go_wp2_with fail
 refine cP.mono ?_;rintro e wf ⟨rfl,hbf⟩;have HBf:=hid (HBe.out.trans (hbf.mono HBe.out.size));have x1:=wH s wf _ d 0 (ade.out.later hbf);have x2:=wH t wf _ d' K (adf.out.later hbf)
 unfold uf at x1 x2
 have e1:(s.toList==s.toList)=true:=by simp
 have e2:(t.toList==t.toList)=true:=by simp
 clear cP hbf ade adf
 go_wp2_with fail
 refine x1.mono ?_;rintro e w' ⟨rfl,rfl⟩
 go_wp2_with fail
 refine x2.mono ?_;rintro e w' ⟨rfl,rfl⟩
 go_wp2_with fail
 go_ret
 exact ⟨rfl,HBf.out⟩
end Ud
end Go.Proofs.YtojoahlpgmnbnaaGreatDoor
