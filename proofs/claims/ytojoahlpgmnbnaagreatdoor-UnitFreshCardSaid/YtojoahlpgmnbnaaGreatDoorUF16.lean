/- What the claim needs of the texts ULFresh. -/
import Derived.Test.YtojoahlpgmnbnaaGreatDoorUFOp
import Derived.Test.YtojoahlpgmnbnaaGreatDoorUF15
namespace Go.Proofs.YtojoahlpgmnbnaaGreatDoor.Ud
open Go.RowKit
open Go.Lib hiding intOf
open U S Q T J
open Go.Proofs.YtojoahlpgmnbnaaGreatDoor.K (MTab)
def SsIn (w:World) (v:Value) (n:Nat):Prop:=∃ a c,v=.slice a n c∧(n=0∨∃ g off,a=some ⟨g,off,none⟩∧∀ i,i<n→∃ s,w.cell? ⟨g,off+i,none⟩=some (.string s))
theorem DcsOwn.later {H:Nat} {W W':World} {D:List DcP} {v:Value} (h:DcsOwn H W D v) (hb:Below W.heap.size W W'):DcsOwn H W' D v:=by
 obtain ⟨a,c,L,h1,h2,h3,h4⟩:=h
 refine ⟨a,c,L,h1,h2,h3,h4.imp id ?_⟩
 rintro ⟨g,e1,e2⟩
 exact ⟨g,e1,e2.later hb⟩
theorem two_decls (s:ByteArray) (w:World) (B B' d d' k k':Nat) (hs:s.size≤600) (hU:Un B w d s k) (hU':Un B' w d' s k') :
  Calls Tryz.prog 12 #[ptrU d] w fun e w1=>∃ v,e=.returned v∧Below w.heap.size w w1 ∧
   Calls Tryz.prog 12 #[ptrU d'] w1 fun e w2=>∃ v2,e=.returned v2∧Below w.heap.size w w2 ∧
    Calls Tryz.prog 20 #[v,v2] w2 fun e w3=>e=.returned (.bool true)∧Below w.heap.size w w3:=by
 have hlen:(decls s).length≤1099511627776:=by have:=decls_bound s;omega
 refine (decls_any s w B d k hs hU).mono ?_
 rintro e w1 ⟨v,rfl,hD,hb1⟩
 refine ⟨v,rfl,hb1,(decls_any s w1 B' d' k' hs (hU'.later hb1)).mono ?_⟩
 rintro e w2 ⟨v2,rfl,hD2,hb2⟩
 have hB2:=hb1.trans (hb2.mono hb1.size)
 refine ⟨v2,rfl,hB2,(unitSame_any (decls s) _ _ _ _ w2 v v2 (hD.dcs.later hb2) hD2.dcs (okd_big (okd_decls s hs)) hlen).mono ?_⟩
 rintro e w3 ⟨rfl,hb3⟩
 exact ⟨rfl,hB2.trans (hb3.mono hB2.size)⟩
theorem two_junk (s:ByteArray) (w:World) (B B' d d' k k':Nat) (hs:s.size≤600) (hT:Tabs w) (hU:Un B w d s k) (hU':Un B' w d' s k') :
  Calls Tryz.prog 17 #[ptrU d] w fun e w1=>∃ v,e=.returned v∧Below w.heap.size w w1 ∧
   Calls Tryz.prog 17 #[ptrU d'] w1 fun e w2=>∃ v2,e=.returned v2∧Below w.heap.size w w2 ∧
    Calls Tryz.prog 16 #[v,v2] w2 fun e w3=>e=.returned (.bool true)∧Below w.heap.size w w3:=by
 have hlj:(junks s).length≤1000000:=by
  have h1:(junks s).length≤(pieces s.toList).length:=by unfold junks;rw [List.length_map];exact List.length_filter_le _ _
  have h2:=pieces_len s.toList
  rw [tl_len] at h2
  omega
 refine (junk_any (ptrU d) s w ⟨_,rfl⟩ (by omega) hT (text_any s w B d k hU)).mono ?_
 rintro e w1 ⟨v,rfl,hP,hb1⟩
 refine ⟨v,rfl,hb1,(junk_any (ptrU d') s w1 ⟨_,rfl⟩ (by omega) (hT.later hb1) (text_any s w1 B' d' k' (hU'.later hb1))).mono ?_⟩
 rintro e w2 ⟨v2,rfl,hP2,hb2⟩
 have hB2:=hb1.trans (hb2.mono hb1.size)
 refine ⟨v2,rfl,hB2,(pairs_any (junks s) _ _ w2 v v2 (hP.later hb2) hP2 hlj).mono ?_⟩
 rintro e w3 ⟨rfl,hb3⟩
 exact ⟨rfl,hB2.trans (hb3.mono hB2.size)⟩
set_option maxHeartbeats 16000000 in
set_option maxRecDepth 20000 in
theorem unitFresh_law (v:Value) (n:Nat) (w:World) (hv:SsIn w v n) (hT:Tabs w) (hG:MTab w):Calls Tryz.prog 4 #[v] w fun e w'=>e=.returned (.bool true)∧Below w.heap.size w w':=by
 have HT:=hid hT
 have HG:=hid hG
 obtain ⟨a,c,rfl,hrow⟩:=hv
 have HR:=hid hrow
 by_cases hl:12<n
 ·have cA:=alive_any w hT hG
  clear hT hG hrow
  go_enter Tryz.func4,Tryz.ntmps4
  go_wp2_with fail
  refine cA.mono ?_
  rintro e w1 ⟨rfl,hb1⟩
  have HB:=hid hb1
  clear cA hb1
  go_wp2_with fail
  go_ret
  exact ⟨rfl,HB.out⟩
 have c1:=new_any ⟨#[]⟩ w (by decide) hT hG
 clear hT hG hrow
 go_enter Tryz.func4,Tryz.ntmps4
 go_wp2_with fail
 refine c1.mono ?_
 rintro e w1 ⟨d0,rfl,hU1,hb1⟩
 have HU1:=hid hU1
 have HB1:=hid hb1
 unfold ptrU
 clear c1 hU1 hb1
 go_wp2_with fail
 go_loopw [3,4] (fun uv iv wr=>∃ (i d k B:Nat) (s:ByteArray),uv=.pointer (some ⟨d,0,none⟩)∧iv=.int .i64 i∧i≤n∧Hid (s.size≤600)∧Hid (Un B wr d s k)∧Hid (Below w.heap.size w wr)) (fun _ iv _=>n - (Go.RowKit.intOf iv).toNat)
 case atStart=>exact ⟨0,d0,0,_,⟨#[]⟩,rfl,rfl,Nat.zero_le _,hid (by decide),HU1,HB1⟩
 case round =>
  obtain ⟨i,d,k,B,s,rfl,rfl,hi,HS,HU,HB⟩:=hrel
  clear HU1 HB1
  by_cases hlt:i<n
  ·obtain ⟨g,off,rfl,hc⟩:=HR.out.resolve_left (by omega)
   obtain ⟨x,hx⟩:=hc i hlt
   have hxw:=(HB.out.cell (World.block_lt_of_cell? w _ hx)).trans hx
   have HX:=hid hx
   obtain ⟨y,hy⟩:∃ y,x.size=y:=⟨_,rfl⟩
   clear hc hx
   by_cases hbig:400<y
   ·go_wp2_with fail
    go_roundw
    case rel=>exact ⟨i+1,d,k,B,s,rfl,by go_num,by omega,HS,HU,HB⟩
    case measure=>simp [Go.RowKit.intOf];omega
   have hx6:x.size≤600:=by omega
   have HX6:=hid hx6
   clear hx6
   have cW:=decls_any s wr B d k HS.out HU.out
   unfold ptrU at cW
   go_wp2_with fail
   refine cW.mono ?_
   rintro e w2 ⟨v2,rfl,hD2,hb2⟩
   have HD2:=hid hD2.dcs
   have HU2:=hid (HU.out.later hb2)
   have HB2:=hid (HB.out.trans (hb2.mono HB.out.size))
   have cN:=again_any x s w2 B d k HX6.out HS.out (HT.out.later HB2.out) (HG.out.later HB2.out) HU2.out
   obtain ⟨wa,wc,rfl⟩:=dcs_form HD2.out
   have hle:=kept_le (txs (decls x)) (txs (decls s))
   rw [txs_len,txs_len] at hle
   obtain ⟨K,hK⟩:∃ K,keptN (txs (decls x)) (txs (decls s))=K:=⟨_,rfl⟩
   have hKd:K=headN (txs (decls x)) (txs (decls s))+tailN (txs (decls x)) (txs (decls s)):=hK.symm
   obtain ⟨nx,hnx⟩:∃ n,(decls x).length=n:=⟨_,rfl⟩
   obtain ⟨ns,hns⟩:∃ n,(decls s).length=n:=⟨_,rfl⟩
   have hb1:=decls_bound x
   have hb3:=decls_bound s
   rw [hnx,hns] at hle
   rw [hnx] at hb1
   rw [hns] at hb3
   have hKx:K≤nx:=by omega
   have hKs:K≤ns:=by omega
   have hnx6:nx≤601:=by have:=HX6.out;omega
   have hns6:ns≤601:=by have:=HS.out;omega
   rw [hK] at cN
   rw [hns]
   have HNX:=hid hnx
   have HNS:=hid hns
   have q1:=(HB2.out.cell (World.block_lt_of_cell? w _ HX.out)).trans HX.out
   unfold ptrU at cN
   clear cW hD2 hb2 hle hK hKd hnx hns hb1 hb3 HU hxw
   go_wp2_with fail
   refine cN.mono ?_
   rintro e w3 ⟨dn,rfl,hU3,hb3⟩
   have HUn:=hid hU3
   have HU3:=hid (HU2.out.later hb3)
   have HD3:=hid (HD2.out.later hb3)
   have HB3:=hid (HB2.out.trans (hb3.mono HB2.out.size))
   have cF:=new_any x w3 HX6.out (HT.out.later HB3.out) (HG.out.later HB3.out)
   have q2:=(HB3.out.cell (World.block_lt_of_cell? w _ HX.out)).trans HX.out
   unfold ptrU at cF
   clear cN hU3 hb3 HU2 HD2 q1
   go_wp2_with fail
   refine cF.mono ?_
   rintro e w4 ⟨df,rfl,hU4,hb4⟩
   have HUf:=hid hU4
   have HUn4:=hid (HUn.out.later hb4)
   have HU4:=hid (HU3.out.later hb4)
   have HD4:=hid (HD3.out.later hb4)
   have HB4:=hid (HB3.out.trans (hb4.mono HB3.out.size))
   have d1:=two_decls x w4 _ _ dn df _ _ HX6.out HUn4.out HUf.out
   unfold ptrU at d1
   clear cF hU4 hb4 HU3 HD3 HUn q2
   go_wp2_with fail
   refine d1.mono ?_
   rintro e w5 ⟨v5,rfl,hb5,d2⟩
   clear d1
   go_wp2_with fail
   refine d2.mono ?_
   rintro e w6 ⟨v6,rfl,hb6,d3⟩
   clear d2 hb5
   go_wp2_with fail
   refine d3.mono ?_
   rintro e w7 ⟨rfl,hb7⟩
   have HUf7:=hid (HUf.out.later hb7)
   have HUn7:=hid (HUn4.out.later hb7)
   have HU7:=hid (HU4.out.later hb7)
   have HD7:=hid (HD4.out.later hb7)
   have HB7:=hid (HB4.out.trans (hb7.mono HB4.out.size))
   have j1:=two_junk x w7 _ _ dn df _ _ HX6.out (HT.out.later HB7.out) HUn7.out HUf7.out
   unfold ptrU at j1
   clear d3 hb6 hb7 HUf HUn4 HU4 HD4
   go_wp2_with fail
   refine j1.mono ?_
   rintro e w8 ⟨v8,rfl,hb8,j2⟩
   clear j1
   go_wp2_with fail
   refine j2.mono ?_
   rintro e w9 ⟨v9,rfl,hb9,j3⟩
   clear j2 hb8
   go_wp2_with fail
   refine j3.mono ?_
   rintro e wx ⟨rfl,hbx⟩
   have HUnx:=hid (HUn7.out.later hbx)
   have HUx:=hid (HU7.out.later hbx)
   have HDx:=hid (HD7.out.later hbx)
   have HBx:=hid (HB7.out.trans (hbx.mono HB7.out.size))
   have cU:=decls_any s wx B d k HS.out HUx.out
   unfold ptrU at cU
   clear j3 hb9 hbx HUf7 HUn7 HU7 HD7
   go_wp2_with fail
   refine cU.mono ?_
   rintro e wy ⟨vy,rfl,hDy,hby⟩
   have hDx:=HDx.out.later hby
   rw [HNS.out] at hDx
   have cS:=unitSame_any (decls s) _ _ _ _ wy vy _ hDy.dcs hDx (okd_big (okd_decls s HS.out)) (by have:=decls_bound s;have:=HS.out;omega)
   have HUny:=hid (HUnx.out.later hby)
   have HBy:=hid (HBx.out.trans (hby.mono HBx.out.size))
   clear cU hDy hby hDx HUnx HUx HDx
   go_wp2_with fail
   refine cS.mono ?_
   rintro e wz ⟨rfl,hbz⟩
   have HUnz:=hid (HUny.out.later hbz)
   have HBz:=hid (HBy.out.trans (hbz.mono HBy.out.size))
   have k1:=kept_any x wz _ dn K HUnz.out
   unfold ptrU at k1
   have cE:=decls_any x wz _ dn K HX6.out HUnz.out
   unfold ptrU at cE
   clear cS hbz HUny
   go_wp2_with fail
   refine k1.mono ?_
   rintro e w' ⟨rfl,rfl⟩
   clear k1
   go_wp2_with fail
   refine cE.mono ?_
   rintro e wf ⟨vf,rfl,hDf,hbf⟩
   obtain ⟨fa,fc,rfl⟩:=dcs_form hDf.dcs
   rw [HNX.out]
   have HUnf:=hid (HUnz.out.later hbf)
   have HBf:=hid (HBz.out.trans (hbf.mono HBz.out.size))
   have k2:=kept_any x wf _ dn K HUnf.out
   unfold ptrU at k2
   clear cE hDf hbf HUnz
   go_wp2_with fail
   refine k2.mono ?_
   rintro e w' ⟨rfl,rfl⟩
   clear k2
   go_wp2_with fail
   go_roundw
   case rel=>exact ⟨i+1,dn,K,_,x,rfl,by go_num,by omega,HX6,HUnf,HBf⟩
   case measure=>simp [Go.RowKit.intOf];omega
  ·obtain rfl:i=n:=by omega
   have cA:=alive_any wr (HT.out.later HB.out) (HG.out.later HB.out)
   go_wp2_with fail
   refine cA.mono ?_
   rintro e w2 ⟨rfl,hb2⟩
   have HB2:=hid (HB.out.trans (hb2.mono HB.out.size))
   clear cA hb2
   go_wp2_with fail
   go_ret
   exact ⟨rfl,HB2.out⟩
end Go.Proofs.YtojoahlpgmnbnaaGreatDoor.Ud
