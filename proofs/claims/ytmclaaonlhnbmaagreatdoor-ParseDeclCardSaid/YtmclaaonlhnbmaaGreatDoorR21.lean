/- What the claim needs of the texts TDecl, SRef5, TDecl2, JLDecl. -/
import Derived.Test.YtmclaaonlhnbmaaGreatDoorROp
import Derived.Test.YtmclaaonlhnbmaaGreatDoorR20
import Derived.Test.YtmclaaonlhnbmaaGreatDoorR12
import Derived.Test.YtmclaaonlhnbmaaGreatDoorR2
namespace Go.Proofs.YtmclaaonlhnbmaaGreatDoor.T
open Go.RowKit
open Go.Lib hiding intOf
open U S L
open Go.Proofs.YtmclaaonlhnbmaaGreatDoor.K (fate declP tok Fate)
theorem declP_bad {L:List TokP} {size j:Nat} (h:decl L (8*L.length+10)=.bad j):declP L size=(K.zeroP,(tok L size j).f,101):=by
 unfold declP fate
 rw [h]
theorem declP_left {L:List TokP} {size i:Nat} {p:Pt} (h:decl L (8*L.length+10)=.ok p i) (hi:i+semiN L i<L.length):declP L size=(K.zeroP,(tok L size (i+semiN L i)).f,101):=by
 unfold declP fate
 rw [h]
 show (match (if i+semiN L i<L.length then Fate.bad (i+semiN L i) else Fate.part p) with|.bad j=>_|.part p=>_)=_
 rw [if_pos hi]
theorem declP_ok {L:List TokP} {size i:Nat} {p:Pt} (h:decl L (8*L.length+10)=.ok p i) (hi:¬ i+semiN L i<L.length):declP L size=if 40<deep p then (K.zeroP,0,22) else (p,0,0):=by
 unfold declP fate
 rw [h]
 show (match (if i+semiN L i<L.length then Fate.bad (i+semiN L i) else Fate.part p) with|.bad j=>_|.part p=>_)=_
 rw [if_neg hi]
theorem fate_ok {L:List TokP} {i:Nat} {p:Pt} (h:decl L (8*L.length+10)=.ok p i) (hi:¬ i+semiN L i<L.length):fate L=.part p:=by
 unfold fate
 rw [h]
 exact if_neg hi
theorem tok_in {L:List TokP} {size j:Nat} (h:j<L.length):(tok L size j).f=L[j].f:=by
 unfold K.tok
 rw [List.getElem?_eq_getElem h];rfl
theorem tok_out {L:List TokP} {size j:Nat} (h:¬ j<L.length):(tok L size j).f=size:=by
 unfold K.tok
 rw [List.getElem?_eq_none (by omega)];rfl
end Go.Proofs.YtmclaaonlhnbmaaGreatDoor.T
namespace Go.Proofs.YtmclaaonlhnbmaaGreatDoor.S
open Go.RowKit
open Go.Lib hiding intOf
open U L
theorem blank_or (z:UInt8):(blank z=true∧(z=32∨z=9∨z=13∨z=10))∨(blank z=false∧z≠32∧z≠9∧z≠13∧z≠10):=by
 unfold blank
 by_cases h1:z=32
 ·exact .inl ⟨by simp [h1],.inl h1⟩
 ·by_cases h2:z=9
  ·exact .inl ⟨by simp [h2],.inr (.inl h2)⟩
  ·by_cases h3:z=13
   ·exact .inl ⟨by simp [h3],.inr (.inr (.inl h3))⟩
   ·by_cases h4:z=10
    ·exact .inl ⟨by simp [h4],.inr (.inr (.inr h4))⟩
    ·exact .inr ⟨by simp [h1,h2,h3,h4],h1,h2,h3,h4⟩
set_option maxHeartbeats 8000000 in
set_option maxRecDepth 20000 in
theorem refScan_any (s:ByteArray) (w:World) (hs:s.size≤1000000) :
  Calls Tryz.prog 20 #[.string s] w fun e w'=>∃ v,e=.returned v∧ToksIn w.heap.size w' (scanB (okB s) s.toList) v∧Below w.heap.size w w':=by
 obtain ⟨i0,hi0,hz0,hz1,hz2⟩:=info_parts infoTok;have cR:=ref_right s w hs;obtain ⟨right,hright⟩:∃ right,okB s=right:=⟨_,rfl⟩;have HS0:Hid (ScSt right s 0 []):=hid (scSt_start right s (fun h=>by rw [hright];exact h));rw [hright] at cR ⊢;clear hright;have CC:=hid (fun (i:Nat) (hi:i<s.size) X=>comment_any (s.extract i s.size) X (by rw [size_extract s i s.size (by omega) (Nat.le_refl _)];omega));have CW:=hid (fun (i:Nat) (hi:i<s.size) (hr:right=true→okB (s.extract i s.size)=true) X=>word_any (s.extract i s.size) right X (by rw [size_extract s i s.size (by omega) (Nat.le_refl _)];omega) (by rw [size_extract s i s.size (by omega) (Nat.le_refl _)];omega) hr);have CE:=hid (fun k f e' t X=>ends_any k f e' t X)
 go_enter Tryz.func20,Tryz.ntmps20
 go_wp2_with fail
 refine cR.mono ?_;rintro e w1 ⟨rfl,hb1⟩;obtain ⟨Z,hZ⟩:∃ Z,w1.heap.size=Z:=⟨_,rfl⟩
 have hwZ:w.heap.size≤Z:=by have:=hb1.size;omega
 have HB1:=hid hb1;have HZ:=hid hZ;clear hb1 cR hZ
 go_wp2_with fail
 go_loopw [3,5] (fun ov iv wr=>∃ (i:Nat) (O:List TokP),iv=.int .i64 i∧i≤s.size∧Hid (ScSt right s i O)∧Hid (wr.ownsRow Z 48 4 ov O.length (tokCs O))∧Hid (Below Z w1 wr)) (fun _ iv _=>s.size - (intOf iv).toNat)
 case atStart=>exact ⟨0,[],rfl,Nat.zero_le _,HS0,hid (World.ownsRow_nil _ _ _ _),hid (Below.refl _ _)⟩
 case round =>
  obtain ⟨i,O,rfl,hi,HS,HR,HL⟩:=hrel;clear HS0;obtain ⟨oa,oc,rfl⟩:=owns_len HR.out
  have hzr:Z≤wr.heap.size:=by have:=HL.out.size;have:=HZ.out;omega
  have hfew:O.length≤1000000:=by have:=HS.out.few;omega
  by_cases hlt:i<s.size
  ·have cC:=CC.out i hlt wr
   obtain ⟨z,hz⟩:∃ z,s[i]=z:=⟨_,rfl⟩;have HZE:=hid hz;obtain ⟨n,hn⟩:∃ n,cmtLen (s.extract i s.size).toList=n:=⟨_,rfl⟩;rw [hn] at cC;have HN:=hid hn;clear hn
   by_cases h0:O.length=0
   ·have hO0:O=[]:=List.length_eq_zero_iff.1 h0
    have HEB:Hid (endL O=false):=hid (by rw [hO0];rfl);have HO:=hid h0;rw [h0] at HR ⊢;clear h0 hO0 hfew
    go_wp2_with fail
    refine cC.mono ?_;rintro e w3 ⟨rfl,rfl⟩;have hzr3:=hzr;have HL3:=HL;have HR3:=HR;clear cC HR HL hzr
    rcases blank_or z with ⟨hbl,z32|z9|z13|z10⟩|⟨hbl,n32,n9,n13,n10⟩
    ·clear hbl
     have HN2:Hid (ScSt right s (i+1) O):=hid (scSt_blank HS.out hlt (fun e=>by have h:=HZE.out.symm.trans e.1;rw [z32] at h;cases h) (by rw [HZE.out,z32];rfl))
     have e32:((z.toNat:Int)==32)=true:=by rw [z32];rfl
     have e9:((z.toNat:Int)==9)=false:=by rw [z32];rfl
     have e13:((z.toNat:Int)==13)=false:=by rw [z32];rfl
     have e10:((z.toNat:Int)==10)=false:=by rw [z32];rfl
     clear z32 HS
     go_wp2_with fail
     go_roundw
     case rel=>exact ⟨i+1,O,by go_num,by omega,HN2,hid (by have h:=HR3.out;rw [HO.out];exact h),HL3⟩
     case measure=>simp [intOf];omega
    ·clear hbl
     have HN2:Hid (ScSt right s (i+1) O):=hid (scSt_blank HS.out hlt (fun e=>by have h:=HZE.out.symm.trans e.1;rw [z9] at h;cases h) (by rw [HZE.out,z9];rfl))
     have e32:((z.toNat:Int)==32)=false:=by rw [z9];rfl
     have e9:((z.toNat:Int)==9)=true:=by rw [z9];rfl
     have e13:((z.toNat:Int)==13)=false:=by rw [z9];rfl
     have e10:((z.toNat:Int)==10)=false:=by rw [z9];rfl
     clear z9 HS
     go_wp2_with fail
     go_roundw
     case rel=>exact ⟨i+1,O,by go_num,by omega,HN2,hid (by have h:=HR3.out;rw [HO.out];exact h),HL3⟩
     case measure=>simp [intOf];omega
    ·clear hbl
     have HN2:Hid (ScSt right s (i+1) O):=hid (scSt_blank HS.out hlt (fun e=>by have h:=HZE.out.symm.trans e.1;rw [z13] at h;cases h) (by rw [HZE.out,z13];rfl))
     have e32:((z.toNat:Int)==32)=false:=by rw [z13];rfl
     have e9:((z.toNat:Int)==9)=false:=by rw [z13];rfl
     have e13:((z.toNat:Int)==13)=true:=by rw [z13];rfl
     have e10:((z.toNat:Int)==10)=false:=by rw [z13];rfl
     clear z13 HS
     go_wp2_with fail
     go_roundw
     case rel=>exact ⟨i+1,O,by go_num,by omega,HN2,hid (by have h:=HR3.out;rw [HO.out];exact h),HL3⟩
     case measure=>simp [intOf];omega
    ·clear hbl
     have HN2:Hid (ScSt right s (i+1) O):=hid (scSt_blank HS.out hlt (fun e=>by have h:=e.2;rw [HEB.out] at h;cases h) (by rw [HZE.out,z10];rfl))
     have e32:((z.toNat:Int)==32)=false:=by rw [z10];rfl
     have e9:((z.toNat:Int)==9)=false:=by rw [z10];rfl
     have e13:((z.toNat:Int)==13)=false:=by rw [z10];rfl
     have e10:((z.toNat:Int)==10)=true:=by rw [z10];rfl
     clear z10 HS
     go_wp2_with fail
     go_roundw
     case rel=>exact ⟨i+1,O,by go_num,by omega,HN2,hid (by have h:=HR3.out;rw [HO.out];exact h),HL3⟩
     case measure=>simp [intOf];omega
    ·have HBF:=hid hbl
     have e32:((z.toNat:Int)==32)=false:=by have h:=u8_eq z 32;rw [decide_eq_false n32] at h;exact h
     have e9:((z.toNat:Int)==9)=false:=by have h:=u8_eq z 9;rw [decide_eq_false n9] at h;exact h
     have e13:((z.toNat:Int)==13)=false:=by have h:=u8_eq z 13;rw [decide_eq_false n13] at h;exact h
     have e10:((z.toNat:Int)==10)=false:=by have h:=u8_eq z 10;rw [decide_eq_false n10] at h;exact h
     clear hbl n32 n9 n13 n10
     by_cases hn0:0<n
     ·have hle:i+n≤s.size:=by have h:=cmt_le (s.extract i s.size).toList;rw [HN.out,ext_drop,List.length_drop,tl_len] at h;omega
      have HN2:Hid (ScSt right s (i+n) O):=hid (by have h:=scSt_cmt HS.out hlt (by rw [HZE.out];exact HBF.out) (by rw [HN.out];exact hn0);rwa [HN.out] at h);clear HS
      go_wp2_with fail
      go_roundw
      case rel=>exact ⟨i+n,O,by go_num,by omega,HN2,hid (by have h:=HR3.out;rw [HO.out];exact h),HL3⟩
      case measure=>simp [intOf];omega
     ·have cW:=CW.out i hlt HS.out.ok wr
      obtain ⟨⟨x,j⟩,hw⟩:∃ p,wordL right (s.extract i s.size).toList=p:=⟨_,rfl⟩;rw [hw] at cW;obtain ⟨hij,hj1,hN2⟩:=scSt_word HS.out hlt (by rw [HZE.out];exact HBF.out) (by rw [HN.out];omega) hw;have HN2:=hid hN2;simp only at cW;clear HS hN2 hw
      go_wp2_with fail
      refine cW.mono ?_;rintro e w4 ⟨rfl,hb4⟩
      have hzr4:Z≤w4.heap.size:=by have:=hb4.size;omega
      have HL4:Hid (Below Z w1 w4):=hid (HL3.out.trans (hb4.mono hzr3));have HR4:=hid (owns_later HR3.out hb4);clear hb4 cW HR3 HL3
      go_wp2_with fail
      rw [run_slice_string _ _ _ _ _ _ _ Tryz.underlying9 (by omega) (by omega) (by omega),show ((i:Int)).toNat=i by omega,show ((i:Int)+(j:Int)).toNat=i+j by omega]
      go_wp2_with (at_builtin;refine wpList_append_own _ rfl _ _ 41 rfl Z 48 i0 (.agg #[.int .i64 0,.string ⟨#[]⟩,.int .i64 0,.int .i64 0]) 4 40 Tryz.underlying41 hi0 hz0 hz1 hz2 rfl (by decide) _ _ _ rfl (HR4.out.alloc _) ⟨w4.heap.size,0,none⟩ 1 1 (tokCs [⟨x,(s.extract i (i+j)).toList,i,((i+j:Nat):Int)⟩]) rfl rfl ?c1 (plain_toks _) ?c3 ?c4 ?c5 ?_)
      case c1=>exact new_tokS _ _ _ _ _
      case c3=>unfold maxLen;omega
      case c4=>omega
      case c5=>rw [World.size_alloc];omega
      intro v5 w5 hv5 hg5 _;have HV5:=hid hv5;have HB5:=hid (below_grown HL4.out HR4.out hg5 hzr4);clear hv5 hg5
      go_wp2_with fail
      go_roundw
      case rel=>exact ⟨i+j,_,by go_num,by omega,HN2,hid (by have:=HV5.out;rw [← tokCs_app] at this;simpa [List.length_append,HO.out] using this),HB5⟩
      case measure=>simp [intOf];omega
   ·obtain ⟨k,hk⟩:∃ k,O.length=k+1:=⟨O.length - 1,by omega⟩
    obtain ⟨g,c,hv,hkc,hgZ,hgw⟩:=row_some HR.out (by omega)
    cases hv
    have hta:=toks_at HR.out rfl
    have hkO:k<O.length:=by omega
    have hcl:=tok_at k hta hkO;obtain ⟨t,ht⟩:∃ t,O[k]=t:=⟨_,rfl⟩;rw [ht] at hcl
    have hend:endL O=endsP t.w t.t:=by
     unfold endL
     rw [List.getLast?_eq_getElem?,hk,Nat.add_sub_cancel,List.getElem?_eq_getElem hkO,ht]
    simp only [Nat.zero_add] at hcl;obtain ⟨c0,c1,c2,c3⟩:=hcl;have HEND:=hid hend
    have hk6:k≤1000000:=by omega
    clear hend hta ht h0 hfew;have cE:=CE.out t.w t.f t.e ⟨t.t.toArray⟩ wr;have HO:=hid hk;rw [hk] at HR hkO ⊢;clear hk
    go_wp2_with fail
    refine cC.mono ?_;rintro e w2 ⟨rfl,rfl⟩
    go_wp2_with fail
    refine cE.mono ?_;rintro e w3 ⟨rfl,hb3⟩
    have hzr3:Z≤w3.heap.size:=by have:=hb3.size;omega
    have HL3:Hid (Below Z w1 w3):=hid (HL.out.trans (hb3.mono hzr));have HR3:Hid (w3.ownsRow Z 48 4 (.slice (some ⟨g,0,none⟩) (k+1) oc) (k+1) (tokCs O)):=hid (owns_later HR.out hb3);obtain ⟨b,hb⟩:∃ b,endsP t.w (⟨t.t.toArray⟩:ByteArray).toList=b:=⟨_,rfl⟩;rw [hb];have HEB:Hid (endL O=b):=hid (by rw [HEND.out,← hb,ByteArray.toList_eq]);clear cE hb c0 c1 c2 c3 hb3 HR HL HEND;clear cC
    rcases blank_or z with ⟨hbl,z32|z9|z13|z10⟩|⟨hbl,n32,n9,n13,n10⟩
    ·clear hbl
     have HN2:Hid (ScSt right s (i+1) O):=hid (scSt_blank HS.out hlt (fun e=>by have h:=HZE.out.symm.trans e.1;rw [z32] at h;cases h) (by rw [HZE.out,z32];rfl))
     have e32:((z.toNat:Int)==32)=true:=by rw [z32];rfl
     have e9:((z.toNat:Int)==9)=false:=by rw [z32];rfl
     have e13:((z.toNat:Int)==13)=false:=by rw [z32];rfl
     have e10:((z.toNat:Int)==10)=false:=by rw [z32];rfl
     clear z32 HS
     go_wp2_with fail
     go_roundw
     case rel=>exact ⟨i+1,O,by go_num,by omega,HN2,hid (by have h:=HR3.out;rw [HO.out];exact h),HL3⟩
     case measure=>simp [intOf];omega
    ·clear hbl
     have HN2:Hid (ScSt right s (i+1) O):=hid (scSt_blank HS.out hlt (fun e=>by have h:=HZE.out.symm.trans e.1;rw [z9] at h;cases h) (by rw [HZE.out,z9];rfl))
     have e32:((z.toNat:Int)==32)=false:=by rw [z9];rfl
     have e9:((z.toNat:Int)==9)=true:=by rw [z9];rfl
     have e13:((z.toNat:Int)==13)=false:=by rw [z9];rfl
     have e10:((z.toNat:Int)==10)=false:=by rw [z9];rfl
     clear z9 HS
     go_wp2_with fail
     go_roundw
     case rel=>exact ⟨i+1,O,by go_num,by omega,HN2,hid (by have h:=HR3.out;rw [HO.out];exact h),HL3⟩
     case measure=>simp [intOf];omega
    ·clear hbl
     have HN2:Hid (ScSt right s (i+1) O):=hid (scSt_blank HS.out hlt (fun e=>by have h:=HZE.out.symm.trans e.1;rw [z13] at h;cases h) (by rw [HZE.out,z13];rfl))
     have e32:((z.toNat:Int)==32)=false:=by rw [z13];rfl
     have e9:((z.toNat:Int)==9)=false:=by rw [z13];rfl
     have e13:((z.toNat:Int)==13)=true:=by rw [z13];rfl
     have e10:((z.toNat:Int)==10)=false:=by rw [z13];rfl
     clear z13 HS
     go_wp2_with fail
     go_roundw
     case rel=>exact ⟨i+1,O,by go_num,by omega,HN2,hid (by have h:=HR3.out;rw [HO.out];exact h),HL3⟩
     case measure=>simp [intOf];omega
    ·clear hbl
     cases b
     ·have HN2:Hid (ScSt right s (i+1) O):=hid (scSt_blank HS.out hlt (fun e=>by have h:=e.2;rw [HEB.out] at h;cases h) (by rw [HZE.out,z10];rfl))
      have e32:((z.toNat:Int)==32)=false:=by rw [z10];rfl
      have e9:((z.toNat:Int)==9)=false:=by rw [z10];rfl
      have e13:((z.toNat:Int)==13)=false:=by rw [z10];rfl
      have e10:((z.toNat:Int)==10)=true:=by rw [z10];rfl
      clear z10 HS
      go_wp2_with fail
      go_roundw
      case rel=>exact ⟨i+1,O,by go_num,by omega,HN2,hid (by have h:=HR3.out;rw [HO.out];exact h),HL3⟩
      case measure=>simp [intOf];omega
     ·have HN2:Hid (ScSt right s (i+1) (O++[⟨5,[],i,((i+1:Nat):Int)⟩])):=hid (scSt_10 HS.out hlt (HZE.out.trans z10) HEB.out)
      have e32:((z.toNat:Int)==32)=false:=by rw [z10];rfl
      have e9:((z.toNat:Int)==9)=false:=by rw [z10];rfl
      have e13:((z.toNat:Int)==13)=false:=by rw [z10];rfl
      have e10:((z.toNat:Int)==10)=true:=by rw [z10];rfl
      clear z10 HS
      go_wp2_with (at_builtin;refine wpList_append_own _ rfl _ _ 41 rfl Z 48 i0 (.agg #[.int .i64 0,.string ⟨#[]⟩,.int .i64 0,.int .i64 0]) 4 40 Tryz.underlying41 hi0 hz0 hz1 hz2 rfl (by decide) _ _ _ rfl (HR3.out.alloc _) ⟨w3.heap.size,0,none⟩ 1 1 (tokCs [⟨5,[],i,((i+1:Nat):Int)⟩]) rfl rfl ?c1 (plain_toks _) ?c3 ?c4 ?c5 ?_)
      case c1=>exact new_tok _ _
      case c3=>unfold maxLen;omega
      case c4=>omega
      case c5=>rw [World.size_alloc];omega
      intro v5 w5 hv5 hg5 _;have HV5:=hid hv5;have HB5:=hid (below_grown HL3.out HR3.out hg5 hzr3);clear hv5 hg5
      go_wp2_with fail
      go_roundw
      case rel=>exact ⟨i+1,_,by go_num,by omega,HN2,hid (by have:=HV5.out;rw [← tokCs_app] at this;simpa [List.length_append,HO.out] using this),HB5⟩
      case measure=>simp [intOf];omega
    ·have HBF:=hid hbl
     have e32:((z.toNat:Int)==32)=false:=by have h:=u8_eq z 32;rw [decide_eq_false n32] at h;exact h
     have e9:((z.toNat:Int)==9)=false:=by have h:=u8_eq z 9;rw [decide_eq_false n9] at h;exact h
     have e13:((z.toNat:Int)==13)=false:=by have h:=u8_eq z 13;rw [decide_eq_false n13] at h;exact h
     have e10:((z.toNat:Int)==10)=false:=by have h:=u8_eq z 10;rw [decide_eq_false n10] at h;exact h
     clear hbl n32 n9 n13 n10
     by_cases hn0:0<n
     ·have hle:i+n≤s.size:=by have h:=cmt_le (s.extract i s.size).toList;rw [HN.out,ext_drop,List.length_drop,tl_len] at h;omega
      have HN2:Hid (ScSt right s (i+n) O):=hid (by have h:=scSt_cmt HS.out hlt (by rw [HZE.out];exact HBF.out) (by rw [HN.out];exact hn0);rwa [HN.out] at h);clear HS
      go_wp2_with fail
      go_roundw
      case rel=>exact ⟨i+n,O,by go_num,by omega,HN2,hid (by have h:=HR3.out;rw [HO.out];exact h),HL3⟩
      case measure=>simp [intOf];omega
     ·have cW:=CW.out i hlt HS.out.ok w3
      obtain ⟨⟨x,j⟩,hw⟩:∃ p,wordL right (s.extract i s.size).toList=p:=⟨_,rfl⟩;rw [hw] at cW;obtain ⟨hij,hj1,hN2⟩:=scSt_word HS.out hlt (by rw [HZE.out];exact HBF.out) (by rw [HN.out];omega) hw;have HN2:=hid hN2;simp only at cW;clear HS hN2 hw
      go_wp2_with fail
      refine cW.mono ?_;rintro e w4 ⟨rfl,hb4⟩
      have hzr4:Z≤w4.heap.size:=by have:=hb4.size;omega
      have HL4:Hid (Below Z w1 w4):=hid (HL3.out.trans (hb4.mono hzr3));have HR4:=hid (owns_later HR3.out hb4);clear hb4 cW HR3 HL3
      go_wp2_with fail
      rw [run_slice_string _ _ _ _ _ _ _ Tryz.underlying9 (by omega) (by omega) (by omega),show ((i:Int)).toNat=i by omega,show ((i:Int)+(j:Int)).toNat=i+j by omega]
      go_wp2_with (at_builtin;refine wpList_append_own _ rfl _ _ 41 rfl Z 48 i0 (.agg #[.int .i64 0,.string ⟨#[]⟩,.int .i64 0,.int .i64 0]) 4 40 Tryz.underlying41 hi0 hz0 hz1 hz2 rfl (by decide) _ _ _ rfl (HR4.out.alloc _) ⟨w4.heap.size,0,none⟩ 1 1 (tokCs [⟨x,(s.extract i (i+j)).toList,i,((i+j:Nat):Int)⟩]) rfl rfl ?c1 (plain_toks _) ?c3 ?c4 ?c5 ?_)
      case c1=>exact new_tokS _ _ _ _ _
      case c3=>unfold maxLen;omega
      case c4=>omega
      case c5=>rw [World.size_alloc];omega
      intro v5 w5 hv5 hg5 _;have HV5:=hid hv5;have HB5:=hid (below_grown HL4.out HR4.out hg5 hzr4);clear hv5 hg5
      go_wp2_with fail
      go_roundw
      case rel=>exact ⟨i+j,_,by go_num,by omega,HN2,hid (by have:=HV5.out;rw [← tokCs_app] at this;simpa [List.length_append,HO.out] using this),HB5⟩
      case measure=>simp [intOf];omega
  ·obtain rfl:i=s.size:=by omega
   by_cases h0:O.length=0
   ·have hO0:O=[]:=List.length_eq_zero_iff.1 h0
    have HF:Hid (scanB right s.toList=O):=hid (by have h:=HS.out.all;rw [scanAt_end,hO0] at h;rw [h,hO0];rfl);have HO:=hid h0;rw [h0] at HR ⊢;clear h0 hO0 hfew HS
    go_wp2_with fail
    go_ret
    exact ⟨_,rfl,by rw [HF.out];exact toks_row HR.out HO.out hwZ,HB1.out.trans (HL.out.mono hwZ)⟩
   ·obtain ⟨k,hk⟩:∃ k,O.length=k+1:=⟨O.length - 1,by omega⟩
    obtain ⟨g,c,hv,hkc,hgZ,hgw⟩:=row_some HR.out (by omega)
    cases hv
    have hta:=toks_at HR.out rfl
    have hkO:k<O.length:=by omega
    have hcl:=tok_at k hta hkO;obtain ⟨t,ht⟩:∃ t,O[k]=t:=⟨_,rfl⟩;rw [ht] at hcl
    have hend:endL O=endsP t.w t.t:=by
     unfold endL
     rw [List.getLast?_eq_getElem?,hk,Nat.add_sub_cancel,List.getElem?_eq_getElem hkO,ht]
    simp only [Nat.zero_add] at hcl;obtain ⟨c0,c1,c2,c3⟩:=hcl;have HEND:=hid hend
    have hk6:k≤1000000:=by omega
    clear hend hta ht h0 hfew;have cE:=CE.out t.w t.f t.e ⟨t.t.toArray⟩ wr;have HO:=hid hk;rw [hk] at HR hkO ⊢;clear hk
    go_wp2_with fail
    refine cE.mono ?_;rintro e w3 ⟨rfl,hb3⟩
    have hzr3:Z≤w3.heap.size:=by have:=hb3.size;omega
    have HL3:Hid (Below Z w1 w3):=hid (HL.out.trans (hb3.mono hzr));have HR3:Hid (w3.ownsRow Z 48 4 (.slice (some ⟨g,0,none⟩) (k+1) oc) (k+1) (tokCs O)):=hid (owns_later HR.out hb3);obtain ⟨b,hb⟩:∃ b,endsP t.w (⟨t.t.toArray⟩:ByteArray).toList=b:=⟨_,rfl⟩;rw [hb];have HEB:Hid (endL O=b):=hid (by rw [HEND.out,← hb,ByteArray.toList_eq]);clear cE hb c0 c1 c2 c3 hb3 HR HL HEND
    cases b
    ·have HF:Hid (scanB right s.toList=O):=hid (by have h:=HS.out.all;rw [scanAt_end,HEB.out] at h;simpa using h)
     clear HS
     go_wp2_with fail
     go_ret
     exact ⟨_,rfl,by rw [HF.out];exact toks_row HR3.out HO.out hwZ,HB1.out.trans (HL3.out.mono hwZ)⟩
    ·have HF:Hid (scanB right s.toList=O++[⟨5,[],s.size,s.size⟩]):=hid (by have h:=HS.out.all;rw [scanAt_end,HEB.out] at h;simpa using h)
     clear HS
     go_wp2_with (at_builtin;refine wpList_append_own _ rfl _ _ 41 rfl Z 48 i0 (.agg #[.int .i64 0,.string ⟨#[]⟩,.int .i64 0,.int .i64 0]) 4 40 Tryz.underlying41 hi0 hz0 hz1 hz2 rfl (by decide) _ _ _ rfl (HR3.out.alloc _) ⟨w3.heap.size,0,none⟩ 1 1 (tokCs [⟨5,[],s.size,s.size⟩]) rfl rfl ?c1 (plain_toks _) ?c3 ?c4 ?c5 ?_)
     case c1=>exact new_tok _ _
     case c3=>unfold maxLen;omega
     case c4=>omega
     case c5=>rw [World.size_alloc];omega
     intro v5 w5 hv5 hg5 _;have HV5:=hid hv5;have HB5:=hid (below_grown HL3.out HR3.out hg5 hzr3);clear hv5 hg5
     go_wp2_with fail
     go_ret
     exact ⟨_,rfl,by rw [HF.out];exact toks_row (n:=k+1+1) (by have:=HV5.out;rw [← tokCs_app] at this;exact this) (by simp [HO.out]) hwZ,HB1.out.trans (HB5.out.mono hwZ)⟩
end Go.Proofs.YtmclaaonlhnbmaaGreatDoor.S
namespace Go.Proofs.YtmclaaonlhnbmaaGreatDoor.T
open Go.RowKit
open Go.Lib hiding intOf
open U S L
open Go.Proofs.YtmclaaonlhnbmaaGreatDoor.K (declP DeclPost)
open Go.Proofs.YtmclaaonlhnbmaaGreatDoor.J (refDeep_any wtP arg kids_form kids_below)
theorem func_fwd (L:List TokP) (n i:Nat) (hi:i≤L.length):Fwd L i (func' L n i):=by
 unfold func'
 refine (mustT_fwd _ hi).next fun _ j _ _ hj=>((nameT_fwd hj).next fun s k _ _ hk=>((mustT_fwd _ hk).next fun _ m _ _ hm=>?_).toFw).toFw
 refine Fw.next (i:=m) ?_ fun ps o _ _ ho=>Fw.next (i:=o) ?_ fun rs q _ _ hq=>(((all_fwdS L n).block q hq).next fun b r _ _ hr=>part_fw _ _ _ _ hr).toFw
 ·split
  ·rename_i h
   exact .ok (Nat.le_succ _) (isT_lt h) _
  ·exact params_fwd L n n _ _ hm
 ·split
  ·exact .ok (Nat.le_refl _) ho _
  ·exact ((typed_fwd n _ ho).next fun x q _ _ hq=>Fw.ok (Nat.le_refl _) hq _).toFw
theorem record_fwd (L:List TokP) (n i:Nat) (hi:i≤L.length):Fwd L i (record L n i):=by
 unfold record
 exact (mustT_fwd _ hi).next fun _ j _ _ hj=>((nameT_fwd hj).next fun s k _ _ hk=>((mustT_fwd _ hk).next fun _ m _ _ hm=>((mustT_fwd _ hm).next fun _ o _ _ ho=>((fields_fwd L n n _ [] (semi_le L ho)).mono (Nat.le_add_right _ _)).next fun l q _ _ hq=>((mustT_fwd _ hq).next fun _ r _ _ hr=>part_fw _ _ _ _ hr).toFw).toFw).toFw).toFw
theorem below_drewN {B:Nat} {a w:World} (h:Below B a w) (n:Nat):Below B a (w.drewN n):=⟨h.os,h.tape,h.output,h.size,h.block⟩
set_option maxHeartbeats 16000000 in
set_option maxRecDepth 20000 in
theorem refDecl_any (s:ByteArray) (w:World) (hs:s.size≤600):Calls Tryz.prog 9 #[.string s] w (DeclPost s w):=by
 have hsl:s.toList.length=s.size:=by rw [ByteArray.toList_eq];simp
 have hwt:=fun p (h:K.fate (scanB (okB s) s.toList)=.part p)=>K.wt_fate (by omega) h
 have hll:=K.scan_len' (okB s) s.toList
 have cS:=fun X=>refScan_any s X (by omega)
 obtain ⟨L,hL0⟩:∃ L,scanB (okB s) s.toList=L:=⟨_,rfl⟩;rw [hL0] at hll hwt cS;obtain ⟨sz,hsz⟩:∃ z,s.size=z:=⟨_,rfl⟩
 have hL1:L.length≤1000:=by omega
 have hLm:L.length≤1000000:=by omega
 have HFin:Hid (∀ (p:Pt) (at' er:Int) (plv:Value) (W:World),declP L sz=(p,at',er)→KidsIn W (fun _=>True) p plv→Below w.heap.size w W→wtP p≤100000000→DeclPost s w (.returned (.tuple #[arg p plv,.int .i64 at',.int .i64 er])) W):=hid (fun p at' er plv W h1 h2 h3 h4=>⟨p,at',er,plv,by rw [hL0,hsz];exact h1,rfl,h2,h3,h4⟩);obtain ⟨op,hop⟩:∃ u,decl L (8*L.length+10)=u:=⟨_,rfl⟩;have Hop:=hid hop;have HWt:=hid hwt;have HSZ:=hid hsz;obtain ⟨P,hP⟩:∃ P,DeclPost s w=P:=⟨_,rfl⟩;rw [hP] at HFin ⊢;have HCS:=hid cS;obtain ⟨W1,hW1⟩:∃ X,w.alloc zeroP=X:=⟨_,rfl⟩
 have hb1:Below w.heap.size w W1:=by rw [← hW1];exact (Below.refl _ w).alloc (Nat.le_refl _) _
 have HQ1:Hid (W1.heap[w.heap.size]?=some (.cells #[.string ⟨#[]⟩,.string ⟨#[]⟩,.int .i64 0,.int .i64 0,.slice none 0 0] 25 (0,0))):=hid (by rw [← hW1];exact heap_alloc_new w _);have HB1:=hid hb1;have HW1:=hid hW1;clear hop hwt hsz hsl hll cS hP hb1 hW1 hL0
 go_enter Tryz.func9,Tryz.ntmps9
 go_upto_region 1 with fail
 try rw [HW1.out]
 have c1:=HCS.out W1
 go_wp2_with fail
 refine c1.mono ?_;rintro e w2 ⟨v,rfl,⟨a,cap,rfl,hcap,hrow⟩,hb2⟩;obtain ⟨lv,hlv⟩:∃ u,Value.slice a L.length cap=u:=⟨_,rfl⟩;have HLV:=hid hlv;have HB2:=hid (HB1.out.trans (hb2.mono HB1.out.size));have HQ2:=hid ((hb2.block _ (Array.getElem?_eq_some_iff.1 HQ1.out).1).trans HQ1.out);have HTk2:Hid (∀ d,w2.heap.size≤d→Tk d L lv w2):=hid (fun d hd=>⟨a,cap,hlv.symm,hrow.imp id (fun ⟨g,off,h1,h2,h3,h4⟩=>⟨g,off,h1,by omega,h3,h4⟩)⟩);have HTK:Hid (∀ (d:Nat) (X:World),w2.heap.size≤d→(∀ k,k<w2.heap.size→X.heap[k]?=w2.heap[k]?)→w2.heap.size≤X.heap.size→Tk d L lv X):=hid (fun d X hd hX hz=>⟨a,cap,hlv.symm,hrow.imp id (fun ⟨g,off,h1,h2,h3,h4⟩=>⟨g,off,h1,by omega,by omega,fun j u hj=>by rw [World.cell?_of_block (hX g h3)];exact h4 j u hj⟩)⟩);clear c1 hb2 hrow hlv
 go_upto_region 2 with fail
 obtain ⟨d,hd⟩:∃ d,w2.heap.size=d:=⟨_,rfl⟩;obtain ⟨W3,hW3⟩:∃ X,w2.alloc (.cells #[.slice a L.length cap,.int .i64 0,.bool false] 44)=X:=⟨_,rfl⟩
 have hb3:Below w2.heap.size w2 W3:=by rw [← hW3];exact (Below.refl _ w2).alloc (Nat.le_refl _) _
 have hR3:Rd d lv 0 false W3:=by rw [← HLV.out,← hW3,← hd];exact heap_alloc_new w2 _
 try rw [hW3]
 try rw [hd]
 have HZ3:Hid (w2.heap.size=d∧d<W3.heap.size):=hid ⟨hd,hR3.lt⟩;have HR3:=hid hR3;have HB3:=hid hb3;clear hW3 hd hb3 hR3
 go_upto_region 4 with fail
 obtain ⟨q,hq⟩:∃ q,W3.heap.size=q:=⟨_,rfl⟩;obtain ⟨W4,hW4⟩:∃ X,W3.alloc zeroP=X:=⟨_,rfl⟩
 have hb4:Below W3.heap.size W3 W4:=by rw [← hW4];exact (Below.refl _ W3).alloc (Nat.le_refl _) _
 have hq4:W4.heap[q]?=some (.cells #[.string ⟨#[]⟩,.string ⟨#[]⟩,.int .i64 0,.int .i64 0,.slice none 0 0] 25 (0,0)):=by rw [← hW4,← hq];exact heap_alloc_new W3 _
 try rw [hW4]
 try rw [hq]
 have HQP:=hid hq4;have HZ4:Hid (w.heap.size<d∧d<q∧q<W4.heap.size):=hid ⟨by have h1:=(Array.getElem?_eq_some_iff.1 HQ2.out).1;have h2:=HZ3.out;omega,by have:=HZ3.out;omega,(Array.getElem?_eq_some_iff.1 hq4).1⟩;have HR4:=hid (HR3.out.below hb4);have HB4:Hid (Below w2.heap.size w2 W4):=hid (HB3.out.trans (hb4.mono HB3.out.size));have HT4:Hid (Tk d L lv W4):=hid ((HTk2.out d (by have:=HZ3.out;omega)).mv (Mv.of_below HB4.out) (Nat.le_refl _));have HQ4:Hid (W4.heap[w.heap.size]?=_):=hid ((HB4.out.block _ (Array.getElem?_eq_some_iff.1 HQ2.out).1).trans HQ2.out);have HBW:Hid (Below w.heap.size w W4):=hid (HB2.out.trans (HB4.out.mono HB2.out.size));clear hW4 hq hb4 hq4 HR3 HB3 HTk2 HQ1 HQ2 HB1 HCS HW1;have HM4:Hid (Mv W4.heap.size d W4 W4):=hid (Mv.refl _ _ _);have c5:=is_any d L lv 0 false kFunc W4 HR4.out (HT4.out.mv HM4.out (Nat.le_refl _));rw [show bstr kFunc=⟨#[102,117,110,99]⟩ from rfl] at c5;obtain ⟨R1,hR1⟩:∃ R,isT L kFunc 0=R:=⟨_,rfl⟩;rw [show (!false&&isT L kFunc 0)=R1 from hR1] at c5;have HR1:=hid hR1;clear hR1
 cases R1
 ·skip
  go_wp2_with fail
  refine c5.mono ?_;intro x w5 h9;obtain ⟨rfl,hw9⟩:=h9.went HR4.out;have HM5:=hid (HM4.out.trans (hw9.2.mono HM4.out.size));have HR5:=hid hw9.1;clear c5 h9 hw9;have c6:=is_any d L lv 0 false kVar w5 HR5.out (HT4.out.mv HM5.out (Nat.le_refl _));rw [show bstr kVar=⟨#[118,97,114]⟩ from rfl] at c6;obtain ⟨R2,hR2⟩:∃ R,isT L kVar 0=R:=⟨_,rfl⟩;rw [show (!false&&isT L kVar 0)=R2 from hR2] at c6;have HR2:=hid hR2;clear hR2
  cases R2
  ·skip
   go_wp2_with fail
   refine c6.mono ?_;intro x w6 h9;obtain ⟨rfl,hw9⟩:=h9.went HR5.out;have HM6:=hid (HM5.out.trans (hw9.2.mono HM5.out.size));have HR6:=hid hw9.1;clear c6 h9 hw9;have c7:=is_any d L lv 0 false kType w6 HR6.out (HT4.out.mv HM6.out (Nat.le_refl _));rw [show bstr kType=⟨#[116,121,112,101]⟩ from rfl] at c7;obtain ⟨R3,hR3⟩:∃ R,isT L kType 0=R:=⟨_,rfl⟩;rw [show (!false&&isT L kType 0)=R3 from hR3] at c7;have HR3:=hid hR3;clear hR3
   cases R3
   ·skip
    have HPD:Hid (op=.bad 0):=hid (by
     rw [← Hop.out]
     unfold decl
     rw [if_neg (by rw [HR1.out];decide),if_neg (by rw [HR2.out];decide),if_neg (by rw [HR3.out];decide)])
    go_wp2_with fail
    refine c7.mono ?_;intro x w7 h9;obtain ⟨rfl,hw9⟩:=h9.went HR6.out;have HM7:=hid (HM6.out.trans (hw9.2.mono HM6.out.size));have HR7:=hid hw9.1;clear c7 h9 hw9;have HLE:Hid (op.at≤L.length):=hid (by rw [HPD.out];exact Nat.zero_le _);have k2:=HR7.out.c2;have f2:=HR7.out.f2;obtain ⟨WT,hWT⟩:∃ W,w7.setCell ⟨d,2,none⟩ (.bool true)=W:=⟨_,rfl⟩
    have hTo:∀ g,g≠d→WT.heap[g]?=w7.heap[g]?:=fun g hg=>by rw [← hWT];exact Below.heap_setCell _ _ _ _ hg
    have hTs:WT.heap.size=w7.heap.size:=by rw [← hWT];simp
    have HBX:Hid (WT.heap[q]?=some (.cells #[.string ⟨#[]⟩,.string ⟨#[]⟩,.int .i64 0,.int .i64 0,.slice none 0 0] 25 (0,0))):=hid ((hTo q (by have:=HZ4.out;omega)).trans ((HM7.out.block q HZ4.out.2.2 (by have:=HZ4.out;omega)).trans HQP.out));have HRT:Hid (Rd d lv op.at op.isBad WT):=hid (by rw [HPD.out,← hWT];exact HR7.out.set2 true);have HMT:Hid (Mv q d W4 WT):=hid ((HM7.out.mono (by have:=HZ4.out;omega)).trans ⟨by rw [← hWT];rfl,by rw [← hWT];rfl,by rw [← hWT];rfl,by omega,fun k hk hd=>hTo k hd⟩);have HTT:Hid (Tk d L lv WT):=hid (HTK.out d WT (by have:=HZ3.out;omega) (fun k hk=>(HMT.out.block k (by have:=HZ4.out;have:=HZ3.out;omega) (by have:=HZ3.out;omega)).trans (HB4.out.block k hk)) (Nat.le_trans HB4.out.size HMT.out.size));have HPV:Hid (∀ p j,op=.ok p j→(.agg #[.string ⟨#[]⟩,.string ⟨#[]⟩,.int .i64 0,.int .i64 0,.slice none 0 0]:Value)=.agg (five p (.slice none 0 0)).toArray∧KidsIn WT (fun g=>q<g) p (.slice none 0 0)):=hid (fun p j h=>by rw [HPD.out] at h;cases h);clear hTo hTs
    go_upto_region 10 with fail
    try rw [hWT]
    clear k2 f2 hWT;have cse:=semis_any d L lv op.at op.isBad WT HRT.out HTT.out HLE.out hLm;obtain ⟨k0,hk0⟩:∃ u,op.at+(if op.isBad then 0 else semiN L op.at)=u:=⟨_,rfl⟩;rw [hk0] at cse;obtain ⟨RS,hRS⟩:∃ R,decide (0<(if op.isBad then 0 else semiN L op.at))=R:=⟨_,rfl⟩;rw [hRS] at cse;have HK0:=hid hk0;clear hRS hk0
    go_wp2_with fail
    refine cse.mono ?_;rintro x w8 ⟨rfl,hw8⟩;have hz8:q<WT.heap.size:=(Array.getElem?_eq_some_iff.1 HBX.out).1;have hbx8:w8.heap[q]?=_:=(hw8.2.block q hz8 (by have:=HZ4.out;omega)).trans HBX.out;have hrs8:w8.heap[w.heap.size]?=some (.cells #[.string ⟨#[]⟩,.string ⟨#[]⟩,.int .i64 0,.int .i64 0,.slice none 0 0] 25 (0,0)):=(hw8.2.block _ (by have:=HZ4.out;omega) (by have:=HZ4.out;omega)).trans ((HMT.out.block _ (by have:=HZ4.out;omega) (by have:=HZ4.out;omega)).trans HQ4.out);have HBW8:Hid (Below w.heap.size w w8):=hid ((HBW.out.trans ((HMT.out.mono (by have:=HZ4.out;omega)).below (by have:=HZ4.out;omega))).trans ((hw8.2.mono (by have:=HZ4.out;omega)).below (by have:=HZ4.out;omega)));have HPV8:Hid (∀ p j,op=.ok p j→(.agg #[.string ⟨#[]⟩,.string ⟨#[]⟩,.int .i64 0,.int .i64 0,.slice none 0 0]:Value)=.agg (five p (.slice none 0 0)).toArray∧KidsIn w8 (fun g=>q<g) p (.slice none 0 0)):=hid (fun p j h=>⟨(HPV.out p j h).1,(HPV.out p j h).2.later (fun g hg hgl=>hw8.2.block g hgl (by have:=HZ4.out;omega)) (fun _ hg=>hg)⟩);have HBX8:=hid hbx8;have HRS8:=hid hrs8;have HR8:=hid hw8.1;have HT8:Hid (Tk d L lv w8):=hid (HTT.out.mv hw8.2 (Nat.le_refl _));obtain ⟨⟨p0,p1,p2,p3,p4⟩,-⟩:=five_cells hbx8;obtain ⟨⟨r0,r1,r2,r3,r4⟩,gz⟩:=five_cells hrs8;have g0:=gz 0;have g1:=gz 1;have g2:=gz 2;have g3:=gz 3;have g4:=gz 4;have c0:=HR8.out.c0;have c1:=HR8.out.c1;have c2:=HR8.out.c2;rw [← HLV.out] at c0;obtain ⟨ln,hln⟩:∃ u,L.length=u:=⟨_,rfl⟩;rw [hln] at c0;have HLN:=hid hln;have hsz':=HSZ.out
    clear cse hw8 hbx8 hrs8 gz hz8
    by_cases hlt:k0<ln
    ·obtain ⟨g,off,cap2,hlv2,hgd,t0,t1,t2,t3⟩:=tk_word (i:=k0) HT8.out (by omega)
     rw [← HLV.out] at hlv2
     injection hlv2 with i1 i2 i3
     subst i1;subst i3;have hFT:L[k0].f=(K.tok L sz k0).f:=(tok_in (by omega)).symm;rw [hFT] at t2;obtain ⟨ff,hff⟩:∃ u,(K.tok L sz k0).f=u:=⟨_,rfl⟩;rw [hff] at t2;have HFF:=hid hff
     have hii:(k0:Int)<(ln:Int):=by omega
     have hii0:(0:Int)≤(k0:Int):=by omega
     have hDP:declP L sz=(K.zeroP,ff,101):=by
      have hk0:=HK0.out;rw [← hff]
      cases hob:op with
      | bad j =>
       rw [hob] at hk0;have hk0:j=k0:=hk0;rw [← hk0]
       exact declP_bad (Hop.out.trans hob)
      | ok p j =>
       rw [hob] at hk0;have hk0:j+semiN L j=k0:=hk0;rw [← hk0]
       exact declP_left (Hop.out.trans hob) (by omega)
     have HDP:=hid hDP;clear hDP hFT t0 t1 t3 hff hln hgd
     cases hob:op.isBad
     ·rw [hob] at c2
      clear hob
      go_upto_region 11 with fail
      go_quiet (fail)
      go_upto_region 13 with fail
      go_quiet (fail)
      go_upto_region 14 with fail
      go_quiet (fail)
      go_wp2_with fail
      generalize hX:World.drewN w8 _=X;obtain ⟨Wf,hWf,f0,oth,hz9⟩:=put_five (W:=X) (a':=.string ⟨#[]⟩) (b':=.string ⟨#[]⟩) (c':=.int .i64 0) (e':=.int .i64 0) (f':=.slice none 0 0) (by rw [← hX];exact HRS8.out);rw [hWf];obtain ⟨⟨y0,y1,y2,y3,y4⟩,_⟩:=five_cells f0;have hbx:Below w.heap.size w X:=(by rw [← hX];exact below_drewN HBW8.out _)
      have hbw:Below w.heap.size w Wf:=by
       rw [← hWf]
       exact (((((hbx.setCell (p:=⟨w.heap.size,0,none⟩) (Nat.le_refl _) _).setCell (p:=⟨w.heap.size,1,none⟩) (Nat.le_refl _) _).setCell (p:=⟨w.heap.size,2,none⟩) (Nat.le_refl _) _).setCell (p:=⟨w.heap.size,3,none⟩) (Nat.le_refl _) _).setCell (p:=⟨w.heap.size,4,none⟩) (Nat.le_refl _) _)
      have hfin:P (.returned (.tuple #[.agg #[.string ⟨#[]⟩,.string ⟨#[]⟩,.int .i64 0,.int .i64 0,.slice none 0 0],.int .i64 ff,.int .i64 101])) Wf:=HFin.out (K.zeroP) ff 101 (.slice none 0 0) Wf HDP.out ⟨none,0,rfl,Nat.le_refl _,.inl rfl⟩ hbw (by decide);clear hWf f0 oth hz9 hbx hbw r0 r1 r2 r3 r4 g0 g1 g2 g3 g4 p0 p1 p2 p3 p4
      simp [bodyPost,results,Tryz.results9,go_sem,y0,y1,y2,y3,y4]
      exact hfin
     ·rw [hob] at c2
      clear hob
      go_upto_region 11 with fail
      go_quiet (fail)
      go_upto_region 13 with fail
      go_quiet (fail)
      go_upto_region 14 with fail
      go_quiet (fail)
      go_wp2_with fail
      generalize hX:World.drewN w8 _=X;obtain ⟨Wf,hWf,f0,oth,hz9⟩:=put_five (W:=X) (a':=.string ⟨#[]⟩) (b':=.string ⟨#[]⟩) (c':=.int .i64 0) (e':=.int .i64 0) (f':=.slice none 0 0) (by rw [← hX];exact HRS8.out);rw [hWf];obtain ⟨⟨y0,y1,y2,y3,y4⟩,_⟩:=five_cells f0;have hbx:Below w.heap.size w X:=(by rw [← hX];exact below_drewN HBW8.out _)
      have hbw:Below w.heap.size w Wf:=by
       rw [← hWf]
       exact (((((hbx.setCell (p:=⟨w.heap.size,0,none⟩) (Nat.le_refl _) _).setCell (p:=⟨w.heap.size,1,none⟩) (Nat.le_refl _) _).setCell (p:=⟨w.heap.size,2,none⟩) (Nat.le_refl _) _).setCell (p:=⟨w.heap.size,3,none⟩) (Nat.le_refl _) _).setCell (p:=⟨w.heap.size,4,none⟩) (Nat.le_refl _) _)
      have hfin:P (.returned (.tuple #[.agg #[.string ⟨#[]⟩,.string ⟨#[]⟩,.int .i64 0,.int .i64 0,.slice none 0 0],.int .i64 ff,.int .i64 101])) Wf:=HFin.out (K.zeroP) ff 101 (.slice none 0 0) Wf HDP.out ⟨none,0,rfl,Nat.le_refl _,.inl rfl⟩ hbw (by decide);clear hWf f0 oth hz9 hbx hbw r0 r1 r2 r3 r4 g0 g1 g2 g3 g4 p0 p1 p2 p3 p4
      simp [bodyPost,results,Tryz.results9,go_sem,y0,y1,y2,y3,y4]
      exact hfin
    ·cases hob:op.isBad
     ·rw [hob] at c2
      have hok:=out_pt hob;obtain ⟨pp,hpp⟩:∃ u,op.pt=u:=⟨_,rfl⟩;rw [hpp] at hok
      have hk9:¬ op.at+semiN L op.at<L.length:=by
       have h:=HK0.out;rw [hob,if_neg (by decide)] at h
       omega
      have hw9:=HWt.out pp (fate_ok (Hop.out.trans hok) hk9);have hdp:=declP_ok (size:=sz) (Hop.out.trans hok) hk9;obtain ⟨v1,v2⟩:=HPV8.out pp op.at hok;obtain ⟨dp,hdpe⟩:∃ u,deep pp=u:=⟨_,rfl⟩
      have cD:∀ X,Below w8.heap.size w8 X→Calls Tryz.prog 26 #[.agg #[.string ⟨#[]⟩,.string ⟨#[]⟩,.int .i64 0,.int .i64 0,.slice none 0 0]] X fun e X'=>e=.returned (.int .i64 dp)∧Below X.heap.size X X':=fun X hX=>by
       rw [show (.agg #[.string ⟨#[]⟩,.string ⟨#[]⟩,.int .i64 0,.int .i64 0,.slice none 0 0]:Value)=arg pp (.slice none 0 0) from v1,← hdpe]
       exact refDeep_any pp _ _ X (kids_below v2 hX) (by omega)
      rw [hdpe] at hdp;have HV1:=hid v1;have HV2:=hid v2;have HW9:=hid hw9;have HDP:=hid hdp;clear hob hln hok hpp hk9 hw9 hdp v1 v2 hdpe
      go_upto_region 11 with fail
      go_quiet (fail)
      go_wp2_with fail
      refine (cD _ (below_drewN (Below.refl _ _) _)).mono ?_;rintro e9 w9 ⟨rfl,hb9⟩;have hb89:Below w8.heap.size w8 w9:=(below_drewN (Below.refl _ w8) _).trans hb9;have hbx9:=(hb89.block q (Array.getElem?_eq_some_iff.1 HBX8.out).1).trans HBX8.out;have hrs9:=(hb89.block _ (Array.getElem?_eq_some_iff.1 HRS8.out).1).trans HRS8.out;have HB89:=hid hb89;have HRS9:=hid hrs9;obtain ⟨⟨p0,p1,p2,p3,p4⟩,-⟩:=five_cells hbx9;obtain ⟨⟨r0,r1,r2,r3,r4⟩,gz⟩:=five_cells hrs9;have g0:=gz 0;have g1:=gz 1;have g2:=gz 2;have g3:=gz 3;have g4:=gz 4;clear cD hb9 hb89 hbx9 hrs9 gz
      by_cases hd40:40<dp
      ·go_wp2_with fail
       obtain ⟨Wf,hWf,f0,oth,hz9⟩:=put_five (W:=w9) (a':=.string ⟨#[]⟩) (b':=.string ⟨#[]⟩) (c':=.int .i64 0) (e':=.int .i64 0) (f':=.slice none 0 0) HRS9.out;rw [hWf];obtain ⟨⟨y0,y1,y2,y3,y4⟩,_⟩:=five_cells f0;have hbx:Below w.heap.size w w9:=(HBW8.out.trans (HB89.out.mono HBW8.out.size))
       have hbw:Below w.heap.size w Wf:=by
        rw [← hWf]
        exact (((((hbx.setCell (p:=⟨w.heap.size,0,none⟩) (Nat.le_refl _) _).setCell (p:=⟨w.heap.size,1,none⟩) (Nat.le_refl _) _).setCell (p:=⟨w.heap.size,2,none⟩) (Nat.le_refl _) _).setCell (p:=⟨w.heap.size,3,none⟩) (Nat.le_refl _) _).setCell (p:=⟨w.heap.size,4,none⟩) (Nat.le_refl _) _)
       have hfin:P (.returned (.tuple #[.agg #[.string ⟨#[]⟩,.string ⟨#[]⟩,.int .i64 0,.int .i64 0,.slice none 0 0],.int .i64 0,.int .i64 22])) Wf:=HFin.out (K.zeroP) 0 22 (.slice none 0 0) Wf (by rw [HDP.out,if_pos hd40]) ⟨none,0,rfl,Nat.le_refl _,.inl rfl⟩ hbw (by decide);clear hWf f0 oth hz9 hbx hbw r0 r1 r2 r3 r4 g0 g1 g2 g3 g4 p0 p1 p2 p3 p4
       simp [bodyPost,results,Tryz.results9,go_sem,y0,y1,y2,y3,y4]
       exact hfin
      ·go_wp2_with fail
       obtain ⟨Wf,hWf,f0,oth,hz9⟩:=put_five (W:=w9) (a':=.string ⟨#[]⟩) (b':=.string ⟨#[]⟩) (c':=.int .i64 0) (e':=.int .i64 0) (f':=.slice none 0 0) HRS9.out;rw [hWf];obtain ⟨⟨y0,y1,y2,y3,y4⟩,_⟩:=five_cells f0;have hbx:Below w.heap.size w w9:=(HBW8.out.trans (HB89.out.mono HBW8.out.size))
       have hbw:Below w.heap.size w Wf:=by
        rw [← hWf]
        exact (((((hbx.setCell (p:=⟨w.heap.size,0,none⟩) (Nat.le_refl _) _).setCell (p:=⟨w.heap.size,1,none⟩) (Nat.le_refl _) _).setCell (p:=⟨w.heap.size,2,none⟩) (Nat.le_refl _) _).setCell (p:=⟨w.heap.size,3,none⟩) (Nat.le_refl _) _).setCell (p:=⟨w.heap.size,4,none⟩) (Nat.le_refl _) _)
       have hfin:P (.returned (.tuple #[.agg #[.string ⟨#[]⟩,.string ⟨#[]⟩,.int .i64 0,.int .i64 0,.slice none 0 0],.int .i64 0,.int .i64 0])) Wf:=by have h:=HFin.out pp 0 0 (.slice none 0 0) Wf (by rw [HDP.out,if_neg hd40]) (KidsIn.later (fun g hg _=>(oth g (by have:=HZ4.out;omega)).trans (HB89.out.block g hg.2)) (fun _ _=>trivial) _ _ (KidsIn.live _ _ HV2.out)) hbw HW9.out;rw [show arg pp (.slice none 0 0)=(.agg #[.string ⟨#[]⟩,.string ⟨#[]⟩,.int .i64 0,.int .i64 0,.slice none 0 0]:Value) from HV1.out.symm] at h;exact h
       clear hWf f0 oth hz9 hbx hbw r0 r1 r2 r3 r4 g0 g1 g2 g3 g4 p0 p1 p2 p3 p4
       simp [bodyPost,results,Tryz.results9,go_sem,y0,y1,y2,y3,y4]
       exact hfin
     ·rw [hob] at c2
      have HDP:Hid (declP L sz=(K.zeroP,(sz:Int),101)):=hid (by
       have hk0:=HK0.out
       cases hop2:op with
       | ok p j=>rw [hop2] at hob;cases hob
       | bad j =>
        rw [hop2] at hk0;have hk0:j=k0:=hk0
        rw [declP_bad (Hop.out.trans hop2),tok_out (by omega)])
      clear hob hln
      go_upto_region 11 with fail
      go_quiet (fail)
      go_upto_region 13 with fail
      go_quiet (fail)
      go_wp2_with fail
      generalize hX:World.drewN w8 _=X;obtain ⟨Wf,hWf,f0,oth,hz9⟩:=put_five (W:=X) (a':=.string ⟨#[]⟩) (b':=.string ⟨#[]⟩) (c':=.int .i64 0) (e':=.int .i64 0) (f':=.slice none 0 0) (by rw [← hX];exact HRS8.out);rw [hWf];obtain ⟨⟨y0,y1,y2,y3,y4⟩,_⟩:=five_cells f0;have hbx:Below w.heap.size w X:=(by rw [← hX];exact below_drewN HBW8.out _)
      have hbw:Below w.heap.size w Wf:=by
       rw [← hWf]
       exact (((((hbx.setCell (p:=⟨w.heap.size,0,none⟩) (Nat.le_refl _) _).setCell (p:=⟨w.heap.size,1,none⟩) (Nat.le_refl _) _).setCell (p:=⟨w.heap.size,2,none⟩) (Nat.le_refl _) _).setCell (p:=⟨w.heap.size,3,none⟩) (Nat.le_refl _) _).setCell (p:=⟨w.heap.size,4,none⟩) (Nat.le_refl _) _)
      have hfin:P (.returned (.tuple #[.agg #[.string ⟨#[]⟩,.string ⟨#[]⟩,.int .i64 0,.int .i64 0,.slice none 0 0],.int .i64 (sz:Int),.int .i64 101])) Wf:=HFin.out (K.zeroP) (sz:Int) 101 (.slice none 0 0) Wf HDP.out ⟨none,0,rfl,Nat.le_refl _,.inl rfl⟩ hbw (by decide);clear hWf f0 oth hz9 hbx hbw r0 r1 r2 r3 r4 g0 g1 g2 g3 g4 p0 p1 p2 p3 p4
      simp [bodyPost,results,Tryz.results9,go_sem,y0,y1,y2,y3,y4]
      exact hfin
   ·skip
    have HPD:Hid (op=record L (8*L.length+10) 0):=hid (by
     rw [← Hop.out]
     unfold decl
     rw [if_neg (by rw [HR1.out];decide),if_neg (by rw [HR2.out];decide),if_pos HR3.out])
    go_wp2_with fail
    refine c7.mono ?_;intro x w7 h9;obtain ⟨rfl,hw9⟩:=h9.went HR6.out;have HM7:=hid (HM6.out.trans (hw9.2.mono HM6.out.size));have HR7:=hid hw9.1;clear c7 h9 hw9;have cc:=record_any d L lv hLm (8*L.length+10) 0 false w7 HR7.out (HT4.out.mv HM7.out (Nat.le_refl _)) (Nat.zero_le _) (fun _=>by omega);rw [start_false,← HPD.out] at cc;have HLE:Hid (op.at≤L.length):=hid (by rw [HPD.out];exact (record_fwd L _ 0 (Nat.zero_le _)).le)
    go_wp2_with fail
    refine cc.mono ?_;rintro x w9 ⟨v,rfl,⟨kx,tx,fx,ex,ax,nx,cx,rfl,hnx,hvx⟩,hw9⟩;have HM9:=hid (HM7.out.trans (hw9.2.mono HM7.out.size));have hqb:w9.heap[q]?=_:=(HM9.out.block q HZ4.out.2.2 (by have:=HZ4.out;omega)).trans HQP.out;obtain ⟨⟨r0,r1,r2,r3,r4⟩,gz⟩:=five_cells hqb;have g0:=gz 0;have g1:=gz 1;have g2:=gz 2;have g3:=gz 3;have g4:=gz 4;obtain ⟨WT,hWT,hTq,hTo,hTs⟩:=put_five (a':=.string kx) (b':=.string tx) (c':=.int .i64 fx) (e':=.int .i64 ex) (f':=.slice ax nx cx) hqb;have HBX:Hid (WT.heap[q]?=some (.cells #[.string kx,.string tx,.int .i64 fx,.int .i64 ex,.slice ax nx cx] 25 (0,0))):=hid hTq;have HRT:Hid (Rd d lv op.at op.isBad WT):=hid ((hTo d (by have:=HZ4.out;omega)).trans hw9.1);have HMT:Hid (Mv q d W4 WT):=hid ((HM9.out.mono (by have:=HZ4.out;omega)).trans ⟨by rw [← hWT];rfl,by rw [← hWT];rfl,by rw [← hWT];rfl,by omega,fun k hk _=>hTo k (by omega)⟩);have HTT:Hid (Tk d L lv WT):=hid (HTK.out d WT (by have:=HZ3.out;omega) (fun k hk=>(HMT.out.block k (by have:=HZ4.out;have:=HZ3.out;omega) (by have:=HZ3.out;omega)).trans (HB4.out.block k hk)) (Nat.le_trans HB4.out.size HMT.out.size));have HPV:Hid (∀ p j,op=.ok p j→(.agg #[.string kx,.string tx,.int .i64 fx,.int .i64 ex,.slice ax nx cx]:Value)=.agg (five p (.slice ax nx cx)).toArray∧KidsIn WT (fun g=>q<g) p (.slice ax nx cx)):=hid (fun p j h=>⟨(hvx p j h).1,(hvx p j h).2.later (fun g hg _=>hTo g (by have:=HM7.out.size;have:=HZ4.out;omega)) (fun g hg=>by have:=HM7.out.size;have:=HZ4.out;omega)⟩)
    clear cc hw9 hqb gz hTq hTo hTs hvx
    go_upto_region 10 with fail
    try rw [hWT]
    clear r0 r1 r2 r3 r4 g0 g1 g2 g3 g4 hWT;have cse:=semis_any d L lv op.at op.isBad WT HRT.out HTT.out HLE.out hLm;obtain ⟨k0,hk0⟩:∃ u,op.at+(if op.isBad then 0 else semiN L op.at)=u:=⟨_,rfl⟩;rw [hk0] at cse;obtain ⟨RS,hRS⟩:∃ R,decide (0<(if op.isBad then 0 else semiN L op.at))=R:=⟨_,rfl⟩;rw [hRS] at cse;have HK0:=hid hk0;clear hRS hk0
    go_wp2_with fail
    refine cse.mono ?_;rintro x w8 ⟨rfl,hw8⟩;have hz8:q<WT.heap.size:=(Array.getElem?_eq_some_iff.1 HBX.out).1;have hbx8:w8.heap[q]?=_:=(hw8.2.block q hz8 (by have:=HZ4.out;omega)).trans HBX.out;have hrs8:w8.heap[w.heap.size]?=some (.cells #[.string ⟨#[]⟩,.string ⟨#[]⟩,.int .i64 0,.int .i64 0,.slice none 0 0] 25 (0,0)):=(hw8.2.block _ (by have:=HZ4.out;omega) (by have:=HZ4.out;omega)).trans ((HMT.out.block _ (by have:=HZ4.out;omega) (by have:=HZ4.out;omega)).trans HQ4.out);have HBW8:Hid (Below w.heap.size w w8):=hid ((HBW.out.trans ((HMT.out.mono (by have:=HZ4.out;omega)).below (by have:=HZ4.out;omega))).trans ((hw8.2.mono (by have:=HZ4.out;omega)).below (by have:=HZ4.out;omega)));have HPV8:Hid (∀ p j,op=.ok p j→(.agg #[.string kx,.string tx,.int .i64 fx,.int .i64 ex,.slice ax nx cx]:Value)=.agg (five p (.slice ax nx cx)).toArray∧KidsIn w8 (fun g=>q<g) p (.slice ax nx cx)):=hid (fun p j h=>⟨(HPV.out p j h).1,(HPV.out p j h).2.later (fun g hg hgl=>hw8.2.block g hgl (by have:=HZ4.out;omega)) (fun _ hg=>hg)⟩);have HBX8:=hid hbx8;have HRS8:=hid hrs8;have HR8:=hid hw8.1;have HT8:Hid (Tk d L lv w8):=hid (HTT.out.mv hw8.2 (Nat.le_refl _));obtain ⟨⟨p0,p1,p2,p3,p4⟩,-⟩:=five_cells hbx8;obtain ⟨⟨r0,r1,r2,r3,r4⟩,gz⟩:=five_cells hrs8;have g0:=gz 0;have g1:=gz 1;have g2:=gz 2;have g3:=gz 3;have g4:=gz 4;have c0:=HR8.out.c0;have c1:=HR8.out.c1;have c2:=HR8.out.c2;rw [← HLV.out] at c0;obtain ⟨ln,hln⟩:∃ u,L.length=u:=⟨_,rfl⟩;rw [hln] at c0;have HLN:=hid hln;have hsz':=HSZ.out
    clear cse hw8 hbx8 hrs8 gz hz8
    by_cases hlt:k0<ln
    ·obtain ⟨g,off,cap2,hlv2,hgd,t0,t1,t2,t3⟩:=tk_word (i:=k0) HT8.out (by omega)
     rw [← HLV.out] at hlv2
     injection hlv2 with i1 i2 i3
     subst i1;subst i3;have hFT:L[k0].f=(K.tok L sz k0).f:=(tok_in (by omega)).symm;rw [hFT] at t2;obtain ⟨ff,hff⟩:∃ u,(K.tok L sz k0).f=u:=⟨_,rfl⟩;rw [hff] at t2;have HFF:=hid hff
     have hii:(k0:Int)<(ln:Int):=by omega
     have hii0:(0:Int)≤(k0:Int):=by omega
     have hDP:declP L sz=(K.zeroP,ff,101):=by
      have hk0:=HK0.out;rw [← hff]
      cases hob:op with
      | bad j =>
       rw [hob] at hk0;have hk0:j=k0:=hk0;rw [← hk0]
       exact declP_bad (Hop.out.trans hob)
      | ok p j =>
       rw [hob] at hk0;have hk0:j+semiN L j=k0:=hk0;rw [← hk0]
       exact declP_left (Hop.out.trans hob) (by omega)
     have HDP:=hid hDP;clear hDP hFT t0 t1 t3 hff hln hgd
     cases hob:op.isBad
     ·rw [hob] at c2
      clear hob
      go_upto_region 11 with fail
      go_quiet (fail)
      go_upto_region 13 with fail
      go_quiet (fail)
      go_upto_region 14 with fail
      go_quiet (fail)
      go_wp2_with fail
      generalize hX:World.drewN w8 _=X;obtain ⟨Wf,hWf,f0,oth,hz9⟩:=put_five (W:=X) (a':=.string ⟨#[]⟩) (b':=.string ⟨#[]⟩) (c':=.int .i64 0) (e':=.int .i64 0) (f':=.slice none 0 0) (by rw [← hX];exact HRS8.out);rw [hWf];obtain ⟨⟨y0,y1,y2,y3,y4⟩,_⟩:=five_cells f0;have hbx:Below w.heap.size w X:=(by rw [← hX];exact below_drewN HBW8.out _)
      have hbw:Below w.heap.size w Wf:=by
       rw [← hWf]
       exact (((((hbx.setCell (p:=⟨w.heap.size,0,none⟩) (Nat.le_refl _) _).setCell (p:=⟨w.heap.size,1,none⟩) (Nat.le_refl _) _).setCell (p:=⟨w.heap.size,2,none⟩) (Nat.le_refl _) _).setCell (p:=⟨w.heap.size,3,none⟩) (Nat.le_refl _) _).setCell (p:=⟨w.heap.size,4,none⟩) (Nat.le_refl _) _)
      have hfin:P (.returned (.tuple #[.agg #[.string ⟨#[]⟩,.string ⟨#[]⟩,.int .i64 0,.int .i64 0,.slice none 0 0],.int .i64 ff,.int .i64 101])) Wf:=HFin.out (K.zeroP) ff 101 (.slice none 0 0) Wf HDP.out ⟨none,0,rfl,Nat.le_refl _,.inl rfl⟩ hbw (by decide);clear hWf f0 oth hz9 hbx hbw r0 r1 r2 r3 r4 g0 g1 g2 g3 g4 p0 p1 p2 p3 p4
      simp [bodyPost,results,Tryz.results9,go_sem,y0,y1,y2,y3,y4]
      exact hfin
     ·rw [hob] at c2
      clear hob
      go_upto_region 11 with fail
      go_quiet (fail)
      go_upto_region 13 with fail
      go_quiet (fail)
      go_upto_region 14 with fail
      go_quiet (fail)
      go_wp2_with fail
      generalize hX:World.drewN w8 _=X;obtain ⟨Wf,hWf,f0,oth,hz9⟩:=put_five (W:=X) (a':=.string ⟨#[]⟩) (b':=.string ⟨#[]⟩) (c':=.int .i64 0) (e':=.int .i64 0) (f':=.slice none 0 0) (by rw [← hX];exact HRS8.out);rw [hWf];obtain ⟨⟨y0,y1,y2,y3,y4⟩,_⟩:=five_cells f0;have hbx:Below w.heap.size w X:=(by rw [← hX];exact below_drewN HBW8.out _)
      have hbw:Below w.heap.size w Wf:=by
       rw [← hWf]
       exact (((((hbx.setCell (p:=⟨w.heap.size,0,none⟩) (Nat.le_refl _) _).setCell (p:=⟨w.heap.size,1,none⟩) (Nat.le_refl _) _).setCell (p:=⟨w.heap.size,2,none⟩) (Nat.le_refl _) _).setCell (p:=⟨w.heap.size,3,none⟩) (Nat.le_refl _) _).setCell (p:=⟨w.heap.size,4,none⟩) (Nat.le_refl _) _)
      have hfin:P (.returned (.tuple #[.agg #[.string ⟨#[]⟩,.string ⟨#[]⟩,.int .i64 0,.int .i64 0,.slice none 0 0],.int .i64 ff,.int .i64 101])) Wf:=HFin.out (K.zeroP) ff 101 (.slice none 0 0) Wf HDP.out ⟨none,0,rfl,Nat.le_refl _,.inl rfl⟩ hbw (by decide);clear hWf f0 oth hz9 hbx hbw r0 r1 r2 r3 r4 g0 g1 g2 g3 g4 p0 p1 p2 p3 p4
      simp [bodyPost,results,Tryz.results9,go_sem,y0,y1,y2,y3,y4]
      exact hfin
    ·cases hob:op.isBad
     ·rw [hob] at c2
      have hok:=out_pt hob;obtain ⟨pp,hpp⟩:∃ u,op.pt=u:=⟨_,rfl⟩;rw [hpp] at hok
      have hk9:¬ op.at+semiN L op.at<L.length:=by
       have h:=HK0.out;rw [hob,if_neg (by decide)] at h
       omega
      have hw9:=HWt.out pp (fate_ok (Hop.out.trans hok) hk9);have hdp:=declP_ok (size:=sz) (Hop.out.trans hok) hk9;obtain ⟨v1,v2⟩:=HPV8.out pp op.at hok;obtain ⟨dp,hdpe⟩:∃ u,deep pp=u:=⟨_,rfl⟩
      have cD:∀ X,Below w8.heap.size w8 X→Calls Tryz.prog 26 #[.agg #[.string kx,.string tx,.int .i64 fx,.int .i64 ex,.slice ax nx cx]] X fun e X'=>e=.returned (.int .i64 dp)∧Below X.heap.size X X':=fun X hX=>by
       rw [show (.agg #[.string kx,.string tx,.int .i64 fx,.int .i64 ex,.slice ax nx cx]:Value)=arg pp (.slice ax nx cx) from v1,← hdpe]
       exact refDeep_any pp _ _ X (kids_below v2 hX) (by omega)
      rw [hdpe] at hdp;have HV1:=hid v1;have HV2:=hid v2;have HW9:=hid hw9;have HDP:=hid hdp;clear hob hln hok hpp hk9 hw9 hdp v1 v2 hdpe
      go_upto_region 11 with fail
      go_quiet (fail)
      go_wp2_with fail
      refine (cD _ (below_drewN (Below.refl _ _) _)).mono ?_;rintro e9 w9 ⟨rfl,hb9⟩;have hb89:Below w8.heap.size w8 w9:=(below_drewN (Below.refl _ w8) _).trans hb9;have hbx9:=(hb89.block q (Array.getElem?_eq_some_iff.1 HBX8.out).1).trans HBX8.out;have hrs9:=(hb89.block _ (Array.getElem?_eq_some_iff.1 HRS8.out).1).trans HRS8.out;have HB89:=hid hb89;have HRS9:=hid hrs9;obtain ⟨⟨p0,p1,p2,p3,p4⟩,-⟩:=five_cells hbx9;obtain ⟨⟨r0,r1,r2,r3,r4⟩,gz⟩:=five_cells hrs9;have g0:=gz 0;have g1:=gz 1;have g2:=gz 2;have g3:=gz 3;have g4:=gz 4;clear cD hb9 hb89 hbx9 hrs9 gz
      by_cases hd40:40<dp
      ·go_wp2_with fail
       obtain ⟨Wf,hWf,f0,oth,hz9⟩:=put_five (W:=w9) (a':=.string ⟨#[]⟩) (b':=.string ⟨#[]⟩) (c':=.int .i64 0) (e':=.int .i64 0) (f':=.slice none 0 0) HRS9.out;rw [hWf];obtain ⟨⟨y0,y1,y2,y3,y4⟩,_⟩:=five_cells f0;have hbx:Below w.heap.size w w9:=(HBW8.out.trans (HB89.out.mono HBW8.out.size))
       have hbw:Below w.heap.size w Wf:=by
        rw [← hWf]
        exact (((((hbx.setCell (p:=⟨w.heap.size,0,none⟩) (Nat.le_refl _) _).setCell (p:=⟨w.heap.size,1,none⟩) (Nat.le_refl _) _).setCell (p:=⟨w.heap.size,2,none⟩) (Nat.le_refl _) _).setCell (p:=⟨w.heap.size,3,none⟩) (Nat.le_refl _) _).setCell (p:=⟨w.heap.size,4,none⟩) (Nat.le_refl _) _)
       have hfin:P (.returned (.tuple #[.agg #[.string ⟨#[]⟩,.string ⟨#[]⟩,.int .i64 0,.int .i64 0,.slice none 0 0],.int .i64 0,.int .i64 22])) Wf:=HFin.out (K.zeroP) 0 22 (.slice none 0 0) Wf (by rw [HDP.out,if_pos hd40]) ⟨none,0,rfl,Nat.le_refl _,.inl rfl⟩ hbw (by decide);clear hWf f0 oth hz9 hbx hbw r0 r1 r2 r3 r4 g0 g1 g2 g3 g4 p0 p1 p2 p3 p4
       simp [bodyPost,results,Tryz.results9,go_sem,y0,y1,y2,y3,y4]
       exact hfin
      ·go_wp2_with fail
       obtain ⟨Wf,hWf,f0,oth,hz9⟩:=put_five (W:=w9) (a':=.string kx) (b':=.string tx) (c':=.int .i64 fx) (e':=.int .i64 ex) (f':=.slice ax nx cx) HRS9.out;rw [hWf];obtain ⟨⟨y0,y1,y2,y3,y4⟩,_⟩:=five_cells f0;have hbx:Below w.heap.size w w9:=(HBW8.out.trans (HB89.out.mono HBW8.out.size))
       have hbw:Below w.heap.size w Wf:=by
        rw [← hWf]
        exact (((((hbx.setCell (p:=⟨w.heap.size,0,none⟩) (Nat.le_refl _) _).setCell (p:=⟨w.heap.size,1,none⟩) (Nat.le_refl _) _).setCell (p:=⟨w.heap.size,2,none⟩) (Nat.le_refl _) _).setCell (p:=⟨w.heap.size,3,none⟩) (Nat.le_refl _) _).setCell (p:=⟨w.heap.size,4,none⟩) (Nat.le_refl _) _)
       have hfin:P (.returned (.tuple #[.agg #[.string kx,.string tx,.int .i64 fx,.int .i64 ex,.slice ax nx cx],.int .i64 0,.int .i64 0])) Wf:=by have h:=HFin.out pp 0 0 (.slice ax nx cx) Wf (by rw [HDP.out,if_neg hd40]) (KidsIn.later (fun g hg _=>(oth g (by have:=HZ4.out;omega)).trans (HB89.out.block g hg.2)) (fun _ _=>trivial) _ _ (KidsIn.live _ _ HV2.out)) hbw HW9.out;rw [show arg pp (.slice ax nx cx)=(.agg #[.string kx,.string tx,.int .i64 fx,.int .i64 ex,.slice ax nx cx]:Value) from HV1.out.symm] at h;exact h
       clear hWf f0 oth hz9 hbx hbw r0 r1 r2 r3 r4 g0 g1 g2 g3 g4 p0 p1 p2 p3 p4
       simp [bodyPost,results,Tryz.results9,go_sem,y0,y1,y2,y3,y4]
       exact hfin
     ·rw [hob] at c2
      have HDP:Hid (declP L sz=(K.zeroP,(sz:Int),101)):=hid (by
       have hk0:=HK0.out
       cases hop2:op with
       | ok p j=>rw [hop2] at hob;cases hob
       | bad j =>
        rw [hop2] at hk0;have hk0:j=k0:=hk0
        rw [declP_bad (Hop.out.trans hop2),tok_out (by omega)])
      clear hob hln
      go_upto_region 11 with fail
      go_quiet (fail)
      go_upto_region 13 with fail
      go_quiet (fail)
      go_wp2_with fail
      generalize hX:World.drewN w8 _=X;obtain ⟨Wf,hWf,f0,oth,hz9⟩:=put_five (W:=X) (a':=.string ⟨#[]⟩) (b':=.string ⟨#[]⟩) (c':=.int .i64 0) (e':=.int .i64 0) (f':=.slice none 0 0) (by rw [← hX];exact HRS8.out);rw [hWf];obtain ⟨⟨y0,y1,y2,y3,y4⟩,_⟩:=five_cells f0;have hbx:Below w.heap.size w X:=(by rw [← hX];exact below_drewN HBW8.out _)
      have hbw:Below w.heap.size w Wf:=by
       rw [← hWf]
       exact (((((hbx.setCell (p:=⟨w.heap.size,0,none⟩) (Nat.le_refl _) _).setCell (p:=⟨w.heap.size,1,none⟩) (Nat.le_refl _) _).setCell (p:=⟨w.heap.size,2,none⟩) (Nat.le_refl _) _).setCell (p:=⟨w.heap.size,3,none⟩) (Nat.le_refl _) _).setCell (p:=⟨w.heap.size,4,none⟩) (Nat.le_refl _) _)
      have hfin:P (.returned (.tuple #[.agg #[.string ⟨#[]⟩,.string ⟨#[]⟩,.int .i64 0,.int .i64 0,.slice none 0 0],.int .i64 (sz:Int),.int .i64 101])) Wf:=HFin.out (K.zeroP) (sz:Int) 101 (.slice none 0 0) Wf HDP.out ⟨none,0,rfl,Nat.le_refl _,.inl rfl⟩ hbw (by decide);clear hWf f0 oth hz9 hbx hbw r0 r1 r2 r3 r4 g0 g1 g2 g3 g4 p0 p1 p2 p3 p4
      simp [bodyPost,results,Tryz.results9,go_sem,y0,y1,y2,y3,y4]
      exact hfin
  ·skip
   have HPD:Hid (op=variable' L (8*L.length+10) 0):=hid (by
    rw [← Hop.out]
    unfold decl
    rw [if_neg (by rw [HR1.out];decide),if_pos HR2.out])
   go_wp2_with fail
   refine c6.mono ?_;intro x w6 h9;obtain ⟨rfl,hw9⟩:=h9.went HR5.out;have HM6:=hid (HM5.out.trans (hw9.2.mono HM5.out.size));have HR6:=hid hw9.1;clear c6 h9 hw9;have cc:=variable_any d L lv hLm (8*L.length+10) 0 false w6 HR6.out (HT4.out.mv HM6.out (Nat.le_refl _)) (Nat.zero_le _) (fun _=>by omega);rw [start_false,← HPD.out] at cc;have HLE:Hid (op.at≤L.length):=hid (by rw [HPD.out];exact (variable_fwd _ (Nat.zero_le _)).le)
   go_wp2_with fail
   refine cc.mono ?_;rintro x w9 ⟨v,rfl,⟨kx,tx,fx,ex,ax,nx,cx,rfl,hnx,hvx⟩,hw9⟩;have HM9:=hid (HM6.out.trans (hw9.2.mono HM6.out.size));have hqb:w9.heap[q]?=_:=(HM9.out.block q HZ4.out.2.2 (by have:=HZ4.out;omega)).trans HQP.out;obtain ⟨⟨r0,r1,r2,r3,r4⟩,gz⟩:=five_cells hqb;have g0:=gz 0;have g1:=gz 1;have g2:=gz 2;have g3:=gz 3;have g4:=gz 4;obtain ⟨WT,hWT,hTq,hTo,hTs⟩:=put_five (a':=.string kx) (b':=.string tx) (c':=.int .i64 fx) (e':=.int .i64 ex) (f':=.slice ax nx cx) hqb;have HBX:Hid (WT.heap[q]?=some (.cells #[.string kx,.string tx,.int .i64 fx,.int .i64 ex,.slice ax nx cx] 25 (0,0))):=hid hTq;have HRT:Hid (Rd d lv op.at op.isBad WT):=hid ((hTo d (by have:=HZ4.out;omega)).trans hw9.1);have HMT:Hid (Mv q d W4 WT):=hid ((HM9.out.mono (by have:=HZ4.out;omega)).trans ⟨by rw [← hWT];rfl,by rw [← hWT];rfl,by rw [← hWT];rfl,by omega,fun k hk _=>hTo k (by omega)⟩);have HTT:Hid (Tk d L lv WT):=hid (HTK.out d WT (by have:=HZ3.out;omega) (fun k hk=>(HMT.out.block k (by have:=HZ4.out;have:=HZ3.out;omega) (by have:=HZ3.out;omega)).trans (HB4.out.block k hk)) (Nat.le_trans HB4.out.size HMT.out.size));have HPV:Hid (∀ p j,op=.ok p j→(.agg #[.string kx,.string tx,.int .i64 fx,.int .i64 ex,.slice ax nx cx]:Value)=.agg (five p (.slice ax nx cx)).toArray∧KidsIn WT (fun g=>q<g) p (.slice ax nx cx)):=hid (fun p j h=>⟨(hvx p j h).1,(hvx p j h).2.later (fun g hg _=>hTo g (by have:=HM6.out.size;have:=HZ4.out;omega)) (fun g hg=>by have:=HM6.out.size;have:=HZ4.out;omega)⟩)
   clear cc hw9 hqb gz hTq hTo hTs hvx
   go_upto_region 10 with fail
   try rw [hWT]
   clear r0 r1 r2 r3 r4 g0 g1 g2 g3 g4 hWT;have cse:=semis_any d L lv op.at op.isBad WT HRT.out HTT.out HLE.out hLm;obtain ⟨k0,hk0⟩:∃ u,op.at+(if op.isBad then 0 else semiN L op.at)=u:=⟨_,rfl⟩;rw [hk0] at cse;obtain ⟨RS,hRS⟩:∃ R,decide (0<(if op.isBad then 0 else semiN L op.at))=R:=⟨_,rfl⟩;rw [hRS] at cse;have HK0:=hid hk0;clear hRS hk0
   go_wp2_with fail
   refine cse.mono ?_;rintro x w8 ⟨rfl,hw8⟩;have hz8:q<WT.heap.size:=(Array.getElem?_eq_some_iff.1 HBX.out).1;have hbx8:w8.heap[q]?=_:=(hw8.2.block q hz8 (by have:=HZ4.out;omega)).trans HBX.out;have hrs8:w8.heap[w.heap.size]?=some (.cells #[.string ⟨#[]⟩,.string ⟨#[]⟩,.int .i64 0,.int .i64 0,.slice none 0 0] 25 (0,0)):=(hw8.2.block _ (by have:=HZ4.out;omega) (by have:=HZ4.out;omega)).trans ((HMT.out.block _ (by have:=HZ4.out;omega) (by have:=HZ4.out;omega)).trans HQ4.out);have HBW8:Hid (Below w.heap.size w w8):=hid ((HBW.out.trans ((HMT.out.mono (by have:=HZ4.out;omega)).below (by have:=HZ4.out;omega))).trans ((hw8.2.mono (by have:=HZ4.out;omega)).below (by have:=HZ4.out;omega)));have HPV8:Hid (∀ p j,op=.ok p j→(.agg #[.string kx,.string tx,.int .i64 fx,.int .i64 ex,.slice ax nx cx]:Value)=.agg (five p (.slice ax nx cx)).toArray∧KidsIn w8 (fun g=>q<g) p (.slice ax nx cx)):=hid (fun p j h=>⟨(HPV.out p j h).1,(HPV.out p j h).2.later (fun g hg hgl=>hw8.2.block g hgl (by have:=HZ4.out;omega)) (fun _ hg=>hg)⟩);have HBX8:=hid hbx8;have HRS8:=hid hrs8;have HR8:=hid hw8.1;have HT8:Hid (Tk d L lv w8):=hid (HTT.out.mv hw8.2 (Nat.le_refl _));obtain ⟨⟨p0,p1,p2,p3,p4⟩,-⟩:=five_cells hbx8;obtain ⟨⟨r0,r1,r2,r3,r4⟩,gz⟩:=five_cells hrs8;have g0:=gz 0;have g1:=gz 1;have g2:=gz 2;have g3:=gz 3;have g4:=gz 4;have c0:=HR8.out.c0;have c1:=HR8.out.c1;have c2:=HR8.out.c2;rw [← HLV.out] at c0;obtain ⟨ln,hln⟩:∃ u,L.length=u:=⟨_,rfl⟩;rw [hln] at c0;have HLN:=hid hln;have hsz':=HSZ.out
   clear cse hw8 hbx8 hrs8 gz hz8
   by_cases hlt:k0<ln
   ·obtain ⟨g,off,cap2,hlv2,hgd,t0,t1,t2,t3⟩:=tk_word (i:=k0) HT8.out (by omega)
    rw [← HLV.out] at hlv2
    injection hlv2 with i1 i2 i3
    subst i1;subst i3;have hFT:L[k0].f=(K.tok L sz k0).f:=(tok_in (by omega)).symm;rw [hFT] at t2;obtain ⟨ff,hff⟩:∃ u,(K.tok L sz k0).f=u:=⟨_,rfl⟩;rw [hff] at t2;have HFF:=hid hff
    have hii:(k0:Int)<(ln:Int):=by omega
    have hii0:(0:Int)≤(k0:Int):=by omega
    have hDP:declP L sz=(K.zeroP,ff,101):=by
     have hk0:=HK0.out;rw [← hff]
     cases hob:op with
     | bad j =>
      rw [hob] at hk0;have hk0:j=k0:=hk0;rw [← hk0]
      exact declP_bad (Hop.out.trans hob)
     | ok p j =>
      rw [hob] at hk0;have hk0:j+semiN L j=k0:=hk0;rw [← hk0]
      exact declP_left (Hop.out.trans hob) (by omega)
    have HDP:=hid hDP;clear hDP hFT t0 t1 t3 hff hln hgd
    cases hob:op.isBad
    ·rw [hob] at c2
     clear hob
     go_upto_region 11 with fail
     go_quiet (fail)
     go_upto_region 13 with fail
     go_quiet (fail)
     go_upto_region 14 with fail
     go_quiet (fail)
     go_wp2_with fail
     generalize hX:World.drewN w8 _=X;obtain ⟨Wf,hWf,f0,oth,hz9⟩:=put_five (W:=X) (a':=.string ⟨#[]⟩) (b':=.string ⟨#[]⟩) (c':=.int .i64 0) (e':=.int .i64 0) (f':=.slice none 0 0) (by rw [← hX];exact HRS8.out);rw [hWf];obtain ⟨⟨y0,y1,y2,y3,y4⟩,_⟩:=five_cells f0;have hbx:Below w.heap.size w X:=(by rw [← hX];exact below_drewN HBW8.out _)
     have hbw:Below w.heap.size w Wf:=by
      rw [← hWf]
      exact (((((hbx.setCell (p:=⟨w.heap.size,0,none⟩) (Nat.le_refl _) _).setCell (p:=⟨w.heap.size,1,none⟩) (Nat.le_refl _) _).setCell (p:=⟨w.heap.size,2,none⟩) (Nat.le_refl _) _).setCell (p:=⟨w.heap.size,3,none⟩) (Nat.le_refl _) _).setCell (p:=⟨w.heap.size,4,none⟩) (Nat.le_refl _) _)
     have hfin:P (.returned (.tuple #[.agg #[.string ⟨#[]⟩,.string ⟨#[]⟩,.int .i64 0,.int .i64 0,.slice none 0 0],.int .i64 ff,.int .i64 101])) Wf:=HFin.out (K.zeroP) ff 101 (.slice none 0 0) Wf HDP.out ⟨none,0,rfl,Nat.le_refl _,.inl rfl⟩ hbw (by decide);clear hWf f0 oth hz9 hbx hbw r0 r1 r2 r3 r4 g0 g1 g2 g3 g4 p0 p1 p2 p3 p4
     simp [bodyPost,results,Tryz.results9,go_sem,y0,y1,y2,y3,y4]
     exact hfin
    ·rw [hob] at c2
     clear hob
     go_upto_region 11 with fail
     go_quiet (fail)
     go_upto_region 13 with fail
     go_quiet (fail)
     go_upto_region 14 with fail
     go_quiet (fail)
     go_wp2_with fail
     generalize hX:World.drewN w8 _=X;obtain ⟨Wf,hWf,f0,oth,hz9⟩:=put_five (W:=X) (a':=.string ⟨#[]⟩) (b':=.string ⟨#[]⟩) (c':=.int .i64 0) (e':=.int .i64 0) (f':=.slice none 0 0) (by rw [← hX];exact HRS8.out);rw [hWf];obtain ⟨⟨y0,y1,y2,y3,y4⟩,_⟩:=five_cells f0;have hbx:Below w.heap.size w X:=(by rw [← hX];exact below_drewN HBW8.out _)
     have hbw:Below w.heap.size w Wf:=by
      rw [← hWf]
      exact (((((hbx.setCell (p:=⟨w.heap.size,0,none⟩) (Nat.le_refl _) _).setCell (p:=⟨w.heap.size,1,none⟩) (Nat.le_refl _) _).setCell (p:=⟨w.heap.size,2,none⟩) (Nat.le_refl _) _).setCell (p:=⟨w.heap.size,3,none⟩) (Nat.le_refl _) _).setCell (p:=⟨w.heap.size,4,none⟩) (Nat.le_refl _) _)
     have hfin:P (.returned (.tuple #[.agg #[.string ⟨#[]⟩,.string ⟨#[]⟩,.int .i64 0,.int .i64 0,.slice none 0 0],.int .i64 ff,.int .i64 101])) Wf:=HFin.out (K.zeroP) ff 101 (.slice none 0 0) Wf HDP.out ⟨none,0,rfl,Nat.le_refl _,.inl rfl⟩ hbw (by decide);clear hWf f0 oth hz9 hbx hbw r0 r1 r2 r3 r4 g0 g1 g2 g3 g4 p0 p1 p2 p3 p4
     simp [bodyPost,results,Tryz.results9,go_sem,y0,y1,y2,y3,y4]
     exact hfin
   ·cases hob:op.isBad
    ·rw [hob] at c2
     have hok:=out_pt hob;obtain ⟨pp,hpp⟩:∃ u,op.pt=u:=⟨_,rfl⟩;rw [hpp] at hok
     have hk9:¬ op.at+semiN L op.at<L.length:=by
      have h:=HK0.out;rw [hob,if_neg (by decide)] at h
      omega
     have hw9:=HWt.out pp (fate_ok (Hop.out.trans hok) hk9);have hdp:=declP_ok (size:=sz) (Hop.out.trans hok) hk9;obtain ⟨v1,v2⟩:=HPV8.out pp op.at hok;obtain ⟨dp,hdpe⟩:∃ u,deep pp=u:=⟨_,rfl⟩
     have cD:∀ X,Below w8.heap.size w8 X→Calls Tryz.prog 26 #[.agg #[.string kx,.string tx,.int .i64 fx,.int .i64 ex,.slice ax nx cx]] X fun e X'=>e=.returned (.int .i64 dp)∧Below X.heap.size X X':=fun X hX=>by
      rw [show (.agg #[.string kx,.string tx,.int .i64 fx,.int .i64 ex,.slice ax nx cx]:Value)=arg pp (.slice ax nx cx) from v1,← hdpe]
      exact refDeep_any pp _ _ X (kids_below v2 hX) (by omega)
     rw [hdpe] at hdp;have HV1:=hid v1;have HV2:=hid v2;have HW9:=hid hw9;have HDP:=hid hdp;clear hob hln hok hpp hk9 hw9 hdp v1 v2 hdpe
     go_upto_region 11 with fail
     go_quiet (fail)
     go_wp2_with fail
     refine (cD _ (below_drewN (Below.refl _ _) _)).mono ?_;rintro e9 w9 ⟨rfl,hb9⟩;have hb89:Below w8.heap.size w8 w9:=(below_drewN (Below.refl _ w8) _).trans hb9;have hbx9:=(hb89.block q (Array.getElem?_eq_some_iff.1 HBX8.out).1).trans HBX8.out;have hrs9:=(hb89.block _ (Array.getElem?_eq_some_iff.1 HRS8.out).1).trans HRS8.out;have HB89:=hid hb89;have HRS9:=hid hrs9;obtain ⟨⟨p0,p1,p2,p3,p4⟩,-⟩:=five_cells hbx9;obtain ⟨⟨r0,r1,r2,r3,r4⟩,gz⟩:=five_cells hrs9;have g0:=gz 0;have g1:=gz 1;have g2:=gz 2;have g3:=gz 3;have g4:=gz 4;clear cD hb9 hb89 hbx9 hrs9 gz
     by_cases hd40:40<dp
     ·go_wp2_with fail
      obtain ⟨Wf,hWf,f0,oth,hz9⟩:=put_five (W:=w9) (a':=.string ⟨#[]⟩) (b':=.string ⟨#[]⟩) (c':=.int .i64 0) (e':=.int .i64 0) (f':=.slice none 0 0) HRS9.out;rw [hWf];obtain ⟨⟨y0,y1,y2,y3,y4⟩,_⟩:=five_cells f0;have hbx:Below w.heap.size w w9:=(HBW8.out.trans (HB89.out.mono HBW8.out.size))
      have hbw:Below w.heap.size w Wf:=by
       rw [← hWf]
       exact (((((hbx.setCell (p:=⟨w.heap.size,0,none⟩) (Nat.le_refl _) _).setCell (p:=⟨w.heap.size,1,none⟩) (Nat.le_refl _) _).setCell (p:=⟨w.heap.size,2,none⟩) (Nat.le_refl _) _).setCell (p:=⟨w.heap.size,3,none⟩) (Nat.le_refl _) _).setCell (p:=⟨w.heap.size,4,none⟩) (Nat.le_refl _) _)
      have hfin:P (.returned (.tuple #[.agg #[.string ⟨#[]⟩,.string ⟨#[]⟩,.int .i64 0,.int .i64 0,.slice none 0 0],.int .i64 0,.int .i64 22])) Wf:=HFin.out (K.zeroP) 0 22 (.slice none 0 0) Wf (by rw [HDP.out,if_pos hd40]) ⟨none,0,rfl,Nat.le_refl _,.inl rfl⟩ hbw (by decide);clear hWf f0 oth hz9 hbx hbw r0 r1 r2 r3 r4 g0 g1 g2 g3 g4 p0 p1 p2 p3 p4
      simp [bodyPost,results,Tryz.results9,go_sem,y0,y1,y2,y3,y4]
      exact hfin
     ·go_wp2_with fail
      obtain ⟨Wf,hWf,f0,oth,hz9⟩:=put_five (W:=w9) (a':=.string kx) (b':=.string tx) (c':=.int .i64 fx) (e':=.int .i64 ex) (f':=.slice ax nx cx) HRS9.out;rw [hWf];obtain ⟨⟨y0,y1,y2,y3,y4⟩,_⟩:=five_cells f0;have hbx:Below w.heap.size w w9:=(HBW8.out.trans (HB89.out.mono HBW8.out.size))
      have hbw:Below w.heap.size w Wf:=by
       rw [← hWf]
       exact (((((hbx.setCell (p:=⟨w.heap.size,0,none⟩) (Nat.le_refl _) _).setCell (p:=⟨w.heap.size,1,none⟩) (Nat.le_refl _) _).setCell (p:=⟨w.heap.size,2,none⟩) (Nat.le_refl _) _).setCell (p:=⟨w.heap.size,3,none⟩) (Nat.le_refl _) _).setCell (p:=⟨w.heap.size,4,none⟩) (Nat.le_refl _) _)
      have hfin:P (.returned (.tuple #[.agg #[.string kx,.string tx,.int .i64 fx,.int .i64 ex,.slice ax nx cx],.int .i64 0,.int .i64 0])) Wf:=by have h:=HFin.out pp 0 0 (.slice ax nx cx) Wf (by rw [HDP.out,if_neg hd40]) (KidsIn.later (fun g hg _=>(oth g (by have:=HZ4.out;omega)).trans (HB89.out.block g hg.2)) (fun _ _=>trivial) _ _ (KidsIn.live _ _ HV2.out)) hbw HW9.out;rw [show arg pp (.slice ax nx cx)=(.agg #[.string kx,.string tx,.int .i64 fx,.int .i64 ex,.slice ax nx cx]:Value) from HV1.out.symm] at h;exact h
      clear hWf f0 oth hz9 hbx hbw r0 r1 r2 r3 r4 g0 g1 g2 g3 g4 p0 p1 p2 p3 p4
      simp [bodyPost,results,Tryz.results9,go_sem,y0,y1,y2,y3,y4]
      exact hfin
    ·rw [hob] at c2
     have HDP:Hid (declP L sz=(K.zeroP,(sz:Int),101)):=hid (by
      have hk0:=HK0.out
      cases hop2:op with
      | ok p j=>rw [hop2] at hob;cases hob
      | bad j =>
       rw [hop2] at hk0;have hk0:j=k0:=hk0
       rw [declP_bad (Hop.out.trans hop2),tok_out (by omega)])
     clear hob hln
     go_upto_region 11 with fail
     go_quiet (fail)
     go_upto_region 13 with fail
     go_quiet (fail)
     go_wp2_with fail
     generalize hX:World.drewN w8 _=X;obtain ⟨Wf,hWf,f0,oth,hz9⟩:=put_five (W:=X) (a':=.string ⟨#[]⟩) (b':=.string ⟨#[]⟩) (c':=.int .i64 0) (e':=.int .i64 0) (f':=.slice none 0 0) (by rw [← hX];exact HRS8.out);rw [hWf];obtain ⟨⟨y0,y1,y2,y3,y4⟩,_⟩:=five_cells f0;have hbx:Below w.heap.size w X:=(by rw [← hX];exact below_drewN HBW8.out _)
     have hbw:Below w.heap.size w Wf:=by
      rw [← hWf]
      exact (((((hbx.setCell (p:=⟨w.heap.size,0,none⟩) (Nat.le_refl _) _).setCell (p:=⟨w.heap.size,1,none⟩) (Nat.le_refl _) _).setCell (p:=⟨w.heap.size,2,none⟩) (Nat.le_refl _) _).setCell (p:=⟨w.heap.size,3,none⟩) (Nat.le_refl _) _).setCell (p:=⟨w.heap.size,4,none⟩) (Nat.le_refl _) _)
     have hfin:P (.returned (.tuple #[.agg #[.string ⟨#[]⟩,.string ⟨#[]⟩,.int .i64 0,.int .i64 0,.slice none 0 0],.int .i64 (sz:Int),.int .i64 101])) Wf:=HFin.out (K.zeroP) (sz:Int) 101 (.slice none 0 0) Wf HDP.out ⟨none,0,rfl,Nat.le_refl _,.inl rfl⟩ hbw (by decide);clear hWf f0 oth hz9 hbx hbw r0 r1 r2 r3 r4 g0 g1 g2 g3 g4 p0 p1 p2 p3 p4
     simp [bodyPost,results,Tryz.results9,go_sem,y0,y1,y2,y3,y4]
     exact hfin
 ·skip
  have HPD:Hid (op=func' L (8*L.length+10) 0):=hid (by
   rw [← Hop.out]
   unfold decl
   rw [if_pos HR1.out])
  go_wp2_with fail
  refine c5.mono ?_;intro x w5 h9;obtain ⟨rfl,hw9⟩:=h9.went HR4.out;have HM5:=hid (HM4.out.trans (hw9.2.mono HM4.out.size));have HR5:=hid hw9.1;clear c5 h9 hw9;have cc:=function_any d L lv hLm (8*L.length+10) 0 false w5 HR5.out (HT4.out.mv HM5.out (Nat.le_refl _)) (Nat.zero_le _) (fun _=>by omega);rw [start_false,← HPD.out] at cc;have HLE:Hid (op.at≤L.length):=hid (by rw [HPD.out];exact (func_fwd L _ 0 (Nat.zero_le _)).le)
  go_wp2_with fail
  refine cc.mono ?_;rintro x w9 ⟨v,rfl,⟨kx,tx,fx,ex,ax,nx,cx,rfl,hnx,hvx⟩,hw9⟩;have HM9:=hid (HM5.out.trans (hw9.2.mono HM5.out.size));have hqb:w9.heap[q]?=_:=(HM9.out.block q HZ4.out.2.2 (by have:=HZ4.out;omega)).trans HQP.out;obtain ⟨⟨r0,r1,r2,r3,r4⟩,gz⟩:=five_cells hqb;have g0:=gz 0;have g1:=gz 1;have g2:=gz 2;have g3:=gz 3;have g4:=gz 4;obtain ⟨WT,hWT,hTq,hTo,hTs⟩:=put_five (a':=.string kx) (b':=.string tx) (c':=.int .i64 fx) (e':=.int .i64 ex) (f':=.slice ax nx cx) hqb;have HBX:Hid (WT.heap[q]?=some (.cells #[.string kx,.string tx,.int .i64 fx,.int .i64 ex,.slice ax nx cx] 25 (0,0))):=hid hTq;have HRT:Hid (Rd d lv op.at op.isBad WT):=hid ((hTo d (by have:=HZ4.out;omega)).trans hw9.1);have HMT:Hid (Mv q d W4 WT):=hid ((HM9.out.mono (by have:=HZ4.out;omega)).trans ⟨by rw [← hWT];rfl,by rw [← hWT];rfl,by rw [← hWT];rfl,by omega,fun k hk _=>hTo k (by omega)⟩);have HTT:Hid (Tk d L lv WT):=hid (HTK.out d WT (by have:=HZ3.out;omega) (fun k hk=>(HMT.out.block k (by have:=HZ4.out;have:=HZ3.out;omega) (by have:=HZ3.out;omega)).trans (HB4.out.block k hk)) (Nat.le_trans HB4.out.size HMT.out.size));have HPV:Hid (∀ p j,op=.ok p j→(.agg #[.string kx,.string tx,.int .i64 fx,.int .i64 ex,.slice ax nx cx]:Value)=.agg (five p (.slice ax nx cx)).toArray∧KidsIn WT (fun g=>q<g) p (.slice ax nx cx)):=hid (fun p j h=>⟨(hvx p j h).1,(hvx p j h).2.later (fun g hg _=>hTo g (by have:=HM5.out.size;have:=HZ4.out;omega)) (fun g hg=>by have:=HM5.out.size;have:=HZ4.out;omega)⟩)
  clear cc hw9 hqb gz hTq hTo hTs hvx
  go_upto_region 10 with fail
  try rw [hWT]
  clear r0 r1 r2 r3 r4 g0 g1 g2 g3 g4 hWT;have cse:=semis_any d L lv op.at op.isBad WT HRT.out HTT.out HLE.out hLm;obtain ⟨k0,hk0⟩:∃ u,op.at+(if op.isBad then 0 else semiN L op.at)=u:=⟨_,rfl⟩;rw [hk0] at cse;obtain ⟨RS,hRS⟩:∃ R,decide (0<(if op.isBad then 0 else semiN L op.at))=R:=⟨_,rfl⟩;rw [hRS] at cse;have HK0:=hid hk0;clear hRS hk0
  go_wp2_with fail
  refine cse.mono ?_;rintro x w8 ⟨rfl,hw8⟩;have hz8:q<WT.heap.size:=(Array.getElem?_eq_some_iff.1 HBX.out).1;have hbx8:w8.heap[q]?=_:=(hw8.2.block q hz8 (by have:=HZ4.out;omega)).trans HBX.out;have hrs8:w8.heap[w.heap.size]?=some (.cells #[.string ⟨#[]⟩,.string ⟨#[]⟩,.int .i64 0,.int .i64 0,.slice none 0 0] 25 (0,0)):=(hw8.2.block _ (by have:=HZ4.out;omega) (by have:=HZ4.out;omega)).trans ((HMT.out.block _ (by have:=HZ4.out;omega) (by have:=HZ4.out;omega)).trans HQ4.out);have HBW8:Hid (Below w.heap.size w w8):=hid ((HBW.out.trans ((HMT.out.mono (by have:=HZ4.out;omega)).below (by have:=HZ4.out;omega))).trans ((hw8.2.mono (by have:=HZ4.out;omega)).below (by have:=HZ4.out;omega)));have HPV8:Hid (∀ p j,op=.ok p j→(.agg #[.string kx,.string tx,.int .i64 fx,.int .i64 ex,.slice ax nx cx]:Value)=.agg (five p (.slice ax nx cx)).toArray∧KidsIn w8 (fun g=>q<g) p (.slice ax nx cx)):=hid (fun p j h=>⟨(HPV.out p j h).1,(HPV.out p j h).2.later (fun g hg hgl=>hw8.2.block g hgl (by have:=HZ4.out;omega)) (fun _ hg=>hg)⟩);have HBX8:=hid hbx8;have HRS8:=hid hrs8;have HR8:=hid hw8.1;have HT8:Hid (Tk d L lv w8):=hid (HTT.out.mv hw8.2 (Nat.le_refl _));obtain ⟨⟨p0,p1,p2,p3,p4⟩,-⟩:=five_cells hbx8;obtain ⟨⟨r0,r1,r2,r3,r4⟩,gz⟩:=five_cells hrs8;have g0:=gz 0;have g1:=gz 1;have g2:=gz 2;have g3:=gz 3;have g4:=gz 4;have c0:=HR8.out.c0;have c1:=HR8.out.c1;have c2:=HR8.out.c2;rw [← HLV.out] at c0;obtain ⟨ln,hln⟩:∃ u,L.length=u:=⟨_,rfl⟩;rw [hln] at c0;have HLN:=hid hln;have hsz':=HSZ.out
  clear cse hw8 hbx8 hrs8 gz hz8
  by_cases hlt:k0<ln
  ·obtain ⟨g,off,cap2,hlv2,hgd,t0,t1,t2,t3⟩:=tk_word (i:=k0) HT8.out (by omega)
   rw [← HLV.out] at hlv2
   injection hlv2 with i1 i2 i3
   subst i1;subst i3;have hFT:L[k0].f=(K.tok L sz k0).f:=(tok_in (by omega)).symm;rw [hFT] at t2;obtain ⟨ff,hff⟩:∃ u,(K.tok L sz k0).f=u:=⟨_,rfl⟩;rw [hff] at t2;have HFF:=hid hff
   have hii:(k0:Int)<(ln:Int):=by omega
   have hii0:(0:Int)≤(k0:Int):=by omega
   have hDP:declP L sz=(K.zeroP,ff,101):=by
    have hk0:=HK0.out;rw [← hff]
    cases hob:op with
    | bad j =>
     rw [hob] at hk0;have hk0:j=k0:=hk0;rw [← hk0]
     exact declP_bad (Hop.out.trans hob)
    | ok p j =>
     rw [hob] at hk0;have hk0:j+semiN L j=k0:=hk0;rw [← hk0]
     exact declP_left (Hop.out.trans hob) (by omega)
   have HDP:=hid hDP;clear hDP hFT t0 t1 t3 hff hln hgd
   cases hob:op.isBad
   ·rw [hob] at c2
    clear hob
    go_upto_region 11 with fail
    go_quiet (fail)
    go_upto_region 13 with fail
    go_quiet (fail)
    go_upto_region 14 with fail
    go_quiet (fail)
    go_wp2_with fail
    generalize hX:World.drewN w8 _=X;obtain ⟨Wf,hWf,f0,oth,hz9⟩:=put_five (W:=X) (a':=.string ⟨#[]⟩) (b':=.string ⟨#[]⟩) (c':=.int .i64 0) (e':=.int .i64 0) (f':=.slice none 0 0) (by rw [← hX];exact HRS8.out);rw [hWf];obtain ⟨⟨y0,y1,y2,y3,y4⟩,_⟩:=five_cells f0;have hbx:Below w.heap.size w X:=(by rw [← hX];exact below_drewN HBW8.out _)
    have hbw:Below w.heap.size w Wf:=by
     rw [← hWf]
     exact (((((hbx.setCell (p:=⟨w.heap.size,0,none⟩) (Nat.le_refl _) _).setCell (p:=⟨w.heap.size,1,none⟩) (Nat.le_refl _) _).setCell (p:=⟨w.heap.size,2,none⟩) (Nat.le_refl _) _).setCell (p:=⟨w.heap.size,3,none⟩) (Nat.le_refl _) _).setCell (p:=⟨w.heap.size,4,none⟩) (Nat.le_refl _) _)
    have hfin:P (.returned (.tuple #[.agg #[.string ⟨#[]⟩,.string ⟨#[]⟩,.int .i64 0,.int .i64 0,.slice none 0 0],.int .i64 ff,.int .i64 101])) Wf:=HFin.out (K.zeroP) ff 101 (.slice none 0 0) Wf HDP.out ⟨none,0,rfl,Nat.le_refl _,.inl rfl⟩ hbw (by decide);clear hWf f0 oth hz9 hbx hbw r0 r1 r2 r3 r4 g0 g1 g2 g3 g4 p0 p1 p2 p3 p4
    simp [bodyPost,results,Tryz.results9,go_sem,y0,y1,y2,y3,y4]
    exact hfin
   ·rw [hob] at c2
    clear hob
    go_upto_region 11 with fail
    go_quiet (fail)
    go_upto_region 13 with fail
    go_quiet (fail)
    go_upto_region 14 with fail
    go_quiet (fail)
    go_wp2_with fail
    generalize hX:World.drewN w8 _=X;obtain ⟨Wf,hWf,f0,oth,hz9⟩:=put_five (W:=X) (a':=.string ⟨#[]⟩) (b':=.string ⟨#[]⟩) (c':=.int .i64 0) (e':=.int .i64 0) (f':=.slice none 0 0) (by rw [← hX];exact HRS8.out);rw [hWf];obtain ⟨⟨y0,y1,y2,y3,y4⟩,_⟩:=five_cells f0;have hbx:Below w.heap.size w X:=(by rw [← hX];exact below_drewN HBW8.out _)
    have hbw:Below w.heap.size w Wf:=by
     rw [← hWf]
     exact (((((hbx.setCell (p:=⟨w.heap.size,0,none⟩) (Nat.le_refl _) _).setCell (p:=⟨w.heap.size,1,none⟩) (Nat.le_refl _) _).setCell (p:=⟨w.heap.size,2,none⟩) (Nat.le_refl _) _).setCell (p:=⟨w.heap.size,3,none⟩) (Nat.le_refl _) _).setCell (p:=⟨w.heap.size,4,none⟩) (Nat.le_refl _) _)
    have hfin:P (.returned (.tuple #[.agg #[.string ⟨#[]⟩,.string ⟨#[]⟩,.int .i64 0,.int .i64 0,.slice none 0 0],.int .i64 ff,.int .i64 101])) Wf:=HFin.out (K.zeroP) ff 101 (.slice none 0 0) Wf HDP.out ⟨none,0,rfl,Nat.le_refl _,.inl rfl⟩ hbw (by decide);clear hWf f0 oth hz9 hbx hbw r0 r1 r2 r3 r4 g0 g1 g2 g3 g4 p0 p1 p2 p3 p4
    simp [bodyPost,results,Tryz.results9,go_sem,y0,y1,y2,y3,y4]
    exact hfin
  ·cases hob:op.isBad
   ·rw [hob] at c2
    have hok:=out_pt hob;obtain ⟨pp,hpp⟩:∃ u,op.pt=u:=⟨_,rfl⟩;rw [hpp] at hok
    have hk9:¬ op.at+semiN L op.at<L.length:=by
     have h:=HK0.out;rw [hob,if_neg (by decide)] at h
     omega
    have hw9:=HWt.out pp (fate_ok (Hop.out.trans hok) hk9);have hdp:=declP_ok (size:=sz) (Hop.out.trans hok) hk9;obtain ⟨v1,v2⟩:=HPV8.out pp op.at hok;obtain ⟨dp,hdpe⟩:∃ u,deep pp=u:=⟨_,rfl⟩
    have cD:∀ X,Below w8.heap.size w8 X→Calls Tryz.prog 26 #[.agg #[.string kx,.string tx,.int .i64 fx,.int .i64 ex,.slice ax nx cx]] X fun e X'=>e=.returned (.int .i64 dp)∧Below X.heap.size X X':=fun X hX=>by
     rw [show (.agg #[.string kx,.string tx,.int .i64 fx,.int .i64 ex,.slice ax nx cx]:Value)=arg pp (.slice ax nx cx) from v1,← hdpe]
     exact refDeep_any pp _ _ X (kids_below v2 hX) (by omega)
    rw [hdpe] at hdp;have HV1:=hid v1;have HV2:=hid v2;have HW9:=hid hw9;have HDP:=hid hdp;clear hob hln hok hpp hk9 hw9 hdp v1 v2 hdpe
    go_upto_region 11 with fail
    go_quiet (fail)
    go_wp2_with fail
    refine (cD _ (below_drewN (Below.refl _ _) _)).mono ?_;rintro e9 w9 ⟨rfl,hb9⟩;have hb89:Below w8.heap.size w8 w9:=(below_drewN (Below.refl _ w8) _).trans hb9;have hbx9:=(hb89.block q (Array.getElem?_eq_some_iff.1 HBX8.out).1).trans HBX8.out;have hrs9:=(hb89.block _ (Array.getElem?_eq_some_iff.1 HRS8.out).1).trans HRS8.out;have HB89:=hid hb89;have HRS9:=hid hrs9;obtain ⟨⟨p0,p1,p2,p3,p4⟩,-⟩:=five_cells hbx9;obtain ⟨⟨r0,r1,r2,r3,r4⟩,gz⟩:=five_cells hrs9;have g0:=gz 0;have g1:=gz 1;have g2:=gz 2;have g3:=gz 3;have g4:=gz 4;clear cD hb9 hb89 hbx9 hrs9 gz
    by_cases hd40:40<dp
    ·go_wp2_with fail
     obtain ⟨Wf,hWf,f0,oth,hz9⟩:=put_five (W:=w9) (a':=.string ⟨#[]⟩) (b':=.string ⟨#[]⟩) (c':=.int .i64 0) (e':=.int .i64 0) (f':=.slice none 0 0) HRS9.out;rw [hWf];obtain ⟨⟨y0,y1,y2,y3,y4⟩,_⟩:=five_cells f0;have hbx:Below w.heap.size w w9:=(HBW8.out.trans (HB89.out.mono HBW8.out.size))
     have hbw:Below w.heap.size w Wf:=by
      rw [← hWf]
      exact (((((hbx.setCell (p:=⟨w.heap.size,0,none⟩) (Nat.le_refl _) _).setCell (p:=⟨w.heap.size,1,none⟩) (Nat.le_refl _) _).setCell (p:=⟨w.heap.size,2,none⟩) (Nat.le_refl _) _).setCell (p:=⟨w.heap.size,3,none⟩) (Nat.le_refl _) _).setCell (p:=⟨w.heap.size,4,none⟩) (Nat.le_refl _) _)
     have hfin:P (.returned (.tuple #[.agg #[.string ⟨#[]⟩,.string ⟨#[]⟩,.int .i64 0,.int .i64 0,.slice none 0 0],.int .i64 0,.int .i64 22])) Wf:=HFin.out (K.zeroP) 0 22 (.slice none 0 0) Wf (by rw [HDP.out,if_pos hd40]) ⟨none,0,rfl,Nat.le_refl _,.inl rfl⟩ hbw (by decide);clear hWf f0 oth hz9 hbx hbw r0 r1 r2 r3 r4 g0 g1 g2 g3 g4 p0 p1 p2 p3 p4
     simp [bodyPost,results,Tryz.results9,go_sem,y0,y1,y2,y3,y4]
     exact hfin
    ·go_wp2_with fail
     obtain ⟨Wf,hWf,f0,oth,hz9⟩:=put_five (W:=w9) (a':=.string kx) (b':=.string tx) (c':=.int .i64 fx) (e':=.int .i64 ex) (f':=.slice ax nx cx) HRS9.out;rw [hWf];obtain ⟨⟨y0,y1,y2,y3,y4⟩,_⟩:=five_cells f0;have hbx:Below w.heap.size w w9:=(HBW8.out.trans (HB89.out.mono HBW8.out.size))
     have hbw:Below w.heap.size w Wf:=by
      rw [← hWf]
      exact (((((hbx.setCell (p:=⟨w.heap.size,0,none⟩) (Nat.le_refl _) _).setCell (p:=⟨w.heap.size,1,none⟩) (Nat.le_refl _) _).setCell (p:=⟨w.heap.size,2,none⟩) (Nat.le_refl _) _).setCell (p:=⟨w.heap.size,3,none⟩) (Nat.le_refl _) _).setCell (p:=⟨w.heap.size,4,none⟩) (Nat.le_refl _) _)
     have hfin:P (.returned (.tuple #[.agg #[.string kx,.string tx,.int .i64 fx,.int .i64 ex,.slice ax nx cx],.int .i64 0,.int .i64 0])) Wf:=by have h:=HFin.out pp 0 0 (.slice ax nx cx) Wf (by rw [HDP.out,if_neg hd40]) (KidsIn.later (fun g hg _=>(oth g (by have:=HZ4.out;omega)).trans (HB89.out.block g hg.2)) (fun _ _=>trivial) _ _ (KidsIn.live _ _ HV2.out)) hbw HW9.out;rw [show arg pp (.slice ax nx cx)=(.agg #[.string kx,.string tx,.int .i64 fx,.int .i64 ex,.slice ax nx cx]:Value) from HV1.out.symm] at h;exact h
     clear hWf f0 oth hz9 hbx hbw r0 r1 r2 r3 r4 g0 g1 g2 g3 g4 p0 p1 p2 p3 p4
     simp [bodyPost,results,Tryz.results9,go_sem,y0,y1,y2,y3,y4]
     exact hfin
   ·rw [hob] at c2
    have HDP:Hid (declP L sz=(K.zeroP,(sz:Int),101)):=hid (by
     have hk0:=HK0.out
     cases hop2:op with
     | ok p j=>rw [hop2] at hob;cases hob
     | bad j =>
      rw [hop2] at hk0;have hk0:j=k0:=hk0
      rw [declP_bad (Hop.out.trans hop2),tok_out (by omega)])
    clear hob hln
    go_upto_region 11 with fail
    go_quiet (fail)
    go_upto_region 13 with fail
    go_quiet (fail)
    go_wp2_with fail
    generalize hX:World.drewN w8 _=X;obtain ⟨Wf,hWf,f0,oth,hz9⟩:=put_five (W:=X) (a':=.string ⟨#[]⟩) (b':=.string ⟨#[]⟩) (c':=.int .i64 0) (e':=.int .i64 0) (f':=.slice none 0 0) (by rw [← hX];exact HRS8.out);rw [hWf];obtain ⟨⟨y0,y1,y2,y3,y4⟩,_⟩:=five_cells f0;have hbx:Below w.heap.size w X:=(by rw [← hX];exact below_drewN HBW8.out _)
    have hbw:Below w.heap.size w Wf:=by
     rw [← hWf]
     exact (((((hbx.setCell (p:=⟨w.heap.size,0,none⟩) (Nat.le_refl _) _).setCell (p:=⟨w.heap.size,1,none⟩) (Nat.le_refl _) _).setCell (p:=⟨w.heap.size,2,none⟩) (Nat.le_refl _) _).setCell (p:=⟨w.heap.size,3,none⟩) (Nat.le_refl _) _).setCell (p:=⟨w.heap.size,4,none⟩) (Nat.le_refl _) _)
    have hfin:P (.returned (.tuple #[.agg #[.string ⟨#[]⟩,.string ⟨#[]⟩,.int .i64 0,.int .i64 0,.slice none 0 0],.int .i64 (sz:Int),.int .i64 101])) Wf:=HFin.out (K.zeroP) (sz:Int) 101 (.slice none 0 0) Wf HDP.out ⟨none,0,rfl,Nat.le_refl _,.inl rfl⟩ hbw (by decide);clear hWf f0 oth hz9 hbx hbw r0 r1 r2 r3 r4 g0 g1 g2 g3 g4 p0 p1 p2 p3 p4
    simp [bodyPost,results,Tryz.results9,go_sem,y0,y1,y2,y3,y4]
    exact hfin
end Go.Proofs.YtmclaaonlhnbmaaGreatDoor.T
namespace Go.Proofs.YtmclaaonlhnbmaaGreatDoor.J
open Go.RowKit
open Go.Lib hiding intOf
open U S T
open Go.Proofs.YtmclaaonlhnbmaaGreatDoor.K (MTab DeclPost decl_any declP)
set_option maxHeartbeats 8000000 in
set_option maxRecDepth 20000 in
theorem decl_law (s:ByteArray) (w:World) (hT:Tabs w) (hG:MTab w):Calls Tryz.prog 3 #[.string s] w fun e w'=>e=.returned (.bool true)∧Below w.heap.size w w':=by
 have HT:=hid hT;have HG:=hid hG;obtain ⟨z,hz⟩:∃ z,s.size=z:=⟨_,rfl⟩;have HZ:=hid hz
 by_cases hl:500<z
 ·have cA:=alive_any w hT hG
  have hz':=hz;clear hT hG
  go_enter Tryz.func3,Tryz.ntmps3
  go_wp2_with fail
  refine cA.mono ?_;rintro e w1 ⟨rfl,hb1⟩;have HB:=hid hb1;clear cA hb1
  go_wp2_with fail
  go_ret
  exact ⟨rfl,HB.out⟩
 ·have cD:=decl_any s w (by omega) hT hG
  have cR:=fun X=>refDecl_any s X (by omega)
  clear hT hG
  go_enter Tryz.func3,Tryz.ntmps3
  go_wp2_with fail
  refine cD.mono ?_;rintro e w1 ⟨p,at',er,lv,hdp,rfl,hk1,hb1,hwt⟩;obtain ⟨k,t,f,e,ks⟩:=p;obtain ⟨a,c,rfl⟩:=kids_form hk1;have HDP:=hid hdp;have HK1:=hid hk1;have HB1:=hid hb1;have HWT:=hid hwt;clear cD hdp hk1 hb1 hwt;have cS:=same_any (.mk k t f e ks) (.mk k t f e ks);rw [same_self] at cS
  have hpk:∀ lv2,KidsIn w1 (fun _=>True) (.mk k t f e ks) lv2→True:=fun _ _=>trivial
  simp only [arg,five];obtain ⟨kb,hkb⟩:∃ x,bstr k=x:=⟨_,rfl⟩;obtain ⟨tb,htb⟩:∃ x,bstr t=x:=⟨_,rfl⟩;obtain ⟨n,hn⟩:∃ n,ks.length=n:=⟨_,rfl⟩;have HCS:=hid cS;have HKB:=hid hkb;have HTB:=hid htb;have HN:=hid hn;rw [hkb,htb,hn];clear cS hpk hkb htb hn;obtain ⟨w2,hw2,hq2,hb2,hz2⟩:=new_block w1 (.cells #[.string kb,.string tb,.int .i64 f,.int .i64 e,.slice a n c] 25);obtain ⟨q1,hq1⟩:∃ q,w1.heap.size=q:=⟨_,rfl⟩;have HQ2:=hid hq2;have HB2:=hid hb2;have HZ2:=hid hz2;have HQE:=hid hq1;have cR2:=cR w2;clear hq2 hb2 hz2 cR hq1
  go_wp2_with fail
  try rw [hw2]
  refine cR2.mono ?_;rintro e' w3 ⟨p2,at2,er2,lv2,hdp2,rfl,hk2,hb3,hwt2⟩;have heq:=hdp2.symm.trans HDP.out;simp only [Prod.mk.injEq] at heq;obtain ⟨rfl,rfl,rfl⟩:=heq;obtain ⟨a2,c2,rfl⟩:=kids_form hk2;have HK2:=hid hk2;have hq3:=(hb3.block _ HZ2.out).trans HQ2.out;have HB3:=hid hb3;have HQ3:=hid hq3;clear cR2 hdp2 hk2 hb3 hwt2 hq3 hw2;simp only [arg,five];rw [HKB.out,HTB.out,HN.out];obtain ⟨w4,hw4,hq4,hb4,hz4⟩:=new_block w3 (.cells #[.string kb,.string tb,.int .i64 f,.int .i64 e,.slice a2 n c2] 25);have hq34:=(hb4.block _ (Array.getElem?_eq_some_iff.1 HQ3.out).1).trans HQ3.out;obtain ⟨⟨p0,p1,p2,p3,p4⟩,-⟩:=cells_five hq4;obtain ⟨⟨r0,r1,r2,r3,r4⟩,-⟩:=cells_five hq34;have HB4:=hid hb4;have cS4:=HCS.out (.slice a n c) (.slice a2 n c2) (fun _=>True) (fun _=>True) w4 (by have h:=kids_below (kids_below (kids_below HK1.out HB2.out) HB3.out) hb4;rw [← HN.out];exact h) (by have h:=kids_below HK2.out hb4;rw [← HN.out];exact h) (by have:=HWT.out;omega) (by have:=HWT.out;omega);simp only [arg,five] at cS4;rw [HKB.out,HTB.out] at cS4;have HBW:=hid (HB1.out.trans ((HB2.out.mono HB1.out.size).trans ((HB3.out.mono (Nat.le_trans HB1.out.size HB2.out.size)).trans (HB4.out.mono (Nat.le_trans HB1.out.size (Nat.le_trans HB2.out.size HB3.out.size))))));clear hq4 hq34 hb4 hz4
  go_wp2_with fail
  try rw [hw4]
  refine cS4.mono ?_;rintro e9 w5 ⟨rfl,hb5⟩;have HB5:=hid (HBW.out.trans (hb5.mono HBW.out.size));have cA:=alive_any w5 (HT.out.later HB5.out) (HG.out.later HB5.out);clear cS4 hb5 p0 p1 p2 p3 p4 r0 r1 r2 r3 r4 hw4
  go_wp2_with fail
  refine cA.mono ?_;rintro e9 w6 ⟨rfl,hb6⟩;have HB6:=hid (HB5.out.trans (hb6.mono HB5.out.size));clear cA hb6
  go_wp2_with fail
  go_ret
  exact ⟨rfl,HB6.out⟩
end Go.Proofs.YtmclaaonlhnbmaaGreatDoor.J
