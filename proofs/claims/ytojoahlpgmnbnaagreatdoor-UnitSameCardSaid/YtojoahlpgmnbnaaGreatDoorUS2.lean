/- What the claim needs of the texts UPlain, QRep, SRef5, QRef, QRefP, ULFresh, QOf, QOf2, QOf3, ULSame. -/
import Derived.Test.YtojoahlpgmnbnaaGreatDoorUSOp
import Derived.Test.YtojoahlpgmnbnaaGreatDoorUF1
import Derived.Test.YtojoahlpgmnbnaaGreatDoorUF2
import Derived.Test.YtojoahlpgmnbnaaGreatDoorUF3
import Derived.Test.YtojoahlpgmnbnaaGreatDoorUF4
import Derived.Test.YtojoahlpgmnbnaaGreatDoorUF5
import Derived.Test.YtojoahlpgmnbnaaGreatDoorUF6
import Derived.Test.YtojoahlpgmnbnaaGreatDoorUF7
import Derived.Test.YtojoahlpgmnbnaaGreatDoorUF8
import Derived.Test.YtojoahlpgmnbnaaGreatDoorUF9
import Derived.Test.YtojoahlpgmnbnaaGreatDoorUF10
import Derived.Test.YtojoahlpgmnbnaaGreatDoorUF11
import Derived.Test.YtojoahlpgmnbnaaGreatDoorUF12
import Derived.Test.YtojoahlpgmnbnaaGreatDoorUF13
import Derived.Test.YtojoahlpgmnbnaaGreatDoorUF14
import Derived.Test.YtojoahlpgmnbnaaGreatDoorUF15
import Derived.Test.YtojoahlpgmnbnaaGreatDoorUS1
import Derived.Lib.SliceRun
import Derived.RangeFuncBox
import Derived.RangeFuncNested
import Derived.RangeFuncBound
import Derived.RangeFuncCalls
import Derived.RangeFuncLeaves
import Derived.WalkKit
import Derived.OwnWalkIn
import Derived.Lib.Hide
import Derived.LoopNIn
import Derived.LoopIn
import Derived.TacticsInMore
import Derived.Maps.AppendAt
import Derived.Maps.OwnIn
import Derived.Deep.RegionHeld3
import Derived.Deep.RegionWith
import Derived.BigRegion
import Derived.Deep.AppendLies
import Derived.ChangeKeysEq
import Derived.Deep.QuietTactic
import Derived.BigQuiet
import Derived.Deep.DeepCutAuto
import Derived.Laws.AppendOwn
import Derived.Laws.OwnMore
import Derived.OwnWalk
namespace Go.Proofs.YtojoahlpgmnbnaaGreatDoor.Ud
open Go.Lib Go.Proofs.YtojoahlpgmnbnaaGreatDoor.U Go.Proofs.YtojoahlpgmnbnaaGreatDoor.S Go.Proofs.YtojoahlpgmnbnaaGreatDoor.Q Go.Proofs.YtojoahlpgmnbnaaGreatDoor.T
open Go.Proofs.YtojoahlpgmnbnaaGreatDoor.K (declP)
theorem kept_split {A B X Y M N:List ByteArray} (hA:A=X++M++Y) (hB:B=X++N++Y):X.length+Y.length≤keptN A B:=by
 obtain ⟨h1,h2,h3⟩:=head_cnt A B
 obtain ⟨k1,k2,k3⟩:=tail_cnt A B
 have la:A.length=X.length+M.length+Y.length:=by rw [hA,List.length_append,List.length_append]
 have lb:B.length=X.length+N.length+Y.length:=by rw [hB,List.length_append,List.length_append]
 have hx:∀ i,i<X.length→gH A B i=true:=fun i hi=>by
  unfold gH
  rw [hA,hB,List.append_assoc,List.append_assoc,List.getElem?_append_left hi,List.getElem?_append_left hi]
  simp
 have hy:∀ i,i<Y.length→gT A B i=true:=fun i hi=>by
  unfold gT
  rw [la,lb,hA,hB,List.getElem?_append_right (by simp;omega),List.getElem?_append_right (by simp;omega)]
  simp only [List.length_append]
  rw [show X.length+M.length+Y.length - 1 - i - (X.length+M.length)=Y.length - 1 - i by omega,show X.length+N.length+Y.length - 1 - i - (X.length+N.length)=Y.length - 1 - i by omega]
  simp
 unfold keptN
 have hX:X.length≤headN A B:=by
  by_cases h:X.length≤headN A B
  ·exact h
  ·have:=hx (headN A B) (by omega)
   rcases h3 with h3|h3
   ·omega
   ·rw [this] at h3;cases h3
 by_cases h:X.length+Y.length≤headN A B+tailN A B
 ·exact h
 ·have:=hy (tailN A B) (by omega)
  rcases k3 with k3|k3
  ·omega
  ·rw [this] at k3;cases k3
theorem kept_all (A:List ByteArray):keptN A A=A.length:=by
 have h:=kept_split (A:=A) (B:=A) (X:=A) (Y:=[]) (M:=[]) (N:=[]) (by simp) (by simp)
 have k:=kept_le A A
 unfold keptN at *
 simp at h k
 omega
def sel (l:List (Bool × ByteArray)):List ByteArray:=(l.filter (·.1)).map (·.2)
theorem sel_app (a b:List (Bool × ByteArray)):sel (a++b)=sel a++sel b:=by unfold sel;rw [List.filter_append,List.map_append]
theorem sel_len (a:List (Bool × ByteArray)):(sel a).length≤a.length:=by unfold sel;rw [List.length_map];exact List.length_filter_le _ _
theorem txs_sel (s:ByteArray):txs (decls s)=sel ((pieces s.toList).map (key s)):=by
 unfold txs decls sel
 rw [List.map_map,List.filter_map,List.map_map]
 rfl
theorem ext_low {s s':ByteArray} {k:Nat} (h:s'.toList.take k=s.toList.take k) {f e:Nat} (he:e≤k):s'.extract f e=s.extract f e:=by
 apply ByteArray.ext
 apply Array.ext'
 have h1:∀ x:ByteArray,x.data.toList=x.toList:=fun x=>by rw [ByteArray.toList_eq]
 simp only [ByteArray.data_extract,Array.toList_extract,List.extract_eq_take_drop,h1]
 have:∀ l:By,(l.drop f).take (e - f)=((l.take k).drop f).take (e - f):=fun l=>by
  rw [List.drop_take,List.take_take]
  congr 1
  omega
 rw [this s'.toList,this s.toList,h]
theorem ext_high {s s':ByteArray} {k d:Nat} (h:s'.toList.drop (k+d)=s.toList.drop k) {f e:Nat} (hf:k≤f):s'.extract (f+d) (e+d)=s.extract f e:=by
 apply ByteArray.ext
 apply Array.ext'
 have h1:∀ x:ByteArray,x.data.toList=x.toList:=fun x=>by rw [ByteArray.toList_eq]
 simp only [ByteArray.data_extract,Array.toList_extract,List.extract_eq_take_drop,h1]
 have e1:s'.toList.drop (f+d)=s.toList.drop f:=by
  have a1:=congrArg (List.drop (f - k)) h
  rw [List.drop_drop,List.drop_drop] at a1
  have a2:k+d+(f - k)=f+d:=by omega
  have a3:k+(f - k)=f:=by omega
  rw [a2,a3] at a1
  exact a1
 rw [e1,show e+d - (f+d)=e - f by omega]
theorem kept_edit (s s':ByteArray) (t:By) (at':Nat) (hat:at'≤s.toList.length) (hs:s'.toList=s.toList.take at'++t++s.toList.drop at') :
  ∃ a b:Nat,touchL (pieces s.toList) at' at'=((a:Int),(b:Int))∧a<b∧b≤a+2∧(decls s).length≤keptN (txs (decls s')) (txs (decls s))+(b - a):=by
 obtain ⟨a,b,h1,h2,h3,h4,h5,h6⟩:=edits_plain s.toList t at' at' (Nat.le_refl _) hat
 rw [← hs] at h4 h5 h6
 obtain ⟨hF,hE⟩:=fol_pieces s.toList
 obtain ⟨j,hj,ej,j1,j2⟩:=of_in (x:=(at':Int)) hF (pieces_ne s.toList) (by omega) (by rw [hE];omega)
 have hab:(a:Int)=max ((j:Int) - 1) 0∧(b:Int)=(j:Int)+1:=by
  have h:=h1
  unfold touchL at h
  rw [ej,if_neg (by omega)] at h
  exact ⟨(congrArg Prod.fst h).symm,(congrArg Prod.snd h).symm⟩
 have hbj:b=j+1:=by omega
 have haj:a≤j:=by omega
 have haj2:b≤a+2:=by omega
 obtain ⟨P,hP⟩:∃ P,pieces s.toList=P:=⟨_,rfl⟩
 obtain ⟨P',hP'⟩:∃ P,pieces s'.toList=P:=⟨_,rfl⟩
 have x1:=txs_sel s
 have x2:=txs_sel s'
 rw [hP] at h1 h3 h4 h5 h6 hF hE ej x1
 rw [hP'] at h4 h5 h6 x2
 simp only [hP] at hj j1 j2
 refine ⟨a,b,by rw [hP];exact h1,h2,haj2,?_⟩
 have htk:s'.toList.take at'=s.toList.take at':=by
  rw [hs,List.append_assoc,List.take_append_of_le_length (by simp;omega),List.take_take]
  congr 1
  omega
 have hdr:s'.toList.drop (at'+t.length)=s.toList.drop at':=by
  rw [hs,List.drop_append,List.length_append,List.length_take,show min at' s.toList.length=at' by omega,Nat.sub_self,List.drop_zero]
  rw [List.drop_of_length_le (by rw [List.length_append,List.length_take];omega)]
  rfl
 have hX:(P'.map (key s')).take a=(P.map (key s)).take a:=by
  refine List.ext_getElem? fun i=>?_
  rw [List.getElem?_take,List.getElem?_take]
  by_cases hi:i<a
  ·rw [if_pos hi,if_pos hi,List.getElem?_map,List.getElem?_map,← h5 i hi]
   have hil:i<P.length:=by omega
   rw [List.getElem?_eq_getElem hil]
   have:=fol_lt hF i j (by omega) (by omega)
   show some (key s' P[i])=some (key s P[i])
   unfold key
   rw [ext_low htk (by omega)]
  ·rw [if_neg hi,if_neg hi]
 have hY:(P'.map (key s')).drop (P'.length - (P.length - b))=(P.map (key s)).drop b:=by
  refine List.ext_getElem? fun i=>?_
  rw [List.getElem?_drop,List.getElem?_drop,List.getElem?_map,List.getElem?_map]
  by_cases hi:b+i<P.length
  ·obtain ⟨k,hk,hk2,m1,m2,m3,m4⟩:=h6 (b+i) hi (by omega)
   have hk3:P'.length - (P.length - b)+i=k:=by omega
   rw [hk3,List.getElem?_eq_getElem hi,List.getElem?_eq_getElem hk]
   show some (key s' P'[k])=some (key s P[b+i])
   unfold key
   have hge:=fol_lt hF j (b+i) hi (by omega)
   have hjat:at'≤P[j].e:=by omega
   rw [m3,show P'[k].f=P[b+i].f+t.length by omega,show P'[k].e=P[b+i].e+t.length by omega,ext_high hdr (by omega)]
  ·rw [List.getElem?_eq_none (by omega),List.getElem?_eq_none (by omega)];rfl
 have e1:P.map (key s)=(P.map (key s)).take a++((P.map (key s)).drop a).take (b - a)++(P.map (key s)).drop b:=by
  rw [List.append_assoc]
  have:((P.map (key s)).drop a).take (b - a)++(P.map (key s)).drop b=(P.map (key s)).drop a:=by
   conv=>rhs;rw [← List.take_append_drop (b - a) ((P.map (key s)).drop a)]
   rw [List.drop_drop,show a+(b - a)=b by omega]
  rw [this,List.take_append_drop]
 have e2:∃ M,P'.map (key s')=(P.map (key s)).take a++M++(P.map (key s)).drop b:=by
  rw [← hX,← hY]
  have hle:a≤P'.length - (P.length - b):=by omega
  generalize P'.length - (P.length - b)=c at hle
  generalize P'.map (key s')=Q
  refine ⟨(Q.drop a).take (c - a),?_⟩
  rw [List.append_assoc]
  have:(Q.drop a).take (c - a)++Q.drop c=Q.drop a:=by
   conv=>rhs;rw [← List.take_append_drop (c - a) (Q.drop a)]
   rw [List.drop_drop,show a+(c - a)=c by omega]
  rw [this,List.take_append_drop]
 obtain ⟨M,e2⟩:=e2
 have hm:(((P.map (key s)).drop a).take (b - a)).length≤b - a:=by rw [List.length_take];exact Nat.min_le_left _ _
 generalize (P.map (key s)).take a=X at e1 e2
 generalize ((P.map (key s)).drop a).take (b - a)=N at e1 hm
 generalize (P.map (key s)).drop b=Y at e1 e2
 rw [e1,sel_app,sel_app] at x1
 rw [e2,sel_app,sel_app] at x2
 have:=kept_split x2 x1
 have hn:=congrArg List.length x1
 rw [txs_len,List.length_append,List.length_append] at hn
 have:=sel_len N
 omega
end Go.Proofs.YtojoahlpgmnbnaaGreatDoor.Ud
namespace Go.Proofs.YtojoahlpgmnbnaaGreatDoor.Q
open Go.RowKit
open Go.Lib hiding intOf
open U S L
theorem infoR:(Tryz.prog.info? 62).map (fun i=>(i.zero,i.size,i.bytes))=some (some (.agg #[.int .i64 0,.int .i64 0,.bool false,.bool false]),4,24):=by kernel_rfl
end Go.Proofs.YtojoahlpgmnbnaaGreatDoor.Q
namespace Go.Proofs.YtojoahlpgmnbnaaGreatDoor.S
open Go.RowKit
open Go.Lib hiding intOf
open U L
theorem blank_or (z:UInt8):(blank z=true∧(z=32∨z=9∨z=13∨z=10))∨(blank z=false∧z≠32∧z≠9∧z≠13∧z≠10):=by
 unfold blank
 by_cases h1:z=32
 ·exact .inl ⟨by simp [h1],.inl h1⟩
 ·by_cases h2:z=9
  ·exact .inl ⟨by simp [h2],.inr (.inl h2)⟩
  ·by_cases h3:z=13
   ·exact .inl ⟨by simp [h3],.inr (.inr (.inl h3))⟩
   ·by_cases h4:z=10
    ·exact .inl ⟨by simp [h4],.inr (.inr (.inr h4))⟩
    ·exact .inr ⟨by simp [h1,h2,h3,h4],h1,h2,h3,h4⟩
set_option maxHeartbeats 8000000 in
set_option maxRecDepth 20000 in
theorem refScan_any (s:ByteArray) (w:World) (hs:s.size≤1000000) :
  Calls Tryz.prog 39 #[.string s] w fun e w'=>∃ v,e=.returned v∧ToksIn w.heap.size w' (scanB (okB s) s.toList) v∧Below w.heap.size w w':=by
 obtain ⟨i0,hi0,hz0,hz1,hz2⟩:=info_parts infoTok
 have cR:=ref_right s w hs
 obtain ⟨right,hright⟩:∃ right,okB s=right:=⟨_,rfl⟩
 have HS0:Hid (ScSt right s 0 []):=hid (scSt_start right s (fun h=>by rw [hright];exact h))
 rw [hright] at cR ⊢
 clear hright
 have CC:=hid (fun (i:Nat) (hi:i<s.size) X=>comment_any (s.extract i s.size) X (by rw [size_extract s i s.size (by omega) (Nat.le_refl _)];omega))
 have CW:=hid (fun (i:Nat) (hi:i<s.size) (hr:right=true→okB (s.extract i s.size)=true) X=>word_any (s.extract i s.size) right X (by rw [size_extract s i s.size (by omega) (Nat.le_refl _)];omega) (by rw [size_extract s i s.size (by omega) (Nat.le_refl _)];omega) hr)
 have CE:=hid (fun k f e' t X=>ends_any k f e' t X)
 go_enter Tryz.func39,Tryz.ntmps39
 go_wp2_with fail
 refine cR.mono ?_
 rintro e w1 ⟨rfl,hb1⟩
 obtain ⟨Z,hZ⟩:∃ Z,w1.heap.size=Z:=⟨_,rfl⟩
 have hwZ:w.heap.size≤Z:=by have:=hb1.size;omega
 have HB1:=hid hb1
 have HZ:=hid hZ
 clear hb1 cR hZ
 go_wp2_with fail
 go_loopw [3,5] (fun ov iv wr=>∃ (i:Nat) (O:List TokP),iv=.int .i64 i∧i≤s.size∧Hid (ScSt right s i O)∧Hid (wr.ownsRow Z 86 4 ov O.length (tokCs O))∧Hid (Below Z w1 wr)) (fun _ iv _=>s.size - (intOf iv).toNat)
 case atStart=>exact ⟨0,[],rfl,Nat.zero_le _,HS0,hid (World.ownsRow_nil _ _ _ _),hid (Below.refl _ _)⟩
 case round =>
  obtain ⟨i,O,rfl,hi,HS,HR,HL⟩:=hrel
  clear HS0
  obtain ⟨oa,oc,rfl⟩:=owns_len HR.out
  have hzr:Z≤wr.heap.size:=by have:=HL.out.size;have:=HZ.out;omega
  have hfew:O.length≤1000000:=by have:=HS.out.few;omega
  by_cases hlt:i<s.size
  ·have cC:=CC.out i hlt wr
   obtain ⟨z,hz⟩:∃ z,s[i]=z:=⟨_,rfl⟩
   have HZE:=hid hz
   obtain ⟨n,hn⟩:∃ n,cmtLen (s.extract i s.size).toList=n:=⟨_,rfl⟩
   rw [hn] at cC
   have HN:=hid hn
   clear hn
   by_cases h0:O.length=0
   ·have hO0:O=[]:=List.length_eq_zero_iff.1 h0
    have HEB:Hid (endL O=false):=hid (by rw [hO0];rfl)
    have HO:=hid h0
    rw [h0] at HR ⊢
    clear h0 hO0 hfew
    go_wp2_with fail
    refine cC.mono ?_
    rintro e w3 ⟨rfl,rfl⟩
    have hzr3:=hzr
    have HL3:=HL
    have HR3:=HR
    clear cC HR HL hzr
    rcases blank_or z with ⟨hbl,z32|z9|z13|z10⟩|⟨hbl,n32,n9,n13,n10⟩
    ·clear hbl
     have HN2:Hid (ScSt right s (i+1) O):=hid (scSt_blank HS.out hlt (fun e=>by have h:=HZE.out.symm.trans e.1;rw [z32] at h;cases h) (by rw [HZE.out,z32];rfl))
     have e32:((z.toNat:Int)==32)=true:=by rw [z32];rfl
     have e9:((z.toNat:Int)==9)=false:=by rw [z32];rfl
     have e13:((z.toNat:Int)==13)=false:=by rw [z32];rfl
     have e10:((z.toNat:Int)==10)=false:=by rw [z32];rfl
     clear z32 HS
     go_wp2_with fail
     go_roundw
     case rel=>exact ⟨i+1,O,by go_num,by omega,HN2,hid (by have h:=HR3.out;rw [HO.out];exact h),HL3⟩
     case measure=>simp [intOf];omega
    ·clear hbl
     have HN2:Hid (ScSt right s (i+1) O):=hid (scSt_blank HS.out hlt (fun e=>by have h:=HZE.out.symm.trans e.1;rw [z9] at h;cases h) (by rw [HZE.out,z9];rfl))
     have e32:((z.toNat:Int)==32)=false:=by rw [z9];rfl
     have e9:((z.toNat:Int)==9)=true:=by rw [z9];rfl
     have e13:((z.toNat:Int)==13)=false:=by rw [z9];rfl
     have e10:((z.toNat:Int)==10)=false:=by rw [z9];rfl
     clear z9 HS
     go_wp2_with fail
     go_roundw
     case rel=>exact ⟨i+1,O,by go_num,by omega,HN2,hid (by have h:=HR3.out;rw [HO.out];exact h),HL3⟩
     case measure=>simp [intOf];omega
    ·clear hbl
     have HN2:Hid (ScSt right s (i+1) O):=hid (scSt_blank HS.out hlt (fun e=>by have h:=HZE.out.symm.trans e.1;rw [z13] at h;cases h) (by rw [HZE.out,z13];rfl))
     have e32:((z.toNat:Int)==32)=false:=by rw [z13];rfl
     have e9:((z.toNat:Int)==9)=false:=by rw [z13];rfl
     have e13:((z.toNat:Int)==13)=true:=by rw [z13];rfl
     have e10:((z.toNat:Int)==10)=false:=by rw [z13];rfl
     clear z13 HS
     go_wp2_with fail
     go_roundw
     case rel=>exact ⟨i+1,O,by go_num,by omega,HN2,hid (by have h:=HR3.out;rw [HO.out];exact h),HL3⟩
     case measure=>simp [intOf];omega
    ·clear hbl
     have HN2:Hid (ScSt right s (i+1) O):=hid (scSt_blank HS.out hlt (fun e=>by have h:=e.2;rw [HEB.out] at h;cases h) (by rw [HZE.out,z10];rfl))
     have e32:((z.toNat:Int)==32)=false:=by rw [z10];rfl
     have e9:((z.toNat:Int)==9)=false:=by rw [z10];rfl
     have e13:((z.toNat:Int)==13)=false:=by rw [z10];rfl
     have e10:((z.toNat:Int)==10)=true:=by rw [z10];rfl
     clear z10 HS
     go_wp2_with fail
     go_roundw
     case rel=>exact ⟨i+1,O,by go_num,by omega,HN2,hid (by have h:=HR3.out;rw [HO.out];exact h),HL3⟩
     case measure=>simp [intOf];omega
    ·have HBF:=hid hbl
     have e32:((z.toNat:Int)==32)=false:=by have h:=u8_eq z 32;rw [decide_eq_false n32] at h;exact h
     have e9:((z.toNat:Int)==9)=false:=by have h:=u8_eq z 9;rw [decide_eq_false n9] at h;exact h
     have e13:((z.toNat:Int)==13)=false:=by have h:=u8_eq z 13;rw [decide_eq_false n13] at h;exact h
     have e10:((z.toNat:Int)==10)=false:=by have h:=u8_eq z 10;rw [decide_eq_false n10] at h;exact h
     clear hbl n32 n9 n13 n10
     by_cases hn0:0<n
     ·have hle:i+n≤s.size:=by have h:=cmt_le (s.extract i s.size).toList;rw [HN.out,ext_drop,List.length_drop,tl_len] at h;omega
      have HN2:Hid (ScSt right s (i+n) O):=hid (by have h:=scSt_cmt HS.out hlt (by rw [HZE.out];exact HBF.out) (by rw [HN.out];exact hn0);rwa [HN.out] at h)
      clear HS
      go_wp2_with fail
      go_roundw
      case rel=>exact ⟨i+n,O,by go_num,by omega,HN2,hid (by have h:=HR3.out;rw [HO.out];exact h),HL3⟩
      case measure=>simp [intOf];omega
     ·have cW:=CW.out i hlt HS.out.ok wr
      obtain ⟨⟨x,j⟩,hw⟩:∃ p,wordL right (s.extract i s.size).toList=p:=⟨_,rfl⟩
      rw [hw] at cW
      obtain ⟨hij,hj1,hN2⟩:=scSt_word HS.out hlt (by rw [HZE.out];exact HBF.out) (by rw [HN.out];omega) hw
      have HN2:=hid hN2
      simp only at cW
      clear HS hN2 hw
      go_wp2_with fail
      refine cW.mono ?_
      rintro e w4 ⟨rfl,hb4⟩
      have hzr4:Z≤w4.heap.size:=by have:=hb4.size;omega
      have HL4:Hid (Below Z w1 w4):=hid (HL3.out.trans (hb4.mono hzr3))
      have HR4:=hid (owns_later HR3.out hb4)
      clear hb4 cW HR3 HL3
      go_wp2_with fail
      rw [run_slice_string _ _ _ _ _ _ _ Tryz.underlying9 (by omega) (by omega) (by omega),show ((i:Int)).toNat=i by omega,show ((i:Int)+(j:Int)).toNat=i+j by omega]
      go_wp2_with (at_builtin;refine wpList_append_own _ rfl _ _ 79 rfl Z 86 i0 (.agg #[.int .i64 0,.string ⟨#[]⟩,.int .i64 0,.int .i64 0]) 4 40 Tryz.underlying79 hi0 hz0 hz1 hz2 rfl (by decide) _ _ _ rfl (HR4.out.alloc _) ⟨w4.heap.size,0,none⟩ 1 1 (tokCs [⟨x,(s.extract i (i+j)).toList,i,((i+j:Nat):Int)⟩]) rfl rfl ?c1 (plain_toks _) ?c3 ?c4 ?c5 ?_)
      case c1=>exact new_tokS _ _ _ _ _
      case c3=>unfold maxLen;omega
      case c4=>omega
      case c5=>rw [World.size_alloc];omega
      intro v5 w5 hv5 hg5 _
      have HV5:=hid hv5
      have HB5:=hid (below_grown HL4.out HR4.out hg5 hzr4)
      clear hv5 hg5
      go_wp2_with fail
      go_roundw
      case rel=>exact ⟨i+j,_,by go_num,by omega,HN2,hid (by have:=HV5.out;rw [← tokCs_app] at this;simpa [List.length_append,HO.out] using this),HB5⟩
      case measure=>simp [intOf];omega
   ·obtain ⟨k,hk⟩:∃ k,O.length=k+1:=⟨O.length - 1,by omega⟩
    obtain ⟨g,c,hv,hkc,hgZ,hgw⟩:=row_some HR.out (by omega)
    cases hv
    have hta:=toks_at HR.out rfl
    have hkO:k<O.length:=by omega
    have hcl:=tok_at k hta hkO
    obtain ⟨t,ht⟩:∃ t,O[k]=t:=⟨_,rfl⟩
    rw [ht] at hcl
    have hend:endL O=endsP t.w t.t:=by
     unfold endL
     rw [List.getLast?_eq_getElem?,hk,Nat.add_sub_cancel,List.getElem?_eq_getElem hkO,ht]
    simp only [Nat.zero_add] at hcl
    obtain ⟨c0,c1,c2,c3⟩:=hcl
    have HEND:=hid hend
    have hk6:k≤1000000:=by omega
    clear hend hta ht h0 hfew
    have cE:=CE.out t.w t.f t.e ⟨t.t.toArray⟩ wr
    have HO:=hid hk
    rw [hk] at HR hkO ⊢
    clear hk
    go_wp2_with fail
    refine cC.mono ?_
    rintro e w2 ⟨rfl,rfl⟩
    go_wp2_with fail
    refine cE.mono ?_
    rintro e w3 ⟨rfl,hb3⟩
    have hzr3:Z≤w3.heap.size:=by have:=hb3.size;omega
    have HL3:Hid (Below Z w1 w3):=hid (HL.out.trans (hb3.mono hzr))
    have HR3:Hid (w3.ownsRow Z 86 4 (.slice (some ⟨g,0,none⟩) (k+1) oc) (k+1) (tokCs O)):=hid (owns_later HR.out hb3)
    obtain ⟨b,hb⟩:∃ b,endsP t.w (⟨t.t.toArray⟩:ByteArray).toList=b:=⟨_,rfl⟩
    rw [hb]
    have HEB:Hid (endL O=b):=hid (by rw [HEND.out,← hb,ByteArray.toList_eq])
    clear cE hb c0 c1 c2 c3 hb3 HR HL HEND
    clear cC
    rcases blank_or z with ⟨hbl,z32|z9|z13|z10⟩|⟨hbl,n32,n9,n13,n10⟩
    ·clear hbl
     have HN2:Hid (ScSt right s (i+1) O):=hid (scSt_blank HS.out hlt (fun e=>by have h:=HZE.out.symm.trans e.1;rw [z32] at h;cases h) (by rw [HZE.out,z32];rfl))
     have e32:((z.toNat:Int)==32)=true:=by rw [z32];rfl
     have e9:((z.toNat:Int)==9)=false:=by rw [z32];rfl
     have e13:((z.toNat:Int)==13)=false:=by rw [z32];rfl
     have e10:((z.toNat:Int)==10)=false:=by rw [z32];rfl
     clear z32 HS
     go_wp2_with fail
     go_roundw
     case rel=>exact ⟨i+1,O,by go_num,by omega,HN2,hid (by have h:=HR3.out;rw [HO.out];exact h),HL3⟩
     case measure=>simp [intOf];omega
    ·clear hbl
     have HN2:Hid (ScSt right s (i+1) O):=hid (scSt_blank HS.out hlt (fun e=>by have h:=HZE.out.symm.trans e.1;rw [z9] at h;cases h) (by rw [HZE.out,z9];rfl))
     have e32:((z.toNat:Int)==32)=false:=by rw [z9];rfl
     have e9:((z.toNat:Int)==9)=true:=by rw [z9];rfl
     have e13:((z.toNat:Int)==13)=false:=by rw [z9];rfl
     have e10:((z.toNat:Int)==10)=false:=by rw [z9];rfl
     clear z9 HS
     go_wp2_with fail
     go_roundw
     case rel=>exact ⟨i+1,O,by go_num,by omega,HN2,hid (by have h:=HR3.out;rw [HO.out];exact h),HL3⟩
     case measure=>simp [intOf];omega
    ·clear hbl
     have HN2:Hid (ScSt right s (i+1) O):=hid (scSt_blank HS.out hlt (fun e=>by have h:=HZE.out.symm.trans e.1;rw [z13] at h;cases h) (by rw [HZE.out,z13];rfl))
     have e32:((z.toNat:Int)==32)=false:=by rw [z13];rfl
     have e9:((z.toNat:Int)==9)=false:=by rw [z13];rfl
     have e13:((z.toNat:Int)==13)=true:=by rw [z13];rfl
     have e10:((z.toNat:Int)==10)=false:=by rw [z13];rfl
     clear z13 HS
     go_wp2_with fail
     go_roundw
     case rel=>exact ⟨i+1,O,by go_num,by omega,HN2,hid (by have h:=HR3.out;rw [HO.out];exact h),HL3⟩
     case measure=>simp [intOf];omega
    ·clear hbl
     cases b
     ·have HN2:Hid (ScSt right s (i+1) O):=hid (scSt_blank HS.out hlt (fun e=>by have h:=e.2;rw [HEB.out] at h;cases h) (by rw [HZE.out,z10];rfl))
      have e32:((z.toNat:Int)==32)=false:=by rw [z10];rfl
      have e9:((z.toNat:Int)==9)=false:=by rw [z10];rfl
      have e13:((z.toNat:Int)==13)=false:=by rw [z10];rfl
      have e10:((z.toNat:Int)==10)=true:=by rw [z10];rfl
      clear z10 HS
      go_wp2_with fail
      go_roundw
      case rel=>exact ⟨i+1,O,by go_num,by omega,HN2,hid (by have h:=HR3.out;rw [HO.out];exact h),HL3⟩
      case measure=>simp [intOf];omega
     ·have HN2:Hid (ScSt right s (i+1) (O++[⟨5,[],i,((i+1:Nat):Int)⟩])):=hid (scSt_10 HS.out hlt (HZE.out.trans z10) HEB.out)
      have e32:((z.toNat:Int)==32)=false:=by rw [z10];rfl
      have e9:((z.toNat:Int)==9)=false:=by rw [z10];rfl
      have e13:((z.toNat:Int)==13)=false:=by rw [z10];rfl
      have e10:((z.toNat:Int)==10)=true:=by rw [z10];rfl
      clear z10 HS
      go_wp2_with (at_builtin;refine wpList_append_own _ rfl _ _ 79 rfl Z 86 i0 (.agg #[.int .i64 0,.string ⟨#[]⟩,.int .i64 0,.int .i64 0]) 4 40 Tryz.underlying79 hi0 hz0 hz1 hz2 rfl (by decide) _ _ _ rfl (HR3.out.alloc _) ⟨w3.heap.size,0,none⟩ 1 1 (tokCs [⟨5,[],i,((i+1:Nat):Int)⟩]) rfl rfl ?c1 (plain_toks _) ?c3 ?c4 ?c5 ?_)
      case c1=>exact new_tok _ _
      case c3=>unfold maxLen;omega
      case c4=>omega
      case c5=>rw [World.size_alloc];omega
      intro v5 w5 hv5 hg5 _
      have HV5:=hid hv5
      have HB5:=hid (below_grown HL3.out HR3.out hg5 hzr3)
      clear hv5 hg5
      go_wp2_with fail
      go_roundw
      case rel=>exact ⟨i+1,_,by go_num,by omega,HN2,hid (by have:=HV5.out;rw [← tokCs_app] at this;simpa [List.length_append,HO.out] using this),HB5⟩
      case measure=>simp [intOf];omega
    ·have HBF:=hid hbl
     have e32:((z.toNat:Int)==32)=false:=by have h:=u8_eq z 32;rw [decide_eq_false n32] at h;exact h
     have e9:((z.toNat:Int)==9)=false:=by have h:=u8_eq z 9;rw [decide_eq_false n9] at h;exact h
     have e13:((z.toNat:Int)==13)=false:=by have h:=u8_eq z 13;rw [decide_eq_false n13] at h;exact h
     have e10:((z.toNat:Int)==10)=false:=by have h:=u8_eq z 10;rw [decide_eq_false n10] at h;exact h
     clear hbl n32 n9 n13 n10
     by_cases hn0:0<n
     ·have hle:i+n≤s.size:=by have h:=cmt_le (s.extract i s.size).toList;rw [HN.out,ext_drop,List.length_drop,tl_len] at h;omega
      have HN2:Hid (ScSt right s (i+n) O):=hid (by have h:=scSt_cmt HS.out hlt (by rw [HZE.out];exact HBF.out) (by rw [HN.out];exact hn0);rwa [HN.out] at h)
      clear HS
      go_wp2_with fail
      go_roundw
      case rel=>exact ⟨i+n,O,by go_num,by omega,HN2,hid (by have h:=HR3.out;rw [HO.out];exact h),HL3⟩
      case measure=>simp [intOf];omega
     ·have cW:=CW.out i hlt HS.out.ok w3
      obtain ⟨⟨x,j⟩,hw⟩:∃ p,wordL right (s.extract i s.size).toList=p:=⟨_,rfl⟩
      rw [hw] at cW
      obtain ⟨hij,hj1,hN2⟩:=scSt_word HS.out hlt (by rw [HZE.out];exact HBF.out) (by rw [HN.out];omega) hw
      have HN2:=hid hN2
      simp only at cW
      clear HS hN2 hw
      go_wp2_with fail
      refine cW.mono ?_
      rintro e w4 ⟨rfl,hb4⟩
      have hzr4:Z≤w4.heap.size:=by have:=hb4.size;omega
      have HL4:Hid (Below Z w1 w4):=hid (HL3.out.trans (hb4.mono hzr3))
      have HR4:=hid (owns_later HR3.out hb4)
      clear hb4 cW HR3 HL3
      go_wp2_with fail
      rw [run_slice_string _ _ _ _ _ _ _ Tryz.underlying9 (by omega) (by omega) (by omega),show ((i:Int)).toNat=i by omega,show ((i:Int)+(j:Int)).toNat=i+j by omega]
      go_wp2_with (at_builtin;refine wpList_append_own _ rfl _ _ 79 rfl Z 86 i0 (.agg #[.int .i64 0,.string ⟨#[]⟩,.int .i64 0,.int .i64 0]) 4 40 Tryz.underlying79 hi0 hz0 hz1 hz2 rfl (by decide) _ _ _ rfl (HR4.out.alloc _) ⟨w4.heap.size,0,none⟩ 1 1 (tokCs [⟨x,(s.extract i (i+j)).toList,i,((i+j:Nat):Int)⟩]) rfl rfl ?c1 (plain_toks _) ?c3 ?c4 ?c5 ?_)
      case c1=>exact new_tokS _ _ _ _ _
      case c3=>unfold maxLen;omega
      case c4=>omega
      case c5=>rw [World.size_alloc];omega
      intro v5 w5 hv5 hg5 _
      have HV5:=hid hv5
      have HB5:=hid (below_grown HL4.out HR4.out hg5 hzr4)
      clear hv5 hg5
      go_wp2_with fail
      go_roundw
      case rel=>exact ⟨i+j,_,by go_num,by omega,HN2,hid (by have:=HV5.out;rw [← tokCs_app] at this;simpa [List.length_append,HO.out] using this),HB5⟩
      case measure=>simp [intOf];omega
  ·obtain rfl:i=s.size:=by omega
   by_cases h0:O.length=0
   ·have hO0:O=[]:=List.length_eq_zero_iff.1 h0
    have HF:Hid (scanB right s.toList=O):=hid (by have h:=HS.out.all;rw [scanAt_end,hO0] at h;rw [h,hO0];rfl)
    have HO:=hid h0
    rw [h0] at HR ⊢
    clear h0 hO0 hfew HS
    go_wp2_with fail
    go_ret
    exact ⟨_,rfl,by rw [HF.out];exact toks_row HR.out HO.out hwZ,HB1.out.trans (HL.out.mono hwZ)⟩
   ·obtain ⟨k,hk⟩:∃ k,O.length=k+1:=⟨O.length - 1,by omega⟩
    obtain ⟨g,c,hv,hkc,hgZ,hgw⟩:=row_some HR.out (by omega)
    cases hv
    have hta:=toks_at HR.out rfl
    have hkO:k<O.length:=by omega
    have hcl:=tok_at k hta hkO
    obtain ⟨t,ht⟩:∃ t,O[k]=t:=⟨_,rfl⟩
    rw [ht] at hcl
    have hend:endL O=endsP t.w t.t:=by
     unfold endL
     rw [List.getLast?_eq_getElem?,hk,Nat.add_sub_cancel,List.getElem?_eq_getElem hkO,ht]
    simp only [Nat.zero_add] at hcl
    obtain ⟨c0,c1,c2,c3⟩:=hcl
    have HEND:=hid hend
    have hk6:k≤1000000:=by omega
    clear hend hta ht h0 hfew
    have cE:=CE.out t.w t.f t.e ⟨t.t.toArray⟩ wr
    have HO:=hid hk
    rw [hk] at HR hkO ⊢
    clear hk
    go_wp2_with fail
    refine cE.mono ?_
    rintro e w3 ⟨rfl,hb3⟩
    have hzr3:Z≤w3.heap.size:=by have:=hb3.size;omega
    have HL3:Hid (Below Z w1 w3):=hid (HL.out.trans (hb3.mono hzr))
    have HR3:Hid (w3.ownsRow Z 86 4 (.slice (some ⟨g,0,none⟩) (k+1) oc) (k+1) (tokCs O)):=hid (owns_later HR.out hb3)
    obtain ⟨b,hb⟩:∃ b,endsP t.w (⟨t.t.toArray⟩:ByteArray).toList=b:=⟨_,rfl⟩
    rw [hb]
    have HEB:Hid (endL O=b):=hid (by rw [HEND.out,← hb,ByteArray.toList_eq])
    clear cE hb c0 c1 c2 c3 hb3 HR HL HEND
    cases b
    ·have HF:Hid (scanB right s.toList=O):=hid (by have h:=HS.out.all;rw [scanAt_end,HEB.out] at h;simpa using h)
     clear HS
     go_wp2_with fail
     go_ret
     exact ⟨_,rfl,by rw [HF.out];exact toks_row HR3.out HO.out hwZ,HB1.out.trans (HL3.out.mono hwZ)⟩
    ·have HF:Hid (scanB right s.toList=O++[⟨5,[],s.size,s.size⟩]):=hid (by have h:=HS.out.all;rw [scanAt_end,HEB.out] at h;simpa using h)
     clear HS
     go_wp2_with (at_builtin;refine wpList_append_own _ rfl _ _ 79 rfl Z 86 i0 (.agg #[.int .i64 0,.string ⟨#[]⟩,.int .i64 0,.int .i64 0]) 4 40 Tryz.underlying79 hi0 hz0 hz1 hz2 rfl (by decide) _ _ _ rfl (HR3.out.alloc _) ⟨w3.heap.size,0,none⟩ 1 1 (tokCs [⟨5,[],s.size,s.size⟩]) rfl rfl ?c1 (plain_toks _) ?c3 ?c4 ?c5 ?_)
     case c1=>exact new_tok _ _
     case c3=>unfold maxLen;omega
     case c4=>omega
     case c5=>rw [World.size_alloc];omega
     intro v5 w5 hv5 hg5 _
     have HV5:=hid hv5
     have HB5:=hid (below_grown HL3.out HR3.out hg5 hzr3)
     clear hv5 hg5
     go_wp2_with fail
     go_ret
     exact ⟨_,rfl,by rw [HF.out];exact toks_row (n:=k+1+1) (by have:=HV5.out;rw [← tokCs_app] at this;exact this) (by simp [HO.out]) hwZ,HB1.out.trans (HB5.out.mono hwZ)⟩
end Go.Proofs.YtojoahlpgmnbnaaGreatDoor.S
namespace Go.Proofs.YtojoahlpgmnbnaaGreatDoor.Q
open Go.RowKit
open Go.Lib hiding intOf
open U S L
set_option maxHeartbeats 4000000 in
set_option maxRecDepth 20000 in
theorem refPlain_any (c:UInt8) (w:World):Calls Tryz.prog 50 #[.int .u8 (c.toNat:Nat)] w fun e w'=>e=.returned (.bool (nmc c))∧w=w':=by
 have hf:nmc c=decide (((97≤c.toNat∧c.toNat≤122)∨(65≤c.toNat∧c.toNat≤90)∨c.toNat=95)∨(48≤c.toNat∧c.toNat≤57)):=by
  unfold nmc lett figu
  have:decide (c=95)=decide (c.toNat=95):=by
   rw [decide_eq_decide]
   exact ⟨fun h=>by rw [h];rfl,fun h=>UInt8.toNat_inj.1 h⟩
  rw [this]
  simp [UInt8.le_iff_toNat_le,Bool.or_assoc]
 rw [hf]
 generalize c.toNat=n
 obtain ⟨R,hR⟩:∃ R,decide (((97≤n∧n≤122)∨(65≤n∧n≤90)∨n=95)∨(48≤n∧n≤57))=R:=⟨_,rfl⟩
 have HR:=hid hR
 rw [hR]
 clear hR
 go_enter Tryz.func50,Tryz.ntmps50
 go_wp2_with fail
 all_goals (go_ret;exact ⟨retB (by rw [← HR.out,Bool.eq_iff_iff];simp;omega),rfl⟩)
def NameTo (l:By) (i n:Nat):Prop:=(l.drop i).takeWhile nmc=(l.drop i).take n++(l.drop (i+n)).takeWhile nmc
theorem nameTo_start (l:By) (i:Nat):NameTo l i 0:=by unfold NameTo;simp
theorem nameTo_on (s:ByteArray) {i n:Nat} (h:NameTo s.toList i n) (hn:i+n<s.size) (hc:nmc s[i+n]=true):NameTo s.toList i (n+1):=by
 unfold NameTo at h ⊢
 have hl:=tl_drop s hn
 rw [h,hl,List.takeWhile_cons,if_pos hc,← Nat.add_assoc]
 have ht:(s.toList.drop i).take (n+1)=(s.toList.drop i).take n++[s[i+n]]:=by
  rw [List.take_add_one,List.getElem?_drop,tl_get s hn];rfl
 rw [ht];simp
theorem nameTo_off (s:ByteArray) {i n:Nat} (h:NameTo s.toList i n) (hc:(∃ hn:i+n<s.size,nmc s[i+n]=false)∨s.size≤i+n):(s.extract i (i+n)).toList=(s.toList.drop i).takeWhile nmc:=by
 unfold NameTo at h
 rw [h,S.ext_list,show i+n - i=n by omega]
 rcases hc with ⟨hn,hc⟩|hc
 ·rw [tl_drop s hn,List.takeWhile_cons,if_neg (by rw [hc];simp),List.append_nil]
 ·rw [tl_end s hc];simp
set_option maxHeartbeats 4000000 in
set_option maxRecDepth 20000 in
theorem refBegins_any (s:ByteArray) (i:Nat) (w:World) (hi:i≤s.size) (hs:s.size≤1000000):Calls Tryz.prog 30 #[.string s,.int .i64 i] w fun e w'=>e=.returned (.bool (beg s.toList i))∧w=w':=by
 have cP:=fun c W=>refPlain_any c W
 obtain ⟨R,hR⟩:∃ R,beg s.toList i=R:=⟨_,rfl⟩
 rw [hR]
 have main:(i=0∨s.toList[i - 1]?=some 10)→kw ((s.toList.drop i).takeWhile nmc)=R:=fun h=>by
  rw [← hR]
  unfold beg declW
  rcases h with h|h <;> simp [h]
 have off:∀ (hi0:i - 1<s.size),i≠0→s[i - 1].toNat≠10→R=false:=fun hi0 h0 h1=>by
  rw [← hR]
  unfold beg
  rw [tl_get s hi0]
  have:¬ s[i - 1]=10:=fun e=>h1 (by rw [e];rfl)
  simp [h0,this]
 have HM:=hid main
 have HO:=hid off
 clear hR main off
 by_cases h0:i=0
 ·have HW:=hid (HM.out (.inl h0))
  have hg:decide (0<i)=false:=by simp [h0]
  clear h0
  go_enter Tryz.func30,Tryz.ntmps30
  go_wp2_with fail
  go_loop [5] (fun nv=>∃ n:Nat,nv=.int .i64 n∧i+n≤s.size∧Hid (NameTo s.toList i n)) (fun nv=>s.size - (intOf nv).toNat)
  case atStart=>exact ⟨0,rfl,hi,hid (nameTo_start _ _)⟩
  case round =>
   obtain ⟨n,rfl,hn,HN⟩:=hrel
   have e0:IntKind.i64.wrap ((i:Int)+(n:Int))=(i:Int)+(n:Int):=IntWalk.i64_in _ (by omega)
   have e1:IntKind.i64.wrap ((n:Int)+1)=(n:Int)+1:=IntWalk.i64_in _ (by omega)
   have s0:(0:Int)≤(i:Int):=by omega
   have s1:(i:Int)≤(i:Int)+(n:Int):=by omega
   have s2:(i:Int)+(n:Int)≤(s.size:Int):=by omega
   have s3:i≤i+n:=by omega
   by_cases hlt:i+n<s.size
   ·have s4:(i:Int)+(n:Int)<(s.size:Int):=by omega
    have s5:(0:Int)≤(i:Int)+(n:Int):=by omega
    have g1:=nameTo_on s HN.out hlt
    have g2:nmc s[i+n]=false→(s.extract i (i+n)).toList=(s.toList.drop i).takeWhile nmc:=fun h=>nameTo_off s HN.out (.inl ⟨hlt,h⟩)
    obtain ⟨x,hx⟩:∃ x,s[i+n]=x:=⟨_,rfl⟩
    rw [hx] at g1 g2
    have G1:=hid g1
    have G2:=hid g2
    clear g1 g2
    have c1:=cP x w
    cases hl:nmc x
    ·rw [hl] at c1
     have HE:Hid (R=kw (s.extract i (i+n)).toList):=hid (by rw [G2.out hl];exact HW.out.symm)
     obtain ⟨y,hy⟩:∃ y,s.extract i (i+n)=y:=⟨_,rfl⟩
     rw [hy] at HE
     clear hl
     go_wp2_with fail
     refine c1.mono ?_
     rintro e w2 ⟨rfl,rfl⟩
     clear c1
     go_wp2_with fail
     all_goals (go_ret;exact ⟨retB (by first|(exfalso;simp_all;done)|(rw [HE.out];simp only [kw, *];rfl)|(rw [HE.out];simp [kw, *];done)|(rw [HE.out];simp_all [kw];done)),rfl⟩)
    ·rw [hl] at c1
     have HN2:=hid (G1.out hl)
     clear hl
     go_wp2_with fail
     refine c1.mono ?_
     rintro e w2 ⟨rfl,rfl⟩
     clear c1
     go_wp2_with fail
     go_round
     case rel=>exact ⟨n+1,by go_num,by omega,HN2⟩
     case measure=>simp [intOf];omega
   ·have hz:s.size≤i+n:=by omega
    have HE:Hid (R=kw (s.extract i (i+n)).toList):=hid (by rw [nameTo_off s HN.out (.inr hz)];exact HW.out.symm)
    obtain ⟨y,hy⟩:∃ y,s.extract i (i+n)=y:=⟨_,rfl⟩
    rw [hy] at HE
    have s4:¬ (i:Int)+(n:Int)<(s.size:Int):=by omega
    go_wp2_with fail
    all_goals (go_ret;exact ⟨retB (by first|(exfalso;simp_all;done)|(rw [HE.out];simp only [kw, *];rfl)|(rw [HE.out];simp [kw, *];done)|(rw [HE.out];simp_all [kw];done)),rfl⟩)
 ·have hi0:i - 1<s.size:=by omega
  have g0:=HO.out hi0 h0
  have g3:=tl_get s hi0
  obtain ⟨z,hz⟩:∃ z,s[i - 1]=z:=⟨_,rfl⟩
  rw [hz] at g0 g3
  have G0:=hid g0
  have hg:0<i:=by omega
  have ew:IntKind.i64.wrap ((i:Int) - 1)=((i - 1:Nat):Int):=(IntWalk.i64_in _ (by omega)).trans (by omega)
  by_cases h10:z.toNat=10
  ·have HW:Hid (kw ((s.toList.drop i).takeWhile nmc)=R):=hid (HM.out (.inr (by rw [g3];congr 1;exact UInt8.toNat_inj.1 h10)))
   have h10':((z.toNat:Int) != 10)=false:=by simp [h10]
   clear h0 g0 g3 h10
   go_enter Tryz.func30,Tryz.ntmps30
   go_wp2_with fail
   go_loop [5] (fun nv=>∃ n:Nat,nv=.int .i64 n∧i+n≤s.size∧Hid (NameTo s.toList i n)) (fun nv=>s.size - (intOf nv).toNat)
   case atStart=>exact ⟨0,rfl,hi,hid (nameTo_start _ _)⟩
   case round =>
    obtain ⟨n,rfl,hn,HN⟩:=hrel
    have e0:IntKind.i64.wrap ((i:Int)+(n:Int))=(i:Int)+(n:Int):=IntWalk.i64_in _ (by omega)
    have e1:IntKind.i64.wrap ((n:Int)+1)=(n:Int)+1:=IntWalk.i64_in _ (by omega)
    have s0:(0:Int)≤(i:Int):=by omega
    have s1:(i:Int)≤(i:Int)+(n:Int):=by omega
    have s2:(i:Int)+(n:Int)≤(s.size:Int):=by omega
    have s3:i≤i+n:=by omega
    by_cases hlt:i+n<s.size
    ·have s4:(i:Int)+(n:Int)<(s.size:Int):=by omega
     have s5:(0:Int)≤(i:Int)+(n:Int):=by omega
     have g1:=nameTo_on s HN.out hlt
     have g2:nmc s[i+n]=false→(s.extract i (i+n)).toList=(s.toList.drop i).takeWhile nmc:=fun h=>nameTo_off s HN.out (.inl ⟨hlt,h⟩)
     obtain ⟨x,hx⟩:∃ x,s[i+n]=x:=⟨_,rfl⟩
     rw [hx] at g1 g2
     have G1:=hid g1
     have G2:=hid g2
     clear g1 g2
     have c1:=cP x w
     cases hl:nmc x
     ·rw [hl] at c1
      have HE:Hid (R=kw (s.extract i (i+n)).toList):=hid (by rw [G2.out hl];exact HW.out.symm)
      obtain ⟨y,hy⟩:∃ y,s.extract i (i+n)=y:=⟨_,rfl⟩
      rw [hy] at HE
      clear hl
      go_wp2_with fail
      refine c1.mono ?_
      rintro e w2 ⟨rfl,rfl⟩
      clear c1
      go_wp2_with fail
      all_goals (go_ret;exact ⟨retB (by first|(exfalso;simp_all;done)|(rw [HE.out];simp only [kw, *];rfl)|(rw [HE.out];simp [kw, *];done)|(rw [HE.out];simp_all [kw];done)),rfl⟩)
     ·rw [hl] at c1
      have HN2:=hid (G1.out hl)
      clear hl
      go_wp2_with fail
      refine c1.mono ?_
      rintro e w2 ⟨rfl,rfl⟩
      clear c1
      go_wp2_with fail
      go_round
      case rel=>exact ⟨n+1,by go_num,by omega,HN2⟩
      case measure=>simp [intOf];omega
    ·have hz:s.size≤i+n:=by omega
     have HE:Hid (R=kw (s.extract i (i+n)).toList):=hid (by rw [nameTo_off s HN.out (.inr hz)];exact HW.out.symm)
     obtain ⟨y,hy⟩:∃ y,s.extract i (i+n)=y:=⟨_,rfl⟩
     rw [hy] at HE
     have s4:¬ (i:Int)+(n:Int)<(s.size:Int):=by omega
     go_wp2_with fail
     all_goals (go_ret;exact ⟨retB (by first|(exfalso;simp_all;done)|(rw [HE.out];simp only [kw, *];rfl)|(rw [HE.out];simp [kw, *];done)|(rw [HE.out];simp_all [kw];done)),rfl⟩)
  ·have HF:=hid (G0.out h10)
   clear h0 g0 g3
   go_enter Tryz.func30,Tryz.ntmps30
   go_wp2_with fail
   go_ret
   exact ⟨by rw [HF.out];rfl,rfl⟩
theorem set_row4 {W:World} {q:Nat} {a b c d a' b' c' d':Value} {t:TypeId} (h:W.heap[q]?=some (.cells #[a,b,c,d] t (0,0))) :
  ((((W.setCell ⟨q,0,none⟩ a').setCell ⟨q,1,none⟩ b').setCell ⟨q,2,none⟩ c').setCell ⟨q,3,none⟩ d').heap[q]?=some (.cells #[a',b',c',d'] t (0,0)):=by
 have hq:q<W.heap.size:=(Array.getElem?_eq_some_iff.1 h).1
 simp [World.setCell,Array.getElem?_modify,h]
set_option maxHeartbeats 4000000 in
set_option maxRecDepth 20000 in
theorem refMade_any (s:ByteArray) (f e:Nat) (w:World) (hfe:f≤e) (hes:e≤s.size) (hs:s.size≤1000000) :
  Calls Tryz.prog 31 #[.string s,.int .i64 f,.int .i64 e] w fun e' w'=>e'=.returned (.agg #[.int .i64 f,.int .i64 e,.bool (made s.toList f e).d,.bool (made s.toList f e).j])∧Below w.heap.size w w':=by
 have cB:=fun X=>refBegins_any s f X (by omega) hs
 have cS:=fun X=>refScan_any (s.extract f e) X (by rw [ByteArray.size_extract];omega)
 have hd:(made s.toList f e).d=beg s.toList f:=rfl
 have hj:(made s.toList f e).j=(!beg s.toList f&&decide (0<(scanB (okB (s.extract f e)) (s.extract f e).toList).length)):=by
  show (!beg s.toList f&&hw ((s.toList.drop f).take (e - f)))=_
  unfold hw
  rw [← S.ext_list,tl_mk]
  congr 1
  cases scanB (okB (s.extract f e)) (s.extract f e).toList <;> simp
 rw [hd,hj]
 obtain ⟨b,hb⟩:∃ b,beg s.toList f=b:=⟨_,rfl⟩
 rw [hb] at cB ⊢
 obtain ⟨Ts,hTs⟩:∃ Ts,scanB (okB (s.extract f e)) (s.extract f e).toList=Ts:=⟨_,rfl⟩
 rw [hTs] at cS ⊢
 obtain ⟨k,hk⟩:∃ k,Ts.length=k:=⟨_,rfl⟩
 have HTK:=hid hk
 rw [hk]
 clear hk
 obtain ⟨y,hy⟩:∃ y,s.extract f e=y:=⟨_,rfl⟩
 have s0:(0:Int)≤(f:Int):=by omega
 have s1:(f:Int)≤(e:Int):=by omega
 have s2:(e:Int)≤(s.size:Int):=by omega
 clear hd hj hb hTs
 rw [hy] at cS
 go_enter Tryz.func31,Tryz.ntmps31
 go_wp2_with fail
 refine (cB _).mono ?_
 rintro e1 w1 ⟨rfl,rfl⟩
 clear cB
 go_wp2_with fail
 obtain ⟨W1,hW1⟩:∃ W1,w.alloc (.cells #[.int .i64 0,.int .i64 0,.bool false,.bool false] 62)=W1:=⟨_,rfl⟩
 have hb1:Below w.heap.size w W1:=by rw [← hW1];exact (Below.refl _ w).alloc (Nat.le_refl _) _
 have hq1:W1.heap[w.heap.size]?=some (.cells #[.int .i64 0,.int .i64 0,.bool false,.bool false] 62 (0,0)):=by rw [← hW1];exact World.alloc_heap_new w _
 rw [hW1]
 clear hW1
 have HQ1:=hid hq1
 have HB1:=hid hb1
 clear hb1 hq1
 refine (cS W1).mono ?_
 rintro e2 w2 ⟨v,rfl,hv,hb2⟩
 obtain ⟨a,cp,rfl,_,_⟩:=hv
 have hqw:=(Array.getElem?_eq_some_iff.1 HQ1.out).1
 have hq2:=(hb2.block w.heap.size hqw).trans HQ1.out
 have hbb:Below w.heap.size w w2:=HB1.out.trans (hb2.mono (Nat.le_of_lt hqw))
 have hfb:∀ a' b' c' d',Below w.heap.size w ((((w2.setCell ⟨w.heap.size,0,none⟩ a').setCell ⟨w.heap.size,1,none⟩ b').setCell ⟨w.heap.size,2,none⟩ c').setCell ⟨w.heap.size,3,none⟩ d'):=fun a' b' c' d' =>
  (((hbb.setCell (p:=⟨w.heap.size,0,none⟩) (Nat.le_refl _) a').setCell (p:=⟨w.heap.size,1,none⟩) (Nat.le_refl _) b').setCell (p:=⟨w.heap.size,2,none⟩) (Nat.le_refl _) c').setCell (p:=⟨w.heap.size,3,none⟩) (Nat.le_refl _) d'
 have HFB:=hid hfb
 have HQ:=hid hq2
 obtain ⟨k0,k1,k2,k3⟩:=tk_cells hq2
 have f0:∀ j,w2.frozen? ⟨w.heap.size,j,none⟩=false:=fun j=>by simp [World.frozen?,hq2]
 have g0:=f0 0
 have g1:=f0 1
 have g2:=f0 2
 have g3:=f0 3
 rw [HTK.out]
 clear cS hb2 hq2 hbb hfb f0 hy
 cases b
 ·by_cases hk0:0<k
  ·go_wp2_with fail
   (try simp only [Exit.inBlock,Exit.then])
   have hp:=set_row4 (a':=.int .i64 f) (b':=.int .i64 e) (c':=.bool false) (d':=.bool true) HQ.out
   refine bodyPost_ret (v:=.agg #[.int .i64 f,.int .i64 e,.bool false,.bool true]) (results_cell_row rfl _ _ w.heap.size 62 #[.int .i64 f,.int .i64 e,.bool false,.bool true] (0,0) _ (by rfl) hp Tryz.underlying62 rfl (by kernel_rfl)) rfl ?_
   exact ⟨by simp [hk0],HFB.out _ _ _ _⟩
  ·obtain rfl:k=0:=by omega
   go_wp2_with fail
   (try simp only [Exit.inBlock,Exit.then])
   have hp:=set_row4 (a':=.int .i64 f) (b':=.int .i64 e) (c':=.bool false) (d':=.bool false) HQ.out
   refine bodyPost_ret (v:=.agg #[.int .i64 f,.int .i64 e,.bool false,.bool false]) (results_cell_row rfl _ _ w.heap.size 62 #[.int .i64 f,.int .i64 e,.bool false,.bool false] (0,0) _ (by rfl) hp Tryz.underlying62 rfl (by kernel_rfl)) rfl ?_
   exact ⟨by simp,HFB.out _ _ _ _⟩
 ·go_wp2_with fail
  (try simp only [Exit.inBlock,Exit.then])
  have hp:=set_row4 (a':=.int .i64 f) (b':=.int .i64 e) (c':=.bool true) (d':=.bool false) HQ.out
  refine bodyPost_ret (v:=.agg #[.int .i64 f,.int .i64 e,.bool true,.bool false]) (results_cell_row rfl _ _ w.heap.size 62 #[.int .i64 f,.int .i64 e,.bool true,.bool false] (0,0) _ (by rfl) hp Tryz.underlying62 rfl (by kernel_rfl)) rfl ?_
  exact ⟨by simp,HFB.out _ _ _ _⟩
end Go.Proofs.YtojoahlpgmnbnaaGreatDoor.Q
namespace Go.Proofs.YtojoahlpgmnbnaaGreatDoor.Q
open Go.RowKit
open Go.Lib hiding intOf
open U S L
set_option maxHeartbeats 8000000 in
set_option maxRecDepth 20000 in
theorem refPieces_any (s:ByteArray) (w:World) (hs:s.size≤1000000) :
  Calls Tryz.prog 21 #[.string s] w fun e w'=>∃ v,e=.returned v∧PcsIn w.heap.size w' (pieces s.toList) v∧Below w.heap.size w w':=by
 obtain ⟨i0,hi0,hz0,hz1,hz2⟩:=info_parts infoR
 have HP0:Hid (pieces s.toList=[]++chain s.toList s.size 0 (cuts s.toList 1 (s.size - 1))):=hid (by unfold pieces;rw [tl_len];rfl)
 have CB:=hid (fun i (hi:i≤s.size) X=>refBegins_any s i X hi hs)
 have CM:=hid (fun f e (hfe:f≤e) (hes:e≤s.size) X=>refMade_any s f e X hfe hes hs)
 go_enter Tryz.func21,Tryz.ntmps21
 go_wp2_with fail
 go_loopw [3,4,5] (fun ov fv iv wr=>∃ (f i:Nat) (O:List PcP),fv=.int .i64 f∧iv=.int .i64 i∧f<i∧(i≤s.size∨i=1)∧O.length≤i∧Hid (wr.ownsRow w.heap.size 62 4 ov O.length (pcCs O))∧Hid (Below w.heap.size w wr)∧Hid (pieces s.toList=O++chain s.toList s.size f (cuts s.toList i (s.size - i)))) (fun _ _ iv _=>s.size - (intOf iv).toNat)
 case atStart=>exact ⟨0,1,[],rfl,rfl,by omega,.inr rfl,by simp,hid (World.ownsRow_nil _ _ _ _),hid (Below.refl _ _),HP0⟩
 case round =>
  obtain ⟨f,i,O,rfl,rfl,hfi,hi,hO,HR,HL,HP⟩:=hrel
  clear HP0
  obtain ⟨va,vc,rfl⟩:=owns_len HR.out
  obtain ⟨m,hm⟩:∃ m,O.length=m:=⟨_,rfl⟩
  rw [hm] at HR hO ⊢
  have HM:=hid hm
  clear hm
  by_cases hlt:i<s.size
  ·have c1:=CB.out i (by omega) wr
   have hst:=cuts_succ s.toList i (s.size - (i+1))
   rw [show s.size - (i+1)+1=s.size - i by omega] at hst
   obtain ⟨b,hb⟩:∃ b,beg s.toList i=b:=⟨_,rfl⟩
   rw [hb] at c1 hst
   cases b
   ·have HP2:Hid (pieces s.toList=O++chain s.toList s.size f (cuts s.toList (i+1) (s.size - (i+1)))):=hid (by rw [HP.out,hst];simp)
    clear hst hb
    go_wp2_with fail
    refine c1.mono ?_
    rintro e w2 ⟨rfl,rfl⟩
    clear c1
    go_wp2_with fail
    go_roundw
    case rel=>exact ⟨f,i+1,O,rfl,by go_num,by omega,by omega,by rw [HM.out];omega,by rw [HM.out];exact HR,HL,HP2⟩
    case measure=>simp [intOf];omega
   ·have c2:=CM.out f i (by omega) (by omega) wr
    have hmd:made s.toList f i=⟨f,i,(made s.toList f i).d,(made s.toList f i).j⟩:=rfl
    have HP2:Hid (pieces s.toList=(O++[made s.toList f i])++chain s.toList s.size i (cuts s.toList (i+1) (s.size - (i+1)))):=hid (by
     rw [HP.out,hst,if_pos rfl]
     simp [chain,heads,lastD])
    rw [hmd] at HP2
    obtain ⟨md,hmd2⟩:∃ md,(made s.toList f i).d=md:=⟨_,rfl⟩
    obtain ⟨mj,hmj2⟩:∃ mj,(made s.toList f i).j=mj:=⟨_,rfl⟩
    rw [hmd2,hmj2] at HP2 c2
    clear hst hb hmd hmd2 hmj2
    go_wp2_with fail
    refine c1.mono ?_
    rintro e w2 ⟨rfl,rfl⟩
    clear c1
    go_wp2_with fail
    refine c2.mono ?_
    rintro e w5 ⟨rfl,hb5⟩
    have HR5:=hid (owns_later HR.out hb5)
    have HL5:=hid (HL.out.trans (hb5.mono HL.out.size))
    clear c2 hb5
    go_wp2_with (at_builtin;refine wpList_append_own _ rfl _ _ 42 rfl w.heap.size 62 i0 (.agg #[.int .i64 0,.int .i64 0,.bool false,.bool false]) 4 24 Tryz.underlying42 hi0 hz0 hz1 hz2 rfl (by decide) _ _ _ rfl (HR5.out.alloc _) ⟨w5.heap.size,0,none⟩ 1 1 (pcCs [⟨f,i,md,mj⟩]) rfl rfl ?c1 (plain_pcs _) ?c3 ?c4 ?c5 ?_)
    case c1=>exact new_pc _ _ _ _ _ _
    case c3=>unfold maxLen;omega
    case c4=>omega
    case c5=>rw [World.size_alloc];have:=HL5.out.size;omega
    intro v6 w6 hv6 hg6 _
    have HL6:=hid (below_grown HL5.out HR5.out hg6 HL5.out.size)
    rw [← pcCs_app] at hv6
    have HR6:Hid (w6.ownsRow w.heap.size 62 4 v6 (O++[(⟨f,i,md,mj⟩:PcP)]).length (pcCs (O++[⟨f,i,md,mj⟩]))):=hid (by rw [List.length_append,HM.out];exact hv6)
    clear hv6 hg6
    go_wp2_with fail
    go_roundw
    case rel=>exact ⟨i,i+1,O++[⟨f,i,md,mj⟩],rfl,by go_num,by omega,by omega,by rw [List.length_append,HM.out];simp;omega,HR6,HL6,HP2⟩
    case measure=>simp [intOf];omega
  ·have hfs:f≤s.size:=by omega
   have c2:=CM.out f s.size hfs (Nat.le_refl _) wr
   have HP2:Hid (pieces s.toList=O++[made s.toList f s.size]):=hid (by
    rw [HP.out,show s.size - i=0 by omega]
    rfl)
   have hmd:made s.toList f s.size=⟨f,s.size,(made s.toList f s.size).d,(made s.toList f s.size).j⟩:=rfl
   rw [hmd] at HP2
   obtain ⟨md,hmd2⟩:∃ md,(made s.toList f s.size).d=md:=⟨_,rfl⟩
   obtain ⟨mj,hmj2⟩:∃ mj,(made s.toList f s.size).j=mj:=⟨_,rfl⟩
   rw [hmd2,hmj2] at HP2 c2
   clear hmd hmd2 hmj2
   go_wp2_with fail
   refine c2.mono ?_
   rintro e w5 ⟨rfl,hb5⟩
   have HR5:=hid (owns_later HR.out hb5)
   have HL5:=hid (HL.out.trans (hb5.mono HL.out.size))
   clear c2 hb5
   go_wp2_with (at_builtin;refine wpList_append_own _ rfl _ _ 42 rfl w.heap.size 62 i0 (.agg #[.int .i64 0,.int .i64 0,.bool false,.bool false]) 4 24 Tryz.underlying42 hi0 hz0 hz1 hz2 rfl (by decide) _ _ _ rfl (HR5.out.alloc _) ⟨w5.heap.size,0,none⟩ 1 1 (pcCs [⟨f,s.size,md,mj⟩]) rfl rfl ?c1 (plain_pcs _) ?c3 ?c4 ?c5 ?_)
   case c1=>exact new_pc _ _ _ _ _ _
   case c3=>unfold maxLen;omega
   case c4=>omega
   case c5=>rw [World.size_alloc];have:=HL5.out.size;omega
   intro v6 w6 hv6 hg6 _
   have HL6:=hid (below_grown HL5.out HR5.out hg6 HL5.out.size)
   rw [← pcCs_app] at hv6
   have HR6:=hid hv6
   clear hv6 hg6
   go_wp2_with fail
   go_ret
   refine ⟨_,rfl,?_,HL6.out⟩
   rw [HP2.out]
   exact pcs_row HR6.out (by rw [List.length_append,HM.out];rfl) (Nat.le_refl _)
end Go.Proofs.YtojoahlpgmnbnaaGreatDoor.Q
namespace Go.Proofs.YtojoahlpgmnbnaaGreatDoor.Ud
open Go.RowKit
open Go.Lib hiding intOf
open U S Q T J
open Go.Proofs.YtojoahlpgmnbnaaGreatDoor.K (MTab)
theorem DcsOwn.later {H:Nat} {W W':World} {D:List DcP} {v:Value} (h:DcsOwn H W D v) (hb:Below W.heap.size W W'):DcsOwn H W' D v:=by
 obtain ⟨a,c,L,h1,h2,h3,h4⟩:=h
 refine ⟨a,c,L,h1,h2,h3,h4.imp id ?_⟩
 rintro ⟨g,e1,e2⟩
 exact ⟨g,e1,e2.later hb⟩
theorem two_decls (s:ByteArray) (w:World) (B B' d d' k k':Nat) (hs:s.size≤600) (hU:Un B w d s k) (hU':Un B' w d' s k') :
  Calls Tryz.prog 12 #[ptrU d] w fun e w1=>∃ v,e=.returned v∧Below w.heap.size w w1 ∧
   Calls Tryz.prog 12 #[ptrU d'] w1 fun e w2=>∃ v2,e=.returned v2∧Below w.heap.size w w2 ∧
    Calls Tryz.prog 20 #[v,v2] w2 fun e w3=>e=.returned (.bool true)∧Below w.heap.size w w3:=by
 have hlen:(decls s).length≤1099511627776:=by have:=decls_bound s;omega
 refine (decls_any s w B d k hs hU).mono ?_
 rintro e w1 ⟨v,rfl,hD,hb1⟩
 refine ⟨v,rfl,hb1,(decls_any s w1 B' d' k' hs (hU'.later hb1)).mono ?_⟩
 rintro e w2 ⟨v2,rfl,hD2,hb2⟩
 have hB2:=hb1.trans (hb2.mono hb1.size)
 refine ⟨v2,rfl,hB2,(unitSame_any (decls s) _ _ _ _ w2 v v2 (hD.dcs.later hb2) hD2.dcs (okd_big (okd_decls s hs)) hlen).mono ?_⟩
 rintro e w3 ⟨rfl,hb3⟩
 exact ⟨rfl,hB2.trans (hb3.mono hB2.size)⟩
end Go.Proofs.YtojoahlpgmnbnaaGreatDoor.Ud
namespace Go.Proofs.YtojoahlpgmnbnaaGreatDoor.Q
open Go.RowKit
open Go.Lib hiding intOf
open U S L
theorem inP_on {l:List PcP} {x:Int} {i:Nat} (h:∀ j (hj:j<l.length),j<i→inP x l[j]=false) (hi:i<l.length) (hn:inP x l[i]=false):∀ j (hj:j<l.length),j<i+1→inP x l[j]=false:=fun j hj h1=>by
 by_cases e:j<i
 ·exact h j hj e
 ·obtain rfl:j=i:=by omega
  exact hn
theorem ofL_end {l:List PcP} {x:Int} {k:Nat} (ha:∀ j (hj:j<l.length),j<l.length→inP x l[j]=false) (hk:l.length=k+1):ofL l x=if ((l[k]'(by omega)).e:Int)=x then (k:Int) else -1:=by
 rw [ofL_miss (fun j hj=>ha j hj hj),List.getLast?_eq_getElem?,show l.length - 1=k by omega,List.getElem?_eq_getElem (by omega)]
 simp only [Option.map_some,Option.some.injEq]
 split
 ·omega
 ·rfl
theorem ofL_nil (x:Int):ofL [] x=-1:=rfl
theorem ofL_bnd (l:List PcP) (x:Int):-1≤ofL l x∧ofL l x≤l.length:=by
 cases hf:l.findIdx? (inP x) with
 | none =>
  have h:=List.findIdx?_eq_none_iff.1 hf
  rw [ofL_miss (fun j hj=>h _ (List.getElem_mem hj))]
  split <;> omega
 | some j =>
  obtain ⟨hj,_,_⟩:=List.findIdx?_eq_some_iff_getElem.1 hf
  unfold ofL
  rw [hf]
  dsimp only
  omega
end Go.Proofs.YtojoahlpgmnbnaaGreatDoor.Q
namespace Go.Proofs.YtojoahlpgmnbnaaGreatDoor.Q
open Go.RowKit
open Go.Lib hiding intOf
open U S L
set_option maxHeartbeats 8000000 in
set_option maxRecDepth 20000 in
theorem refOf_any (B:Nat) (l:List PcP) (v:Value) (x:Int) (w:World) (h:PcsIn B w l v) (hl:l.length≤1000000) :
  Calls Tryz.prog 32 #[v,.int .i64 x] w fun e w'=>e=.returned (.int .i64 (ofL l x))∧Below w.heap.size w w':=by
 obtain ⟨a,cap,rfl,_,hc⟩:=h
 obtain ⟨n,hn⟩:∃ n,l.length=n:=⟨_,rfl⟩
 have HN:=hid hn
 have HC:=hid hc
 obtain ⟨R,hR⟩:∃ R,ofL l x=R:=⟨_,rfl⟩
 have HR:=hid hR
 rw [hR,hn]
 rw [hn] at hl
 clear hc hn hR
 go_enter Tryz.func32,Tryz.ntmps32
 go_wp2_with fail
 go_loopw [5] (fun iv wr=>∃ i:Nat,iv=.int .i64 i∧i≤n∧Hid (∀ j (hj:j<l.length),j<i→inP x l[j]=false)∧Hid (Below w.heap.size w wr)) (fun iv _=>n - (intOf iv).toNat)
 case atStart=>exact ⟨0,rfl,Nat.zero_le _,hid (fun _ _ h=>absurd h (by omega)),hid (Below.refl _ _)⟩
 case round =>
  obtain ⟨i,rfl,hi,HA,HL⟩:=hrel
  by_cases hlt:i<n
  ·have hil:i<l.length:=by rw [HN.out];exact hlt
   obtain ⟨g,off,rfl,_,hgw,hat⟩:=HC.out.resolve_left (fun h=>by rw [h] at hil;exact Nat.not_lt_zero _ hil)
   obtain ⟨p0,p1,p2,p3⟩:=pc_at i (fun j u hj=>(HL.out.cell (p:=⟨g,off+j,none⟩) hgw).trans (hat j u hj)) hil
   have hhit:=fun h=>(ofL_hit (x:=x) hil h HA.out).symm.trans HR.out
   have hon:=inP_on HA.out hil
   obtain ⟨p,hp⟩:∃ p,l[i]=p:=⟨_,rfl⟩
   rw [hp] at p0 p1 p2 p3 hhit hon
   obtain ⟨f,e,pd,pj⟩:=p
   dsimp only at p0 p1 p2 p3
   have HH:Hid ((f:Int)≤x→x<(e:Int)→(i:Int)=R):=hid (fun h1 h2=>hhit (by simp [inP,h1,h2]))
   have HO:Hid (¬ ((f:Int)≤x∧x<(e:Int))→∀ j (hj:j<l.length),j<i+1→inP x l[j]=false):=hid (fun h1=>hon (by
    unfold inP
    cases h2:decide ((f:Int)≤x)
    ·rfl
    ·have h3:(f:Int)≤x:=by simpa using h2
     simp only [Bool.true_and,decide_eq_false_iff_not]
     exact fun h4=>h1 ⟨h3,h4⟩))
   clear hat hhit hon hp
   have HL2:=HL
   by_cases h1:(f:Int)≤x
   ·by_cases h2:x<(e:Int)
    ·have HE:=hid (HH.out h1 h2)
     go_wp2_with fail
     go_ret
     exact ⟨by rw [HE.out];rfl,HL2.out⟩
    ·have HN2:=hid (HO.out (fun h=>h2 h.2))
     go_wp2_with fail
     go_roundw
     case rel=>exact ⟨i+1,by go_num,by omega,HN2,HL2⟩
     case measure=>simp [intOf];omega
   ·have HN2:=hid (HO.out (fun h=>h1 h.1))
    go_wp2_with fail
    go_roundw
    case rel=>exact ⟨i+1,by go_num,by omega,HN2,HL2⟩
    case measure=>simp [intOf];omega
  ·obtain rfl:i=n:=by omega
   by_cases h0:i=0
   ·subst h0
    have HE:Hid (R=-1):=hid (by
     have h1:l=[]:=List.length_eq_zero_iff.1 HN.out
     have h2:=HR.out
     rw [h1,ofL_nil] at h2
     exact h2.symm)
    go_wp2_with fail
    go_ret
    exact ⟨by rw [HE.out];rfl,HL.out⟩
   ·obtain ⟨k,rfl⟩:∃ k,i=k+1:=⟨i - 1,by omega⟩
    have hkl:k<l.length:=by rw [HN.out];omega
    obtain ⟨g,off,rfl,_,hgw,hat⟩:=HC.out.resolve_left (fun h=>by rw [h] at hkl;exact Nat.not_lt_zero _ hkl)
    obtain ⟨_,p1,_,_⟩:=pc_at k (fun j u hj=>(HL.out.cell (p:=⟨g,off+j,none⟩) hgw).trans (hat j u hj)) hkl
    have hend:=(ofL_end (x:=x) (fun j hj _=>HA.out j hj (by rw [← HN.out];exact hj)) HN.out).symm.trans HR.out
    obtain ⟨e,he⟩:∃ e,(l[k]).e=e:=⟨_,rfl⟩
    rw [he] at p1 hend
    obtain ⟨m,hm⟩:∃ m,k+1=m:=⟨_,rfl⟩
    have hkm:(k:Int)<(m:Int):=by omega
    have hk0:(0:Int)≤(k:Int):=by omega
    have hm0:0<m:=by omega
    have hi1:IntKind.i64.wrap ((m:Int) - 1)=(k:Int):=(IntWalk.i64_in _ (by omega)).trans (by omega)
    have HE:=hid hend
    rw [hm]
    clear hat hend he h0 hlt hi hm
    by_cases hx:(e:Int)=x
    ·have HF:Hid (R=(k:Int)):=hid (by rw [← HE.out,if_pos hx])
     have hx':(x==(e:Int))=true:=by simpa using hx.symm
     clear hx
     go_wp2_with fail
     go_ret
     exact ⟨by rw [HF.out];rfl,HL.out⟩
    ·have HF:Hid (R=-1):=hid (by rw [← HE.out,if_neg hx])
     have hx':(x==(e:Int))=false:=by simpa using fun h:x=(e:Int)=>hx h.symm
     clear hx
     go_wp2_with fail
     go_ret
     exact ⟨by rw [HF.out];rfl,HL.out⟩
end Go.Proofs.YtojoahlpgmnbnaaGreatDoor.Q
namespace Go.Proofs.YtojoahlpgmnbnaaGreatDoor.Q
open Go.RowKit
open Go.Lib hiding intOf
open U S L
set_option maxHeartbeats 8000000 in
set_option maxRecDepth 20000 in
theorem refTouched_any (B:Nat) (l:List PcP) (v:Value) (x y:Int) (w:World) (h:PcsIn B w l v) (hl:l.length≤1000000) :
  Calls Tryz.prog 22 #[v,.int .i64 x,.int .i64 y] w fun e w'=>e=.returned (.tuple #[.int .i64 (touchR l x y).1,.int .i64 (touchR l x y).2])∧Below w.heap.size w w':=by
 have c1:=refOf_any B l v x w h hl
 have c2:=fun X (hX:Below w.heap.size w X)=>refOf_any B l v y X (h.later hX) hl
 have bx:=ofL_bnd l x
 have bY:=ofL_bnd l y
 obtain ⟨T,hT2⟩:∃ T,touchR l x y=T:=⟨_,rfl⟩
 have hT:T=if l=[]∨x<0∨y<x∨(∃ e,l.getLast?.map (fun p=>(p.e:Int))=some e∧e<y) then (0,0) else (max (ofL l x - 1) 0,ofL l y+1):=hT2.symm
 rw [hT2]
 obtain ⟨p,hp⟩:∃ p,ofL l x=p:=⟨_,rfl⟩
 obtain ⟨q,hq⟩:∃ p,ofL l y=p:=⟨_,rfl⟩
 rw [hp] at c1 hT bx
 simp only [hq] at c2 hT bY
 have HT:=hid hT
 have HC2:=hid c2
 have ep:IntKind.i64.wrap (p - 1)=p - 1:=IntWalk.i64_in _ (by omega)
 have eq:IntKind.i64.wrap (q+1)=q+1:=IntWalk.i64_in _ (by omega)
 obtain ⟨a,cap,rfl,_,hc⟩:=h
 clear c2 hT hT2 hp hq
 by_cases h0:l.length=0
 ·have hl0:l=[]:=List.length_eq_zero_iff.1 h0
  have HE:Hid (T=(0,0)):=hid (by rw [HT.out,if_pos (.inl hl0)])
  rw [h0]
  clear hc hl bx bY c1 HC2 h0 hl0
  go_enter Tryz.func22,Tryz.ntmps22
  go_wp2_with fail
  go_ret2
  exact ⟨by rw [HE.out];rfl,Below.refl _ _⟩
 ·obtain ⟨k,hk⟩:∃ k,l.length=k+1:=⟨l.length - 1,by omega⟩
  have hkl:k<l.length:=by omega
  obtain ⟨g,off,rfl,_,hgw,hat⟩:=hc.resolve_left (fun h=>h0 (by rw [h];rfl))
  obtain ⟨_,p1,_,_⟩:=pc_at k hat hkl
  have hlast:l.getLast?.map (fun p=>(p.e:Int))=some (((l[k]).e:Nat):Int):=by
   rw [List.getLast?_eq_getElem?,show l.length - 1=k by omega,List.getElem?_eq_getElem hkl];rfl
  obtain ⟨e,he⟩:∃ e,(l[k]).e=e:=⟨_,rfl⟩
  rw [he] at p1 hlast
  obtain ⟨m,hm⟩:∃ m,l.length=m:=⟨_,rfl⟩
  have hkm:(k:Int)<(m:Int):=by omega
  have hk0:(0:Int)≤(k:Int):=by omega
  have hm0:0<m:=by omega
  have hm1:¬ ((m:Int)=0):=by omega
  have hi1:IntKind.i64.wrap ((m:Int) - 1)=(k:Int):=(IntWalk.i64_in _ (by omega)).trans (by omega)
  have hne:¬ l=[]:=fun h=>h0 (by rw [h];rfl)
  have HT2:Hid (T=if x<0∨y<x∨(e:Int)<y then (0,0) else (max (p - 1) 0,q+1)):=hid (by
   rw [HT.out,hlast]
   congr 1
   refine propext ⟨?_,?_⟩
   ·rintro (h|h|h|⟨e',h,h2⟩)
    ·exact absurd h hne
    ·exact .inl h
    ·exact .inr (.inl h)
    ·cases h;exact .inr (.inr h2)
   ·rintro (h|h|h)
    ·exact .inr (.inl h)
    ·exact .inr (.inr (.inl h))
    ·exact .inr (.inr (.inr ⟨_,rfl,h⟩)))
  rw [hm] at c1 HC2 hl ⊢
  clear hat hc he hlast h0 hne hm hk HT
  by_cases hx0:x<0
  ·have HE:Hid (T=(0,0)):=hid (by rw [HT2.out,if_pos (.inl hx0)])
   go_enter Tryz.func22,Tryz.ntmps22
   go_wp2_with fail
   go_ret2
   exact ⟨by rw [HE.out];rfl,Below.refl _ _⟩
  ·by_cases hyx:y<x
   ·have HE:Hid (T=(0,0)):=hid (by rw [HT2.out,if_pos (.inr (.inl hyx))])
    go_enter Tryz.func22,Tryz.ntmps22
    go_wp2_with fail
    go_ret2
    exact ⟨by rw [HE.out];rfl,Below.refl _ _⟩
   ·by_cases hey:(e:Int)<y
    ·have HE:Hid (T=(0,0)):=hid (by rw [HT2.out,if_pos (.inr (.inr hey))])
     go_enter Tryz.func22,Tryz.ntmps22
     go_wp2_with fail
     go_ret2
     exact ⟨by rw [HE.out];rfl,Below.refl _ _⟩
    ·have HE:Hid (T=(max (p - 1) 0,q+1)):=hid (by rw [HT2.out,if_neg (by omega)])
     go_enter Tryz.func22,Tryz.ntmps22
     go_wp2_with fail
     refine c1.mono ?_
     rintro e w1 ⟨rfl,hb1⟩
     have HB1:=hid hb1
     have c2:=HC2.out w1 hb1
     clear c1 hb1
     go_wp2_with fail
     refine c2.mono ?_
     rintro e w2 ⟨rfl,hb2⟩
     have HB2:=hid (HB1.out.trans (hb2.mono HB1.out.size))
     clear c2 hb2
     go_wp2_with fail
     go_ret2
     exact ⟨by rw [HE.out];first|rfl|(simp;omega),HB2.out⟩
end Go.Proofs.YtojoahlpgmnbnaaGreatDoor.Q
namespace Go.Proofs.YtojoahlpgmnbnaaGreatDoor.Ud
open Go.RowKit
open Go.Lib hiding intOf
open U S Q T J
open Go.Proofs.YtojoahlpgmnbnaaGreatDoor.K (MTab)
theorem ins_list (s t:ByteArray) (p:Nat) (hp:p≤s.size):(s.extract 0 p++t++s.extract p s.size).toList=s.toList.take p++t.toList++s.toList.drop p:=by
 have hl:s.data.toList.length=s.size:=by simp
 simp only [ByteArray.toList_eq,ByteArray.data_append,ByteArray.data_extract,Array.toList_append,Array.toList_extract,List.extract_eq_take_drop,List.drop_zero,Nat.sub_zero]
 rw [List.take_of_length_le (l:=s.data.toList.drop p) (by rw [List.length_drop,hl];omega)]
theorem ins_size (s t:ByteArray) (p:Nat) (hp:p≤s.size):(s.extract 0 p++t++s.extract p s.size).size=s.size+t.size:=by
 rw [ByteArray.size_append,ByteArray.size_append,ByteArray.size_extract,ByteArray.size_extract]
 omega
set_option maxHeartbeats 4000000 in
set_option maxRecDepth 20000 in
theorem unitSame_off (s t:ByteArray) (x:Int) (w:World) (hT:Tabs w) (hG:MTab w) (h:400<s.size∨9<t.size∨x<0∨(s.size:Int)<x):Calls Tryz.prog 5 #[.string s,.int .i64 x,.string t] w fun e w'=>e=.returned (.bool true)∧Below w.heap.size w w':=by
 have cA:=alive_any w hT hG
 obtain ⟨z,hz⟩:∃ z,s.size=z:=⟨_,rfl⟩
 obtain ⟨y,hy⟩:∃ z,t.size=z:=⟨_,rfl⟩
 rw [hz,hy] at h
 have HH:=hid h
 clear hT hG h
 by_cases h1:400<z
 ·go_enter Tryz.func5,Tryz.ntmps5
  go_wp2_with fail
  refine cA.mono ?_
  rintro e w1 ⟨rfl,hb1⟩
  have HB:=hid hb1
  clear cA hb1
  go_wp2_with fail
  go_ret
  exact ⟨rfl,HB.out⟩
 by_cases h2:9<y
 ·go_enter Tryz.func5,Tryz.ntmps5
  go_wp2_with fail
  refine cA.mono ?_
  rintro e w1 ⟨rfl,hb1⟩
  have HB:=hid hb1
  clear cA hb1
  go_wp2_with fail
  go_ret
  exact ⟨rfl,HB.out⟩
 by_cases h3:x<0
 ·go_enter Tryz.func5,Tryz.ntmps5
  go_wp2_with fail
  refine cA.mono ?_
  rintro e w1 ⟨rfl,hb1⟩
  have HB:=hid hb1
  clear cA hb1
  go_wp2_with fail
  go_ret
  exact ⟨rfl,HB.out⟩
 ·have h4:(z:Int)<x:=by have:=HH.out;omega
  go_enter Tryz.func5,Tryz.ntmps5
  go_wp2_with fail
  refine cA.mono ?_
  rintro e w1 ⟨rfl,hb1⟩
  have HB:=hid hb1
  clear cA hb1
  go_wp2_with fail
  go_ret
  exact ⟨rfl,HB.out⟩
set_option maxHeartbeats 16000000 in
set_option maxRecDepth 20000 in
theorem unitSame_law (s t:ByteArray) (x:Int) (w:World) (hT:Tabs w) (hG:MTab w):Calls Tryz.prog 5 #[.string s,.int .i64 x,.string t] w fun e w'=>e=.returned (.bool true)∧Below w.heap.size w w':=by
 by_cases hoff:400<s.size∨9<t.size∨x<0∨(s.size:Int)<x
 ·exact unitSame_off s t x w hT hG hoff
 obtain ⟨p,rfl⟩:∃ p:Nat,x=p:=⟨x.toNat,by omega⟩
 have HT:=hid hT
 have HG:=hid hG
 have hs6:s.size≤600:=by omega
 have c1:=new_any s w hs6 hT hG
 have hps:p≤s.size:=by omega
 have hts:t.size≤9:=by omega
 have hss:s.size≤400:=by omega
 have hil:=ins_list s t p hps
 have his:=ins_size s t p hps
 obtain ⟨s',hs'⟩:∃ s',s.extract 0 p++t++s.extract p s.size=s':=⟨_,rfl⟩
 rw [hs'] at hil his
 have hpl:p≤s.toList.length:=by rw [tl_len];exact hps
 have HE:=hid (kept_edit s s' t.toList p hpl hil)
 have HS6:=hid hs6
 have HS6':=hid (show s'.size≤600 by omega)
 have hpp:=pieces_len s.toList
 rw [tl_len] at hpp
 have HPP:=hid (show (pieces s.toList).length≤1000000 by omega)
 have HFOL:=hid (fol_pieces s.toList).1
 obtain ⟨z,hz⟩:∃ z,s.size=z:=⟨_,rfl⟩
 obtain ⟨y,hy⟩:∃ z,t.size=z:=⟨_,rfl⟩
 have HZ:=hid (And.intro hz hy)
 obtain ⟨n,hn⟩:∃ n,(decls s).length=n:=⟨_,rfl⟩
 have hn6:n≤601:=by have:=decls_bound s;omega
 have hkall:=kept_all (txs (decls s))
 rw [txs_len,hn] at hkall
 have HKA:=hid hkall
 have HN:=hid hn
 have hs1:(s.extract 0 p++t)++s.extract p s.size=s':=hs'
 have HS1:=hid hs1
 rw [hz] at hps hss
 rw [hy] at hts
 clear hT hG hoff hil his hpl hs6 hpp hkall hn hs' hs1
 go_enter Tryz.func5,Tryz.ntmps5
 go_wp2_with fail
 refine c1.mono ?_
 rintro e w1 ⟨d,rfl,hU1,hb1⟩
 have c2:=decls_any s w1 _ d 0 HS6.out hU1
 have HU1:=hid hU1
 have HB1:=hid hb1
 unfold ptrU at c2
 unfold ptrU
 clear c1 hU1 hb1
 go_wp2_with fail
 refine c2.mono ?_
 rintro e w2 ⟨v2,rfl,hD2,hb2⟩
 obtain ⟨a2,c2',rfl⟩:=dcs_form hD2.dcs
 rw [HN.out]
 have HU2:=hid (HU1.out.later hb2)
 have HB2:=hid (HB1.out.trans (hb2.mono HB1.out.size))
 have c3:=again_any s s w2 _ d 0 HS6.out HS6.out (HT.out.later HB2.out) (HG.out.later HB2.out) HU2.out
 rw [HKA.out] at c3
 unfold ptrU at c3
 clear c2 hD2 hb2 HU1
 go_wp2_with fail
 refine c3.mono ?_
 rintro e w3 ⟨d',rfl,hU3,hb3⟩
 have HV3:=hid hU3
 have HU3:=hid (HU2.out.later hb3)
 have HB3:=hid (HB2.out.trans (hb3.mono HB2.out.size))
 have k1:=kept_any s w3 _ d' n HV3.out
 have d1:=two_decls s w3 _ _ d d' _ _ HS6.out HU3.out HV3.out
 unfold ptrU at k1 d1
 have hnn:((n:Int) != (n:Int))=false:=by simp
 clear c3 hU3 hb3 HU2
 go_wp2_with fail
 refine k1.mono ?_
 rintro e w' ⟨rfl,rfl⟩
 clear k1
 go_wp2_with fail
 refine d1.mono ?_
 rintro e w5 ⟨v5,rfl,hb5,d2⟩
 clear d1
 go_wp2_with fail
 refine d2.mono ?_
 rintro e w6 ⟨v6,rfl,hb6,d3⟩
 clear d2 hb5
 go_wp2_with fail
 refine d3.mono ?_
 rintro e w7 ⟨rfl,hb7⟩
 have HU7:=hid (HU3.out.later hb7)
 have HB7:=hid (HB3.out.trans (hb7.mono HB3.out.size))
 clear d3 hb6 hb7 HU3 HV3 hnn
 go_wp2_with fail
 go_loopw [10] (fun iv wr=>∃ i:Nat,iv=.int .i64 i∧i≤y∧wr=w7) (fun iv _=>y - (Go.RowKit.intOf iv).toNat)
 case atStart=>exact ⟨0,rfl,Nat.zero_le _,rfl⟩
 case round =>
  obtain ⟨i,rfl,hi,rfl⟩:=hrel
  by_cases hlt:i<y
  ·have hit:i<t.size:=by rw [hy];exact hlt
   by_cases h10:t[i].toNat=10
   ·have cA:=alive_any wr (HT.out.later HB7.out) (HG.out.later HB7.out)
    have h10b:((t[i].toNat:Int)==10)=true:=by rw [h10];rfl
    go_wp2_with fail
    refine cA.mono ?_
    rintro e w8 ⟨rfl,hb8⟩
    have HB8:=hid (HB7.out.trans (hb8.mono HB7.out.size))
    clear cA hb8
    go_wp2_with fail
    go_ret
    exact ⟨rfl,HB8.out⟩
   ·have h10b:((t[i].toNat:Int)==10)=false:=by simp;omega
    go_wp2_with fail
    go_roundw
    case rel=>exact ⟨i+1,by go_num,by omega,trivial⟩
    case measure=>simp [Go.RowKit.intOf];omega
  ·obtain rfl:i=y:=by omega
   go_upto_region 13 with fail
   have c5:=fun X (hX:Below wr.heap.size wr X)=>again_any s' s X _ d 0 HS6'.out HS6.out (HT.out.later (HB7.out.trans (hX.mono HB7.out.size))) (HG.out.later (HB7.out.trans (hX.mono HB7.out.size))) (HU7.out.later hX)
   unfold ptrU at c5
   have HC5:=hid c5
   have hp0:(0:Int)≤(p:Int):=by omega
   have hp1:(p:Int)≤(z:Int):=by omega
   have hb63:p+i≤9223372036854775807:=by omega
   have hb64:p+i+(z - p)≤9223372036854775807:=by omega
   refine wp_region_held_drew (S:=fun X=>Below wr.heap.size wr X) (by kernel_rfl) (Below.refl wr.heap.size wr).drew (fun hHeld=>?_)
   obtain ⟨V,hV⟩:∃ V,wr.drew=V:=⟨_,rfl⟩
   rw [hV] at hHeld ⊢
   clear hV c5
   have HV:=hid hHeld
   refine wpAnyH_take (i:=0) (oi:=({ dst:=some 65,op:=Op.move (Operand.tmp 7),type:=23,pos := "law.go:97",after:=#[],guard:=none }:Oper)) (v:=.pointer (some ⟨d,0,none⟩)) rfl (by kernel_rfl) (by kernel_rfl) (by kernel_rfl) (fun _ _ _ h=>h) (Or.inl ⟨by rfl,fun X hX=>rfl⟩) hHeld ?_
   (try simp only [Act.put,List.setIfInBounds_toArray,List.set_cons_zero,List.set_cons_succ])
   refine wpAnyH_take (i:=1) (oi:=({ dst:=some 66,op:=Op.move (Operand.tmp 0),type:=9,pos := "law.go:97",after:=#[],guard:=none }:Oper)) (v:=.string s) rfl (by kernel_rfl) (by kernel_rfl) (by kernel_rfl) (fun _ _ _ h=>h) (Or.inl ⟨by rfl,fun X hX=>rfl⟩) hHeld ?_
   (try simp only [Act.put,List.setIfInBounds_toArray,List.set_cons_zero,List.set_cons_succ])
   refine wpAnyH_take (i:=2) (oi:=({ dst:=some 67,op:=Op.move (Operand.tmp 1),type:=3,pos := "law.go:97",after:=#[],guard:=none }:Oper)) (v:=.int .i64 p) rfl (by kernel_rfl) (by kernel_rfl) (by kernel_rfl) (fun _ _ _ h=>h) (Or.inl ⟨by rfl,fun X hX=>rfl⟩) hHeld ?_
   (try simp only [Act.put,List.setIfInBounds_toArray,List.set_cons_zero,List.set_cons_succ])
   refine wpAnyH_take (i:=3) (oi:=({ dst:=some 68,op:=Op.slice 9 (Operand.tmp 66) none (some (Operand.tmp 67)) none,type:=9,pos := "law.go:97",after:=#[{ on:=1,ground:=Ground.data },{ on:=2,ground:=Ground.data }],guard:=none }:Oper)) (v:=.string (s.extract 0 p)) rfl (by kernel_rfl) (by kernel_rfl) (by kernel_rfl) (fun _ _ _ h=>h) (Or.inl ⟨by rfl,fun X hX=>by go_simp⟩) hHeld ?_
   (try simp only [Act.put,List.setIfInBounds_toArray,List.set_cons_zero,List.set_cons_succ])
   refine wpAnyH_take (i:=4) (oi:=({ dst:=some 69,op:=Op.move (Operand.tmp 2),type:=9,pos := "law.go:97",after:=#[],guard:=none }:Oper)) (v:=.string t) rfl (by kernel_rfl) (by kernel_rfl) (by kernel_rfl) (fun _ _ _ h=>h) (Or.inl ⟨by rfl,fun X hX=>rfl⟩) hHeld ?_
   (try simp only [Act.put,List.setIfInBounds_toArray,List.set_cons_zero,List.set_cons_succ])
   refine wpAnyH_take (i:=5) (oi:=({ dst:=some 70,op:=Op.binOp BinOp.add 9 (Operand.tmp 68) (Operand.tmp 69) 9,type:=9,pos := "law.go:97",after:=#[{ on:=3,ground:=Ground.data },{ on:=4,ground:=Ground.data }],guard:=none }:Oper)) (v:=.string (s.extract 0 p++t)) rfl (by kernel_rfl) (by kernel_rfl) (by kernel_rfl) (fun _ _ _ h=>h) (Or.inl ⟨by rfl,fun X hX=>by go_simp⟩) hHeld ?_
   (try simp only [Act.put,List.setIfInBounds_toArray,List.set_cons_zero,List.set_cons_succ])
   refine wpAnyH_take (i:=6) (oi:=({ dst:=some 71,op:=Op.move (Operand.tmp 0),type:=9,pos := "law.go:97",after:=#[],guard:=none }:Oper)) (v:=.string s) rfl (by kernel_rfl) (by kernel_rfl) (by kernel_rfl) (fun _ _ _ h=>h) (Or.inl ⟨by rfl,fun X hX=>rfl⟩) hHeld ?_
   (try simp only [Act.put,List.setIfInBounds_toArray,List.set_cons_zero,List.set_cons_succ])
   refine wpAnyH_take (i:=7) (oi:=({ dst:=some 72,op:=Op.move (Operand.tmp 1),type:=3,pos := "law.go:97",after:=#[],guard:=none }:Oper)) (v:=.int .i64 p) rfl (by kernel_rfl) (by kernel_rfl) (by kernel_rfl) (fun _ _ _ h=>h) (Or.inl ⟨by rfl,fun X hX=>rfl⟩) hHeld ?_
   (try simp only [Act.put,List.setIfInBounds_toArray,List.set_cons_zero,List.set_cons_succ])
   refine wpAnyH_take (i:=8) (oi:=({ dst:=some 73,op:=Op.slice 9 (Operand.tmp 71) (some (Operand.tmp 72)) none none,type:=9,pos := "law.go:97",after:=#[{ on:=6,ground:=Ground.data },{ on:=7,ground:=Ground.data }],guard:=none }:Oper)) (v:=.string (s.extract p z)) rfl (by kernel_rfl) (by kernel_rfl) (by kernel_rfl) (fun _ _ _ h=>h) (Or.inl ⟨by rfl,fun X hX=>by go_simp⟩) hHeld ?_
   (try simp only [Act.put,List.setIfInBounds_toArray,List.set_cons_zero,List.set_cons_succ])
   refine wpAnyH_take (i:=9) (oi:=({ dst:=some 74,op:=Op.binOp BinOp.add 9 (Operand.tmp 70) (Operand.tmp 73) 9,type:=9,pos := "law.go:97",after:=#[{ on:=5,ground:=Ground.data },{ on:=8,ground:=Ground.data }],guard:=none }:Oper)) (v:=.string s') rfl (by kernel_rfl) (by kernel_rfl) (by kernel_rfl) (fun _ _ _ h=>h) (Or.inl ⟨by rfl,fun X hX=>by have h:=HS1.out;rw [hz] at h;go_simp⟩) hHeld ?_
   (try simp only [Act.put,List.setIfInBounds_toArray,List.set_cons_zero,List.set_cons_succ])
   refine wpAnyH_ready (rs:=[10]) (by kernel_rfl) (by simp) ?_
   refine (AllReadyH.cons (o:=({ dst:=some 75,op:=Op.call { callee:=Callee.value (Operand.func 9),args:=#[Operand.tmp 65,Operand.tmp 74],argTypes:=#[23,9] },type:=23,pos := "law.go:97",after:=#[{ on:=0,ground:=Ground.data },{ on:=9,ground:=Ground.data }],guard:=none }:Oper)) rfl (fun K hK=>?_) AllReadyH.nil)
   refine J.wanted_step (by kernel_rfl) ?_
   go_simp
   go_at_call 9
   refine (HC5.out V HV.out).mono ?_
   rintro e w9 ⟨d9,rfl,hU9,hb9⟩
   have hB9:=HV.out.trans (hb9.mono HV.out.size)
   dsimp only
   refine hK.out _ _ hB9 (fun hHeld=>?_)
   (try simp only [Act.put,List.setIfInBounds_toArray,List.set_cons_zero,List.set_cons_succ])
   clear hK K
   refine wpAnyH_take (i:=11) (oi:=({ dst:=some 11,op:=Op.assign (Operand.tmp 75),type:=23,pos := "law.go:97",after:=#[{ on:=10,ground:=Ground.data },{ on:=10,ground:=Ground.chain },{ on:=0,ground:=Ground.phase },{ on:=1,ground:=Ground.phase },{ on:=2,ground:=Ground.phase },{ on:=3,ground:=Ground.phase },{ on:=4,ground:=Ground.phase },{ on:=5,ground:=Ground.phase },{ on:=6,ground:=Ground.phase },{ on:=7,ground:=Ground.phase },{ on:=8,ground:=Ground.phase },{ on:=9,ground:=Ground.phase },{ on:=10,ground:=Ground.phase }],guard:=none }:Oper)) (v:=.pointer (some ⟨d9,0,none⟩)) rfl (by kernel_rfl) (by kernel_rfl) (by kernel_rfl) (fun _ _ _ h=>h) (Or.inl ⟨by rfl,fun X hX=>rfl⟩) hHeld ?_
   (try simp only [Act.put,List.setIfInBounds_toArray,List.set_cons_zero,List.set_cons_succ])
   refine wpAnyH_done (by kernel_rfl) ?_ _
   obtain ⟨a,b,hab,hlt2,hle2,hkk⟩:=HE.out
   rw [touch_same HFOL.out] at hab
   obtain ⟨K,hK⟩:∃ K,keptN (txs (decls s')) (txs (decls s))=K:=⟨_,rfl⟩
   rw [hK] at hU9 hkk
   rw [HN.out] at hkk
   have HU9:=hid hU9
   have HB9:=hid (HB7.out.trans (hB9.mono HB7.out.size))
   have c6:=refPieces_any s w9 (by have:=HS6.out;omega)
   have hpn:(pieces s.toList).length≤601:=by have h1:=pieces_len s.toList;rw [tl_len] at h1;have:=HZ.out;omega
   have hbn:b≤602:=by
    have h:=congrArg Prod.snd hab
    have hof:=ofL_bnd (pieces s.toList) (p:Int)
    unfold touchR at h
    split at h
    ·simp at h;omega
    ·simp only at h;omega
   have HAB:=hid hab
   clear hHeld HC5 HV hb9 hU9 hB9 hab hK HU7 hpn
   go_wp2_with fail
   refine c6.mono ?_
   rintro e wa ⟨va,rfl,hPa,hba⟩
   have c7:=refTouched_any _ (pieces s.toList) va p p wa hPa HPP.out
   rw [HAB.out] at c7
   have HUa:=hid (HU9.out.later hba)
   have HBa:=hid (HB9.out.trans (hba.mono HB9.out.size))
   clear c6 hPa hba HU9
   go_wp2_with fail
   refine c7.mono ?_
   rintro e wb ⟨rfl,hbb⟩
   have HUb:=hid (HUa.out.later hbb)
   have HBb:=hid (HBa.out.trans (hbb.mono HBa.out.size))
   have cA:=alive_any wb (HT.out.later HBb.out) (HG.out.later HBb.out)
   clear c7 hbb HUa
   go_wp2_with fail
   refine cA.mono ?_
   rintro e wc ⟨rfl,hbc⟩
   have HBc:=hid (HBb.out.trans (hbc.mono HBb.out.size))
   have k2:=kept_any s' wc _ d9 K (HUb.out.later hbc)
   unfold ptrU at k2
   obtain ⟨dl,hdl⟩:∃ m,b - a=m:=⟨_,rfl⟩
   have hdli:((b:Int) - (a:Int))=(dl:Int):=by omega
   have hdl3:(dl:Int)≤3:=by omega
   have hdl4:decide ((dl:Int)≤3)=true:=decide_eq_true hdl3
   have hge:((n:Int) - (dl:Int))≤(K:Int):=by omega
   clear cA hbc HUb hkk hdl hlt2 hle2
   go_wp2_with fail
   refine k2.mono ?_
   rintro e w' ⟨rfl,rfl⟩
   clear k2
   go_wp2_with fail
   go_ret
   exact ⟨rfl,HBc.out⟩
end Go.Proofs.YtojoahlpgmnbnaaGreatDoor.Ud
