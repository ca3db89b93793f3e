/- What the claim needs of the texts VSame, VFacts, VBack6. -/
import Derived.Test.YtpbnhnilfpoljaaGreatDoorRB8
import Derived.Lib.ItoaLen
import Derived.Test.YtpbnhnilfpoljaaGreatDoorRB3
import Derived.Lib.AtoiTie
namespace Go.Proofs.YtpbnhnilfpoljaaGreatDoor.V
open Go.RowKit
open Go.Lib
theorem bytes_inj {a b:List UInt8}:((⟨a.toArray⟩:ByteArray)=⟨b.toArray⟩) ↔ a=b:=by
 constructor
 ·intro h
  have h1:=congrArg (fun x:ByteArray=>x.data.toList) h
  simpa using h1
 ·intro h;rw [h]
theorem keys_map_inj {a b:List (List UInt8)} (h:a.map (fun k=>(⟨k.toArray⟩:ByteArray))=b.map (fun k=>(⟨k.toArray⟩:ByteArray))):a=b:=by
 have h1:=congrArg (List.map fun x:ByteArray=>x.data.toList) h
 simpa [List.map_map,Function.comp_def] using h1
theorem keys_equal {W:World} {R R':Nat→Prop} {ks ks':List (List UInt8)} {kv kv':Value} (h:KeysIn W R ks kv) (h':KeysIn W R' ks' kv') (hb:ks.length≤1099511627776) (hb':ks'.length≤1099511627776) :
  Calls Tryz.prog 87 #[kv,kv'] W fun e w'=>e=.returned (.bool (decide (ks=ks')))∧Below W.heap.size W w':=by
 obtain ⟨a,c,rfl,h1⟩:=h
 obtain ⟨a',c',rfl,h1'⟩:=h'
 by_cases hl:ks.length=ks'.length
 ·by_cases h0:ks=[]
  ·subst h0
   obtain rfl:ks'=[]:=List.eq_nil_of_length_eq_zero (by simpa using hl.symm)
   exact (Tryz.slices_Equal_string_empty a a' c 0 c' W (by omega)).mono fun e w' ⟨h1,h2⟩=>⟨by simpa using h1,by rw [h2];exact Below.refl _ _⟩
  ·have h0':ks'≠[]:=by intro h;rw [h] at hl;exact h0 (List.eq_nil_of_length_eq_zero hl)
   obtain ⟨g,o,rfl,_,hc⟩:=h1.resolve_left h0
   obtain ⟨g',o',rfl,_,hc'⟩:=h1'.resolve_left h0'
   refine (Tryz.slices_Equal_string g o ks.length c g' o' ks'.length c' (ks.map fun k=>⟨k.toArray⟩) (ks'.map fun k=>⟨k.toArray⟩) W (by simp) (by simp) (by omega) (by omega) ?_ ?_).mono ?_
   ·intro j hj
    exact hc j _ (by simp at hj;simp [hj,strCell])
   ·intro j hj
    exact hc' j _ (by simp at hj;simp [hj,strCell])
   ·rintro e w' ⟨rfl,q,rfl⟩
    refine ⟨?_,⟨rfl,rfl,rfl,Nat.le_refl _,fun _ _=>rfl⟩⟩
    rw [List.take_of_length_le (by simp),List.take_of_length_le (by simp)]
    congr 2
    rw [decide_eq_decide]
    exact ⟨fun h=>keys_map_inj h,fun h=>by rw [h]⟩
 ·refine (Tryz.slices_Equal_string_lens a a' ks.length c ks'.length c' W hl).mono fun e w' ⟨h1,h2⟩=>⟨?_,by rw [h2];exact Below.refl _ _⟩
  rw [h1]
  congr 2
  exact (decide_eq_false (fun h=>hl (by rw [h]))).symm
theorem two (w:World) (o1 o2:Obj):((w.alloc o1).alloc o2).heap[w.heap.size]?=some o1∧((w.alloc o1).alloc o2).heap[w.heap.size+1]?=some o2∧Below w.heap.size w ((w.alloc o1).alloc o2)∧((w.alloc o1).alloc o2).heap.size=w.heap.size+2:=by
 have s1:(w.alloc o1).heap.size=w.heap.size+1:=by simp
 refine ⟨?_,?_,((Below.refl _ _).alloc (Nat.le_refl _) _).alloc (by omega) _,by simp⟩
 ·rw [Below.heap_alloc _ _ _ (by omega)];exact heap_alloc_new w o1
 ·rw [← s1];exact heap_alloc_new _ o2
theorem parts_of {W:World} {R:Nat→Prop} {so n:Int} {on:Bool} {t:List UInt8} {l:List Val} {ks:List (List UInt8)} {a:Option Addr} {c:Nat} {kv:Value} (h:ValIn W R (.mk so on n t l ks) (.slice a l.length c) kv) :
  l=[]∨∃ g off xs,a=some ⟨g,off,none⟩∧R g∧CellsAt W g off xs∧ListIn W R l xs:=by
 obtain ⟨⟨a',c',h1,h2⟩,_⟩:=h
 cases h1
 exact h2
mutual
def sameP:Val→Val→Bool
 | .mk so on n t l ks,.mk so' on' n' t' l' ks'=>so==so'&&on==on'&&n==n'&&t==t'&&decide (ks=ks')&&sameLs l l'
def sameLs:List Val→List Val→Bool
 | [],[]=>true
 | v :: r,v' :: r'=>sameP v v'&&sameLs r r'
 | _,_=>false
end
def SameC (v:Val):Prop:=∀ (v':Val) (lv kv lv' kv':Value) (R R':Nat→Prop) (w:World),ValIn w R v lv kv→ValIn w R' v' lv' kv'→wt v≤1099511627776→wt v'≤1099511627776 →
 Calls Tryz.prog 48 #[arg v lv kv,arg v' lv' kv'] w fun e w'=>e=.returned (.bool (sameP v v'))∧Below w.heap.size w w'
theorem sameLs_len:∀ {l l':List Val},l.length≠l'.length→sameLs l l'=false
 | [],[],h=>absurd rfl h
 | [],_ :: _,_=>by simp [sameLs]
 | _ :: _,[],_=>by simp [sameLs]
 | v :: r,v' :: r',h=>by
  have:=@sameLs_len r r' (by simpa using h)
  simp [sameLs,this]
theorem sameLs_drop {l l':List Val} {i:Nat} (h:i<l.length) (h':i<l'.length):sameLs (l.drop i) (l'.drop i)=(sameP l[i] l'[i]&&sameLs (l.drop (i+1)) (l'.drop (i+1))):=by
 rw [List.drop_eq_getElem_cons h,List.drop_eq_getElem_cons h'];simp only [sameLs]
set_option maxHeartbeats 4000000 in
theorem lists_same (l l':List Val) (IH:∀ v∈l,SameC v) (a1 a1':Option Addr) (c1 c1':Nat) (R R':Nat→Prop) (w:World)
  (hl:l=[]∨∃ g off xs,a1=some ⟨g,off,none⟩∧R g∧CellsAt w g off xs∧ListIn w R l xs) (hl':l'=[]∨∃ g off xs,a1'=some ⟨g,off,none⟩∧R' g∧CellsAt w g off xs∧ListIn w R' l' xs)
  (hwl:wtL l≤1099511627776) (hwl':wtL l'≤1099511627776) :
  Calls Tryz.prog 88 #[.slice a1 l.length c1,.slice a1' l'.length c1',.func (.func 48) #[] #[]] w fun e w'=>e=.returned (.bool (sameLs l l'))∧Below w.heap.size w w':=by
 have hlb:l.length≤1099511627776:=Nat.le_trans (wtL_length l) hwl
 have hlb':l'.length≤1099511627776:=Nat.le_trans (wtL_length l') hwl'
 by_cases hlen:l.length=l'.length
 ·have HL:=Lib.hid hl
  have HL':=Lib.hid hl'
  have HIH:=Lib.hid IH
  have HWM:=Lib.hid (fun v (h:v∈l)=>Nat.le_trans (wtL_mem h) hwl)
  have HWM':=Lib.hid (fun v (h:v∈l')=>Nat.le_trans (wtL_mem h) hwl')
  obtain ⟨R1,hR1⟩:∃ r,sameLs l l'=r:=⟨_,rfl⟩
  rw [hR1]
  have HR:=Lib.hid (show sameLs (l.drop 0) (l'.drop 0)=R1 from hR1)
  obtain ⟨ln,hln⟩:∃ k,l.length=k:=⟨_,rfl⟩
  have HLN:=Lib.hid hln
  have HLN':=Lib.hid (hlen.symm.trans hln)
  have HB0:=Lib.hid (Below.refl w.heap.size w)
  rw [← hlen,hln]
  rw [hln] at hlb
  clear hl hl' IH hwl hwl' hR1 hln hlen hlb'
  go_enter Tryz.func88,Tryz.ntmps88
  go_wp2_with fail
  go_loopw [17] (fun iv wr=>∃ i:Nat,iv=.int .i64 i∧i≤ln∧Hid (sameLs (l.drop i) (l'.drop i)=R1)∧Hid (Below w.heap.size w wr)) (fun iv _=>ln - (Go.RowKit.intOf iv).toNat)
  case atStart=>exact ⟨0,rfl,by omega,HR,HB0⟩
  case round =>
   obtain ⟨i,rfl,hi,HI,HB⟩:=hrel
   by_cases hlt:i<ln
   ·have hll:i<l.length:=by rw [HLN.out];exact hlt
    have hll':i<l'.length:=by rw [HLN'.out];exact hlt
    obtain ⟨g,off,xs,rfl,hg,hc,hL⟩:=HL.out.resolve_left (fun h=>by rw [h] at hll;exact Nat.not_lt_zero _ hll)
    obtain ⟨g',off',xs',rfl,hg',hc',hL'⟩:=HL'.out.resolve_left (fun h=>by rw [h] at hll';exact Nat.not_lt_zero _ hll')
    have hsm:∀ Q,Same Q w wr:=fun _ b _ hb=>HB.out.block b hb
    obtain ⟨so1,on1,n1,t1,l1,ks1,b1,d1,b2,d2,he,hv,k0,k1,k2,k3,k4,k5⟩:=part_at i (ListIn.later (hsm R) (fun _ h=>h) l xs hL) (hc.later hg (hsm R)) hll
    obtain ⟨so1',on1',n1',t1',l1',ks1',b1',d1',b2',d2',he',hv',j0,j1,j2,j3,j4,j5⟩:=part_at i (ListIn.later (hsm R') (fun _ h=>h) l' xs' hL') (hc'.later hg' (hsm R')) hll'
    have hgl:g'<wr.heap.size:=lt_of_cell j0
    have hcell:∀ {o:Nat} {v:Value} (ob:Obj),wr.cell? ⟨g',o,none⟩=some v→(wr.alloc ob).cell? ⟨g',o,none⟩=some v:=fun ob hv=>(((Below.refl wr.heap.size wr).alloc (Nat.le_refl _) ob).cell hgl).trans hv
    have m0:=hcell (.cells #[.int .i64 so1,.bool on1,.int .i64 n1,.string ⟨t1.toArray⟩,.slice b1 l1.length d1,.slice b2 ks1.length d2] 36) j0
    have m1:=hcell (.cells #[.int .i64 so1,.bool on1,.int .i64 n1,.string ⟨t1.toArray⟩,.slice b1 l1.length d1,.slice b2 ks1.length d2] 36) j1
    have m2:=hcell (.cells #[.int .i64 so1,.bool on1,.int .i64 n1,.string ⟨t1.toArray⟩,.slice b1 l1.length d1,.slice b2 ks1.length d2] 36) j2
    have m3:=hcell (.cells #[.int .i64 so1,.bool on1,.int .i64 n1,.string ⟨t1.toArray⟩,.slice b1 l1.length d1,.slice b2 ks1.length d2] 36) j3
    have m4:=hcell (.cells #[.int .i64 so1,.bool on1,.int .i64 n1,.string ⟨t1.toArray⟩,.slice b1 l1.length d1,.slice b2 ks1.length d2] 36) j4
    have m5:=hcell (.cells #[.int .i64 so1,.bool on1,.int .i64 n1,.string ⟨t1.toArray⟩,.slice b1 l1.length d1,.slice b2 ks1.length d2] 36) j5
    have hdr:=sameLs_drop hll hll'
    rw [HI.out,he,he'] at hdr
    have cP:=fun W' (hb':Below wr.heap.size wr W')=>(HIH.out l[i] (List.getElem_mem hll)) l'[i] (.slice b1 l1.length d1) (.slice b2 ks1.length d2) (.slice b1' l1'.length d1') (.slice b2' ks1'.length d2') R R' W'
     (by rw [he];exact ValIn.later (fun b _ hb=>hb'.block b hb) (fun _ h=>h) _ _ _ hv) (by rw [he'];exact ValIn.later (fun b _ hb=>hb'.block b hb) (fun _ h=>h) _ _ _ hv') (HWM.out _ (List.getElem_mem hll)) (HWM'.out _ (List.getElem_mem hll'))
    rw [he,he'] at cP
    obtain ⟨b0,hb0⟩:∃ b,sameP (.mk so1 on1 n1 t1 l1 ks1) (.mk so1' on1' n1' t1' l1' ks1')=b:=⟨_,rfl⟩
    rw [hb0] at hdr
    simp only [hb0,arg,six',six,strCell] at cP
    have HDR:=Lib.hid hdr
    clear hdr he he' hv hv' hb0 hsm hL hc hL' hc' hcell j0 j1 j2 j3 j4 j5
    go_wp2_with fail
    obtain ⟨_,_,tb,tz⟩:=two wr (.cells #[.int .i64 so1,.bool on1,.int .i64 n1,.string ⟨t1.toArray⟩,.slice b1 l1.length d1,.slice b2 ks1.length d2] 36) (.cells #[.int .i64 so1',.bool on1',.int .i64 n1',.string ⟨t1'.toArray⟩,.slice b1' l1'.length d1',.slice b2' ks1'.length d2'] 36)
    refine (cP _ tb).mono ?_
    rintro e w2 ⟨rfl,hb2⟩
    have HB2:=Lib.hid (HB.out.trans ((tb.trans (hb2.mono (by omega))).mono HB.out.size))
    clear cP hb2 tb tz
    cases b0 with
    | false =>
     go_wp2_with fail
     go_ret
     exact ⟨by rw [HDR.out];rfl,HB2.out⟩
    | true =>
     go_wp2_with fail
     go_roundw
     case rel=>exact ⟨i+1,by go_num,by omega,Lib.hid (by rw [HDR.out,Bool.true_and]),HB2⟩
     case measure=>simp [Go.RowKit.intOf];omega
   ·go_wp2_with fail
    go_ret
    refine ⟨?_,HB.out⟩
    obtain rfl:i=ln:=by omega
    have h:=HI.out
    rw [List.drop_eq_nil_of_le (by rw [HLN.out];exact Nat.le_refl _),List.drop_eq_nil_of_le (by rw [HLN'.out];exact Nat.le_refl _)] at h
    rw [← h];simp [sameLs]
 ·rw [sameLs_len hlen]
  have q:((l.length:Int)==(l'.length:Int))=false:=by simp;omega
  have q2:((l.length:Int) != (l'.length:Int))=true:=by simp;omega
  clear hl hl' IH hwl hwl' hlen
  go_enter Tryz.func88,Tryz.ntmps88
  go_wp2_with fail
  go_ret
  exact ⟨rfl,Below.refl _ _⟩
set_option maxHeartbeats 2000000 in
theorem same_v:∀ v,SameC v:=Val.ind fun so on n t l ks IH=>fun
 | .mk so' on' n' t' l' ks',lv,kv,lv',kv',R,R',w,hv,hv',hw,hw'=>by
  have hW:∀ {X:World},Below w.heap.size w X→ValIn X R (.mk so on n t l ks) lv kv∧ValIn X R' (.mk so' on' n' t' l' ks') lv' kv':=fun hb=>⟨hv.later (fun b _ hlt=>hb.block b hlt) (fun _ h=>h) _ _ _,hv'.later (fun b _ hlt=>hb.block b hlt) (fun _ h=>h) _ _ _⟩
  obtain ⟨⟨a1,c1,rfl,_⟩,⟨a2,c2,rfl,_⟩⟩:=hv
  obtain ⟨⟨a1',c1',rfl,_⟩,⟨a2',c2',rfl,_⟩⟩:=hv'
  have hw2:=hw
  have hw2':=hw'
  simp only [wt] at hw2 hw2'
  have hkl:=wt_keys ks
  have hkl':=wt_keys ks'
  have hll:=wtL_length l
  have hll':=wtL_length l'
  by_cases h:so=so'∧on=on'∧n=n'∧t=t'
  ·obtain ⟨rfl,rfl,rfl,rfl⟩:=h
   have hres:sameP (.mk so on n t l ks) (.mk so on n t l' ks')=(decide (ks=ks')&&sameLs l l'):=by simp [sameP]
   rw [hres]
   have cE:=fun X (hb:Below w.heap.size w X)=>keys_equal (hW hb).1.2 (hW hb).2.2 (by omega) (by omega)
   have HLS:=Lib.hid (fun X (hb:Below w.heap.size w X)=>lists_same l l' IH a1 a1' c1 c1' R R' X (parts_of (hW hb).1) (parts_of (hW hb).2) (by omega) (by omega))
   simp only [arg,six',six,strCell]
   generalize decide (ks=ks')=b1 at cE ⊢
   have hlb:l.length≤1099511627776:=by omega
   have hlb':l'.length≤1099511627776:=by omega
   clear hres hw hw' hw2 hw2' hkl hkl' hll hll'
   go_enter Tryz.func48,Tryz.ntmps48
   go_wp2_with fail
   refine (cE _ (((Below.refl _ _).alloc (Nat.le_refl _) _).alloc (by simp) _)).mono ?_
   rintro e w1 ⟨rfl,hb1⟩
   obtain ⟨t1,t2,tb,tz⟩:=two w (.cells #[Value.int IntKind.i64 so,Value.bool on,Value.int IntKind.i64 n,Value.string { data:=t.toArray },Value.slice a1 l.length c1,Value.slice a2 ks.length c2] 36) (.cells #[Value.int IntKind.i64 so,Value.bool on,Value.int IntKind.i64 n,Value.string { data:=t.toArray },Value.slice a1' l'.length c1',Value.slice a2' ks'.length c2'] 36)
   have HB1:=Lib.hid (tb.trans (hb1.mono (by omega)))
   have hx:=(hb1.block w.heap.size (by omega)).trans t1
   have hy:=(hb1.block (w.heap.size+1) (by omega)).trans t2
   obtain ⟨⟨j0,j1,j2,j3,j4,j5⟩,jf⟩:=cells_six hx
   obtain ⟨⟨k0,k1,k2,k3,k4,k5⟩,kf⟩:=cells_six hy
   clear cE hb1 hx hy t1 t2 tb tz
   cases b1 with
   | false =>
    go_wp2_with fail
    go_ret
    exact ⟨rfl,HB1.out⟩
   | true =>
    have cL:=HLS.out w1 HB1.out
    go_wp2_with fail
    refine cL.mono ?_
    rintro e w2 ⟨rfl,hb2⟩
    have HB2:=Lib.hid (HB1.out.trans (hb2.mono HB1.out.size))
    clear cL hb2
    go_wp2_with fail
    go_ret
    exact ⟨rfl,HB2.out⟩
  ·have HH:=Lib.hid h
   simp only [arg,six',six,strCell]
   clear h hW hw hw' hw2 hw2' hkl hkl' hll hll' IH
   go_enter Tryz.func48,Tryz.ntmps48
   go_wp2_with fail
   all_goals first
    | (go_ret;refine ⟨?_,((Below.refl _ _).alloc (Nat.le_refl _) _).alloc (by simp) _⟩;simp_all [sameP];done)
    | exact absurd HH.out (by simp_all)
end Go.Proofs.YtpbnhnilfpoljaaGreatDoor.V
namespace Go.Proofs.YtpbnhnilfpoljaaGreatDoor.V
open Go.RowKit
open Go.Lib
mutual
theorem sameP_iff:∀ (v v':Val),sameP v v'=true ↔ v=v'
 | .mk so on n t l ks,.mk so' on' n' t' l' ks'=>by
  have h:=sameLs_iff l l'
  simp only [sameP,Bool.and_eq_true,beq_iff_eq,decide_eq_true_eq,h,Val.mk.injEq]
  constructor
  ·rintro ⟨⟨⟨⟨⟨h1,h2⟩,h3⟩,h4⟩,h5⟩,h6⟩;exact ⟨h1,h2,h3,h4,h6,h5⟩
  ·rintro ⟨h1,h2,h3,h4,h6,h5⟩;exact ⟨⟨⟨⟨⟨h1,h2⟩,h3⟩,h4⟩,h5⟩,h6⟩
theorem sameLs_iff:∀ (l l':List Val),sameLs l l'=true ↔ l=l'
 | [],[]=>by simp [sameLs]
 | [],_ :: _=>by simp [sameLs]
 | _ :: _,[]=>by simp [sameLs]
 | v :: r,v' :: r'=>by
  have h1:=sameP_iff v v'
  have h2:=sameLs_iff r r'
  simp only [sameLs,Bool.and_eq_true,h1,h2,List.cons.injEq]
end
theorem sameP_self (v:Val):sameP v v=true:=(sameP_iff v v).2 rfl
mutual
theorem nestP_wt:∀ (v:Val) (m:Nat),wt v≤m→nestP v m=true
 | .mk so on n t l ks,m,h=>by
  simp only [wt] at h
  have hm:¬ m=0:=by omega
  simp only [nestP,if_neg hm]
  exact nestL_wt l (m - 1) (by omega)
theorem nestL_wt:∀ (l:List Val) (m:Nat),wtL l≤m→nestL l m=true
 | [],_,_=>rfl
 | v :: r,m,h=>by
  simp only [wtL] at h
  simp only [nestL,Bool.and_eq_true]
  exact ⟨nestP_wt v m (by omega),nestL_wt r m (by omega)⟩
end
end Go.Proofs.YtpbnhnilfpoljaaGreatDoor.V
namespace Go.Proofs.YtpbnhnilfpoljaaGreatDoor.V
open Go.RowKit
open Go.Lib
theorem quoteB_le (c:UInt8):(quoteB c).length≤6:=by unfold quoteB;split <;> (try split) <;> simp
theorem flat_le:∀ (t:List UInt8),(t.flatMap quoteB).length≤6*t.length
 | []=>Nat.le_refl _
 | c :: r=>by
  have h1:=quoteB_le c
  have h2:=flat_le r
  simp only [List.flatMap_cons,List.length_append,List.length_cons];omega
theorem quoteT_le (t:List UInt8):(quoteT t).length≤6*t.length+2:=by
 have:=flat_le t
 simp only [quoteT,List.length_cons,List.length_append,List.length_nil];omega
mutual
theorem write_le:∀ (v:Val),rightP v=true→(write v).length+1≤40*wt v
 | .mk so on n t l ks,h=>by
  simp only [rightP,Bool.and_eq_true] at h
  replace h:=h.2
  have hw:1≤wt (.mk so on n t l ks):=by simp only [wt];omega
  by_cases h0:so=0
  ·subst h0;simp only [write];simp;omega
  by_cases h1:so=1
  ·subst h1;cases on <;> (simp only [write];simp;omega)
  by_cases h2:so=2
  ·subst h2
   have hn:-9007199254740992≤n∧n≤9007199254740992:=by simpa [inP] using h
   have:=itoa_length_le n (by omega) (by omega)
   simp only [write];simp;omega
  by_cases h3:so=3
  ·subst h3
   have:=quoteT_le t
   simp only [write,wt];simp;omega
  by_cases h4:so=4
  ·subst h4
   have hl:rightPs l=true:=by simpa using h
   have:=writeL_le l hl
   simp only [write,wt];simp;omega
  by_cases h5:so=5
  ·subst h5
   have hl:(ks.length=l.length∧keysP ks []=true)∧rightPs l=true:=by simpa using h
   have:=writeR_le l ks hl.2 hl.1.1
   simp only [write,wt];simp;omega
  simp [h0,h1,h2,h3,h4,h5] at h
theorem writeL_le:∀ (l:List Val),rightPs l=true→(writeL l).length≤40*wtL l
 | [],_=>by simp [writeL]
 | v :: r,h=>by
  simp only [rightPs,Bool.and_eq_true] at h
  have h1:=write_le v h.1
  have h2:=writeL1_le r h.2
  simp only [writeL,wtL,List.length_append];omega
theorem writeL1_le:∀ (l:List Val),rightPs l=true→(writeL1 l).length≤40*wtL l
 | [],_=>by simp [writeL1]
 | v :: r,h=>by
  simp only [rightPs,Bool.and_eq_true] at h
  have h1:=write_le v h.1
  have h2:=writeL1_le r h.2
  simp only [writeL1,wtL,List.length_append,List.length_cons];omega
theorem writeR_le:∀ (l:List Val) (ks:List (List UInt8)),rightPs l=true→ks.length=l.length→(writeR ks l).length≤40*(ks.map fun k=>k.length+1).sum+40*wtL l
 | [],ks,_,_=>by simp [writeR]
 | v :: r,[],_,hk=>by simp at hk
 | v :: r,k :: kr,h,hk=>by
  simp only [rightPs,Bool.and_eq_true] at h
  have h1:=write_le v h.1
  have h2:=writeR1_le r kr h.2 (by simpa using hk)
  have h3:=quoteT_le k
  simp only [writeR,wtL,List.length_append,List.length_cons,List.headD_cons,List.tail_cons,List.map_cons,List.sum_cons];omega
theorem writeR1_le:∀ (l:List Val) (ks:List (List UInt8)),rightPs l=true→ks.length=l.length→(writeR1 ks l).length≤40*(ks.map fun k=>k.length+1).sum+40*wtL l
 | [],ks,_,_=>by simp [writeR1]
 | v :: r,[],_,hk=>by simp at hk
 | v :: r,k :: kr,h,hk=>by
  simp only [rightPs,Bool.and_eq_true] at h
  have h1:=write_le v h.1
  have h2:=writeR1_le r kr h.2 (by simpa using hk)
  have h3:=quoteT_le k
  simp only [writeR1,wtL,List.length_append,List.length_cons,List.headD_cons,List.tail_cons,List.map_cons,List.sum_cons];omega
end
end Go.Proofs.YtpbnhnilfpoljaaGreatDoor.V
namespace Go.Proofs.YtpbnhnilfpoljaaGreatDoor.V
open Go.RowKit
open Go.Lib
theorem hex_low:∀ n:Fin 32,hex4 48 48 (hexd (n.val / 16)) (hexd (n.val % 16))=some n.val∧encodeRune (n.val:Nat)=[UInt8.ofNat n.val]:=by decide +kernel
theorem scalarE_low (n:Fin 32) (r:List UInt8):scalarE (48 :: 48 :: hexd (n.val / 16) :: hexd (n.val % 16) :: r)=some (n.val,r):=by
 have h:=(hex_low n).1
 have hn:=n.isLt
 simp only [scalarE,unit,h,Option.map_some]
 rw [if_pos (by omega)]
theorem u8_eta (c:UInt8):UInt8.ofNat c.toNat=c:=by simp
theorem quoted_quote:∀ (t:List UInt8) (f:Nat) (acc r:List UInt8),t.length<f→quoted f (t.flatMap quoteB++34 :: r) acc=some (acc++t,r)
 | [],0,_,_,h=>absurd h (Nat.not_lt_zero _)
 | [],f+1,acc,r,_=>by simp [quoted]
 | c :: t,0,_,_,h=>absurd h (Nat.not_lt_zero _)
 | c :: t,f+1,acc,r,h=>by
  have ih:=fun acc=>quoted_quote t f acc r (by simpa using h)
  rw [List.flatMap_cons]
  by_cases h1:c<32
  ·have hc:c.toNat<32:=by have:=UInt8.lt_iff_toNat_lt.1 h1;simpa using this
   have hs:=scalarE_low ⟨c.toNat,hc⟩ (t.flatMap quoteB++34 :: r)
   have he:=(hex_low ⟨c.toNat,hc⟩).2
   simp only at hs he
   rw [u8_eta] at he
   have hq:quoteB c=[92,117,48,48,hexd (c.toNat / 16),hexd (c.toNat % 16)]:=by simp [quoteB,h1]
   rw [hq]
   simp only [List.cons_append,List.nil_append]
   rw [quoted_esc (c:=92) (by decide) (by decide) rfl (show escape (117 :: 48 :: 48 :: hexd (c.toNat / 16) :: hexd (c.toNat % 16) :: (t.flatMap quoteB++34 :: r))=some (c.toNat,t.flatMap quoteB++34 :: r) by simp only [escape,if_true];exact hs)]
   rw [he,ih];simp
  ·by_cases h2:c=34∨c=92
   ·have hq:quoteB c=[92,c]:=by simp only [quoteB,if_neg h1,if_pos h2]
    rw [hq]
    simp only [List.cons_append,List.nil_append]
    rcases h2 with rfl|rfl
    ·rw [quoted_esc (c:=92) (by decide) (by decide) rfl (show escape (34 :: (t.flatMap quoteB++34 :: r))=some (34,t.flatMap quoteB++34 :: r) by simp [escape,escLetter])]
     rw [show encodeRune ((34:Nat):Int)=[34] by decide +kernel,ih];simp
    ·rw [quoted_esc (c:=92) (by decide) (by decide) rfl (show escape (92 :: (t.flatMap quoteB++34 :: r))=some (92,t.flatMap quoteB++34 :: r) by simp [escape,escLetter])]
     rw [show encodeRune ((92:Nat):Int)=[92] by decide +kernel,ih];simp
   ·have hq:quoteB c=[c]:=by simp only [quoteB,if_neg h1,if_neg h2]
    rw [hq]
    simp only [List.cons_append,List.nil_append]
    rw [quoted_byte (fun h=>h2 (.inl h)) h1 (fun h=>h2 (.inr h)),ih];simp
theorem flat_ge:∀ (t:List UInt8),t.length≤(t.flatMap quoteB).length
 | []=>Nat.le_refl _
 | c :: r=>by
  have h2:=flat_ge r
  have h1:1≤(quoteB c).length:=by unfold quoteB;split <;> (try split) <;> simp
  simp only [List.flatMap_cons,List.length_append,List.length_cons];omega
theorem quotedA_quote (t r:List UInt8):quotedA (t.flatMap quoteB++34 :: r)=some (t,r):=by
 unfold quotedA
 have h:=flat_ge t
 rw [quoted_quote t _ [] r (by simp only [List.length_append,List.length_cons];omega)]
 rfl
end Go.Proofs.YtpbnhnilfpoljaaGreatDoor.V
namespace Go.Proofs.YtpbnhnilfpoljaaGreatDoor.V
open Go.RowKit
open Go.Lib
theorem decFrom_append:∀ (l r:List UInt8) (acc:Nat),decFrom acc (l++r)=(decFrom acc l).bind fun a=>decFrom a r
 | [],r,acc=>rfl
 | b :: l,r,acc=>by
  simp only [List.cons_append,decFrom]
  cases digitVal b with
  | none=>rfl
  | some d=>exact decFrom_append l r _
theorem digit_of:∀ d:Fin 10,digitVal (UInt8.ofNat (48+d.val))=some d.val∧48≤(UInt8.ofNat (48+d.val)).toNat∧(UInt8.ofNat (48+d.val)).toNat≤57:=by decide +kernel
theorem decFrom_dec (u:Nat):decFrom 0 (decDigits u)=some u∧(∀ c∈decDigits u,48≤c.toNat∧c.toNat≤57)∧decDigits u≠[]:=by
 induction u using Nat.strongRecOn with
 | _ u ih =>
  rw [decDigits]
  by_cases h:u<10
  ·rw [dif_pos h]
   have hd:=digit_of ⟨u,h⟩
   simp only at hd
   refine ⟨by simp only [decFrom,hd.1,Nat.zero_mul,Nat.zero_add],?_,by simp⟩
   intro c hc
   rw [List.mem_singleton.1 hc]
   exact hd.2
  ·rw [dif_neg h]
   have hi:=ih (u / 10) (by omega)
   have hd:=digit_of ⟨u % 10,by omega⟩
   simp only at hd
   refine ⟨?_,?_,by simp⟩
   ·rw [decFrom_append,hi.1]
    simp only [Option.bind_some,decFrom,hd.1]
    congr 1;omega
   ·intro c hc
    rcases List.mem_append.1 hc with h1|h1
    ·exact hi.2.1 c h1
    ·rw [List.mem_singleton.1 h1];exact hd.2
theorem nDigits_le:∀ (k u:Nat),u<10 ^ (k+1)→nDigits u≤k+1
 | 0,u,h=>by rw [nDigits_small (by simpa using h)];omega
 | k+1,u,h=>by
  by_cases h1:u<10
  ·rw [nDigits_small h1];omega
  ·rw [nDigits_big h1]
   have:=nDigits_le k (u / 10) (by rw [Nat.pow_succ] at h;omega)
   omega
theorem atoi_itoa (n:Int) (h:-9007199254740992≤n∧n≤9007199254740992):atoiAll (itoa n)=.ok n:=by
 have key:∀ u:Nat,u≤9007199254740992→(decDigits u).length≤17:=fun u hu=>by
  rw [decDigits_length];exact nDigits_le 16 u (by omega)
 by_cases hn:n<0
 ·have hd:=decFrom_dec n.natAbs
  have he:itoa n=45 :: decDigits n.natAbs:=by unfold itoa;rw [if_pos hn]
  have hk:=key n.natAbs (by omega)
  have hat:atoi (itoa n)=some n:=by
   rw [he]
   have h1:decNat (decDigits n.natAbs)=some n.natAbs:=by unfold decNat;rw [if_neg (by simpa using hd.2.2)];exact hd.1
   simp only [atoi,beq_self_eq_true,if_true,h1,Option.map_some]
   congr 1;omega
  rw [atoiAll_short _ (by rw [he];simp;omega),hat];rfl
 ·have hd:=decFrom_dec n.toNat
  have he:itoa n=decDigits n.toNat:=by unfold itoa;rw [if_neg hn]
  have hk:=key n.toNat (by omega)
  have hat:atoi (itoa n)=some n:=by
   rw [he]
   have h1:decNat (decDigits n.toNat)=some n.toNat:=by unfold decNat;rw [if_neg (by simpa using hd.2.2)];exact hd.1
   cases hc:decDigits n.toNat with
   | nil=>exact absurd hc hd.2.2
   | cons c r =>
    rw [hc] at h1 hd
    have hb:=hd.2.1 c (List.mem_cons_self)
    have n1:(c==45)=false:=by
     rw [beq_eq_false_iff_ne];intro h;rw [h] at hb;simp at hb
    have n2:(c==43)=false:=by
     rw [beq_eq_false_iff_ne];intro h;rw [h] at hb;simp at hb
    simp only [atoi,n1,n2,h1,Option.map_some]
    simp;omega
  rw [atoiAll_short _ (by rw [he];omega),hat];rfl
theorem itoa_num (n:Int):∀ c∈itoa n,numB c=true:=by
 have key:∀ u:Nat,∀ c∈decDigits u,numB c=true:=fun u c hc=>by
  have:=(decFrom_dec u).2.1 c hc
  simp only [numB,Bool.or_eq_true,Bool.and_eq_true,decide_eq_true_eq]
  right
  exact ⟨UInt8.le_iff_toNat_le.2 (by simpa using this.1),UInt8.le_iff_toNat_le.2 (by simpa using this.2)⟩
 intro c hc
 unfold itoa at hc
 split at hc
 ·rcases List.mem_cons.1 hc with h|h
  ·rw [h];rfl
  ·exact key _ c h
 ·exact key _ c hc
theorem number_back (n:Int) (h:-9007199254740992≤n∧n≤9007199254740992) (r:List UInt8) (hr:∀ c,r.head?=some c→numB c=false):number (itoa n++r)=some (n,r):=by
 have h1:r.takeWhile numB=[]∧r.dropWhile numB=r:=by
  cases r with
  | nil=>exact ⟨rfl,rfl⟩
  | cons c t=>have:=hr c rfl;simp [List.takeWhile,List.dropWhile,this]
 have t1:(itoa n++r).takeWhile numB=itoa n:=by
  rw [List.takeWhile_append_of_pos (itoa_num n),h1.1,List.append_nil]
 have d1:(itoa n++r).dropWhile numB=r:=by
  rw [List.dropWhile_append_of_pos (itoa_num n),h1.2]
 unfold number
 rw [t1,d1,atoi_itoa n h]
 simp only
 rw [if_pos ⟨h,trivial⟩]
end Go.Proofs.YtpbnhnilfpoljaaGreatDoor.V
namespace Go.Proofs.YtpbnhnilfpoljaaGreatDoor.V
open Go.RowKit
open Go.Lib
theorem skip_at {c:UInt8} {r:List UInt8} (h:blank c=false):skip (c :: r)=c :: r:=by simp [skip,List.dropWhile,h]
theorem right_form {so:Int} {on:Bool} {n:Int} {t:List UInt8} {l:List Val} {ks:List (List UInt8)} (h:rightP (.mk so on n t l ks)=true) :
  (so=0∧on=false∧n=0∧t=[]∧l=[]∧ks=[])∨(so=1∧n=0∧t=[]∧l=[]∧ks=[])∨(so=2∧on=false∧t=[]∧l=[]∧ks=[]∧-9007199254740992≤n∧n≤9007199254740992) ∨
  (so=3∧on=false∧n=0∧l=[]∧ks=[]∧okP t=true)∨(so=4∧on=false∧n=0∧t=[]∧ks=[]∧rightPs l=true)∨(so=5∧on=false∧n=0∧t=[]∧ks.length=l.length∧keysP ks []=true∧rightPs l=true):=by
 simp only [rightP,Bool.and_eq_true] at h
 obtain ⟨he,h⟩:=h
 by_cases h0:so=0
 ·subst h0;left;simpa [elseP,and_assoc] using he
 by_cases h1:so=1
 ·subst h1;right;left;simpa [elseP,and_assoc] using he
 by_cases h2:so=2
 ·subst h2;right;right;left
  have hn:-9007199254740992≤n∧n≤9007199254740992:=by simpa [inP] using h
  have he2:(on=false∧t=[])∧l=[]∧ks=[]:=by simpa [elseP,and_assoc] using he
  exact ⟨rfl,he2.1.1,he2.1.2,he2.2.1,he2.2.2,hn.1,hn.2⟩
 by_cases h3:so=3
 ·subst h3;right;right;right;left
  have ht:okP t=true:=by simpa using h
  have he2:on=false∧n=0∧l=[]∧ks=[]:=by simpa [elseP,and_assoc] using he
  exact ⟨rfl,he2.1,he2.2.1,he2.2.2.1,he2.2.2.2,ht⟩
 by_cases h4:so=4
 ·subst h4;right;right;right;right;left
  have hl:rightPs l=true:=by simpa using h
  have he2:on=false∧n=0∧t=[]∧ks=[]:=by simpa [elseP,and_assoc] using he
  exact ⟨rfl,he2.1,he2.2.1,he2.2.2.1,he2.2.2.2,hl⟩
 by_cases h5:so=5
 ·subst h5;right;right;right;right;right
  have hl:(ks.length=l.length∧keysP ks []=true)∧rightPs l=true:=by simpa using h
  have he2:on=false∧n=0∧t=[]:=by simpa [elseP,and_assoc] using he
  exact ⟨rfl,he2.1,he2.2.1,he2.2.2,hl.1.1,hl.1.2,hl.2⟩
 simp [h0,h1,h2,h3,h4,h5] at h
theorem write_head (v:Val) (h:rightP v=true):∃ c r,write v=c :: r∧blank c=false∧c≠93∧c≠125:=by
 obtain ⟨so,on,n,t,l,ks⟩:=v
 rcases right_form h with ⟨rfl,rfl,rfl,rfl,rfl,rfl⟩|⟨rfl,rfl,rfl,rfl,rfl⟩|⟨rfl,rfl,rfl,rfl,rfl,hn⟩|⟨rfl,rfl,rfl,rfl,rfl,_⟩|⟨rfl,rfl,rfl,rfl,rfl,_⟩|⟨rfl,rfl,rfl,rfl,_⟩
 ·exact ⟨110,[117,108,108],by simp [write],by decide,by decide,by decide⟩
 ·cases on
  ·exact ⟨102,[97,108,115,101],by simp [write],by decide,by decide,by decide⟩
  ·exact ⟨116,[114,117,101],by simp [write],by decide,by decide,by decide⟩
 ·have hw:write (.mk 2 false n [] [] [])=itoa n:=by simp [write]
  cases hi:itoa n with
  | nil =>
   have hu:=fun u=>(decFrom_dec u).2.2
   unfold itoa at hi
   split at hi
   ·cases hi
   ·exact absurd hi (hu _)
  | cons c r =>
   have hc:=itoa_num n c (by rw [hi];exact List.mem_cons_self)
   refine ⟨c,r,by rw [hw,hi],?_,?_,?_⟩
   ·have hk:∀ k:Fin 256,numB (UInt8.ofNat k.val)=true→blank (UInt8.ofNat k.val)=false:=by decide +kernel
    have:=hk ⟨c.toNat,c.toNat_lt⟩
    simpa [hc] using this
   ·intro h;rw [h] at hc;revert hc;decide
   ·intro h;rw [h] at hc;revert hc;decide
 ·exact ⟨34,t.flatMap quoteB++[34],by simp [write,quoteT],by decide,by decide,by decide⟩
 ·exact ⟨91,writeL l++[93],by simp [write],by decide,by decide,by decide⟩
 ·exact ⟨123,writeR ks l++[125],by simp [write],by decide,by decide,by decide⟩
end Go.Proofs.YtpbnhnilfpoljaaGreatDoor.V
namespace Go.Proofs.YtpbnhnilfpoljaaGreatDoor.V
open Go.RowKit
open Go.Lib
theorem quoteT_ge (t:List UInt8):t.length+2≤(quoteT t).length:=by
 have h:=flat_ge t
 simp only [quoteT,List.length_cons,List.length_append,List.length_nil];omega
mutual
theorem write_ge:∀ (v:Val),rightP v=true→wt v≤(write v).length
 | .mk so on n t l ks,h=>by
  have hd:=write_head (.mk so on n t l ks) h
  obtain ⟨c,r,hw,_⟩:=hd
  rcases right_form h with ⟨rfl,rfl,rfl,rfl,rfl,rfl⟩|⟨rfl,rfl,rfl,rfl,rfl⟩|⟨rfl,rfl,rfl,rfl,rfl,hn⟩|⟨rfl,rfl,rfl,rfl,rfl,_⟩|⟨rfl,rfl,rfl,rfl,rfl,hl⟩|⟨rfl,rfl,rfl,rfl,hkl,_,hl⟩
  ·rw [hw];simp [wt,wtL]
  ·rw [hw];simp [wt,wtL]
  ·rw [hw];simp [wt,wtL]
  ·have:=quoteT_ge t
   simp only [write,wt,wtL];simp;omega
  ·have:=writeL_ge l hl
   simp only [write,wt];simp;omega
  ·have:=writeR_ge l ks hl hkl
   simp only [write,wt];simp;omega
theorem writeL_ge:∀ (l:List Val),rightPs l=true→wtL l≤(writeL l).length
 | [],_=>by simp [writeL,wtL]
 | v :: r,h=>by
  simp only [rightPs,Bool.and_eq_true] at h
  have h1:=write_ge v h.1
  have h2:=writeL1_ge r h.2
  simp only [writeL,wtL,List.length_append];omega
theorem writeL1_ge:∀ (l:List Val),rightPs l=true→wtL l≤(writeL1 l).length
 | [],_=>by simp [writeL1,wtL]
 | v :: r,h=>by
  simp only [rightPs,Bool.and_eq_true] at h
  have h1:=write_ge v h.1
  have h2:=writeL1_ge r h.2
  simp only [writeL1,wtL,List.length_append,List.length_cons];omega
theorem writeR_ge:∀ (l:List Val) (ks:List (List UInt8)),rightPs l=true→ks.length=l.length→(ks.map fun k=>k.length+1).sum+wtL l≤(writeR ks l).length
 | [],ks,_,hk=>by
  obtain rfl:ks=[]:=List.eq_nil_of_length_eq_zero (by simpa using hk)
  simp [writeR,wtL]
 | v :: r,[],_,hk=>by simp at hk
 | v :: r,k :: kr,h,hk=>by
  simp only [rightPs,Bool.and_eq_true] at h
  have h1:=write_ge v h.1
  have h2:=writeR1_ge r kr h.2 (by simpa using hk)
  have h3:=quoteT_ge k
  simp only [writeR,wtL,List.length_append,List.length_cons,List.headD_cons,List.tail_cons,List.map_cons,List.sum_cons];omega
theorem writeR1_ge:∀ (l:List Val) (ks:List (List UInt8)),rightPs l=true→ks.length=l.length→(ks.map fun k=>k.length+1).sum+wtL l≤(writeR1 ks l).length
 | [],ks,_,hk=>by
  obtain rfl:ks=[]:=List.eq_nil_of_length_eq_zero (by simpa using hk)
  simp [writeR1,wtL]
 | v :: r,[],_,hk=>by simp at hk
 | v :: r,k :: kr,h,hk=>by
  simp only [rightPs,Bool.and_eq_true] at h
  have h1:=write_ge v h.1
  have h2:=writeR1_ge r kr h.2 (by simpa using hk)
  have h3:=quoteT_ge k
  simp only [writeR1,wtL,List.length_append,List.length_cons,List.headD_cons,List.tail_cons,List.map_cons,List.sum_cons];omega
end
def Stop (r:List UInt8):Prop:=∀ c,r.head?=some c→numB c=false
theorem plain_itoa {n:Int} {r:List UInt8} (hn:-9007199254740992≤n∧n≤9007199254740992) (hr:Stop r):plain (itoa n++r)=some (.num n,r)∧∃ c t,itoa n++r=c :: t∧blank c=false∧c≠91∧c≠123:=by
 have hb:=number_back n hn r hr
 have hne:itoa n≠[]:=by
  unfold itoa;split
  ·simp
  ·exact (decFrom_dec _).2.2
 obtain ⟨c,t,hi⟩:∃ c t,itoa n=c :: t:=by
  cases h:itoa n with
  | nil=>exact absurd h hne
  | cons c t=>exact ⟨c,t,rfl⟩
 have hc:numB c=true:=itoa_num n c (by rw [hi];exact List.mem_cons_self)
 have hk:∀ k:Fin 256,numB (UInt8.ofNat k.val)=true→blank (UInt8.ofNat k.val)=false∧UInt8.ofNat k.val≠91∧UInt8.ofNat k.val≠123∧UInt8.ofNat k.val≠110∧UInt8.ofNat k.val≠102∧UInt8.ofNat k.val≠116∧UInt8.ofNat k.val≠34:=by decide +kernel
 have hk2:=hk ⟨c.toNat,c.toNat_lt⟩
 simp only [u8_eta] at hk2
 obtain ⟨h1,h2,h3,h4,h5,h6,h7⟩:=hk2 hc
 refine ⟨?_,c,t++r,by rw [hi];rfl,h1,h2,h3⟩
 rw [hi] at hb ⊢
 simp only [List.cons_append] at hb ⊢
 unfold plain
 rw [if_neg (by simp [List.isPrefixOf,Ne.symm h4]),if_neg (by simp [List.isPrefixOf,Ne.symm h5]),if_neg (by simp [List.isPrefixOf,Ne.symm h6])]
 split
 ·rename_i heq;cases heq;exact absurd rfl h7
 ·rw [hb];rfl
end Go.Proofs.YtpbnhnilfpoljaaGreatDoor.V
namespace Go.Proofs.YtpbnhnilfpoljaaGreatDoor.V
open Go.RowKit
open Go.Lib
theorem stop_44 (r:List UInt8):Stop (44 :: r):=by intro c h;cases h;decide
theorem stop_93 (r:List UInt8):Stop (93 :: r):=by intro c h;cases h;decide
theorem stop_125 (r:List UInt8):Stop (125 :: r):=by intro c h;cases h;decide
def BackC (v:Val):Prop:=∀ (f d m:Nat) (r:List UInt8),rightP v=true→nestP v m=true→d+m=20→2*wt v≤f+1→Stop r→value f d (write v++r)=.ok v (skip r)
theorem items_back (d m:Nat) (hd:d+m=20):∀ (l:List Val) (v:Val) (acc:List Val) (f:Nat) (r:List UInt8),(∀ x∈v :: l,BackC x)→rightPs (v :: l)=true→nestL (v :: l) m=true→2*wtL (v :: l)≤f →
  items f d (write v++(writeL1 l++93 :: r)) acc=.ok (acc++v :: l) r
 | [],v,acc,0,r,_,_,_,hf=>by
  have:1≤wt v:=by cases v;simp only [wt];omega
  simp only [wtL] at hf;omega
 | [],v,acc,f+1,r,IH,hr,hn,hf=>by
  simp only [rightPs,Bool.and_eq_true] at hr
  simp only [nestL,Bool.and_eq_true] at hn
  simp only [wtL] at hf
  have h:=IH v (List.mem_cons_self) f d m (93 :: r) hr.1 hn.1 hd (by omega) (stop_93 r)
  rw [skip_at (by decide)] at h
  simp only [items,writeL1,List.nil_append,h]
 | v' :: l,v,acc,0,r,_,_,_,hf=>by
  have:1≤wt v:=by cases v;simp only [wt];omega
  simp only [wtL] at hf;omega
 | v' :: l,v,acc,f+1,r,IH,hr,hn,hf=>by
  have hr2:=hr
  simp only [rightPs,Bool.and_eq_true] at hr
  have hn2:=hn
  simp only [nestL,Bool.and_eq_true] at hn
  have hw:1≤wt v:=by cases v;simp only [wt];omega
  have hf2:2*wtL (v' :: l)≤f:=by simp only [wtL] at hf ⊢;omega
  have hf3:2*wt v≤f+1:=by simp only [wtL] at hf;omega
  have h:=IH v (List.mem_cons_self) f d m (44 :: (write v'++(writeL1 l++93 :: r))) hr.1 hn.1 hd hf3 (stop_44 _)
  rw [skip_at (by decide)] at h
  have ih:=items_back d m hd l v' (acc++[v]) f r (fun x hx=>IH x (List.mem_cons_of_mem _ hx)) (by simp only [rightPs,Bool.and_eq_true];exact hr.2) (by simp only [nestL,Bool.and_eq_true];exact hn.2) hf2
  simp only [items,writeL1,List.cons_append,List.append_assoc,h]
  rw [ih];simp
theorem key_back (k r:List UInt8):key (quoteT k++58 :: r)=some (k,r):=by
 have h:=quotedA_quote k (58 :: r)
 have he:quoteT k++58 :: r=34 :: (k.flatMap quoteB++34 :: 58 :: r):=by simp [quoteT]
 rw [he]
 unfold key
 rw [skip_at (by decide)]
 simp only [h]
 rw [skip_at (by decide)]
 rfl
theorem fields_back (d m:Nat) (hd:d+m=20):∀ (l:List Val) (v:Val) (kr:List (List UInt8)) (k:List UInt8) (ks:List (List UInt8)) (vs:List Val) (f:Nat) (r:List UInt8),(∀ x∈v :: l,BackC x)→rightPs (v :: l)=true→nestL (v :: l) m=true→2*wtL (v :: l)≤f →
  kr.length=l.length→keysP (k :: kr) ks=true →
  fields f d (quoteT k++58 :: (write v++(writeR1 kr l++125 :: r))) ks vs=.ok (ks++k :: kr,vs++v :: l) r
 | _,v,_,_,_,_,0,_,_,_,_,hf,_,_=>by
  have:1≤wt v:=by cases v;simp only [wt];omega
  simp only [wtL] at hf;omega
 | [],v,kr,k,ks,vs,f+1,r,IH,hr,hn,hf,hk,hkp=>by
  obtain rfl:kr=[]:=List.eq_nil_of_length_eq_zero (by simpa using hk)
  simp only [rightPs,Bool.and_eq_true] at hr
  simp only [nestL,Bool.and_eq_true] at hn
  simp only [wtL] at hf
  have hnk:¬ k∈ks:=by simp only [keysP,Bool.and_eq_true,Bool.not_eq_true',decide_eq_false_iff_not] at hkp;exact hkp.1.2
  have h:=IH v (List.mem_cons_self) f d m (125 :: r) hr.1 hn.1 hd (by omega) (stop_125 r)
  rw [skip_at (by decide)] at h
  simp only [fields,writeR1,List.nil_append,key_back,if_neg hnk,h]
 | v' :: l,v,[],k,ks,vs,f+1,r,_,_,_,_,hk,_=>by simp at hk
 | v' :: l,v,k' :: kr,k,ks,vs,f+1,r,IH,hr,hn,hf,hk,hkp=>by
  simp only [rightPs,Bool.and_eq_true] at hr
  simp only [nestL,Bool.and_eq_true] at hn
  have hw:1≤wt v:=by cases v;simp only [wt];omega
  have hf2:2*wtL (v' :: l)≤f:=by simp only [wtL] at hf ⊢;omega
  have hf3:2*wt v≤f+1:=by simp only [wtL] at hf;omega
  have hkp2:(okP k=true∧¬ k∈ks)∧keysP (k' :: kr) (ks++[k])=true:=by
   rw [keysP] at hkp
   simpa only [Bool.and_eq_true,Bool.not_eq_true',decide_eq_false_iff_not] using hkp
  have h:=IH v (List.mem_cons_self) f d m (44 :: (quoteT k'++58 :: (write v'++(writeR1 kr l++125 :: r)))) hr.1 hn.1 hd hf3 (stop_44 _)
  rw [skip_at (by decide)] at h
  have ih:=fields_back d m hd l v' kr k' (ks++[k]) (vs++[v]) f r (fun x hx=>IH x (List.mem_cons_of_mem _ hx)) (by simp only [rightPs,Bool.and_eq_true];exact hr.2) (by simp only [nestL,Bool.and_eq_true];exact hn.2) hf2 (by simpa using hk) hkp2.2
  simp only [fields,writeR1,List.cons_append,List.append_assoc,List.headD_cons,List.tail_cons,key_back,if_neg hkp2.1.2,h]
  rw [ih];simp
end Go.Proofs.YtpbnhnilfpoljaaGreatDoor.V
namespace Go.Proofs.YtpbnhnilfpoljaaGreatDoor.V
open Go.RowKit
open Go.Lib
theorem value_plainB {f d:Nat} {l r:List UInt8} {v:Val} {c:UInt8} {t:List UInt8} (hl:l=c :: t) (hc:blank c=false) (h1:c≠91) (h2:c≠123) (hp:plain l=some (v,r)):value (f+1) d l=.ok v (skip r):=by
 subst hl
 rw [value,skip_at hc]
 split
 ·rename_i heq;cases heq;exact absurd rfl h1
 ·rename_i heq;cases heq;exact absurd rfl h2
 ·rename_i h1' h2';rw [hp]
theorem value_listB {f d:Nat} {l r:List UInt8} {c:UInt8} {t:List UInt8} {vs:List Val} (hl:l=c :: t) (hc:blank c=false) (h1:c≠93) (hd:d≠20) (hp:items f (d+1) l []=.ok vs r):value (f+1) d (91 :: l)=.ok (.arr vs) (skip r):=by
 subst hl
 rw [value,skip_at (by decide)]
 simp only [if_neg hd,skip_at hc]
 split
 ·rename_i heq;cases heq;exact absurd rfl h1
 ·rw [hp]
theorem value_recB {f d:Nat} {l r:List UInt8} {c:UInt8} {t:List UInt8} {ks:List (List UInt8)} {vs:List Val} (hl:l=c :: t) (hc:blank c=false) (h1:c≠125) (hd:d≠20) (hp:fields f (d+1) l [] []=.ok (ks,vs) r):value (f+1) d (123 :: l)=.ok (.rcd ks vs) (skip r):=by
 subst hl
 rw [value,skip_at (by decide)]
 simp only [if_neg hd,skip_at hc]
 split
 ·rename_i heq;cases heq;exact absurd rfl h1
 ·rw [hp]
theorem value_back:∀ v,BackC v:=Val.ind fun so on n t l ks IH f d m r hr hn hd hf hs=>by
 have hw1:1≤wt (.mk so on n t l ks):=by simp only [wt];omega
 obtain ⟨f,rfl⟩:∃ g,f=g+1:=⟨f - 1,by omega⟩
 rcases right_form hr with ⟨rfl,rfl,rfl,rfl,rfl,rfl⟩|⟨rfl,rfl,rfl,rfl,rfl⟩|⟨rfl,rfl,rfl,rfl,rfl,hn1⟩|⟨rfl,rfl,rfl,rfl,rfl,_⟩|⟨rfl,rfl,rfl,rfl,rfl,hl⟩|⟨rfl,rfl,rfl,rfl,hkl,hkp,hl⟩
 ·exact value_plainB (l:=110 :: 117 :: 108 :: 108 :: r) rfl (by decide) (by decide) (by decide) (by simp [plain,List.isPrefixOf,Val.null])
 ·cases on
  ·exact value_plainB (l:=102 :: 97 :: 108 :: 115 :: 101 :: r) rfl (by decide) (by decide) (by decide) (by simp [plain,List.isPrefixOf,Val.bool])
  ·exact value_plainB (l:=116 :: 114 :: 117 :: 101 :: r) rfl (by decide) (by decide) (by decide) (by simp [plain,List.isPrefixOf,Val.bool])
 ·obtain ⟨hp,c,t,hl,hc,h1,h2⟩:=plain_itoa hn1 hs
  have hw:write (.mk 2 false n [] [] [])=itoa n:=by simp [write]
  rw [hw]
  exact value_plainB hl hc h1 h2 hp
 ·have hw:write (.mk 3 false 0 t [] [])=quoteT t:=by simp [write]
  rw [hw]
  have he:quoteT t++r=34 :: (t.flatMap quoteB++34 :: r):=by simp [quoteT]
  rw [he]
  exact value_plainB rfl (by decide) (by decide) (by decide) (by simp [plain,List.isPrefixOf,quotedA_quote,Val.str])
 ·have hw:write (.mk 4 false 0 [] l [])=91 :: (writeL l++[93]):=by simp [write]
  rw [hw]
  have hm:m≠0:=by intro h;subst h;simp [nestP] at hn
  have hnl:nestL l (m - 1)=true:=by rw [nestP,if_neg hm] at hn;exact hn
  cases l with
  | nil =>
   simp only [writeL,List.nil_append,List.cons_append]
   rw [value,skip_at (by decide)]
   simp only [if_neg (show d≠20 by omega)]
   rw [skip_at (by decide)]
   rfl
  | cons v l =>
   obtain ⟨c,t,hc1,hc2,hc3,_⟩:=write_head v (by simp only [rightPs,Bool.and_eq_true] at hl;exact hl.1)
   have h:=items_back (d+1) (m - 1) (by omega) l v [] f r IH hl hnl (by simp only [wt] at hf;simp at hf;omega)
   have he:91 :: (writeL (v :: l)++[93])++r=91 :: (write v++(writeL1 l++93 :: r)):=by simp [writeL]
   rw [he]
   exact value_listB (c:=c) (t:=t++(writeL1 l++93 :: r)) (by rw [hc1];rfl) hc2 hc3 (by omega) h
 ·have hw:write (.mk 5 false 0 [] l ks)=123 :: (writeR ks l++[125]):=by simp [write]
  rw [hw]
  have hm:m≠0:=by intro h;subst h;simp [nestP] at hn
  have hnl:nestL l (m - 1)=true:=by rw [nestP,if_neg hm] at hn;exact hn
  cases l with
  | nil =>
   obtain rfl:ks=[]:=List.eq_nil_of_length_eq_zero (by simpa using hkl)
   simp only [writeR,List.nil_append,List.cons_append]
   rw [value,skip_at (by decide)]
   simp only [if_neg (show d≠20 by omega)]
   rw [skip_at (by decide)]
   rfl
  | cons v l =>
   cases ks with
   | nil=>simp at hkl
   | cons k kr =>
    have h:=fields_back (d+1) (m - 1) (by omega) l v kr k [] [] f r IH hl hnl (by simp only [wt] at hf;simp at hf;omega) (by simpa using hkl) hkp
    have he:123 :: (writeR (k :: kr) (v :: l)++[125])++r=123 :: (quoteT k++58 :: (write v++(writeR1 kr l++125 :: r))):=by simp [writeR]
    rw [he]
    exact value_recB (c:=34) (by simp [quoteT];rfl) (by decide) (by decide) (by omega) h
theorem readP_write (v:Val) (h:rightTop v=true):readP (write v)=.ok v:=by
 simp only [rightTop,Bool.and_eq_true] at h
 have hw:=write_ge v h.2
 have hb:=value_back v (2*(write v).length+1) 0 20 [] h.2 h.1 rfl (by omega) (by intro c h;cases h)
 rw [List.append_nil] at hb
 unfold readP
 rw [hb]
 rfl
end Go.Proofs.YtpbnhnilfpoljaaGreatDoor.V
