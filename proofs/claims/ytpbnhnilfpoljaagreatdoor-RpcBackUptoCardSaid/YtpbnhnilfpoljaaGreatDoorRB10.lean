/- What the claim needs of the texts VTold2, VTail3, VSameTop, VCopies, VWriteT, VWrite. -/
import Derived.Test.YtpbnhnilfpoljaaGreatDoorRB9
import Derived.Lib.ValidLaws
import Derived.Test.YtpbnhnilfpoljaaGreatDoorRB8
import Derived.Test.YtpbnhnilfpoljaaGreatDoorRB6
import Derived.Test.YtpbnhnilfpoljaaGreatDoorRB3
namespace Go.Proofs.YtpbnhnilfpoljaaGreatDoor.V
open Go.RowKit
open Go.Lib
theorem accLo_ge:∀ c:Fin 256,firstT c.val % 8=2∨firstT c.val % 8=3∨firstT c.val % 8=4→128≤accLo (firstT c.val / 16):=by decide +kernel
theorem quoteB_high {c:UInt8} (h:128≤c.toNat):quoteB c=[c]:=by
 have h1:¬ c<32:=by intro h';have:=UInt8.lt_iff_toNat_lt.1 h';simp at this;omega
 have h2:¬ (c=34∨c=92):=by
  rintro (h'|h') <;> (rw [h'] at h;simp at h)
 simp only [quoteB,if_neg h1,if_neg h2]
theorem hexd_low:∀ k:Fin 16,(hexd k.val).toNat<128:=by decide +kernel
theorem quoteB_low_ascii {c:UInt8} (h:c.toNat<128):∀ b∈quoteB c,b.toNat<128:=by
 intro b hb
 unfold quoteB at hb
 split at hb
 ·have h1:=hexd_low ⟨c.toNat / 16,by have:=c.toNat_lt;omega⟩
  have h2:=hexd_low ⟨c.toNat % 16,by omega⟩
  simp only [List.mem_cons,List.not_mem_nil,or_false] at hb
  rcases hb with rfl|rfl|rfl|rfl|rfl|rfl
  ·decide
  ·decide
  ·decide
  ·decide
  ·exact h1
  ·exact h2
 ·split at hb
  ·simp only [List.mem_cons,List.not_mem_nil,or_false] at hb
   rcases hb with rfl|rfl
   ·decide
   ·exact h
  ·rw [List.mem_singleton.1 hb];exact h
theorem valid_ascii_app (a l:List UInt8) (h:∀ b∈a,b.toNat<128):validD (a++l)=validD l:=by
 have:=validD_ascii a.length (a++l) (by rw [List.take_left];exact h)
 rw [List.drop_left] at this
 exact this
theorem valid_quote:∀ (n:Nat) (l:List UInt8),l.length≤n→validD l=true→validD (l.flatMap quoteB)=true
 | _,[],_,_=>rfl
 | 0,c :: t,h,_=>by simp at h
 | n+1,c :: t,hn,hv=>by
  by_cases hc:c.toNat<128
  ·rw [validD_cons c t hc] at hv
   rw [List.flatMap_cons,valid_ascii_app _ _ (quoteB_low_ascii hc)]
   exact valid_quote n t (by simpa using hn) hv
  ·have hlead:=validD_lead (c :: t) (by simp) (by simp;omega)
   rw [hlead] at hv
   have hlo:=accLo_ge ⟨c.toNat,c.toNat_lt⟩
   simp only at hlo
   have hq:=quoteB_high (c:=c) (by omega)
   simp only [List.getD_cons_zero] at hv
   generalize hf:firstT c.toNat % 8=sz at hv hlo
   generalize hL:accLo (firstT c.toNat / 16)=lo at hv hlo
   generalize hH:accHi (firstT c.toNat / 16)=hi at hv
   have lead2:∀ Y:List UInt8,validD (c :: Y)=match checkN (c :: Y).length ((c :: Y).getD 1 0).toNat ((c :: Y).getD 2 0).toNat ((c :: Y).getD 3 0).toNat sz lo hi with
     | none=>false
     | some k=>validD ((c :: Y).drop k):=fun Y=>by
    have:=validD_lead (c :: Y) (by simp) (by simp;omega)
    simp only [List.getD_cons_zero] at this
    rw [hf,hL,hH] at this
    exact this
   by_cases h2:sz=2
   ·subst h2
    replace hlo:=hlo (by omega)
    match t,hn,hv with
    | [],_,hv=>simp [checkN] at hv
    | x :: t,hn,hv =>
     by_cases hx:x.toNat<lo∨hi<x.toNat
     ·simp [checkN,hx] at hv
     ·have hv':validD t=true:=by simpa [checkN,hx,show ¬ t.length+1+1<2 by omega] using hv
      rw [List.flatMap_cons,hq,List.flatMap_cons,quoteB_high (c:=x) (by omega)]
      simp only [List.cons_append,List.nil_append]
      rw [lead2]
      simp only [checkN,List.length_cons,List.getD_cons_succ,List.getD_cons_zero,if_true]
      rw [if_neg (by omega)]
      exact valid_quote n t (by simp at hn;omega) hv'
   by_cases h3:sz=3
   ·subst h3
    replace hlo:=hlo (by omega)
    match t,hn,hv with
    | [],_,hv=>simp [checkN] at hv
    | [x],_,hv=>simp [checkN] at hv
    | x :: y :: t,hn,hv =>
     by_cases hx:x.toNat<lo∨hi<x.toNat∨y.toNat<128∨191<y.toNat
     ·simp [checkN,hx] at hv
     ·have hv':validD t=true:=by simpa [checkN,hx,show ¬ t.length+1+1+1<3 by omega] using hv
      rw [List.flatMap_cons,hq,List.flatMap_cons,quoteB_high (c:=x) (by omega),List.flatMap_cons,quoteB_high (c:=y) (by omega)]
      simp only [List.cons_append,List.nil_append]
      rw [lead2]
      simp only [checkN,List.length_cons,List.getD_cons_succ,List.getD_cons_zero,if_true]
      rw [if_neg (by decide),if_neg (by omega)]
      exact valid_quote n t (by simp at hn;omega) hv'
   by_cases h4:sz=4
   ·subst h4
    replace hlo:=hlo (by omega)
    match t,hn,hv with
    | [],_,hv=>simp [checkN] at hv
    | [x],_,hv=>simp [checkN] at hv
    | [x,y],_,hv=>simp [checkN] at hv
    | x :: y :: z :: t,hn,hv =>
     by_cases hx:x.toNat<lo∨hi<x.toNat∨y.toNat<128∨191<y.toNat∨z.toNat<128∨191<z.toNat
     ·simp [checkN,hx] at hv
     ·have hv':validD t=true:=by simpa [checkN,hx,show ¬ t.length+1+1+1+1<4 by omega] using hv
      rw [List.flatMap_cons,hq,List.flatMap_cons,quoteB_high (c:=x) (by omega),List.flatMap_cons,quoteB_high (c:=y) (by omega),List.flatMap_cons,quoteB_high (c:=z) (by omega)]
      simp only [List.cons_append,List.nil_append]
      rw [lead2]
      simp only [checkN,List.length_cons,List.getD_cons_succ,List.getD_cons_zero,if_true]
      rw [if_neg (by decide),if_neg (by decide),if_neg (by omega)]
      exact valid_quote n t (by simp at hn;omega) hv'
   ·simp [checkN,h2,h3,h4] at hv
end Go.Proofs.YtpbnhnilfpoljaaGreatDoor.V
namespace Go.Proofs.YtpbnhnilfpoljaaGreatDoor.V
open Go.RowKit
open Go.Lib
theorem okP_valid (t:List UInt8):okP t=validD t:=(U.valid_ok ⟨t.toArray⟩).symm
theorem validD_app {a b:List UInt8} (ha:validD a=true) (hb:validD b=true):validD (a++b)=true:=by
 have h1:U.okB ⟨a.toArray⟩=true:=by rw [← U.valid_ok];exact ha
 have h2:U.okB ⟨b.toArray⟩=true:=by rw [← U.valid_ok];exact hb
 have h3:=U.okB_append _ _ h1 h2
 rw [← U.valid_ok] at h3
 have he:((⟨a.toArray⟩:ByteArray)++⟨b.toArray⟩).data.toList=a++b:=by simp
 rw [he] at h3
 exact h3
theorem validD_asc (a:List UInt8) (h:∀ b∈a,b.toNat<128):validD a=true:=by
 have:=valid_ascii_app a [] h
 rw [List.append_nil] at this
 rw [this];rfl
theorem validD_c {c:UInt8} {t:List UInt8} (h:c.toNat<128) (ht:validD t=true):validD (c :: t)=true:=by rw [validD_cons c t h];exact ht
theorem valid_quoteT {t:List UInt8} (h:okP t=true):validD (quoteT t)=true:=by
 rw [okP_valid] at h
 exact validD_c (by decide) (validD_app (valid_quote _ t (Nat.le_refl _) h) (by decide +kernel))
theorem keysP_ok:∀ {ks seen:List (List UInt8)},keysP ks seen=true→∀ k∈ks,okP k=true
 | [],_,_,k,hk=>absurd hk (List.not_mem_nil)
 | x :: r,seen,h,k,hk=>by
  rw [keysP] at h
  simp only [Bool.and_eq_true] at h
  rcases List.mem_cons.1 hk with h1|h1
  ·rw [h1];exact h.1.1
  ·exact keysP_ok h.2 k h1
mutual
theorem valid_write:∀ (v:Val),rightP v=true→validD (write v)=true
 | .mk so on n t l ks,h=>by
  rcases right_form h with ⟨rfl,rfl,rfl,rfl,rfl,rfl⟩|⟨rfl,rfl,rfl,rfl,rfl⟩|⟨rfl,rfl,rfl,rfl,rfl,hn⟩|⟨rfl,rfl,rfl,rfl,rfl,ht⟩|⟨rfl,rfl,rfl,rfl,rfl,hl⟩|⟨rfl,rfl,rfl,rfl,hkl,hkp,hl⟩
  ·decide +kernel
  ·cases on <;> decide +kernel
  ·have hw:write (.mk 2 false n [] [] [])=itoa n:=by simp [write]
   rw [hw]
   refine validD_asc _ fun b hb=>?_
   have hk:∀ k:Fin 256,numB (UInt8.ofNat k.val)=true→k.val<128:=by decide +kernel
   have:=hk ⟨b.toNat,b.toNat_lt⟩
   simp only [u8_eta] at this
   exact this (itoa_num n b hb)
  ·have hw:write (.mk 3 false 0 t [] [])=quoteT t:=by simp [write]
   rw [hw];exact valid_quoteT ht
  ·have hw:write (.mk 4 false 0 [] l [])=91 :: (writeL l++[93]):=by simp [write]
   rw [hw]
   exact validD_c (by decide) (validD_app (valid_writeL l hl) (by decide +kernel))
  ·have hw:write (.mk 5 false 0 [] l ks)=123 :: (writeR ks l++[125]):=by simp [write]
   rw [hw]
   exact validD_c (by decide) (validD_app (valid_writeR l ks hl hkl (keysP_ok hkp)) (by decide +kernel))
theorem valid_writeL:∀ (l:List Val),rightPs l=true→validD (writeL l)=true
 | [],_=>by simp only [writeL];rfl
 | v :: r,h=>by
  simp only [rightPs,Bool.and_eq_true] at h
  simp only [writeL]
  exact validD_app (valid_write v h.1) (valid_writeL1 r h.2)
theorem valid_writeL1:∀ (l:List Val),rightPs l=true→validD (writeL1 l)=true
 | [],_=>by simp only [writeL1];rfl
 | v :: r,h=>by
  simp only [rightPs,Bool.and_eq_true] at h
  simp only [writeL1]
  exact validD_c (by decide) (validD_app (valid_write v h.1) (valid_writeL1 r h.2))
theorem valid_writeR:∀ (l:List Val) (ks:List (List UInt8)),rightPs l=true→ks.length=l.length→(∀ k∈ks,okP k=true)→validD (writeR ks l)=true
 | [],ks,_,_,_=>by simp only [writeR];rfl
 | v :: r,[],_,hk,_=>by simp at hk
 | v :: r,k :: kr,h,hk,ho=>by
  simp only [rightPs,Bool.and_eq_true] at h
  simp only [writeR,List.headD_cons,List.tail_cons]
  exact validD_app (valid_quoteT (ho k (List.mem_cons_self))) (validD_c (by decide) (validD_app (valid_write v h.1) (valid_writeR1 r kr h.2 (by simpa using hk) (fun x hx=>ho x (List.mem_cons_of_mem _ hx)))))
theorem valid_writeR1:∀ (l:List Val) (ks:List (List UInt8)),rightPs l=true→ks.length=l.length→(∀ k∈ks,okP k=true)→validD (writeR1 ks l)=true
 | [],ks,_,_,_=>by simp only [writeR1];rfl
 | v :: r,[],_,hk,_=>by simp at hk
 | v :: r,k :: kr,h,hk,ho=>by
  simp only [rightPs,Bool.and_eq_true] at h
  simp only [writeR1,List.headD_cons,List.tail_cons]
  exact validD_c (by decide) (validD_app (valid_quoteT (ho k (List.mem_cons_self))) (validD_c (by decide) (validD_app (valid_write v h.1) (valid_writeR1 r kr h.2 (by simpa using hk) (fun x hx=>ho x (List.mem_cons_of_mem _ hx))))))
end
theorem readB_write (v:Val) (h:rightTop v=true):readB ⟨(write v).toArray⟩=.ok v:=by
 have hr:rightP v=true:=by simp only [rightTop,Bool.and_eq_true] at h;exact h.2
 have ho:U.okB ⟨(write v).toArray⟩=true:=by rw [← U.valid_ok];exact valid_write v hr
 unfold readB
 rw [if_pos ho]
 exact readP_write v h
end Go.Proofs.YtpbnhnilfpoljaaGreatDoor.V
namespace Go.Proofs.YtpbnhnilfpoljaaGreatDoor.V
open Go.RowKit
open Go.Lib
end Go.Proofs.YtpbnhnilfpoljaaGreatDoor.V
namespace Go.Proofs.YtpbnhnilfpoljaaGreatDoor.V
open Go.RowKit
open Go.Lib
end Go.Proofs.YtpbnhnilfpoljaaGreatDoor.V
namespace Go.Proofs.YtpbnhnilfpoljaaGreatDoor.V
open Go.RowKit
open Go.Lib
end Go.Proofs.YtpbnhnilfpoljaaGreatDoor.V
namespace Go.Proofs.YtpbnhnilfpoljaaGreatDoor.V
open Go.RowKit
open Go.Lib
end Go.Proofs.YtpbnhnilfpoljaaGreatDoor.V
namespace Go.Proofs.YtpbnhnilfpoljaaGreatDoor.V
open Go.RowKit
open Go.Lib
end Go.Proofs.YtpbnhnilfpoljaaGreatDoor.V
namespace Go.Proofs.YtpbnhnilfpoljaaGreatDoor.V
open Go.RowKit
open Go.Lib
theorem wtL_snoc:∀ (l:List Val) (v:Val),wtL (l++[v])=wtL l+wt v
 | [],v=>by simp [wtL]
 | x :: r,v=>by simp only [List.cons_append,wtL,wtL_snoc r v];omega
def sumK (ks:List (List UInt8)):Nat:=(ks.map fun k=>k.length+1).sum
theorem sumK_snoc (ks:List (List UInt8)) (k:List UInt8):sumK (ks++[k])=sumK ks+(k.length+1):=by simp [sumK]
end Go.Proofs.YtpbnhnilfpoljaaGreatDoor.V
namespace Go.Proofs.YtpbnhnilfpoljaaGreatDoor.V
open Go.RowKit
open Go.Lib
structure Bl (b:UInt8):Prop where
 blank:blank b=true
 hex:hexv b=none
 letter:escLetter b=none
 num:numB b=false
 ne:b≠34∧b≠92∧b≠117∧b≠58∧b≠91∧b≠93∧b≠123∧b≠125∧b≠44
end Go.Proofs.YtpbnhnilfpoljaaGreatDoor.V
namespace Go.Proofs.YtpbnhnilfpoljaaGreatDoor.V
open Go.RowKit
open Go.Lib
def T (b:UInt8) (r:List UInt8):List UInt8:=if r=[] then [] else r++[b]
end Go.Proofs.YtpbnhnilfpoljaaGreatDoor.V
namespace Go.Proofs.YtpbnhnilfpoljaaGreatDoor.V
open Go.RowKit
open Go.Lib
end Go.Proofs.YtpbnhnilfpoljaaGreatDoor.V
namespace Go.Proofs.YtpbnhnilfpoljaaGreatDoor.V
open Go.RowKit
open Go.Lib
def sameTop (v v':Val):Bool:=nestP v 65536&&sameP v v'
set_option maxHeartbeats 1000000 in
theorem same_top (so so':Int) (on on':Bool) (n n':Int) (t t':List UInt8) (l l':List Val) (ks ks':List (List UInt8)) (lv kv lv' kv':Value) (R R':Nat→Prop) (w:World) (hv:ValIn w R (.mk so on n t l ks) lv kv) (hv':ValIn w R' (.mk so' on' n' t' l' ks') lv' kv')
  (hw:wt (.mk so on n t l ks)≤1099511627776) (hw':wt (.mk so' on' n' t' l' ks')≤1099511627776) :
  Calls Tryz.prog 19 #[arg (.mk so on n t l ks) lv kv,arg (.mk so' on' n' t' l' ks') lv' kv'] w fun e w'=>e=.returned (.bool (sameTop (.mk so on n t l ks) (.mk so' on' n' t' l' ks')))∧Below w.heap.size w w':=by
 have cN:=fun W (hb:Below w.heap.size w W)=>nest_any (.mk so on n t l ks) lv kv R 65536 W (hv.later (fun b _ hb'=>hb.block b hb') (fun _ h=>h) _ _ _) (by omega) hw
 have cR:=fun W (hb:Below w.heap.size w W)=>same_v (.mk so on n t l ks) (.mk so' on' n' t' l' ks') lv kv lv' kv' R R' W (hv.later (fun b _ hb'=>hb.block b hb') (fun _ h=>h) _ _ _) (hv'.later (fun b _ hb'=>hb.block b hb') (fun _ h=>h) _ _ _) hw hw'
 have hx:=hv
 obtain ⟨⟨a1,c1,rfl,_⟩,⟨a2,c2,rfl,_⟩⟩:=hx
 have hx':=hv'
 obtain ⟨⟨a1',c1',rfl,_⟩,⟨a2',c2',rfl,_⟩⟩:=hx'
 unfold sameTop
 generalize nestP (.mk so on n t l ks) 65536=b1 at cN ⊢
 generalize sameP (.mk so on n t l ks) (.mk so' on' n' t' l' ks')=b2 at cR ⊢
 simp only [arg,six',six,strCell] at cN cR ⊢
 have HR:=Lib.hid cR
 clear hv hw hv' hw' cR
 go_enter Tryz.func19,Tryz.ntmps19
 go_wp2_with fail
 obtain ⟨t1,t2,tb,tz⟩:=two w (.cells #[Value.int IntKind.i64 so,Value.bool on,Value.int IntKind.i64 n,Value.string { data:=t.toArray },Value.slice a1 l.length c1,Value.slice a2 ks.length c2] 36) (.cells #[Value.int IntKind.i64 so',Value.bool on',Value.int IntKind.i64 n',Value.string { data:=t'.toArray },Value.slice a1' l'.length c1',Value.slice a2' ks'.length c2'] 36)
 refine (cN _ tb).mono ?_
 rintro e w1 ⟨rfl,hb1⟩
 have HB1:=Lib.hid (tb.trans (hb1.mono (by omega)))
 have hx:=(hb1.block w.heap.size (by omega)).trans t1
 have hy:=(hb1.block (w.heap.size+1) (by omega)).trans t2
 obtain ⟨⟨j0,j1,j2,j3,j4,j5⟩,jf⟩:=cells_six hx
 obtain ⟨⟨k0,k1,k2,k3,k4,k5⟩,kf⟩:=cells_six hy
 clear cN hb1 hx hy t1 t2 tb tz
 cases b1 with
 | false =>
  go_wp2_with fail
  go_ret
  exact ⟨rfl,HB1.out⟩
 | true =>
  have cT:=HR.out w1 HB1.out
  go_wp2_with fail
  refine cT.mono ?_
  rintro e w3 ⟨rfl,hb3⟩
  have HB3:=Lib.hid (HB1.out.trans (hb3.mono HB1.out.size))
  clear cT hb3
  go_wp2_with fail
  go_ret
  exact ⟨rfl,HB3.out⟩
end Go.Proofs.YtpbnhnilfpoljaaGreatDoor.V
namespace Go.Proofs.YtpbnhnilfpoljaaGreatDoor.V
open Go.RowKit
open Go.Lib
theorem ListIn.one {W:World} {R:Nat→Prop}:∀ {l:List Val} {xs:List Value},ListIn W R l xs→∀ u∈xs,u.oneCell'=true
 | [],xs,h,u,hu=>by
  have h:xs=[]:=h
  subst h;cases hu
 | .mk so on n t l' ks :: r,xs,h,u,hu=>by
  obtain ⟨lv,kv,rest,rfl,hv,hr⟩:=h
  obtain ⟨⟨a1,c1,rfl,_⟩,⟨a2,c2,rfl,_⟩⟩:=hv
  rcases List.mem_append.1 hu with h1|h1
  ·simp only [six',six,strCell,List.mem_cons,List.not_mem_nil,or_false] at h1
   rcases h1 with rfl|rfl|rfl|rfl|rfl|rfl <;> rfl
  ·exact ListIn.one hr u h1
set_option maxHeartbeats 2000000 in
theorem clone_values (l:List Val) (a1:Option Addr) (c1:Nat) (R:Nat→Prop) (w:World) (hl:l=[]∨∃ g off xs,a1=some ⟨g,off,none⟩∧R g∧CellsAt w g off xs∧ListIn w R l xs) (hlb:l.length≤1099511627776) :
  Calls Tryz.prog 119 #[.slice a1 l.length c1] w fun e w'=>∃ v' xs,e=.returned v'∧ListIn w R l xs∧w'.ownsRow w.heap.size 36 6 v' l.length xs∧Below w.heap.size w w':=by
 have q32:∀ (w:World) (a:Option Addr) (n c n' c':Nat),(binOp .eql 34 (.slice a n c) (.slice none n' c')).run Tryz.prog w=.ok (.bool a.isNone) w:=fun w a n c n' c'=>Lib.run_eql_slice_nil w _ _ a n c n' c' Tryz.underlying34
 have u32:∀ w,Sem.run Tryz.prog (underlying 34) w=.ok (TypeDesc.slice 36) w:=run_underlying Tryz.underlying34
 obtain ⟨i0,hi0,hz0,hz1,hz2⟩:=info_parts infoV
 cases a1 with
 | none =>
  have hl0:l=[]:=by
   rcases hl with h|⟨g,off,xs,h,_⟩
   ·exact h
   ·cases h
  subst hl0
  clear hl
  simp only [List.length_nil]
  go_enter Tryz.func119,Tryz.ntmps119
  go_wp2_with fail
  go_ret
  exact ⟨.slice none 0 0,[],rfl,rfl,World.ownsRow_nil _ _ _ _,Below.refl _ _⟩
 | some p =>
  obtain ⟨xs,hL,hcell⟩:∃ xs,ListIn w R l xs∧∀ j u,xs[j]?=some u→w.cell? (p.add j)=some u:=by
   rcases hl with h|⟨g,off,xs,h,_,hc,hL⟩
   ·subst h;exact ⟨[],rfl,fun j u h=>by simp at h⟩
   ·cases h
    refine ⟨xs,hL,fun j u hj=>?_⟩
    rw [Addr.add_lit]
    exact hc j u hj
  have HCELL:=Lib.hid hcell
  have HLI:=Lib.hid hL
  have HONE:=Lib.hid hL.one
  have HLEN:=Lib.hid hL.length
  clear hl hcell hL
  generalize l.length=n at hlb HLEN ⊢
  go_enter Tryz.func119,Tryz.ntmps119
  go_wp2_with (at_builtin;refine wpList_append_own _ rfl _ _ 34 rfl w.heap.size 36 i0 _ 6 88 Tryz.underlying34 hi0 hz0 hz1 hz2 rfl (by decide) _ _ _ rfl (World.ownsRow_made w #[] 0 (Nat.le_refl _) (Nat.zero_le _) rfl) p n c1 xs rfl ?qc1 ?qc2 ?qc3 ?qc4 ?qc5 ?qc6 ?_)
  case qc1=>rw [HLEN.out];omega
  case qc2=>exact fun j u hj=>Lib.cell?_alloc_some _ (HCELL.out j u hj)
  case qc3=>exact HONE.out
  case qc4=>unfold maxLen;omega
  case qc5=>omega
  case qc6=>simp
  intro v' w1 hown hgrow hnil
  go_wp2
  go_ret
  exact ⟨v',xs,rfl,HLI.out,by simpa using hown,((Below.refl _ w).alloc (Nat.le_refl _) _).grown hgrow (by simp) (by intro k hk;simp [Value.ownBlock] at hk;omega)⟩
theorem clone_keys (ks:List (List UInt8)) (kv:Value) (R:Nat→Prop) (w:World) (h:KeysIn w R ks kv) (hb:ks.length≤1099511627776) :
  Calls Tryz.prog 118 #[kv] w fun e w'=>∃ v',e=.returned v'∧w'.ownsRow w.heap.size 9 1 v' ks.length (ks.map strCell)∧Below w.heap.size w w':=by
 obtain ⟨a,c,rfl,h1⟩:=h
 cases a with
 | none =>
  have hk0:ks=[]:=by
   rcases h1 with h|⟨g,off,h,_⟩
   ·exact h
   ·cases h
  subst hk0
  exact (Tryz.slices_Clone_string_nil 0 c w).mono fun e w' ⟨h1,h2⟩=>⟨.slice none 0 0,h1,World.ownsRow_nil _ _ _ _,by rw [h2];exact Below.refl _ _⟩
 | some p =>
  rcases h1 with h1|⟨g,off,h2,_,hc⟩
  ·subst h1
   exact (Tryz.slices_Clone_string_zero p c w).mono fun e w' ⟨v',h1,h2,_,h3⟩=>⟨v',h1,h2,h3⟩
  ·cases h2
   refine (Tryz.slices_Clone_string g off ks.length c (ks.map fun k=>⟨k.toArray⟩) w (by simp) (by omega) ?_).mono fun e w' ⟨v',h1,h2,_,h3⟩=>⟨v',h1,?_,h3⟩
   ·intro j hj
    exact hc j _ (by simp at hj;simp [hj,strCell])
   ·rw [List.take_of_length_le (by simp),List.map_map] at h2
    exact h2
end Go.Proofs.YtpbnhnilfpoljaaGreatDoor.V
namespace Go.Proofs.YtpbnhnilfpoljaaGreatDoor.V
open Go.RowKit
open Go.Lib
theorem keys_own {W:World} {B:Nat} {v:Value} {ks:List (List UInt8)} (h:W.ownsRow B 9 1 v ks.length (ks.map strCell)):KeysIn W (fun g=>B≤g) ks v:=by
 rcases h.2 with ⟨rfl,h0⟩|⟨g,cap,cur,rfl,hg,hgg,hle,hcap,hsz,htake⟩
 ·exact ⟨none,0,by rw [h0],.inl (List.eq_nil_of_length_eq_zero h0)⟩
 ·refine ⟨_,cap,rfl,.inr ⟨g,0,rfl,hg,?_⟩⟩
  intro j u hj
  have h:=World.ownsRowF.cells (World.ownsRowF_of h) (g:=g) rfl j u hj
  rw [show (⟨g,0,none⟩:Addr).add j=⟨g,0+j,none⟩ from by unfold Addr.add;split <;> simp_all] at h
  exact h
set_option maxHeartbeats 4000000 in
theorem copy_leaf (so:Int) (on:Bool) (n:Int) (t:List UInt8) (ks:List (List UInt8)) (lv kv:Value) (R:Nat→Prop) (w:World) (hv:ValIn w R (.mk so on n t [] ks) lv kv) (hkl:ks.length≤1099511627776) :
  Calls Tryz.prog 90 #[arg (.mk so on n t [] ks) lv kv] w fun e w'=>∃ lv' kv',e=.returned (arg (.mk so on n t [] ks) lv' kv')∧ValIn w' (fun g=>w.heap.size≤g) (.mk so on n t [] ks) lv' kv'∧Below w.heap.size w w':=by
 have hv':=hv
 obtain ⟨⟨a1,c1,rfl,_⟩,hk⟩:=hv'
 have hk':=hk
 obtain ⟨a2,c2,rfl,_⟩:=hk'
 have cK:=fun W (hb:Below w.heap.size w W)=>clone_keys ks (.slice a2 ks.length c2) R W (hk.later (fun b _ hb'=>hb.block b hb') (fun _ h=>h)) hkl
 have cL:=fun W (hb:Below w.heap.size w W)=>clone_values [] a1 c1 R W (parts_of (hv.later (fun b _ hb'=>hb.block b hb') (fun _ h=>h) _ _ _)) (by simp)
 have HL:=Lib.hid cL
 clear cL hk hv
 simp only [arg,six',six,strCell,List.length_nil] at HL ⊢
 go_enter Tryz.func90,Tryz.ntmps90
 go_wp2_with fail
 obtain ⟨t1,t2,tb,tz⟩:=two w (.cells #[Value.int IntKind.i64 so,Value.bool on,Value.int IntKind.i64 n,Value.string { data:=t.toArray },Value.slice a1 0 c1,Value.slice a2 ks.length c2] 36) (.cells #[.int .i64 0,.bool false,.int .i64 0,.string ⟨#[]⟩,.slice none 0 0,.slice none 0 0] 36)
 refine (cK _ tb).mono ?_
 rintro e w1 ⟨kv1,rfl,hk1,hb1⟩
 have hx:=(hb1.block w.heap.size (by omega)).trans t1
 have hy:=(hb1.block (w.heap.size+1) (by omega)).trans t2
 have HB1:=Lib.hid (tb.trans (hb1.mono (by omega)))
 have hz1:=hb1.size
 rw [tz] at hz1 hk1
 have HK1:=Lib.hid (keys_own hk1)
 obtain ⟨ka,kc,rfl⟩:=slice_form hk1
 obtain ⟨⟨k0,k1,k2,k3,k4,k5⟩,kf⟩:=cells_six hx
 clear cK hb1 tb tz t1 t2 hk1
 go_wp2_with fail
 have hb2:=HB1.out.setCell (p:=⟨w.heap.size,5,none⟩) (Nat.le_refl _) (.slice ka ks.length kc)
 refine (HL.out _ hb2).mono ?_
 rintro e w2 ⟨lv1,xs,rfl,_,hl1,hb3⟩
 have hz3:=hb3.size
 have HB2:=Lib.hid (hb2.trans (hb3.mono (by simp;omega)))
 have hx2:=(hb3.block w.heap.size (by simp;omega)).trans (Go.Joins.block_setCell (i:=5) hx (.slice ka ks.length kc))
 have hy2:=(hb3.block (w.heap.size+1) (by simp;omega)).trans ((Below.heap_setCell _ _ _ _ (by simp)).trans hy)
 have HK2:=Lib.hid (HK1.out.later (W':=w2) (R':=fun g=>w.heap.size+2≤g) (fun g hg hlt=>(hb3.block g (by simpa using hlt)).trans (Below.heap_setCell _ _ _ _ (by simp;omega))) (fun _ h=>h))
 rw [sc_size] at hz3
 obtain ⟨la,lc,rfl⟩:=slice_form hl1
 clear hb2 hx hy k0 k1 k2 k3 k4 k5 kf HK1 hl1 hb3 HL
 obtain ⟨⟨k0,k1,k2,k3,k4,k5⟩,kf⟩:=cells_six hx2
 go_wp2_with fail
 have hb4:=HB2.out.setCell (p:=⟨w.heap.size,4,none⟩) (Nat.le_refl _) (.slice la 0 lc)
 have hx4:=Go.Joins.block_setCell (i:=4) hx2 (.slice la 0 lc)
 have hy4:=(Below.heap_setCell w2 ⟨w.heap.size,4,none⟩ (.slice la 0 lc) (w.heap.size+1) (by simp)).trans hy2
 have HK4:=Lib.hid (HK2.out.later (W':=w2.setCell ⟨w.heap.size,4,none⟩ (.slice la 0 lc)) (R':=fun g=>w.heap.size+2≤g) (fun g hg hlt=>Below.heap_setCell _ _ _ _ (by simp;omega)) (fun _ h=>h))
 have HB4:=Lib.hid hb4
 generalize w2.setCell ⟨w.heap.size,4,none⟩ (.slice la 0 lc)=w4 at hb4 hx4 hy4 HK4 HB4 ⊢
 clear hx2 hy2 HK2 k0 k1 k2 k3 k4 k5 kf hb4
 go_loopw [16] (fun iv wr=>iv=.int .i64 0∧wr=w4) (fun iv _=>0)
 case atStart=>exact ⟨rfl,rfl⟩
 case round =>
  obtain ⟨rfl,rfl⟩:=hrel
  obtain ⟨⟨k0,k1,k2,k3,k4,k5⟩,kf⟩:=cells_six hx4
  obtain ⟨⟨j0,j1,j2,j3,j4,j5⟩,jf⟩:=cells_six hy4
  go_wp2_with fail
  refine bodyPost_ret (v:=.agg #[.int .i64 so,.bool on,.int .i64 n,.string ⟨t.toArray⟩,.slice la 0 lc,.slice ka ks.length kc]) (by simp [results,Tryz.results90,go_sem,j0,j1,j2,j3,j4,j5]) rfl ?_
  refine ⟨_,_,rfl,⟨⟨la,lc,rfl,.inl rfl⟩,?_⟩,?_⟩
  ·exact HK4.out.later (fun g hg _=>far6 wr (w.heap.size+1) g _ _ _ _ _ _ (by omega)) (fun g hg=>by omega)
  ·exact (((((HB4.out.setCell (p:=⟨w.heap.size+1,0,none⟩) (Nat.le_succ _) _).setCell (p:=⟨w.heap.size+1,1,none⟩) (Nat.le_succ _) _).setCell (p:=⟨w.heap.size+1,2,none⟩) (Nat.le_succ _) _).setCell (p:=⟨w.heap.size+1,3,none⟩) (Nat.le_succ _) _).setCell (p:=⟨w.heap.size+1,4,none⟩) (Nat.le_succ _) _).setCell (p:=⟨w.heap.size+1,5,none⟩) (Nat.le_succ _) _
end Go.Proofs.YtpbnhnilfpoljaaGreatDoor.V
namespace Go.Proofs.YtpbnhnilfpoljaaGreatDoor.V
open Go.RowKit
open Go.Lib
theorem six_set {W:World} {q:Nat} {c0 c1 c2 c3 c4 c5:Value} {t:TypeId} (h:W.heap[q]?=some (.cells #[c0,c1,c2,c3,c4,c5] t (0,0))) (x0 x1 x2 x3 x4 x5:Value) :
  ((((((W.setCell ⟨q,0,none⟩ x0).setCell ⟨q,1,none⟩ x1).setCell ⟨q,2,none⟩ x2).setCell ⟨q,3,none⟩ x3).setCell ⟨q,4,none⟩ x4).setCell ⟨q,5,none⟩ x5).heap[q]?=some (.cells #[x0,x1,x2,x3,x4,x5] t (0,0)) :=
 Go.Joins.block_setCell (i:=5) (Go.Joins.block_setCell (i:=4) (Go.Joins.block_setCell (i:=3) (Go.Joins.block_setCell (i:=2) (Go.Joins.block_setCell (i:=1) (Go.Joins.block_setCell (i:=0) h x0) x1) x2) x3) x4) x5
theorem below6 {B q:Nat} {w W:World} (h:Below B w W) (hq:B≤q) (x0 x1 x2 x3 x4 x5:Value) :
  Below B w ((((((W.setCell ⟨q,0,none⟩ x0).setCell ⟨q,1,none⟩ x1).setCell ⟨q,2,none⟩ x2).setCell ⟨q,3,none⟩ x3).setCell ⟨q,4,none⟩ x4).setCell ⟨q,5,none⟩ x5) :=
 (((((h.setCell (p:=⟨q,0,none⟩) hq _).setCell (p:=⟨q,1,none⟩) hq _).setCell (p:=⟨q,2,none⟩) hq _).setCell (p:=⟨q,3,none⟩) hq _).setCell (p:=⟨q,4,none⟩) hq _).setCell (p:=⟨q,5,none⟩) hq _
end Go.Proofs.YtpbnhnilfpoljaaGreatDoor.V
namespace Go.Proofs.YtpbnhnilfpoljaaGreatDoor.V
open Go.RowKit
open Go.Lib
abbrev Bld (B b:Nat) (l:List UInt8) (w:World):Prop:=Lib.IsBuilderF 100 5 B b (Lib.byteCells l) w
structure Far (B b:Nat) (w w':World):Prop where
 below:Below B w w'
 others:Lib.OthersKept 5 (some b) w w'
theorem Far.refl (B b:Nat) (w:World):Far B b w w:=⟨Below.refl _ _,Lib.OthersKept.refl _ _ _⟩
theorem Far.trans {B b:Nat} {w w1 w2:World} (h:Far B b w w1) (k:Far B b w1 w2):Far B b w w2:=⟨h.below.trans k.below,h.others.trans k.others⟩
theorem Far.size {B b:Nat} {w w':World} (h:Far B b w w'):w.heap.size≤w'.heap.size:=h.below.size
theorem Far.alloc {B b:Nat} {w w':World} (h:Far B b w w') (hB:B≤w'.heap.size) (o:Obj):Far B b w (w'.alloc o):=⟨h.below.alloc hB o,h.others.alloc o⟩
theorem Far.of_below {B b:Nat} {w w':World} (hB:B≤w.heap.size) (h:Below w.heap.size w w'):Far B b w w':=⟨h.mono hB,fun k _ hk _ _=>(h.block k (Array.getElem?_eq_some_iff.1 hk).1).trans hk⟩
theorem bld_later {B b:Nat} {l:List UInt8} {w w':World} (h:Bld B b l w) (hm:Below w.heap.size w w'):Bld B b l w':=by
 have one:∀ p,Lib.BuilderAtF 100 5 B b p (Lib.byteCells l) w→Lib.BuilderAtF 100 5 B b p (Lib.byteCells l) w':=by
  rintro p ⟨hB,v,hb,hown,hne⟩
  have hlt:b<w.heap.size:=(Array.getElem?_eq_some_iff.1 hb).1
  refine ⟨hB,v,by rw [hm.block b hlt];exact hb,⟨hown.1,?_⟩,hne⟩
  rcases hown.2 with hn|⟨g,cap,cur,fz,hv,hg,hgg,rest⟩
  ·exact .inl hn
  ·refine .inr ⟨g,cap,cur,fz,hv,hg,?_,rest⟩
   rw [hm.block g (Array.getElem?_eq_some_iff.1 hgg).1]
   exact hgg
 exact h.elim (fun x=>.inl (one _ x)) (fun x=>.inr (one _ x))
theorem bld_lt {B b:Nat} {l:List UInt8} {w:World} (h:Bld B b l w):b<w.heap.size:=by
 rcases h with ⟨_,v,hb,_⟩|⟨_,v,hb,_⟩ <;> exact (Array.getElem?_eq_some_iff.1 hb).1
theorem bld_byte (B b:Nat) (l:List UInt8) (c:UInt8) (w:World) (h:Bld B b l w) (hlen:l.length+1≤140737488355328) (hBw:B≤w.heap.size) :
  Calls Tryz.prog 106 #[.pointer (some ⟨b,0,none⟩),.int .u8 (c.toNat:Int)] w fun e w'=>e=.returned .nilIface∧Bld B b (l++[c]) w'∧Far B b w w' :=
 (Builder_WriteByte_k B b (Lib.byteCells l) c.toNat w h (by rw [Lib.byteCells_length];exact hlen) hBw).mono fun e w' ⟨h1,h2,h3,h4⟩=>⟨h1,.inr (by rw [Lib.byteCells_append];exact h2),⟨h3,h4⟩⟩
theorem bld_string (B b:Nat) (l t:List UInt8) (w:World) (h:Bld B b l w) (hlen:l.length+t.length≤140737488355328) (hBw:B≤w.heap.size) :
  Calls Tryz.prog 75 #[.pointer (some ⟨b,0,none⟩),.string ⟨t.toArray⟩] w fun e w'=>(∃ n,e=.returned (.tuple #[n,.nilIface]))∧Bld B b (l++t) w'∧Far B b w w' :=
 (Builder_WriteString_k B b (Lib.byteCells l) ⟨t.toArray⟩ w h (by rw [Lib.byteCells_length,size_mk];exact hlen) hBw).mono fun e w' ⟨h1,h2,h3,h4⟩=>⟨⟨_,h1⟩,.inr (by rw [Lib.byteCells_append];exact h2),⟨h3,h4⟩⟩
theorem drop_at {s:ByteArray} {i:Nat} (h:i<s.size):s.data.toList.drop i=s[i] :: s.data.toList.drop (i+1):=by
 have h':i<s.data.toList.length:=by simpa using h
 rw [List.drop_eq_getElem_cons h'];rfl
theorem quoteB_low {c:UInt8} (h:c<32):quoteB c=[92,117,48,48]++[hexd (c.toNat / 16)]++[hexd (c.toNat % 16)]:=by simp [quoteB,h]
theorem quoteB_esc {c:UInt8} (h:¬ c<32) (h2:c=34∨c=92):quoteB c=[92]++[c]:=by simp only [quoteB,if_neg h,if_pos h2];rfl
theorem quoteB_one {c:UInt8} (h:¬ c<32) (h2:¬ (c=34∨c=92)):quoteB c=[c]:=by simp only [quoteB,if_neg h,if_neg h2]
def hexS:ByteArray:=⟨#[48,49,50,51,52,53,54,55,56,57,97,98,99,100,101,102]⟩
theorem hex_at (n:Nat) (h:n<(⟨#[48,49,50,51,52,53,54,55,56,57,97,98,99,100,101,102]⟩:ByteArray).size):(⟨#[48,49,50,51,52,53,54,55,56,57,97,98,99,100,101,102]⟩:ByteArray)[n]=hexd n:=by
 have hk:∀ k:Fin 16,hexS[k.val]'k.isLt=hexd k.val:=by decide +kernel
 exact hk ⟨n,h⟩
set_option maxHeartbeats 4000000 in
theorem text_s (B b:Nat) (acc:List UInt8) (s:ByteArray) (w:World) (h:Bld B b acc w) (hlen:acc.length+(quoteT s.data.toList).length≤140737488355328) (hBw:B≤w.heap.size) (ht:s.size≤1099511627776) :
  Calls Tryz.prog 78 #[.pointer (some ⟨b,0,none⟩),.string s] w fun e w'=>e=.returned (.tuple #[])∧Bld B b (acc++quoteT s.data.toList) w'∧Far B b w w':=by
 obtain ⟨T,hT⟩:∃ T,acc++quoteT s.data.toList=T:=⟨_,rfl⟩
 rw [hT]
 have hTl:T.length≤140737488355328:=by rw [← hT,List.length_append];exact hlen
 have HT:=Lib.hid (show (acc++[34])++((s.data.toList.drop 0).flatMap quoteB++[34])=T by rw [← hT];simp [quoteT])
 have c1:=bld_byte B b acc 34 w h (by simp [quoteT] at hlen;omega) hBw
 clear hT hlen h
 go_enter Tryz.func78,Tryz.ntmps78
 go_wp2_with fail
 refine c1.mono ?_
 rintro e w1 ⟨rfl,hB1,hb1⟩
 clear c1
 go_wp2_with fail
 have HB1:=Lib.hid hB1
 have HW1:=Lib.hid hb1
 have hz1:=hb1.size
 clear hB1 hb1
 go_loopw [10] (fun iv wr=>∃ (i:Nat) (pre:List UInt8),iv=.int .i64 i∧i≤s.size∧Hid (pre++((s.data.toList.drop i).flatMap quoteB++[34])=T)∧Hid (Bld B b pre wr)∧Hid (Far B b w wr)) (fun iv _=>s.size - (Go.RowKit.intOf iv).toNat)
 case atStart=>exact ⟨0,_,rfl,by omega,HT,HB1,HW1⟩
 case round =>
  obtain ⟨i,pre,rfl,hi,HI,HB,HW⟩:=hrel
  have hz:=HW.out.size
  have hBr:B≤wr.heap.size:=by omega
  by_cases hlt:i<s.size
  ·have hI:=HI.out
   rw [drop_at hlt,List.flatMap_cons] at hI
   by_cases k1:s[i]<32
   ·have t1:decide (((s[i]).toNat:Int)<32)=true:=by have:=UInt8.lt_iff_toNat_lt.1 k1;simp at this;simp;omega
    rw [quoteB_low k1] at hI
    have hl9:pre.length+6≤140737488355328:=by rw [← hI] at hTl;simp at hTl;omega
    have HI2:=Lib.hid (show (pre++[92,117,48,48]++[hexd ((s[i]).toNat / 16)]++[hexd ((s[i]).toNat % 16)])++((s.data.toList.drop (i+1)).flatMap quoteB++[34])=T by rw [← hI];simp)
    have c2:=bld_string B b pre [92,117,48,48] wr HB.out (by simp;omega) hBr
    have hx:(s[i]).toNat<32:=by have:=UInt8.lt_iff_toNat_lt.1 k1;simpa using this
    have hx1:((s[i]).toNat:Int) / 16<16:=by omega
    have hx2:((s[i]).toNat:Int) % 16<16:=by omega
    clear k1 hI
    go_wp2_with fail
    refine c2.mono ?_
    rintro e w2 ⟨⟨ln,rfl⟩,hB2,hb2⟩
    have HW2:=Lib.hid (HW.out.trans hb2)
    have c3:=bld_byte B b (pre++[92,117,48,48]) (hexd ((s[i]).toNat / 16)) w2 hB2 (by simp;omega) (Nat.le_trans hBr hb2.size)
    have hB2z:=Nat.le_trans hBr hb2.size
    clear c2 hb2 hB2
    go_wp2_with fail
    simp only [hex_at]
    refine c3.mono ?_
    rintro e w3 ⟨rfl,hB3,hb3⟩
    have HW3:=Lib.hid (HW2.out.trans hb3)
    have c4:=bld_byte B b (pre++[92,117,48,48]++[hexd ((s[i]).toNat / 16)]) (hexd ((s[i]).toNat % 16)) w3 hB3 (by simp;omega) (Nat.le_trans hB2z hb3.size)
    clear c3 hb3 hB3
    go_wp2_with fail
    simp only [hex_at]
    refine c4.mono ?_
    rintro e w4 ⟨rfl,hB4,hb4⟩
    have HB4:=Lib.hid hB4
    have HW4:=Lib.hid (HW3.out.trans hb4)
    clear c4 hb4 hB4
    go_wp2_with fail
    go_roundw
    case rel=>exact ⟨i+1,_,by go_num,by omega,HI2,HB4,HW4⟩
    case measure=>simp [Go.RowKit.intOf];omega
   ·have t1:decide (((s[i]).toNat:Int)<32)=false:=by
     have:¬ (s[i]).toNat<32:=fun h=>k1 (UInt8.lt_iff_toNat_lt.2 (by simpa using h))
     simp;omega
    by_cases k2:s[i]=34∨s[i]=92
    ·rw [quoteB_esc k1 k2] at hI
     have hl9:pre.length+2≤140737488355328:=by rw [← hI] at hTl;simp at hTl;omega
     have HI2:=Lib.hid (show (pre++[92]++[s[i]])++((s.data.toList.drop (i+1)).flatMap quoteB++[34])=T by rw [← hI];simp)
     have c2:=bld_byte B b pre 92 wr HB.out (by omega) hBr
     by_cases k3:s[i]=34
     ·have t2:(((s[i]).toNat:Int)==34)=true:=u8_eq k3
      clear k1 k2 hI k3
      go_wp2_with fail
      refine c2.mono ?_
      rintro e w2 ⟨rfl,hB2,hb2⟩
      have HW2:=Lib.hid (HW.out.trans hb2)
      have c3:=bld_byte B b (pre++[92]) s[i] w2 hB2 (by simp;omega) (Nat.le_trans hBr hb2.size)
      clear c2 hB2 hb2
      go_wp2_with fail
      refine c3.mono ?_
      rintro e w3 ⟨rfl,hB3,hb3⟩
      have HB3:=Lib.hid hB3
      have HW3:=Lib.hid (HW2.out.trans hb3)
      clear c3 hB3 hb3
      go_wp2_with fail
      go_roundw
      case rel=>exact ⟨i+1,_,by go_num,by omega,HI2,HB3,HW3⟩
      case measure=>simp [Go.RowKit.intOf];omega
     ·have t2:(((s[i]).toNat:Int)==34)=false:=u8_ne k3
      have t3:(((s[i]).toNat:Int)==92)=true:=u8_eq (k2.resolve_left k3)
      clear k1 k2 hI k3
      go_wp2_with fail
      refine c2.mono ?_
      rintro e w2 ⟨rfl,hB2,hb2⟩
      have HW2:=Lib.hid (HW.out.trans hb2)
      have c3:=bld_byte B b (pre++[92]) s[i] w2 hB2 (by simp;omega) (Nat.le_trans hBr hb2.size)
      clear c2 hB2 hb2
      go_wp2_with fail
      refine c3.mono ?_
      rintro e w3 ⟨rfl,hB3,hb3⟩
      have HB3:=Lib.hid hB3
      have HW3:=Lib.hid (HW2.out.trans hb3)
      clear c3 hB3 hb3
      go_wp2_with fail
      go_roundw
      case rel=>exact ⟨i+1,_,by go_num,by omega,HI2,HB3,HW3⟩
      case measure=>simp [Go.RowKit.intOf];omega
    ·rw [quoteB_one k1 k2] at hI
     have t2:(((s[i]).toNat:Int)==34)=false:=u8_ne (fun h=>k2 (.inl h))
     have t3:(((s[i]).toNat:Int)==92)=false:=u8_ne (fun h=>k2 (.inr h))
     have hl9:pre.length+2≤140737488355328:=by rw [← hI] at hTl;simp at hTl;omega
     have HI2:=Lib.hid (show (pre++[s[i]])++((s.data.toList.drop (i+1)).flatMap quoteB++[34])=T by rw [← hI];simp)
     have c2:=bld_byte B b pre s[i] wr HB.out (by omega) hBr
     clear k1 k2 hI
     go_wp2_with fail
     refine c2.mono ?_
     rintro e w2 ⟨rfl,hB2,hb2⟩
     have HB2:=Lib.hid hB2
     have HW2:=Lib.hid (HW.out.trans hb2)
     clear c2 hB2 hb2
     go_wp2_with fail
     go_roundw
     case rel=>exact ⟨i+1,_,by go_num,by omega,HI2,HB2,HW2⟩
     case measure=>simp [Go.RowKit.intOf];omega
  ·have hdr:s.data.toList.drop i=[]:=List.drop_eq_nil_of_le (by simp;omega)
   have hI:=HI.out
   rw [hdr] at hI
   have c9:=bld_byte B b pre 34 wr HB.out (by rw [← hI] at hTl;simp at hTl;omega) hBr
   have HF:=Lib.hid hI
   clear hdr hI
   go_wp2_with fail
   refine c9.mono ?_
   rintro e w2 ⟨rfl,hB2,hb2⟩
   have HB2:=Lib.hid hB2
   have HW2:=Lib.hid (HW.out.trans hb2)
   clear c9 hB2 hb2
   go_wp2_with fail
   refine bodyPost_end (results_none rfl _ _ _) rfl ?_
   exact ⟨rfl,by rw [← HF.out];exact HB2.out,HW2.out⟩
end Go.Proofs.YtpbnhnilfpoljaaGreatDoor.V
namespace Go.Proofs.YtpbnhnilfpoljaaGreatDoor.V
open Go.RowKit
open Go.Lib
def WriteC (v:Val):Prop:=∀ (lv kv:Value) (R:Nat→Prop) (B b:Nat) (acc:List UInt8) (w:World),ValIn w R v lv kv→(∀ g,R g→g<B)→Env B w→Bld B b acc w→acc.length+(write v).length≤140737488355328→wt v≤1099511627776→rightP v=true →
 Calls Tryz.prog 42 #[.pointer (some ⟨b,0,none⟩),arg v lv kv] w fun e w'=>e=.returned (.tuple #[])∧Bld B b (acc++write v) w'∧Far B b w w'
def restL (i:Nat) (l:List Val):List UInt8:=if i=0 then writeL l else writeL1 (l.drop i)
def sepL (i:Nat):List UInt8:=if i=0 then [] else [44]
theorem restL_at {i:Nat} {l:List Val} (h:i<l.length):restL i l=sepL i++(write l[i]++restL (i+1) l):=by
 by_cases h0:i=0
 ·subst h0
  cases l with
  | nil=>exact absurd h (Nat.not_lt_zero _)
  | cons v r=>simp [restL,sepL,writeL]
 ·simp only [restL,sepL,if_neg h0,if_neg (Nat.succ_ne_zero i),List.drop_eq_getElem_cons h,writeL1]
  rfl
theorem restL_end {l:List Val}:restL l.length l=[]:=by
 cases l with
 | nil=>rfl
 | cons v r=>simp [restL,writeL1]
theorem rightPs_mem {v:Val}:∀ {l:List Val},rightPs l=true→v∈l→rightP v=true
 | [],_,h=>absurd h (List.not_mem_nil)
 | x :: r,h,hm=>by
  simp only [rightPs,Bool.and_eq_true] at h
  rcases List.mem_cons.1 hm with h1|h1
  ·rw [h1];exact h.1
  ·exact rightPs_mem h.2 h1
set_option maxHeartbeats 4000000 in
theorem list_write (l:List Val) (IH:∀ v∈l,WriteC v) (a1:Option Addr) (c1:Nat) (R:Nat→Prop) (B b:Nat) (acc:List UInt8) (w:World)
  (hl:l=[]∨∃ g off xs,a1=some ⟨g,off,none⟩∧R g∧CellsAt w g off xs∧ListIn w R l xs) (hR:∀ g,R g→g<B) (hE:Env B w) (hB:Bld B b acc w) (hlen:acc.length+(91 :: (writeL l++[93])).length≤140737488355328)
  (hwl:wtL l≤1099511627776) (hri:rightPs l=true) :
  Calls Tryz.prog 79 #[.pointer (some ⟨b,0,none⟩),.slice a1 l.length c1] w fun e w'=>e=.returned (.tuple #[])∧Bld B b (acc++91 :: (writeL l++[93])) w'∧Far B b w w':=by
 have HL:=Lib.hid hl
 have HIH:=Lib.hid IH
 have HE:=Lib.hid hE
 have hBw:=hE.size
 have HWM:=Lib.hid (fun v (h:v∈l)=>Nat.le_trans (wtL_mem h) hwl)
 have HRM:=Lib.hid (fun v (h:v∈l)=>rightPs_mem hri h)
 have hlb:l.length≤1099511627776:=Nat.le_trans (wtL_length l) hwl
 obtain ⟨T,hT⟩:∃ T,acc++91 :: (writeL l++[93])=T:=⟨_,rfl⟩
 rw [hT]
 have hTl:T.length≤140737488355328:=by rw [← hT,List.length_append];exact hlen
 have HT:=Lib.hid (show (acc++[91])++(restL 0 l++[93])=T by rw [← hT];simp [restL])
 have cO:=bld_byte B b acc 91 w hB (by simp at hlen;omega) hBw
 obtain ⟨ln,hln⟩:∃ k,l.length=k:=⟨_,rfl⟩
 have HLN:=Lib.hid hln
 rw [hln] at hlb ⊢
 clear hl IH hE hwl hri hln hB hlen hT
 go_enter Tryz.func79,Tryz.ntmps79
 go_wp2_with fail
 refine cO.mono ?_
 rintro e w1 ⟨rfl,hB1,hb1⟩
 have HB1:=Lib.hid hB1
 have HW1:=Lib.hid hb1
 clear cO hB1 hb1
 go_wp2_with fail
 go_loopw [10] (fun iv wr=>∃ (i:Nat) (pre:List UInt8),iv=.int .i64 i∧i≤ln∧Hid (pre++(restL i l++[93])=T)∧Hid (Bld B b pre wr)∧Hid (Far B b w wr)) (fun iv _=>ln - (Go.RowKit.intOf iv).toNat)
 case atStart=>exact ⟨0,_,rfl,by omega,HT,HB1,HW1⟩
 case round =>
  obtain ⟨i,pre,rfl,hi,HI,HB,HW⟩:=hrel
  have hz:=HW.out.size
  by_cases hlt:i<ln
  ·have hll:i<l.length:=by rw [HLN.out];exact hlt
   obtain ⟨g,off,xs,rfl,hg,hc,hL⟩:=HL.out.resolve_left (fun h=>by rw [h] at hll;exact Nat.not_lt_zero _ hll)
   have hsm:∀ {W},Far B b w W→Same R w W:=fun hf g hg _=>hf.below.block g (hR g hg)
   obtain ⟨so',on',n',t',l',ks',a1',c1',a2',c2',he,hv',k0,k1,k2,k3,k4,k5⟩:=part_at i (ListIn.later (hsm HW.out) (fun _ h=>h) l xs hL) (hc.later hg (hsm HW.out)) hll
   have hI:=HI.out
   rw [restL_at hll,he] at hI
   have cP:=fun W' pre' (hb':Far B b wr W') (hB':Bld B b pre' W') (hl':pre'.length+(write l[i]).length≤140737488355328)=>(HIH.out l[i] (List.getElem_mem hll)) (.slice a1' l'.length c1') (.slice a2' ks'.length c2') R B b pre' W'
    (by rw [he];exact ValIn.later (fun g hg _=>hb'.below.block g (hR g hg)) (fun _ h=>h) _ _ _ hv') hR (HE.out.later (HW.out.trans hb').below) hB' hl' (HWM.out _ (List.getElem_mem hll)) (HRM.out _ (List.getElem_mem hll))
   rw [he] at cP
   obtain ⟨wp,hwp⟩:∃ x,write (.mk so' on' n' t' l' ks')=x:=⟨_,rfl⟩
   simp only [hwp,arg,six',six,strCell] at cP
   rw [hwp] at hI
   have hTl2:=hTl
   rw [← hI] at hTl2
   simp only [List.length_append] at hTl2
   have hBA:=bld_later HB.out ((Below.refl _ _).alloc (Nat.le_refl _) (Obj.cells #[Value.int IntKind.i64 so',Value.bool on',Value.int IntKind.i64 n',Value.string { data:=t'.toArray },Value.slice a1' l'.length c1',Value.slice a2' ks'.length c2'] 36))
   have hFA:=(Far.refl B b wr).alloc (by omega) (Obj.cells #[Value.int IntKind.i64 so',Value.bool on',Value.int IntKind.i64 n',Value.string { data:=t'.toArray },Value.slice a1' l'.length c1',Value.slice a2' ks'.length c2'] 36)
   by_cases h0:i=0
   ·have q:decide (0<i)=false:=decide_eq_false (by omega)
    have HI2:=Lib.hid (show (pre++wp)++(restL (i+1) l++[93])=T by rw [← hI];simp [sepL,h0])
    have hlp:pre.length+wp.length≤140737488355328:=by omega
    clear he hv' hwp hsm hL hc hI hTl2 h0
    go_wp2_with fail
    refine (cP _ _ hFA hBA hlp).mono ?_
    rintro e w3 ⟨rfl,hB3,hb3⟩
    have HB3:=Lib.hid hB3
    have HW3:=Lib.hid (HW.out.trans (hFA.trans hb3))
    clear cP hb3 hB3 hFA hBA
    go_wp2_with fail
    go_roundw
    case rel=>exact ⟨i+1,_,by go_num,by omega,HI2,HB3,HW3⟩
    case measure=>simp [Go.RowKit.intOf];omega
   ·have q:decide (0<i)=true:=decide_eq_true (by omega)
    have HI2:=Lib.hid (show (pre++[44]++wp)++(restL (i+1) l++[93])=T by rw [← hI];simp [sepL,h0])
    have hsp:(sepL i).length=1:=by simp [sepL,h0]
    have hlp:(pre++[44]).length+wp.length≤140737488355328:=by simp;omega
    have cO:=bld_byte B b pre 44 _ hBA (by omega) (by have:=hFA.size;omega)
    have hblt:=bld_lt HB.out
    clear he hv' hwp hsm hL hc hI hTl2 h0
    go_wp2_with fail
    refine cO.mono ?_
    rintro e w2 ⟨rfl,hB2,hb2⟩
    have hblk:=hb2.others wr.heap.size _ (heap_alloc_new wr _) (by simp;omega) (by intro c fz h;cases h)
    obtain ⟨⟨j0,j1,j2,j3,j4,j5⟩,jf⟩:=cells_six hblk
    have hF2:=hFA.trans hb2
    clear cO hb2 hblk
    go_wp2_with fail
    refine (cP _ _ hF2 hB2 hlp).mono ?_
    rintro e w3 ⟨rfl,hB3,hb3⟩
    have HB3:=Lib.hid hB3
    have HW3:=Lib.hid (HW.out.trans (hF2.trans hb3))
    clear cP hb3 hB3 hF2 hB2 hFA hBA
    go_wp2_with fail
    go_roundw
    case rel=>exact ⟨i+1,_,by go_num,by omega,HI2,HB3,HW3⟩
    case measure=>simp [Go.RowKit.intOf];omega
  ·obtain rfl:i=ln:=by omega
   have hI:=HI.out
   rw [← HLN.out,restL_end] at hI
   have c9:=bld_byte B b pre 93 wr HB.out (by rw [← hI] at hTl;simpa using hTl) (by omega)
   have HF:=Lib.hid hI
   clear hI
   go_wp2_with fail
   refine c9.mono ?_
   rintro e w2 ⟨rfl,hB2,hb2⟩
   have HB2:=Lib.hid hB2
   have HW2:=Lib.hid (HW.out.trans hb2)
   clear c9 hB2 hb2
   go_wp2_with fail
   refine bodyPost_end (results_none rfl _ _ _) rfl ?_
   exact ⟨rfl,by rw [← HF.out];exact HB2.out,HW2.out⟩
end Go.Proofs.YtpbnhnilfpoljaaGreatDoor.V
