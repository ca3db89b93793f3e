/- What the claim needs of the texts HBin. -/
import Derived.Test.YtmclaaonlhnbmaaGreatDoorSOp
import Derived.Test.YtmclaaonlhnbmaaGreatDoorS14
import Derived.Test.YtmclaaonlhnbmaaGreatDoorS12
namespace Go.Proofs.YtmclaaonlhnbmaaGreatDoor.H
open Go.RowKit
open Go.Lib hiding intOf
open U S T K
open Go.Proofs.YtmclaaonlhnbmaaGreatDoor.J (arg wtP wtL kids_row kid_at KidAt new_block kids_below Pt.ind wtL_mem wtL_length)
set_option maxHeartbeats 4000000 in
set_option maxRecDepth 20000 in
theorem strength_any (x:By) (xb:ByteArray) (hx:bstr x=xb) (W:World):Calls Tryz.prog 111 #[.string xb] W fun e W'=>e=.returned (.int .i64 (strB x))∧W'=W:=by
 have q:∀ y:By,(xb.toList==y)=decide (x=y):=fun y=>by rw [← hx];exact tb_eq x y
 have Q:=hid q
 clear q hx
 by_cases h0:x=[124,124]
 ·have hv:strB x=1:=by rw [h0];rfl
  have f0:(xb.toList==[124,124])=true:=by rw [Q.out,h0];rfl
  rw [hv]
  clear hv h0
  go_enter Tryz.func111,Tryz.ntmps111
  go_wp2_with fail
  go_ret
  exact ⟨rfl,rfl⟩
 by_cases h1:x=[38,38]
 ·have hv:strB x=2:=by rw [h1];rfl
  have f0:(xb.toList==[124,124])=false:=by rw [Q.out,h1];rfl
  have f1:(xb.toList==[38,38])=true:=by rw [Q.out,h1];rfl
  rw [hv]
  clear hv h0 h1
  go_enter Tryz.func111,Tryz.ntmps111
  go_wp2_with fail
  go_ret
  exact ⟨rfl,rfl⟩
 by_cases h2:x=[61,61]
 ·have hv:strB x=3:=by rw [h2];rfl
  have f0:(xb.toList==[124,124])=false:=by rw [Q.out,h2];rfl
  have f1:(xb.toList==[38,38])=false:=by rw [Q.out,h2];rfl
  have f2:(xb.toList==[61,61])=true:=by rw [Q.out,h2];rfl
  rw [hv]
  clear hv h0 h1 h2
  go_enter Tryz.func111,Tryz.ntmps111
  go_wp2_with fail
  go_ret
  exact ⟨rfl,rfl⟩
 by_cases h3:x=[33,61]
 ·have hv:strB x=3:=by rw [h3];rfl
  have f0:(xb.toList==[124,124])=false:=by rw [Q.out,h3];rfl
  have f1:(xb.toList==[38,38])=false:=by rw [Q.out,h3];rfl
  have f2:(xb.toList==[61,61])=false:=by rw [Q.out,h3];rfl
  have f3:(xb.toList==[33,61])=true:=by rw [Q.out,h3];rfl
  rw [hv]
  clear hv h0 h1 h2 h3
  go_enter Tryz.func111,Tryz.ntmps111
  go_wp2_with fail
  go_ret
  exact ⟨rfl,rfl⟩
 by_cases h4:x=[60]
 ·have hv:strB x=3:=by rw [h4];rfl
  have f0:(xb.toList==[124,124])=false:=by rw [Q.out,h4];rfl
  have f1:(xb.toList==[38,38])=false:=by rw [Q.out,h4];rfl
  have f2:(xb.toList==[61,61])=false:=by rw [Q.out,h4];rfl
  have f3:(xb.toList==[33,61])=false:=by rw [Q.out,h4];rfl
  have f4:(xb.toList==[60])=true:=by rw [Q.out,h4];rfl
  rw [hv]
  clear hv h0 h1 h2 h3 h4
  go_enter Tryz.func111,Tryz.ntmps111
  go_wp2_with fail
  go_ret
  exact ⟨rfl,rfl⟩
 by_cases h5:x=[60,61]
 ·have hv:strB x=3:=by rw [h5];rfl
  have f0:(xb.toList==[124,124])=false:=by rw [Q.out,h5];rfl
  have f1:(xb.toList==[38,38])=false:=by rw [Q.out,h5];rfl
  have f2:(xb.toList==[61,61])=false:=by rw [Q.out,h5];rfl
  have f3:(xb.toList==[33,61])=false:=by rw [Q.out,h5];rfl
  have f4:(xb.toList==[60])=false:=by rw [Q.out,h5];rfl
  have f5:(xb.toList==[60,61])=true:=by rw [Q.out,h5];rfl
  rw [hv]
  clear hv h0 h1 h2 h3 h4 h5
  go_enter Tryz.func111,Tryz.ntmps111
  go_wp2_with fail
  go_ret
  exact ⟨rfl,rfl⟩
 by_cases h6:x=[62]
 ·have hv:strB x=3:=by rw [h6];rfl
  have f0:(xb.toList==[124,124])=false:=by rw [Q.out,h6];rfl
  have f1:(xb.toList==[38,38])=false:=by rw [Q.out,h6];rfl
  have f2:(xb.toList==[61,61])=false:=by rw [Q.out,h6];rfl
  have f3:(xb.toList==[33,61])=false:=by rw [Q.out,h6];rfl
  have f4:(xb.toList==[60])=false:=by rw [Q.out,h6];rfl
  have f5:(xb.toList==[60,61])=false:=by rw [Q.out,h6];rfl
  have f6:(xb.toList==[62])=true:=by rw [Q.out,h6];rfl
  rw [hv]
  clear hv h0 h1 h2 h3 h4 h5 h6
  go_enter Tryz.func111,Tryz.ntmps111
  go_wp2_with fail
  go_ret
  exact ⟨rfl,rfl⟩
 by_cases h7:x=[62,61]
 ·have hv:strB x=3:=by rw [h7];rfl
  have f0:(xb.toList==[124,124])=false:=by rw [Q.out,h7];rfl
  have f1:(xb.toList==[38,38])=false:=by rw [Q.out,h7];rfl
  have f2:(xb.toList==[61,61])=false:=by rw [Q.out,h7];rfl
  have f3:(xb.toList==[33,61])=false:=by rw [Q.out,h7];rfl
  have f4:(xb.toList==[60])=false:=by rw [Q.out,h7];rfl
  have f5:(xb.toList==[60,61])=false:=by rw [Q.out,h7];rfl
  have f6:(xb.toList==[62])=false:=by rw [Q.out,h7];rfl
  have f7:(xb.toList==[62,61])=true:=by rw [Q.out,h7];rfl
  rw [hv]
  clear hv h0 h1 h2 h3 h4 h5 h6 h7
  go_enter Tryz.func111,Tryz.ntmps111
  go_wp2_with fail
  go_ret
  exact ⟨rfl,rfl⟩
 by_cases h8:x=[43]
 ·have hv:strB x=4:=by rw [h8];rfl
  have f0:(xb.toList==[124,124])=false:=by rw [Q.out,h8];rfl
  have f1:(xb.toList==[38,38])=false:=by rw [Q.out,h8];rfl
  have f2:(xb.toList==[61,61])=false:=by rw [Q.out,h8];rfl
  have f3:(xb.toList==[33,61])=false:=by rw [Q.out,h8];rfl
  have f4:(xb.toList==[60])=false:=by rw [Q.out,h8];rfl
  have f5:(xb.toList==[60,61])=false:=by rw [Q.out,h8];rfl
  have f6:(xb.toList==[62])=false:=by rw [Q.out,h8];rfl
  have f7:(xb.toList==[62,61])=false:=by rw [Q.out,h8];rfl
  have f8:(xb.toList==[43])=true:=by rw [Q.out,h8];rfl
  rw [hv]
  clear hv h0 h1 h2 h3 h4 h5 h6 h7 h8
  go_enter Tryz.func111,Tryz.ntmps111
  go_wp2_with fail
  go_ret
  exact ⟨rfl,rfl⟩
 by_cases h9:x=[45]
 ·have hv:strB x=4:=by rw [h9];rfl
  have f0:(xb.toList==[124,124])=false:=by rw [Q.out,h9];rfl
  have f1:(xb.toList==[38,38])=false:=by rw [Q.out,h9];rfl
  have f2:(xb.toList==[61,61])=false:=by rw [Q.out,h9];rfl
  have f3:(xb.toList==[33,61])=false:=by rw [Q.out,h9];rfl
  have f4:(xb.toList==[60])=false:=by rw [Q.out,h9];rfl
  have f5:(xb.toList==[60,61])=false:=by rw [Q.out,h9];rfl
  have f6:(xb.toList==[62])=false:=by rw [Q.out,h9];rfl
  have f7:(xb.toList==[62,61])=false:=by rw [Q.out,h9];rfl
  have f8:(xb.toList==[43])=false:=by rw [Q.out,h9];rfl
  have f9:(xb.toList==[45])=true:=by rw [Q.out,h9];rfl
  rw [hv]
  clear hv h0 h1 h2 h3 h4 h5 h6 h7 h8 h9
  go_enter Tryz.func111,Tryz.ntmps111
  go_wp2_with fail
  go_ret
  exact ⟨rfl,rfl⟩
 by_cases h10:x=[42]
 ·have hv:strB x=5:=by rw [h10];rfl
  have f0:(xb.toList==[124,124])=false:=by rw [Q.out,h10];rfl
  have f1:(xb.toList==[38,38])=false:=by rw [Q.out,h10];rfl
  have f2:(xb.toList==[61,61])=false:=by rw [Q.out,h10];rfl
  have f3:(xb.toList==[33,61])=false:=by rw [Q.out,h10];rfl
  have f4:(xb.toList==[60])=false:=by rw [Q.out,h10];rfl
  have f5:(xb.toList==[60,61])=false:=by rw [Q.out,h10];rfl
  have f6:(xb.toList==[62])=false:=by rw [Q.out,h10];rfl
  have f7:(xb.toList==[62,61])=false:=by rw [Q.out,h10];rfl
  have f8:(xb.toList==[43])=false:=by rw [Q.out,h10];rfl
  have f9:(xb.toList==[45])=false:=by rw [Q.out,h10];rfl
  have f10:(xb.toList==[42])=true:=by rw [Q.out,h10];rfl
  rw [hv]
  clear hv h0 h1 h2 h3 h4 h5 h6 h7 h8 h9 h10
  go_enter Tryz.func111,Tryz.ntmps111
  go_wp2_with fail
  go_ret
  exact ⟨rfl,rfl⟩
 by_cases h11:x=[47]
 ·have hv:strB x=5:=by rw [h11];rfl
  have f0:(xb.toList==[124,124])=false:=by rw [Q.out,h11];rfl
  have f1:(xb.toList==[38,38])=false:=by rw [Q.out,h11];rfl
  have f2:(xb.toList==[61,61])=false:=by rw [Q.out,h11];rfl
  have f3:(xb.toList==[33,61])=false:=by rw [Q.out,h11];rfl
  have f4:(xb.toList==[60])=false:=by rw [Q.out,h11];rfl
  have f5:(xb.toList==[60,61])=false:=by rw [Q.out,h11];rfl
  have f6:(xb.toList==[62])=false:=by rw [Q.out,h11];rfl
  have f7:(xb.toList==[62,61])=false:=by rw [Q.out,h11];rfl
  have f8:(xb.toList==[43])=false:=by rw [Q.out,h11];rfl
  have f9:(xb.toList==[45])=false:=by rw [Q.out,h11];rfl
  have f10:(xb.toList==[42])=false:=by rw [Q.out,h11];rfl
  have f11:(xb.toList==[47])=true:=by rw [Q.out,h11];rfl
  rw [hv]
  clear hv h0 h1 h2 h3 h4 h5 h6 h7 h8 h9 h10 h11
  go_enter Tryz.func111,Tryz.ntmps111
  go_wp2_with fail
  go_ret
  exact ⟨rfl,rfl⟩
 by_cases h12:x=[37]
 ·have hv:strB x=5:=by rw [h12];rfl
  have f0:(xb.toList==[124,124])=false:=by rw [Q.out,h12];rfl
  have f1:(xb.toList==[38,38])=false:=by rw [Q.out,h12];rfl
  have f2:(xb.toList==[61,61])=false:=by rw [Q.out,h12];rfl
  have f3:(xb.toList==[33,61])=false:=by rw [Q.out,h12];rfl
  have f4:(xb.toList==[60])=false:=by rw [Q.out,h12];rfl
  have f5:(xb.toList==[60,61])=false:=by rw [Q.out,h12];rfl
  have f6:(xb.toList==[62])=false:=by rw [Q.out,h12];rfl
  have f7:(xb.toList==[62,61])=false:=by rw [Q.out,h12];rfl
  have f8:(xb.toList==[43])=false:=by rw [Q.out,h12];rfl
  have f9:(xb.toList==[45])=false:=by rw [Q.out,h12];rfl
  have f10:(xb.toList==[42])=false:=by rw [Q.out,h12];rfl
  have f11:(xb.toList==[47])=false:=by rw [Q.out,h12];rfl
  have f12:(xb.toList==[37])=true:=by rw [Q.out,h12];rfl
  rw [hv]
  clear hv h0 h1 h2 h3 h4 h5 h6 h7 h8 h9 h10 h11 h12
  go_enter Tryz.func111,Tryz.ntmps111
  go_wp2_with fail
  go_ret
  exact ⟨rfl,rfl⟩
 have hv:strB x=0:=by simp [strB,h0,h1,h2,h3,h4,h5,h6,h7,h8,h9,h10,h11,h12]
 have f0:(xb.toList==[124,124])=false:=by rw [Q.out];exact decide_eq_false h0
 have f1:(xb.toList==[38,38])=false:=by rw [Q.out];exact decide_eq_false h1
 have f2:(xb.toList==[61,61])=false:=by rw [Q.out];exact decide_eq_false h2
 have f3:(xb.toList==[33,61])=false:=by rw [Q.out];exact decide_eq_false h3
 have f4:(xb.toList==[60])=false:=by rw [Q.out];exact decide_eq_false h4
 have f5:(xb.toList==[60,61])=false:=by rw [Q.out];exact decide_eq_false h5
 have f6:(xb.toList==[62])=false:=by rw [Q.out];exact decide_eq_false h6
 have f7:(xb.toList==[62,61])=false:=by rw [Q.out];exact decide_eq_false h7
 have f8:(xb.toList==[43])=false:=by rw [Q.out];exact decide_eq_false h8
 have f9:(xb.toList==[45])=false:=by rw [Q.out];exact decide_eq_false h9
 have f10:(xb.toList==[42])=false:=by rw [Q.out];exact decide_eq_false h10
 have f11:(xb.toList==[47])=false:=by rw [Q.out];exact decide_eq_false h11
 have f12:(xb.toList==[37])=false:=by rw [Q.out];exact decide_eq_false h12
 rw [hv]
 clear hv h0 h1 h2 h3 h4 h5 h6 h7 h8 h9 h10 h11 h12
 go_enter Tryz.func111,Tryz.ntmps111
 go_wp2_with fail
 go_ret
 exact ⟨rfl,rfl⟩
def takes (p:Pt):Bool:=decide (kindP p=kUnary)&&decide (textP p=[38])
set_option maxHeartbeats 4000000 in
set_option maxRecDepth 20000 in
theorem takes_any {d:Nat} {p:Pt} {lv:Value} {cs:Array Value} {W0:World} (hcs:Value.agg cs=arg p lv) (hv:Lies d p lv W0) (W:World):Calls Tryz.prog 110 #[.agg cs] W fun e W'=>e=.returned (.bool (takes p))∧Below W.heap.size W W':=by
 obtain ⟨k,t,f,e,ks⟩:=p
 obtain ⟨kb,tb,n,a,c,rfl,hkb,htb,hn,rfl⟩:=cs_form hcs hv
 have e1:(kb.toList==kUnary)=decide (k=kUnary):=by rw [← hkb];exact tb_eq k kUnary
 have e2:(tb.toList==[38])=decide (t=[38]):=by rw [← htb];exact tb_eq t [38]
 have ht:takes (.mk k t f e ks)=(decide (k=kUnary)&&decide (t=[38])):=rfl
 rw [ht]
 obtain ⟨b1,hb1⟩:∃ b,decide (k=kUnary)=b:=⟨_,rfl⟩
 obtain ⟨b2,hb2⟩:∃ b,decide (t=[38])=b:=⟨_,rfl⟩
 rw [hb1] at e1 ⊢
 rw [hb2] at e2 ⊢
 unfold kUnary at e1
 clear hb1 hb2 ht hcs hv hkb htb hn
 cases b1
 all_goals cases b2
 all_goals simp only [Bool.and_true,Bool.and_false,Bool.and_self]
 all_goals go_enter Tryz.func110,Tryz.ntmps110
 all_goals go_wp2_with fail
 all_goals go_ret
 all_goals exact ⟨rfl,(Below.refl _ _).alloc (Nat.le_refl _) _⟩
def Two (b b2:Nat) (cs cs2:Array Value) (X:World):Prop:=X.heap[b]?=some (.cells cs 25 (0,0))∧X.heap[b2]?=some (.cells cs2 25 (0,0))
theorem two_of {d b b2:Nat} {cs cs2:Array Value} {X X':World} (h:X.heap[b]?=some (.cells cs 25 (0,0))) (h2:X.heap[b2]?=some (.cells cs2 25 (0,0))) (hk:Kp d X X') (hb:d<b) (hb2:d<b2):Two b b2 cs cs2 X' :=
 ⟨hk.oth _ _ h (by simp;omega) (fun _ _ e=>absurd (Obj.cells.inj e).2.1 (by decide)),hk.oth _ _ h2 (by simp;omega) (fun _ _ e=>absurd (Obj.cells.inj e).2.1 (by decide))⟩
theorem yields_eql {ops:Array Oper} {S:World→Prop} {o:Oper} {a:Act} {p q:ByteArray} {r:Bool} (x y:Operand) (ho:o.op=.binOp .eql 9 x y 9) (hw:Region.wanted o (yielded ops a.tmps)=true) (hx:a.eval x=.string p) (hy:a.eval y=.string q) (hb:(p.toList==q.toList)=r):YieldsIf Tryz.prog ops S o (.bool r) a :=
 .inl ⟨hw,fun X _=>by
  unfold execOp
  simp only [ho,hx,hy]
  have hbb:∀ W:World,(binOp .eql 9 (.string p) (.string q)).run Tryz.prog W=.ok (.bool r) W:=fun W=>by
   simp [go_sem]
   exact hb
  have hg:∀ W:World,(eqGuard BinOp.eql 9 x y (.string p) (.string q)).run Tryz.prog W=.ok () W:=fun W=>by
   simp [go_sem,eqGuard]
  simp [hbb,hg,Result.andThen]⟩
set_option maxHeartbeats 8000000 in
set_option maxRecDepth 20000 in
theorem unary_any {d m ind:Nat} {bs:By} {k t:By} {f e:Int} {ks:List Pt} {lv:Value} {cs:Array Value} {W:World} (hA:AllC d m ks) (hcs:Value.agg cs=arg (.mk k t f e ks) lv) (h:Wr d m ind bs W) (hv:Lies d (.mk k t f e ks) lv W) (hw:wtP (.mk k t f e ks)≤1099511627776) (hd:ind+deep (.mk k t f e ks)≤1099511627776) (hk:k=kUnary) (hl:bs.length+(byt (bodyP pcs ind t ks .unary)).length≤140737488355328) :
  Calls Tryz.prog 69 #[.pointer (some ⟨d,0,none⟩),.agg cs] W (Writes d m ind bs W (byt (bodyP pcs ind t ks .unary))):=by
 obtain ⟨kb,tb,n,a,c,rfl,hkb,htb,hn,rfl⟩:=cs_form hcs hv
 have HTB:=hid htb
 have HV:=hid hcs
 have hx:byt (bodyP pcs ind t ks .unary)=t++byt (held (uHeld t (kidAt ks 0)) (pcs ind (kidAt ks 0))):=by simp [bodyP,byt_wd]
 rw [hx] at hl ⊢
 rw [List.length_append] at hl
 have hP:=hA.kid 0
 have htp:takes (.mk k t f e ks)=decide (t=[38]):=by unfold takes;rw [show decide (kindP (.mk k t f e ks)=kUnary)=true from decide_eq_true hk,Bool.true_and];rfl
 have hwt:=Nat.le_trans (kidAt_wtP (.mk k t f e ks) 0) hw
 have hdp:=Nat.le_trans (Nat.add_le_add_left (kidAt_deep (.mk k t f e ks) 0) ind) hd
 change wtP (kidAt ks 0)≤_ at hwt
 change ind+deep (kidAt ks 0)≤_ at hdp
 have c0:=fun X (hX:Below d W X)=>kidOf_any (.mk k t f e ks) (.slice a n c) (fun g=>g<d) X 0 (hv.later hX) hw (by decide)
 rw [← HV.out] at c0
 change ∀ X,Below d W X→Calls _ _ _ _ (KidPost (kidAt ks 0) _ _) at c0
 obtain ⟨Q,hQ⟩:∃ Q,kidAt ks 0=Q:=⟨_,rfl⟩
 rw [hQ] at hP hwt hdp c0 hl ⊢
 obtain ⟨x,hxx⟩:∃ x:By,byt (held (uHeld t Q) (pcs ind Q))=x:=⟨_,rfl⟩
 rw [hxx] at hl ⊢
 have HX:=hid hxx
 clear hxx
 have HL:=hid hl
 have HP:=hid hP
 have HTP:=hid htp
 clear hx hcs hkb htb hn hQ hA hk hP htp
 go_enter Tryz.func69,Tryz.ntmps69
 go_upto_region 1 with fail
 obtain ⟨w1,hw1,hq1,hb1,hz1⟩:=new_block W (.cells #[.string kb,.string tb,.int .i64 f,.int .i64 e,.slice a n c] 25)
 rw [hw1]
 have HF:=hid (Fr.begin h hv hb1 hq1)
 have cK:=c0 w1 (hb1.mono (Nat.le_of_lt h.bx.lt))
 obtain ⟨⟨p0,p1,p2,p3,p4⟩,pf⟩:=J.cells_five hq1
 clear hw1 hq1 hb1 hz1 hv h c0
 go_wp2_with fail
 refine cK.mono ?_
 rintro e' w2 ⟨lv',rfl,hk2,hb2⟩
 replace HF:=hid (HF.out.later hb2)
 obtain ⟨k2,t2,f2,e2,ks2⟩:=Q
 obtain ⟨a2,c2,rfl⟩:=J.kids_form hk2
 have HV2:=hid (show Value.agg #[.string (bstr k2),.string (bstr t2),.int .i64 f2,.int .i64 e2,.slice a2 ks2.length c2]=arg (.mk k2 t2 f2 e2 ks2) (.slice a2 ks2.length c2) from rfl)
 rw [← HV2.out]
 have HK2:=hid hk2
 obtain ⟨n2,hn2⟩:∃ n,ks2.length=n:=⟨_,rfl⟩
 have e1:((bstr k2).toList==kBinary)=decide (k2=kBinary):=tb_eq k2 kBinary
 unfold kBinary at e1
 obtain ⟨kb2,hkb2⟩:∃ x,bstr k2=x:=⟨_,rfl⟩
 obtain ⟨tb2,htb2⟩:∃ x,bstr t2=x:=⟨_,rfl⟩
 rw [hn2,hkb2,htb2] at HV2 ⊢
 rw [hkb2] at e1
 have HN2:=hid hn2
 clear cK hk2 hb2 hn2 hkb2 htb2 p0 p1 p2 p3 p4 pf
 go_upto_region 2 with fail
 obtain ⟨w3,hw3,hq3,hb3,_⟩:=new_block w2 (.cells #[.string kb2,.string tb2,.int .i64 f2,.int .i64 e2,.slice a2 n2 c2] 25)
 rw [hw3]
 have hd2:=HF.out.wr.bx.lt
 replace HF:=hid (HF.out.later hb3)
 have HK3:=hid (Lies.later HK2.out (hb3.mono (Nat.le_of_lt hd2)))
 have HQ3:=hid hq3
 clear hw3 hb3 hq3 HK2
 have c1:=write1 HF.out.wr tb t (by rw [← HTB.out];rfl) (by omega)
 obtain ⟨⟨p0,p1,p2,p3,p4⟩,pf⟩:=J.cells_five HF.out.box
 go_wp2_with fail
 refine c1.mono ?_
 rintro e' w4 ⟨rfl,hw4,hk4⟩
 replace HF:=hid (HF.out.step hw4 hk4)
 have HK4:=hid (HK3.out.later hk4.below)
 have HQ4:=hid (hk4.oth _ _ HQ3.out (by simp;omega) (fun _ _ e=>absurd (Obj.cells.inj e).2.1 (by decide)))
 clear c1 hw4 hk4 p0 p1 p2 p3 p4 pf HK3 HQ3
 obtain ⟨b,hb⟩:∃ b,W.heap.size=b:=⟨_,rfl⟩
 obtain ⟨b2,hb2⟩:∃ b,w2.heap.size=b:=⟨_,rfl⟩
 rw [hb] at HF ⊢
 rw [hb2] at HQ4 hd2 ⊢
 have hdb:=HF.out.bd
 have HS:=hid (fun X (hX:Below w4.heap.size w4 X)=>two_of (cs:=#[.string kb,.string tb,.int .i64 f,.int .i64 e,.slice a n c]) (cs2:=#[.string kb2,.string tb2,.int .i64 f2,.int .i64 e2,.slice a2 n2 c2]) HF.out.box HQ4.out ((Kp.refl d w4).later hX (Nat.le_of_lt HF.out.wr.bx.lt)) hdb hd2)
 have HS0:=hid (HS.out w4.drew (Below.refl _ _).drew)
 have ht1:=fun X=>takes_any HV.out HF.out.lies X
 have ht2:=fun X=>takes_any HV2.out (by rw [← HN2.out];exact HK4.out) X
 rw [HTP.out] at ht1
 obtain ⟨y1,hy1⟩:∃ y,decide (k2=kBinary)=y:=⟨_,rfl⟩
 obtain ⟨y2,hy2⟩:∃ y,decide (t=[38])=y:=⟨_,rfl⟩
 obtain ⟨y3,hy3⟩:∃ y,takes (.mk k2 t2 f2 e2 ks2)=y:=⟨_,rfl⟩
 have hu:uHeld t (.mk k2 t2 f2 e2 ks2)=(y1||(y2&&y3)):=by rw [← hy1,← hy2,← hy3];rfl
 rw [hy2] at ht1
 rw [hy3] at ht2
 have e1:(kb2.toList==(⟨#[98,105,110,97,114,121]⟩:ByteArray).toList)=y1:=by rw [← hy1,show (⟨#[98,105,110,97,114,121]⟩:ByteArray).toList=kBinary from by rw [ByteArray.toList_eq];rfl];exact e1
 have HU:=hid hu
 clear hb hb2 hy1 hy2 hy3 hu
 have cA:∀ X,Below w4.heap.size w4 X→Calls Tryz.prog 110 #[.agg #[.string kb,.string tb,.int .i64 f,.int .i64 e,.slice a n c]] X fun e' w'=>e'=.returned (.bool y2)∧Below w4.heap.size w4 w':=fun X hX=>(ht1 X).mono fun _ w' ⟨h1,h2⟩=>⟨h1,hX.trans (h2.mono hX.size)⟩
 have cB:∀ X,Below w4.heap.size w4 X→Calls Tryz.prog 110 #[.agg #[.string kb2,.string tb2,.int .i64 f2,.int .i64 e2,.slice a2 n2 c2]] X fun e' w'=>e'=.returned (.bool y3)∧Below w4.heap.size w4 w':=fun X hX=>(ht2 X).mono fun _ w' ⟨h1,h2⟩=>⟨h1,hX.trans (h2.mono hX.size)⟩
 have cH:∀ X,Below w4.heap.size w4 X→Calls Tryz.prog 109 #[.pointer (some ⟨d,0,none⟩),.agg #[.string kb2,.string tb2,.int .i64 f2,.int .i64 e2,.slice a2 n2 c2],.bool (y1||(y2&&y3))] X fun e' w'=>e'=.returned (.tuple #[])∧Hid (Wr d m ind (bs++t++x) w'∧Kp d W w')∧Two b b2 #[.string kb,.string tb,.int .i64 f,.int .i64 e,.slice a n c] #[.string kb2,.string tb2,.int .i64 f2,.int .i64 e2,.slice a2 n2 c2] w':=fun X hX=>by
  have hk:=(Kp.refl d w4).later hX (Nat.le_of_lt HF.out.wr.bx.lt)
  have:=held_any (p:=.mk k2 t2 f2 e2 ks2) (cs:=#[.string kb2,.string tb2,.int .i64 f2,.int .i64 e2,.slice a2 n2 c2]) (uHeld t (.mk k2 t2 f2 e2 ks2)) HP.out HV2.out (HF.out.wr.later hX) (by rw [← HN2.out];exact HK4.out.later hk.below) hwt hdp (by rw [HX.out];have:=HL.out;rw [List.length_append];omega)
  rw [HX.out,HU.out] at this
  exact this.mono fun _ w' ⟨h1,h2,h3⟩=>⟨h1,hid ⟨h2,HF.out.kp.trans (hk.trans h3)⟩,two_of HF.out.box HQ4.out (hk.trans h3) hdb hd2⟩
 go_upto_region 3 with fail
 clear ht1 ht2
 cases y1 with
 | true =>
  cases y2 with
  | true =>
   cases y3 with
   | true =>
    have _:=cA
    have _:=cB
    refine wp_region_held_drew (S:=fun X:World=>Two b b2 #[.string kb,.string tb,.int .i64 f,.int .i64 e,.slice a n c] #[.string kb2,.string tb2,.int .i64 f2,.int .i64 e2,.slice a2 n2 c2] X) (by kernel_rfl) HS0.out (fun hHeld=>?_)
    have hB0:Below w4.heap.size w4 w4.drew:=(Below.refl _ _).drew
    refine wpAnyH_take (i:=0) (oi:=OP.p53) (v:=(.pointer (some ⟨d,0,none⟩))) rfl (by kernel_rfl) (by kernel_rfl) (by kernel_rfl) (fun _ _ _ h=>h) (Or.inl ⟨by rfl,fun X hX=>rfl⟩) hHeld ?_
    (try simp only [Act.put,List.setIfInBounds_toArray,List.set_cons_zero,List.set_cons_succ])
    refine wpAnyH_take (i:=1) (oi:=OP.p54) (v:=(.agg #[.string kb2,.string tb2,.int .i64 f2,.int .i64 e2,.slice a2 n2 c2])) rfl (by kernel_rfl) (by kernel_rfl) (by kernel_rfl) (fun _ _ _ h=>h) (yields_load 25 (.tmp 4) rfl (by rfl) (fun X hX=>load_five hX.2)) hHeld ?_
    (try simp only [Act.put,List.setIfInBounds_toArray,List.set_cons_zero,List.set_cons_succ])
    refine wpAnyH_take (i:=2) (oi:=OP.p55) (v:=(.pointer (some ⟨b2,0,none⟩))) rfl (by kernel_rfl) (by kernel_rfl) (by kernel_rfl) (fun _ _ _ h=>h) (Or.inl ⟨by rfl,fun X hX=>rfl⟩) hHeld ?_
    (try simp only [Act.put,List.setIfInBounds_toArray,List.set_cons_zero,List.set_cons_succ])
    refine wpAnyH_take (i:=3) (oi:=OP.p56) (v:=(.string kb2)) rfl (by kernel_rfl) (by kernel_rfl) (by kernel_rfl) (fun _ _ _ h=>h) (yields_load 9 (.tmp 14) rfl (by rfl) (fun X hX=>load_str (J.cells_five hX.2).1.1)) hHeld ?_
    (try simp only [Act.put,List.setIfInBounds_toArray,List.set_cons_zero,List.set_cons_succ])
    refine wpAnyH_take (i:=4) (oi:=OP.p57) (v:=.bool true) rfl (by kernel_rfl) (by kernel_rfl) (by kernel_rfl) (fun _ _ _ h=>h) (yields_eql (Operand.tmp 15) (Operand.const (Value.string { data:=#[98,105,110,97,114,121] })) rfl (by rfl) rfl rfl e1) hHeld ?_
    (try simp only [Act.put,List.setIfInBounds_toArray,List.set_cons_zero,List.set_cons_succ])
    refine wpAnyH_take (i:=5) (oi:=OP.p58) (v:=(.bool true)) rfl (by kernel_rfl) (by kernel_rfl) (by kernel_rfl) (fun _ _ _ h=>h) (Or.inl ⟨by rfl,fun X hX=>rfl⟩) hHeld ?_
    (try simp only [Act.put,List.setIfInBounds_toArray,List.set_cons_zero,List.set_cons_succ])
    refine wpAnyH_take (i:=6) (oi:=OP.p59) (v:=undef) rfl (by kernel_rfl) (by kernel_rfl) (by kernel_rfl) (fun _ _ _ h=>h) (Or.inr ⟨by rfl,rfl⟩) hHeld ?_
    (try simp only [Act.put,List.setIfInBounds_toArray,List.set_cons_zero,List.set_cons_succ])
    refine wpAnyH_take (i:=7) (oi:=OP.p60) (v:=undef) rfl (by kernel_rfl) (by kernel_rfl) (by kernel_rfl) (fun _ _ _ h=>h) (Or.inr ⟨by rfl,rfl⟩) hHeld ?_
    (try simp only [Act.put,List.setIfInBounds_toArray,List.set_cons_zero,List.set_cons_succ])
    refine wpAnyH_take (i:=8) (oi:=OP.p61) (v:=undef) rfl (by kernel_rfl) (by kernel_rfl) (by kernel_rfl) (fun _ _ _ h=>h) (Or.inr ⟨by rfl,rfl⟩) hHeld ?_
    (try simp only [Act.put,List.setIfInBounds_toArray,List.set_cons_zero,List.set_cons_succ])
    refine wpAnyH_take (i:=9) (oi:=OP.p62) (v:=undef) rfl (by kernel_rfl) (by kernel_rfl) (by kernel_rfl) (fun _ _ _ h=>h) (Or.inr ⟨by rfl,rfl⟩) hHeld ?_
    (try simp only [Act.put,List.setIfInBounds_toArray,List.set_cons_zero,List.set_cons_succ])
    refine wpAnyH_take (i:=10) (oi:=OP.p63) (v:=undef) rfl (by kernel_rfl) (by kernel_rfl) (by kernel_rfl) (fun _ _ _ h=>h) (Or.inr ⟨by rfl,rfl⟩) hHeld ?_
    (try simp only [Act.put,List.setIfInBounds_toArray,List.set_cons_zero,List.set_cons_succ])
    refine wpAnyH_take (i:=11) (oi:=OP.p64) (v:=undef) rfl (by kernel_rfl) (by kernel_rfl) (by kernel_rfl) (fun _ _ _ h=>h) (Or.inr ⟨by rfl,rfl⟩) hHeld ?_
    (try simp only [Act.put,List.setIfInBounds_toArray,List.set_cons_zero,List.set_cons_succ])
    refine wpAnyH_take (i:=12) (oi:=OP.p65) (v:=(.bool true)) rfl (by kernel_rfl) (by kernel_rfl) (by kernel_rfl) (fun _ _ _ h=>h) (Or.inl ⟨by rfl,fun X hX=>rfl⟩) hHeld ?_
    (try simp only [Act.put,List.setIfInBounds_toArray,List.set_cons_zero,List.set_cons_succ])
    refine wpAnyH_ready (rs:=[13]) (by kernel_rfl) (by simp) ?_
    refine (AllReadyH.cons (o:=OP.p66) rfl (fun K hK=>?_) AllReadyH.nil)
    refine wanted_step (by kernel_rfl) ?_
    go_simp
    go_at_call 109
    refine (cH _ hB0).mono ?_
    rintro e' w9 ⟨rfl,hR9,hS9⟩
    dsimp only
    refine hK.out _ _ (hS9) (fun hHeld=>?_)
    (try simp only [Act.put,List.setIfInBounds_toArray,List.set_cons_zero,List.set_cons_succ])
    clear hK K
    refine wpAnyH_done (by kernel_rfl) ?_ _
    clear hHeld
    (try go_wp2_with fail)
    go_end0
    exact ⟨rfl,by simpa [List.append_assoc] using hR9.out.1,hR9.out.2⟩
   | false =>
    have _:=cA
    have _:=cB
    refine wp_region_held_drew (S:=fun X:World=>Two b b2 #[.string kb,.string tb,.int .i64 f,.int .i64 e,.slice a n c] #[.string kb2,.string tb2,.int .i64 f2,.int .i64 e2,.slice a2 n2 c2] X) (by kernel_rfl) HS0.out (fun hHeld=>?_)
    have hB0:Below w4.heap.size w4 w4.drew:=(Below.refl _ _).drew
    refine wpAnyH_take (i:=0) (oi:=OP.p53) (v:=(.pointer (some ⟨d,0,none⟩))) rfl (by kernel_rfl) (by kernel_rfl) (by kernel_rfl) (fun _ _ _ h=>h) (Or.inl ⟨by rfl,fun X hX=>rfl⟩) hHeld ?_
    (try simp only [Act.put,List.setIfInBounds_toArray,List.set_cons_zero,List.set_cons_succ])
    refine wpAnyH_take (i:=1) (oi:=OP.p54) (v:=(.agg #[.string kb2,.string tb2,.int .i64 f2,.int .i64 e2,.slice a2 n2 c2])) rfl (by kernel_rfl) (by kernel_rfl) (by kernel_rfl) (fun _ _ _ h=>h) (yields_load 25 (.tmp 4) rfl (by rfl) (fun X hX=>load_five hX.2)) hHeld ?_
    (try simp only [Act.put,List.setIfInBounds_toArray,List.set_cons_zero,List.set_cons_succ])
    refine wpAnyH_take (i:=2) (oi:=OP.p55) (v:=(.pointer (some ⟨b2,0,none⟩))) rfl (by kernel_rfl) (by kernel_rfl) (by kernel_rfl) (fun _ _ _ h=>h) (Or.inl ⟨by rfl,fun X hX=>rfl⟩) hHeld ?_
    (try simp only [Act.put,List.setIfInBounds_toArray,List.set_cons_zero,List.set_cons_succ])
    refine wpAnyH_take (i:=3) (oi:=OP.p56) (v:=(.string kb2)) rfl (by kernel_rfl) (by kernel_rfl) (by kernel_rfl) (fun _ _ _ h=>h) (yields_load 9 (.tmp 14) rfl (by rfl) (fun X hX=>load_str (J.cells_five hX.2).1.1)) hHeld ?_
    (try simp only [Act.put,List.setIfInBounds_toArray,List.set_cons_zero,List.set_cons_succ])
    refine wpAnyH_take (i:=4) (oi:=OP.p57) (v:=.bool true) rfl (by kernel_rfl) (by kernel_rfl) (by kernel_rfl) (fun _ _ _ h=>h) (yields_eql (Operand.tmp 15) (Operand.const (Value.string { data:=#[98,105,110,97,114,121] })) rfl (by rfl) rfl rfl e1) hHeld ?_
    (try simp only [Act.put,List.setIfInBounds_toArray,List.set_cons_zero,List.set_cons_succ])
    refine wpAnyH_take (i:=5) (oi:=OP.p58) (v:=(.bool true)) rfl (by kernel_rfl) (by kernel_rfl) (by kernel_rfl) (fun _ _ _ h=>h) (Or.inl ⟨by rfl,fun X hX=>rfl⟩) hHeld ?_
    (try simp only [Act.put,List.setIfInBounds_toArray,List.set_cons_zero,List.set_cons_succ])
    refine wpAnyH_take (i:=6) (oi:=OP.p59) (v:=undef) rfl (by kernel_rfl) (by kernel_rfl) (by kernel_rfl) (fun _ _ _ h=>h) (Or.inr ⟨by rfl,rfl⟩) hHeld ?_
    (try simp only [Act.put,List.setIfInBounds_toArray,List.set_cons_zero,List.set_cons_succ])
    refine wpAnyH_take (i:=7) (oi:=OP.p60) (v:=undef) rfl (by kernel_rfl) (by kernel_rfl) (by kernel_rfl) (fun _ _ _ h=>h) (Or.inr ⟨by rfl,rfl⟩) hHeld ?_
    (try simp only [Act.put,List.setIfInBounds_toArray,List.set_cons_zero,List.set_cons_succ])
    refine wpAnyH_take (i:=8) (oi:=OP.p61) (v:=undef) rfl (by kernel_rfl) (by kernel_rfl) (by kernel_rfl) (fun _ _ _ h=>h) (Or.inr ⟨by rfl,rfl⟩) hHeld ?_
    (try simp only [Act.put,List.setIfInBounds_toArray,List.set_cons_zero,List.set_cons_succ])
    refine wpAnyH_take (i:=9) (oi:=OP.p62) (v:=undef) rfl (by kernel_rfl) (by kernel_rfl) (by kernel_rfl) (fun _ _ _ h=>h) (Or.inr ⟨by rfl,rfl⟩) hHeld ?_
    (try simp only [Act.put,List.setIfInBounds_toArray,List.set_cons_zero,List.set_cons_succ])
    refine wpAnyH_take (i:=10) (oi:=OP.p63) (v:=undef) rfl (by kernel_rfl) (by kernel_rfl) (by kernel_rfl) (fun _ _ _ h=>h) (Or.inr ⟨by rfl,rfl⟩) hHeld ?_
    (try simp only [Act.put,List.setIfInBounds_toArray,List.set_cons_zero,List.set_cons_succ])
    refine wpAnyH_take (i:=11) (oi:=OP.p64) (v:=undef) rfl (by kernel_rfl) (by kernel_rfl) (by kernel_rfl) (fun _ _ _ h=>h) (Or.inr ⟨by rfl,rfl⟩) hHeld ?_
    (try simp only [Act.put,List.setIfInBounds_toArray,List.set_cons_zero,List.set_cons_succ])
    refine wpAnyH_take (i:=12) (oi:=OP.p65) (v:=(.bool true)) rfl (by kernel_rfl) (by kernel_rfl) (by kernel_rfl) (fun _ _ _ h=>h) (Or.inl ⟨by rfl,fun X hX=>rfl⟩) hHeld ?_
    (try simp only [Act.put,List.setIfInBounds_toArray,List.set_cons_zero,List.set_cons_succ])
    refine wpAnyH_ready (rs:=[13]) (by kernel_rfl) (by simp) ?_
    refine (AllReadyH.cons (o:=OP.p66) rfl (fun K hK=>?_) AllReadyH.nil)
    refine wanted_step (by kernel_rfl) ?_
    go_simp
    go_at_call 109
    refine (cH _ hB0).mono ?_
    rintro e' w9 ⟨rfl,hR9,hS9⟩
    dsimp only
    refine hK.out _ _ (hS9) (fun hHeld=>?_)
    (try simp only [Act.put,List.setIfInBounds_toArray,List.set_cons_zero,List.set_cons_succ])
    clear hK K
    refine wpAnyH_done (by kernel_rfl) ?_ _
    clear hHeld
    (try go_wp2_with fail)
    go_end0
    exact ⟨rfl,by simpa [List.append_assoc] using hR9.out.1,hR9.out.2⟩
  | false =>
   cases y3 with
   | true =>
    have _:=cA
    have _:=cB
    refine wp_region_held_drew (S:=fun X:World=>Two b b2 #[.string kb,.string tb,.int .i64 f,.int .i64 e,.slice a n c] #[.string kb2,.string tb2,.int .i64 f2,.int .i64 e2,.slice a2 n2 c2] X) (by kernel_rfl) HS0.out (fun hHeld=>?_)
    have hB0:Below w4.heap.size w4 w4.drew:=(Below.refl _ _).drew
    refine wpAnyH_take (i:=0) (oi:=OP.p53) (v:=(.pointer (some ⟨d,0,none⟩))) rfl (by kernel_rfl) (by kernel_rfl) (by kernel_rfl) (fun _ _ _ h=>h) (Or.inl ⟨by rfl,fun X hX=>rfl⟩) hHeld ?_
    (try simp only [Act.put,List.setIfInBounds_toArray,List.set_cons_zero,List.set_cons_succ])
    refine wpAnyH_take (i:=1) (oi:=OP.p54) (v:=(.agg #[.string kb2,.string tb2,.int .i64 f2,.int .i64 e2,.slice a2 n2 c2])) rfl (by kernel_rfl) (by kernel_rfl) (by kernel_rfl) (fun _ _ _ h=>h) (yields_load 25 (.tmp 4) rfl (by rfl) (fun X hX=>load_five hX.2)) hHeld ?_
    (try simp only [Act.put,List.setIfInBounds_toArray,List.set_cons_zero,List.set_cons_succ])
    refine wpAnyH_take (i:=2) (oi:=OP.p55) (v:=(.pointer (some ⟨b2,0,none⟩))) rfl (by kernel_rfl) (by kernel_rfl) (by kernel_rfl) (fun _ _ _ h=>h) (Or.inl ⟨by rfl,fun X hX=>rfl⟩) hHeld ?_
    (try simp only [Act.put,List.setIfInBounds_toArray,List.set_cons_zero,List.set_cons_succ])
    refine wpAnyH_take (i:=3) (oi:=OP.p56) (v:=(.string kb2)) rfl (by kernel_rfl) (by kernel_rfl) (by kernel_rfl) (fun _ _ _ h=>h) (yields_load 9 (.tmp 14) rfl (by rfl) (fun X hX=>load_str (J.cells_five hX.2).1.1)) hHeld ?_
    (try simp only [Act.put,List.setIfInBounds_toArray,List.set_cons_zero,List.set_cons_succ])
    refine wpAnyH_take (i:=4) (oi:=OP.p57) (v:=.bool true) rfl (by kernel_rfl) (by kernel_rfl) (by kernel_rfl) (fun _ _ _ h=>h) (yields_eql (Operand.tmp 15) (Operand.const (Value.string { data:=#[98,105,110,97,114,121] })) rfl (by rfl) rfl rfl e1) hHeld ?_
    (try simp only [Act.put,List.setIfInBounds_toArray,List.set_cons_zero,List.set_cons_succ])
    refine wpAnyH_take (i:=5) (oi:=OP.p58) (v:=(.bool true)) rfl (by kernel_rfl) (by kernel_rfl) (by kernel_rfl) (fun _ _ _ h=>h) (Or.inl ⟨by rfl,fun X hX=>rfl⟩) hHeld ?_
    (try simp only [Act.put,List.setIfInBounds_toArray,List.set_cons_zero,List.set_cons_succ])
    refine wpAnyH_take (i:=6) (oi:=OP.p59) (v:=undef) rfl (by kernel_rfl) (by kernel_rfl) (by kernel_rfl) (fun _ _ _ h=>h) (Or.inr ⟨by rfl,rfl⟩) hHeld ?_
    (try simp only [Act.put,List.setIfInBounds_toArray,List.set_cons_zero,List.set_cons_succ])
    refine wpAnyH_take (i:=7) (oi:=OP.p60) (v:=undef) rfl (by kernel_rfl) (by kernel_rfl) (by kernel_rfl) (fun _ _ _ h=>h) (Or.inr ⟨by rfl,rfl⟩) hHeld ?_
    (try simp only [Act.put,List.setIfInBounds_toArray,List.set_cons_zero,List.set_cons_succ])
    refine wpAnyH_take (i:=8) (oi:=OP.p61) (v:=undef) rfl (by kernel_rfl) (by kernel_rfl) (by kernel_rfl) (fun _ _ _ h=>h) (Or.inr ⟨by rfl,rfl⟩) hHeld ?_
    (try simp only [Act.put,List.setIfInBounds_toArray,List.set_cons_zero,List.set_cons_succ])
    refine wpAnyH_take (i:=9) (oi:=OP.p62) (v:=undef) rfl (by kernel_rfl) (by kernel_rfl) (by kernel_rfl) (fun _ _ _ h=>h) (Or.inr ⟨by rfl,rfl⟩) hHeld ?_
    (try simp only [Act.put,List.setIfInBounds_toArray,List.set_cons_zero,List.set_cons_succ])
    refine wpAnyH_take (i:=10) (oi:=OP.p63) (v:=undef) rfl (by kernel_rfl) (by kernel_rfl) (by kernel_rfl) (fun _ _ _ h=>h) (Or.inr ⟨by rfl,rfl⟩) hHeld ?_
    (try simp only [Act.put,List.setIfInBounds_toArray,List.set_cons_zero,List.set_cons_succ])
    refine wpAnyH_take (i:=11) (oi:=OP.p64) (v:=undef) rfl (by kernel_rfl) (by kernel_rfl) (by kernel_rfl) (fun _ _ _ h=>h) (Or.inr ⟨by rfl,rfl⟩) hHeld ?_
    (try simp only [Act.put,List.setIfInBounds_toArray,List.set_cons_zero,List.set_cons_succ])
    refine wpAnyH_take (i:=12) (oi:=OP.p65) (v:=(.bool true)) rfl (by kernel_rfl) (by kernel_rfl) (by kernel_rfl) (fun _ _ _ h=>h) (Or.inl ⟨by rfl,fun X hX=>rfl⟩) hHeld ?_
    (try simp only [Act.put,List.setIfInBounds_toArray,List.set_cons_zero,List.set_cons_succ])
    refine wpAnyH_ready (rs:=[13]) (by kernel_rfl) (by simp) ?_
    refine (AllReadyH.cons (o:=OP.p66) rfl (fun K hK=>?_) AllReadyH.nil)
    refine wanted_step (by kernel_rfl) ?_
    go_simp
    go_at_call 109
    refine (cH _ hB0).mono ?_
    rintro e' w9 ⟨rfl,hR9,hS9⟩
    dsimp only
    refine hK.out _ _ (hS9) (fun hHeld=>?_)
    (try simp only [Act.put,List.setIfInBounds_toArray,List.set_cons_zero,List.set_cons_succ])
    clear hK K
    refine wpAnyH_done (by kernel_rfl) ?_ _
    clear hHeld
    (try go_wp2_with fail)
    go_end0
    exact ⟨rfl,by simpa [List.append_assoc] using hR9.out.1,hR9.out.2⟩
   | false =>
    have _:=cA
    have _:=cB
    refine wp_region_held_drew (S:=fun X:World=>Two b b2 #[.string kb,.string tb,.int .i64 f,.int .i64 e,.slice a n c] #[.string kb2,.string tb2,.int .i64 f2,.int .i64 e2,.slice a2 n2 c2] X) (by kernel_rfl) HS0.out (fun hHeld=>?_)
    have hB0:Below w4.heap.size w4 w4.drew:=(Below.refl _ _).drew
    refine wpAnyH_take (i:=0) (oi:=OP.p53) (v:=(.pointer (some ⟨d,0,none⟩))) rfl (by kernel_rfl) (by kernel_rfl) (by kernel_rfl) (fun _ _ _ h=>h) (Or.inl ⟨by rfl,fun X hX=>rfl⟩) hHeld ?_
    (try simp only [Act.put,List.setIfInBounds_toArray,List.set_cons_zero,List.set_cons_succ])
    refine wpAnyH_take (i:=1) (oi:=OP.p54) (v:=(.agg #[.string kb2,.string tb2,.int .i64 f2,.int .i64 e2,.slice a2 n2 c2])) rfl (by kernel_rfl) (by kernel_rfl) (by kernel_rfl) (fun _ _ _ h=>h) (yields_load 25 (.tmp 4) rfl (by rfl) (fun X hX=>load_five hX.2)) hHeld ?_
    (try simp only [Act.put,List.setIfInBounds_toArray,List.set_cons_zero,List.set_cons_succ])
    refine wpAnyH_take (i:=2) (oi:=OP.p55) (v:=(.pointer (some ⟨b2,0,none⟩))) rfl (by kernel_rfl) (by kernel_rfl) (by kernel_rfl) (fun _ _ _ h=>h) (Or.inl ⟨by rfl,fun X hX=>rfl⟩) hHeld ?_
    (try simp only [Act.put,List.setIfInBounds_toArray,List.set_cons_zero,List.set_cons_succ])
    refine wpAnyH_take (i:=3) (oi:=OP.p56) (v:=(.string kb2)) rfl (by kernel_rfl) (by kernel_rfl) (by kernel_rfl) (fun _ _ _ h=>h) (yields_load 9 (.tmp 14) rfl (by rfl) (fun X hX=>load_str (J.cells_five hX.2).1.1)) hHeld ?_
    (try simp only [Act.put,List.setIfInBounds_toArray,List.set_cons_zero,List.set_cons_succ])
    refine wpAnyH_take (i:=4) (oi:=OP.p57) (v:=.bool true) rfl (by kernel_rfl) (by kernel_rfl) (by kernel_rfl) (fun _ _ _ h=>h) (yields_eql (Operand.tmp 15) (Operand.const (Value.string { data:=#[98,105,110,97,114,121] })) rfl (by rfl) rfl rfl e1) hHeld ?_
    (try simp only [Act.put,List.setIfInBounds_toArray,List.set_cons_zero,List.set_cons_succ])
    refine wpAnyH_take (i:=5) (oi:=OP.p58) (v:=(.bool true)) rfl (by kernel_rfl) (by kernel_rfl) (by kernel_rfl) (fun _ _ _ h=>h) (Or.inl ⟨by rfl,fun X hX=>rfl⟩) hHeld ?_
    (try simp only [Act.put,List.setIfInBounds_toArray,List.set_cons_zero,List.set_cons_succ])
    refine wpAnyH_take (i:=6) (oi:=OP.p59) (v:=undef) rfl (by kernel_rfl) (by kernel_rfl) (by kernel_rfl) (fun _ _ _ h=>h) (Or.inr ⟨by rfl,rfl⟩) hHeld ?_
    (try simp only [Act.put,List.setIfInBounds_toArray,List.set_cons_zero,List.set_cons_succ])
    refine wpAnyH_take (i:=7) (oi:=OP.p60) (v:=undef) rfl (by kernel_rfl) (by kernel_rfl) (by kernel_rfl) (fun _ _ _ h=>h) (Or.inr ⟨by rfl,rfl⟩) hHeld ?_
    (try simp only [Act.put,List.setIfInBounds_toArray,List.set_cons_zero,List.set_cons_succ])
    refine wpAnyH_take (i:=8) (oi:=OP.p61) (v:=undef) rfl (by kernel_rfl) (by kernel_rfl) (by kernel_rfl) (fun _ _ _ h=>h) (Or.inr ⟨by rfl,rfl⟩) hHeld ?_
    (try simp only [Act.put,List.setIfInBounds_toArray,List.set_cons_zero,List.set_cons_succ])
    refine wpAnyH_take (i:=9) (oi:=OP.p62) (v:=undef) rfl (by kernel_rfl) (by kernel_rfl) (by kernel_rfl) (fun _ _ _ h=>h) (Or.inr ⟨by rfl,rfl⟩) hHeld ?_
    (try simp only [Act.put,List.setIfInBounds_toArray,List.set_cons_zero,List.set_cons_succ])
    refine wpAnyH_take (i:=10) (oi:=OP.p63) (v:=undef) rfl (by kernel_rfl) (by kernel_rfl) (by kernel_rfl) (fun _ _ _ h=>h) (Or.inr ⟨by rfl,rfl⟩) hHeld ?_
    (try simp only [Act.put,List.setIfInBounds_toArray,List.set_cons_zero,List.set_cons_succ])
    refine wpAnyH_take (i:=11) (oi:=OP.p64) (v:=undef) rfl (by kernel_rfl) (by kernel_rfl) (by kernel_rfl) (fun _ _ _ h=>h) (Or.inr ⟨by rfl,rfl⟩) hHeld ?_
    (try simp only [Act.put,List.setIfInBounds_toArray,List.set_cons_zero,List.set_cons_succ])
    refine wpAnyH_take (i:=12) (oi:=OP.p65) (v:=(.bool true)) rfl (by kernel_rfl) (by kernel_rfl) (by kernel_rfl) (fun _ _ _ h=>h) (Or.inl ⟨by rfl,fun X hX=>rfl⟩) hHeld ?_
    (try simp only [Act.put,List.setIfInBounds_toArray,List.set_cons_zero,List.set_cons_succ])
    refine wpAnyH_ready (rs:=[13]) (by kernel_rfl) (by simp) ?_
    refine (AllReadyH.cons (o:=OP.p66) rfl (fun K hK=>?_) AllReadyH.nil)
    refine wanted_step (by kernel_rfl) ?_
    go_simp
    go_at_call 109
    refine (cH _ hB0).mono ?_
    rintro e' w9 ⟨rfl,hR9,hS9⟩
    dsimp only
    refine hK.out _ _ (hS9) (fun hHeld=>?_)
    (try simp only [Act.put,List.setIfInBounds_toArray,List.set_cons_zero,List.set_cons_succ])
    clear hK K
    refine wpAnyH_done (by kernel_rfl) ?_ _
    clear hHeld
    (try go_wp2_with fail)
    go_end0
    exact ⟨rfl,by simpa [List.append_assoc] using hR9.out.1,hR9.out.2⟩
 | false =>
  cases y2 with
  | true =>
   cases y3 with
   | true =>
    have _:=cA
    have _:=cB
    refine wp_region_held_drew (S:=fun X:World=>Two b b2 #[.string kb,.string tb,.int .i64 f,.int .i64 e,.slice a n c] #[.string kb2,.string tb2,.int .i64 f2,.int .i64 e2,.slice a2 n2 c2] X) (by kernel_rfl) HS0.out (fun hHeld=>?_)
    have hB0:Below w4.heap.size w4 w4.drew:=(Below.refl _ _).drew
    refine wpAnyH_take (i:=0) (oi:=OP.p53) (v:=(.pointer (some ⟨d,0,none⟩))) rfl (by kernel_rfl) (by kernel_rfl) (by kernel_rfl) (fun _ _ _ h=>h) (Or.inl ⟨by rfl,fun X hX=>rfl⟩) hHeld ?_
    (try simp only [Act.put,List.setIfInBounds_toArray,List.set_cons_zero,List.set_cons_succ])
    refine wpAnyH_take (i:=1) (oi:=OP.p54) (v:=(.agg #[.string kb2,.string tb2,.int .i64 f2,.int .i64 e2,.slice a2 n2 c2])) rfl (by kernel_rfl) (by kernel_rfl) (by kernel_rfl) (fun _ _ _ h=>h) (yields_load 25 (.tmp 4) rfl (by rfl) (fun X hX=>load_five hX.2)) hHeld ?_
    (try simp only [Act.put,List.setIfInBounds_toArray,List.set_cons_zero,List.set_cons_succ])
    refine wpAnyH_take (i:=2) (oi:=OP.p55) (v:=(.pointer (some ⟨b2,0,none⟩))) rfl (by kernel_rfl) (by kernel_rfl) (by kernel_rfl) (fun _ _ _ h=>h) (Or.inl ⟨by rfl,fun X hX=>rfl⟩) hHeld ?_
    (try simp only [Act.put,List.setIfInBounds_toArray,List.set_cons_zero,List.set_cons_succ])
    refine wpAnyH_take (i:=3) (oi:=OP.p56) (v:=(.string kb2)) rfl (by kernel_rfl) (by kernel_rfl) (by kernel_rfl) (fun _ _ _ h=>h) (yields_load 9 (.tmp 14) rfl (by rfl) (fun X hX=>load_str (J.cells_five hX.2).1.1)) hHeld ?_
    (try simp only [Act.put,List.setIfInBounds_toArray,List.set_cons_zero,List.set_cons_succ])
    refine wpAnyH_take (i:=4) (oi:=OP.p57) (v:=.bool false) rfl (by kernel_rfl) (by kernel_rfl) (by kernel_rfl) (fun _ _ _ h=>h) (yields_eql (Operand.tmp 15) (Operand.const (Value.string { data:=#[98,105,110,97,114,121] })) rfl (by rfl) rfl rfl e1) hHeld ?_
    (try simp only [Act.put,List.setIfInBounds_toArray,List.set_cons_zero,List.set_cons_succ])
    refine wpAnyH_take (i:=5) (oi:=OP.p58) (v:=(.bool false)) rfl (by kernel_rfl) (by kernel_rfl) (by kernel_rfl) (fun _ _ _ h=>h) (Or.inl ⟨by rfl,fun X hX=>rfl⟩) hHeld ?_
    (try simp only [Act.put,List.setIfInBounds_toArray,List.set_cons_zero,List.set_cons_succ])
    refine wpAnyH_take (i:=6) (oi:=OP.p59) (v:=(.agg #[.string kb,.string tb,.int .i64 f,.int .i64 e,.slice a n c])) rfl (by kernel_rfl) (by kernel_rfl) (by kernel_rfl) (fun _ _ _ h=>h) (yields_load 25 (.tmp 3) rfl (by rfl) (fun X hX=>load_five hX.1)) hHeld ?_
    (try simp only [Act.put,List.setIfInBounds_toArray,List.set_cons_zero,List.set_cons_succ])
    refine wpAnyH_ready (rs:=[7]) (by kernel_rfl) (by simp) ?_
    refine (AllReadyH.cons (o:=OP.p60) rfl (fun K hK=>?_) AllReadyH.nil)
    refine wanted_step (by kernel_rfl) ?_
    go_simp
    go_at_call 110
    refine (cA _ hB0).mono ?_
    rintro e' w5 ⟨rfl,hB5⟩
    dsimp only
    refine hK.out _ _ (HS.out _ hB5) (fun hHeld=>?_)
    (try simp only [Act.put,List.setIfInBounds_toArray,List.set_cons_zero,List.set_cons_succ])
    clear hK K
    refine wpAnyH_take (i:=8) (oi:=OP.p61) (v:=(.bool true)) rfl (by kernel_rfl) (by kernel_rfl) (by kernel_rfl) (fun _ _ _ h=>h) (Or.inl ⟨by rfl,fun X hX=>rfl⟩) hHeld ?_
    (try simp only [Act.put,List.setIfInBounds_toArray,List.set_cons_zero,List.set_cons_succ])
    refine wpAnyH_take (i:=9) (oi:=OP.p62) (v:=(.agg #[.string kb2,.string tb2,.int .i64 f2,.int .i64 e2,.slice a2 n2 c2])) rfl (by kernel_rfl) (by kernel_rfl) (by kernel_rfl) (fun _ _ _ h=>h) (yields_load 25 (.tmp 4) rfl (by rfl) (fun X hX=>load_five hX.2)) hHeld ?_
    (try simp only [Act.put,List.setIfInBounds_toArray,List.set_cons_zero,List.set_cons_succ])
    refine wpAnyH_ready (rs:=[10]) (by kernel_rfl) (by simp) ?_
    refine (AllReadyH.cons (o:=OP.p63) rfl (fun K hK=>?_) AllReadyH.nil)
    refine wanted_step (by kernel_rfl) ?_
    go_simp
    go_at_call 110
    refine (cB _ hB5).mono ?_
    rintro e' w6 ⟨rfl,hB6⟩
    dsimp only
    refine hK.out _ _ (HS.out _ hB6) (fun hHeld=>?_)
    (try simp only [Act.put,List.setIfInBounds_toArray,List.set_cons_zero,List.set_cons_succ])
    clear hK K
    refine wpAnyH_take (i:=11) (oi:=OP.p64) (v:=(.bool true)) rfl (by kernel_rfl) (by kernel_rfl) (by kernel_rfl) (fun _ _ _ h=>h) (Or.inl ⟨by rfl,fun X hX=>rfl⟩) hHeld ?_
    (try simp only [Act.put,List.setIfInBounds_toArray,List.set_cons_zero,List.set_cons_succ])
    refine wpAnyH_take (i:=12) (oi:=OP.p65) (v:=(.bool true)) rfl (by kernel_rfl) (by kernel_rfl) (by kernel_rfl) (fun _ _ _ h=>h) (Or.inl ⟨by rfl,fun X hX=>rfl⟩) hHeld ?_
    (try simp only [Act.put,List.setIfInBounds_toArray,List.set_cons_zero,List.set_cons_succ])
    refine wpAnyH_ready (rs:=[13]) (by kernel_rfl) (by simp) ?_
    refine (AllReadyH.cons (o:=OP.p66) rfl (fun K hK=>?_) AllReadyH.nil)
    refine wanted_step (by kernel_rfl) ?_
    go_simp
    go_at_call 109
    refine (cH _ hB6).mono ?_
    rintro e' w9 ⟨rfl,hR9,hS9⟩
    dsimp only
    refine hK.out _ _ (hS9) (fun hHeld=>?_)
    (try simp only [Act.put,List.setIfInBounds_toArray,List.set_cons_zero,List.set_cons_succ])
    clear hK K
    refine wpAnyH_done (by kernel_rfl) ?_ _
    clear hHeld
    (try go_wp2_with fail)
    go_end0
    exact ⟨rfl,by simpa [List.append_assoc] using hR9.out.1,hR9.out.2⟩
   | false =>
    have _:=cA
    have _:=cB
    refine wp_region_held_drew (S:=fun X:World=>Two b b2 #[.string kb,.string tb,.int .i64 f,.int .i64 e,.slice a n c] #[.string kb2,.string tb2,.int .i64 f2,.int .i64 e2,.slice a2 n2 c2] X) (by kernel_rfl) HS0.out (fun hHeld=>?_)
    have hB0:Below w4.heap.size w4 w4.drew:=(Below.refl _ _).drew
    refine wpAnyH_take (i:=0) (oi:=OP.p53) (v:=(.pointer (some ⟨d,0,none⟩))) rfl (by kernel_rfl) (by kernel_rfl) (by kernel_rfl) (fun _ _ _ h=>h) (Or.inl ⟨by rfl,fun X hX=>rfl⟩) hHeld ?_
    (try simp only [Act.put,List.setIfInBounds_toArray,List.set_cons_zero,List.set_cons_succ])
    refine wpAnyH_take (i:=1) (oi:=OP.p54) (v:=(.agg #[.string kb2,.string tb2,.int .i64 f2,.int .i64 e2,.slice a2 n2 c2])) rfl (by kernel_rfl) (by kernel_rfl) (by kernel_rfl) (fun _ _ _ h=>h) (yields_load 25 (.tmp 4) rfl (by rfl) (fun X hX=>load_five hX.2)) hHeld ?_
    (try simp only [Act.put,List.setIfInBounds_toArray,List.set_cons_zero,List.set_cons_succ])
    refine wpAnyH_take (i:=2) (oi:=OP.p55) (v:=(.pointer (some ⟨b2,0,none⟩))) rfl (by kernel_rfl) (by kernel_rfl) (by kernel_rfl) (fun _ _ _ h=>h) (Or.inl ⟨by rfl,fun X hX=>rfl⟩) hHeld ?_
    (try simp only [Act.put,List.setIfInBounds_toArray,List.set_cons_zero,List.set_cons_succ])
    refine wpAnyH_take (i:=3) (oi:=OP.p56) (v:=(.string kb2)) rfl (by kernel_rfl) (by kernel_rfl) (by kernel_rfl) (fun _ _ _ h=>h) (yields_load 9 (.tmp 14) rfl (by rfl) (fun X hX=>load_str (J.cells_five hX.2).1.1)) hHeld ?_
    (try simp only [Act.put,List.setIfInBounds_toArray,List.set_cons_zero,List.set_cons_succ])
    refine wpAnyH_take (i:=4) (oi:=OP.p57) (v:=.bool false) rfl (by kernel_rfl) (by kernel_rfl) (by kernel_rfl) (fun _ _ _ h=>h) (yields_eql (Operand.tmp 15) (Operand.const (Value.string { data:=#[98,105,110,97,114,121] })) rfl (by rfl) rfl rfl e1) hHeld ?_
    (try simp only [Act.put,List.setIfInBounds_toArray,List.set_cons_zero,List.set_cons_succ])
    refine wpAnyH_take (i:=5) (oi:=OP.p58) (v:=(.bool false)) rfl (by kernel_rfl) (by kernel_rfl) (by kernel_rfl) (fun _ _ _ h=>h) (Or.inl ⟨by rfl,fun X hX=>rfl⟩) hHeld ?_
    (try simp only [Act.put,List.setIfInBounds_toArray,List.set_cons_zero,List.set_cons_succ])
    refine wpAnyH_take (i:=6) (oi:=OP.p59) (v:=(.agg #[.string kb,.string tb,.int .i64 f,.int .i64 e,.slice a n c])) rfl (by kernel_rfl) (by kernel_rfl) (by kernel_rfl) (fun _ _ _ h=>h) (yields_load 25 (.tmp 3) rfl (by rfl) (fun X hX=>load_five hX.1)) hHeld ?_
    (try simp only [Act.put,List.setIfInBounds_toArray,List.set_cons_zero,List.set_cons_succ])
    refine wpAnyH_ready (rs:=[7]) (by kernel_rfl) (by simp) ?_
    refine (AllReadyH.cons (o:=OP.p60) rfl (fun K hK=>?_) AllReadyH.nil)
    refine wanted_step (by kernel_rfl) ?_
    go_simp
    go_at_call 110
    refine (cA _ hB0).mono ?_
    rintro e' w5 ⟨rfl,hB5⟩
    dsimp only
    refine hK.out _ _ (HS.out _ hB5) (fun hHeld=>?_)
    (try simp only [Act.put,List.setIfInBounds_toArray,List.set_cons_zero,List.set_cons_succ])
    clear hK K
    refine wpAnyH_take (i:=8) (oi:=OP.p61) (v:=(.bool true)) rfl (by kernel_rfl) (by kernel_rfl) (by kernel_rfl) (fun _ _ _ h=>h) (Or.inl ⟨by rfl,fun X hX=>rfl⟩) hHeld ?_
    (try simp only [Act.put,List.setIfInBounds_toArray,List.set_cons_zero,List.set_cons_succ])
    refine wpAnyH_take (i:=9) (oi:=OP.p62) (v:=(.agg #[.string kb2,.string tb2,.int .i64 f2,.int .i64 e2,.slice a2 n2 c2])) rfl (by kernel_rfl) (by kernel_rfl) (by kernel_rfl) (fun _ _ _ h=>h) (yields_load 25 (.tmp 4) rfl (by rfl) (fun X hX=>load_five hX.2)) hHeld ?_
    (try simp only [Act.put,List.setIfInBounds_toArray,List.set_cons_zero,List.set_cons_succ])
    refine wpAnyH_ready (rs:=[10]) (by kernel_rfl) (by simp) ?_
    refine (AllReadyH.cons (o:=OP.p63) rfl (fun K hK=>?_) AllReadyH.nil)
    refine wanted_step (by kernel_rfl) ?_
    go_simp
    go_at_call 110
    refine (cB _ hB5).mono ?_
    rintro e' w6 ⟨rfl,hB6⟩
    dsimp only
    refine hK.out _ _ (HS.out _ hB6) (fun hHeld=>?_)
    (try simp only [Act.put,List.setIfInBounds_toArray,List.set_cons_zero,List.set_cons_succ])
    clear hK K
    refine wpAnyH_take (i:=11) (oi:=OP.p64) (v:=(.bool false)) rfl (by kernel_rfl) (by kernel_rfl) (by kernel_rfl) (fun _ _ _ h=>h) (Or.inl ⟨by rfl,fun X hX=>rfl⟩) hHeld ?_
    (try simp only [Act.put,List.setIfInBounds_toArray,List.set_cons_zero,List.set_cons_succ])
    refine wpAnyH_take (i:=12) (oi:=OP.p65) (v:=(.bool false)) rfl (by kernel_rfl) (by kernel_rfl) (by kernel_rfl) (fun _ _ _ h=>h) (Or.inl ⟨by rfl,fun X hX=>rfl⟩) hHeld ?_
    (try simp only [Act.put,List.setIfInBounds_toArray,List.set_cons_zero,List.set_cons_succ])
    refine wpAnyH_ready (rs:=[13]) (by kernel_rfl) (by simp) ?_
    refine (AllReadyH.cons (o:=OP.p66) rfl (fun K hK=>?_) AllReadyH.nil)
    refine wanted_step (by kernel_rfl) ?_
    go_simp
    go_at_call 109
    refine (cH _ hB6).mono ?_
    rintro e' w9 ⟨rfl,hR9,hS9⟩
    dsimp only
    refine hK.out _ _ (hS9) (fun hHeld=>?_)
    (try simp only [Act.put,List.setIfInBounds_toArray,List.set_cons_zero,List.set_cons_succ])
    clear hK K
    refine wpAnyH_done (by kernel_rfl) ?_ _
    clear hHeld
    (try go_wp2_with fail)
    go_end0
    exact ⟨rfl,by simpa [List.append_assoc] using hR9.out.1,hR9.out.2⟩
  | false =>
   cases y3 with
   | true =>
    have _:=cA
    have _:=cB
    refine wp_region_held_drew (S:=fun X:World=>Two b b2 #[.string kb,.string tb,.int .i64 f,.int .i64 e,.slice a n c] #[.string kb2,.string tb2,.int .i64 f2,.int .i64 e2,.slice a2 n2 c2] X) (by kernel_rfl) HS0.out (fun hHeld=>?_)
    have hB0:Below w4.heap.size w4 w4.drew:=(Below.refl _ _).drew
    refine wpAnyH_take (i:=0) (oi:=OP.p53) (v:=(.pointer (some ⟨d,0,none⟩))) rfl (by kernel_rfl) (by kernel_rfl) (by kernel_rfl) (fun _ _ _ h=>h) (Or.inl ⟨by rfl,fun X hX=>rfl⟩) hHeld ?_
    (try simp only [Act.put,List.setIfInBounds_toArray,List.set_cons_zero,List.set_cons_succ])
    refine wpAnyH_take (i:=1) (oi:=OP.p54) (v:=(.agg #[.string kb2,.string tb2,.int .i64 f2,.int .i64 e2,.slice a2 n2 c2])) rfl (by kernel_rfl) (by kernel_rfl) (by kernel_rfl) (fun _ _ _ h=>h) (yields_load 25 (.tmp 4) rfl (by rfl) (fun X hX=>load_five hX.2)) hHeld ?_
    (try simp only [Act.put,List.setIfInBounds_toArray,List.set_cons_zero,List.set_cons_succ])
    refine wpAnyH_take (i:=2) (oi:=OP.p55) (v:=(.pointer (some ⟨b2,0,none⟩))) rfl (by kernel_rfl) (by kernel_rfl) (by kernel_rfl) (fun _ _ _ h=>h) (Or.inl ⟨by rfl,fun X hX=>rfl⟩) hHeld ?_
    (try simp only [Act.put,List.setIfInBounds_toArray,List.set_cons_zero,List.set_cons_succ])
    refine wpAnyH_take (i:=3) (oi:=OP.p56) (v:=(.string kb2)) rfl (by kernel_rfl) (by kernel_rfl) (by kernel_rfl) (fun _ _ _ h=>h) (yields_load 9 (.tmp 14) rfl (by rfl) (fun X hX=>load_str (J.cells_five hX.2).1.1)) hHeld ?_
    (try simp only [Act.put,List.setIfInBounds_toArray,List.set_cons_zero,List.set_cons_succ])
    refine wpAnyH_take (i:=4) (oi:=OP.p57) (v:=.bool false) rfl (by kernel_rfl) (by kernel_rfl) (by kernel_rfl) (fun _ _ _ h=>h) (yields_eql (Operand.tmp 15) (Operand.const (Value.string { data:=#[98,105,110,97,114,121] })) rfl (by rfl) rfl rfl e1) hHeld ?_
    (try simp only [Act.put,List.setIfInBounds_toArray,List.set_cons_zero,List.set_cons_succ])
    refine wpAnyH_take (i:=5) (oi:=OP.p58) (v:=(.bool false)) rfl (by kernel_rfl) (by kernel_rfl) (by kernel_rfl) (fun _ _ _ h=>h) (Or.inl ⟨by rfl,fun X hX=>rfl⟩) hHeld ?_
    (try simp only [Act.put,List.setIfInBounds_toArray,List.set_cons_zero,List.set_cons_succ])
    refine wpAnyH_take (i:=6) (oi:=OP.p59) (v:=(.agg #[.string kb,.string tb,.int .i64 f,.int .i64 e,.slice a n c])) rfl (by kernel_rfl) (by kernel_rfl) (by kernel_rfl) (fun _ _ _ h=>h) (yields_load 25 (.tmp 3) rfl (by rfl) (fun X hX=>load_five hX.1)) hHeld ?_
    (try simp only [Act.put,List.setIfInBounds_toArray,List.set_cons_zero,List.set_cons_succ])
    refine wpAnyH_ready (rs:=[7]) (by kernel_rfl) (by simp) ?_
    refine (AllReadyH.cons (o:=OP.p60) rfl (fun K hK=>?_) AllReadyH.nil)
    refine wanted_step (by kernel_rfl) ?_
    go_simp
    go_at_call 110
    refine (cA _ hB0).mono ?_
    rintro e' w5 ⟨rfl,hB5⟩
    dsimp only
    refine hK.out _ _ (HS.out _ hB5) (fun hHeld=>?_)
    (try simp only [Act.put,List.setIfInBounds_toArray,List.set_cons_zero,List.set_cons_succ])
    clear hK K
    refine wpAnyH_take (i:=8) (oi:=OP.p61) (v:=(.bool false)) rfl (by kernel_rfl) (by kernel_rfl) (by kernel_rfl) (fun _ _ _ h=>h) (Or.inl ⟨by rfl,fun X hX=>rfl⟩) hHeld ?_
    (try simp only [Act.put,List.setIfInBounds_toArray,List.set_cons_zero,List.set_cons_succ])
    refine wpAnyH_take (i:=9) (oi:=OP.p62) (v:=undef) rfl (by kernel_rfl) (by kernel_rfl) (by kernel_rfl) (fun _ _ _ h=>h) (Or.inr ⟨by rfl,rfl⟩) hHeld ?_
    (try simp only [Act.put,List.setIfInBounds_toArray,List.set_cons_zero,List.set_cons_succ])
    refine wpAnyH_take (i:=10) (oi:=OP.p63) (v:=undef) rfl (by kernel_rfl) (by kernel_rfl) (by kernel_rfl) (fun _ _ _ h=>h) (Or.inr ⟨by rfl,rfl⟩) hHeld ?_
    (try simp only [Act.put,List.setIfInBounds_toArray,List.set_cons_zero,List.set_cons_succ])
    refine wpAnyH_take (i:=11) (oi:=OP.p64) (v:=(.bool false)) rfl (by kernel_rfl) (by kernel_rfl) (by kernel_rfl) (fun _ _ _ h=>h) (Or.inl ⟨by rfl,fun X hX=>rfl⟩) hHeld ?_
    (try simp only [Act.put,List.setIfInBounds_toArray,List.set_cons_zero,List.set_cons_succ])
    refine wpAnyH_take (i:=12) (oi:=OP.p65) (v:=(.bool false)) rfl (by kernel_rfl) (by kernel_rfl) (by kernel_rfl) (fun _ _ _ h=>h) (Or.inl ⟨by rfl,fun X hX=>rfl⟩) hHeld ?_
    (try simp only [Act.put,List.setIfInBounds_toArray,List.set_cons_zero,List.set_cons_succ])
    refine wpAnyH_ready (rs:=[13]) (by kernel_rfl) (by simp) ?_
    refine (AllReadyH.cons (o:=OP.p66) rfl (fun K hK=>?_) AllReadyH.nil)
    refine wanted_step (by kernel_rfl) ?_
    go_simp
    go_at_call 109
    refine (cH _ hB5).mono ?_
    rintro e' w9 ⟨rfl,hR9,hS9⟩
    dsimp only
    refine hK.out _ _ (hS9) (fun hHeld=>?_)
    (try simp only [Act.put,List.setIfInBounds_toArray,List.set_cons_zero,List.set_cons_succ])
    clear hK K
    refine wpAnyH_done (by kernel_rfl) ?_ _
    clear hHeld
    (try go_wp2_with fail)
    go_end0
    exact ⟨rfl,by simpa [List.append_assoc] using hR9.out.1,hR9.out.2⟩
   | false =>
    have _:=cA
    have _:=cB
    refine wp_region_held_drew (S:=fun X:World=>Two b b2 #[.string kb,.string tb,.int .i64 f,.int .i64 e,.slice a n c] #[.string kb2,.string tb2,.int .i64 f2,.int .i64 e2,.slice a2 n2 c2] X) (by kernel_rfl) HS0.out (fun hHeld=>?_)
    have hB0:Below w4.heap.size w4 w4.drew:=(Below.refl _ _).drew
    refine wpAnyH_take (i:=0) (oi:=OP.p53) (v:=(.pointer (some ⟨d,0,none⟩))) rfl (by kernel_rfl) (by kernel_rfl) (by kernel_rfl) (fun _ _ _ h=>h) (Or.inl ⟨by rfl,fun X hX=>rfl⟩) hHeld ?_
    (try simp only [Act.put,List.setIfInBounds_toArray,List.set_cons_zero,List.set_cons_succ])
    refine wpAnyH_take (i:=1) (oi:=OP.p54) (v:=(.agg #[.string kb2,.string tb2,.int .i64 f2,.int .i64 e2,.slice a2 n2 c2])) rfl (by kernel_rfl) (by kernel_rfl) (by kernel_rfl) (fun _ _ _ h=>h) (yields_load 25 (.tmp 4) rfl (by rfl) (fun X hX=>load_five hX.2)) hHeld ?_
    (try simp only [Act.put,List.setIfInBounds_toArray,List.set_cons_zero,List.set_cons_succ])
    refine wpAnyH_take (i:=2) (oi:=OP.p55) (v:=(.pointer (some ⟨b2,0,none⟩))) rfl (by kernel_rfl) (by kernel_rfl) (by kernel_rfl) (fun _ _ _ h=>h) (Or.inl ⟨by rfl,fun X hX=>rfl⟩) hHeld ?_
    (try simp only [Act.put,List.setIfInBounds_toArray,List.set_cons_zero,List.set_cons_succ])
    refine wpAnyH_take (i:=3) (oi:=OP.p56) (v:=(.string kb2)) rfl (by kernel_rfl) (by kernel_rfl) (by kernel_rfl) (fun _ _ _ h=>h) (yields_load 9 (.tmp 14) rfl (by rfl) (fun X hX=>load_str (J.cells_five hX.2).1.1)) hHeld ?_
    (try simp only [Act.put,List.setIfInBounds_toArray,List.set_cons_zero,List.set_cons_succ])
    refine wpAnyH_take (i:=4) (oi:=OP.p57) (v:=.bool false) rfl (by kernel_rfl) (by kernel_rfl) (by kernel_rfl) (fun _ _ _ h=>h) (yields_eql (Operand.tmp 15) (Operand.const (Value.string { data:=#[98,105,110,97,114,121] })) rfl (by rfl) rfl rfl e1) hHeld ?_
    (try simp only [Act.put,List.setIfInBounds_toArray,List.set_cons_zero,List.set_cons_succ])
    refine wpAnyH_take (i:=5) (oi:=OP.p58) (v:=(.bool false)) rfl (by kernel_rfl) (by kernel_rfl) (by kernel_rfl) (fun _ _ _ h=>h) (Or.inl ⟨by rfl,fun X hX=>rfl⟩) hHeld ?_
    (try simp only [Act.put,List.setIfInBounds_toArray,List.set_cons_zero,List.set_cons_succ])
    refine wpAnyH_take (i:=6) (oi:=OP.p59) (v:=(.agg #[.string kb,.string tb,.int .i64 f,.int .i64 e,.slice a n c])) rfl (by kernel_rfl) (by kernel_rfl) (by kernel_rfl) (fun _ _ _ h=>h) (yields_load 25 (.tmp 3) rfl (by rfl) (fun X hX=>load_five hX.1)) hHeld ?_
    (try simp only [Act.put,List.setIfInBounds_toArray,List.set_cons_zero,List.set_cons_succ])
    refine wpAnyH_ready (rs:=[7]) (by kernel_rfl) (by simp) ?_
    refine (AllReadyH.cons (o:=OP.p60) rfl (fun K hK=>?_) AllReadyH.nil)
    refine wanted_step (by kernel_rfl) ?_
    go_simp
    go_at_call 110
    refine (cA _ hB0).mono ?_
    rintro e' w5 ⟨rfl,hB5⟩
    dsimp only
    refine hK.out _ _ (HS.out _ hB5) (fun hHeld=>?_)
    (try simp only [Act.put,List.setIfInBounds_toArray,List.set_cons_zero,List.set_cons_succ])
    clear hK K
    refine wpAnyH_take (i:=8) (oi:=OP.p61) (v:=(.bool false)) rfl (by kernel_rfl) (by kernel_rfl) (by kernel_rfl) (fun _ _ _ h=>h) (Or.inl ⟨by rfl,fun X hX=>rfl⟩) hHeld ?_
    (try simp only [Act.put,List.setIfInBounds_toArray,List.set_cons_zero,List.set_cons_succ])
    refine wpAnyH_take (i:=9) (oi:=OP.p62) (v:=undef) rfl (by kernel_rfl) (by kernel_rfl) (by kernel_rfl) (fun _ _ _ h=>h) (Or.inr ⟨by rfl,rfl⟩) hHeld ?_
    (try simp only [Act.put,List.setIfInBounds_toArray,List.set_cons_zero,List.set_cons_succ])
    refine wpAnyH_take (i:=10) (oi:=OP.p63) (v:=undef) rfl (by kernel_rfl) (by kernel_rfl) (by kernel_rfl) (fun _ _ _ h=>h) (Or.inr ⟨by rfl,rfl⟩) hHeld ?_
    (try simp only [Act.put,List.setIfInBounds_toArray,List.set_cons_zero,List.set_cons_succ])
    refine wpAnyH_take (i:=11) (oi:=OP.p64) (v:=(.bool false)) rfl (by kernel_rfl) (by kernel_rfl) (by kernel_rfl) (fun _ _ _ h=>h) (Or.inl ⟨by rfl,fun X hX=>rfl⟩) hHeld ?_
    (try simp only [Act.put,List.setIfInBounds_toArray,List.set_cons_zero,List.set_cons_succ])
    refine wpAnyH_take (i:=12) (oi:=OP.p65) (v:=(.bool false)) rfl (by kernel_rfl) (by kernel_rfl) (by kernel_rfl) (fun _ _ _ h=>h) (Or.inl ⟨by rfl,fun X hX=>rfl⟩) hHeld ?_
    (try simp only [Act.put,List.setIfInBounds_toArray,List.set_cons_zero,List.set_cons_succ])
    refine wpAnyH_ready (rs:=[13]) (by kernel_rfl) (by simp) ?_
    refine (AllReadyH.cons (o:=OP.p66) rfl (fun K hK=>?_) AllReadyH.nil)
    refine wanted_step (by kernel_rfl) ?_
    go_simp
    go_at_call 109
    refine (cH _ hB5).mono ?_
    rintro e' w9 ⟨rfl,hR9,hS9⟩
    dsimp only
    refine hK.out _ _ (hS9) (fun hHeld=>?_)
    (try simp only [Act.put,List.setIfInBounds_toArray,List.set_cons_zero,List.set_cons_succ])
    clear hK K
    refine wpAnyH_done (by kernel_rfl) ?_ _
    clear hHeld
    (try go_wp2_with fail)
    go_end0
    exact ⟨rfl,by simpa [List.append_assoc] using hR9.out.1,hR9.out.2⟩
theorem yields_lss {ops:Array Oper} {S:World→Prop} {o:Oper} {a:Act} {p q:Int} {r:Bool} (x y:Operand) (ho:o.op=.binOp .lss 3 x y 3) (hw:Region.wanted o (yielded ops a.tmps)=true) (hx:a.eval x=.int .i64 p) (hy:a.eval y=.int .i64 q) (hb:decide (p<q)=r):YieldsIf Tryz.prog ops S o (.bool r) a :=
 .inl ⟨hw,fun X _=>by
  unfold execOp
  simp only [ho,hx,hy]
  have hbb:∀ W:World,(binOp .lss 3 (.int .i64 p) (.int .i64 q)).run Tryz.prog W=.ok (.bool r) W:=fun W=>by
   simp [go_sem]
   simpa using hb
  have hg:∀ W:World,(eqGuard BinOp.lss 3 x y (.int .i64 p) (.int .i64 q)).run Tryz.prog W=.ok () W:=fun W=>by
   simp [go_sem,eqGuard]
  simp [hbb,hg,Result.andThen]⟩
theorem yields_leq {ops:Array Oper} {S:World→Prop} {o:Oper} {a:Act} {p q:Int} {r:Bool} (x y:Operand) (ho:o.op=.binOp .leq 3 x y 3) (hw:Region.wanted o (yielded ops a.tmps)=true) (hx:a.eval x=.int .i64 p) (hy:a.eval y=.int .i64 q) (hb:decide (p≤q)=r):YieldsIf Tryz.prog ops S o (.bool r) a :=
 .inl ⟨hw,fun X _=>by
  unfold execOp
  simp only [ho,hx,hy]
  have hbb:∀ W:World,(binOp .leq 3 (.int .i64 p) (.int .i64 q)).run Tryz.prog W=.ok (.bool r) W:=fun W=>by
   simp [go_sem]
   simpa using hb
  have hg:∀ W:World,(eqGuard BinOp.leq 3 x y (.int .i64 p) (.int .i64 q)).run Tryz.prog W=.ok () W:=fun W=>by
   simp [go_sem,eqGuard]
  simp [hbb,hg,Result.andThen]⟩
structure Pair (d m ind:Nat) (bs:By) (p:Pt) (lv:Value) (cs:Array Value) (b:Nat) (W:World) (q1 q2:Pt) (l1 l2:Value) (c1 c2:Array Value) (b1 b2:Nat) (X:World):Prop where
 fr:Fr d m ind bs p lv cs b W X
 d1:d<b1
 d2:d<b2
 h1:X.heap[b1]?=some (.cells c1 25 (0,0))
 h2:X.heap[b2]?=some (.cells c2 25 (0,0))
 k1:Lies d q1 l1 X
 k2:Lies d q2 l2 X
theorem Pair.step {d m ind ind':Nat} {bs bs':By} {p:Pt} {lv:Value} {cs:Array Value} {b:Nat} {W X X':World} {q1 q2:Pt} {l1 l2:Value} {c1 c2:Array Value} {b1 b2:Nat} (h:Pair d m ind bs p lv cs b W q1 q2 l1 l2 c1 c2 b1 b2 X) (hw:Wr d m ind' bs' X') (hk:Kp d X X'):Pair d m ind' bs' p lv cs b W q1 q2 l1 l2 c1 c2 b1 b2 X' :=
 ⟨h.fr.step hw hk,h.d1,h.d2,hk.oth _ _ h.h1 (by have:=h.d1;simp;omega) (fun _ _ e=>absurd (Obj.cells.inj e).2.1 (by decide)),hk.oth _ _ h.h2 (by have:=h.d2;simp;omega) (fun _ _ e=>absurd (Obj.cells.inj e).2.1 (by decide)),h.k1.later hk.below,h.k2.later hk.below⟩
theorem pair_made {d m ind:Nat} {bs:By} {p:Pt} {lv:Value} {cs:Array Value} {b:Nat} {W X X1 X2 Xe:World} {q1 q2:Pt} {l1 l2:Value} {v0 v1 v2 v3 v4 u0 u1 u2 u3 u4:Value} {b1 b2:Nat}
  (hF:Fr d m ind bs p lv cs b W X) (hB:Below X.heap.size X Xe) (h1:Xe.heap[b1]?=some (.cells #[.string ⟨#[]⟩,.string ⟨#[]⟩,.int .i64 0,.int .i64 0,.slice none 0 0] 25 (0,0))) (h2:Xe.heap[b2]?=some (.cells #[.string ⟨#[]⟩,.string ⟨#[]⟩,.int .i64 0,.int .i64 0,.slice none 0 0] 25 (0,0)))
  (hb1:X.heap.size≤b1) (hb2:X.heap.size≤b2) (hne:b1≠b2) (k1:Lies d q1 l1 X1) (k2:Lies d q2 l2 X2) (e1:Below d X1 Xe) (e2:Below d X2 Xe) :
  ∃ Xf Xg,((((Xe.setCell ⟨b1,0,none⟩ v0).setCell ⟨b1,1,none⟩ v1).setCell ⟨b1,2,none⟩ v2).setCell ⟨b1,3,none⟩ v3).setCell ⟨b1,4,none⟩ v4=Xf∧((((Xf.setCell ⟨b2,0,none⟩ u0).setCell ⟨b2,1,none⟩ u1).setCell ⟨b2,2,none⟩ u2).setCell ⟨b2,3,none⟩ u3).setCell ⟨b2,4,none⟩ u4=Xg∧Xf.heap[b]?=some (.cells cs 25 (0,0))∧Xg.heap[b]?=some (.cells cs 25 (0,0))∧(∀ j,Xe.frozen? ⟨b1,j,none⟩=false)∧(∀ j,Xf.frozen? ⟨b2,j,none⟩=false)∧Pair d m ind bs p lv cs b W q1 q2 l1 l2 #[v0,v1,v2,v3,v4] #[u0,u1,u2,u3,u4] b1 b2 Xg:=by
 have hd:=hF.wr.bx.lt
 have hbl:b<X.heap.size:=(Array.getElem?_eq_some_iff.1 hF.box).1
 obtain ⟨Xf,hXf,f1,o1,hbf⟩:=set5 v0 v1 v2 v3 v4 h1
 have h2f:Xf.heap[b2]?=_:=(o1 b2 (fun e=>hne e.symm)).trans h2
 obtain ⟨Xg,hXg,g2,o2,hbg⟩:=set5 u0 u1 u2 u3 u4 h2f
 have hBf:=hB.trans (hbf _ hb1)
 have hBg:=hBf.trans (hbg _ hb2)
 have hdf:=(hbf d (by omega)).trans (hbg d (by omega))
 refine ⟨Xf,Xg,hXf,hXg,(hBf.block _ hbl).trans hF.box,(hBg.block _ hbl).trans hF.box,(J.cells_five h1).2,(J.cells_five h2f).2,hF.later hBg,by omega,by omega,(o2 b1 hne).trans f1,g2,k1.later (e1.trans hdf),k2.later (e2.trans hdf)⟩
end Go.Proofs.YtmclaaonlhnbmaaGreatDoor.H
