/- What the claim needs of the texts KMake, KGram1, KGram2, KGram3. -/
import Derived.Test.YtojoahlpgmnbnaaGreatDoorUWOp
import Derived.Test.YtojoahlpgmnbnaaGreatDoorUW3
set_option maxRecDepth 20000
set_option maxHeartbeats 16000000
namespace Go.Proofs.YtojoahlpgmnbnaaGreatDoor
namespace K
open Go.RowKit
open Go.Lib hiding intOf
open U S T
structure Small (L:List bn) (s:St):Prop where
 i:s.i≤L.length
 len:L.length≤1000000
 todo:s.todo.length≤1000000
 opn:s.opn.length≤1000000
 kids:∀ o∈s.opn,o.kids.length≤1000000
def Does (d:Nat) (L:List bn) (size:Nat) (lv:Value) (i:Nat) (O:Nat→Prop) (W:World) (r:IV) (e:Ending) (W':World):Prop:=match r with
 | .go s'=>e=.returned (.tuple #[])∧∃ O',Mem d L size lv s' O' W'∧bN O O' W W'
 | .wrong=>Panics L size i W e W'
 | .stuck=>True
section
variable {d:Nat} {L:List bn} {size:Nat} {lv:Value} {s:St} {O O':Nat→Prop}
theorem jg.below {W W':World} {b:Nat} {v:Value} {t:TypeId} (h:jg O W b v t) (hb:Below W.heap.size W W'):jg O W' b v t:=h.stay (.of_below hb)
theorem M3 {W W':World} {b:Nat} {v:Value} {t:TypeId} (hM:Mem d L size lv s O W) (hb:W.heap.size≤b) (h:W'.heap[b]?=some (.cells #[v] t (0,0))):jg O W' b v t :=
 ⟨⟨(af.1 h).1,fun hO=>by have:=hM.lt b hO;omega,_,h,rfl⟩,h⟩
theorem XR (W:World) (o o':Obj):((W.alloc o).alloc o').heap[W.heap.size]?=some o∧((W.alloc o).alloc o').heap[W.heap.size+1]?=some o'∧Below W.heap.size W ((W.alloc o).alloc o'):=by
 refine ⟨?_,?_,((ah _ _).alloc (ae _) _).alloc (by simp) _⟩
 ·rw [dw _ _ _ (by simp)];exact fI _ _
 ·have h:=fI (W.alloc o) o'
  rw [aT] at h
  exact h
def Made (d:Nat) (f:Nat) (u:Value) (t:TypeId) (O:Nat→Prop) (W:World) (e:Ending) (W':World):Prop:=∃ b1 b2,e=.returned (.func (.func f) #[] #[ptr b1,ptr b2])∧jg O W' b1 (ptr d) 110∧jg O W' b2 u t∧Below W.heap.size W W'
theorem vX {W:World} {f:Nat} {u:Value} {t:TypeId} (hM:Mem d L size lv s O W):Made d f u t O W (.returned (.func (.func f) #[] #[ptr W.heap.size,ptr (W.heap.size+1)])) ((W.alloc (.cells #[ptr d] 110)).alloc (.cells #[u] t)):=by
 obtain ⟨h1,h2,h3⟩:=XR W (.cells #[ptr d] 110) (.cells #[u] t)
 exact ⟨_,_,rfl,M3 hM (ae _) h1,M3 hM (by omega) h2,h3⟩
theorem oD (fn:Fn) (first cap:Array Value) (w:World):(Instr.makeFunc fn first cap).run Tryz.prog w=.ok (.func fn first cap) w:=rfl
theorem dZ {W:World} (hM:Mem d L size lv s O W) (x:By):Calls Tryz.prog 118 #[ptr d,.string (aX x)] W (Made d 131 (.string (aX x)) 9 O W):=by
 have hend:=vX (f:=131) (u:=.string (aX x)) (t:=9) hM;have oD:=oD;have HE:=hid hend;clear hend
 go_enter Tryz.func118,Tryz.ntmps118
 go_wp2_with fail
 go_ret
 exact HE.out
theorem rA {W:World} (hM:Mem d L size lv s O W) (k:Nat):Calls Tryz.prog 125 #[ptr d,.func (.func k) #[ptr d] #[]] W (Made d 139 (.func (.func k) #[ptr d] #[]) 1 O W):=by
 have HE:=hid (vX (f:=139) (u:=.func (.func k) #[ptr d] #[]) (t:=1) hM);have oD:=oD
 go_enter Tryz.func125,Tryz.ntmps125
 go_wp2_with fail
 go_ret
 exact HE.out
theorem Bb {W:World} (hM:Mem d L size lv s O W) (k:Nat):Calls Tryz.prog 134 #[ptr d,.func (.func k) #[ptr d] #[]] W (Made d 142 (.func (.func k) #[ptr d] #[]) 1 O W):=by
 have HE:=hid (vX (f:=142) (u:=.func (.func k) #[ptr d] #[]) (t:=1) hM);have oD:=oD
 go_enter Tryz.func134,Tryz.ntmps134
 go_wp2_with fail
 go_ret
 exact HE.out
theorem N7 {W:World} (hM:Mem d L size lv s O W) (k:Nat):Calls Tryz.prog 140 #[ptr d,.func (.func k) #[ptr d] #[]] W (Made d 148 (.func (.func k) #[ptr d] #[]) 1 O W):=by
 have HE:=hid (vX (f:=148) (u:=.func (.func k) #[ptr d] #[]) (t:=1) hM);have oD:=oD
 go_enter Tryz.func140,Tryz.ntmps140
 go_wp2_with fail
 go_ret
 exact HE.out
theorem CX {W:World} (hM:Mem d L size lv s O W) (k:Nat):Calls Tryz.prog 143 #[ptr d,.func (.func k) #[ptr d] #[]] W (Made d 149 (.func (.func k) #[ptr d] #[]) 1 O W):=by
 have HE:=hid (vX (f:=149) (u:=.func (.func k) #[ptr d] #[]) (t:=1) hM);have oD:=oD
 go_enter Tryz.func143,Tryz.ntmps143
 go_wp2_with fail
 go_ret
 exact HE.out
theorem dH {W:World} (hM:Mem d L size lv s O W) (l:List Stp) (vs:List Value) (n:Nat) (hn:vs.length=n) (ha:vW O W d l vs) (hl:n≤1000) (ht:s.todo.length≤1000000) :
  Calls Tryz.prog 100 #[ptr d,.slice (some ⟨W.heap.size,0,none⟩) n n] (W.alloc (.cells vs.toArray 1)) fun e W'=>e=.returned (.tuple #[])∧∃ O',Mem d L size lv { s with todo:=l++s.todo } O' W'∧bN O O' W W':=by
 subst hn;have hb:Below W.heap.size W (W.alloc (.cells vs.toArray 1)):=(ah _ _).alloc (ae _) _;have hn:=fI W (.cells vs.toArray 1)
 have hargs:∀ {l:List Stp} {vs:List Value} {W':World},bN O O W W'→vW O W d l vs→vW O W' d l vs:=by
  intro l
  induction l with
  | nil=>intro vs W' _ h;exact h
  | cons x r ih=>rintro vs W' hS ⟨v,us,h1,h2,h3⟩;exact ⟨v,us,h1,h2.stay hS,ih hS h3⟩
 refine (QC (hM.below hb) l vs W.heap.size ⟨by simp,fun h=>by have:=hM.lt _ h;omega,_,hn,rfl⟩ hn (hargs (.of_below hb) ha) hl ht).mono ?_;rintro e W' ⟨h1,O',h2,h3⟩
 exact ⟨h1,O',h2,(bN.of_below hb).trans h3⟩
theorem Jh {W:World} (hM:Mem d L size lv s O W) (hi:s.i≤L.length):Calls Tryz.prog 132 #[ptr d,.bool false] W (Panics L size s.i W):=by
 have c1:=CS hM hi;clear hM hi
 go_enter Tryz.func132,Tryz.ntmps132
 go_wp2_with fail
 refine c1.mono ?_;rintro e w1 ⟨rfl,hb1⟩;dsimp only
 exact ⟨rfl,rfl,hb1⟩
theorem Mem.next {W:World} (hM:Mem d L size lv s O W) (j:Int) (hj:j=((s.i+1:Nat):Int)):Mem d L size lv { s with i:=s.i+1 } O (W.setCell ⟨d,1,none⟩ (.int .i64 j))∧bN O O W (W.setCell ⟨d,1,none⟩ (.int .i64 j))∧W.cell? ⟨d,1,none⟩=some (.int .i64 s.i)∧W.frozen? ⟨d,1,none⟩=false:=by
 subst hj;obtain ⟨tv,ov,bs,vs,xs,h⟩:=hM;have hOd:O d:=(h.own d).2 (.inl rfl)
 have hset:∀ k,k≠d→(W.setCell ⟨d,1,none⟩ (.int .i64 ((s.i+1:Nat):Int))).heap[k]?=W.heap[k]?:=fun k hk=>aj _ _ _ _ hk
 have hS:bN O O W (W.setCell ⟨d,1,none⟩ (.int .i64 ((s.i+1:Nat):Int))):=⟨rfl,rfl,rfl,by simp,fun _ h=>.inl h,fun k _ hO=>hset k (fun e=>hO (e ▸ hOd))⟩;have hb:=h.blk
 have ne:∀ {k:Nat} {t:TypeId},Ty W k t→t≠123→k≠d:=fun h1 h2 e=>by rw [e] at h1;exact h2 (h1.one ⟨_,_,hb⟩)
 refine ⟨⟨tv,ov,bs,vs,xs,ay hb _,h.words.stay hS,iA h.lN (fun k hk=>hset k (ne (cZ h.lN hk) (by decide))),h.todo.stay hS,iA h.qB (fun k hk=>hset k (ne (cZ h.qB hk) (by decide))),
  gI.stay hS h.opn (fun k hk=>hset k (ne (oC h.opn hk) (by decide))),h.apart,h.own⟩,hS,by simp [World.cell?,hb],by simp [World.frozen?,hb]⟩
theorem M4 {W:World} (hM:Mem d L size lv s O W) (hi:s.i≤1000000):Calls Tryz.prog 132 #[ptr d,.bool true] W fun e W'=>e=.returned (.tuple #[])∧Mem d L size lv { s with i:=s.i+1 } O W'∧bN O O W W':=by
 obtain ⟨h1,h2,c1,f1⟩:=hM.next ((s.i:Int)+1) (by omega);have e0:IntKind.i64.wrap ((s.i:Int)+1)=(s.i:Int)+1:=bq _ (by omega);have H1:=hid h1;have H2:=hid h2;obtain ⟨i,hi'⟩:∃ i,s.i=i:=⟨_,rfl⟩;rw [hi'] at c1 e0 H1 H2;rw [hi'];clear h1 h2 hM hi hi'
 go_enter Tryz.func132,Tryz.ntmps132
 go_wp2_with fail
 go_end0
 exact ⟨rfl,H1.out,H2.out⟩
end
section
variable {d:Nat} {L:List bn} {size:Nat} {lv:Value} {s:St} {O:Nat→Prop}
theorem E5 {W:World} (hM:Mem d L size lv s O W) (hs:Small L s):Calls Tryz.prog 124 #[ptr d] W (Does d L size lv s.i O W (varDecl L size s)):=by
 have oD:=oD
 go_enter Tryz.func124,Tryz.ntmps124
 go_wp2_with fail
 refine (eU hM hs.i jd hs.opn).mono ?_;rintro e v1 ⟨rfl,O1,hM1,hS1⟩;dsimp only
 go_wp2_with fail
 refine (dZ hM1 jd).mono ?_;rintro e v2 ⟨p2,q2,rfl,hp2,hq2,hb2⟩;dsimp only;have hM2:=hM1.below hb2
 go_wp2_with fail
 refine (dH hM2 [.word jd,.m .name,.m .typeOf,.m .fin] [.func (.func 131) #[] #[ptr p2,ptr q2],.func (.func 119) #[ptr d] #[],.func (.func 136) #[ptr d] #[],.func (.func 123) #[ptr d] #[]] 4 rfl ⟨_,_,rfl,⟨p2,q2,rfl,hp2,hq2⟩,⟨_,_,rfl,rfl,⟨_,_,rfl,rfl,⟨_,_,rfl,rfl,rfl⟩⟩⟩⟩ (by decide) hs.todo).mono ?_;rintro e v3 ⟨rfl,O3,vB,CY⟩;dsimp only
 (try go_wp2_with fail)
 first|go_end0|refine aA (aD rfl _ _ _) rfl ?_
 exact ⟨rfl,O3,vB,((hS1.trans (bN.of_below hb2)).trans CY)⟩
theorem QG {W:World} (hM:Mem d L size lv s O W) (hs:Small L s):Calls Tryz.prog 120 #[ptr d] W (Does d L size lv s.i O W (bD L size .params s)):=by
 have oD:=oD
 go_enter Tryz.func120,Tryz.ntmps120
 go_wp2_with fail
 refine (eU hM hs.i eT hs.opn).mono ?_;rintro e v1 ⟨rfl,O1,hM1,hS1⟩;dsimp only
 go_wp2_with fail
 refine (dZ hM1 [40]).mono ?_;rintro e v2 ⟨p2,q2,rfl,hp2,hq2,hb2⟩;dsimp only;have hM2:=hM1.below hb2
 go_wp2_with fail
 refine (Bb hM2 135).mono ?_;rintro e v3 ⟨p3,q3,rfl,hp3,hq3,hb3⟩;dsimp only;replace hp2:=hp2.below hb3;replace hq2:=hq2.below hb3;have vB:=hM2.below hb3
 go_wp2_with fail
 refine (dZ vB [41]).mono ?_;rintro e v4 ⟨p4,q4,rfl,UA,hq4,hb4⟩;dsimp only;replace hp2:=hp2.below hb4;replace hq2:=hq2.below hb4;replace hp3:=hp3.below hb4;replace hq3:=hq3.below hb4;have Kz:=vB.below hb4
 go_wp2_with fail
 refine (dH Kz [.word [40],.jD .param,.word [41],.m .fin] [.func (.func 131) #[] #[ptr p2,ptr q2],.func (.func 142) #[] #[ptr p3,ptr q3],.func (.func 131) #[] #[ptr p4,ptr q4],.func (.func 123) #[ptr d] #[]] 4 rfl ⟨_,_,rfl,⟨p2,q2,rfl,hp2,hq2⟩,⟨_,_,rfl,⟨p3,q3,rfl,hp3,hq3⟩,⟨_,_,rfl,⟨p4,q4,rfl,UA,hq4⟩,⟨_,_,rfl,rfl,rfl⟩⟩⟩⟩ (by decide) hs.todo).mono ?_;rintro e v5 ⟨rfl,O5,hM5,hS5⟩;dsimp only
 (try go_wp2_with fail)
 first|go_end0|refine aA (aD rfl _ _ _) rfl ?_
 exact ⟨rfl,O5,hM5,((((hS1.trans (bN.of_below hb2)).trans (bN.of_below hb3)).trans (bN.of_below hb4)).trans hS5)⟩
theorem UB {W:World} (hM:Mem d L size lv s O W) (hs:Small L s):Calls Tryz.prog 135 #[ptr d] W (Does d L size lv s.i O W (bD L size .param s)):=by
 have oD:=oD
 go_enter Tryz.func135,Tryz.ntmps135
 go_wp2_with fail
 refine (eU hM hs.i rq hs.opn).mono ?_;rintro e v1 ⟨rfl,O1,hM1,hS1⟩;dsimp only
 go_wp2_with fail
 refine (dH hM1 [.m .name,.m .typeOf,.m .fin] [.func (.func 119) #[ptr d] #[],.func (.func 136) #[ptr d] #[],.func (.func 123) #[ptr d] #[]] 3 rfl ⟨_,_,rfl,rfl,⟨_,_,rfl,rfl,⟨_,_,rfl,rfl,rfl⟩⟩⟩ (by decide) hs.todo).mono ?_;rintro e v2 ⟨rfl,O2,hM2,hS2⟩;dsimp only
 (try go_wp2_with fail)
 first|go_end0|refine aA (aD rfl _ _ _) rfl ?_
 exact ⟨rfl,O2,hM2,(hS1.trans hS2)⟩
theorem UC {W:World} (hM:Mem d L size lv s O W) (hs:Small L s):Calls Tryz.prog 126 #[ptr d] W (Does d L size lv s.i O W (bD L size .field s)):=by
 have oD:=oD
 go_enter Tryz.func126,Tryz.ntmps126
 go_wp2_with fail
 refine (eU hM hs.i je hs.opn).mono ?_;rintro e v1 ⟨rfl,O1,hM1,hS1⟩;dsimp only
 go_wp2_with fail
 refine (dH hM1 [.m .name,.m .typeOf,.m .fin] [.func (.func 119) #[ptr d] #[],.func (.func 136) #[ptr d] #[],.func (.func 123) #[ptr d] #[]] 3 rfl ⟨_,_,rfl,rfl,⟨_,_,rfl,rfl,⟨_,_,rfl,rfl,rfl⟩⟩⟩ (by decide) hs.todo).mono ?_;rintro e v2 ⟨rfl,O2,hM2,hS2⟩;dsimp only
 (try go_wp2_with fail)
 first|go_end0|refine aA (aD rfl _ _ _) rfl ?_
 exact ⟨rfl,O2,hM2,(hS1.trans hS2)⟩
theorem Gw {W:World} (hM:Mem d L size lv s O W) (hs:Small L s):Calls Tryz.prog 122 #[ptr d] W (Does d L size lv s.i O W (xQ L size s)):=by
 have oD:=oD
 go_enter Tryz.func122,Tryz.ntmps122
 go_wp2_with fail
 refine (eU hM hs.i ou hs.opn).mono ?_;rintro e v1 ⟨rfl,O1,hM1,hS1⟩;dsimp only
 go_wp2_with fail
 refine (dZ hM1 [123]).mono ?_;rintro e v2 ⟨p2,q2,rfl,hp2,hq2,hb2⟩;dsimp only;have hM2:=hM1.below hb2
 go_wp2_with fail
 refine (rA hM2 137).mono ?_;rintro e v3 ⟨p3,q3,rfl,hp3,hq3,hb3⟩;dsimp only;replace hp2:=hp2.below hb3;replace hq2:=hq2.below hb3;have vB:=hM2.below hb3
 go_wp2_with fail
 refine (dZ vB [125]).mono ?_;rintro e v4 ⟨p4,q4,rfl,UA,hq4,hb4⟩;dsimp only;replace hp2:=hp2.below hb4;replace hq2:=hq2.below hb4;replace hp3:=hp3.below hb4;replace hq3:=hq3.below hb4;have Kz:=vB.below hb4
 go_wp2_with fail
 refine (dH Kz [.word [123],.lines .stmt,.word [125],.m .fin] [.func (.func 131) #[] #[ptr p2,ptr q2],.func (.func 139) #[] #[ptr p3,ptr q3],.func (.func 131) #[] #[ptr p4,ptr q4],.func (.func 123) #[ptr d] #[]] 4 rfl ⟨_,_,rfl,⟨p2,q2,rfl,hp2,hq2⟩,⟨_,_,rfl,⟨p3,q3,rfl,hp3,hq3⟩,⟨_,_,rfl,⟨p4,q4,rfl,UA,hq4⟩,⟨_,_,rfl,rfl,rfl⟩⟩⟩⟩ (by decide) hs.todo).mono ?_;rintro e v5 ⟨rfl,O5,hM5,hS5⟩;dsimp only
 (try go_wp2_with fail)
 first|go_end0|refine aA (aD rfl _ _ _) rfl ?_
 exact ⟨rfl,O5,hM5,((((hS1.trans (bN.of_below hb2)).trans (bN.of_below hb3)).trans (bN.of_below hb4)).trans hS5)⟩
theorem Ji {W:World} (hM:Mem d L size lv s O W) (hs:Small L s):Calls Tryz.prog 145 #[ptr d] W (Does d L size lv s.i O W (zT L size s)):=by
 have oD:=oD
 go_enter Tryz.func145,Tryz.ntmps145
 go_wp2_with fail
 refine (eU hM hs.i kI hs.opn).mono ?_;rintro e v1 ⟨rfl,O1,hM1,hS1⟩;dsimp only
 go_wp2_with fail
 refine (dZ hM1 kI).mono ?_;rintro e v2 ⟨p2,q2,rfl,hp2,hq2,hb2⟩;dsimp only;have hM2:=hM1.below hb2
 go_wp2_with fail
 refine (dH hM2 [.word kI,.m .expr,.m .block,.m .otherwise,.m .fin] [.func (.func 131) #[] #[ptr p2,ptr q2],.func (.func 146) #[ptr d] #[],.func (.func 122) #[ptr d] #[],.func (.func 150) #[ptr d] #[],.func (.func 123) #[ptr d] #[]] 5 rfl ⟨_,_,rfl,⟨p2,q2,rfl,hp2,hq2⟩,⟨_,_,rfl,rfl,⟨_,_,rfl,rfl,⟨_,_,rfl,rfl,⟨_,_,rfl,rfl,rfl⟩⟩⟩⟩⟩ (by decide) hs.todo).mono ?_;rintro e v3 ⟨rfl,O3,vB,CY⟩;dsimp only
 (try go_wp2_with fail)
 first|go_end0|refine aA (aD rfl _ _ _) rfl ?_
 exact ⟨rfl,O3,vB,((hS1.trans (bN.of_below hb2)).trans CY)⟩
theorem Gx {W:World} (hM:Mem d L size lv s O W) (hs:Small L s):Calls Tryz.prog 146 #[ptr d] W (Does d L size lv s.i O W (ET s)):=by
 have oD:=oD
 go_enter Tryz.func146,Tryz.ntmps146
 go_wp2_with fail
 refine (dH hM [.m .pre,.m .between] [.func (.func 151) #[ptr d] #[],.func (.func 152) #[ptr d] #[]] 2 rfl ⟨_,_,rfl,rfl,⟨_,_,rfl,rfl,rfl⟩⟩ (by decide) hs.todo).mono ?_;rintro e v1 ⟨rfl,O1,hM1,hS1⟩;dsimp only
 (try go_wp2_with fail)
 first|go_end0|refine aA (aD rfl _ _ _) rfl ?_
 exact ⟨rfl,O1,hM1,hS1⟩
end
section
variable {d:Nat} {L:List bn} {size:Nat} {lv:Value} {s:St} {O:Nat→Prop}
theorem jh {W:World} (hM:Mem d L size lv s O W) (hi:s.i≤L.length):∃ (tw tf te:Int) (y:ByteArray),(∀ x,sj L size x s.i=(y.toList==x))∧(∀ x,Gn L size x s.i=(tw==x))∧(tok L size s.i).t=y.toList ∧
  Calls Tryz.prog 116 #[ptr d] W fun e W'=>e=.returned (.agg #[.int .i64 tw,.string y,.int .i64 tf,.int .i64 te])∧Below W.heap.size W W':=by
 have c1:=yZ hM hi
 unfold sj Gn
 generalize tok L size s.i=t at c1 ⊢;obtain ⟨tw,tt,tf,te⟩:=t;dsimp only [NZ] at c1 ⊢
 have hyl:(⟨tt.toArray⟩:ByteArray).toList=tt:=by rw [bg]
 exact ⟨tw,tf,te,⟨tt.toArray⟩,fun x=>by rw [hyl],fun x=>rfl,hyl.symm,c1⟩
theorem Does.below {W W1 W':World} {r:IV} {e:Ending} {i:Nat} (h:Does d L size lv i O W1 r e W') (hb:Below W.heap.size W W1):Does d L size lv i O W r e W':=by
 cases r with
 | go s'=>obtain ⟨h1,O',h2,h3⟩:=h;exact ⟨h1,O',h2,(bN.of_below hb).trans h3⟩
 | wrong=>obtain ⟨h1,h2⟩:=h;exact ⟨h1,hb.trans (h2.mono hb.size)⟩
 | stuck=>trivial
theorem mr {d bx:Nat} {W:World} (h:W.cell? ⟨bx,0,none⟩=some (ptr d)):(Instr.loadAt 110 (.pointer (some ⟨bx,0,none⟩))).run Tryz.prog W=.ok (ptr d) W:=by
 simp [go_sem,h]
theorem uD {d bx k:Nat} {W:World} (h:W.cell? ⟨bx,0,none⟩=some (.func (.func k) #[ptr d] #[])):(Instr.loadAt 1 (.pointer (some ⟨bx,0,none⟩))).run Tryz.prog W=.ok (.func (.func k) #[ptr d] #[]) W:=by
 simp [go_sem,h]
theorem Jj {bx:Nat} {x:ByteArray} {W:World} (h:W.cell? ⟨bx,0,none⟩=some (.string x)):(Instr.loadAt 9 (.pointer (some ⟨bx,0,none⟩))).run Tryz.prog W=.ok (.string x) W:=by
 simp [go_sem,h]
theorem jg.cell {W:World} {b:Nat} {v:Value} {t:TypeId} (h:jg O W b v t):W.cell? ⟨b,0,none⟩=some v:=by
 have:=h.2
 simp [World.cell?,this]
theorem Small.at {L:List bn} {s:St} (h:Small L s) {j:Nat} (hj:j≤L.length):Small L { s with i:=j }:=⟨hj,h.len,h.todo,h.opn,h.kids⟩
theorem XT {W:World} (hM:Mem d L size lv s O W) (hs:Small L s):Calls Tryz.prog 101 #[ptr d] W (Does d L size lv s.i O W (bD L size .decl s)):=by
 obtain ⟨tw,tf,te,y,hP,hW,_,c1⟩:=jh hM hs.i;have oD:=oD
 have hfl:=fun X=>Ez (.int .i64 tw) (.string y) (.int .i64 tf) (.int .i64 te) X
 simp only [bD,hP];clear hP hW;obtain ⟨b0,h0⟩:∃ b,(y.toList==[102,117,110,99])=b:=⟨_,rfl⟩
 cases b0 with
 | true =>
  rw [au (show (y.toList==eY)=true from h0)]
  go_enter Tryz.func101,Tryz.ntmps101
  go_wp2_with fail
  refine c1.mono ?_;rintro e v0 ⟨rfl,hb0⟩;dsimp only;have hM0:=hM.below hb0
  go_wp2_with fail
  refine (eU hM0 hs.i eY hs.opn).mono ?_;rintro e v1 ⟨rfl,O1,hM1,hS1⟩;dsimp only
  go_wp2_with fail
  refine (dZ hM1 eY).mono ?_;rintro e v2 ⟨p2,q2,rfl,hp2,hq2,hb2⟩;dsimp only;have hM2:=hM1.below hb2
  go_wp2_with fail
  refine (dH hM2 [.word eY,.m .name,.m .params,.m .result,.m .block,.m .fin] [.func (.func 131) #[] #[ptr p2,ptr q2],.func (.func 119) #[ptr d] #[],.func (.func 120) #[ptr d] #[],.func (.func 121) #[ptr d] #[],.func (.func 122) #[ptr d] #[],.func (.func 123) #[ptr d] #[]] 6 rfl ⟨_,_,rfl,⟨p2,q2,rfl,hp2,hq2⟩,⟨_,_,rfl,rfl,⟨_,_,rfl,rfl,⟨_,_,rfl,rfl,⟨_,_,rfl,rfl,⟨_,_,rfl,rfl,rfl⟩⟩⟩⟩⟩⟩ (by decide) hs.todo).mono ?_;rintro e v3 ⟨rfl,O3,vB,CY⟩;dsimp only
  (try go_wp2_with fail)
  first|go_end0|refine aA (aD rfl _ _ _) rfl ?_
  exact ⟨rfl,O3,vB,((((bN.of_below hb0).trans hS1).trans (bN.of_below hb2)).trans CY)⟩
 | false =>
 rw [ai (show ¬ (y.toList==eY)=true by rw [show (y.toList==eY)=false from h0];decide)];obtain ⟨b1,h1⟩:∃ b,(y.toList==[118,97,114])=b:=⟨_,rfl⟩
 cases b1 with
 | true =>
  rw [au (show (y.toList==jd)=true from h1)]
  go_enter Tryz.func101,Tryz.ntmps101
  go_wp2_with fail
  refine c1.mono ?_;rintro e v0 ⟨rfl,hb0⟩;dsimp only;have hM0:=hM.below hb0
  go_wp2_with fail
  refine (E5 hM0 hs).mono ?_;rintro e v9 ⟨rfl,O9,tC,tF⟩;dsimp only
  (try go_wp2_with fail)
  first|go_end0|refine aA (aD rfl _ _ _) rfl ?_
  exact ⟨rfl,O9,tC,(bN.of_below hb0).trans tF⟩
 | false =>
 rw [ai (show ¬ (y.toList==jd)=true by rw [show (y.toList==jd)=false from h1];decide)];obtain ⟨b2,h2⟩:∃ b,(y.toList==[116,121,112,101])=b:=⟨_,rfl⟩
 cases b2 with
 | true =>
  rw [au (show (y.toList==gU)=true from h2)]
  go_enter Tryz.func101,Tryz.ntmps101
  go_wp2_with fail
  refine c1.mono ?_;rintro e v0 ⟨rfl,hb0⟩;dsimp only;have hM0:=hM.below hb0
  go_wp2_with fail
  refine (eU hM0 hs.i gU hs.opn).mono ?_;rintro e v1 ⟨rfl,O1,hM1,hS1⟩;dsimp only
  go_wp2_with fail
  refine (dZ hM1 gU).mono ?_;rintro e v2 ⟨p2,q2,rfl,hp2,hq2,hb2⟩;dsimp only;have hM2:=hM1.below hb2
  go_wp2_with fail
  refine (dZ hM2 kr).mono ?_;rintro e v3 ⟨p3,q3,rfl,hp3,hq3,hb3⟩;dsimp only;replace hp2:=hp2.below hb3;replace hq2:=hq2.below hb3;have vB:=hM2.below hb3
  go_wp2_with fail
  refine (dZ vB [123]).mono ?_;rintro e v4 ⟨p4,q4,rfl,UA,hq4,hb4⟩;dsimp only;replace hp2:=hp2.below hb4;replace hq2:=hq2.below hb4;replace hp3:=hp3.below hb4;replace hq3:=hq3.below hb4;have Kz:=vB.below hb4
  go_wp2_with fail
  refine (rA Kz 126).mono ?_;rintro e v5 ⟨p5,q5,rfl,XU,xZ,hb5⟩;dsimp only;replace hp2:=hp2.below hb5;replace hq2:=hq2.below hb5;replace hp3:=hp3.below hb5;replace hq3:=hq3.below hb5;replace UA:=UA.below hb5;replace hq4:=hq4.below hb5;have hM5:=Kz.below hb5
  go_wp2_with fail
  refine (dZ hM5 [125]).mono ?_;rintro e v6 ⟨p6,q6,rfl,hp6,IC,hb6⟩;dsimp only;replace hp2:=hp2.below hb6;replace hq2:=hq2.below hb6;replace hp3:=hp3.below hb6;replace hq3:=hq3.below hb6;replace UA:=UA.below hb6;replace hq4:=hq4.below hb6;replace XU:=XU.below hb6;replace xZ:=xZ.below hb6;have hM6:=hM5.below hb6
  go_wp2_with fail
  refine (dH hM6 [.word gU,.m .name,.word kr,.word [123],.lines .field,.word [125],.m .fin] [.func (.func 131) #[] #[ptr p2,ptr q2],.func (.func 119) #[ptr d] #[],.func (.func 131) #[] #[ptr p3,ptr q3],.func (.func 131) #[] #[ptr p4,ptr q4],.func (.func 139) #[] #[ptr p5,ptr q5],.func (.func 131) #[] #[ptr p6,ptr q6],.func (.func 123) #[ptr d] #[]] 7 rfl ⟨_,_,rfl,⟨p2,q2,rfl,hp2,hq2⟩,⟨_,_,rfl,rfl,⟨_,_,rfl,⟨p3,q3,rfl,hp3,hq3⟩,⟨_,_,rfl,⟨p4,q4,rfl,UA,hq4⟩,⟨_,_,rfl,⟨p5,q5,rfl,XU,xZ⟩,⟨_,_,rfl,⟨p6,q6,rfl,hp6,IC⟩,⟨_,_,rfl,rfl,rfl⟩⟩⟩⟩⟩⟩⟩ (by decide) hs.todo).mono ?_;rintro e v7 ⟨rfl,O7,hM7,hS7⟩;dsimp only
  (try go_wp2_with fail)
  first|go_end0|refine aA (aD rfl _ _ _) rfl ?_
  exact ⟨rfl,O7,hM7,((((((((bN.of_below hb0).trans hS1).trans (bN.of_below hb2)).trans (bN.of_below hb3)).trans (bN.of_below hb4)).trans (bN.of_below hb5)).trans (bN.of_below hb6)).trans hS7)⟩
 | false =>
 rw [ai (show ¬ (y.toList==gU)=true by rw [show (y.toList==gU)=false from h2];decide)]
 go_enter Tryz.func101,Tryz.ntmps101
 go_wp2_with fail
 refine c1.mono ?_;rintro e v0 ⟨rfl,hb0⟩;dsimp only;have hM0:=hM.below hb0
 go_wp2_with fail
 refine (CS hM0 hs.i).mono ?_;rintro e v9 ⟨rfl,oP⟩;dsimp only
 exact ⟨rfl,rfl,hb0.trans (oP.mono hb0.size)⟩
theorem QH {W:World} (hM:Mem d L size lv s O W) (hs:Small L s):Calls Tryz.prog 136 #[ptr d] W (Does d L size lv s.i O W (bD L size .typeOf s)):=by
 obtain ⟨tw,tf,te,y,hP,hW,_,c1⟩:=jh hM hs.i;have oD:=oD
 have hfl:=fun X=>Ez (.int .i64 tw) (.string y) (.int .i64 tf) (.int .i64 te) X
 simp only [bD,hP];clear hP hW;obtain ⟨b0,h0⟩:∃ b,(y.toList==[42])=b:=⟨_,rfl⟩
 cases b0 with
 | true =>
  rw [au (show (y.toList==[42])=true from h0)]
  go_enter Tryz.func136,Tryz.ntmps136
  go_wp2_with fail
  refine c1.mono ?_;rintro e v0 ⟨rfl,hb0⟩;dsimp only;have hM0:=hM.below hb0
  go_wp2_with fail
  refine (eU hM0 hs.i vJ hs.opn).mono ?_;rintro e v1 ⟨rfl,O1,hM1,hS1⟩;dsimp only
  go_wp2_with fail
  refine (dZ hM1 [42]).mono ?_;rintro e v2 ⟨p2,q2,rfl,hp2,hq2,hb2⟩;dsimp only;have hM2:=hM1.below hb2
  go_wp2_with fail
  refine (dH hM2 [.word [42],.m .typeOf,.m .fin] [.func (.func 131) #[] #[ptr p2,ptr q2],.func (.func 136) #[ptr d] #[],.func (.func 123) #[ptr d] #[]] 3 rfl ⟨_,_,rfl,⟨p2,q2,rfl,hp2,hq2⟩,⟨_,_,rfl,rfl,⟨_,_,rfl,rfl,rfl⟩⟩⟩ (by decide) hs.todo).mono ?_;rintro e v3 ⟨rfl,O3,vB,CY⟩;dsimp only
  (try go_wp2_with fail)
  first|go_end0|refine aA (aD rfl _ _ _) rfl ?_
  exact ⟨rfl,O3,vB,((((bN.of_below hb0).trans hS1).trans (bN.of_below hb2)).trans CY)⟩
 | false =>
 rw [ai (show ¬ (y.toList==[42])=true by rw [show (y.toList==[42])=false from h0];decide)];obtain ⟨b1,h1⟩:∃ b,(y.toList==[91])=b:=⟨_,rfl⟩
 cases b1 with
 | true =>
  rw [au (show (y.toList==[91])=true from h1)]
  go_enter Tryz.func136,Tryz.ntmps136
  go_wp2_with fail
  refine c1.mono ?_;rintro e v0 ⟨rfl,hb0⟩;dsimp only;have hM0:=hM.below hb0
  go_wp2_with fail
  refine (eU hM0 hs.i qA hs.opn).mono ?_;rintro e v1 ⟨rfl,O1,hM1,hS1⟩;dsimp only
  go_wp2_with fail
  refine (dZ hM1 [91]).mono ?_;rintro e v2 ⟨p2,q2,rfl,hp2,hq2,hb2⟩;dsimp only;have hM2:=hM1.below hb2
  go_wp2_with fail
  refine (dZ hM2 [93]).mono ?_;rintro e v3 ⟨p3,q3,rfl,hp3,hq3,hb3⟩;dsimp only;replace hp2:=hp2.below hb3;replace hq2:=hq2.below hb3;have vB:=hM2.below hb3
  go_wp2_with fail
  refine (dH vB [.word [91],.word [93],.m .typeOf,.m .fin] [.func (.func 131) #[] #[ptr p2,ptr q2],.func (.func 131) #[] #[ptr p3,ptr q3],.func (.func 136) #[ptr d] #[],.func (.func 123) #[ptr d] #[]] 4 rfl ⟨_,_,rfl,⟨p2,q2,rfl,hp2,hq2⟩,⟨_,_,rfl,⟨p3,q3,rfl,hp3,hq3⟩,⟨_,_,rfl,rfl,⟨_,_,rfl,rfl,rfl⟩⟩⟩⟩ (by decide) hs.todo).mono ?_;rintro e v4 ⟨rfl,O4,Kz,EB⟩;dsimp only
  (try go_wp2_with fail)
  first|go_end0|refine aA (aD rfl _ _ _) rfl ?_
  exact ⟨rfl,O4,Kz,(((((bN.of_below hb0).trans hS1).trans (bN.of_below hb2)).trans (bN.of_below hb3)).trans EB)⟩
 | false =>
 rw [ai (show ¬ (y.toList==[91])=true by rw [show (y.toList==[91])=false from h1];decide)]
 go_enter Tryz.func136,Tryz.ntmps136
 go_wp2_with fail
 refine c1.mono ?_;rintro e v0 ⟨rfl,hb0⟩;dsimp only;have hM0:=hM.below hb0
 go_wp2_with fail
 refine (eU hM0 hs.i yP hs.opn).mono ?_;rintro e v1 ⟨rfl,O1,hM1,hS1⟩;dsimp only
 go_wp2_with fail
 refine (dH hM1 [.m .name,.m .fin] [.func (.func 119) #[ptr d] #[],.func (.func 123) #[ptr d] #[]] 2 rfl ⟨_,_,rfl,rfl,⟨_,_,rfl,rfl,rfl⟩⟩ (by decide) hs.todo).mono ?_;rintro e v2 ⟨rfl,O2,hM2,hS2⟩;dsimp only
 (try go_wp2_with fail)
 first|go_end0|refine aA (aD rfl _ _ _) rfl ?_
 exact ⟨rfl,O2,hM2,(((bN.of_below hb0).trans hS1).trans hS2)⟩
theorem XV {W:World} (hM:Mem d L size lv s O W) (hs:Small L s):Calls Tryz.prog 137 #[ptr d] W (Does d L size lv s.i O W (bD L size .stmt s)):=by
 obtain ⟨tw,tf,te,y,hP,hW,_,c1⟩:=jh hM hs.i;have oD:=oD
 have hfl:=fun X=>Ez (.int .i64 tw) (.string y) (.int .i64 tf) (.int .i64 te) X
 simp only [bD,hP];clear hP hW;obtain ⟨b0,h0⟩:∃ b,(y.toList==[118,97,114])=b:=⟨_,rfl⟩
 cases b0 with
 | true =>
  rw [au (show (y.toList==jd)=true from h0)]
  go_enter Tryz.func137,Tryz.ntmps137
  go_wp2_with fail
  refine c1.mono ?_;rintro e v0 ⟨rfl,hb0⟩;dsimp only;have hM0:=hM.below hb0
  go_wp2_with fail
  refine (E5 hM0 hs).mono ?_;rintro e v9 ⟨rfl,O9,tC,tF⟩;dsimp only
  (try go_wp2_with fail)
  first|go_end0|refine aA (aD rfl _ _ _) rfl ?_
  exact ⟨rfl,O9,tC,(bN.of_below hb0).trans tF⟩
 | false =>
 rw [ai (show ¬ (y.toList==jd)=true by rw [show (y.toList==jd)=false from h0];decide)];obtain ⟨b1,h1⟩:∃ b,(y.toList==[114,101,116,117,114,110])=b:=⟨_,rfl⟩
 cases b1 with
 | true =>
  rw [au (show (y.toList==dL)=true from h1)]
  go_enter Tryz.func137,Tryz.ntmps137
  go_wp2_with fail
  refine c1.mono ?_;rintro e v0 ⟨rfl,hb0⟩;dsimp only;have hM0:=hM.below hb0
  go_wp2_with fail
  refine (eU hM0 hs.i dL hs.opn).mono ?_;rintro e v1 ⟨rfl,O1,hM1,hS1⟩;dsimp only
  go_wp2_with fail
  refine (dZ hM1 dL).mono ?_;rintro e v2 ⟨p2,q2,rfl,hp2,hq2,hb2⟩;dsimp only;have hM2:=hM1.below hb2
  go_wp2_with fail
  refine (dH hM2 [.word dL,.m .returned,.m .fin] [.func (.func 131) #[] #[ptr p2,ptr q2],.func (.func 144) #[ptr d] #[],.func (.func 123) #[ptr d] #[]] 3 rfl ⟨_,_,rfl,⟨p2,q2,rfl,hp2,hq2⟩,⟨_,_,rfl,rfl,⟨_,_,rfl,rfl,rfl⟩⟩⟩ (by decide) hs.todo).mono ?_;rintro e v3 ⟨rfl,O3,vB,CY⟩;dsimp only
  (try go_wp2_with fail)
  first|go_end0|refine aA (aD rfl _ _ _) rfl ?_
  exact ⟨rfl,O3,vB,((((bN.of_below hb0).trans hS1).trans (bN.of_below hb2)).trans CY)⟩
 | false =>
 rw [ai (show ¬ (y.toList==dL)=true by rw [show (y.toList==dL)=false from h1];decide)];obtain ⟨b2,h2⟩:∃ b,(y.toList==[105,102])=b:=⟨_,rfl⟩
 cases b2 with
 | true =>
  rw [au (show (y.toList==kI)=true from h2)]
  go_enter Tryz.func137,Tryz.ntmps137
  go_wp2_with fail
  refine c1.mono ?_;rintro e v0 ⟨rfl,hb0⟩;dsimp only;have hM0:=hM.below hb0
  go_wp2_with fail
  refine (Ji hM0 hs).mono ?_;rintro e v9 ⟨rfl,O9,tC,tF⟩;dsimp only
  (try go_wp2_with fail)
  first|go_end0|refine aA (aD rfl _ _ _) rfl ?_
  exact ⟨rfl,O9,tC,(bN.of_below hb0).trans tF⟩
 | false =>
 rw [ai (show ¬ (y.toList==kI)=true by rw [show (y.toList==kI)=false from h2];decide)];obtain ⟨b3,h3⟩:∃ b,(y.toList==[102,111,114])=b:=⟨_,rfl⟩
 cases b3 with
 | true =>
  rw [au (show (y.toList==lI)=true from h3)]
  go_enter Tryz.func137,Tryz.ntmps137
  go_wp2_with fail
  refine c1.mono ?_;rintro e v0 ⟨rfl,hb0⟩;dsimp only;have hM0:=hM.below hb0
  go_wp2_with fail
  refine (eU hM0 hs.i lI hs.opn).mono ?_;rintro e v1 ⟨rfl,O1,hM1,hS1⟩;dsimp only
  go_wp2_with fail
  refine (dZ hM1 lI).mono ?_;rintro e v2 ⟨p2,q2,rfl,hp2,hq2,hb2⟩;dsimp only;have hM2:=hM1.below hb2
  go_wp2_with fail
  refine (dH hM2 [.word lI,.m .expr,.m .block,.m .fin] [.func (.func 131) #[] #[ptr p2,ptr q2],.func (.func 146) #[ptr d] #[],.func (.func 122) #[ptr d] #[],.func (.func 123) #[ptr d] #[]] 4 rfl ⟨_,_,rfl,⟨p2,q2,rfl,hp2,hq2⟩,⟨_,_,rfl,rfl,⟨_,_,rfl,rfl,⟨_,_,rfl,rfl,rfl⟩⟩⟩⟩ (by decide) hs.todo).mono ?_;rintro e v3 ⟨rfl,O3,vB,CY⟩;dsimp only
  (try go_wp2_with fail)
  first|go_end0|refine aA (aD rfl _ _ _) rfl ?_
  exact ⟨rfl,O3,vB,((((bN.of_below hb0).trans hS1).trans (bN.of_below hb2)).trans CY)⟩
 | false =>
 rw [ai (show ¬ (y.toList==lI)=true by rw [show (y.toList==lI)=false from h3];decide)];obtain ⟨b4,h4⟩:∃ b,(y.toList==[123])=b:=⟨_,rfl⟩
 cases b4 with
 | true =>
  rw [au (show (y.toList==[123])=true from h4)]
  go_enter Tryz.func137,Tryz.ntmps137
  go_wp2_with fail
  refine c1.mono ?_;rintro e v0 ⟨rfl,hb0⟩;dsimp only;have hM0:=hM.below hb0
  go_wp2_with fail
  refine (Gw hM0 hs).mono ?_;rintro e v9 ⟨rfl,O9,tC,tF⟩;dsimp only
  (try go_wp2_with fail)
  first|go_end0|refine aA (aD rfl _ _ _) rfl ?_
  exact ⟨rfl,O9,tC,(bN.of_below hb0).trans tF⟩
 | false =>
 rw [ai (show ¬ (y.toList==[123])=true by rw [show (y.toList==[123])=false from h4];decide)]
 go_enter Tryz.func137,Tryz.ntmps137
 go_wp2_with fail
 refine c1.mono ?_;rintro e v0 ⟨rfl,hb0⟩;dsimp only;have hM0:=hM.below hb0
 go_wp2_with fail
 refine (eU hM0 hs.i vK hs.opn).mono ?_;rintro e v1 ⟨rfl,O1,hM1,hS1⟩;dsimp only
 go_wp2_with fail
 refine (dH hM1 [.m .expr,.m .assigned,.m .fin] [.func (.func 146) #[ptr d] #[],.func (.func 147) #[ptr d] #[],.func (.func 123) #[ptr d] #[]] 3 rfl ⟨_,_,rfl,rfl,⟨_,_,rfl,rfl,⟨_,_,rfl,rfl,rfl⟩⟩⟩ (by decide) hs.todo).mono ?_;rintro e v2 ⟨rfl,O2,hM2,hS2⟩;dsimp only
 (try go_wp2_with fail)
 first|go_end0|refine aA (aD rfl _ _ _) rfl ?_
 exact ⟨rfl,O2,hM2,(((bN.of_below hb0).trans hS1).trans hS2)⟩
theorem N8 {W:World} (hM:Mem d L size lv s O W) (hs:Small L s):Calls Tryz.prog 155 #[ptr d] W (Does d L size lv s.i O W (bD L size .operand s)):=by
 obtain ⟨tw,tf,te,y,hP,hW,_,c1⟩:=jh hM hs.i;have oD:=oD
 have hfl:=fun X=>Jb (.int .i64 tw) (.string y) (.int .i64 tf) (.int .i64 te) X
 simp only [bD,hW];clear hP hW;obtain ⟨b0,h0⟩:∃ b,(tw==1)=b:=⟨_,rfl⟩
 cases b0 with
 | true =>
  rw [au (show (tw==1)=true from h0)]
  go_enter Tryz.func155,Tryz.ntmps155
  go_wp2_with fail
  refine c1.mono ?_;rintro e v0 ⟨rfl,hb0⟩;dsimp only;have hM0:=hM.below hb0
  go_wp2_with fail
  refine (eU hM0 hs.i IQ hs.opn).mono ?_;rintro e v1 ⟨rfl,O1,hM1,hS1⟩;dsimp only
  go_wp2_with fail
  refine (dH hM1 [.m .text,.m .fin] [.func (.func 154) #[ptr d] #[],.func (.func 123) #[ptr d] #[]] 2 rfl ⟨_,_,rfl,rfl,⟨_,_,rfl,rfl,rfl⟩⟩ (by decide) hs.todo).mono ?_;rintro e v2 ⟨rfl,O2,hM2,hS2⟩;dsimp only
  (try go_wp2_with fail)
  first|go_end0|refine aA (aD rfl _ _ _) rfl ?_
  exact ⟨rfl,O2,hM2,(((bN.of_below hb0).trans hS1).trans hS2)⟩
 | false =>
 rw [ai (show ¬ (tw==1)=true by rw [show (tw==1)=false from h0];decide)];obtain ⟨b1,h1⟩:∃ b,(tw==2)=b:=⟨_,rfl⟩
 cases b1 with
 | true =>
  rw [au (show (tw==2)=true from h1)]
  go_enter Tryz.func155,Tryz.ntmps155
  go_wp2_with fail
  refine c1.mono ?_;rintro e v0 ⟨rfl,hb0⟩;dsimp only;have hM0:=hM.below hb0
  go_wp2_with fail
  refine (eU hM0 hs.i IU hs.opn).mono ?_;rintro e v1 ⟨rfl,O1,hM1,hS1⟩;dsimp only
  go_wp2_with fail
  refine (dH hM1 [.m .text,.m .fin] [.func (.func 154) #[ptr d] #[],.func (.func 123) #[ptr d] #[]] 2 rfl ⟨_,_,rfl,rfl,⟨_,_,rfl,rfl,rfl⟩⟩ (by decide) hs.todo).mono ?_;rintro e v2 ⟨rfl,O2,hM2,hS2⟩;dsimp only
  (try go_wp2_with fail)
  first|go_end0|refine aA (aD rfl _ _ _) rfl ?_
  exact ⟨rfl,O2,hM2,(((bN.of_below hb0).trans hS1).trans hS2)⟩
 | false =>
 rw [ai (show ¬ (tw==2)=true by rw [show (tw==2)=false from h1];decide)];obtain ⟨b2,h2⟩:∃ b,(tw==0)=b:=⟨_,rfl⟩
 cases b2 with
 | true =>
  rw [au (show (tw==0)=true from h2)]
  go_enter Tryz.func155,Tryz.ntmps155
  go_wp2_with fail
  refine c1.mono ?_;rintro e v0 ⟨rfl,hb0⟩;dsimp only;have hM0:=hM.below hb0
  go_wp2_with fail
  refine (eU hM0 hs.i Qn hs.opn).mono ?_;rintro e v1 ⟨rfl,O1,hM1,hS1⟩;dsimp only
  go_wp2_with fail
  refine (dH hM1 [.m .name,.m .called,.m .fin] [.func (.func 119) #[ptr d] #[],.func (.func 159) #[ptr d] #[],.func (.func 123) #[ptr d] #[]] 3 rfl ⟨_,_,rfl,rfl,⟨_,_,rfl,rfl,⟨_,_,rfl,rfl,rfl⟩⟩⟩ (by decide) hs.todo).mono ?_;rintro e v2 ⟨rfl,O2,hM2,hS2⟩;dsimp only
  (try go_wp2_with fail)
  first|go_end0|refine aA (aD rfl _ _ _) rfl ?_
  exact ⟨rfl,O2,hM2,(((bN.of_below hb0).trans hS1).trans hS2)⟩
 | false =>
 rw [ai (show ¬ (tw==0)=true by rw [show (tw==0)=false from h2];decide)]
 go_enter Tryz.func155,Tryz.ntmps155
 go_wp2_with fail
 refine c1.mono ?_;rintro e v0 ⟨rfl,hb0⟩;dsimp only;have hM0:=hM.below hb0
 go_wp2_with fail
 refine (eU hM0 hs.i Kw hs.opn).mono ?_;rintro e v1 ⟨rfl,O1,hM1,hS1⟩;dsimp only
 go_wp2_with fail
 refine (dZ hM1 [40]).mono ?_;rintro e v2 ⟨p2,q2,rfl,hp2,hq2,hb2⟩;dsimp only;have hM2:=hM1.below hb2
 go_wp2_with fail
 refine (dZ hM2 [41]).mono ?_;rintro e v3 ⟨p3,q3,rfl,hp3,hq3,hb3⟩;dsimp only;replace hp2:=hp2.below hb3;replace hq2:=hq2.below hb3;have vB:=hM2.below hb3
 go_wp2_with fail
 refine (dH vB [.word [40],.m .expr,.word [41],.m .fin] [.func (.func 131) #[] #[ptr p2,ptr q2],.func (.func 146) #[ptr d] #[],.func (.func 131) #[] #[ptr p3,ptr q3],.func (.func 123) #[ptr d] #[]] 4 rfl ⟨_,_,rfl,⟨p2,q2,rfl,hp2,hq2⟩,⟨_,_,rfl,rfl,⟨_,_,rfl,⟨p3,q3,rfl,hp3,hq3⟩,⟨_,_,rfl,rfl,rfl⟩⟩⟩⟩ (by decide) hs.todo).mono ?_;rintro e v4 ⟨rfl,O4,Kz,EB⟩;dsimp only
 (try go_wp2_with fail)
 first|go_end0|refine aA (aD rfl _ _ _) rfl ?_
 exact ⟨rfl,O4,Kz,(((((bN.of_below hb0).trans hS1).trans (bN.of_below hb2)).trans (bN.of_below hb3)).trans EB)⟩
theorem Jk {W:World} (hM:Mem d L size lv s O W) (hs:Small L s):Calls Tryz.prog 150 #[ptr d] W (Does d L size lv s.i O W (bD L size .otherwise s)):=by
 have c1:=iJ hM hs.i mV;have oD:=oD;simp only [bD]
 cases h0:sj L size mV s.i with
 | true =>
  rw [h0] at c1;rw [au rfl]
  go_enter Tryz.func150,Tryz.ntmps150
  go_wp2_with fail
  refine c1.mono ?_;rintro e v0 ⟨rfl,hb0⟩;dsimp only;have hM0:=hM.below hb0
  go_wp2_with fail
  refine (dZ hM0 mV).mono ?_;rintro e v1 ⟨p1,q1,rfl,hp1,hq1,hb1⟩;dsimp only;have hM1:=hM0.below hb1
  go_wp2_with fail
  refine (dH hM1 [.word mV,.m .iV] [.func (.func 131) #[] #[ptr p1,ptr q1],.func (.func 153) #[ptr d] #[]] 2 rfl ⟨_,_,rfl,⟨p1,q1,rfl,hp1,hq1⟩,⟨_,_,rfl,rfl,rfl⟩⟩ (by decide) hs.todo).mono ?_;rintro e v2 ⟨rfl,O2,hM2,hS2⟩;dsimp only
  (try go_wp2_with fail)
  first|go_end0|refine aA (aD rfl _ _ _) rfl ?_
  exact ⟨rfl,O2,hM2,(((bN.of_below hb0).trans (bN.of_below hb1)).trans hS2)⟩
 | false =>
  rw [h0] at c1;rw [ai (by decide)]
  go_enter Tryz.func150,Tryz.ntmps150
  go_wp2_with fail
  refine c1.mono ?_;rintro e v0 ⟨rfl,hb0⟩;dsimp only;have hM0:=hM.below hb0
  go_wp2_with fail
  (try go_wp2_with fail)
  first|go_end0|refine aA (aD rfl _ _ _) rfl ?_
  exact ⟨rfl,O,hM0,.of_below hb0⟩
theorem Jl {W:World} (hM:Mem d L size lv s O W) (hs:Small L s):Calls Tryz.prog 153 #[ptr d] W (Does d L size lv s.i O W (bD L size .iV s)):=by
 have c1:=iJ hM hs.i kI;have oD:=oD;simp only [bD]
 cases h0:sj L size kI s.i with
 | true =>
  rw [h0] at c1;rw [au rfl]
  go_enter Tryz.func153,Tryz.ntmps153
  go_wp2_with fail
  refine c1.mono ?_;rintro e v0 ⟨rfl,hb0⟩;dsimp only;have hM0:=hM.below hb0
  go_wp2_with fail
  refine (Ji hM0 hs).mono ?_;rintro e v9 ⟨rfl,O9,tC,tF⟩;dsimp only
  (try go_wp2_with fail)
  first|go_end0|refine aA (aD rfl _ _ _) rfl ?_
  exact ⟨rfl,O9,tC,(bN.of_below hb0).trans tF⟩
 | false =>
  rw [h0] at c1;rw [ai (by decide)]
  go_enter Tryz.func153,Tryz.ntmps153
  go_wp2_with fail
  refine c1.mono ?_;rintro e v0 ⟨rfl,hb0⟩;dsimp only;have hM0:=hM.below hb0
  go_wp2_with fail
  refine (Gw hM0 hs).mono ?_;rintro e v9 ⟨rfl,O9,tC,tF⟩;dsimp only
  (try go_wp2_with fail)
  first|go_end0|refine aA (aD rfl _ _ _) rfl ?_
  exact ⟨rfl,O9,tC,(bN.of_below hb0).trans tF⟩
theorem QI {W:World} (hM:Mem d L size lv s O W) (hs:Small L s):Calls Tryz.prog 151 #[ptr d] W (Does d L size lv s.i O W (bD L size .pre s)):=by
 obtain ⟨tw,tf,te,y,hP,_,_,c1⟩:=jh hM hs.i;have oD:=oD
 have hfl:=fun X=>Ez (.int .i64 tw) (.string y) (.int .i64 tf) (.int .i64 te) X
 simp only [bD,hP];clear hP;obtain ⟨b0,h0⟩:∃ b,(y.toList==[38])=b:=⟨_,rfl⟩
 cases b0 with
 | true =>
  rw [au (Or.inl h0)]
  go_enter Tryz.func151,Tryz.ntmps151
  go_wp2_with fail
  refine c1.mono ?_;rintro e v0 ⟨rfl,hb0⟩;dsimp only;have hM0:=hM.below hb0
  go_wp2_with fail
  refine (eU hM0 hs.i jK hs.opn).mono ?_;rintro e v1 ⟨rfl,O1,hM1,hS1⟩;dsimp only
  go_wp2_with fail
  refine (dH hM1 [.m .text,.m .pre,.m .fin] [.func (.func 154) #[ptr d] #[],.func (.func 151) #[ptr d] #[],.func (.func 123) #[ptr d] #[]] 3 rfl ⟨_,_,rfl,rfl,⟨_,_,rfl,rfl,⟨_,_,rfl,rfl,rfl⟩⟩⟩ (by decide) hs.todo).mono ?_;rintro e v2 ⟨rfl,O2,hM2,hS2⟩;dsimp only
  (try go_wp2_with fail)
  first|go_end0|refine aA (aD rfl _ _ _) rfl ?_
  exact ⟨rfl,O2,hM2,(((bN.of_below hb0).trans hS1).trans hS2)⟩
 | false =>
 obtain ⟨b1,h1⟩:∃ b,(y.toList==[42])=b:=⟨_,rfl⟩
 cases b1 with
 | true =>
  rw [au (Or.inr (Or.inl h1))]
  go_enter Tryz.func151,Tryz.ntmps151
  go_wp2_with fail
  refine c1.mono ?_;rintro e v0 ⟨rfl,hb0⟩;dsimp only;have hM0:=hM.below hb0
  go_wp2_with fail
  refine (eU hM0 hs.i jK hs.opn).mono ?_;rintro e v1 ⟨rfl,O1,hM1,hS1⟩;dsimp only
  go_wp2_with fail
  refine (dH hM1 [.m .text,.m .pre,.m .fin] [.func (.func 154) #[ptr d] #[],.func (.func 151) #[ptr d] #[],.func (.func 123) #[ptr d] #[]] 3 rfl ⟨_,_,rfl,rfl,⟨_,_,rfl,rfl,⟨_,_,rfl,rfl,rfl⟩⟩⟩ (by decide) hs.todo).mono ?_;rintro e v2 ⟨rfl,O2,hM2,hS2⟩;dsimp only
  (try go_wp2_with fail)
  first|go_end0|refine aA (aD rfl _ _ _) rfl ?_
  exact ⟨rfl,O2,hM2,(((bN.of_below hb0).trans hS1).trans hS2)⟩
 | false =>
 obtain ⟨b2,h2⟩:∃ b,(y.toList==[45])=b:=⟨_,rfl⟩
 cases b2 with
 | true =>
  rw [au (Or.inr (Or.inr (Or.inl h2)))]
  go_enter Tryz.func151,Tryz.ntmps151
  go_wp2_with fail
  refine c1.mono ?_;rintro e v0 ⟨rfl,hb0⟩;dsimp only;have hM0:=hM.below hb0
  go_wp2_with fail
  refine (eU hM0 hs.i jK hs.opn).mono ?_;rintro e v1 ⟨rfl,O1,hM1,hS1⟩;dsimp only
  go_wp2_with fail
  refine (dH hM1 [.m .text,.m .pre,.m .fin] [.func (.func 154) #[ptr d] #[],.func (.func 151) #[ptr d] #[],.func (.func 123) #[ptr d] #[]] 3 rfl ⟨_,_,rfl,rfl,⟨_,_,rfl,rfl,⟨_,_,rfl,rfl,rfl⟩⟩⟩ (by decide) hs.todo).mono ?_;rintro e v2 ⟨rfl,O2,hM2,hS2⟩;dsimp only
  (try go_wp2_with fail)
  first|go_end0|refine aA (aD rfl _ _ _) rfl ?_
  exact ⟨rfl,O2,hM2,(((bN.of_below hb0).trans hS1).trans hS2)⟩
 | false =>
 obtain ⟨b3,h3⟩:∃ b,(y.toList==[33])=b:=⟨_,rfl⟩
 cases b3 with
 | true =>
  rw [au (Or.inr (Or.inr (Or.inr h3)))]
  go_enter Tryz.func151,Tryz.ntmps151
  go_wp2_with fail
  refine c1.mono ?_;rintro e v0 ⟨rfl,hb0⟩;dsimp only;have hM0:=hM.below hb0
  go_wp2_with fail
  refine (eU hM0 hs.i jK hs.opn).mono ?_;rintro e v1 ⟨rfl,O1,hM1,hS1⟩;dsimp only
  go_wp2_with fail
  refine (dH hM1 [.m .text,.m .pre,.m .fin] [.func (.func 154) #[ptr d] #[],.func (.func 151) #[ptr d] #[],.func (.func 123) #[ptr d] #[]] 3 rfl ⟨_,_,rfl,rfl,⟨_,_,rfl,rfl,⟨_,_,rfl,rfl,rfl⟩⟩⟩ (by decide) hs.todo).mono ?_;rintro e v2 ⟨rfl,O2,hM2,hS2⟩;dsimp only
  (try go_wp2_with fail)
  first|go_end0|refine aA (aD rfl _ _ _) rfl ?_
  exact ⟨rfl,O2,hM2,(((bN.of_below hb0).trans hS1).trans hS2)⟩
 | false =>
 rw [ai (by rintro (h|h|h|h);rw [h0] at h;cases h;rw [h1] at h;cases h;rw [h2] at h;cases h;rw [h3] at h;cases h)]
 go_enter Tryz.func151,Tryz.ntmps151
 go_wp2_with fail
 refine c1.mono ?_;rintro e v0 ⟨rfl,hb0⟩;dsimp only;have hM0:=hM.below hb0
 go_wp2_with fail
 refine (dH hM0 [.m .operand,.m .behind] [.func (.func 155) #[ptr d] #[],.func (.func 156) #[ptr d] #[]] 2 rfl ⟨_,_,rfl,rfl,⟨_,_,rfl,rfl,rfl⟩⟩ (by decide) hs.todo).mono ?_;rintro e v1 ⟨rfl,O1,hM1,hS1⟩;dsimp only
 (try go_wp2_with fail)
 first|go_end0|refine aA (aD rfl _ _ _) rfl ?_
 exact ⟨rfl,O1,hM1,((bN.of_below hb0).trans hS1)⟩
theorem La {W:World} (hM:Mem d L size lv s O W) (hs:Small L s):Calls Tryz.prog 144 #[ptr d] W (Does d L size lv s.i O W (bD L size .returned s)):=by
 obtain ⟨tw,tf,te,y,_,hW,_,c1⟩:=jh hM hs.i;have oD:=oD
 have hfl:=fun X=>Jb (.int .i64 tw) (.string y) (.int .i64 tf) (.int .i64 te) X
 simp only [bD,hW];clear hW;obtain ⟨b0,h0⟩:∃ b,(tw==5)=b:=⟨_,rfl⟩
 cases b0 with
 | true =>
  rw [ai (by rintro ⟨h,_⟩;rw [h0] at h;cases h)]
  obtain rfl:tw=5:=by simpa using h0
  clear h0
  go_enter Tryz.func144,Tryz.ntmps144
  go_wp2_with fail
  refine c1.mono ?_;rintro e v0 ⟨rfl,hb0⟩;dsimp only;have hM0:=hM.below hb0
  go_wp2_with fail
  first|go_end0|refine aA (aD rfl _ _ _) rfl ?_
  exact ⟨rfl,O,hM0,.of_below hb0⟩
 | false =>
  have h5:(tw != 5)=true:=by simp [bne,h0]
  cases h1:sj L size [125] s.i with
  | true =>
   rw [ai (by rintro ⟨_,h⟩;cases h)];clear h0
   go_enter Tryz.func144,Tryz.ntmps144
   go_wp2_with fail
   refine c1.mono ?_;rintro e v0 ⟨rfl,hb0⟩;dsimp only;have hM0:=hM.below hb0;have c2:=iJ hM0 hs.i [125];rw [h1] at c2
   go_wp2_with fail
   refine c2.mono ?_;rintro e v1 ⟨rfl,hb1⟩;dsimp only;have hM1:=hM0.below hb1
   go_wp2_with fail
   first|go_end0|refine aA (aD rfl _ _ _) rfl ?_
   exact ⟨rfl,O,hM1,.of_below (hb0.trans (hb1.mono hb0.size))⟩
  | false =>
   rw [au ⟨h0,rfl⟩];clear h0
   go_enter Tryz.func144,Tryz.ntmps144
   go_wp2_with fail
   refine c1.mono ?_;rintro e v0 ⟨rfl,hb0⟩;dsimp only;have hM0:=hM.below hb0;have c2:=iJ hM0 hs.i [125];rw [h1] at c2
   go_wp2_with fail
   refine c2.mono ?_;rintro e v1 ⟨rfl,hb1⟩;dsimp only;have hM1:=hM0.below hb1
   go_wp2_with fail
   refine (Gx hM1 hs).mono ?_;rintro e v9 ⟨rfl,O9,tC,tF⟩;dsimp only
   (try go_wp2_with fail)
   first|go_end0|refine aA (aD rfl _ _ _) rfl ?_
   exact ⟨rfl,O9,tC,(bN.of_below (hb0.trans (hb1.mono hb0.size))).trans tF⟩
end
section
variable {d:Nat} {L:List bn} {size:Nat} {lv:Value} {s:St} {O:Nat→Prop}
theorem QJ {W:World} (hM:Mem d L size lv s O W) (hs:Small L s) (r:BV) (p q k:Nat) (hk:Ja r=k) (hp:jg O W p (ptr d) 110) (hq:jg O W q (sZ d r) 1) :
  Calls Tryz.prog 142 #[ptr p,ptr q] W (Does d L size lv s.i O W (exec L size (.jD r) s)):=by
 have hq':jg O W q (.func (.func k) #[ptr d] #[]) 1:=by rw [← hk];exact hq
 have hstep:∀ {O' W' b},jg O' W' b (.func (.func k) #[ptr d] #[]) 1→jg O' W' b (sZ d r) 1:=fun h=>by rw [← hk] at h;exact h
 have oD:=oD;have k0:=hp.cell;have k1:=hq'.cell;have c1:=iJ hM hs.i [41];simp only [exec]
 cases h0:sj L size [41] s.i with
 | true =>
  rw [h0] at c1;rw [au rfl]
  go_enter Tryz.func142,Tryz.ntmps142
  go_wp2_with fail
  refine c1.mono ?_;rintro e v0 ⟨rfl,hb0⟩;dsimp only;have hM0:=hM.below hb0
  go_wp2_with fail
  first|go_end0|refine aA (aD rfl _ _ _) rfl ?_
  exact ⟨rfl,O,hM0,.of_below hb0⟩
 | false =>
  rw [h0] at c1;rw [ai (by decide)]
  go_enter Tryz.func142,Tryz.ntmps142
  go_wp2_with fail
  refine c1.mono ?_;rintro e v0 ⟨rfl,hb0⟩;dsimp only;have hM0:=hM.below hb0;have hp0:=hp.below hb0;have hq0:=hq'.below hb0
  go_upto_region 1 with fail
  refine aK (S:=fun X:World=>X.cell? ⟨p,0,none⟩=some (ptr d)∧X.cell? ⟨q,0,none⟩=some (.func (.func k) #[ptr d] #[])) (by kernel_rfl) ⟨hp0.cell,hq0.cell⟩ fun ag=>?_
  have hD:Below v0.heap.size v0 v0.drew:=(ah _ _).drew;have Jm:=hM0.below hD;have vC:=hp0.below hD;have qD:=hq0.below hD;refine OP.y 0 rfl (ptr d) (cu 110 (.tmp 0) rfl (by rfl) (fun X hX=>mr hX.1)) ag ?_;simp only [OP.s];refine OP.y 1 rfl (.func (.func k) #[ptr d] #[]) (cu 1 (.tmp 1) rfl (by rfl) (fun X hX=>uD hX.2)) ag ?_;simp only [OP.s];refine OP.y 2 rfl (ptr d) (cu 110 (.tmp 0) rfl (by rfl) (fun X hX=>mr hX.1)) ag ?_;simp only [OP.s];refine OP.y 3 rfl (.func (.func k) #[ptr d] #[]) (cu 1 (.tmp 1) rfl (by rfl) (fun X hX=>uD hX.2)) ag ?_;simp only [OP.s]
  refine OP.r 4 rfl fun K hK=>?_
  go_simp
  go_at_call 143
  refine (CX Jm k).mono ?_;rintro e u1 ⟨a1,b1,rfl,ha1,hc1,hb1⟩;dsimp only;have Jn:=Jm.below hb1;replace vC:=vC.below hb1;replace qD:=qD.below hb1
  refine hK.out _ _ (⟨vC.cell,qD.cell⟩) fun ag=>?_
  try simp only [OP.s]
  clear hK K
  refine OP.r 5 rfl fun K hK=>?_
  go_simp
  have mh:Below u1.heap.size u1 (u1.alloc (.cells #[.func (.func k) #[ptr d] #[],.func (.func 149) #[] #[ptr a1,ptr b1]] 1)):=(ah _ _).alloc (ae _) _
  refine hK.out _ _ (⟨(vC.below mh).cell,(qD.below mh).cell⟩) fun ag=>?_
  try simp only [OP.s]
  clear hK K
  refine OP.r 6 rfl fun K hK=>?_
  go_simp
  go_at_call 100
  refine (dH Jn [.m r,.kJ r] [.func (.func k) #[ptr d] #[],.func (.func 149) #[] #[ptr a1,ptr b1]] 2 rfl ⟨_,_,rfl,(by show _=sZ d r;rw [sZ,hk]),⟨_,_,rfl,⟨a1,b1,rfl,ha1,hstep hc1⟩,rfl⟩⟩ (by decide) hs.todo).mono ?_;rintro e x1 ⟨rfl,O1,XW,Lb⟩;dsimp only
  refine hK.out _ _ (⟨(vC.stay Lb).cell,(qD.stay Lb).cell⟩) fun ag=>?_
  try simp only [OP.s]
  clear hK K;refine bz (by kernel_rfl) ?_ _
  (try go_wp2_with fail)
  first|go_end0|refine aA (aD rfl _ _ _) rfl ?_
  exact ⟨rfl,O1,XW,(((bN.of_below hb0).trans (bN.of_below hD)).trans (bN.of_below hb1)).trans Lb⟩
theorem UD {W:World} (hM:Mem d L size lv s O W) (hs:Small L s) (r:BV) (p q k:Nat) (hk:Ja r=k) (hp:jg O W p (ptr d) 110) (hq:jg O W q (sZ d r) 1) :
  Calls Tryz.prog 149 #[ptr p,ptr q] W (Does d L size lv s.i O W (exec L size (.kJ r) s)):=by
 have hq':jg O W q (.func (.func k) #[ptr d] #[]) 1:=by rw [← hk];exact hq
 have hstep:∀ {O' W' b},jg O' W' b (.func (.func k) #[ptr d] #[]) 1→jg O' W' b (sZ d r) 1:=fun h=>by rw [← hk] at h;exact h
 have oD:=oD;have k0:=hp.cell;have k1:=hq'.cell;have c1:=iJ hM hs.i [44];simp only [exec]
 cases h0:sj L size [44] s.i with
 | true =>
  rw [h0] at c1;rw [au rfl]
  go_enter Tryz.func149,Tryz.ntmps149
  go_wp2_with fail
  refine c1.mono ?_;rintro e v0 ⟨rfl,hb0⟩;dsimp only;have hM0:=hM.below hb0;have hp0:=hp.below hb0;have hq0:=hq'.below hb0
  go_upto_region 1 with fail
  refine aK (S:=fun X:World=>X.cell? ⟨p,0,none⟩=some (ptr d)∧X.cell? ⟨q,0,none⟩=some (.func (.func k) #[ptr d] #[])) (by kernel_rfl) ⟨hp0.cell,hq0.cell⟩ fun ag=>?_
  have hD:Below v0.heap.size v0 v0.drew:=(ah _ _).drew;have Jm:=hM0.below hD;have vC:=hp0.below hD;have qD:=hq0.below hD;refine OP.y 0 rfl (ptr d) (cu 110 (.tmp 0) rfl (by rfl) (fun X hX=>mr hX.1)) ag ?_;simp only [OP.s];refine OP.y 1 rfl (ptr d) (cu 110 (.tmp 0) rfl (by rfl) (fun X hX=>mr hX.1)) ag ?_;simp only [OP.s];refine OP.y 3 rfl (.func (.func k) #[ptr d] #[]) (cu 1 (.tmp 1) rfl (by rfl) (fun X hX=>uD hX.2)) ag ?_;simp only [OP.s];refine OP.y 4 rfl (ptr d) (cu 110 (.tmp 0) rfl (by rfl) (fun X hX=>mr hX.1)) ag ?_;simp only [OP.s];refine OP.y 5 rfl (.func (.func k) #[ptr d] #[]) (cu 1 (.tmp 1) rfl (by rfl) (fun X hX=>uD hX.2)) ag ?_;simp only [OP.s]
  refine OP.r 2 rfl fun K hK=>?_
  go_simp
  go_at_call 118
  refine (dZ Jm [44]).mono ?_;rintro e u1 ⟨a1,b1,rfl,ha1,hc1,hb1⟩;dsimp only;have Jn:=Jm.below hb1;replace vC:=vC.below hb1;replace qD:=qD.below hb1
  refine hK.out _ _ (⟨vC.cell,qD.cell⟩) fun ag=>?_
  try simp only [OP.s]
  clear hK K
  refine OP.r 6 rfl fun K hK=>?_
  go_simp
  go_at_call 143
  refine (CX Jn k).mono ?_;rintro e u2 ⟨a2,b2,rfl,ha2,hc2,hb2⟩;dsimp only;replace ha1:=ha1.below hb2;replace hc1:=hc1.below hb2;have aeu:=Jn.below hb2;replace vC:=vC.below hb2;replace qD:=qD.below hb2
  refine hK.out _ _ (⟨vC.cell,qD.cell⟩) fun ag=>?_
  try simp only [OP.s]
  clear hK K
  refine OP.r 7 rfl fun K hK=>?_
  go_simp
  have mh:Below u2.heap.size u2 (u2.alloc (.cells #[.func (.func 131) #[] #[ptr a1,ptr b1],.func (.func k) #[ptr d] #[],.func (.func 149) #[] #[ptr a2,ptr b2]] 1)):=(ah _ _).alloc (ae _) _
  refine hK.out _ _ (⟨(vC.below mh).cell,(qD.below mh).cell⟩) fun ag=>?_
  try simp only [OP.s]
  clear hK K
  refine OP.r 8 rfl fun K hK=>?_
  go_simp
  go_at_call 100
  refine (dH aeu [.word [44],.m r,.kJ r] [.func (.func 131) #[] #[ptr a1,ptr b1],.func (.func k) #[ptr d] #[],.func (.func 149) #[] #[ptr a2,ptr b2]] 3 rfl ⟨_,_,rfl,⟨a1,b1,rfl,ha1,hc1⟩,⟨_,_,rfl,(by show _=sZ d r;rw [sZ,hk]),⟨_,_,rfl,⟨a2,b2,rfl,ha2,hstep hc2⟩,rfl⟩⟩⟩ (by decide) hs.todo).mono ?_;rintro e x1 ⟨rfl,O1,XW,Lb⟩;dsimp only
  refine hK.out _ _ (⟨(vC.stay Lb).cell,(qD.stay Lb).cell⟩) fun ag=>?_
  try simp only [OP.s]
  clear hK K;refine bz (by kernel_rfl) ?_ _
  (try go_wp2_with fail)
  first|go_end0|refine aA (aD rfl _ _ _) rfl ?_
  exact ⟨rfl,O1,XW,((((bN.of_below hb0).trans (bN.of_below hD)).trans (bN.of_below hb1)).trans (bN.of_below hb2)).trans Lb⟩
 | false =>
  rw [h0] at c1;rw [ai (by decide)]
  go_enter Tryz.func149,Tryz.ntmps149
  go_wp2_with fail
  refine c1.mono ?_;rintro e v0 ⟨rfl,hb0⟩;dsimp only;have hM0:=hM.below hb0
  go_wp2_with fail
  first|go_end0|refine aA (aD rfl _ _ _) rfl ?_
  exact ⟨rfl,O,hM0,.of_below hb0⟩
theorem XX {W:World} (hM:Mem d L size lv s O W) (hs:Small L s) (r:BV) (p q k:Nat) (hk:Ja r=k) (hp:jg O W p (ptr d) 110) (hq:jg O W q (sZ d r) 1) :
  Calls Tryz.prog 148 #[ptr p,ptr q] W (Does d L size lv s.i O W (exec L size (.more r) s)):=by
 have hq':jg O W q (.func (.func k) #[ptr d] #[]) 1:=by rw [← hk];exact hq
 have hstep:∀ {O' W' b},jg O' W' b (.func (.func k) #[ptr d] #[]) 1→jg O' W' b (sZ d r) 1:=fun h=>by rw [← hk] at h;exact h
 have oD:=oD;obtain ⟨tw,tf,te,y,_,hW,_,c1⟩:=jh hM hs.i
 have hfl:=fun X=>Jb (.int .i64 tw) (.string y) (.int .i64 tf) (.int .i64 te) X
 have k0:=hp.cell;have k1:=hq'.cell;simp only [exec,hW];clear hW;obtain ⟨b0,h0⟩:∃ b,(tw==5)=b:=⟨_,rfl⟩;rw [h0]
 cases b0 with
 | true =>
  rw [au rfl]
  go_enter Tryz.func148,Tryz.ntmps148
  go_wp2_with fail
  refine c1.mono ?_;rintro e v0 ⟨rfl,hb0⟩;dsimp only;have hM0:=hM.below hb0;have hp0:=hp.below hb0;have hq0:=hq'.below hb0
  go_upto_region 1 with fail
  refine aK (S:=fun X:World=>X.cell? ⟨p,0,none⟩=some (ptr d)∧X.cell? ⟨q,0,none⟩=some (.func (.func k) #[ptr d] #[])) (by kernel_rfl) ⟨hp0.cell,hq0.cell⟩ fun ag=>?_
  have hD:Below v0.heap.size v0 v0.drew:=(ah _ _).drew;have Jm:=hM0.below hD;have vC:=hp0.below hD;have qD:=hq0.below hD;refine OP.y 0 rfl (ptr d) (cu 110 (.tmp 0) rfl (by rfl) (fun X hX=>mr hX.1)) ag ?_;simp only [OP.s];refine OP.y 1 rfl (ptr d) (cu 110 (.tmp 0) rfl (by rfl) (fun X hX=>mr hX.1)) ag ?_;simp only [OP.s];refine OP.y 2 rfl (.func (.func k) #[ptr d] #[]) (cu 1 (.tmp 1) rfl (by rfl) (fun X hX=>uD hX.2)) ag ?_;simp only [OP.s]
  refine OP.r 3 rfl fun K hK=>?_
  go_simp
  go_at_call 125
  refine (rA Jm k).mono ?_;rintro e u1 ⟨a1,b1,rfl,ha1,hc1,hb1⟩;dsimp only;have Jn:=Jm.below hb1;replace vC:=vC.below hb1;replace qD:=qD.below hb1
  refine hK.out _ _ (⟨vC.cell,qD.cell⟩) fun ag=>?_
  try simp only [OP.s]
  clear hK K
  refine OP.r 4 rfl fun K hK=>?_
  go_simp
  have mh:Below u1.heap.size u1 (u1.alloc (.cells #[.func (.func 139) #[] #[ptr a1,ptr b1]] 1)):=(ah _ _).alloc (ae _) _
  refine hK.out _ _ (⟨(vC.below mh).cell,(qD.below mh).cell⟩) fun ag=>?_
  try simp only [OP.s]
  clear hK K
  refine OP.r 5 rfl fun K hK=>?_
  go_simp
  go_at_call 100
  refine (dH Jn [.lines r] [.func (.func 139) #[] #[ptr a1,ptr b1]] 1 rfl ⟨_,_,rfl,⟨a1,b1,rfl,ha1,hstep hc1⟩,rfl⟩ (by decide) hs.todo).mono ?_;rintro e x1 ⟨rfl,O1,XW,Lb⟩;dsimp only
  refine hK.out _ _ (⟨(vC.stay Lb).cell,(qD.stay Lb).cell⟩) fun ag=>?_
  try simp only [OP.s]
  clear hK K;refine bz (by kernel_rfl) ?_ _
  (try go_wp2_with fail)
  first|go_end0|refine aA (aD rfl _ _ _) rfl ?_
  exact ⟨rfl,O1,XW,(((bN.of_below hb0).trans (bN.of_below hD)).trans (bN.of_below hb1)).trans Lb⟩
 | false =>
  rw [ai (by decide)]
  go_enter Tryz.func148,Tryz.ntmps148
  go_wp2_with fail
  refine c1.mono ?_;rintro e v0 ⟨rfl,hb0⟩;dsimp only;have hM0:=hM.below hb0
  go_wp2_with fail
  first|go_end0|refine aA (aD rfl _ _ _) rfl ?_
  exact ⟨rfl,O,hM0,.of_below hb0⟩
def Jo (d:Nat) (W:World):Nat:=match W.cell? ⟨d,1,none⟩ with
 | some (.int _ i)=>i.toNat
 | _=>0
theorem WI {W:World} (h:Mem d L size lv s O W):Jo d W=s.i:=by
 obtain ⟨tv,ov,bs,vs,xs,h⟩:=h;have hb:=h.blk
 unfold Jo
 simp [World.cell?,hb]
theorem Jp {i:Nat}:Gn L size 5 i=true→i<L.length:=by
 intro h
 unfold Gn tok at h
 rcases dV i L.length with h1|h1
 ·exact h1
 ·rw [di h1] at h;simp at h
theorem UE {i:Nat} (h:Gn L size 5 i=true):bE L i=bE L (i+1)+1:=by
 have hi:=Jp h
 unfold bE
 rw [bY hi,bK]
 have h2:(L[i].w==5)=true:=by unfold Gn at h;rw [mM size hi] at h;exact h
 rw [h2];simp
theorem QK {i:Nat} (h:Gn L size 5 i=false):bE L i=0:=by
 unfold bE
 rcases dV i L.length with hi|hi
 ·rw [bY hi,bK]
  have h2:(L[i].w==5)=false:=by unfold Gn at h;rw [mM size hi] at h;exact h
  rw [h2];rfl
 ·rw [gy hi];rfl
theorem M5 {W:World} (hM:Mem d L size lv s O W) (hs:Small L s):Calls Tryz.prog 102 #[ptr d] W (Does d L size lv s.i O W (.go { s with i:=s.i+bE L s.i })):=by
 have HM:=hid hM
 go_enter Tryz.func102,Tryz.ntmps102
 go_wp2_with fail
 go_loopw [] (fun wr=>∃ j,s.i≤j∧j≤L.length∧Hid (j+bE L j=s.i+bE L s.i)∧Hid (Mem d L size lv { s with i:=j } O wr)∧Hid (bN O O W wr)) (fun wr=>L.length - Jo d wr)
 case atStart=>exact ⟨s.i,ae _,hs.i,hid rfl,HM,hid (.refl _ _)⟩
 case round =>
  obtain ⟨j,hj,hjl,HJ,kG,HS⟩:=hrel;obtain ⟨tw,tf,te,y,_,hW,_,c1⟩:=jh kG.out hjl;have hat:=hid (WI kG.out)
  have hfl:=fun X=>Jb (.int .i64 tw) (.string y) (.int .i64 tf) (.int .i64 te) X
  have jr:=hW 5;dsimp only at jr;clear hW hM;obtain ⟨b0,h0⟩:∃ b,(tw==5)=b:=⟨_,rfl⟩;rw [h0] at jr;have qE:=hid jr;clear jr
  cases b0 with
  | true =>
   go_wp2_with fail
   refine c1.mono ?_;rintro e v0 ⟨rfl,hb0⟩;dsimp only;have hM0:=kG.out.below hb0;obtain ⟨q1,q2,k1,f1⟩:=hM0.next ((j:Int)+1) (by dsimp only;omega);have e0:IntKind.i64.wrap ((j:Int)+1)=(j:Int)+1:=bq _ (by have:=hs.len;omega);have H1:=hid q1;have H2:=hid ((HS.out.trans (bN.of_below hb0)).trans q2);have hjlt:=Jp qE.out;have hon:=UE qE.out;dsimp only at k1;clear q1 q2 hM0 hb0
   go_wp2_with fail
   go_roundw
   case rel=>exact ⟨j+1,by omega,hjlt,hid (by have:=HJ.out;omega),H1,H2⟩
   case measure=>rw [hat.out,WI H1.out];dsimp only;omega
  | false =>
   go_wp2_with fail
   refine c1.mono ?_;rintro e v0 ⟨rfl,hb0⟩;dsimp only;have hM0:=kG.out.below hb0;have hof:=QK qE.out
   have hfin:j=s.i+bE L s.i:=by have:=HJ.out;omega
   rw [hfin] at hM0;have H1:=hid hM0;have H2:=hid (HS.out.trans (bN.of_below hb0));clear hM0 hb0 hfin hof
   go_wp2_with fail
   first|go_end0|refine aA (aD rfl _ _ _) rfl ?_
   exact ⟨rfl,O,H1.out,H2.out⟩
theorem QL {i:Nat} (h:i≤L.length):i+bE L i≤L.length:=by
 unfold bE
 have h1:((L.drop i).takeWhile (fun t=>t.w==5)).length≤(L.drop i).length:=(List.takeWhile_sublist _).length_le;rw [bC] at h1
 omega
theorem UF {W:World} (hM:Mem d L size lv s O W) (hs:Small L s) (r:BV) (p q k:Nat) (hk:Ja r=k) (hp:jg O W p (ptr d) 110) (hq:jg O W q (sZ d r) 1) :
  Calls Tryz.prog 139 #[ptr p,ptr q] W (Does d L size lv s.i O W (exec L size (.lines r) s)):=by
 have hq':jg O W q (.func (.func k) #[ptr d] #[]) 1:=by rw [← hk];exact hq
 have hstep:∀ {O' W' b},jg O' W' b (.func (.func k) #[ptr d] #[]) 1→jg O' W' b (sZ d r) 1:=fun h=>by rw [← hk] at h;exact h
 have oD:=oD;have k0:=hp.cell;have k1:=hq'.cell;have hle:=QL hs.i;have c1:=M5 hM hs;simp only [exec]
 cases h0:sj L size [125] (s.i+bE L s.i) with
 | true =>
  rw [au rfl]
  go_enter Tryz.func139,Tryz.ntmps139
  go_wp2_with fail
  refine c1.mono ?_;rintro e v0 ⟨rfl,O0,hM0,hS0⟩;dsimp only;have hp0:=hp.stay hS0;have hq0:=hq'.stay hS0;have k2:=hp0.cell;have k3:=hq0.cell;clear k0 k1
  go_wp2_with fail
  have c2:=iJ hM0 hle [125];rw [show sj L size [125] ({ s with i:=s.i+bE L s.i }:St).i=true from h0] at c2;refine c2.mono ?_;rintro e v1 ⟨rfl,hbi⟩;dsimp only;have hM1:=hM0.below hbi
  go_wp2_with fail
  first|go_end0|refine aA (aD rfl _ _ _) rfl ?_
  exact ⟨rfl,O0,hM1,hS0.trans (.of_below hbi)⟩
 | false =>
  rw [ai (by decide)]
  go_enter Tryz.func139,Tryz.ntmps139
  go_wp2_with fail
  refine c1.mono ?_;rintro e v0 ⟨rfl,O0,hM0,hS0⟩;dsimp only;have hp0:=hp.stay hS0;have hq0:=hq'.stay hS0;have k2:=hp0.cell;have k3:=hq0.cell;clear k0 k1
  go_wp2_with fail
  have c2:=iJ hM0 hle [125];rw [show sj L size [125] ({ s with i:=s.i+bE L s.i }:St).i=false from h0] at c2;refine c2.mono ?_;rintro e v1 ⟨rfl,hbi⟩;dsimp only;have hM1:=hM0.below hbi;have hp1:=hp0.below hbi;have hq1:=hq0.below hbi;clear k2 k3
  go_upto_region 2 with fail
  refine aK (S:=fun X:World=>X.cell? ⟨p,0,none⟩=some (ptr d)∧X.cell? ⟨q,0,none⟩=some (.func (.func k) #[ptr d] #[])) (by kernel_rfl) ⟨hp1.cell,hq1.cell⟩ fun ag=>?_
  have hD:Below v1.heap.size v1 v1.drew:=(ah _ _).drew;have Jm:=hM1.below hD;have vC:=hp1.below hD;have qD:=hq1.below hD;refine OP.y 0 rfl (ptr d) (cu 110 (.tmp 0) rfl (by rfl) (fun X hX=>mr hX.1)) ag ?_;simp only [OP.s];refine OP.y 1 rfl (.func (.func k) #[ptr d] #[]) (cu 1 (.tmp 1) rfl (by rfl) (fun X hX=>uD hX.2)) ag ?_;simp only [OP.s];refine OP.y 2 rfl (ptr d) (cu 110 (.tmp 0) rfl (by rfl) (fun X hX=>mr hX.1)) ag ?_;simp only [OP.s];refine OP.y 3 rfl (.func (.func k) #[ptr d] #[]) (cu 1 (.tmp 1) rfl (by rfl) (fun X hX=>uD hX.2)) ag ?_;simp only [OP.s]
  refine OP.r 4 rfl fun K hK=>?_
  go_simp
  go_at_call 140
  refine (N7 Jm k).mono ?_;rintro e u1 ⟨a1,b1,rfl,ha1,hc1,hb1⟩;dsimp only;have Jn:=Jm.below hb1;replace vC:=vC.below hb1;replace qD:=qD.below hb1
  refine hK.out _ _ (⟨vC.cell,qD.cell⟩) fun ag=>?_
  try simp only [OP.s]
  clear hK K
  refine OP.r 5 rfl fun K hK=>?_
  go_simp
  have mh:Below u1.heap.size u1 (u1.alloc (.cells #[.func (.func k) #[ptr d] #[],.func (.func 148) #[] #[ptr a1,ptr b1]] 1)):=(ah _ _).alloc (ae _) _
  refine hK.out _ _ (⟨(vC.below mh).cell,(qD.below mh).cell⟩) fun ag=>?_
  try simp only [OP.s]
  clear hK K
  refine OP.r 6 rfl fun K hK=>?_
  go_simp
  go_at_call 100
  refine (dH Jn [.m r,.more r] [.func (.func k) #[ptr d] #[],.func (.func 148) #[] #[ptr a1,ptr b1]] 2 rfl ⟨_,_,rfl,(by show _=sZ d r;rw [sZ,hk]),⟨_,_,rfl,⟨a1,b1,rfl,ha1,hstep hc1⟩,rfl⟩⟩ (by decide) hs.todo).mono ?_;rintro e x1 ⟨rfl,O1,XW,Lb⟩;dsimp only
  refine hK.out _ _ (⟨(vC.stay Lb).cell,(qD.stay Lb).cell⟩) fun ag=>?_
  try simp only [OP.s]
  clear hK K;refine bz (by kernel_rfl) ?_ _
  (try go_wp2_with fail)
  first|go_end0|refine aA (aD rfl _ _ _) rfl ?_
  exact ⟨rfl,O1,XW,(((hS0.trans (bN.of_below hbi)).trans (bN.of_below hD)).trans (bN.of_below hb1)).trans Lb⟩
theorem QM {W:World} (hM:Mem d L size lv s O W) (hs:Small L s):Calls Tryz.prog 103 #[ptr d] W (Does d L size lv s.i O W (bD L size .nJ s)):=by
 obtain ⟨tw,tf,te,y,_,hW,_,c1⟩:=jh hM hs.i
 have hfl:=fun X=>Jb (.int .i64 tw) (.string y) (.int .i64 tf) (.int .i64 te) X
 simp only [bD,hW];clear hW;obtain ⟨b0,h0⟩:∃ b,(tw==-1)=b:=⟨_,rfl⟩;rw [h0]
 cases b0 with
 | true =>
  rw [au rfl]
  obtain rfl:tw=-1:=by simpa using h0
  clear h0
  go_enter Tryz.func103,Tryz.ntmps103
  go_wp2_with fail
  refine c1.mono ?_;rintro e v0 ⟨rfl,hb0⟩;dsimp only;have hM0:=hM.below hb0
  go_wp2_with fail
  first|go_end0|refine aA (aD rfl _ _ _) rfl ?_
  exact ⟨rfl,O,hM0,.of_below hb0⟩
 | false =>
  rw [ai (by decide)]
  have h5:(tw != -1)=true:=by simp [bne,h0]
  clear h0
  go_enter Tryz.func103,Tryz.ntmps103
  go_wp2_with fail
  refine c1.mono ?_;rintro e v0 ⟨rfl,hb0⟩;dsimp only;have hM0:=hM.below hb0
  go_wp2_with fail
  refine (CS hM0 hs.i).mono ?_;rintro e v9 ⟨rfl,oP⟩;dsimp only
  exact ⟨rfl,rfl,hb0.trans (oP.mono hb0.size)⟩
theorem XY {W:World} (hM:Mem d L size lv s O W) (hs:Small L s) (x:By) (p q:Nat) (hp:jg O W p (ptr d) 110) (hq:jg O W q (.string (aX x)) 9) :
  Calls Tryz.prog 131 #[ptr p,ptr q] W (Does d L size lv s.i O W (exec L size (.word x) s)):=by
 simp only [exec]
 cases h0:sj L size x s.i with
 | true =>
  rw [au rfl]
  go_enter Tryz.func131,Tryz.ntmps131
  go_upto_region 0 with fail
  refine aK (S:=fun X:World=>X.cell? ⟨p,0,none⟩=some (ptr d)∧X.cell? ⟨q,0,none⟩=some (.string (aX x))) (by kernel_rfl) ⟨hp.cell,hq.cell⟩ fun ag=>?_
  have hD:Below W.heap.size W W.drew:=(ah _ _).drew;have Jm:=hM.below hD;have vC:=hp.below hD;have qD:=hq.below hD;refine OP.y 0 rfl (ptr d) (cu 110 (.tmp 0) rfl (by rfl) (fun X hX=>mr hX.1)) ag ?_;simp only [OP.s];refine OP.y 1 rfl (ptr d) (cu 110 (.tmp 0) rfl (by rfl) (fun X hX=>mr hX.1)) ag ?_;simp only [OP.s];refine OP.y 2 rfl (.string (aX x)) (cu 9 (.tmp 1) rfl (by rfl) (fun X hX=>Jj hX.2)) ag ?_;simp only [OP.s]
  refine OP.r 3 rfl fun K hK=>?_
  go_simp
  go_at_call 133
  have c1:=iJ Jm hs.i x;rw [h0] at c1;refine c1.mono ?_;rintro e v0 ⟨rfl,hb0⟩;dsimp only;have hM0:=Jm.below hb0;replace vC:=vC.below hb0;replace qD:=qD.below hb0
  refine hK.out _ _ (⟨vC.cell,qD.cell⟩) fun ag=>?_
  try simp only [OP.s]
  clear hK K
  refine OP.r 4 rfl fun K hK=>?_
  go_simp
  go_at_call 132
  refine (M4 hM0 (aJ hs.i hs.len)).mono ?_;rintro e v1 ⟨rfl,hM1,hS1⟩;dsimp only
  refine hK.out _ _ (⟨(vC.stay hS1).cell,(qD.stay hS1).cell⟩) fun ag=>?_
  try simp only [OP.s]
  clear hK K;refine bz (by kernel_rfl) ?_ _
  (try go_wp2_with fail)
  first|go_end0|refine aA (aD rfl _ _ _) rfl ?_
  exact ⟨rfl,O,hM1,((bN.of_below hD).trans (bN.of_below hb0)).trans hS1⟩
 | false =>
  rw [ai (by decide)]
  go_enter Tryz.func131,Tryz.ntmps131
  go_upto_region 0 with fail
  refine aK (S:=fun X:World=>X.cell? ⟨p,0,none⟩=some (ptr d)∧X.cell? ⟨q,0,none⟩=some (.string (aX x))) (by kernel_rfl) ⟨hp.cell,hq.cell⟩ fun ag=>?_
  have hD:Below W.heap.size W W.drew:=(ah _ _).drew;have Jm:=hM.below hD;have vC:=hp.below hD;have qD:=hq.below hD;refine OP.y 0 rfl (ptr d) (cu 110 (.tmp 0) rfl (by rfl) (fun X hX=>mr hX.1)) ag ?_;simp only [OP.s];refine OP.y 1 rfl (ptr d) (cu 110 (.tmp 0) rfl (by rfl) (fun X hX=>mr hX.1)) ag ?_;simp only [OP.s];refine OP.y 2 rfl (.string (aX x)) (cu 9 (.tmp 1) rfl (by rfl) (fun X hX=>Jj hX.2)) ag ?_;simp only [OP.s]
  refine OP.r 3 rfl fun K hK=>?_
  go_simp
  go_at_call 133
  have c1:=iJ Jm hs.i x;rw [h0] at c1;refine c1.mono ?_;rintro e v0 ⟨rfl,hb0⟩;dsimp only;have hM0:=Jm.below hb0;replace vC:=vC.below hb0;replace qD:=qD.below hb0
  refine hK.out _ _ (⟨vC.cell,qD.cell⟩) fun ag=>?_
  try simp only [OP.s]
  clear hK K
  refine OP.r 4 rfl fun K hK=>?_
  go_simp
  go_at_call 132
  refine (Jh hM0 hs.i).mono ?_;rintro e v1 ⟨rfl,hb1⟩;dsimp only
  exact ⟨rfl,rfl,(hD.trans (hb0.mono hD.size)).trans (hb1.mono (hD.trans (hb0.mono hD.size)).size)⟩
end
end K
end Go.Proofs.YtojoahlpgmnbnaaGreatDoor
