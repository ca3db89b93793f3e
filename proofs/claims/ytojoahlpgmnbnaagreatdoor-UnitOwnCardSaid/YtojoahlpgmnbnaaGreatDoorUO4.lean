/- What the claim needs of the texts KMake, KGram1, KGram2, KGram3. -/
import Derived.Test.YtojoahlpgmnbnaaGreatDoorUOOp
import Derived.Test.YtojoahlpgmnbnaaGreatDoorUO3
set_option maxRecDepth 20000
set_option maxHeartbeats 16000000
namespace Go.Proofs.YtojoahlpgmnbnaaGreatDoor
namespace K
open Go.RowKit
open Go.Lib hiding intOf
open U S T
structure Small (L:List aZ) (s:St):Prop where
 i:s.i≤L.length
 len:L.length≤1000000
 todo:s.todo.length≤1000000
 opn:s.opn.length≤1000000
 kids:∀ o∈s.opn,o.kids.length≤1000000
def Does (d:Nat) (L:List aZ) (size:Nat) (lv:Value) (i:Nat) (O:Nat→Prop) (W:World) (r:IA) (e:Ending) (W':World):Prop:=match r with
 | .go s'=>e=.returned (.tuple #[])∧∃ O',Mem d L size lv s' O' W'∧bN O O' W W'
 | .wrong=>Panics L size i W e W'
 | .stuck=>True
section
variable {d:Nat} {L:List aZ} {size:Nat} {lv:Value} {s:St} {O O':Nat→Prop}
theorem jk.below {W W':World} {b:Nat} {v:Value} {t:TypeId} (h:jk O W b v t) (hb:Below W.heap.size W W'):jk O W' b v t:=h.stay (.of_below hb)
theorem MI {W W':World} {b:Nat} {v:Value} {t:TypeId} (hM:Mem d L size lv s O W) (hb:W.heap.size≤b) (h:W'.heap[b]?=some (.cells #[v] t (0,0))):jk O W' b v t :=
 ⟨⟨(af.1 h).1,fun hO=>by have:=hM.lt b hO;omega,_,h,rfl⟩,h⟩
theorem XB (W:World) (o o':Obj):((W.alloc o).alloc o').heap[W.heap.size]?=some o∧((W.alloc o).alloc o').heap[W.heap.size+1]?=some o'∧Below W.heap.size W ((W.alloc o).alloc o'):=by
 refine ⟨?_,?_,((aj _ _).alloc (ae _) _).alloc (by simp) _⟩
 ·rw [dx _ _ _ (by simp)];exact fO _ _
 ·have h:=fO (W.alloc o) o'
  rw [aX] at h
  exact h
def Made (d:Nat) (f:Nat) (u:Value) (t:TypeId) (O:Nat→Prop) (W:World) (e:Ending) (W':World):Prop:=∃ b1 b2,e=.returned (.func (.func f) #[] #[ptr b1,ptr b2])∧jk O W' b1 (ptr d) 110∧jk O W' b2 u t∧Below W.heap.size W W'
theorem vK {W:World} {f:Nat} {u:Value} {t:TypeId} (hM:Mem d L size lv s O W):Made d f u t O W (.returned (.func (.func f) #[] #[ptr W.heap.size,ptr (W.heap.size+1)])) ((W.alloc (.cells #[ptr d] 110)).alloc (.cells #[u] t)):=by
 obtain ⟨h1,h2,h3⟩:=XB W (.cells #[ptr d] 110) (.cells #[u] t)
 exact ⟨_,_,rfl,MI hM (ae _) h1,MI hM (by omega) h2,h3⟩
theorem oh (fn:Fn) (first cap:Array Value) (w:World):(Instr.makeFunc fn first cap).run Tryz.prog w=.ok (.func fn first cap) w:=rfl
theorem ed {W:World} (hM:Mem d L size lv s O W) (x:By):Calls Tryz.prog 118 #[ptr d,.string (aU x)] W (Made d 131 (.string (aU x)) 9 O W):=by
 have hend:=vK (f:=131) (u:=.string (aU x)) (t:=9) hM;have oh:=oh;have HE:=hid hend;clear hend
 go_enter Tryz.func118,Tryz.ntmps118
 go_wp2_with fail
 go_ret
 exact HE.out
theorem ru {W:World} (hM:Mem d L size lv s O W) (k:Nat):Calls Tryz.prog 125 #[ptr d,.func (.func k) #[ptr d] #[]] W (Made d 139 (.func (.func k) #[ptr d] #[]) 1 O W):=by
 have HE:=hid (vK (f:=139) (u:=.func (.func k) #[ptr d] #[]) (t:=1) hM);have oh:=oh
 go_enter Tryz.func125,Tryz.ntmps125
 go_wp2_with fail
 go_ret
 exact HE.out
theorem AP {W:World} (hM:Mem d L size lv s O W) (k:Nat):Calls Tryz.prog 134 #[ptr d,.func (.func k) #[ptr d] #[]] W (Made d 142 (.func (.func k) #[ptr d] #[]) 1 O W):=by
 have HE:=hid (vK (f:=142) (u:=.func (.func k) #[ptr d] #[]) (t:=1) hM);have oh:=oh
 go_enter Tryz.func134,Tryz.ntmps134
 go_wp2_with fail
 go_ret
 exact HE.out
theorem NG {W:World} (hM:Mem d L size lv s O W) (k:Nat):Calls Tryz.prog 140 #[ptr d,.func (.func k) #[ptr d] #[]] W (Made d 148 (.func (.func k) #[ptr d] #[]) 1 O W):=by
 have HE:=hid (vK (f:=148) (u:=.func (.func k) #[ptr d] #[]) (t:=1) hM);have oh:=oh
 go_enter Tryz.func140,Tryz.ntmps140
 go_wp2_with fail
 go_ret
 exact HE.out
theorem Cx {W:World} (hM:Mem d L size lv s O W) (k:Nat):Calls Tryz.prog 143 #[ptr d,.func (.func k) #[ptr d] #[]] W (Made d 149 (.func (.func k) #[ptr d] #[]) 1 O W):=by
 have HE:=hid (vK (f:=149) (u:=.func (.func k) #[ptr d] #[]) (t:=1) hM);have oh:=oh
 go_enter Tryz.func143,Tryz.ntmps143
 go_wp2_with fail
 go_ret
 exact HE.out
theorem dJ {W:World} (hM:Mem d L size lv s O W) (l:List Stp) (vs:List Value) (n:Nat) (hn:vs.length=n) (ha:vJ O W d l vs) (hl:n≤1000) (ht:s.todo.length≤1000000) :
  Calls Tryz.prog 100 #[ptr d,.slice (some ⟨W.heap.size,0,none⟩) n n] (W.alloc (.cells vs.toArray 1)) fun e W'=>e=.returned (.tuple #[])∧∃ O',Mem d L size lv { s with todo:=l++s.todo } O' W'∧bN O O' W W':=by
 subst hn;have hb:Below W.heap.size W (W.alloc (.cells vs.toArray 1)):=(aj _ _).alloc (ae _) _;have hn:=fO W (.cells vs.toArray 1)
 have hargs:∀ {l:List Stp} {vs:List Value} {W':World},bN O O W W'→vJ O W d l vs→vJ O W' d l vs:=by
  intro l
  induction l with
  | nil=>intro vs W' _ h;exact h
  | cons x r ih=>rintro vs W' hS ⟨v,us,h1,h2,h3⟩;exact ⟨v,us,h1,h2.stay hS,ih hS h3⟩
 refine (Qo (hM.below hb) l vs W.heap.size ⟨by simp,fun h=>by have:=hM.lt _ h;omega,_,hn,rfl⟩ hn (hargs (.of_below hb) ha) hl ht).mono ?_;rintro e W' ⟨h1,O',h2,h3⟩
 exact ⟨h1,O',h2,(bN.of_below hb).trans h3⟩
theorem I1 {W:World} (hM:Mem d L size lv s O W) (hi:s.i≤L.length):Calls Tryz.prog 132 #[ptr d,.bool false] W (Panics L size s.i W):=by
 have c1:=Cv hM hi;clear hM hi
 go_enter Tryz.func132,Tryz.ntmps132
 go_wp2_with fail
 refine c1.mono ?_;rintro e w1 ⟨rfl,hb1⟩;dsimp only
 exact ⟨rfl,rfl,hb1⟩
theorem Mem.next {W:World} (hM:Mem d L size lv s O W) (j:Int) (hj:j=((s.i+1:Nat):Int)):Mem d L size lv { s with i:=s.i+1 } O (W.setCell ⟨d,1,none⟩ (.int .i64 j))∧bN O O W (W.setCell ⟨d,1,none⟩ (.int .i64 j))∧W.cell? ⟨d,1,none⟩=some (.int .i64 s.i)∧W.frozen? ⟨d,1,none⟩=false:=by
 subst hj;obtain ⟨tv,ov,bs,vs,xs,h⟩:=hM;have ZI:O d:=(h.own d).2 (.inl rfl)
 have hset:∀ k,k≠d→(W.setCell ⟨d,1,none⟩ (.int .i64 ((s.i+1:Nat):Int))).heap[k]?=W.heap[k]?:=fun k hk=>ak _ _ _ _ hk
 have hS:bN O O W (W.setCell ⟨d,1,none⟩ (.int .i64 ((s.i+1:Nat):Int))):=⟨rfl,rfl,rfl,by simp,fun _ h=>.inl h,fun k _ hO=>hset k (fun e=>hO (e ▸ ZI))⟩;have hb:=h.blk
 have ne:∀ {k:Nat} {t:TypeId},Ty W k t→t≠123→k≠d:=fun h1 h2 e=>by rw [e] at h1;exact h2 (h1.one ⟨_,_,hb⟩)
 refine ⟨⟨tv,ov,bs,vs,xs,az hb _,h.words.stay hS,iH h.lQ (fun k hk=>hset k (ne (dF h.lQ hk) (by decide))),h.todo.stay hS,iH h.qx (fun k hk=>hset k (ne (dF h.qx hk) (by decide))),
  gL.stay hS h.opn (fun k hk=>hset k (ne (og h.opn hk) (by decide))),h.apart,h.own⟩,hS,by simp [World.cell?,hb],by simp [World.frozen?,hb]⟩
theorem MJ {W:World} (hM:Mem d L size lv s O W) (hi:s.i≤1000000):Calls Tryz.prog 132 #[ptr d,.bool true] W fun e W'=>e=.returned (.tuple #[])∧Mem d L size lv { s with i:=s.i+1 } O W'∧bN O O W W':=by
 obtain ⟨h1,h2,c1,f1⟩:=hM.next ((s.i:Int)+1) (by omega);have e0:IntKind.i64.wrap ((s.i:Int)+1)=(s.i:Int)+1:=bg _ (by omega);have H1:=hid h1;have H2:=hid h2;obtain ⟨i,hi'⟩:∃ i,s.i=i:=⟨_,rfl⟩;rw [hi'] at c1 e0 H1 H2;rw [hi'];clear h1 h2 hM hi hi'
 go_enter Tryz.func132,Tryz.ntmps132
 go_wp2_with fail
 go_end0
 exact ⟨rfl,H1.out,H2.out⟩
end
section
variable {d:Nat} {L:List aZ} {size:Nat} {lv:Value} {s:St} {O:Nat→Prop}
theorem EN {W:World} (hM:Mem d L size lv s O W) (hs:Small L s):Calls Tryz.prog 124 #[ptr d] W (Does d L size lv s.i O W (varDecl L size s)):=by
 have oh:=oh
 go_enter Tryz.func124,Tryz.ntmps124
 go_wp2_with fail
 refine (eU hM hs.i jg hs.opn).mono ?_;rintro e v1 ⟨rfl,O1,hM1,hS1⟩;dsimp only
 go_wp2_with fail
 refine (ed hM1 jg).mono ?_;rintro e v2 ⟨p2,q2,rfl,hp2,hq2,hb2⟩;dsimp only;have hM2:=hM1.below hb2
 go_wp2_with fail
 refine (dJ hM2 [.word jg,.m .name,.m .typeOf,.m .fin] [.func (.func 131) #[] #[ptr p2,ptr q2],.func (.func 119) #[ptr d] #[],.func (.func 136) #[ptr d] #[],.func (.func 123) #[ptr d] #[]] 4 rfl ⟨_,_,rfl,⟨p2,q2,rfl,hp2,hq2⟩,⟨_,_,rfl,rfl,⟨_,_,rfl,rfl,⟨_,_,rfl,rfl,rfl⟩⟩⟩⟩ (by decide) hs.todo).mono ?_;rintro e v3 ⟨rfl,O3,uT,Cy⟩;dsimp only
 (try go_wp2_with fail)
 first|go_end0|refine aB (aI rfl _ _ _) rfl ?_
 exact ⟨rfl,O3,uT,((hS1.trans (bN.of_below hb2)).trans Cy)⟩
theorem Qr {W:World} (hM:Mem d L size lv s O W) (hs:Small L s):Calls Tryz.prog 120 #[ptr d] W (Does d L size lv s.i O W (bD L size .params s)):=by
 have oh:=oh
 go_enter Tryz.func120,Tryz.ntmps120
 go_wp2_with fail
 refine (eU hM hs.i eT hs.opn).mono ?_;rintro e v1 ⟨rfl,O1,hM1,hS1⟩;dsimp only
 go_wp2_with fail
 refine (ed hM1 [40]).mono ?_;rintro e v2 ⟨p2,q2,rfl,hp2,hq2,hb2⟩;dsimp only;have hM2:=hM1.below hb2
 go_wp2_with fail
 refine (AP hM2 135).mono ?_;rintro e v3 ⟨p3,q3,rfl,hp3,hq3,hb3⟩;dsimp only;replace hp2:=hp2.below hb3;replace hq2:=hq2.below hb3;have uT:=hM2.below hb3
 go_wp2_with fail
 refine (ed uT [41]).mono ?_;rintro e v4 ⟨p4,q4,rfl,Uo,hq4,hb4⟩;dsimp only;replace hp2:=hp2.below hb4;replace hq2:=hq2.below hb4;replace hp3:=hp3.below hb4;replace hq3:=hq3.below hb4;have Kk:=uT.below hb4
 go_wp2_with fail
 refine (dJ Kk [.word [40],.jE .param,.word [41],.m .fin] [.func (.func 131) #[] #[ptr p2,ptr q2],.func (.func 142) #[] #[ptr p3,ptr q3],.func (.func 131) #[] #[ptr p4,ptr q4],.func (.func 123) #[ptr d] #[]] 4 rfl ⟨_,_,rfl,⟨p2,q2,rfl,hp2,hq2⟩,⟨_,_,rfl,⟨p3,q3,rfl,hp3,hq3⟩,⟨_,_,rfl,⟨p4,q4,rfl,Uo,hq4⟩,⟨_,_,rfl,rfl,rfl⟩⟩⟩⟩ (by decide) hs.todo).mono ?_;rintro e v5 ⟨rfl,O5,ZJ,hS5⟩;dsimp only
 (try go_wp2_with fail)
 first|go_end0|refine aB (aI rfl _ _ _) rfl ?_
 exact ⟨rfl,O5,ZJ,((((hS1.trans (bN.of_below hb2)).trans (bN.of_below hb3)).trans (bN.of_below hb4)).trans hS5)⟩
theorem Up {W:World} (hM:Mem d L size lv s O W) (hs:Small L s):Calls Tryz.prog 135 #[ptr d] W (Does d L size lv s.i O W (bD L size .param s)):=by
 have oh:=oh
 go_enter Tryz.func135,Tryz.ntmps135
 go_wp2_with fail
 refine (eU hM hs.i qZ hs.opn).mono ?_;rintro e v1 ⟨rfl,O1,hM1,hS1⟩;dsimp only
 go_wp2_with fail
 refine (dJ hM1 [.m .name,.m .typeOf,.m .fin] [.func (.func 119) #[ptr d] #[],.func (.func 136) #[ptr d] #[],.func (.func 123) #[ptr d] #[]] 3 rfl ⟨_,_,rfl,rfl,⟨_,_,rfl,rfl,⟨_,_,rfl,rfl,rfl⟩⟩⟩ (by decide) hs.todo).mono ?_;rintro e v2 ⟨rfl,O2,hM2,hS2⟩;dsimp only
 (try go_wp2_with fail)
 first|go_end0|refine aB (aI rfl _ _ _) rfl ?_
 exact ⟨rfl,O2,hM2,(hS1.trans hS2)⟩
theorem Uq {W:World} (hM:Mem d L size lv s O W) (hs:Small L s):Calls Tryz.prog 126 #[ptr d] W (Does d L size lv s.i O W (bD L size .field s)):=by
 have oh:=oh
 go_enter Tryz.func126,Tryz.ntmps126
 go_wp2_with fail
 refine (eU hM hs.i jh hs.opn).mono ?_;rintro e v1 ⟨rfl,O1,hM1,hS1⟩;dsimp only
 go_wp2_with fail
 refine (dJ hM1 [.m .name,.m .typeOf,.m .fin] [.func (.func 119) #[ptr d] #[],.func (.func 136) #[ptr d] #[],.func (.func 123) #[ptr d] #[]] 3 rfl ⟨_,_,rfl,rfl,⟨_,_,rfl,rfl,⟨_,_,rfl,rfl,rfl⟩⟩⟩ (by decide) hs.todo).mono ?_;rintro e v2 ⟨rfl,O2,hM2,hS2⟩;dsimp only
 (try go_wp2_with fail)
 first|go_end0|refine aB (aI rfl _ _ _) rfl ?_
 exact ⟨rfl,O2,hM2,(hS1.trans hS2)⟩
theorem Gj {W:World} (hM:Mem d L size lv s O W) (hs:Small L s):Calls Tryz.prog 122 #[ptr d] W (Does d L size lv s.i O W (xG L size s)):=by
 have oh:=oh
 go_enter Tryz.func122,Tryz.ntmps122
 go_wp2_with fail
 refine (eU hM hs.i nX hs.opn).mono ?_;rintro e v1 ⟨rfl,O1,hM1,hS1⟩;dsimp only
 go_wp2_with fail
 refine (ed hM1 [123]).mono ?_;rintro e v2 ⟨p2,q2,rfl,hp2,hq2,hb2⟩;dsimp only;have hM2:=hM1.below hb2
 go_wp2_with fail
 refine (ru hM2 137).mono ?_;rintro e v3 ⟨p3,q3,rfl,hp3,hq3,hb3⟩;dsimp only;replace hp2:=hp2.below hb3;replace hq2:=hq2.below hb3;have uT:=hM2.below hb3
 go_wp2_with fail
 refine (ed uT [125]).mono ?_;rintro e v4 ⟨p4,q4,rfl,Uo,hq4,hb4⟩;dsimp only;replace hp2:=hp2.below hb4;replace hq2:=hq2.below hb4;replace hp3:=hp3.below hb4;replace hq3:=hq3.below hb4;have Kk:=uT.below hb4
 go_wp2_with fail
 refine (dJ Kk [.word [123],.lines .stmt,.word [125],.m .fin] [.func (.func 131) #[] #[ptr p2,ptr q2],.func (.func 139) #[] #[ptr p3,ptr q3],.func (.func 131) #[] #[ptr p4,ptr q4],.func (.func 123) #[ptr d] #[]] 4 rfl ⟨_,_,rfl,⟨p2,q2,rfl,hp2,hq2⟩,⟨_,_,rfl,⟨p3,q3,rfl,hp3,hq3⟩,⟨_,_,rfl,⟨p4,q4,rfl,Uo,hq4⟩,⟨_,_,rfl,rfl,rfl⟩⟩⟩⟩ (by decide) hs.todo).mono ?_;rintro e v5 ⟨rfl,O5,ZJ,hS5⟩;dsimp only
 (try go_wp2_with fail)
 first|go_end0|refine aB (aI rfl _ _ _) rfl ?_
 exact ⟨rfl,O5,ZJ,((((hS1.trans (bN.of_below hb2)).trans (bN.of_below hb3)).trans (bN.of_below hb4)).trans hS5)⟩
theorem I4 {W:World} (hM:Mem d L size lv s O W) (hs:Small L s):Calls Tryz.prog 145 #[ptr d] W (Does d L size lv s.i O W (zK L size s)):=by
 have oh:=oh
 go_enter Tryz.func145,Tryz.ntmps145
 go_wp2_with fail
 refine (eU hM hs.i kJ hs.opn).mono ?_;rintro e v1 ⟨rfl,O1,hM1,hS1⟩;dsimp only
 go_wp2_with fail
 refine (ed hM1 kJ).mono ?_;rintro e v2 ⟨p2,q2,rfl,hp2,hq2,hb2⟩;dsimp only;have hM2:=hM1.below hb2
 go_wp2_with fail
 refine (dJ hM2 [.word kJ,.m .expr,.m .block,.m .otherwise,.m .fin] [.func (.func 131) #[] #[ptr p2,ptr q2],.func (.func 146) #[ptr d] #[],.func (.func 122) #[ptr d] #[],.func (.func 150) #[ptr d] #[],.func (.func 123) #[ptr d] #[]] 5 rfl ⟨_,_,rfl,⟨p2,q2,rfl,hp2,hq2⟩,⟨_,_,rfl,rfl,⟨_,_,rfl,rfl,⟨_,_,rfl,rfl,⟨_,_,rfl,rfl,rfl⟩⟩⟩⟩⟩ (by decide) hs.todo).mono ?_;rintro e v3 ⟨rfl,O3,uT,Cy⟩;dsimp only
 (try go_wp2_with fail)
 first|go_end0|refine aB (aI rfl _ _ _) rfl ?_
 exact ⟨rfl,O3,uT,((hS1.trans (bN.of_below hb2)).trans Cy)⟩
theorem Gl {W:World} (hM:Mem d L size lv s O W) (hs:Small L s):Calls Tryz.prog 146 #[ptr d] W (Does d L size lv s.i O W (EF s)):=by
 have oh:=oh
 go_enter Tryz.func146,Tryz.ntmps146
 go_wp2_with fail
 refine (dJ hM [.m .pre,.m .between] [.func (.func 151) #[ptr d] #[],.func (.func 152) #[ptr d] #[]] 2 rfl ⟨_,_,rfl,rfl,⟨_,_,rfl,rfl,rfl⟩⟩ (by decide) hs.todo).mono ?_;rintro e v1 ⟨rfl,O1,hM1,hS1⟩;dsimp only
 (try go_wp2_with fail)
 first|go_end0|refine aB (aI rfl _ _ _) rfl ?_
 exact ⟨rfl,O1,hM1,hS1⟩
end
section
variable {d:Nat} {L:List aZ} {size:Nat} {lv:Value} {s:St} {O:Nat→Prop}
theorem jl {W:World} (hM:Mem d L size lv s O W) (hi:s.i≤L.length):∃ (tw tf te:Int) (y:ByteArray),(∀ x,rY L size x s.i=(y.toList==x))∧(∀ x,Ga L size x s.i=(tw==x))∧(tok L size s.i).t=y.toList ∧
  Calls Tryz.prog 116 #[ptr d] W fun e W'=>e=.returned (.agg #[.int .i64 tw,.string y,.int .i64 tf,.int .i64 te])∧Below W.heap.size W W':=by
 have c1:=yM hM hi
 unfold rY Ga
 generalize tok L size s.i=t at c1 ⊢;obtain ⟨tw,tt,tf,te⟩:=t;dsimp only [NC] at c1 ⊢
 have hyl:(⟨tt.toArray⟩:ByteArray).toList=tt:=by rw [bu]
 exact ⟨tw,tf,te,⟨tt.toArray⟩,fun x=>by rw [hyl],fun x=>rfl,hyl.symm,c1⟩
theorem Does.below {W W1 W':World} {r:IA} {e:Ending} {i:Nat} (h:Does d L size lv i O W1 r e W') (hb:Below W.heap.size W W1):Does d L size lv i O W r e W':=by
 cases r with
 | go s'=>obtain ⟨h1,O',h2,h3⟩:=h;exact ⟨h1,O',h2,(bN.of_below hb).trans h3⟩
 | wrong=>obtain ⟨h1,h2⟩:=h;exact ⟨h1,hb.trans (h2.mono hb.size)⟩
 | stuck=>trivial
theorem mo {d bx:Nat} {W:World} (h:W.cell? ⟨bx,0,none⟩=some (ptr d)):(Instr.loadAt 110 (.pointer (some ⟨bx,0,none⟩))).run Tryz.prog W=.ok (ptr d) W:=by
 simp [go_sem,h]
theorem uj {d bx k:Nat} {W:World} (h:W.cell? ⟨bx,0,none⟩=some (.func (.func k) #[ptr d] #[])):(Instr.loadAt 1 (.pointer (some ⟨bx,0,none⟩))).run Tryz.prog W=.ok (.func (.func k) #[ptr d] #[]) W:=by
 simp [go_sem,h]
theorem I5 {bx:Nat} {x:ByteArray} {W:World} (h:W.cell? ⟨bx,0,none⟩=some (.string x)):(Instr.loadAt 9 (.pointer (some ⟨bx,0,none⟩))).run Tryz.prog W=.ok (.string x) W:=by
 simp [go_sem,h]
theorem jk.cell {W:World} {b:Nat} {v:Value} {t:TypeId} (h:jk O W b v t):W.cell? ⟨b,0,none⟩=some v:=by
 have:=h.2
 simp [World.cell?,this]
theorem Small.at {L:List aZ} {s:St} (h:Small L s) {j:Nat} (hj:j≤L.length):Small L { s with i:=j }:=⟨hj,h.len,h.todo,h.opn,h.kids⟩
theorem XC {W:World} (hM:Mem d L size lv s O W) (hs:Small L s):Calls Tryz.prog 101 #[ptr d] W (Does d L size lv s.i O W (bD L size .decl s)):=by
 obtain ⟨tw,tf,te,y,hP,hW,_,c1⟩:=jl hM hs.i;have oh:=oh
 have hfl:=fun X=>En (.int .i64 tw) (.string y) (.int .i64 tf) (.int .i64 te) X
 simp only [bD,hP];clear hP hW;obtain ⟨b0,h0⟩:∃ b,(y.toList==[102,117,110,99])=b:=⟨_,rfl⟩
 cases b0 with
 | true =>
  rw [ay (show (y.toList==eY)=true from h0)]
  go_enter Tryz.func101,Tryz.ntmps101
  go_wp2_with fail
  refine c1.mono ?_;rintro e v0 ⟨rfl,hb0⟩;dsimp only;have hM0:=hM.below hb0
  go_wp2_with fail
  refine (eU hM0 hs.i eY hs.opn).mono ?_;rintro e v1 ⟨rfl,O1,hM1,hS1⟩;dsimp only
  go_wp2_with fail
  refine (ed hM1 eY).mono ?_;rintro e v2 ⟨p2,q2,rfl,hp2,hq2,hb2⟩;dsimp only;have hM2:=hM1.below hb2
  go_wp2_with fail
  refine (dJ hM2 [.word eY,.m .name,.m .params,.m .result,.m .block,.m .fin] [.func (.func 131) #[] #[ptr p2,ptr q2],.func (.func 119) #[ptr d] #[],.func (.func 120) #[ptr d] #[],.func (.func 121) #[ptr d] #[],.func (.func 122) #[ptr d] #[],.func (.func 123) #[ptr d] #[]] 6 rfl ⟨_,_,rfl,⟨p2,q2,rfl,hp2,hq2⟩,⟨_,_,rfl,rfl,⟨_,_,rfl,rfl,⟨_,_,rfl,rfl,⟨_,_,rfl,rfl,⟨_,_,rfl,rfl,rfl⟩⟩⟩⟩⟩⟩ (by decide) hs.todo).mono ?_;rintro e v3 ⟨rfl,O3,uT,Cy⟩;dsimp only
  (try go_wp2_with fail)
  first|go_end0|refine aB (aI rfl _ _ _) rfl ?_
  exact ⟨rfl,O3,uT,((((bN.of_below hb0).trans hS1).trans (bN.of_below hb2)).trans Cy)⟩
 | false =>
 rw [ai (show ¬ (y.toList==eY)=true by rw [show (y.toList==eY)=false from h0];decide)];obtain ⟨b1,h1⟩:∃ b,(y.toList==[118,97,114])=b:=⟨_,rfl⟩
 cases b1 with
 | true =>
  rw [ay (show (y.toList==jg)=true from h1)]
  go_enter Tryz.func101,Tryz.ntmps101
  go_wp2_with fail
  refine c1.mono ?_;rintro e v0 ⟨rfl,hb0⟩;dsimp only;have hM0:=hM.below hb0
  go_wp2_with fail
  refine (EN hM0 hs).mono ?_;rintro e v9 ⟨rfl,O9,Cz,CF⟩;dsimp only
  (try go_wp2_with fail)
  first|go_end0|refine aB (aI rfl _ _ _) rfl ?_
  exact ⟨rfl,O9,Cz,(bN.of_below hb0).trans CF⟩
 | false =>
 rw [ai (show ¬ (y.toList==jg)=true by rw [show (y.toList==jg)=false from h1];decide)];obtain ⟨b2,h2⟩:∃ b,(y.toList==[116,121,112,101])=b:=⟨_,rfl⟩
 cases b2 with
 | true =>
  rw [ay (show (y.toList==gY)=true from h2)]
  go_enter Tryz.func101,Tryz.ntmps101
  go_wp2_with fail
  refine c1.mono ?_;rintro e v0 ⟨rfl,hb0⟩;dsimp only;have hM0:=hM.below hb0
  go_wp2_with fail
  refine (eU hM0 hs.i gY hs.opn).mono ?_;rintro e v1 ⟨rfl,O1,hM1,hS1⟩;dsimp only
  go_wp2_with fail
  refine (ed hM1 gY).mono ?_;rintro e v2 ⟨p2,q2,rfl,hp2,hq2,hb2⟩;dsimp only;have hM2:=hM1.below hb2
  go_wp2_with fail
  refine (ed hM2 jZ).mono ?_;rintro e v3 ⟨p3,q3,rfl,hp3,hq3,hb3⟩;dsimp only;replace hp2:=hp2.below hb3;replace hq2:=hq2.below hb3;have uT:=hM2.below hb3
  go_wp2_with fail
  refine (ed uT [123]).mono ?_;rintro e v4 ⟨p4,q4,rfl,Uo,hq4,hb4⟩;dsimp only;replace hp2:=hp2.below hb4;replace hq2:=hq2.below hb4;replace hp3:=hp3.below hb4;replace hq3:=hq3.below hb4;have Kk:=uT.below hb4
  go_wp2_with fail
  refine (ru Kk 126).mono ?_;rintro e v5 ⟨p5,q5,rfl,XD,xO,hb5⟩;dsimp only;replace hp2:=hp2.below hb5;replace hq2:=hq2.below hb5;replace hp3:=hp3.below hb5;replace hq3:=hq3.below hb5;replace Uo:=Uo.below hb5;replace hq4:=hq4.below hb5;have ZJ:=Kk.below hb5
  go_wp2_with fail
  refine (ed ZJ [125]).mono ?_;rintro e v6 ⟨p6,q6,rfl,hp6,Il,hb6⟩;dsimp only;replace hp2:=hp2.below hb6;replace hq2:=hq2.below hb6;replace hp3:=hp3.below hb6;replace hq3:=hq3.below hb6;replace Uo:=Uo.below hb6;replace hq4:=hq4.below hb6;replace XD:=XD.below hb6;replace xO:=xO.below hb6;have hM6:=ZJ.below hb6
  go_wp2_with fail
  refine (dJ hM6 [.word gY,.m .name,.word jZ,.word [123],.lines .field,.word [125],.m .fin] [.func (.func 131) #[] #[ptr p2,ptr q2],.func (.func 119) #[ptr d] #[],.func (.func 131) #[] #[ptr p3,ptr q3],.func (.func 131) #[] #[ptr p4,ptr q4],.func (.func 139) #[] #[ptr p5,ptr q5],.func (.func 131) #[] #[ptr p6,ptr q6],.func (.func 123) #[ptr d] #[]] 7 rfl ⟨_,_,rfl,⟨p2,q2,rfl,hp2,hq2⟩,⟨_,_,rfl,rfl,⟨_,_,rfl,⟨p3,q3,rfl,hp3,hq3⟩,⟨_,_,rfl,⟨p4,q4,rfl,Uo,hq4⟩,⟨_,_,rfl,⟨p5,q5,rfl,XD,xO⟩,⟨_,_,rfl,⟨p6,q6,rfl,hp6,Il⟩,⟨_,_,rfl,rfl,rfl⟩⟩⟩⟩⟩⟩⟩ (by decide) hs.todo).mono ?_;rintro e v7 ⟨rfl,O7,hM7,hS7⟩;dsimp only
  (try go_wp2_with fail)
  first|go_end0|refine aB (aI rfl _ _ _) rfl ?_
  exact ⟨rfl,O7,hM7,((((((((bN.of_below hb0).trans hS1).trans (bN.of_below hb2)).trans (bN.of_below hb3)).trans (bN.of_below hb4)).trans (bN.of_below hb5)).trans (bN.of_below hb6)).trans hS7)⟩
 | false =>
 rw [ai (show ¬ (y.toList==gY)=true by rw [show (y.toList==gY)=false from h2];decide)]
 go_enter Tryz.func101,Tryz.ntmps101
 go_wp2_with fail
 refine c1.mono ?_;rintro e v0 ⟨rfl,hb0⟩;dsimp only;have hM0:=hM.below hb0
 go_wp2_with fail
 refine (Cv hM0 hs.i).mono ?_;rintro e v9 ⟨rfl,nV⟩;dsimp only
 exact ⟨rfl,rfl,hb0.trans (nV.mono hb0.size)⟩
theorem Qs {W:World} (hM:Mem d L size lv s O W) (hs:Small L s):Calls Tryz.prog 136 #[ptr d] W (Does d L size lv s.i O W (bD L size .typeOf s)):=by
 obtain ⟨tw,tf,te,y,hP,hW,_,c1⟩:=jl hM hs.i;have oh:=oh
 have hfl:=fun X=>En (.int .i64 tw) (.string y) (.int .i64 tf) (.int .i64 te) X
 simp only [bD,hP];clear hP hW;obtain ⟨b0,h0⟩:∃ b,(y.toList==[42])=b:=⟨_,rfl⟩
 cases b0 with
 | true =>
  rw [ay (show (y.toList==[42])=true from h0)]
  go_enter Tryz.func136,Tryz.ntmps136
  go_wp2_with fail
  refine c1.mono ?_;rintro e v0 ⟨rfl,hb0⟩;dsimp only;have hM0:=hM.below hb0
  go_wp2_with fail
  refine (eU hM0 hs.i vk hs.opn).mono ?_;rintro e v1 ⟨rfl,O1,hM1,hS1⟩;dsimp only
  go_wp2_with fail
  refine (ed hM1 [42]).mono ?_;rintro e v2 ⟨p2,q2,rfl,hp2,hq2,hb2⟩;dsimp only;have hM2:=hM1.below hb2
  go_wp2_with fail
  refine (dJ hM2 [.word [42],.m .typeOf,.m .fin] [.func (.func 131) #[] #[ptr p2,ptr q2],.func (.func 136) #[ptr d] #[],.func (.func 123) #[ptr d] #[]] 3 rfl ⟨_,_,rfl,⟨p2,q2,rfl,hp2,hq2⟩,⟨_,_,rfl,rfl,⟨_,_,rfl,rfl,rfl⟩⟩⟩ (by decide) hs.todo).mono ?_;rintro e v3 ⟨rfl,O3,uT,Cy⟩;dsimp only
  (try go_wp2_with fail)
  first|go_end0|refine aB (aI rfl _ _ _) rfl ?_
  exact ⟨rfl,O3,uT,((((bN.of_below hb0).trans hS1).trans (bN.of_below hb2)).trans Cy)⟩
 | false =>
 rw [ai (show ¬ (y.toList==[42])=true by rw [show (y.toList==[42])=false from h0];decide)];obtain ⟨b1,h1⟩:∃ b,(y.toList==[91])=b:=⟨_,rfl⟩
 cases b1 with
 | true =>
  rw [ay (show (y.toList==[91])=true from h1)]
  go_enter Tryz.func136,Tryz.ntmps136
  go_wp2_with fail
  refine c1.mono ?_;rintro e v0 ⟨rfl,hb0⟩;dsimp only;have hM0:=hM.below hb0
  go_wp2_with fail
  refine (eU hM0 hs.i qw hs.opn).mono ?_;rintro e v1 ⟨rfl,O1,hM1,hS1⟩;dsimp only
  go_wp2_with fail
  refine (ed hM1 [91]).mono ?_;rintro e v2 ⟨p2,q2,rfl,hp2,hq2,hb2⟩;dsimp only;have hM2:=hM1.below hb2
  go_wp2_with fail
  refine (ed hM2 [93]).mono ?_;rintro e v3 ⟨p3,q3,rfl,hp3,hq3,hb3⟩;dsimp only;replace hp2:=hp2.below hb3;replace hq2:=hq2.below hb3;have uT:=hM2.below hb3
  go_wp2_with fail
  refine (dJ uT [.word [91],.word [93],.m .typeOf,.m .fin] [.func (.func 131) #[] #[ptr p2,ptr q2],.func (.func 131) #[] #[ptr p3,ptr q3],.func (.func 136) #[ptr d] #[],.func (.func 123) #[ptr d] #[]] 4 rfl ⟨_,_,rfl,⟨p2,q2,rfl,hp2,hq2⟩,⟨_,_,rfl,⟨p3,q3,rfl,hp3,hq3⟩,⟨_,_,rfl,rfl,⟨_,_,rfl,rfl,rfl⟩⟩⟩⟩ (by decide) hs.todo).mono ?_;rintro e v4 ⟨rfl,O4,Kk,Ep⟩;dsimp only
  (try go_wp2_with fail)
  first|go_end0|refine aB (aI rfl _ _ _) rfl ?_
  exact ⟨rfl,O4,Kk,(((((bN.of_below hb0).trans hS1).trans (bN.of_below hb2)).trans (bN.of_below hb3)).trans Ep)⟩
 | false =>
 rw [ai (show ¬ (y.toList==[91])=true by rw [show (y.toList==[91])=false from h1];decide)]
 go_enter Tryz.func136,Tryz.ntmps136
 go_wp2_with fail
 refine c1.mono ?_;rintro e v0 ⟨rfl,hb0⟩;dsimp only;have hM0:=hM.below hb0
 go_wp2_with fail
 refine (eU hM0 hs.i yD hs.opn).mono ?_;rintro e v1 ⟨rfl,O1,hM1,hS1⟩;dsimp only
 go_wp2_with fail
 refine (dJ hM1 [.m .name,.m .fin] [.func (.func 119) #[ptr d] #[],.func (.func 123) #[ptr d] #[]] 2 rfl ⟨_,_,rfl,rfl,⟨_,_,rfl,rfl,rfl⟩⟩ (by decide) hs.todo).mono ?_;rintro e v2 ⟨rfl,O2,hM2,hS2⟩;dsimp only
 (try go_wp2_with fail)
 first|go_end0|refine aB (aI rfl _ _ _) rfl ?_
 exact ⟨rfl,O2,hM2,(((bN.of_below hb0).trans hS1).trans hS2)⟩
theorem XE {W:World} (hM:Mem d L size lv s O W) (hs:Small L s):Calls Tryz.prog 137 #[ptr d] W (Does d L size lv s.i O W (bD L size .stmt s)):=by
 obtain ⟨tw,tf,te,y,hP,hW,_,c1⟩:=jl hM hs.i;have oh:=oh
 have hfl:=fun X=>En (.int .i64 tw) (.string y) (.int .i64 tf) (.int .i64 te) X
 simp only [bD,hP];clear hP hW;obtain ⟨b0,h0⟩:∃ b,(y.toList==[118,97,114])=b:=⟨_,rfl⟩
 cases b0 with
 | true =>
  rw [ay (show (y.toList==jg)=true from h0)]
  go_enter Tryz.func137,Tryz.ntmps137
  go_wp2_with fail
  refine c1.mono ?_;rintro e v0 ⟨rfl,hb0⟩;dsimp only;have hM0:=hM.below hb0
  go_wp2_with fail
  refine (EN hM0 hs).mono ?_;rintro e v9 ⟨rfl,O9,Cz,CF⟩;dsimp only
  (try go_wp2_with fail)
  first|go_end0|refine aB (aI rfl _ _ _) rfl ?_
  exact ⟨rfl,O9,Cz,(bN.of_below hb0).trans CF⟩
 | false =>
 rw [ai (show ¬ (y.toList==jg)=true by rw [show (y.toList==jg)=false from h0];decide)];obtain ⟨b1,h1⟩:∃ b,(y.toList==[114,101,116,117,114,110])=b:=⟨_,rfl⟩
 cases b1 with
 | true =>
  rw [ay (show (y.toList==dN)=true from h1)]
  go_enter Tryz.func137,Tryz.ntmps137
  go_wp2_with fail
  refine c1.mono ?_;rintro e v0 ⟨rfl,hb0⟩;dsimp only;have hM0:=hM.below hb0
  go_wp2_with fail
  refine (eU hM0 hs.i dN hs.opn).mono ?_;rintro e v1 ⟨rfl,O1,hM1,hS1⟩;dsimp only
  go_wp2_with fail
  refine (ed hM1 dN).mono ?_;rintro e v2 ⟨p2,q2,rfl,hp2,hq2,hb2⟩;dsimp only;have hM2:=hM1.below hb2
  go_wp2_with fail
  refine (dJ hM2 [.word dN,.m .returned,.m .fin] [.func (.func 131) #[] #[ptr p2,ptr q2],.func (.func 144) #[ptr d] #[],.func (.func 123) #[ptr d] #[]] 3 rfl ⟨_,_,rfl,⟨p2,q2,rfl,hp2,hq2⟩,⟨_,_,rfl,rfl,⟨_,_,rfl,rfl,rfl⟩⟩⟩ (by decide) hs.todo).mono ?_;rintro e v3 ⟨rfl,O3,uT,Cy⟩;dsimp only
  (try go_wp2_with fail)
  first|go_end0|refine aB (aI rfl _ _ _) rfl ?_
  exact ⟨rfl,O3,uT,((((bN.of_below hb0).trans hS1).trans (bN.of_below hb2)).trans Cy)⟩
 | false =>
 rw [ai (show ¬ (y.toList==dN)=true by rw [show (y.toList==dN)=false from h1];decide)];obtain ⟨b2,h2⟩:∃ b,(y.toList==[105,102])=b:=⟨_,rfl⟩
 cases b2 with
 | true =>
  rw [ay (show (y.toList==kJ)=true from h2)]
  go_enter Tryz.func137,Tryz.ntmps137
  go_wp2_with fail
  refine c1.mono ?_;rintro e v0 ⟨rfl,hb0⟩;dsimp only;have hM0:=hM.below hb0
  go_wp2_with fail
  refine (I4 hM0 hs).mono ?_;rintro e v9 ⟨rfl,O9,Cz,CF⟩;dsimp only
  (try go_wp2_with fail)
  first|go_end0|refine aB (aI rfl _ _ _) rfl ?_
  exact ⟨rfl,O9,Cz,(bN.of_below hb0).trans CF⟩
 | false =>
 rw [ai (show ¬ (y.toList==kJ)=true by rw [show (y.toList==kJ)=false from h2];decide)];obtain ⟨b3,h3⟩:∃ b,(y.toList==[102,111,114])=b:=⟨_,rfl⟩
 cases b3 with
 | true =>
  rw [ay (show (y.toList==lJ)=true from h3)]
  go_enter Tryz.func137,Tryz.ntmps137
  go_wp2_with fail
  refine c1.mono ?_;rintro e v0 ⟨rfl,hb0⟩;dsimp only;have hM0:=hM.below hb0
  go_wp2_with fail
  refine (eU hM0 hs.i lJ hs.opn).mono ?_;rintro e v1 ⟨rfl,O1,hM1,hS1⟩;dsimp only
  go_wp2_with fail
  refine (ed hM1 lJ).mono ?_;rintro e v2 ⟨p2,q2,rfl,hp2,hq2,hb2⟩;dsimp only;have hM2:=hM1.below hb2
  go_wp2_with fail
  refine (dJ hM2 [.word lJ,.m .expr,.m .block,.m .fin] [.func (.func 131) #[] #[ptr p2,ptr q2],.func (.func 146) #[ptr d] #[],.func (.func 122) #[ptr d] #[],.func (.func 123) #[ptr d] #[]] 4 rfl ⟨_,_,rfl,⟨p2,q2,rfl,hp2,hq2⟩,⟨_,_,rfl,rfl,⟨_,_,rfl,rfl,⟨_,_,rfl,rfl,rfl⟩⟩⟩⟩ (by decide) hs.todo).mono ?_;rintro e v3 ⟨rfl,O3,uT,Cy⟩;dsimp only
  (try go_wp2_with fail)
  first|go_end0|refine aB (aI rfl _ _ _) rfl ?_
  exact ⟨rfl,O3,uT,((((bN.of_below hb0).trans hS1).trans (bN.of_below hb2)).trans Cy)⟩
 | false =>
 rw [ai (show ¬ (y.toList==lJ)=true by rw [show (y.toList==lJ)=false from h3];decide)];obtain ⟨b4,h4⟩:∃ b,(y.toList==[123])=b:=⟨_,rfl⟩
 cases b4 with
 | true =>
  rw [ay (show (y.toList==[123])=true from h4)]
  go_enter Tryz.func137,Tryz.ntmps137
  go_wp2_with fail
  refine c1.mono ?_;rintro e v0 ⟨rfl,hb0⟩;dsimp only;have hM0:=hM.below hb0
  go_wp2_with fail
  refine (Gj hM0 hs).mono ?_;rintro e v9 ⟨rfl,O9,Cz,CF⟩;dsimp only
  (try go_wp2_with fail)
  first|go_end0|refine aB (aI rfl _ _ _) rfl ?_
  exact ⟨rfl,O9,Cz,(bN.of_below hb0).trans CF⟩
 | false =>
 rw [ai (show ¬ (y.toList==[123])=true by rw [show (y.toList==[123])=false from h4];decide)]
 go_enter Tryz.func137,Tryz.ntmps137
 go_wp2_with fail
 refine c1.mono ?_;rintro e v0 ⟨rfl,hb0⟩;dsimp only;have hM0:=hM.below hb0
 go_wp2_with fail
 refine (eU hM0 hs.i vo hs.opn).mono ?_;rintro e v1 ⟨rfl,O1,hM1,hS1⟩;dsimp only
 go_wp2_with fail
 refine (dJ hM1 [.m .expr,.m .assigned,.m .fin] [.func (.func 146) #[ptr d] #[],.func (.func 147) #[ptr d] #[],.func (.func 123) #[ptr d] #[]] 3 rfl ⟨_,_,rfl,rfl,⟨_,_,rfl,rfl,⟨_,_,rfl,rfl,rfl⟩⟩⟩ (by decide) hs.todo).mono ?_;rintro e v2 ⟨rfl,O2,hM2,hS2⟩;dsimp only
 (try go_wp2_with fail)
 first|go_end0|refine aB (aI rfl _ _ _) rfl ?_
 exact ⟨rfl,O2,hM2,(((bN.of_below hb0).trans hS1).trans hS2)⟩
theorem NH {W:World} (hM:Mem d L size lv s O W) (hs:Small L s):Calls Tryz.prog 155 #[ptr d] W (Does d L size lv s.i O W (bD L size .operand s)):=by
 obtain ⟨tw,tf,te,y,hP,hW,_,c1⟩:=jl hM hs.i;have oh:=oh
 have hfl:=fun X=>IU (.int .i64 tw) (.string y) (.int .i64 tf) (.int .i64 te) X
 simp only [bD,hW];clear hP hW;obtain ⟨b0,h0⟩:∃ b,(tw==1)=b:=⟨_,rfl⟩
 cases b0 with
 | true =>
  rw [ay (show (tw==1)=true from h0)]
  go_enter Tryz.func155,Tryz.ntmps155
  go_wp2_with fail
  refine c1.mono ?_;rintro e v0 ⟨rfl,hb0⟩;dsimp only;have hM0:=hM.below hb0
  go_wp2_with fail
  refine (eU hM0 hs.i Iy hs.opn).mono ?_;rintro e v1 ⟨rfl,O1,hM1,hS1⟩;dsimp only
  go_wp2_with fail
  refine (dJ hM1 [.m .text,.m .fin] [.func (.func 154) #[ptr d] #[],.func (.func 123) #[ptr d] #[]] 2 rfl ⟨_,_,rfl,rfl,⟨_,_,rfl,rfl,rfl⟩⟩ (by decide) hs.todo).mono ?_;rintro e v2 ⟨rfl,O2,hM2,hS2⟩;dsimp only
  (try go_wp2_with fail)
  first|go_end0|refine aB (aI rfl _ _ _) rfl ?_
  exact ⟨rfl,O2,hM2,(((bN.of_below hb0).trans hS1).trans hS2)⟩
 | false =>
 rw [ai (show ¬ (tw==1)=true by rw [show (tw==1)=false from h0];decide)];obtain ⟨b1,h1⟩:∃ b,(tw==2)=b:=⟨_,rfl⟩
 cases b1 with
 | true =>
  rw [ay (show (tw==2)=true from h1)]
  go_enter Tryz.func155,Tryz.ntmps155
  go_wp2_with fail
  refine c1.mono ?_;rintro e v0 ⟨rfl,hb0⟩;dsimp only;have hM0:=hM.below hb0
  go_wp2_with fail
  refine (eU hM0 hs.i Iz hs.opn).mono ?_;rintro e v1 ⟨rfl,O1,hM1,hS1⟩;dsimp only
  go_wp2_with fail
  refine (dJ hM1 [.m .text,.m .fin] [.func (.func 154) #[ptr d] #[],.func (.func 123) #[ptr d] #[]] 2 rfl ⟨_,_,rfl,rfl,⟨_,_,rfl,rfl,rfl⟩⟩ (by decide) hs.todo).mono ?_;rintro e v2 ⟨rfl,O2,hM2,hS2⟩;dsimp only
  (try go_wp2_with fail)
  first|go_end0|refine aB (aI rfl _ _ _) rfl ?_
  exact ⟨rfl,O2,hM2,(((bN.of_below hb0).trans hS1).trans hS2)⟩
 | false =>
 rw [ai (show ¬ (tw==2)=true by rw [show (tw==2)=false from h1];decide)];obtain ⟨b2,h2⟩:∃ b,(tw==0)=b:=⟨_,rfl⟩
 cases b2 with
 | true =>
  rw [ay (show (tw==0)=true from h2)]
  go_enter Tryz.func155,Tryz.ntmps155
  go_wp2_with fail
  refine c1.mono ?_;rintro e v0 ⟨rfl,hb0⟩;dsimp only;have hM0:=hM.below hb0
  go_wp2_with fail
  refine (eU hM0 hs.i P9 hs.opn).mono ?_;rintro e v1 ⟨rfl,O1,hM1,hS1⟩;dsimp only
  go_wp2_with fail
  refine (dJ hM1 [.m .name,.m .called,.m .fin] [.func (.func 119) #[ptr d] #[],.func (.func 159) #[ptr d] #[],.func (.func 123) #[ptr d] #[]] 3 rfl ⟨_,_,rfl,rfl,⟨_,_,rfl,rfl,⟨_,_,rfl,rfl,rfl⟩⟩⟩ (by decide) hs.todo).mono ?_;rintro e v2 ⟨rfl,O2,hM2,hS2⟩;dsimp only
  (try go_wp2_with fail)
  first|go_end0|refine aB (aI rfl _ _ _) rfl ?_
  exact ⟨rfl,O2,hM2,(((bN.of_below hb0).trans hS1).trans hS2)⟩
 | false =>
 rw [ai (show ¬ (tw==0)=true by rw [show (tw==0)=false from h2];decide)]
 go_enter Tryz.func155,Tryz.ntmps155
 go_wp2_with fail
 refine c1.mono ?_;rintro e v0 ⟨rfl,hb0⟩;dsimp only;have hM0:=hM.below hb0
 go_wp2_with fail
 refine (eU hM0 hs.i Ki hs.opn).mono ?_;rintro e v1 ⟨rfl,O1,hM1,hS1⟩;dsimp only
 go_wp2_with fail
 refine (ed hM1 [40]).mono ?_;rintro e v2 ⟨p2,q2,rfl,hp2,hq2,hb2⟩;dsimp only;have hM2:=hM1.below hb2
 go_wp2_with fail
 refine (ed hM2 [41]).mono ?_;rintro e v3 ⟨p3,q3,rfl,hp3,hq3,hb3⟩;dsimp only;replace hp2:=hp2.below hb3;replace hq2:=hq2.below hb3;have uT:=hM2.below hb3
 go_wp2_with fail
 refine (dJ uT [.word [40],.m .expr,.word [41],.m .fin] [.func (.func 131) #[] #[ptr p2,ptr q2],.func (.func 146) #[ptr d] #[],.func (.func 131) #[] #[ptr p3,ptr q3],.func (.func 123) #[ptr d] #[]] 4 rfl ⟨_,_,rfl,⟨p2,q2,rfl,hp2,hq2⟩,⟨_,_,rfl,rfl,⟨_,_,rfl,⟨p3,q3,rfl,hp3,hq3⟩,⟨_,_,rfl,rfl,rfl⟩⟩⟩⟩ (by decide) hs.todo).mono ?_;rintro e v4 ⟨rfl,O4,Kk,Ep⟩;dsimp only
 (try go_wp2_with fail)
 first|go_end0|refine aB (aI rfl _ _ _) rfl ?_
 exact ⟨rfl,O4,Kk,(((((bN.of_below hb0).trans hS1).trans (bN.of_below hb2)).trans (bN.of_below hb3)).trans Ep)⟩
theorem I6 {W:World} (hM:Mem d L size lv s O W) (hs:Small L s):Calls Tryz.prog 150 #[ptr d] W (Does d L size lv s.i O W (bD L size .otherwise s)):=by
 have c1:=iM hM hs.i mM;have oh:=oh;simp only [bD]
 cases h0:rY L size mM s.i with
 | true =>
  rw [h0] at c1;rw [ay rfl]
  go_enter Tryz.func150,Tryz.ntmps150
  go_wp2_with fail
  refine c1.mono ?_;rintro e v0 ⟨rfl,hb0⟩;dsimp only;have hM0:=hM.below hb0
  go_wp2_with fail
  refine (ed hM0 mM).mono ?_;rintro e v1 ⟨p1,q1,rfl,hp1,hq1,hb1⟩;dsimp only;have hM1:=hM0.below hb1
  go_wp2_with fail
  refine (dJ hM1 [.word mM,.m .iY] [.func (.func 131) #[] #[ptr p1,ptr q1],.func (.func 153) #[ptr d] #[]] 2 rfl ⟨_,_,rfl,⟨p1,q1,rfl,hp1,hq1⟩,⟨_,_,rfl,rfl,rfl⟩⟩ (by decide) hs.todo).mono ?_;rintro e v2 ⟨rfl,O2,hM2,hS2⟩;dsimp only
  (try go_wp2_with fail)
  first|go_end0|refine aB (aI rfl _ _ _) rfl ?_
  exact ⟨rfl,O2,hM2,(((bN.of_below hb0).trans (bN.of_below hb1)).trans hS2)⟩
 | false =>
  rw [h0] at c1;rw [ai (by decide)]
  go_enter Tryz.func150,Tryz.ntmps150
  go_wp2_with fail
  refine c1.mono ?_;rintro e v0 ⟨rfl,hb0⟩;dsimp only;have hM0:=hM.below hb0
  go_wp2_with fail
  (try go_wp2_with fail)
  first|go_end0|refine aB (aI rfl _ _ _) rfl ?_
  exact ⟨rfl,O,hM0,.of_below hb0⟩
theorem I7 {W:World} (hM:Mem d L size lv s O W) (hs:Small L s):Calls Tryz.prog 153 #[ptr d] W (Does d L size lv s.i O W (bD L size .iY s)):=by
 have c1:=iM hM hs.i kJ;have oh:=oh;simp only [bD]
 cases h0:rY L size kJ s.i with
 | true =>
  rw [h0] at c1;rw [ay rfl]
  go_enter Tryz.func153,Tryz.ntmps153
  go_wp2_with fail
  refine c1.mono ?_;rintro e v0 ⟨rfl,hb0⟩;dsimp only;have hM0:=hM.below hb0
  go_wp2_with fail
  refine (I4 hM0 hs).mono ?_;rintro e v9 ⟨rfl,O9,Cz,CF⟩;dsimp only
  (try go_wp2_with fail)
  first|go_end0|refine aB (aI rfl _ _ _) rfl ?_
  exact ⟨rfl,O9,Cz,(bN.of_below hb0).trans CF⟩
 | false =>
  rw [h0] at c1;rw [ai (by decide)]
  go_enter Tryz.func153,Tryz.ntmps153
  go_wp2_with fail
  refine c1.mono ?_;rintro e v0 ⟨rfl,hb0⟩;dsimp only;have hM0:=hM.below hb0
  go_wp2_with fail
  refine (Gj hM0 hs).mono ?_;rintro e v9 ⟨rfl,O9,Cz,CF⟩;dsimp only
  (try go_wp2_with fail)
  first|go_end0|refine aB (aI rfl _ _ _) rfl ?_
  exact ⟨rfl,O9,Cz,(bN.of_below hb0).trans CF⟩
theorem Qt {W:World} (hM:Mem d L size lv s O W) (hs:Small L s):Calls Tryz.prog 151 #[ptr d] W (Does d L size lv s.i O W (bD L size .pre s)):=by
 obtain ⟨tw,tf,te,y,hP,_,_,c1⟩:=jl hM hs.i;have oh:=oh
 have hfl:=fun X=>En (.int .i64 tw) (.string y) (.int .i64 tf) (.int .i64 te) X
 simp only [bD,hP];clear hP;obtain ⟨b0,h0⟩:∃ b,(y.toList==[38])=b:=⟨_,rfl⟩
 cases b0 with
 | true =>
  rw [ay (Or.inl h0)]
  go_enter Tryz.func151,Tryz.ntmps151
  go_wp2_with fail
  refine c1.mono ?_;rintro e v0 ⟨rfl,hb0⟩;dsimp only;have hM0:=hM.below hb0
  go_wp2_with fail
  refine (eU hM0 hs.i jL hs.opn).mono ?_;rintro e v1 ⟨rfl,O1,hM1,hS1⟩;dsimp only
  go_wp2_with fail
  refine (dJ hM1 [.m .text,.m .pre,.m .fin] [.func (.func 154) #[ptr d] #[],.func (.func 151) #[ptr d] #[],.func (.func 123) #[ptr d] #[]] 3 rfl ⟨_,_,rfl,rfl,⟨_,_,rfl,rfl,⟨_,_,rfl,rfl,rfl⟩⟩⟩ (by decide) hs.todo).mono ?_;rintro e v2 ⟨rfl,O2,hM2,hS2⟩;dsimp only
  (try go_wp2_with fail)
  first|go_end0|refine aB (aI rfl _ _ _) rfl ?_
  exact ⟨rfl,O2,hM2,(((bN.of_below hb0).trans hS1).trans hS2)⟩
 | false =>
 obtain ⟨b1,h1⟩:∃ b,(y.toList==[42])=b:=⟨_,rfl⟩
 cases b1 with
 | true =>
  rw [ay (Or.inr (Or.inl h1))]
  go_enter Tryz.func151,Tryz.ntmps151
  go_wp2_with fail
  refine c1.mono ?_;rintro e v0 ⟨rfl,hb0⟩;dsimp only;have hM0:=hM.below hb0
  go_wp2_with fail
  refine (eU hM0 hs.i jL hs.opn).mono ?_;rintro e v1 ⟨rfl,O1,hM1,hS1⟩;dsimp only
  go_wp2_with fail
  refine (dJ hM1 [.m .text,.m .pre,.m .fin] [.func (.func 154) #[ptr d] #[],.func (.func 151) #[ptr d] #[],.func (.func 123) #[ptr d] #[]] 3 rfl ⟨_,_,rfl,rfl,⟨_,_,rfl,rfl,⟨_,_,rfl,rfl,rfl⟩⟩⟩ (by decide) hs.todo).mono ?_;rintro e v2 ⟨rfl,O2,hM2,hS2⟩;dsimp only
  (try go_wp2_with fail)
  first|go_end0|refine aB (aI rfl _ _ _) rfl ?_
  exact ⟨rfl,O2,hM2,(((bN.of_below hb0).trans hS1).trans hS2)⟩
 | false =>
 obtain ⟨b2,h2⟩:∃ b,(y.toList==[45])=b:=⟨_,rfl⟩
 cases b2 with
 | true =>
  rw [ay (Or.inr (Or.inr (Or.inl h2)))]
  go_enter Tryz.func151,Tryz.ntmps151
  go_wp2_with fail
  refine c1.mono ?_;rintro e v0 ⟨rfl,hb0⟩;dsimp only;have hM0:=hM.below hb0
  go_wp2_with fail
  refine (eU hM0 hs.i jL hs.opn).mono ?_;rintro e v1 ⟨rfl,O1,hM1,hS1⟩;dsimp only
  go_wp2_with fail
  refine (dJ hM1 [.m .text,.m .pre,.m .fin] [.func (.func 154) #[ptr d] #[],.func (.func 151) #[ptr d] #[],.func (.func 123) #[ptr d] #[]] 3 rfl ⟨_,_,rfl,rfl,⟨_,_,rfl,rfl,⟨_,_,rfl,rfl,rfl⟩⟩⟩ (by decide) hs.todo).mono ?_;rintro e v2 ⟨rfl,O2,hM2,hS2⟩;dsimp only
  (try go_wp2_with fail)
  first|go_end0|refine aB (aI rfl _ _ _) rfl ?_
  exact ⟨rfl,O2,hM2,(((bN.of_below hb0).trans hS1).trans hS2)⟩
 | false =>
 obtain ⟨b3,h3⟩:∃ b,(y.toList==[33])=b:=⟨_,rfl⟩
 cases b3 with
 | true =>
  rw [ay (Or.inr (Or.inr (Or.inr h3)))]
  go_enter Tryz.func151,Tryz.ntmps151
  go_wp2_with fail
  refine c1.mono ?_;rintro e v0 ⟨rfl,hb0⟩;dsimp only;have hM0:=hM.below hb0
  go_wp2_with fail
  refine (eU hM0 hs.i jL hs.opn).mono ?_;rintro e v1 ⟨rfl,O1,hM1,hS1⟩;dsimp only
  go_wp2_with fail
  refine (dJ hM1 [.m .text,.m .pre,.m .fin] [.func (.func 154) #[ptr d] #[],.func (.func 151) #[ptr d] #[],.func (.func 123) #[ptr d] #[]] 3 rfl ⟨_,_,rfl,rfl,⟨_,_,rfl,rfl,⟨_,_,rfl,rfl,rfl⟩⟩⟩ (by decide) hs.todo).mono ?_;rintro e v2 ⟨rfl,O2,hM2,hS2⟩;dsimp only
  (try go_wp2_with fail)
  first|go_end0|refine aB (aI rfl _ _ _) rfl ?_
  exact ⟨rfl,O2,hM2,(((bN.of_below hb0).trans hS1).trans hS2)⟩
 | false =>
 rw [ai (by rintro (h|h|h|h);rw [h0] at h;cases h;rw [h1] at h;cases h;rw [h2] at h;cases h;rw [h3] at h;cases h)]
 go_enter Tryz.func151,Tryz.ntmps151
 go_wp2_with fail
 refine c1.mono ?_;rintro e v0 ⟨rfl,hb0⟩;dsimp only;have hM0:=hM.below hb0
 go_wp2_with fail
 refine (dJ hM0 [.m .operand,.m .behind] [.func (.func 155) #[ptr d] #[],.func (.func 156) #[ptr d] #[]] 2 rfl ⟨_,_,rfl,rfl,⟨_,_,rfl,rfl,rfl⟩⟩ (by decide) hs.todo).mono ?_;rintro e v1 ⟨rfl,O1,hM1,hS1⟩;dsimp only
 (try go_wp2_with fail)
 first|go_end0|refine aB (aI rfl _ _ _) rfl ?_
 exact ⟨rfl,O1,hM1,((bN.of_below hb0).trans hS1)⟩
theorem KW {W:World} (hM:Mem d L size lv s O W) (hs:Small L s):Calls Tryz.prog 144 #[ptr d] W (Does d L size lv s.i O W (bD L size .returned s)):=by
 obtain ⟨tw,tf,te,y,_,hW,_,c1⟩:=jl hM hs.i;have oh:=oh
 have hfl:=fun X=>IU (.int .i64 tw) (.string y) (.int .i64 tf) (.int .i64 te) X
 simp only [bD,hW];clear hW;obtain ⟨b0,h0⟩:∃ b,(tw==5)=b:=⟨_,rfl⟩
 cases b0 with
 | true =>
  rw [ai (by rintro ⟨h,_⟩;rw [h0] at h;cases h)]
  obtain rfl:tw=5:=by simpa using h0
  clear h0
  go_enter Tryz.func144,Tryz.ntmps144
  go_wp2_with fail
  refine c1.mono ?_;rintro e v0 ⟨rfl,hb0⟩;dsimp only;have hM0:=hM.below hb0
  go_wp2_with fail
  first|go_end0|refine aB (aI rfl _ _ _) rfl ?_
  exact ⟨rfl,O,hM0,.of_below hb0⟩
 | false =>
  have h5:(tw != 5)=true:=by simp [bne,h0]
  cases h1:rY L size [125] s.i with
  | true =>
   rw [ai (by rintro ⟨_,h⟩;cases h)];clear h0
   go_enter Tryz.func144,Tryz.ntmps144
   go_wp2_with fail
   refine c1.mono ?_;rintro e v0 ⟨rfl,hb0⟩;dsimp only;have hM0:=hM.below hb0;have c2:=iM hM0 hs.i [125];rw [h1] at c2
   go_wp2_with fail
   refine c2.mono ?_;rintro e v1 ⟨rfl,hb1⟩;dsimp only;have hM1:=hM0.below hb1
   go_wp2_with fail
   first|go_end0|refine aB (aI rfl _ _ _) rfl ?_
   exact ⟨rfl,O,hM1,.of_below (hb0.trans (hb1.mono hb0.size))⟩
  | false =>
   rw [ay ⟨h0,rfl⟩];clear h0
   go_enter Tryz.func144,Tryz.ntmps144
   go_wp2_with fail
   refine c1.mono ?_;rintro e v0 ⟨rfl,hb0⟩;dsimp only;have hM0:=hM.below hb0;have c2:=iM hM0 hs.i [125];rw [h1] at c2
   go_wp2_with fail
   refine c2.mono ?_;rintro e v1 ⟨rfl,hb1⟩;dsimp only;have hM1:=hM0.below hb1
   go_wp2_with fail
   refine (Gl hM1 hs).mono ?_;rintro e v9 ⟨rfl,O9,Cz,CF⟩;dsimp only
   (try go_wp2_with fail)
   first|go_end0|refine aB (aI rfl _ _ _) rfl ?_
   exact ⟨rfl,O9,Cz,(bN.of_below (hb0.trans (hb1.mono hb0.size))).trans CF⟩
end
section
variable {d:Nat} {L:List aZ} {size:Nat} {lv:Value} {s:St} {O:Nat→Prop}
theorem Qu {W:World} (hM:Mem d L size lv s O W) (hs:Small L s) (r:BH) (p q k:Nat) (hk:IQ r=k) (hp:jk O W p (ptr d) 110) (hq:jk O W q (sU d r) 1) :
  Calls Tryz.prog 142 #[ptr p,ptr q] W (Does d L size lv s.i O W (exec L size (.jE r) s)):=by
 have hq':jk O W q (.func (.func k) #[ptr d] #[]) 1:=by rw [← hk];exact hq
 have hstep:∀ {O' W' b},jk O' W' b (.func (.func k) #[ptr d] #[]) 1→jk O' W' b (sU d r) 1:=fun h=>by rw [← hk] at h;exact h
 have oh:=oh;have k0:=hp.cell;have k1:=hq'.cell;have c1:=iM hM hs.i [41];simp only [exec]
 cases h0:rY L size [41] s.i with
 | true =>
  rw [h0] at c1;rw [ay rfl]
  go_enter Tryz.func142,Tryz.ntmps142
  go_wp2_with fail
  refine c1.mono ?_;rintro e v0 ⟨rfl,hb0⟩;dsimp only;have hM0:=hM.below hb0
  go_wp2_with fail
  first|go_end0|refine aB (aI rfl _ _ _) rfl ?_
  exact ⟨rfl,O,hM0,.of_below hb0⟩
 | false =>
  rw [h0] at c1;rw [ai (by decide)]
  go_enter Tryz.func142,Tryz.ntmps142
  go_wp2_with fail
  refine c1.mono ?_;rintro e v0 ⟨rfl,hb0⟩;dsimp only;have hM0:=hM.below hb0;have hp0:=hp.below hb0;have hq0:=hq'.below hb0
  go_upto_region 1 with fail
  refine aS (S:=fun X:World=>X.cell? ⟨p,0,none⟩=some (ptr d)∧X.cell? ⟨q,0,none⟩=some (.func (.func k) #[ptr d] #[])) (by kernel_rfl) ⟨hp0.cell,hq0.cell⟩ fun ag=>?_
  have hD:Below v0.heap.size v0 v0.drew:=(aj _ _).drew;have I8:=hM0.below hD;have uU:=hp0.below hD;have qz:=hq0.below hD;refine OP.y 0 rfl (ptr d) (dA 110 (.tmp 0) rfl (by rfl) (fun X hX=>mo hX.1)) ag ?_;simp only [OP.s];refine OP.y 1 rfl (.func (.func k) #[ptr d] #[]) (dA 1 (.tmp 1) rfl (by rfl) (fun X hX=>uj hX.2)) ag ?_;simp only [OP.s];refine OP.y 2 rfl (ptr d) (dA 110 (.tmp 0) rfl (by rfl) (fun X hX=>mo hX.1)) ag ?_;simp only [OP.s];refine OP.y 3 rfl (.func (.func k) #[ptr d] #[]) (dA 1 (.tmp 1) rfl (by rfl) (fun X hX=>uj hX.2)) ag ?_;simp only [OP.s]
  refine OP.r 4 rfl fun K hK=>?_
  go_simp
  go_at_call 143
  refine (Cx I8 k).mono ?_;rintro e u1 ⟨a1,b1,rfl,ha1,hc1,hb1⟩;dsimp only;have I9:=I8.below hb1;replace uU:=uU.below hb1;replace qz:=qz.below hb1
  refine hK.out _ _ (⟨uU.cell,qz.cell⟩) fun ag=>?_
  try simp only [OP.s]
  clear hK K
  refine OP.r 5 rfl fun K hK=>?_
  go_simp
  have wI:Below u1.heap.size u1 (u1.alloc (.cells #[.func (.func k) #[ptr d] #[],.func (.func 149) #[] #[ptr a1,ptr b1]] 1)):=(aj _ _).alloc (ae _) _
  refine hK.out _ _ (⟨(uU.below wI).cell,(qz.below wI).cell⟩) fun ag=>?_
  try simp only [OP.s]
  clear hK K
  refine OP.r 6 rfl fun K hK=>?_
  go_simp
  go_at_call 100
  refine (dJ I9 [.m r,.kK r] [.func (.func k) #[ptr d] #[],.func (.func 149) #[] #[ptr a1,ptr b1]] 2 rfl ⟨_,_,rfl,(by show _=sU d r;rw [sU,hk]),⟨_,_,rfl,⟨a1,b1,rfl,ha1,hstep hc1⟩,rfl⟩⟩ (by decide) hs.todo).mono ?_;rintro e x1 ⟨rfl,O1,XF,KX⟩;dsimp only
  refine hK.out _ _ (⟨(uU.stay KX).cell,(qz.stay KX).cell⟩) fun ag=>?_
  try simp only [OP.s]
  clear hK K;refine bL (by kernel_rfl) ?_ _
  (try go_wp2_with fail)
  first|go_end0|refine aB (aI rfl _ _ _) rfl ?_
  exact ⟨rfl,O1,XF,(((bN.of_below hb0).trans (bN.of_below hD)).trans (bN.of_below hb1)).trans KX⟩
theorem Ur {W:World} (hM:Mem d L size lv s O W) (hs:Small L s) (r:BH) (p q k:Nat) (hk:IQ r=k) (hp:jk O W p (ptr d) 110) (hq:jk O W q (sU d r) 1) :
  Calls Tryz.prog 149 #[ptr p,ptr q] W (Does d L size lv s.i O W (exec L size (.kK r) s)):=by
 have hq':jk O W q (.func (.func k) #[ptr d] #[]) 1:=by rw [← hk];exact hq
 have hstep:∀ {O' W' b},jk O' W' b (.func (.func k) #[ptr d] #[]) 1→jk O' W' b (sU d r) 1:=fun h=>by rw [← hk] at h;exact h
 have oh:=oh;have k0:=hp.cell;have k1:=hq'.cell;have c1:=iM hM hs.i [44];simp only [exec]
 cases h0:rY L size [44] s.i with
 | true =>
  rw [h0] at c1;rw [ay rfl]
  go_enter Tryz.func149,Tryz.ntmps149
  go_wp2_with fail
  refine c1.mono ?_;rintro e v0 ⟨rfl,hb0⟩;dsimp only;have hM0:=hM.below hb0;have hp0:=hp.below hb0;have hq0:=hq'.below hb0
  go_upto_region 1 with fail
  refine aS (S:=fun X:World=>X.cell? ⟨p,0,none⟩=some (ptr d)∧X.cell? ⟨q,0,none⟩=some (.func (.func k) #[ptr d] #[])) (by kernel_rfl) ⟨hp0.cell,hq0.cell⟩ fun ag=>?_
  have hD:Below v0.heap.size v0 v0.drew:=(aj _ _).drew;have I8:=hM0.below hD;have uU:=hp0.below hD;have qz:=hq0.below hD;refine OP.y 0 rfl (ptr d) (dA 110 (.tmp 0) rfl (by rfl) (fun X hX=>mo hX.1)) ag ?_;simp only [OP.s];refine OP.y 1 rfl (ptr d) (dA 110 (.tmp 0) rfl (by rfl) (fun X hX=>mo hX.1)) ag ?_;simp only [OP.s];refine OP.y 3 rfl (.func (.func k) #[ptr d] #[]) (dA 1 (.tmp 1) rfl (by rfl) (fun X hX=>uj hX.2)) ag ?_;simp only [OP.s];refine OP.y 4 rfl (ptr d) (dA 110 (.tmp 0) rfl (by rfl) (fun X hX=>mo hX.1)) ag ?_;simp only [OP.s];refine OP.y 5 rfl (.func (.func k) #[ptr d] #[]) (dA 1 (.tmp 1) rfl (by rfl) (fun X hX=>uj hX.2)) ag ?_;simp only [OP.s]
  refine OP.r 2 rfl fun K hK=>?_
  go_simp
  go_at_call 118
  refine (ed I8 [44]).mono ?_;rintro e u1 ⟨a1,b1,rfl,ha1,hc1,hb1⟩;dsimp only;have I9:=I8.below hb1;replace uU:=uU.below hb1;replace qz:=qz.below hb1
  refine hK.out _ _ (⟨uU.cell,qz.cell⟩) fun ag=>?_
  try simp only [OP.s]
  clear hK K
  refine OP.r 6 rfl fun K hK=>?_
  go_simp
  go_at_call 143
  refine (Cx I9 k).mono ?_;rintro e u2 ⟨a2,b2,rfl,ha2,hc2,hb2⟩;dsimp only;replace ha1:=ha1.below hb2;replace hc1:=hc1.below hb2;have ad2:=I9.below hb2;replace uU:=uU.below hb2;replace qz:=qz.below hb2
  refine hK.out _ _ (⟨uU.cell,qz.cell⟩) fun ag=>?_
  try simp only [OP.s]
  clear hK K
  refine OP.r 7 rfl fun K hK=>?_
  go_simp
  have wI:Below u2.heap.size u2 (u2.alloc (.cells #[.func (.func 131) #[] #[ptr a1,ptr b1],.func (.func k) #[ptr d] #[],.func (.func 149) #[] #[ptr a2,ptr b2]] 1)):=(aj _ _).alloc (ae _) _
  refine hK.out _ _ (⟨(uU.below wI).cell,(qz.below wI).cell⟩) fun ag=>?_
  try simp only [OP.s]
  clear hK K
  refine OP.r 8 rfl fun K hK=>?_
  go_simp
  go_at_call 100
  refine (dJ ad2 [.word [44],.m r,.kK r] [.func (.func 131) #[] #[ptr a1,ptr b1],.func (.func k) #[ptr d] #[],.func (.func 149) #[] #[ptr a2,ptr b2]] 3 rfl ⟨_,_,rfl,⟨a1,b1,rfl,ha1,hc1⟩,⟨_,_,rfl,(by show _=sU d r;rw [sU,hk]),⟨_,_,rfl,⟨a2,b2,rfl,ha2,hstep hc2⟩,rfl⟩⟩⟩ (by decide) hs.todo).mono ?_;rintro e x1 ⟨rfl,O1,XF,KX⟩;dsimp only
  refine hK.out _ _ (⟨(uU.stay KX).cell,(qz.stay KX).cell⟩) fun ag=>?_
  try simp only [OP.s]
  clear hK K;refine bL (by kernel_rfl) ?_ _
  (try go_wp2_with fail)
  first|go_end0|refine aB (aI rfl _ _ _) rfl ?_
  exact ⟨rfl,O1,XF,((((bN.of_below hb0).trans (bN.of_below hD)).trans (bN.of_below hb1)).trans (bN.of_below hb2)).trans KX⟩
 | false =>
  rw [h0] at c1;rw [ai (by decide)]
  go_enter Tryz.func149,Tryz.ntmps149
  go_wp2_with fail
  refine c1.mono ?_;rintro e v0 ⟨rfl,hb0⟩;dsimp only;have hM0:=hM.below hb0
  go_wp2_with fail
  first|go_end0|refine aB (aI rfl _ _ _) rfl ?_
  exact ⟨rfl,O,hM0,.of_below hb0⟩
theorem XG {W:World} (hM:Mem d L size lv s O W) (hs:Small L s) (r:BH) (p q k:Nat) (hk:IQ r=k) (hp:jk O W p (ptr d) 110) (hq:jk O W q (sU d r) 1) :
  Calls Tryz.prog 148 #[ptr p,ptr q] W (Does d L size lv s.i O W (exec L size (.more r) s)):=by
 have hq':jk O W q (.func (.func k) #[ptr d] #[]) 1:=by rw [← hk];exact hq
 have hstep:∀ {O' W' b},jk O' W' b (.func (.func k) #[ptr d] #[]) 1→jk O' W' b (sU d r) 1:=fun h=>by rw [← hk] at h;exact h
 have oh:=oh;obtain ⟨tw,tf,te,y,_,hW,_,c1⟩:=jl hM hs.i
 have hfl:=fun X=>IU (.int .i64 tw) (.string y) (.int .i64 tf) (.int .i64 te) X
 have k0:=hp.cell;have k1:=hq'.cell;simp only [exec,hW];clear hW;obtain ⟨b0,h0⟩:∃ b,(tw==5)=b:=⟨_,rfl⟩;rw [h0]
 cases b0 with
 | true =>
  rw [ay rfl]
  go_enter Tryz.func148,Tryz.ntmps148
  go_wp2_with fail
  refine c1.mono ?_;rintro e v0 ⟨rfl,hb0⟩;dsimp only;have hM0:=hM.below hb0;have hp0:=hp.below hb0;have hq0:=hq'.below hb0
  go_upto_region 1 with fail
  refine aS (S:=fun X:World=>X.cell? ⟨p,0,none⟩=some (ptr d)∧X.cell? ⟨q,0,none⟩=some (.func (.func k) #[ptr d] #[])) (by kernel_rfl) ⟨hp0.cell,hq0.cell⟩ fun ag=>?_
  have hD:Below v0.heap.size v0 v0.drew:=(aj _ _).drew;have I8:=hM0.below hD;have uU:=hp0.below hD;have qz:=hq0.below hD;refine OP.y 0 rfl (ptr d) (dA 110 (.tmp 0) rfl (by rfl) (fun X hX=>mo hX.1)) ag ?_;simp only [OP.s];refine OP.y 1 rfl (ptr d) (dA 110 (.tmp 0) rfl (by rfl) (fun X hX=>mo hX.1)) ag ?_;simp only [OP.s];refine OP.y 2 rfl (.func (.func k) #[ptr d] #[]) (dA 1 (.tmp 1) rfl (by rfl) (fun X hX=>uj hX.2)) ag ?_;simp only [OP.s]
  refine OP.r 3 rfl fun K hK=>?_
  go_simp
  go_at_call 125
  refine (ru I8 k).mono ?_;rintro e u1 ⟨a1,b1,rfl,ha1,hc1,hb1⟩;dsimp only;have I9:=I8.below hb1;replace uU:=uU.below hb1;replace qz:=qz.below hb1
  refine hK.out _ _ (⟨uU.cell,qz.cell⟩) fun ag=>?_
  try simp only [OP.s]
  clear hK K
  refine OP.r 4 rfl fun K hK=>?_
  go_simp
  have wI:Below u1.heap.size u1 (u1.alloc (.cells #[.func (.func 139) #[] #[ptr a1,ptr b1]] 1)):=(aj _ _).alloc (ae _) _
  refine hK.out _ _ (⟨(uU.below wI).cell,(qz.below wI).cell⟩) fun ag=>?_
  try simp only [OP.s]
  clear hK K
  refine OP.r 5 rfl fun K hK=>?_
  go_simp
  go_at_call 100
  refine (dJ I9 [.lines r] [.func (.func 139) #[] #[ptr a1,ptr b1]] 1 rfl ⟨_,_,rfl,⟨a1,b1,rfl,ha1,hstep hc1⟩,rfl⟩ (by decide) hs.todo).mono ?_;rintro e x1 ⟨rfl,O1,XF,KX⟩;dsimp only
  refine hK.out _ _ (⟨(uU.stay KX).cell,(qz.stay KX).cell⟩) fun ag=>?_
  try simp only [OP.s]
  clear hK K;refine bL (by kernel_rfl) ?_ _
  (try go_wp2_with fail)
  first|go_end0|refine aB (aI rfl _ _ _) rfl ?_
  exact ⟨rfl,O1,XF,(((bN.of_below hb0).trans (bN.of_below hD)).trans (bN.of_below hb1)).trans KX⟩
 | false =>
  rw [ai (by decide)]
  go_enter Tryz.func148,Tryz.ntmps148
  go_wp2_with fail
  refine c1.mono ?_;rintro e v0 ⟨rfl,hb0⟩;dsimp only;have hM0:=hM.below hb0
  go_wp2_with fail
  first|go_end0|refine aB (aI rfl _ _ _) rfl ?_
  exact ⟨rfl,O,hM0,.of_below hb0⟩
def Ja (d:Nat) (W:World):Nat:=match W.cell? ⟨d,1,none⟩ with
 | some (.int _ i)=>i.toNat
 | _=>0
theorem Wo {W:World} (h:Mem d L size lv s O W):Ja d W=s.i:=by
 obtain ⟨tv,ov,bs,vs,xs,h⟩:=h;have hb:=h.blk
 unfold Ja
 simp [World.cell?,hb]
theorem Jb {i:Nat}:Ga L size 5 i=true→i<L.length:=by
 intro h
 unfold Ga tok at h
 rcases dW i L.length with h1|h1
 ·exact h1
 ·rw [dh h1] at h;simp at h
theorem Us {i:Nat} (h:Ga L size 5 i=true):bE L i=bE L (i+1)+1:=by
 have hi:=Jb h
 unfold bE
 rw [bZ hi,bJ]
 have h2:(L[i].w==5)=true:=by unfold Ga at h;rw [mI size hi] at h;exact h
 rw [h2];simp
theorem Qv {i:Nat} (h:Ga L size 5 i=false):bE L i=0:=by
 unfold bE
 rcases dW i L.length with hi|hi
 ·rw [bZ hi,bJ]
  have h2:(L[i].w==5)=false:=by unfold Ga at h;rw [mI size hi] at h;exact h
  rw [h2];rfl
 ·rw [gD hi];rfl
theorem MK {W:World} (hM:Mem d L size lv s O W) (hs:Small L s):Calls Tryz.prog 102 #[ptr d] W (Does d L size lv s.i O W (.go { s with i:=s.i+bE L s.i })):=by
 have HM:=hid hM
 go_enter Tryz.func102,Tryz.ntmps102
 go_wp2_with fail
 go_loopw [] (fun wr=>∃ j,s.i≤j∧j≤L.length∧Hid (j+bE L j=s.i+bE L s.i)∧Hid (Mem d L size lv { s with i:=j } O wr)∧Hid (bN O O W wr)) (fun wr=>L.length - Ja d wr)
 case atStart=>exact ⟨s.i,ae _,hs.i,hid rfl,HM,hid (.refl _ _)⟩
 case round =>
  obtain ⟨j,hj,hjl,HJ,kG,HS⟩:=hrel;obtain ⟨tw,tf,te,y,_,hW,_,c1⟩:=jl kG.out hjl;have hat:=hid (Wo kG.out)
  have hfl:=fun X=>IU (.int .i64 tw) (.string y) (.int .i64 tf) (.int .i64 te) X
  have jA:=hW 5;dsimp only at jA;clear hW hM;obtain ⟨b0,h0⟩:∃ b,(tw==5)=b:=⟨_,rfl⟩;rw [h0] at jA;have qA:=hid jA;clear jA
  cases b0 with
  | true =>
   go_wp2_with fail
   refine c1.mono ?_;rintro e v0 ⟨rfl,hb0⟩;dsimp only;have hM0:=kG.out.below hb0;obtain ⟨q1,q2,k1,f1⟩:=hM0.next ((j:Int)+1) (by dsimp only;omega);have e0:IntKind.i64.wrap ((j:Int)+1)=(j:Int)+1:=bg _ (by have:=hs.len;omega);have H1:=hid q1;have H2:=hid ((HS.out.trans (bN.of_below hb0)).trans q2);have hjlt:=Jb qA.out;have hon:=Us qA.out;dsimp only at k1;clear q1 q2 hM0 hb0
   go_wp2_with fail
   go_roundw
   case rel=>exact ⟨j+1,by omega,hjlt,hid (by have:=HJ.out;omega),H1,H2⟩
   case measure=>rw [hat.out,Wo H1.out];dsimp only;omega
  | false =>
   go_wp2_with fail
   refine c1.mono ?_;rintro e v0 ⟨rfl,hb0⟩;dsimp only;have hM0:=kG.out.below hb0;have hof:=Qv qA.out
   have hfin:j=s.i+bE L s.i:=by have:=HJ.out;omega
   rw [hfin] at hM0;have H1:=hid hM0;have H2:=hid (HS.out.trans (bN.of_below hb0));clear hM0 hb0 hfin hof
   go_wp2_with fail
   first|go_end0|refine aB (aI rfl _ _ _) rfl ?_
   exact ⟨rfl,O,H1.out,H2.out⟩
theorem Qw {i:Nat} (h:i≤L.length):i+bE L i≤L.length:=by
 unfold bE
 have h1:((L.drop i).takeWhile (fun t=>t.w==5)).length≤(L.drop i).length:=(List.takeWhile_sublist _).length_le;rw [bC] at h1
 omega
theorem Ut {W:World} (hM:Mem d L size lv s O W) (hs:Small L s) (r:BH) (p q k:Nat) (hk:IQ r=k) (hp:jk O W p (ptr d) 110) (hq:jk O W q (sU d r) 1) :
  Calls Tryz.prog 139 #[ptr p,ptr q] W (Does d L size lv s.i O W (exec L size (.lines r) s)):=by
 have hq':jk O W q (.func (.func k) #[ptr d] #[]) 1:=by rw [← hk];exact hq
 have hstep:∀ {O' W' b},jk O' W' b (.func (.func k) #[ptr d] #[]) 1→jk O' W' b (sU d r) 1:=fun h=>by rw [← hk] at h;exact h
 have oh:=oh;have k0:=hp.cell;have k1:=hq'.cell;have hle:=Qw hs.i;have c1:=MK hM hs;simp only [exec]
 cases h0:rY L size [125] (s.i+bE L s.i) with
 | true =>
  rw [ay rfl]
  go_enter Tryz.func139,Tryz.ntmps139
  go_wp2_with fail
  refine c1.mono ?_;rintro e v0 ⟨rfl,O0,hM0,hS0⟩;dsimp only;have hp0:=hp.stay hS0;have hq0:=hq'.stay hS0;have k2:=hp0.cell;have k3:=hq0.cell;clear k0 k1
  go_wp2_with fail
  have c2:=iM hM0 hle [125];rw [show rY L size [125] ({ s with i:=s.i+bE L s.i }:St).i=true from h0] at c2;refine c2.mono ?_;rintro e v1 ⟨rfl,hbi⟩;dsimp only;have hM1:=hM0.below hbi
  go_wp2_with fail
  first|go_end0|refine aB (aI rfl _ _ _) rfl ?_
  exact ⟨rfl,O0,hM1,hS0.trans (.of_below hbi)⟩
 | false =>
  rw [ai (by decide)]
  go_enter Tryz.func139,Tryz.ntmps139
  go_wp2_with fail
  refine c1.mono ?_;rintro e v0 ⟨rfl,O0,hM0,hS0⟩;dsimp only;have hp0:=hp.stay hS0;have hq0:=hq'.stay hS0;have k2:=hp0.cell;have k3:=hq0.cell;clear k0 k1
  go_wp2_with fail
  have c2:=iM hM0 hle [125];rw [show rY L size [125] ({ s with i:=s.i+bE L s.i }:St).i=false from h0] at c2;refine c2.mono ?_;rintro e v1 ⟨rfl,hbi⟩;dsimp only;have hM1:=hM0.below hbi;have hp1:=hp0.below hbi;have hq1:=hq0.below hbi;clear k2 k3
  go_upto_region 2 with fail
  refine aS (S:=fun X:World=>X.cell? ⟨p,0,none⟩=some (ptr d)∧X.cell? ⟨q,0,none⟩=some (.func (.func k) #[ptr d] #[])) (by kernel_rfl) ⟨hp1.cell,hq1.cell⟩ fun ag=>?_
  have hD:Below v1.heap.size v1 v1.drew:=(aj _ _).drew;have I8:=hM1.below hD;have uU:=hp1.below hD;have qz:=hq1.below hD;refine OP.y 0 rfl (ptr d) (dA 110 (.tmp 0) rfl (by rfl) (fun X hX=>mo hX.1)) ag ?_;simp only [OP.s];refine OP.y 1 rfl (.func (.func k) #[ptr d] #[]) (dA 1 (.tmp 1) rfl (by rfl) (fun X hX=>uj hX.2)) ag ?_;simp only [OP.s];refine OP.y 2 rfl (ptr d) (dA 110 (.tmp 0) rfl (by rfl) (fun X hX=>mo hX.1)) ag ?_;simp only [OP.s];refine OP.y 3 rfl (.func (.func k) #[ptr d] #[]) (dA 1 (.tmp 1) rfl (by rfl) (fun X hX=>uj hX.2)) ag ?_;simp only [OP.s]
  refine OP.r 4 rfl fun K hK=>?_
  go_simp
  go_at_call 140
  refine (NG I8 k).mono ?_;rintro e u1 ⟨a1,b1,rfl,ha1,hc1,hb1⟩;dsimp only;have I9:=I8.below hb1;replace uU:=uU.below hb1;replace qz:=qz.below hb1
  refine hK.out _ _ (⟨uU.cell,qz.cell⟩) fun ag=>?_
  try simp only [OP.s]
  clear hK K
  refine OP.r 5 rfl fun K hK=>?_
  go_simp
  have wI:Below u1.heap.size u1 (u1.alloc (.cells #[.func (.func k) #[ptr d] #[],.func (.func 148) #[] #[ptr a1,ptr b1]] 1)):=(aj _ _).alloc (ae _) _
  refine hK.out _ _ (⟨(uU.below wI).cell,(qz.below wI).cell⟩) fun ag=>?_
  try simp only [OP.s]
  clear hK K
  refine OP.r 6 rfl fun K hK=>?_
  go_simp
  go_at_call 100
  refine (dJ I9 [.m r,.more r] [.func (.func k) #[ptr d] #[],.func (.func 148) #[] #[ptr a1,ptr b1]] 2 rfl ⟨_,_,rfl,(by show _=sU d r;rw [sU,hk]),⟨_,_,rfl,⟨a1,b1,rfl,ha1,hstep hc1⟩,rfl⟩⟩ (by decide) hs.todo).mono ?_;rintro e x1 ⟨rfl,O1,XF,KX⟩;dsimp only
  refine hK.out _ _ (⟨(uU.stay KX).cell,(qz.stay KX).cell⟩) fun ag=>?_
  try simp only [OP.s]
  clear hK K;refine bL (by kernel_rfl) ?_ _
  (try go_wp2_with fail)
  first|go_end0|refine aB (aI rfl _ _ _) rfl ?_
  exact ⟨rfl,O1,XF,(((hS0.trans (bN.of_below hbi)).trans (bN.of_below hD)).trans (bN.of_below hb1)).trans KX⟩
theorem Qx {W:World} (hM:Mem d L size lv s O W) (hs:Small L s):Calls Tryz.prog 103 #[ptr d] W (Does d L size lv s.i O W (bD L size .nC s)):=by
 obtain ⟨tw,tf,te,y,_,hW,_,c1⟩:=jl hM hs.i
 have hfl:=fun X=>IU (.int .i64 tw) (.string y) (.int .i64 tf) (.int .i64 te) X
 simp only [bD,hW];clear hW;obtain ⟨b0,h0⟩:∃ b,(tw==-1)=b:=⟨_,rfl⟩;rw [h0]
 cases b0 with
 | true =>
  rw [ay rfl]
  obtain rfl:tw=-1:=by simpa using h0
  clear h0
  go_enter Tryz.func103,Tryz.ntmps103
  go_wp2_with fail
  refine c1.mono ?_;rintro e v0 ⟨rfl,hb0⟩;dsimp only;have hM0:=hM.below hb0
  go_wp2_with fail
  first|go_end0|refine aB (aI rfl _ _ _) rfl ?_
  exact ⟨rfl,O,hM0,.of_below hb0⟩
 | false =>
  rw [ai (by decide)]
  have h5:(tw != -1)=true:=by simp [bne,h0]
  clear h0
  go_enter Tryz.func103,Tryz.ntmps103
  go_wp2_with fail
  refine c1.mono ?_;rintro e v0 ⟨rfl,hb0⟩;dsimp only;have hM0:=hM.below hb0
  go_wp2_with fail
  refine (Cv hM0 hs.i).mono ?_;rintro e v9 ⟨rfl,nV⟩;dsimp only
  exact ⟨rfl,rfl,hb0.trans (nV.mono hb0.size)⟩
theorem XH {W:World} (hM:Mem d L size lv s O W) (hs:Small L s) (x:By) (p q:Nat) (hp:jk O W p (ptr d) 110) (hq:jk O W q (.string (aU x)) 9) :
  Calls Tryz.prog 131 #[ptr p,ptr q] W (Does d L size lv s.i O W (exec L size (.word x) s)):=by
 simp only [exec]
 cases h0:rY L size x s.i with
 | true =>
  rw [ay rfl]
  go_enter Tryz.func131,Tryz.ntmps131
  go_upto_region 0 with fail
  refine aS (S:=fun X:World=>X.cell? ⟨p,0,none⟩=some (ptr d)∧X.cell? ⟨q,0,none⟩=some (.string (aU x))) (by kernel_rfl) ⟨hp.cell,hq.cell⟩ fun ag=>?_
  have hD:Below W.heap.size W W.drew:=(aj _ _).drew;have I8:=hM.below hD;have uU:=hp.below hD;have qz:=hq.below hD;refine OP.y 0 rfl (ptr d) (dA 110 (.tmp 0) rfl (by rfl) (fun X hX=>mo hX.1)) ag ?_;simp only [OP.s];refine OP.y 1 rfl (ptr d) (dA 110 (.tmp 0) rfl (by rfl) (fun X hX=>mo hX.1)) ag ?_;simp only [OP.s];refine OP.y 2 rfl (.string (aU x)) (dA 9 (.tmp 1) rfl (by rfl) (fun X hX=>I5 hX.2)) ag ?_;simp only [OP.s]
  refine OP.r 3 rfl fun K hK=>?_
  go_simp
  go_at_call 133
  have c1:=iM I8 hs.i x;rw [h0] at c1;refine c1.mono ?_;rintro e v0 ⟨rfl,hb0⟩;dsimp only;have hM0:=I8.below hb0;replace uU:=uU.below hb0;replace qz:=qz.below hb0
  refine hK.out _ _ (⟨uU.cell,qz.cell⟩) fun ag=>?_
  try simp only [OP.s]
  clear hK K
  refine OP.r 4 rfl fun K hK=>?_
  go_simp
  go_at_call 132
  refine (MJ hM0 (aJ hs.i hs.len)).mono ?_;rintro e v1 ⟨rfl,hM1,hS1⟩;dsimp only
  refine hK.out _ _ (⟨(uU.stay hS1).cell,(qz.stay hS1).cell⟩) fun ag=>?_
  try simp only [OP.s]
  clear hK K;refine bL (by kernel_rfl) ?_ _
  (try go_wp2_with fail)
  first|go_end0|refine aB (aI rfl _ _ _) rfl ?_
  exact ⟨rfl,O,hM1,((bN.of_below hD).trans (bN.of_below hb0)).trans hS1⟩
 | false =>
  rw [ai (by decide)]
  go_enter Tryz.func131,Tryz.ntmps131
  go_upto_region 0 with fail
  refine aS (S:=fun X:World=>X.cell? ⟨p,0,none⟩=some (ptr d)∧X.cell? ⟨q,0,none⟩=some (.string (aU x))) (by kernel_rfl) ⟨hp.cell,hq.cell⟩ fun ag=>?_
  have hD:Below W.heap.size W W.drew:=(aj _ _).drew;have I8:=hM.below hD;have uU:=hp.below hD;have qz:=hq.below hD;refine OP.y 0 rfl (ptr d) (dA 110 (.tmp 0) rfl (by rfl) (fun X hX=>mo hX.1)) ag ?_;simp only [OP.s];refine OP.y 1 rfl (ptr d) (dA 110 (.tmp 0) rfl (by rfl) (fun X hX=>mo hX.1)) ag ?_;simp only [OP.s];refine OP.y 2 rfl (.string (aU x)) (dA 9 (.tmp 1) rfl (by rfl) (fun X hX=>I5 hX.2)) ag ?_;simp only [OP.s]
  refine OP.r 3 rfl fun K hK=>?_
  go_simp
  go_at_call 133
  have c1:=iM I8 hs.i x;rw [h0] at c1;refine c1.mono ?_;rintro e v0 ⟨rfl,hb0⟩;dsimp only;have hM0:=I8.below hb0;replace uU:=uU.below hb0;replace qz:=qz.below hb0
  refine hK.out _ _ (⟨uU.cell,qz.cell⟩) fun ag=>?_
  try simp only [OP.s]
  clear hK K
  refine OP.r 4 rfl fun K hK=>?_
  go_simp
  go_at_call 132
  refine (I1 hM0 hs.i).mono ?_;rintro e v1 ⟨rfl,hb1⟩;dsimp only
  exact ⟨rfl,rfl,(hD.trans (hb0.mono hD.size)).trans (hb1.mono (hD.trans (hb0.mono hD.size)).size)⟩
end
end K
end Go.Proofs.YtojoahlpgmnbnaaGreatDoor
