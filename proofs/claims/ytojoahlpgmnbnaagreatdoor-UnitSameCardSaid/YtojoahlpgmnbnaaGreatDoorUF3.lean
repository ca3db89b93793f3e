/- What the claim needs of the texts KGram1, KGram2, KGram3, KTop. -/
import Derived.Test.YtojoahlpgmnbnaaGreatDoorUFOp
import Derived.Test.YtojoahlpgmnbnaaGreatDoorUF2
import Derived.Laws.OwnMore
namespace Go.Proofs.YtojoahlpgmnbnaaGreatDoor.K
open Go.RowKit
open Go.Lib hiding intOf
open U S T
section
variable {d:Nat} {L:List TokP} {size:Nat} {lv:Value} {s:St} {O:Nat→Prop}
set_option maxHeartbeats 4000000 in
set_option maxRecDepth 20000 in
theorem g_varDecl {W:World} (hM:Mem d L size lv s O W) (hs:Small L s):Calls Tryz.prog 124 #[ptr d] W (Does d L size lv s.i O W (varDecl L size s)):=by
 have hmf:=hmf
 go_enter Tryz.func124,Tryz.ntmps124
 go_wp2_with fail
 refine (begin_any hM hs.i kVar hs.opn).mono ?_
 rintro e v1 ⟨rfl,O1,hM1,hS1⟩
 dsimp only
 go_wp2_with fail
 refine (word_make hM1 kVar).mono ?_
 rintro e v2 ⟨p2,q2,rfl,hp2,hq2,hb2⟩
 dsimp only
 have hM2:=hM1.below hb2
 go_wp2_with fail
 refine (then_lit hM2 [.word kVar,.m .name,.m .typeOf,.m .fin] [.func (.func 131) #[] #[ptr p2,ptr q2],.func (.func 119) #[ptr d] #[],.func (.func 136) #[ptr d] #[],.func (.func 123) #[ptr d] #[]] 4 rfl ⟨_,_,rfl,⟨p2,q2,rfl,hp2,hq2⟩,⟨_,_,rfl,rfl,⟨_,_,rfl,rfl,⟨_,_,rfl,rfl,rfl⟩⟩⟩⟩ (by decide) hs.todo).mono ?_
 rintro e v3 ⟨rfl,O3,hM3,hS3⟩
 dsimp only
 (try go_wp2_with fail)
 first|go_end0|refine bodyPost_ret (results_none rfl _ _ _) rfl ?_
 exact ⟨rfl,O3,hM3,((hS1.trans (Stay.of_below hb2)).trans hS3)⟩
set_option maxHeartbeats 4000000 in
set_option maxRecDepth 20000 in
theorem g_params {W:World} (hM:Mem d L size lv s O W) (hs:Small L s):Calls Tryz.prog 120 #[ptr d] W (Does d L size lv s.i O W (execM L size .params s)):=by
 have hmf:=hmf
 go_enter Tryz.func120,Tryz.ntmps120
 go_wp2_with fail
 refine (begin_any hM hs.i kParams hs.opn).mono ?_
 rintro e v1 ⟨rfl,O1,hM1,hS1⟩
 dsimp only
 go_wp2_with fail
 refine (word_make hM1 [40]).mono ?_
 rintro e v2 ⟨p2,q2,rfl,hp2,hq2,hb2⟩
 dsimp only
 have hM2:=hM1.below hb2
 go_wp2_with fail
 refine (commas_make hM2 135).mono ?_
 rintro e v3 ⟨p3,q3,rfl,hp3,hq3,hb3⟩
 dsimp only
 replace hp2:=hp2.below hb3
 replace hq2:=hq2.below hb3
 have hM3:=hM2.below hb3
 go_wp2_with fail
 refine (word_make hM3 [41]).mono ?_
 rintro e v4 ⟨p4,q4,rfl,hp4,hq4,hb4⟩
 dsimp only
 replace hp2:=hp2.below hb4
 replace hq2:=hq2.below hb4
 replace hp3:=hp3.below hb4
 replace hq3:=hq3.below hb4
 have hM4:=hM3.below hb4
 go_wp2_with fail
 refine (then_lit hM4 [.word [40],.commas .param,.word [41],.m .fin] [.func (.func 131) #[] #[ptr p2,ptr q2],.func (.func 142) #[] #[ptr p3,ptr q3],.func (.func 131) #[] #[ptr p4,ptr q4],.func (.func 123) #[ptr d] #[]] 4 rfl ⟨_,_,rfl,⟨p2,q2,rfl,hp2,hq2⟩,⟨_,_,rfl,⟨p3,q3,rfl,hp3,hq3⟩,⟨_,_,rfl,⟨p4,q4,rfl,hp4,hq4⟩,⟨_,_,rfl,rfl,rfl⟩⟩⟩⟩ (by decide) hs.todo).mono ?_
 rintro e v5 ⟨rfl,O5,hM5,hS5⟩
 dsimp only
 (try go_wp2_with fail)
 first|go_end0|refine bodyPost_ret (results_none rfl _ _ _) rfl ?_
 exact ⟨rfl,O5,hM5,((((hS1.trans (Stay.of_below hb2)).trans (Stay.of_below hb3)).trans (Stay.of_below hb4)).trans hS5)⟩
set_option maxHeartbeats 4000000 in
set_option maxRecDepth 20000 in
theorem g_param {W:World} (hM:Mem d L size lv s O W) (hs:Small L s):Calls Tryz.prog 135 #[ptr d] W (Does d L size lv s.i O W (execM L size .param s)):=by
 have hmf:=hmf
 go_enter Tryz.func135,Tryz.ntmps135
 go_wp2_with fail
 refine (begin_any hM hs.i kParam hs.opn).mono ?_
 rintro e v1 ⟨rfl,O1,hM1,hS1⟩
 dsimp only
 go_wp2_with fail
 refine (then_lit hM1 [.m .name,.m .typeOf,.m .fin] [.func (.func 119) #[ptr d] #[],.func (.func 136) #[ptr d] #[],.func (.func 123) #[ptr d] #[]] 3 rfl ⟨_,_,rfl,rfl,⟨_,_,rfl,rfl,⟨_,_,rfl,rfl,rfl⟩⟩⟩ (by decide) hs.todo).mono ?_
 rintro e v2 ⟨rfl,O2,hM2,hS2⟩
 dsimp only
 (try go_wp2_with fail)
 first|go_end0|refine bodyPost_ret (results_none rfl _ _ _) rfl ?_
 exact ⟨rfl,O2,hM2,(hS1.trans hS2)⟩
set_option maxHeartbeats 4000000 in
set_option maxRecDepth 20000 in
theorem g_field {W:World} (hM:Mem d L size lv s O W) (hs:Small L s):Calls Tryz.prog 126 #[ptr d] W (Does d L size lv s.i O W (execM L size .field s)):=by
 have hmf:=hmf
 go_enter Tryz.func126,Tryz.ntmps126
 go_wp2_with fail
 refine (begin_any hM hs.i kField hs.opn).mono ?_
 rintro e v1 ⟨rfl,O1,hM1,hS1⟩
 dsimp only
 go_wp2_with fail
 refine (then_lit hM1 [.m .name,.m .typeOf,.m .fin] [.func (.func 119) #[ptr d] #[],.func (.func 136) #[ptr d] #[],.func (.func 123) #[ptr d] #[]] 3 rfl ⟨_,_,rfl,rfl,⟨_,_,rfl,rfl,⟨_,_,rfl,rfl,rfl⟩⟩⟩ (by decide) hs.todo).mono ?_
 rintro e v2 ⟨rfl,O2,hM2,hS2⟩
 dsimp only
 (try go_wp2_with fail)
 first|go_end0|refine bodyPost_ret (results_none rfl _ _ _) rfl ?_
 exact ⟨rfl,O2,hM2,(hS1.trans hS2)⟩
set_option maxHeartbeats 4000000 in
set_option maxRecDepth 20000 in
theorem g_block {W:World} (hM:Mem d L size lv s O W) (hs:Small L s):Calls Tryz.prog 122 #[ptr d] W (Does d L size lv s.i O W (blockM L size s)):=by
 have hmf:=hmf
 go_enter Tryz.func122,Tryz.ntmps122
 go_wp2_with fail
 refine (begin_any hM hs.i kBlock hs.opn).mono ?_
 rintro e v1 ⟨rfl,O1,hM1,hS1⟩
 dsimp only
 go_wp2_with fail
 refine (word_make hM1 [123]).mono ?_
 rintro e v2 ⟨p2,q2,rfl,hp2,hq2,hb2⟩
 dsimp only
 have hM2:=hM1.below hb2
 go_wp2_with fail
 refine (lines_make hM2 137).mono ?_
 rintro e v3 ⟨p3,q3,rfl,hp3,hq3,hb3⟩
 dsimp only
 replace hp2:=hp2.below hb3
 replace hq2:=hq2.below hb3
 have hM3:=hM2.below hb3
 go_wp2_with fail
 refine (word_make hM3 [125]).mono ?_
 rintro e v4 ⟨p4,q4,rfl,hp4,hq4,hb4⟩
 dsimp only
 replace hp2:=hp2.below hb4
 replace hq2:=hq2.below hb4
 replace hp3:=hp3.below hb4
 replace hq3:=hq3.below hb4
 have hM4:=hM3.below hb4
 go_wp2_with fail
 refine (then_lit hM4 [.word [123],.lines .stmt,.word [125],.m .fin] [.func (.func 131) #[] #[ptr p2,ptr q2],.func (.func 139) #[] #[ptr p3,ptr q3],.func (.func 131) #[] #[ptr p4,ptr q4],.func (.func 123) #[ptr d] #[]] 4 rfl ⟨_,_,rfl,⟨p2,q2,rfl,hp2,hq2⟩,⟨_,_,rfl,⟨p3,q3,rfl,hp3,hq3⟩,⟨_,_,rfl,⟨p4,q4,rfl,hp4,hq4⟩,⟨_,_,rfl,rfl,rfl⟩⟩⟩⟩ (by decide) hs.todo).mono ?_
 rintro e v5 ⟨rfl,O5,hM5,hS5⟩
 dsimp only
 (try go_wp2_with fail)
 first|go_end0|refine bodyPost_ret (results_none rfl _ _ _) rfl ?_
 exact ⟨rfl,O5,hM5,((((hS1.trans (Stay.of_below hb2)).trans (Stay.of_below hb3)).trans (Stay.of_below hb4)).trans hS5)⟩
set_option maxHeartbeats 4000000 in
set_option maxRecDepth 20000 in
theorem g_ifStmt {W:World} (hM:Mem d L size lv s O W) (hs:Small L s):Calls Tryz.prog 145 #[ptr d] W (Does d L size lv s.i O W (ifStmt L size s)):=by
 have hmf:=hmf
 go_enter Tryz.func145,Tryz.ntmps145
 go_wp2_with fail
 refine (begin_any hM hs.i kIf hs.opn).mono ?_
 rintro e v1 ⟨rfl,O1,hM1,hS1⟩
 dsimp only
 go_wp2_with fail
 refine (word_make hM1 kIf).mono ?_
 rintro e v2 ⟨p2,q2,rfl,hp2,hq2,hb2⟩
 dsimp only
 have hM2:=hM1.below hb2
 go_wp2_with fail
 refine (then_lit hM2 [.word kIf,.m .expr,.m .block,.m .otherwise,.m .fin] [.func (.func 131) #[] #[ptr p2,ptr q2],.func (.func 146) #[ptr d] #[],.func (.func 122) #[ptr d] #[],.func (.func 150) #[ptr d] #[],.func (.func 123) #[ptr d] #[]] 5 rfl ⟨_,_,rfl,⟨p2,q2,rfl,hp2,hq2⟩,⟨_,_,rfl,rfl,⟨_,_,rfl,rfl,⟨_,_,rfl,rfl,⟨_,_,rfl,rfl,rfl⟩⟩⟩⟩⟩ (by decide) hs.todo).mono ?_
 rintro e v3 ⟨rfl,O3,hM3,hS3⟩
 dsimp only
 (try go_wp2_with fail)
 first|go_end0|refine bodyPost_ret (results_none rfl _ _ _) rfl ?_
 exact ⟨rfl,O3,hM3,((hS1.trans (Stay.of_below hb2)).trans hS3)⟩
set_option maxHeartbeats 4000000 in
set_option maxRecDepth 20000 in
theorem g_expr {W:World} (hM:Mem d L size lv s O W) (hs:Small L s):Calls Tryz.prog 146 #[ptr d] W (Does d L size lv s.i O W (exprM s)):=by
 have hmf:=hmf
 go_enter Tryz.func146,Tryz.ntmps146
 go_wp2_with fail
 refine (then_lit hM [.m .pre,.m .between] [.func (.func 151) #[ptr d] #[],.func (.func 152) #[ptr d] #[]] 2 rfl ⟨_,_,rfl,rfl,⟨_,_,rfl,rfl,rfl⟩⟩ (by decide) hs.todo).mono ?_
 rintro e v1 ⟨rfl,O1,hM1,hS1⟩
 dsimp only
 (try go_wp2_with fail)
 first|go_end0|refine bodyPost_ret (results_none rfl _ _ _) rfl ?_
 exact ⟨rfl,O1,hM1,hS1⟩
end
end Go.Proofs.YtojoahlpgmnbnaaGreatDoor.K
namespace Go.Proofs.YtojoahlpgmnbnaaGreatDoor.K
open Go.RowKit
open Go.Lib hiding intOf
open U S T
section
variable {d:Nat} {L:List TokP} {size:Nat} {lv:Value} {s:St} {O:Nat→Prop}
theorem next_txt {W:World} (hM:Mem d L size lv s O W) (hi:s.i≤L.length):∃ (tw tf te:Int) (y:ByteArray),(∀ x,isP L size x s.i=(y.toList==x))∧(∀ x,isW L size x s.i=(tw==x))∧(tok L size s.i).t=y.toList ∧
  Calls Tryz.prog 116 #[ptr d] W fun e W'=>e=.returned (.agg #[.int .i64 tw,.string y,.int .i64 tf,.int .i64 te])∧Below W.heap.size W W':=by
 have c1:=next_any hM hi
 unfold isP isW
 generalize tok L size s.i=t at c1 ⊢
 obtain ⟨tw,tt,tf,te⟩:=t
 dsimp only [tokV] at c1 ⊢
 have hyl:(⟨tt.toArray⟩:ByteArray).toList=tt:=by rw [ByteArray.toList_eq]
 exact ⟨tw,tf,te,⟨tt.toArray⟩,fun x=>by rw [hyl],fun x=>rfl,hyl.symm,c1⟩
theorem Does.below {W W1 W':World} {r:Res} {e:Ending} {i:Nat} (h:Does d L size lv i O W1 r e W') (hb:Below W.heap.size W W1):Does d L size lv i O W r e W':=by
 cases r with
 | go s'=>obtain ⟨h1,O',h2,h3⟩:=h;exact ⟨h1,O',h2,(Stay.of_below hb).trans h3⟩
 | wrong=>obtain ⟨h1,h2⟩:=h;exact ⟨h1,hb.trans (h2.mono hb.size)⟩
 | stuck=>trivial
theorem load_rd {d bx:Nat} {W:World} (h:W.cell? ⟨bx,0,none⟩=some (ptr d)):(Instr.loadAt 110 (.pointer (some ⟨bx,0,none⟩))).run Tryz.prog W=.ok (ptr d) W:=by
 simp [go_sem,h]
theorem load_fn {d bx k:Nat} {W:World} (h:W.cell? ⟨bx,0,none⟩=some (.func (.func k) #[ptr d] #[])):(Instr.loadAt 1 (.pointer (some ⟨bx,0,none⟩))).run Tryz.prog W=.ok (.func (.func k) #[ptr d] #[]) W:=by
 simp [go_sem,h]
theorem load_str {bx:Nat} {x:ByteArray} {W:World} (h:W.cell? ⟨bx,0,none⟩=some (.string x)):(Instr.loadAt 9 (.pointer (some ⟨bx,0,none⟩))).run Tryz.prog W=.ok (.string x) W:=by
 simp [go_sem,h]
theorem BoxAt.cell {W:World} {b:Nat} {v:Value} {t:TypeId} (h:BoxAt O W b v t):W.cell? ⟨b,0,none⟩=some v:=by
 have:=h.2
 simp [World.cell?,this]
theorem Small.at {L:List TokP} {s:St} (h:Small L s) {j:Nat} (hj:j≤L.length):Small L { s with i:=j }:=⟨hj,h.len,h.todo,h.opn,h.kids⟩
set_option maxHeartbeats 4000000 in
set_option maxRecDepth 20000 in
theorem g_decl {W:World} (hM:Mem d L size lv s O W) (hs:Small L s):Calls Tryz.prog 101 #[ptr d] W (Does d L size lv s.i O W (execM L size .decl s)):=by
 obtain ⟨tw,tf,te,y,hP,hW,_,c1⟩:=next_txt hM hs.i
 have hmf:=hmf
 have hfl:=fun X=>fld1 (.int .i64 tw) (.string y) (.int .i64 tf) (.int .i64 te) X
 simp only [execM,hP]
 clear hP hW
 obtain ⟨b0,h0⟩:∃ b,(y.toList==[102,117,110,99])=b:=⟨_,rfl⟩
 cases b0 with
 | true =>
  rw [if_pos (show (y.toList==kFunc)=true from h0)]
  go_enter Tryz.func101,Tryz.ntmps101
  go_wp2_with fail
  refine c1.mono ?_
  rintro e v0 ⟨rfl,hb0⟩
  dsimp only
  have hM0:=hM.below hb0
  go_wp2_with fail
  refine (begin_any hM0 hs.i kFunc hs.opn).mono ?_
  rintro e v1 ⟨rfl,O1,hM1,hS1⟩
  dsimp only
  go_wp2_with fail
  refine (word_make hM1 kFunc).mono ?_
  rintro e v2 ⟨p2,q2,rfl,hp2,hq2,hb2⟩
  dsimp only
  have hM2:=hM1.below hb2
  go_wp2_with fail
  refine (then_lit hM2 [.word kFunc,.m .name,.m .params,.m .result,.m .block,.m .fin] [.func (.func 131) #[] #[ptr p2,ptr q2],.func (.func 119) #[ptr d] #[],.func (.func 120) #[ptr d] #[],.func (.func 121) #[ptr d] #[],.func (.func 122) #[ptr d] #[],.func (.func 123) #[ptr d] #[]] 6 rfl ⟨_,_,rfl,⟨p2,q2,rfl,hp2,hq2⟩,⟨_,_,rfl,rfl,⟨_,_,rfl,rfl,⟨_,_,rfl,rfl,⟨_,_,rfl,rfl,⟨_,_,rfl,rfl,rfl⟩⟩⟩⟩⟩⟩ (by decide) hs.todo).mono ?_
  rintro e v3 ⟨rfl,O3,hM3,hS3⟩
  dsimp only
  (try go_wp2_with fail)
  first|go_end0|refine bodyPost_ret (results_none rfl _ _ _) rfl ?_
  exact ⟨rfl,O3,hM3,((((Stay.of_below hb0).trans hS1).trans (Stay.of_below hb2)).trans hS3)⟩
 | false =>
 rw [if_neg (show ¬ (y.toList==kFunc)=true by rw [show (y.toList==kFunc)=false from h0];decide)]
 obtain ⟨b1,h1⟩:∃ b,(y.toList==[118,97,114])=b:=⟨_,rfl⟩
 cases b1 with
 | true =>
  rw [if_pos (show (y.toList==kVar)=true from h1)]
  go_enter Tryz.func101,Tryz.ntmps101
  go_wp2_with fail
  refine c1.mono ?_
  rintro e v0 ⟨rfl,hb0⟩
  dsimp only
  have hM0:=hM.below hb0
  go_wp2_with fail
  refine (g_varDecl hM0 hs).mono ?_
  rintro e v9 ⟨rfl,O9,hM9,hS9⟩
  dsimp only
  (try go_wp2_with fail)
  first|go_end0|refine bodyPost_ret (results_none rfl _ _ _) rfl ?_
  exact ⟨rfl,O9,hM9,(Stay.of_below hb0).trans hS9⟩
 | false =>
 rw [if_neg (show ¬ (y.toList==kVar)=true by rw [show (y.toList==kVar)=false from h1];decide)]
 obtain ⟨b2,h2⟩:∃ b,(y.toList==[116,121,112,101])=b:=⟨_,rfl⟩
 cases b2 with
 | true =>
  rw [if_pos (show (y.toList==kType)=true from h2)]
  go_enter Tryz.func101,Tryz.ntmps101
  go_wp2_with fail
  refine c1.mono ?_
  rintro e v0 ⟨rfl,hb0⟩
  dsimp only
  have hM0:=hM.below hb0
  go_wp2_with fail
  refine (begin_any hM0 hs.i kType hs.opn).mono ?_
  rintro e v1 ⟨rfl,O1,hM1,hS1⟩
  dsimp only
  go_wp2_with fail
  refine (word_make hM1 kType).mono ?_
  rintro e v2 ⟨p2,q2,rfl,hp2,hq2,hb2⟩
  dsimp only
  have hM2:=hM1.below hb2
  go_wp2_with fail
  refine (word_make hM2 kStruct).mono ?_
  rintro e v3 ⟨p3,q3,rfl,hp3,hq3,hb3⟩
  dsimp only
  replace hp2:=hp2.below hb3
  replace hq2:=hq2.below hb3
  have hM3:=hM2.below hb3
  go_wp2_with fail
  refine (word_make hM3 [123]).mono ?_
  rintro e v4 ⟨p4,q4,rfl,hp4,hq4,hb4⟩
  dsimp only
  replace hp2:=hp2.below hb4
  replace hq2:=hq2.below hb4
  replace hp3:=hp3.below hb4
  replace hq3:=hq3.below hb4
  have hM4:=hM3.below hb4
  go_wp2_with fail
  refine (lines_make hM4 126).mono ?_
  rintro e v5 ⟨p5,q5,rfl,hp5,hq5,hb5⟩
  dsimp only
  replace hp2:=hp2.below hb5
  replace hq2:=hq2.below hb5
  replace hp3:=hp3.below hb5
  replace hq3:=hq3.below hb5
  replace hp4:=hp4.below hb5
  replace hq4:=hq4.below hb5
  have hM5:=hM4.below hb5
  go_wp2_with fail
  refine (word_make hM5 [125]).mono ?_
  rintro e v6 ⟨p6,q6,rfl,hp6,hq6,hb6⟩
  dsimp only
  replace hp2:=hp2.below hb6
  replace hq2:=hq2.below hb6
  replace hp3:=hp3.below hb6
  replace hq3:=hq3.below hb6
  replace hp4:=hp4.below hb6
  replace hq4:=hq4.below hb6
  replace hp5:=hp5.below hb6
  replace hq5:=hq5.below hb6
  have hM6:=hM5.below hb6
  go_wp2_with fail
  refine (then_lit hM6 [.word kType,.m .name,.word kStruct,.word [123],.lines .field,.word [125],.m .fin] [.func (.func 131) #[] #[ptr p2,ptr q2],.func (.func 119) #[ptr d] #[],.func (.func 131) #[] #[ptr p3,ptr q3],.func (.func 131) #[] #[ptr p4,ptr q4],.func (.func 139) #[] #[ptr p5,ptr q5],.func (.func 131) #[] #[ptr p6,ptr q6],.func (.func 123) #[ptr d] #[]] 7 rfl ⟨_,_,rfl,⟨p2,q2,rfl,hp2,hq2⟩,⟨_,_,rfl,rfl,⟨_,_,rfl,⟨p3,q3,rfl,hp3,hq3⟩,⟨_,_,rfl,⟨p4,q4,rfl,hp4,hq4⟩,⟨_,_,rfl,⟨p5,q5,rfl,hp5,hq5⟩,⟨_,_,rfl,⟨p6,q6,rfl,hp6,hq6⟩,⟨_,_,rfl,rfl,rfl⟩⟩⟩⟩⟩⟩⟩ (by decide) hs.todo).mono ?_
  rintro e v7 ⟨rfl,O7,hM7,hS7⟩
  dsimp only
  (try go_wp2_with fail)
  first|go_end0|refine bodyPost_ret (results_none rfl _ _ _) rfl ?_
  exact ⟨rfl,O7,hM7,((((((((Stay.of_below hb0).trans hS1).trans (Stay.of_below hb2)).trans (Stay.of_below hb3)).trans (Stay.of_below hb4)).trans (Stay.of_below hb5)).trans (Stay.of_below hb6)).trans hS7)⟩
 | false =>
 rw [if_neg (show ¬ (y.toList==kType)=true by rw [show (y.toList==kType)=false from h2];decide)]
 go_enter Tryz.func101,Tryz.ntmps101
 go_wp2_with fail
 refine c1.mono ?_
 rintro e v0 ⟨rfl,hb0⟩
 dsimp only
 have hM0:=hM.below hb0
 go_wp2_with fail
 refine (fail_any hM0 hs.i).mono ?_
 rintro e v9 ⟨rfl,hb9⟩
 dsimp only
 exact ⟨rfl,rfl,hb0.trans (hb9.mono hb0.size)⟩
set_option maxHeartbeats 4000000 in
set_option maxRecDepth 20000 in
theorem g_typeOf {W:World} (hM:Mem d L size lv s O W) (hs:Small L s):Calls Tryz.prog 136 #[ptr d] W (Does d L size lv s.i O W (execM L size .typeOf s)):=by
 obtain ⟨tw,tf,te,y,hP,hW,_,c1⟩:=next_txt hM hs.i
 have hmf:=hmf
 have hfl:=fun X=>fld1 (.int .i64 tw) (.string y) (.int .i64 tf) (.int .i64 te) X
 simp only [execM,hP]
 clear hP hW
 obtain ⟨b0,h0⟩:∃ b,(y.toList==[42])=b:=⟨_,rfl⟩
 cases b0 with
 | true =>
  rw [if_pos (show (y.toList==[42])=true from h0)]
  go_enter Tryz.func136,Tryz.ntmps136
  go_wp2_with fail
  refine c1.mono ?_
  rintro e v0 ⟨rfl,hb0⟩
  dsimp only
  have hM0:=hM.below hb0
  go_wp2_with fail
  refine (begin_any hM0 hs.i kStar hs.opn).mono ?_
  rintro e v1 ⟨rfl,O1,hM1,hS1⟩
  dsimp only
  go_wp2_with fail
  refine (word_make hM1 [42]).mono ?_
  rintro e v2 ⟨p2,q2,rfl,hp2,hq2,hb2⟩
  dsimp only
  have hM2:=hM1.below hb2
  go_wp2_with fail
  refine (then_lit hM2 [.word [42],.m .typeOf,.m .fin] [.func (.func 131) #[] #[ptr p2,ptr q2],.func (.func 136) #[ptr d] #[],.func (.func 123) #[ptr d] #[]] 3 rfl ⟨_,_,rfl,⟨p2,q2,rfl,hp2,hq2⟩,⟨_,_,rfl,rfl,⟨_,_,rfl,rfl,rfl⟩⟩⟩ (by decide) hs.todo).mono ?_
  rintro e v3 ⟨rfl,O3,hM3,hS3⟩
  dsimp only
  (try go_wp2_with fail)
  first|go_end0|refine bodyPost_ret (results_none rfl _ _ _) rfl ?_
  exact ⟨rfl,O3,hM3,((((Stay.of_below hb0).trans hS1).trans (Stay.of_below hb2)).trans hS3)⟩
 | false =>
 rw [if_neg (show ¬ (y.toList==[42])=true by rw [show (y.toList==[42])=false from h0];decide)]
 obtain ⟨b1,h1⟩:∃ b,(y.toList==[91])=b:=⟨_,rfl⟩
 cases b1 with
 | true =>
  rw [if_pos (show (y.toList==[91])=true from h1)]
  go_enter Tryz.func136,Tryz.ntmps136
  go_wp2_with fail
  refine c1.mono ?_
  rintro e v0 ⟨rfl,hb0⟩
  dsimp only
  have hM0:=hM.below hb0
  go_wp2_with fail
  refine (begin_any hM0 hs.i kSlice hs.opn).mono ?_
  rintro e v1 ⟨rfl,O1,hM1,hS1⟩
  dsimp only
  go_wp2_with fail
  refine (word_make hM1 [91]).mono ?_
  rintro e v2 ⟨p2,q2,rfl,hp2,hq2,hb2⟩
  dsimp only
  have hM2:=hM1.below hb2
  go_wp2_with fail
  refine (word_make hM2 [93]).mono ?_
  rintro e v3 ⟨p3,q3,rfl,hp3,hq3,hb3⟩
  dsimp only
  replace hp2:=hp2.below hb3
  replace hq2:=hq2.below hb3
  have hM3:=hM2.below hb3
  go_wp2_with fail
  refine (then_lit hM3 [.word [91],.word [93],.m .typeOf,.m .fin] [.func (.func 131) #[] #[ptr p2,ptr q2],.func (.func 131) #[] #[ptr p3,ptr q3],.func (.func 136) #[ptr d] #[],.func (.func 123) #[ptr d] #[]] 4 rfl ⟨_,_,rfl,⟨p2,q2,rfl,hp2,hq2⟩,⟨_,_,rfl,⟨p3,q3,rfl,hp3,hq3⟩,⟨_,_,rfl,rfl,⟨_,_,rfl,rfl,rfl⟩⟩⟩⟩ (by decide) hs.todo).mono ?_
  rintro e v4 ⟨rfl,O4,hM4,hS4⟩
  dsimp only
  (try go_wp2_with fail)
  first|go_end0|refine bodyPost_ret (results_none rfl _ _ _) rfl ?_
  exact ⟨rfl,O4,hM4,(((((Stay.of_below hb0).trans hS1).trans (Stay.of_below hb2)).trans (Stay.of_below hb3)).trans hS4)⟩
 | false =>
 rw [if_neg (show ¬ (y.toList==[91])=true by rw [show (y.toList==[91])=false from h1];decide)]
 go_enter Tryz.func136,Tryz.ntmps136
 go_wp2_with fail
 refine c1.mono ?_
 rintro e v0 ⟨rfl,hb0⟩
 dsimp only
 have hM0:=hM.below hb0
 go_wp2_with fail
 refine (begin_any hM0 hs.i kName hs.opn).mono ?_
 rintro e v1 ⟨rfl,O1,hM1,hS1⟩
 dsimp only
 go_wp2_with fail
 refine (then_lit hM1 [.m .name,.m .fin] [.func (.func 119) #[ptr d] #[],.func (.func 123) #[ptr d] #[]] 2 rfl ⟨_,_,rfl,rfl,⟨_,_,rfl,rfl,rfl⟩⟩ (by decide) hs.todo).mono ?_
 rintro e v2 ⟨rfl,O2,hM2,hS2⟩
 dsimp only
 (try go_wp2_with fail)
 first|go_end0|refine bodyPost_ret (results_none rfl _ _ _) rfl ?_
 exact ⟨rfl,O2,hM2,(((Stay.of_below hb0).trans hS1).trans hS2)⟩
set_option maxHeartbeats 4000000 in
set_option maxRecDepth 20000 in
theorem g_stmt {W:World} (hM:Mem d L size lv s O W) (hs:Small L s):Calls Tryz.prog 137 #[ptr d] W (Does d L size lv s.i O W (execM L size .stmt s)):=by
 obtain ⟨tw,tf,te,y,hP,hW,_,c1⟩:=next_txt hM hs.i
 have hmf:=hmf
 have hfl:=fun X=>fld1 (.int .i64 tw) (.string y) (.int .i64 tf) (.int .i64 te) X
 simp only [execM,hP]
 clear hP hW
 obtain ⟨b0,h0⟩:∃ b,(y.toList==[118,97,114])=b:=⟨_,rfl⟩
 cases b0 with
 | true =>
  rw [if_pos (show (y.toList==kVar)=true from h0)]
  go_enter Tryz.func137,Tryz.ntmps137
  go_wp2_with fail
  refine c1.mono ?_
  rintro e v0 ⟨rfl,hb0⟩
  dsimp only
  have hM0:=hM.below hb0
  go_wp2_with fail
  refine (g_varDecl hM0 hs).mono ?_
  rintro e v9 ⟨rfl,O9,hM9,hS9⟩
  dsimp only
  (try go_wp2_with fail)
  first|go_end0|refine bodyPost_ret (results_none rfl _ _ _) rfl ?_
  exact ⟨rfl,O9,hM9,(Stay.of_below hb0).trans hS9⟩
 | false =>
 rw [if_neg (show ¬ (y.toList==kVar)=true by rw [show (y.toList==kVar)=false from h0];decide)]
 obtain ⟨b1,h1⟩:∃ b,(y.toList==[114,101,116,117,114,110])=b:=⟨_,rfl⟩
 cases b1 with
 | true =>
  rw [if_pos (show (y.toList==kReturn)=true from h1)]
  go_enter Tryz.func137,Tryz.ntmps137
  go_wp2_with fail
  refine c1.mono ?_
  rintro e v0 ⟨rfl,hb0⟩
  dsimp only
  have hM0:=hM.below hb0
  go_wp2_with fail
  refine (begin_any hM0 hs.i kReturn hs.opn).mono ?_
  rintro e v1 ⟨rfl,O1,hM1,hS1⟩
  dsimp only
  go_wp2_with fail
  refine (word_make hM1 kReturn).mono ?_
  rintro e v2 ⟨p2,q2,rfl,hp2,hq2,hb2⟩
  dsimp only
  have hM2:=hM1.below hb2
  go_wp2_with fail
  refine (then_lit hM2 [.word kReturn,.m .returned,.m .fin] [.func (.func 131) #[] #[ptr p2,ptr q2],.func (.func 144) #[ptr d] #[],.func (.func 123) #[ptr d] #[]] 3 rfl ⟨_,_,rfl,⟨p2,q2,rfl,hp2,hq2⟩,⟨_,_,rfl,rfl,⟨_,_,rfl,rfl,rfl⟩⟩⟩ (by decide) hs.todo).mono ?_
  rintro e v3 ⟨rfl,O3,hM3,hS3⟩
  dsimp only
  (try go_wp2_with fail)
  first|go_end0|refine bodyPost_ret (results_none rfl _ _ _) rfl ?_
  exact ⟨rfl,O3,hM3,((((Stay.of_below hb0).trans hS1).trans (Stay.of_below hb2)).trans hS3)⟩
 | false =>
 rw [if_neg (show ¬ (y.toList==kReturn)=true by rw [show (y.toList==kReturn)=false from h1];decide)]
 obtain ⟨b2,h2⟩:∃ b,(y.toList==[105,102])=b:=⟨_,rfl⟩
 cases b2 with
 | true =>
  rw [if_pos (show (y.toList==kIf)=true from h2)]
  go_enter Tryz.func137,Tryz.ntmps137
  go_wp2_with fail
  refine c1.mono ?_
  rintro e v0 ⟨rfl,hb0⟩
  dsimp only
  have hM0:=hM.below hb0
  go_wp2_with fail
  refine (g_ifStmt hM0 hs).mono ?_
  rintro e v9 ⟨rfl,O9,hM9,hS9⟩
  dsimp only
  (try go_wp2_with fail)
  first|go_end0|refine bodyPost_ret (results_none rfl _ _ _) rfl ?_
  exact ⟨rfl,O9,hM9,(Stay.of_below hb0).trans hS9⟩
 | false =>
 rw [if_neg (show ¬ (y.toList==kIf)=true by rw [show (y.toList==kIf)=false from h2];decide)]
 obtain ⟨b3,h3⟩:∃ b,(y.toList==[102,111,114])=b:=⟨_,rfl⟩
 cases b3 with
 | true =>
  rw [if_pos (show (y.toList==kFor)=true from h3)]
  go_enter Tryz.func137,Tryz.ntmps137
  go_wp2_with fail
  refine c1.mono ?_
  rintro e v0 ⟨rfl,hb0⟩
  dsimp only
  have hM0:=hM.below hb0
  go_wp2_with fail
  refine (begin_any hM0 hs.i kFor hs.opn).mono ?_
  rintro e v1 ⟨rfl,O1,hM1,hS1⟩
  dsimp only
  go_wp2_with fail
  refine (word_make hM1 kFor).mono ?_
  rintro e v2 ⟨p2,q2,rfl,hp2,hq2,hb2⟩
  dsimp only
  have hM2:=hM1.below hb2
  go_wp2_with fail
  refine (then_lit hM2 [.word kFor,.m .expr,.m .block,.m .fin] [.func (.func 131) #[] #[ptr p2,ptr q2],.func (.func 146) #[ptr d] #[],.func (.func 122) #[ptr d] #[],.func (.func 123) #[ptr d] #[]] 4 rfl ⟨_,_,rfl,⟨p2,q2,rfl,hp2,hq2⟩,⟨_,_,rfl,rfl,⟨_,_,rfl,rfl,⟨_,_,rfl,rfl,rfl⟩⟩⟩⟩ (by decide) hs.todo).mono ?_
  rintro e v3 ⟨rfl,O3,hM3,hS3⟩
  dsimp only
  (try go_wp2_with fail)
  first|go_end0|refine bodyPost_ret (results_none rfl _ _ _) rfl ?_
  exact ⟨rfl,O3,hM3,((((Stay.of_below hb0).trans hS1).trans (Stay.of_below hb2)).trans hS3)⟩
 | false =>
 rw [if_neg (show ¬ (y.toList==kFor)=true by rw [show (y.toList==kFor)=false from h3];decide)]
 obtain ⟨b4,h4⟩:∃ b,(y.toList==[123])=b:=⟨_,rfl⟩
 cases b4 with
 | true =>
  rw [if_pos (show (y.toList==[123])=true from h4)]
  go_enter Tryz.func137,Tryz.ntmps137
  go_wp2_with fail
  refine c1.mono ?_
  rintro e v0 ⟨rfl,hb0⟩
  dsimp only
  have hM0:=hM.below hb0
  go_wp2_with fail
  refine (g_block hM0 hs).mono ?_
  rintro e v9 ⟨rfl,O9,hM9,hS9⟩
  dsimp only
  (try go_wp2_with fail)
  first|go_end0|refine bodyPost_ret (results_none rfl _ _ _) rfl ?_
  exact ⟨rfl,O9,hM9,(Stay.of_below hb0).trans hS9⟩
 | false =>
 rw [if_neg (show ¬ (y.toList==[123])=true by rw [show (y.toList==[123])=false from h4];decide)]
 go_enter Tryz.func137,Tryz.ntmps137
 go_wp2_with fail
 refine c1.mono ?_
 rintro e v0 ⟨rfl,hb0⟩
 dsimp only
 have hM0:=hM.below hb0
 go_wp2_with fail
 refine (begin_any hM0 hs.i kExpr hs.opn).mono ?_
 rintro e v1 ⟨rfl,O1,hM1,hS1⟩
 dsimp only
 go_wp2_with fail
 refine (then_lit hM1 [.m .expr,.m .assigned,.m .fin] [.func (.func 146) #[ptr d] #[],.func (.func 147) #[ptr d] #[],.func (.func 123) #[ptr d] #[]] 3 rfl ⟨_,_,rfl,rfl,⟨_,_,rfl,rfl,⟨_,_,rfl,rfl,rfl⟩⟩⟩ (by decide) hs.todo).mono ?_
 rintro e v2 ⟨rfl,O2,hM2,hS2⟩
 dsimp only
 (try go_wp2_with fail)
 first|go_end0|refine bodyPost_ret (results_none rfl _ _ _) rfl ?_
 exact ⟨rfl,O2,hM2,(((Stay.of_below hb0).trans hS1).trans hS2)⟩
set_option maxHeartbeats 4000000 in
set_option maxRecDepth 20000 in
theorem g_operand {W:World} (hM:Mem d L size lv s O W) (hs:Small L s):Calls Tryz.prog 155 #[ptr d] W (Does d L size lv s.i O W (execM L size .operand s)):=by
 obtain ⟨tw,tf,te,y,hP,hW,_,c1⟩:=next_txt hM hs.i
 have hmf:=hmf
 have hfl:=fun X=>fld0 (.int .i64 tw) (.string y) (.int .i64 tf) (.int .i64 te) X
 simp only [execM,hW]
 clear hP hW
 obtain ⟨b0,h0⟩:∃ b,(tw==1)=b:=⟨_,rfl⟩
 cases b0 with
 | true =>
  rw [if_pos (show (tw==1)=true from h0)]
  go_enter Tryz.func155,Tryz.ntmps155
  go_wp2_with fail
  refine c1.mono ?_
  rintro e v0 ⟨rfl,hb0⟩
  dsimp only
  have hM0:=hM.below hb0
  go_wp2_with fail
  refine (begin_any hM0 hs.i kNum hs.opn).mono ?_
  rintro e v1 ⟨rfl,O1,hM1,hS1⟩
  dsimp only
  go_wp2_with fail
  refine (then_lit hM1 [.m .text,.m .fin] [.func (.func 154) #[ptr d] #[],.func (.func 123) #[ptr d] #[]] 2 rfl ⟨_,_,rfl,rfl,⟨_,_,rfl,rfl,rfl⟩⟩ (by decide) hs.todo).mono ?_
  rintro e v2 ⟨rfl,O2,hM2,hS2⟩
  dsimp only
  (try go_wp2_with fail)
  first|go_end0|refine bodyPost_ret (results_none rfl _ _ _) rfl ?_
  exact ⟨rfl,O2,hM2,(((Stay.of_below hb0).trans hS1).trans hS2)⟩
 | false =>
 rw [if_neg (show ¬ (tw==1)=true by rw [show (tw==1)=false from h0];decide)]
 obtain ⟨b1,h1⟩:∃ b,(tw==2)=b:=⟨_,rfl⟩
 cases b1 with
 | true =>
  rw [if_pos (show (tw==2)=true from h1)]
  go_enter Tryz.func155,Tryz.ntmps155
  go_wp2_with fail
  refine c1.mono ?_
  rintro e v0 ⟨rfl,hb0⟩
  dsimp only
  have hM0:=hM.below hb0
  go_wp2_with fail
  refine (begin_any hM0 hs.i kStr hs.opn).mono ?_
  rintro e v1 ⟨rfl,O1,hM1,hS1⟩
  dsimp only
  go_wp2_with fail
  refine (then_lit hM1 [.m .text,.m .fin] [.func (.func 154) #[ptr d] #[],.func (.func 123) #[ptr d] #[]] 2 rfl ⟨_,_,rfl,rfl,⟨_,_,rfl,rfl,rfl⟩⟩ (by decide) hs.todo).mono ?_
  rintro e v2 ⟨rfl,O2,hM2,hS2⟩
  dsimp only
  (try go_wp2_with fail)
  first|go_end0|refine bodyPost_ret (results_none rfl _ _ _) rfl ?_
  exact ⟨rfl,O2,hM2,(((Stay.of_below hb0).trans hS1).trans hS2)⟩
 | false =>
 rw [if_neg (show ¬ (tw==2)=true by rw [show (tw==2)=false from h1];decide)]
 obtain ⟨b2,h2⟩:∃ b,(tw==0)=b:=⟨_,rfl⟩
 cases b2 with
 | true =>
  rw [if_pos (show (tw==0)=true from h2)]
  go_enter Tryz.func155,Tryz.ntmps155
  go_wp2_with fail
  refine c1.mono ?_
  rintro e v0 ⟨rfl,hb0⟩
  dsimp only
  have hM0:=hM.below hb0
  go_wp2_with fail
  refine (begin_any hM0 hs.i kId hs.opn).mono ?_
  rintro e v1 ⟨rfl,O1,hM1,hS1⟩
  dsimp only
  go_wp2_with fail
  refine (then_lit hM1 [.m .name,.m .called,.m .fin] [.func (.func 119) #[ptr d] #[],.func (.func 159) #[ptr d] #[],.func (.func 123) #[ptr d] #[]] 3 rfl ⟨_,_,rfl,rfl,⟨_,_,rfl,rfl,⟨_,_,rfl,rfl,rfl⟩⟩⟩ (by decide) hs.todo).mono ?_
  rintro e v2 ⟨rfl,O2,hM2,hS2⟩
  dsimp only
  (try go_wp2_with fail)
  first|go_end0|refine bodyPost_ret (results_none rfl _ _ _) rfl ?_
  exact ⟨rfl,O2,hM2,(((Stay.of_below hb0).trans hS1).trans hS2)⟩
 | false =>
 rw [if_neg (show ¬ (tw==0)=true by rw [show (tw==0)=false from h2];decide)]
 go_enter Tryz.func155,Tryz.ntmps155
 go_wp2_with fail
 refine c1.mono ?_
 rintro e v0 ⟨rfl,hb0⟩
 dsimp only
 have hM0:=hM.below hb0
 go_wp2_with fail
 refine (begin_any hM0 hs.i kBr hs.opn).mono ?_
 rintro e v1 ⟨rfl,O1,hM1,hS1⟩
 dsimp only
 go_wp2_with fail
 refine (word_make hM1 [40]).mono ?_
 rintro e v2 ⟨p2,q2,rfl,hp2,hq2,hb2⟩
 dsimp only
 have hM2:=hM1.below hb2
 go_wp2_with fail
 refine (word_make hM2 [41]).mono ?_
 rintro e v3 ⟨p3,q3,rfl,hp3,hq3,hb3⟩
 dsimp only
 replace hp2:=hp2.below hb3
 replace hq2:=hq2.below hb3
 have hM3:=hM2.below hb3
 go_wp2_with fail
 refine (then_lit hM3 [.word [40],.m .expr,.word [41],.m .fin] [.func (.func 131) #[] #[ptr p2,ptr q2],.func (.func 146) #[ptr d] #[],.func (.func 131) #[] #[ptr p3,ptr q3],.func (.func 123) #[ptr d] #[]] 4 rfl ⟨_,_,rfl,⟨p2,q2,rfl,hp2,hq2⟩,⟨_,_,rfl,rfl,⟨_,_,rfl,⟨p3,q3,rfl,hp3,hq3⟩,⟨_,_,rfl,rfl,rfl⟩⟩⟩⟩ (by decide) hs.todo).mono ?_
 rintro e v4 ⟨rfl,O4,hM4,hS4⟩
 dsimp only
 (try go_wp2_with fail)
 first|go_end0|refine bodyPost_ret (results_none rfl _ _ _) rfl ?_
 exact ⟨rfl,O4,hM4,(((((Stay.of_below hb0).trans hS1).trans (Stay.of_below hb2)).trans (Stay.of_below hb3)).trans hS4)⟩
set_option maxHeartbeats 4000000 in
set_option maxRecDepth 20000 in
theorem g_otherwise {W:World} (hM:Mem d L size lv s O W) (hs:Small L s):Calls Tryz.prog 150 #[ptr d] W (Does d L size lv s.i O W (execM L size .otherwise s)):=by
 have c1:=is_any hM hs.i kElse
 have hmf:=hmf
 simp only [execM]
 cases h0:isP L size kElse s.i with
 | true =>
  rw [h0] at c1
  rw [if_pos rfl]
  go_enter Tryz.func150,Tryz.ntmps150
  go_wp2_with fail
  refine c1.mono ?_
  rintro e v0 ⟨rfl,hb0⟩
  dsimp only
  have hM0:=hM.below hb0
  go_wp2_with fail
  refine (word_make hM0 kElse).mono ?_
  rintro e v1 ⟨p1,q1,rfl,hp1,hq1,hb1⟩
  dsimp only
  have hM1:=hM0.below hb1
  go_wp2_with fail
  refine (then_lit hM1 [.word kElse,.m .ifOrBlock] [.func (.func 131) #[] #[ptr p1,ptr q1],.func (.func 153) #[ptr d] #[]] 2 rfl ⟨_,_,rfl,⟨p1,q1,rfl,hp1,hq1⟩,⟨_,_,rfl,rfl,rfl⟩⟩ (by decide) hs.todo).mono ?_
  rintro e v2 ⟨rfl,O2,hM2,hS2⟩
  dsimp only
  (try go_wp2_with fail)
  first|go_end0|refine bodyPost_ret (results_none rfl _ _ _) rfl ?_
  exact ⟨rfl,O2,hM2,(((Stay.of_below hb0).trans (Stay.of_below hb1)).trans hS2)⟩
 | false =>
  rw [h0] at c1
  rw [if_neg (by decide)]
  go_enter Tryz.func150,Tryz.ntmps150
  go_wp2_with fail
  refine c1.mono ?_
  rintro e v0 ⟨rfl,hb0⟩
  dsimp only
  have hM0:=hM.below hb0
  go_wp2_with fail
  (try go_wp2_with fail)
  first|go_end0|refine bodyPost_ret (results_none rfl _ _ _) rfl ?_
  exact ⟨rfl,O,hM0,.of_below hb0⟩
set_option maxHeartbeats 4000000 in
set_option maxRecDepth 20000 in
theorem g_ifOrBlock {W:World} (hM:Mem d L size lv s O W) (hs:Small L s):Calls Tryz.prog 153 #[ptr d] W (Does d L size lv s.i O W (execM L size .ifOrBlock s)):=by
 have c1:=is_any hM hs.i kIf
 have hmf:=hmf
 simp only [execM]
 cases h0:isP L size kIf s.i with
 | true =>
  rw [h0] at c1
  rw [if_pos rfl]
  go_enter Tryz.func153,Tryz.ntmps153
  go_wp2_with fail
  refine c1.mono ?_
  rintro e v0 ⟨rfl,hb0⟩
  dsimp only
  have hM0:=hM.below hb0
  go_wp2_with fail
  refine (g_ifStmt hM0 hs).mono ?_
  rintro e v9 ⟨rfl,O9,hM9,hS9⟩
  dsimp only
  (try go_wp2_with fail)
  first|go_end0|refine bodyPost_ret (results_none rfl _ _ _) rfl ?_
  exact ⟨rfl,O9,hM9,(Stay.of_below hb0).trans hS9⟩
 | false =>
  rw [h0] at c1
  rw [if_neg (by decide)]
  go_enter Tryz.func153,Tryz.ntmps153
  go_wp2_with fail
  refine c1.mono ?_
  rintro e v0 ⟨rfl,hb0⟩
  dsimp only
  have hM0:=hM.below hb0
  go_wp2_with fail
  refine (g_block hM0 hs).mono ?_
  rintro e v9 ⟨rfl,O9,hM9,hS9⟩
  dsimp only
  (try go_wp2_with fail)
  first|go_end0|refine bodyPost_ret (results_none rfl _ _ _) rfl ?_
  exact ⟨rfl,O9,hM9,(Stay.of_below hb0).trans hS9⟩
set_option maxHeartbeats 4000000 in
set_option maxRecDepth 20000 in
theorem g_prefix {W:World} (hM:Mem d L size lv s O W) (hs:Small L s):Calls Tryz.prog 151 #[ptr d] W (Does d L size lv s.i O W (execM L size .pre s)):=by
 obtain ⟨tw,tf,te,y,hP,_,_,c1⟩:=next_txt hM hs.i
 have hmf:=hmf
 have hfl:=fun X=>fld1 (.int .i64 tw) (.string y) (.int .i64 tf) (.int .i64 te) X
 simp only [execM,hP]
 clear hP
 obtain ⟨b0,h0⟩:∃ b,(y.toList==[38])=b:=⟨_,rfl⟩
 cases b0 with
 | true =>
  rw [if_pos (Or.inl h0)]
  go_enter Tryz.func151,Tryz.ntmps151
  go_wp2_with fail
  refine c1.mono ?_
  rintro e v0 ⟨rfl,hb0⟩
  dsimp only
  have hM0:=hM.below hb0
  go_wp2_with fail
  refine (begin_any hM0 hs.i kUnary hs.opn).mono ?_
  rintro e v1 ⟨rfl,O1,hM1,hS1⟩
  dsimp only
  go_wp2_with fail
  refine (then_lit hM1 [.m .text,.m .pre,.m .fin] [.func (.func 154) #[ptr d] #[],.func (.func 151) #[ptr d] #[],.func (.func 123) #[ptr d] #[]] 3 rfl ⟨_,_,rfl,rfl,⟨_,_,rfl,rfl,⟨_,_,rfl,rfl,rfl⟩⟩⟩ (by decide) hs.todo).mono ?_
  rintro e v2 ⟨rfl,O2,hM2,hS2⟩
  dsimp only
  (try go_wp2_with fail)
  first|go_end0|refine bodyPost_ret (results_none rfl _ _ _) rfl ?_
  exact ⟨rfl,O2,hM2,(((Stay.of_below hb0).trans hS1).trans hS2)⟩
 | false =>
 obtain ⟨b1,h1⟩:∃ b,(y.toList==[42])=b:=⟨_,rfl⟩
 cases b1 with
 | true =>
  rw [if_pos (Or.inr (Or.inl h1))]
  go_enter Tryz.func151,Tryz.ntmps151
  go_wp2_with fail
  refine c1.mono ?_
  rintro e v0 ⟨rfl,hb0⟩
  dsimp only
  have hM0:=hM.below hb0
  go_wp2_with fail
  refine (begin_any hM0 hs.i kUnary hs.opn).mono ?_
  rintro e v1 ⟨rfl,O1,hM1,hS1⟩
  dsimp only
  go_wp2_with fail
  refine (then_lit hM1 [.m .text,.m .pre,.m .fin] [.func (.func 154) #[ptr d] #[],.func (.func 151) #[ptr d] #[],.func (.func 123) #[ptr d] #[]] 3 rfl ⟨_,_,rfl,rfl,⟨_,_,rfl,rfl,⟨_,_,rfl,rfl,rfl⟩⟩⟩ (by decide) hs.todo).mono ?_
  rintro e v2 ⟨rfl,O2,hM2,hS2⟩
  dsimp only
  (try go_wp2_with fail)
  first|go_end0|refine bodyPost_ret (results_none rfl _ _ _) rfl ?_
  exact ⟨rfl,O2,hM2,(((Stay.of_below hb0).trans hS1).trans hS2)⟩
 | false =>
 obtain ⟨b2,h2⟩:∃ b,(y.toList==[45])=b:=⟨_,rfl⟩
 cases b2 with
 | true =>
  rw [if_pos (Or.inr (Or.inr (Or.inl h2)))]
  go_enter Tryz.func151,Tryz.ntmps151
  go_wp2_with fail
  refine c1.mono ?_
  rintro e v0 ⟨rfl,hb0⟩
  dsimp only
  have hM0:=hM.below hb0
  go_wp2_with fail
  refine (begin_any hM0 hs.i kUnary hs.opn).mono ?_
  rintro e v1 ⟨rfl,O1,hM1,hS1⟩
  dsimp only
  go_wp2_with fail
  refine (then_lit hM1 [.m .text,.m .pre,.m .fin] [.func (.func 154) #[ptr d] #[],.func (.func 151) #[ptr d] #[],.func (.func 123) #[ptr d] #[]] 3 rfl ⟨_,_,rfl,rfl,⟨_,_,rfl,rfl,⟨_,_,rfl,rfl,rfl⟩⟩⟩ (by decide) hs.todo).mono ?_
  rintro e v2 ⟨rfl,O2,hM2,hS2⟩
  dsimp only
  (try go_wp2_with fail)
  first|go_end0|refine bodyPost_ret (results_none rfl _ _ _) rfl ?_
  exact ⟨rfl,O2,hM2,(((Stay.of_below hb0).trans hS1).trans hS2)⟩
 | false =>
 obtain ⟨b3,h3⟩:∃ b,(y.toList==[33])=b:=⟨_,rfl⟩
 cases b3 with
 | true =>
  rw [if_pos (Or.inr (Or.inr (Or.inr h3)))]
  go_enter Tryz.func151,Tryz.ntmps151
  go_wp2_with fail
  refine c1.mono ?_
  rintro e v0 ⟨rfl,hb0⟩
  dsimp only
  have hM0:=hM.below hb0
  go_wp2_with fail
  refine (begin_any hM0 hs.i kUnary hs.opn).mono ?_
  rintro e v1 ⟨rfl,O1,hM1,hS1⟩
  dsimp only
  go_wp2_with fail
  refine (then_lit hM1 [.m .text,.m .pre,.m .fin] [.func (.func 154) #[ptr d] #[],.func (.func 151) #[ptr d] #[],.func (.func 123) #[ptr d] #[]] 3 rfl ⟨_,_,rfl,rfl,⟨_,_,rfl,rfl,⟨_,_,rfl,rfl,rfl⟩⟩⟩ (by decide) hs.todo).mono ?_
  rintro e v2 ⟨rfl,O2,hM2,hS2⟩
  dsimp only
  (try go_wp2_with fail)
  first|go_end0|refine bodyPost_ret (results_none rfl _ _ _) rfl ?_
  exact ⟨rfl,O2,hM2,(((Stay.of_below hb0).trans hS1).trans hS2)⟩
 | false =>
 rw [if_neg (by rintro (h|h|h|h);rw [h0] at h;cases h;rw [h1] at h;cases h;rw [h2] at h;cases h;rw [h3] at h;cases h)]
 go_enter Tryz.func151,Tryz.ntmps151
 go_wp2_with fail
 refine c1.mono ?_
 rintro e v0 ⟨rfl,hb0⟩
 dsimp only
 have hM0:=hM.below hb0
 go_wp2_with fail
 refine (then_lit hM0 [.m .operand,.m .behind] [.func (.func 155) #[ptr d] #[],.func (.func 156) #[ptr d] #[]] 2 rfl ⟨_,_,rfl,rfl,⟨_,_,rfl,rfl,rfl⟩⟩ (by decide) hs.todo).mono ?_
 rintro e v1 ⟨rfl,O1,hM1,hS1⟩
 dsimp only
 (try go_wp2_with fail)
 first|go_end0|refine bodyPost_ret (results_none rfl _ _ _) rfl ?_
 exact ⟨rfl,O1,hM1,((Stay.of_below hb0).trans hS1)⟩
set_option maxHeartbeats 4000000 in
set_option maxRecDepth 20000 in
theorem g_returned {W:World} (hM:Mem d L size lv s O W) (hs:Small L s):Calls Tryz.prog 144 #[ptr d] W (Does d L size lv s.i O W (execM L size .returned s)):=by
 obtain ⟨tw,tf,te,y,_,hW,_,c1⟩:=next_txt hM hs.i
 have hmf:=hmf
 have hfl:=fun X=>fld0 (.int .i64 tw) (.string y) (.int .i64 tf) (.int .i64 te) X
 simp only [execM,hW]
 clear hW
 obtain ⟨b0,h0⟩:∃ b,(tw==5)=b:=⟨_,rfl⟩
 cases b0 with
 | true =>
  rw [if_neg (by rintro ⟨h,_⟩;rw [h0] at h;cases h)]
  obtain rfl:tw=5:=by simpa using h0
  clear h0
  go_enter Tryz.func144,Tryz.ntmps144
  go_wp2_with fail
  refine c1.mono ?_
  rintro e v0 ⟨rfl,hb0⟩
  dsimp only
  have hM0:=hM.below hb0
  go_wp2_with fail
  first|go_end0|refine bodyPost_ret (results_none rfl _ _ _) rfl ?_
  exact ⟨rfl,O,hM0,.of_below hb0⟩
 | false =>
  have h5:(tw != 5)=true:=by simp [bne,h0]
  cases h1:isP L size [125] s.i with
  | true =>
   rw [if_neg (by rintro ⟨_,h⟩;cases h)]
   clear h0
   go_enter Tryz.func144,Tryz.ntmps144
   go_wp2_with fail
   refine c1.mono ?_
   rintro e v0 ⟨rfl,hb0⟩
   dsimp only
   have hM0:=hM.below hb0
   have c2:=is_any hM0 hs.i [125]
   rw [h1] at c2
   go_wp2_with fail
   refine c2.mono ?_
   rintro e v1 ⟨rfl,hb1⟩
   dsimp only
   have hM1:=hM0.below hb1
   go_wp2_with fail
   first|go_end0|refine bodyPost_ret (results_none rfl _ _ _) rfl ?_
   exact ⟨rfl,O,hM1,.of_below (hb0.trans (hb1.mono hb0.size))⟩
  | false =>
   rw [if_pos ⟨h0,rfl⟩]
   clear h0
   go_enter Tryz.func144,Tryz.ntmps144
   go_wp2_with fail
   refine c1.mono ?_
   rintro e v0 ⟨rfl,hb0⟩
   dsimp only
   have hM0:=hM.below hb0
   have c2:=is_any hM0 hs.i [125]
   rw [h1] at c2
   go_wp2_with fail
   refine c2.mono ?_
   rintro e v1 ⟨rfl,hb1⟩
   dsimp only
   have hM1:=hM0.below hb1
   go_wp2_with fail
   refine (g_expr hM1 hs).mono ?_
   rintro e v9 ⟨rfl,O9,hM9,hS9⟩
   dsimp only
   (try go_wp2_with fail)
   first|go_end0|refine bodyPost_ret (results_none rfl _ _ _) rfl ?_
   exact ⟨rfl,O9,hM9,(Stay.of_below (hb0.trans (hb1.mono hb0.size))).trans hS9⟩
end
end Go.Proofs.YtojoahlpgmnbnaaGreatDoor.K
namespace Go.Proofs.YtojoahlpgmnbnaaGreatDoor.K
open Go.RowKit
open Go.Lib hiding intOf
open U S T
section
variable {d:Nat} {L:List TokP} {size:Nat} {lv:Value} {s:St} {O:Nat→Prop}
set_option maxHeartbeats 4000000 in
set_option maxRecDepth 20000 in
theorem g_commas {W:World} (hM:Mem d L size lv s O W) (hs:Small L s) (r:Mth) (p q k:Nat) (hk:fnOf r=k) (hp:BoxAt O W p (ptr d) 110) (hq:BoxAt O W q (mval d r) 1) :
  Calls Tryz.prog 142 #[ptr p,ptr q] W (Does d L size lv s.i O W (exec L size (.commas r) s)):=by
 have hq':BoxAt O W q (.func (.func k) #[ptr d] #[]) 1:=by rw [← hk];exact hq
 have hstep:∀ {O' W' b},BoxAt O' W' b (.func (.func k) #[ptr d] #[]) 1→BoxAt O' W' b (mval d r) 1:=fun h=>by rw [← hk] at h;exact h
 have hmf:=hmf
 have k0:=hp.cell
 have k1:=hq'.cell
 have c1:=is_any hM hs.i [41]
 simp only [exec]
 cases h0:isP L size [41] s.i with
 | true =>
  rw [h0] at c1
  rw [if_pos rfl]
  go_enter Tryz.func142,Tryz.ntmps142
  go_wp2_with fail
  refine c1.mono ?_
  rintro e v0 ⟨rfl,hb0⟩
  dsimp only
  have hM0:=hM.below hb0
  go_wp2_with fail
  first|go_end0|refine bodyPost_ret (results_none rfl _ _ _) rfl ?_
  exact ⟨rfl,O,hM0,.of_below hb0⟩
 | false =>
  rw [h0] at c1
  rw [if_neg (by decide)]
  go_enter Tryz.func142,Tryz.ntmps142
  go_wp2_with fail
  refine c1.mono ?_
  rintro e v0 ⟨rfl,hb0⟩
  dsimp only
  have hM0:=hM.below hb0
  have hp0:=hp.below hb0
  have hq0:=hq'.below hb0
  go_upto_region 1 with fail
  refine wp_region_held_drew (S:=fun X:World=>X.cell? ⟨p,0,none⟩=some (ptr d)∧X.cell? ⟨q,0,none⟩=some (.func (.func k) #[ptr d] #[])) (by kernel_rfl) ⟨hp0.cell,hq0.cell⟩ (fun hHeld=>?_)
  have hD:Below v0.heap.size v0 v0.drew:=(Below.refl _ _).drew
  have hMd:=hM0.below hD
  have hpd:=hp0.below hD
  have hqd:=hq0.below hD
  refine wpAnyH_take (i:=0) (oi:=({ dst:=some 5,op:=Op.load 110 (Operand.tmp 0),type:=110,pos := "grammar.go:115",after:=#[],guard:=none }:Oper)) (v:=ptr d) rfl (by kernel_rfl) (by kernel_rfl) (by kernel_rfl) (fun _ _ _ h=>h) (yields_load 110 (.tmp 0) rfl (by rfl) (fun X hX=>load_rd hX.1)) hHeld ?_
  (try simp only [Act.put,List.setIfInBounds_toArray,List.set_cons_zero,List.set_cons_succ])
  refine wpAnyH_take (i:=1) (oi:=({ dst:=some 6,op:=Op.load 1 (Operand.tmp 1),type:=1,pos := "grammar.go:115",after:=#[],guard:=none }:Oper)) (v:=.func (.func k) #[ptr d] #[]) rfl (by kernel_rfl) (by kernel_rfl) (by kernel_rfl) (fun _ _ _ h=>h) (yields_load 1 (.tmp 1) rfl (by rfl) (fun X hX=>load_fn hX.2)) hHeld ?_
  (try simp only [Act.put,List.setIfInBounds_toArray,List.set_cons_zero,List.set_cons_succ])
  refine wpAnyH_take (i:=2) (oi:=({ dst:=some 7,op:=Op.load 110 (Operand.tmp 0),type:=110,pos := "grammar.go:115",after:=#[],guard:=none }:Oper)) (v:=ptr d) rfl (by kernel_rfl) (by kernel_rfl) (by kernel_rfl) (fun _ _ _ h=>h) (yields_load 110 (.tmp 0) rfl (by rfl) (fun X hX=>load_rd hX.1)) hHeld ?_
  (try simp only [Act.put,List.setIfInBounds_toArray,List.set_cons_zero,List.set_cons_succ])
  refine wpAnyH_take (i:=3) (oi:=({ dst:=some 8,op:=Op.load 1 (Operand.tmp 1),type:=1,pos := "grammar.go:115",after:=#[],guard:=none }:Oper)) (v:=.func (.func k) #[ptr d] #[]) rfl (by kernel_rfl) (by kernel_rfl) (by kernel_rfl) (fun _ _ _ h=>h) (yields_load 1 (.tmp 1) rfl (by rfl) (fun X hX=>load_fn hX.2)) hHeld ?_
  (try simp only [Act.put,List.setIfInBounds_toArray,List.set_cons_zero,List.set_cons_succ])
  refine wpAnyH_ready (rs:=[4]) (by kernel_rfl) (by simp) ?_
  refine (AllReadyH.cons (o:=({ dst:=some 9,op:=Op.call { callee:=Callee.value (Operand.func 143),args:=#[Operand.tmp 7,Operand.tmp 8],argTypes:=#[110,1] },type:=1,pos := "grammar.go:115",after:=#[{ on:=2,ground:=Ground.data },{ on:=3,ground:=Ground.data }],guard:=none }:Oper)) rfl (fun K hK=>?_) AllReadyH.nil)
  refine wanted_step (by kernel_rfl) ?_
  go_simp
  go_at_call 143
  refine (moreC_make hMd k).mono ?_
  rintro e u1 ⟨a1,b1,rfl,ha1,hc1,hb1⟩
  dsimp only
  have hMu1:=hMd.below hb1
  replace hpd:=hpd.below hb1
  replace hqd:=hqd.below hb1
  refine hK.out _ _ (⟨hpd.cell,hqd.cell⟩) (fun hHeld=>?_)
  (try simp only [Act.put,List.setIfInBounds_toArray,List.set_cons_zero,List.set_cons_succ])
  clear hK K
  refine wpAnyH_ready (rs:=[5]) (by kernel_rfl) (by simp) ?_
  refine (AllReadyH.cons (o:=({ dst:=some 10,op:=Op.buildSlice 121 2 #[(0,Operand.tmp 6),(1,Operand.tmp 9)],type:=121,pos := "grammar.go:115",after:=#[{ on:=1,ground:=Ground.data },{ on:=4,ground:=Ground.data }],guard:=none }:Oper)) rfl (fun K hK=>?_) AllReadyH.nil)
  refine wanted_step (by kernel_rfl) ?_
  go_simp
  have hba:Below u1.heap.size u1 (u1.alloc (.cells #[.func (.func k) #[ptr d] #[],.func (.func 149) #[] #[ptr a1,ptr b1]] 1)):=(Below.refl _ _).alloc (Nat.le_refl _) _
  refine hK.out _ _ (⟨(hpd.below hba).cell,(hqd.below hba).cell⟩) (fun hHeld=>?_)
  (try simp only [Act.put,List.setIfInBounds_toArray,List.set_cons_zero,List.set_cons_succ])
  clear hK K
  refine wpAnyH_ready (rs:=[6]) (by kernel_rfl) (by simp) ?_
  refine (AllReadyH.cons (o:=({ dst:=some 11,op:=Op.call { callee:=Callee.value (Operand.func 100),args:=#[Operand.tmp 5,Operand.tmp 10],argTypes:=#[110,121] },type:=0,pos := "grammar.go:115",after:=#[{ on:=0,ground:=Ground.data },{ on:=5,ground:=Ground.data },{ on:=4,ground:=Ground.chain }],guard:=none }:Oper)) rfl (fun K hK=>?_) AllReadyH.nil)
  refine wanted_step (by kernel_rfl) ?_
  go_simp
  go_at_call 100
  refine (then_lit hMu1 [.m r,.moreC r] [.func (.func k) #[ptr d] #[],.func (.func 149) #[] #[ptr a1,ptr b1]] 2 rfl ⟨_,_,rfl,(by show _=mval d r;rw [mval,hk]),⟨_,_,rfl,⟨a1,b1,rfl,ha1,hstep hc1⟩,rfl⟩⟩ (by decide) hs.todo).mono ?_
  rintro e x1 ⟨rfl,O1,hMx,hSx⟩
  dsimp only
  refine hK.out _ _ (⟨(hpd.stay hSx).cell,(hqd.stay hSx).cell⟩) (fun hHeld=>?_)
  (try simp only [Act.put,List.setIfInBounds_toArray,List.set_cons_zero,List.set_cons_succ])
  clear hK K
  refine wpAnyH_done (by kernel_rfl) ?_ _
  (try go_wp2_with fail)
  first|go_end0|refine bodyPost_ret (results_none rfl _ _ _) rfl ?_
  exact ⟨rfl,O1,hMx,(((Stay.of_below hb0).trans (Stay.of_below hD)).trans (Stay.of_below hb1)).trans hSx⟩
set_option maxHeartbeats 4000000 in
set_option maxRecDepth 20000 in
theorem g_moreC {W:World} (hM:Mem d L size lv s O W) (hs:Small L s) (r:Mth) (p q k:Nat) (hk:fnOf r=k) (hp:BoxAt O W p (ptr d) 110) (hq:BoxAt O W q (mval d r) 1) :
  Calls Tryz.prog 149 #[ptr p,ptr q] W (Does d L size lv s.i O W (exec L size (.moreC r) s)):=by
 have hq':BoxAt O W q (.func (.func k) #[ptr d] #[]) 1:=by rw [← hk];exact hq
 have hstep:∀ {O' W' b},BoxAt O' W' b (.func (.func k) #[ptr d] #[]) 1→BoxAt O' W' b (mval d r) 1:=fun h=>by rw [← hk] at h;exact h
 have hmf:=hmf
 have k0:=hp.cell
 have k1:=hq'.cell
 have c1:=is_any hM hs.i [44]
 simp only [exec]
 cases h0:isP L size [44] s.i with
 | true =>
  rw [h0] at c1
  rw [if_pos rfl]
  go_enter Tryz.func149,Tryz.ntmps149
  go_wp2_with fail
  refine c1.mono ?_
  rintro e v0 ⟨rfl,hb0⟩
  dsimp only
  have hM0:=hM.below hb0
  have hp0:=hp.below hb0
  have hq0:=hq'.below hb0
  go_upto_region 1 with fail
  refine wp_region_held_drew (S:=fun X:World=>X.cell? ⟨p,0,none⟩=some (ptr d)∧X.cell? ⟨q,0,none⟩=some (.func (.func k) #[ptr d] #[])) (by kernel_rfl) ⟨hp0.cell,hq0.cell⟩ (fun hHeld=>?_)
  have hD:Below v0.heap.size v0 v0.drew:=(Below.refl _ _).drew
  have hMd:=hM0.below hD
  have hpd:=hp0.below hD
  have hqd:=hq0.below hD
  refine wpAnyH_take (i:=0) (oi:=({ dst:=some 4,op:=Op.load 110 (Operand.tmp 0),type:=110,pos := "grammar.go:124",after:=#[],guard:=none }:Oper)) (v:=ptr d) rfl (by kernel_rfl) (by kernel_rfl) (by kernel_rfl) (fun _ _ _ h=>h) (yields_load 110 (.tmp 0) rfl (by rfl) (fun X hX=>load_rd hX.1)) hHeld ?_
  (try simp only [Act.put,List.setIfInBounds_toArray,List.set_cons_zero,List.set_cons_succ])
  refine wpAnyH_take (i:=1) (oi:=({ dst:=some 5,op:=Op.load 110 (Operand.tmp 0),type:=110,pos := "grammar.go:124",after:=#[],guard:=none }:Oper)) (v:=ptr d) rfl (by kernel_rfl) (by kernel_rfl) (by kernel_rfl) (fun _ _ _ h=>h) (yields_load 110 (.tmp 0) rfl (by rfl) (fun X hX=>load_rd hX.1)) hHeld ?_
  (try simp only [Act.put,List.setIfInBounds_toArray,List.set_cons_zero,List.set_cons_succ])
  refine wpAnyH_take (i:=3) (oi:=({ dst:=some 7,op:=Op.load 1 (Operand.tmp 1),type:=1,pos := "grammar.go:124",after:=#[],guard:=none }:Oper)) (v:=.func (.func k) #[ptr d] #[]) rfl (by kernel_rfl) (by kernel_rfl) (by kernel_rfl) (fun _ _ _ h=>h) (yields_load 1 (.tmp 1) rfl (by rfl) (fun X hX=>load_fn hX.2)) hHeld ?_
  (try simp only [Act.put,List.setIfInBounds_toArray,List.set_cons_zero,List.set_cons_succ])
  refine wpAnyH_take (i:=4) (oi:=({ dst:=some 8,op:=Op.load 110 (Operand.tmp 0),type:=110,pos := "grammar.go:124",after:=#[],guard:=none }:Oper)) (v:=ptr d) rfl (by kernel_rfl) (by kernel_rfl) (by kernel_rfl) (fun _ _ _ h=>h) (yields_load 110 (.tmp 0) rfl (by rfl) (fun X hX=>load_rd hX.1)) hHeld ?_
  (try simp only [Act.put,List.setIfInBounds_toArray,List.set_cons_zero,List.set_cons_succ])
  refine wpAnyH_take (i:=5) (oi:=({ dst:=some 9,op:=Op.load 1 (Operand.tmp 1),type:=1,pos := "grammar.go:124",after:=#[],guard:=none }:Oper)) (v:=.func (.func k) #[ptr d] #[]) rfl (by kernel_rfl) (by kernel_rfl) (by kernel_rfl) (fun _ _ _ h=>h) (yields_load 1 (.tmp 1) rfl (by rfl) (fun X hX=>load_fn hX.2)) hHeld ?_
  (try simp only [Act.put,List.setIfInBounds_toArray,List.set_cons_zero,List.set_cons_succ])
  refine wpAnyH_ready (rs:=[2]) (by kernel_rfl) (by simp) ?_
  refine (AllReadyH.cons (o:=({ dst:=some 6,op:=Op.call { callee:=Callee.value (Operand.func 118),args:=#[Operand.tmp 5,Operand.const (Value.string { data:=#[44] })],argTypes:=#[110,9] },type:=1,pos := "grammar.go:124",after:=#[{ on:=1,ground:=Ground.data }],guard:=none }:Oper)) rfl (fun K hK=>?_) AllReadyH.nil)
  refine wanted_step (by kernel_rfl) ?_
  go_simp
  go_at_call 118
  refine (word_make hMd [44]).mono ?_
  rintro e u1 ⟨a1,b1,rfl,ha1,hc1,hb1⟩
  dsimp only
  have hMu1:=hMd.below hb1
  replace hpd:=hpd.below hb1
  replace hqd:=hqd.below hb1
  refine hK.out _ _ (⟨hpd.cell,hqd.cell⟩) (fun hHeld=>?_)
  (try simp only [Act.put,List.setIfInBounds_toArray,List.set_cons_zero,List.set_cons_succ])
  clear hK K
  refine wpAnyH_ready (rs:=[6]) (by kernel_rfl) (by simp) ?_
  refine (AllReadyH.cons (o:=({ dst:=some 10,op:=Op.call { callee:=Callee.value (Operand.func 143),args:=#[Operand.tmp 8,Operand.tmp 9],argTypes:=#[110,1] },type:=1,pos := "grammar.go:124",after:=#[{ on:=4,ground:=Ground.data },{ on:=5,ground:=Ground.data },{ on:=2,ground:=Ground.chain }],guard:=none }:Oper)) rfl (fun K hK=>?_) AllReadyH.nil)
  refine wanted_step (by kernel_rfl) ?_
  go_simp
  go_at_call 143
  refine (moreC_make hMu1 k).mono ?_
  rintro e u2 ⟨a2,b2,rfl,ha2,hc2,hb2⟩
  dsimp only
  replace ha1:=ha1.below hb2
  replace hc1:=hc1.below hb2
  have hMu2:=hMu1.below hb2
  replace hpd:=hpd.below hb2
  replace hqd:=hqd.below hb2
  refine hK.out _ _ (⟨hpd.cell,hqd.cell⟩) (fun hHeld=>?_)
  (try simp only [Act.put,List.setIfInBounds_toArray,List.set_cons_zero,List.set_cons_succ])
  clear hK K
  refine wpAnyH_ready (rs:=[7]) (by kernel_rfl) (by simp) ?_
  refine (AllReadyH.cons (o:=({ dst:=some 11,op:=Op.buildSlice 121 3 #[(0,Operand.tmp 6),(1,Operand.tmp 7),(2,Operand.tmp 10)],type:=121,pos := "grammar.go:124",after:=#[{ on:=2,ground:=Ground.data },{ on:=3,ground:=Ground.data },{ on:=6,ground:=Ground.data }],guard:=none }:Oper)) rfl (fun K hK=>?_) AllReadyH.nil)
  refine wanted_step (by kernel_rfl) ?_
  go_simp
  have hba:Below u2.heap.size u2 (u2.alloc (.cells #[.func (.func 131) #[] #[ptr a1,ptr b1],.func (.func k) #[ptr d] #[],.func (.func 149) #[] #[ptr a2,ptr b2]] 1)):=(Below.refl _ _).alloc (Nat.le_refl _) _
  refine hK.out _ _ (⟨(hpd.below hba).cell,(hqd.below hba).cell⟩) (fun hHeld=>?_)
  (try simp only [Act.put,List.setIfInBounds_toArray,List.set_cons_zero,List.set_cons_succ])
  clear hK K
  refine wpAnyH_ready (rs:=[8]) (by kernel_rfl) (by simp) ?_
  refine (AllReadyH.cons (o:=({ dst:=some 12,op:=Op.call { callee:=Callee.value (Operand.func 100),args:=#[Operand.tmp 4,Operand.tmp 11],argTypes:=#[110,121] },type:=0,pos := "grammar.go:124",after:=#[{ on:=0,ground:=Ground.data },{ on:=7,ground:=Ground.data },{ on:=6,ground:=Ground.chain }],guard:=none }:Oper)) rfl (fun K hK=>?_) AllReadyH.nil)
  refine wanted_step (by kernel_rfl) ?_
  go_simp
  go_at_call 100
  refine (then_lit hMu2 [.word [44],.m r,.moreC r] [.func (.func 131) #[] #[ptr a1,ptr b1],.func (.func k) #[ptr d] #[],.func (.func 149) #[] #[ptr a2,ptr b2]] 3 rfl ⟨_,_,rfl,⟨a1,b1,rfl,ha1,hc1⟩,⟨_,_,rfl,(by show _=mval d r;rw [mval,hk]),⟨_,_,rfl,⟨a2,b2,rfl,ha2,hstep hc2⟩,rfl⟩⟩⟩ (by decide) hs.todo).mono ?_
  rintro e x1 ⟨rfl,O1,hMx,hSx⟩
  dsimp only
  refine hK.out _ _ (⟨(hpd.stay hSx).cell,(hqd.stay hSx).cell⟩) (fun hHeld=>?_)
  (try simp only [Act.put,List.setIfInBounds_toArray,List.set_cons_zero,List.set_cons_succ])
  clear hK K
  refine wpAnyH_done (by kernel_rfl) ?_ _
  (try go_wp2_with fail)
  first|go_end0|refine bodyPost_ret (results_none rfl _ _ _) rfl ?_
  exact ⟨rfl,O1,hMx,((((Stay.of_below hb0).trans (Stay.of_below hD)).trans (Stay.of_below hb1)).trans (Stay.of_below hb2)).trans hSx⟩
 | false =>
  rw [h0] at c1
  rw [if_neg (by decide)]
  go_enter Tryz.func149,Tryz.ntmps149
  go_wp2_with fail
  refine c1.mono ?_
  rintro e v0 ⟨rfl,hb0⟩
  dsimp only
  have hM0:=hM.below hb0
  go_wp2_with fail
  first|go_end0|refine bodyPost_ret (results_none rfl _ _ _) rfl ?_
  exact ⟨rfl,O,hM0,.of_below hb0⟩
set_option maxHeartbeats 4000000 in
set_option maxRecDepth 20000 in
theorem g_more {W:World} (hM:Mem d L size lv s O W) (hs:Small L s) (r:Mth) (p q k:Nat) (hk:fnOf r=k) (hp:BoxAt O W p (ptr d) 110) (hq:BoxAt O W q (mval d r) 1) :
  Calls Tryz.prog 148 #[ptr p,ptr q] W (Does d L size lv s.i O W (exec L size (.more r) s)):=by
 have hq':BoxAt O W q (.func (.func k) #[ptr d] #[]) 1:=by rw [← hk];exact hq
 have hstep:∀ {O' W' b},BoxAt O' W' b (.func (.func k) #[ptr d] #[]) 1→BoxAt O' W' b (mval d r) 1:=fun h=>by rw [← hk] at h;exact h
 have hmf:=hmf
 obtain ⟨tw,tf,te,y,_,hW,_,c1⟩:=next_txt hM hs.i
 have hfl:=fun X=>fld0 (.int .i64 tw) (.string y) (.int .i64 tf) (.int .i64 te) X
 have k0:=hp.cell
 have k1:=hq'.cell
 simp only [exec,hW]
 clear hW
 obtain ⟨b0,h0⟩:∃ b,(tw==5)=b:=⟨_,rfl⟩
 rw [h0]
 cases b0 with
 | true =>
  rw [if_pos rfl]
  go_enter Tryz.func148,Tryz.ntmps148
  go_wp2_with fail
  refine c1.mono ?_
  rintro e v0 ⟨rfl,hb0⟩
  dsimp only
  have hM0:=hM.below hb0
  have hp0:=hp.below hb0
  have hq0:=hq'.below hb0
  go_upto_region 1 with fail
  refine wp_region_held_drew (S:=fun X:World=>X.cell? ⟨p,0,none⟩=some (ptr d)∧X.cell? ⟨q,0,none⟩=some (.func (.func k) #[ptr d] #[])) (by kernel_rfl) ⟨hp0.cell,hq0.cell⟩ (fun hHeld=>?_)
  have hD:Below v0.heap.size v0 v0.drew:=(Below.refl _ _).drew
  have hMd:=hM0.below hD
  have hpd:=hp0.below hD
  have hqd:=hq0.below hD
  refine wpAnyH_take (i:=0) (oi:=({ dst:=some 6,op:=Op.load 110 (Operand.tmp 0),type:=110,pos := "grammar.go:106",after:=#[],guard:=none }:Oper)) (v:=ptr d) rfl (by kernel_rfl) (by kernel_rfl) (by kernel_rfl) (fun _ _ _ h=>h) (yields_load 110 (.tmp 0) rfl (by rfl) (fun X hX=>load_rd hX.1)) hHeld ?_
  (try simp only [Act.put,List.setIfInBounds_toArray,List.set_cons_zero,List.set_cons_succ])
  refine wpAnyH_take (i:=1) (oi:=({ dst:=some 7,op:=Op.load 110 (Operand.tmp 0),type:=110,pos := "grammar.go:106",after:=#[],guard:=none }:Oper)) (v:=ptr d) rfl (by kernel_rfl) (by kernel_rfl) (by kernel_rfl) (fun _ _ _ h=>h) (yields_load 110 (.tmp 0) rfl (by rfl) (fun X hX=>load_rd hX.1)) hHeld ?_
  (try simp only [Act.put,List.setIfInBounds_toArray,List.set_cons_zero,List.set_cons_succ])
  refine wpAnyH_take (i:=2) (oi:=({ dst:=some 8,op:=Op.load 1 (Operand.tmp 1),type:=1,pos := "grammar.go:106",after:=#[],guard:=none }:Oper)) (v:=.func (.func k) #[ptr d] #[]) rfl (by kernel_rfl) (by kernel_rfl) (by kernel_rfl) (fun _ _ _ h=>h) (yields_load 1 (.tmp 1) rfl (by rfl) (fun X hX=>load_fn hX.2)) hHeld ?_
  (try simp only [Act.put,List.setIfInBounds_toArray,List.set_cons_zero,List.set_cons_succ])
  refine wpAnyH_ready (rs:=[3]) (by kernel_rfl) (by simp) ?_
  refine (AllReadyH.cons (o:=({ dst:=some 9,op:=Op.call { callee:=Callee.value (Operand.func 125),args:=#[Operand.tmp 7,Operand.tmp 8],argTypes:=#[110,1] },type:=1,pos := "grammar.go:106",after:=#[{ on:=1,ground:=Ground.data },{ on:=2,ground:=Ground.data }],guard:=none }:Oper)) rfl (fun K hK=>?_) AllReadyH.nil)
  refine wanted_step (by kernel_rfl) ?_
  go_simp
  go_at_call 125
  refine (lines_make hMd k).mono ?_
  rintro e u1 ⟨a1,b1,rfl,ha1,hc1,hb1⟩
  dsimp only
  have hMu1:=hMd.below hb1
  replace hpd:=hpd.below hb1
  replace hqd:=hqd.below hb1
  refine hK.out _ _ (⟨hpd.cell,hqd.cell⟩) (fun hHeld=>?_)
  (try simp only [Act.put,List.setIfInBounds_toArray,List.set_cons_zero,List.set_cons_succ])
  clear hK K
  refine wpAnyH_ready (rs:=[4]) (by kernel_rfl) (by simp) ?_
  refine (AllReadyH.cons (o:=({ dst:=some 10,op:=Op.buildSlice 121 1 #[(0,Operand.tmp 9)],type:=121,pos := "grammar.go:106",after:=#[{ on:=3,ground:=Ground.data }],guard:=none }:Oper)) rfl (fun K hK=>?_) AllReadyH.nil)
  refine wanted_step (by kernel_rfl) ?_
  go_simp
  have hba:Below u1.heap.size u1 (u1.alloc (.cells #[.func (.func 139) #[] #[ptr a1,ptr b1]] 1)):=(Below.refl _ _).alloc (Nat.le_refl _) _
  refine hK.out _ _ (⟨(hpd.below hba).cell,(hqd.below hba).cell⟩) (fun hHeld=>?_)
  (try simp only [Act.put,List.setIfInBounds_toArray,List.set_cons_zero,List.set_cons_succ])
  clear hK K
  refine wpAnyH_ready (rs:=[5]) (by kernel_rfl) (by simp) ?_
  refine (AllReadyH.cons (o:=({ dst:=some 11,op:=Op.call { callee:=Callee.value (Operand.func 100),args:=#[Operand.tmp 6,Operand.tmp 10],argTypes:=#[110,121] },type:=0,pos := "grammar.go:106",after:=#[{ on:=0,ground:=Ground.data },{ on:=4,ground:=Ground.data },{ on:=3,ground:=Ground.chain }],guard:=none }:Oper)) rfl (fun K hK=>?_) AllReadyH.nil)
  refine wanted_step (by kernel_rfl) ?_
  go_simp
  go_at_call 100
  refine (then_lit hMu1 [.lines r] [.func (.func 139) #[] #[ptr a1,ptr b1]] 1 rfl ⟨_,_,rfl,⟨a1,b1,rfl,ha1,hstep hc1⟩,rfl⟩ (by decide) hs.todo).mono ?_
  rintro e x1 ⟨rfl,O1,hMx,hSx⟩
  dsimp only
  refine hK.out _ _ (⟨(hpd.stay hSx).cell,(hqd.stay hSx).cell⟩) (fun hHeld=>?_)
  (try simp only [Act.put,List.setIfInBounds_toArray,List.set_cons_zero,List.set_cons_succ])
  clear hK K
  refine wpAnyH_done (by kernel_rfl) ?_ _
  (try go_wp2_with fail)
  first|go_end0|refine bodyPost_ret (results_none rfl _ _ _) rfl ?_
  exact ⟨rfl,O1,hMx,(((Stay.of_below hb0).trans (Stay.of_below hD)).trans (Stay.of_below hb1)).trans hSx⟩
 | false =>
  rw [if_neg (by decide)]
  go_enter Tryz.func148,Tryz.ntmps148
  go_wp2_with fail
  refine c1.mono ?_
  rintro e v0 ⟨rfl,hb0⟩
  dsimp only
  have hM0:=hM.below hb0
  go_wp2_with fail
  first|go_end0|refine bodyPost_ret (results_none rfl _ _ _) rfl ?_
  exact ⟨rfl,O,hM0,.of_below hb0⟩
def atOf (d:Nat) (W:World):Nat:=match W.cell? ⟨d,1,none⟩ with
 | some (.int _ i)=>i.toNat
 | _=>0
theorem at_of {W:World} (h:Mem d L size lv s O W):atOf d W=s.i:=by
 obtain ⟨tv,ov,bs,vs,xs,h⟩:=h
 have hb:=h.blk
 unfold atOf
 simp [World.cell?,hb]
theorem semi_tok {i:Nat}:isW L size 5 i=true→i<L.length:=by
 intro h
 unfold isW tok at h
 rcases Nat.lt_or_ge i L.length with h1|h1
 ·exact h1
 ·rw [List.getElem?_eq_none h1] at h;simp at h
theorem semi_on {i:Nat} (h:isW L size 5 i=true):semiN L i=semiN L (i+1)+1:=by
 have hi:=semi_tok h
 unfold semiN
 rw [List.drop_eq_getElem_cons hi,List.takeWhile_cons]
 have h2:(L[i].w==5)=true:=by unfold isW at h;rw [tok_in size hi] at h;exact h
 rw [h2];simp
theorem semi_off {i:Nat} (h:isW L size 5 i=false):semiN L i=0:=by
 unfold semiN
 rcases Nat.lt_or_ge i L.length with hi|hi
 ·rw [List.drop_eq_getElem_cons hi,List.takeWhile_cons]
  have h2:(L[i].w==5)=false:=by unfold isW at h;rw [tok_in size hi] at h;exact h
  rw [h2];rfl
 ·rw [List.drop_of_length_le hi];rfl
set_option maxHeartbeats 4000000 in
set_option maxRecDepth 20000 in
theorem g_semis {W:World} (hM:Mem d L size lv s O W) (hs:Small L s):Calls Tryz.prog 102 #[ptr d] W (Does d L size lv s.i O W (.go { s with i:=s.i+semiN L s.i })):=by
 have HM:=hid hM
 go_enter Tryz.func102,Tryz.ntmps102
 go_wp2_with fail
 go_loopw [] (fun wr=>∃ j,s.i≤j∧j≤L.length∧Hid (j+semiN L j=s.i+semiN L s.i)∧Hid (Mem d L size lv { s with i:=j } O wr)∧Hid (Stay O O W wr)) (fun wr=>L.length - atOf d wr)
 case atStart=>exact ⟨s.i,Nat.le_refl _,hs.i,hid rfl,HM,hid (.refl _ _)⟩
 case round =>
  obtain ⟨j,hj,hjl,HJ,HM2,HS⟩:=hrel
  obtain ⟨tw,tf,te,y,_,hW,_,c1⟩:=next_txt HM2.out hjl
  have hat:=hid (at_of HM2.out)
  have hfl:=fun X=>fld0 (.int .i64 tw) (.string y) (.int .i64 tf) (.int .i64 te) X
  have hw5:=hW 5
  dsimp only at hw5
  clear hW hM
  obtain ⟨b0,h0⟩:∃ b,(tw==5)=b:=⟨_,rfl⟩
  rw [h0] at hw5
  have HW5:=hid hw5
  clear hw5
  cases b0 with
  | true =>
   go_wp2_with fail
   refine c1.mono ?_
   rintro e v0 ⟨rfl,hb0⟩
   dsimp only
   have hM0:=HM2.out.below hb0
   obtain ⟨q1,q2,k1,f1⟩:=hM0.next ((j:Int)+1) (by dsimp only;omega)
   have e0:IntKind.i64.wrap ((j:Int)+1)=(j:Int)+1:=IntWalk.i64_in _ (by have:=hs.len;omega)
   have H1:=hid q1
   have H2:=hid ((HS.out.trans (Stay.of_below hb0)).trans q2)
   have hjlt:=semi_tok HW5.out
   have hon:=semi_on HW5.out
   dsimp only at k1
   clear q1 q2 hM0 hb0
   go_wp2_with fail
   go_roundw
   case rel=>exact ⟨j+1,by omega,hjlt,hid (by have:=HJ.out;omega),H1,H2⟩
   case measure=>rw [hat.out,at_of H1.out];dsimp only;omega
  | false =>
   go_wp2_with fail
   refine c1.mono ?_
   rintro e v0 ⟨rfl,hb0⟩
   dsimp only
   have hM0:=HM2.out.below hb0
   have hof:=semi_off HW5.out
   have hfin:j=s.i+semiN L s.i:=by have:=HJ.out;omega
   rw [hfin] at hM0
   have H1:=hid hM0
   have H2:=hid (HS.out.trans (Stay.of_below hb0))
   clear hM0 hb0 hfin hof
   go_wp2_with fail
   first|go_end0|refine bodyPost_ret (results_none rfl _ _ _) rfl ?_
   exact ⟨rfl,O,H1.out,H2.out⟩
theorem semi_le' {i:Nat} (h:i≤L.length):i+semiN L i≤L.length:=by
 unfold semiN
 have h1:((L.drop i).takeWhile (fun t=>t.w==5)).length≤(L.drop i).length:=(List.takeWhile_sublist _).length_le
 rw [List.length_drop] at h1
 omega
set_option maxHeartbeats 4000000 in
set_option maxRecDepth 20000 in
theorem g_lines {W:World} (hM:Mem d L size lv s O W) (hs:Small L s) (r:Mth) (p q k:Nat) (hk:fnOf r=k) (hp:BoxAt O W p (ptr d) 110) (hq:BoxAt O W q (mval d r) 1) :
  Calls Tryz.prog 139 #[ptr p,ptr q] W (Does d L size lv s.i O W (exec L size (.lines r) s)):=by
 have hq':BoxAt O W q (.func (.func k) #[ptr d] #[]) 1:=by rw [← hk];exact hq
 have hstep:∀ {O' W' b},BoxAt O' W' b (.func (.func k) #[ptr d] #[]) 1→BoxAt O' W' b (mval d r) 1:=fun h=>by rw [← hk] at h;exact h
 have hmf:=hmf
 have k0:=hp.cell
 have k1:=hq'.cell
 have hle:=semi_le' hs.i
 have c1:=g_semis hM hs
 simp only [exec]
 cases h0:isP L size [125] (s.i+semiN L s.i) with
 | true =>
  rw [if_pos rfl]
  go_enter Tryz.func139,Tryz.ntmps139
  go_wp2_with fail
  refine c1.mono ?_
  rintro e v0 ⟨rfl,O0,hM0,hS0⟩
  dsimp only
  have hp0:=hp.stay hS0
  have hq0:=hq'.stay hS0
  have k2:=hp0.cell
  have k3:=hq0.cell
  clear k0 k1
  go_wp2_with fail
  have c2:=is_any hM0 hle [125]
  rw [show isP L size [125] ({ s with i:=s.i+semiN L s.i }:St).i=true from h0] at c2
  refine c2.mono ?_
  rintro e v1 ⟨rfl,hbi⟩
  dsimp only
  have hM1:=hM0.below hbi
  go_wp2_with fail
  first|go_end0|refine bodyPost_ret (results_none rfl _ _ _) rfl ?_
  exact ⟨rfl,O0,hM1,hS0.trans (.of_below hbi)⟩
 | false =>
  rw [if_neg (by decide)]
  go_enter Tryz.func139,Tryz.ntmps139
  go_wp2_with fail
  refine c1.mono ?_
  rintro e v0 ⟨rfl,O0,hM0,hS0⟩
  dsimp only
  have hp0:=hp.stay hS0
  have hq0:=hq'.stay hS0
  have k2:=hp0.cell
  have k3:=hq0.cell
  clear k0 k1
  go_wp2_with fail
  have c2:=is_any hM0 hle [125]
  rw [show isP L size [125] ({ s with i:=s.i+semiN L s.i }:St).i=false from h0] at c2
  refine c2.mono ?_
  rintro e v1 ⟨rfl,hbi⟩
  dsimp only
  have hM1:=hM0.below hbi
  have hp1:=hp0.below hbi
  have hq1:=hq0.below hbi
  clear k2 k3
  go_upto_region 2 with fail
  refine wp_region_held_drew (S:=fun X:World=>X.cell? ⟨p,0,none⟩=some (ptr d)∧X.cell? ⟨q,0,none⟩=some (.func (.func k) #[ptr d] #[])) (by kernel_rfl) ⟨hp1.cell,hq1.cell⟩ (fun hHeld=>?_)
  have hD:Below v1.heap.size v1 v1.drew:=(Below.refl _ _).drew
  have hMd:=hM1.below hD
  have hpd:=hp1.below hD
  have hqd:=hq1.below hD
  refine wpAnyH_take (i:=0) (oi:=({ dst:=some 7,op:=Op.load 110 (Operand.tmp 0),type:=110,pos := "grammar.go:97",after:=#[],guard:=none }:Oper)) (v:=ptr d) rfl (by kernel_rfl) (by kernel_rfl) (by kernel_rfl) (fun _ _ _ h=>h) (yields_load 110 (.tmp 0) rfl (by rfl) (fun X hX=>load_rd hX.1)) hHeld ?_
  (try simp only [Act.put,List.setIfInBounds_toArray,List.set_cons_zero,List.set_cons_succ])
  refine wpAnyH_take (i:=1) (oi:=({ dst:=some 8,op:=Op.load 1 (Operand.tmp 1),type:=1,pos := "grammar.go:97",after:=#[],guard:=none }:Oper)) (v:=.func (.func k) #[ptr d] #[]) rfl (by kernel_rfl) (by kernel_rfl) (by kernel_rfl) (fun _ _ _ h=>h) (yields_load 1 (.tmp 1) rfl (by rfl) (fun X hX=>load_fn hX.2)) hHeld ?_
  (try simp only [Act.put,List.setIfInBounds_toArray,List.set_cons_zero,List.set_cons_succ])
  refine wpAnyH_take (i:=2) (oi:=({ dst:=some 9,op:=Op.load 110 (Operand.tmp 0),type:=110,pos := "grammar.go:97",after:=#[],guard:=none }:Oper)) (v:=ptr d) rfl (by kernel_rfl) (by kernel_rfl) (by kernel_rfl) (fun _ _ _ h=>h) (yields_load 110 (.tmp 0) rfl (by rfl) (fun X hX=>load_rd hX.1)) hHeld ?_
  (try simp only [Act.put,List.setIfInBounds_toArray,List.set_cons_zero,List.set_cons_succ])
  refine wpAnyH_take (i:=3) (oi:=({ dst:=some 10,op:=Op.load 1 (Operand.tmp 1),type:=1,pos := "grammar.go:97",after:=#[],guard:=none }:Oper)) (v:=.func (.func k) #[ptr d] #[]) rfl (by kernel_rfl) (by kernel_rfl) (by kernel_rfl) (fun _ _ _ h=>h) (yields_load 1 (.tmp 1) rfl (by rfl) (fun X hX=>load_fn hX.2)) hHeld ?_
  (try simp only [Act.put,List.setIfInBounds_toArray,List.set_cons_zero,List.set_cons_succ])
  refine wpAnyH_ready (rs:=[4]) (by kernel_rfl) (by simp) ?_
  refine (AllReadyH.cons (o:=({ dst:=some 11,op:=Op.call { callee:=Callee.value (Operand.func 140),args:=#[Operand.tmp 9,Operand.tmp 10],argTypes:=#[110,1] },type:=1,pos := "grammar.go:97",after:=#[{ on:=2,ground:=Ground.data },{ on:=3,ground:=Ground.data }],guard:=none }:Oper)) rfl (fun K hK=>?_) AllReadyH.nil)
  refine wanted_step (by kernel_rfl) ?_
  go_simp
  go_at_call 140
  refine (more_make hMd k).mono ?_
  rintro e u1 ⟨a1,b1,rfl,ha1,hc1,hb1⟩
  dsimp only
  have hMu1:=hMd.below hb1
  replace hpd:=hpd.below hb1
  replace hqd:=hqd.below hb1
  refine hK.out _ _ (⟨hpd.cell,hqd.cell⟩) (fun hHeld=>?_)
  (try simp only [Act.put,List.setIfInBounds_toArray,List.set_cons_zero,List.set_cons_succ])
  clear hK K
  refine wpAnyH_ready (rs:=[5]) (by kernel_rfl) (by simp) ?_
  refine (AllReadyH.cons (o:=({ dst:=some 12,op:=Op.buildSlice 121 2 #[(0,Operand.tmp 8),(1,Operand.tmp 11)],type:=121,pos := "grammar.go:97",after:=#[{ on:=1,ground:=Ground.data },{ on:=4,ground:=Ground.data }],guard:=none }:Oper)) rfl (fun K hK=>?_) AllReadyH.nil)
  refine wanted_step (by kernel_rfl) ?_
  go_simp
  have hba:Below u1.heap.size u1 (u1.alloc (.cells #[.func (.func k) #[ptr d] #[],.func (.func 148) #[] #[ptr a1,ptr b1]] 1)):=(Below.refl _ _).alloc (Nat.le_refl _) _
  refine hK.out _ _ (⟨(hpd.below hba).cell,(hqd.below hba).cell⟩) (fun hHeld=>?_)
  (try simp only [Act.put,List.setIfInBounds_toArray,List.set_cons_zero,List.set_cons_succ])
  clear hK K
  refine wpAnyH_ready (rs:=[6]) (by kernel_rfl) (by simp) ?_
  refine (AllReadyH.cons (o:=({ dst:=some 13,op:=Op.call { callee:=Callee.value (Operand.func 100),args:=#[Operand.tmp 7,Operand.tmp 12],argTypes:=#[110,121] },type:=0,pos := "grammar.go:97",after:=#[{ on:=0,ground:=Ground.data },{ on:=5,ground:=Ground.data },{ on:=4,ground:=Ground.chain }],guard:=none }:Oper)) rfl (fun K hK=>?_) AllReadyH.nil)
  refine wanted_step (by kernel_rfl) ?_
  go_simp
  go_at_call 100
  refine (then_lit hMu1 [.m r,.more r] [.func (.func k) #[ptr d] #[],.func (.func 148) #[] #[ptr a1,ptr b1]] 2 rfl ⟨_,_,rfl,(by show _=mval d r;rw [mval,hk]),⟨_,_,rfl,⟨a1,b1,rfl,ha1,hstep hc1⟩,rfl⟩⟩ (by decide) hs.todo).mono ?_
  rintro e x1 ⟨rfl,O1,hMx,hSx⟩
  dsimp only
  refine hK.out _ _ (⟨(hpd.stay hSx).cell,(hqd.stay hSx).cell⟩) (fun hHeld=>?_)
  (try simp only [Act.put,List.setIfInBounds_toArray,List.set_cons_zero,List.set_cons_succ])
  clear hK K
  refine wpAnyH_done (by kernel_rfl) ?_ _
  (try go_wp2_with fail)
  first|go_end0|refine bodyPost_ret (results_none rfl _ _ _) rfl ?_
  exact ⟨rfl,O1,hMx,(((hS0.trans (Stay.of_below hbi)).trans (Stay.of_below hD)).trans (Stay.of_below hb1)).trans hSx⟩
set_option maxHeartbeats 4000000 in
set_option maxRecDepth 20000 in
theorem g_noMore {W:World} (hM:Mem d L size lv s O W) (hs:Small L s):Calls Tryz.prog 103 #[ptr d] W (Does d L size lv s.i O W (execM L size .noMore s)):=by
 obtain ⟨tw,tf,te,y,_,hW,_,c1⟩:=next_txt hM hs.i
 have hfl:=fun X=>fld0 (.int .i64 tw) (.string y) (.int .i64 tf) (.int .i64 te) X
 simp only [execM,hW]
 clear hW
 obtain ⟨b0,h0⟩:∃ b,(tw==-1)=b:=⟨_,rfl⟩
 rw [h0]
 cases b0 with
 | true =>
  rw [if_pos rfl]
  obtain rfl:tw=-1:=by simpa using h0
  clear h0
  go_enter Tryz.func103,Tryz.ntmps103
  go_wp2_with fail
  refine c1.mono ?_
  rintro e v0 ⟨rfl,hb0⟩
  dsimp only
  have hM0:=hM.below hb0
  go_wp2_with fail
  first|go_end0|refine bodyPost_ret (results_none rfl _ _ _) rfl ?_
  exact ⟨rfl,O,hM0,.of_below hb0⟩
 | false =>
  rw [if_neg (by decide)]
  have h5:(tw != -1)=true:=by simp [bne,h0]
  clear h0
  go_enter Tryz.func103,Tryz.ntmps103
  go_wp2_with fail
  refine c1.mono ?_
  rintro e v0 ⟨rfl,hb0⟩
  dsimp only
  have hM0:=hM.below hb0
  go_wp2_with fail
  refine (fail_any hM0 hs.i).mono ?_
  rintro e v9 ⟨rfl,hb9⟩
  dsimp only
  exact ⟨rfl,rfl,hb0.trans (hb9.mono hb0.size)⟩
set_option maxHeartbeats 4000000 in
set_option maxRecDepth 20000 in
theorem g_word {W:World} (hM:Mem d L size lv s O W) (hs:Small L s) (x:By) (p q:Nat) (hp:BoxAt O W p (ptr d) 110) (hq:BoxAt O W q (.string (bstr x)) 9) :
  Calls Tryz.prog 131 #[ptr p,ptr q] W (Does d L size lv s.i O W (exec L size (.word x) s)):=by
 simp only [exec]
 cases h0:isP L size x s.i with
 | true =>
  rw [if_pos rfl]
  go_enter Tryz.func131,Tryz.ntmps131
  go_upto_region 0 with fail
  refine wp_region_held_drew (S:=fun X:World=>X.cell? ⟨p,0,none⟩=some (ptr d)∧X.cell? ⟨q,0,none⟩=some (.string (bstr x))) (by kernel_rfl) ⟨hp.cell,hq.cell⟩ (fun hHeld=>?_)
  have hD:Below W.heap.size W W.drew:=(Below.refl _ _).drew
  have hMd:=hM.below hD
  have hpd:=hp.below hD
  have hqd:=hq.below hD
  refine wpAnyH_take (i:=0) (oi:=OP.p16) (v:=ptr d) rfl (by kernel_rfl) (by kernel_rfl) (by kernel_rfl) (fun _ _ _ h=>h) (yields_load 110 (.tmp 0) rfl (by rfl) (fun X hX=>load_rd hX.1)) hHeld ?_
  (try simp only [Act.put,List.setIfInBounds_toArray,List.set_cons_zero,List.set_cons_succ])
  refine wpAnyH_take (i:=1) (oi:=OP.p17) (v:=ptr d) rfl (by kernel_rfl) (by kernel_rfl) (by kernel_rfl) (fun _ _ _ h=>h) (yields_load 110 (.tmp 0) rfl (by rfl) (fun X hX=>load_rd hX.1)) hHeld ?_
  (try simp only [Act.put,List.setIfInBounds_toArray,List.set_cons_zero,List.set_cons_succ])
  refine wpAnyH_take (i:=2) (oi:=OP.p18) (v:=.string (bstr x)) rfl (by kernel_rfl) (by kernel_rfl) (by kernel_rfl) (fun _ _ _ h=>h) (yields_load 9 (.tmp 1) rfl (by rfl) (fun X hX=>load_str hX.2)) hHeld ?_
  (try simp only [Act.put,List.setIfInBounds_toArray,List.set_cons_zero,List.set_cons_succ])
  refine wpAnyH_ready (rs:=[3]) (by kernel_rfl) (by simp) ?_
  refine (AllReadyH.cons (o:=OP.p19) rfl (fun K hK=>?_) AllReadyH.nil)
  refine wanted_step (by kernel_rfl) ?_
  go_simp
  go_at_call 133
  have c1:=is_any hMd hs.i x
  rw [h0] at c1
  refine c1.mono ?_
  rintro e v0 ⟨rfl,hb0⟩
  dsimp only
  have hM0:=hMd.below hb0
  replace hpd:=hpd.below hb0
  replace hqd:=hqd.below hb0
  refine hK.out _ _ (⟨hpd.cell,hqd.cell⟩) (fun hHeld=>?_)
  (try simp only [Act.put,List.setIfInBounds_toArray,List.set_cons_zero,List.set_cons_succ])
  clear hK K
  refine wpAnyH_ready (rs:=[4]) (by kernel_rfl) (by simp) ?_
  refine (AllReadyH.cons (o:=OP.p20) rfl (fun K hK=>?_) AllReadyH.nil)
  refine wanted_step (by kernel_rfl) ?_
  go_simp
  go_at_call 132
  refine (need_ok hM0 (Nat.le_trans hs.i hs.len)).mono ?_
  rintro e v1 ⟨rfl,hM1,hS1⟩
  dsimp only
  refine hK.out _ _ (⟨(hpd.stay hS1).cell,(hqd.stay hS1).cell⟩) (fun hHeld=>?_)
  (try simp only [Act.put,List.setIfInBounds_toArray,List.set_cons_zero,List.set_cons_succ])
  clear hK K
  refine wpAnyH_done (by kernel_rfl) ?_ _
  (try go_wp2_with fail)
  first|go_end0|refine bodyPost_ret (results_none rfl _ _ _) rfl ?_
  exact ⟨rfl,O,hM1,((Stay.of_below hD).trans (Stay.of_below hb0)).trans hS1⟩
 | false =>
  rw [if_neg (by decide)]
  go_enter Tryz.func131,Tryz.ntmps131
  go_upto_region 0 with fail
  refine wp_region_held_drew (S:=fun X:World=>X.cell? ⟨p,0,none⟩=some (ptr d)∧X.cell? ⟨q,0,none⟩=some (.string (bstr x))) (by kernel_rfl) ⟨hp.cell,hq.cell⟩ (fun hHeld=>?_)
  have hD:Below W.heap.size W W.drew:=(Below.refl _ _).drew
  have hMd:=hM.below hD
  have hpd:=hp.below hD
  have hqd:=hq.below hD
  refine wpAnyH_take (i:=0) (oi:=OP.p16) (v:=ptr d) rfl (by kernel_rfl) (by kernel_rfl) (by kernel_rfl) (fun _ _ _ h=>h) (yields_load 110 (.tmp 0) rfl (by rfl) (fun X hX=>load_rd hX.1)) hHeld ?_
  (try simp only [Act.put,List.setIfInBounds_toArray,List.set_cons_zero,List.set_cons_succ])
  refine wpAnyH_take (i:=1) (oi:=OP.p17) (v:=ptr d) rfl (by kernel_rfl) (by kernel_rfl) (by kernel_rfl) (fun _ _ _ h=>h) (yields_load 110 (.tmp 0) rfl (by rfl) (fun X hX=>load_rd hX.1)) hHeld ?_
  (try simp only [Act.put,List.setIfInBounds_toArray,List.set_cons_zero,List.set_cons_succ])
  refine wpAnyH_take (i:=2) (oi:=OP.p18) (v:=.string (bstr x)) rfl (by kernel_rfl) (by kernel_rfl) (by kernel_rfl) (fun _ _ _ h=>h) (yields_load 9 (.tmp 1) rfl (by rfl) (fun X hX=>load_str hX.2)) hHeld ?_
  (try simp only [Act.put,List.setIfInBounds_toArray,List.set_cons_zero,List.set_cons_succ])
  refine wpAnyH_ready (rs:=[3]) (by kernel_rfl) (by simp) ?_
  refine (AllReadyH.cons (o:=OP.p19) rfl (fun K hK=>?_) AllReadyH.nil)
  refine wanted_step (by kernel_rfl) ?_
  go_simp
  go_at_call 133
  have c1:=is_any hMd hs.i x
  rw [h0] at c1
  refine c1.mono ?_
  rintro e v0 ⟨rfl,hb0⟩
  dsimp only
  have hM0:=hMd.below hb0
  replace hpd:=hpd.below hb0
  replace hqd:=hqd.below hb0
  refine hK.out _ _ (⟨hpd.cell,hqd.cell⟩) (fun hHeld=>?_)
  (try simp only [Act.put,List.setIfInBounds_toArray,List.set_cons_zero,List.set_cons_succ])
  clear hK K
  refine wpAnyH_ready (rs:=[4]) (by kernel_rfl) (by simp) ?_
  refine (AllReadyH.cons (o:=OP.p20) rfl (fun K hK=>?_) AllReadyH.nil)
  refine wanted_step (by kernel_rfl) ?_
  go_simp
  go_at_call 132
  refine (need_bad hM0 hs.i).mono ?_
  rintro e v1 ⟨rfl,hb1⟩
  dsimp only
  exact ⟨rfl,rfl,(hD.trans (hb0.mono hD.size)).trans (hb1.mono (hD.trans (hb0.mono hD.size)).size)⟩
end
end Go.Proofs.YtojoahlpgmnbnaaGreatDoor.K
namespace Go.Proofs.YtojoahlpgmnbnaaGreatDoor.K
open Go.RowKit
open Go.Lib hiding intOf
open U S T
section
variable {d:Nat} {L:List TokP} {size:Nat} {lv:Value} {s:St} {O:Nat→Prop}
theorem owns_take {W:World} {B size n g c:Nat} {e:TypeId} {xs ys:List Value} (h:W.ownsRow B e size (.slice (some ⟨g,0,none⟩) (n+1) c) (n+1) (xs++ys)) (hx:xs.length=n*size):W.ownsRow B e size (.slice (some ⟨g,0,none⟩) n c) n xs:=by
 refine ⟨hx,?_⟩
 rcases h.2 with ⟨h1,_⟩|⟨g',cap,cur,hv,h2,h3,h4,h5,h6,h7⟩
 ·cases h1
 ·cases hv
  refine .inr ⟨g,c,cur,rfl,h2,h3,by omega,h5,h6,?_⟩
  have h8:cur.toList.take (n*size)=(cur.toList.take ((n+1)*size)).take (n*size):=by
   rw [List.take_take,Nat.min_eq_left (Nat.mul_le_mul_right _ (Nat.le_succ n))]
  rw [h8,h7,List.take_append_of_le_length (by omega),List.take_of_length_le (by omega)]
theorem six_len (o:Open) (kv:Value):(six o kv).length=6:=rfl
structure TopAt (d:Nat) (O:Nat→Prop) (o:Open) (r:List Open) (ov:Value) (bs:List (Option Nat)) (xs:List Value) (W:World) (g c:Nat) (kv:Value) (ks us1:List Value) (bs1:List (Option Nat)):Prop where
 hov:ov=.slice (some ⟨g,0,none⟩) (r.length+1) c
 hxs:xs=us1++six o kv
 hbs:bs=kv.ownBlock :: bs1
 own:W.ownsRow 0 49 5 kv o.kids.length ks
 parts:PartsIn W (Fr O W) o.kids ks
 rest:OpensIn O W r us1 bs1
 len:us1.length=r.length*6
 cell:∀ j u,(six o kv)[j]?=some u→W.cell? ⟨g,r.length*6+j,none⟩=some u
 frozen:∀ j,W.frozen? ⟨g,j,none⟩=false
 ne:g≠d
 lt:g<W.heap.size
 ty:Ty W g 128
 apart:(∀ k,kv.ownBlock=some k→some k ∉ bs1)∧Apart bs1
theorem top_of {W:World} {tv ov:Value} {bs:List (Option Nat)} {us xs:List Value} {o:Open} {r:List Open} (hM:MemX d L size lv s O tv ov bs us xs W) (hs:s.opn=o :: r):∃ g c kv ks us1 bs1,TopAt d O o r ov bs xs W g c kv ks us1 bs1:=by
 have ho:=hM.opn
 have hR:=hM.opnR
 have ha:=hM.apart
 rw [hs] at ho hR
 obtain ⟨kv,ks,us1,bs1,rfl,rfl,h3,h4,h5⟩:=ho
 obtain ⟨g,c,rfl,_,hgl⟩:=hR.form (Nat.succ_pos _)
 have hlen:us1.length=r.length*6:=by have:=hR.1;rw [List.length_append,six_len,List.length_cons] at this;omega
 have hty:Ty W g 128:=owns_ty hR rfl
 refine ⟨g,c,kv,ks,us1,bs1,rfl,rfl,rfl,h3,h4,h5,hlen,fun j u hj=>?_,fun j=>hR.frozenAt j,fun e=>?_,hgl,hty,ha⟩
 ·have hj6:j<6:=by rw [← six_len o kv];exact (List.getElem?_eq_some_iff.1 hj).1
  rw [hR.cellAt (r.length*6+j) (by rw [List.length_cons];omega),List.getElem?_append_right (by omega),show r.length*6+j - us1.length=j by omega]
  exact hj
 ·rw [e] at hty;exact absurd (hty.one ⟨_,_,hM.blk⟩) (by decide)
theorem put_top {W:World} {tv ov kv kv':Value} {bs bs1:List (Option Nat)} {us xs us1 ks ks':List Value} {o o':Open} {r:List Open} {g c:Nat} (hM:MemX d L size lv s O tv ov bs us xs W) (hs:s.opn=o :: r) (hT:TopAt d O o r ov bs xs W g c kv ks us1 bs1)
  (j:Nat) (hj:j<6) (v:Value) (h6:six o' kv'=(six o kv).set j v) (hkv:W.ownsRow 0 49 5 kv' o'.kids.length ks') (hks:PartsIn W (Fr O W) o'.kids ks') (hob:kv'.ownBlock=kv.ownBlock) :
  MemX d L size lv { s with opn:=o' :: r } O tv ov bs us (us1++six o' kv') (W.setCell ⟨g,r.length*6+j,none⟩ v)∧Stay O O W (W.setCell ⟨g,r.length*6+j,none⟩ v):=by
 have hOg:O g:=(hM.own g).2 (.inr (.inr (.inl (by rw [hT.hov];rfl))))
 have hset:∀ k,k≠g→(W.setCell ⟨g,r.length*6+j,none⟩ v).heap[k]?=W.heap[k]?:=fun k hk=>Below.heap_setCell _ _ _ _ hk
 have hS:Stay O O W (W.setCell ⟨g,r.length*6+j,none⟩ v):=⟨rfl,rfl,rfl,by simp,fun _ h=>.inl h,fun k _ hO=>hset k (fun e=>hO (e ▸ hOg))⟩
 have ne:∀ {k:Nat} {t:TypeId},Ty W k t→t≠128→k≠g:=fun h1 h2 e=>by rw [e] at h1;exact h2 (h1.one hT.ty)
 have hR:=hM.opnR
 rw [hs,hT.hov,hT.hxs] at hR
 have hst:=(hR.stored (r.length*6+j) v).1
 have hset6:(us1++six o kv).set (r.length*6+j) v=us1++six o' kv':=by
  rw [h6,List.set_append_right _ _ (by rw [hT.len];omega),show r.length*6+j - us1.length=j by rw [hT.len];omega]
 rw [hset6] at hst
 refine ⟨⟨(hset d (fun e=>hT.ne e.symm)).trans hM.blk,hM.words.stay hS,owns_at hM.todoR (fun k hk=>hset k (ne (owns_ty hM.todoR hk) (by decide))),hM.todo.stay hS,by rw [hT.hov];exact hst,
  ⟨kv',ks',us1,bs1,rfl,by rw [hT.hbs,hob],owns_at hkv (fun k hk=>hset k (ne (owns_ty hkv hk) (by decide))),parts_stay hS hks,OpensIn.stay hS hT.rest (fun k hk=>hset k (ne (opens_ty hT.rest hk) (by decide)))⟩,hM.apart,hM.own⟩,hS⟩
theorem put_text {W:World} {tv ov kv:Value} {bs bs1:List (Option Nat)} {us xs us1 ks:List Value} {o:Open} {r:List Open} {g c:Nat} (hM:MemX d L size lv s O tv ov bs us xs W) (hs:s.opn=o :: r) (hT:TopAt d O o r ov bs xs W g c kv ks us1 bs1) (t:By) (v:ByteArray) (hv:bstr t=v) :
  MemX d L size lv { s with opn:={ o with t:=t } :: r } O tv ov bs us (us1++six { o with t:=t } kv) (W.setCell ⟨g,r.length*6+1,none⟩ (.string v))∧Stay O O W (W.setCell ⟨g,r.length*6+1,none⟩ (.string v)):=by
 subst hv
 exact put_top hM hs hT 1 (by decide) _ rfl hT.own hT.parts rfl
theorem put_kind {W:World} {tv ov kv:Value} {bs bs1:List (Option Nat)} {us xs us1 ks:List Value} {o:Open} {r:List Open} {g c:Nat} (hM:MemX d L size lv s O tv ov bs us xs W) (hs:s.opn=o :: r) (hT:TopAt d O o r ov bs xs W g c kv ks us1 bs1) (k:By) (v:ByteArray) (hv:bstr k=v) :
  MemX d L size lv { s with opn:={ o with k:=k } :: r } O tv ov bs us (us1++six { o with k:=k } kv) (W.setCell ⟨g,r.length*6,none⟩ (.string v))∧Stay O O W (W.setCell ⟨g,r.length*6,none⟩ (.string v)):=by
 subst hv
 exact put_top hM hs hT 0 (by decide) _ rfl hT.own hT.parts rfl
theorem top_any {W:World} {tv ov kv:Value} {bs bs1:List (Option Nat)} {us xs us1 ks:List Value} {o:Open} {r:List Open} {g c:Nat} (hM:MemX d L size lv s O tv ov bs us xs W) (hT:TopAt d O o r ov bs xs W g c kv ks us1 bs1) (hr:r.length≤1000000) {W':World} (hb:Below W.heap.size W W') :
  Calls Tryz.prog 104 #[ptr d] W' fun e W2=>e=.returned (.pointer (some ⟨g,r.length*6,none⟩))∧∃ m,W2=W'.drewN m:=by
 have hdl:d<W.heap.size:=(Array.getElem?_eq_some_iff.1 hM.blk).1
 have h:=hM.blk
 rw [hT.hov] at h
 exact top_raw g (r.length+1) r.length c rfl (by omega) ((hb.cell (p:=⟨d,3,none⟩) hdl).trans (by simp [World.cell?,h]))
theorem MemX.below {W W':World} {tv ov:Value} {bs:List (Option Nat)} {vs xs:List Value} (h:MemX d L size lv s O tv ov bs vs xs W) (hb:Below W.heap.size W W'):MemX d L size lv s O tv ov bs vs xs W':=by
 have hs:Stay O O W W':=.of_below hb
 exact ⟨(hb.block d (Array.getElem?_eq_some_iff.1 h.blk).1).trans h.blk,h.words.stay hs,owns_later h.todoR hb,h.todo.stay hs,owns_later h.opnR hb,
  OpensIn.stay hs h.opn (fun g hg=>hb.block g (h.lt g ((h.own g).2 (.inr (.inr (.inr hg)))))),h.apart,h.own⟩
theorem drewB' (W:World) (m:Nat):Below W.heap.size W (W.drewN m):=⟨rfl,rfl,rfl,Nat.le_refl _,fun _ _=>rfl⟩
theorem TopAt.drewN {W:World} {ov kv:Value} {bs bs1:List (Option Nat)} {xs us1 ks:List Value} {o:Open} {r:List Open} {g c:Nat} (h:TopAt d O o r ov bs xs W g c kv ks us1 bs1) (m:Nat):TopAt d O o r ov bs xs (W.drewN m) g c kv ks us1 bs1 :=
 ⟨h.hov,h.hxs,h.hbs,h.own,parts_stay (W:=W) (W':=W.drewN m) (Stay.of_below (drewB' W m)) h.parts,OpensIn.stay (W:=W) (W':=W.drewN m) (Stay.of_below (drewB' W m)) h.rest (fun _ _=>rfl),h.len,h.cell,h.frozen,h.ne,h.lt,h.ty,h.apart⟩
set_option maxHeartbeats 4000000 in
set_option maxRecDepth 20000 in
theorem g_name {W:World} (hM:Mem d L size lv s O W) (hs:Small L s) (ho:∃ o r,s.opn=o :: r):Calls Tryz.prog 119 #[ptr d] W (Does d L size lv s.i O W (execM L size .name s)):=by
 obtain ⟨tw,tf,te,y,_,hW,hy,c1⟩:=next_txt hM hs.i
 obtain ⟨o,r,ho⟩:=ho
 have hrl:r.length≤1000000:=by have:=hs.opn;rw [ho,List.length_cons] at this;omega
 have hfl:=fun X=>fld1 (.int .i64 tw) (.string y) (.int .i64 tf) (.int .i64 te) X
 have hfl0:=fun X=>fld0 (.int .i64 tw) (.string y) (.int .i64 tf) (.int .i64 te) X
 simp only [execM,hW]
 obtain ⟨b0,h0⟩:∃ b,(tw==0)=b:=⟨_,rfl⟩
 rw [h0]
 have hys:bstr y.toList=y:=by unfold bstr;rw [ByteArray.toList_eq]
 cases b0 with
 | true =>
  rw [if_pos rfl,ho,hy]
  clear hy
  go_enter Tryz.func119,Tryz.ntmps119
  go_wp2_with fail
  refine c1.mono ?_
  rintro e v0 ⟨rfl,hb0⟩
  dsimp only
  have hM0:=hM.below hb0
  obtain ⟨tw2,tf2,te2,y2,_,hW2,_,c2⟩:=next_txt hM0 hs.i
  have hww:tw2=tw:=by have h1:=hW2 tw;rw [hW tw] at h1;simpa using h1.symm
  subst hww
  have hfl2:=fun X=>fld0 (.int .i64 tw2) (.string y2) (.int .i64 tf2) (.int .i64 te2) X
  clear hW hW2
  go_wp2_with fail
  refine c2.mono ?_
  rintro e v1 ⟨rfl,hb1⟩
  dsimp only
  have hM1:=hM0.below hb1
  go_wp2_with fail
  refine (need_ok hM1 (Nat.le_trans hs.i hs.len)).mono ?_
  rintro e v2 ⟨rfl,hM2,hS2⟩
  dsimp only
  obtain ⟨tv,ov,bs,us,xs,hX⟩:=hM2
  obtain ⟨g,c,kv,ks,us1,bs1,hT⟩:=top_of hX ho
  have cT:=top_any hX hT hrl (Below.refl _ _)
  go_wp2_with fail
  refine cT.mono ?_
  rintro e v3 ⟨rfl,mm,rfl⟩
  dsimp only
  have hX3:=hX.below (drewB' v2 mm)
  have hT3:=hT.drewN mm
  obtain ⟨q1,q2⟩:=put_text hX3 ho hT3 y.toList y hys
  have k1:=hT3.cell 1 _ rfl
  have f1:=hT3.frozen (r.length*6+1)
  have H1:=hid q1
  have H2:=hid (((Stay.of_below hb0).trans (Stay.of_below hb1)).trans (hS2.trans ((Stay.of_below (drewB' v2 mm)).trans q2)))
  clear q1 q2 hX hT hX3 hT3 hM0 hM1 hS2 hb0 hb1
  go_wp2_with fail
  first|go_end0|refine bodyPost_ret (results_none rfl _ _ _) rfl ?_
  exact ⟨rfl,_,⟨_,_,_,_,_,H1.out⟩,H2.out⟩
 | false =>
  rw [if_neg (by decide)]
  go_enter Tryz.func119,Tryz.ntmps119
  go_wp2_with fail
  refine c1.mono ?_
  rintro e v0 ⟨rfl,hb0⟩
  dsimp only
  have hM0:=hM.below hb0
  obtain ⟨tw2,tf2,te2,y2,_,hW2,_,c2⟩:=next_txt hM0 hs.i
  have hww:tw2=tw:=by have h1:=hW2 tw;rw [hW tw] at h1;simpa using h1.symm
  subst hww
  have hfl2:=fun X=>fld0 (.int .i64 tw2) (.string y2) (.int .i64 tf2) (.int .i64 te2) X
  clear hW hW2
  go_wp2_with fail
  refine c2.mono ?_
  rintro e v1 ⟨rfl,hb1⟩
  dsimp only
  have hM1:=hM0.below hb1
  go_wp2_with fail
  refine (need_bad hM1 hs.i).mono ?_
  rintro e v2 ⟨rfl,hb2⟩
  dsimp only
  have hb01:=hb0.trans (hb1.mono hb0.size)
  exact ⟨rfl,rfl,hb01.trans (hb2.mono hb01.size)⟩
end
end Go.Proofs.YtojoahlpgmnbnaaGreatDoor.K
