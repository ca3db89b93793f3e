/- What the claim needs of the texts MMeth. -/
import Derived.Test.YtpbnhnilfpoljaaGreatDoorRB22
namespace Go.Proofs.YtpbnhnilfpoljaaGreatDoor.M
open Go.RowKit
open Go.Lib Go.Proofs.YtpbnhnilfpoljaaGreatDoor.V
def tabM:List Value:=[.int .i64 1,.string ⟨#[105,110,105,116,105,97,108,105,122,101]⟩,.bool true,.bool false,.int .i64 2,.string ⟨#[115,104,117,116,100,111,119,110]⟩,.bool true,.bool false,.int .i64 3,.string ⟨#[101,120,105,116]⟩,.bool false,.bool false,.int .i64 4,.string ⟨#[116,101,120,116,68,111,99,117,109,101,110,116,47,100,105,100,79,112,101,110]⟩,.bool false,.bool true,.int .i64 5,.string ⟨#[116,101,120,116,68,111,99,117,109,101,110,116,47,100,105,100,67,104,97,110,103,101]⟩,.bool false,.bool true,.int .i64 6,.string ⟨#[116,101,120,116,68,111,99,117,109,101,110,116,47,100,105,100,67,108,111,115,101]⟩,.bool false,.bool true,.int .i64 7,.string ⟨#[116,101,120,116,68,111,99,117,109,101,110,116,47,104,111,118,101,114]⟩,.bool true,.bool true,.int .i64 8,.string ⟨#[116,101,120,116,68,111,99,117,109,101,110,116,47,100,105,97,103,110,111,115,116,105,99]⟩,.bool true,.bool true,.int .i64 9,.string ⟨#[36,47,99,97,110,99,101,108,82,101,113,117,101,115,116]⟩,.bool false,.bool true]
def MTab (W:World):Prop:=CellsAt W 0 0 tabM
theorem MTab.later {W W':World} (h:MTab W) (hb:Below W.heap.size W W'):MTab W':=CellsAt.later (R:=fun g=>g<W.heap.size) h (cells_lt h (by simp [tabM])) (fun g hg _=>hb.block g hg)
def mK (name:List UInt8):Int :=
 if name=bInit then 1 else if name=bShut then 2 else if name=bExit then 3 else if name=bOpen then 4 else if name=bChange then 5
 else if name=bClose then 6 else if name=bHover then 7 else if name=bPull then 8 else if name=bCancel then 9 else 0
theorem kind_mK (name:List UInt8) (has:Bool):kindP name has=if mK name≠0∧reqP (mK name)=has then mK name else 0:=by
 unfold mK
 by_cases h1:name=bInit
 ·subst h1;cases has <;> decide
 by_cases h2:name=bShut
 ·subst h2;cases has <;> decide
 by_cases h3:name=bExit
 ·subst h3;cases has <;> decide
 by_cases h4:name=bOpen
 ·subst h4;cases has <;> decide
 by_cases h5:name=bChange
 ·subst h5;cases has <;> decide
 by_cases h6:name=bClose
 ·subst h6;cases has <;> decide
 by_cases h7:name=bHover
 ·subst h7;cases has <;> decide
 by_cases h8:name=bPull
 ·subst h8;cases has <;> decide
 by_cases h9:name=bCancel
 ·subst h9;cases has <;> decide
 simp [kindP,h1,h2,h3,h4,h5,h6,h7,h8,h9]
theorem mK_range (name:List UInt8):0≤mK name∧mK name≤9:=by
 unfold mK
 repeat' split
 all_goals omega
def ofK (k:Int):Int:=if 1≤k∧k≤9 then k else 0
def methC (k:Int):Value:=.agg #[.int .i64 k,.string ⟨(methodP k).toArray⟩,.bool (reqP k),.bool (toldK k)]
theorem run_tab {W:World} (h:MTab W):(Instr.loadAt 117 (.pointer (some ⟨0,0,none⟩))).run Tryz.prog W=.ok (.agg tabM.toArray) W:=by
 have h2:=run_loadCells_list (P:=Tryz.prog) (w:=W) ⟨0,0,none⟩ tabM (cells_add h)
 have h3:tabM.length=36:=rfl
 rw [h3] at h2
 unfold Instr.loadAt Instr.sureAddr loadVar
 simp only [Sem.run_bind,Sem.run_pure,Result.andThen_ok,Tryz.isAgg117,Tryz.sizeOf117,h2,if_true]
theorem wpList_loadTab {P:Program} {w:World} {ops:Array Oper} {rest:List Oper} {o:Oper} {a:Act} {Q:Exit→Act→World→Prop} (hgd:o.guard=none) (t:TypeId) (x:Operand) (ho:o.op=.load t x) (v:Value)
  (hr:(Instr.loadAt t (a.eval x)).run P w=.ok v w) (h:wpList P ops Q rest (a.put o.dst v) w):wpList P ops Q (o :: rest) a w:=by
 refine wpList_plain hgd fun K hK=>?_
 unfold Oper.wp
 simp [execOp,ho,hr,Result.andThen]
 exact hK _ _ h
theorem wpList_indexTab {P:Program} {w:World} {ops:Array Oper} {rest:List Oper} {o:Oper} {a:Act} {Q:Exit→Act→World→Prop} (hgd:o.guard=none) (t:TypeId) (x y:Operand) (ho:o.op=.index t x y) (v:Value)
  (hr:(Instr.index t (a.eval x) (a.eval y)).run P w=.ok v w) (h:wpList P ops Q rest (a.put o.dst v) w):wpList P ops Q (o :: rest) a w:=by
 refine wpList_plain hgd fun K hK=>?_
 unfold Oper.wp
 simp [execOp,ho,hr,Result.andThen]
 exact hK _ _ h
theorem run_row0 (W:World):(Instr.index 117 (.agg tabM.toArray) (.int .i64 0)).run Tryz.prog W=.ok (.agg #[.int .i64 1,.string ⟨#[105,110,105,116,105,97,108,105,122,101]⟩,.bool true,.bool false]) W:=by kernel_rfl
theorem run_row1 (W:World):(Instr.index 117 (.agg tabM.toArray) (.int .i64 1)).run Tryz.prog W=.ok (.agg #[.int .i64 2,.string ⟨#[115,104,117,116,100,111,119,110]⟩,.bool true,.bool false]) W:=by kernel_rfl
theorem run_row2 (W:World):(Instr.index 117 (.agg tabM.toArray) (.int .i64 2)).run Tryz.prog W=.ok (.agg #[.int .i64 3,.string ⟨#[101,120,105,116]⟩,.bool false,.bool false]) W:=by kernel_rfl
theorem run_row3 (W:World):(Instr.index 117 (.agg tabM.toArray) (.int .i64 3)).run Tryz.prog W=.ok (.agg #[.int .i64 4,.string ⟨#[116,101,120,116,68,111,99,117,109,101,110,116,47,100,105,100,79,112,101,110]⟩,.bool false,.bool true]) W:=by kernel_rfl
theorem run_row4 (W:World):(Instr.index 117 (.agg tabM.toArray) (.int .i64 4)).run Tryz.prog W=.ok (.agg #[.int .i64 5,.string ⟨#[116,101,120,116,68,111,99,117,109,101,110,116,47,100,105,100,67,104,97,110,103,101]⟩,.bool false,.bool true]) W:=by kernel_rfl
theorem run_row5 (W:World):(Instr.index 117 (.agg tabM.toArray) (.int .i64 5)).run Tryz.prog W=.ok (.agg #[.int .i64 6,.string ⟨#[116,101,120,116,68,111,99,117,109,101,110,116,47,100,105,100,67,108,111,115,101]⟩,.bool false,.bool true]) W:=by kernel_rfl
theorem run_row6 (W:World):(Instr.index 117 (.agg tabM.toArray) (.int .i64 6)).run Tryz.prog W=.ok (.agg #[.int .i64 7,.string ⟨#[116,101,120,116,68,111,99,117,109,101,110,116,47,104,111,118,101,114]⟩,.bool true,.bool true]) W:=by kernel_rfl
theorem run_row7 (W:World):(Instr.index 117 (.agg tabM.toArray) (.int .i64 7)).run Tryz.prog W=.ok (.agg #[.int .i64 8,.string ⟨#[116,101,120,116,68,111,99,117,109,101,110,116,47,100,105,97,103,110,111,115,116,105,99]⟩,.bool true,.bool true]) W:=by kernel_rfl
theorem run_row8 (W:World):(Instr.index 117 (.agg tabM.toArray) (.int .i64 8)).run Tryz.prog W=.ok (.agg #[.int .i64 9,.string ⟨#[36,47,99,97,110,99,101,108,82,101,113,117,101,115,116]⟩,.bool false,.bool true]) W:=by kernel_rfl
theorem m0:methC 0=.agg #[.int .i64 0,.string ⟨#[]⟩,.bool false,.bool false]:=by kernel_rfl
set_option maxHeartbeats 16000000 in
set_option maxRecDepth 100000 in
theorem of_any (kind:Int) (w:World) (hM:MTab w) :
  Calls Tryz.prog 29 #[.int .i64 kind] w fun e w'=>e=.returned (methC (ofK kind))∧Below w.heap.size w w':=by
 go_enter Tryz.func29,Tryz.ntmps29
 obtain ⟨w1,hw1⟩:∃ w1,w.alloc (.cells #[.int .i64 0,.string ⟨#[]⟩,.bool false,.bool false] 73)=w1:=⟨_,rfl⟩
 have hr1:w1.heap[w.heap.size]?=some (.cells #[.int .i64 0,.string ⟨#[]⟩,.bool false,.bool false] 73 (0,0)):=by rw [← hw1];exact heap_alloc_new _ _
 have hb1:Below w.heap.size w w1:=by rw [← hw1];exact (Below.refl _ _).alloc (Nat.le_refl _) _
 have hz1:w.heap.size<w1.heap.size:=by rw [← hw1];simp
 have hM1:=hM.later hb1
 obtain ⟨T,hT⟩:∃ T,Value.agg tabM.toArray=T:=⟨_,rfl⟩
 have hL:=run_tab hM1
 have hi0:=run_row0
 have hi1:=run_row1
 have hi2:=run_row2
 have hi3:=run_row3
 have hi4:=run_row4
 have hi5:=run_row5
 have hi6:=run_row6
 have hi7:=run_row7
 have hi8:=run_row8
 rw [hT] at hL
 simp only [hT] at hi0
 simp only [hT] at hi1
 simp only [hT] at hi2
 simp only [hT] at hi3
 simp only [hT] at hi4
 simp only [hT] at hi5
 simp only [hT] at hi6
 simp only [hT] at hi7
 simp only [hT] at hi8
 have HR:=Lib.hid hr1
 have HB1:=Lib.hid hb1
 clear hr1 hb1 hM1 hM hT
 go_wp2_with (refine wpList_loadTab rfl _ _ rfl T hL ?_)
 clear hL hw1
 go_loopw [6] (fun iv wr=>∃ i:Nat,iv=.int .i64 i∧i≤9∧Hid (∀ k:Int,1≤k→k≤i→kind≠k)∧Hid (Below w1.heap.size w1 wr)) (fun iv _=>9 - (Go.RowKit.intOf iv).toNat)
 case atStart=>exact ⟨0,rfl,by omega,Lib.hid (fun k h1 h2=>by exfalso;omega),Lib.hid (Below.refl _ _)⟩
 case round =>
  obtain ⟨i,rfl,hi,HN,HBw⟩:=hrel
  have hrr:=(HBw.out.block w.heap.size hz1).trans HR.out
  have hzw:=HBw.out.size
  have h10:i=0∨i=1∨i=2∨i=3∨i=4∨i=5∨i=6∨i=7∨i=8∨i=9:=by omega
  rcases h10 with rfl|rfl|rfl|rfl|rfl|rfl|rfl|rfl|rfl|rfl
  ·-- row 0
   go_upto_region 4 with (refine wpList_indexTab rfl _ _ _ rfl _ (hi0 _) ?_)
   obtain ⟨W1,hW1⟩:∃ W1,wr.alloc (.cells #[.int .i64 1,.string ⟨#[105,110,105,116,105,97,108,105,122,101]⟩,.bool true,.bool false] 73)=W1:=⟨_,rfl⟩
   have hx1:W1.heap[wr.heap.size]?=some (.cells #[.int .i64 1,.string ⟨#[105,110,105,116,105,97,108,105,122,101]⟩,.bool true,.bool false] 73 (0,0)):=by rw [← hW1];exact heap_alloc_new _ _
   have hb1:Below wr.heap.size wr W1:=by rw [← hW1];exact (Below.refl _ _).alloc (Nat.le_refl _) _
   have hr1:=(hb1.block w.heap.size (by omega)).trans hrr
   have r0:W1.cell? ⟨wr.heap.size,0,none⟩=some (.int .i64 1):=by unfold World.cell?;rw [hx1];rfl
   have r1:W1.cell? ⟨wr.heap.size,1,none⟩=some (.string ⟨#[105,110,105,116,105,97,108,105,122,101]⟩):=by unfold World.cell?;rw [hx1];rfl
   have r2:W1.cell? ⟨wr.heap.size,2,none⟩=some (.bool true):=by unfold World.cell?;rw [hx1];rfl
   have r3:W1.cell? ⟨wr.heap.size,3,none⟩=some (.bool false):=by unfold World.cell?;rw [hx1];rfl
   have j0:W1.cell? ⟨w.heap.size,0,none⟩=some (.int .i64 0):=by unfold World.cell?;rw [hr1];rfl
   have j1:W1.cell? ⟨w.heap.size,1,none⟩=some (.string ⟨#[]⟩):=by unfold World.cell?;rw [hr1];rfl
   have j2:W1.cell? ⟨w.heap.size,2,none⟩=some (.bool false):=by unfold World.cell?;rw [hr1];rfl
   have j3:W1.cell? ⟨w.heap.size,3,none⟩=some (.bool false):=by unfold World.cell?;rw [hr1];rfl
   have jf:∀ i,W1.frozen? ⟨w.heap.size,i,none⟩=false:=fun i=>by unfold World.frozen?;rw [hr1];simp
   have HB2:=Lib.hid (HB1.out.trans ((HBw.out.trans (hb1.mono HBw.out.size)).mono (by omega)))
   have HB3:=Lib.hid (HBw.out.trans (hb1.mono HBw.out.size))
   have hz3:W1.heap.size=wr.heap.size+1:=by rw [← hW1];simp
   rw [hW1]
   clear hx1 hb1 hr1 hrr hz3 hW1
   by_cases hn:kind=1
   ·have hq:(kind==(1:Int))=true:=by rw [hn];rfl
    have hq2:((1:Int)==kind)=true:=by rw [hn];rfl
    have HQ:=Lib.hid (show methC (ofK kind)=.agg #[.int .i64 1,.string ⟨#[105,110,105,116,105,97,108,105,122,101]⟩,.bool true,.bool false] by rw [hn];kernel_rfl)
    clear hn
    go_wp2_with fail
    refine bodyPost_ret (v:=.agg #[.int .i64 1,.string ⟨#[105,110,105,116,105,97,108,105,122,101]⟩,.bool true,.bool false]) (by simp [results,Tryz.results29,go_sem,j0,j1,j2,j3]) rfl ?_
    exact ⟨by rw [HQ.out],(((HB2.out.setCell (p:=⟨w.heap.size,0,none⟩) (Nat.le_refl _) _).setCell (p:=⟨w.heap.size,1,none⟩) (Nat.le_refl _) _).setCell (p:=⟨w.heap.size,2,none⟩) (Nat.le_refl _) _).setCell (p:=⟨w.heap.size,3,none⟩) (Nat.le_refl _) _⟩
   ·have hq:(kind==(1:Int))=false:=beq_eq_false_iff_ne.2 hn
    have hq2:(((1:Int))==kind)=false:=beq_eq_false_iff_ne.2 (Ne.symm hn)
    have HN2:Hid (∀ k:Int,1≤k→k≤(1:Nat)→kind≠k):=Lib.hid (fun k h1 h2=>by
     by_cases h3:k≤(0:Nat)
     ·exact HN.out k h1 h3
     ·have:k=1:=by omega
      rw [this];exact hn)
    clear hn HN
    go_wp2_with fail
    go_roundw
    case rel=>exact ⟨1,by go_num,by omega,HN2,HB3⟩
    case measure=>simp [Go.RowKit.intOf]
  ·-- row 1
   go_upto_region 4 with (refine wpList_indexTab rfl _ _ _ rfl _ (hi1 _) ?_)
   obtain ⟨W1,hW1⟩:∃ W1,wr.alloc (.cells #[.int .i64 2,.string ⟨#[115,104,117,116,100,111,119,110]⟩,.bool true,.bool false] 73)=W1:=⟨_,rfl⟩
   have hx1:W1.heap[wr.heap.size]?=some (.cells #[.int .i64 2,.string ⟨#[115,104,117,116,100,111,119,110]⟩,.bool true,.bool false] 73 (0,0)):=by rw [← hW1];exact heap_alloc_new _ _
   have hb1:Below wr.heap.size wr W1:=by rw [← hW1];exact (Below.refl _ _).alloc (Nat.le_refl _) _
   have hr1:=(hb1.block w.heap.size (by omega)).trans hrr
   have r0:W1.cell? ⟨wr.heap.size,0,none⟩=some (.int .i64 2):=by unfold World.cell?;rw [hx1];rfl
   have r1:W1.cell? ⟨wr.heap.size,1,none⟩=some (.string ⟨#[115,104,117,116,100,111,119,110]⟩):=by unfold World.cell?;rw [hx1];rfl
   have r2:W1.cell? ⟨wr.heap.size,2,none⟩=some (.bool true):=by unfold World.cell?;rw [hx1];rfl
   have r3:W1.cell? ⟨wr.heap.size,3,none⟩=some (.bool false):=by unfold World.cell?;rw [hx1];rfl
   have j0:W1.cell? ⟨w.heap.size,0,none⟩=some (.int .i64 0):=by unfold World.cell?;rw [hr1];rfl
   have j1:W1.cell? ⟨w.heap.size,1,none⟩=some (.string ⟨#[]⟩):=by unfold World.cell?;rw [hr1];rfl
   have j2:W1.cell? ⟨w.heap.size,2,none⟩=some (.bool false):=by unfold World.cell?;rw [hr1];rfl
   have j3:W1.cell? ⟨w.heap.size,3,none⟩=some (.bool false):=by unfold World.cell?;rw [hr1];rfl
   have jf:∀ i,W1.frozen? ⟨w.heap.size,i,none⟩=false:=fun i=>by unfold World.frozen?;rw [hr1];simp
   have HB2:=Lib.hid (HB1.out.trans ((HBw.out.trans (hb1.mono HBw.out.size)).mono (by omega)))
   have HB3:=Lib.hid (HBw.out.trans (hb1.mono HBw.out.size))
   have hz3:W1.heap.size=wr.heap.size+1:=by rw [← hW1];simp
   rw [hW1]
   clear hx1 hb1 hr1 hrr hz3 hW1
   by_cases hn:kind=2
   ·have hq:(kind==(2:Int))=true:=by rw [hn];rfl
    have hq2:((2:Int)==kind)=true:=by rw [hn];rfl
    have HQ:=Lib.hid (show methC (ofK kind)=.agg #[.int .i64 2,.string ⟨#[115,104,117,116,100,111,119,110]⟩,.bool true,.bool false] by rw [hn];kernel_rfl)
    clear hn
    go_wp2_with fail
    refine bodyPost_ret (v:=.agg #[.int .i64 2,.string ⟨#[115,104,117,116,100,111,119,110]⟩,.bool true,.bool false]) (by simp [results,Tryz.results29,go_sem,j0,j1,j2,j3]) rfl ?_
    exact ⟨by rw [HQ.out],(((HB2.out.setCell (p:=⟨w.heap.size,0,none⟩) (Nat.le_refl _) _).setCell (p:=⟨w.heap.size,1,none⟩) (Nat.le_refl _) _).setCell (p:=⟨w.heap.size,2,none⟩) (Nat.le_refl _) _).setCell (p:=⟨w.heap.size,3,none⟩) (Nat.le_refl _) _⟩
   ·have hq:(kind==(2:Int))=false:=beq_eq_false_iff_ne.2 hn
    have hq2:(((2:Int))==kind)=false:=beq_eq_false_iff_ne.2 (Ne.symm hn)
    have HN2:Hid (∀ k:Int,1≤k→k≤(2:Nat)→kind≠k):=Lib.hid (fun k h1 h2=>by
     by_cases h3:k≤(1:Nat)
     ·exact HN.out k h1 h3
     ·have:k=2:=by omega
      rw [this];exact hn)
    clear hn HN
    go_wp2_with fail
    go_roundw
    case rel=>exact ⟨2,by go_num,by omega,HN2,HB3⟩
    case measure=>simp [Go.RowKit.intOf]
  ·-- row 2
   go_upto_region 4 with (refine wpList_indexTab rfl _ _ _ rfl _ (hi2 _) ?_)
   obtain ⟨W1,hW1⟩:∃ W1,wr.alloc (.cells #[.int .i64 3,.string ⟨#[101,120,105,116]⟩,.bool false,.bool false] 73)=W1:=⟨_,rfl⟩
   have hx1:W1.heap[wr.heap.size]?=some (.cells #[.int .i64 3,.string ⟨#[101,120,105,116]⟩,.bool false,.bool false] 73 (0,0)):=by rw [← hW1];exact heap_alloc_new _ _
   have hb1:Below wr.heap.size wr W1:=by rw [← hW1];exact (Below.refl _ _).alloc (Nat.le_refl _) _
   have hr1:=(hb1.block w.heap.size (by omega)).trans hrr
   have r0:W1.cell? ⟨wr.heap.size,0,none⟩=some (.int .i64 3):=by unfold World.cell?;rw [hx1];rfl
   have r1:W1.cell? ⟨wr.heap.size,1,none⟩=some (.string ⟨#[101,120,105,116]⟩):=by unfold World.cell?;rw [hx1];rfl
   have r2:W1.cell? ⟨wr.heap.size,2,none⟩=some (.bool false):=by unfold World.cell?;rw [hx1];rfl
   have r3:W1.cell? ⟨wr.heap.size,3,none⟩=some (.bool false):=by unfold World.cell?;rw [hx1];rfl
   have j0:W1.cell? ⟨w.heap.size,0,none⟩=some (.int .i64 0):=by unfold World.cell?;rw [hr1];rfl
   have j1:W1.cell? ⟨w.heap.size,1,none⟩=some (.string ⟨#[]⟩):=by unfold World.cell?;rw [hr1];rfl
   have j2:W1.cell? ⟨w.heap.size,2,none⟩=some (.bool false):=by unfold World.cell?;rw [hr1];rfl
   have j3:W1.cell? ⟨w.heap.size,3,none⟩=some (.bool false):=by unfold World.cell?;rw [hr1];rfl
   have jf:∀ i,W1.frozen? ⟨w.heap.size,i,none⟩=false:=fun i=>by unfold World.frozen?;rw [hr1];simp
   have HB2:=Lib.hid (HB1.out.trans ((HBw.out.trans (hb1.mono HBw.out.size)).mono (by omega)))
   have HB3:=Lib.hid (HBw.out.trans (hb1.mono HBw.out.size))
   have hz3:W1.heap.size=wr.heap.size+1:=by rw [← hW1];simp
   rw [hW1]
   clear hx1 hb1 hr1 hrr hz3 hW1
   by_cases hn:kind=3
   ·have hq:(kind==(3:Int))=true:=by rw [hn];rfl
    have hq2:((3:Int)==kind)=true:=by rw [hn];rfl
    have HQ:=Lib.hid (show methC (ofK kind)=.agg #[.int .i64 3,.string ⟨#[101,120,105,116]⟩,.bool false,.bool false] by rw [hn];kernel_rfl)
    clear hn
    go_wp2_with fail
    refine bodyPost_ret (v:=.agg #[.int .i64 3,.string ⟨#[101,120,105,116]⟩,.bool false,.bool false]) (by simp [results,Tryz.results29,go_sem,j0,j1,j2,j3]) rfl ?_
    exact ⟨by rw [HQ.out],(((HB2.out.setCell (p:=⟨w.heap.size,0,none⟩) (Nat.le_refl _) _).setCell (p:=⟨w.heap.size,1,none⟩) (Nat.le_refl _) _).setCell (p:=⟨w.heap.size,2,none⟩) (Nat.le_refl _) _).setCell (p:=⟨w.heap.size,3,none⟩) (Nat.le_refl _) _⟩
   ·have hq:(kind==(3:Int))=false:=beq_eq_false_iff_ne.2 hn
    have hq2:(((3:Int))==kind)=false:=beq_eq_false_iff_ne.2 (Ne.symm hn)
    have HN2:Hid (∀ k:Int,1≤k→k≤(3:Nat)→kind≠k):=Lib.hid (fun k h1 h2=>by
     by_cases h3:k≤(2:Nat)
     ·exact HN.out k h1 h3
     ·have:k=3:=by omega
      rw [this];exact hn)
    clear hn HN
    go_wp2_with fail
    go_roundw
    case rel=>exact ⟨3,by go_num,by omega,HN2,HB3⟩
    case measure=>simp [Go.RowKit.intOf]
  ·-- row 3
   go_upto_region 4 with (refine wpList_indexTab rfl _ _ _ rfl _ (hi3 _) ?_)
   obtain ⟨W1,hW1⟩:∃ W1,wr.alloc (.cells #[.int .i64 4,.string ⟨#[116,101,120,116,68,111,99,117,109,101,110,116,47,100,105,100,79,112,101,110]⟩,.bool false,.bool true] 73)=W1:=⟨_,rfl⟩
   have hx1:W1.heap[wr.heap.size]?=some (.cells #[.int .i64 4,.string ⟨#[116,101,120,116,68,111,99,117,109,101,110,116,47,100,105,100,79,112,101,110]⟩,.bool false,.bool true] 73 (0,0)):=by rw [← hW1];exact heap_alloc_new _ _
   have hb1:Below wr.heap.size wr W1:=by rw [← hW1];exact (Below.refl _ _).alloc (Nat.le_refl _) _
   have hr1:=(hb1.block w.heap.size (by omega)).trans hrr
   have r0:W1.cell? ⟨wr.heap.size,0,none⟩=some (.int .i64 4):=by unfold World.cell?;rw [hx1];rfl
   have r1:W1.cell? ⟨wr.heap.size,1,none⟩=some (.string ⟨#[116,101,120,116,68,111,99,117,109,101,110,116,47,100,105,100,79,112,101,110]⟩):=by unfold World.cell?;rw [hx1];rfl
   have r2:W1.cell? ⟨wr.heap.size,2,none⟩=some (.bool false):=by unfold World.cell?;rw [hx1];rfl
   have r3:W1.cell? ⟨wr.heap.size,3,none⟩=some (.bool true):=by unfold World.cell?;rw [hx1];rfl
   have j0:W1.cell? ⟨w.heap.size,0,none⟩=some (.int .i64 0):=by unfold World.cell?;rw [hr1];rfl
   have j1:W1.cell? ⟨w.heap.size,1,none⟩=some (.string ⟨#[]⟩):=by unfold World.cell?;rw [hr1];rfl
   have j2:W1.cell? ⟨w.heap.size,2,none⟩=some (.bool false):=by unfold World.cell?;rw [hr1];rfl
   have j3:W1.cell? ⟨w.heap.size,3,none⟩=some (.bool false):=by unfold World.cell?;rw [hr1];rfl
   have jf:∀ i,W1.frozen? ⟨w.heap.size,i,none⟩=false:=fun i=>by unfold World.frozen?;rw [hr1];simp
   have HB2:=Lib.hid (HB1.out.trans ((HBw.out.trans (hb1.mono HBw.out.size)).mono (by omega)))
   have HB3:=Lib.hid (HBw.out.trans (hb1.mono HBw.out.size))
   have hz3:W1.heap.size=wr.heap.size+1:=by rw [← hW1];simp
   rw [hW1]
   clear hx1 hb1 hr1 hrr hz3 hW1
   by_cases hn:kind=4
   ·have hq:(kind==(4:Int))=true:=by rw [hn];rfl
    have hq2:((4:Int)==kind)=true:=by rw [hn];rfl
    have HQ:=Lib.hid (show methC (ofK kind)=.agg #[.int .i64 4,.string ⟨#[116,101,120,116,68,111,99,117,109,101,110,116,47,100,105,100,79,112,101,110]⟩,.bool false,.bool true] by rw [hn];kernel_rfl)
    clear hn
    go_wp2_with fail
    refine bodyPost_ret (v:=.agg #[.int .i64 4,.string ⟨#[116,101,120,116,68,111,99,117,109,101,110,116,47,100,105,100,79,112,101,110]⟩,.bool false,.bool true]) (by simp [results,Tryz.results29,go_sem,j0,j1,j2,j3]) rfl ?_
    exact ⟨by rw [HQ.out],(((HB2.out.setCell (p:=⟨w.heap.size,0,none⟩) (Nat.le_refl _) _).setCell (p:=⟨w.heap.size,1,none⟩) (Nat.le_refl _) _).setCell (p:=⟨w.heap.size,2,none⟩) (Nat.le_refl _) _).setCell (p:=⟨w.heap.size,3,none⟩) (Nat.le_refl _) _⟩
   ·have hq:(kind==(4:Int))=false:=beq_eq_false_iff_ne.2 hn
    have hq2:(((4:Int))==kind)=false:=beq_eq_false_iff_ne.2 (Ne.symm hn)
    have HN2:Hid (∀ k:Int,1≤k→k≤(4:Nat)→kind≠k):=Lib.hid (fun k h1 h2=>by
     by_cases h3:k≤(3:Nat)
     ·exact HN.out k h1 h3
     ·have:k=4:=by omega
      rw [this];exact hn)
    clear hn HN
    go_wp2_with fail
    go_roundw
    case rel=>exact ⟨4,by go_num,by omega,HN2,HB3⟩
    case measure=>simp [Go.RowKit.intOf]
  ·-- row 4
   go_upto_region 4 with (refine wpList_indexTab rfl _ _ _ rfl _ (hi4 _) ?_)
   obtain ⟨W1,hW1⟩:∃ W1,wr.alloc (.cells #[.int .i64 5,.string ⟨#[116,101,120,116,68,111,99,117,109,101,110,116,47,100,105,100,67,104,97,110,103,101]⟩,.bool false,.bool true] 73)=W1:=⟨_,rfl⟩
   have hx1:W1.heap[wr.heap.size]?=some (.cells #[.int .i64 5,.string ⟨#[116,101,120,116,68,111,99,117,109,101,110,116,47,100,105,100,67,104,97,110,103,101]⟩,.bool false,.bool true] 73 (0,0)):=by rw [← hW1];exact heap_alloc_new _ _
   have hb1:Below wr.heap.size wr W1:=by rw [← hW1];exact (Below.refl _ _).alloc (Nat.le_refl _) _
   have hr1:=(hb1.block w.heap.size (by omega)).trans hrr
   have r0:W1.cell? ⟨wr.heap.size,0,none⟩=some (.int .i64 5):=by unfold World.cell?;rw [hx1];rfl
   have r1:W1.cell? ⟨wr.heap.size,1,none⟩=some (.string ⟨#[116,101,120,116,68,111,99,117,109,101,110,116,47,100,105,100,67,104,97,110,103,101]⟩):=by unfold World.cell?;rw [hx1];rfl
   have r2:W1.cell? ⟨wr.heap.size,2,none⟩=some (.bool false):=by unfold World.cell?;rw [hx1];rfl
   have r3:W1.cell? ⟨wr.heap.size,3,none⟩=some (.bool true):=by unfold World.cell?;rw [hx1];rfl
   have j0:W1.cell? ⟨w.heap.size,0,none⟩=some (.int .i64 0):=by unfold World.cell?;rw [hr1];rfl
   have j1:W1.cell? ⟨w.heap.size,1,none⟩=some (.string ⟨#[]⟩):=by unfold World.cell?;rw [hr1];rfl
   have j2:W1.cell? ⟨w.heap.size,2,none⟩=some (.bool false):=by unfold World.cell?;rw [hr1];rfl
   have j3:W1.cell? ⟨w.heap.size,3,none⟩=some (.bool false):=by unfold World.cell?;rw [hr1];rfl
   have jf:∀ i,W1.frozen? ⟨w.heap.size,i,none⟩=false:=fun i=>by unfold World.frozen?;rw [hr1];simp
   have HB2:=Lib.hid (HB1.out.trans ((HBw.out.trans (hb1.mono HBw.out.size)).mono (by omega)))
   have HB3:=Lib.hid (HBw.out.trans (hb1.mono HBw.out.size))
   have hz3:W1.heap.size=wr.heap.size+1:=by rw [← hW1];simp
   rw [hW1]
   clear hx1 hb1 hr1 hrr hz3 hW1
   by_cases hn:kind=5
   ·have hq:(kind==(5:Int))=true:=by rw [hn];rfl
    have hq2:((5:Int)==kind)=true:=by rw [hn];rfl
    have HQ:=Lib.hid (show methC (ofK kind)=.agg #[.int .i64 5,.string ⟨#[116,101,120,116,68,111,99,117,109,101,110,116,47,100,105,100,67,104,97,110,103,101]⟩,.bool false,.bool true] by rw [hn];kernel_rfl)
    clear hn
    go_wp2_with fail
    refine bodyPost_ret (v:=.agg #[.int .i64 5,.string ⟨#[116,101,120,116,68,111,99,117,109,101,110,116,47,100,105,100,67,104,97,110,103,101]⟩,.bool false,.bool true]) (by simp [results,Tryz.results29,go_sem,j0,j1,j2,j3]) rfl ?_
    exact ⟨by rw [HQ.out],(((HB2.out.setCell (p:=⟨w.heap.size,0,none⟩) (Nat.le_refl _) _).setCell (p:=⟨w.heap.size,1,none⟩) (Nat.le_refl _) _).setCell (p:=⟨w.heap.size,2,none⟩) (Nat.le_refl _) _).setCell (p:=⟨w.heap.size,3,none⟩) (Nat.le_refl _) _⟩
   ·have hq:(kind==(5:Int))=false:=beq_eq_false_iff_ne.2 hn
    have hq2:(((5:Int))==kind)=false:=beq_eq_false_iff_ne.2 (Ne.symm hn)
    have HN2:Hid (∀ k:Int,1≤k→k≤(5:Nat)→kind≠k):=Lib.hid (fun k h1 h2=>by
     by_cases h3:k≤(4:Nat)
     ·exact HN.out k h1 h3
     ·have:k=5:=by omega
      rw [this];exact hn)
    clear hn HN
    go_wp2_with fail
    go_roundw
    case rel=>exact ⟨5,by go_num,by omega,HN2,HB3⟩
    case measure=>simp [Go.RowKit.intOf]
  ·-- row 5
   go_upto_region 4 with (refine wpList_indexTab rfl _ _ _ rfl _ (hi5 _) ?_)
   obtain ⟨W1,hW1⟩:∃ W1,wr.alloc (.cells #[.int .i64 6,.string ⟨#[116,101,120,116,68,111,99,117,109,101,110,116,47,100,105,100,67,108,111,115,101]⟩,.bool false,.bool true] 73)=W1:=⟨_,rfl⟩
   have hx1:W1.heap[wr.heap.size]?=some (.cells #[.int .i64 6,.string ⟨#[116,101,120,116,68,111,99,117,109,101,110,116,47,100,105,100,67,108,111,115,101]⟩,.bool false,.bool true] 73 (0,0)):=by rw [← hW1];exact heap_alloc_new _ _
   have hb1:Below wr.heap.size wr W1:=by rw [← hW1];exact (Below.refl _ _).alloc (Nat.le_refl _) _
   have hr1:=(hb1.block w.heap.size (by omega)).trans hrr
   have r0:W1.cell? ⟨wr.heap.size,0,none⟩=some (.int .i64 6):=by unfold World.cell?;rw [hx1];rfl
   have r1:W1.cell? ⟨wr.heap.size,1,none⟩=some (.string ⟨#[116,101,120,116,68,111,99,117,109,101,110,116,47,100,105,100,67,108,111,115,101]⟩):=by unfold World.cell?;rw [hx1];rfl
   have r2:W1.cell? ⟨wr.heap.size,2,none⟩=some (.bool false):=by unfold World.cell?;rw [hx1];rfl
   have r3:W1.cell? ⟨wr.heap.size,3,none⟩=some (.bool true):=by unfold World.cell?;rw [hx1];rfl
   have j0:W1.cell? ⟨w.heap.size,0,none⟩=some (.int .i64 0):=by unfold World.cell?;rw [hr1];rfl
   have j1:W1.cell? ⟨w.heap.size,1,none⟩=some (.string ⟨#[]⟩):=by unfold World.cell?;rw [hr1];rfl
   have j2:W1.cell? ⟨w.heap.size,2,none⟩=some (.bool false):=by unfold World.cell?;rw [hr1];rfl
   have j3:W1.cell? ⟨w.heap.size,3,none⟩=some (.bool false):=by unfold World.cell?;rw [hr1];rfl
   have jf:∀ i,W1.frozen? ⟨w.heap.size,i,none⟩=false:=fun i=>by unfold World.frozen?;rw [hr1];simp
   have HB2:=Lib.hid (HB1.out.trans ((HBw.out.trans (hb1.mono HBw.out.size)).mono (by omega)))
   have HB3:=Lib.hid (HBw.out.trans (hb1.mono HBw.out.size))
   have hz3:W1.heap.size=wr.heap.size+1:=by rw [← hW1];simp
   rw [hW1]
   clear hx1 hb1 hr1 hrr hz3 hW1
   by_cases hn:kind=6
   ·have hq:(kind==(6:Int))=true:=by rw [hn];rfl
    have hq2:((6:Int)==kind)=true:=by rw [hn];rfl
    have HQ:=Lib.hid (show methC (ofK kind)=.agg #[.int .i64 6,.string ⟨#[116,101,120,116,68,111,99,117,109,101,110,116,47,100,105,100,67,108,111,115,101]⟩,.bool false,.bool true] by rw [hn];kernel_rfl)
    clear hn
    go_wp2_with fail
    refine bodyPost_ret (v:=.agg #[.int .i64 6,.string ⟨#[116,101,120,116,68,111,99,117,109,101,110,116,47,100,105,100,67,108,111,115,101]⟩,.bool false,.bool true]) (by simp [results,Tryz.results29,go_sem,j0,j1,j2,j3]) rfl ?_
    exact ⟨by rw [HQ.out],(((HB2.out.setCell (p:=⟨w.heap.size,0,none⟩) (Nat.le_refl _) _).setCell (p:=⟨w.heap.size,1,none⟩) (Nat.le_refl _) _).setCell (p:=⟨w.heap.size,2,none⟩) (Nat.le_refl _) _).setCell (p:=⟨w.heap.size,3,none⟩) (Nat.le_refl _) _⟩
   ·have hq:(kind==(6:Int))=false:=beq_eq_false_iff_ne.2 hn
    have hq2:(((6:Int))==kind)=false:=beq_eq_false_iff_ne.2 (Ne.symm hn)
    have HN2:Hid (∀ k:Int,1≤k→k≤(6:Nat)→kind≠k):=Lib.hid (fun k h1 h2=>by
     by_cases h3:k≤(5:Nat)
     ·exact HN.out k h1 h3
     ·have:k=6:=by omega
      rw [this];exact hn)
    clear hn HN
    go_wp2_with fail
    go_roundw
    case rel=>exact ⟨6,by go_num,by omega,HN2,HB3⟩
    case measure=>simp [Go.RowKit.intOf]
  ·-- row 6
   go_upto_region 4 with (refine wpList_indexTab rfl _ _ _ rfl _ (hi6 _) ?_)
   obtain ⟨W1,hW1⟩:∃ W1,wr.alloc (.cells #[.int .i64 7,.string ⟨#[116,101,120,116,68,111,99,117,109,101,110,116,47,104,111,118,101,114]⟩,.bool true,.bool true] 73)=W1:=⟨_,rfl⟩
   have hx1:W1.heap[wr.heap.size]?=some (.cells #[.int .i64 7,.string ⟨#[116,101,120,116,68,111,99,117,109,101,110,116,47,104,111,118,101,114]⟩,.bool true,.bool true] 73 (0,0)):=by rw [← hW1];exact heap_alloc_new _ _
   have hb1:Below wr.heap.size wr W1:=by rw [← hW1];exact (Below.refl _ _).alloc (Nat.le_refl _) _
   have hr1:=(hb1.block w.heap.size (by omega)).trans hrr
   have r0:W1.cell? ⟨wr.heap.size,0,none⟩=some (.int .i64 7):=by unfold World.cell?;rw [hx1];rfl
   have r1:W1.cell? ⟨wr.heap.size,1,none⟩=some (.string ⟨#[116,101,120,116,68,111,99,117,109,101,110,116,47,104,111,118,101,114]⟩):=by unfold World.cell?;rw [hx1];rfl
   have r2:W1.cell? ⟨wr.heap.size,2,none⟩=some (.bool true):=by unfold World.cell?;rw [hx1];rfl
   have r3:W1.cell? ⟨wr.heap.size,3,none⟩=some (.bool true):=by unfold World.cell?;rw [hx1];rfl
   have j0:W1.cell? ⟨w.heap.size,0,none⟩=some (.int .i64 0):=by unfold World.cell?;rw [hr1];rfl
   have j1:W1.cell? ⟨w.heap.size,1,none⟩=some (.string ⟨#[]⟩):=by unfold World.cell?;rw [hr1];rfl
   have j2:W1.cell? ⟨w.heap.size,2,none⟩=some (.bool false):=by unfold World.cell?;rw [hr1];rfl
   have j3:W1.cell? ⟨w.heap.size,3,none⟩=some (.bool false):=by unfold World.cell?;rw [hr1];rfl
   have jf:∀ i,W1.frozen? ⟨w.heap.size,i,none⟩=false:=fun i=>by unfold World.frozen?;rw [hr1];simp
   have HB2:=Lib.hid (HB1.out.trans ((HBw.out.trans (hb1.mono HBw.out.size)).mono (by omega)))
   have HB3:=Lib.hid (HBw.out.trans (hb1.mono HBw.out.size))
   have hz3:W1.heap.size=wr.heap.size+1:=by rw [← hW1];simp
   rw [hW1]
   clear hx1 hb1 hr1 hrr hz3 hW1
   by_cases hn:kind=7
   ·have hq:(kind==(7:Int))=true:=by rw [hn];rfl
    have hq2:((7:Int)==kind)=true:=by rw [hn];rfl
    have HQ:=Lib.hid (show methC (ofK kind)=.agg #[.int .i64 7,.string ⟨#[116,101,120,116,68,111,99,117,109,101,110,116,47,104,111,118,101,114]⟩,.bool true,.bool true] by rw [hn];kernel_rfl)
    clear hn
    go_wp2_with fail
    refine bodyPost_ret (v:=.agg #[.int .i64 7,.string ⟨#[116,101,120,116,68,111,99,117,109,101,110,116,47,104,111,118,101,114]⟩,.bool true,.bool true]) (by simp [results,Tryz.results29,go_sem,j0,j1,j2,j3]) rfl ?_
    exact ⟨by rw [HQ.out],(((HB2.out.setCell (p:=⟨w.heap.size,0,none⟩) (Nat.le_refl _) _).setCell (p:=⟨w.heap.size,1,none⟩) (Nat.le_refl _) _).setCell (p:=⟨w.heap.size,2,none⟩) (Nat.le_refl _) _).setCell (p:=⟨w.heap.size,3,none⟩) (Nat.le_refl _) _⟩
   ·have hq:(kind==(7:Int))=false:=beq_eq_false_iff_ne.2 hn
    have hq2:(((7:Int))==kind)=false:=beq_eq_false_iff_ne.2 (Ne.symm hn)
    have HN2:Hid (∀ k:Int,1≤k→k≤(7:Nat)→kind≠k):=Lib.hid (fun k h1 h2=>by
     by_cases h3:k≤(6:Nat)
     ·exact HN.out k h1 h3
     ·have:k=7:=by omega
      rw [this];exact hn)
    clear hn HN
    go_wp2_with fail
    go_roundw
    case rel=>exact ⟨7,by go_num,by omega,HN2,HB3⟩
    case measure=>simp [Go.RowKit.intOf]
  ·-- row 7
   go_upto_region 4 with (refine wpList_indexTab rfl _ _ _ rfl _ (hi7 _) ?_)
   obtain ⟨W1,hW1⟩:∃ W1,wr.alloc (.cells #[.int .i64 8,.string ⟨#[116,101,120,116,68,111,99,117,109,101,110,116,47,100,105,97,103,110,111,115,116,105,99]⟩,.bool true,.bool true] 73)=W1:=⟨_,rfl⟩
   have hx1:W1.heap[wr.heap.size]?=some (.cells #[.int .i64 8,.string ⟨#[116,101,120,116,68,111,99,117,109,101,110,116,47,100,105,97,103,110,111,115,116,105,99]⟩,.bool true,.bool true] 73 (0,0)):=by rw [← hW1];exact heap_alloc_new _ _
   have hb1:Below wr.heap.size wr W1:=by rw [← hW1];exact (Below.refl _ _).alloc (Nat.le_refl _) _
   have hr1:=(hb1.block w.heap.size (by omega)).trans hrr
   have r0:W1.cell? ⟨wr.heap.size,0,none⟩=some (.int .i64 8):=by unfold World.cell?;rw [hx1];rfl
   have r1:W1.cell? ⟨wr.heap.size,1,none⟩=some (.string ⟨#[116,101,120,116,68,111,99,117,109,101,110,116,47,100,105,97,103,110,111,115,116,105,99]⟩):=by unfold World.cell?;rw [hx1];rfl
   have r2:W1.cell? ⟨wr.heap.size,2,none⟩=some (.bool true):=by unfold World.cell?;rw [hx1];rfl
   have r3:W1.cell? ⟨wr.heap.size,3,none⟩=some (.bool true):=by unfold World.cell?;rw [hx1];rfl
   have j0:W1.cell? ⟨w.heap.size,0,none⟩=some (.int .i64 0):=by unfold World.cell?;rw [hr1];rfl
   have j1:W1.cell? ⟨w.heap.size,1,none⟩=some (.string ⟨#[]⟩):=by unfold World.cell?;rw [hr1];rfl
   have j2:W1.cell? ⟨w.heap.size,2,none⟩=some (.bool false):=by unfold World.cell?;rw [hr1];rfl
   have j3:W1.cell? ⟨w.heap.size,3,none⟩=some (.bool false):=by unfold World.cell?;rw [hr1];rfl
   have jf:∀ i,W1.frozen? ⟨w.heap.size,i,none⟩=false:=fun i=>by unfold World.frozen?;rw [hr1];simp
   have HB2:=Lib.hid (HB1.out.trans ((HBw.out.trans (hb1.mono HBw.out.size)).mono (by omega)))
   have HB3:=Lib.hid (HBw.out.trans (hb1.mono HBw.out.size))
   have hz3:W1.heap.size=wr.heap.size+1:=by rw [← hW1];simp
   rw [hW1]
   clear hx1 hb1 hr1 hrr hz3 hW1
   by_cases hn:kind=8
   ·have hq:(kind==(8:Int))=true:=by rw [hn];rfl
    have hq2:((8:Int)==kind)=true:=by rw [hn];rfl
    have HQ:=Lib.hid (show methC (ofK kind)=.agg #[.int .i64 8,.string ⟨#[116,101,120,116,68,111,99,117,109,101,110,116,47,100,105,97,103,110,111,115,116,105,99]⟩,.bool true,.bool true] by rw [hn];kernel_rfl)
    clear hn
    go_wp2_with fail
    refine bodyPost_ret (v:=.agg #[.int .i64 8,.string ⟨#[116,101,120,116,68,111,99,117,109,101,110,116,47,100,105,97,103,110,111,115,116,105,99]⟩,.bool true,.bool true]) (by simp [results,Tryz.results29,go_sem,j0,j1,j2,j3]) rfl ?_
    exact ⟨by rw [HQ.out],(((HB2.out.setCell (p:=⟨w.heap.size,0,none⟩) (Nat.le_refl _) _).setCell (p:=⟨w.heap.size,1,none⟩) (Nat.le_refl _) _).setCell (p:=⟨w.heap.size,2,none⟩) (Nat.le_refl _) _).setCell (p:=⟨w.heap.size,3,none⟩) (Nat.le_refl _) _⟩
   ·have hq:(kind==(8:Int))=false:=beq_eq_false_iff_ne.2 hn
    have hq2:(((8:Int))==kind)=false:=beq_eq_false_iff_ne.2 (Ne.symm hn)
    have HN2:Hid (∀ k:Int,1≤k→k≤(8:Nat)→kind≠k):=Lib.hid (fun k h1 h2=>by
     by_cases h3:k≤(7:Nat)
     ·exact HN.out k h1 h3
     ·have:k=8:=by omega
      rw [this];exact hn)
    clear hn HN
    go_wp2_with fail
    go_roundw
    case rel=>exact ⟨8,by go_num,by omega,HN2,HB3⟩
    case measure=>simp [Go.RowKit.intOf]
  ·-- row 8
   go_upto_region 4 with (refine wpList_indexTab rfl _ _ _ rfl _ (hi8 _) ?_)
   obtain ⟨W1,hW1⟩:∃ W1,wr.alloc (.cells #[.int .i64 9,.string ⟨#[36,47,99,97,110,99,101,108,82,101,113,117,101,115,116]⟩,.bool false,.bool true] 73)=W1:=⟨_,rfl⟩
   have hx1:W1.heap[wr.heap.size]?=some (.cells #[.int .i64 9,.string ⟨#[36,47,99,97,110,99,101,108,82,101,113,117,101,115,116]⟩,.bool false,.bool true] 73 (0,0)):=by rw [← hW1];exact heap_alloc_new _ _
   have hb1:Below wr.heap.size wr W1:=by rw [← hW1];exact (Below.refl _ _).alloc (Nat.le_refl _) _
   have hr1:=(hb1.block w.heap.size (by omega)).trans hrr
   have r0:W1.cell? ⟨wr.heap.size,0,none⟩=some (.int .i64 9):=by unfold World.cell?;rw [hx1];rfl
   have r1:W1.cell? ⟨wr.heap.size,1,none⟩=some (.string ⟨#[36,47,99,97,110,99,101,108,82,101,113,117,101,115,116]⟩):=by unfold World.cell?;rw [hx1];rfl
   have r2:W1.cell? ⟨wr.heap.size,2,none⟩=some (.bool false):=by unfold World.cell?;rw [hx1];rfl
   have r3:W1.cell? ⟨wr.heap.size,3,none⟩=some (.bool true):=by unfold World.cell?;rw [hx1];rfl
   have j0:W1.cell? ⟨w.heap.size,0,none⟩=some (.int .i64 0):=by unfold World.cell?;rw [hr1];rfl
   have j1:W1.cell? ⟨w.heap.size,1,none⟩=some (.string ⟨#[]⟩):=by unfold World.cell?;rw [hr1];rfl
   have j2:W1.cell? ⟨w.heap.size,2,none⟩=some (.bool false):=by unfold World.cell?;rw [hr1];rfl
   have j3:W1.cell? ⟨w.heap.size,3,none⟩=some (.bool false):=by unfold World.cell?;rw [hr1];rfl
   have jf:∀ i,W1.frozen? ⟨w.heap.size,i,none⟩=false:=fun i=>by unfold World.frozen?;rw [hr1];simp
   have HB2:=Lib.hid (HB1.out.trans ((HBw.out.trans (hb1.mono HBw.out.size)).mono (by omega)))
   have HB3:=Lib.hid (HBw.out.trans (hb1.mono HBw.out.size))
   have hz3:W1.heap.size=wr.heap.size+1:=by rw [← hW1];simp
   rw [hW1]
   clear hx1 hb1 hr1 hrr hz3 hW1
   by_cases hn:kind=9
   ·have hq:(kind==(9:Int))=true:=by rw [hn];rfl
    have hq2:((9:Int)==kind)=true:=by rw [hn];rfl
    have HQ:=Lib.hid (show methC (ofK kind)=.agg #[.int .i64 9,.string ⟨#[36,47,99,97,110,99,101,108,82,101,113,117,101,115,116]⟩,.bool false,.bool true] by rw [hn];kernel_rfl)
    clear hn
    go_wp2_with fail
    refine bodyPost_ret (v:=.agg #[.int .i64 9,.string ⟨#[36,47,99,97,110,99,101,108,82,101,113,117,101,115,116]⟩,.bool false,.bool true]) (by simp [results,Tryz.results29,go_sem,j0,j1,j2,j3]) rfl ?_
    exact ⟨by rw [HQ.out],(((HB2.out.setCell (p:=⟨w.heap.size,0,none⟩) (Nat.le_refl _) _).setCell (p:=⟨w.heap.size,1,none⟩) (Nat.le_refl _) _).setCell (p:=⟨w.heap.size,2,none⟩) (Nat.le_refl _) _).setCell (p:=⟨w.heap.size,3,none⟩) (Nat.le_refl _) _⟩
   ·have hq:(kind==(9:Int))=false:=beq_eq_false_iff_ne.2 hn
    have hq2:(((9:Int))==kind)=false:=beq_eq_false_iff_ne.2 (Ne.symm hn)
    have HN2:Hid (∀ k:Int,1≤k→k≤(9:Nat)→kind≠k):=Lib.hid (fun k h1 h2=>by
     by_cases h3:k≤(8:Nat)
     ·exact HN.out k h1 h3
     ·have:k=9:=by omega
      rw [this];exact hn)
    clear hn HN
    go_wp2_with fail
    go_roundw
    case rel=>exact ⟨9,by go_num,by omega,HN2,HB3⟩
    case measure=>simp [Go.RowKit.intOf]
  ·-- no row
   have hq:methC (ofK kind)=.agg #[.int .i64 0,.string ⟨#[]⟩,.bool false,.bool false]:=by
    have h0:ofK kind=0:=by
     unfold ofK
     rw [if_neg (fun h=>HN.out kind h.1 (by omega) rfl)]
    rw [h0]
    exact m0
   have HQ:=Lib.hid hq
   have HB2:=Lib.hid (HB1.out.trans (HBw.out.mono (by omega)))
   have j0:wr.cell? ⟨w.heap.size,0,none⟩=some (.int .i64 0):=by unfold World.cell?;rw [hrr];rfl
   have j1:wr.cell? ⟨w.heap.size,1,none⟩=some (.string ⟨#[]⟩):=by unfold World.cell?;rw [hrr];rfl
   have j2:wr.cell? ⟨w.heap.size,2,none⟩=some (.bool false):=by unfold World.cell?;rw [hrr];rfl
   have j3:wr.cell? ⟨w.heap.size,3,none⟩=some (.bool false):=by unfold World.cell?;rw [hrr];rfl
   have jf:∀ i,wr.frozen? ⟨w.heap.size,i,none⟩=false:=fun i=>by unfold World.frozen?;rw [hrr];simp
   clear hrr hq
   go_wp2_with fail
   refine bodyPost_ret (v:=.agg #[.int .i64 0,.string ⟨#[]⟩,.bool false,.bool false]) (by simp [results,Tryz.results29,go_sem,j0,j1,j2,j3]) rfl ?_
   exact ⟨by rw [HQ.out],(((HB2.out.setCell (p:=⟨w.heap.size,0,none⟩) (Nat.le_refl _) _).setCell (p:=⟨w.heap.size,1,none⟩) (Nat.le_refl _) _).setCell (p:=⟨w.heap.size,2,none⟩) (Nat.le_refl _) _).setCell (p:=⟨w.heap.size,3,none⟩) (Nat.le_refl _) _⟩
set_option maxHeartbeats 16000000 in
set_option maxRecDepth 100000 in
theorem named_any (name:List UInt8) (w:World) (hM:MTab w) :
  Calls Tryz.prog 39 #[.string ⟨name.toArray⟩] w fun e w'=>e=.returned (methC (mK name))∧Below w.heap.size w w':=by
 go_enter Tryz.func39,Tryz.ntmps39
 obtain ⟨w1,hw1⟩:∃ w1,w.alloc (.cells #[.int .i64 0,.string ⟨#[]⟩,.bool false,.bool false] 73)=w1:=⟨_,rfl⟩
 have hr1:w1.heap[w.heap.size]?=some (.cells #[.int .i64 0,.string ⟨#[]⟩,.bool false,.bool false] 73 (0,0)):=by rw [← hw1];exact heap_alloc_new _ _
 have hb1:Below w.heap.size w w1:=by rw [← hw1];exact (Below.refl _ _).alloc (Nat.le_refl _) _
 have hz1:w.heap.size<w1.heap.size:=by rw [← hw1];simp
 have hM1:=hM.later hb1
 obtain ⟨T,hT⟩:∃ T,Value.agg tabM.toArray=T:=⟨_,rfl⟩
 have hL:=run_tab hM1
 have hi0:=run_row0
 have hi1:=run_row1
 have hi2:=run_row2
 have hi3:=run_row3
 have hi4:=run_row4
 have hi5:=run_row5
 have hi6:=run_row6
 have hi7:=run_row7
 have hi8:=run_row8
 rw [hT] at hL
 simp only [hT] at hi0
 simp only [hT] at hi1
 simp only [hT] at hi2
 simp only [hT] at hi3
 simp only [hT] at hi4
 simp only [hT] at hi5
 simp only [hT] at hi6
 simp only [hT] at hi7
 simp only [hT] at hi8
 have HR:=Lib.hid hr1
 have HB1:=Lib.hid hb1
 clear hr1 hb1 hM1 hM hT
 go_wp2_with (refine wpList_loadTab rfl _ _ rfl T hL ?_)
 clear hL hw1
 go_loopw [6] (fun iv wr=>∃ i:Nat,iv=.int .i64 i∧i≤9∧Hid (∀ k:Int,1≤k→k≤i→name≠methodP k)∧Hid (Below w1.heap.size w1 wr)) (fun iv _=>9 - (Go.RowKit.intOf iv).toNat)
 case atStart=>exact ⟨0,rfl,by omega,Lib.hid (fun k h1 h2=>by exfalso;omega),Lib.hid (Below.refl _ _)⟩
 case round =>
  obtain ⟨i,rfl,hi,HN,HBw⟩:=hrel
  have hrr:=(HBw.out.block w.heap.size hz1).trans HR.out
  have hzw:=HBw.out.size
  have h10:i=0∨i=1∨i=2∨i=3∨i=4∨i=5∨i=6∨i=7∨i=8∨i=9:=by omega
  rcases h10 with rfl|rfl|rfl|rfl|rfl|rfl|rfl|rfl|rfl|rfl
  ·-- row 0
   go_upto_region 4 with (refine wpList_indexTab rfl _ _ _ rfl _ (hi0 _) ?_)
   obtain ⟨W1,hW1⟩:∃ W1,wr.alloc (.cells #[.int .i64 1,.string ⟨#[105,110,105,116,105,97,108,105,122,101]⟩,.bool true,.bool false] 73)=W1:=⟨_,rfl⟩
   have hx1:W1.heap[wr.heap.size]?=some (.cells #[.int .i64 1,.string ⟨#[105,110,105,116,105,97,108,105,122,101]⟩,.bool true,.bool false] 73 (0,0)):=by rw [← hW1];exact heap_alloc_new _ _
   have hb1:Below wr.heap.size wr W1:=by rw [← hW1];exact (Below.refl _ _).alloc (Nat.le_refl _) _
   have hr1:=(hb1.block w.heap.size (by omega)).trans hrr
   have r0:W1.cell? ⟨wr.heap.size,0,none⟩=some (.int .i64 1):=by unfold World.cell?;rw [hx1];rfl
   have r1:W1.cell? ⟨wr.heap.size,1,none⟩=some (.string ⟨#[105,110,105,116,105,97,108,105,122,101]⟩):=by unfold World.cell?;rw [hx1];rfl
   have r2:W1.cell? ⟨wr.heap.size,2,none⟩=some (.bool true):=by unfold World.cell?;rw [hx1];rfl
   have r3:W1.cell? ⟨wr.heap.size,3,none⟩=some (.bool false):=by unfold World.cell?;rw [hx1];rfl
   have j0:W1.cell? ⟨w.heap.size,0,none⟩=some (.int .i64 0):=by unfold World.cell?;rw [hr1];rfl
   have j1:W1.cell? ⟨w.heap.size,1,none⟩=some (.string ⟨#[]⟩):=by unfold World.cell?;rw [hr1];rfl
   have j2:W1.cell? ⟨w.heap.size,2,none⟩=some (.bool false):=by unfold World.cell?;rw [hr1];rfl
   have j3:W1.cell? ⟨w.heap.size,3,none⟩=some (.bool false):=by unfold World.cell?;rw [hr1];rfl
   have jf:∀ i,W1.frozen? ⟨w.heap.size,i,none⟩=false:=fun i=>by unfold World.frozen?;rw [hr1];simp
   have HB2:=Lib.hid (HB1.out.trans ((HBw.out.trans (hb1.mono HBw.out.size)).mono (by omega)))
   have HB3:=Lib.hid (HBw.out.trans (hb1.mono HBw.out.size))
   have hz3:W1.heap.size=wr.heap.size+1:=by rw [← hW1];simp
   rw [hW1]
   clear hx1 hb1 hr1 hrr hz3 hW1
   by_cases hn:name=methodP 1
   ·have hq:(([105,110,105,116,105,97,108,105,122,101]:List UInt8)==name)=true:=by rw [hn];decide
    have HQ:=Lib.hid (show methC (mK name)=.agg #[.int .i64 1,.string ⟨#[105,110,105,116,105,97,108,105,122,101]⟩,.bool true,.bool false] by rw [hn];kernel_rfl)
    clear hn
    go_wp2_with fail
    refine bodyPost_ret (v:=.agg #[.int .i64 1,.string ⟨#[105,110,105,116,105,97,108,105,122,101]⟩,.bool true,.bool false]) (by simp [results,Tryz.results39,go_sem,j0,j1,j2,j3]) rfl ?_
    exact ⟨by rw [HQ.out],(((HB2.out.setCell (p:=⟨w.heap.size,0,none⟩) (Nat.le_refl _) _).setCell (p:=⟨w.heap.size,1,none⟩) (Nat.le_refl _) _).setCell (p:=⟨w.heap.size,2,none⟩) (Nat.le_refl _) _).setCell (p:=⟨w.heap.size,3,none⟩) (Nat.le_refl _) _⟩
   ·have hq:(([105,110,105,116,105,97,108,105,122,101]:List UInt8)==name)=false:=beq_eq_false_iff_ne.2 fun h=>hn (h.symm.trans (by decide))
    have HN2:Hid (∀ k:Int,1≤k→k≤(1:Nat)→name≠methodP k):=Lib.hid (fun k h1 h2=>by
     by_cases h3:k≤(0:Nat)
     ·exact HN.out k h1 h3
     ·have:k=1:=by omega
      rw [this];exact hn)
    clear hn HN
    go_wp2_with fail
    go_roundw
    case rel=>exact ⟨1,by go_num,by omega,HN2,HB3⟩
    case measure=>simp [Go.RowKit.intOf]
  ·-- row 1
   go_upto_region 4 with (refine wpList_indexTab rfl _ _ _ rfl _ (hi1 _) ?_)
   obtain ⟨W1,hW1⟩:∃ W1,wr.alloc (.cells #[.int .i64 2,.string ⟨#[115,104,117,116,100,111,119,110]⟩,.bool true,.bool false] 73)=W1:=⟨_,rfl⟩
   have hx1:W1.heap[wr.heap.size]?=some (.cells #[.int .i64 2,.string ⟨#[115,104,117,116,100,111,119,110]⟩,.bool true,.bool false] 73 (0,0)):=by rw [← hW1];exact heap_alloc_new _ _
   have hb1:Below wr.heap.size wr W1:=by rw [← hW1];exact (Below.refl _ _).alloc (Nat.le_refl _) _
   have hr1:=(hb1.block w.heap.size (by omega)).trans hrr
   have r0:W1.cell? ⟨wr.heap.size,0,none⟩=some (.int .i64 2):=by unfold World.cell?;rw [hx1];rfl
   have r1:W1.cell? ⟨wr.heap.size,1,none⟩=some (.string ⟨#[115,104,117,116,100,111,119,110]⟩):=by unfold World.cell?;rw [hx1];rfl
   have r2:W1.cell? ⟨wr.heap.size,2,none⟩=some (.bool true):=by unfold World.cell?;rw [hx1];rfl
   have r3:W1.cell? ⟨wr.heap.size,3,none⟩=some (.bool false):=by unfold World.cell?;rw [hx1];rfl
   have j0:W1.cell? ⟨w.heap.size,0,none⟩=some (.int .i64 0):=by unfold World.cell?;rw [hr1];rfl
   have j1:W1.cell? ⟨w.heap.size,1,none⟩=some (.string ⟨#[]⟩):=by unfold World.cell?;rw [hr1];rfl
   have j2:W1.cell? ⟨w.heap.size,2,none⟩=some (.bool false):=by unfold World.cell?;rw [hr1];rfl
   have j3:W1.cell? ⟨w.heap.size,3,none⟩=some (.bool false):=by unfold World.cell?;rw [hr1];rfl
   have jf:∀ i,W1.frozen? ⟨w.heap.size,i,none⟩=false:=fun i=>by unfold World.frozen?;rw [hr1];simp
   have HB2:=Lib.hid (HB1.out.trans ((HBw.out.trans (hb1.mono HBw.out.size)).mono (by omega)))
   have HB3:=Lib.hid (HBw.out.trans (hb1.mono HBw.out.size))
   have hz3:W1.heap.size=wr.heap.size+1:=by rw [← hW1];simp
   rw [hW1]
   clear hx1 hb1 hr1 hrr hz3 hW1
   by_cases hn:name=methodP 2
   ·have hq:(([115,104,117,116,100,111,119,110]:List UInt8)==name)=true:=by rw [hn];decide
    have HQ:=Lib.hid (show methC (mK name)=.agg #[.int .i64 2,.string ⟨#[115,104,117,116,100,111,119,110]⟩,.bool true,.bool false] by rw [hn];kernel_rfl)
    clear hn
    go_wp2_with fail
    refine bodyPost_ret (v:=.agg #[.int .i64 2,.string ⟨#[115,104,117,116,100,111,119,110]⟩,.bool true,.bool false]) (by simp [results,Tryz.results39,go_sem,j0,j1,j2,j3]) rfl ?_
    exact ⟨by rw [HQ.out],(((HB2.out.setCell (p:=⟨w.heap.size,0,none⟩) (Nat.le_refl _) _).setCell (p:=⟨w.heap.size,1,none⟩) (Nat.le_refl _) _).setCell (p:=⟨w.heap.size,2,none⟩) (Nat.le_refl _) _).setCell (p:=⟨w.heap.size,3,none⟩) (Nat.le_refl _) _⟩
   ·have hq:(([115,104,117,116,100,111,119,110]:List UInt8)==name)=false:=beq_eq_false_iff_ne.2 fun h=>hn (h.symm.trans (by decide))
    have HN2:Hid (∀ k:Int,1≤k→k≤(2:Nat)→name≠methodP k):=Lib.hid (fun k h1 h2=>by
     by_cases h3:k≤(1:Nat)
     ·exact HN.out k h1 h3
     ·have:k=2:=by omega
      rw [this];exact hn)
    clear hn HN
    go_wp2_with fail
    go_roundw
    case rel=>exact ⟨2,by go_num,by omega,HN2,HB3⟩
    case measure=>simp [Go.RowKit.intOf]
  ·-- row 2
   go_upto_region 4 with (refine wpList_indexTab rfl _ _ _ rfl _ (hi2 _) ?_)
   obtain ⟨W1,hW1⟩:∃ W1,wr.alloc (.cells #[.int .i64 3,.string ⟨#[101,120,105,116]⟩,.bool false,.bool false] 73)=W1:=⟨_,rfl⟩
   have hx1:W1.heap[wr.heap.size]?=some (.cells #[.int .i64 3,.string ⟨#[101,120,105,116]⟩,.bool false,.bool false] 73 (0,0)):=by rw [← hW1];exact heap_alloc_new _ _
   have hb1:Below wr.heap.size wr W1:=by rw [← hW1];exact (Below.refl _ _).alloc (Nat.le_refl _) _
   have hr1:=(hb1.block w.heap.size (by omega)).trans hrr
   have r0:W1.cell? ⟨wr.heap.size,0,none⟩=some (.int .i64 3):=by unfold World.cell?;rw [hx1];rfl
   have r1:W1.cell? ⟨wr.heap.size,1,none⟩=some (.string ⟨#[101,120,105,116]⟩):=by unfold World.cell?;rw [hx1];rfl
   have r2:W1.cell? ⟨wr.heap.size,2,none⟩=some (.bool false):=by unfold World.cell?;rw [hx1];rfl
   have r3:W1.cell? ⟨wr.heap.size,3,none⟩=some (.bool false):=by unfold World.cell?;rw [hx1];rfl
   have j0:W1.cell? ⟨w.heap.size,0,none⟩=some (.int .i64 0):=by unfold World.cell?;rw [hr1];rfl
   have j1:W1.cell? ⟨w.heap.size,1,none⟩=some (.string ⟨#[]⟩):=by unfold World.cell?;rw [hr1];rfl
   have j2:W1.cell? ⟨w.heap.size,2,none⟩=some (.bool false):=by unfold World.cell?;rw [hr1];rfl
   have j3:W1.cell? ⟨w.heap.size,3,none⟩=some (.bool false):=by unfold World.cell?;rw [hr1];rfl
   have jf:∀ i,W1.frozen? ⟨w.heap.size,i,none⟩=false:=fun i=>by unfold World.frozen?;rw [hr1];simp
   have HB2:=Lib.hid (HB1.out.trans ((HBw.out.trans (hb1.mono HBw.out.size)).mono (by omega)))
   have HB3:=Lib.hid (HBw.out.trans (hb1.mono HBw.out.size))
   have hz3:W1.heap.size=wr.heap.size+1:=by rw [← hW1];simp
   rw [hW1]
   clear hx1 hb1 hr1 hrr hz3 hW1
   by_cases hn:name=methodP 3
   ·have hq:(([101,120,105,116]:List UInt8)==name)=true:=by rw [hn];decide
    have HQ:=Lib.hid (show methC (mK name)=.agg #[.int .i64 3,.string ⟨#[101,120,105,116]⟩,.bool false,.bool false] by rw [hn];kernel_rfl)
    clear hn
    go_wp2_with fail
    refine bodyPost_ret (v:=.agg #[.int .i64 3,.string ⟨#[101,120,105,116]⟩,.bool false,.bool false]) (by simp [results,Tryz.results39,go_sem,j0,j1,j2,j3]) rfl ?_
    exact ⟨by rw [HQ.out],(((HB2.out.setCell (p:=⟨w.heap.size,0,none⟩) (Nat.le_refl _) _).setCell (p:=⟨w.heap.size,1,none⟩) (Nat.le_refl _) _).setCell (p:=⟨w.heap.size,2,none⟩) (Nat.le_refl _) _).setCell (p:=⟨w.heap.size,3,none⟩) (Nat.le_refl _) _⟩
   ·have hq:(([101,120,105,116]:List UInt8)==name)=false:=beq_eq_false_iff_ne.2 fun h=>hn (h.symm.trans (by decide))
    have HN2:Hid (∀ k:Int,1≤k→k≤(3:Nat)→name≠methodP k):=Lib.hid (fun k h1 h2=>by
     by_cases h3:k≤(2:Nat)
     ·exact HN.out k h1 h3
     ·have:k=3:=by omega
      rw [this];exact hn)
    clear hn HN
    go_wp2_with fail
    go_roundw
    case rel=>exact ⟨3,by go_num,by omega,HN2,HB3⟩
    case measure=>simp [Go.RowKit.intOf]
  ·-- row 3
   go_upto_region 4 with (refine wpList_indexTab rfl _ _ _ rfl _ (hi3 _) ?_)
   obtain ⟨W1,hW1⟩:∃ W1,wr.alloc (.cells #[.int .i64 4,.string ⟨#[116,101,120,116,68,111,99,117,109,101,110,116,47,100,105,100,79,112,101,110]⟩,.bool false,.bool true] 73)=W1:=⟨_,rfl⟩
   have hx1:W1.heap[wr.heap.size]?=some (.cells #[.int .i64 4,.string ⟨#[116,101,120,116,68,111,99,117,109,101,110,116,47,100,105,100,79,112,101,110]⟩,.bool false,.bool true] 73 (0,0)):=by rw [← hW1];exact heap_alloc_new _ _
   have hb1:Below wr.heap.size wr W1:=by rw [← hW1];exact (Below.refl _ _).alloc (Nat.le_refl _) _
   have hr1:=(hb1.block w.heap.size (by omega)).trans hrr
   have r0:W1.cell? ⟨wr.heap.size,0,none⟩=some (.int .i64 4):=by unfold World.cell?;rw [hx1];rfl
   have r1:W1.cell? ⟨wr.heap.size,1,none⟩=some (.string ⟨#[116,101,120,116,68,111,99,117,109,101,110,116,47,100,105,100,79,112,101,110]⟩):=by unfold World.cell?;rw [hx1];rfl
   have r2:W1.cell? ⟨wr.heap.size,2,none⟩=some (.bool false):=by unfold World.cell?;rw [hx1];rfl
   have r3:W1.cell? ⟨wr.heap.size,3,none⟩=some (.bool true):=by unfold World.cell?;rw [hx1];rfl
   have j0:W1.cell? ⟨w.heap.size,0,none⟩=some (.int .i64 0):=by unfold World.cell?;rw [hr1];rfl
   have j1:W1.cell? ⟨w.heap.size,1,none⟩=some (.string ⟨#[]⟩):=by unfold World.cell?;rw [hr1];rfl
   have j2:W1.cell? ⟨w.heap.size,2,none⟩=some (.bool false):=by unfold World.cell?;rw [hr1];rfl
   have j3:W1.cell? ⟨w.heap.size,3,none⟩=some (.bool false):=by unfold World.cell?;rw [hr1];rfl
   have jf:∀ i,W1.frozen? ⟨w.heap.size,i,none⟩=false:=fun i=>by unfold World.frozen?;rw [hr1];simp
   have HB2:=Lib.hid (HB1.out.trans ((HBw.out.trans (hb1.mono HBw.out.size)).mono (by omega)))
   have HB3:=Lib.hid (HBw.out.trans (hb1.mono HBw.out.size))
   have hz3:W1.heap.size=wr.heap.size+1:=by rw [← hW1];simp
   rw [hW1]
   clear hx1 hb1 hr1 hrr hz3 hW1
   by_cases hn:name=methodP 4
   ·have hq:(([116,101,120,116,68,111,99,117,109,101,110,116,47,100,105,100,79,112,101,110]:List UInt8)==name)=true:=by rw [hn];decide
    have HQ:=Lib.hid (show methC (mK name)=.agg #[.int .i64 4,.string ⟨#[116,101,120,116,68,111,99,117,109,101,110,116,47,100,105,100,79,112,101,110]⟩,.bool false,.bool true] by rw [hn];kernel_rfl)
    clear hn
    go_wp2_with fail
    refine bodyPost_ret (v:=.agg #[.int .i64 4,.string ⟨#[116,101,120,116,68,111,99,117,109,101,110,116,47,100,105,100,79,112,101,110]⟩,.bool false,.bool true]) (by simp [results,Tryz.results39,go_sem,j0,j1,j2,j3]) rfl ?_
    exact ⟨by rw [HQ.out],(((HB2.out.setCell (p:=⟨w.heap.size,0,none⟩) (Nat.le_refl _) _).setCell (p:=⟨w.heap.size,1,none⟩) (Nat.le_refl _) _).setCell (p:=⟨w.heap.size,2,none⟩) (Nat.le_refl _) _).setCell (p:=⟨w.heap.size,3,none⟩) (Nat.le_refl _) _⟩
   ·have hq:(([116,101,120,116,68,111,99,117,109,101,110,116,47,100,105,100,79,112,101,110]:List UInt8)==name)=false:=beq_eq_false_iff_ne.2 fun h=>hn (h.symm.trans (by decide))
    have HN2:Hid (∀ k:Int,1≤k→k≤(4:Nat)→name≠methodP k):=Lib.hid (fun k h1 h2=>by
     by_cases h3:k≤(3:Nat)
     ·exact HN.out k h1 h3
     ·have:k=4:=by omega
      rw [this];exact hn)
    clear hn HN
    go_wp2_with fail
    go_roundw
    case rel=>exact ⟨4,by go_num,by omega,HN2,HB3⟩
    case measure=>simp [Go.RowKit.intOf]
  ·-- row 4
   go_upto_region 4 with (refine wpList_indexTab rfl _ _ _ rfl _ (hi4 _) ?_)
   obtain ⟨W1,hW1⟩:∃ W1,wr.alloc (.cells #[.int .i64 5,.string ⟨#[116,101,120,116,68,111,99,117,109,101,110,116,47,100,105,100,67,104,97,110,103,101]⟩,.bool false,.bool true] 73)=W1:=⟨_,rfl⟩
   have hx1:W1.heap[wr.heap.size]?=some (.cells #[.int .i64 5,.string ⟨#[116,101,120,116,68,111,99,117,109,101,110,116,47,100,105,100,67,104,97,110,103,101]⟩,.bool false,.bool true] 73 (0,0)):=by rw [← hW1];exact heap_alloc_new _ _
   have hb1:Below wr.heap.size wr W1:=by rw [← hW1];exact (Below.refl _ _).alloc (Nat.le_refl _) _
   have hr1:=(hb1.block w.heap.size (by omega)).trans hrr
   have r0:W1.cell? ⟨wr.heap.size,0,none⟩=some (.int .i64 5):=by unfold World.cell?;rw [hx1];rfl
   have r1:W1.cell? ⟨wr.heap.size,1,none⟩=some (.string ⟨#[116,101,120,116,68,111,99,117,109,101,110,116,47,100,105,100,67,104,97,110,103,101]⟩):=by unfold World.cell?;rw [hx1];rfl
   have r2:W1.cell? ⟨wr.heap.size,2,none⟩=some (.bool false):=by unfold World.cell?;rw [hx1];rfl
   have r3:W1.cell? ⟨wr.heap.size,3,none⟩=some (.bool true):=by unfold World.cell?;rw [hx1];rfl
   have j0:W1.cell? ⟨w.heap.size,0,none⟩=some (.int .i64 0):=by unfold World.cell?;rw [hr1];rfl
   have j1:W1.cell? ⟨w.heap.size,1,none⟩=some (.string ⟨#[]⟩):=by unfold World.cell?;rw [hr1];rfl
   have j2:W1.cell? ⟨w.heap.size,2,none⟩=some (.bool false):=by unfold World.cell?;rw [hr1];rfl
   have j3:W1.cell? ⟨w.heap.size,3,none⟩=some (.bool false):=by unfold World.cell?;rw [hr1];rfl
   have jf:∀ i,W1.frozen? ⟨w.heap.size,i,none⟩=false:=fun i=>by unfold World.frozen?;rw [hr1];simp
   have HB2:=Lib.hid (HB1.out.trans ((HBw.out.trans (hb1.mono HBw.out.size)).mono (by omega)))
   have HB3:=Lib.hid (HBw.out.trans (hb1.mono HBw.out.size))
   have hz3:W1.heap.size=wr.heap.size+1:=by rw [← hW1];simp
   rw [hW1]
   clear hx1 hb1 hr1 hrr hz3 hW1
   by_cases hn:name=methodP 5
   ·have hq:(([116,101,120,116,68,111,99,117,109,101,110,116,47,100,105,100,67,104,97,110,103,101]:List UInt8)==name)=true:=by rw [hn];decide
    have HQ:=Lib.hid (show methC (mK name)=.agg #[.int .i64 5,.string ⟨#[116,101,120,116,68,111,99,117,109,101,110,116,47,100,105,100,67,104,97,110,103,101]⟩,.bool false,.bool true] by rw [hn];kernel_rfl)
    clear hn
    go_wp2_with fail
    refine bodyPost_ret (v:=.agg #[.int .i64 5,.string ⟨#[116,101,120,116,68,111,99,117,109,101,110,116,47,100,105,100,67,104,97,110,103,101]⟩,.bool false,.bool true]) (by simp [results,Tryz.results39,go_sem,j0,j1,j2,j3]) rfl ?_
    exact ⟨by rw [HQ.out],(((HB2.out.setCell (p:=⟨w.heap.size,0,none⟩) (Nat.le_refl _) _).setCell (p:=⟨w.heap.size,1,none⟩) (Nat.le_refl _) _).setCell (p:=⟨w.heap.size,2,none⟩) (Nat.le_refl _) _).setCell (p:=⟨w.heap.size,3,none⟩) (Nat.le_refl _) _⟩
   ·have hq:(([116,101,120,116,68,111,99,117,109,101,110,116,47,100,105,100,67,104,97,110,103,101]:List UInt8)==name)=false:=beq_eq_false_iff_ne.2 fun h=>hn (h.symm.trans (by decide))
    have HN2:Hid (∀ k:Int,1≤k→k≤(5:Nat)→name≠methodP k):=Lib.hid (fun k h1 h2=>by
     by_cases h3:k≤(4:Nat)
     ·exact HN.out k h1 h3
     ·have:k=5:=by omega
      rw [this];exact hn)
    clear hn HN
    go_wp2_with fail
    go_roundw
    case rel=>exact ⟨5,by go_num,by omega,HN2,HB3⟩
    case measure=>simp [Go.RowKit.intOf]
  ·-- row 5
   go_upto_region 4 with (refine wpList_indexTab rfl _ _ _ rfl _ (hi5 _) ?_)
   obtain ⟨W1,hW1⟩:∃ W1,wr.alloc (.cells #[.int .i64 6,.string ⟨#[116,101,120,116,68,111,99,117,109,101,110,116,47,100,105,100,67,108,111,115,101]⟩,.bool false,.bool true] 73)=W1:=⟨_,rfl⟩
   have hx1:W1.heap[wr.heap.size]?=some (.cells #[.int .i64 6,.string ⟨#[116,101,120,116,68,111,99,117,109,101,110,116,47,100,105,100,67,108,111,115,101]⟩,.bool false,.bool true] 73 (0,0)):=by rw [← hW1];exact heap_alloc_new _ _
   have hb1:Below wr.heap.size wr W1:=by rw [← hW1];exact (Below.refl _ _).alloc (Nat.le_refl _) _
   have hr1:=(hb1.block w.heap.size (by omega)).trans hrr
   have r0:W1.cell? ⟨wr.heap.size,0,none⟩=some (.int .i64 6):=by unfold World.cell?;rw [hx1];rfl
   have r1:W1.cell? ⟨wr.heap.size,1,none⟩=some (.string ⟨#[116,101,120,116,68,111,99,117,109,101,110,116,47,100,105,100,67,108,111,115,101]⟩):=by unfold World.cell?;rw [hx1];rfl
   have r2:W1.cell? ⟨wr.heap.size,2,none⟩=some (.bool false):=by unfold World.cell?;rw [hx1];rfl
   have r3:W1.cell? ⟨wr.heap.size,3,none⟩=some (.bool true):=by unfold World.cell?;rw [hx1];rfl
   have j0:W1.cell? ⟨w.heap.size,0,none⟩=some (.int .i64 0):=by unfold World.cell?;rw [hr1];rfl
   have j1:W1.cell? ⟨w.heap.size,1,none⟩=some (.string ⟨#[]⟩):=by unfold World.cell?;rw [hr1];rfl
   have j2:W1.cell? ⟨w.heap.size,2,none⟩=some (.bool false):=by unfold World.cell?;rw [hr1];rfl
   have j3:W1.cell? ⟨w.heap.size,3,none⟩=some (.bool false):=by unfold World.cell?;rw [hr1];rfl
   have jf:∀ i,W1.frozen? ⟨w.heap.size,i,none⟩=false:=fun i=>by unfold World.frozen?;rw [hr1];simp
   have HB2:=Lib.hid (HB1.out.trans ((HBw.out.trans (hb1.mono HBw.out.size)).mono (by omega)))
   have HB3:=Lib.hid (HBw.out.trans (hb1.mono HBw.out.size))
   have hz3:W1.heap.size=wr.heap.size+1:=by rw [← hW1];simp
   rw [hW1]
   clear hx1 hb1 hr1 hrr hz3 hW1
   by_cases hn:name=methodP 6
   ·have hq:(([116,101,120,116,68,111,99,117,109,101,110,116,47,100,105,100,67,108,111,115,101]:List UInt8)==name)=true:=by rw [hn];decide
    have HQ:=Lib.hid (show methC (mK name)=.agg #[.int .i64 6,.string ⟨#[116,101,120,116,68,111,99,117,109,101,110,116,47,100,105,100,67,108,111,115,101]⟩,.bool false,.bool true] by rw [hn];kernel_rfl)
    clear hn
    go_wp2_with fail
    refine bodyPost_ret (v:=.agg #[.int .i64 6,.string ⟨#[116,101,120,116,68,111,99,117,109,101,110,116,47,100,105,100,67,108,111,115,101]⟩,.bool false,.bool true]) (by simp [results,Tryz.results39,go_sem,j0,j1,j2,j3]) rfl ?_
    exact ⟨by rw [HQ.out],(((HB2.out.setCell (p:=⟨w.heap.size,0,none⟩) (Nat.le_refl _) _).setCell (p:=⟨w.heap.size,1,none⟩) (Nat.le_refl _) _).setCell (p:=⟨w.heap.size,2,none⟩) (Nat.le_refl _) _).setCell (p:=⟨w.heap.size,3,none⟩) (Nat.le_refl _) _⟩
   ·have hq:(([116,101,120,116,68,111,99,117,109,101,110,116,47,100,105,100,67,108,111,115,101]:List UInt8)==name)=false:=beq_eq_false_iff_ne.2 fun h=>hn (h.symm.trans (by decide))
    have HN2:Hid (∀ k:Int,1≤k→k≤(6:Nat)→name≠methodP k):=Lib.hid (fun k h1 h2=>by
     by_cases h3:k≤(5:Nat)
     ·exact HN.out k h1 h3
     ·have:k=6:=by omega
      rw [this];exact hn)
    clear hn HN
    go_wp2_with fail
    go_roundw
    case rel=>exact ⟨6,by go_num,by omega,HN2,HB3⟩
    case measure=>simp [Go.RowKit.intOf]
  ·-- row 6
   go_upto_region 4 with (refine wpList_indexTab rfl _ _ _ rfl _ (hi6 _) ?_)
   obtain ⟨W1,hW1⟩:∃ W1,wr.alloc (.cells #[.int .i64 7,.string ⟨#[116,101,120,116,68,111,99,117,109,101,110,116,47,104,111,118,101,114]⟩,.bool true,.bool true] 73)=W1:=⟨_,rfl⟩
   have hx1:W1.heap[wr.heap.size]?=some (.cells #[.int .i64 7,.string ⟨#[116,101,120,116,68,111,99,117,109,101,110,116,47,104,111,118,101,114]⟩,.bool true,.bool true] 73 (0,0)):=by rw [← hW1];exact heap_alloc_new _ _
   have hb1:Below wr.heap.size wr W1:=by rw [← hW1];exact (Below.refl _ _).alloc (Nat.le_refl _) _
   have hr1:=(hb1.block w.heap.size (by omega)).trans hrr
   have r0:W1.cell? ⟨wr.heap.size,0,none⟩=some (.int .i64 7):=by unfold World.cell?;rw [hx1];rfl
   have r1:W1.cell? ⟨wr.heap.size,1,none⟩=some (.string ⟨#[116,101,120,116,68,111,99,117,109,101,110,116,47,104,111,118,101,114]⟩):=by unfold World.cell?;rw [hx1];rfl
   have r2:W1.cell? ⟨wr.heap.size,2,none⟩=some (.bool true):=by unfold World.cell?;rw [hx1];rfl
   have r3:W1.cell? ⟨wr.heap.size,3,none⟩=some (.bool true):=by unfold World.cell?;rw [hx1];rfl
   have j0:W1.cell? ⟨w.heap.size,0,none⟩=some (.int .i64 0):=by unfold World.cell?;rw [hr1];rfl
   have j1:W1.cell? ⟨w.heap.size,1,none⟩=some (.string ⟨#[]⟩):=by unfold World.cell?;rw [hr1];rfl
   have j2:W1.cell? ⟨w.heap.size,2,none⟩=some (.bool false):=by unfold World.cell?;rw [hr1];rfl
   have j3:W1.cell? ⟨w.heap.size,3,none⟩=some (.bool false):=by unfold World.cell?;rw [hr1];rfl
   have jf:∀ i,W1.frozen? ⟨w.heap.size,i,none⟩=false:=fun i=>by unfold World.frozen?;rw [hr1];simp
   have HB2:=Lib.hid (HB1.out.trans ((HBw.out.trans (hb1.mono HBw.out.size)).mono (by omega)))
   have HB3:=Lib.hid (HBw.out.trans (hb1.mono HBw.out.size))
   have hz3:W1.heap.size=wr.heap.size+1:=by rw [← hW1];simp
   rw [hW1]
   clear hx1 hb1 hr1 hrr hz3 hW1
   by_cases hn:name=methodP 7
   ·have hq:(([116,101,120,116,68,111,99,117,109,101,110,116,47,104,111,118,101,114]:List UInt8)==name)=true:=by rw [hn];decide
    have HQ:=Lib.hid (show methC (mK name)=.agg #[.int .i64 7,.string ⟨#[116,101,120,116,68,111,99,117,109,101,110,116,47,104,111,118,101,114]⟩,.bool true,.bool true] by rw [hn];kernel_rfl)
    clear hn
    go_wp2_with fail
    refine bodyPost_ret (v:=.agg #[.int .i64 7,.string ⟨#[116,101,120,116,68,111,99,117,109,101,110,116,47,104,111,118,101,114]⟩,.bool true,.bool true]) (by simp [results,Tryz.results39,go_sem,j0,j1,j2,j3]) rfl ?_
    exact ⟨by rw [HQ.out],(((HB2.out.setCell (p:=⟨w.heap.size,0,none⟩) (Nat.le_refl _) _).setCell (p:=⟨w.heap.size,1,none⟩) (Nat.le_refl _) _).setCell (p:=⟨w.heap.size,2,none⟩) (Nat.le_refl _) _).setCell (p:=⟨w.heap.size,3,none⟩) (Nat.le_refl _) _⟩
   ·have hq:(([116,101,120,116,68,111,99,117,109,101,110,116,47,104,111,118,101,114]:List UInt8)==name)=false:=beq_eq_false_iff_ne.2 fun h=>hn (h.symm.trans (by decide))
    have HN2:Hid (∀ k:Int,1≤k→k≤(7:Nat)→name≠methodP k):=Lib.hid (fun k h1 h2=>by
     by_cases h3:k≤(6:Nat)
     ·exact HN.out k h1 h3
     ·have:k=7:=by omega
      rw [this];exact hn)
    clear hn HN
    go_wp2_with fail
    go_roundw
    case rel=>exact ⟨7,by go_num,by omega,HN2,HB3⟩
    case measure=>simp [Go.RowKit.intOf]
  ·-- row 7
   go_upto_region 4 with (refine wpList_indexTab rfl _ _ _ rfl _ (hi7 _) ?_)
   obtain ⟨W1,hW1⟩:∃ W1,wr.alloc (.cells #[.int .i64 8,.string ⟨#[116,101,120,116,68,111,99,117,109,101,110,116,47,100,105,97,103,110,111,115,116,105,99]⟩,.bool true,.bool true] 73)=W1:=⟨_,rfl⟩
   have hx1:W1.heap[wr.heap.size]?=some (.cells #[.int .i64 8,.string ⟨#[116,101,120,116,68,111,99,117,109,101,110,116,47,100,105,97,103,110,111,115,116,105,99]⟩,.bool true,.bool true] 73 (0,0)):=by rw [← hW1];exact heap_alloc_new _ _
   have hb1:Below wr.heap.size wr W1:=by rw [← hW1];exact (Below.refl _ _).alloc (Nat.le_refl _) _
   have hr1:=(hb1.block w.heap.size (by omega)).trans hrr
   have r0:W1.cell? ⟨wr.heap.size,0,none⟩=some (.int .i64 8):=by unfold World.cell?;rw [hx1];rfl
   have r1:W1.cell? ⟨wr.heap.size,1,none⟩=some (.string ⟨#[116,101,120,116,68,111,99,117,109,101,110,116,47,100,105,97,103,110,111,115,116,105,99]⟩):=by unfold World.cell?;rw [hx1];rfl
   have r2:W1.cell? ⟨wr.heap.size,2,none⟩=some (.bool true):=by unfold World.cell?;rw [hx1];rfl
   have r3:W1.cell? ⟨wr.heap.size,3,none⟩=some (.bool true):=by unfold World.cell?;rw [hx1];rfl
   have j0:W1.cell? ⟨w.heap.size,0,none⟩=some (.int .i64 0):=by unfold World.cell?;rw [hr1];rfl
   have j1:W1.cell? ⟨w.heap.size,1,none⟩=some (.string ⟨#[]⟩):=by unfold World.cell?;rw [hr1];rfl
   have j2:W1.cell? ⟨w.heap.size,2,none⟩=some (.bool false):=by unfold World.cell?;rw [hr1];rfl
   have j3:W1.cell? ⟨w.heap.size,3,none⟩=some (.bool false):=by unfold World.cell?;rw [hr1];rfl
   have jf:∀ i,W1.frozen? ⟨w.heap.size,i,none⟩=false:=fun i=>by unfold World.frozen?;rw [hr1];simp
   have HB2:=Lib.hid (HB1.out.trans ((HBw.out.trans (hb1.mono HBw.out.size)).mono (by omega)))
   have HB3:=Lib.hid (HBw.out.trans (hb1.mono HBw.out.size))
   have hz3:W1.heap.size=wr.heap.size+1:=by rw [← hW1];simp
   rw [hW1]
   clear hx1 hb1 hr1 hrr hz3 hW1
   by_cases hn:name=methodP 8
   ·have hq:(([116,101,120,116,68,111,99,117,109,101,110,116,47,100,105,97,103,110,111,115,116,105,99]:List UInt8)==name)=true:=by rw [hn];decide
    have HQ:=Lib.hid (show methC (mK name)=.agg #[.int .i64 8,.string ⟨#[116,101,120,116,68,111,99,117,109,101,110,116,47,100,105,97,103,110,111,115,116,105,99]⟩,.bool true,.bool true] by rw [hn];kernel_rfl)
    clear hn
    go_wp2_with fail
    refine bodyPost_ret (v:=.agg #[.int .i64 8,.string ⟨#[116,101,120,116,68,111,99,117,109,101,110,116,47,100,105,97,103,110,111,115,116,105,99]⟩,.bool true,.bool true]) (by simp [results,Tryz.results39,go_sem,j0,j1,j2,j3]) rfl ?_
    exact ⟨by rw [HQ.out],(((HB2.out.setCell (p:=⟨w.heap.size,0,none⟩) (Nat.le_refl _) _).setCell (p:=⟨w.heap.size,1,none⟩) (Nat.le_refl _) _).setCell (p:=⟨w.heap.size,2,none⟩) (Nat.le_refl _) _).setCell (p:=⟨w.heap.size,3,none⟩) (Nat.le_refl _) _⟩
   ·have hq:(([116,101,120,116,68,111,99,117,109,101,110,116,47,100,105,97,103,110,111,115,116,105,99]:List UInt8)==name)=false:=beq_eq_false_iff_ne.2 fun h=>hn (h.symm.trans (by decide))
    have HN2:Hid (∀ k:Int,1≤k→k≤(8:Nat)→name≠methodP k):=Lib.hid (fun k h1 h2=>by
     by_cases h3:k≤(7:Nat)
     ·exact HN.out k h1 h3
     ·have:k=8:=by omega
      rw [this];exact hn)
    clear hn HN
    go_wp2_with fail
    go_roundw
    case rel=>exact ⟨8,by go_num,by omega,HN2,HB3⟩
    case measure=>simp [Go.RowKit.intOf]
  ·-- row 8
   go_upto_region 4 with (refine wpList_indexTab rfl _ _ _ rfl _ (hi8 _) ?_)
   obtain ⟨W1,hW1⟩:∃ W1,wr.alloc (.cells #[.int .i64 9,.string ⟨#[36,47,99,97,110,99,101,108,82,101,113,117,101,115,116]⟩,.bool false,.bool true] 73)=W1:=⟨_,rfl⟩
   have hx1:W1.heap[wr.heap.size]?=some (.cells #[.int .i64 9,.string ⟨#[36,47,99,97,110,99,101,108,82,101,113,117,101,115,116]⟩,.bool false,.bool true] 73 (0,0)):=by rw [← hW1];exact heap_alloc_new _ _
   have hb1:Below wr.heap.size wr W1:=by rw [← hW1];exact (Below.refl _ _).alloc (Nat.le_refl _) _
   have hr1:=(hb1.block w.heap.size (by omega)).trans hrr
   have r0:W1.cell? ⟨wr.heap.size,0,none⟩=some (.int .i64 9):=by unfold World.cell?;rw [hx1];rfl
   have r1:W1.cell? ⟨wr.heap.size,1,none⟩=some (.string ⟨#[36,47,99,97,110,99,101,108,82,101,113,117,101,115,116]⟩):=by unfold World.cell?;rw [hx1];rfl
   have r2:W1.cell? ⟨wr.heap.size,2,none⟩=some (.bool false):=by unfold World.cell?;rw [hx1];rfl
   have r3:W1.cell? ⟨wr.heap.size,3,none⟩=some (.bool true):=by unfold World.cell?;rw [hx1];rfl
   have j0:W1.cell? ⟨w.heap.size,0,none⟩=some (.int .i64 0):=by unfold World.cell?;rw [hr1];rfl
   have j1:W1.cell? ⟨w.heap.size,1,none⟩=some (.string ⟨#[]⟩):=by unfold World.cell?;rw [hr1];rfl
   have j2:W1.cell? ⟨w.heap.size,2,none⟩=some (.bool false):=by unfold World.cell?;rw [hr1];rfl
   have j3:W1.cell? ⟨w.heap.size,3,none⟩=some (.bool false):=by unfold World.cell?;rw [hr1];rfl
   have jf:∀ i,W1.frozen? ⟨w.heap.size,i,none⟩=false:=fun i=>by unfold World.frozen?;rw [hr1];simp
   have HB2:=Lib.hid (HB1.out.trans ((HBw.out.trans (hb1.mono HBw.out.size)).mono (by omega)))
   have HB3:=Lib.hid (HBw.out.trans (hb1.mono HBw.out.size))
   have hz3:W1.heap.size=wr.heap.size+1:=by rw [← hW1];simp
   rw [hW1]
   clear hx1 hb1 hr1 hrr hz3 hW1
   by_cases hn:name=methodP 9
   ·have hq:(([36,47,99,97,110,99,101,108,82,101,113,117,101,115,116]:List UInt8)==name)=true:=by rw [hn];decide
    have HQ:=Lib.hid (show methC (mK name)=.agg #[.int .i64 9,.string ⟨#[36,47,99,97,110,99,101,108,82,101,113,117,101,115,116]⟩,.bool false,.bool true] by rw [hn];kernel_rfl)
    clear hn
    go_wp2_with fail
    refine bodyPost_ret (v:=.agg #[.int .i64 9,.string ⟨#[36,47,99,97,110,99,101,108,82,101,113,117,101,115,116]⟩,.bool false,.bool true]) (by simp [results,Tryz.results39,go_sem,j0,j1,j2,j3]) rfl ?_
    exact ⟨by rw [HQ.out],(((HB2.out.setCell (p:=⟨w.heap.size,0,none⟩) (Nat.le_refl _) _).setCell (p:=⟨w.heap.size,1,none⟩) (Nat.le_refl _) _).setCell (p:=⟨w.heap.size,2,none⟩) (Nat.le_refl _) _).setCell (p:=⟨w.heap.size,3,none⟩) (Nat.le_refl _) _⟩
   ·have hq:(([36,47,99,97,110,99,101,108,82,101,113,117,101,115,116]:List UInt8)==name)=false:=beq_eq_false_iff_ne.2 fun h=>hn (h.symm.trans (by decide))
    have HN2:Hid (∀ k:Int,1≤k→k≤(9:Nat)→name≠methodP k):=Lib.hid (fun k h1 h2=>by
     by_cases h3:k≤(8:Nat)
     ·exact HN.out k h1 h3
     ·have:k=9:=by omega
      rw [this];exact hn)
    clear hn HN
    go_wp2_with fail
    go_roundw
    case rel=>exact ⟨9,by go_num,by omega,HN2,HB3⟩
    case measure=>simp [Go.RowKit.intOf]
  ·-- no row
   have hq:methC (mK name)=.agg #[.int .i64 0,.string ⟨#[]⟩,.bool false,.bool false]:=by
    have h0:mK name=0:=by
     unfold mK
     rw [if_neg (fun h=>HN.out 1 (by omega) (by omega) (by rw [h];decide))]
     rw [if_neg (fun h=>HN.out 2 (by omega) (by omega) (by rw [h];decide))]
     rw [if_neg (fun h=>HN.out 3 (by omega) (by omega) (by rw [h];decide))]
     rw [if_neg (fun h=>HN.out 4 (by omega) (by omega) (by rw [h];decide))]
     rw [if_neg (fun h=>HN.out 5 (by omega) (by omega) (by rw [h];decide))]
     rw [if_neg (fun h=>HN.out 6 (by omega) (by omega) (by rw [h];decide))]
     rw [if_neg (fun h=>HN.out 7 (by omega) (by omega) (by rw [h];decide))]
     rw [if_neg (fun h=>HN.out 8 (by omega) (by omega) (by rw [h];decide))]
     rw [if_neg (fun h=>HN.out 9 (by omega) (by omega) (by rw [h];decide))]
    rw [h0]
    exact m0
   have HQ:=Lib.hid hq
   have HB2:=Lib.hid (HB1.out.trans (HBw.out.mono (by omega)))
   have j0:wr.cell? ⟨w.heap.size,0,none⟩=some (.int .i64 0):=by unfold World.cell?;rw [hrr];rfl
   have j1:wr.cell? ⟨w.heap.size,1,none⟩=some (.string ⟨#[]⟩):=by unfold World.cell?;rw [hrr];rfl
   have j2:wr.cell? ⟨w.heap.size,2,none⟩=some (.bool false):=by unfold World.cell?;rw [hrr];rfl
   have j3:wr.cell? ⟨w.heap.size,3,none⟩=some (.bool false):=by unfold World.cell?;rw [hrr];rfl
   have jf:∀ i,wr.frozen? ⟨w.heap.size,i,none⟩=false:=fun i=>by unfold World.frozen?;rw [hrr];simp
   clear hrr hq
   go_wp2_with fail
   refine bodyPost_ret (v:=.agg #[.int .i64 0,.string ⟨#[]⟩,.bool false,.bool false]) (by simp [results,Tryz.results39,go_sem,j0,j1,j2,j3]) rfl ?_
   exact ⟨by rw [HQ.out],(((HB2.out.setCell (p:=⟨w.heap.size,0,none⟩) (Nat.le_refl _) _).setCell (p:=⟨w.heap.size,1,none⟩) (Nat.le_refl _) _).setCell (p:=⟨w.heap.size,2,none⟩) (Nat.le_refl _) _).setCell (p:=⟨w.heap.size,3,none⟩) (Nat.le_refl _) _⟩
end Go.Proofs.YtpbnhnilfpoljaaGreatDoor.M
