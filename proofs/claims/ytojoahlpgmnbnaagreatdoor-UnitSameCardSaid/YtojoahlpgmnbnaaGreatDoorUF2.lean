/- What the claim needs of the texts KNext, KThen, KBegin, KMake. -/
import Derived.Test.YtojoahlpgmnbnaaGreatDoorUFOp
import Derived.Test.YtojoahlpgmnbnaaGreatDoorUF1
import Derived.Defers
import Derived.Recover
import Derived.Laws.Pointers
import Derived.Laws.Rows
import Derived.RangeFuncNested
import Derived.RangeFuncBound
import Derived.RangeFuncCalls
import Derived.RangeFuncLeaves
import Derived.WalkKit
import Derived.OwnWalkIn
import Derived.TacticsInMore
import Derived.LoopNIn
import Derived.LoopIn
namespace Go.Proofs.YtojoahlpgmnbnaaGreatDoor.K
open Go.RowKit
open Go.Lib hiding intOf
open U S T
def tokV (t:TokP):Value:=.agg #[.int .i64 t.w,.string ⟨t.t.toArray⟩,.int .i64 t.f,.int .i64 t.e]
theorem heap_new (W:World) (o:Obj):(W.alloc o).heap[W.heap.size]?=some o:=heap_alloc_new W o
theorem fld0 (a b c e:Value) (W:World):(Instr.field 86 (.agg #[a,b,c,e]) 0).run Tryz.prog W=.ok a W:=by kernel_rfl
theorem fld1 (a b c e:Value) (W:World):(Instr.field 86 (.agg #[a,b,c,e]) 1).run Tryz.prog W=.ok b W:=by kernel_rfl
theorem fld2 (a b c e:Value) (W:World):(Instr.field 86 (.agg #[a,b,c,e]) 2).run Tryz.prog W=.ok c W:=by kernel_rfl
section
variable {d:Nat} {L:List TokP} {size:Nat} {lv:Value} {s:St} {O:Nat→Prop}
set_option maxHeartbeats 4000000 in
set_option maxRecDepth 20000 in
theorem next_any {W:World} (hM:Mem d L size lv s O W) (hi:s.i≤L.length) :
  Calls Tryz.prog 116 #[ptr d] W fun e W'=>e=.returned (tokV (tok L size s.i))∧Below W.heap.size W W':=by
 obtain ⟨g,off,cap,n,hn,hg,c0,c1,k0,k1,k2,k3⟩:=hM.word hi
 have hd:=hM.dlt
 generalize tok L size s.i=t at k0 k1 k2 k3 ⊢
 obtain ⟨tw,tt,tf,te⟩:=t
 obtain ⟨y,hy⟩:∃ y:ByteArray,(⟨tt.toArray⟩:ByteArray)=y:=⟨_,rfl⟩
 dsimp only [tokV] at k0 k1 k2 k3 ⊢
 rw [hy] at k1 ⊢
 obtain ⟨i,hi'⟩:∃ i,s.i=i:=⟨_,rfl⟩
 rw [hi'] at c1 k0 k1 k2 k3
 have hlt:i<n:=by omega
 have hin0:(0:Int)≤(i:Int):=by omega
 have hin1:(i:Int)<(n:Int):=by omega
 clear hy hM hi hi' hn
 go_enter Tryz.func116,Tryz.ntmps116
 go_upto_region 1 with fail
 go_region
 go_wp2_with fail
 have hp:((W.alloc (.cells #[.int .i64 tw,.string y,.int .i64 tf,.int .i64 te] 86)).drew).heap[W.heap.size]?=some (.cells #[.int .i64 tw,.string y,.int .i64 tf,.int .i64 te] 86 (0,0)):=heap_new W _
 refine bodyPost_ret (v:=.agg #[.int .i64 tw,.string y,.int .i64 tf,.int .i64 te]) (results_cell_row rfl _ _ W.heap.size 86 #[.int .i64 tw,.string y,.int .i64 tf,.int .i64 te] (0,0) _ (by rfl) hp Tryz.underlying86 rfl (by kernel_rfl)) rfl ?_
 exact ⟨rfl,((Below.refl _ _).alloc (Nat.le_refl _) _).drew⟩
set_option maxHeartbeats 4000000 in
set_option maxRecDepth 20000 in
theorem is_any {W:World} (hM:Mem d L size lv s O W) (hi:s.i≤L.length) (x:By) :
  Calls Tryz.prog 133 #[ptr d,.string (bstr x)] W fun e W'=>e=.returned (.bool (isP L size x s.i))∧Below W.heap.size W W':=by
 have c1:=next_any hM hi
 unfold isP
 generalize tok L size s.i=t at c1 ⊢
 obtain ⟨tw,tt,tf,te⟩:=t
 dsimp only [tokV] at c1 ⊢
 obtain ⟨y,hy⟩:∃ y:ByteArray,(⟨tt.toArray⟩:ByteArray)=y:=⟨_,rfl⟩
 obtain ⟨z,hz⟩:∃ y:ByteArray,bstr x=y:=⟨_,rfl⟩
 have hyl:tt=y.toList:=by rw [← hy,ByteArray.toList_eq]
 have hzl:x=z.toList:=by rw [← hz,ByteArray.toList_eq];rfl
 rw [hy] at c1
 rw [hz,hyl,hzl]
 clear hy hz hyl hzl hM hi
 obtain ⟨b,hb⟩:∃ b,(y.toList==z.toList)=b:=⟨_,rfl⟩
 rw [hb]
 have hf:=fun W=>fld1 (.int .i64 tw) (.string y) (.int .i64 tf) (.int .i64 te) W
 go_enter Tryz.func133,Tryz.ntmps133
 go_wp2_with fail
 refine c1.mono ?_
 rintro e w1 ⟨rfl,hb1⟩
 go_wp2_with fail
 go_ret
 exact ⟨by first|rfl|rw [hb],hb1⟩
def Panics (L:List TokP) (size:Nat) (i:Nat) (W:World) (e:Ending) (W':World):Prop:=e=.panicked [{ v:=.iface 124 (.int .i64 (tok L size i).f),recovered:=false }]∧Below W.heap.size W W'
set_option maxHeartbeats 4000000 in
set_option maxRecDepth 20000 in
theorem fail_any {W:World} (hM:Mem d L size lv s O W) (hi:s.i≤L.length):Calls Tryz.prog 127 #[ptr d] W (Panics L size s.i W):=by
 have c1:=next_any hM hi
 unfold Panics
 generalize tok L size s.i=t at c1 ⊢
 obtain ⟨tw,tt,tf,te⟩:=t
 dsimp only [tokV] at c1 ⊢
 clear hM hi
 have hf:=fun W=>fld2 (.int .i64 tw) (.string ⟨tt.toArray⟩) (.int .i64 tf) (.int .i64 te) W
 go_enter Tryz.func127,Tryz.ntmps127
 go_wp2_with fail
 refine c1.mono ?_
 rintro e w1 ⟨rfl,hb1⟩
 go_wp2_with fail
 exact ⟨rfl,rfl,hb1⟩
set_option maxHeartbeats 4000000 in
set_option maxRecDepth 20000 in
theorem top_raw {W:World} (g n k c:Nat) (hn:n=k+1) (hk:k≤1099511627776) (c3:W.cell? ⟨d,3,none⟩=some (.slice (some ⟨g,0,none⟩) n c)) :
  Calls Tryz.prog 104 #[ptr d] W fun e W'=>e=.returned (.pointer (some ⟨g,k*6,none⟩))∧∃ m,W'=W.drewN m:=by
 have hk0:(0:Int)≤(k:Int):=by omega
 have hkn:(k:Int)<(n:Int):=by omega
 have hk2:k<n:=by omega
 have hi1:IntKind.i64.wrap ((n:Int) - 1)=(k:Int):=(IntWalk.i64_in _ (by omega)).trans (by omega)
 clear hn
 go_enter Tryz.func104,Tryz.ntmps104
 go_upto_region 1 with fail
 go_quiet (fail)
 go_wp2_with fail
 go_ret
 exact ⟨rfl,_,rfl⟩
end
end Go.Proofs.YtojoahlpgmnbnaaGreatDoor.K
namespace Go.Proofs.YtojoahlpgmnbnaaGreatDoor.K
open Go.RowKit
open Go.Lib hiding intOf
open U S T
def Steps {σ α:Type} (P:Program) (gf:Nat) (lb:Array Value) (encs:α→Array Value) (K:Nat→Prop) (R:σ→α→σ→Prop) (s0:σ) (S:σ→Prop) (w:World):Prop :=
 ∀ (l:Nat) (J:σ→World→Prop) (W:World),(∀ k,K k→W.heap[k]?=w.heap[k]?) →
  (∀ s x s' W1,R s x s'→J s W1→YieldAt Fence.wide 2 P l (encs x) W1 fun e W2=>e=.returned (.bool true)∧J s' W2∧∀ k,K k→W2.heap[k]?=W1.heap[k]?)→J s0 W →
  CallsIn Fence.wide 3 P gf (#[.func (.yield l) #[] #[]]++lb) W fun e W2=>(∃ v,e=.returned v)∧∃ s,S s∧J s W2
def goesOn (K:Nat→Prop) (J:World→Prop) (W:World):Exit→Act→World→Prop
 | .normal,_,W2=>KeepsOthers W W2∧(∀ k,K k→W2.heap[k]?=W.heap[k]?)∧J W2
 | .ret,_,_=>False
 | .exit _,_,_=>False
 | .goto _,_,_=>False
 | .panic _,_,_=>False
 | .outgrown,_,_=>False
theorem wp_steps {σ α:Type} {P:Program} {g:Operand} {ps:Array Tmp} {assign body:Code} {Q:Exit→Act→World→Prop} {a:Act} {w w0:World} {gf:Nat} {lb:Array Value} {encs:α→Array Value} {K:Nat→Prop} {R:σ→α→σ→Prop} {s0:σ} {S:σ→Prop}
  (hg:a.eval g=.func (.func gf) #[] lb) (eg:∀ args w,(callFunc gf args).run P w=.ok (.enter gf args) w) (hseq:Steps P gf lb encs K R s0 S w0) (hb0:∀ k,K k→w.heap[k]?=w0.heap[k]?) (hn0:∀ k,K k→k<w.heap.size) (hps:∀ x,(encs x).size=ps.size)
  (I:σ→World→Prop) (hI:OwnFrom w.heap.size I) (h0:I s0 w) (a1:α→Act)
  (hassign:∀ (l:Nat) (x:α) (W:World) (K:Act→World→Prop),K (a1 x) W→assign.wpIn (Fence.wide.inRound l) 2 P (Exit.then K (fun _ _ _=>False)) { tmps:=(ps.zip (encs x)).foldl (fun t (p,v)=>t.setIfInBounds p v) a.tmps,defers:=[] } W)
  (hbody:∀ (l:Nat) (s:σ) (x:α) (s':σ) (W:World),R s x s'→I s W→body.wpIn (Fence.wide.inRound l) 2 P (goesOn K (I s') W) (a1 x) W)
  (hdone:∀ (D:Nat) (s:σ) (W:World),w.heap.size≤D→S s→I s W→W.heap[D]?=some (.deferred (some []))→Q .normal { a with defers:={ target:=.collected D,args:=#[] } :: a.defers } W) :
  (Code.rangeFunc g ps assign body).wp P Q a w:=by
 refine (wpIn_wide (n:=4)).1 (wpIn_rangeFunc fun fn hfn=>?_)
 obtain ⟨D,hD⟩:∃ D,w.heap.size=D:=⟨_,rfl⟩
 obtain ⟨rec,hrec⟩:∃ rec:LoopState→Loop,rec=fun st=>{ state:=st,pending:=none,fn,tmps:=a.tmps,params:=ps,assign,body,defers:=D }:=⟨_,rfl⟩
 obtain ⟨W1,hW1⟩:∃ W1,(w.alloc (.deferred (some []))).alloc (.loop (rec .ready))=W1:=⟨_,rfl⟩
 have hK1:W1.heap[D]?=some (.deferred (some [])):=by
  rw [← hW1,← hD];exact (Below.heap_alloc _ _ _ (by simp)).trans (World.alloc_heap_new w _)
 have hL1:W1.heap[D+1]?=some (.loop (rec .ready)):=by
  have h:=World.alloc_heap_new (w.alloc (.deferred (some []))) (.loop (rec .ready))
  rw [World.size_alloc,hD,hW1] at h
  exact h
 have hI1:I s0 W1:=by rw [← hW1];exact hI.alloc _ (hI.alloc _ h0)
 have hb1:∀ k,K k→W1.heap[k]?=w0.heap[k]?:=fun k hk=>by
  have hlt:=hn0 k hk
  rw [← hW1];exact (Below.heap_alloc _ _ _ (by simp;omega)).trans ((Below.heap_alloc _ _ _ (by omega)).trans (hb0 k hk))
 have henter:=run_enterLoop_outer (P:=P) (w:=w) fn a.tmps ps assign body
 rw [hD] at henter
 refine ⟨D+1,[{ target:=.collected D,args:=#[] }],W1,{ target:=.fn (.func gf) lb,args:=#[.func (.yield (D+1)) #[] #[]] },W1,gf,#[.func (.yield (D+1)) #[] #[]]++lb,W1,?_,?_,fun _ _=>trivial,?_,fun h=>by (simp [Fence.wide] at h),?_⟩
 ·rw [Fence.wide_round,← hW1,hrec]
  exact henter
 ·simp only [resolve,hg]
  simp [go_sem]
 ·simp [invoke,go_sem,eg]
 ·rw [hD] at hI hn0
  refine (hseq (D+1) (fun s W=>I s W∧W.heap[D+1]?=some (.loop (rec .ready))∧W.heap[D]?=some (.deferred (some []))) W1 hb1 ?_ ⟨hI1,hL1,hK1⟩).mono ?_
  ·rintro s x s' W hR ⟨hi,hl,hk⟩
   have hlt:D+1<W.heap.size:=(Array.getElem?_eq_some_iff.1 hl).1
   obtain ⟨W2,hW2⟩:∃ W2,W.putObj (D+1) (.loop (rec .busy))=W2:=⟨_,rfl⟩
   have hl2:W2.heap[D+1]?=some (.loop (rec .busy)):=by rw [← hW2];exact World.putObj_heap_same hlt
   have hk2:W2.heap[D]?=some (.deferred (some [])):=by rw [← hW2];exact (World.putObj_heap_other (by omega)).trans hk
   have hi2:I s W2:=by rw [← hW2];exact hI.putObj _ hi (by omega) hl rfl
   have hb2:∀ k,K k→W2.heap[k]?=W.heap[k]?:=fun k hk=>by have:=hn0 k hk;rw [← hW2];exact World.putObj_heap_other (by omega)
   have hbegin:(Instr.beginRound (D+1)).run P W=.ok () W2:=by
    have h:=run_beginRound (P:=P) hl (by rw [hrec])
    rw [← hW2,h,hrec]
   have hy:=run_yield (P:=P) (args:=encs x) hl (by rw [hrec];exact hps x)
   rw [hrec] at hy
   refine ⟨fn,_,assign,body,hy,roundIn_of_wpIn hfn (hassign _ x W _ ⟨_,hbegin,wpIn_mono (hbody _ s x s' W2 hR hi2) ?_⟩)⟩
   rintro e a3 W3 hp
   cases e with
   | normal =>
    obtain ⟨hko,hb3,hi3⟩:=hp
    have hl3:=hko.same _ _ hl2 rfl
    have hk3:=hko.same _ _ hk2 rfl
    have hlt3:D+1<W3.heap.size:=(Array.getElem?_eq_some_iff.1 hl3).1
    have hend:=run_endRound (P:=P) none hl3
    have hb4:∀ k,K k→(W3.putObj (D+1) (.loop (rec .ready))).heap[k]?=W3.heap[k]?:=fun k hk=>by have:=hn0 k hk;exact World.putObj_heap_other (by omega)
    refine ⟨_,W3.putObj (D+1) (.loop (rec .ready)),?_,rfl,⟨hI.putObj _ hi3 (by omega) hl3 rfl,World.putObj_heap_same hlt3,(World.putObj_heap_other (by omega)).trans hk3⟩,fun k hk=>(hb4 k hk).trans ((hb3 k hk).trans (hb2 k hk))⟩
    rw [hrec] at hend ⊢
    exact hend
   | ret=>exact hp.elim
   | exit id=>exact hp.elim
   | goto t=>exact hp.elim
   | panic ch=>exact hp.elim
   | outgrown=>exact hp.elim
  ·rintro e W2 ⟨⟨v,rfl⟩,s,hS,hi,hl,hk⟩
   have hend:=run_endLoop (P:=P) hl (by rw [hrec];simp)
   have hp:(rec .ready).pending=none:=by rw [hrec]
   rw [hp] at hend
   exact ⟨none,_,hend,hdone D s _ (by omega) hS (hI.putObj _ hi (by omega) hl rfl) ((World.putObj_heap_other (by omega)).trans hk)⟩
def BackL (s:List Value) (x:Int × Value) (s':List Value):Prop:=s=s'++[x.2]∧x.1=(s'.length:Int)
def encB (x:Int × Value):Array Value:=#[.int .i64 x.1,x.2]
attribute [local go_sem] Oper.semAt_some
set_option maxHeartbeats 4000000 in
set_option maxRecDepth 20000 in
theorem back_steps (vs:List Value) (k g:Nat) (w:World) (hk:w.heap[k]?=some (.cells #[.slice (some ⟨g,0,none⟩) vs.length vs.length] 121 (0,0))) (hg:w.heap[g]?=some (.cells vs.toArray 1 (0,0))) (hs:vs.length≤1000) :
  Steps Tryz.prog 130 #[ptr k] encB (fun b=>b=k∨b=g) BackL vs (fun s=>s=[]) w:=by
 intro l J W hW hY h0
 have hk0:W.heap[k]?=some (.cells #[.slice (some ⟨g,0,none⟩) vs.length vs.length] 121 (0,0)):=(hW k (.inl rfl)).trans hk
 have hg0:W.heap[g]?=some (.cells vs.toArray 1 (0,0)):=(hW g (.inr rfl)).trans hg
 have HY:=hid hY
 have HK0:=hid hk0
 have HG0:=hid hg0
 clear hY hW hk hg
 obtain ⟨n,hn⟩:∃ n,vs.length=n:=⟨_,rfl⟩
 have HN:=hid hn
 rw [hn] at hk0 hs HK0
 have hc0:W.cell? ⟨k,0,none⟩=some (.slice (some ⟨g,0,none⟩) n n):=by simp [World.cell?,hk0]
 clear hk0 hg0 hn
 refine callsIn_of_wp Tryz.func130 rfl trivial ?_ rfl
 simp only [Tryz.ntmps130,List.size_toArray,List.length_cons,List.length_nil,Nat.reduceAdd,Nat.reduceSub,Array.replicate_succ,Array.replicate_zero,List.push_toArray,List.append_toArray,List.nil_append,List.cons_append]
 have e0:IntKind.i64.wrap ((n:Int) - 1)=(n:Int) - 1:=IntWalk.i64_in _ (by omega)
 gi_wp2
 gi_loopw [3] (fun iv wr=>∃ (i:Nat),iv=.int .i64 ((i:Int) - 1)∧i≤n∧Hid (J (vs.take i) wr)∧Hid (wr.heap[k]?=some (.cells #[.slice (some ⟨g,0,none⟩) n n] 121 (0,0)))∧Hid (wr.heap[g]?=some (.cells vs.toArray 1 (0,0)))) (fun iv _=>(intOf iv+1).toNat)
 case atStart=>exact ⟨n,by first|rfl|rw [e0],Nat.le_refl _,hid (by rw [List.take_of_length_le (by rw [HN.out];exact Nat.le_refl _)];exact h0),HK0,HG0⟩
 case round =>
  obtain ⟨i,rfl,hi,HJ,HK,HG⟩:=hrel
  have hc:wr.cell? ⟨k,0,none⟩=some (.slice (some ⟨g,0,none⟩) n n):=by simp [World.cell?,HK.out]
  clear hc0
  by_cases h1:i=0
  ·subst h1
   have hd:decide ((0:Int)≤((0:Nat):Int) - 1)=false:=by decide
   gi_wp2
   go_end0
   exact ⟨⟨_,rfl⟩,[],rfl,HJ.out⟩
  ·obtain ⟨j,rfl⟩:∃ j,i=j+1:=⟨i - 1,by omega⟩
   have hjl:j<vs.length:=by rw [HN.out];omega
   obtain ⟨v,hv⟩:∃ v,vs[j]=v:=⟨_,rfl⟩
   have hcj:wr.cell? ⟨g,j,none⟩=some v:=by
    have h:=HG.out
    simp [World.cell?,h,hjl,hv]
   have e1:((j+1:Nat):Int) - 1=(j:Int):=by omega
   rw [e1]
   obtain ⟨fn,tmps,assign,body,hy,hR⟩:=HY.out (vs.take (j+1)) ((j:Int),v) (vs.take j) wr ⟨by rw [List.take_add_one,List.getElem?_eq_getElem hjl,hv];rfl,by rw [List.length_take];dsimp only;omega⟩ HJ.out
   dsimp only [encB] at hy
   have hj0:(0:Int)≤(j:Int):=by omega
   have hjn:(j:Int)<(n:Int):=by omega
   have hjn':j<n:=by omega
   have e2:IntKind.i64.wrap ((j:Int) - 1)=(j:Int) - 1:=IntWalk.i64_in _ (by omega)
   clear hv hjl e1
   gi_wp2
   refine hR.mono ?_
   rintro e W3 ⟨rfl,hJ3,hk3⟩
   have HJ3:=hid hJ3
   have HK3:Hid (W3.heap[k]?=some (.cells #[.slice (some ⟨g,0,none⟩) n n] 121 (0,0))):=hid ((hk3 k (.inl rfl)).trans HK.out)
   have HG3:Hid (W3.heap[g]?=some (.cells vs.toArray 1 (0,0))):=hid ((hk3 g (.inr rfl)).trans HG.out)
   clear hJ3 hk3
   gi_wp2
   go_roundw
   case rel=>exact ⟨j,by first|rfl|rw [e2],by omega,HJ3,HK3,HG3⟩
   case measure=>simp [intOf]
theorem oper_round {l n:Nat} {P:Program} {o:Oper} {a:Act} {w:World} {K:Act→World→Prop} {Q:Exit→Act→World→Prop} (hd:∀ c,o.op≠.defer c) (_hq:¬ LetsOut Q) (h:o.wp P a w K Q):o.wpIn (Fence.wide.inRound l) n P a w K Q:=by
 refine ⟨fun _ _=>trivial,?_⟩
 rw [Fence.inRound_round,Oper.semAt_some l _ _ hd]
 unfold Oper.wp at h
 generalize (execOp a.eval o).run P w=r at h
 cases r with
 | ok x w' =>
  cases x with
  | value v=>exact h
  | skip=>exact h
  | defer d=>exact h
  | enter f args=>exact ⟨fun h=>by simp [Fence.wide,Fence.inRound] at h,CallsIn.mono (CallsIn.inRound l (callsIn_wide.2 h)) (fun e w'' he=>by cases e <;> exact he)⟩
  | row r x=>exact ⟨fun h=>by simp [Fence.wide,Fence.inRound] at h,fun c cs _=>let ⟨v,w',q,st⟩:=h c cs;⟨v,w',q,stepsIn_wide.2 st⟩⟩
  | _=>exact h.elim
 | halt x w'=>cases x <;> first|exact h|exact h.elim
theorem any_round {l n:Nat} {P:Program} {ops:Array Oper} {Q:Exit→Act→World→Prop} {md:Region.Mode} (hd:∀ o∈ops,∀ c,o.op≠.defer c) (hq:¬ LetsOut Q) :
  ∀ (fuel:Nat) (listed:Array Bool) (a:Act) (w:World),wpAny P md ops Q fuel listed a w→wpAnyIn (Fence.wide.inRound l) n P md ops Q fuel listed a w
 | 0,_,_,_,h=>h
 | fuel+1,listed,a,w,h=>by
  refine ⟨h.1,fun i hi=>?_⟩
  have h2:=h.2 i hi
  unfold wpOp at h2
  unfold wpOpIn
  cases ho:ops[i]? with
  | none=>rw [ho] at h2;exact any_round hd hq fuel _ a w h2
  | some o =>
   rw [ho] at h2
   have hm:o∈ops:=Array.mem_of_getElem? ho
   dsimp only at h2 ⊢
   split at h2
   ·rename_i hw
    rw [if_pos hw]
    rcases h2 with h2|h2
    ·exact Oper.wpIn_mono (fun a' w' h'=>any_round hd hq fuel _ a' w' h') (oper_round (hd o hm) hq h2)
    ·exact absurd h2.2 hq
   ·rename_i hw
    rw [if_neg hw]
    exact ⟨fun _ _=>trivial,any_round hd hq fuel _ _ w h2⟩
theorem region_round {l n id:Nat} {P:Program} {ops:Array Oper} {Q:Exit→Act→World→Prop} {a:Act} {w:World} (hm:P.follows .mixedOrders=true) (hd:∀ o∈ops,∀ c,o.op≠.defer c) (hq:¬ LetsOut Q)
  (h:wpAny P .any ops Q ops.size (Array.replicate ops.size false) a w.drew):(Code.region id ops true).wpIn (Fence.wide.inRound l) n P Q a w :=
 wpIn_region_draw fun t=>by
  simp only [Region.schedule,hm,Bool.true_or,if_true]
  exact wpAnyIn_sound ops.size t _ a _ (any_round hd hq _ _ _ _ h)
theorem yields_load {P:Program} {ops:Array Oper} {S:World→Prop} {o:Oper} {v:Value} {a:Act} (t:TypeId) (x:Operand) (ho:o.op=.load t x) (hw:Region.wanted o (yielded ops a.tmps)=true) (h:∀ X,S X→(Instr.loadAt t (a.eval x)).run P X=.ok v X):YieldsIf P ops S o v a :=
 .inl ⟨hw,fun X hX=>by unfold execOp;rw [ho];simp only [Sem.run_bind,h X hX,Result.andThen_ok,Sem.run_pure]⟩
theorem wanted_step {c:Prop} [Decidable c] {A B:Prop} (hc:c) (hA:A):if c then A else B:=by rw [if_pos hc];exact hA
theorem load_one {d bx:Nat} {W:World} (h:W.cell? ⟨bx,0,none⟩=some (ptr d)):(Instr.loadAt 110 (.pointer (some ⟨bx,0,none⟩))).run Tryz.prog W=.ok (ptr d) W:=by
 simp [go_sem,h]
theorem infoF:(Tryz.prog.info? 1).map (fun i=>(i.zero,i.size,i.bytes))=some (some Value.nilFunc,1,8):=by kernel_rfl
section
variable {d:Nat} {L:List TokP} {size:Nat} {lv:Value} {s:St} {O:Nat→Prop}
def Ty (W:World) (k:Nat) (t:TypeId):Prop:=∃ cs fr,W.heap[k]?=some (.cells cs t fr)
theorem Ty.one {W:World} {k:Nat} {t u:TypeId} (h:Ty W k t) (h':Ty W k u):t=u:=by
 obtain ⟨_,_,h⟩:=h
 obtain ⟨_,_,h'⟩:=h'
 rw [h] at h'
 injection h' with h'
 injection h'
theorem owns_ty {W:World} {B n size k:Nat} {e:TypeId} {v:Value} {xs:List Value} (h:W.ownsRow B e size v n xs) (hk:v.ownBlock=some k):Ty W k e:=by
 rcases h.2 with ⟨rfl,_⟩|⟨g,cap,cur,rfl,_,h3,_⟩
 ·cases hk
 ·obtain rfl:g=k:=by simpa [Value.ownBlock] using hk
  exact ⟨_,_,h3⟩
theorem opens_ty {W:World} {k:Nat}:∀ {l:List Open} {xs:List Value} {bs:List (Option Nat)},OpensIn O W l xs bs→some k∈bs→Ty W k 49
 | [],_,_,⟨_,h⟩,hk=>by rw [h] at hk;cases hk
 | o :: r,_,_,⟨kv,ks,us,bs',_,h2,h3,_,h5⟩,hk=>by
  rw [h2] at hk
  rcases List.mem_cons.1 hk with hk|hk
  ·exact owns_ty h3 hk.symm
  ·exact opens_ty h5 hk
theorem MemX.ty {W:World} {tv ov:Value} {bs:List (Option Nat)} {vs xs:List Value} (h:MemX d L size lv s O tv ov bs vs xs W) {k:Nat} (hk:O k):Ty W k 123∨Ty W k 1∨Ty W k 128∨Ty W k 49:=by
 rcases (h.own k).1 hk with rfl|h1|h1|h1
 ·exact .inl ⟨_,_,h.blk⟩
 ·exact .inr (.inl (owns_ty h.todoR h1))
 ·exact .inr (.inr (.inl (owns_ty h.opnR h1)))
 ·exact .inr (.inr (.inr (opens_ty h.opn h1)))
theorem Mem.ty {W:World} (h:Mem d L size lv s O W) {k:Nat} (hk:O k):Ty W k 123∨Ty W k 1∨Ty W k 128∨Ty W k 49:=by
 obtain ⟨tv,ov,bs,vs,xs,h⟩:=h;exact h.ty hk
theorem Mem.not_own {W:World} (h:Mem d L size lv s O W) {k:Nat} {t:TypeId} (ht:Ty W k t) (h1:t≠123) (h2:t≠1) (h3:t≠128) (h4:t≠49):¬ O k:=by
 intro hk
 rcases h.ty hk with h|h|h|h
 ·exact h1 (ht.one h)
 ·exact h2 (ht.one h)
 ·exact h3 (ht.one h)
 ·exact h4 (ht.one h)
theorem Mem.own_cells {W:World} (h:Mem d L size lv s O W) {k:Nat} (hk:O k):∃ o:Obj,W.heap[k]?=some o∧o.isCells=true:=by
 rcases h.ty hk with ⟨cs,fr,h⟩|⟨cs,fr,h⟩|⟨cs,fr,h⟩|⟨cs,fr,h⟩ <;> exact ⟨_,h,rfl⟩
theorem Stay.others {O':Nat→Prop} {W W':World} (h:Stay O O' W W') (hM:Mem d L size lv s O W):KeepsOthers W W':=by
 refine ⟨h.size,fun k o hk hc=>?_⟩
 have hlt:k<W.heap.size:=(Array.getElem?_eq_some_iff.1 hk).1
 rw [h.block k hlt (fun hO=>by
  obtain ⟨o',h1,h2⟩:=hM.own_cells hO
  rw [hk] at h1;cases h1;rw [hc] at h2;cases h2)]
 exact hk
theorem push_mem {W Wd w5:World} {tv ov:Value} {bs:List (Option Nat)} {us xs:List Value} {x:Stp} {v:Value} {o:Obj} {g5 c5 m:Nat} (hM:MemX d L size lv s O tv ov bs us xs W) (hm:s.todo.length=m) (hx:StpIn O W d x v) (hd:Below W.heap.size W Wd)
  (hown:w5.ownsRow 0 1 1 (.slice (some ⟨g5,0,none⟩) (m+1) c5) (m+1) (us++[v])) (hgrow:(Wd.alloc o).grownBy w5 tv.ownBlock) (hat:tv.ownBlock=some g5∨W.heap.size≤g5) :
  w5.cell? ⟨d,2,none⟩=some tv∧w5.frozen? ⟨d,2,none⟩=false∧∃ O',Mem d L size lv { s with todo:=x :: s.todo } O' (w5.setCell ⟨d,2,none⟩ (.slice (some ⟨g5,0,none⟩) (m+1) c5))∧Stay O O' W (w5.setCell ⟨d,2,none⟩ (.slice (some ⟨g5,0,none⟩) (m+1) c5)):=by
 have hdl:d<W.heap.size:=(Array.getElem?_eq_some_iff.1 hM.blk).1
 have htd:tv.ownBlock≠some d:=fun e=>by have h1:=owns_ty hM.todoR e;have h2:Ty W d _:=⟨_,_,hM.blk⟩;exact absurd (h1.one h2) (by decide)
 have h5:∀ k,k<W.heap.size→tv.ownBlock≠some k→w5.heap[k]?=W.heap[k]?:=fun k hk hne =>
  (hgrow.block k (by rw [World.size_alloc];have:=hd.size;omega) (fun e=>hne e.symm)).trans ((Below.heap_alloc Wd o k (by have:=hd.size;omega)).trans (hd.block k hk))
 have hb5:=(h5 d hdl htd).trans hM.blk
 refine ⟨by simp [World.cell?,hb5],by simp [World.frozen?,hb5],fun k=>k=d∨g5=k∨ov.ownBlock=some k∨some k∈bs,?_⟩
 have hset:∀ k,k≠d→(w5.setCell ⟨d,2,none⟩ (.slice (some ⟨g5,0,none⟩) (m+1) c5)).heap[k]?=w5.heap[k]?:=fun k hk=>Below.heap_setCell _ _ _ _ hk
 have hz5:W.heap.size≤w5.heap.size:=by have h1:=hgrow.size;have h2:=hd.size;rw [World.size_alloc] at h1;omega
 have hS:Stay O (fun k=>k=d∨g5=k∨ov.ownBlock=some k∨some k∈bs) W (w5.setCell ⟨d,2,none⟩ (.slice (some ⟨g5,0,none⟩) (m+1) c5)):=by
  refine ⟨hgrow.os.trans hd.os,hgrow.tape.trans hd.tape,hgrow.output.trans hd.output,by simpa using hz5,?_,?_⟩
  ·rintro k (rfl|rfl|h1|h1)
   ·exact .inl ((hM.own _).2 (.inl rfl))
   ·exact hat.elim (fun h=>.inl ((hM.own _).2 (.inr (.inl h)))) .inr
   ·exact .inl ((hM.own _).2 (.inr (.inr (.inl h1))))
   ·exact .inl ((hM.own _).2 (.inr (.inr (.inr h1))))
  ·intro k hk hO
   have hkd:k≠d:=fun e=>hO ((hM.own k).2 (.inl e))
   rw [hset k hkd]
   exact h5 k hk (fun e=>hO ((hM.own k).2 (.inr (.inl e))))
 refine ⟨⟨_,ov,bs,us++[v],xs,Go.Joins.block_setCell hb5 _,hM.words.stay hS,?_,⟨v,us,rfl,hx.stay hS,hM.todo.stay hS⟩,?_,?_,hM.apart,?_⟩,hS⟩
 ·show World.ownsRow _ 0 _ 1 _ (s.todo.length+1) _
  rw [hm]
  refine owns_at hown (fun k hk=>?_)
  have h1:g5=k:=by simpa [Value.ownBlock] using hk
  refine hset k (fun e=>?_)
  have h2:Ty w5 k 1:=owns_ty hown hk
  rw [e] at h2
  exact absurd (h2.one ⟨_,_,hb5⟩) (by decide)
 ·refine owns_at hM.opnR (fun k hk=>?_)
  have h1:=owns_ty hM.opnR hk
  have hkd:k≠d:=fun e=>by rw [e] at h1;exact absurd (h1.one ⟨_,_,hM.blk⟩) (by decide)
  exact (hset k hkd).trans (h5 k (hM.opnR.lt k hk).2 (fun e=>absurd (h1.one (owns_ty hM.todoR e)) (by decide)))
 ·refine OpensIn.stay hS hM.opn (fun k hk=>?_)
  have h1:=opens_ty hM.opn hk
  have hkd:k≠d:=fun e=>by rw [e] at h1;exact absurd (h1.one ⟨_,_,hM.blk⟩) (by decide)
  exact (hset k hkd).trans (h5 k (hM.lt k ((hM.own k).2 (.inr (.inr (.inr hk))))) (fun e=>absurd (h1.one (owns_ty hM.todoR e)) (by decide)))
 ·intro k
  simp [Value.ownBlock]
def ArgsIn (O:Nat→Prop) (W:World) (d:Nat):List Stp→List Value→Prop
 | [],vs=>vs=[]
 | x :: l,vs=>∃ v us,vs=v :: us∧StpIn O W d x v∧ArgsIn O W d l us
theorem ArgsIn.get {W:World}:∀ {l:List Stp} {vs:List Value},ArgsIn O W d l vs→vs.length=l.length∧∀ (i:Nat) (v:Value),vs[i]?=some v→∃ x:Stp,l[i]?=some x∧StpIn O W d x v
 | [],_,h=>by rw [show _=[] from h];exact ⟨rfl,fun i v h=>by simp at h⟩
 | x :: l,_,⟨v,us,h1,h2,h3⟩=>by
  obtain ⟨h4,h5⟩:=ArgsIn.get h3
  subst h1
  refine ⟨by simp [h4],fun i u hi=>?_⟩
  cases i with
  | zero=>exact ⟨x,rfl,by simp at hi;rw [← hi];exact h2⟩
  | succ i=>simpa using h5 i u (by simpa using hi)
theorem stp_func {W:World} {x:Stp} {v:Value} (h:StpIn O W d x v):∃ f a c,v=.func f a c:=by
 cases x with
 | m k=>exact ⟨_,_,_,h⟩
 | word x=>obtain ⟨_,_,rfl,_⟩:=h;exact ⟨_,_,_,rfl⟩
 | lines k=>obtain ⟨_,_,rfl,_⟩:=h;exact ⟨_,_,_,rfl⟩
 | more k=>obtain ⟨_,_,rfl,_⟩:=h;exact ⟨_,_,_,rfl⟩
 | commas k=>obtain ⟨_,_,rfl,_⟩:=h;exact ⟨_,_,_,rfl⟩
 | moreC k=>obtain ⟨_,_,rfl,_⟩:=h;exact ⟨_,_,_,rfl⟩
theorem stp_one {W:World} {x:Stp} {v:Value} (h:StpIn O W d x v):v.oneCell'=true:=by
 cases x with
 | m k=>rw [show v=mval d k from h];rfl
 | word x=>obtain ⟨_,_,rfl,_⟩:=h;rfl
 | lines k=>obtain ⟨_,_,rfl,_⟩:=h;rfl
 | more k=>obtain ⟨_,_,rfl,_⟩:=h;rfl
 | commas k=>obtain ⟨_,_,rfl,_⟩:=h;rfl
 | moreC k=>obtain ⟨_,_,rfl,_⟩:=h;rfl
def ThenI (d:Nat) (L:List TokP) (size:Nat) (lv:Value) (s:St) (O:Nat→Prop) (l:List Stp) (bx:Nat) (W0:World) (b:List Value) (W:World):Prop :=
 ∃ O',Mem d L size lv { s with todo:=l.drop b.length++s.todo } O' W∧Stay O O' W0 W∧W.heap[bx]?=some (.cells #[ptr d] 110 (0,0))
theorem then_own {l:List Stp} {bx B:Nat} {W0:World} (hB:W0.heap.size≤B):OwnFrom B (ThenI d L size lv s O l bx W0):=by
 rintro b W W' row ⟨O',hM,hS,hbx⟩ hg hr
 have same:∀ k (o:Obj),W.heap[k]?=some o→o.isCells=true→W'.heap[k]?=W.heap[k]?:=fun k o hk hc =>
  hg.block k (Array.getElem?_eq_some_iff.1 hk).1 (fun e=>by obtain ⟨_,o',h1,h2⟩:=hr k e.symm;rw [hk] at h1;cases h1;rw [hc] at h2;cases h2)
 have hC:Calm O' W W':=⟨hg.size,fun k hk=>by obtain ⟨o,h1,h2⟩:=hM.own_cells hk;exact same k o h1 h2,fun k hk=>by obtain ⟨o,h1,h2⟩:=hk.2.2;exact same k o h1 h2⟩
 refine ⟨O',hM.calm hC,⟨hg.os.trans hS.os,hg.tape.trans hS.tape,hg.output.trans hS.output,Nat.le_trans hS.size hg.size,hS.own,fun k hk hO=>(hg.block k (Nat.lt_of_lt_of_le hk hS.size) (fun e=>?_)).trans (hS.block k hk hO)⟩,(same bx _ hbx rfl).trans hbx⟩
 have:=(hr k e.symm).1
 omega
theorem then_own2 {l:List Stp} {bx B k:Nat} {W0:World} {cs:Array Value} {t:TypeId} {vs:List Value} (hB:W0.heap.size≤B):OwnFrom B (fun b W'=>ThenI d L size lv s O l bx W0 b W'∧W'.heap[k]?=some (.cells cs t (0,0))∧∃ t,vs=b++t):=by
 rintro b W W' row ⟨h1,h2,h3⟩ hg hr
 refine ⟨then_own hB b W W' row h1 hg hr,(hg.block k (Array.getElem?_eq_some_iff.1 h2).1 (fun e=>?_)).trans h2,h3⟩
 obtain ⟨_,o',h4,h5⟩:=hr k e.symm
 rw [h2] at h4;cases h4;cases h5
set_option maxHeartbeats 8000000 in
set_option maxRecDepth 20000 in
theorem then_any {W:World} (hM:Mem d L size lv s O W) (l:List Stp) (vs:List Value) (g:Nat) (hg:Fr O W g) (hc:W.heap[g]?=some (.cells vs.toArray 1 (0,0))) (ha:ArgsIn O W d l vs) (hl:vs.length≤1000) (ht:s.todo.length≤1000000) :
  Calls Tryz.prog 100 #[ptr d,.slice (some ⟨g,0,none⟩) vs.length vs.length] W fun e W'=>e=.returned (.tuple #[])∧∃ O',Mem d L size lv { s with todo:=l++s.todo } O' W'∧Stay O O' W W':=by
 obtain ⟨bx,hbx⟩:∃ d,W.heap.size=d:=⟨_,rfl⟩
 have HA:=hid ha.get
 refine (callsIn_wide (n:=4)).1 ?_
 refine callsIn_of_wp_marks Tryz.func100 rfl trivial ?_ rfl
 simp only [Tryz.ntmps100,List.size_toArray,List.length_cons,List.length_nil,Nat.reduceAdd,Nat.reduceSub,Array.replicate_succ,Array.replicate_zero,List.push_toArray,List.append_toArray,List.nil_append,List.cons_append]
 refine wpIn_wide.2 ?_
 have c1:∀ X:World,Calls Tryz.prog 115 #[.slice (some ⟨g,0,none⟩) vs.length vs.length] X fun e w'=>e=.returned (.func (.func 130) #[] #[ptr X.heap.size])∧w'=X.alloc (.cells #[.slice (some ⟨g,0,none⟩) vs.length vs.length] 121):=by
  intro X
  go_enter Tryz.func115,Tryz.ntmps115
  go_wp2_with fail
  go_ret
  exact ⟨rfl,rfl⟩
 go_wp2_with (go_at_call 115;refine (c1 _).mono ?_;rintro e w' ⟨rfl,rfl⟩)
 clear c1
 obtain ⟨W0,hW0⟩:∃ W0,(W.alloc (.cells #[ptr d] 110)).alloc (.cells #[.slice (some ⟨g,0,none⟩) vs.length vs.length] 121)=W0:=⟨_,rfl⟩
 have hz0:W0.heap.size=bx+2:=by rw [← hW0];simp [hbx]
 have hB0:Below W.heap.size W W0:=by rw [← hW0];exact ((Below.refl _ _).alloc (Nat.le_refl _) _).alloc (by simp) _
 have hx0:W0.heap[bx]?=some (.cells #[ptr d] 110 (0,0)):=by
  rw [← hW0,Below.heap_alloc _ _ _ (by simp;omega),← hbx];exact heap_new _ _
 have hx1:W0.heap[bx+1]?=some (.cells #[.slice (some ⟨g,0,none⟩) vs.length vs.length] 121 (0,0)):=by
  rw [← hW0]
  have h:=heap_new (W.alloc (.cells #[ptr d] 110)) (.cells #[.slice (some ⟨g,0,none⟩) vs.length vs.length] 121)
  rw [World.size_alloc,hbx] at h
  exact h
 have hg0:=(hB0.block g hg.1).trans hc
 have hI0:ThenI d L size lv s O l bx W vs W0:=⟨O,by rw [List.drop_of_length_le (by rw [HA.out.1];exact Nat.le_refl _)];exact hM.below hB0,.of_below hB0,hx0⟩
 have hgl:=hg.1
 have hgO:=hg.2.1
 have HG:=hid hc
 rw [hbx] at hgl
 rw [hW0]
 clear hW0 hc
 refine wp_steps (gf:=130) (lb:=#[ptr (bx+1)]) (K:=fun b=>b=bx+1∨b=g) rfl (enters_of Tryz.func130 (by kernel_rfl) rfl) (back_steps vs (bx+1) g W0 hx1 hg0 hl) (fun _ _=>rfl) (by rintro k (rfl|rfl) <;> omega) (fun _=>rfl) (fun b W'=>ThenI d L size lv s O l bx W b W'∧W'.heap[bx+1]?=some (.cells #[.slice (some ⟨g,0,none⟩) vs.length vs.length] 121 (0,0))∧∃ t,vs=b++t) (then_own2 (by omega)) ⟨hI0,hx1,[],by simp⟩
  (fun x=>{ tmps:=#[ptr d,.slice (some ⟨g,0,none⟩) vs.length vs.length,ptr bx,undef,undef,x.2,.slice (some ⟨g,0,none⟩) vs.length vs.length,.func (.func 130) #[] #[ptr (bx+1)],.int .i64 x.1,x.2,undef,undef,undef,undef,undef,undef,undef,undef,undef,undef],defers:=[] }) ?assign ?body ?done
 case assign =>
  intro l x W K hK
  dsimp only [encB]
  gi_wp2
  exact hK
 case body =>
  rintro lo b ⟨i,v⟩ b' W1 ⟨hb,hi⟩ ⟨⟨O',hM1,hS1,hbx1⟩,hkx,hpre⟩
  dsimp only at hb hi ⊢
  obtain ⟨tv,ov,bs,us,xs,hX⟩:=hM1
  obtain ⟨x,hx,hxs⟩:∃ x,l.drop b'.length=x :: l.drop b.length∧StpIn O' W1 d x v:=by
   have hsuf:∃ t,vs=b++t:=hpre
   obtain ⟨t,ht⟩:=hsuf
   have hv:vs[b'.length]?=some v:=by rw [ht,hb];simp
   obtain ⟨x,h1,h2⟩:=HA.out.2 _ _ hv
   have hlt:b'.length<l.length:=by
    rcases Nat.lt_or_ge b'.length l.length with h|h
    ·exact h
    ·rw [List.getElem?_eq_none h] at h1;cases h1
   refine ⟨x,?_,h2.stay hS1⟩
   rw [List.drop_eq_getElem_cons hlt]
   rw [List.getElem?_eq_getElem hlt] at h1
   rw [Option.some.inj h1,hb];simp
  obtain ⟨m,hm⟩:∃ m,(l.drop b.length++s.todo).length=m:=⟨_,rfl⟩
  have hm6:m≤1001000:=by
   have h1:=HA.out.1
   rw [← hm,List.length_append,List.length_drop];omega
  have hTa:=hX.todoR
  rw [show (St.todo { s with todo:=l.drop b.length++s.todo }).length=m from hm] at hTa
  obtain ⟨ta,tc,rfl⟩:=owns_len hTa
  obtain ⟨iF,hi0,hz0,hz1,hz2⟩:=info_parts infoF
  have hblk:=hX.blk
  have hdl:d<W1.heap.size:=(Array.getElem?_eq_some_iff.1 hblk).1
  have hbl:bx<W1.heap.size:=(Array.getElem?_eq_some_iff.1 hbx1).1
  obtain ⟨Wd,hWd⟩:∃ Wd,W1.drew=Wd:=⟨_,rfl⟩
  have hbd:Below W1.heap.size W1 Wd:=by rw [← hWd];exact (Below.refl _ _).drew
  have HC2:Hid (Wd.cell? ⟨d,2,none⟩=some (.slice ta m tc)):=hid ((hbd.cell (p:=⟨d,2,none⟩) hdl).trans (by simp [World.cell?,hblk]))
  have hsd:Wd.heap.size=W1.heap.size:=by rw [← hWd];rfl
  have HC2a:Hid ((Wd.alloc (.cells #[v] 1)).cell? ⟨d,2,none⟩=some (.slice ta m tc)):=hid (by
   have h1:(Wd.alloc (.cells #[v] 1)).heap[d]?=Wd.heap[d]?:=Below.heap_alloc _ _ _ (by omega)
   have h2:=HC2.out
   simp only [World.cell?] at h2 ⊢
   rw [h1];exact h2)
  have hSd:Wd.cell? ⟨bx,0,none⟩=some (ptr d):=(hbd.cell (p:=⟨bx,0,none⟩) hbl).trans (by simp [World.cell?,hbx1])
  have HSa:Hid ((Wd.alloc (.cells #[v] 1)).cell? ⟨bx,0,none⟩=some (ptr d)):=hid (by
   have h1:(Wd.alloc (.cells #[v] 1)).heap[bx]?=Wd.heap[bx]?:=Below.heap_alloc _ _ _ (by omega)
   have h2:=hSd
   simp only [World.cell?] at h2 ⊢
   rw [h1];exact h2)
  have HTa:Hid ((Wd.alloc (.cells #[v] 1)).ownsRow 0 1 1 (.slice ta m tc) m us):=hid ((owns_later hTa hbd).alloc _)
  have HV1:=hid (stp_one hxs)
  have HE:Hid (∀ (g5 c5:Nat) (w5:World),w5.ownsRow 0 1 1 (.slice (some ⟨g5,0,none⟩) (m+1) c5) (m+1) (us++[v])→(Wd.alloc (.cells #[v] 1)).grownBy w5 (Value.slice ta m tc).ownBlock→((Value.slice ta m tc).ownBlock=some g5∨g5=(Wd.alloc (.cells #[v] 1)).heap.size) →
    w5.cell? ⟨bx,0,none⟩=some (ptr d)∧w5.cell? ⟨d,2,none⟩=some (.slice ta m tc)∧w5.frozen? ⟨d,2,none⟩=false∧(w5.setCell ⟨d,2,none⟩ (.slice (some ⟨g5,0,none⟩) (m+1) c5)).cell? ⟨bx,0,none⟩=some (ptr d) ∧
    KeepsOthers W1 (w5.setCell ⟨d,2,none⟩ (.slice (some ⟨g5,0,none⟩) (m+1) c5))∧(∀ k,(k=bx+1∨k=g)→(w5.setCell ⟨d,2,none⟩ (.slice (some ⟨g5,0,none⟩) (m+1) c5)).heap[k]?=W1.heap[k]?)∧(ThenI d L size lv s O l bx W b' (w5.setCell ⟨d,2,none⟩ (.slice (some ⟨g5,0,none⟩) (m+1) c5))∧(w5.setCell ⟨d,2,none⟩ (.slice (some ⟨g5,0,none⟩) (m+1) c5)).heap[bx+1]?=some (.cells #[.slice (some ⟨g,0,none⟩) vs.length vs.length] 121 (0,0))∧∃ t,vs=b'++t)):=hid (by
   intro g5 c5 w5 hown hgrow hat
   have hat':(Value.slice ta m tc).ownBlock=some g5∨W1.heap.size≤g5:=hat.imp id (fun h=>by rw [h,World.size_alloc];omega)
   obtain ⟨p1,p2,O2,p3,p4⟩:=push_mem hX hm hxs hbd hown hgrow hat'
   have hMX:Mem d L size lv { s with todo:=l.drop b.length++s.todo } O' W1:=⟨_,_,_,_,_,hX⟩
   have hnb:∀ k t,Ty W1 k t→t≠123→t≠1→t≠128→t≠49→(w5.setCell ⟨d,2,none⟩ (.slice (some ⟨g5,0,none⟩) (m+1) c5)).heap[k]?=W1.heap[k]?:=fun k t ht a b c e=>by
    obtain ⟨cs,fr,h⟩:=ht
    exact p4.block k (Array.getElem?_eq_some_iff.1 h).1 (hMX.not_own ⟨cs,fr,h⟩ a b c e)
   have q1:=hnb bx _ ⟨_,_,hbx1⟩ (by decide) (by decide) (by decide) (by decide)
   have q2:(w5.setCell ⟨d,2,none⟩ (.slice (some ⟨g5,0,none⟩) (m+1) c5)).cell? ⟨bx,0,none⟩=some (ptr d):=by simp [World.cell?,q1,hbx1]
   have hbd':bx≠d:=fun e=>by rw [e,hblk] at hbx1;cases hbx1
   refine ⟨?_,p1,p2,q2,p4.others hMX,?_,⟨O2,?_,hS1.trans p4,q1.trans hbx1⟩,(hnb (bx+1) _ ⟨_,_,hkx⟩ (by decide) (by decide) (by decide) (by decide)).trans hkx,by obtain ⟨t,ht⟩:=hpre;exact ⟨v :: t,by rw [ht,hb];simp⟩⟩
   ·rw [World.cell?_of_block (w:=w5.setCell ⟨d,2,none⟩ (.slice (some ⟨g5,0,none⟩) (m+1) c5)) (Below.heap_setCell _ _ _ _ hbd').symm]
    exact q2
   ·rintro k (rfl|rfl)
    ·exact hnb (bx+1) _ ⟨_,_,hkx⟩ (by decide) (by decide) (by decide) (by decide)
    ·exact p4.block k (Nat.lt_of_lt_of_le (by omega) hS1.size) (fun h=>(hS1.own k h).elim hgO (fun h=>by omega))
   ·rw [hx];exact p3)
  obtain ⟨vf,va,vc,rfl⟩:=stp_func hxs
  clear hsd hX hb hi hpre hbd hblk hdl hbl hx hxs hTa hm hS1 hbx1
  gi_wp2_with fail
  refine region_round (by kernel_rfl) (by simp) (by rintro ⟨_,_,h⟩;exact h) ?_
  rw [hWd]
  refine wpAny_of_held (S:=fun X=>X.cell? ⟨bx,0,none⟩=some (ptr d)) _ _ _ _ ?_
  have hHeld:=hSd
  refine wpAnyH_take (i:=0) (oi:=({ dst:=some 10,op:=Op.load 110 (Operand.tmp 2),type:=110,pos := "reader.go:56",after:=#[],guard:=none }:Oper)) (v:=ptr d) rfl (by kernel_rfl) (by kernel_rfl) (by kernel_rfl) (fun _ _ _ h=>h) (yields_load 110 (.tmp 2) rfl (by rfl) (fun X hX=>load_one hX)) hHeld ?_
  (try simp only [Act.put,List.setIfInBounds_toArray,List.set_cons_zero,List.set_cons_succ])
  refine wpAnyH_take (i:=1) (oi:=({ dst:=some 11,op:=Op.load 110 (Operand.tmp 2),type:=110,pos := "reader.go:56",after:=#[],guard:=none }:Oper)) (v:=ptr d) rfl (by kernel_rfl) (by kernel_rfl) (by kernel_rfl) (fun _ _ _ h=>h) (yields_load 110 (.tmp 2) rfl (by rfl) (fun X hX=>load_one hX)) hHeld ?_
  (try simp only [Act.put,List.setIfInBounds_toArray,List.set_cons_zero,List.set_cons_succ])
  refine wpAnyH_take (i:=5) (oi:=({ dst:=some 15,op:=Op.move (Operand.tmp 5),type:=1,pos := "reader.go:56",after:=#[],guard:=none }:Oper)) (v:=.func vf va vc) rfl (by kernel_rfl) (by kernel_rfl) (by kernel_rfl) (fun _ _ _ h=>h) (Or.inl ⟨by rfl,fun X hX=>rfl⟩) hHeld ?_
  (try simp only [Act.put,List.setIfInBounds_toArray,List.set_cons_zero,List.set_cons_succ])
  refine wpAnyH_take (i:=2) (oi:=({ dst:=some 12,op:=Op.nilCheck (Operand.tmp 11),type:=0,pos := "reader.go:56",after:=#[{ on:=1,ground:=Ground.data }],guard:=none }:Oper)) (v:=ptr d) rfl (by kernel_rfl) (by kernel_rfl) (by kernel_rfl) (fun _ _ _ h=>h) (Or.inl ⟨by rfl,fun X hX=>rfl⟩) hHeld ?_
  (try simp only [Act.put,List.setIfInBounds_toArray,List.set_cons_zero,List.set_cons_succ])
  refine wpAnyH_take (i:=3) (oi:=({ dst:=some 13,op:=Op.fieldAddr 123 (Operand.tmp 12) 2,type:=0,pos := "reader.go:56",after:=#[{ on:=2,ground:=Ground.data }],guard:=none }:Oper)) (v:=.pointer (some ⟨d,2,none⟩)) rfl (by kernel_rfl) (by kernel_rfl) (by kernel_rfl) (fun _ _ _ h=>h) (Or.inl ⟨by rfl,fun X hX=>rfl⟩) hHeld ?_
  (try simp only [Act.put,List.setIfInBounds_toArray,List.set_cons_zero,List.set_cons_succ])
  refine wpAnyH_ready (rs:=[4,6]) (by kernel_rfl) (by simp) ?_
  refine AllReadyH.cons (o:=OP.p0) rfl (fun K hK=>?_) (AllReadyH.cons (o:=OP.p1) rfl (fun K hK=>?_) AllReadyH.nil)
  ·refine wanted_step (by kernel_rfl) ?_
   have q2:=HC2.out
   go_simp
   refine hK.out _ _ hHeld (fun hHeld2=>?_)
   (try simp only [Act.put,List.setIfInBounds_toArray,List.set_cons_zero,List.set_cons_succ])
   clear hK K q2
   refine wpAnyH_ready (rs:=[6]) (by kernel_rfl) (by simp) ?_
   refine AllReadyH.cons (o:=OP.p1) rfl (fun K hK=>?_) AllReadyH.nil
   refine wanted_step (by kernel_rfl) ?_
   go_simp
   refine hK.out _ _ HSa.out (fun hHeld3=>?_)
   (try simp only [Act.put,List.setIfInBounds_toArray,List.set_cons_zero,List.set_cons_succ])
   clear hK K
   refine wpAnyH_ready (rs:=[7]) (by kernel_rfl) (by simp) ?_
   refine AllReadyH.cons (o:=OP.p2) rfl (fun K hK=>?_) AllReadyH.nil
   refine wanted_step (by kernel_rfl) ?_
   refine wp_append_lies _ (.tmp 14) (.tmp 16) 121 rfl 0 1 iF Value.nilFunc 1 8 Tryz.underlying121 hi0 hz0 hz1 hz2 rfl (by decide) (.slice ta m tc) m us rfl HTa.out ⟨Wd.heap.size,0,none⟩ 1 1 [.func vf va vc] rfl rfl (cell_one_new Wd (.func vf va vc) 1) (by simpa using HV1.out) (by decide) (by unfold maxLen;omega) (by omega) (Nat.zero_le _) _ rfl ?_
   intro g5 c5 w5 hown hgrow hat hlt5
   have he:=HE.out g5 c5 w5 hown hgrow hat
   refine hK.out _ _ he.1 (fun hHeld4=>?_)
   (try simp only [Act.put,List.setIfInBounds_toArray,List.set_cons_zero,List.set_cons_succ])
   clear hK K
   refine wpAnyH_take (i:=8) (oi:=OP.p3) (v:=ptr d) rfl (by kernel_rfl) (by kernel_rfl) (by kernel_rfl) (fun _ _ _ h=>h) (Or.inl ⟨by rfl,fun X hX=>rfl⟩) hHeld4 ?_
   (try simp only [Act.put,List.setIfInBounds_toArray,List.set_cons_zero,List.set_cons_succ])
   refine wpAnyH_take (i:=9) (oi:=OP.p4) (v:=.pointer (some ⟨d,2,none⟩)) rfl (by kernel_rfl) (by kernel_rfl) (by kernel_rfl) (fun _ _ _ h=>h) (Or.inl ⟨by rfl,fun X hX=>rfl⟩) hHeld4 ?_
   (try simp only [Act.put,List.setIfInBounds_toArray,List.set_cons_zero,List.set_cons_succ])
   have q2:=he.2.1
   have f2:=he.2.2.1
   refine wpAnyH_ready (rs:=[10]) (by kernel_rfl) (by simp) ?_
   refine AllReadyH.cons (o:=OP.p5) rfl (fun K hK=>?_) AllReadyH.nil
   refine wanted_step (by kernel_rfl) ?_
   go_simp
   refine hK.out _ _ he.2.2.2.1 (fun _=>?_)
   (try simp only [Act.put,List.setIfInBounds_toArray,List.set_cons_zero,List.set_cons_succ])
   clear hK K
   refine wpAnyH_done (by kernel_rfl) ?_ _
   exact he.2.2.2.2
  ·refine wanted_step (by kernel_rfl) ?_
   go_simp
   refine hK.out _ _ HSa.out (fun hHeld2=>?_)
   (try simp only [Act.put,List.setIfInBounds_toArray,List.set_cons_zero,List.set_cons_succ])
   clear hK K
   refine wpAnyH_ready (rs:=[4]) (by kernel_rfl) (by simp) ?_
   refine AllReadyH.cons (o:=OP.p0) rfl (fun K hK=>?_) AllReadyH.nil
   refine wanted_step (by kernel_rfl) ?_
   have q2:=HC2a.out
   go_simp
   refine hK.out _ _ HSa.out (fun hHeld3=>?_)
   (try simp only [Act.put,List.setIfInBounds_toArray,List.set_cons_zero,List.set_cons_succ])
   clear hK K q2
   refine wpAnyH_ready (rs:=[7]) (by kernel_rfl) (by simp) ?_
   refine AllReadyH.cons (o:=OP.p2) rfl (fun K hK=>?_) AllReadyH.nil
   refine wanted_step (by kernel_rfl) ?_
   refine wp_append_lies _ (.tmp 14) (.tmp 16) 121 rfl 0 1 iF Value.nilFunc 1 8 Tryz.underlying121 hi0 hz0 hz1 hz2 rfl (by decide) (.slice ta m tc) m us rfl HTa.out ⟨Wd.heap.size,0,none⟩ 1 1 [.func vf va vc] rfl rfl (cell_one_new Wd (.func vf va vc) 1) (by simpa using HV1.out) (by decide) (by unfold maxLen;omega) (by omega) (Nat.zero_le _) _ rfl ?_
   intro g5 c5 w5 hown hgrow hat hlt5
   have he:=HE.out g5 c5 w5 hown hgrow hat
   refine hK.out _ _ he.1 (fun hHeld4=>?_)
   (try simp only [Act.put,List.setIfInBounds_toArray,List.set_cons_zero,List.set_cons_succ])
   clear hK K
   refine wpAnyH_take (i:=8) (oi:=OP.p3) (v:=ptr d) rfl (by kernel_rfl) (by kernel_rfl) (by kernel_rfl) (fun _ _ _ h=>h) (Or.inl ⟨by rfl,fun X hX=>rfl⟩) hHeld4 ?_
   (try simp only [Act.put,List.setIfInBounds_toArray,List.set_cons_zero,List.set_cons_succ])
   refine wpAnyH_take (i:=9) (oi:=OP.p4) (v:=.pointer (some ⟨d,2,none⟩)) rfl (by kernel_rfl) (by kernel_rfl) (by kernel_rfl) (fun _ _ _ h=>h) (Or.inl ⟨by rfl,fun X hX=>rfl⟩) hHeld4 ?_
   (try simp only [Act.put,List.setIfInBounds_toArray,List.set_cons_zero,List.set_cons_succ])
   have q2:=he.2.1
   have f2:=he.2.2.1
   refine wpAnyH_ready (rs:=[10]) (by kernel_rfl) (by simp) ?_
   refine AllReadyH.cons (o:=OP.p5) rfl (fun K hK=>?_) AllReadyH.nil
   refine wanted_step (by kernel_rfl) ?_
   go_simp
   refine hK.out _ _ he.2.2.2.1 (fun _=>?_)
   (try simp only [Act.put,List.setIfInBounds_toArray,List.set_cons_zero,List.set_cons_succ])
   clear hK K
   refine wpAnyH_done (by kernel_rfl) ?_ _
   exact he.2.2.2.2
 case done =>
  rintro D b W1 hD rfl ⟨⟨O',hM1,hS1,hbx1⟩,hkx,hpre⟩ hK
  have h:=(then_own (d:=d) (L:=L) (size:=size) (lv:=lv) (s:=s) (O:=O) (l:=l) (bx:=bx) (B:=W.heap.size) (Nat.le_refl _)).putObj (s:=([]:List Value)) (.deferred none) ⟨O',hM1,hS1,hbx1⟩ (by omega) hK rfl
  refine ⟨by simp,.inl ⟨_,_,rfl,run_takeDeferred hK,?_⟩⟩
  obtain ⟨O2,h1,h2,_⟩:=h
  exact ⟨_,results_none rfl _ _ _,rfl,O2,h1,h2⟩
end
end Go.Proofs.YtojoahlpgmnbnaaGreatDoor.K
namespace Go.Proofs.YtojoahlpgmnbnaaGreatDoor.K
open Go.RowKit
open Go.Lib hiding intOf
open U S T
theorem infoB:(Tryz.prog.info? 128).map (fun i=>(i.zero,i.size,i.bytes))=some (some (.agg #[.string ⟨#[]⟩,.string ⟨#[]⟩,.int .i64 0,.int .i64 0,.slice none 0 0,.int .i64 0]),6,80):=by kernel_rfl
section
variable {d:Nat} {L:List TokP} {size:Nat} {lv:Value} {s:St} {O:Nat→Prop}
theorem opens_lt {W:World} {k:Nat}:∀ {l:List Open} {xs:List Value} {bs:List (Option Nat)},OpensIn O W l xs bs→some k∈bs→k<W.heap.size
 | [],_,_,⟨_,h⟩,hk=>by rw [h] at hk;cases hk
 | o :: r,_,_,⟨kv,ks,us,bs',_,h2,h3,_,h5⟩,hk=>by
  rw [h2] at hk
  rcases List.mem_cons.1 hk with hk|hk
  ·exact (h3.lt k hk.symm).2
  ·exact opens_lt h5 hk
theorem six_one (o:Open) (kv:Value) (h:∃ a n c,kv=.slice a n c):∀ u∈six o kv,u.oneCell'=true:=by
 obtain ⟨a,n,c,rfl⟩:=h
 intro u hu
 simp only [six,List.mem_cons,List.not_mem_nil,or_false] at hu
 rcases hu with rfl|rfl|rfl|rfl|rfl|rfl <;> rfl
theorem push_open {W Wd w5:World} {tv ov kv:Value} {bs:List (Option Nat)} {us xs ks:List Value} {o:Open} {g5 c5 m:Nat} (hM:MemX d L size lv s O tv ov bs us xs W) (hm:s.opn.length=m) (hd:Below W.heap.size W Wd)
  (hown:w5.ownsRow 0 128 6 (.slice (some ⟨g5,0,none⟩) (m+1) c5) (m+1) (xs++six o kv)) (hgrow:Wd.grownBy w5 ov.ownBlock) (hat:ov.ownBlock=some g5∨g5=Wd.heap.size)
  (hkv:Wd.ownsRow 0 49 5 kv o.kids.length ks) (hks:PartsIn W (Fr O W) o.kids ks) (hkn:∀ k,kv.ownBlock=some k→W.heap.size≤k) :
  w5.cell? ⟨d,3,none⟩=some ov∧w5.frozen? ⟨d,3,none⟩=false∧∃ O',Mem d L size lv { s with opn:=o :: s.opn } O' (w5.setCell ⟨d,3,none⟩ (.slice (some ⟨g5,0,none⟩) (m+1) c5))∧Stay O O' W (w5.setCell ⟨d,3,none⟩ (.slice (some ⟨g5,0,none⟩) (m+1) c5)):=by
 have hdl:d<W.heap.size:=(Array.getElem?_eq_some_iff.1 hM.blk).1
 have hod:ov.ownBlock≠some d:=fun e=>by have h1:=owns_ty hM.opnR e;have h2:Ty W d _:=⟨_,_,hM.blk⟩;exact absurd (h1.one h2) (by decide)
 have h5d:∀ k,k<Wd.heap.size→ov.ownBlock≠some k→w5.heap[k]?=Wd.heap[k]?:=fun k hk hne=>hgrow.block k hk (fun e=>hne e.symm)
 have h5:∀ k,k<W.heap.size→ov.ownBlock≠some k→w5.heap[k]?=W.heap[k]?:=fun k hk hne=>(h5d k (Nat.lt_of_lt_of_le hk hd.size) hne).trans (hd.block k hk)
 have hb5:=(h5 d hdl hod).trans hM.blk
 have hat':ov.ownBlock=some g5∨W.heap.size≤g5:=hat.imp id (fun h=>by rw [h];exact hd.size)
 have hset:∀ k,k≠d→(w5.setCell ⟨d,3,none⟩ (.slice (some ⟨g5,0,none⟩) (m+1) c5)).heap[k]?=w5.heap[k]?:=fun k hk=>Below.heap_setCell _ _ _ _ hk
 have hz5:W.heap.size≤w5.heap.size:=Nat.le_trans hd.size hgrow.size
 refine ⟨by simp [World.cell?,hb5],by simp [World.frozen?,hb5],fun k=>k=d∨tv.ownBlock=some k∨g5=k∨some k∈kv.ownBlock :: bs,?_⟩
 have hS:Stay O (fun k=>k=d∨tv.ownBlock=some k∨g5=k∨some k∈kv.ownBlock :: bs) W (w5.setCell ⟨d,3,none⟩ (.slice (some ⟨g5,0,none⟩) (m+1) c5)):=by
  refine ⟨hgrow.os.trans hd.os,hgrow.tape.trans hd.tape,hgrow.output.trans hd.output,by simpa using hz5,?_,?_⟩
  ·rintro k (rfl|h1|rfl|h1)
   ·exact .inl ((hM.own _).2 (.inl rfl))
   ·exact .inl ((hM.own _).2 (.inr (.inl h1)))
   ·exact hat'.elim (fun h=>.inl ((hM.own _).2 (.inr (.inr (.inl h))))) .inr
   ·rcases List.mem_cons.1 h1 with h1|h1
    ·exact .inr (hkn k h1.symm)
    ·exact .inl ((hM.own _).2 (.inr (.inr (.inr h1))))
  ·intro k hk hO
   have hkd:k≠d:=fun e=>hO ((hM.own k).2 (.inl e))
   rw [hset k hkd]
   exact h5 k hk (fun e=>hO ((hM.own k).2 (.inr (.inr (.inl e)))))
 have hkv5:∀ k,kv.ownBlock=some k→(w5.setCell ⟨d,3,none⟩ (.slice (some ⟨g5,0,none⟩) (m+1) c5)).heap[k]?=Wd.heap[k]?:=fun k hk=>by
  have h1:=hkn k hk
  rw [hset k (by omega)]
  exact h5d k (hkv.lt k hk).2 (fun e=>by have:=(hM.opnR.lt k e).2;omega)
 refine ⟨⟨tv,_,kv.ownBlock :: bs,us,xs++six o kv,Go.Joins.block_setCell hb5 _,hM.words.stay hS,?_,hM.todo.stay hS,?_,⟨kv,ks,xs,bs,rfl,rfl,owns_at hkv hkv5,parts_stay hS hks,?_⟩,⟨fun k hk hb=>?_,hM.apart⟩,?_⟩,hS⟩
 ·refine owns_at hM.todoR (fun k hk=>?_)
  have h1:=owns_ty hM.todoR hk
  have hkd:k≠d:=fun e=>by rw [e] at h1;exact absurd (h1.one ⟨_,_,hM.blk⟩) (by decide)
  exact (hset k hkd).trans (h5 k (hM.todoR.lt k hk).2 (fun e=>absurd (h1.one (owns_ty hM.opnR e)) (by decide)))
 ·show World.ownsRow _ 0 _ 6 _ (s.opn.length+1) _
  rw [hm]
  refine owns_at hown (fun k hk=>?_)
  have h1:g5=k:=by simpa [Value.ownBlock] using hk
  refine hset k (fun e=>?_)
  have h2:Ty w5 k 128:=owns_ty hown hk
  rw [e] at h2
  exact absurd (h2.one ⟨_,_,hb5⟩) (by decide)
 ·refine OpensIn.stay hS hM.opn (fun k hk=>?_)
  have h1:=opens_ty hM.opn hk
  have hkd:k≠d:=fun e=>by rw [e] at h1;exact absurd (h1.one ⟨_,_,hM.blk⟩) (by decide)
  exact (hset k hkd).trans (h5 k (opens_lt hM.opn hk) (fun e=>absurd (h1.one (owns_ty hM.opnR e)) (by decide)))
 ·have h1:=hkn k hk
  have h2:=opens_lt hM.opn hb
  omega
 ·intro k
  simp [Value.ownBlock]
theorem news_six (W:World) (o:Open) (kv:Value):∀ j u,(six o kv)[j]?=some u→(W.alloc (.cells #[.string (bstr o.k),.string (bstr o.t),.int .i64 o.f,.int .i64 0,kv,.int .i64 o.kf] 128)).cell? ((⟨W.heap.size,0,none⟩:Addr).add j)=some u :=
 World.news_of_block (cs:=#[.string (bstr o.k),.string (bstr o.t),.int .i64 o.f,.int .i64 0,kv,.int .i64 o.kf]) (t:=128) (fr:=(0,0)) (heap_new _ _)
set_option maxHeartbeats 8000000 in
set_option maxRecDepth 20000 in
theorem begin_any {W:World} (hM:Mem d L size lv s O W) (hi:s.i≤L.length) (k:By) (hm6:s.opn.length≤1000000) :
  Calls Tryz.prog 117 #[ptr d,.string (bstr k)] W fun e W'=>e=.returned (.tuple #[])∧∃ O',Mem d L size lv { s with opn:=⟨k,[],(tok L size s.i).f,[],0⟩ :: s.opn } O' W'∧Stay O O' W W':=by
 obtain ⟨tv,ov,bs,us,xs,hX⟩:=id hM
 obtain ⟨m,hm⟩:∃ m,s.opn.length=m:=⟨_,rfl⟩
 have hR:=hX.opnR
 rw [hm] at hR hm6
 obtain ⟨oa,oc,rfl⟩:=owns_len hR
 obtain ⟨iB,hi0,hz0,hz1,hz2⟩:=info_parts infoB
 have cN:=fun X (hX:Below W.heap.size W X)=>next_any (hM.below hX) hi
 have hdl:=hM.dlt
 have q3:W.cell? ⟨d,3,none⟩=some (.slice oa m oc):=by have:=hX.blk;simp [World.cell?,this]
 obtain ⟨o,ho⟩:∃ o:Open,⟨k,[],(tok L size s.i).f,[],0⟩=o:=⟨_,rfl⟩
 have HO:=hid ho
 have hok:bstr k=bstr o.k:=by rw [← ho]
 have hof:(tok L size s.i).f=o.f:=by rw [← ho]
 rw [ho,hok]
 generalize tok L size s.i=t at cN hof
 obtain ⟨tw,tt,tf,te⟩:=t
 dsimp only [tokV] at cN hof
 rw [hof] at cN
 have hfl:=fun X=>fld2 (.int .i64 tw) (.string ⟨tt.toArray⟩) (.int .i64 o.f) (.int .i64 te) X
 have hcell:∀ X,Below W.heap.size W X→X.cell? ⟨d,3,none⟩=some (.slice oa m oc):=fun X hX=>(hX.cell (p:=⟨d,3,none⟩) hdl).trans q3
 have HCell:=hid hcell
 have HE:Hid (∀ (w1 w5:World) (g5 c5:Nat),Below W.heap.size W w1→w5.ownsRow 0 128 6 (.slice (some ⟨g5,0,none⟩) (m+1) c5) (m+1) (xs++six o (.slice none 0 0))→(w1.alloc (.cells #[.string (bstr o.k),.string ⟨#[]⟩,.int .i64 o.f,.int .i64 0,.slice none 0 0,.int .i64 0] 128)).grownBy w5 (Value.slice oa m oc).ownBlock →
   ((Value.slice oa m oc).ownBlock=some g5∨g5=(w1.alloc (.cells #[.string (bstr o.k),.string ⟨#[]⟩,.int .i64 o.f,.int .i64 0,.slice none 0 0,.int .i64 0] 128)).heap.size) →
   w5.cell? ⟨d,3,none⟩=some (.slice oa m oc)∧w5.frozen? ⟨d,3,none⟩=false∧∃ O',Mem d L size lv { s with opn:=o :: s.opn } O' (w5.setCell ⟨d,3,none⟩ (.slice (some ⟨g5,0,none⟩) (m+1) c5))∧Stay O O' W (w5.setCell ⟨d,3,none⟩ (.slice (some ⟨g5,0,none⟩) (m+1) c5))):=hid (fun w1 w5 g5 c5 hb hown hgrow hat =>
  push_open hX hm (hb.alloc hb.size _) hown hgrow hat (by rw [← HO.out];exact World.ownsRow_nil _ _ _ _) (by rw [← HO.out];rfl) (fun k h=>by cases h))
 have HR:Hid (∀ X,Below W.heap.size W X→(X.alloc (.cells #[.string (bstr o.k),.string ⟨#[]⟩,.int .i64 o.f,.int .i64 0,.slice none 0 0,.int .i64 0] 128)).ownsRow 0 128 6 (.slice oa m oc) m xs):=hid (fun X hX=>(owns_later hR hX).alloc _)
 have HNew:Hid (∀ X:World,∀ j u,(six o (.slice none 0 0))[j]?=some u→(X.alloc (.cells #[.string (bstr o.k),.string ⟨#[]⟩,.int .i64 o.f,.int .i64 0,.slice none 0 0,.int .i64 0] 128)).cell? ((⟨X.heap.size,0,none⟩:Addr).add j)=some u):=hid (fun X=>by
  have h:=news_six X o (.slice none 0 0)
  rw [show bstr o.t=⟨#[]⟩ by rw [← HO.out];rfl,show o.kf=0 by rw [← HO.out]] at h
  exact h)
 obtain ⟨kk,hkk⟩:∃ kk,bstr o.k=kk:=⟨_,rfl⟩
 obtain ⟨ff,hff⟩:∃ ff,o.f=ff:=⟨_,rfl⟩
 rw [hkk,hff] at HE
 rw [hkk,hff] at HR HNew
 rw [hff] at cN hfl
 rw [hkk]
 have HDr:=hid (show Below W.heap.size W W.drew from (Below.refl _ _).drew)
 clear hof ho hok hX hM hR q3 hm hcell hdl hi hkk hff HO
 go_enter Tryz.func117,Tryz.ntmps117
 go_upto_region 0 with fail
 refine wp_region_held_drew (S:=fun _=>True) (by kernel_rfl) trivial (fun hHeld=>?_)
 refine wpAnyH_take (i:=0) (oi:=({ dst:=some 4,op:=Op.move (Operand.tmp 0),type:=110,pos := "reader.go:114",after:=#[],guard:=none }:Oper)) (v:=ptr d) rfl (by kernel_rfl) (by kernel_rfl) (by kernel_rfl) (fun _ _ _ h=>h) (Or.inl ⟨by rfl,fun X hX=>rfl⟩) hHeld ?_
 (try simp only [Act.put,List.setIfInBounds_toArray,List.set_cons_zero,List.set_cons_succ])
 refine wpAnyH_take (i:=1) (oi:=({ dst:=some 5,op:=Op.move (Operand.tmp 0),type:=110,pos := "reader.go:114",after:=#[],guard:=none }:Oper)) (v:=ptr d) rfl (by kernel_rfl) (by kernel_rfl) (by kernel_rfl) (fun _ _ _ h=>h) (Or.inl ⟨by rfl,fun X hX=>rfl⟩) hHeld ?_
 (try simp only [Act.put,List.setIfInBounds_toArray,List.set_cons_zero,List.set_cons_succ])
 refine wpAnyH_take (i:=2) (oi:=({ dst:=some 6,op:=Op.nilCheck (Operand.tmp 5),type:=0,pos := "reader.go:114",after:=#[{ on:=1,ground:=Ground.data }],guard:=none }:Oper)) (v:=ptr d) rfl (by kernel_rfl) (by kernel_rfl) (by kernel_rfl) (fun _ _ _ h=>h) (Or.inl ⟨by rfl,fun X hX=>rfl⟩) hHeld ?_
 (try simp only [Act.put,List.setIfInBounds_toArray,List.set_cons_zero,List.set_cons_succ])
 refine wpAnyH_take (i:=3) (oi:=({ dst:=some 7,op:=Op.fieldAddr 123 (Operand.tmp 6) 3,type:=0,pos := "reader.go:114",after:=#[{ on:=2,ground:=Ground.data }],guard:=none }:Oper)) (v:=.pointer (some ⟨d,3,none⟩)) rfl (by kernel_rfl) (by kernel_rfl) (by kernel_rfl) (fun _ _ _ h=>h) (Or.inl ⟨by rfl,fun X hX=>rfl⟩) hHeld ?_
 (try simp only [Act.put,List.setIfInBounds_toArray,List.set_cons_zero,List.set_cons_succ])
 refine wpAnyH_take (i:=5) (oi:=({ dst:=some 9,op:=Op.move (Operand.tmp 1),type:=9,pos := "reader.go:114",after:=#[],guard:=none }:Oper)) (v:=.string kk) rfl (by kernel_rfl) (by kernel_rfl) (by kernel_rfl) (fun _ _ _ h=>h) (Or.inl ⟨by rfl,fun X hX=>rfl⟩) hHeld ?_
 (try simp only [Act.put,List.setIfInBounds_toArray,List.set_cons_zero,List.set_cons_succ])
 refine wpAnyH_take (i:=6) (oi:=({ dst:=some 10,op:=Op.move (Operand.tmp 0),type:=110,pos := "reader.go:114",after:=#[],guard:=none }:Oper)) (v:=ptr d) rfl (by kernel_rfl) (by kernel_rfl) (by kernel_rfl) (fun _ _ _ h=>h) (Or.inl ⟨by rfl,fun X hX=>rfl⟩) hHeld ?_
 (try simp only [Act.put,List.setIfInBounds_toArray,List.set_cons_zero,List.set_cons_succ])
 refine wpAnyH_ready (rs:=[4,7]) (by kernel_rfl) (by simp) ?_
 refine (AllReadyH.cons (o:=OP.p6) rfl (fun K hK=>?_) (AllReadyH.cons (o:=OP.p7) rfl (fun K hK=>?_) AllReadyH.nil))
 ·refine wanted_step (by kernel_rfl) ?_
  have q3:=HCell.out W.drew HDr.out
  go_simp
  refine hK.out _ _ (trivial) (fun hHeld=>?_)
  (try simp only [Act.put,List.setIfInBounds_toArray,List.set_cons_zero,List.set_cons_succ])
  clear hK K
  clear q3
  refine wpAnyH_ready (rs:=[7]) (by kernel_rfl) (by simp) ?_
  refine (AllReadyH.cons (o:=OP.p7) rfl (fun K hK=>?_) AllReadyH.nil)
  refine wanted_step (by kernel_rfl) ?_
  go_simp
  go_at_call 116
  refine (cN _ HDr.out).mono ?_
  rintro e w1 ⟨rfl,hb1⟩
  have hb2:=HDr.out.trans (hb1.mono HDr.out.size)
  dsimp only
  refine hK.out _ _ (trivial) (fun hHeld=>?_)
  (try simp only [Act.put,List.setIfInBounds_toArray,List.set_cons_zero,List.set_cons_succ])
  clear hK K
  refine wpAnyH_take (i:=8) (oi:=OP.p8) (v:=.int .i64 ff) rfl (by kernel_rfl) (by kernel_rfl) (by kernel_rfl) (fun _ _ _ h=>h) (Or.inl ⟨by rfl,fun X hX=>by simp [execOp,Act.eval,hfl]⟩) hHeld ?_
  (try simp only [Act.put,List.setIfInBounds_toArray,List.set_cons_zero,List.set_cons_succ])
  refine wpAnyH_take (i:=9) (oi:=OP.p9) (v:=.agg #[.string kk,.string ⟨#[]⟩,.int .i64 ff,.int .i64 0,.slice none 0 0]) rfl (by kernel_rfl) (by kernel_rfl) (by kernel_rfl) (fun _ _ _ h=>h) (Or.inl ⟨by rfl,fun X hX=>by kernel_rfl⟩) hHeld ?_
  (try simp only [Act.put,List.setIfInBounds_toArray,List.set_cons_zero,List.set_cons_succ])
  refine wpAnyH_take (i:=10) (oi:=OP.p10) (v:=.agg #[.string kk,.string ⟨#[]⟩,.int .i64 ff,.int .i64 0,.slice none 0 0,.int .i64 0]) rfl (by kernel_rfl) (by kernel_rfl) (by kernel_rfl) (fun _ _ _ h=>h) (Or.inl ⟨by rfl,fun X hX=>by kernel_rfl⟩) hHeld ?_
  (try simp only [Act.put,List.setIfInBounds_toArray,List.set_cons_zero,List.set_cons_succ])
  refine wpAnyH_ready (rs:=[11]) (by kernel_rfl) (by simp) ?_
  refine (AllReadyH.cons (o:=OP.p11) rfl (fun K hK=>?_) AllReadyH.nil)
  refine wanted_step (by kernel_rfl) ?_
  go_simp
  refine hK.out _ _ (trivial) (fun hHeld=>?_)
  (try simp only [Act.put,List.setIfInBounds_toArray,List.set_cons_zero,List.set_cons_succ])
  clear hK K
  refine wpAnyH_ready (rs:=[12]) (by kernel_rfl) (by simp) ?_
  refine (AllReadyH.cons (o:=OP.p12) rfl (fun K hK=>?_) AllReadyH.nil)
  refine wanted_step (by kernel_rfl) ?_
  refine wp_append_lies _ (.tmp 8) (.tmp 15) 120 rfl 0 128 iB (.agg #[.string ⟨#[]⟩,.string ⟨#[]⟩,.int .i64 0,.int .i64 0,.slice none 0 0,.int .i64 0]) 6 80 Tryz.underlying120 hi0 hz0 hz1 hz2 rfl (by decide) (.slice oa m oc) m xs rfl (HR.out _ hb2) ⟨w1.heap.size,0,none⟩ 1 1 (six o (.slice none 0 0)) rfl rfl (HNew.out _) (six_one _ _ ⟨_,_,_,rfl⟩) (by decide) (by unfold maxLen;omega) (by omega) (Nat.zero_le _) _ rfl ?_
  intro g5 c5 w5 hown hgrow hat hlt5
  have he:=HE.out w1 w5 g5 c5 hb2 hown hgrow hat
  refine hK.out _ _ (trivial) (fun hHeld=>?_)
  (try simp only [Act.put,List.setIfInBounds_toArray,List.set_cons_zero,List.set_cons_succ])
  clear hK K
  refine wpAnyH_take (i:=13) (oi:=OP.p13) (v:=ptr d) rfl (by kernel_rfl) (by kernel_rfl) (by kernel_rfl) (fun _ _ _ h=>h) (Or.inl ⟨by rfl,fun X hX=>rfl⟩) hHeld ?_
  (try simp only [Act.put,List.setIfInBounds_toArray,List.set_cons_zero,List.set_cons_succ])
  refine wpAnyH_take (i:=14) (oi:=OP.p14) (v:=.pointer (some ⟨d,3,none⟩)) rfl (by kernel_rfl) (by kernel_rfl) (by kernel_rfl) (fun _ _ _ h=>h) (Or.inl ⟨by rfl,fun X hX=>rfl⟩) hHeld ?_
  (try simp only [Act.put,List.setIfInBounds_toArray,List.set_cons_zero,List.set_cons_succ])
  have q3:=he.1
  have f3:=he.2.1
  refine wpAnyH_ready (rs:=[15]) (by kernel_rfl) (by simp) ?_
  refine (AllReadyH.cons (o:=OP.p15) rfl (fun K hK=>?_) AllReadyH.nil)
  refine wanted_step (by kernel_rfl) ?_
  go_simp
  refine hK.out _ _ (trivial) (fun hHeld=>?_)
  (try simp only [Act.put,List.setIfInBounds_toArray,List.set_cons_zero,List.set_cons_succ])
  clear hK K
  refine wpAnyH_done (by kernel_rfl) ?_ _
  exact bodyPost_end (results_none rfl _ _ _) rfl ⟨rfl,he.2.2⟩
 ·refine wanted_step (by kernel_rfl) ?_
  go_simp
  go_at_call 116
  refine (cN _ HDr.out).mono ?_
  rintro e w1 ⟨rfl,hb1⟩
  have hb2:=HDr.out.trans (hb1.mono HDr.out.size)
  dsimp only
  refine hK.out _ _ (trivial) (fun hHeld=>?_)
  (try simp only [Act.put,List.setIfInBounds_toArray,List.set_cons_zero,List.set_cons_succ])
  clear hK K
  refine wpAnyH_take (i:=8) (oi:=OP.p8) (v:=.int .i64 ff) rfl (by kernel_rfl) (by kernel_rfl) (by kernel_rfl) (fun _ _ _ h=>h) (Or.inl ⟨by rfl,fun X hX=>by simp [execOp,Act.eval,hfl]⟩) hHeld ?_
  (try simp only [Act.put,List.setIfInBounds_toArray,List.set_cons_zero,List.set_cons_succ])
  refine wpAnyH_take (i:=9) (oi:=OP.p9) (v:=.agg #[.string kk,.string ⟨#[]⟩,.int .i64 ff,.int .i64 0,.slice none 0 0]) rfl (by kernel_rfl) (by kernel_rfl) (by kernel_rfl) (fun _ _ _ h=>h) (Or.inl ⟨by rfl,fun X hX=>by kernel_rfl⟩) hHeld ?_
  (try simp only [Act.put,List.setIfInBounds_toArray,List.set_cons_zero,List.set_cons_succ])
  refine wpAnyH_take (i:=10) (oi:=OP.p10) (v:=.agg #[.string kk,.string ⟨#[]⟩,.int .i64 ff,.int .i64 0,.slice none 0 0,.int .i64 0]) rfl (by kernel_rfl) (by kernel_rfl) (by kernel_rfl) (fun _ _ _ h=>h) (Or.inl ⟨by rfl,fun X hX=>by kernel_rfl⟩) hHeld ?_
  (try simp only [Act.put,List.setIfInBounds_toArray,List.set_cons_zero,List.set_cons_succ])
  refine wpAnyH_ready (rs:=[4,11]) (by kernel_rfl) (by simp) ?_
  refine (AllReadyH.cons (o:=OP.p6) rfl (fun K hK=>?_) (AllReadyH.cons (o:=OP.p11) rfl (fun K hK=>?_) AllReadyH.nil))
  ·refine wanted_step (by kernel_rfl) ?_
   have q3:=HCell.out w1 hb2
   go_simp
   refine hK.out _ _ (trivial) (fun hHeld=>?_)
   (try simp only [Act.put,List.setIfInBounds_toArray,List.set_cons_zero,List.set_cons_succ])
   clear hK K
   clear q3
   refine wpAnyH_ready (rs:=[11]) (by kernel_rfl) (by simp) ?_
   refine (AllReadyH.cons (o:=OP.p11) rfl (fun K hK=>?_) AllReadyH.nil)
   refine wanted_step (by kernel_rfl) ?_
   go_simp
   refine hK.out _ _ (trivial) (fun hHeld=>?_)
   (try simp only [Act.put,List.setIfInBounds_toArray,List.set_cons_zero,List.set_cons_succ])
   clear hK K
   refine wpAnyH_ready (rs:=[12]) (by kernel_rfl) (by simp) ?_
   refine (AllReadyH.cons (o:=OP.p12) rfl (fun K hK=>?_) AllReadyH.nil)
   refine wanted_step (by kernel_rfl) ?_
   refine wp_append_lies _ (.tmp 8) (.tmp 15) 120 rfl 0 128 iB (.agg #[.string ⟨#[]⟩,.string ⟨#[]⟩,.int .i64 0,.int .i64 0,.slice none 0 0,.int .i64 0]) 6 80 Tryz.underlying120 hi0 hz0 hz1 hz2 rfl (by decide) (.slice oa m oc) m xs rfl (HR.out _ hb2) ⟨w1.heap.size,0,none⟩ 1 1 (six o (.slice none 0 0)) rfl rfl (HNew.out _) (six_one _ _ ⟨_,_,_,rfl⟩) (by decide) (by unfold maxLen;omega) (by omega) (Nat.zero_le _) _ rfl ?_
   intro g5 c5 w5 hown hgrow hat hlt5
   have he:=HE.out w1 w5 g5 c5 hb2 hown hgrow hat
   refine hK.out _ _ (trivial) (fun hHeld=>?_)
   (try simp only [Act.put,List.setIfInBounds_toArray,List.set_cons_zero,List.set_cons_succ])
   clear hK K
   refine wpAnyH_take (i:=13) (oi:=OP.p13) (v:=ptr d) rfl (by kernel_rfl) (by kernel_rfl) (by kernel_rfl) (fun _ _ _ h=>h) (Or.inl ⟨by rfl,fun X hX=>rfl⟩) hHeld ?_
   (try simp only [Act.put,List.setIfInBounds_toArray,List.set_cons_zero,List.set_cons_succ])
   refine wpAnyH_take (i:=14) (oi:=OP.p14) (v:=.pointer (some ⟨d,3,none⟩)) rfl (by kernel_rfl) (by kernel_rfl) (by kernel_rfl) (fun _ _ _ h=>h) (Or.inl ⟨by rfl,fun X hX=>rfl⟩) hHeld ?_
   (try simp only [Act.put,List.setIfInBounds_toArray,List.set_cons_zero,List.set_cons_succ])
   have q3:=he.1
   have f3:=he.2.1
   refine wpAnyH_ready (rs:=[15]) (by kernel_rfl) (by simp) ?_
   refine (AllReadyH.cons (o:=OP.p15) rfl (fun K hK=>?_) AllReadyH.nil)
   refine wanted_step (by kernel_rfl) ?_
   go_simp
   refine hK.out _ _ (trivial) (fun hHeld=>?_)
   (try simp only [Act.put,List.setIfInBounds_toArray,List.set_cons_zero,List.set_cons_succ])
   clear hK K
   refine wpAnyH_done (by kernel_rfl) ?_ _
   exact bodyPost_end (results_none rfl _ _ _) rfl ⟨rfl,he.2.2⟩
  ·refine wanted_step (by kernel_rfl) ?_
   go_simp
   refine hK.out _ _ (trivial) (fun hHeld=>?_)
   (try simp only [Act.put,List.setIfInBounds_toArray,List.set_cons_zero,List.set_cons_succ])
   clear hK K
   refine wpAnyH_ready (rs:=[4]) (by kernel_rfl) (by simp) ?_
   refine (AllReadyH.cons (o:=OP.p6) rfl (fun K hK=>?_) AllReadyH.nil)
   refine wanted_step (by kernel_rfl) ?_
   have q3:=HCell.out (w1.alloc (.cells #[.string kk,.string ⟨#[]⟩,.int .i64 ff,.int .i64 0,.slice none 0 0,.int .i64 0] 128)) (hb2.alloc hb2.size _)
   go_simp
   refine hK.out _ _ (trivial) (fun hHeld=>?_)
   (try simp only [Act.put,List.setIfInBounds_toArray,List.set_cons_zero,List.set_cons_succ])
   clear hK K
   clear q3
   refine wpAnyH_ready (rs:=[12]) (by kernel_rfl) (by simp) ?_
   refine (AllReadyH.cons (o:=OP.p12) rfl (fun K hK=>?_) AllReadyH.nil)
   refine wanted_step (by kernel_rfl) ?_
   refine wp_append_lies _ (.tmp 8) (.tmp 15) 120 rfl 0 128 iB (.agg #[.string ⟨#[]⟩,.string ⟨#[]⟩,.int .i64 0,.int .i64 0,.slice none 0 0,.int .i64 0]) 6 80 Tryz.underlying120 hi0 hz0 hz1 hz2 rfl (by decide) (.slice oa m oc) m xs rfl (HR.out _ hb2) ⟨w1.heap.size,0,none⟩ 1 1 (six o (.slice none 0 0)) rfl rfl (HNew.out _) (six_one _ _ ⟨_,_,_,rfl⟩) (by decide) (by unfold maxLen;omega) (by omega) (Nat.zero_le _) _ rfl ?_
   intro g5 c5 w5 hown hgrow hat hlt5
   have he:=HE.out w1 w5 g5 c5 hb2 hown hgrow hat
   refine hK.out _ _ (trivial) (fun hHeld=>?_)
   (try simp only [Act.put,List.setIfInBounds_toArray,List.set_cons_zero,List.set_cons_succ])
   clear hK K
   refine wpAnyH_take (i:=13) (oi:=OP.p13) (v:=ptr d) rfl (by kernel_rfl) (by kernel_rfl) (by kernel_rfl) (fun _ _ _ h=>h) (Or.inl ⟨by rfl,fun X hX=>rfl⟩) hHeld ?_
   (try simp only [Act.put,List.setIfInBounds_toArray,List.set_cons_zero,List.set_cons_succ])
   refine wpAnyH_take (i:=14) (oi:=OP.p14) (v:=.pointer (some ⟨d,3,none⟩)) rfl (by kernel_rfl) (by kernel_rfl) (by kernel_rfl) (fun _ _ _ h=>h) (Or.inl ⟨by rfl,fun X hX=>rfl⟩) hHeld ?_
   (try simp only [Act.put,List.setIfInBounds_toArray,List.set_cons_zero,List.set_cons_succ])
   have q3:=he.1
   have f3:=he.2.1
   refine wpAnyH_ready (rs:=[15]) (by kernel_rfl) (by simp) ?_
   refine (AllReadyH.cons (o:=OP.p15) rfl (fun K hK=>?_) AllReadyH.nil)
   refine wanted_step (by kernel_rfl) ?_
   go_simp
   refine hK.out _ _ (trivial) (fun hHeld=>?_)
   (try simp only [Act.put,List.setIfInBounds_toArray,List.set_cons_zero,List.set_cons_succ])
   clear hK K
   refine wpAnyH_done (by kernel_rfl) ?_ _
   exact bodyPost_end (results_none rfl _ _ _) rfl ⟨rfl,he.2.2⟩
end
end Go.Proofs.YtojoahlpgmnbnaaGreatDoor.K
namespace Go.Proofs.YtojoahlpgmnbnaaGreatDoor.K
open Go.RowKit
open Go.Lib hiding intOf
open U S T
structure Small (L:List TokP) (s:St):Prop where
 i:s.i≤L.length
 len:L.length≤1000000
 todo:s.todo.length≤1000000
 opn:s.opn.length≤1000000
 kids:∀ o∈s.opn,o.kids.length≤1000000
def Does (d:Nat) (L:List TokP) (size:Nat) (lv:Value) (i:Nat) (O:Nat→Prop) (W:World) (r:Res) (e:Ending) (W':World):Prop:=match r with
 | .go s'=>e=.returned (.tuple #[])∧∃ O',Mem d L size lv s' O' W'∧Stay O O' W W'
 | .wrong=>Panics L size i W e W'
 | .stuck=>True
section
variable {d:Nat} {L:List TokP} {size:Nat} {lv:Value} {s:St} {O O':Nat→Prop}
theorem BoxAt.below {W W':World} {b:Nat} {v:Value} {t:TypeId} (h:BoxAt O W b v t) (hb:Below W.heap.size W W'):BoxAt O W' b v t:=h.stay (.of_below hb)
theorem box_new {W W':World} {b:Nat} {v:Value} {t:TypeId} (hM:Mem d L size lv s O W) (hb:W.heap.size≤b) (h:W'.heap[b]?=some (.cells #[v] t (0,0))):BoxAt O W' b v t :=
 ⟨⟨(Array.getElem?_eq_some_iff.1 h).1,fun hO=>by have:=hM.lt b hO;omega,_,h,rfl⟩,h⟩
theorem alloc2 (W:World) (o o':Obj):((W.alloc o).alloc o').heap[W.heap.size]?=some o∧((W.alloc o).alloc o').heap[W.heap.size+1]?=some o'∧Below W.heap.size W ((W.alloc o).alloc o'):=by
 refine ⟨?_,?_,((Below.refl _ _).alloc (Nat.le_refl _) _).alloc (by simp) _⟩
 ·rw [Below.heap_alloc _ _ _ (by simp)];exact heap_new _ _
 ·have h:=heap_new (W.alloc o) o'
  rw [World.size_alloc] at h
  exact h
def Made (d:Nat) (f:Nat) (u:Value) (t:TypeId) (O:Nat→Prop) (W:World) (e:Ending) (W':World):Prop:=∃ b1 b2,e=.returned (.func (.func f) #[] #[ptr b1,ptr b2])∧BoxAt O W' b1 (ptr d) 110∧BoxAt O W' b2 u t∧Below W.heap.size W W'
theorem made_end {W:World} {f:Nat} {u:Value} {t:TypeId} (hM:Mem d L size lv s O W):Made d f u t O W (.returned (.func (.func f) #[] #[ptr W.heap.size,ptr (W.heap.size+1)])) ((W.alloc (.cells #[ptr d] 110)).alloc (.cells #[u] t)):=by
 obtain ⟨h1,h2,h3⟩:=alloc2 W (.cells #[ptr d] 110) (.cells #[u] t)
 exact ⟨_,_,rfl,box_new hM (Nat.le_refl _) h1,box_new hM (by omega) h2,h3⟩
theorem hmf (fn:Fn) (first cap:Array Value) (w:World):(Instr.makeFunc fn first cap).run Tryz.prog w=.ok (.func fn first cap) w:=rfl
set_option maxHeartbeats 4000000 in
set_option maxRecDepth 20000 in
theorem word_make {W:World} (hM:Mem d L size lv s O W) (x:By):Calls Tryz.prog 118 #[ptr d,.string (bstr x)] W (Made d 131 (.string (bstr x)) 9 O W):=by
 have hend:=made_end (f:=131) (u:=.string (bstr x)) (t:=9) hM
 have hmf:=hmf
 have HE:=hid hend
 clear hend
 go_enter Tryz.func118,Tryz.ntmps118
 go_wp2_with fail
 go_ret
 exact HE.out
set_option maxHeartbeats 4000000 in
set_option maxRecDepth 20000 in
theorem lines_make {W:World} (hM:Mem d L size lv s O W) (k:Nat):Calls Tryz.prog 125 #[ptr d,.func (.func k) #[ptr d] #[]] W (Made d 139 (.func (.func k) #[ptr d] #[]) 1 O W):=by
 have HE:=hid (made_end (f:=139) (u:=.func (.func k) #[ptr d] #[]) (t:=1) hM)
 have hmf:=hmf
 go_enter Tryz.func125,Tryz.ntmps125
 go_wp2_with fail
 go_ret
 exact HE.out
set_option maxHeartbeats 4000000 in
set_option maxRecDepth 20000 in
theorem commas_make {W:World} (hM:Mem d L size lv s O W) (k:Nat):Calls Tryz.prog 134 #[ptr d,.func (.func k) #[ptr d] #[]] W (Made d 142 (.func (.func k) #[ptr d] #[]) 1 O W):=by
 have HE:=hid (made_end (f:=142) (u:=.func (.func k) #[ptr d] #[]) (t:=1) hM)
 have hmf:=hmf
 go_enter Tryz.func134,Tryz.ntmps134
 go_wp2_with fail
 go_ret
 exact HE.out
set_option maxHeartbeats 4000000 in
set_option maxRecDepth 20000 in
theorem more_make {W:World} (hM:Mem d L size lv s O W) (k:Nat):Calls Tryz.prog 140 #[ptr d,.func (.func k) #[ptr d] #[]] W (Made d 148 (.func (.func k) #[ptr d] #[]) 1 O W):=by
 have HE:=hid (made_end (f:=148) (u:=.func (.func k) #[ptr d] #[]) (t:=1) hM)
 have hmf:=hmf
 go_enter Tryz.func140,Tryz.ntmps140
 go_wp2_with fail
 go_ret
 exact HE.out
set_option maxHeartbeats 4000000 in
set_option maxRecDepth 20000 in
theorem moreC_make {W:World} (hM:Mem d L size lv s O W) (k:Nat):Calls Tryz.prog 143 #[ptr d,.func (.func k) #[ptr d] #[]] W (Made d 149 (.func (.func k) #[ptr d] #[]) 1 O W):=by
 have HE:=hid (made_end (f:=149) (u:=.func (.func k) #[ptr d] #[]) (t:=1) hM)
 have hmf:=hmf
 go_enter Tryz.func143,Tryz.ntmps143
 go_wp2_with fail
 go_ret
 exact HE.out
theorem then_lit {W:World} (hM:Mem d L size lv s O W) (l:List Stp) (vs:List Value) (n:Nat) (hn:vs.length=n) (ha:ArgsIn O W d l vs) (hl:n≤1000) (ht:s.todo.length≤1000000) :
  Calls Tryz.prog 100 #[ptr d,.slice (some ⟨W.heap.size,0,none⟩) n n] (W.alloc (.cells vs.toArray 1)) fun e W'=>e=.returned (.tuple #[])∧∃ O',Mem d L size lv { s with todo:=l++s.todo } O' W'∧Stay O O' W W':=by
 subst hn
 have hb:Below W.heap.size W (W.alloc (.cells vs.toArray 1)):=(Below.refl _ _).alloc (Nat.le_refl _) _
 have hn:=heap_new W (.cells vs.toArray 1)
 have hargs:∀ {l:List Stp} {vs:List Value} {W':World},Stay O O W W'→ArgsIn O W d l vs→ArgsIn O W' d l vs:=by
  intro l
  induction l with
  | nil=>intro vs W' _ h;exact h
  | cons x r ih=>rintro vs W' hS ⟨v,us,h1,h2,h3⟩;exact ⟨v,us,h1,h2.stay hS,ih hS h3⟩
 refine (then_any (hM.below hb) l vs W.heap.size ⟨by simp,fun h=>by have:=hM.lt _ h;omega,_,hn,rfl⟩ hn (hargs (.of_below hb) ha) hl ht).mono ?_
 rintro e W' ⟨h1,O',h2,h3⟩
 exact ⟨h1,O',h2,(Stay.of_below hb).trans h3⟩
theorem need_bad {W:World} (hM:Mem d L size lv s O W) (hi:s.i≤L.length):Calls Tryz.prog 132 #[ptr d,.bool false] W (Panics L size s.i W):=by
 have c1:=fail_any hM hi
 clear hM hi
 go_enter Tryz.func132,Tryz.ntmps132
 go_wp2_with fail
 refine c1.mono ?_
 rintro e w1 ⟨rfl,hb1⟩
 dsimp only
 exact ⟨rfl,rfl,hb1⟩
theorem Mem.next {W:World} (hM:Mem d L size lv s O W) (j:Int) (hj:j=((s.i+1:Nat):Int)):Mem d L size lv { s with i:=s.i+1 } O (W.setCell ⟨d,1,none⟩ (.int .i64 j))∧Stay O O W (W.setCell ⟨d,1,none⟩ (.int .i64 j))∧W.cell? ⟨d,1,none⟩=some (.int .i64 s.i)∧W.frozen? ⟨d,1,none⟩=false:=by
 subst hj
 obtain ⟨tv,ov,bs,vs,xs,h⟩:=hM
 have hOd:O d:=(h.own d).2 (.inl rfl)
 have hset:∀ k,k≠d→(W.setCell ⟨d,1,none⟩ (.int .i64 ((s.i+1:Nat):Int))).heap[k]?=W.heap[k]?:=fun k hk=>Below.heap_setCell _ _ _ _ hk
 have hS:Stay O O W (W.setCell ⟨d,1,none⟩ (.int .i64 ((s.i+1:Nat):Int))):=⟨rfl,rfl,rfl,by simp,fun _ h=>.inl h,fun k _ hO=>hset k (fun e=>hO (e ▸ hOd))⟩
 have hb:=h.blk
 have ne:∀ {k:Nat} {t:TypeId},Ty W k t→t≠123→k≠d:=fun h1 h2 e=>by rw [e] at h1;exact h2 (h1.one ⟨_,_,hb⟩)
 refine ⟨⟨tv,ov,bs,vs,xs,Go.Joins.block_setCell hb _,h.words.stay hS,owns_at h.todoR (fun k hk=>hset k (ne (owns_ty h.todoR hk) (by decide))),h.todo.stay hS,owns_at h.opnR (fun k hk=>hset k (ne (owns_ty h.opnR hk) (by decide))),
  OpensIn.stay hS h.opn (fun k hk=>hset k (ne (opens_ty h.opn hk) (by decide))),h.apart,h.own⟩,hS,by simp [World.cell?,hb],by simp [World.frozen?,hb]⟩
set_option maxHeartbeats 4000000 in
theorem need_ok {W:World} (hM:Mem d L size lv s O W) (hi:s.i≤1000000):Calls Tryz.prog 132 #[ptr d,.bool true] W fun e W'=>e=.returned (.tuple #[])∧Mem d L size lv { s with i:=s.i+1 } O W'∧Stay O O W W':=by
 obtain ⟨h1,h2,c1,f1⟩:=hM.next ((s.i:Int)+1) (by omega)
 have e0:IntKind.i64.wrap ((s.i:Int)+1)=(s.i:Int)+1:=IntWalk.i64_in _ (by omega)
 have H1:=hid h1
 have H2:=hid h2
 obtain ⟨i,hi'⟩:∃ i,s.i=i:=⟨_,rfl⟩
 rw [hi'] at c1 e0 H1 H2
 rw [hi']
 clear h1 h2 hM hi hi'
 go_enter Tryz.func132,Tryz.ntmps132
 go_wp2_with fail
 go_end0
 exact ⟨rfl,H1.out,H2.out⟩
end
end Go.Proofs.YtojoahlpgmnbnaaGreatDoor.K
