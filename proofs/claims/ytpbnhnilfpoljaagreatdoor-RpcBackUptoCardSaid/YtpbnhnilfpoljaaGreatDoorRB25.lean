/- What the claim needs of the texts MRead2, MRead3, MSmall. -/
import Derived.Test.YtpbnhnilfpoljaaGreatDoorRB24
import Derived.Test.YtpbnhnilfpoljaaGreatDoorRB20
namespace Go.Proofs.YtpbnhnilfpoljaaGreatDoor.M
open Go.RowKit
open Go.Lib Go.Proofs.YtpbnhnilfpoljaaGreatDoor.V
def CallsP (k:Int) (p:Val) (w:World) (e:Ending) (w':World):Prop :=
 Below w.heap.size w w'∧∃ ch ol ok,e=.returned (.tuple #[argC (paramsP k zV p) (.slice none 0 0) (.slice none 0 0) ch ol ok,.bool (paramsOk k p)])∧CallIn w' (fun g=>w.heap.size≤g) (paramsP k zV p) (.slice none 0 0) (.slice none 0 0) ch ol ok
def zeroC:Array Value:=#[.int .i64 0,.int .i64 0,.bool false,.int .i64 0,.string ⟨#[]⟩,.slice none 0 0,.slice none 0 0,.string ⟨#[]⟩,.int .i64 0,.string ⟨#[]⟩,.slice none 0 0,.int .i64 0,.int .i64 0,.int .i64 0,.bool false,.int .i64 0,.string ⟨#[]⟩,.slice none 0 0,.slice none 0 0]
def kindC (k:Int):Array Value:=#[.int .i64 k,.int .i64 0,.bool false,.int .i64 0,.string ⟨#[]⟩,.slice none 0 0,.slice none 0 0,.string ⟨#[]⟩,.int .i64 0,.string ⟨#[]⟩,.slice none 0 0,.int .i64 0,.int .i64 0,.int .i64 0,.bool false,.int .i64 0,.string ⟨#[]⟩,.slice none 0 0,.slice none 0 0]
theorem build_call (k:Int) (W:World):(Instr.build 43 #[(0,.int .i64 k)]).run Tryz.prog W=.ok (.agg (kindC k)) W:=by kernel_rfl
theorem store_kind {k:Int} {W:World} {g:Nat} (h:W.heap[g]?=some (.cells zeroC 43 (0,0))):(Instr.storeAt 43 (.pointer (some ⟨g,0,none⟩)) (.agg (kindC k))).run Tryz.prog W=.ok () (W.setRow g (kindC k)) :=
 Cs.store h rfl rfl (by kernel_rfl)
set_option maxHeartbeats 4000000 in
set_option maxRecDepth 20000 in
theorem call_none (k:Int) (hk:k≤3) (nm:ByteArray) (ask:Bool) (p:Val) (lv kv:Value) (R:Nat→Prop) (w:World) (hv:ValIn w R p lv kv) :
  Calls Tryz.prog 40 #[.agg #[.int .i64 k,.string nm,.bool ask,.bool false],arg p lv kv] w (CallsP k p w):=by
 have hp1:paramsP k zV p=call0 k zV:=by unfold paramsP;rw [if_pos hk]
 have hp2:paramsOk k p=true:=by unfold paramsOk;rw [if_pos hk]
 unfold CallsP
 rw [hp1,hp2]
 have hv':=hv
 obtain ⟨so,on,n,t,l,ks⟩:=p
 obtain ⟨⟨a1,c1,rfl,_⟩,⟨a2,c2,rfl,_⟩⟩:=hv'
 clear hp1 hp2 hv hk
 have hres:∀ b W,(Value.agg (kindC k))=argC (call0 k zV) (.slice none 0 0) (.slice none 0 0) (.slice none 0 0) (.slice none 0 0) (.slice none 0 0)∧CallIn W b (call0 k zV) (.slice none 0 0) (.slice none 0 0) (.slice none 0 0) (.slice none 0 0) (.slice none 0 0) :=
  fun b W=>⟨rfl,leaf_in _ _ _ _ _ _,edits_nil _ _,leaf_in _ _ _ _ _ _⟩
 have HRes:=Lib.hid hres
 clear hres
 simp only [arg,six',six,strCell]
 generalize l.length=m1
 generalize ks.length=m2
 obtain ⟨h1,h2,h3,h4⟩:=three w (.cells #[.int .i64 k,.string nm,.bool ask,.bool false] 73) (.cells #[.int .i64 so,.bool on,.int .i64 n,.string ⟨t.toArray⟩,.slice a1 m1 c1,.slice a2 m2 c2] 36) (.cells #[.int .i64 0,.int .i64 0,.bool false,.int .i64 0,.string ⟨#[]⟩,.slice none 0 0,.slice none 0 0,.string ⟨#[]⟩,.int .i64 0,.string ⟨#[]⟩,.slice none 0 0,.int .i64 0,.int .i64 0,.int .i64 0,.bool false,.int .i64 0,.string ⟨#[]⟩,.slice none 0 0,.slice none 0 0] 43)
 obtain ⟨W3,hW3⟩:∃ W3,((w.alloc (.cells #[.int .i64 k,.string nm,.bool ask,.bool false] 73)).alloc (.cells #[.int .i64 so,.bool on,.int .i64 n,.string ⟨t.toArray⟩,.slice a1 m1 c1,.slice a2 m2 c2] 36)).alloc (.cells #[.int .i64 0,.int .i64 0,.bool false,.int .i64 0,.string ⟨#[]⟩,.slice none 0 0,.slice none 0 0,.string ⟨#[]⟩,.int .i64 0,.string ⟨#[]⟩,.slice none 0 0,.int .i64 0,.int .i64 0,.int .i64 0,.bool false,.int .i64 0,.string ⟨#[]⟩,.slice none 0 0,.slice none 0 0] 43)=W3:=⟨_,rfl⟩
 rw [hW3] at h1 h2 h3 h4
 have q0:W3.cell? ⟨w.heap.size,0,none⟩=some (.int .i64 k):=by unfold World.cell?;rw [h1];rfl
 have q3:W3.cell? ⟨w.heap.size,3,none⟩=some (.bool false):=by unfold World.cell?;rw [h1];rfl
 have hB3:Below w.heap.size w W3:=h4.1
 have hz3:w.heap.size+3≤W3.heap.size:=by have:=h4.2;omega
 have hR3:Cs (w.heap.size+1+1) zeroC W3:=h3
 have hC4:Cs W3.heap.size (kindC k) ((W3.alloc (.cells zeroC 43)).setRow W3.heap.size (kindC k)):=Cs.row (old:=zeroC) (heap_alloc_new _ _) _
 have hR4:Cs (w.heap.size+1+1) zeroC ((W3.alloc (.cells zeroC 43)).setRow W3.heap.size (kindC k)):=(hR3.alloc _).row_ne (by omega) _
 have hB4:Below w.heap.size w ((W3.alloc (.cells zeroC 43)).setRow W3.heap.size (kindC k)):=Below.setRow' (hB3.alloc hB3.size _) (by omega) _
 have q4:((W3.alloc (.cells zeroC 43)).setRow W3.heap.size (kindC k)).cell? ⟨w.heap.size,3,none⟩=some (.bool false):=by
  rw [cell_setRow_other _ _ _ _ (by show w.heap.size≠W3.heap.size;omega)];exact Lib.cell?_alloc_some _ q3
 have hbd:=fun W=>build_call k W
 have hst:=fun (W:World) (g:Nat) h=>store_kind (k:=k) (W:=W) (g:=g) h
 obtain ⟨V,hV⟩:∃ V,Value.agg (kindC k)=V:=⟨_,rfl⟩
 rw [hV] at HRes
 simp only [hV] at hbd hst
 have HC4:=Lib.hid hC4
 have HR4:=Lib.hid hR4
 have HB4:=Lib.hid hB4
 clear h1 h2 h3 h4 hR3 hB3 hC4 hR4 hB4
 go_enter Tryz.func40,Tryz.ntmps40
 go_upto_region 1 with fail
 iterate 7 go_step
 refine wpList_buildV rfl 43 [(0,.tmp 10)] rfl V (hbd _) ?_
 iterate 3 go_step
 refine wpList_storeV rfl rfl 43 (.tmp 6) (.tmp 11) rfl _ (hst _ _ (heap_alloc_new _ _)) ?_
 go_upto_region 2 with fail
 obtain ⟨W4,hW4⟩:∃ W4,(W3.alloc (.cells #[.int .i64 0,.int .i64 0,.bool false,.int .i64 0,.string ⟨#[]⟩,.slice none 0 0,.slice none 0 0,.string ⟨#[]⟩,.int .i64 0,.string ⟨#[]⟩,.slice none 0 0,.int .i64 0,.int .i64 0,.int .i64 0,.bool false,.int .i64 0,.string ⟨#[]⟩,.slice none 0 0,.slice none 0 0] 43)).setRow W3.heap.size (kindC k)=W4:=⟨_,rfl⟩
 rw [show (W3.alloc (.cells zeroC 43)).setRow W3.heap.size (kindC k)=W4 from hW4] at HC4 HR4 HB4 q4
 rw [hW4]
 clear hW4 hW3 q0 q3
 go_upto_region 3 with fail
 iterate 1 go_step
 refine wpList_loadTab rfl _ _ rfl V ((HC4.out.load rfl).trans (by rw [hV])) ?_
 refine wpList_storeV rfl rfl 43 (.tmp 4) (.tmp 15) rfl _ (by rw [← hV];exact Cs.store HR4.out rfl rfl (by kernel_rfl)) ?_
 have hF:Cs (w.heap.size+1+1) (kindC k) (W4.setRow (w.heap.size+1+1) (kindC k)):=HR4.out.row _
 have hBF:Below w.heap.size w (W4.setRow (w.heap.size+1+1) (kindC k)):=Below.setRow' HB4.out (by omega) _
 obtain ⟨WF,hWF⟩:∃ WF,W4.setRow (w.heap.size+1+1) (kindC k)=WF:=⟨_,rfl⟩
 rw [hWF] at hF hBF ⊢
 have HF:=Lib.hid hF
 have HBF:=Lib.hid hBF
 clear hF hBF hWF
 go_wp2_with fail
 refine bodyPost_ret (v:=.tuple #[.agg (kindC k),.bool true]) ((results_call (fn:=Tryz.f40) (p:=4) (u:=5) (by rfl) (by rfl) HF.out rfl).trans rfl) rfl ?_
 rw [hV]
 exact ⟨HBF.out,.slice none 0 0,.slice none 0 0,.slice none 0 0,by rw [(HRes.out (fun _=>True) WF).1],(HRes.out _ WF).2⟩
end Go.Proofs.YtpbnhnilfpoljaaGreatDoor.M
namespace Go.Proofs.YtpbnhnilfpoljaaGreatDoor.M
open Go.RowKit
open Go.Lib Go.Proofs.YtpbnhnilfpoljaaGreatDoor.V
theorem yields_load {P:Program} {ops:Array Oper} {S:World→Prop} {o:Oper} {v:Value} {a:Act} (t:TypeId) (x:Operand) (ho:o.op=.load t x) (hw:Region.wanted o (yielded ops a.tmps)=true) (h:∀ X,S X→(Instr.loadAt t (a.eval x)).run P X=.ok v X):YieldsIf P ops S o v a :=
 .inl ⟨hw,fun X hX=>by unfold execOp;rw [ho];simp only [Sem.run_bind,h X hX,Result.andThen_ok,Sem.run_pure]⟩
theorem load_tk {d:Nat} {b:Bool} {W:World} (h:Tk d b W):(Instr.loadAt 4 (.pointer (some ⟨d,0,none⟩))).run Tryz.prog W=.ok (.bool b) W:=by
 have h0:=h.c0
 simp [go_sem,h0]
theorem wp_storeV {P:Program} {w:World} {o:Oper} {a:Act} {K:Act→World→Prop} {Q:Exit→Act→World→Prop} (hd:o.dst=none) (t:TypeId) (x y:Operand) (ho:o.op=.store t x y) (w':World)
  (hr:(Instr.storeAt t (a.eval x) (a.eval y)).run P w=.ok () w') (h:K a w'):o.wp P a w K Q:=by
 have e:a.put o.dst undef=a:=by rw [hd];rfl
 unfold Oper.wp
 simp [execOp,ho,hr,Result.andThen]
 show K (a.put o.dst undef) w'
 rw [e];exact h
theorem wanted_step {c:Prop} [Decidable c] {A B:Prop} (hc:c) (hA:A):if c then A else B:=by rw [if_pos hc];exact hA
theorem store_as {q:Nat} {old cs:Array Value} {V:Value} {W:World} (hV:Value.agg cs=V) (h:Cs q old W) (ho:old.size=19) (hs:cs.size=19) (h1:cs.all (·.oneCell')=true) :
  (Instr.storeAt 43 (.pointer (some ⟨q,0,none⟩)) V).run Tryz.prog W=.ok () (W.setRow q cs):=by rw [← hV];exact h.store ho hs h1
theorem need_in (v:Val) (k:List UInt8) (b x:Bool) (hx:x=true→sortOf (getZ v [k])=5):((b||needP v k [5])||!x)=(b||!x):=by
 unfold needP badP
 cases x with
 | false=>cases b <;> simp
 | true =>
  have h5:=hx rfl
  cases hh:hasP v [k] with
  | false =>
   have hz:getZ v [k]=zV:=by unfold hasP at hh;unfold getZ;cases hg:getP v [k] with
    | none=>rfl
    | some u=>rw [hg] at hh;cases hh
   rw [hz] at h5;cases h5
  | true=>rw [h5];cases b <;> simp
theorem text_rec {u:Val} {k:List UInt8} (h:isText u [k]=true):sortOf u=5:=by
 unfold isText at h
 rw [Bool.and_eq_true] at h
 exact has_rec h.1
theorem text_two (v:Val) (a b:List UInt8):isText v [a,b]=isText (getZ v [a]) [b]∧textAt v [a,b]=textAt (getZ v [a]) [b]:=by
 obtain ⟨h1,h2⟩:=two_paths v a b
 unfold isText textAt
 simp only [h1,h2]
 exact ⟨trivial,trivial⟩
theorem num_two (v:Val) (a b:List UInt8):isNum v [a,b]=isNum (getZ v [a]) [b]∧numAt v [a,b]=numAt (getZ v [a]) [b]:=by
 obtain ⟨h1,h2⟩:=two_paths v a b
 unfold isNum numAt
 simp only [h1,h2]
 exact ⟨trivial,trivial⟩
theorem calls_end {k:Int} {p:Val} {w WF:World} {C:Array Value} {ok:Bool} {ch ol okv:Value} (hb:Below w.heap.size w WF) (hc:Value.agg C=argC (paramsP k zV p) (.slice none 0 0) (.slice none 0 0) ch ol okv) (ho:ok=paramsOk k p)
  (he:EditsIn WF (fun g=>w.heap.size≤g) (paramsP k zV p).changes ch) (hv:ValIn WF (fun g=>w.heap.size≤g) (paramsP k zV p).other ol okv) (hid:(paramsP k zV p).id=zV):CallsP k p w (.returned (.tuple #[.agg C,.bool ok])) WF:=by
 refine ⟨hb,ch,ol,okv,by rw [hc,ho],⟨?_,he,hv⟩⟩
 rw [hid];exact leaf_in _ _ _ _ _ _
set_option maxHeartbeats 8000000 in
set_option maxRecDepth 20000 in
theorem call_9 (nm:ByteArray) (ask:Bool) (p:Val) (lv kv:Value) (R:Nat→Prop) (w:World) (hv0:ValIn w R p lv kv) (hw:wt p≤65536) :
  Calls Tryz.prog 40 #[.agg #[.int .i64 9,.string nm,.bool ask,.bool true],arg p lv kv] w (CallsP 9 p w):=by
 have hv:ValIn w (fun g=>g<w.heap.size) p lv kv:=(ValIn.bound _ _ _ hv0).later (fun _ _ _=>rfl) (fun _ h=>h.2) _ _ _
 have hv':=hv
 obtain ⟨so,on,n,t,l,ks⟩:=p
 obtain ⟨⟨a1,c1,rfl,_⟩,⟨a2,c2,rfl,_⟩⟩:=hv'
 have cP:=fun W g d b (hb:Below w.heap.size w W) (hk:Tk d b W) hs=>part_any (.mk so on n t l ks) _ _ bId [2,3] g 0 2 d b _ W hk (val_below hv hb) hw hs (by simp) (by simp)
 have hpar:paramsP 9 zV (.mk so on n t l ks)={ call0 9 zV with other:=getZ (.mk so on n t l ks) [bId] }:=by unfold paramsP;rw [if_neg (by decide),if_pos rfl]
 have hok:paramsOk 9 (.mk so on n t l ks)=(hasP (.mk so on n t l ks) [bId]&&idP (getZ (.mk so on n t l ks) [bId])):=by unfold paramsOk;rw [if_neg (by decide),if_pos rfl]
 have hwr:(!(false||needP (.mk so on n t l ks) bId [2,3]))=paramsOk 9 (.mk so on n t l ks):=by
  rw [hok];unfold needP badP idP
  have e1:decide (sortOf (getZ (.mk so on n t l ks) [bId])∈([2,3]:List Int))=(sortOf (getZ (.mk so on n t l ks) [bId])==2||sortOf (getZ (.mk so on n t l ks) [bId])==3):=by rw [Bool.eq_iff_iff];simp
  rw [e1]
  cases hasP (.mk so on n t l ks) [bId] <;> cases (sortOf (getZ (.mk so on n t l ks) [bId])==2||sortOf (getZ (.mk so on n t l ks) [bId])==3) <;> rfl
 have HPar:=Lib.hid hpar
 have HWr:=Lib.hid hwr
 clear hpar hok hwr
 generalize needP (.mk so on n t l ks) bId [2,3]=x1 at cP HWr
 generalize hov:getZ (.mk so on n t l ks) [bId]=ov at cP HPar
 clear hov
 obtain ⟨oso,oon,onn,otx,olst,oks⟩:=ov
 simp only [arg,six',six,strCell,bId,List.length_cons,List.length_nil,Nat.zero_add] at cP ⊢
 clear hv0 hv
 generalize l.length=m1 at cP ⊢
 generalize ks.length=m2 at cP ⊢
 have CP:=Lib.hid cP
 clear cP
 obtain ⟨h1,h2,h3,h4⟩:=three w (.cells #[.int .i64 9,.string nm,.bool ask,.bool true] 73) (.cells #[.int .i64 so,.bool on,.int .i64 n,.string ⟨t.toArray⟩,.slice a1 m1 c1,.slice a2 m2 c2] 36) (.cells #[.int .i64 0,.int .i64 0,.bool false,.int .i64 0,.string ⟨#[]⟩,.slice none 0 0,.slice none 0 0,.string ⟨#[]⟩,.int .i64 0,.string ⟨#[]⟩,.slice none 0 0,.int .i64 0,.int .i64 0,.int .i64 0,.bool false,.int .i64 0,.string ⟨#[]⟩,.slice none 0 0,.slice none 0 0] 43)
 obtain ⟨W3,hW3⟩:∃ W3,((w.alloc (.cells #[.int .i64 9,.string nm,.bool ask,.bool true] 73)).alloc (.cells #[.int .i64 so,.bool on,.int .i64 n,.string ⟨t.toArray⟩,.slice a1 m1 c1,.slice a2 m2 c2] 36)).alloc (.cells #[.int .i64 0,.int .i64 0,.bool false,.int .i64 0,.string ⟨#[]⟩,.slice none 0 0,.slice none 0 0,.string ⟨#[]⟩,.int .i64 0,.string ⟨#[]⟩,.slice none 0 0,.int .i64 0,.int .i64 0,.int .i64 0,.bool false,.int .i64 0,.string ⟨#[]⟩,.slice none 0 0,.slice none 0 0] 43)=W3:=⟨_,rfl⟩
 rw [hW3] at h1 h2 h3 h4
 have q0:W3.cell? ⟨w.heap.size,0,none⟩=some (.int .i64 9):=by unfold World.cell?;rw [h1];rfl
 have hB3:Below w.heap.size w W3:=h4.1
 have hz3:w.heap.size+3≤W3.heap.size:=by have:=h4.2;omega
 have hR3:Cs (w.heap.size+1+1) zeroC W3:=h3
 obtain ⟨W4,hW4⟩:∃ W4,(W3.alloc (.cells #[.int .i64 0,.int .i64 0,.bool false,.int .i64 0,.string ⟨#[]⟩,.slice none 0 0,.slice none 0 0,.string ⟨#[]⟩,.int .i64 0,.string ⟨#[]⟩,.slice none 0 0,.int .i64 0,.int .i64 0,.int .i64 0,.bool false,.int .i64 0,.string ⟨#[]⟩,.slice none 0 0,.slice none 0 0] 43)).setRow W3.heap.size (kindC 9)=W4:=⟨_,rfl⟩
 have hC4:Cs W3.heap.size (kindC 9) W4:=by rw [← hW4];exact Cs.row (old:=zeroC) (heap_alloc_new _ _) _
 have hR4:Cs (w.heap.size+1+1) zeroC W4:=by rw [← hW4];exact (hR3.alloc _).row_ne (by omega) _
 have hB4:Below w.heap.size w W4:=by rw [← hW4];exact Below.setRow' (hB3.alloc hB3.size _) (by omega) _
 have hM4:W4.heap[w.heap.size]?=some (.cells #[.int .i64 9,.string nm,.bool ask,.bool true] 73 (0,0)):=by rw [← hW4,setRow_other _ _ _ _ (by omega),Below.heap_alloc _ _ _ (by omega)];exact h1
 have hX4:W4.heap[w.heap.size+1]?=some (.cells #[.int .i64 so,.bool on,.int .i64 n,.string ⟨t.toArray⟩,.slice a1 m1 c1,.slice a2 m2 c2] 36 (0,0)):=by rw [← hW4,setRow_other _ _ _ _ (by omega),Below.heap_alloc _ _ _ (by omega)];exact h2
 have hbd:=fun W=>build_call 9 W
 have hst:=fun (W:World) (g:Nat) h=>store_kind (k:=9) (W:=W) (g:=g) h
 obtain ⟨V0,hV0⟩:∃ V,Value.agg (kindC 9)=V:=⟨_,rfl⟩
 simp only [hV0] at hbd hst
 have HB:=Lib.hid hB4
 have HC:=Lib.hid hC4
 have HR:=Lib.hid hR4
 have HM:=Lib.hid hM4
 have HX:=Lib.hid hX4
 clear h1 h2 h3 h4 hR3 hB3 hC4 hR4 hB4 hM4 hX4
 go_enter Tryz.func40,Tryz.ntmps40
 go_upto_region 1 with fail
 iterate 7 go_step
 refine wpList_buildV rfl 43 [(0,.tmp 10)] rfl V0 (hbd _) ?_
 iterate 3 go_step
 refine wpList_storeV rfl rfl 43 (.tmp 6) (.tmp 11) rfl _ (hst _ _ (heap_alloc_new _ _)) ?_
 go_upto_region 2 with fail
 rw [hW4]
 clear hW4 hW3 q0 hbd hst hV0
 generalize W3.heap.size=g at HC hz3 ⊢
 have hrg:w.heap.size+1+1≠g:=by omega
 have hgl:=HC.out.lt
 have m3:W4.cell? ⟨w.heap.size,3,none⟩=some (.bool true):=by unfold World.cell?;rw [HM.out];rfl
 have hTK:=heap_alloc_new W4 (.cells #[.bool false] 133)
 obtain ⟨d,hd⟩:∃ d,W4.heap.size=d:=⟨_,rfl⟩
 obtain ⟨W5,hW5⟩:∃ W5,W4.alloc (.cells #[.bool false] 133)=W5:=⟨_,rfl⟩
 have HT5:=Lib.hid (show Tk d false W5 by rw [← hW5,← hd];exact hTK)
 have HB5:=Lib.hid (show Below w.heap.size w W5 by rw [← hW5];exact HB.out.alloc HB.out.size _)
 have HC5:=Lib.hid (show Cs g (kindC 9) W5 by rw [← hW5];exact HC.out.alloc _)
 have HR5:=Lib.hid (show Cs (w.heap.size+1+1) zeroC W5 by rw [← hW5];exact HR.out.alloc _)
 have HM5:=Lib.hid (show W5.heap[w.heap.size]?=some (.cells #[.int .i64 9,.string nm,.bool ask,.bool true] 73 (0,0)) by rw [← hW5,Below.heap_alloc _ _ _ (by omega)];exact HM.out)
 have HX5:=Lib.hid (show W5.heap[w.heap.size+1]?=some (.cells #[.int .i64 so,.bool on,.int .i64 n,.string ⟨t.toArray⟩,.slice a1 m1 c1,.slice a2 m2 c2] 36 (0,0)) by rw [← hW5,Below.heap_alloc _ _ _ (by omega)];exact HX.out)
 have m0:W5.cell? ⟨w.heap.size,0,none⟩=some (.int .i64 9):=by unfold World.cell?;rw [HM5.out];rfl
 have hz5:d<W5.heap.size:=HT5.out.lt
 rw [hd] at hgl
 clear HB HC HR HM HX hTK
 have HT:=HT5
 have HB:=HB5
 have HC:=HC5
 have HR:=HR5
 have HM:=HM5
 have HX:=HX5
 clear HT5 HB5 HC5 HR5 HM5 HX5
 obtain ⟨⟨p0',p1',p2',p3',p4',p5'⟩,pf⟩:=cells_six HX.out
 have CP5:=Lib.hid (CP.out (W5.alloc (.cells #[.int .i64 2,.int .i64 3] 22)) W5.heap.size d false (HB.out.alloc HB.out.size _) (HT.out.below ((Below.refl _ _).alloc (Nat.le_refl _) _)) (cells_of_block (heap_alloc_new W5 _)))
 have hC6:=HC.out.alloc (.cells #[.int .i64 2,.int .i64 3] 22)
 have hR6:=HR.out.alloc (.cells #[.int .i64 2,.int .i64 3] 22)
 have hB6:=HB.out.alloc HB.out.size (.cells #[.int .i64 2,.int .i64 3] 22)
 have HC6:=Lib.hid hC6
 have HR6:=Lib.hid hR6
 have HB6:=Lib.hid hB6
 clear CP HC HR HB HM HX hC6 hR6 hB6 HT
 go_wp2_with fail
 refine CP5.out.mono ?_
 rintro e w7 ⟨hk7,ol,ok,rfl,hv7⟩
 have hv7':=hv7
 obtain ⟨⟨o1,o2,rfl,_⟩,⟨o3,o4,rfl,_⟩⟩:=hv7'
 have hz7:=hk7.size
 simp only [World.size_alloc] at hz7 hv7
 have hC7:=HC6.out.took hk7 (by omega)
 have hR7:=HR6.out.took hk7 (by omega)
 have hB7:=hk7.below2 HB6.out (by simp;omega) (by omega)
 have n0:=hC7.cell 13
 have n1:=hC7.cell 14
 have n2:=hC7.cell 15
 have n3:=hC7.cell 16
 have n4:=hC7.cell 17
 have n5:=hC7.cell 18
 simp only [kindC,List.getElem?_toArray,List.getElem?_cons_zero,List.getElem?_cons_succ] at n0 n1 n2 n3 n4 n5
 have nf:=hC7.frozen
 obtain ⟨W8,hW8⟩:∃ W8,((((((w7.setCell ⟨g,13,none⟩ (.int .i64 oso)).setCell ⟨g,14,none⟩ (.bool oon)).setCell ⟨g,15,none⟩ (.int .i64 onn)).setCell ⟨g,16,none⟩ (.string ⟨otx.toArray⟩)).setCell ⟨g,17,none⟩ (.slice o1 olst.length o2)).setCell ⟨g,18,none⟩ (.slice o3 oks.length o4))=W8:=⟨_,rfl⟩
 have far8:∀ k,k≠g→W8.heap[k]?=w7.heap[k]?:=fun k hk=>by rw [← hW8,Below.heap_setCell _ _ _ _ hk,Below.heap_setCell _ _ _ _ hk,Below.heap_setCell _ _ _ _ hk,Below.heap_setCell _ _ _ _ hk,Below.heap_setCell _ _ _ _ hk,Below.heap_setCell _ _ _ _ hk]
 have HC:=Lib.hid (show Cs g #[.int .i64 9,.int .i64 0,.bool false,.int .i64 0,.string ⟨#[]⟩,.slice none 0 0,.slice none 0 0,.string ⟨#[]⟩,.int .i64 0,.string ⟨#[]⟩,.slice none 0 0,.int .i64 0,.int .i64 0,.int .i64 oso,.bool oon,.int .i64 onn,.string ⟨otx.toArray⟩,.slice o1 olst.length o2,.slice o3 oks.length o4] W8 by rw [← hW8];exact ((((((hC7.set 13 (.int .i64 oso)).set 14 (.bool oon)).set 15 (.int .i64 onn)).set 16 (.string ⟨otx.toArray⟩)).set 17 (.slice o1 olst.length o2)).set 18 (.slice o3 oks.length o4)))
 have HR:=Lib.hid (show Cs (w.heap.size+1+1) zeroC W8 from (far8 _ (by omega)).trans hR7)
 have HT:=Lib.hid (show Tk d _ W8 from (far8 _ (by omega)).trans hk7.2)
 have HB:=Lib.hid (show Below w.heap.size w W8 by
  have h6:=((((((hB7.setCell (p:=⟨g,13,none⟩) (show w.heap.size≤g by omega) (.int .i64 oso)).setCell (p:=⟨g,14,none⟩) (show w.heap.size≤g by omega) (.bool oon)).setCell (p:=⟨g,15,none⟩) (show w.heap.size≤g by omega) (.int .i64 onn)).setCell (p:=⟨g,16,none⟩) (show w.heap.size≤g by omega) (.string ⟨otx.toArray⟩)).setCell (p:=⟨g,17,none⟩) (show w.heap.size≤g by omega) (.slice o1 olst.length o2)).setCell (p:=⟨g,18,none⟩) (show w.heap.size≤g by omega) (.slice o3 oks.length o4))
  rw [← hW8];exact h6)
 have hv8:ValIn W8 (fun k=>W5.heap.size+1≤k) (.mk oso oon onn otx olst oks) (.slice o1 olst.length o2) (.slice o3 oks.length o4):=ValIn.later (fun k hk _=>far8 k (by omega)) (fun _ h=>h) _ _ _ hv7
 clear CP5 HC6 HR6 HB6 hk7 hv7 hC7 hR7 hB7 far8
 go_upto_region 7 with fail
 (try rw [hW8])
 clear hW8 n0 n1 n2 n3 n4 n5 nf p0' p1' p2' p3' p4' p5' pf m0 m3 hW5
 obtain ⟨r,hr⟩:∃ r,w.heap.size+1+1=r:=⟨_,rfl⟩
 rw [hr] at HR hrg
 rw [hr]
 have hrd:d≠r:=by omega
 have hrw:w.heap.size≤r:=by omega
 have HV:∀ X:World,(∀ k,k≠r→X.heap[k]?=W8.heap[k]?)→ValIn X (fun k=>w.heap.size≤k) (.mk oso oon onn otx olst oks) (.slice o1 olst.length o2) (.slice o3 oks.length o4):=fun X hX=>ValIn.later (fun k hk _=>hX k (by omega)) (fun k hk=>by omega) _ _ _ hv8
 clear hv8
 obtain ⟨V,hV⟩:∃ V,Value.agg #[.int .i64 9,.int .i64 0,.bool false,.int .i64 0,.string ⟨#[]⟩,.slice none 0 0,.slice none 0 0,.string ⟨#[]⟩,.int .i64 0,.string ⟨#[]⟩,.slice none 0 0,.int .i64 0,.int .i64 0,.int .i64 oso,.bool oon,.int .i64 onn,.string ⟨otx.toArray⟩,.slice o1 olst.length o2,.slice o3 oks.length o4]=V:=⟨_,rfl⟩
 have hS0:(Cs g #[.int .i64 9,.int .i64 0,.bool false,.int .i64 0,.string ⟨#[]⟩,.slice none 0 0,.slice none 0 0,.string ⟨#[]⟩,.int .i64 0,.string ⟨#[]⟩,.slice none 0 0,.int .i64 0,.int .i64 0,.int .i64 oso,.bool oon,.int .i64 onn,.string ⟨otx.toArray⟩,.slice o1 olst.length o2,.slice o3 oks.length o4] W8.drew∧Tk d (false||x1) W8.drew∧∃ old,old.size=19∧Cs r old W8.drew):=⟨HC.out,HT.out,zeroC,rfl,HR.out⟩
 refine wp_region_held_drew (S:=fun X=>Cs g #[.int .i64 9,.int .i64 0,.bool false,.int .i64 0,.string ⟨#[]⟩,.slice none 0 0,.slice none 0 0,.string ⟨#[]⟩,.int .i64 0,.string ⟨#[]⟩,.slice none 0 0,.int .i64 0,.int .i64 0,.int .i64 oso,.bool oon,.int .i64 onn,.string ⟨otx.toArray⟩,.slice o1 olst.length o2,.slice o3 oks.length o4] X∧Tk d (false||x1) X∧∃ old,old.size=19∧Cs r old X) (by kernel_rfl) hS0 (fun hHeld=>?_)
 refine wpAnyH_take (i:=0) (oi:=({ dst:=some 23,op:=Op.load 43 (Operand.tmp 6),type:=43,pos := "read.go:59",after:=#[],guard:=none }:Oper)) (v:=V) rfl (by kernel_rfl) (by kernel_rfl) (by kernel_rfl) (fun _ _ _ h=>h) (yields_load 43 (.tmp 6) rfl (by rfl) (fun X hX=>(hX.1.load rfl).trans (by rw [hV]))) hHeld ?_
 simp only [Act.put,List.setIfInBounds_toArray,List.set_cons_zero,List.set_cons_succ]
 refine wpAnyH_take (i:=1) (oi:=({ dst:=some 24,op:=Op.fieldAddr 133 (Operand.tmp 7) 0,type:=0,pos := "read.go:59",after:=#[{ on:=4,ground:=Ground.gcOnly Departure.lateStores }],guard:=none }:Oper)) (v:=.pointer (some ⟨d,0,none⟩)) rfl (by kernel_rfl) (by kernel_rfl) (by kernel_rfl) (fun _ _ _ h=>h) (Or.inl ⟨by rfl,fun X hX=>rfl⟩) hHeld ?_
 simp only [Act.put,List.setIfInBounds_toArray,List.set_cons_zero,List.set_cons_succ]
 refine wpAnyH_take (i:=2) (oi:=({ dst:=some 25,op:=Op.load 4 (Operand.tmp 24),type:=4,pos := "read.go:59",after:=#[{ on:=1,ground:=Ground.data },{ on:=4,ground:=Ground.gcOnly Departure.lateStores }],guard:=none }:Oper)) (v:=.bool (false||x1)) rfl (by kernel_rfl) (by kernel_rfl) (by kernel_rfl) (fun _ _ _ h=>h) (yields_load 4 (.tmp 24) rfl (by rfl) (fun X hX=>load_tk hX.2.1)) hHeld ?_
 simp only [Act.put,List.setIfInBounds_toArray,List.set_cons_zero,List.set_cons_succ]
 refine wpAnyH_take (i:=3) (oi:=({ dst:=some 26,op:=Op.unOp UnOp.not 4 (Operand.tmp 25),type:=4,pos := "read.go:59",after:=#[{ on:=2,ground:=Ground.data },{ on:=4,ground:=Ground.gcOnly Departure.lateStores }],guard:=none }:Oper)) (v:=.bool (!(false||x1))) rfl (by kernel_rfl) (by kernel_rfl) (by kernel_rfl) (fun _ _ _ h=>h) (Or.inl ⟨by rfl,fun X hX=>rfl⟩) hHeld ?_
 simp only [Act.put,List.setIfInBounds_toArray,List.set_cons_zero,List.set_cons_succ]
 refine wpAnyH_ready (rs:=[4]) (by kernel_rfl) (by simp) ?_
 refine AllReadyH.cons (o:=({ dst:=none,op:=Op.store 43 (Operand.tmp 4) (Operand.tmp 23),type:=0,pos := "read.go:59",after:=#[{ on:=0,ground:=Ground.data },{ on:=0,ground:=Ground.phase },{ on:=1,ground:=Ground.textOnly Departure.lateStores },{ on:=2,ground:=Ground.textOnly Departure.lateStores },{ on:=3,ground:=Ground.textOnly Departure.lateStores }],guard:=none }:Oper)) rfl (fun K hK=>?_) AllReadyH.nil
 refine wanted_step (by kernel_rfl) ?_
 refine wp_storeV rfl 43 (.tmp 4) (.tmp 23) rfl _ (store_as hV HR.out rfl rfl (by kernel_rfl)) ?_
 refine hK.out _ _ ⟨Cs.row_ne HC.out (Ne.symm hrg) _,(setRow_other _ _ _ _ hrd).trans HT.out,_,rfl,Cs.row HR.out _⟩ (fun hHeld=>?_)
 refine wpAnyH_take (i:=5) (oi:=({ dst:=some 5,op:=Op.assign (Operand.tmp 26),type:=4,pos := "read.go:59",after:=#[{ on:=3,ground:=Ground.data },{ on:=4,ground:=Ground.chain },{ on:=0,ground:=Ground.phase },{ on:=1,ground:=Ground.phase },{ on:=2,ground:=Ground.phase },{ on:=3,ground:=Ground.phase },{ on:=4,ground:=Ground.phase }],guard:=none }:Oper)) (v:=.bool (!(false||x1))) rfl (by kernel_rfl) (by kernel_rfl) (by kernel_rfl) (fun _ _ _ h=>h) (Or.inl ⟨by rfl,fun X hX=>rfl⟩) hHeld ?_
 simp only [Act.put,List.setIfInBounds_toArray,List.set_cons_zero,List.set_cons_succ]
 refine wpAnyH_done (by kernel_rfl) ?_ _
 have HF:=Lib.hid (show Cs r #[.int .i64 9,.int .i64 0,.bool false,.int .i64 0,.string ⟨#[]⟩,.slice none 0 0,.slice none 0 0,.string ⟨#[]⟩,.int .i64 0,.string ⟨#[]⟩,.slice none 0 0,.int .i64 0,.int .i64 0,.int .i64 oso,.bool oon,.int .i64 onn,.string ⟨otx.toArray⟩,.slice o1 olst.length o2,.slice o3 oks.length o4] (W8.drew.setRow r #[.int .i64 9,.int .i64 0,.bool false,.int .i64 0,.string ⟨#[]⟩,.slice none 0 0,.slice none 0 0,.string ⟨#[]⟩,.int .i64 0,.string ⟨#[]⟩,.slice none 0 0,.int .i64 0,.int .i64 0,.int .i64 oso,.bool oon,.int .i64 onn,.string ⟨otx.toArray⟩,.slice o1 olst.length o2,.slice o3 oks.length o4]) from Cs.row HR.out _)
 have HBF:=Lib.hid (show Below w.heap.size w (W8.drew.setRow r #[.int .i64 9,.int .i64 0,.bool false,.int .i64 0,.string ⟨#[]⟩,.slice none 0 0,.slice none 0 0,.string ⟨#[]⟩,.int .i64 0,.string ⟨#[]⟩,.slice none 0 0,.int .i64 0,.int .i64 0,.int .i64 oso,.bool oon,.int .i64 onn,.string ⟨otx.toArray⟩,.slice o1 olst.length o2,.slice o3 oks.length o4]) from Below.setRow' HB.out.drew hrw _)
 have HVF:=Lib.hid (HV (W8.drew.setRow r #[.int .i64 9,.int .i64 0,.bool false,.int .i64 0,.string ⟨#[]⟩,.slice none 0 0,.slice none 0 0,.string ⟨#[]⟩,.int .i64 0,.string ⟨#[]⟩,.slice none 0 0,.int .i64 0,.int .i64 0,.int .i64 oso,.bool oon,.int .i64 onn,.string ⟨otx.toArray⟩,.slice o1 olst.length o2,.slice o3 oks.length o4]) (fun k hk=>setRow_other _ _ _ _ hk))
 obtain ⟨WF,hWF⟩:∃ WF,W8.drew.setRow r #[.int .i64 9,.int .i64 0,.bool false,.int .i64 0,.string ⟨#[]⟩,.slice none 0 0,.slice none 0 0,.string ⟨#[]⟩,.int .i64 0,.string ⟨#[]⟩,.slice none 0 0,.int .i64 0,.int .i64 0,.int .i64 oso,.bool oon,.int .i64 onn,.string ⟨otx.toArray⟩,.slice o1 olst.length o2,.slice o3 oks.length o4]=WF:=⟨_,rfl⟩
 rw [hWF] at HF HBF ⊢
 (try rw [hWF] at HVF)
 clear hK hWF HC HT HR HB HV hHeld hS0
 go_wp2_with fail
 refine bodyPost_ret (v:=.tuple #[.agg #[.int .i64 9,.int .i64 0,.bool false,.int .i64 0,.string ⟨#[]⟩,.slice none 0 0,.slice none 0 0,.string ⟨#[]⟩,.int .i64 0,.string ⟨#[]⟩,.slice none 0 0,.int .i64 0,.int .i64 0,.int .i64 oso,.bool oon,.int .i64 onn,.string ⟨otx.toArray⟩,.slice o1 olst.length o2,.slice o3 oks.length o4],.bool (!(false||x1))]) ((results_call (fn:=Tryz.f40) (p:=4) (u:=5) (by rfl) (by rfl) HF.out rfl).trans rfl) rfl ?_
 refine calls_end (ch:=.slice none 0 0) (ol:=.slice o1 olst.length o2) (okv:=.slice o3 oks.length o4) HBF.out ?_ HWr.out ?_ ?_ ?_
 ·rw [HPar.out];rfl
 ·rw [HPar.out];exact edits_nil _ _
 ·rw [HPar.out];exact HVF.out
 ·rw [HPar.out];rfl
end Go.Proofs.YtpbnhnilfpoljaaGreatDoor.M
namespace Go.Proofs.YtpbnhnilfpoljaaGreatDoor.M
open Go.RowKit
open Go.Lib Go.Proofs.YtpbnhnilfpoljaaGreatDoor.V
theorem wtE_app:∀ (a b:List EditP),wtE (a++b)=wtE a+wtE b
 | [],b=>by simp [wtE]
 | e :: r,b=>by simp only [List.cons_append,wtE,wtE_app r b];omega
theorem wtE_take_succ {l:List EditP} {i:Nat} (h:i<l.length):wtE (l.take (i+1))=wtE (l.take i)+1+l[i].text.length:=by
 rw [List.take_succ_eq_append_getElem h,wtE_app]
 simp only [wtE]
 omega
theorem wtE_take_le (l:List EditP) (i:Nat):wtE (l.take i)≤wtE l:=by
 have h:=wtE_app (l.take i) (l.drop i)
 rw [List.take_append_drop] at h
 omega
theorem block_cell {q:Nat} {cs:Array Value} {t:TypeId} {W:World} (h:W.heap[q]?=some (.cells cs t (0,0))) (i:Nat):W.cell? ⟨q,i,none⟩=cs[i]?:=by simp [World.cell?,h]
set_option maxHeartbeats 4000000 in
theorem small_any (c:CallP) (il ik ch ol ok:Value) (R:Nat→Prop) (w:World) (h:CallIn w R c il ik ch ol ok) (hz:wt c.id+wt c.other+c.name.length+c.text.length+wtE c.changes≤1099511627776) :
  Calls Tryz.prog 6 #[argC c il ik ch ol ok] w fun e w'=>Below w.heap.size w w'∧(e=.returned (.bool false)∨e=.returned (.bool true)∧SmallC c):=by
 have hw1:wt c.id≤1099511627776:=by omega
 have hw2:wt c.other≤1099511627776:=by omega
 have hn:c.name.length+c.text.length+wtE c.changes≤1099511627776:=by omega
 have cI:=fun W (hb:Below w.heap.size w W)=>size_v c.id il ik _ W (val_below h.id.bound hb) hw1
 have cO:=fun W (hb:Below w.heap.size w W)=>size_v c.other ol ok _ W (val_below h.other.bound hb) hw2
 have HS:=Lib.hid (fun (h1:sizeV c.id≤400) (h2:sizeV c.other≤400) (h3:c.name.length+c.text.length+wtE c.changes≤400)=>(⟨by rw [wt_of_size _ h1];exact h1,by omega,by omega,by omega,by rw [wt_of_size _ h2];exact h2⟩:SmallC c))
 obtain ⟨zi,hzi⟩:∃ z,sizeV c.id=z:=⟨_,rfl⟩
 obtain ⟨zo,hzo⟩:∃ z,sizeV c.other=z:=⟨_,rfl⟩
 have hz1:zi≤1099511627776:=by have:=sizeV_le c.id;omega
 have hz2:zo≤1099511627776:=by have:=sizeV_le c.other;omega
 simp only [hzi,hzo] at cI cO HS
 clear hzi hzo hw1 hw2 hz
 generalize SmallC c=SM at HS
 obtain ⟨k,⟨iso,ion,inn,itx,ilst,iks⟩,name,version,text,chs,⟨pl,pu⟩,⟨oso,oon,onn,otx,olst,oks⟩⟩:=c
 obtain ⟨hi,he,ho⟩:=h
 obtain ⟨⟨ia1,ic1,rfl,_⟩,⟨ia2,ic2,rfl,_⟩⟩:=hi
 obtain ⟨⟨oa1,oc1,rfl,_⟩,⟨oa2,oc2,rfl,_⟩⟩:=ho
 obtain ⟨ca,cc,rfl,hE⟩:=he.bound
 have HE:=Lib.hid hE
 clear he hE
 simp only [argC,callC,arg,six',six,strCell,List.cons_append,List.nil_append] at cI cO ⊢
 simp only at hn HS
 obtain ⟨ln,hln⟩:∃ k,chs.length=k:=⟨_,rfl⟩
 have HLN:=Lib.hid hln
 have hlw:ln≤wtE chs:=by rw [← hln];exact wtE_length chs
 rw [hln]
 clear hln
 generalize ilst.length=i1 at cI ⊢
 generalize iks.length=i2 at cI ⊢
 generalize olst.length=o1 at cO ⊢
 generalize oks.length=o2 at cO ⊢
 have hts:(⟨name.toArray⟩:ByteArray).size=name.length:=rfl
 have hts2:(⟨text.toArray⟩:ByteArray).size=text.length:=rfl
 obtain ⟨WE,hWE⟩:∃ k,wtE chs=k:=⟨_,rfl⟩
 have HWE:=Lib.hid hWE
 simp only [hWE] at hn hlw HS
 clear hWE
 generalize hnl:name.length=nl at hn HS hts
 generalize htl:text.length=tl at hn HS hts2
 have CI:=Lib.hid cI
 have CO:=Lib.hid cO
 clear cI cO hnl htl
 go_enter Tryz.func6,Tryz.ntmps6
 go_wp2_with fail
 obtain ⟨w1,hw1⟩:∃ w1,w.alloc (.cells #[.int .i64 k,.int .i64 iso,.bool ion,.int .i64 inn,.string ⟨itx.toArray⟩,.slice ia1 i1 ic1,.slice ia2 i2 ic2,.string ⟨name.toArray⟩,.int .i64 version,.string ⟨text.toArray⟩,.slice ca ln cc,.int .i64 pl,.int .i64 pu,.int .i64 oso,.bool oon,.int .i64 onn,.string ⟨otx.toArray⟩,.slice oa1 o1 oc1,.slice oa2 o2 oc2] 31)=w1:=⟨_,rfl⟩
 rw [hw1]
 have hq1:w1.heap[w.heap.size]?=some (.cells #[.int .i64 k,.int .i64 iso,.bool ion,.int .i64 inn,.string ⟨itx.toArray⟩,.slice ia1 i1 ic1,.slice ia2 i2 ic2,.string ⟨name.toArray⟩,.int .i64 version,.string ⟨text.toArray⟩,.slice ca ln cc,.int .i64 pl,.int .i64 pu,.int .i64 oso,.bool oon,.int .i64 onn,.string ⟨otx.toArray⟩,.slice oa1 o1 oc1,.slice oa2 o2 oc2] 31 (0,0)):=by rw [← hw1];exact heap_alloc_new w _
 have hb1:Below w.heap.size w w1:=by rw [← hw1];exact (Below.refl _ _).alloc (Nat.le_refl _) _
 have hz1':w.heap.size<w1.heap.size:=by rw [← hw1];simp
 clear hw1
 have kk:=fun i=>block_cell hq1 i
 have k1:=kk 1;have k2:=kk 2;have k3:=kk 3;have k4:=kk 4;have k5:=kk 5;have k6:=kk 6;have k7:=kk 7;have k9:=kk 9;have k10:=kk 10
 have k13:=kk 13;have k14:=kk 14;have k15:=kk 15;have k16:=kk 16;have k17:=kk 17;have k18:=kk 18
 simp at k1 k2 k3 k4 k5 k6 k7 k9 k10 k13 k14 k15 k16 k17 k18
 clear kk
 have HQ:=Lib.hid hq1
 clear hq1
 go_wp2_with fail
 go_loopw [3,4] (fun nv iv wr=>∃ i m:Nat,nv=.int .i64 m∧iv=.int .i64 i∧i≤ln∧m≤1099511627776∧Hid (m=nl+tl+wtE (chs.take i))∧Hid (Below w1.heap.size w1 wr)) (fun _ iv _=>ln - (Go.RowKit.intOf iv).toNat)
 case atStart=>exact ⟨0,nl+tl,by simp,rfl,by omega,by omega,Lib.hid (by simp [wtE]),Lib.hid (Below.refl _ _)⟩
 case round =>
  obtain ⟨i,m,rfl,rfl,hi,hm,HM,HB⟩:=hrel
  have hb:=HB.out
  have hzr:=hb.size
  replace k1:=(hb.cell hz1').trans k1
  replace k2:=(hb.cell hz1').trans k2
  replace k3:=(hb.cell hz1').trans k3
  replace k4:=(hb.cell hz1').trans k4
  replace k5:=(hb.cell hz1').trans k5
  replace k6:=(hb.cell hz1').trans k6
  replace k10:=(hb.cell hz1').trans k10
  replace k13:=(hb.cell hz1').trans k13
  replace k14:=(hb.cell hz1').trans k14
  replace k15:=(hb.cell hz1').trans k15
  replace k16:=(hb.cell hz1').trans k16
  replace k17:=(hb.cell hz1').trans k17
  replace k18:=(hb.cell hz1').trans k18
  clear k7 k9
  by_cases hlt:i<ln
  ·by_cases hm4:m≤400
   ·have hil:i<chs.length:=by rw [HLN.out];exact hlt
    obtain ⟨g,off,rfl,hg,hc⟩:=HE.out.resolve_left (fun h=>by rw [h] at hil;exact Nat.not_lt_zero _ hil)
    obtain ⟨_,_,_,_,p4,_⟩:=edit_at i hc hil
    replace p4:=((hb1.cell hg.2).trans p4)
    have hgw:g<w1.heap.size:=Nat.lt_trans hg.2 hz1'
    replace p4:=((hb.cell hgw).trans p4)
    obtain ⟨tx,htx⟩:∃ t,chs[i].text=t:=⟨_,rfl⟩
    have hst:=wtE_take_succ hil
    have hle:=wtE_take_le chs (i+1)
    rw [HWE.out] at hle
    rw [htx] at p4 hst
    have hmm:=HM.out
    have hts3:(⟨tx.toArray⟩:ByteArray).size=tx.length:=rfl
    obtain ⟨xl,hxl⟩:∃ k,tx.length=k:=⟨_,rfl⟩
    rw [hxl] at hst hts3
    have hnew:m+1+xl=nl+tl+wtE (chs.take (i+1)):=by omega
    have hmx:m+1+xl≤1099511627776:=by omega
    clear hc hst hle hmm hxl htx
    have HNW:=Lib.hid hnew
    clear hnew hb hg
    go_wp2_with fail
    exact ⟨⟨i+1,m+1+xl,by simp,by simp,by omega,hmx,HNW,HB⟩,by simp [Go.RowKit.intOf];omega⟩
   ·have hbw:=hb1.trans (hb.mono (by omega))
    clear hb
    go_wp2_with fail
    go_ret
    exact ⟨hbw,.inl (by simp <;> omega)⟩
  ·have hei:i=ln:=by omega
   subst hei
   have hmm:=HM.out
   rw [show chs.take i=chs by rw [← HLN.out];exact List.take_length] at hmm
   rw [HWE.out] at hmm
   have HMM:=Lib.hid hmm
   have hbw:=hb1.trans (hb.mono (by omega))
   have HBW:=Lib.hid hbw
   have HCI:=Lib.hid (CI.out wr hbw)
   clear hmm hb HM HB hbw
   by_cases hm4:m≤400
   ·go_wp2_with fail
    refine HCI.out.mono ?_
    rintro e w2 ⟨rfl,hb2⟩
    have hz2':=hb2.size
    have hqr:w.heap.size<wr.heap.size:=by omega
    replace k13:=(hb2.cell hqr).trans k13
    replace k14:=(hb2.cell hqr).trans k14
    replace k15:=(hb2.cell hqr).trans k15
    replace k16:=(hb2.cell hqr).trans k16
    replace k17:=(hb2.cell hqr).trans k17
    replace k18:=(hb2.cell hqr).trans k18
    have hbw2:=HBW.out.trans (hb2.mono HBW.out.size)
    have HBW2:=Lib.hid hbw2
    have HCO:=Lib.hid (CO.out w2 hbw2)
    clear hbw2 hb2 k1 k2 k3 k4 k5 k6 k10 HCI
    by_cases hi4:zi≤400
    ·go_wp2_with fail
     refine HCO.out.mono ?_
     rintro e w3 ⟨rfl,hb3⟩
     have HBW3:=Lib.hid (HBW2.out.trans (hb3.mono HBW2.out.size))
     clear hb3 HCO
     by_cases ho4:zo≤400
     ·have hS:=HS.out hi4 ho4 (by rw [← HMM.out];exact hm4)
      have HSS:=Lib.hid hS
      clear hS
      go_wp2_with fail
      go_ret
      exact ⟨HBW3.out,.inr ⟨by simp <;> omega,HSS.out⟩⟩
     ·go_wp2_with fail
      go_ret
      exact ⟨HBW3.out,.inl (by simp <;> omega)⟩
    ·go_wp2_with fail
     go_ret
     exact ⟨HBW2.out,.inl (by simp <;> omega)⟩
   ·go_wp2_with fail
    go_ret
    exact ⟨HBW.out,.inl (by simp <;> omega)⟩
end Go.Proofs.YtpbnhnilfpoljaaGreatDoor.M
