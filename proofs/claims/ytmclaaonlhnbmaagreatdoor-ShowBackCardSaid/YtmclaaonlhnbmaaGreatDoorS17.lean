/- What the claim needs of the texts HAll, HShow, HShape, HAlike, HText, HLen, HAlive, JSize, JClone, JSame. -/
import Derived.Test.YtmclaaonlhnbmaaGreatDoorSOp
import Derived.Test.YtmclaaonlhnbmaaGreatDoorS16
import Derived.Test.YtmclaaonlhnbmaaGreatDoorS12
import Derived.Test.YtmclaaonlhnbmaaGreatDoorS11
import Derived.Lib.Hide
import Derived.Lib.SliceRun
namespace Go.Proofs.YtmclaaonlhnbmaaGreatDoor.H
open Go.RowKit
open Go.Lib hiding intOf
open U S T K
open Go.Proofs.YtmclaaonlhnbmaaGreatDoor.J (arg wtP wtL kids_row kid_at KidAt new_block kids_below Pt.ind wtL_mem wtL_length)
theorem TMap.drew {m:Nat} {W:World} (h:TMap m W):TMap m W.drew:=h.kept rfl
set_option maxHeartbeats 4000000 in
set_option maxRecDepth 20000 in
theorem part_some {d m ind:Nat} {bs:By} {k t:By} {f e:Int} {ks:List Pt} {lv:Value} {cs:Array Value} {W:World} (fid:FuncId) (x:By) (hf:fnOf k=some fid)
  (hen:∀ args X,(callFunc fid args).run Tryz.prog X=.ok (.enter fid args) X)
  (hM:∀ X,Wr d m ind bs X→Lies d (.mk k t f e ks) lv X→Calls Tryz.prog fid #[.pointer (some ⟨d,0,none⟩),.agg cs] X (Writes d m ind bs X x))
  (hcs:Value.agg cs=arg (.mk k t f e ks) lv) (h:Wr d m ind bs W) (hv:Lies d (.mk k t f e ks) lv W) (hw:wtP (.mk k t f e ks)≤1099511627776) :
  Calls Tryz.prog 28 #[.pointer (some ⟨d,0,none⟩),.agg cs] W (Writes d m ind bs W x):=by
 have mixed:Tryz.prog.follows .mixedOrders=true:=by kernel_rfl
 obtain ⟨kb,tb,n,a,c,rfl,hkb,htb,hn,rfl⟩:=cs_form hcs hv
 have hlk:=fun X (hX:TMap m X)=>hX.look (k:=k) (by rw [wtP] at hw;omega)
 rw [hf,hkb] at hlk
 change ∀ X,TMap m X→(Instr.lookup _ _ _ _).run _ X=.ok (.tuple #[.func (.func fid) #[] #[],.bool true]) X at hlk
 clear hcs hkb htb hn hf
 go_enter Tryz.func28,Tryz.ntmps28
 go_upto_region 1 with fail
 obtain ⟨w1,hw1,hq1,hb1,hz1⟩:=new_block W (.cells #[.string kb,.string tb,.int .i64 f,.int .i64 e,.slice a n c] 25)
 rw [hw1]
 have HF:=hid (Fr.begin h hv hb1 hq1)
 obtain ⟨⟨p0,p1,p2,p3,p4⟩,pf⟩:=J.cells_five hq1
 obtain ⟨z2,z2',z3,z4⟩:=HF.out.wr.cells
 have l1:=hlk w1 HF.out.wr.tab
 have l2:=hlk w1.drew HF.out.wr.tab.drew
 clear hw1 hq1 hb1 hz1 hv h hlk
 have hb0:Below w1.heap.size w1 w1.drew:=(Below.refl _ _).drew
 have cM:=hM w1.drew (HF.out.wr.later hb0) (HF.out.later hb0).lies
 replace HF:=hid (HF.out.later hb0)
 clear hb0
 go_wp2_with fail
 go_region_o
 all_goals go_wp2_with fail
 all_goals refine cM.mono ?_
 all_goals rintro e' w2 ⟨rfl,hw2,hk2⟩
 all_goals replace HF:=hid (HF.out.step hw2 hk2)
 all_goals clear cM hw2 hk2 p0 p1 p2 p3 p4 pf z2 z2' z3 z4 l1 l2
 all_goals go_wp2_with fail
 all_goals go_end0
 all_goals exact ⟨rfl,HF.out.wr,HF.out.kp⟩
set_option maxHeartbeats 4000000 in
set_option maxRecDepth 20000 in
theorem part_none {d m ind:Nat} {bs:By} {k t:By} {f e:Int} {ks:List Pt} {lv:Value} {cs:Array Value} {W:World} (hf:fnOf k=none)
  (hcs:Value.agg cs=arg (.mk k t f e ks) lv) (h:Wr d m ind bs W) (hv:Lies d (.mk k t f e ks) lv W) (hw:wtP (.mk k t f e ks)≤1099511627776) :
  Calls Tryz.prog 28 #[.pointer (some ⟨d,0,none⟩),.agg cs] W (Writes d m ind bs W []):=by
 have mixed:Tryz.prog.follows .mixedOrders=true:=by kernel_rfl
 obtain ⟨kb,tb,n,a,c,rfl,hkb,htb,hn,rfl⟩:=cs_form hcs hv
 have hlk:=fun X (hX:TMap m X)=>hX.look (k:=k) (by rw [wtP] at hw;omega)
 rw [hf,hkb] at hlk
 change ∀ X,TMap m X→(Instr.lookup _ _ _ _).run _ X=.ok (.tuple #[.nilFunc,.bool false]) X at hlk
 clear hcs hkb htb hn hf
 go_enter Tryz.func28,Tryz.ntmps28
 go_upto_region 1 with fail
 obtain ⟨w1,hw1,hq1,hb1,hz1⟩:=new_block W (.cells #[.string kb,.string tb,.int .i64 f,.int .i64 e,.slice a n c] 25)
 rw [hw1]
 have HF:=hid (Fr.begin h hv hb1 hq1)
 obtain ⟨⟨p0,p1,p2,p3,p4⟩,pf⟩:=J.cells_five hq1
 obtain ⟨z2,z2',z3,z4⟩:=HF.out.wr.cells
 have l1:=hlk w1 HF.out.wr.tab
 have l2:=hlk w1.drew HF.out.wr.tab.drew
 clear hw1 hq1 hb1 hz1 hv h hlk
 replace HF:=hid (HF.out.later (Below.refl _ _).drew)
 go_wp2_with fail
 go_region_o
 all_goals go_wp2_with fail
 all_goals go_end0
 all_goals exact ⟨rfl,by rw [List.append_nil];exact HF.out.wr,HF.out.kp⟩
theorem show_mk (ind:Nat) (k t:By) (f e:Int) (ks:List Pt):showP ind (.mk k t f e ks)=byt (bodyP pcs ind t ks (kd k)):=by unfold showP;rw [pcs_mk]
theorem ite_elim {c:Prop} [Decidable c] {a b r:Kd} (h:(if c then a else b)=r) (hne:a≠r):b=r:=by
 by_cases hc:c
 ·rw [if_pos hc] at h;exact absurd h hne
 ·rw [if_neg hc] at h;exact h
theorem ite_got {c:Prop} [Decidable c] {a b r:Kd} (h:(if c then a else b)=r) (hne:b≠r):c:=by
 by_cases hc:c
 ·exact hc
 ·rw [if_neg hc] at h;exact absurd h hne
theorem kd_unary {k:By} (h:kd k=.unary):k=kUnary:=by
 unfold kd at h
 iterate 17 replace h:=ite_elim h (by decide)
 refine ite_got h fun h=>?_
 iterate 6 replace h:=ite_elim h (by decide)
 cases h
theorem en_assign:∀ args X,(callFunc 66 args).run Tryz.prog X=.ok (.enter 66 args) X:=fun _ _=>by kernel_rfl
theorem en_binary:∀ args X,(callFunc 70 args).run Tryz.prog X=.ok (.enter 70 args) X:=fun _ _=>by kernel_rfl
theorem en_block:∀ args X,(callFunc 62 args).run Tryz.prog X=.ok (.enter 62 args) X:=fun _ _=>by kernel_rfl
theorem en_call:∀ args X,(callFunc 71 args).run Tryz.prog X=.ok (.enter 71 args) X:=fun _ _=>by kernel_rfl
theorem en_define:∀ args X,(callFunc 67 args).run Tryz.prog X=.ok (.enter 67 args) X:=fun _ _=>by kernel_rfl
theorem en_expr:∀ args X,(callFunc 68 args).run Tryz.prog X=.ok (.enter 68 args) X:=fun _ _=>by kernel_rfl
theorem en_field:∀ args X,(callFunc 72 args).run Tryz.prog X=.ok (.enter 72 args) X:=fun _ _=>by kernel_rfl
theorem en_forStmt:∀ args X,(callFunc 65 args).run Tryz.prog X=.ok (.enter 65 args) X:=fun _ _=>by kernel_rfl
theorem en_funcDecl:∀ args X,(callFunc 55 args).run Tryz.prog X=.ok (.enter 55 args) X:=fun _ _=>by kernel_rfl
theorem en_ifStmt:∀ args X,(callFunc 64 args).run Tryz.prog X=.ok (.enter 64 args) X:=fun _ _=>by kernel_rfl
theorem en_index:∀ args X,(callFunc 73 args).run Tryz.prog X=.ok (.enter 73 args) X:=fun _ _=>by kernel_rfl
theorem en_makeCall:∀ args X,(callFunc 75 args).run Tryz.prog X=.ok (.enter 75 args) X:=fun _ _=>by kernel_rfl
theorem en_named:∀ args X,(callFunc 58 args).run Tryz.prog X=.ok (.enter 58 args) X:=fun _ _=>by kernel_rfl
theorem en_newCall:∀ args X,(callFunc 74 args).run Tryz.prog X=.ok (.enter 74 args) X:=fun _ _=>by kernel_rfl
theorem en_returnStmt:∀ args X,(callFunc 63 args).run Tryz.prog X=.ok (.enter 63 args) X:=fun _ _=>by kernel_rfl
theorem en_slice:∀ args X,(callFunc 61 args).run Tryz.prog X=.ok (.enter 61 args) X:=fun _ _=>by kernel_rfl
theorem en_star:∀ args X,(callFunc 60 args).run Tryz.prog X=.ok (.enter 60 args) X:=fun _ _=>by kernel_rfl
theorem en_typeDecl:∀ args X,(callFunc 57 args).run Tryz.prog X=.ok (.enter 57 args) X:=fun _ _=>by kernel_rfl
theorem en_unary:∀ args X,(callFunc 69 args).run Tryz.prog X=.ok (.enter 69 args) X:=fun _ _=>by kernel_rfl
theorem en_varDecl:∀ args X,(callFunc 56 args).run Tryz.prog X=.ok (.enter 56 args) X:=fun _ _=>by kernel_rfl
theorem en_word:∀ args X,(callFunc 59 args).run Tryz.prog X=.ok (.enter 59 args) X:=fun _ _=>by kernel_rfl
set_option maxHeartbeats 4000000 in
theorem part_step {d m:Nat} {k t:By} {f e:Int} {ks:List Pt} (hA:AllC d m ks) (hA2:∀ q∈ks,AllC d m (ksP q)) (hA3:∀ i,AllC d m (ksP (kidAt ks i))):PartC d m (.mk k t f e ks):=fun lv cs W bs ind hcs h hv hw hd hl=>by
 rw [show_mk] at hl ⊢
 obtain ⟨K,hK⟩:∃ K,kd k=K:=⟨_,rfl⟩
 have hf:fnOf k=fnK K:=by unfold fnOf;rw [hK]
 rw [hK] at hl ⊢
 cases K with
 | func=>exact part_some _ _ hf en_funcDecl (fun X hX hvX=>func_any hA hA3 hcs hX hvX hw hd hl) hcs h hv hw
 | var=>exact part_some _ _ hf en_varDecl (fun X hX hvX=>var_any hA hcs hX hvX hw hd hl) hcs h hv hw
 | typ=>exact part_some _ _ hf en_typeDecl (fun X hX hvX=>typ_any hA hA2 hcs hX hvX hw hd hl) hcs h hv hw
 | param=>exact part_some _ _ hf en_named (fun X hX hvX=>named_any hA hcs hX hvX hw hd hl) hcs h hv hw
 | name =>
  rw [show byt (bodyP pcs ind t ks .name)=t by simp [bodyP,byt_wd,byt_nil]] at hl ⊢
  exact part_some _ _ hf en_word (fun X hX hvX=>word_any hA hcs hX hvX hw hd hl) hcs h hv hw
 | id =>
  rw [show byt (bodyP pcs ind t ks .id)=t by simp [bodyP,byt_wd,byt_nil]] at hl ⊢
  exact part_some _ _ hf en_word (fun X hX hvX=>word_any hA hcs hX hvX hw hd hl) hcs h hv hw
 | num =>
  rw [show byt (bodyP pcs ind t ks .num)=t by simp [bodyP,byt_wd,byt_nil]] at hl ⊢
  exact part_some _ _ hf en_word (fun X hX hvX=>word_any hA hcs hX hvX hw hd hl) hcs h hv hw
 | str =>
  rw [show byt (bodyP pcs ind t ks .str)=t by simp [bodyP,byt_wd,byt_nil]] at hl ⊢
  exact part_some _ _ hf en_word (fun X hX hvX=>word_any hA hcs hX hvX hw hd hl) hcs h hv hw
 | star=>exact part_some _ _ hf en_star (fun X hX hvX=>star_any hA hcs hX hvX hw hd hl) hcs h hv hw
 | slice=>exact part_some _ _ hf en_slice (fun X hX hvX=>slice_any hA hcs hX hvX hw hd hl) hcs h hv hw
 | block=>exact part_some _ _ hf en_block (fun X hX hvX=>block_any hA hcs hX hvX hw hd hl) hcs h hv hw
 | ret=>exact part_some _ _ hf en_returnStmt (fun X hX hvX=>ret_any hA hcs hX hvX hw hd hl) hcs h hv hw
 | if'=>exact part_some _ _ hf en_ifStmt (fun X hX hvX=>if_any hA hcs hX hvX hw hd hl) hcs h hv hw
 | for'=>exact part_some _ _ hf en_forStmt (fun X hX hvX=>for_any hA hcs hX hvX hw hd hl) hcs h hv hw
 | assign=>exact part_some _ _ hf en_assign (fun X hX hvX=>assign_any hA hcs hX hvX hw hd hl) hcs h hv hw
 | define=>exact part_some _ _ hf en_define (fun X hX hvX=>define_any hA hcs hX hvX hw hd hl) hcs h hv hw
 | expr=>exact part_some _ _ hf en_expr (fun X hX hvX=>expr_any hA hcs hX hvX hw hd hl) hcs h hv hw
 | unary=>exact part_some _ _ hf en_unary (fun X hX hvX=>unary_any hA hcs hX hvX hw hd (kd_unary hK) hl) hcs h hv hw
 | binary=>exact part_some _ _ hf en_binary (fun X hX hvX=>binary_any hA hcs hX hvX hw hd hl) hcs h hv hw
 | call=>exact part_some _ _ hf en_call (fun X hX hvX=>call_any hA hcs hX hvX hw hd hl) hcs h hv hw
 | field=>exact part_some _ _ hf en_field (fun X hX hvX=>field_any hA hcs hX hvX hw hd hl) hcs h hv hw
 | index=>exact part_some _ _ hf en_index (fun X hX hvX=>index_any hA hcs hX hvX hw hd hl) hcs h hv hw
 | new'=>exact part_some _ _ hf en_newCall (fun X hX hvX=>new_any hA hcs hX hvX hw hd hl) hcs h hv hw
 | make'=>exact part_some _ _ hf en_makeCall (fun X hX hvX=>make_any hA hcs hX hvX hw hd hl) hcs h hv hw
 | other=>exact part_none hf hcs h hv hw
theorem part_zero (d m:Nat):PartC d m zeroP:=fun lv cs W bs ind hcs h hv hw _ _=>part_none (k:=[]) (t:=[]) (f:=0) (e:=0) (ks:=[]) (by rfl) hcs h hv hw
theorem all_nil (d m:Nat):AllC d m []:=⟨part_zero d m,fun _ h=>absurd h List.not_mem_nil⟩
theorem part_any (d m:Nat):∀ p,PartC d m p∧AllC d m (ksP p):=Pt.ind fun k t f e ks IH=>by
 have hA:AllC d m ks:=⟨part_zero d m,fun q hq=>(IH q hq).1⟩
 have hA3:∀ i,AllC d m (ksP (kidAt ks i)):=fun i=>by
  rcases kidAt_cases ks i with h|h
  ·exact (IH _ h).2
  ·rw [h];exact all_nil d m
 exact ⟨part_step hA (fun q hq=>(IH q hq).2) hA3,hA⟩
end Go.Proofs.YtmclaaonlhnbmaaGreatDoor.H
namespace Go.Proofs.YtmclaaonlhnbmaaGreatDoor.H
open Go.RowKit
open Go.Lib hiding intOf
open U S T K
open Go.Proofs.YtmclaaonlhnbmaaGreatDoor.J (arg wtP wtL kids_row kid_at KidAt new_block kids_below Pt.ind wtL_mem wtL_length)
def TI (m:Nat) (l:List (By × Nat)) (W:World):Prop:=∃ n D,W.ownsMap Tryz.prog 9 fnElem m n D∧n=l.length∧Maps.Tidy D∧(∀ k:By,Maps.has D (klit k)=(l.lookup k).isSome)∧∀ k f,l.lookup k=some f→∀ z,D.atKey (klit k) z=fnD f
theorem TI.ins {m:Nat} {l:List (By × Nat)} {W:World} (h:TI m l W) (k:By) (f:Nat) (hk:k.length≤1099511627776) (hl:l.length≤1000) :
  ∃ W',(Instr.mapUpdate 49 (.map (some m)) (.string (bstr k)) (.func (.func f) #[] #[])).run Tryz.prog W=.ok () W'∧TI m ((k,f) :: l) W'∧W.grownBy W' (some m):=by
 obtain ⟨n,D,h1,h2,h3,h4,h5⟩:=h
 obtain ⟨W',hr,ho,hg⟩:=h1.update strK Tryz.underlying49 (by unfold maxLen;omega) (keyIs hk) (fnElem_mk f)
 have kl_inj:∀ {a b:By},klit a=klit b→a=b:=fun h=>by unfold klit at h;simpa using h
 have kk:WideAt.IsKeyLit (klit k):=trivial
 refine ⟨W',hr,⟨n+1,_,ho,by rw [h2];rfl,h3.put kk _,fun x=>?_,fun x g hx z=>?_⟩,hg⟩
 ·by_cases e:x=k
  ·subst e
   rw [Maps.has_put_same h3.isMap kk,List.lookup_cons_self];rfl
  ·rw [Maps.has_put_other (fun e2=>e (kl_inj e2)),h4,List.lookup_cons,show (x==k)=false from by simpa using e]
 ·by_cases e:x=k
  ·subst e
   rw [List.lookup_cons_self] at hx
   cases hx
   exact Maps.atKey_put_same h3.isMap kk _ _
  ·rw [List.lookup_cons,show (x==k)=false from by simpa using e] at hx
   rw [Maps.atKey_put_other (fun e2=>e (kl_inj e2))]
   exact h5 x g hx z
theorem ti_made (W:World):TI W.heap.size [] (W.alloc (.map #[] 0)) :=
 ⟨0,.map [],World.ownsMap_made W Tryz.prog 9 fnElem,rfl,Maps.tidy_empty,fun _=>rfl,fun _ _ h=>by cases h⟩
theorem ti_tab {m:Nat} {l:List (By × Nat)} {W:World} (h:TI m l W) (hl:∀ k,l.lookup k=fnOf k):TMap m W:=by
 obtain ⟨n,D,h1,_,_,h4,h5⟩:=h
 exact ⟨n,D,h1,fun k=>⟨by rw [h4,hl],fun f hf z=>h5 k f (by rw [hl];exact hf) z⟩⟩
def tabL:List (By × Nat):=[(kMake,75),(kNew,74),(kIndex,73),(kField,72),(kCall,71),(kBinary,70),(kUnary,69),(kExpr,68),(kDefine,67),(kAssign,66),(kFor,65),(kIf,64),(kReturn,63),(kBlock,62),(kSlice,61),(kStar,60),(kStr,59),(kNum,59),(kId,59),(kName,59),(kParam,58),(kType,57),(kVar,56),(kFunc,55)]
theorem tabL_fn (k:By):tabL.lookup k=fnOf k:=by
 unfold tabL fnOf kd
 by_cases h_kFunc:k=kFunc
 ·subst h_kFunc;rfl
 rw [if_neg h_kFunc]
 by_cases h_kVar:k=kVar
 ·subst h_kVar;rfl
 rw [if_neg h_kVar]
 by_cases h_kType:k=kType
 ·subst h_kType;rfl
 rw [if_neg h_kType]
 by_cases h_kParam:k=kParam
 ·subst h_kParam;rfl
 rw [if_neg h_kParam]
 by_cases h_kName:k=kName
 ·subst h_kName;rfl
 rw [if_neg h_kName]
 by_cases h_kId:k=kId
 ·subst h_kId;rfl
 rw [if_neg h_kId]
 by_cases h_kNum:k=kNum
 ·subst h_kNum;rfl
 rw [if_neg h_kNum]
 by_cases h_kStr:k=kStr
 ·subst h_kStr;rfl
 rw [if_neg h_kStr]
 by_cases h_kStar:k=kStar
 ·subst h_kStar;rfl
 rw [if_neg h_kStar]
 by_cases h_kSlice:k=kSlice
 ·subst h_kSlice;rfl
 rw [if_neg h_kSlice]
 by_cases h_kBlock:k=kBlock
 ·subst h_kBlock;rfl
 rw [if_neg h_kBlock]
 by_cases h_kReturn:k=kReturn
 ·subst h_kReturn;rfl
 rw [if_neg h_kReturn]
 by_cases h_kIf:k=kIf
 ·subst h_kIf;rfl
 rw [if_neg h_kIf]
 by_cases h_kFor:k=kFor
 ·subst h_kFor;rfl
 rw [if_neg h_kFor]
 by_cases h_kAssign:k=kAssign
 ·subst h_kAssign;rfl
 rw [if_neg h_kAssign]
 by_cases h_kDefine:k=kDefine
 ·subst h_kDefine;rfl
 rw [if_neg h_kDefine]
 by_cases h_kExpr:k=kExpr
 ·subst h_kExpr;rfl
 rw [if_neg h_kExpr]
 by_cases h_kUnary:k=kUnary
 ·subst h_kUnary;rfl
 rw [if_neg h_kUnary]
 by_cases h_kBinary:k=kBinary
 ·subst h_kBinary;rfl
 rw [if_neg h_kBinary]
 by_cases h_kCall:k=kCall
 ·subst h_kCall;rfl
 rw [if_neg h_kCall]
 by_cases h_kField:k=kField
 ·subst h_kField;rfl
 rw [if_neg h_kField]
 by_cases h_kIndex:k=kIndex
 ·subst h_kIndex;rfl
 rw [if_neg h_kIndex]
 by_cases h_kNew:k=kNew
 ·subst h_kNew;rfl
 rw [if_neg h_kNew]
 by_cases h_kMake:k=kMake
 ·subst h_kMake;rfl
 rw [if_neg h_kMake]
 rw [List.lookup_cons,show (k==kMake)=false from by simpa using h_kMake]
 dsimp only
 rw [List.lookup_cons,show (k==kNew)=false from by simpa using h_kNew]
 dsimp only
 rw [List.lookup_cons,show (k==kIndex)=false from by simpa using h_kIndex]
 dsimp only
 rw [List.lookup_cons,show (k==kField)=false from by simpa using h_kField]
 dsimp only
 rw [List.lookup_cons,show (k==kCall)=false from by simpa using h_kCall]
 dsimp only
 rw [List.lookup_cons,show (k==kBinary)=false from by simpa using h_kBinary]
 dsimp only
 rw [List.lookup_cons,show (k==kUnary)=false from by simpa using h_kUnary]
 dsimp only
 rw [List.lookup_cons,show (k==kExpr)=false from by simpa using h_kExpr]
 dsimp only
 rw [List.lookup_cons,show (k==kDefine)=false from by simpa using h_kDefine]
 dsimp only
 rw [List.lookup_cons,show (k==kAssign)=false from by simpa using h_kAssign]
 dsimp only
 rw [List.lookup_cons,show (k==kFor)=false from by simpa using h_kFor]
 dsimp only
 rw [List.lookup_cons,show (k==kIf)=false from by simpa using h_kIf]
 dsimp only
 rw [List.lookup_cons,show (k==kReturn)=false from by simpa using h_kReturn]
 dsimp only
 rw [List.lookup_cons,show (k==kBlock)=false from by simpa using h_kBlock]
 dsimp only
 rw [List.lookup_cons,show (k==kSlice)=false from by simpa using h_kSlice]
 dsimp only
 rw [List.lookup_cons,show (k==kStar)=false from by simpa using h_kStar]
 dsimp only
 rw [List.lookup_cons,show (k==kStr)=false from by simpa using h_kStr]
 dsimp only
 rw [List.lookup_cons,show (k==kNum)=false from by simpa using h_kNum]
 dsimp only
 rw [List.lookup_cons,show (k==kId)=false from by simpa using h_kId]
 dsimp only
 rw [List.lookup_cons,show (k==kName)=false from by simpa using h_kName]
 dsimp only
 rw [List.lookup_cons,show (k==kParam)=false from by simpa using h_kParam]
 dsimp only
 rw [List.lookup_cons,show (k==kType)=false from by simpa using h_kType]
 dsimp only
 rw [List.lookup_cons,show (k==kVar)=false from by simpa using h_kVar]
 dsimp only
 rw [List.lookup_cons,show (k==kFunc)=false from by simpa using h_kFunc]
 dsimp only
 rfl
set_option maxHeartbeats 8000000 in
set_option maxRecDepth 20000 in
theorem tab_any (w:World):Calls Tryz.prog 27 #[] w fun e w'=>∃ m,e=.returned (.map (some m))∧TMap m w'∧Below w.heap.size w w'∧w.heap.size≤m:=by
 have t0:=ti_made w
 have hm:(Instr.makeMap 49 none).run Tryz.prog w=.ok (.map (some w.heap.size)) (w.alloc (.map #[] 0)):=by kernel_rfl
 have hb0:Below w.heap.size w (w.alloc (.map #[] 0)):=(Below.refl _ _).alloc (Nat.le_refl _) _
 obtain ⟨w0,hw0⟩:∃ x,w.alloc (.map #[] 0)=x:=⟨_,rfl⟩
 rw [hw0] at t0 hm hb0
 obtain ⟨m,hmm⟩:∃ x,w.heap.size=x:=⟨_,rfl⟩
 rw [hmm] at t0 hm hb0 ⊢
 have HB0:=hid hb0
 have HMM:=hid hmm
 clear hw0 hmm hb0
 obtain ⟨w1,r1,t1,g1⟩:=t0.ins kFunc 55 (by decide) (by decide)
 have r1:(Instr.mapUpdate 49 (.map (some m)) (.string ⟨#[102,117,110,99]⟩) (.func (.func 55) #[] #[])).run Tryz.prog w0=.ok () w1:=r1
 have HB1:=hid (HB0.out.grown g1 (by have:=HB0.out.size;rw [HMM.out] at this;exact this) (fun k e=>by cases e;exact Nat.le_refl _))
 clear g1
 obtain ⟨w2,r2,t2,g2⟩:=t1.ins kVar 56 (by decide) (by decide)
 have r2:(Instr.mapUpdate 49 (.map (some m)) (.string ⟨#[118,97,114]⟩) (.func (.func 56) #[] #[])).run Tryz.prog w1=.ok () w2:=r2
 have HB2:=hid (HB1.out.grown g2 (by have:=HB1.out.size;rw [HMM.out] at this;exact this) (fun k e=>by cases e;exact Nat.le_refl _))
 clear g2
 obtain ⟨w3,r3,t3,g3⟩:=t2.ins kType 57 (by decide) (by decide)
 have r3:(Instr.mapUpdate 49 (.map (some m)) (.string ⟨#[116,121,112,101]⟩) (.func (.func 57) #[] #[])).run Tryz.prog w2=.ok () w3:=r3
 have HB3:=hid (HB2.out.grown g3 (by have:=HB2.out.size;rw [HMM.out] at this;exact this) (fun k e=>by cases e;exact Nat.le_refl _))
 clear g3
 obtain ⟨w4,r4,t4,g4⟩:=t3.ins kParam 58 (by decide) (by decide)
 have r4:(Instr.mapUpdate 49 (.map (some m)) (.string ⟨#[112,97,114,97,109]⟩) (.func (.func 58) #[] #[])).run Tryz.prog w3=.ok () w4:=r4
 have HB4:=hid (HB3.out.grown g4 (by have:=HB3.out.size;rw [HMM.out] at this;exact this) (fun k e=>by cases e;exact Nat.le_refl _))
 clear g4
 obtain ⟨w5,r5,t5,g5⟩:=t4.ins kName 59 (by decide) (by decide)
 have r5:(Instr.mapUpdate 49 (.map (some m)) (.string ⟨#[110,97,109,101]⟩) (.func (.func 59) #[] #[])).run Tryz.prog w4=.ok () w5:=r5
 have HB5:=hid (HB4.out.grown g5 (by have:=HB4.out.size;rw [HMM.out] at this;exact this) (fun k e=>by cases e;exact Nat.le_refl _))
 clear g5
 obtain ⟨w6,r6,t6,g6⟩:=t5.ins kId 59 (by decide) (by decide)
 have r6:(Instr.mapUpdate 49 (.map (some m)) (.string ⟨#[105,100]⟩) (.func (.func 59) #[] #[])).run Tryz.prog w5=.ok () w6:=r6
 have HB6:=hid (HB5.out.grown g6 (by have:=HB5.out.size;rw [HMM.out] at this;exact this) (fun k e=>by cases e;exact Nat.le_refl _))
 clear g6
 obtain ⟨w7,r7,t7,g7⟩:=t6.ins kNum 59 (by decide) (by decide)
 have r7:(Instr.mapUpdate 49 (.map (some m)) (.string ⟨#[110,117,109]⟩) (.func (.func 59) #[] #[])).run Tryz.prog w6=.ok () w7:=r7
 have HB7:=hid (HB6.out.grown g7 (by have:=HB6.out.size;rw [HMM.out] at this;exact this) (fun k e=>by cases e;exact Nat.le_refl _))
 clear g7
 obtain ⟨w8,r8,t8,g8⟩:=t7.ins kStr 59 (by decide) (by decide)
 have r8:(Instr.mapUpdate 49 (.map (some m)) (.string ⟨#[115,116,114]⟩) (.func (.func 59) #[] #[])).run Tryz.prog w7=.ok () w8:=r8
 have HB8:=hid (HB7.out.grown g8 (by have:=HB7.out.size;rw [HMM.out] at this;exact this) (fun k e=>by cases e;exact Nat.le_refl _))
 clear g8
 obtain ⟨w9,r9,t9,g9⟩:=t8.ins kStar 60 (by decide) (by decide)
 have r9:(Instr.mapUpdate 49 (.map (some m)) (.string ⟨#[115,116,97,114]⟩) (.func (.func 60) #[] #[])).run Tryz.prog w8=.ok () w9:=r9
 have HB9:=hid (HB8.out.grown g9 (by have:=HB8.out.size;rw [HMM.out] at this;exact this) (fun k e=>by cases e;exact Nat.le_refl _))
 clear g9
 obtain ⟨w10,r10,t10,g10⟩:=t9.ins kSlice 61 (by decide) (by decide)
 have r10:(Instr.mapUpdate 49 (.map (some m)) (.string ⟨#[115,108,105,99,101]⟩) (.func (.func 61) #[] #[])).run Tryz.prog w9=.ok () w10:=r10
 have HB10:=hid (HB9.out.grown g10 (by have:=HB9.out.size;rw [HMM.out] at this;exact this) (fun k e=>by cases e;exact Nat.le_refl _))
 clear g10
 obtain ⟨w11,r11,t11,g11⟩:=t10.ins kBlock 62 (by decide) (by decide)
 have r11:(Instr.mapUpdate 49 (.map (some m)) (.string ⟨#[98,108,111,99,107]⟩) (.func (.func 62) #[] #[])).run Tryz.prog w10=.ok () w11:=r11
 have HB11:=hid (HB10.out.grown g11 (by have:=HB10.out.size;rw [HMM.out] at this;exact this) (fun k e=>by cases e;exact Nat.le_refl _))
 clear g11
 obtain ⟨w12,r12,t12,g12⟩:=t11.ins kReturn 63 (by decide) (by decide)
 have r12:(Instr.mapUpdate 49 (.map (some m)) (.string ⟨#[114,101,116,117,114,110]⟩) (.func (.func 63) #[] #[])).run Tryz.prog w11=.ok () w12:=r12
 have HB12:=hid (HB11.out.grown g12 (by have:=HB11.out.size;rw [HMM.out] at this;exact this) (fun k e=>by cases e;exact Nat.le_refl _))
 clear g12
 obtain ⟨w13,r13,t13,g13⟩:=t12.ins kIf 64 (by decide) (by decide)
 have r13:(Instr.mapUpdate 49 (.map (some m)) (.string ⟨#[105,102]⟩) (.func (.func 64) #[] #[])).run Tryz.prog w12=.ok () w13:=r13
 have HB13:=hid (HB12.out.grown g13 (by have:=HB12.out.size;rw [HMM.out] at this;exact this) (fun k e=>by cases e;exact Nat.le_refl _))
 clear g13
 obtain ⟨w14,r14,t14,g14⟩:=t13.ins kFor 65 (by decide) (by decide)
 have r14:(Instr.mapUpdate 49 (.map (some m)) (.string ⟨#[102,111,114]⟩) (.func (.func 65) #[] #[])).run Tryz.prog w13=.ok () w14:=r14
 have HB14:=hid (HB13.out.grown g14 (by have:=HB13.out.size;rw [HMM.out] at this;exact this) (fun k e=>by cases e;exact Nat.le_refl _))
 clear g14
 obtain ⟨w15,r15,t15,g15⟩:=t14.ins kAssign 66 (by decide) (by decide)
 have r15:(Instr.mapUpdate 49 (.map (some m)) (.string ⟨#[97,115,115,105,103,110]⟩) (.func (.func 66) #[] #[])).run Tryz.prog w14=.ok () w15:=r15
 have HB15:=hid (HB14.out.grown g15 (by have:=HB14.out.size;rw [HMM.out] at this;exact this) (fun k e=>by cases e;exact Nat.le_refl _))
 clear g15
 obtain ⟨w16,r16,t16,g16⟩:=t15.ins kDefine 67 (by decide) (by decide)
 have r16:(Instr.mapUpdate 49 (.map (some m)) (.string ⟨#[100,101,102,105,110,101]⟩) (.func (.func 67) #[] #[])).run Tryz.prog w15=.ok () w16:=r16
 have HB16:=hid (HB15.out.grown g16 (by have:=HB15.out.size;rw [HMM.out] at this;exact this) (fun k e=>by cases e;exact Nat.le_refl _))
 clear g16
 obtain ⟨w17,r17,t17,g17⟩:=t16.ins kExpr 68 (by decide) (by decide)
 have r17:(Instr.mapUpdate 49 (.map (some m)) (.string ⟨#[101,120,112,114]⟩) (.func (.func 68) #[] #[])).run Tryz.prog w16=.ok () w17:=r17
 have HB17:=hid (HB16.out.grown g17 (by have:=HB16.out.size;rw [HMM.out] at this;exact this) (fun k e=>by cases e;exact Nat.le_refl _))
 clear g17
 obtain ⟨w18,r18,t18,g18⟩:=t17.ins kUnary 69 (by decide) (by decide)
 have r18:(Instr.mapUpdate 49 (.map (some m)) (.string ⟨#[117,110,97,114,121]⟩) (.func (.func 69) #[] #[])).run Tryz.prog w17=.ok () w18:=r18
 have HB18:=hid (HB17.out.grown g18 (by have:=HB17.out.size;rw [HMM.out] at this;exact this) (fun k e=>by cases e;exact Nat.le_refl _))
 clear g18
 obtain ⟨w19,r19,t19,g19⟩:=t18.ins kBinary 70 (by decide) (by decide)
 have r19:(Instr.mapUpdate 49 (.map (some m)) (.string ⟨#[98,105,110,97,114,121]⟩) (.func (.func 70) #[] #[])).run Tryz.prog w18=.ok () w19:=r19
 have HB19:=hid (HB18.out.grown g19 (by have:=HB18.out.size;rw [HMM.out] at this;exact this) (fun k e=>by cases e;exact Nat.le_refl _))
 clear g19
 obtain ⟨w20,r20,t20,g20⟩:=t19.ins kCall 71 (by decide) (by decide)
 have r20:(Instr.mapUpdate 49 (.map (some m)) (.string ⟨#[99,97,108,108]⟩) (.func (.func 71) #[] #[])).run Tryz.prog w19=.ok () w20:=r20
 have HB20:=hid (HB19.out.grown g20 (by have:=HB19.out.size;rw [HMM.out] at this;exact this) (fun k e=>by cases e;exact Nat.le_refl _))
 clear g20
 obtain ⟨w21,r21,t21,g21⟩:=t20.ins kField 72 (by decide) (by decide)
 have r21:(Instr.mapUpdate 49 (.map (some m)) (.string ⟨#[102,105,101,108,100]⟩) (.func (.func 72) #[] #[])).run Tryz.prog w20=.ok () w21:=r21
 have HB21:=hid (HB20.out.grown g21 (by have:=HB20.out.size;rw [HMM.out] at this;exact this) (fun k e=>by cases e;exact Nat.le_refl _))
 clear g21
 obtain ⟨w22,r22,t22,g22⟩:=t21.ins kIndex 73 (by decide) (by decide)
 have r22:(Instr.mapUpdate 49 (.map (some m)) (.string ⟨#[105,110,100,101,120]⟩) (.func (.func 73) #[] #[])).run Tryz.prog w21=.ok () w22:=r22
 have HB22:=hid (HB21.out.grown g22 (by have:=HB21.out.size;rw [HMM.out] at this;exact this) (fun k e=>by cases e;exact Nat.le_refl _))
 clear g22
 obtain ⟨w23,r23,t23,g23⟩:=t22.ins kNew 74 (by decide) (by decide)
 have r23:(Instr.mapUpdate 49 (.map (some m)) (.string ⟨#[110,101,119]⟩) (.func (.func 74) #[] #[])).run Tryz.prog w22=.ok () w23:=r23
 have HB23:=hid (HB22.out.grown g23 (by have:=HB22.out.size;rw [HMM.out] at this;exact this) (fun k e=>by cases e;exact Nat.le_refl _))
 clear g23
 obtain ⟨w24,r24,t24,g24⟩:=t23.ins kMake 75 (by decide) (by decide)
 have r24:(Instr.mapUpdate 49 (.map (some m)) (.string ⟨#[109,97,107,101]⟩) (.func (.func 75) #[] #[])).run Tryz.prog w23=.ok () w24:=r24
 have HB24:=hid (HB23.out.grown g24 (by have:=HB23.out.size;rw [HMM.out] at this;exact this) (fun k e=>by cases e;exact Nat.le_refl _))
 clear g24
 have HT:=hid (ti_tab (l:=tabL) t24 tabL_fn)
 clear t0 t1 t2 t3 t4 t5 t6 t7 t8 t9 t10 t11 t12 t13 t14 t15 t16 t17 t18 t19 t20 t21 t22 t23 t24
 go_enter Tryz.func27,Tryz.ntmps27
 go_wp2_with fail
 go_ret
 exact ⟨m,rfl,HT.out,HB24.out,Nat.le_refl _⟩
mutual
theorem lies_lt {W:World} {R:Nat→Prop}:∀ (p:Pt) (lv:Value),KidsIn W R p lv→Lies W.heap.size p lv W
 | .mk k t f e ks,lv,h=>by
  obtain ⟨a,cap,h1,h0,h2⟩:=h
  refine ⟨a,cap,h1,h0,?_⟩
  rcases h2 with h2|⟨g,off,xs,h3,_,h5,h6⟩
  ·exact .inl h2
  ·cases ks with
   | nil=>exact .inl rfl
   | cons p r =>
    have hl:g<W.heap.size:=by
     obtain ⟨lv',rest,rfl,_,_⟩:=h6
     cases p
     exact World.block_lt_of_cell? W _ (h5 0 _ rfl)
    exact .inr ⟨g,off,xs,h3,hl,h5,liesL_lt _ _ h6⟩
theorem liesL_lt {W:World} {R:Nat→Prop}:∀ (l:List Pt) (xs:List Value),PartsIn W R l xs→PartsIn W (fun g=>g<W.heap.size) l xs
 | [],_,h=>h
 | p :: r,xs,h=>by
  obtain ⟨lv,rest,h1,h2,h3⟩:=h
  exact ⟨lv,rest,h1,lies_lt p lv h2,liesL_lt r rest h3⟩
end
theorem Lies.mono {d d':Nat} {p:Pt} {lv:Value} {W:World} (h:Lies d p lv W) (hd:d≤d'):Lies d' p lv W:=KidsIn.later (fun _ _ _=>rfl) (fun _ h=>Nat.lt_of_lt_of_le h hd) p lv h
theorem wr_new {m:Nat} {W:World} (ht:TMap m W):Wr W.heap.size m 0 [] (W.alloc (.cells #[.pointer none,.slice none 0 0,.map (some m),.int .i64 0] 56)):=by
 have hb:Below W.heap.size W (W.alloc (.cells #[.pointer none,.slice none 0 0,.map (some m),.int .i64 0] 56)):=(Below.refl _ _).alloc (Nat.le_refl _) _
 exact ⟨⟨.pointer none,.slice none 0 0,heap_alloc_new _ _,.inl rfl,⟨rfl,.inl ⟨rfl,rfl⟩⟩,fun _=>rfl⟩,ht.kept (hb.block _ ht.lt),ht.lt⟩
set_option maxHeartbeats 4000000 in
set_option maxRecDepth 20000 in
theorem show_any (p:Pt) (lv:Value) (cs:Array Value) (R:Nat→Prop) (w:World) (hcs:Value.agg cs=arg p lv) (hv:KidsIn w R p lv) (hw:wtP p≤1099511627776) (hd:deep p≤1099511627776) (hl:(showP 0 p).length≤140737488355328) :
  Calls Tryz.prog 12 #[.agg cs] w fun e w'=>e=.returned (.string (bstr (showP 0 p)))∧Below w.heap.size w w':=by
 have hfm:∃ kb tb f e a n c,cs=#[.string kb,.string tb,.int .i64 f,.int .i64 e,.slice a n c]:=by
  obtain ⟨k,t,f,e,ks⟩:=p
  obtain ⟨kb,tb,n,a,c,h1,_⟩:=cs_form hcs (lies_lt _ _ hv)
  exact ⟨kb,tb,f,e,a,n,c,h1⟩
 obtain ⟨kb,tb,f,e,a,n,c,rfl⟩:=hfm
 have hlv:=lies_lt _ _ hv
 have HV:=hid hcs
 obtain ⟨x,hx⟩:∃ x,showP 0 p=x:=⟨_,rfl⟩
 have HX:=hid hx
 rw [hx] at hl ⊢
 obtain ⟨xb,hxb⟩:∃ y,bstr x=y:=⟨_,rfl⟩
 have HXB:=hid hxb
 rw [hxb]
 clear hx hxb hcs hv
 go_enter Tryz.func12,Tryz.ntmps12
 go_upto_region 1 with fail
 obtain ⟨w1,hw1,hq1,hb1,hz1⟩:=new_block w (.cells #[.string kb,.string tb,.int .i64 f,.int .i64 e,.slice a n c] 25)
 rw [hw1]
 have HB1:=hid hb1
 have HQ1:=hid hq1
 have hlv1:=hlv.later hb1
 have HLV:=hid hlv1
 have cT:=tab_any w1
 clear hw1 hb1 hq1 hlv hlv1
 go_wp2_with fail
 refine cT.mono ?_
 rintro e' w2 ⟨m,rfl,ht,hb2,hm⟩
 have hq2:=(hb2.block _ hz1).trans HQ1.out
 have HB2:=hid (HB1.out.trans (hb2.mono HB1.out.size))
 have hwr:=wr_new ht
 have hlies:=(HLV.out.later (hb2.mono HB1.out.size)).mono HB2.out.size
 clear cT hb2 ht hm
 go_upto_region 2 with fail
 obtain ⟨w3,hw3⟩:∃ y,w2.alloc (.cells #[.pointer none,.slice none 0 0,.map (some m),.int .i64 0] 56)=y:=⟨_,rfl⟩
 have hb3:Below w2.heap.size w2 w3:=by rw [← hw3];exact (Below.refl _ _).alloc (Nat.le_refl _) _
 rw [hw3] at hwr ⊢
 have hlies3:=hlies.later hb3
 have HB3:=hid (HB2.out.trans (hb3.mono HB2.out.size))
 have hq3:=(hb3.block _ (Array.getElem?_eq_some_iff.1 hq2).1).trans hq2
 obtain ⟨d,hdd⟩:∃ y,w2.heap.size=y:=⟨_,rfl⟩
 have hwd:w.heap.size≤d:=by rw [← hdd];exact HB2.out.size
 rw [hdd] at hwr hlies3 ⊢
 obtain ⟨⟨p0,p1,p2,p3,p4⟩,pf⟩:=J.cells_five hq3
 have cP:=(part_any d m p).1 lv _ w3 [] 0 HV.out hwr hlies3 hw (by omega) (by rw [HX.out];simpa using hl)
 rw [HX.out] at cP
 clear hw3 hb3 hdd hq2 hq3 hlies hlies3 hwr
 go_wp2_with fail
 refine cP.mono ?_
 rintro e' w4 ⟨rfl,hw4,hk4⟩
 have cS:=ws_any hw4
 rw [List.nil_append,HXB.out] at cS
 have HB4:=hid (HB3.out.trans (hk4.below.mono hwd))
 clear cP hw4 hk4 p0 p1 p2 p3 p4 pf
 go_wp2_with fail
 refine cS.mono ?_
 rintro e' w5 ⟨rfl,hb5⟩
 have HB5:=hid (HB4.out.trans (hb5.mono hwd))
 clear cS hb5
 go_wp2_with fail
 go_ret
 exact ⟨rfl,HB5.out⟩
end Go.Proofs.YtmclaaonlhnbmaaGreatDoor.H
namespace Go.Proofs.YtmclaaonlhnbmaaGreatDoor.H
open Go.RowKit
open Go.Lib hiding intOf
open U S T K
open Go.Proofs.YtmclaaonlhnbmaaGreatDoor.J (arg wtP wtL kids_row kid_at KidAt new_block kids_below Pt.ind wtL_mem wtL_length)
abbrev Bd (d:Nat) (bs:By) (W:World):Prop:=Bx 54 [] d bs W
theorem hTb:54≠5:=by decide
theorem lieB:liesAt Tryz.prog Tryz.prog.depth 54 ((([]:List Value).length+2) / Tryz.prog.cellsOf 54) 0 54 1=true:=by kernel_rfl
theorem box_kp {d b:Nat} {cs:Array Value} {W W':World} (h:W.heap[b]?=some (.cells cs 25 (0,0))) (hk:Kp d W W') (hb:d<b):W'.heap[b]?=some (.cells cs 25 (0,0)) :=
 hk.oth _ _ h (by simp;omega) (fun _ _ e=>absurd (Obj.cells.inj e).2.1 (by decide))
theorem shapeL_app (a:List Pt) (p:Pt):shapeL (a++[p])=shapeL a++shapeP p:=by
 induction a with
 | nil=>simp [shapeL]
 | cons x r ih=>rw [List.cons_append,shapeL,ih,shapeL,List.append_assoc]
theorem shapeL_take {l:List Pt} {i:Nat} (h:i<l.length):shapeL (l.take (i+1))=shapeL (l.take i)++shapeP l[i]:=by
 rw [List.take_succ_eq_append_getElem h,shapeL_app]
theorem shapeL_take_len (l:List Pt) (i:Nat):(shapeL (l.take i)).length≤(shapeL l).length:=by
 have:∀ (a b:List Pt),(shapeL a).length≤(shapeL (a++b)).length:=fun a b=>by
  induction a with
  | nil=>simp [shapeL]
  | cons x r ih=>rw [List.cons_append,shapeL,shapeL,List.length_append,List.length_append];omega
 have h:=this (l.take i) (l.drop i)
 rw [List.take_append_drop] at h
 exact h
def ShapeC (p:Pt):Prop:=∀ (lv:Value) (cs:Array Value) (d:Nat) (bs:By) (W:World),Value.agg cs=arg p lv→Bd d bs W→Lies d p lv W→wtP p≤1099511627776→bs.length+(shapeP p).length≤140737488355328 →
 Calls Tryz.prog 31 #[.pointer (some ⟨d,0,none⟩),.agg cs] W fun e W'=>e=.returned (.tuple #[])∧Bd d (bs++shapeP p) W'∧Kp d W W'
set_option maxHeartbeats 8000000 in
set_option maxRecDepth 20000 in
theorem shape_part:∀ p,ShapeC p:=Pt.ind fun k t f e ks IH lv cs d bs W hcs hB hv hw hl=>by
 obtain ⟨kb,tb,n,a,c,rfl,hkb,htb,hn,rfl⟩:=cs_form hcs hv
 have HKB:=hid hkb
 have HTB:=hid htb
 have HN:=hid hn.symm
 have HIH:=hid IH
 have hlb:n≤1099511627776:=by rw [← hn];rw [wtP] at hw;exact Nat.le_trans (wtL_length ks) (by omega)
 have HWT:=hid (fun q (h:q∈ks)=>Nat.le_trans (wtL_mem h) (show wtL ks≤1099511627776 by rw [wtP] at hw;omega))
 have hx:shapeP (.mk k t f e ks)=k++([58]++(t++([40]++(shapeL ks++[41])))):=by rw [shapeP];rfl
 rw [hx] at hl ⊢
 simp only [List.length_append,List.length_cons,List.length_nil] at hl
 have HL:=hid hl
 have kz:kb.size=k.length:=by rw [← hkb];show k.toArray.size=_;simp
 have tz:tb.size=t.length:=by rw [← htb];show t.toArray.size=_;simp
 have kd':kb.data.toList=k:=by rw [← hkb];rfl
 have td':tb.data.toList=t:=by rw [← htb];rfl
 have HKD:=hid kd'
 have HTD:=hid td'
 have HKZ:=hid kz
 have HTZ:=hid tz
 clear hx hcs hkb htb hn IH hw kz tz kd' td' hl
 go_enter Tryz.func31,Tryz.ntmps31
 go_upto_region 1 with fail
 obtain ⟨w1,hw1,hq1,hb1,hz1⟩:=new_block W (.cells #[.string kb,.string tb,.int .i64 f,.int .i64 e,.slice a n c] 25)
 rw [hw1]
 have hdl:=hB.lt
 obtain ⟨b,hbb⟩:∃ y,W.heap.size=y:=⟨_,rfl⟩
 rw [hbb] at hq1 ⊢
 have hdb:d<b:=by rw [← hbb];exact hdl
 have HQ:=hid hq1
 have HB:=hid (hB.later hb1)
 have HK:=hid ((Kp.refl d W).later hb1 (Nat.le_of_lt hdl))
 have HV:=hid hv
 clear hw1 hq1 hb1 hz1 hB hv hbb hdl
 obtain ⟨⟨p0,p1,p2,p3,p4⟩,pf⟩:=J.cells_five HQ.out
 have c1:=wstr_any hTb lieB HB.out kb (by have:=HL.out;rw [HKZ.out];omega)
 go_wp2_with fail
 refine c1.mono ?_
 rintro e' w2 ⟨rfl,hB2,hk2⟩
 rw [HKD.out] at hB2
 replace HB:=hid hB2
 replace HQ:=hid (box_kp HQ.out hk2 hdb)
 replace HK:=hid (HK.out.trans hk2)
 clear c1 hB2 hk2 p0 p1 p2 p3 p4 pf
 obtain ⟨⟨p0,p1,p2,p3,p4⟩,pf⟩:=J.cells_five HQ.out
 have c1:=wstr_any hTb lieB HB.out ⟨#[58]⟩ (by have:=HL.out;simp only [List.length_append];show _+1≤_;omega)
 go_wp2_with fail
 refine c1.mono ?_
 rintro e' w3 ⟨rfl,hB2,hk2⟩
 replace HB:=hid hB2
 replace HQ:=hid (box_kp HQ.out hk2 hdb)
 replace HK:=hid (HK.out.trans hk2)
 clear c1 hB2 hk2 p0 p1 p2 p3 p4 pf
 obtain ⟨⟨p0,p1,p2,p3,p4⟩,pf⟩:=J.cells_five HQ.out
 have c1:=wstr_any hTb lieB HB.out tb (by have:=HL.out;simp only [List.length_append,List.length_cons,List.length_nil];rw [HTZ.out];omega)
 go_wp2_with fail
 refine c1.mono ?_
 rintro e' w4 ⟨rfl,hB2,hk2⟩
 rw [HTD.out] at hB2
 replace HB:=hid hB2
 replace HQ:=hid (box_kp HQ.out hk2 hdb)
 replace HK:=hid (HK.out.trans hk2)
 clear c1 hB2 hk2 p0 p1 p2 p3 p4 pf
 obtain ⟨⟨p0,p1,p2,p3,p4⟩,pf⟩:=J.cells_five HQ.out
 have c1:=wstr_any hTb lieB HB.out ⟨#[40]⟩ (by have:=HL.out;simp only [List.length_append,List.length_cons,List.length_nil];show _+1≤_;omega)
 go_wp2_with fail
 refine c1.mono ?_
 rintro e' w5 ⟨rfl,hB2,hk2⟩
 replace HB:=hid hB2
 replace HQ:=hid (box_kp HQ.out hk2 hdb)
 replace HK:=hid (HK.out.trans hk2)
 clear c1 hB2 hk2 p0 p1 p2 p3 p4 pf
 obtain ⟨⟨p0,p1,p2,p3,p4⟩,pf⟩:=J.cells_five HQ.out
 obtain ⟨ys,hys⟩:∃ ys,bs++k++[58]++t++[40]=ys:=⟨_,rfl⟩
 rw [hys] at HB
 have HYL:=hid (show ys.length=bs.length+k.length+1+t.length+1 by rw [← hys];simp only [List.length_append,List.length_cons,List.length_nil])
 have HYS:=hid hys
 clear hys
 go_wp2_with fail
 go_loopw [21] (fun iv wr=>∃ i:Nat,iv=.int .i64 i∧i≤n∧Hid (Bd d (ys++shapeL (ks.take i)) wr)∧Hid (Kp d W wr)) (fun iv _=>n - (Go.RowKit.intOf iv).toNat)
 case atStart=>exact ⟨0,rfl,Nat.zero_le _,hid (by simpa [shapeL] using HB.out),HK⟩
 case round =>
  obtain ⟨i,rfl,hi,HR,HK2⟩:=hrel
  by_cases hlt:i<n
  ·have hll:i<ks.length:=by rw [← HN.out];exact hlt
   obtain ⟨g,off,rfl,k',t',f',e',ks',a',c',hK⟩:=Lies.row (HV.out.later HK2.out.below) hll
   have hct:=shapeL_take hll
   have htl:=shapeL_take_len ks (i+1)
   have hPq:=HIH.out _ (List.getElem_mem hll)
   have hwq:=HWT.out _ (List.getElem_mem hll)
   have hcl:ys.length+(shapeL (ks.take i)).length+(shapeP ks[i]).length+1≤140737488355328:=by
    have:=HL.out
    have h2:=HYL.out
    rw [hct,List.length_append] at htl
    omega
   have HC:=hid hct
   have j0:=hK.k0
   have j1:=hK.k1
   have j2:=hK.k2
   have j3:=hK.k3
   have j4:=hK.k4
   obtain ⟨q,hq⟩:∃ q,ks[i]=q:=⟨_,rfl⟩
   rw [hq] at hPq hwq hcl
   have HC0:=hid (show shapeL (ks.take (i+1))=shapeL (ks.take i)++shapeP q by rw [HC.out,hq])
   have HKin:=hid hK.kids
   have HQq:=hid (hq.symm.trans hK.eq)
   obtain ⟨y0,hy0⟩:∃ x,bstr k'=x:=⟨_,rfl⟩
   obtain ⟨y1,hy1⟩:∃ x,bstr t'=x:=⟨_,rfl⟩
   obtain ⟨z0,hz0⟩:∃ x,ks'.length=x:=⟨_,rfl⟩
   rw [hy0] at j0
   rw [hy1] at j1
   rw [hz0] at j4
   have HE:=hid (show Value.agg #[.string y0,.string y1,.int .i64 f',.int .i64 e',.slice a' z0 c']=arg q (.slice a' ks'.length c') by rw [HQq.out,← hy0,← hy1,← hz0];rfl)
   have hi0:(0:Int)≤(i:Int):=by omega
   have hi1:(i:Int)<(n:Int):=by omega
   clear hct htl hK hq hy0 hy1 hz0
   go_upto_region 8 with fail
   obtain ⟨w6,hw6,hq6,hb6,_⟩:=new_block wr (.cells #[.string y0,.string y1,.int .i64 f',.int .i64 e',.slice a' z0 c'] 25)
   have hk6:Kp d wr w6:=(Kp.refl d wr).later hb6 (Nat.le_of_lt HR.out.lt)
   rw [hw6]
   have hr6:=HR.out.later hb6
   have HK6:=hid (HK2.out.trans hk6)
   have hl6:Lies d q (.slice a' ks'.length c') w6:=by rw [HQq.out];exact Lies.later HKin.out hk6.below
   obtain ⟨⟨q0,q1,q2,q3,q4⟩,qf⟩:=J.cells_five hq6
   have cP:=hPq _ _ d _ w6 HE.out hr6 hl6 hwq (by rw [List.length_append];omega)
   clear hw6 hb6 hk6 hr6 hq6 hl6 hPq hwq hcl j0 j1 j2 j3 j4
   go_wp2_with fail
   refine cP.mono ?_
   rintro e w7 ⟨rfl,hw7,hk7⟩
   have HR7:=hid hw7
   have HK7:=hid (HK6.out.trans hk7)
   clear cP hw7 hk7 q0 q1 q2 q3 q4 qf
   go_wp2_with fail
   go_roundw
   case rel=>exact ⟨i+1,by go_num,by omega,hid (by rw [HC0.out,← List.append_assoc];exact HR7.out),HK7⟩
   case measure=>simp [Go.RowKit.intOf];omega
  ·obtain rfl:i=n:=by omega
   have hall:ks.take i=ks:=List.take_of_length_le (by rw [HN.out];exact Nat.le_refl _)
   have HR9:=HR.out
   rw [hall] at HR9
   have c1:=wstr_any hTb lieB HR9 ⟨#[41]⟩ (by have:=HL.out;have h2:=HYL.out;rw [List.length_append];show _+1≤_;omega)
   clear HR9 hall
   go_wp2_with fail
   refine c1.mono ?_
   rintro e w7 ⟨rfl,hw7,hk7⟩
   have hfin:=hid (And.intro hw7 (HK2.out.trans hk7))
   clear c1 hw7 hk7
   go_wp2_with fail
   go_end0
   refine ⟨rfl,?_,hfin.out.2⟩
   have:=hfin.out.1
   rw [← HYS.out] at this
   simpa [Bd,List.append_assoc] using this
set_option maxHeartbeats 4000000 in
set_option maxRecDepth 20000 in
theorem shape_any (p:Pt) (lv:Value) (cs:Array Value) (R:Nat→Prop) (w:World) (hcs:Value.agg cs=arg p lv) (hv:KidsIn w R p lv) (hw:wtP p≤1099511627776) (hl:(shapeP p).length≤140737488355328) :
  Calls Tryz.prog 14 #[.agg cs] w fun e w'=>e=.returned (.string (bstr (shapeP p)))∧Below w.heap.size w w':=by
 have hfm:∃ kb tb f e a n c,cs=#[.string kb,.string tb,.int .i64 f,.int .i64 e,.slice a n c]:=by
  obtain ⟨k,t,f,e,ks⟩:=p
  obtain ⟨kb,tb,n,a,c,h1,_⟩:=cs_form hcs (lies_lt _ _ hv)
  exact ⟨kb,tb,f,e,a,n,c,h1⟩
 obtain ⟨kb,tb,f,e,a,n,c,rfl⟩:=hfm
 have HLV:=hid (lies_lt _ _ hv)
 have HV:=hid hcs
 obtain ⟨x,hx⟩:∃ x,shapeP p=x:=⟨_,rfl⟩
 have HX:=hid hx
 rw [hx] at hl ⊢
 obtain ⟨xb,hxb⟩:∃ y,bstr x=y:=⟨_,rfl⟩
 have HXB:=hid hxb
 rw [hxb]
 clear hx hxb hcs hv
 go_enter Tryz.func14,Tryz.ntmps14
 go_upto_region 1 with fail
 obtain ⟨w1,hw1,hq1,hb1,hz1⟩:=new_block w (.cells #[.string kb,.string tb,.int .i64 f,.int .i64 e,.slice a n c] 25)
 rw [hw1]
 have HB1:=hid hb1
 have HQ1:=hid hq1
 clear hw1 hb1 hq1
 go_upto_region 2 with fail
 obtain ⟨w3,hw3,hq3,hb3,hz3⟩:=new_block w1 (.cells #[.pointer none,.slice none 0 0] 54)
 rw [hw3]
 have hbd:Bd w1.heap.size [] w3:=⟨.pointer none,.slice none 0 0,hq3,.inl rfl,⟨rfl,.inl ⟨rfl,rfl⟩⟩,fun _=>rfl⟩
 have HB3:=hid (HB1.out.trans (hb3.mono HB1.out.size))
 have hlies3:=(HLV.out.later HB3.out).mono HB1.out.size
 have hp3:=(hb3.block _ hz1).trans HQ1.out
 obtain ⟨d,hdd⟩:∃ y,w1.heap.size=y:=⟨_,rfl⟩
 have hwd:w.heap.size≤d:=by rw [← hdd];exact HB1.out.size
 rw [hdd] at hbd hlies3 ⊢
 obtain ⟨⟨p0,p1,p2,p3,p4⟩,pf⟩:=J.cells_five hp3
 have cP:=shape_part p lv _ d [] w3 HV.out hbd hlies3 hw (by rw [HX.out];simpa using hl)
 rw [HX.out] at cP
 clear hw3 hb3 hdd hp3 hq3 hz3 hlies3 hbd
 go_wp2_with fail
 refine cP.mono ?_
 rintro e' w4 ⟨rfl,hw4,hk4⟩
 have cS:=bstr_any hTb hw4
 rw [List.nil_append,HXB.out] at cS
 have HB4:=hid (HB3.out.trans (hk4.below.mono hwd))
 clear cP hw4 hk4 p0 p1 p2 p3 p4 pf
 go_wp2_with fail
 refine cS.mono ?_
 rintro e' w5 ⟨rfl,hb5⟩
 have HB5:=hid (HB4.out.trans (hb5.mono hwd))
 clear cS hb5
 go_wp2_with fail
 go_ret
 exact ⟨rfl,HB5.out⟩
end Go.Proofs.YtmclaaonlhnbmaaGreatDoor.H
namespace Go.Proofs.YtmclaaonlhnbmaaGreatDoor.H
open Go.RowKit
open Go.Lib hiding intOf
open U S T K
open Go.Proofs.YtmclaaonlhnbmaaGreatDoor.J (arg wtP wtL kids_row kid_at KidAt new_block kids_below Pt.ind wtL_mem wtL_length)
theorem alikeL_len:∀ {l m:List Pt},l.length≠m.length→alikeL l m=false
 | [],[],h=>absurd rfl h
 | [],_ :: _,_=>by rw [alikeL]
 | _ :: _,[],_=>by rw [alikeL]
 | p :: r,q :: s,h=>by rw [alikeL,alikeL_len (l:=r) (m:=s) (fun e=>h (by simp [e])),Bool.and_false]
theorem alikeL_drop {l m:List Pt} {i:Nat} (h:i<l.length) (k:i<m.length):alikeL (l.drop i) (m.drop i)=(alikeP l[i] m[i]&&alikeL (l.drop (i+1)) (m.drop (i+1))):=by
 rw [List.drop_eq_getElem_cons h,List.drop_eq_getElem_cons k,alikeL]
def AlikeC (p:Pt):Prop:=∀ (q:Pt) (lv lv2:Value) (cs cs2:Array Value) (R R2:Nat→Prop) (w:World),Value.agg cs=arg p lv→Value.agg cs2=arg q lv2→KidsIn w R p lv→KidsIn w R2 q lv2→wtP p≤1099511627776→wtP q≤1099511627776 →
 Calls Tryz.prog 13 #[.agg cs,.agg cs2] w fun e w'=>e=.returned (.bool (alikeP p q))∧Below w.heap.size w w'
set_option maxHeartbeats 8000000 in
set_option maxRecDepth 20000 in
theorem eqf_any {k t k2 t2:By} {f e f2 e2:Int} {l l2:List Pt} {a a2:Option Addr} {n c n2 c2:Nat} {R R2:Nat→Prop} {w:World} (IH:∀ p∈l,AlikeC p) (hv:KidsIn w R (.mk k t f e l) (.slice a n c)) (hv2:KidsIn w R2 (.mk k2 t2 f2 e2 l2) (.slice a2 n2 c2)) (hw:∀ p∈l,wtP p≤1099511627776) (hw2:∀ p∈l2,wtP p≤1099511627776) (hlb:l.length≤1099511627776) (hlb2:l2.length≤1099511627776) :
  Calls Tryz.prog 30 #[.slice a n c,.slice a2 n2 c2,.func (.func 13) #[] #[]] w fun e w'=>e=.returned (.bool (alikeL l l2))∧Below w.heap.size w w':=by
 have HR1:=hid (kids_row hv)
 have HR2:=hid (kids_row hv2)
 have HN:=hid HR1.out.1
 have HN2:=hid HR2.out.1
 have HIH:=hid IH
 have HWT:=hid hw
 have HWT2:=hid hw2
 rw [← HN.out] at hlb
 rw [← HN2.out] at hlb2
 clear hv hv2 hw hw2 IH
 by_cases hnn:n=n2
 ·subst hnn
  obtain ⟨B,hBB⟩:∃ B,alikeL l l2=B:=⟨_,rfl⟩
  have HBB:=hid hBB
  rw [hBB]
  clear hBB
  go_enter Tryz.func30,Tryz.ntmps30
  go_wp2_with fail
  go_loopw [17] (fun iv wr=>∃ i:Nat,iv=.int .i64 i∧i≤n∧Hid (alikeL (l.drop i) (l2.drop i)=B)∧Hid (Below w.heap.size w wr)) (fun iv _=>n - (Go.RowKit.intOf iv).toNat)
  case atStart=>exact ⟨0,rfl,Nat.zero_le _,hid (by rw [List.drop_zero,List.drop_zero];exact HBB.out),hid (Below.refl _ _)⟩
  case round =>
   obtain ⟨i,rfl,hi,HI,HB⟩:=hrel
   by_cases hlt:i<n
   ·have hll:i<l.length:=by rw [← HN.out];exact hlt
    have hll2:i<l2.length:=by rw [← HN2.out];exact hlt
    obtain ⟨g,off,xs,rfl,hg,hc,hp⟩:=HR1.out.2.2.resolve_left (fun h=>by rw [h] at hll;exact Nat.not_lt_zero _ hll)
    obtain ⟨g2,off2,xs2,rfl,hg2,hc2,hp2⟩:=HR2.out.2.2.resolve_left (fun h=>by rw [h] at hll2;exact Nat.not_lt_zero _ hll2)
    obtain ⟨k',t',f',e',ks',a',c',hK⟩:=kid_at hp hc i hll
    obtain ⟨k'',t'',f'',e'',ks'',a'',c'',hK2⟩:=kid_at hp2 hc2 i hll2
    have hK:=hK.below HB.out
    have hK2:=hK2.below HB.out
    have hI:=HI.out
    rw [alikeL_drop hll hll2] at hI
    have hPq:=HIH.out _ (List.getElem_mem hll)
    have hwq:=HWT.out _ (List.getElem_mem hll)
    have hwq2:=HWT2.out _ (List.getElem_mem hll2)
    have j0:=hK.k0
    have j1:=hK.k1
    have j2:=hK.k2
    have j3:=hK.k3
    have j4:=hK.k4
    have m0:=hK2.k0
    have m1:=hK2.k1
    have m2:=hK2.k2
    have m3:=hK2.k3
    have m4:=hK2.k4
    obtain ⟨q,hq⟩:∃ q,l[i]=q:=⟨_,rfl⟩
    obtain ⟨q2,hq2⟩:∃ q,l2[i]=q:=⟨_,rfl⟩
    rw [hq] at hPq hwq hI
    rw [hq2] at hwq2 hI
    have HKin:=hid hK.kids
    have HKin2:=hid hK2.kids
    have HQ:=hid (hq.symm.trans hK.eq)
    have HQ2:=hid (hq2.symm.trans hK2.eq)
    obtain ⟨y0,hy0⟩:∃ x,bstr k'=x:=⟨_,rfl⟩
    obtain ⟨y1,hy1⟩:∃ x,bstr t'=x:=⟨_,rfl⟩
    obtain ⟨z0,hz0⟩:∃ x,ks'.length=x:=⟨_,rfl⟩
    obtain ⟨u0,hu0⟩:∃ x,bstr k''=x:=⟨_,rfl⟩
    obtain ⟨u1,hu1⟩:∃ x,bstr t''=x:=⟨_,rfl⟩
    obtain ⟨v0,hv0⟩:∃ x,ks''.length=x:=⟨_,rfl⟩
    rw [hy0] at j0
    rw [hy1] at j1
    rw [hz0] at j4
    rw [hu0] at m0
    rw [hu1] at m1
    rw [hv0] at m4
    have HE:=hid (show Value.agg #[.string y0,.string y1,.int .i64 f',.int .i64 e',.slice a' z0 c']=arg q (.slice a' ks'.length c') by rw [HQ.out,← hy0,← hy1,← hz0];rfl)
    have HE2:=hid (show Value.agg #[.string u0,.string u1,.int .i64 f'',.int .i64 e'',.slice a'' v0 c'']=arg q2 (.slice a'' ks''.length c'') by rw [HQ2.out,← hu0,← hu1,← hv0];rfl)
    obtain ⟨b',hb'⟩:∃ b',alikeP q q2=b':=⟨_,rfl⟩
    rw [hb'] at hI
    have cP:=fun X (hX:Below wr.heap.size wr X)=>hPq q2 _ _ _ _ R R2 X HE.out HE2.out (by rw [HQ.out];exact kids_below HKin.out hX) (by rw [HQ2.out];exact kids_below HKin2.out hX) hwq hwq2
    rw [hb'] at cP
    have HI2:=hid hI
    have hi0:(0:Int)≤(i:Int):=by omega
    have hi1:(i:Int)<(n:Int):=by omega
    clear hK hK2 hq hq2 hy0 hy1 hz0 hu0 hu1 hv0 hb' hI hPq hwq hwq2 hc hp hc2 hp2 HI
    go_upto_region 6 with fail
    obtain ⟨w6,hw6,hq6,hb6,hz6⟩:=new_block wr (.cells #[.string y0,.string y1,.int .i64 f',.int .i64 e',.slice a' z0 c'] 25)
    rw [hw6]
    have cl:∀ {b o:Nat} {v:Value},wr.cell? ⟨b,o,none⟩=some v→w6.cell? ⟨b,o,none⟩=some v:=fun h=>(hb6.cell (World.block_lt_of_cell? wr _ h)).trans h
    replace m0:=cl m0
    replace m1:=cl m1
    replace m2:=cl m2
    replace m3:=cl m3
    replace m4:=cl m4
    have HB6:=hid hb6
    have HQ6:=hid hq6
    clear hw6 hb6 hq6 cl j0 j1 j2 j3 j4
    go_upto_region 7 with fail
    obtain ⟨w7,hw7,hq7,hb7,_⟩:=new_block w6 (.cells #[.string u0,.string u1,.int .i64 f'',.int .i64 e'',.slice a'' v0 c''] 25)
    rw [hw7]
    have hb67:=HB6.out.trans (hb7.mono HB6.out.size)
    have c1:=cP w7 hb67
    have h67:=(hb7.block _ hz6).trans HQ6.out
    obtain ⟨⟨p0,p1,p2,p3,p4⟩,pf⟩:=J.cells_five h67
    obtain ⟨⟨q0,q1,q2',q3,q4⟩,qf⟩:=J.cells_five hq7
    have HB7:=hid (HB.out.trans (hb67.mono HB.out.size))
    clear hw7 hq7 hb7 hb67 h67 hz6 m0 m1 m2 m3 m4 cP
    go_wp2_with fail
    refine c1.mono ?_
    rintro e w8 ⟨rfl,hb8⟩
    have HB8:=hid (HB7.out.trans (hb8.mono HB7.out.size))
    clear c1 hb8 p0 p1 p2 p3 p4 pf q0 q1 q2' q3 q4 qf
    cases b' with
    | false =>
     have hI:=HI2.out
     rw [Bool.false_and] at hI
     subst hI
     go_wp2_with fail
     go_ret
     exact ⟨rfl,HB8.out⟩
    | true =>
     have hI:=HI2.out
     rw [Bool.true_and] at hI
     have HI3:=hid hI
     clear hI HI2
     go_wp2_with fail
     go_roundw
     case rel=>exact ⟨i+1,by go_num,by omega,HI3,HB8⟩
     case measure=>simp [Go.RowKit.intOf];omega
   ·obtain rfl:i=n:=by omega
    have hI:=HI.out
    rw [List.drop_eq_nil_of_le (by rw [← HN.out];exact Nat.le_refl _),List.drop_eq_nil_of_le (by rw [← HN2.out];exact Nat.le_refl _),alikeL] at hI
    subst hI
    clear HI
    go_wp2_with fail
    go_ret
    exact ⟨rfl,HB.out⟩
 ·have hne:alikeL l l2=false:=alikeL_len (by rw [← HN.out,← HN2.out];exact hnn)
  rw [hne]
  have h2:((n:Int)==(n2:Int))=false:=by simp;omega
  clear hne
  go_enter Tryz.func30,Tryz.ntmps30
  go_wp2_with fail
  go_ret
  exact ⟨rfl,Below.refl _ _⟩
theorem tb_eq2 (x y:By):((bstr x).toList==(bstr y).toList)=(x==y):=by
 rw [show (bstr x).toList=x from by rw [ByteArray.toList_eq];rfl,show (bstr y).toList=y from by rw [ByteArray.toList_eq];rfl]
set_option maxHeartbeats 8000000 in
set_option maxRecDepth 20000 in
theorem alike_part:∀ p,AlikeC p:=Pt.ind fun k t f e ks IH q lv lv2 cs cs2 R R2 w hcs hcs2 hv hv2 hw hw2=>by
 obtain ⟨k2,t2,f2,e2,ks2⟩:=q
 obtain ⟨kb,tb,n,a,c,rfl,hkb,htb,hn,rfl⟩:=cs_form hcs (lies_lt _ _ hv)
 obtain ⟨kb2,tb2,n2,a2,c2,rfl,hkb2,htb2,hn2,rfl⟩:=cs_form hcs2 (lies_lt _ _ hv2)
 have hwk:∀ x∈ks,wtP x≤1099511627776:=fun x h=>Nat.le_trans (wtL_mem h) (by rw [wtP] at hw;omega)
 have hwk2:∀ x∈ks2,wtP x≤1099511627776:=fun x h=>Nat.le_trans (wtL_mem h) (by rw [wtP] at hw2;omega)
 have hl1:ks.length≤1099511627776:=Nat.le_trans (wtL_length ks) (by rw [wtP] at hw;omega)
 have hl2:ks2.length≤1099511627776:=Nat.le_trans (wtL_length ks2) (by rw [wtP] at hw2;omega)
 have cE:=fun X (hX:Below w.heap.size w X)=>eqf_any (w:=X) IH (kids_below hv hX) (kids_below hv2 hX) hwk hwk2 hl1 hl2
 have e1:(kb.toList==kb2.toList)=(k==k2):=by rw [← hkb,← hkb2];exact tb_eq2 k k2
 have e3:(tb.toList==tb2.toList)=(t==t2):=by rw [← htb,← htb2];exact tb_eq2 t t2
 rw [alikeP]
 obtain ⟨b1,hb1⟩:∃ b,(k==k2)=b:=⟨_,rfl⟩
 obtain ⟨b2,hb2⟩:∃ b,(t==t2)=b:=⟨_,rfl⟩
 obtain ⟨b3,hb3⟩:∃ b,alikeL ks ks2=b:=⟨_,rfl⟩
 rw [hb1] at e1 ⊢
 rw [hb2] at e3 ⊢
 rw [hb3] at cE ⊢
 clear hb1 hb2 hb3 hcs hcs2 hv hv2 hw hw2 hwk hwk2 hl1 hl2 hkb htb hn hkb2 htb2 hn2 IH
 have HC:=hid cE
 clear cE
 cases b1
 all_goals cases b2
 all_goals simp only [Bool.true_and,Bool.and_false,Bool.false_and]
 all_goals go_enter Tryz.func13,Tryz.ntmps13
 all_goals go_upto_region 1 with fail
 all_goals obtain ⟨w1,hw1,hq1,hb1,hz1⟩:=new_block w (.cells #[.string kb,.string tb,.int .i64 f,.int .i64 e,.slice a n c] 25)
 all_goals rw [hw1]
 all_goals obtain ⟨w2,hw2,hq2,hb2,hz2⟩:=new_block w1 (.cells #[.string kb2,.string tb2,.int .i64 f2,.int .i64 e2,.slice a2 n2 c2] 25)
 all_goals rw [hw2]
 all_goals have hs1:w1.heap.size=w.heap.size+1:=by rw [← hw1];simp
 all_goals have h12:=(hb2.block _ hz1).trans hq1
 all_goals obtain ⟨⟨p0,p1,p2,p3,p4⟩,pf⟩:=J.cells_five h12
 all_goals obtain ⟨⟨q0,q1,q2,q3,q4⟩,qf⟩:=J.cells_five hq2
 all_goals rw [hs1] at q0 q1 q2 q3 q4 qf
 all_goals have HB:=hid (hb1.trans (hb2.mono hb1.size))
 all_goals have cE:=HC.out w2 HB.out
 all_goals clear hw1 hq1 hb1 hz1 hw2 hq2 hb2 hz2 h12 hs1 HC
 all_goals go_wp2_with fail
 rotate_left 3
 ·refine cE.mono ?_
  rintro e' w3 ⟨rfl,hb3⟩
  have HB3:=hid (HB.out.trans (hb3.mono HB.out.size))
  clear cE hb3
  go_wp2_with fail
  go_ret
  exact ⟨rfl,HB3.out⟩
 all_goals go_ret
 all_goals exact ⟨rfl,HB.out⟩
end Go.Proofs.YtmclaaonlhnbmaaGreatDoor.H
namespace Go.Proofs.YtmclaaonlhnbmaaGreatDoor.H
open Go.Lib Go.Proofs.YtmclaaonlhnbmaaGreatDoor.U Go.Proofs.YtmclaaonlhnbmaaGreatDoor.S Go.Proofs.YtmclaaonlhnbmaaGreatDoor.T Go.Proofs.YtmclaaonlhnbmaaGreatDoor.K
def askS:ByteArray:=⟨#[102,117,110,99,32,102,40,97,32,105,110,116,44,98,32,42,84,41,105,110,116,123,105,102,40,97,43,49,41,42,50,60,51,123,114,101,116,117,114,110,45,40,97,45,40,98,46,99,45,49,41,41,125,59,120,58,61,38,40,42,98,41,46,99,125]⟩
def askT:ByteArray:=⟨#[102,117,110,99,32,102,40,97,32,105,110,116,44,32,98,32,42,84,41,32,105,110,116,32,123,10,9,105,102,32,40,97,32,43,32,49,41,32,42,32,50,32,60,32,51,32,123,10,9,9,114,101,116,117,114,110,32,45,40,97,32,45,32,40,98,46,99,32,45,32,49,41,41,10,9,125,10,9,120,32,58,61,32,38,40,42,98,41,46,99,10,125]⟩
def askD:Pt × Int × Int:=declP (scanB true askS.toList) 65
theorem ask_ok:okB askS=true:=by kernel_rfl
theorem ask_is:askD.2=(0,0):=by kernel_rfl
theorem ask_show:showP 0 askD.1=askT.data.toList:=by kernel_rfl
theorem ask_wt:J.wtP askD.1≤1000:=by
 have h:Nat.ble (J.wtP askD.1) 1000=true:=by kernel_rfl
 exact Nat.le_of_ble_eq_true h
theorem ask_deep:deep askD.1≤1000:=by
 have h:Nat.ble (deep askD.1) 1000=true:=by kernel_rfl
 exact Nat.le_of_ble_eq_true h
def idX:Pt:=.mk [105,100] [120] 0 0 []
def idT:ByteArray:=⟨#[105,100,58,120,40,41]⟩
theorem id_shape:shapeP idX=idT.data.toList:=by kernel_rfl
end Go.Proofs.YtmclaaonlhnbmaaGreatDoor.H
namespace Go.Proofs.YtmclaaonlhnbmaaGreatDoor.H
open Go.Lib Go.Proofs.YtmclaaonlhnbmaaGreatDoor.U Go.Proofs.YtmclaaonlhnbmaaGreatDoor.S Go.Proofs.YtmclaaonlhnbmaaGreatDoor.T Go.Proofs.YtmclaaonlhnbmaaGreatDoor.K
open Go.Proofs.YtmclaaonlhnbmaaGreatDoor.J (wtP wtL)
def ln (l:List Pc):Nat:=(byt l).length
theorem ln_app (a b:List Pc):ln (a++b)=ln a+ln b:=by unfold ln;rw [byt_app,List.length_append]
theorem ln_wd (w:Int) (t:By) (r:List Pc):ln (.wd w t :: r)=t.length+ln r:=by unfold ln;rw [byt_wd,List.length_append]
theorem ln_sp (l:By) (r:List Pc):ln (.sp l :: r)=l.length+ln r:=by unfold ln;rw [byt_sp,List.length_append]
theorem ln_nil:ln []=0:=rfl
theorem ln_held (b:Bool) (l:List Pc):ln (held b l)≤ln l+2:=by
 unfold held;split
 ·rw [ln_wd,ln_app,ln_wd,ln_nil];simp;omega
 ·omega
def sumL (X:Nat):List (List Pc)→Nat
 | []=>0
 | x :: r=>ln x+X+sumL X r
theorem ln_commas (l:List (List Pc)):ln (commas l)≤sumL 2 l:=by
 cases l with
 | nil=>exact Nat.le_refl _
 | cons x r =>
  have h:∀ r:List (List Pc),ln (r.map fun y=>.wd 4 [44] :: .sp [32] :: y).flatten=sumL 2 r:=fun r=>by
   induction r with
   | nil=>rfl
   | cons y s ih=>rw [List.map_cons,List.flatten_cons,ln_app,ih,ln_wd,ln_sp,sumL];simp;omega
  rw [commas,ln_app,h,sumL];omega
theorem ln_lines (ind:Nat) (l:List (List Pc)):ln (linesP ind l)≤sumL (ind+2) l+ind+3:=by
 have h:∀ r:List (List Pc),ln (r.map fun x=>.sp (10 :: tabs (ind+1)) :: x).flatten=sumL (ind+2) r:=fun r=>by
  induction r with
  | nil=>rfl
  | cons y s ih=>rw [List.map_cons,List.flatten_cons,ln_app,ih,ln_sp,sumL];simp [tabs];omega
 unfold linesP
 rw [ln_wd,ln_app,h,ln_app,ln_wd,ln_nil]
 split
 ·rw [ln_nil];simp only [List.length_cons,List.length_nil];omega
 ·rw [ln_sp,ln_nil];simp [tabs];omega
theorem sumL_le {X Y:Nat} (h:X≤Y):∀ l,sumL X l≤sumL Y l
 | []=>Nat.le_refl _
 | x :: r=>by have:=sumL_le h r;rw [sumL,sumL];omega
section
variable {K C:Nat} (hC:2*K+64≤C)
include hC
def Short (K C:Nat) (p:Pt):Prop:=∀ ind,ind+deep p≤K→ln (pcs ind p)+(K+8)≤C*wtP p
omit hC in
theorem sum_short {ks:List Pt} (IH:∀ q∈ks,Short K C q) (ind:Nat) (hd:∀ q∈ks,ind+deep q≤K):sumL (K+8) (ks.map (pcs ind))≤C*wtL ks:=by
 induction ks with
 | nil=>exact Nat.zero_le _
 | cons x r ih =>
  rw [List.map_cons,sumL,wtL,Nat.mul_add]
  have h1:=IH x List.mem_cons_self ind (hd x List.mem_cons_self)
  have h2:=ih (fun q hq=>IH q (List.mem_cons_of_mem _ hq)) (fun q hq=>hd q (List.mem_cons_of_mem _ hq))
  omega
omit hC in
theorem three_short {ks:List Pt} (IH:∀ q∈ks,Short K C q) (ind:Nat) (hd:∀ q∈ks,ind+deep q≤K):ln (pcs ind (kidAt ks 0))+ln (pcs ind (kidAt ks 1))+ln (pcs ind (kidAt ks 2))≤C*wtL ks:=by
 have z:ln (pcs ind zeroP)=0:=rfl
 match ks,IH,hd with
 | [],_,_=>rw [show kidAt [] 0=zeroP from rfl,show kidAt [] 1=zeroP from rfl,show kidAt [] 2=zeroP from rfl,z];exact Nat.zero_le _
 | [a],IH,hd =>
  have h1:=IH a (by simp) ind (hd a (by simp))
  rw [show kidAt [a] 0=a from rfl,show kidAt [a] 1=zeroP from rfl,show kidAt [a] 2=zeroP from rfl,z]
  simp only [wtL,Nat.mul_add,Nat.mul_zero]
  omega
 | [a,b],IH,hd =>
  have h1:=IH a (by simp) ind (hd a (by simp))
  have h2:=IH b (by simp) ind (hd b (by simp))
  rw [show kidAt [a,b] 0=a from rfl,show kidAt [a,b] 1=b from rfl,show kidAt [a,b] 2=zeroP from rfl,z]
  simp only [wtL,Nat.mul_add,Nat.mul_zero]
  omega
 | a :: b :: c :: r,IH,hd =>
  have h1:=IH a (by simp) ind (hd a (by simp))
  have h2:=IH b (by simp) ind (hd b (by simp))
  have h3:=IH c (by simp) ind (hd c (by simp))
  rw [show kidAt (a :: b :: c :: r) 0=a from rfl,show kidAt (a :: b :: c :: r) 1=b from rfl,show kidAt (a :: b :: c :: r) 2=c from rfl,wtL,wtL,wtL,Nat.mul_add,Nat.mul_add,Nat.mul_add]
  omega
theorem func_short {ks:List Pt} (IH:∀ q∈ks,Short K C q) (IH2:∀ q∈ks,∀ r∈ksP q,Short K C r) (ind:Nat) (hd:∀ q∈ks,ind+deep q≤K) :
  sumL (K+8) ((ksP (kidAt ks 0)).map (pcs ind))+ln (pcs ind (kidAt (ksP (kidAt ks 1)) 0))+ln (pcs ind (kidAt ks 2))≤C*wtL ks:=by
 have z:ln (pcs ind zeroP)=0:=rfl
 have dk:∀ q:Pt,ind+deep q≤K→∀ r∈ksP q,ind+deep r≤K:=fun q hq r hr=>by
  obtain ⟨k,t,f,e,l⟩:=q
  have:=deep_mem (show r∈l from hr)
  rw [deep] at hq;omega
 have f1:∀ q∈ks,sumL (K+8) ((ksP q).map (pcs ind))≤C*wtP q:=fun q hq=>by
  have h:=sum_short (IH2 q hq) ind (dk q (hd q hq))
  obtain ⟨k,t,f,e,l⟩:=q
  change _≤C*wtL l at h
  rw [wtP,Nat.mul_add];omega
 have f2:∀ q∈ks,ln (pcs ind (kidAt (ksP q) 0))≤C*wtP q:=fun q hq=>by
  have h:=three_short (IH2 q hq) ind (dk q (hd q hq))
  obtain ⟨k,t,f,e,l⟩:=q
  change _≤C*wtL l at h
  rw [wtP,Nat.mul_add]
  show ln (pcs ind (kidAt l 0))≤_
  change ln (pcs ind (kidAt l 0))+ln (pcs ind (kidAt l 1))+ln (pcs ind (kidAt l 2))≤_ at h
  omega
 have _:=hC
 match ks,IH,hd,f1,f2 with
 | [],_,_,_,_=>exact Nat.zero_le _
 | [a],IH,hd,f1,f2 =>
  have h1:=f1 a (by simp)
  rw [show kidAt [a] 0=a from rfl,show kidAt [a] 1=zeroP from rfl,show kidAt [a] 2=zeroP from rfl,show kidAt (ksP zeroP) 0=zeroP from rfl,z]
  simp only [wtL,Nat.mul_add,Nat.mul_zero]
  omega
 | [a,b],IH,hd,f1,f2 =>
  have h1:=f1 a (by simp)
  have h2:=f2 b (by simp)
  rw [show kidAt [a,b] 0=a from rfl,show kidAt [a,b] 1=b from rfl,show kidAt [a,b] 2=zeroP from rfl,z]
  simp only [wtL,Nat.mul_add,Nat.mul_zero]
  omega
 | a :: b :: c :: r,IH,hd,f1,f2 =>
  have h1:=f1 a (by simp)
  have h2:=f2 b (by simp)
  have h3:=IH c (by simp) ind (hd c (by simp))
  rw [show kidAt (a :: b :: c :: r) 0=a from rfl,show kidAt (a :: b :: c :: r) 1=b from rfl,show kidAt (a :: b :: c :: r) 2=c from rfl,wtL,wtL,wtL,Nat.mul_add,Nat.mul_add,Nat.mul_add]
  omega
theorem decl_short {ks:List Pt} (IH:∀ q∈ks,Short K C q) (IH2:∀ q∈ks,∀ r∈ksP q,Short K C r) (hd:∀ q∈ks,1+deep q≤K):sumL (K+8) (ks.map (declared pcs))≤C*wtL ks:=by
 induction ks with
 | nil=>exact Nat.zero_le _
 | cons x r ih =>
  rw [List.map_cons,sumL,wtL,Nat.mul_add]
  have h2:=ih (fun q hq=>IH q (List.mem_cons_of_mem _ hq)) (fun q hq=>IH2 q (List.mem_cons_of_mem _ hq)) (fun q hq=>hd q (List.mem_cons_of_mem _ hq))
  have h1:ln (declared pcs x)+(K+8)≤C*wtP x:=by
   unfold declared
   split
   ·have h3:=three_short (K:=K) (C:=C) (IH2 x List.mem_cons_self) 1 (fun q hq=>by
     have:=hd x List.mem_cons_self
     obtain ⟨k,t,f,e,l⟩:=x
     have h4:=deep_mem (show q∈l from hq)
     rw [deep] at this;omega)
    obtain ⟨k,t,f,e,l⟩:=x
    change ln (pcs 1 (kidAt l 0))+ln (pcs 1 (kidAt l 1))+ln (pcs 1 (kidAt l 2))≤C*wtL l at h3
    rw [ln_wd,ln_sp,wtP]
    show t.length+([32].length+ln (pcs 1 (kidAt l 0)))+(K+8)≤_
    have e1:C*(1+t.length+k.length+wtL l)=C+C*t.length+C*k.length+C*wtL l:=by rw [Nat.mul_add,Nat.mul_add,Nat.mul_add,Nat.mul_one]
    have e2:t.length≤C*t.length:=Nat.le_mul_of_pos_left _ (by omega)
    rw [e1]
    simp only [List.length_cons,List.length_nil]
    omega
   ·exact IH x List.mem_cons_self 1 (hd x List.mem_cons_self)
  omega
theorem short_any:∀ (n:Nat) (p:Pt),deep p≤n→Short K C p
 | 0,.mk _ _ _ _ _,h=>by rw [deep] at h;omega
 | n+1,.mk k t f e ks,h=>by
  rw [deep] at h
  have IH:∀ q∈ks,Short K C q:=fun q hq=>short_any n q (by have:=deep_mem hq;omega)
  have IH2:∀ q∈ks,∀ r∈ksP q,Short K C r:=fun q hq r hr=>short_any n r (by
   have h1:=deep_mem hq
   obtain ⟨k',t',f',e',l⟩:=q
   have h2:=deep_mem (show r∈l from hr)
   rw [deep] at h1;omega)
  intro ind hd
  rw [deep] at hd
  have hdk:∀ q∈ks,ind+deep q≤K:=fun q hq=>by have:=deep_mem hq;omega
  have hdk1:∀ q∈ks,ind+1+deep q≤K:=fun q hq=>by have:=deep_mem hq;omega
  have hdk2:∀ q∈ks,1+deep q≤K:=fun q hq=>by have:=deep_mem hq;omega
  have a3:=three_short IH ind hdk
  have aS:=sum_short IH ind hdk
  have aB:=sum_short IH (ind+1) hdk1
  have aF:=func_short hC IH IH2 ind hdk
  have aD:=decl_short hC IH IH2 hdk2
  have e1:C*(1+t.length+k.length+wtL ks)=C+C*t.length+C*k.length+C*wtL ks:=by rw [Nat.mul_add,Nat.mul_add,Nat.mul_add,Nat.mul_one]
  have e2:t.length≤C*t.length:=Nat.le_mul_of_pos_left _ (by omega)
  have c1:=ln_commas (ks.map (pcs ind))
  have c2:=ln_commas ((ksP (kidAt ks 0)).map (pcs ind))
  have s1:=sumL_le (show 2≤K+8 by omega) (ks.map (pcs ind))
  have s2:=sumL_le (show 2≤K+8 by omega) ((ksP (kidAt ks 0)).map (pcs ind))
  have l1:=ln_lines ind (ks.map (pcs (ind+1)))
  have l2:=ln_lines 0 (ks.map (declared pcs))
  have s3:=sumL_le (show ind+2≤K+8 by omega) (ks.map (pcs (ind+1)))
  have s4:=sumL_le (show 0+2≤K+8 by omega) (ks.map (declared pcs))
  have u1:=ln_held (uHeld t (kidAt ks 0)) (pcs ind (kidAt ks 0))
  have u2:=ln_held (lHeld t (kidAt ks 0)) (pcs ind (kidAt ks 0))
  have u3:=ln_held (rHeld t (kidAt ks 1)) (pcs ind (kidAt ks 1))
  have u4:=ln_held (oHeld (kidAt ks 0)) (pcs ind (kidAt ks 0))
  rw [pcs_mk,wtP,e1]
  cases kd k
  case func =>
   simp only [bodyP,ln_app,ln_wd,ln_sp,ln_nil,List.length_cons,List.length_nil,kFunc]
   split
   ·rw [ln_nil];omega
   ·rw [ln_app,ln_sp,ln_nil];simp only [List.length_cons,List.length_nil];omega
  case ret =>
   simp only [bodyP,ln_wd,kReturn,List.length_cons,List.length_nil]
   split
   ·rw [ln_nil];omega
   ·rw [ln_sp];simp only [List.length_cons,List.length_nil];omega
  case if' =>
   simp only [bodyP,ln_app,ln_wd,ln_sp,ln_nil,kIf,List.length_cons,List.length_nil]
   split
   ·simp only [ln_app,ln_wd,ln_sp,ln_nil,kElse,List.length_cons,List.length_nil];omega
   ·rw [ln_nil];omega
  all_goals simp only [bodyP,called,ln_app,ln_wd,ln_sp,ln_nil,List.length_cons,List.length_nil,kVar,kType,kStruct,kFor,kNew,kMake]
  all_goals omega
end
theorem show_len (p:Pt) (ind:Nat) (hw:wtP p≤1048576) (hd:ind+deep p≤1048576):(showP ind p).length≤140737488355328:=by
 have h:=short_any (K:=1048576) (C:=2*1048576+64) (Nat.le_refl _) _ p (Nat.le_refl _) ind hd
 have h2:(2*1048576+64)*wtP p≤(2*1048576+64)*1048576:=Nat.mul_le_mul_left _ hw
 unfold ln at h
 unfold showP
 omega
mutual
theorem shape_wt:∀ p,(shapeP p).length≤4*wtP p
 | .mk k t f e ks=>by
  have:=shapeL_wt ks
  rw [shapeP,wtP]
  simp only [List.length_append,List.length_cons,List.length_nil]
  omega
theorem shapeL_wt:∀ l,(shapeL l).length≤4*wtL l
 | []=>by rw [shapeL,wtL];simp
 | p :: r=>by
  have:=shape_wt p
  have:=shapeL_wt r
  rw [shapeL,wtL,List.length_append];omega
end
end Go.Proofs.YtmclaaonlhnbmaaGreatDoor.H
namespace Go.Proofs.YtmclaaonlhnbmaaGreatDoor.H
open Go.RowKit
open Go.Lib hiding intOf
open U S T K
open Go.Proofs.YtmclaaonlhnbmaaGreatDoor.J (arg wtP wtL kids_row kid_at KidAt new_block kids_below Pt.ind wtL_mem wtL_length)
theorem ask_told:declP (scanB (okB askS) askS.toList) askS.size=askD:=by rw [ask_ok];rfl
set_option maxHeartbeats 8000000 in
set_option maxRecDepth 20000 in
theorem alive_any (w:World) (hT:Tabs w) (hG:MTab w):Calls Tryz.prog 11 #[] w fun e w'=>e=.returned (.bool true)∧Below w.heap.size w w':=by
 have c1:=decl_any askS w (by decide) hT hG
 unfold DeclPost at c1
 rw [ask_told] at c1
 unfold askS at c1
 go_enter Tryz.func11,Tryz.ntmps11
 go_wp2_with fail
 refine c1.mono ?_
 rintro e w1 ⟨p,at',er,lv,hp,rfl,hk1,hb1,_⟩
 have h2:=ask_is
 have hs:=ask_show
 have hw:=ask_wt
 have hd:=ask_deep
 rw [hp] at h2 hs hw hd
 cases h2
 obtain ⟨k,t,f,e,ks⟩:=p
 obtain ⟨a,c,rfl⟩:=J.kids_form hk1
 obtain ⟨n,hn⟩:∃ n,ks.length=n:=⟨_,rfl⟩
 obtain ⟨kb,hkb⟩:∃ x,bstr k=x:=⟨_,rfl⟩
 obtain ⟨tb,htb⟩:∃ x,bstr t=x:=⟨_,rfl⟩
 have hcs:Value.agg #[.string kb,.string tb,.int .i64 f,.int .i64 e,.slice a n c]=arg (.mk k t f e ks) (.slice a ks.length c):=by rw [← hkb,← htb,← hn];rfl
 rw [← hcs]
 have hb:bstr (showP 0 (.mk k t f e ks))=askT:=by
  change showP 0 (.mk k t f e ks)=_ at hs
  rw [hs];rfl
 have cS:=fun X (hX:Below w1.heap.size w1 X)=>show_any (.mk k t f e ks) (.slice a ks.length c) _ (fun _=>True) X hcs (kids_below hk1 hX) (by change wtP (.mk k t f e ks)≤1000 at hw;omega) (by change deep (.mk k t f e ks)≤1000 at hd;omega) (by change showP 0 (.mk k t f e ks)=_ at hs;rw [hs];decide)
 rw [hb] at cS
 have HS:=hid cS
 have HB1:=hid hb1
 have cI:=fun X=>shape_any idX (.slice none 0 0) #[.string ⟨#[105,100]⟩,.string ⟨#[120]⟩,.int .i64 0,.int .i64 0,.slice none 0 0] (fun _=>True) X rfl ⟨none,0,rfl,Nat.le_refl _,.inl rfl⟩ (by decide) (by decide)
 rw [show bstr (shapeP idX)=idT from by rw [id_shape];rfl] at cI
 have HI:=hid cI
 clear c1 hp hk1 hb1 hs hw hd hn hkb htb hcs hb cS cI hT hG
 go_upto_region 2 with fail
 obtain ⟨w2,hw2,hq2,hb2,hz2⟩:=new_block w1 (.cells #[.string kb,.string tb,.int .i64 f,.int .i64 e,.slice a n c] 25)
 rw [hw2]
 obtain ⟨⟨q0,q1,q2,q3,q4⟩,qf⟩:=J.cells_five hq2
 have HB2:=hid (HB1.out.trans (hb2.mono HB1.out.size))
 have cS:=HS.out w2 hb2
 unfold askT at cS
 clear hw2 hq2 hb2 hz2
 go_wp2_with fail
 refine cS.mono ?_
 rintro e' w3 ⟨rfl,hb3⟩
 have HB3:=hid (HB2.out.trans (hb3.mono HB2.out.size))
 have cI:=HI.out w3
 unfold idT at cI
 clear cS hb3 q0 q1 q2 q3 q4 qf
 go_wp2_with fail
 refine cI.mono ?_
 rintro e' w4 ⟨rfl,hb4⟩
 have HB4:=hid (HB3.out.trans (hb4.mono HB3.out.size))
 clear cI hb4
 go_wp2_with fail
 go_ret
 exact ⟨rfl,HB4.out⟩
end Go.Proofs.YtmclaaonlhnbmaaGreatDoor.H
namespace Go.Proofs.YtmclaaonlhnbmaaGreatDoor.J
open Go.RowKit
open Go.Lib hiding intOf
open U S T
mutual
def sizeP:Pt→Nat
 | .mk k t _ _ ks=>sizeLs ks (1+t.length+k.length)
def sizeLs:List Pt→Nat→Nat
 | [],n=>n
 | p :: r,n=>if n≤1600 then sizeLs r (n+sizeP p) else n
end
mutual
theorem sizeP_le:∀ p,sizeP p≤wtP p
 | .mk k t f e ks=>by
  have h:=sizeLs_le ks (1+t.length+k.length)
  rw [sizeP,wtP];omega
theorem sizeLs_le:∀ (l:List Pt) (n:Nat),sizeLs l n≤n+wtL l
 | [],n=>by rw [sizeLs];omega
 | p :: r,n=>by
  have h1:=sizeP_le p
  have h2:=sizeLs_le r (n+sizeP p)
  rw [sizeLs,wtL]
  split <;> omega
end
theorem sizeLs_drop {l:List Pt} {k n:Nat} (hk:k<l.length):sizeLs (l.drop k) n=if n≤1600 then sizeLs (l.drop (k+1)) (n+sizeP l[k]) else n:=by
 rw [List.drop_eq_getElem_cons hk,sizeLs]
def SizeC (p:Pt):Prop:=∀ (lv:Value) (R:Nat→Prop) (w:World),KidsIn w R p lv→wtP p≤1099511627776 →
 Calls Tryz.prog 15 #[arg p lv] w fun e w'=>e=.returned (.int .i64 (sizeP p))∧Below w.heap.size w w'
set_option maxHeartbeats 4000000 in
theorem size_any:∀ p,SizeC p:=Pt.ind fun k t f e ks IH lv R w hv hw=>by
 obtain ⟨a,c,rfl⟩:=kids_form hv
 obtain ⟨_,hcap,hrow⟩:=kids_row hv
 have HR:=hid hrow
 have HIH:=hid IH
 rw [wtP] at hw
 have hlb:ks.length≤1099511627776:=Nat.le_trans (wtL_length ks) (by omega)
 have HWM:=hid (fun v (h:v∈ks)=>Nat.le_trans (wtL_mem h) (show wtL ks≤1099511627776 by omega))
 have HW:=hid hw
 obtain ⟨F,hF⟩:∃ F,sizeP (.mk k t f e ks)=F:=⟨_,rfl⟩
 have HF:=hid (show sizeLs (ks.drop 0) (1+t.length+k.length)=F by rw [← hF,sizeP];rfl)
 rw [hF]
 obtain ⟨n,hn⟩:∃ n,ks.length=n:=⟨_,rfl⟩
 have HN:=hid hn
 simp only [arg,five]
 rw [hn]
 rw [hn] at hlb
 obtain ⟨kb,hkb⟩:∃ x,bstr k=x:=⟨_,rfl⟩
 obtain ⟨tb,htb⟩:∃ x,bstr t=x:=⟨_,rfl⟩
 have hks:kb.size=k.length:=by rw [← hkb];rfl
 have hts:tb.size=t.length:=by rw [← htb];rfl
 rw [hkb,htb]
 obtain ⟨n0,hn0⟩:∃ n0,1+t.length+k.length=n0:=⟨_,rfl⟩
 rw [hn0] at HF
 have HN0:=hid hn0
 have hkl:k.length≤1099511627776:=by omega
 have htl:t.length≤1099511627776:=by omega
 clear hv hrow IH hw hF hn hcap hkb htb hn0
 go_enter Tryz.func15,Tryz.ntmps15
 go_wp2_with fail
 obtain ⟨w1,hw1,hq1,hb1,hz1⟩:=new_block w (.cells #[.string kb,.string tb,.int .i64 f,.int .i64 e,.slice a n c] 25)
 rw [hw1]
 obtain ⟨⟨k0,k1,k2,k3,k4⟩,kf⟩:=cells_five hq1
 have HQ1:=hid hq1
 have HB1:=hid hb1
 clear hq1 hb1 hw1
 go_loopw [3,4] (fun nv iv wr=>∃ i m:Nat,iv=.int .i64 i∧nv=.int .i64 m∧i≤n∧Hid (m≤n0+wtL (ks.take i))∧Hid (sizeLs (ks.drop i) m=F)∧Hid (Below w1.heap.size w1 wr)) (fun _ iv _=>n - (Go.RowKit.intOf iv).toNat)
 case atStart=>exact ⟨0,n0,rfl,by have:=HN0.out;go_num,by omega,hid (by omega),HF,hid (Below.refl _ _)⟩
 case round =>
  obtain ⟨i,m,rfl,rfl,hi,HM,HI,HB⟩:=hrel
  have hq:=(HB.out.block w.heap.size hz1).trans HQ1.out
  obtain ⟨⟨k0,k1,k2,k3,k4⟩,kf⟩:=cells_five hq
  have hmb:m≤1099511627776:=by have h1:=HM.out;have h2:=wtL_take_le ks i;have h3:=HW.out;have h4:=HN0.out;omega
  have hz2:=HB.out.size
  have HQ:=hid hq
  clear hq
  by_cases hlt:i<n
  ·have hll:i<ks.length:=by rw [HN.out];exact hlt
   have hI:=HI.out
   rw [sizeLs_drop hll] at hI
   by_cases h16:m≤1600
   ·rw [if_pos h16] at hI
    obtain ⟨g,off,xs,rfl,hg,hc,hp⟩:=HR.out.resolve_left (fun h=>by rw [h] at hll;exact Nat.not_lt_zero _ hll)
    have hb0:Below w.heap.size w wr:=HB1.out.trans (HB.out.mono HB1.out.size)
    obtain ⟨k',t',f',e',ks',a',c',hK⟩:=kid_at hp hc i hll
    have hK:=hK.below hb0
    have hle:=sizeP_le ks[i]
    have hts':=wtL_take_succ hll
    have htl':=wtL_take_le ks (i+1)
    have HM3:=hid (show m+sizeP ks[i]≤n0+wtL (ks.take (i+1)) by have:=HM.out;omega)
    have hmb3:m+sizeP ks[i]≤1099511627776:=by have h1:=HM.out;have h3:=HW.out;have h4:=HN0.out;omega
    have cP:=(HIH.out ks[i] (List.getElem_mem hll)) (.slice a' ks'.length c') R wr (by rw [hK.eq];exact hK.kids) (HWM.out _ (List.getElem_mem hll))
    obtain ⟨sz,hsz⟩:∃ x,sizeP ks[i]=x:=⟨_,rfl⟩
    rw [hsz] at hI HM3 hmb3 cP
    simp only [hK.eq,arg,five] at cP
    have HI2:=hid hI
    have j0:=hK.k0
    have j1:=hK.k1
    have j2:=hK.k2
    have j3:=hK.k3
    have j4:=hK.k4
    clear hI hsz hle hts' htl' hc hp hK hb0 HI HM
    go_wp2_with fail
    refine cP.mono ?_
    rintro e w2 ⟨rfl,hb2⟩
    have HB2:=hid (HB.out.trans (hb2.mono HB.out.size))
    clear cP hb2
    go_wp2_with fail
    go_roundw
    case rel=>exact ⟨i+1,m+sz,by go_num,by go_num,by omega,HM3,HI2,HB2⟩
    case measure=>simp [Go.RowKit.intOf];omega
   ·rw [if_neg h16] at hI
    obtain rfl:=hI
    clear HI HM
    go_wp2_with fail
    go_ret
    exact ⟨rfl,HB1.out.trans (HB.out.mono HB1.out.size)⟩
  ·obtain rfl:i=n:=by omega
   have hI:=HI.out
   rw [List.drop_eq_nil_of_le (by rw [HN.out];exact Nat.le_refl _),sizeLs] at hI
   obtain rfl:=hI
   clear HI HM
   go_wp2_with fail
   go_ret
   exact ⟨rfl,HB1.out.trans (HB.out.mono HB1.out.size)⟩
end Go.Proofs.YtmclaaonlhnbmaaGreatDoor.J
namespace Go.Proofs.YtmclaaonlhnbmaaGreatDoor.J
open Go.RowKit
open Go.Lib hiding intOf
open U S T
theorem set_five {W:World} {b:Nat} {t:TypeId} {u0 u1 u2 u3 u4:Value} (v0 v1 v2 v3 v4:Value) (h:W.heap[b]?=some (.cells #[u0,u1,u2,u3,u4] t (0,0))) :
  ∃ W',((((W.setCell ⟨b,0,none⟩ v0).setCell ⟨b,1,none⟩ v1).setCell ⟨b,2,none⟩ v2).setCell ⟨b,3,none⟩ v3).setCell ⟨b,4,none⟩ v4=W'∧W'.heap[b]?=some (.cells #[v0,v1,v2,v3,v4] t (0,0))∧(∀ k,k≠b→W'.heap[k]?=W.heap[k]?)∧∀ B,B≤b→Below B W W':=by
 have s0:(W.setCell ⟨b,0,none⟩ v0).heap[b]?=some (.cells #[v0,u1,u2,u3,u4] t (0,0)):=Go.Joins.block_setCell h v0
 have s1:((W.setCell ⟨b,0,none⟩ v0).setCell ⟨b,1,none⟩ v1).heap[b]?=some (.cells #[v0,v1,u2,u3,u4] t (0,0)):=Go.Joins.block_setCell s0 v1
 have s2:(((W.setCell ⟨b,0,none⟩ v0).setCell ⟨b,1,none⟩ v1).setCell ⟨b,2,none⟩ v2).heap[b]?=some (.cells #[v0,v1,v2,u3,u4] t (0,0)):=Go.Joins.block_setCell s1 v2
 have s3:((((W.setCell ⟨b,0,none⟩ v0).setCell ⟨b,1,none⟩ v1).setCell ⟨b,2,none⟩ v2).setCell ⟨b,3,none⟩ v3).heap[b]?=some (.cells #[v0,v1,v2,v3,u4] t (0,0)):=Go.Joins.block_setCell s2 v3
 have s4:(((((W.setCell ⟨b,0,none⟩ v0).setCell ⟨b,1,none⟩ v1).setCell ⟨b,2,none⟩ v2).setCell ⟨b,3,none⟩ v3).setCell ⟨b,4,none⟩ v4).heap[b]?=some (.cells #[v0,v1,v2,v3,v4] t (0,0)):=Go.Joins.block_setCell s3 v4
 have oth:∀ k,k≠b→(((((W.setCell ⟨b,0,none⟩ v0).setCell ⟨b,1,none⟩ v1).setCell ⟨b,2,none⟩ v2).setCell ⟨b,3,none⟩ v3).setCell ⟨b,4,none⟩ v4).heap[k]?=W.heap[k]?:=fun k hk =>
  (Below.heap_setCell _ _ _ _ hk).trans ((Below.heap_setCell _ _ _ _ hk).trans ((Below.heap_setCell _ _ _ _ hk).trans ((Below.heap_setCell _ _ _ _ hk).trans (Below.heap_setCell _ _ _ _ hk))))
 have b1:∀ B,B≤b→∀ (X:World) (j:Nat) (v:Value),Below B X (X.setCell ⟨b,j,none⟩ v):=fun B hB X j v=>⟨rfl,rfl,rfl,by simp,fun k hk=>Below.heap_setCell _ _ _ _ (by show k≠b;omega)⟩
 exact ⟨_,rfl,s4,oth,fun B hB=>((((b1 B hB _ _ _).trans (b1 B hB _ _ _)).trans (b1 B hB _ _ _)).trans (b1 B hB _ _ _)).trans (b1 B hB _ _ _)⟩
set_option maxHeartbeats 4000000 in
set_option maxRecDepth 20000 in
theorem clone_own {w:World} {a:Option Addr} {n c:Nat} {xs:List Value} (hc:n=0∨∃ g off,a=some ⟨g,off,none⟩∧CellsAt w g off xs) (hl:xs.length=n*5) (hone:∀ u∈xs,u.oneCell'=true) (hw:n≤1099511627776) :
  Calls Tryz.prog 32 #[.slice a n c] w fun e w'=>∃ v',e=.returned v'∧w'.ownsRow w.heap.size 25 5 v' n xs∧Below w.heap.size w w':=by
 obtain ⟨iP,hi0,hz0,hz1,hz2⟩:=info_parts infoP
 have q22:∀ (w:World) (a:Option Addr) (n c n' c':Nat),(binOp .eql 23 (.slice a n c) (.slice none n' c')).run Tryz.prog w=.ok (.bool a.isNone) w:=fun w a n c n' c'=>Lib.run_eql_slice_nil w _ _ a n c n' c' Tryz.underlying23
 have HC:=hid hc
 have HL:=hid hl
 have HO:=hid hone
 clear hc hl hone
 cases a with
 | none =>
  have h0:n=0:=by
   rcases HC.out with h|⟨g,off,h,_⟩
   ·exact h
   ·cases h
  subst h0
  have hx:xs=[]:=List.eq_nil_of_length_eq_zero (by have:=HL.out;omega)
  subst hx
  go_enter Tryz.func32,Tryz.ntmps32
  go_wp2_with fail
  go_ret
  exact ⟨_,rfl,World.ownsRow_nil _ _ _ _,Below.refl _ _⟩
 | some ad =>
  go_enter Tryz.func32,Tryz.ntmps32
  have hcb:∀ X,Below w.heap.size w X→(n=0∨∃ g off,some ad=some ⟨g,off,none⟩∧CellsAt X g off xs):=fun X hX=>HC.out.imp id (fun ⟨g,off,h1,h2⟩=>⟨g,off,h1,fun j u hj=>(hX.cell (World.block_lt_of_cell? w _ (h2 j u hj))).trans (h2 j u hj)⟩)
  have HCB:=hid hcb
  clear hcb
  go_wp2_with (at_builtin;refine wpList_append_row rfl _ _ 23 rfl w.heap.size 25 iP _ 5 72 Tryz.underlying23 hi0 hz0 hz1 hz2 rfl (by decide) _ 0 [] rfl (World.ownsRow_made w #[] 0 (Nat.le_refl _) (Nat.zero_le _) rfl) _ n c xs rfl HL.out (HCB.out _ ((Below.refl _ _).alloc (Nat.le_refl _) _)) HO.out (by unfold maxLen;omega) (by omega) (by simp) ?_)
  intro v' w1 hown hgrow _
  have hb:Below w.heap.size w w1:=((Below.refl _ w).alloc (Nat.le_refl _) (.cells #[] 25)).grown hgrow (by simp) (by intro k hk;simp [Value.ownBlock] at hk;omega)
  have HOwn:Hid (w1.ownsRow w.heap.size 25 5 v' n xs):=hid (by simpa using hown)
  have HB:=hid hb
  clear hown hgrow hb
  go_wp2_with fail
  go_ret
  exact ⟨v',rfl,HOwn.out,HB.out⟩
def moved (f e x by':Int):Int:=if f=0∧e=0 then x else wrap64 (x+by')
mutual
def shiftP (by':Int):Pt→Pt
 | .mk k t f e ks=>.mk k t (moved f e f by') (moved f e e by') (shiftL by' ks)
def shiftL (by':Int):List Pt→List Pt
 | []=>[]
 | p :: r=>shiftP by' p :: shiftL by' r
end
theorem shiftL_map (b:Int):∀ l,shiftL b l=l.map (shiftP b)
 | []=>rfl
 | p :: r=>by rw [shiftL,shiftL_map b r];rfl
theorem shiftL_length (b:Int) (l:List Pt):(shiftL b l).length=l.length:=by rw [shiftL_map,List.length_map]
theorem shiftL_snoc (b:Int) (l:List Pt) (p:Pt):shiftL b (l++[p])=shiftL b l++[shiftP b p]:=by rw [shiftL_map,shiftL_map,List.map_append];rfl
theorem shiftL_take_succ (b:Int) {l:List Pt} {i:Nat} (h:i<l.length):shiftL b (l.take (i+1))=shiftL b (l.take i)++[shiftP b l[i]]:=by
 rw [List.take_succ_eq_append_getElem h,shiftL_snoc]
end Go.Proofs.YtmclaaonlhnbmaaGreatDoor.J
namespace Go.Proofs.YtmclaaonlhnbmaaGreatDoor.J
open Go.RowKit
open Go.Lib hiding intOf
open U S T
theorem two_new (w:World) (o1 o2:Obj):∃ w1,(w.alloc o1).alloc o2=w1∧w1.heap[w.heap.size]?=some o1∧w1.heap[w.heap.size+1]?=some o2∧Below w.heap.size w w1∧w.heap.size+1<w1.heap.size:=by
 have s1:(w.alloc o1).heap.size=w.heap.size+1:=by simp
 refine ⟨_,rfl,?_,?_,((Below.refl _ _).alloc (Nat.le_refl _) _).alloc (by omega) _,by simp⟩
 ·rw [Below.heap_alloc _ _ _ (by omega)];exact heap_new w o1
 ·rw [← s1];exact heap_new _ o2
mutual
theorem deep_wt:∀ p,deep p≤wtP p
 | .mk k t f e ks=>by have:=deepL_wt ks;rw [deep,wtP];omega
theorem deepL_wt:∀ l,deepL l≤wtL l
 | []=>by rw [deepL];exact Nat.zero_le _
 | p :: r=>by have:=deep_wt p;have:=deepL_wt r;rw [deepL,wtL];omega
end
end Go.Proofs.YtmclaaonlhnbmaaGreatDoor.J
