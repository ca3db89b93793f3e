/- What the claim needs of the texts URd, UCopy, UApi, UJunk, ULive, UAlive, TRd, TRd2, TRd3, TPart, TFwd, TTyped, TFwd2, TLive, TExpr, TPrefix, TList, TGood, TBranch, TRecord, TFunc, TDecl, URDecls, ULDecls. -/
import Derived.Test.YtojoahlpgmnbnaaGreatDoorUFOp
import Derived.Test.YtojoahlpgmnbnaaGreatDoorUF14
import Derived.Test.YtojoahlpgmnbnaaGreatDoorUF1
import Derived.Test.YtojoahlpgmnbnaaGreatDoorUF12
import Derived.Maps.AppendAt
import Derived.ChangeKeysEq
import Derived.Test.YtojoahlpgmnbnaaGreatDoorUF11
import Derived.Test.YtojoahlpgmnbnaaGreatDoorUF13
import Derived.Deep.QuietTactic
import Derived.BigQuiet
import Derived.BigRegion
import Derived.Deep.DeepCutAuto
import Derived.Deep.RegionHeld3
import Derived.Laws.AppendOwn
import Derived.Laws.OwnMore
import Derived.OwnWalk
namespace Go.Proofs.YtojoahlpgmnbnaaGreatDoor.Ud
open Go.RowKit
open Go.Lib hiding intOf
open U S Q T J
open Go.Proofs.YtojoahlpgmnbnaaGreatDoor.K (zeroP NnL Nn MTab)
theorem dcs_off {B d:Nat} {W W':World} {l:List DcP} {v v0 v1 v2:Value} {t:TypeId} (hN:∀ d∈l,NnL (kidsP d.p)) (h:DcsIn B (fun _=>True) W l v) (hq:W.heap[d]?=some (.cells #[v0,v1,v2] t (0,0))) (ho:∀ k,k≠d→W'.heap[k]?=W.heap[k]?) (hs:W.heap.size≤W'.heap.size):DcsIn B (fun _=>True) W' l v:=by
 have far:∀ o u,W.cell? ⟨d,o,none⟩=some u→o<3:=fun o u h=>by
  rw [cell_cur hq] at h
  exact (Array.getElem?_eq_some_iff.1 h).1
 have hX:∀ b o (k t:By) (f e:Int) (ks:List Pt) (lv:Value),k≠[]→CellsAt W b o (five (.mk k t f e ks) lv)→CellsAt W' b o (five (.mk k t f e ks) lv):=by
  intro b o k t f e ks lv _ hc q u hq
  have hb:b≠d:=fun h=>by
   subst h
   have:=far _ _ (hc 4 _ rfl)
   omega
  have:=hc q u hq
  unfold World.cell? at this ⊢
  rw [ho b hb]
  exact this
 obtain ⟨a,c,h1,h2,h3⟩:=h
 refine ⟨a,c,h1,h2,h3.imp id ?_⟩
 rintro ⟨g,off,e1,e2,e3,e4⟩
 refine ⟨g,off,e1,e2,Nat.lt_of_lt_of_le e3 hs,fun i hi=>?_⟩
 obtain ⟨lv,k1,k2⟩:=e4 i hi
 have hg:g≠d:=fun h=>by
  subst h
  have:=far _ _ (k1 9 _ (ten_9 _ _))
  omega
 refine ⟨lv,fun q u hq=>?_,kids_cells hX _ _ (hN _ (List.getElem_mem hi)) k2⟩
 have:=k1 q u hq
 unfold World.cell? at this ⊢
 rw [ho g hg]
 exact this
set_option maxHeartbeats 8000000 in
set_option maxRecDepth 20000 in
theorem read_any (s:ByteArray) (w:World) (OL:List DcP) (v':Value) (hs:s.size≤600) (hT:Tabs w) (hG:MTab w) (hv':DcsIn 0 (fun _=>True) w OL v') (holen:OL.length≤1000000) (hO:Okd OL) :
  Calls Tryz.prog 23 #[.string s,v'] w fun e w'=>∃ d,e=.returned (ptrU d)∧Un w.heap.size w' d s (keptN (txs (decls s)) (txs OL))∧Below w.heap.size w w':=by
 have cD:=declared_any s w (by omega) hT
 have hD:=okd_decls s hs
 have hdb:=decls_bound s
 have HT:=hid hT
 have HG:=hid hG
 have HV':=hid hv'
 have HUn:Hid (∀ (W:World) (d:Nat) (v:Value) (k:Int),w.heap.size≤d→W.heap[d]?=some (.cells #[v,.string s,.int .i64 k] 58 (0,0))→k=(keptN (txs (decls s)) (txs OL):Nat)→DcsIn w.heap.size (fun _=>True) W (decls s) v→Un w.heap.size W d s (keptN (txs (decls s)) (txs OL))):=hid (fun W d v k h1 h2 h3 h4=>by
  subst h3
  exact ⟨h1,v,h2,h4.weak (Nat.zero_le _) (fun _ h=>h)⟩)
 obtain ⟨D,hDD⟩:∃ D,decls s=D:=⟨_,rfl⟩
 rw [hDD] at cD hD hdb HUn ⊢
 have hle:=kept_le (txs D) (txs OL)
 have hkk:keptN (txs D) (txs OL)=headN (txs D) (txs OL)+tailN (txs D) (txs OL):=rfl
 obtain ⟨K,hK⟩:∃ K,keptN (txs D) (txs OL)=K:=⟨_,rfl⟩
 rw [hK] at hkk HUn ⊢
 obtain ⟨n,hn⟩:∃ n,D.length=n:=⟨_,rfl⟩
 obtain ⟨on,hon⟩:∃ n,OL.length=n:=⟨_,rfl⟩
 obtain ⟨hd,hhd⟩:∃ n,headN (txs D) (txs OL)=n:=⟨_,rfl⟩
 obtain ⟨tl,htl⟩:∃ n,tailN (txs D) (txs OL)=n:=⟨_,rfl⟩
 obtain ⟨rs,hrs⟩:∃ r,n - tl=r:=⟨_,rfl⟩
 rw [txs_len,txs_len,hn,hon,hhd,htl] at hle
 rw [hhd,htl] at hkk
 have HD:=hid hD
 have HOK:=hid hO
 have HE:=hid (And.intro hn (And.intro hon (And.intro hhd (And.intro htl hrs))))
 rw [hn] at cD hdb
 rw [hon] at holen
 obtain ⟨oa,oc,rfl⟩:=dcs_form hv'
 rw [hon] at HV' ⊢
 have hvs:=hv'
 clear hT hG hv' hD hO hDD hK hn hon hhd htl hvs
 go_enter Tryz.func23,Tryz.ntmps23
 go_wp2_with fail
 refine cD.mono ?_
 rintro e w1 ⟨v,rfl,hown,hb1⟩
 obtain ⟨a,c,rfl⟩:=owns_len hown
 have hnc:n≤c:=by
  rcases hown.2 with ⟨h,h0⟩|⟨_,_,_,h,_,_,h2,_⟩
  ·omega
  ·cases h;exact h2
 obtain ⟨W2,hW2,hq2,hb2,hz2⟩:=new_block w1 (.cells #[.slice a n c,.string s,.int .i64 0] 58)
 have hst:D=[]∨∃ g c2,Value.slice a n c=.slice (some ⟨g,0,none⟩) n c2∧St w.heap.size D 0 g c2 W2∧w1.heap.size≠g:=by
  rcases Nat.eq_zero_or_pos n with h0|h0
  ·left
   exact List.length_eq_zero_iff.1 (HE.out.1.trans h0)
  ·right
   obtain ⟨g,c2,h1,_,_,h4⟩:=row_some hown h0
   simp only [Value.slice.injEq] at h1
   obtain ⟨rfl,_,rfl⟩:=h1
   exact ⟨g,c,rfl,(st_of hown HE.out.1).later hb2,by omega⟩
 have HB2:=hid (hb1.trans (hb2.mono hb1.size))
 have hnil:D=[]→DcsIn w.heap.size (fun _=>True) w [] (.slice a n c):=fun h=>⟨a,c,by rw [← HE.out.1,h],Nat.zero_le _,.inl rfl⟩
 obtain ⟨v1,v2,v3,v4,F⟩:=fill_any w D OL a c n hd tl rs on (.slice oa on oc) HD.out HOK.out (by rw [HE.out.1];omega) (by rw [HE.out.2.1];exact holen) HT.out HG.out HV'.out HE.out.1 HE.out.2.1 HE.out.2.2.1 HE.out.2.2.2.1 HE.out.2.2.2.2 hnc hnil
 have htx:TxAt W2 (.slice a n c) (txs D):=by
  rcases hst with h0|⟨g,c2,h1,h2,_⟩
  ·exact ⟨a,c,by rw [txs_len,HE.out.1],.inl (by rw [h0];rfl)⟩
  ·refine ⟨a,c,by rw [txs_len,HE.out.1],.inr ⟨g,0,?_,fun i hi=>?_⟩⟩
   ·cases h1;rfl
   ·have hi2:i<D.length:=by rw [← txs_len];exact hi
    obtain ⟨_,cur,e1,_,_,_,e5⟩:=h2
    have e6:(txs D)[i]=D[i].tx:=List.getElem_map _
    rw [e6,Nat.zero_add,cell_cur e1]
    exact e5 i hi2 (Nat.zero_le _) 2 _ rfl
 have cS:=shared_any W2 (txs D) (txs OL) _ _ htx (dcs_tx (HV'.out.later HB2.out)) (by rw [txs_len,HE.out.1];omega) (by rw [txs_len,HE.out.2.1];exact holen)
 rw [HE.out.2.2.1,HE.out.2.2.2.1] at cS
 obtain ⟨d,hd'⟩:∃ d,w1.heap.size=d:=⟨_,rfl⟩
 have hdw:w.heap.size≤d:=by rw [← hd'];exact hb1.size
 rw [hd'] at hst hq2 hz2
 obtain ⟨⟨k0,k1,k2⟩,kf⟩:=cells_three hq2
 have HQ2:=hid hq2
 have HST:=hid hst
 have HF:=hid F
 clear cD hown hb1 hb2 hnil htx hq2 hst F
 go_wp2_with fail
 refine cS.mono ?_
 rintro e w3 ⟨rfl,hb3⟩
 have hq3:=(hb3.block d hz2).trans HQ2.out
 have HB3:=hid (HB2.out.trans (hb3.mono HB2.out.size))
 have HC:=hid (HF.out.fill w3 d (HST.out.imp id (by
  rintro ⟨g,c2,h1,h2,h3⟩
  exact ⟨g,c2,h1,h2.later hb3,h3⟩)) HB3.out (Nat.lt_of_lt_of_le hz2 hb3.size))
 have c1:=HC.out
 have s1:=HF.out.s1
 have hsub:((n:Int) - (tl:Int))=(rs:Int):=by omega
 obtain ⟨⟨k0,k1,k2⟩,kf⟩:=cells_three hq3
 have HQ3:=hid hq3
 clear cS hb3 hq3 HST
 go_wp2_with fail
 refine c1.mono ?_
 rintro e w4 ⟨rfl,hb4,hq4,hz4,c2⟩
 have hq4:=hq4.trans HQ3.out
 have s2:=HF.out.s2
 obtain ⟨⟨k0,k1,k2⟩,kf⟩:=cells_three hq4
 have HQ4:=hid hq4
 clear c1 s1 hb4 hq4 HC hz4
 go_wp2_with fail
 refine c2.mono ?_
 rintro e w5 ⟨rfl,hb5,hq5,hz5,c3⟩
 have hq5:=hq5.trans HQ4.out
 have s3:=HF.out.s3
 have s4:=HF.out.s4
 have HC3:=hid c3
 have HQ5:=hid hq5
 clear c2 s2 k0 k1 k2 kf hb5 hz5
 have k0:=(cells_three hq5).1.1
 go_upto_region 6 with fail
 refine wp_region_held_drew (S:=fun X=>X.cell? ⟨d,0,none⟩=some (.slice a n c)) (by kernel_rfl) k0 (fun hHeld=>?_)
 have hb6:Below w5.heap.size w5 w5.drew:=(Below.refl w5.heap.size w5).drew
 have c4:=HC3.out _ hb6
 have hq6:w5.drew.heap[d]?=_:=hq5
 obtain ⟨V,hV⟩:∃ V,w5.drew=V:=⟨_,rfl⟩
 rw [hV] at hHeld c4 hq6 ⊢
 clear hV hb6 hq5 k0 HC3
 have HQ6:=hid hq6
 have hsub2:((on:Int) - (tl:Int))=((on - tl:Nat):Int):=by omega
 have hwr:IntKind.i64.wrap ((on - tl:Nat):Int)=((on - tl:Nat):Int):=by rw [IntKind.wrap_i64];omega
 clear hq6
 refine wpAnyH_take (i:=0) (oi:=({ dst:=some 46,op:=Op.move (Operand.tmp 5),type:=23,pos := "unit.go:83",after:=#[],guard:=none }:Oper)) (v:=.pointer (some ⟨d,0,none⟩)) rfl (by kernel_rfl) (by kernel_rfl) (by kernel_rfl) (fun _ _ _ h=>h) (Or.inl ⟨by rfl,fun X hX=>rfl⟩) hHeld ?_
 (try simp only [Act.put,List.setIfInBounds_toArray,List.set_cons_zero,List.set_cons_succ])
 refine wpAnyH_take (i:=1) (oi:=({ dst:=some 47,op:=Op.nilCheck (Operand.tmp 46),type:=0,pos := "unit.go:83",after:=#[{ on:=0,ground:=Ground.data }],guard:=none }:Oper)) (v:=.pointer (some ⟨d,0,none⟩)) rfl (by kernel_rfl) (by kernel_rfl) (by kernel_rfl) (fun _ _ _ h=>h) (Or.inl ⟨by rfl,fun X hX=>by go_simp⟩) hHeld ?_
 (try simp only [Act.put,List.setIfInBounds_toArray,List.set_cons_zero,List.set_cons_succ])
 refine wpAnyH_take (i:=2) (oi:=({ dst:=some 48,op:=Op.fieldAddr 58 (Operand.tmp 47) 0,type:=0,pos := "unit.go:83",after:=#[{ on:=1,ground:=Ground.data }],guard:=none }:Oper)) (v:=.pointer (some ⟨d,0,none⟩)) rfl (by kernel_rfl) (by kernel_rfl) (by kernel_rfl) (fun _ _ _ h=>h) (Or.inl ⟨by rfl,fun X hX=>rfl⟩) hHeld ?_
 (try simp only [Act.put,List.setIfInBounds_toArray,List.set_cons_zero,List.set_cons_succ])
 refine wpAnyH_take (i:=3) (oi:=({ dst:=some 49,op:=Op.load 56 (Operand.tmp 48),type:=56,pos := "unit.go:83",after:=#[{ on:=2,ground:=Ground.data }],guard:=none }:Oper)) (v:=.slice a n c) rfl (by kernel_rfl) (by kernel_rfl) (by kernel_rfl) (fun _ _ _ h=>h) (Or.inl ⟨by rfl,fun X hX=>by have c0:X.cell? ⟨d,0,none⟩=some (.slice a n c):=hX;go_simp⟩) hHeld ?_
 (try simp only [Act.put,List.setIfInBounds_toArray,List.set_cons_zero,List.set_cons_succ])
 refine wpAnyH_take (i:=4) (oi:=({ dst:=some 50,op:=Op.move (Operand.tmp 8),type:=3,pos := "unit.go:83",after:=#[],guard:=none }:Oper)) (v:=.int .i64 rs) rfl (by kernel_rfl) (by kernel_rfl) (by kernel_rfl) (fun _ _ _ h=>h) (Or.inl ⟨by rfl,fun X hX=>rfl⟩) hHeld ?_
 (try simp only [Act.put,List.setIfInBounds_toArray,List.set_cons_zero,List.set_cons_succ])
 refine wpAnyH_take (i:=5) (oi:=({ dst:=some 51,op:=Op.slice 56 (Operand.tmp 49) (some (Operand.tmp 50)) none none,type:=56,pos := "unit.go:83",after:=#[{ on:=3,ground:=Ground.data },{ on:=4,ground:=Ground.data }],guard:=none }:Oper)) (v:=v3) rfl (by kernel_rfl) (by kernel_rfl) (by kernel_rfl) (fun _ _ _ h=>h) (Or.inl ⟨by rfl,fun X hX=>by go_simp⟩) hHeld ?_
 (try simp only [Act.put,List.setIfInBounds_toArray,List.set_cons_zero,List.set_cons_succ])
 refine wpAnyH_take (i:=6) (oi:=({ dst:=some 52,op:=Op.move (Operand.tmp 1),type:=56,pos := "unit.go:83",after:=#[],guard:=none }:Oper)) (v:=.slice oa on oc) rfl (by kernel_rfl) (by kernel_rfl) (by kernel_rfl) (fun _ _ _ h=>h) (Or.inl ⟨by rfl,fun X hX=>rfl⟩) hHeld ?_
 (try simp only [Act.put,List.setIfInBounds_toArray,List.set_cons_zero,List.set_cons_succ])
 refine wpAnyH_take (i:=7) (oi:=({ dst:=some 53,op:=Op.move (Operand.tmp 1),type:=56,pos := "unit.go:83",after:=#[],guard:=none }:Oper)) (v:=.slice oa on oc) rfl (by kernel_rfl) (by kernel_rfl) (by kernel_rfl) (fun _ _ _ h=>h) (Or.inl ⟨by rfl,fun X hX=>rfl⟩) hHeld ?_
 (try simp only [Act.put,List.setIfInBounds_toArray,List.set_cons_zero,List.set_cons_succ])
 refine wpAnyH_take (i:=8) (oi:=({ dst:=some 54,op:=Op.call { callee:=Callee.builtin Builtin.len,args:=#[Operand.tmp 53],argTypes:=#[56] },type:=3,pos := "unit.go:83",after:=#[{ on:=7,ground:=Ground.data }],guard:=none }:Oper)) (v:=.int .i64 on) rfl (by kernel_rfl) (by kernel_rfl) (by kernel_rfl) (fun _ _ _ h=>h) (Or.inl ⟨by rfl,fun X hX=>by go_simp⟩) hHeld ?_
 (try simp only [Act.put,List.setIfInBounds_toArray,List.set_cons_zero,List.set_cons_succ])
 refine wpAnyH_take (i:=9) (oi:=({ dst:=some 55,op:=Op.move (Operand.tmp 7),type:=3,pos := "unit.go:83",after:=#[],guard:=none }:Oper)) (v:=.int .i64 tl) rfl (by kernel_rfl) (by kernel_rfl) (by kernel_rfl) (fun _ _ _ h=>h) (Or.inl ⟨by rfl,fun X hX=>rfl⟩) hHeld ?_
 (try simp only [Act.put,List.setIfInBounds_toArray,List.set_cons_zero,List.set_cons_succ])
 refine wpAnyH_take (i:=10) (oi:=({ dst:=some 56,op:=Op.binOp BinOp.sub 3 (Operand.tmp 54) (Operand.tmp 55) 3,type:=3,pos := "unit.go:83",after:=#[{ on:=8,ground:=Ground.data },{ on:=9,ground:=Ground.data }],guard:=none }:Oper)) (v:=.int .i64 ((on - tl:Nat):Int)) rfl (by kernel_rfl) (by kernel_rfl) (by kernel_rfl) (fun _ _ _ h=>h) (Or.inl ⟨by rfl,fun X hX=>by go_simp⟩) hHeld ?_
 (try simp only [Act.put,List.setIfInBounds_toArray,List.set_cons_zero,List.set_cons_succ])
 refine wpAnyH_take (i:=11) (oi:=({ dst:=some 57,op:=Op.slice 56 (Operand.tmp 52) (some (Operand.tmp 56)) none none,type:=56,pos := "unit.go:83",after:=#[{ on:=6,ground:=Ground.data },{ on:=10,ground:=Ground.data }],guard:=none }:Oper)) (v:=v4) rfl (by kernel_rfl) (by kernel_rfl) (by kernel_rfl) (fun _ _ _ h=>h) (Or.inl ⟨by rfl,fun X hX=>by go_simp⟩) hHeld ?_
 (try simp only [Act.put,List.setIfInBounds_toArray,List.set_cons_zero,List.set_cons_succ])
 refine wpAnyH_ready (rs:=[12]) (by kernel_rfl) (by simp) ?_
 refine (AllReadyH.cons (o:=({ dst:=some 58,op:=Op.call { callee:=Callee.value (Operand.func 35),args:=#[Operand.tmp 51,Operand.tmp 57],argTypes:=#[56,56] },type:=0,pos := "unit.go:83",after:=#[{ on:=5,ground:=Ground.data },{ on:=11,ground:=Ground.data }],guard:=none }:Oper)) rfl (fun K hK=>?_) AllReadyH.nil)
 refine wanted_step (by kernel_rfl) ?_
 go_simp
 go_at_call 35
 refine c4.mono ?_
 rintro e w7 ⟨rfl,hb7,hq7,hz7,hdc⟩
 have hq7:=hq7.trans HQ5.out
 dsimp only
 refine hK.out _ _ ((cells_three hq7).1.1) (fun hHeld=>?_)
 (try simp only [Act.put,List.setIfInBounds_toArray,List.set_cons_zero,List.set_cons_succ])
 clear hK K
 refine wpAnyH_done (by kernel_rfl) ?_ _
 clear hHeld c4 HQ6 s3 s4 c3
 obtain ⟨W8,hW8,hq8,ho8,hb8⟩:=set_third (.int .i64 K) hq7
 obtain ⟨⟨k0,k1,k2⟩,kf⟩:=cells_three hq7
 have hKb:K≤1000000:=by omega
 have hadd:((hd:Int)+(tl:Int))=(K:Int):=by omega
 have hB8:=hb7.trans (hb8 w.heap.size hdw)
 have hdc8:DcsIn w.heap.size (fun _=>True) W8 D (.slice a n c):=dcs_off (okd_nn HD.out) hdc hq7 ho8 (hb8 0 (Nat.zero_le _)).size
 have HU:=hid (HUn.out W8 d _ _ hdw hq8 rfl hdc8)
 have HB8:=hid hB8
 clear hq7 hq8 ho8 hb8 hB8 hdc hdc8 hb7 HUn HF hkk hsub hsub2 hwr hle
 go_wp2_with fail
 go_ret
 exact ⟨d,rfl,HU.out,HB8.out⟩
end Go.Proofs.YtojoahlpgmnbnaaGreatDoor.Ud
namespace Go.Proofs.YtojoahlpgmnbnaaGreatDoor.Ud
open Go.RowKit
open Go.Lib hiding intOf
open U S Q T J
open Go.Proofs.YtojoahlpgmnbnaaGreatDoor.K (zeroP NnL Nn MTab)
def rowsV:List (DcP × Value)→List Value
 | []=>[]
 | d :: r=>ten d.1 d.2++rowsV r
theorem rowsV_length:∀ l:List (DcP × Value),(rowsV l).length=l.length*10
 | []=>rfl
 | d :: r=>by rw [rowsV,List.length_append,ten_length,rowsV_length r,List.length_cons];omega
theorem rowsV_at:∀ (l:List (DcP × Value)) (i j:Nat) (hi:i<l.length),j<10→(rowsV l)[i*10+j]?=(ten l[i].1 l[i].2)[j]?
 | d :: r,0,j,_,hj=>by
  rw [rowsV,List.getElem?_append_left (by rw [ten_length];omega),Nat.zero_mul,Nat.zero_add];rfl
 | d :: r,i+1,j,hi,hj=>by
  have hl:=ten_length d.1 d.2
  rw [rowsV,List.getElem?_append_right (by rw [hl];omega),hl,show (i+1)*10+j - 10=i*10+j by omega]
  exact rowsV_at r i j (by simpa using hi) hj
theorem kids_one {W:World} {R:Nat→Prop} {p:Pt} {lv:Value} (h:KidsIn W R p lv):lv.oneCell'=true:=by
 obtain ⟨k,t,f,e,ks⟩:=p
 obtain ⟨a,c,rfl,_⟩:=h
 rfl
theorem rowsV_of {W:World} {R:Nat→Prop} {g:Nat}:∀ (D:List DcP) (off:Nat),(∀ i (hi:i<D.length),DcAt W R g (off+i*10) D[i]) →
  ∃ L:List (DcP × Value),L.map (·.1)=D∧(∀ x∈L,KidsIn W R x.1.p x.2)∧CellsAt W g off (rowsV L)
 | [],_,_=>⟨[],rfl,fun x h=>absurd h (List.not_mem_nil),fun j u hj=>by rw [rowsV] at hj;simp at hj⟩
 | d :: D,off,h=>by
  obtain ⟨lv,h1,h2⟩:=h 0 (by simp)
  obtain ⟨L,e1,e2,e3⟩:=rowsV_of D (off+10) (fun i hi=>by
   have:=h (i+1) (by simpa using hi)
   rw [show off+10+i*10=off+(i+1)*10 by omega]
   exact this)
  rw [Nat.zero_mul,Nat.add_zero] at h1
  refine ⟨(d,lv) :: L,by rw [List.map_cons,e1],?_,?_⟩
  ·intro x hx
   rcases List.mem_cons.1 hx with rfl|hx
   ·exact h2
   ·exact e2 x hx
  ·intro j u hj
   rw [rowsV] at hj
   have hl:=ten_length d lv
   by_cases hj10:j<10
   ·rw [List.getElem?_append_left (by rw [hl];omega)] at hj
    exact h1 j u hj
   ·rw [List.getElem?_append_right (by rw [hl];omega),hl] at hj
    have:=e3 (j - 10) u hj
    rw [show off+10+(j - 10)=off+j by omega] at this
    exact this
set_option maxHeartbeats 4000000 in
set_option maxRecDepth 20000 in
theorem dclone_own {w:World} {a:Option Addr} {n c:Nat} {xs:List Value} (hc:n=0∨∃ g off,a=some ⟨g,off,none⟩∧CellsAt w g off xs) (hl:xs.length=n*10) (hone:∀ u∈xs,u.oneCell'=true) (hw:n≤1000000) :
  Calls Tryz.prog 37 #[.slice a n c] w fun e w'=>∃ v',e=.returned v'∧w'.ownsRow w.heap.size 52 10 v' n xs∧Below w.heap.size w w':=by
 obtain ⟨iP,hi0,hz0,hz1,hz2⟩:=info_parts infoD
 have q22:∀ (w:World) (a:Option Addr) (n c n' c':Nat),(binOp .eql 56 (.slice a n c) (.slice none n' c')).run Tryz.prog w=.ok (.bool a.isNone) w:=fun w a n c n' c'=>Lib.run_eql_slice_nil w _ _ a n c n' c' Tryz.underlying56
 have HC:=hid hc
 have HL:=hid hl
 have HO:=hid hone
 clear hc hl hone
 cases a with
 | none =>
  have h0:n=0:=by
   rcases HC.out with h|⟨g,off,h,_⟩
   ·exact h
   ·cases h
  subst h0
  have hx:xs=[]:=List.eq_nil_of_length_eq_zero (by have:=HL.out;omega)
  subst hx
  go_enter Tryz.func37,Tryz.ntmps37
  go_wp2_with fail
  go_ret
  exact ⟨_,rfl,World.ownsRow_nil _ _ _ _,Below.refl _ _⟩
 | some ad =>
  go_enter Tryz.func37,Tryz.ntmps37
  have hcb:∀ X,Below w.heap.size w X→(n=0∨∃ g off,some ad=some ⟨g,off,none⟩∧CellsAt X g off xs):=fun X hX=>HC.out.imp id (fun ⟨g,off,h1,h2⟩=>⟨g,off,h1,fun j u hj=>(hX.cell (World.block_lt_of_cell? w _ (h2 j u hj))).trans (h2 j u hj)⟩)
  have HCB:=hid hcb
  clear hcb
  go_wp2_with (at_builtin;refine wpList_append_row rfl _ _ 56 rfl w.heap.size 52 iP _ 10 120 Tryz.underlying56 hi0 hz0 hz1 hz2 rfl (by decide) _ 0 [] rfl (World.ownsRow_made w #[] 0 (Nat.le_refl _) (Nat.zero_le _) rfl) _ n c xs rfl HL.out (HCB.out _ ((Below.refl _ _).alloc (Nat.le_refl _) _)) HO.out (by unfold maxLen;omega) (by omega) (by simp) ?_)
  intro v' w1 hown hgrow _
  have hb:Below w.heap.size w w1:=((Below.refl _ w).alloc (Nat.le_refl _) (.cells #[] 52)).grown hgrow (by simp) (by intro k hk;simp [Value.ownBlock] at hk;omega)
  have HOwn:Hid (w1.ownsRow w.heap.size 52 10 v' n xs):=hid (by simpa using hown)
  have HB:=hid hb
  clear hown hgrow hb
  go_wp2_with fail
  go_ret
  exact ⟨v',rfl,HOwn.out,HB.out⟩
def Fz (W:World) (lv:Value):Prop:=∀ (ad:Addr) (n c:Nat),lv=.slice (some ad) n c→0<n→∃ cur:Array Value,W.heap[ad.block]?=some (.cells cur 49 (0,0))
theorem Fz.later {W W':World} {lv:Value} (h:Fz W lv) (ho:∀ ad n c,lv=.slice (some ad) n c→0<n→W'.heap[ad.block]?=W.heap[ad.block]?):Fz W' lv:=fun ad n c h1 h2=>by
 obtain ⟨cur,h3⟩:=h ad n c h1 h2
 exact ⟨cur,(ho ad n c h1 h2).trans h3⟩
theorem Fz.below {W W':World} {lv:Value} (h:Fz W lv) (hb:Below W.heap.size W W'):Fz W' lv:=fun ad n c h1 h2=>by
 obtain ⟨cur,h3⟩:=h ad n c h1 h2
 exact ⟨cur,(hb.block _ (Array.getElem?_eq_some_iff.1 h3).1).trans h3⟩
structure Cp (H:Nat) (L:List (DcP × Value)) (j g cap:Nat) (W:World):Prop where
 ge:H≤g
 row:∃ cur:Array Value,W.heap[g]?=some (.cells cur 52 (0,0))∧cur.size=cap*10∧L.length≤cap ∧
  (∀ i (hi:i<L.length),i<j→∃ lv,(∀ q u,(ten L[i].1 lv)[q]?=some u→cur[i*10+q]?=some u)∧KidsIn W (fun k=>H≤k∧k≠g) L[i].1.p lv∧Fz W lv) ∧
  (∀ i (hi:i<L.length),j≤i→∀ q u,(ten L[i].1 L[i].2)[q]?=some u→cur[i*10+q]?=some u)
theorem Cp.lt {H:Nat} {L:List (DcP × Value)} {j g cap:Nat} {W:World} (h:Cp H L j g cap W):g<W.heap.size:=by
 obtain ⟨cur,h1,_⟩:=h.row
 exact (Array.getElem?_eq_some_iff.1 h1).1
theorem Cp.later {H:Nat} {L:List (DcP × Value)} {j g cap:Nat} {W W':World} (h:Cp H L j g cap W) (hb:Below W.heap.size W W'):Cp H L j g cap W':=by
 have hl:=h.lt
 obtain ⟨ge,cur,h1,h2,h3,h4,h5⟩:=h
 refine ⟨ge,cur,(hb.block _ hl).trans h1,h2,h3,fun i hi hij=>?_,h5⟩
 obtain ⟨lv,e1,e2,e3⟩:=h4 i hi hij
 exact ⟨lv,e1,kids_below e2 hb,e3.below hb⟩
theorem kids_at {W:World} {R:Nat→Prop} {p:Pt} {lv:Value} (h:KidsIn W R p lv):∀ ad n c,lv=.slice (some ad) n c→0<n→R ad.block:=by
 obtain ⟨k,t,f,e,ks⟩:=p
 obtain ⟨a,c,rfl,_,h2⟩:=h
 intro ad n c' h3 h4
 simp only [Value.slice.injEq] at h3
 obtain ⟨rfl,rfl,rfl⟩:=h3
 rcases h2 with rfl|⟨g,off,xs,e1,e2,_⟩
 ·simp at h4
 ·cases e1;exact e2
theorem Cp.cells {H:Nat} {L:List (DcP × Value)} {j g cap o:Nat} {W:World} (h:Cp H L j g cap W) (hj:j<L.length) (ho:j*10=o):∃ cur,W.heap[g]?=some (.cells cur 52 (0,0))∧o+10≤cur.size ∧
  (∀ q u,(ten L[j].1 L[j].2)[q]?=some u→W.cell? ⟨g,o+q,none⟩=some u)∧∀ x,W.frozen? ⟨g,x,none⟩=false:=by
 obtain ⟨_,cur,h1,h2,h3,_,h5⟩:=h
 have hz:=h5 j hj (Nat.le_refl _)
 rw [ho] at hz
 refine ⟨cur,h1,?_,fun q u hq=>(cell_cur h1 _).trans (hz q u hq),frozen_cur h1⟩
 rw [h2]
 omega
theorem ten_part (d:DcP) (lv lv':Value) (q:Nat) (h:q<3∨8≤q):(ten d lv)[q]?=(ten d lv')[q]?:=by
 obtain ⟨f,e,tx,⟨k,t,pf,pe,ks⟩,x,r⟩:=d
 rcases q with _|_|_|_|_|_|_|_|q
 ·rfl
 ·rfl
 ·rfl
 ·omega
 ·omega
 ·omega
 ·omega
 ·omega
 ·rfl
theorem Cp.done {H:Nat} {L:List (DcP × Value)} {j g cap o:Nat} {W:World} (h:Cp H L j g cap W) (hj:j<L.length) (ho:j*10=o) {k t:By} {f e:Int} {ks:List Pt} {a:Option Addr} {c n:Nat} {kb tb:ByteArray} (hd:L[j].1.p=.mk k t f e ks) (hk:KidsIn W (fun b=>H≤b∧b≠g) (.mk k t f e ks) (.slice a n c)) (hf:Fz W (.slice a n c)) (hkb:bstr k=kb) (htb:bstr t=tb) :
  ∃ W',((((W.setCell ⟨g,o+3,none⟩ (.string kb)).setCell ⟨g,o+3+1,none⟩ (.string tb)).setCell ⟨g,o+3+2,none⟩ (.int .i64 f)).setCell ⟨g,o+3+3,none⟩ (.int .i64 e)).setCell ⟨g,o+3+4,none⟩ (.slice a n c)=W'∧Cp H L (j+1) g cap W'∧Below H W W':=by
 obtain ⟨cur,h1,h2,_,_⟩:=h.cells hj ho
 obtain ⟨W',cur',e1,e2,e3,e4,e5,e6,e7⟩:=set5_at (o:=o+3) (.string kb) (.string tb) (.int .i64 f) (.int .i64 e) (.slice a n c) h1 (by omega)
 refine ⟨W',e1,?_,e7 H h.ge⟩
 obtain ⟨ge,cur0,g1,g2,g3,g4,g5⟩:=h
 rw [h1] at g1
 cases g1
 have keepK:∀ {p:Pt} {lv:Value},KidsIn W (fun b=>H≤b∧b≠g) p lv→KidsIn W' (fun b=>H≤b∧b≠g) p lv:=fun hk=>KidsIn.later (fun b hb _=>e6 b hb.2) (fun _ h=>h) _ _ hk
 have keepF:∀ {p:Pt} {lv:Value},KidsIn W (fun b=>H≤b∧b≠g) p lv→Fz W lv→Fz W' lv:=fun hk hf=>hf.later (fun ad n c x y=>e6 _ (kids_at hk ad n c x y).2)
 refine ⟨ge,cur',e2,by rw [e3];exact g2,g3,fun i hi hij=>?_,fun i hi hij q u hq=>?_⟩
 ·by_cases hi2:i<j
  ·obtain ⟨lv',x1,x2,x3⟩:=g4 i hi hi2
   refine ⟨lv',fun q u hq=>?_,keepK x2,keepF x2 x3⟩
   have hq10:=(List.getElem?_eq_some_iff.1 hq).1
   rw [ten_length] at hq10
   rw [e5 _ (by omega)]
   exact x1 q u hq
  ·obtain rfl:i=j:=by omega
   rw [hd]
   refine ⟨.slice a n c,fun q u hq=>?_,keepK hk,keepF hk hf⟩
   have hq10:=(List.getElem?_eq_some_iff.1 hq).1
   rw [ten_length] at hq10
   by_cases hqq:q<3∨8≤q
   ·rw [e5 _ (by omega)]
    refine g5 i hi (Nat.le_refl _) q u ?_
    rw [ten_part _ _ (.slice a n c) q hqq]
    exact hq
   ·rw [show i*10+q=o+3+(q - 3) by omega]
    refine e4 (q - 3) u ?_
    unfold ten at hq
    rw [hd,five,hkb,htb] at hq
    obtain ⟨q',rfl⟩:∃ z,q=z+3:=⟨q - 3,by omega⟩
    rw [Nat.add_sub_cancel]
    have hq5:q'<5:=by omega
    simp only [List.getElem?_cons_succ] at hq
    rw [List.getElem?_append_left (by simpa using hq5)] at hq
    exact hq
 ·have hq10:=(List.getElem?_eq_some_iff.1 hq).1
  rw [ten_length] at hq10
  rw [e5 _ (by omega)]
  exact g5 i hi (by omega) q u hq
end Go.Proofs.YtojoahlpgmnbnaaGreatDoor.Ud
namespace Go.Proofs.YtojoahlpgmnbnaaGreatDoor.Ud
open Go.RowKit
open Go.Lib hiding intOf
open U S Q T J
open Go.Proofs.YtojoahlpgmnbnaaGreatDoor.K (zeroP NnL Nn MTab declP wt_fate)
theorem wt_decl (t:ByteArray) (ht:t.size≤600):wtP (declT t).1≤100000000:=by
 unfold declT declP
 cases hf:K.fate (scanB (okB t) t.toList) with
 | bad j=>simp only;decide
 | part p =>
  have h:=wt_fate (by have e:=tl_len t;omega) hf
  simp only
  split
  ·decide
  ·exact h
theorem okd_part {D:List DcP} (h:Okd D):∀ d∈D,shiftP 0 d.p=d.p∧wtP d.p≤100000000:=fun d hd=>by
 have h1:=shift0_decl d.tx (by have:=(h d hd).2;omega)
 have h2:=wt_decl d.tx (h d hd).2
 rw [(h d hd).1] at h1 h2
 exact ⟨h1,h2⟩
def DcsOwn (H:Nat) (W:World) (D:List DcP) (v:Value):Prop:=∃ a c L,v=.slice a D.length c∧L.map (·.1)=D∧D.length≤c∧(D=[]∨∃ g,a=some ⟨g,0,none⟩∧Cp H L D.length g c W)
theorem DcsOwn.dcs {H:Nat} {W:World} {D:List DcP} {v:Value} (h:DcsOwn H W D v):DcsIn H (fun k=>H≤k) W D v:=by
 obtain ⟨a,c,L,h1,h2,h3,h4⟩:=h
 refine ⟨a,c,h1,h3,h4.imp id ?_⟩
 rintro ⟨g,e1,hC⟩
 have hl:=hC.lt
 obtain ⟨ge,cur,g1,g2,g3,g4,_⟩:=hC
 refine ⟨g,0,e1,ge,hl,fun i hi=>?_⟩
 have hiL:i<L.length:=by rw [← h2,List.length_map] at hi;exact hi
 obtain ⟨lv,x1,x2,_⟩:=g4 i hiL hi
 have e:L[i].1=D[i]:=by
  have:=List.getElem_map (l:=L) (f:=fun x:DcP × Value=>x.1) (i:=i) (h:=by rw [List.length_map];exact hiL)
  rw [← this]
  congr 1
 rw [e] at x1 x2
 exact ⟨lv,fun q u hq=>by rw [Nat.zero_add,cell_cur g1];exact x1 q u hq,KidsIn.later (fun _ _ _=>rfl) (fun k hk=>hk.1) _ _ x2⟩
set_option maxHeartbeats 4000000 in
set_option maxRecDepth 20000 in
theorem copied_any (w:World) (D:List DcP) (v:Value) (hv:DcsIn 0 (fun _=>True) w D v) (hlen:D.length≤1000000) (hp:∀ d∈D,shiftP 0 d.p=d.p∧wtP d.p≤100000000) :
  Calls Tryz.prog 25 #[v] w fun e w'=>∃ v',e=.returned v'∧DcsOwn w.heap.size w' D v'∧Below w.heap.size w w':=by
 obtain ⟨a,c,rfl,hc,hrow⟩:=hv
 have hR:∃ L:List (DcP × Value),L.map (·.1)=D∧(∀ x∈L,KidsIn w (fun k=>k<w.heap.size) x.1.p x.2)∧(D.length=0∨∃ g off,a=some ⟨g,off,none⟩∧CellsAt w g off (rowsV L)):=by
  rcases hrow with rfl|⟨g,off,rfl,_,_,h4⟩
  ·exact ⟨[],rfl,fun x h=>absurd h (List.not_mem_nil),.inl rfl⟩
  ·obtain ⟨L,e1,e2,e3⟩:=rowsV_of D off h4
   exact ⟨L,e1,fun x hx=>KidsIn.later (fun _ _ _=>rfl) (fun k hk=>hk.2) _ _ (kids_lt _ _ (e2 x hx)),.inr ⟨g,off,rfl,e3⟩⟩
 obtain ⟨L,hL,hK,hcl⟩:=hR
 have hLD:D.length=L.length:=by rw [← hL,List.length_map]
 have hone:∀ u∈rowsV L,u.oneCell'=true:=by
  clear hcl hLD hL
  induction L with
  | nil=>intro u hu;rw [rowsV] at hu;cases hu
  | cons x r ih =>
   intro u hu
   rw [rowsV] at hu
   rcases List.mem_append.1 hu with h|h
   ·exact one_ten _ _ (kids_one (hK x List.mem_cons_self)) u h
   ·exact ih (fun y hy=>hK y (List.mem_cons_of_mem _ hy)) u h
 obtain ⟨n,hn⟩:∃ n,D.length=n:=⟨_,rfl⟩
 rw [hn] at hcl hlen hLD ⊢
 have cC:=dclone_own (c:=c) hcl (by rw [rowsV_length,← hLD]) hone hlen
 have HL:=hid hL
 have HK:=hid hK
 have HP:=hid hp
 have HN:=hid (And.intro hn hLD)
 clear hrow hL hK hcl hone hp hn hLD hc
 go_enter Tryz.func25,Tryz.ntmps25
 go_wp2_with fail
 refine cC.mono ?_
 rintro e w1 ⟨v',rfl,hown,hb1⟩
 obtain ⟨a',c',rfl⟩:=owns_len hown
 have hst:n=0∨∃ g,a'=some ⟨g,0,none⟩∧Cp w.heap.size L 0 g c' w1:=by
  rcases Nat.eq_zero_or_pos n with h0|h0
  ·exact .inl h0
  ·right
   obtain ⟨g,c2,h1,_,_,_⟩:=row_some hown h0
   simp only [Value.slice.injEq] at h1
   obtain ⟨rfl,_,rfl⟩:=h1
   have hcell:=fun j hj=>hown.cellAt j hj
   rcases hown.2 with ⟨h',_⟩|⟨g',cap',cur,h',hB,hg,hnc,_,hsz,_⟩
   ·simp at h'
   ·simp only [Value.slice.injEq,Option.some.injEq,Addr.mk.injEq,and_true,true_and] at h'
    obtain ⟨rfl,rfl⟩:=h'
    refine ⟨_,rfl,hB,cur,hg,hsz,by rw [← HN.out.2];exact hnc,fun i _ h0=>absurd h0 (Nat.not_lt_zero _),fun i hi _ q u hq=>?_⟩
    have hq10:=(List.getElem?_eq_some_iff.1 hq).1
    rw [ten_length] at hq10
    have hin:i<n:=by rw [HN.out.2];exact hi
    rw [← cell_cur hg,hcell _ (by omega),rowsV_at L i q hi hq10]
    exact hq
 have hnc:n≤c':=by
  rcases hown.2 with ⟨h,h0⟩|⟨_,_,_,h,_,_,h2,_⟩
  ·omega
  ·cases h;exact h2
 have HS:=hid hst
 have HB1:=hid hb1
 clear cC hown hst hb1
 go_wp2_with fail
 go_loopw [9] (fun iv wr=>∃ i:Nat,iv=.int .i64 i∧i≤n∧Hid (n=0∨∃ g,a'=some ⟨g,0,none⟩∧Cp w.heap.size L i g c' wr)∧Hid (Below w.heap.size w wr)) (fun iv _=>n - (Go.RowKit.intOf iv).toNat)
 case atStart=>exact ⟨0,rfl,Nat.zero_le _,HS,HB1⟩
 case round =>
  obtain ⟨i,rfl,hi,HSr,HBr⟩:=hrel
  clear HS HB1
  by_cases hlt:i<n
  ·obtain ⟨g,rfl,hC⟩:=HSr.out.resolve_left (by omega)
   have hiL:i<L.length:=by rw [← HN.out.2];exact hlt
   obtain ⟨cur,_,_,hcl,cf⟩:=hC.cells hiL rfl
   have hmem:L[i].1∈D:=by rw [← HL.out];exact List.mem_map.2 ⟨_,List.getElem_mem hiL,rfl⟩
   have hpi:=HP.out _ hmem
   have hki:=HK.out _ (List.getElem_mem hiL)
   have HC:=hid hC
   obtain ⟨p,hpe⟩:∃ p,L[i].1.p=p:=⟨_,rfl⟩
   obtain ⟨lv,hlv⟩:∃ lv,L[i].2=lv:=⟨_,rfl⟩
   rw [hpe] at hpi hki
   rw [hlv] at hki
   obtain ⟨k,t,f,e,ks⟩:=p
   obtain ⟨pa,pc,rfl⟩:=kids_form hki
   have hten:∀ q u,(five (.mk k t f e ks) (.slice pa ks.length pc))[q]?=some u→wr.cell? ⟨g,i*10+3+q,none⟩=some u:=fun q u hq=>by
    have h5:=(List.getElem?_eq_some_iff.1 hq).1
    rw [five_length] at h5
    have:=hcl (q+3) u (by
     unfold ten
     rw [hpe,hlv]
     simp only [List.getElem?_cons_succ]
     rw [List.getElem?_append_left (by rw [five_length];exact h5)]
     exact hq)
    rw [show i*10+3+q=i*10+(q+3) by omega]
    exact this
   have cS:=shift_own (.mk k t f e ks) (.slice pa ks.length pc) (fun k=>k<w.heap.size) wr 0 (KidsIn.later (fun b hb _=>HBr.out.block b hb) (fun _ h=>h) _ _ hki) (by omega)
   rw [hpi.1] at cS
   have c3:=hten 0 _ rfl
   have c4:=hten 1 _ rfl
   have c5:=hten 2 _ rfl
   have c6:=hten 3 _ rfl
   have c7:=hten 4 _ rfl
   rw [Nat.add_zero] at c3
   simp only [arg,five] at cS
   have HPE:=hid hpe
   obtain ⟨kb,hkb⟩:∃ z,bstr k=z:=⟨_,rfl⟩
   obtain ⟨tb,htb⟩:∃ z,bstr t=z:=⟨_,rfl⟩
   obtain ⟨m,hm⟩:∃ z,ks.length=z:=⟨_,rfl⟩
   rw [hkb] at cS c3
   rw [htb] at cS c4
   rw [hm] at cS c7
   have HY:=hid (And.intro hkb (And.intro htb hm))
   clear hC hcl hmem hpi hki hten cf hpe hlv hkb htb hm
   go_wp2_with fail
   refine cS.mono ?_
   rintro e' w2 ⟨lv2,rfl,hk2,hb2,hf2⟩
   obtain ⟨a2,c2,rfl⟩:=kids_form hk2
   have hC2:=HC.out.later hb2
   have hB2:=HBr.out.trans (hb2.mono HBr.out.size)
   obtain ⟨cur,_,_,hcl,cf⟩:=hC2.cells hiL rfl
   have d3:=hcl 3 _ (by unfold ten;rw [HPE.out];rfl)
   have d4:=hcl 4 _ (by unfold ten;rw [HPE.out];rfl)
   have d5:=hcl 5 _ (by unfold ten;rw [HPE.out];rfl)
   have d6:=hcl 6 _ (by unfold ten;rw [HPE.out];rfl)
   have d7:=hcl 7 _ (by unfold ten;rw [HPE.out];rfl)
   have hgw:=HC.out.lt
   have hk3:KidsIn w2 (fun b=>w.heap.size≤b∧b≠g) (.mk k t f e ks) (.slice a2 ks.length c2):=KidsIn.later (fun _ _ _=>rfl) (fun b hb=>⟨Nat.le_trans HBr.out.size hb,by omega⟩) _ _ hk2
   obtain ⟨W',hW',hC3,hb3⟩:=hC2.done hiL rfl HPE.out hk3 hf2 HY.out.1 HY.out.2.1
   rw [HY.out.2.2] at hW'
   have HC3:=hid hC3
   have HB3:=hid (hB2.trans hb3)
   simp only [arg,five]
   rw [HY.out.1,HY.out.2.1,HY.out.2.2]
   clear cS hk2 hb2 hf2 hC2 hB2 hcl hk3 hC3 hb3 c3 c4 c5 c6 c7 hgw
   go_wp2_with fail
   go_roundw
   case rel=>exact ⟨i+1,by go_num,by omega,hid (.inr ⟨g,rfl,HC3.out⟩),HB3⟩
   case measure=>simp [Go.RowKit.intOf];omega
  ·obtain rfl:i=n:=by omega
   go_wp2_with fail
   go_ret
   refine ⟨_,rfl,⟨a',c',L,by rw [HN.out.1];rfl,HL.out,by rw [HN.out.1];exact hnc,HSr.out.imp (fun h=>List.length_eq_zero_iff.1 (HN.out.1.trans h)) (fun ⟨g,h1,h2⟩=>⟨g,h1,by rw [HN.out.1];exact h2⟩)⟩,HBr.out⟩
theorem keptN_nil (A:List ByteArray):keptN A (txs [])=0:=by
 have h:=kept_le A (txs [])
 rw [txs_len] at h
 unfold keptN
 simp at h
 omega
theorem okd_nil:Okd []:=fun d hd=>absurd hd (List.not_mem_nil)
set_option maxHeartbeats 4000000 in
theorem new_any (s:ByteArray) (w:World) (hs:s.size≤600) (hT:Tabs w) (hG:MTab w) :
  Calls Tryz.prog 8 #[.string s] w fun e w'=>∃ d,e=.returned (ptrU d)∧Un w.heap.size w' d s 0∧Below w.heap.size w w':=by
 have c1:=read_any s w [] _ hs hT hG (DcsIn.nil 0 _ w) (Nat.zero_le _) okd_nil
 rw [keptN_nil] at c1
 clear hT hG hs
 go_enter Tryz.func8,Tryz.ntmps8
 go_wp2_with fail
 refine c1.mono ?_
 rintro e w2 ⟨d,rfl,hU,hb⟩
 have HU:=hid hU
 have HB:=hid hb
 clear c1 hU hb
 go_wp2_with fail
 go_ret
 exact ⟨d,rfl,HU.out,HB.out⟩
set_option maxHeartbeats 4000000 in
theorem again_any (s t:ByteArray) (w:World) (B d k:Nat) (hs:s.size≤600) (ht:t.size≤600) (hT:Tabs w) (hG:MTab w) (hU:Un B w d t k) :
  Calls Tryz.prog 9 #[ptrU d,.string s] w fun e w'=>∃ d',e=.returned (ptrU d')∧Un w.heap.size w' d' s (keptN (txs (decls s)) (txs (decls t)))∧Below w.heap.size w w':=by
 obtain ⟨_,v,hq,hv⟩:=hU
 have c1:=read_any s w (decls t) v hs hT hG hv (by have:=decls_bound t;omega) (okd_decls t ht)
 obtain ⟨⟨k0,k1,k2⟩,kf⟩:=cells_three hq
 obtain ⟨a,c,rfl⟩:=dcs_form hv
 clear hT hG hs ht hq hv
 unfold ptrU
 go_enter Tryz.func9,Tryz.ntmps9
 go_wp2_with fail
 refine c1.mono ?_
 rintro e w2 ⟨d',rfl,hU,hb⟩
 have HU:=hid hU
 have HB:=hid hb
 clear c1 hU hb k0 k1 k2 kf
 go_wp2_with fail
 go_ret
 exact ⟨d',rfl,HU.out,HB.out⟩
set_option maxHeartbeats 4000000 in
theorem text_any (s:ByteArray) (w:World) (B d k:Nat) (hU:Un B w d s k) :
  Calls Tryz.prog 19 #[ptrU d] w fun e w'=>e=.returned (.string s)∧w=w':=by
 obtain ⟨_,v,hq,_⟩:=hU
 obtain ⟨⟨k0,k1,k2⟩,kf⟩:=cells_three hq
 clear hq
 unfold ptrU
 go_enter Tryz.func19,Tryz.ntmps19
 go_wp2_with fail
 go_ret
 exact ⟨rfl,rfl⟩
set_option maxHeartbeats 4000000 in
theorem kept_any (s:ByteArray) (w:World) (B d k:Nat) (hU:Un B w d s k) :
  Calls Tryz.prog 14 #[ptrU d] w fun e w'=>e=.returned (.int .i64 k)∧w=w':=by
 obtain ⟨_,v,hq,_⟩:=hU
 obtain ⟨⟨k0,k1,k2⟩,kf⟩:=cells_three hq
 clear hq
 unfold ptrU
 go_enter Tryz.func14,Tryz.ntmps14
 go_wp2_with fail
 go_ret
 exact ⟨rfl,rfl⟩
set_option maxHeartbeats 4000000 in
theorem decls_any (s:ByteArray) (w:World) (B d k:Nat) (hs:s.size≤600) (hU:Un B w d s k) :
  Calls Tryz.prog 12 #[ptrU d] w fun e w'=>∃ v,e=.returned v∧DcsOwn w.heap.size w' (decls s) v∧Below w.heap.size w w':=by
 obtain ⟨_,v,hq,hv⟩:=hU
 have c1:=copied_any w (decls s) v hv (by have:=decls_bound s;omega) (okd_part (okd_decls s hs))
 obtain ⟨⟨k0,k1,k2⟩,kf⟩:=cells_three hq
 obtain ⟨a,c,rfl⟩:=dcs_form hv
 clear hs hq hv
 unfold ptrU
 go_enter Tryz.func12,Tryz.ntmps12
 go_wp2_with fail
 refine c1.mono ?_
 rintro e w2 ⟨v',rfl,hU,hb⟩
 have HU:=hid hU
 have HB:=hid hb
 clear c1 hU hb k0 k1 k2 kf
 go_wp2_with fail
 go_ret
 exact ⟨_,rfl,HU.out,HB.out⟩
end Go.Proofs.YtojoahlpgmnbnaaGreatDoor.Ud
namespace Go.Proofs.YtojoahlpgmnbnaaGreatDoor.Ud
open Go.RowKit
open Go.Lib hiding intOf
open U S Q T J
open Go.Proofs.YtojoahlpgmnbnaaGreatDoor.K (owns_ty)
def prCs:List (Nat × Nat)→List Value
 | []=>[]
 | p :: r=>.int .i64 p.1 :: .int .i64 p.2 :: prCs r
theorem prCs_app:∀ (a b:List (Nat × Nat)),prCs (a++b)=prCs a++prCs b
 | [],_=>rfl
 | p :: r,b=>by rw [List.cons_append,prCs,prCs,prCs_app r b];rfl
theorem prCs_at:∀ (l:List (Nat × Nat)) (i:Nat) (hi:i<l.length),(prCs l)[i*2]?=some (.int .i64 l[i].1)∧(prCs l)[i*2+1]?=some (.int .i64 l[i].2)
 | p :: r,0,_=>⟨rfl,rfl⟩
 | p :: r,i+1,hi=>by
  have h:=prCs_at r i (by simpa using hi)
  rw [show (i+1)*2=i*2+1+1 by omega,show i*2+1+1+1=i*2+1+1+1 from rfl]
  exact h
theorem one_prs:∀ (l:List (Nat × Nat)),∀ u∈prCs l,u.oneCell'=true
 | [],u,h=>by cases h
 | p :: r,u,h=>by
  rw [prCs] at h
  rcases List.mem_cons.1 h with rfl|h
  ·rfl
  ·rcases List.mem_cons.1 h with rfl|h
   ·rfl
   ·exact one_prs r u h
theorem info2:(Tryz.prog.info? 53).map (fun i=>(i.zero,i.size,i.bytes))=some (some (.agg #[.int .i64 0,.int .i64 0]),2,16):=by kernel_rfl
def PrsIn (B:Nat) (W:World) (l:List (Nat × Nat)) (v:Value):Prop:=W.ownsRow B 53 2 v l.length (prCs l)
theorem PrsIn.later {B:Nat} {W W':World} {l:List (Nat × Nat)} {v:Value} (h:PrsIn B W l v) (hb:Below W.heap.size W W'):PrsIn B W' l v:=owns_later h hb
theorem prs_row {B:Nat} {W:World} {l:List (Nat × Nat)} {v:Value} (h:PrsIn B W l v):∃ a c,v=.slice a l.length c∧(l=[]∨∃ g,a=some ⟨g,0,none⟩∧B≤g∧g<W.heap.size∧∀ i (hi:i<l.length),W.cell? ⟨g,i*2,none⟩=some (.int .i64 l[i].1)∧W.cell? ⟨g,i*2+1,none⟩=some (.int .i64 l[i].2)):=by
 obtain ⟨a,c,rfl⟩:=owns_len h
 refine ⟨a,c,rfl,?_⟩
 rcases Nat.eq_zero_or_pos l.length with h0|h0
 ·exact .inl (List.length_eq_zero_iff.1 h0)
 ·right
  obtain ⟨g,c2,h1,_,h3,h4⟩:=row_some h h0
  simp only [Value.slice.injEq] at h1
  obtain ⟨rfl,_,rfl⟩:=h1
  refine ⟨g,rfl,h3,h4,fun i hi=>?_⟩
  obtain ⟨e1,e2⟩:=prCs_at l i hi
  exact ⟨(h.cellAt _ (by omega)).trans e1,(h.cellAt _ (by omega)).trans e2⟩
def takenJ (l:List PcP):List (Nat × Nat):=(l.filter (·.j)).map fun q=>(q.f,q.e)
theorem takenJ_on {l:List PcP} {i:Nat} (hi:i<l.length) (h:l[i].j=true):takenJ (l.take (i+1))=takenJ (l.take i)++[(l[i].f,l[i].e)]:=by
 unfold takenJ;rw [List.take_succ_eq_append_getElem hi,List.filter_append,List.map_append];simp [List.filter,h]
theorem takenJ_off {l:List PcP} {i:Nat} (hi:i<l.length) (h:l[i].j=false):takenJ (l.take (i+1))=takenJ (l.take i):=by
 unfold takenJ;rw [List.take_succ_eq_append_getElem hi,List.filter_append,List.map_append];simp [List.filter,h]
theorem new_pr (W:World) (f e:Nat):∀ k u,(prCs [(f,e)])[k]?=some u→(W.alloc (.cells #[.int .i64 f,.int .i64 e] 53)).cell? ((⟨W.heap.size,0,none⟩:Addr).add k)=some u:=World.news_of_block (cs:=#[.int .i64 f,.int .i64 e]) (World.alloc_heap_new W _)
set_option maxHeartbeats 8000000 in
set_option maxRecDepth 20000 in
theorem junk_any (u:Value) (s:ByteArray) (w:World) (hu:∃ d,u=.pointer d) (hs:s.size≤1000000) (hT:Tabs w) (hx:Calls Tryz.prog 19 #[u] w fun e w'=>e=.returned (.string s)∧w=w') :
  Calls Tryz.prog 17 #[u] w fun e w'=>∃ v,e=.returned v∧PrsIn w.heap.size w' (junks s) v∧Below w.heap.size w w':=by
 obtain ⟨i0,hi0,hz0,hz1,hz2⟩:=info_parts info2
 have cP:=pieces_any s w hs hT
 obtain ⟨P,hP⟩:∃ P,pieces s.toList=P:=⟨_,rfl⟩
 have hlen:=pieces_len s.toList
 rw [tl_len] at hlen
 rw [hP] at cP hlen
 have hdl:junks s=takenJ P:=by unfold junks takenJ;rw [hP]
 rw [hdl]
 obtain ⟨dd,rfl⟩:=hu
 clear hT hP hdl
 go_enter Tryz.func17,Tryz.ntmps17
 go_wp2_with fail
 refine hx.mono ?_
 rintro e w0 ⟨rfl,rfl⟩
 clear hx
 go_wp2_with fail
 refine cP.mono ?_
 rintro e w1 ⟨v,rfl,hv,hb1⟩
 obtain ⟨pa,pc,rfl,hcap,hrow⟩:=hv
 have HR:=hid hrow
 have HB1:=hid hb1
 obtain ⟨n,hn⟩:∃ n,P.length=n:=⟨_,rfl⟩
 have HN:=hid hn
 rw [hn] at hlen hcap ⊢
 clear cP hrow hb1 hn
 go_wp2_with fail
 go_loopw [3,10] (fun ov iv wr=>∃ i m:Nat,iv=.int .i64 i∧i≤n∧m≤i∧Hid ((takenJ (P.take i)).length=m)∧Hid (wr.ownsRow w1.heap.size 53 2 ov m (prCs (takenJ (P.take i))))∧Hid (Below w1.heap.size w1 wr)) (fun _ iv _=>n - (Go.RowKit.intOf iv).toNat)
 case atStart=>exact ⟨0,0,rfl,Nat.zero_le _,Nat.le_refl _,hid rfl,hid (World.ownsRow_nil _ _ _ _),hid (Below.refl _ _)⟩
 case round =>
  obtain ⟨i,m,rfl,hi,hm,HM,HO,HB⟩:=hrel
  by_cases hlt:i<n
  ·have hll:i<P.length:=by rw [HN.out];exact hlt
   obtain ⟨g,off,rfl,_,hg,hc⟩:=HR.out.resolve_left (fun h=>by rw [h] at hll;exact Nat.not_lt_zero _ hll)
   obtain ⟨p0,p1,p2,p3⟩:=pc_at i hc hll
   obtain ⟨f,hf⟩:∃ x,P[i].f=x:=⟨_,rfl⟩
   obtain ⟨e,he⟩:∃ x,P[i].e=x:=⟨_,rfl⟩
   obtain ⟨d,hd⟩:∃ x,P[i].d=x:=⟨_,rfl⟩
   obtain ⟨j,hj⟩:∃ x,P[i].j=x:=⟨_,rfl⟩
   rw [hf] at p0
   rw [he] at p1
   rw [hd] at p2
   rw [hj] at p3
   have q0:=(HB.out.cell (p:=⟨g,off+i*4,none⟩) hg).trans p0
   have q1:=(HB.out.cell (p:=⟨g,off+i*4+1,none⟩) hg).trans p1
   have q2:=(HB.out.cell (p:=⟨g,off+i*4+2,none⟩) hg).trans p2
   have q3:=(HB.out.cell (p:=⟨g,off+i*4+3,none⟩) hg).trans p3
   obtain ⟨w2,hw2,hq2,hb2,hz2'⟩:=new_block wr (.cells #[.int .i64 f,.int .i64 e,.bool d,.bool j] 67)
   have k0:w2.cell? ⟨wr.heap.size,0,none⟩=some (.int .i64 f):=by simp [World.cell?,hq2]
   have k1:w2.cell? ⟨wr.heap.size,1,none⟩=some (.int .i64 e):=by simp [World.cell?,hq2]
   have k2:w2.cell? ⟨wr.heap.size,2,none⟩=some (.bool d):=by simp [World.cell?,hq2]
   have k3:w2.cell? ⟨wr.heap.size,3,none⟩=some (.bool j):=by simp [World.cell?,hq2]
   have kf:∀ x,w2.frozen? ⟨wr.heap.size,x,none⟩=false:=fun x=>by simp [World.frozen?,hq2]
   have HB2:=hid (HB.out.trans (hb2.mono HB.out.size))
   have HO2:=hid (owns_later HO.out hb2)
   have HFE:=hid (And.intro hf he)
   clear hc p0 p1 p2 p3 hf he hd hq2 hb2
   go_upto_region 5 with fail
   cases j with
   | false =>
    have HT2:=hid (takenJ_off hll hj)
    clear hj
    go_wp2_with fail
    go_roundw
    case rel=>exact ⟨i+1,m,by go_num,by omega,by omega,hid (by rw [HT2.out];exact HM.out),hid (by rw [HT2.out];exact HO2.out),HB2⟩
    case measure=>simp [Go.RowKit.intOf];omega
   | true =>
    have HT2:=hid ((takenJ_on hll hj).trans (by rw [HFE.out.1,HFE.out.2]))
    obtain ⟨oa,oc,rfl⟩:=owns_len HO.out
    clear hj
    go_wp2_with (at_builtin;refine wpList_append_own _ rfl _ _ 34 rfl w1.heap.size 53 i0 (.agg #[.int .i64 0,.int .i64 0]) 2 16 Tryz.underlying34 hi0 hz0 hz1 hz2 rfl (by decide) _ _ _ rfl (HO2.out.alloc _) ⟨w2.heap.size,0,none⟩ 1 1 (prCs [(f,e)]) rfl rfl ?c1 (one_prs _) ?c3 ?c4 ?c5 ?_)
    case c1=>exact new_pr _ _ _
    case c3=>unfold maxLen;omega
    case c4=>omega
    case c5=>rw [World.size_alloc];have:=HB2.out.size;omega
    intro v6 w6 hv6 hg6 _
    have HB6:=hid ((HB2.out.alloc HB2.out.size _).grown hg6 (by rw [World.size_alloc];have:=HB2.out.size;omega) (fun k hk=>(HO2.out.lt k hk).1))
    rw [← prCs_app] at hv6
    have HO6:Hid (w6.ownsRow w1.heap.size 53 2 v6 (m+1) (prCs (takenJ (P.take (i+1))))):=hid (by rw [HT2.out];exact hv6)
    clear hv6 hg6
    go_wp2_with fail
    go_roundw
    case rel=>exact ⟨i+1,m+1,by go_num,by omega,by omega,hid (by rw [HT2.out,List.length_append,HM.out];rfl),HO6,HB6⟩
    case measure=>simp [Go.RowKit.intOf];omega
  ·obtain rfl:i=n:=by omega
   go_wp2_with fail
   go_ret
   have hP:P.take i=P:=List.take_of_length_le (by rw [HN.out];exact Nat.le_refl _)
   refine ⟨_,rfl,?_,HB1.out.trans (HB.out.mono HB1.out.size)⟩
   have h:=HO.out
   rw [hP,← HM.out,hP] at h
   exact owns_base h HB1.out.size
theorem idx_rowR {o:Oper} {a:Act} (x y g off n i c:Nat) (W:World) (ho:o.op=.indexAddr 42 (.tmp x) (.tmp y)) (h1:a.eval (.tmp x)=.slice (some ⟨g,off,none⟩) n c) (h2:a.eval (.tmp y)=.int .i64 i) (hin:i<n):(execOp a.eval o).run Tryz.prog W=.ok (.value (.pointer (some ⟨g,off+i*4,none⟩))) W:=by
 have hm:(0:Int)≤(i:Int):=by omega
 have hm2:(i:Int)<(n:Int):=by omega
 have hr:(Instr.indexAt 42 (.slice (some ⟨g,off,none⟩) n c) (.int .i64 i)).run Tryz.prog W=.ok (.pointer (some ⟨g,off+i*4,none⟩)) W:=by
  simp [go_sem]
  intro h
  omega
 unfold execOp
 rw [ho]
 simp only [h1,h2,Sem.run_bind,hr,Result.andThen_ok,Sem.run_pure]
theorem idx_rowP {o:Oper} {a:Act} (x y g n i c:Nat) (W:World) (ho:o.op=.indexAddr 34 (.tmp x) (.tmp y)) (h1:a.eval (.tmp x)=.slice (some ⟨g,0,none⟩) n c) (h2:a.eval (.tmp y)=.int .i64 i) (hin:i<n):(execOp a.eval o).run Tryz.prog W=.ok (.value (.pointer (some ⟨g,i*2,none⟩))) W:=by
 have hm:(0:Int)≤(i:Int):=by omega
 have hm2:(i:Int)<(n:Int):=by omega
 have hr:(Instr.indexAt 34 (.slice (some ⟨g,0,none⟩) n c) (.int .i64 i)).run Tryz.prog W=.ok (.pointer (some ⟨g,i*2,none⟩)) W:=by
  simp [go_sem]
  intro h
  omega
 unfold execOp
 rw [ho]
 simp only [h1,h2,Sem.run_bind,hr,Result.andThen_ok,Sem.run_pure]
theorem infoInt2:(Tryz.prog.info? 3).map (fun i=>(i.zero,i.size,i.bytes))=some (some (.int .i64 0),1,8):=by kernel_rfl
theorem eq2 (a b:Int) (W:World):(Op.equalIn 10000 53 (.agg #[.int .i64 a,.int .i64 b]) (.agg #[.int .i64 a,.int .i64 b])).run Tryz.prog W=.ok true W:=by
 have h3:Tryz.prog.underlying 3=some (.int .i64):=Tryz.underlying3
 have hc:Tryz.prog.cellsOf 3=1:=by kernel_rfl
 obtain ⟨i3,hi3,_,_,_⟩:=info_parts infoInt2
 have hi:∀ (x:Int) W,(Op.equalIn 9999 3 (.int .i64 x) (.int .i64 x)).run Tryz.prog W=.ok true W:=fun x W=>by
  rw [show (9999:Nat)=9998+1 from rfl,run_equalIn_int _ _ _ _ _ _ _ h3]
  simp
 have p0:∀ W,(part 3 #[.int .i64 a,.int .i64 b] (0*1)).run Tryz.prog W=.ok (.int .i64 a) W:=fun W=>by kernel_rfl
 have p1:∀ W,(part 3 #[.int .i64 a,.int .i64 b] (1*1)).run Tryz.prog W=.ok (.int .i64 b) W:=fun W=>by kernel_rfl
 have e:(10000:Nat)=9999+1:=rfl
 rw [e,run_equalIn_array W 9999 _ _ Tryz.underlying53 hi3,hc,show List.range 2=[0,1] from rfl]
 simp only [Op.eqItems,Sem.run_bind,p0,p1,hi,Result.andThen_ok,Sem.run_pure,Bool.not_true,Bool.false_eq_true,if_false]
theorem neq2 (a b:Int) (W:World):(binOp .neq 53 (.agg #[.int .i64 a,.int .i64 b]) (.agg #[.int .i64 a,.int .i64 b])).run Tryz.prog W=.ok (.bool false) W:=by
 have h:=eq2 a b W
 simp [go_sem]
 rw [h]
 rfl
set_option maxHeartbeats 8000000 in
set_option maxRecDepth 20000 in
theorem pairs_any (l:List (Nat × Nat)) (B B':Nat) (w:World) (v v':Value) (hv:PrsIn B w l v) (hv':PrsIn B' w l v') (hlen:l.length≤1000000) :
  Calls Tryz.prog 16 #[v,v'] w fun e w'=>e=.returned (.bool true)∧Below w.heap.size w w':=by
 obtain ⟨a,c,rfl,hr⟩:=prs_row hv
 obtain ⟨a',c',rfl,hr'⟩:=prs_row hv'
 have HR:=hid hr
 have HR':=hid hr'
 have hneq:=neq2
 obtain ⟨n,hn⟩:∃ n,l.length=n:=⟨_,rfl⟩
 have HN:=hid hn
 rw [hn] at hlen ⊢
 clear hv hv' hr hr' hn
 go_enter Tryz.func16,Tryz.ntmps16
 go_wp2_with fail
 go_loopw [5] (fun iv wr=>∃ i:Nat,iv=.int .i64 i∧i≤n∧Hid (Below w.heap.size w wr)) (fun iv _=>n - (Go.RowKit.intOf iv).toNat)
 case atStart=>exact ⟨0,rfl,Nat.zero_le _,hid (Below.refl _ _)⟩
 case round =>
  obtain ⟨i,rfl,hi,HB⟩:=hrel
  by_cases hlt:i<n
  ·have hll:i<l.length:=by rw [HN.out];exact hlt
   obtain ⟨g,rfl,_,hg,hc⟩:=HR.out.resolve_left (fun h=>by rw [h] at hll;exact Nat.not_lt_zero _ hll)
   obtain ⟨g',rfl,_,hg',hc'⟩:=HR'.out.resolve_left (fun h=>by rw [h] at hll;exact Nat.not_lt_zero _ hll)
   obtain ⟨p0,p1⟩:=hc i hll
   obtain ⟨p2,p3⟩:=hc' i hll
   obtain ⟨x,hx⟩:∃ x,l[i].1=x:=⟨_,rfl⟩
   obtain ⟨y,hy⟩:∃ x,l[i].2=x:=⟨_,rfl⟩
   rw [hx] at p0 p2
   rw [hy] at p1 p3
   have q0:=(HB.out.cell (p:=⟨g,i*2,none⟩) hg).trans p0
   have q1:=(HB.out.cell (p:=⟨g,i*2+1,none⟩) hg).trans p1
   have q2:=(HB.out.cell (p:=⟨g',i*2,none⟩) hg').trans p2
   have q3:=(HB.out.cell (p:=⟨g',i*2+1,none⟩) hg').trans p3
   clear hc hc' p0 p1 p2 p3 hx hy
   go_upto_region 6 with fail
   refine wp_region_held_drew (S:=fun X=>X.cell? ⟨g,i*2,none⟩=some (.int .i64 x)∧X.cell? ⟨g,i*2+1,none⟩=some (.int .i64 y)∧X.cell? ⟨g',i*2,none⟩=some (.int .i64 x)∧X.cell? ⟨g',i*2+1,none⟩=some (.int .i64 y)) (by kernel_rfl) ⟨q0,q1,q2,q3⟩ (fun hHeld=>?_)
   have HB2:=hid (drewB HB.out)
   obtain ⟨V,hV⟩:∃ V,wr.drew=V:=⟨_,rfl⟩
   rw [hV] at hHeld HB2 ⊢
   clear hV q0 q1 q2 q3
   refine wpAnyH_take (i:=0) (oi:=({ dst:=some 17,op:=Op.move (Operand.tmp 0),type:=34,pos := "law.go:41",after:=#[],guard:=none }:Oper)) (v:=.slice (some ⟨g,0,none⟩) n c) rfl (by kernel_rfl) (by kernel_rfl) (by kernel_rfl) (fun _ _ _ h=>h) (Or.inl ⟨by rfl,fun X hX=>rfl⟩) hHeld ?_
   (try simp only [Act.put,List.setIfInBounds_toArray,List.set_cons_zero,List.set_cons_succ])
   refine wpAnyH_take (i:=1) (oi:=({ dst:=some 18,op:=Op.move (Operand.tmp 5),type:=3,pos := "law.go:41",after:=#[],guard:=none }:Oper)) (v:=.int .i64 i) rfl (by kernel_rfl) (by kernel_rfl) (by kernel_rfl) (fun _ _ _ h=>h) (Or.inl ⟨by rfl,fun X hX=>rfl⟩) hHeld ?_
   (try simp only [Act.put,List.setIfInBounds_toArray,List.set_cons_zero,List.set_cons_succ])
   refine wpAnyH_take (i:=2) (oi:=({ dst:=some 19,op:=Op.indexAddr 34 (Operand.tmp 17) (Operand.tmp 18),type:=0,pos := "law.go:41",after:=#[{ on:=0,ground:=Ground.data },{ on:=1,ground:=Ground.data }],guard:=none }:Oper)) (v:=.pointer (some ⟨g,i*2,none⟩)) rfl (by kernel_rfl) (by kernel_rfl) (by kernel_rfl) (fun _ _ _ h=>h) (Or.inl ⟨by rfl,fun X hX=>idx_rowP 17 18 g n i c X rfl rfl rfl hlt⟩) hHeld ?_
   (try simp only [Act.put,List.setIfInBounds_toArray,List.set_cons_zero,List.set_cons_succ])
   refine wpAnyH_take (i:=3) (oi:=({ dst:=some 20,op:=Op.load 53 (Operand.tmp 19),type:=53,pos := "law.go:41",after:=#[{ on:=2,ground:=Ground.data }],guard:=none }:Oper)) (v:=.agg #[.int .i64 x,.int .i64 y]) rfl (by kernel_rfl) (by kernel_rfl) (by kernel_rfl) (fun _ _ _ h=>h) (Or.inl ⟨by rfl,fun X hX=>by obtain ⟨c0,c1,c2,c3⟩:=hX;go_simp⟩) hHeld ?_
   (try simp only [Act.put,List.setIfInBounds_toArray,List.set_cons_zero,List.set_cons_succ])
   refine wpAnyH_take (i:=4) (oi:=({ dst:=some 21,op:=Op.move (Operand.tmp 1),type:=34,pos := "law.go:41",after:=#[],guard:=none }:Oper)) (v:=.slice (some ⟨g',0,none⟩) n c') rfl (by kernel_rfl) (by kernel_rfl) (by kernel_rfl) (fun _ _ _ h=>h) (Or.inl ⟨by rfl,fun X hX=>rfl⟩) hHeld ?_
   (try simp only [Act.put,List.setIfInBounds_toArray,List.set_cons_zero,List.set_cons_succ])
   refine wpAnyH_take (i:=5) (oi:=({ dst:=some 22,op:=Op.move (Operand.tmp 5),type:=3,pos := "law.go:41",after:=#[],guard:=none }:Oper)) (v:=.int .i64 i) rfl (by kernel_rfl) (by kernel_rfl) (by kernel_rfl) (fun _ _ _ h=>h) (Or.inl ⟨by rfl,fun X hX=>rfl⟩) hHeld ?_
   (try simp only [Act.put,List.setIfInBounds_toArray,List.set_cons_zero,List.set_cons_succ])
   refine wpAnyH_take (i:=6) (oi:=({ dst:=some 23,op:=Op.indexAddr 34 (Operand.tmp 21) (Operand.tmp 22),type:=0,pos := "law.go:41",after:=#[{ on:=4,ground:=Ground.data },{ on:=5,ground:=Ground.data }],guard:=none }:Oper)) (v:=.pointer (some ⟨g',i*2,none⟩)) rfl (by kernel_rfl) (by kernel_rfl) (by kernel_rfl) (fun _ _ _ h=>h) (Or.inl ⟨by rfl,fun X hX=>idx_rowP 21 22 g' n i c' X rfl rfl rfl hlt⟩) hHeld ?_
   (try simp only [Act.put,List.setIfInBounds_toArray,List.set_cons_zero,List.set_cons_succ])
   refine wpAnyH_take (i:=7) (oi:=({ dst:=some 24,op:=Op.load 53 (Operand.tmp 23),type:=53,pos := "law.go:41",after:=#[{ on:=6,ground:=Ground.data }],guard:=none }:Oper)) (v:=.agg #[.int .i64 x,.int .i64 y]) rfl (by kernel_rfl) (by kernel_rfl) (by kernel_rfl) (fun _ _ _ h=>h) (Or.inl ⟨by rfl,fun X hX=>by obtain ⟨c0,c1,c2,c3⟩:=hX;go_simp⟩) hHeld ?_
   (try simp only [Act.put,List.setIfInBounds_toArray,List.set_cons_zero,List.set_cons_succ])
   refine wpAnyH_take (i:=8) (oi:=({ dst:=some 25,op:=Op.binOp BinOp.neq 53 (Operand.tmp 20) (Operand.tmp 24) 53,type:=4,pos := "law.go:41",after:=#[{ on:=3,ground:=Ground.data },{ on:=7,ground:=Ground.data }],guard:=none }:Oper)) (v:=.bool false) rfl (by kernel_rfl) (by kernel_rfl) (by kernel_rfl) (fun _ _ _ h=>h) (Or.inl ⟨by rfl,fun X hX=>by have h:=hneq x y X;go_simp⟩) hHeld ?_
   (try simp only [Act.put,List.setIfInBounds_toArray,List.set_cons_zero,List.set_cons_succ])
   refine wpAnyH_done (by kernel_rfl) ?_ _
   clear hHeld
   go_wp2_with fail
   go_roundw
   case rel=>exact ⟨i+1,by go_num,by omega,HB2⟩
   case measure=>simp [Go.RowKit.intOf];omega
  ·obtain rfl:i=n:=by omega
   go_wp2_with fail
   go_ret
   exact ⟨rfl,HB.out⟩
end Go.Proofs.YtojoahlpgmnbnaaGreatDoor.Ud
namespace Go.Proofs.YtojoahlpgmnbnaaGreatDoor.Ud
open Go.Lib Go.Proofs.YtojoahlpgmnbnaaGreatDoor.U Go.Proofs.YtojoahlpgmnbnaaGreatDoor.S Go.Proofs.YtojoahlpgmnbnaaGreatDoor.Q Go.Proofs.YtojoahlpgmnbnaaGreatDoor.T
def liveU:ByteArray:=⟨#[118,97,114,32,97,32,105,110,116,10,118,97,114,32,98,32,120,32,121,10,122,10,118,97,114,32,99,32,84,10]⟩
def liveV:ByteArray:=⟨#[113,10,118,97,114,32,97,32,105,110,116,10,118,97,114,32,99,32,84,10]⟩
theorem liveU_len:(decls liveU).length=3:=by kernel_rfl
theorem liveU_one:(decls liveU)[1]?.map (fun d=>(d.a,d.r))=some (8,101):=by kernel_rfl
theorem live_kept:keptN (txs (decls liveV)) (txs (decls liveU))=2:=by kernel_rfl
theorem live_junk:junks liveV=[(0,2)]:=by kernel_rfl
end Go.Proofs.YtojoahlpgmnbnaaGreatDoor.Ud
namespace Go.Proofs.YtojoahlpgmnbnaaGreatDoor.Ud
open Go.RowKit
open Go.Lib hiding intOf
open U S Q T J
open Go.Proofs.YtojoahlpgmnbnaaGreatDoor.K (MTab)
theorem live_at {W:World} {B:Nat} {v:Value} (h:DcsIn B (fun k=>B≤k) W (decls liveU) v):∃ g off c,v=.slice (some ⟨g,off,none⟩) 3 c∧W.cell? ⟨g,off+1*10+8,none⟩=some (.int .i64 8)∧W.cell? ⟨g,off+1*10+9,none⟩=some (.int .i64 101):=by
 obtain ⟨a,c,rfl⟩:=dcs_form h
 obtain ⟨_,_,hr⟩:=dcs_row h
 have hl:1<(decls liveU).length:=by rw [liveU_len];decide
 obtain ⟨g,off,rfl,_,_,h4⟩:=hr.resolve_left (fun e=>by rw [e] at hl;exact absurd hl (by decide))
 obtain ⟨f,e,tx,k,t,pf,pe,ks,a,c',x,r,hK⟩:=dc_at (h4 1 hl)
 have h1:=liveU_one
 rw [List.getElem?_eq_getElem hl,hK.eq] at h1
 simp only [Option.map_some,Option.some.injEq,Prod.mk.injEq] at h1
 obtain ⟨rfl,rfl⟩:=h1
 exact ⟨g,off,c,by rw [liveU_len],hK.c8,hK.c9⟩
set_option maxHeartbeats 8000000 in
set_option maxRecDepth 20000 in
theorem alive_any (w:World) (hT:Tabs w) (hG:MTab w):Calls Tryz.prog 7 #[] w fun e w'=>e=.returned (.bool true)∧Below w.heap.size w w':=by
 have c1:=new_any liveU w (by decide) hT hG
 have HT:=hid hT
 have HG:=hid hG
 clear hT hG
 go_enter Tryz.func7,Tryz.ntmps7
 go_wp2_with fail
 refine c1.mono ?_
 rintro e w1 ⟨d,rfl,hU1,hb1⟩
 have c2:=again_any liveV liveU w1 _ d 0 (by decide) (by decide) (HT.out.later hb1) (HG.out.later hb1) hU1
 rw [live_kept] at c2
 have HU1:=hid hU1
 have HB1:=hid hb1
 clear c1 hU1 hb1
 go_wp2_with fail
 refine c2.mono ?_
 rintro e w2 ⟨d',rfl,hU2,hb2⟩
 have HU2:=hid hU2
 have HU12:=hid (HU1.out.later hb2)
 have HB2:=hid (HB1.out.trans (hb2.mono HB1.out.size))
 have c3:=decls_any liveU w2 _ d 0 (by decide) HU12.out
 clear c2 hU2 hb2 HU1
 go_wp2_with fail
 refine c3.mono ?_
 rintro e w3 ⟨v3,rfl,hD3,hb3⟩
 have hD3:=hD3.dcs
 have HU13:=hid (HU12.out.later hb3)
 have HU23:=hid (HU2.out.later hb3)
 have HB3:=hid (HB2.out.trans (hb3.mono HB2.out.size))
 have HD3:=hid hD3
 have c4:=junk_any (ptrU d') liveV w3 ⟨_,rfl⟩ (by decide) (HT.out.later HB3.out) (text_any liveV w3 _ d' 2 HU23.out)
 rw [live_junk] at c4
 clear c3 hD3 hb3 HU12 HU2
 go_wp2_with fail
 refine c4.mono ?_
 rintro e w4 ⟨v4,rfl,hP4,hb4⟩
 obtain ⟨ga,oa,ca,rfl,l8,l9⟩:=live_at (HD3.out.later hb4)
 have HU14:=hid (HU13.out.later hb4)
 have HU24:=hid (HU23.out.later hb4)
 have HB4:=hid (HB3.out.trans (hb4.mono HB3.out.size))
 have HD4:=hid (HD3.out.later hb4)
 obtain ⟨a4,c4',rfl,hr4⟩:=prs_row hP4
 obtain ⟨g4,rfl,_,_,h5⟩:=hr4.resolve_left (fun h=>by cases h)
 have p1:w4.cell? ⟨g4,1,none⟩=some (.int .i64 2):=(h5 0 (by decide)).2
 have k1:=kept_any liveU w4 _ d 0 HU14.out
 have k2:=kept_any liveV w4 _ d' 2 HU24.out
 have tx:=text_any liveV w4 _ d' 2 HU24.out
 have cd:=decls_any liveU w4 _ d 0 (by decide) HU14.out
 unfold ptrU at k1 k2 tx cd
 have htne:(liveV.toList==[])=false:=by kernel_rfl
 simp only [List.length_cons,List.length_nil]
 unfold ptrU
 clear c4 hP4 hb4 HU13 HU23 h5 hr4 HD3
 go_wp2_with fail
 refine k1.mono ?_
 rintro e w5 ⟨rfl,rfl⟩
 go_wp2_with fail
 refine k2.mono ?_
 rintro e w5 ⟨rfl,rfl⟩
 go_wp2_with fail
 refine tx.mono ?_
 rintro e w5 ⟨rfl,rfl⟩
 go_wp2_with fail
 refine cd.mono ?_
 rintro e w5 ⟨v5,rfl,hD5,hb5⟩
 have cS:=unitSame_any (decls liveU) _ _ _ _ w5 v5 _ hD5.dcs (HD4.out.later hb5) (fun d hd=>Nat.le_trans (okd_part (okd_decls liveU (by decide)) d hd).2 (by decide)) (by rw [liveU_len];decide)
 have HB5:=hid (HB4.out.trans (hb5.mono HB4.out.size))
 clear cd hD5 hb5 k1 k2 tx l8 l9 p1
 go_wp2_with fail
 refine cS.mono ?_
 rintro e w6 ⟨rfl,hb6⟩
 have HB6:=hid (HB5.out.trans (hb6.mono HB5.out.size))
 clear cS hb6
 go_wp2_with fail
 go_ret
 exact ⟨rfl,HB6.out⟩
end Go.Proofs.YtojoahlpgmnbnaaGreatDoor.Ud
namespace Go.Proofs.YtojoahlpgmnbnaaGreatDoor.T
open Go.RowKit
open Go.Lib hiding intOf
open U S L
structure Mv (B d:Nat) (w w':World):Prop where
 os:w'.os=w.os
 tape:w'.tape=w.tape
 output:w'.output=w.output
 size:w.heap.size≤w'.heap.size
 block:∀ k,k<B→k≠d→w'.heap[k]?=w.heap[k]?
theorem Mv.refl (B d:Nat) (w:World):Mv B d w w:=⟨rfl,rfl,rfl,Nat.le_refl _,fun _ _ _=>rfl⟩
theorem Mv.trans {B d:Nat} {a b c:World} (h:Mv B d a b) (k:Mv B d b c):Mv B d a c :=
 ⟨k.os.trans h.os,k.tape.trans h.tape,k.output.trans h.output,Nat.le_trans h.size k.size,fun i hi hd=>(k.block i hi hd).trans (h.block i hi hd)⟩
theorem Mv.mono {B B' d:Nat} {w w':World} (h:Mv B d w w') (hB:B'≤B):Mv B' d w w':=⟨h.os,h.tape,h.output,h.size,fun k hk=>h.block k (Nat.lt_of_lt_of_le hk hB)⟩
theorem Mv.of_below {B d:Nat} {w w':World} (h:Below B w w'):Mv B d w w':=⟨h.os,h.tape,h.output,h.size,fun k hk _=>h.block k hk⟩
theorem Mv.drewN {B d:Nat} {a w:World} (h:Mv B d a w) (n:Nat):Mv B d a (w.drewN n):=⟨h.os,h.tape,h.output,h.size,h.block⟩
theorem Mv.setCell {B d:Nat} {a w:World} (h:Mv B d a w) (i:Nat) (v:Value):Mv B d a (w.setCell ⟨d,i,none⟩ v):=by
 refine ⟨h.os,h.tape,h.output,by simpa using h.size,fun k hk hd=>?_⟩
 rw [Below.heap_setCell _ _ _ _ hd]
 exact h.block k hk hd
theorem Mv.alloc {B d:Nat} {a w:World} (h:Mv B d a w) (hB:B≤w.heap.size) (o:Obj):Mv B d a (w.alloc o) :=
 h.trans (Mv.of_below ((Below.refl B w).alloc hB o))
theorem Mv.below {B d:Nat} {w w':World} (h:Mv B d w w') (hd:B≤d):Below B w w':=⟨h.os,h.tape,h.output,h.size,fun k hk=>h.block k hk (by omega)⟩
def Rd (d:Nat) (lv:Value) (i:Nat) (b:Bool) (W:World):Prop:=W.heap[d]?=some (.cells #[lv,.int .i64 i,.bool b] 82 (0,0))
def Tk (d:Nat) (L:List TokP) (lv:Value) (W:World):Prop:=∃ la cap,lv=.slice la L.length cap∧(L=[]∨∃ g off,la=some ⟨g,off,none⟩∧g≠d∧g<W.heap.size∧ToksAt W g off L)
section
variable {d:Nat} {lv:Value} {i:Nat} {b:Bool} {w w':World} {L:List TokP}
theorem Rd.c0 (h:Rd d lv i b w):w.cell? ⟨d,0,none⟩=some lv:=by unfold Rd at h;simp [World.cell?,h]
theorem Rd.c1 (h:Rd d lv i b w):w.cell? ⟨d,1,none⟩=some (.int .i64 i):=by unfold Rd at h;simp [World.cell?,h]
theorem Rd.c2 (h:Rd d lv i b w):w.cell? ⟨d,2,none⟩=some (.bool b):=by unfold Rd at h;simp [World.cell?,h]
theorem Rd.f1 (h:Rd d lv i b w):w.frozen? ⟨d,1,none⟩=false:=by unfold Rd at h;simp [World.frozen?,h]
theorem Rd.f2 (h:Rd d lv i b w):w.frozen? ⟨d,2,none⟩=false:=by unfold Rd at h;simp [World.frozen?,h]
theorem Rd.lt (h:Rd d lv i b w):d<w.heap.size:=(Array.getElem?_eq_some_iff.1 h).1
theorem Rd.set1 (h:Rd d lv i b w) {j:Nat} (x:Int) (hx:x=j):Rd d lv j b (w.setCell ⟨d,1,none⟩ (.int .i64 x)):=by subst hx;exact Go.Joins.block_setCell h _
theorem Rd.set2 (h:Rd d lv i b w) (x:Bool):Rd d lv i x (w.setCell ⟨d,2,none⟩ (.bool x)):=Go.Joins.block_setCell h _
theorem Rd.below (h:Rd d lv i b w) (hb:Below w.heap.size w w'):Rd d lv i b w':=(hb.block d h.lt).trans h
theorem Rd.drewN (h:Rd d lv i b w) (n:Nat):Rd d lv i b (w.drewN n):=h
theorem Tk.mv {B:Nat} (h:Tk d L lv w) (hm:Mv B d w w') (hB:w.heap.size≤B):Tk d L lv w':=by
 obtain ⟨la,cap,h1,h2⟩:=h
 refine ⟨la,cap,h1,?_⟩
 rcases h2 with h2|⟨g,off,h3,h4,h5,h6⟩
 ·exact .inl h2
 ·refine .inr ⟨g,off,h3,h4,Nat.lt_of_lt_of_le h5 hm.size,fun j u hj=>?_⟩
  have h7:=h6 j u hj
  have h8:=hm.block g (by omega) h4
  unfold World.cell? at h7 ⊢
  rw [h8];exact h7
end
theorem tk_word {d:Nat} {lv:Value} {w:World} {L:List TokP} {i:Nat} (h:Tk d L lv w) (hi:i<L.length):∃ g off cap,lv=.slice (some ⟨g,off,none⟩) L.length cap∧g≠d ∧
  w.cell? ⟨g,off+i*4,none⟩=some (.int .i64 L[i].w)∧w.cell? ⟨g,off+i*4+1,none⟩=some (.string ⟨L[i].t.toArray⟩)∧w.cell? ⟨g,off+i*4+2,none⟩=some (.int .i64 L[i].f)∧w.cell? ⟨g,off+i*4+3,none⟩=some (.int .i64 L[i].e):=by
 obtain ⟨la,cap,rfl,h2⟩:=h
 obtain ⟨g,off,rfl,h4,h5,h6⟩:=h2.resolve_left (fun e=>by rw [e] at hi;exact Nat.not_lt_zero _ hi)
 obtain ⟨c0,c1,c2,c3⟩:=tok_at i h6 hi
 exact ⟨g,off,cap,rfl,h4,c0,c1,c2,c3⟩
def Idle (R:Value) (w:World) (e:Ending) (w':World):Prop:=e=.returned R∧∃ k,w'=w.drewN k
theorem isT_out {L:List TokP} (x:By) {i:Nat} (h:¬ i<L.length):isT L x i=false:=by
 unfold isT;rw [List.getElem?_eq_none (by omega)]
theorem isT_in {L:List TokP} (x:By) {i:Nat} (h:i<L.length):isT L x i=(L[i].t==x&&(L[i].w==4||L[i].w==3)):=by
 unfold isT;rw [List.getElem?_eq_getElem h]
theorem comesT_out {L:List TokP} (x:Int) {i:Nat} (h:¬ i<L.length):comesT L x i=false:=by
 unfold comesT;rw [List.getElem?_eq_none (by omega)]
set_option maxHeartbeats 8000000 in
set_option maxRecDepth 20000 in
theorem is_any (d:Nat) (L:List TokP) (lv:Value) (i:Nat) (b:Bool) (x:By) (w:World) (hR:Rd d lv i b w) (hT:Tk d L lv w) :
  Calls Tryz.prog 40 #[.pointer (some ⟨d,0,none⟩),.string (bstr x)] w (Idle (.bool (!b&&isT L x i)) w):=by
 have c0:=hR.c0
 have c1:=hR.c1
 have c2:=hR.c2
 obtain ⟨R,hR2⟩:∃ R,(!b&&isT L x i)=R:=⟨_,rfl⟩
 rw [hR2]
 cases b
 ·by_cases hi:i<L.length
  ·obtain ⟨g,off,cap,rfl,hgd,k0,k1,_,_⟩:=tk_word hT hi
   rw [isT_in x hi,Bool.not_false,Bool.true_and] at hR2
   generalize L[i]=t at k0 k1 hR2
   obtain ⟨tw,tt,tf,te⟩:=t
   dsimp only at k0 k1 hR2
   obtain ⟨y,hy⟩:∃ y:ByteArray,(⟨tt.toArray⟩:ByteArray)=y:=⟨_,rfl⟩
   obtain ⟨z,hz⟩:∃ y:ByteArray,bstr x=y:=⟨_,rfl⟩
   have hyl:tt=y.toList:=by rw [← hy,ByteArray.toList_eq]
   have hzl:x=z.toList:=by rw [← hz,ByteArray.toList_eq];rfl
   rw [hy] at k1
   rw [hz]
   rw [hyl,hzl] at hR2
   obtain ⟨n,hn⟩:∃ n,L.length=n:=⟨_,rfl⟩
   rw [hn] at hi c0
   clear hR hT hy hz hyl hzl hn
   obtain ⟨e1,he1⟩:∃ e,(y.toList==z.toList)=e:=⟨_,rfl⟩
   obtain ⟨e2,he2⟩:∃ e,(tw==4)=e:=⟨_,rfl⟩
   obtain ⟨e3,he3⟩:∃ e,(tw==3)=e:=⟨_,rfl⟩
   rw [he1,he2,he3] at hR2
   cases e1
   ·have HF:=hid (show R=false by rw [← hR2];rfl)
    clear hR2
    go_enter Tryz.func40,Tryz.ntmps40
    go_upto_region 1 with fail
    go_quiet (fail)
    go_wp2_with fail
    go_ret
    exact ⟨by rw [HF.out];rfl,_,rfl⟩
   ·cases e2
    ·cases e3
     ·have HF:=hid (show R=false by rw [← hR2];rfl)
      clear hR2
      go_enter Tryz.func40,Tryz.ntmps40
      go_upto_region 1 with fail
      go_quiet (fail)
      go_wp2_with fail
      go_ret
      exact ⟨by rw [HF.out];rfl,_,rfl⟩
     ·have HF:=hid (show R=true by rw [← hR2];rfl)
      clear hR2
      go_enter Tryz.func40,Tryz.ntmps40
      go_upto_region 1 with fail
      go_quiet (fail)
      go_wp2_with fail
      go_ret
      exact ⟨by rw [HF.out];rfl,_,rfl⟩
    ·have HF:=hid (show R=true by rw [← hR2];rfl)
     clear hR2
     go_enter Tryz.func40,Tryz.ntmps40
     go_upto_region 1 with fail
     go_quiet (fail)
     go_wp2_with fail
     go_ret
     exact ⟨by rw [HF.out];rfl,_,rfl⟩
  ·obtain ⟨la,cap,rfl,_⟩:=hT
   have HF:=hid (show R=false by rw [← hR2,isT_out x hi];rfl)
   obtain ⟨n,hn⟩:∃ n,L.length=n:=⟨_,rfl⟩
   rw [hn] at hi c0
   clear hR2 hR hn
   go_enter Tryz.func40,Tryz.ntmps40
   go_upto_region 1 with fail
   go_quiet (fail)
   go_wp2_with fail
   go_ret
   exact ⟨by rw [HF.out];rfl,_,rfl⟩
 ·have HF:=hid (show R=false by rw [← hR2];rfl)
  clear hR2 hR hT
  go_enter Tryz.func40,Tryz.ntmps40
  go_upto_region 1 with fail
  go_quiet (fail)
  go_wp2_with fail
  go_ret
  exact ⟨by rw [HF.out];rfl,_,rfl⟩
end Go.Proofs.YtojoahlpgmnbnaaGreatDoor.T
namespace Go.Proofs.YtojoahlpgmnbnaaGreatDoor.T
open Go.RowKit
open Go.Lib hiding intOf
open U S L
def Out.at {α:Type}:Out α→Nat
 | .ok _ i=>i
 | .bad i=>i
def Out.isBad {α:Type}:Out α→Bool
 | .ok _ _=>false
 | .bad _=>true
def start {α:Type} (b:Bool) (i:Nat) (o:Out α):Out α:=if b then .bad i else o
def Went (d:Nat) (lv:Value) (i:Nat) (b:Bool) (w w':World):Prop:=Rd d lv i b w'∧Mv w.heap.size d w w'
theorem Idle.went {R:Value} {d:Nat} {lv:Value} {i:Nat} {b:Bool} {w w':World} {e:Ending} (h:Idle R w e w') (hR:Rd d lv i b w):e=.returned R∧Went d lv i b w w':=by
 obtain ⟨h1,k,rfl⟩:=h
 exact ⟨h1,hR.drewN k,(Mv.refl _ _ _).drewN k⟩
end Go.Proofs.YtojoahlpgmnbnaaGreatDoor.T
namespace Go.Proofs.YtojoahlpgmnbnaaGreatDoor.T
open Go.RowKit
open Go.Lib hiding intOf
open U S L
set_option maxHeartbeats 8000000 in
set_option maxRecDepth 20000 in
theorem take_any (d:Nat) (L:List TokP) (lv:Value) (i:Nat) (b:Bool) (x:By) (w:World) (hR:Rd d lv i b w) (hT:Tk d L lv w) (hi:i≤1000000) :
  Calls Tryz.prog 62 #[.pointer (some ⟨d,0,none⟩),.string (bstr x)] w fun e w'=>e=.returned (.bool (!b&&isT L x i))∧Went d lv (if (!b&&isT L x i)=true then i+1 else i) b w w':=by
 have c1:=is_any d L lv i b x w hR hT
 obtain ⟨R,hR2⟩:∃ R,(!b&&isT L x i)=R:=⟨_,rfl⟩
 rw [hR2] at c1 ⊢
 have HR:=hid hR
 generalize bstr x=y at c1 ⊢
 clear hR2 hT
 cases R
 ·go_enter Tryz.func62,Tryz.ntmps62
  go_wp2_with fail
  refine c1.mono ?_
  intro e w1 h1
  obtain ⟨rfl,hw⟩:=h1.went HR.out
  have HW:=hid hw
  clear c1 h1 hw
  go_wp2_with fail
  go_ret
  exact ⟨rfl,HW.out⟩
 ·go_enter Tryz.func62,Tryz.ntmps62
  go_wp2_with fail
  refine c1.mono ?_
  intro e w1 h1
  obtain ⟨rfl,hw⟩:=h1.went HR.out
  have k1:=hw.1.c1
  have f1:=hw.1.f1
  have HW:=hid hw
  have e1:IntKind.i64.wrap ((i:Int)+1)=(i:Int)+1:=IntWalk.i64_in _ (by omega)
  clear c1 h1 hw hR
  go_wp2_with fail
  go_ret
  exact ⟨rfl,HW.out.1.set1 _ (by simp),HW.out.2.setCell 1 _⟩
theorem Went.at {d:Nat} {lv:Value} {i i':Nat} {b b':Bool} {w w':World} (h:Went d lv i b w w') (hi:i=i') (hb:b=b'):Went d lv i' b' w w':=by subst hi hb;exact h
theorem semiN_le (L:List TokP) (i:Nat):i+semiN L i≤max i L.length:=by
 unfold semiN
 have:=(List.takeWhile_sublist (fun t:TokP=>t.w==5) (l:=L.drop i)).length_le
 rw [List.length_drop] at this
 omega
def atR (d:Nat) (w:World):Nat:=match w.cell? ⟨d,1,none⟩ with
 | some (.int _ k)=>k.toNat
 | _=>0
theorem Rd.at {d:Nat} {lv:Value} {i:Nat} {b:Bool} {w:World} (h:Rd d lv i b w):atR d w=i:=by unfold atR;rw [h.c1];rfl
end Go.Proofs.YtojoahlpgmnbnaaGreatDoor.T
namespace Go.Proofs.YtojoahlpgmnbnaaGreatDoor.T
open Go.RowKit
open Go.Lib hiding intOf
open U S L
def PartV (W:World) (R:Nat→Prop) (o:Out Pt) (v:Value):Prop :=
 ∃ k t f e a n c,v=.agg #[.string k,.string t,.int .i64 f,.int .i64 e,.slice a n c]∧n≤1000000∧∀ p j,o=.ok p j→v=.agg (five p (.slice a n c)).toArray∧KidsIn W R p (.slice a n c)
end Go.Proofs.YtojoahlpgmnbnaaGreatDoor.T
namespace Go.Proofs.YtojoahlpgmnbnaaGreatDoor.T
open Go.Lib hiding intOf
open U S
structure Fw (L:List TokP) (i:Nat) {α:Type} (o:Out α):Prop where
 ge:i≤o.at
 le:o.at≤L.length
structure Fwd (L:List TokP) (i:Nat) {α:Type} (o:Out α):Prop extends Fw L i o where
 gt:o.isBad=false→i<o.at
section
variable {L:List TokP} {i j:Nat} {α β:Type}
theorem Fwd.bad (hi:i≤L.length):Fwd L i (.bad i:Out α):=⟨⟨Nat.le_refl _,hi⟩,fun h=>by cases h⟩
theorem Fw.ok (hij:i≤j) (hj:j≤L.length) (a:α):Fw L i (.ok a j):=⟨hij,hj⟩
theorem Fwd.ok (hij:i<j) (hj:j≤L.length) (a:α):Fwd L i (.ok a j):=⟨⟨Nat.le_of_lt hij,hj⟩,fun _=>hij⟩
theorem Fw.mono {o:Out α} (h:Fw L j o) (hij:i≤j):Fw L i o:=⟨Nat.le_trans hij h.ge,h.le⟩
theorem Fwd.mono {o:Out α} (h:Fwd L j o) (hij:i≤j):Fwd L i o:=⟨h.toFw.mono hij,fun hb=>Nat.lt_of_le_of_lt hij (h.gt hb)⟩
theorem Fw.strict {o:Out α} (h:Fw L j o) (hij:i<j):Fwd L i o:=⟨h.mono (Nat.le_of_lt hij),fun _=>Nat.lt_of_lt_of_le hij h.ge⟩
theorem Fwd.next {o:Out α} {f:α→Nat→Out β} (h:Fwd L i o) (hf:∀ a j,o=.ok a j→i<j→j≤L.length→Fw L j (f a j)):Fwd L i (o.next f):=by
 cases o with
 | ok a j=>exact (hf a j rfl (h.gt rfl) h.le).strict (h.gt rfl)
 | bad j=>exact ⟨⟨h.ge,h.le⟩,fun hb=>by cases hb⟩
theorem Fw.next {o:Out α} {f:α→Nat→Out β} (h:Fw L i o) (hf:∀ a j,o=.ok a j→i≤j→j≤L.length→Fw L j (f a j)):Fw L i (o.next f):=by
 cases o with
 | ok a j=>exact (hf a j rfl h.ge h.le).mono h.ge
 | bad j=>exact ⟨h.ge,h.le⟩
theorem isT_lt {x:By} (h:isT L x i=true):i<L.length:=by
 by_cases h1:i<L.length
 ·exact h1
 ·rw [isT_out x h1] at h;cases h
theorem comesT_lt {x:Int} (h:comesT L x i=true):i<L.length:=by
 by_cases h1:i<L.length
 ·exact h1
 ·rw [comesT_out x h1] at h;cases h
end
end Go.Proofs.YtojoahlpgmnbnaaGreatDoor.T
namespace Go.Proofs.YtojoahlpgmnbnaaGreatDoor.T
open Go.RowKit
open Go.Lib hiding intOf
open U S L
abbrev zeroP:Obj:=.cells #[.string ⟨#[]⟩,.string ⟨#[]⟩,.int .i64 0,.int .i64 0,.slice none 0 0] 49
structure Fol (L:List TokP) (i:Nat) (b:Bool) {α:Type} (o:Out α):Prop where
 ge:i≤o.at
 le:o.at≤L.length
 so:o.isBad=false→b=false
theorem Fol.begun {L:List TokP} {i:Nat} {b:Bool} {α:Type} {o:Out α} (hi:i≤L.length) (h:Fw L i o):Fol L i b (start b i o):=by
 cases b
 ·exact ⟨h.ge,h.le,fun _=>rfl⟩
 ·exact ⟨Nat.le_refl _,hi,fun h=>by cases h⟩
theorem Fol.step {L:List TokP} {i:Nat} {b:Bool} {α β:Type} {o:Out α} {u:Out β} (h:Fol L i b o) (hu:Fw L o.at u):Fol L i b (start o.isBad o.at u):=by
 cases hb:o.isBad
 ·exact ⟨Nat.le_trans h.ge hu.ge,hu.le,fun _=>h.so hb⟩
 ·exact ⟨h.ge,h.le,fun h=>by cases h⟩
theorem five_of {x:Pt} {k t:ByteArray} {f e:Int} {sl:Value} (hv:(.agg #[.string k,.string t,.int .i64 f,.int .i64 e,sl]:Value)=.agg (five x sl).toArray):[.string k,.string t,.int .i64 f,.int .i64 e,sl]=five x sl:=by
 have h1:=congrArg (fun v:Value=>match v with|.agg xs=>xs.toList|_=>[]) hv
 simpa using h1
end Go.Proofs.YtojoahlpgmnbnaaGreatDoor.T
namespace Go.Proofs.YtojoahlpgmnbnaaGreatDoor.T
open Go.Lib hiding intOf
open U S
section
variable (L:List TokP)
end
section
variable {L:List TokP}
theorem Fw.bad {α:Type} {i:Nat} (hi:i≤L.length):Fw L i (.bad i:Out α):=⟨Nat.le_refl _,hi⟩
structure AllFwd (L:List TokP) (n:Nat):Prop where
 expr:∀ i,i≤L.length→∀ than,Fwd L i (expr L n than i)
 exprs:∀ i,i≤L.length→∀ than f a,Fw L i (exprs L n than f a i)
 prefixT:∀ i,i≤L.length→Fwd L i (prefixT L n i)
 tails:∀ i,i≤L.length→∀ f a,Fw L i (tails L n f a i)
 operand:∀ i,i≤L.length→Fwd L i (operand L n i)
 args:∀ i,i≤L.length→∀ acc,Fwd L i (args L n i acc)
end
end Go.Proofs.YtojoahlpgmnbnaaGreatDoor.T
namespace Go.Proofs.YtojoahlpgmnbnaaGreatDoor.T
open Go.RowKit
open Go.Lib hiding intOf
open U S L
mutual
theorem KidsIn.live {W:World} {R:Nat→Prop}:∀ (p:Pt) (lv:Value),KidsIn W R p lv→KidsIn W (fun g=>R g∧g<W.heap.size) p lv
 | .mk k t f e ks,lv,h=>by
  obtain ⟨a,cap,h1,h0,h2⟩:=h
  refine ⟨a,cap,h1,h0,?_⟩
  rcases h2 with h2|⟨g,off,xs,h3,h4,h5,h6⟩
  ·exact .inl h2
  ·cases ks with
   | nil=>exact .inl rfl
   | cons p r =>
    refine .inr ⟨g,off,xs,h3,⟨h4,?_⟩,h5,PartsIn.live (p :: r) xs h6⟩
    have hl:=PartsIn.length h6
    have h7:0<xs.length:=by rw [hl,List.length_cons];omega
    exact World.block_lt_of_cell? W _ (h5 0 _ (List.getElem?_eq_getElem h7))
theorem PartsIn.live {W:World} {R:Nat→Prop}:∀ (l:List Pt) (xs:List Value),PartsIn W R l xs→PartsIn W (fun g=>R g∧g<W.heap.size) l xs
 | [],_,h=>h
 | p :: r,xs,h=>by
  obtain ⟨lv,rest,h1,h2,h3⟩:=h
  exact ⟨lv,rest,h1,KidsIn.live p lv h2,PartsIn.live r rest h3⟩
end
end Go.Proofs.YtojoahlpgmnbnaaGreatDoor.T
namespace Go.Proofs.YtojoahlpgmnbnaaGreatDoor.T
open Go.RowKit
open Go.Lib hiding intOf
open U S L
theorem PartV.later {W W':World} {R R':Nat→Prop} {o:Out Pt} {v:Value} (h:PartV W R o v) (hs:Still R W W') (hR:∀ g,R g→R' g):PartV W' R' o v:=by
 obtain ⟨k,t,f,e,a,n,c,h1,h2,h3⟩:=h
 exact ⟨k,t,f,e,a,n,c,h1,h2,fun p j hp=>⟨(h3 p j hp).1,(h3 p j hp).2.later hs hR⟩⟩
theorem wanted_step {c:Prop} [Decidable c] {A B:Prop} (hc:c) (hA:A):if c then A else B:=by rw [if_pos hc];exact hA
structure ExprInv (d:Nat) (L:List TokP) (lv:Value) (n i:Nat) (b:Bool) (than fr:Int) (O:Out Pt) (w W1:World) (q:Nat) (o:Out Pt) (k t:ByteArray) (f e:Int) (sl:Option Addr) (sn sc:Nat) (m:Nat) (W:World):Prop where
 out:O=o.next fun a j=>exprs L m than fr a j
 rd:Rd d lv o.at o.isBad W
 mv:Mv W1.heap.size d W1 W
 box:W.heap[q]?=some (.cells #[.string k,.string t,.int .i64 f,.int .i64 e,.slice sl sn sc] 49 (0,0))
 part:PartV W (fun g=>w.heap.size<g∧g≠q) o (.agg #[.string k,.string t,.int .i64 f,.int .i64 e,.slice sl sn sc])
 le:o.at≤L.length
 gt:o.isBad=false→i<o.at
 fuel:o.isBad=false→m<n∧8*(L.length - o.at)+3≤m
end Go.Proofs.YtojoahlpgmnbnaaGreatDoor.T
namespace Go.Proofs.YtojoahlpgmnbnaaGreatDoor.T
open Go.RowKit
open Go.Lib hiding intOf
open U S L
structure Boxed (d:Nat) (lv:Value) (i:Nat) (b:Bool) (q:Nat) (cs new:Array Value) (WA WF:World):Prop where
 rd:Rd d lv i b WF
 box:WF.heap[q]?=some (.cells new 49 (0,0))
 row:WF.heap[WA.heap.size]?=some (.cells cs 49 (0,0))
 far:∀ g,g<WA.heap.size→g≠q→g≠d→WF.heap[g]?=WA.heap[g]?
 mv:∀ B,B≤q→Mv B d WA WF
structure TailInv (d:Nat) (L:List TokP) (lv:Value) (i:Nat) (fr:Int) (O:Out Pt) (w W1:World) (n q:Nat) (more:Bool) (o:Out Pt) (k t:ByteArray) (f e:Int) (sl:Option Addr) (sn sc m:Nat) (W:World):Prop where
 out:O=if more then o.next fun a j=>tails L m fr a j else o
 rd:Rd d lv o.at o.isBad W
 mv:Mv W1.heap.size d W1 W
 box:W.heap[q]?=some (.cells #[.string k,.string t,.int .i64 f,.int .i64 e,.slice sl sn sc] 49 (0,0))
 part:PartV W (fun g=>w.heap.size<g∧g≠q) o (.agg #[.string k,.string t,.int .i64 f,.int .i64 e,.slice sl sn sc])
 le:o.at≤L.length
 gt:o.isBad=false→i<o.at
 fuel:o.isBad=false→m<n∧8*(L.length - o.at)+1≤m
theorem TailInv.moved {d:Nat} {L:List TokP} {lv:Value} {i:Nat} {fr:Int} {O:Out Pt} {w W1:World} {n q:Nat} {more more':Bool} {o:Out Pt} {k t:ByteArray} {f e:Int} {sl:Option Addr} {sn sc m:Nat} {W W':World}
  (h:TailInv d L lv i fr O w W1 n q more o k t f e sl sn sc m W) (hm:Mv W.heap.size d W W') (hr:Rd d lv o.at o.isBad W') (hd:d≤w.heap.size) (hqd:q≠d) (ho:O=if more' then o.next fun a j=>tails L m fr a j else o):TailInv d L lv i fr O w W1 n q more' o k t f e sl sn sc m W' :=
 ⟨ho,hr,h.mv.trans (hm.mono h.mv.size),(hm.block q (Array.getElem?_eq_some_iff.1 h.box).1 hqd).trans h.box,h.part.later (fun g hg hl=>hm.block g hl (by omega)) (fun _ hg=>hg),h.le,h.gt,h.fuel⟩
end Go.Proofs.YtojoahlpgmnbnaaGreatDoor.T
namespace Go.Proofs.YtojoahlpgmnbnaaGreatDoor.T
open Go.RowKit
open Go.Lib hiding intOf
open U S L
def Fives:Nat→List Value→Prop
 | 0,xs=>xs=[]
 | n+1,xs=>∃ ys k t f e a m c,Fives n ys∧xs=ys++[.string k,.string t,.int .i64 f,.int .i64 e,.slice a m c]
theorem Fives.length:∀ {n:Nat} {xs:List Value},Fives n xs→xs.length=n*5
 | 0,_,h=>by rw [show _=[] from h];rfl
 | n+1,xs,h=>by
  obtain ⟨ys,k,t,f,e,a,m,c,h1,rfl⟩:=h
  have:=h1.length
  simp [this];omega
theorem Fives.first:∀ {n:Nat} {xs:List Value},Fives (n+1) xs→∃ f,xs[2]?=some (.int .i64 f)
 | 0,_,h=>by
  obtain ⟨ys,k,t,f,e,a,m,c,h1,rfl⟩:=h
  rw [show ys=[] from h1]
  exact ⟨f,rfl⟩
 | n+1,_,h=>by
  obtain ⟨ys,k,t,f,e,a,m,c,h1,rfl⟩:=h
  obtain ⟨g,hg⟩:=h1.first
  refine ⟨g,?_⟩
  rw [List.getElem?_append_left (by have:=h1.length;omega)]
  exact hg
theorem Fives.last {n:Nat} {xs:List Value} (h:Fives (n+1) xs):∃ e,xs[n*5+3]?=some (.int .i64 e):=by
 obtain ⟨ys,k,t,f,e,a,m,c,h1,rfl⟩:=h
 refine ⟨e,?_⟩
 rw [List.getElem?_append_right (by have:=h1.length;omega),h1.length,Nat.add_sub_cancel_left]
 rfl
structure ListV (B:Nat) (o:Out (List Pt)) (v:Value) (n:Nat) (xs:List Value) (W:World):Prop where
 own:W.ownsRow B 49 5 v n xs
 fives:Fives n xs
 parts:∀ l j,o=.ok l j→l.length=n∧PartsIn W (fun g=>B≤g∧g<W.heap.size∧v.ownBlock≠some g) l xs
theorem ListV.nil (B:Nat) (j:Nat) (W:World):ListV B (.ok [] j) (.slice none 0 0) 0 [] W :=
 ⟨World.ownsRow_nil _ _ _ _,rfl,fun l j h=>by cases h;exact ⟨rfl,rfl⟩⟩
theorem ListV.out {B:Nat} {o o':Out (List Pt)} {v:Value} {n:Nat} {xs:List Value} {W:World} (h:ListV B o v n xs W) (ho:∀ l j,o'=.ok l j→∃ j',o=.ok l j'):ListV B o' v n xs W :=
 ⟨h.own,h.fives,fun l j hl=>by obtain ⟨j',h'⟩:=ho l j hl;exact h.parts l j' h'⟩
theorem ListV.mv {B d:Nat} {o:Out (List Pt)} {v:Value} {n:Nat} {xs:List Value} {W W':World} (h:ListV B o v n xs W) (hm:Mv W.heap.size d W W') (hd:d<B):ListV B o v n xs W':=by
 refine ⟨⟨h.own.1,?_⟩,h.fives,fun l j hl=>⟨(h.parts l j hl).1,PartsIn.later (fun g hg hgl=>hm.block g hgl (by omega)) (fun g hg=>⟨hg.1,Nat.lt_of_lt_of_le hg.2.1 hm.size,hg.2.2⟩) _ _ (h.parts l j hl).2⟩⟩
 rcases h.own.2 with h1|⟨g,cap,cur,rfl,h2,h3,h4⟩
 ·exact .inl h1
 ·exact .inr ⟨g,cap,cur,rfl,h2,(hm.block g (Array.getElem?_eq_some_iff.1 h3).1 (by omega)).trans h3,h4⟩
theorem ListV.snoc {B C:Nat} {o o':Out (List Pt)} {ob:Out Pt} {v v':Value} {n m c:Nat} {xs:List Value} {k t:ByteArray} {f e:Int} {a:Option Addr} {W5 W6 X Y:World} (h:ListV B o v n xs X)
  (h5:ListV B o v n xs W5) (hC:W5.heap.size≤C) (hB:B≤C)
  (hv:∀ p j,ob=.ok p j→(.agg #[.string k,.string t,.int .i64 f,.int .i64 e,.slice a m c]:Value)=.agg (five p (.slice a m c)).toArray∧KidsIn W6 (fun g=>C≤g) p (.slice a m c)) (hX:Below W6.heap.size W6 X)
  (hown:Y.ownsRow B 49 5 v' (n+1) (xs++[.string k,.string t,.int .i64 f,.int .i64 e,.slice a m c])) (hgrow:X.grownBy Y v.ownBlock) (hrow:v'.ownBlock=v.ownBlock∨v'.ownBlock=some X.heap.size)
  (ho:∀ l j,o'=.ok l j→∃ l0 j0 p jp,o=.ok l0 j0∧ob=.ok p jp∧l=l0++[p]):ListV B o' v' (n+1) (xs++[.string k,.string t,.int .i64 f,.int .i64 e,.slice a m c]) Y:=by
 refine ⟨hown,⟨xs,k,t,f,e,a,m,c,h.fives,rfl⟩,fun l j hl=>?_⟩
 obtain ⟨l0,j0,p,jp,h1,h2,rfl⟩:=ho l j hl
 obtain ⟨e1,e2⟩:=h.parts l0 j0 h1
 obtain ⟨e3,e4⟩:=hv p jp h2
 refine ⟨by simp [e1],?_⟩
 rw [five_of e3]
 have hne:∀ g,g<X.heap.size→v.ownBlock≠some g→v'.ownBlock≠some g:=fun g hg hn=>by
  rcases hrow with hr|hr
  ·rw [hr];exact hn
  ·rw [hr];intro h';injection h' with h';omega
 refine PartsIn.snoc (PartsIn.later (fun g hg hgl=>hgrow.block g hgl (fun h'=>hg.2.2 h'.symm)) (fun g hg=>⟨hg.1,Nat.lt_of_lt_of_le hg.2.1 hgrow.size,hne g hg.2.1 hg.2.2⟩) _ _ e2) ?_
 have hvn:∀ g,C≤g→v.ownBlock≠some g:=fun g hg h'=>by have:=(h5.own.lt g h').2;omega
 have hxs:=hX.size
 refine ((KidsIn.live _ _ e4).later (W':=X) (R':=fun g=>C≤g∧g<X.heap.size) (fun g hg hgl=>hX.block g hgl) (fun g hg=>⟨hg.1,by omega⟩)).later (fun g hg hgl=>hgrow.block g hgl (fun h'=>hvn g hg.1 h'.symm)) (fun g hg=>⟨by omega,Nat.lt_of_lt_of_le hg.2 hgrow.size,hne g hg.2 (hvn g hg.1)⟩)
structure LoopInv (d:Nat) (L:List TokP) (lv:Value) (W1:World) (OL:Out (List Pt)) (step:Nat→Nat→List Pt→Out (List Pt)) (lo mx:Nat) (fin:Bool) (o:Out (List Pt)) (v:Value) (n:Nat) (xs:List Value) (m:Nat) (W:World):Prop where
 out:OL=if fin then o else o.next fun l j=>step m j l
 rd:Rd d lv o.at o.isBad W
 mv:Mv W1.heap.size d W1 W
 list:ListV W1.heap.size o v n xs W
 le:o.at≤L.length
 lo:lo≤o.at
 cnt:n+(if o.isBad then 0 else 1)≤o.at
 fuel:fin=false→o.isBad=false→8*(L.length - o.at)+5≤m∧m≤mx
end Go.Proofs.YtojoahlpgmnbnaaGreatDoor.T
namespace Go.Proofs.YtojoahlpgmnbnaaGreatDoor.T
open Go.RowKit
open Go.Lib hiding intOf
open U S L
section
variable (L:List TokP)
theorem semi_le {j:Nat} (hj:j≤L.length):j+semiN L j≤L.length:=by have:=semiN_le L j;omega
structure AllFwdS (n:Nat):Prop where
 block:∀ i,i≤L.length→Fwd L i (block L n i)
 stmts:∀ i,i≤L.length→∀ acc,Fw L i (stmts L n i acc)
 branch:∀ i,i≤L.length→Fwd L i (branch L n i)
 stmt:∀ i,i≤L.length→Fwd L i (stmt L n i)
end
end Go.Proofs.YtojoahlpgmnbnaaGreatDoor.T
namespace Go.Proofs.YtojoahlpgmnbnaaGreatDoor.T
open Go.RowKit
open Go.Lib hiding intOf
open U S L
theorem ListV.made {B n:Nat} {W Z:World} {cs:Array Value} {o:Out (List Pt)} (hZ:W.alloc (.cells cs 49)=Z) (hB:B≤W.heap.size) (hs:cs.size=n*5) (hn:n≤1000) (h5:Fives n cs.toList)
  (h:∀ l j,o=.ok l j→l.length=n∧PartsIn W (fun g=>B≤g∧g<W.heap.size) l cs.toList):ListV B o (.slice (some ⟨W.heap.size,0,none⟩) n n) n cs.toList Z:=by
 subst hZ
 refine ⟨World.ownsRow_lit W cs n hB (by unfold maxLen;omega) hs,h5,fun l j hl=>⟨(h l j hl).1,?_⟩⟩
 refine PartsIn.later (fun g hg hgl=>heap_alloc_old W _ hgl) (fun g hg=>⟨hg.1,by simp;omega,fun h'=>?_⟩) _ _ (h l j hl).2
 simp only [Value.ownBlock,Option.some.injEq] at h'
 omega
end Go.Proofs.YtojoahlpgmnbnaaGreatDoor.T
namespace Go.Proofs.YtojoahlpgmnbnaaGreatDoor.T
open Go.RowKit
open Go.Lib hiding intOf
open U S L
def Out.by':Out By→By
 | .ok s _=>s
 | .bad _=>[]
end Go.Proofs.YtojoahlpgmnbnaaGreatDoor.T
namespace Go.Proofs.YtojoahlpgmnbnaaGreatDoor.T
open Go.RowKit
open Go.Lib hiding intOf
open U S L
theorem ListV.kids {B:Nat} {o:Out (List Pt)} {n:Nat} {xs:List Value} {W:World} {a:Option Addr} {c j:Nat} {ks:List Pt} {R:Nat→Prop} (h:ListV B o (.slice a n c) n xs W) (ho:o=.ok ks j) (hR:∀ g,B≤g→R g) (K T:By) (F E:Int):KidsIn W R (.mk K T F E ks) (.slice a n c):=by
 obtain ⟨e1,e2⟩:=h.parts ks j ho
 rcases h.own.2 with ⟨h1,h2⟩|⟨g,cap,cur,h1,h2,h3,h4,_,_,h6⟩
 ·cases h1
  have hk:ks=[]:=List.eq_nil_of_length_eq_zero (by omega)
  subst hk
  exact ⟨_,_,by rw [List.length_nil,← h2],by omega,.inl rfl⟩
 ·cases h1
  refine ⟨_,_,by rw [e1],by omega,.inr ⟨g,0,xs,rfl,hR g h2,fun j u hj=>?_,PartsIn.later (fun _ _ _=>rfl) (fun g hg=>hR g hg.1) _ _ e2⟩⟩
  unfold World.cell?
  rw [h3]
  rw [← h6,List.getElem?_take] at hj
  split at hj
  ·simpa using hj
  ·cases hj
theorem parts_at {W:World} {R:Nat→Prop}:∀ {l:List Pt} {xs:List Value} {i:Nat} {K T:By} {F E:Int} {ks:List Pt},PartsIn W R l xs→l[i]?=some (.mk K T F E ks)→xs[i*5+2]?=some (.int .i64 F)∧xs[i*5+3]?=some (.int .i64 E)
 | [],_,_,_,_,_,_,_,_,h=>by simp at h
 | .mk k t f e ks :: r,xs,0,K,T,F,E,ks',h,hi=>by
  obtain ⟨lv,rest,rfl,h2,h3⟩:=h
  simp only [List.getElem?_cons_zero,Option.some.injEq,Pt.mk.injEq] at hi
  obtain ⟨_,_,rfl,rfl,_⟩:=hi
  exact ⟨rfl,rfl⟩
 | p :: r,xs,i+1,K,T,F,E,ks',h,hi=>by
  obtain ⟨lv,rest,rfl,h2,h3⟩:=h
  rw [List.getElem?_cons_succ] at hi
  obtain ⟨a1,a2⟩:=parts_at h3 hi
  have hl:=five_length p lv
  constructor
  ·rw [List.getElem?_append_right (by omega),hl,show (i+1)*5+2 - 5=i*5+2 by omega];exact a1
  ·rw [List.getElem?_append_right (by omega),hl,show (i+1)*5+3 - 5=i*5+3 by omega];exact a2
end Go.Proofs.YtojoahlpgmnbnaaGreatDoor.T
namespace Go.Proofs.YtojoahlpgmnbnaaGreatDoor.T
open Go.RowKit
open Go.Lib hiding intOf
open U S L
open Go.Proofs.YtojoahlpgmnbnaaGreatDoor.K (fate declP tok Fate)
theorem tok_in {L:List TokP} {size j:Nat} (h:j<L.length):(tok L size j).f=L[j].f:=by
 unfold K.tok
 rw [List.getElem?_eq_getElem h];rfl
theorem tok_out {L:List TokP} {size j:Nat} (h:¬ j<L.length):(tok L size j).f=size:=by
 unfold K.tok
 rw [List.getElem?_eq_none (by omega)];rfl
end Go.Proofs.YtojoahlpgmnbnaaGreatDoor.T
namespace Go.Proofs.YtojoahlpgmnbnaaGreatDoor.Ud
open Go.RowKit
open Go.Lib hiding intOf
open U S Q T J
open Go.Proofs.YtojoahlpgmnbnaaGreatDoor.K (owns_ty DeclOwn)
theorem rowsV_app:∀ (a b:List (DcP × Value)),rowsV (a++b)=rowsV a++rowsV b
 | [],_=>rfl
 | d :: r,b=>by rw [List.cons_append,rowsV,rowsV,rowsV_app r b,List.append_assoc]
structure RowK (B:Nat) (W:World) (v:Value) (n:Nat) (L:List (DcP × Value)):Prop where
 len:L.length=n
 row:W.ownsRow B 60 10 v n (rowsV L)
 kids:∀ x∈L,KidsIn W (fun k=>v.ownBlock≠some k∧k<W.heap.size) x.1.p x.2
theorem RowK.nil (B:Nat) (W:World):RowK B W (.slice none 0 0) 0 []:=⟨rfl,World.ownsRow_nil _ _ _ _,fun _ h=>absurd h (List.not_mem_nil)⟩
theorem RowK.later {B:Nat} {W W':World} {v:Value} {n:Nat} {L:List (DcP × Value)} (h:RowK B W v n L) (hb:Below W.heap.size W W'):RowK B W' v n L :=
 ⟨h.len,owns_later h.row hb,fun x hx=>KidsIn.later (fun b hb' _=>hb.block b hb'.2) (fun k hk=>⟨hk.1,Nat.lt_of_lt_of_le hk.2 hb.size⟩) _ _ (h.kids x hx)⟩
theorem RowK.add {B:Nat} {W W':World} {v:Value} {n g c:Nat} {L:List (DcP × Value)} {d:DcP} {lv:Value} (h:RowK B W v n L) (hk:KidsIn W (fun k=>v.ownBlock≠some k∧k<W.heap.size) d.p lv)
  (hown:W'.ownsRow B 60 10 (.slice (some ⟨g,0,none⟩) (n+1) c) (n+1) (rowsV L++rowsV [(d,lv)])) (hgrow:W.grownBy W' v.ownBlock) (hat:v.ownBlock=some g∨g=W.heap.size):RowK B W' (.slice (some ⟨g,0,none⟩) (n+1) c) (n+1) (L++[(d,lv)]):=by
 have keep:∀ {p:Pt} {lv:Value},KidsIn W (fun k=>v.ownBlock≠some k∧k<W.heap.size) p lv→KidsIn W' (fun k=>(Value.slice (some ⟨g,0,none⟩) (n+1) c).ownBlock≠some k∧k<W'.heap.size) p lv:=fun hk =>
  KidsIn.later (fun b hb _=>hgrow.block b hb.2 (fun e=>hb.1 e.symm)) (fun k hk=>⟨fun e=>by
   have e:g=k:=by simpa [Value.ownBlock] using e
   rcases hat with h1|h1
   ·exact hk.1 (by rw [h1,e])
   ·omega,Nat.lt_of_lt_of_le hk.2 hgrow.size⟩) _ _ hk
 refine ⟨by rw [List.length_append,h.len];rfl,by rw [rowsV_app];exact hown,fun x hx=>?_⟩
 rcases List.mem_append.1 hx with hx|hx
 ·exact keep (h.kids x hx)
 ·rw [List.mem_singleton] at hx
  subst hx
  exact keep hk
end Go.Proofs.YtojoahlpgmnbnaaGreatDoor.Ud
namespace Go.Proofs.YtojoahlpgmnbnaaGreatDoor.Ud
open Go.RowKit
open Go.Lib hiding intOf
open U S Q T J
open Go.Proofs.YtojoahlpgmnbnaaGreatDoor.K (MTab)
theorem okd_big {D:List DcP} (h:Okd D):∀ d∈D,wtP d.p≤1099511627776:=fun d hd=>Nat.le_trans (okd_part h d hd).2 (by decide)
end Go.Proofs.YtojoahlpgmnbnaaGreatDoor.Ud
