/- What the claim needs of the texts MCTree, MLaid. -/
import Derived.Test.YtpbnhnilfpoljaaGreatDoorRB25
import Derived.Test.YtpbnhnilfpoljaaGreatDoorRB12
import Derived.Test.YtpbnhnilfpoljaaGreatDoorRows
import Derived.Test.YtpbnhnilfpoljaaGreatDoorRB1
import Derived.Test.YtpbnhnilfpoljaaGreatDoorRB8
import Derived.Test.YtpbnhnilfpoljaaGreatDoorRB23
import Derived.OpenShut
import Derived.Lib.LaidTab
import Derived.Lib.LaidU8T
import Derived.Stop.LaidErr
import Derived.PinnedBridge
namespace Go.Proofs.YtpbnhnilfpoljaaGreatDoor.M
open Go.Proofs Go.RowKit Go.ChangeShapes Go.WideShapes Go.ChangeAt
open Go.Lib Go.Proofs.YtpbnhnilfpoljaaGreatDoor.V
theorem two_list {α:Type} {l:List α} (h:l.length=2):∃ a0 a1,l=[a0,a1]:=by
 match l,h with
 | [a0,a1],_=>exact ⟨a0,a1,rfl⟩
theorem three_list {α:Type} {l:List α} (h:l.length=3):∃ a0 a1 a2,l=[a0,a1,a2]:=by
 match l,h with
 | [a0,a1,a2],_=>exact ⟨a0,a1,a2,rfl⟩
theorem five_list {α:Type} {l:List α} (h:l.length=5):∃ a0 a1 a2 a3 a4,l=[a0,a1,a2,a3,a4]:=by
 match l,h with
 | [a0,a1,a2,a3,a4],_=>exact ⟨a0,a1,a2,a3,a4,rfl⟩
theorem eight_list {α:Type} {l:List α} (h:l.length=8):∃ a0 a1 a2 a3 a4 a5 a6 a7,l=[a0,a1,a2,a3,a4,a5,a6,a7]:=by
 match l,h with
 | [a0,a1,a2,a3,a4,a5,a6,a7],_=>exact ⟨a0,a1,a2,a3,a4,a5,a6,a7,rfl⟩
theorem nineteen_list {α:Type} {l:List α} (h:l.length=19):∃ a0 a1 a2 a3 a4 a5 a6 a7 a8 a9 a10 a11 a12 a13 a14 a15 a16 a17 a18,l=[a0,a1,a2,a3,a4,a5,a6,a7,a8,a9,a10,a11,a12,a13,a14,a15,a16,a17,a18]:=by
 match l,h with
 | [a0,a1,a2,a3,a4,a5,a6,a7,a8,a9,a10,a11,a12,a13,a14,a15,a16,a17,a18],_=>exact ⟨a0,a1,a2,a3,a4,a5,a6,a7,a8,a9,a10,a11,a12,a13,a14,a15,a16,a17,a18,rfl⟩
theorem six_listC {α:Type} {l:List α} (h:l.length=6):∃ a0 a1 a2 a3 a4 a5,l=[a0,a1,a2,a3,a4,a5]:=by
 match l,h with
 | [a0,a1,a2,a3,a4,a5],_=>exact ⟨a0,a1,a2,a3,a4,a5,rfl⟩
theorem place_of {H:Type} {enc:TypeId × Value→H} {W:World} {held:Bool} {fuel:Nat} {cs:List Value} {x:DataW H × List MemPlace} (h:DataW.trod enc Tryz.prog W 0 (fun _=>true) held fuel 29 cs=some x) :
  ∃ a b,cs=[.int .i64 a,.int .i64 b]:=by
 obtain ⟨xs,n,rfl,rfl,hcl,hxl,hfd⟩:=DataW.trod_struct Tryz.underlying29 h
 rw [show Tryz.prog.cellsOf 29=2 by kernel_rfl] at hcl
 obtain ⟨c0,c1,rfl⟩:=two_list hcl
 obtain ⟨y0,y1,rfl⟩:=two_list (hxl.trans rfl)
 have f0:=hfd 0 _ rfl
 have g0:DataW.trod enc Tryz.prog W 0 (fun _=>true) held n 3 (([c0,c1].drop 0).take (Tryz.prog.cellsOf 3))=some y0:=f0
 rw [show Tryz.prog.cellsOf 3=1 by kernel_rfl] at g0
 replace g0:DataW.trod enc Tryz.prog W 0 (fun _=>true) held n 3 [c0]=some y0:=g0
 clear f0
 have f1:=hfd 1 _ rfl
 have g1:DataW.trod enc Tryz.prog W 0 (fun _=>true) held n 3 (([c0,c1].drop 1).take (Tryz.prog.cellsOf 3))=some y1:=f1
 rw [show Tryz.prog.cellsOf 3=1 by kernel_rfl] at g1
 replace g1:DataW.trod enc Tryz.prog W 0 (fun _=>true) held n 3 [c1]=some y1:=g1
 clear f1
 obtain ⟨a,h0,_,_⟩:=DataW.trod_int Tryz.underlying3 g0
 obtain ⟨b,h1,_,_⟩:=DataW.trod_int Tryz.underlying3 g1
 cases h0;cases h1
 exact ⟨a,b,rfl⟩
theorem apiedit_of {H:Type} {enc:TypeId × Value→H} {W:World} {held:Bool} {fuel:Nat} {cs:List Value} {x:DataW H × List MemPlace} (h:DataW.trod enc Tryz.prog W 0 (fun _=>true) held fuel 69 cs=some x) :
  ∃ (p q:PlaceP) (t:List UInt8),cs=[.int .i64 p.line,.int .i64 p.unit,.int .i64 q.line,.int .i64 q.unit,strCell t]∧1+t.length≤Rows.uptoBulk x.1:=by
 obtain ⟨xs,n,rfl,rfl,hcl,hxl,hfd⟩:=DataW.trod_struct Tryz.underlying69 h
 rw [show Tryz.prog.cellsOf 69=5 by kernel_rfl] at hcl
 obtain ⟨c0,c1,c2,c3,c4,rfl⟩:=five_list hcl
 obtain ⟨y0,y1,y2,rfl⟩:=three_list (hxl.trans rfl)
 have f0:=hfd 0 _ rfl
 have g0:DataW.trod enc Tryz.prog W 0 (fun _=>true) held n 29 (([c0,c1,c2,c3,c4].drop 0).take (Tryz.prog.cellsOf 29))=some y0:=f0
 rw [show Tryz.prog.cellsOf 29=2 by kernel_rfl] at g0
 replace g0:DataW.trod enc Tryz.prog W 0 (fun _=>true) held n 29 [c0,c1]=some y0:=g0
 clear f0
 have f1:=hfd 1 _ rfl
 have g1:DataW.trod enc Tryz.prog W 0 (fun _=>true) held n 29 (([c0,c1,c2,c3,c4].drop 2).take (Tryz.prog.cellsOf 29))=some y1:=f1
 rw [show Tryz.prog.cellsOf 29=2 by kernel_rfl] at g1
 replace g1:DataW.trod enc Tryz.prog W 0 (fun _=>true) held n 29 [c2,c3]=some y1:=g1
 clear f1
 have f2:=hfd 2 _ rfl
 have g2:DataW.trod enc Tryz.prog W 0 (fun _=>true) held n 9 (([c0,c1,c2,c3,c4].drop 4).take (Tryz.prog.cellsOf 9))=some y2:=f2
 rw [show Tryz.prog.cellsOf 9=1 by kernel_rfl] at g2
 replace g2:DataW.trod enc Tryz.prog W 0 (fun _=>true) held n 9 [c4]=some y2:=g2
 clear f2
 obtain ⟨a,b,h0⟩:=place_of g0
 obtain ⟨c,d,h1⟩:=place_of g1
 obtain ⟨ts,h2,e2,_⟩:=DataW.trod_string Tryz.underlying9 g2
 cases h0;cases h1;cases h2
 subst e2
 refine ⟨⟨a,b⟩,⟨c,d⟩,ts.data.toList,by simp only [strCell,mk_back],?_⟩
 simp only [Rows.uptoBulk,Rows.uptoBulkAll,List.map_cons,List.map_nil]
 omega
theorem edit_of {H:Type} {enc:TypeId × Value→H} {W:World} {held:Bool} {fuel:Nat} {cs:List Value} {x:DataW H × List MemPlace} (h:DataW.trod enc Tryz.prog W 0 (fun _=>true) held fuel 71 cs=some x) :
  ∃ e:EditP,cs=editC e∧1+e.text.length≤Rows.uptoBulk x.1:=by
 obtain ⟨xs,n,rfl,rfl,hcl,hxl,hfd⟩:=DataW.trod_struct Tryz.underlying71 h
 rw [show Tryz.prog.cellsOf 71=6 by kernel_rfl] at hcl
 obtain ⟨c0,c1,c2,c3,c4,c5,rfl⟩:=six_listC hcl
 obtain ⟨y0,y1,rfl⟩:=two_list (hxl.trans rfl)
 have f0:=hfd 0 _ rfl
 have g0:DataW.trod enc Tryz.prog W 0 (fun _=>true) held n 69 (([c0,c1,c2,c3,c4,c5].drop 0).take (Tryz.prog.cellsOf 69))=some y0:=f0
 rw [show Tryz.prog.cellsOf 69=5 by kernel_rfl] at g0
 replace g0:DataW.trod enc Tryz.prog W 0 (fun _=>true) held n 69 [c0,c1,c2,c3,c4]=some y0:=g0
 clear f0
 have f1:=hfd 1 _ rfl
 have g1:DataW.trod enc Tryz.prog W 0 (fun _=>true) held n 4 (([c0,c1,c2,c3,c4,c5].drop 5).take (Tryz.prog.cellsOf 4))=some y1:=f1
 rw [show Tryz.prog.cellsOf 4=1 by kernel_rfl] at g1
 replace g1:DataW.trod enc Tryz.prog W 0 (fun _=>true) held n 4 [c5]=some y1:=g1
 clear f1
 obtain ⟨p,q,ts,h0,hb⟩:=apiedit_of g0
 obtain ⟨wh,h1,e1⟩:=DataW.trod_bool Tryz.underlying4 g1
 cases h0;cases h1
 refine ⟨⟨p,q,ts,wh⟩,rfl,?_⟩
 simp only [Rows.uptoBulk,Rows.uptoBulkAll,List.map_cons,List.map_nil]
 omega
theorem edits_of {H:Type} {W:World} {g off:Nat} (E:List (DataW H × List MemPlace)):∀ m,m≤E.length→(∀ i (h:i<m) (hE:i<E.length),∃ e:EditP,(∀ j u,(editC e)[j]?=some u→W.cell? ⟨g,off+i*6+j,none⟩=some u)∧1+e.text.length≤Rows.uptoBulk E[i].1) →
  ∃ l:List EditP,l.length=m∧CellsAt W g off (editCs l)∧wtE l≤Rows.uptoBulkAll ((E.take m).map (·.1))
 | 0,_,_=>⟨[],rfl,fun j u hj=>by simp [editCs] at hj,by simp [wtE]⟩
 | m+1,hm,h=>by
  obtain ⟨l,h1,h2,h4⟩:=edits_of E m (by omega) (fun i hi hE=>h i (by omega) hE)
  obtain ⟨e,h5,h7⟩:=h m (by omega) (by omega)
  have hlen:=editCs_length l
  refine ⟨l++[e],by simp [h1],?_,?_⟩
  ·rw [editCs_snoc]
   intro j u hj
   by_cases hj2:j<(editCs l).length
   ·rw [List.getElem?_append_left hj2] at hj
    exact h2 j u hj
   ·rw [List.getElem?_append_right (by omega)] at hj
    have:=h5 _ u hj
    rw [show off+m*6+(j - (editCs l).length)=off+j by omega] at this
    exact this
  ·rw [wtE_app,List.take_succ_eq_append_getElem (by omega),List.map_append,List.map_singleton,bulkAll_snoc]
   simp only [wtE]
   omega
theorem changes_of {H:Type} {enc:TypeId × Value→H} {W:World} {held:Bool} {fuel:Nat} {c:Value} {x:DataW H × List MemPlace} (h:DataW.trod enc Tryz.prog W 0 (fun _=>true) held fuel 27 [c]=some x) :
  ∃ l:List EditP,EditsIn W (fun _=>True) l c∧wtE l≤Rows.uptoBulk x.1:=by
 rcases DataW.trod_slice Tryz.underlying27 h with ⟨hc,rfl⟩|⟨a,len,cap,elems,rest,m,hnm,hc,rfl,_,hl,hm,hlen,hel,_,_⟩
 ·cases hc
  exact ⟨[],⟨none,0,rfl,.inl rfl⟩,by simp [wtE]⟩
 ·cases hc
  by_cases h0:len=0
  ·refine ⟨[],⟨some a,cap,by simp [h0],.inl rfl⟩,by simp [wtE]⟩
  ·obtain ⟨g,off,spot⟩:=a
   have hgo:∀ i (h:i<len) (hE:i<elems.length),∃ ci,W.cells? 0 ((⟨g,off,spot⟩:Addr).add (i*6)) 6=some ci∧DataW.trod enc Tryz.prog W 0 (fun _=>true) held m 71 ci=some elems[i]:=by
    intro i hi hE
    have h1:=hel i hi
    rw [show Tryz.prog.cellsOf 71=6 by kernel_rfl,List.getElem?_eq_getElem hE] at h1
    exact Option.bind_eq_some_iff.1 h1
   have hspot:spot=none:=by
    obtain ⟨ci,hc1,_⟩:=hgo 0 (by omega) (by omega)
    obtain ⟨_,hcl,hcc⟩:=World.cells?_some hc1
    have h2:=hcc 0 (by omega)
    rw [List.getElem?_eq_getElem (by omega)] at h2
    simpa [Addr.add] using World.cell?_spot h2
   subst hspot
   obtain ⟨l,h1,h2,h4⟩:=edits_of (W:=W) (g:=g) (off:=off) elems len (by omega) (fun i hi hE=>by
    obtain ⟨ci,hc1,hc2⟩:=hgo i hi hE
    obtain ⟨e,rfl,hw⟩:=edit_of hc2
    obtain ⟨_,hcl,hcc⟩:=World.cells?_some hc1
    refine ⟨e,fun j u hj=>?_,hw⟩
    have hj6:j<6:=by
     have:=(List.getElem?_eq_some_iff.1 hj).1
     simpa [editC] using this
    have:=hcc j hj6
    rw [Addr.add_lit,Addr.add_lit,hj] at this
    exact this)
   refine ⟨l,⟨some ⟨g,off,none⟩,cap,by rw [h1],.inr ⟨g,off,rfl,trivial,h2⟩⟩,?_⟩
   rw [List.take_of_length_le (by omega)] at h4
   simp only [Rows.uptoBulk]
   omega
theorem call_of {H:Type} {enc:TypeId × Value→H} {W:World} {held:Bool} {fuel:Nat} {cs:List Value} {x:DataW H × List MemPlace} (h:DataW.trod enc Tryz.prog W 0 (fun _=>true) held fuel 31 cs=some x) :
  ∃ c il ik ch ol ok,cs=callC c il ik ch ol ok∧CallIn W (fun _=>True) c il ik ch ol ok∧wt c.id+wt c.other+c.name.length+c.text.length+wtE c.changes≤Rows.uptoBulk x.1:=by
 obtain ⟨xs,n,rfl,rfl,hcl,hxl,hfd⟩:=DataW.trod_struct Tryz.underlying31 h
 rw [show Tryz.prog.cellsOf 31=19 by kernel_rfl] at hcl
 obtain ⟨c0,c1,c2,c3,c4,c5,c6,c7,c8,c9,c10,c11,c12,c13,c14,c15,c16,c17,c18,rfl⟩:=nineteen_list hcl
 obtain ⟨y0,y1,y2,y3,y4,y5,y6,y7,rfl⟩:=eight_list (hxl.trans rfl)
 have f0:=hfd 0 _ rfl
 have g0:DataW.trod enc Tryz.prog W 0 (fun _=>true) held n 3 (([c0,c1,c2,c3,c4,c5,c6,c7,c8,c9,c10,c11,c12,c13,c14,c15,c16,c17,c18].drop 0).take (Tryz.prog.cellsOf 3))=some y0:=f0
 rw [show Tryz.prog.cellsOf 3=1 by kernel_rfl] at g0
 replace g0:DataW.trod enc Tryz.prog W 0 (fun _=>true) held n 3 [c0]=some y0:=g0
 clear f0
 have f1:=hfd 1 _ rfl
 have g1:DataW.trod enc Tryz.prog W 0 (fun _=>true) held n 26 (([c0,c1,c2,c3,c4,c5,c6,c7,c8,c9,c10,c11,c12,c13,c14,c15,c16,c17,c18].drop 1).take (Tryz.prog.cellsOf 26))=some y1:=f1
 rw [show Tryz.prog.cellsOf 26=6 by kernel_rfl] at g1
 replace g1:DataW.trod enc Tryz.prog W 0 (fun _=>true) held n 26 [c1,c2,c3,c4,c5,c6]=some y1:=g1
 clear f1
 have f2:=hfd 2 _ rfl
 have g2:DataW.trod enc Tryz.prog W 0 (fun _=>true) held n 9 (([c0,c1,c2,c3,c4,c5,c6,c7,c8,c9,c10,c11,c12,c13,c14,c15,c16,c17,c18].drop 7).take (Tryz.prog.cellsOf 9))=some y2:=f2
 rw [show Tryz.prog.cellsOf 9=1 by kernel_rfl] at g2
 replace g2:DataW.trod enc Tryz.prog W 0 (fun _=>true) held n 9 [c7]=some y2:=g2
 clear f2
 have f3:=hfd 3 _ rfl
 have g3:DataW.trod enc Tryz.prog W 0 (fun _=>true) held n 3 (([c0,c1,c2,c3,c4,c5,c6,c7,c8,c9,c10,c11,c12,c13,c14,c15,c16,c17,c18].drop 8).take (Tryz.prog.cellsOf 3))=some y3:=f3
 rw [show Tryz.prog.cellsOf 3=1 by kernel_rfl] at g3
 replace g3:DataW.trod enc Tryz.prog W 0 (fun _=>true) held n 3 [c8]=some y3:=g3
 clear f3
 have f4:=hfd 4 _ rfl
 have g4:DataW.trod enc Tryz.prog W 0 (fun _=>true) held n 9 (([c0,c1,c2,c3,c4,c5,c6,c7,c8,c9,c10,c11,c12,c13,c14,c15,c16,c17,c18].drop 9).take (Tryz.prog.cellsOf 9))=some y4:=f4
 rw [show Tryz.prog.cellsOf 9=1 by kernel_rfl] at g4
 replace g4:DataW.trod enc Tryz.prog W 0 (fun _=>true) held n 9 [c9]=some y4:=g4
 clear f4
 have f5:=hfd 5 _ rfl
 have g5:DataW.trod enc Tryz.prog W 0 (fun _=>true) held n 27 (([c0,c1,c2,c3,c4,c5,c6,c7,c8,c9,c10,c11,c12,c13,c14,c15,c16,c17,c18].drop 10).take (Tryz.prog.cellsOf 27))=some y5:=f5
 rw [show Tryz.prog.cellsOf 27=1 by kernel_rfl] at g5
 replace g5:DataW.trod enc Tryz.prog W 0 (fun _=>true) held n 27 [c10]=some y5:=g5
 clear f5
 have f6:=hfd 6 _ rfl
 have g6:DataW.trod enc Tryz.prog W 0 (fun _=>true) held n 29 (([c0,c1,c2,c3,c4,c5,c6,c7,c8,c9,c10,c11,c12,c13,c14,c15,c16,c17,c18].drop 11).take (Tryz.prog.cellsOf 29))=some y6:=f6
 rw [show Tryz.prog.cellsOf 29=2 by kernel_rfl] at g6
 replace g6:DataW.trod enc Tryz.prog W 0 (fun _=>true) held n 29 [c11,c12]=some y6:=g6
 clear f6
 have f7:=hfd 7 _ rfl
 have g7:DataW.trod enc Tryz.prog W 0 (fun _=>true) held n 26 (([c0,c1,c2,c3,c4,c5,c6,c7,c8,c9,c10,c11,c12,c13,c14,c15,c16,c17,c18].drop 13).take (Tryz.prog.cellsOf 26))=some y7:=f7
 rw [show Tryz.prog.cellsOf 26=6 by kernel_rfl] at g7
 replace g7:DataW.trod enc Tryz.prog W 0 (fun _=>true) held n 26 [c13,c14,c15,c16,c17,c18]=some y7:=g7
 clear f7
 obtain ⟨k,h0,e0,_⟩:=DataW.trod_int Tryz.underlying3 g0
 obtain ⟨i,il,ik,h1,hi,b1⟩:=tree_of _ _ _ _ (Nat.le_refl _) g1
 obtain ⟨nm,h2,e2,_⟩:=DataW.trod_string Tryz.underlying9 g2
 obtain ⟨v,h3,e3,_⟩:=DataW.trod_int Tryz.underlying3 g3
 obtain ⟨tx,h4,e4,_⟩:=DataW.trod_string Tryz.underlying9 g4
 obtain ⟨l,hl,b5⟩:=changes_of g5
 obtain ⟨pl,pu,h6⟩:=place_of g6
 obtain ⟨o,ol,ok,h7,ho,b7⟩:=tree_of _ _ _ _ (Nat.le_refl _) g7
 obtain ⟨iso,ion,inn,itx,ilst,iks⟩:=i
 obtain ⟨oso,oon,onn,otx,olst,oks⟩:=o
 cases h0;cases h2;cases h3;cases h4;cases h6
 simp only [six',six,List.cons.injEq,and_true] at h1 h7
 obtain ⟨rfl,rfl,rfl,rfl,rfl,rfl⟩:=h1
 obtain ⟨rfl,rfl,rfl,rfl,rfl,rfl⟩:=h7
 subst e0;subst e2;subst e3;subst e4
 refine ⟨⟨k,.mk iso ion inn itx ilst iks,nm.data.toList,v,tx.data.toList,l,⟨pl,pu⟩,.mk oso oon onn otx olst oks⟩,_,_,_,_,_,by simp only [callC,six',six,strCell,mk_back,List.cons_append,List.nil_append],⟨hi,hl,ho⟩,?_⟩
 simp only [Rows.uptoBulk,Rows.uptoBulkAll,List.map_cons,List.map_nil]
 omega
end Go.Proofs.YtpbnhnilfpoljaaGreatDoor.M
namespace Go.Proofs.YtpbnhnilfpoljaaGreatDoor.M
open Go.Proofs Go.Shelf Go.RowKit
open Go.Proofs.YtpbnhnilfpoljaaGreatDoor.V
theorem iface_laidM {P:Program} {W:World} {l:List (String × DataW Unit)} (hL:laidMet P l W) {n nm:String} {d:DataW Unit} {g:Nat} {ti:TypeId} {ms:Array (String × TypeId)} (hm:(n,.iface nm d)∈l)
  (hg:P.globalNamed n=some g) (ht:(P.globals[g]?).map (·.type)=some ti) (hi:P.underlying ti=some (.interface ms)):∃ te pe,W.cell? ⟨g,0,none⟩=some (.iface te pe):=by
 obtain ⟨g',t',cs,fuel,p,hg',ht',hv,hd⟩:=Lib.laidMet.reads hL hm
 obtain rfl:=Option.some.inj (hg.symm.trans hg')
 obtain rfl:=Option.some.inj (ht.symm.trans ht')
 obtain ⟨f1,u,v,hcs,_,_⟩:=iface_of_trod hi hd
 obtain ⟨l0⟩:=cs
 have e:l0=[.iface u v]:=hcs
 subst e
 exact ⟨u,v,by simpa using World.var?_cell hg hv 0⟩
theorem env_of_laidM {W:World} (hL:laidMet Tryz.prog Rows.rpcAnswersUptoRow.laid W):EnvW W where
 es:=iface_laidM hL (.tail _ (.tail _ (.tail _ (.tail _ (.tail _ (.head _)))))) (g:=5) (by kernel_rfl) (by kernel_rfl) Tryz.underlying141
 er:=iface_laidM hL (.tail _ (.tail _ (.tail _ (.tail _ (.head _))))) (g:=6) (by kernel_rfl) (by kernel_rfl) Tryz.underlying141
 tabs:=utf8Tabs_of_readsT (U8Types.of196 U.lays) ⟨by kernel_rfl,by kernel_rfl,by kernel_rfl,by kernel_rfl,by kernel_rfl,by kernel_rfl,by kernel_rfl⟩
  (Pinned.utf8First_eq ▸ Lib.laidMet.reads hL (.tail _ (.tail _ (.tail _ (.tail _ (.tail _ (.tail _ (.tail _ (.head _))))))))) (Lib.laidMet.reads hL (.tail _ (.tail _ (.tail _ (.head _)))))
 pow:=Lib.tabIs_of_head (P:=Tryz.prog) (g:=3) (by kernel_rfl) (by kernel_rfl) Tryz.underlying208 Tryz.underlying195 (by kernel_rfl) (by kernel_rfl) hL.tail.tail
theorem cells_meth:Tryz.prog.cellsOf 73=4:=by kernel_rfl
theorem cells_meths:Tryz.prog.cellsOf 117=36:=by kernel_rfl
theorem cells_kindM:Tryz.prog.cellsOf 40=1:=by kernel_rfl
theorem cells_strM:Tryz.prog.cellsOf 9=1:=by kernel_rfl
theorem cells_boolM:Tryz.prog.cellsOf 4=1:=by kernel_rfl
theorem four_list {α:Type} {l:List α} (h:l.length=4):∃ a b c d,l=[a,b,c,d]:=by
 match l,h with
 | [a,b,c,d],_=>exact ⟨a,b,c,d,rfl⟩
theorem str_back {s:ByteArray} {l:List UInt8} (h:s.data.toList=l):s=⟨l.toArray⟩:=by
 subst h
 cases s
 simp
theorem meth_of {H:Type} {enc:TypeId × Value→H} {W:World} {held:Bool} {fuel:Nat} {cs:List Value} {k:Int} {s:List UInt8} {a b:Bool} {x:DataW H × List MemPlace}
  (h:DataW.trod enc Tryz.prog W 0 (fun _=>true) held fuel 73 cs=some x) (hx:x.1=.agg [.lit (.int .i64 k),.lit (.string s),.lit (.bool a),.lit (.bool b)]):cs=[.int .i64 k,.string ⟨s.toArray⟩,.bool a,.bool b]:=by
 obtain ⟨xs,n,rfl,rfl,hcl,hxl,hfd⟩:=DataW.trod_struct Tryz.underlying73 h
 rw [cells_meth] at hcl
 obtain ⟨c0,c1,c2,c3,rfl⟩:=four_list hcl
 obtain ⟨y0,y1,y2,y3,rfl⟩:=four_list (hxl.trans rfl)
 have f0:=hfd 0 _ rfl
 have f1:=hfd 1 _ rfl
 have f2:=hfd 2 _ rfl
 have f3:=hfd 3 _ rfl
 have g0:DataW.trod enc Tryz.prog W 0 (fun _=>true) held n 40 (([c0,c1,c2,c3].drop 0).take (Tryz.prog.cellsOf 40))=some y0:=f0
 rw [cells_kindM] at g0
 replace g0:DataW.trod enc Tryz.prog W 0 (fun _=>true) held n 40 [c0]=some y0:=g0
 have g1:DataW.trod enc Tryz.prog W 0 (fun _=>true) held n 9 (([c0,c1,c2,c3].drop 1).take (Tryz.prog.cellsOf 9))=some y1:=f1
 rw [cells_strM] at g1
 replace g1:DataW.trod enc Tryz.prog W 0 (fun _=>true) held n 9 [c1]=some y1:=g1
 have g2:DataW.trod enc Tryz.prog W 0 (fun _=>true) held n 4 (([c0,c1,c2,c3].drop 2).take (Tryz.prog.cellsOf 4))=some y2:=f2
 rw [cells_boolM] at g2
 replace g2:DataW.trod enc Tryz.prog W 0 (fun _=>true) held n 4 [c2]=some y2:=g2
 have g3:DataW.trod enc Tryz.prog W 0 (fun _=>true) held n 4 (([c0,c1,c2,c3].drop 3).take (Tryz.prog.cellsOf 4))=some y3:=f3
 rw [cells_boolM] at g3
 replace g3:DataW.trod enc Tryz.prog W 0 (fun _=>true) held n 4 [c3]=some y3:=g3
 obtain ⟨z,h0,e0,_⟩:=DataW.trod_int Tryz.underlying40 g0
 obtain ⟨ts,h1,e1,_⟩:=DataW.trod_string Tryz.underlying9 g1
 obtain ⟨b2,h2,e2⟩:=DataW.trod_bool Tryz.underlying4 g2
 obtain ⟨b3,h3,e3⟩:=DataW.trod_bool Tryz.underlying4 g3
 cases h0;cases h1;cases h2;cases h3
 subst e0;subst e1;subst e2;subst e3
 simp only [List.map_cons,List.map_nil,DataW.agg.injEq,List.cons.injEq,DataW.lit.injEq,Lit.int.injEq,Lit.string.injEq,Lit.bool.injEq,true_and,and_true] at hx
 obtain ⟨rfl,hs,rfl,rfl⟩:=hx
 rw [str_back hs]
theorem rows_flat {α:Type} {k:Nat}:∀ (rows:List (List α)) (cs:List α),cs.length=rows.length*k→(∀ i r,rows[i]?=some r→(cs.drop (i*k)).take k=r)→cs=rows.flatten
 | [],cs,hl,_=>by
  simp at hl
  simpa using hl
 | r :: rows,cs,hl,h=>by
  have h0:=h 0 r rfl
  simp only [Nat.zero_mul,List.drop_zero] at h0
  have ih:=rows_flat rows (cs.drop k) (by rw [List.length_drop,hl,List.length_cons,Nat.add_mul,Nat.one_mul,Nat.add_sub_cancel]) (fun i r' hr=>by
   have:=h (i+1) r' (by simpa using hr)
   rw [List.drop_drop,show k+i*k=(i+1)*k by rw [Nat.add_mul,Nat.one_mul,Nat.add_comm]]
   exact this)
  rw [List.flatten_cons,← h0,← ih,List.take_append_drop]
theorem nine_list {α:Type} {l:List α} (h:l.length=9):∃ a b c d e f g i j,l=[a,b,c,d,e,f,g,i,j]:=by
 match l,h with
 | [a,b,c,d,e,f,g,i,j],_=>exact ⟨a,b,c,d,e,f,g,i,j,rfl⟩
def rowsM:List (List Value):=(List.range 9).map fun i=>(tabM.drop (i*4)).take 4
theorem table_of {H:Type} {enc:TypeId × Value→H} {W:World} {held:Bool} {fuel:Nat} {cs:List Value} {x:DataW H × List MemPlace}
  (h:DataW.trod enc Tryz.prog W 0 (fun _=>true) held fuel 117 cs=some x) (hx:x.1=Rows.laid_bolthole_rpc_methods):cs=tabM:=by
 obtain ⟨xs,m,rfl,rfl,hcl,hxl,hel⟩:=DataW.trod_array Tryz.underlying117 h
 rw [cells_meths] at hcl
 rw [cells_meth] at hel
 obtain ⟨x0,x1,x2,x3,x4,x5,x6,x7,x8,rfl⟩:=nine_list hxl
 simp only [Rows.laid_bolthole_rpc_methods,List.map_cons,List.map_nil,DataW.agg.injEq,List.cons.injEq,and_true] at hx
 obtain ⟨d0,d1,d2,d3,d4,d5,d6,d7,d8⟩:=hx
 have r0:=meth_of (hel 0 (by omega)) d0
 have r1:=meth_of (hel 1 (by omega)) d1
 have r2:=meth_of (hel 2 (by omega)) d2
 have r3:=meth_of (hel 3 (by omega)) d3
 have r4:=meth_of (hel 4 (by omega)) d4
 have r5:=meth_of (hel 5 (by omega)) d5
 have r6:=meth_of (hel 6 (by omega)) d6
 have r7:=meth_of (hel 7 (by omega)) d7
 have r8:=meth_of (hel 8 (by omega)) d8
 refine (rows_flat rowsM cs (k:=4) hcl (fun i r hr=>?_)).trans (by kernel_rfl)
 have hi:i<9:=(List.getElem?_eq_some_iff.1 hr).1
 by_cases e0:i=0
 ·subst e0
  exact r0.trans (Option.some.inj hr)
 by_cases e1:i=1
 ·subst e1
  exact r1.trans (Option.some.inj hr)
 by_cases e2:i=2
 ·subst e2
  exact r2.trans (Option.some.inj hr)
 by_cases e3:i=3
 ·subst e3
  exact r3.trans (Option.some.inj hr)
 by_cases e4:i=4
 ·subst e4
  exact r4.trans (Option.some.inj hr)
 by_cases e5:i=5
 ·subst e5
  exact r5.trans (Option.some.inj hr)
 by_cases e6:i=6
 ·subst e6
  exact r6.trans (Option.some.inj hr)
 by_cases e7:i=7
 ·subst e7
  exact r7.trans (Option.some.inj hr)
 by_cases e8:i=8
 ·subst e8
  exact r8.trans (Option.some.inj hr)
 omega
theorem mtab_of_laid {W:World} (hL:laidMet Tryz.prog Rows.rpcAnswersUptoRow.laid W):MTab W:=by
 obtain ⟨g',t',cs,fuel,p,hg',ht',hv,hd⟩:=Lib.laidMet.reads hL (n := "bolthole/rpc.methods") (.tail _ (.tail _ (.tail _ (.tail _ (.tail _ (.tail _ (.head _)))))))
 obtain rfl:=Option.some.inj ((show Tryz.prog.globalNamed "bolthole/rpc.methods"=some 0 by kernel_rfl).symm.trans hg')
 obtain rfl:=Option.some.inj ((show (Tryz.prog.globals[0]?).map (·.type)=some 117 by kernel_rfl).symm.trans ht')
 have e:=table_of hd rfl
 intro j u hj
 have hc:=World.var?_cell (P:=Tryz.prog) (show Tryz.prog.globalNamed "bolthole/rpc.methods"=some 0 by kernel_rfl) hv j
 rw [Nat.zero_add,hc,← Array.getElem?_toList,e]
 exact hj
end Go.Proofs.YtpbnhnilfpoljaaGreatDoor.M
