/- What the claim needs of the texts MTake1, MTake2, MTake3, MTake4. -/
import Derived.Test.YtpbnhnilfpoljaaGreatDoorRB20
import Derived.Deep.RegionWith
namespace Go.Proofs.YtpbnhnilfpoljaaGreatDoor.M
open Go.RowKit
open Go.Lib Go.Proofs.YtpbnhnilfpoljaaGreatDoor.V
def sortCs (ss:List Int):List Value:=ss.map fun s=>.int .i64 s
theorem mem_drop {ss:List Int} {i:Nat} {s:Int} (h:i<ss.length):decide (s∈ss.drop i)=(decide (s=ss[i])||decide (s∈ss.drop (i+1))):=by
 rw [List.drop_eq_getElem_cons h]
 simp only [List.mem_cons,Bool.decide_or]
set_option maxHeartbeats 4000000 in
theorem sindex_any (ss:List Int) (s:Int) (g off c:Nat) (w:World) (hc:CellsAt w g off (sortCs ss)) (hl:ss.length≤1000) :
  Calls Tryz.prog 121 #[.slice (some ⟨g,off,none⟩) ss.length c,.int .i64 s] w fun e w'=>∃ r:Int,e=.returned (.int .i64 r)∧Hid (decide (0≤r)=decide (s∈ss))∧w'=w:=by
 obtain ⟨n,hn⟩:∃ k,ss.length=k:=⟨_,rfl⟩
 have HN:=Lib.hid hn
 have HC:=Lib.hid hc
 rw [hn] at hl ⊢
 clear hn hc
 go_enter Tryz.func121,Tryz.ntmps121
 go_wp2_with fail
 go_loopw [8] (fun iv wr=>∃ i:Nat,iv=.int .i64 i∧i≤n∧Hid (decide (s∈ss.drop i)=decide (s∈ss))∧wr=w) (fun iv _=>n - (Go.RowKit.intOf iv).toNat)
 case atStart=>exact ⟨0,rfl,by omega,Lib.hid rfl,rfl⟩
 case round =>
  obtain ⟨i,rfl,hi,HD,rfl⟩:=hrel
  by_cases hlt:i<n
  ·have hll:i<ss.length:=by rw [HN.out];exact hlt
   have k0:wr.cell? ⟨g,off+i,none⟩=some (.int .i64 ss[i]):=HC.out i _ (by simp [sortCs,hll])
   have hd:=mem_drop (s:=s) hll
   rw [HD.out] at hd
   generalize ss[i]=x at k0 hd
   by_cases he:s=x
   ·subst he
    have HF:=Lib.hid (show decide (0≤(i:Int))=decide (s∈ss) by rw [hd];simp)
    clear hd
    go_wp2_with fail
    go_ret
    exact ⟨_,rfl,HF,rfl⟩
   ·have HF:=Lib.hid (show decide (s∈ss.drop (i+1))=decide (s∈ss) by rw [hd,decide_eq_false he,Bool.false_or])
    have hx:(s==x)=false:=beq_eq_false_iff_ne.2 he
    clear hd he
    go_wp2_with fail
    go_roundw
    case rel=>exact ⟨i+1,by go_num,by omega,HF,by first|rfl|trivial⟩
    case measure=>simp [Go.RowKit.intOf];omega
  ·have hf:decide (s∈ss)=false:=by
    rw [← HD.out,List.drop_eq_nil_of_le (by rw [HN.out];omega)];simp
   have HF:=Lib.hid (show decide (0≤(-1:Int))=decide (s∈ss) by rw [hf];decide)
   clear hf
   go_wp2_with fail
   go_ret
   exact ⟨_,rfl,HF,rfl⟩
theorem scontains_any (ss:List Int) (s:Int) (g off c:Nat) (w:World) (hc:CellsAt w g off (sortCs ss)) (hl:ss.length≤1000) :
  Calls Tryz.prog 97 #[.slice (some ⟨g,off,none⟩) ss.length c,.int .i64 s] w fun e w'=>e=.returned (.bool (decide (s∈ss)))∧w'=w:=by
 have HI:=Lib.hid (sindex_any ss s g off c w hc hl)
 generalize ss.length=n at HI ⊢
 clear hc hl
 go_enter Tryz.func97,Tryz.ntmps97
 go_wp2_with fail
 refine HI.out.mono ?_
 rintro e w1 ⟨r,rfl,HR,rfl⟩
 go_wp2_with fail
 go_ret
 exact ⟨by rw [← HR.out];rfl,rfl⟩
def Tk (d:Nat) (b:Bool) (W:World):Prop:=W.heap[d]?=some (.cells #[.bool b] 133 (0,0))
theorem Tk.c0 {d:Nat} {b:Bool} {W:World} (h:Tk d b W):W.cell? ⟨d,0,none⟩=some (.bool b):=by unfold Tk at h;simp [World.cell?,h]
theorem Tk.f0 {d:Nat} {b:Bool} {W:World} (h:Tk d b W):W.frozen? ⟨d,0,none⟩=false:=by unfold Tk at h;simp [World.frozen?,h]
theorem Tk.lt {d:Nat} {b:Bool} {W:World} (h:Tk d b W):d<W.heap.size:=(Array.getElem?_eq_some_iff.1 h).1
theorem Tk.below {d:Nat} {b:Bool} {W W':World} (h:Tk d b W) (hb:Below W.heap.size W W'):Tk d b W':=(hb.block d h.lt).trans h
theorem Tk.set {d:Nat} {b:Bool} {W:World} (h:Tk d b W) (x:Bool):Tk d x (W.setCell ⟨d,0,none⟩ (.bool x)):=Go.Joins.block_setCell h _
theorem Tk.other {d:Nat} {b:Bool} {W:World} (h:Tk d b W) (q i:Nat) (v:Value) (hq:d≠q):Tk d b (W.setCell ⟨q,i,none⟩ v):=(Below.heap_setCell _ _ _ _ hq).trans h
theorem getZ_eq {v u:Val} {p:List (List UInt8)} (h:getP v p=some u):getZ v p=u∧hasP v p=true:=by simp [getZ,hasP,h]
theorem getZ_no {v:Val} {p:List (List UInt8)} (h:getP v p=none):getZ v p=zV∧hasP v p=false:=by simp [getZ,hasP,h]
theorem get_key (v:Val) (lv kv:Value) (k:List UInt8) (g c:Nat) (R:Nat→Prop) (w:World) (hv:ValIn w R v lv kv) (hk:w.cell? ⟨g,0,none⟩=some (.string ⟨k.toArray⟩)) (hw:wt v≤65536) :
  Calls Tryz.prog 56 #[arg v lv kv,.slice (some ⟨g,0,none⟩) 1 c] w fun e w'=>∃ lv' kv',e=.returned (.tuple #[arg (getZ v [k]) lv' kv',.bool (hasP v [k])])∧ValIn w' (fun b=>w.heap.size≤b) (getZ v [k]) lv' kv'∧Below w.heap.size w w':=by
 have hp:KeysIn w (fun _=>True) [k] (.slice (some ⟨g,0,none⟩) 1 c):=⟨some ⟨g,0,none⟩,c,rfl,.inr ⟨g,0,rfl,trivial,fun j u hj=>by
  cases j with
  | zero=>simp at hj;subst hj;simpa [strCell] using hk
  | succ j=>simp at hj⟩⟩
 refine (get_any v lv kv [k] (some ⟨g,0,none⟩) c R _ w hv hp (by simp) hw).mono ?_
 rintro e w' ⟨hb,⟨hn,rfl⟩|⟨u,lv',kv',hn,rfl,hu⟩⟩
 ·obtain ⟨e1,e2⟩:=getZ_no hn
  rw [e1,e2]
  exact ⟨.slice none 0 0,.slice none 0 0,rfl,leaf_in _ _ _ _ _ _,hb⟩
 ·obtain ⟨e1,e2⟩:=getZ_eq hn
  rw [e1,e2]
  exact ⟨lv',kv',rfl,hu,hb⟩
def Took (d:Nat) (b:Bool) (w w':World):Prop:=Mut w.heap.size d w w'∧Tk d b w'
def badP (v:Val) (k:List UInt8) (ss:List Int):Bool:=hasP v [k]&&!decide (sortOf (getZ v [k])∈ss)
set_option maxHeartbeats 8000000 in
set_option maxRecDepth 20000 in
theorem perhaps_any (v:Val) (lv kv:Value) (k:List UInt8) (ss:List Int) (sg sf sc d:Nat) (b:Bool) (R:Nat→Prop) (w:World) (ht:Tk d b w) (hv:ValIn w R v lv kv) (hw:wt v≤65536) (hs:CellsAt w sg sf (sortCs ss)) (hsl:ss.length≤1000) (hs0:ss≠[]) :
  Calls Tryz.prog 69 #[.pointer (some ⟨d,0,none⟩),arg v lv kv,.string ⟨k.toArray⟩,.slice (some ⟨sg,sf,none⟩) ss.length sc] w fun e w'=>Took d (b||badP v k ss) w w' ∧
   ∃ lv' kv',e=.returned (.tuple #[arg (getZ v [k]) lv' kv',.bool (hasP v [k])])∧ValIn w' (fun g=>w.heap.size≤g) (getZ v [k]) lv' kv':=by
 have hv':=hv
 obtain ⟨so,on,n,t,l,ks⟩:=v
 obtain ⟨⟨a1,c1,rfl,_⟩,⟨a2,c2,rfl,_⟩⟩:=hv'
 have hsg:sg<w.heap.size:=cells_lt hs (by simpa [sortCs] using hs0)
 have hdl:=ht.lt
 have cG:=fun W g c (hb:Below w.heap.size w W) hk=>get_key (.mk so on n t l ks) _ _ k g c R W (val_below hv hb) hk hw
 have cS:=fun W s (hb:Below w.heap.size w W)=>scontains_any ss s sg sf sc W (hs.later (R:=fun b=>b<w.heap.size) hsg (fun b _ hlt=>hb.block b hlt)) hsl
 unfold badP
 obtain ⟨so',on',n',t',l',ks',hz⟩:∃ so' on' n' t' l' ks',getZ (.mk so on n t l ks) [k]=.mk so' on' n' t' l' ks':=by
  cases getZ (.mk so on n t l ks) [k] with
  | mk so' on' n' t' l' ks'=>exact ⟨so',on',n',t',l',ks',rfl⟩
 obtain ⟨h,hh⟩:∃ h,hasP (.mk so on n t l ks) [k]=h:=⟨_,rfl⟩
 simp only [hz,hh] at cG ⊢
 have hso:sortOf (.mk so' on' n' t' l' ks')=so':=rfl
 rw [hso]
 obtain ⟨m,hm⟩:∃ m,decide (so'∈ss)=m:=⟨_,rfl⟩
 rw [hm]
 replace cS:=fun W hb=>cS W so' hb
 simp only [hm] at cS
 clear hm hz hh hso hs hs0 hv hsl
 simp only [arg,six',six,strCell] at cG ⊢
 generalize ss.length=sn at cS ⊢
 generalize l.length=m1 at cG ⊢
 generalize ks.length=m2 at cG ⊢
 obtain ⟨h1,h2,h3,h4⟩:=two w (.cells #[.int .i64 so,.bool on,.int .i64 n,.string ⟨t.toArray⟩,.slice a1 m1 c1,.slice a2 m2 c2] 36) (.cells #[.int .i64 0,.bool false,.int .i64 0,.string ⟨#[]⟩,.slice none 0 0,.slice none 0 0] 36)
 obtain ⟨W2,hW2⟩:∃ W2,(w.alloc (.cells #[.int .i64 so,.bool on,.int .i64 n,.string ⟨t.toArray⟩,.slice a1 m1 c1,.slice a2 m2 c2] 36)).alloc (.cells #[.int .i64 0,.bool false,.int .i64 0,.string ⟨#[]⟩,.slice none 0 0,.slice none 0 0] 36)=W2:=⟨_,rfl⟩
 rw [hW2] at h1 h2 h3 h4
 obtain ⟨⟨q0,q1,q2,q3,q4,q5⟩,qf⟩:=cells_six h1
 have hz2:w.heap.size+2≤W2.heap.size:=by omega
 have hb3:Below w.heap.size w (W2.alloc (.cells #[.string ⟨k.toArray⟩] 9)):=h3.alloc h3.size _
 have CG:=Lib.hid (cG (W2.alloc (.cells #[.string ⟨k.toArray⟩] 9)) W2.heap.size 1 hb3 (by unfold World.cell?;simp only [heap_alloc_new];rfl))
 have HB3:=Lib.hid hb3
 have HR3:=Lib.hid ((Below.heap_alloc W2 (.cells #[.string ⟨k.toArray⟩] 9) (w.heap.size+1) (by omega)).trans h2)
 have HS:=Lib.hid cS
 have HT:=Lib.hid ht
 clear h1 h2 h3 h4 hb3 cG cS ht
 go_enter Tryz.func69,Tryz.ntmps69
 go_wp2_with fail
 refine CG.out.mono ?_
 rintro e w4 ⟨lv',kv',rfl,hv4,hb4⟩
 have hv5:=hv4
 obtain ⟨⟨a3,c3,rfl,_⟩,⟨a4,c4,rfl,_⟩⟩:=hv5
 have hz4:=hb4.size
 simp only [World.size_alloc] at hz4 hv4
 obtain ⟨W5,hW5⟩:∃ W5,w4.alloc (.cells #[.int .i64 so',.bool on',.int .i64 n',.string ⟨t'.toArray⟩,.slice a3 l'.length c3,.slice a4 ks'.length c4] 36)=W5:=⟨_,rfl⟩
 have hx5:W5.heap[w4.heap.size]?=some (.cells #[.int .i64 so',.bool on',.int .i64 n',.string ⟨t'.toArray⟩,.slice a3 l'.length c3,.slice a4 ks'.length c4] 36 (0,0)):=by rw [← hW5];exact heap_alloc_new _ _
 have hb45:Below w4.heap.size w4 W5:=by rw [← hW5];exact (Below.refl _ _).alloc (Nat.le_refl _) _
 have hz5:w4.heap.size<W5.heap.size:=by rw [← hW5];simp
 have hb5:Below w.heap.size w W5:=HB3.out.trans ((hb4.trans (hb45.mono (by simp;omega))).mono (by simp;omega))
 have hr5:W5.heap[w.heap.size+1]?=_:=(hb45.block _ (by omega)).trans ((hb4.block _ (by simp;omega)).trans HR3.out)
 have hT5:Tk d b W5:=HT.out.below hb5
 have hv5:=val_below hv4 hb45
 obtain ⟨⟨p0,p1,p2,p3,p4,p5⟩,pf⟩:=cells_six hx5
 obtain ⟨⟨j0,j1,j2,j3,j4,j5⟩,jf⟩:=cells_six hr5
 have t0:=hT5.c0
 have tf:=hT5.f0
 have HB5:=Lib.hid hb5
 have HT5:=Lib.hid hT5
 have HV5:=Lib.hid hv5
 have HR5:=Lib.hid hr5
 have HX5:=Lib.hid hx5
 have CS:=Lib.hid (HS.out W5 hb5)
 have hdq:d≠w.heap.size+1:=by omega
 have hd4:d≠w4.heap.size:=by omega
 clear hW2 q0 q1 q2 q3 q4 q5 qf CG HB3 HR3 HS hv4 hb4 hb45 hb5 hr5 hT5 hv5 hx5
 have fin:∀ (W:World) (b':Bool),Mut w.heap.size d w W→Tk d b' W→W.heap[w.heap.size+1]?=some (.cells #[.int .i64 0,.bool false,.int .i64 0,.string ⟨#[]⟩,.slice none 0 0,.slice none 0 0] 36 (0,0))→ValIn W (fun g=>W2.heap.size≤g) (.mk so' on' n' t' l' ks') (.slice a3 l'.length c3) (.slice a4 ks'.length c4) →
   Took d b' w ((((((W.setCell ⟨w.heap.size+1,0,none⟩ (.int .i64 so')).setCell ⟨w.heap.size+1,1,none⟩ (.bool on')).setCell ⟨w.heap.size+1,2,none⟩ (.int .i64 n')).setCell ⟨w.heap.size+1,3,none⟩ (.string ⟨t'.toArray⟩)).setCell ⟨w.heap.size+1,4,none⟩ (.slice a3 l'.length c3)).setCell ⟨w.heap.size+1,5,none⟩ (.slice a4 ks'.length c4)) ∧
   ValIn ((((((W.setCell ⟨w.heap.size+1,0,none⟩ (.int .i64 so')).setCell ⟨w.heap.size+1,1,none⟩ (.bool on')).setCell ⟨w.heap.size+1,2,none⟩ (.int .i64 n')).setCell ⟨w.heap.size+1,3,none⟩ (.string ⟨t'.toArray⟩)).setCell ⟨w.heap.size+1,4,none⟩ (.slice a3 l'.length c3)).setCell ⟨w.heap.size+1,5,none⟩ (.slice a4 ks'.length c4)) (fun g=>w.heap.size≤g) (.mk so' on' n' t' l' ks') (.slice a3 l'.length c3) (.slice a4 ks'.length c4):=fun W b' g1 g2 g3 g4=>by
  obtain ⟨_,gp2⟩:=six_put' g3 (.int .i64 so') (.bool on') (.int .i64 n') (.string ⟨t'.toArray⟩) (.slice a3 l'.length c3) (.slice a4 ks'.length c4)
  exact ⟨⟨mut6 _ _ _ _ _ _ _ g1 (by omega),(gp2 d hdq).trans g2⟩,ValIn.later (fun b hb _=>gp2 b (by omega)) (fun b hb=>by omega) _ _ _ g4⟩
 have FIN:=Lib.hid fin
 clear fin
 have HM5:=Lib.hid (Mut.of_below (d:=d) HB5.out)
 cases h with
 | false =>
  go_wp2_with fail
  obtain ⟨f1,f2⟩:=FIN.out W5 b HM5.out HT5.out HR5.out (ValIn.later (fun _ _ _=>rfl) (fun b hb=>by omega) _ _ _ HV5.out)
  refine bodyPost_ret (v:=.tuple #[.agg #[.int .i64 so',.bool on',.int .i64 n',.string ⟨t'.toArray⟩,.slice a3 l'.length c3,.slice a4 ks'.length c4],.bool false]) (by simp [results,Tryz.results69,go_sem,j0,j1,j2,j3,j4,j5]) rfl ?_
  exact ⟨by simpa using f1,_,_,rfl,f2⟩
 | true =>
  go_wp2_with fail
  refine CS.out.mono ?_
  rintro e w6 ⟨rfl,rfl⟩
  cases m with
  | true =>
   go_wp2_with fail
   obtain ⟨f1,f2⟩:=FIN.out w6 b HM5.out HT5.out HR5.out (ValIn.later (fun _ _ _=>rfl) (fun b hb=>by omega) _ _ _ HV5.out)
   refine bodyPost_ret (v:=.tuple #[.agg #[.int .i64 so',.bool on',.int .i64 n',.string ⟨t'.toArray⟩,.slice a3 l'.length c3,.slice a4 ks'.length c4],.bool true]) (by simp [results,Tryz.results69,go_sem,j0,j1,j2,j3,j4,j5]) rfl ?_
   exact ⟨by simpa using f1,_,_,rfl,f2⟩
  | false =>
   have hr7:=(Below.heap_setCell w6 ⟨d,0,none⟩ (.bool true) (w.heap.size+1) (by show w.heap.size+1≠d;omega)).trans HR5.out
   have hx7:=(Below.heap_setCell w6 ⟨d,0,none⟩ (.bool true) w4.heap.size (by show w4.heap.size≠d;omega)).trans HX5.out
   obtain ⟨f1,f2⟩:=FIN.out (w6.setCell ⟨d,0,none⟩ (.bool true)) true (HM5.out.setCell 0 _) (HT5.out.set true) hr7 (ValIn.later (R:=fun g=>W2.heap.size+1≤g) (fun b hb _=>Below.heap_setCell _ _ _ _ (by show b≠d;omega)) (fun b hb=>by omega) _ _ _ HV5.out)
   have F1:=Lib.hid f1
   have F2:=Lib.hid f2
   obtain ⟨⟨s0,s1,s2,s3,s4,s5⟩,sf⟩:=cells_six hr7
   obtain ⟨⟨u0,u1,u2,u3,u4,u5⟩,uf⟩:=cells_six hx7
   clear f1 f2 hr7 hx7
   go_wp2_with fail
   refine bodyPost_ret (v:=.tuple #[.agg #[.int .i64 so',.bool on',.int .i64 n',.string ⟨t'.toArray⟩,.slice a3 l'.length c3,.slice a4 ks'.length c4],.bool true]) (by simp [results,Tryz.results69,go_sem,s0,s1,s2,s3,s4,s5]) rfl ?_
   exact ⟨by simpa using F1.out,_,_,rfl,F2.out⟩
end Go.Proofs.YtpbnhnilfpoljaaGreatDoor.M
namespace Go.Proofs.YtpbnhnilfpoljaaGreatDoor.M
open Go.RowKit
open Go.Lib Go.Proofs.YtpbnhnilfpoljaaGreatDoor.V
def needP (v:Val) (k:List UInt8) (ss:List Int):Bool:=badP v k ss||!hasP v [k]
theorem need_text (v:Val) (k:List UInt8):needP v k [3]=!isText v [k]:=by
 unfold needP badP isText
 cases hasP v [k] <;> simp
 rw [Bool.eq_iff_iff];simp
theorem need_num (v:Val) (k:List UInt8):needP v k [2]=!isNum v [k]:=by
 unfold needP badP isNum
 cases hasP v [k] <;> simp
 rw [Bool.eq_iff_iff];simp
theorem Took.trans {d:Nat} {b b':Bool} {w w' w'':World} (h:Took d b w w') (h':Took d b' w' w''):Took d b' w w'':=⟨h.1.trans (h'.1.mono h.1.size),h'.2⟩
theorem Took.size {d:Nat} {b:Bool} {w w':World} (h:Took d b w w'):w.heap.size≤w'.heap.size:=h.1.size
theorem Took.of_below {d:Nat} {b':Bool} {w W W':World} (hb:Below w.heap.size w W) (h:Took d b' W W'):Took d b' w W':=⟨(Mut.of_below hb).trans (h.1.mono hb.size),h.2⟩
theorem Took.val {d:Nat} {b:Bool} {w w':World} {R:Nat→Prop} {v:Val} {lv kv:Value} (h:Took d b w w') (hv:ValIn w R v lv kv) (hR:∀ g,R g→g≠d):ValIn w' R v lv kv :=
 ValIn.later (fun g hg hlt=>h.1.block g hlt (hR g hg)) (fun _ h=>h) _ _ _ hv
theorem Took.edits {d:Nat} {b:Bool} {w w':World} {R:Nat→Prop} {l:List EditP} {v:Value} (h:Took d b w w') (hv:EditsIn w R l v) (hR:∀ g,R g→g≠d):EditsIn w' R l v :=
 hv.later (fun g hg hlt=>h.1.block g hlt (hR g hg)) (fun _ h=>h)
theorem getZ_wt2 {v:Val} (k:List (List UInt8)) (h:wt v≤65536):wt (getZ v k)≤65536:=Nat.le_trans (getZ_wt v k) h
set_option maxHeartbeats 8000000 in
set_option maxRecDepth 20000 in
theorem part_any (v:Val) (lv kv:Value) (k:List UInt8) (ss:List Int) (sg sf sc d:Nat) (b:Bool) (R:Nat→Prop) (w:World) (ht:Tk d b w) (hv:ValIn w R v lv kv) (hw:wt v≤65536) (hs:CellsAt w sg sf (sortCs ss)) (hsl:ss.length≤1000) (hs0:ss≠[]) :
  Calls Tryz.prog 70 #[.pointer (some ⟨d,0,none⟩),arg v lv kv,.string ⟨k.toArray⟩,.slice (some ⟨sg,sf,none⟩) ss.length sc] w fun e w'=>Took d (b||needP v k ss) w w' ∧
   ∃ lv' kv',e=.returned (arg (getZ v [k]) lv' kv')∧ValIn w' (fun g=>w.heap.size≤g) (getZ v [k]) lv' kv':=by
 have hv':=hv
 obtain ⟨so,on,n,t,l,ks⟩:=v
 obtain ⟨⟨a1,c1,rfl,_⟩,⟨a2,c2,rfl,_⟩⟩:=hv'
 have hsg:sg<w.heap.size:=cells_lt hs (by simpa [sortCs] using hs0)
 have hdl:=ht.lt
 have cP:=fun W (hb:Below w.heap.size w W)=>perhaps_any (.mk so on n t l ks) _ _ k ss sg sf sc d b R W (ht.below hb) (val_below hv hb) hw (hs.later (R:=fun b=>b<w.heap.size) hsg (fun b _ hlt=>hb.block b hlt)) hsl hs0
 unfold needP
 obtain ⟨so',on',n',t',l',ks',hz⟩:∃ so' on' n' t' l' ks',getZ (.mk so on n t l ks) [k]=.mk so' on' n' t' l' ks':=by
  cases getZ (.mk so on n t l ks) [k] with
  | mk so' on' n' t' l' ks'=>exact ⟨so',on',n',t',l',ks',rfl⟩
 obtain ⟨h,hh⟩:∃ h,hasP (.mk so on n t l ks) [k]=h:=⟨_,rfl⟩
 obtain ⟨m,hm⟩:∃ m,badP (.mk so on n t l ks) k ss=m:=⟨_,rfl⟩
 simp only [hz,hh,hm] at cP ⊢
 clear hm hz hh hs hs0 hv hsl ht
 simp only [arg,six',six,strCell] at cP ⊢
 generalize ss.length=sn at cP ⊢
 generalize l.length=m1 at cP ⊢
 generalize ks.length=m2 at cP ⊢
 obtain ⟨h1,h2,h3,h4⟩:=two w (.cells #[.int .i64 so,.bool on,.int .i64 n,.string ⟨t.toArray⟩,.slice a1 m1 c1,.slice a2 m2 c2] 36) (.cells #[.int .i64 0,.bool false,.int .i64 0,.string ⟨#[]⟩,.slice none 0 0,.slice none 0 0] 36)
 obtain ⟨W2,hW2⟩:∃ W2,(w.alloc (.cells #[.int .i64 so,.bool on,.int .i64 n,.string ⟨t.toArray⟩,.slice a1 m1 c1,.slice a2 m2 c2] 36)).alloc (.cells #[.int .i64 0,.bool false,.int .i64 0,.string ⟨#[]⟩,.slice none 0 0,.slice none 0 0] 36)=W2:=⟨_,rfl⟩
 rw [hW2] at h1 h2 h3 h4
 obtain ⟨⟨q0,q1,q2,q3,q4,q5⟩,qf⟩:=cells_six h1
 have hz2:w.heap.size+2≤W2.heap.size:=by omega
 have CP:=Lib.hid (cP W2 h3)
 have HB2:=Lib.hid h3
 have HR2:=Lib.hid h2
 clear h1 h2 h3 h4 cP
 go_enter Tryz.func70,Tryz.ntmps70
 go_wp2_with fail
 refine CP.out.mono ?_
 rintro e w4 ⟨hk4,lv',kv',rfl,hv4⟩
 have hv5:=hv4
 obtain ⟨⟨a3,c3,rfl,_⟩,⟨a4,c4,rfl,_⟩⟩:=hv5
 have hz4:=hk4.size
 obtain ⟨W5,hW5⟩:∃ W5,w4.alloc (.cells #[.int .i64 so',.bool on',.int .i64 n',.string ⟨t'.toArray⟩,.slice a3 l'.length c3,.slice a4 ks'.length c4] 36)=W5:=⟨_,rfl⟩
 have hx5:W5.heap[w4.heap.size]?=some (.cells #[.int .i64 so',.bool on',.int .i64 n',.string ⟨t'.toArray⟩,.slice a3 l'.length c3,.slice a4 ks'.length c4] 36 (0,0)):=by rw [← hW5];exact heap_alloc_new _ _
 have hb45:Below w4.heap.size w4 W5:=by rw [← hW5];exact (Below.refl _ _).alloc (Nat.le_refl _) _
 have hz5:w4.heap.size<W5.heap.size:=by rw [← hW5];simp
 have hk5:Took d (b||m) w W5:=⟨(Took.of_below HB2.out hk4).1.trans ((Mut.of_below hb45).mono (by omega)),hk4.2.below hb45⟩
 have hr5:=(hb45.block (w.heap.size+1) (by omega)).trans ((hk4.1.block (w.heap.size+1) (by omega) (by omega)).trans HR2.out)
 have hv5:=val_below hv4 hb45
 obtain ⟨⟨p0,p1,p2,p3,p4,p5⟩,pf⟩:=cells_six hx5
 obtain ⟨⟨j0,j1,j2,j3,j4,j5⟩,jf⟩:=cells_six hr5
 have t0:=hk5.2.c0
 have tf:=hk5.2.f0
 have HK5:=Lib.hid hk5
 have HV5:=Lib.hid hv5
 have HR5:=Lib.hid hr5
 have HX5:=Lib.hid hx5
 have hdq:d≠w.heap.size+1:=by omega
 have hd4:d≠w4.heap.size:=by omega
 clear hW2 q0 q1 q2 q3 q4 q5 qf CP HB2 HR2 hv4 hb45 hk4 hr5 hk5 hv5 hx5
 have fin:∀ (W:World) (b':Bool),Took d b' w W→W.heap[w.heap.size+1]?=some (.cells #[.int .i64 0,.bool false,.int .i64 0,.string ⟨#[]⟩,.slice none 0 0,.slice none 0 0] 36 (0,0))→ValIn W (fun g=>W2.heap.size≤g) (.mk so' on' n' t' l' ks') (.slice a3 l'.length c3) (.slice a4 ks'.length c4) →
   Took d b' w ((((((W.setCell ⟨w.heap.size+1,0,none⟩ (.int .i64 so')).setCell ⟨w.heap.size+1,1,none⟩ (.bool on')).setCell ⟨w.heap.size+1,2,none⟩ (.int .i64 n')).setCell ⟨w.heap.size+1,3,none⟩ (.string ⟨t'.toArray⟩)).setCell ⟨w.heap.size+1,4,none⟩ (.slice a3 l'.length c3)).setCell ⟨w.heap.size+1,5,none⟩ (.slice a4 ks'.length c4)) ∧
   ValIn ((((((W.setCell ⟨w.heap.size+1,0,none⟩ (.int .i64 so')).setCell ⟨w.heap.size+1,1,none⟩ (.bool on')).setCell ⟨w.heap.size+1,2,none⟩ (.int .i64 n')).setCell ⟨w.heap.size+1,3,none⟩ (.string ⟨t'.toArray⟩)).setCell ⟨w.heap.size+1,4,none⟩ (.slice a3 l'.length c3)).setCell ⟨w.heap.size+1,5,none⟩ (.slice a4 ks'.length c4)) (fun g=>w.heap.size≤g) (.mk so' on' n' t' l' ks') (.slice a3 l'.length c3) (.slice a4 ks'.length c4):=fun W b' g1 g3 g4=>by
  obtain ⟨_,gp2⟩:=six_put' g3 (.int .i64 so') (.bool on') (.int .i64 n') (.string ⟨t'.toArray⟩) (.slice a3 l'.length c3) (.slice a4 ks'.length c4)
  exact ⟨⟨mut6 _ _ _ _ _ _ _ g1.1 (by omega),(gp2 d hdq).trans g1.2⟩,ValIn.later (fun b hb _=>gp2 b (by omega)) (fun b hb=>by omega) _ _ _ g4⟩
 have FIN:=Lib.hid fin
 clear fin
 cases h with
 | true =>
  go_wp2_with fail
  obtain ⟨f1,f2⟩:=FIN.out W5 _ HK5.out HR5.out HV5.out
  refine bodyPost_ret (v:=.agg #[.int .i64 so',.bool on',.int .i64 n',.string ⟨t'.toArray⟩,.slice a3 l'.length c3,.slice a4 ks'.length c4]) (by simp [results,Tryz.results70,go_sem,j0,j1,j2,j3,j4,j5]) rfl ?_
  exact ⟨by simpa using f1,_,_,rfl,f2⟩
 | false =>
  have hr7:=(Below.heap_setCell W5 ⟨d,0,none⟩ (.bool true) (w.heap.size+1) (by show w.heap.size+1≠d;omega)).trans HR5.out
  have hx7:=(Below.heap_setCell W5 ⟨d,0,none⟩ (.bool true) w4.heap.size (by show w4.heap.size≠d;omega)).trans HX5.out
  obtain ⟨f1,f2⟩:=FIN.out (W5.setCell ⟨d,0,none⟩ (.bool true)) true ⟨HK5.out.1.setCell 0 _,HK5.out.2.set true⟩ hr7 (ValIn.later (fun b hb _=>Below.heap_setCell _ _ _ _ (by show b≠d;omega)) (fun b hb=>hb) _ _ _ HV5.out)
  have F1:=Lib.hid f1
  have F2:=Lib.hid f2
  obtain ⟨⟨s0,s1,s2,s3,s4,s5⟩,sf⟩:=cells_six hr7
  obtain ⟨⟨u0,u1,u2,u3,u4,u5⟩,uf⟩:=cells_six hx7
  clear f1 f2 hr7 hx7
  go_wp2_with fail
  refine bodyPost_ret (v:=.agg #[.int .i64 so',.bool on',.int .i64 n',.string ⟨t'.toArray⟩,.slice a3 l'.length c3,.slice a4 ks'.length c4]) (by simp [results,Tryz.results70,go_sem,s0,s1,s2,s3,s4,s5]) rfl ?_
  exact ⟨by simpa using F1.out,_,_,rfl,F2.out⟩
theorem field_text (a b c t l k:Value) (W:World):(Instr.field 36 (.agg #[a,b,c,t,l,k]) 3).run Tryz.prog W=.ok t W:=by kernel_rfl
theorem field_num (a b c t l k:Value) (W:World):(Instr.field 36 (.agg #[a,b,c,t,l,k]) 2).run Tryz.prog W=.ok c W:=by kernel_rfl
theorem field_list (a b c t l k:Value) (W:World):(Instr.field 36 (.agg #[a,b,c,t,l,k]) 4).run Tryz.prog W=.ok l W:=by kernel_rfl
set_option maxHeartbeats 4000000 in
set_option maxRecDepth 20000 in
theorem ttext_any (v:Val) (lv kv:Value) (k:List UInt8) (d:Nat) (b:Bool) (R:Nat→Prop) (w:World) (ht:Tk d b w) (hv:ValIn w R v lv kv) (hw:wt v≤65536) :
  Calls Tryz.prog 68 #[.pointer (some ⟨d,0,none⟩),arg v lv kv,.string ⟨k.toArray⟩] w fun e w'=>Took d (b||!isText v [k]) w w'∧e=.returned (.string ⟨(textAt v [k]).toArray⟩):=by
 have hv':=hv
 obtain ⟨so,on,n,t,l,ks⟩:=v
 obtain ⟨⟨a1,c1,rfl,_⟩,⟨a2,c2,rfl,_⟩⟩:=hv'
 have hdl:=ht.lt
 have cP:=fun W g (hb:Below w.heap.size w W) hs=>part_any (.mk so on n t l ks) _ _ k [3] g 0 1 d b R W (ht.below hb) (val_below hv hb) hw hs (by simp) (by simp)
 rw [← need_text]
 unfold textAt
 generalize needP (.mk so on n t l ks) k [3]=m at cP ⊢
 generalize getZ (.mk so on n t l ks) [k]=u at cP ⊢
 obtain ⟨so',on',n',t',l',ks'⟩:=u
 simp only [arg,six',six,strCell,textOf,List.length_cons,List.length_nil,Nat.zero_add] at cP ⊢
 generalize l.length=m1 at cP ⊢
 generalize ks.length=m2 at cP ⊢
 obtain ⟨W2,hW2⟩:∃ W2,w.alloc (.cells #[.int .i64 so,.bool on,.int .i64 n,.string ⟨t.toArray⟩,.slice a1 m1 c1,.slice a2 m2 c2] 36)=W2:=⟨_,rfl⟩
 have h1:W2.heap[w.heap.size]?=some (.cells #[.int .i64 so,.bool on,.int .i64 n,.string ⟨t.toArray⟩,.slice a1 m1 c1,.slice a2 m2 c2] 36 (0,0)):=by rw [← hW2];exact heap_alloc_new _ _
 have h3:Below w.heap.size w W2:=by rw [← hW2];exact (Below.refl _ _).alloc (Nat.le_refl _) _
 have hb3:Below w.heap.size w (W2.alloc (.cells #[.int .i64 3] 22)):=h3.alloc h3.size _
 have CP:=Lib.hid (cP (W2.alloc (.cells #[.int .i64 3] 22)) W2.heap.size hb3 (cells_of_block (heap_alloc_new W2 _)))
 have HB3:=Lib.hid hb3
 obtain ⟨⟨q0,q1,q2,q3,q4,q5⟩,qf⟩:=cells_six h1
 clear h1 h3 hb3 cP ht hv
 go_enter Tryz.func68,Tryz.ntmps68
 go_wp2_with fail
 refine CP.out.mono ?_
 rintro e w4 ⟨hk4,lv',kv',rfl,hv4⟩
 obtain ⟨⟨a3,c3,rfl,_⟩,⟨a4,c4,rfl,_⟩⟩:=hv4
 have HK:=Lib.hid (Took.of_below HB3.out hk4)
 have hf:=field_text
 clear hk4 CP hW2 q0 q1 q2 q3 q4 q5 qf
 go_wp2_with fail
 go_ret
 exact ⟨HK.out,rfl⟩
set_option maxHeartbeats 4000000 in
set_option maxRecDepth 20000 in
theorem tnum_any (v:Val) (lv kv:Value) (k:List UInt8) (d:Nat) (b:Bool) (R:Nat→Prop) (w:World) (ht:Tk d b w) (hv:ValIn w R v lv kv) (hw:wt v≤65536) :
  Calls Tryz.prog 71 #[.pointer (some ⟨d,0,none⟩),arg v lv kv,.string ⟨k.toArray⟩] w fun e w'=>Took d (b||!isNum v [k]) w w'∧e=.returned (.int .i64 (numAt v [k])):=by
 have hv':=hv
 obtain ⟨so,on,n,t,l,ks⟩:=v
 obtain ⟨⟨a1,c1,rfl,_⟩,⟨a2,c2,rfl,_⟩⟩:=hv'
 have hdl:=ht.lt
 have cP:=fun W g (hb:Below w.heap.size w W) hs=>part_any (.mk so on n t l ks) _ _ k [2] g 0 1 d b R W (ht.below hb) (val_below hv hb) hw hs (by simp) (by simp)
 rw [← need_num]
 unfold numAt
 generalize needP (.mk so on n t l ks) k [2]=m at cP ⊢
 generalize getZ (.mk so on n t l ks) [k]=u at cP ⊢
 obtain ⟨so',on',n',t',l',ks'⟩:=u
 simp only [arg,six',six,strCell,numOf,List.length_cons,List.length_nil,Nat.zero_add] at cP ⊢
 generalize l.length=m1 at cP ⊢
 generalize ks.length=m2 at cP ⊢
 obtain ⟨W2,hW2⟩:∃ W2,w.alloc (.cells #[.int .i64 so,.bool on,.int .i64 n,.string ⟨t.toArray⟩,.slice a1 m1 c1,.slice a2 m2 c2] 36)=W2:=⟨_,rfl⟩
 have h1:W2.heap[w.heap.size]?=some (.cells #[.int .i64 so,.bool on,.int .i64 n,.string ⟨t.toArray⟩,.slice a1 m1 c1,.slice a2 m2 c2] 36 (0,0)):=by rw [← hW2];exact heap_alloc_new _ _
 have h3:Below w.heap.size w W2:=by rw [← hW2];exact (Below.refl _ _).alloc (Nat.le_refl _) _
 have hb3:Below w.heap.size w (W2.alloc (.cells #[.int .i64 2] 22)):=h3.alloc h3.size _
 have CP:=Lib.hid (cP (W2.alloc (.cells #[.int .i64 2] 22)) W2.heap.size hb3 (cells_of_block (heap_alloc_new W2 _)))
 have HB3:=Lib.hid hb3
 obtain ⟨⟨q0,q1,q2,q3,q4,q5⟩,qf⟩:=cells_six h1
 clear h1 h3 hb3 cP ht hv
 go_enter Tryz.func71,Tryz.ntmps71
 go_wp2_with fail
 refine CP.out.mono ?_
 rintro e w4 ⟨hk4,lv',kv',rfl,hv4⟩
 obtain ⟨⟨a3,c3,rfl,_⟩,⟨a4,c4,rfl,_⟩⟩:=hv4
 have HK:=Lib.hid (Took.of_below HB3.out hk4)
 have hf:=field_num
 clear hk4 CP hW2 q0 q1 q2 q3 q4 q5 qf
 go_wp2_with fail
 go_ret
 exact ⟨HK.out,rfl⟩
end Go.Proofs.YtpbnhnilfpoljaaGreatDoor.M
namespace Go.Proofs.YtpbnhnilfpoljaaGreatDoor.M
open Go.RowKit
open Go.Lib Go.Proofs.YtpbnhnilfpoljaaGreatDoor.V
theorem has_rec {u:Val} {k:List UInt8} (h:hasP u [k]=true):sortOf u=5:=by
 obtain ⟨so,on,n,t,l,ks⟩:=u
 show so=5
 by_cases hs:so=5
 ·exact hs
 ·exfalso
  unfold hasP at h
  rw [getP_no (fun h2=>hs h2.1)] at h
  cases h
theorem num_rec {u:Val} {k:List UInt8} (h:isNum u [k]=true):sortOf u=5:=by
 unfold isNum at h
 rw [Bool.and_eq_true] at h
 exact has_rec h.1
theorem need_place (v:Val) (k:List UInt8) (b:Bool):(((b||needP v k [5])||!isNum (getZ v [k]) [bLine])||!isNum (getZ v [k]) [bChar])=(b||!placeOk v [k]):=by
 unfold placeOk needP badP
 cases hh:hasP v [k] with
 | false=>cases b <;> simp
 | true =>
  cases hl:isNum (getZ v [k]) [bLine] with
  | false=>cases b <;> simp
  | true =>
   have h5:=num_rec hl
   rw [h5]
   cases b <;> cases isNum (getZ v [k]) [bChar] <;> simp
set_option maxHeartbeats 8000000 in
set_option maxRecDepth 20000 in
theorem tplace_any (v:Val) (lv kv:Value) (k:List UInt8) (d:Nat) (b:Bool) (R:Nat→Prop) (w:World) (ht:Tk d b w) (hv:ValIn w R v lv kv) (hw:wt v≤65536) :
  Calls Tryz.prog 73 #[.pointer (some ⟨d,0,none⟩),arg v lv kv,.string ⟨k.toArray⟩] w fun e w'=>Took d (b||!placeOk v [k]) w w'∧e=.returned (.agg #[.int .i64 (placeAt v [k]).line,.int .i64 (placeAt v [k]).unit]):=by
 have hv':=hv
 obtain ⟨so,on,n,t,l,ks⟩:=v
 obtain ⟨⟨a1,c1,rfl,_⟩,⟨a2,c2,rfl,_⟩⟩:=hv'
 have hdl:=ht.lt
 have cP:=fun W g (hb:Below w.heap.size w W) hs=>part_any (.mk so on n t l ks) _ _ k [5] g 0 1 d b R W (ht.below hb) (val_below hv hb) hw hs (by simp) (by simp)
 rw [← need_place]
 unfold placeAt
 have hwu:=getZ_wt2 [k] hw
 generalize needP (.mk so on n t l ks) k [5]=m at cP ⊢
 generalize getZ (.mk so on n t l ks) [k]=u at cP hwu ⊢
 have cN:=fun (kk:List UInt8) (b':Bool) W lv kv (hk:Tk d b' W) (hv:ValIn W (fun g=>g≠d) u lv kv)=>tnum_any u lv kv kk d b' (fun g=>g≠d) W hk hv hwu
 obtain ⟨so',on',n',t',l',ks'⟩:=u
 simp only [arg,six',six,strCell,List.length_cons,List.length_nil,Nat.zero_add] at cP cN ⊢
 have cL:=fun b' W lv kv=>cN bLine b' W lv kv
 have cC:=fun b' W lv kv=>cN bChar b' W lv kv
 generalize isNum (.mk so' on' n' t' l' ks') [bLine]=x1 at cL ⊢
 generalize isNum (.mk so' on' n' t' l' ks') [bChar]=x2 at cC ⊢
 generalize numAt (.mk so' on' n' t' l' ks') [bLine]=y1 at cL ⊢
 generalize numAt (.mk so' on' n' t' l' ks') [bChar]=y2 at cC ⊢
 simp only [bLine,bChar] at cL cC
 clear cN
 generalize l.length=m1 at cP ⊢
 generalize ks.length=m2 at cP ⊢
 obtain ⟨h1,h2,h3,h4⟩:=two w (.cells #[.int .i64 so,.bool on,.int .i64 n,.string ⟨t.toArray⟩,.slice a1 m1 c1,.slice a2 m2 c2] 36) (.cells #[.int .i64 0,.int .i64 0] 29)
 obtain ⟨W2,hW2⟩:∃ W2,(w.alloc (.cells #[.int .i64 so,.bool on,.int .i64 n,.string ⟨t.toArray⟩,.slice a1 m1 c1,.slice a2 m2 c2] 36)).alloc (.cells #[.int .i64 0,.int .i64 0] 29)=W2:=⟨_,rfl⟩
 rw [hW2] at h1 h2 h3 h4
 obtain ⟨⟨q0,q1,q2,q3,q4,q5⟩,qf⟩:=cells_six h1
 have hz2:w.heap.size+2≤W2.heap.size:=by omega
 have hb3:Below w.heap.size w (W2.alloc (.cells #[.int .i64 5] 22)):=h3.alloc h3.size _
 have CP:=Lib.hid (cP (W2.alloc (.cells #[.int .i64 5] 22)) W2.heap.size hb3 (cells_of_block (heap_alloc_new W2 _)))
 have HB3:=Lib.hid hb3
 have HR3:=Lib.hid ((Below.heap_alloc W2 (.cells #[.int .i64 5] 22) (w.heap.size+1) (by omega)).trans h2)
 clear h1 h2 h3 h4 hb3 cP ht hv
 go_enter Tryz.func73,Tryz.ntmps73
 go_wp2_with fail
 refine CP.out.mono ?_
 rintro e w4 ⟨hk4,lv',kv',rfl,hv4⟩
 have hv5:=hv4
 obtain ⟨⟨a3,c3,rfl,_⟩,⟨a4,c4,rfl,_⟩⟩:=hv5
 have hz4:=hk4.size
 simp only [World.size_alloc] at hz4 hv4
 go_upto_region 2 with fail
 obtain ⟨W5,hW5⟩:∃ W5,w4.alloc (.cells #[.int .i64 so',.bool on',.int .i64 n',.string ⟨t'.toArray⟩,.slice a3 l'.length c3,.slice a4 ks'.length c4] 36)=W5:=⟨_,rfl⟩
 obtain ⟨p,hp⟩:∃ p,w4.heap.size=p:=⟨_,rfl⟩
 have hx5:W5.heap[p]?=some (.cells #[.int .i64 so',.bool on',.int .i64 n',.string ⟨t'.toArray⟩,.slice a3 l'.length c3,.slice a4 ks'.length c4] 36 (0,0)):=by rw [← hW5,← hp];exact heap_alloc_new _ _
 have hb45:Below w4.heap.size w4 W5:=by rw [← hW5];exact (Below.refl _ _).alloc (Nat.le_refl _) _
 have hz5:p<W5.heap.size:=by rw [← hW5,← hp];simp
 have hk5:Took d (b||m) w W5:=⟨(Took.of_below HB3.out hk4).1.trans ((Mut.of_below hb45).mono (by omega)),hk4.2.below hb45⟩
 have hr5:W5.heap[w.heap.size+1]?=some (.cells #[.int .i64 0,.int .i64 0] 29 (0,0)):=(hb45.block (w.heap.size+1) (by omega)).trans ((hk4.1.block (w.heap.size+1) (by simp;omega) (by omega)).trans HR3.out)
 have hv5:ValIn W5 (fun g=>g≠d) (.mk so' on' n' t' l' ks') (.slice a3 l'.length c3) (.slice a4 ks'.length c4):=ValIn.later (fun g hg hlt=>hb45.block g hlt) (fun g hg=>by omega) _ _ _ hv4
 have hpd:p≠d:=by omega
 have hqd:w.heap.size+1≠d:=by omega
 have c1:∀ W,Below W5.heap.size W5 W→Calls Tryz.prog 71 #[.pointer (some ⟨d,0,none⟩),.agg #[.int .i64 so',.bool on',.int .i64 n',.string ⟨t'.toArray⟩,.slice a3 l'.length c3,.slice a4 ks'.length c4],.string ⟨#[108,105,110,101]⟩] W fun e w'=>e=.returned (.int .i64 y1)∧(w'.cell? ⟨p,0,none⟩=some (.int .i64 so')∧w'.cell? ⟨p,1,none⟩=some (.bool on')∧w'.cell? ⟨p,2,none⟩=some (.int .i64 n')∧w'.cell? ⟨p,3,none⟩=some (.string ⟨t'.toArray⟩)∧w'.cell? ⟨p,4,none⟩=some (.slice a3 l'.length c3)∧w'.cell? ⟨p,5,none⟩=some (.slice a4 ks'.length c4))∧Hid (Took d ((b||m)||!x1) W5 w'):=fun W hb=>by
  refine (cL (b||m) W _ _ (hk5.2.below hb) (val_below hv5 hb)).mono ?_
  rintro e w' ⟨g1,rfl⟩
  have g2:Took d ((b||m)||!x1) W5 w':=Took.of_below hb g1
  exact ⟨rfl,(cells_six ((g2.1.block p hz5 hpd).trans hx5)).1,Lib.hid g2⟩
 have c2:∀ w6,Took d ((b||m)||!x1) W5 w6→∀ W,Below w6.heap.size w6 W→Calls Tryz.prog 71 #[.pointer (some ⟨d,0,none⟩),.agg #[.int .i64 so',.bool on',.int .i64 n',.string ⟨t'.toArray⟩,.slice a3 l'.length c3,.slice a4 ks'.length c4],.string ⟨#[99,104,97,114,97,99,116,101,114]⟩] W fun e w'=>e=.returned (.int .i64 y2)∧Hid (w'.heap[w.heap.size+1]?=some (.cells #[.int .i64 0,.int .i64 0] 29 (0,0)))∧w'.cell? ⟨w.heap.size+1,0,none⟩=some (.int .i64 0)∧w'.cell? ⟨w.heap.size+1,1,none⟩=some (.int .i64 0)∧(∀ i,w'.frozen? ⟨w.heap.size+1,i,none⟩=false)∧Hid (Took d (((b||m)||!x1)||!x2) W5 w'):=fun w6 hk6 W hb=>by
  have hv6:=hk6.val hv5 (fun g hg=>hg)
  refine (cC ((b||m)||!x1) W _ _ (hk6.2.below hb) (val_below hv6 hb)).mono ?_
  rintro e w' ⟨g1,rfl⟩
  have g2:Took d (((b||m)||!x1)||!x2) W5 w':=hk6.trans (Took.of_below hb g1)
  have hr6:=(g2.1.block (w.heap.size+1) (by omega) hqd).trans hr5
  exact ⟨rfl,Lib.hid hr6,by unfold World.cell?;rw [hr6];rfl,by unfold World.cell?;rw [hr6];rfl,fun i=>by unfold World.frozen?;rw [hr6];simp,Lib.hid g2⟩
 have C1:=Lib.hid c1
 have C2:=Lib.hid c2
 have HK5:=Lib.hid hk5
 obtain ⟨⟨p0,p1,p2,p3,p4,p5⟩,pf⟩:=cells_six hx5
 rw [hp]
 rw [hW5]
 clear hW5 hp
 clear hW2 q0 q1 q2 q3 q4 q5 qf CP HB3 HR3 hv4 hb45 hk4 hk5 hr5 hv5 hx5 c1 c2 cL cC hwu hw pf
 go_region_with (first
  | (go_at_call 71;(with_reducible refine (C2.out w6 HK6.out _ ?_).mono ?_);(exact ⟨rfl,rfl,rfl,Nat.le_refl _,fun _ _=>rfl⟩);rintro e w7 ⟨rfl,HR7,r0,r1,rf,HK7⟩)
  | (go_at_call 71;(with_reducible refine (C1.out _ ?_).mono ?_);(exact ⟨rfl,rfl,rfl,Nat.le_refl _,fun _ _=>rfl⟩);rintro e w6 ⟨rfl,⟨s0,s1,s2,s3,s4,s5⟩,HK6⟩))
 all_goals
  have hk:=HK5.out.trans HK7.out
  have hm:=(hk.1.setNew ⟨w.heap.size+1,0,none⟩ (by show w.heap.size≤w.heap.size+1;omega) (.int .i64 y1)).setNew ⟨w.heap.size+1,1,none⟩ (by show w.heap.size≤w.heap.size+1;omega) (.int .i64 y2)
  have ht:=(hk.2.other (w.heap.size+1) 0 (.int .i64 y1) (by omega)).other (w.heap.size+1) 1 (.int .i64 y2) (by omega)
  have HK:=Lib.hid (show Took d (((b||m)||!x1)||!x2) w _ from ⟨hm,ht⟩)
  clear hk hm ht C1 C2 HK5 HK6 HK7 p0 p1 p2 p3 p4 p5 s0 s1 s2 s3 s4 s5
  go_wp2_with fail
  refine bodyPost_ret (v:=.agg #[.int .i64 y1,.int .i64 y2]) (by simp [results,Tryz.results73,go_sem,r0,r1]) rfl ?_
  exact ⟨HK.out,rfl⟩
end Go.Proofs.YtpbnhnilfpoljaaGreatDoor.M
namespace Go.Proofs.YtpbnhnilfpoljaaGreatDoor.M
open Go.RowKit
open Go.Lib Go.Proofs.YtpbnhnilfpoljaaGreatDoor.V
theorem getP_two (v:Val) (a b:List UInt8):getP v [a,b]=(getP v [a]).bind fun u=>getP u [b]:=by
 obtain ⟨so,on,n,t,l,ks⟩:=v
 by_cases h:so=5∧ks.idxOf a<l.length∧ks.idxOf a<ks.length
 ·rw [getP_step h.1 h.2.1 h.2.2,getP_step h.1 h.2.1 h.2.2,getP_top];rfl
 ·rw [getP_no h,getP_no h];rfl
theorem two_paths (v:Val) (a b:List UInt8):getZ v [a,b]=getZ (getZ v [a]) [b]∧hasP v [a,b]=hasP (getZ v [a]) [b]:=by
 unfold getZ hasP
 rw [getP_two]
 cases getP v [a] with
 | none=>simp [getP_zero]
 | some u=>simp
theorem place_two (v:Val) (a b:List UInt8):placeOk v [a,b]=placeOk (getZ v [a]) [b]∧placeAt v [a,b]=placeAt (getZ v [a]) [b]:=by
 obtain ⟨h1,h2⟩:=two_paths v a b
 unfold placeOk placeAt
 simp only [h1,h2]
 exact ⟨trivial,trivial⟩
theorem place_rec {u:Val} {k:List UInt8} (h:placeOk u [k]=true):sortOf u=5:=by
 unfold placeOk at h
 rw [Bool.and_eq_true,Bool.and_eq_true] at h
 exact has_rec h.1.1
theorem need_change (v:Val) (b:Bool):(if hasP v [bRange]=true then (((b||!isText v [bText])||badP v bRange [5])||!placeOk (getZ v [bRange]) [bStart])||!placeOk (getZ v [bRange]) [bEnd] else (b||!isText v [bText])||badP v bRange [5])=(b||!changeOk v):=by
 unfold changeOk badP
 rw [(place_two v bRange bStart).1,(place_two v bRange bEnd).1]
 cases hh:hasP v [bRange] with
 | false=>simp
 | true =>
  cases hs:placeOk (getZ v [bRange]) [bStart] with
  | false=>cases b <;> cases isText v [bText] <;> simp
  | true =>
   rw [place_rec hs]
   cases b <;> cases isText v [bText] <;> cases placeOk (getZ v [bRange]) [bEnd] <;> simp
def Ed (q:Nat) (fl fu tl tu:Int) (t:List UInt8) (wh:Bool) (W:World):Prop:=W.heap[q]?=some (.cells #[.int .i64 fl,.int .i64 fu,.int .i64 tl,.int .i64 tu,.string ⟨t.toArray⟩,.bool wh] 84 (0,0))
theorem ed_cells {W:World} {q:Nat} {fl fu tl tu:Int} {t:List UInt8} {wh:Bool} (h:Ed q fl fu tl tu t wh W) :
  (W.cell? ⟨q,0,none⟩=some (.int .i64 fl)∧W.cell? ⟨q,1,none⟩=some (.int .i64 fu)∧W.cell? ⟨q,2,none⟩=some (.int .i64 tl)∧W.cell? ⟨q,3,none⟩=some (.int .i64 tu)∧W.cell? ⟨q,4,none⟩=some (.string ⟨t.toArray⟩)∧W.cell? ⟨q,5,none⟩=some (.bool wh))∧∀ i,W.frozen? ⟨q,i,none⟩=false:=by
 unfold Ed at h
 refine ⟨⟨?_,?_,?_,?_,?_,?_⟩,fun i=>by unfold World.frozen?;rw [h];simp⟩ <;> (unfold World.cell?;rw [h];rfl)
theorem Ed.took {q d:Nat} {b:Bool} {fl fu tl tu:Int} {t:List UInt8} {wh:Bool} {W W':World} (h:Ed q fl fu tl tu t wh W) (hk:Took d b W W') (hq:q≠d):Ed q fl fu tl tu t wh W' :=
 (hk.1.block q (Array.getElem?_eq_some_iff.1 h).1 hq).trans h
theorem Ed.alloc {q:Nat} {fl fu tl tu:Int} {t:List UInt8} {wh:Bool} {W:World} (h:Ed q fl fu tl tu t wh W) (ob:Obj):Ed q fl fu tl tu t wh (W.alloc ob) :=
 (Below.heap_alloc W ob q (Array.getElem?_eq_some_iff.1 h).1).trans h
theorem Ed.setT {q:Nat} {fl fu tl tu:Int} {t:List UInt8} {wh:Bool} {W:World} (h:Ed q fl fu tl tu t wh W) (x:List UInt8):Ed q fl fu tl tu x wh (W.setCell ⟨q,4,none⟩ (.string ⟨x.toArray⟩)):=Go.Joins.block_setCell (i:=4) h _
theorem Ed.setW {q:Nat} {fl fu tl tu:Int} {t:List UInt8} {wh:Bool} {W:World} (h:Ed q fl fu tl tu t wh W) (x:Bool):Ed q fl fu tl tu t x (W.setCell ⟨q,5,none⟩ (.bool x)):=Go.Joins.block_setCell (i:=5) h _
theorem Ed.setF {q:Nat} {fl fu tl tu:Int} {t:List UInt8} {wh:Bool} {W:World} (h:Ed q fl fu tl tu t wh W) (x y:Int):Ed q x y tl tu t wh ((W.setCell ⟨q,0,none⟩ (.int .i64 x)).setCell ⟨q,1,none⟩ (.int .i64 y)):=Go.Joins.block_setCell (i:=1) (Go.Joins.block_setCell (i:=0) h _) _
theorem Ed.setE {q:Nat} {fl fu tl tu:Int} {t:List UInt8} {wh:Bool} {W:World} (h:Ed q fl fu tl tu t wh W) (x y:Int):Ed q fl fu x y t wh ((W.setCell ⟨q,2,none⟩ (.int .i64 x)).setCell ⟨q,3,none⟩ (.int .i64 y)):=Go.Joins.block_setCell (i:=3) (Go.Joins.block_setCell (i:=2) h _) _
theorem Took.set {d:Nat} {b:Bool} {w W:World} (h:Took d b w W) (q i:Nat) (v:Value) (hq:w.heap.size≤q) (hd:d<w.heap.size):Took d b w (W.setCell ⟨q,i,none⟩ v):=⟨h.1.setNew ⟨q,i,none⟩ hq v,h.2.other q i v (by omega)⟩
theorem Took.alloc {d:Nat} {b:Bool} {w W:World} (h:Took d b w W) (ob:Obj):Took d b w (W.alloc ob):=⟨h.1.alloc h.1.size ob,h.2.below ((Below.refl _ _).alloc (Nat.le_refl _) ob)⟩
theorem Took.start {d:Nat} {b:Bool} {w W:World} (h:Tk d b w) (hb:Below w.heap.size w W):Took d b w W:=⟨Mut.of_below hb,h.below hb⟩
end Go.Proofs.YtpbnhnilfpoljaaGreatDoor.M
