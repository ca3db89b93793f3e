/- What the claim needs of the texts MMake7. -/
import Derived.Test.YtpbnhnilfpoljaaGreatDoorRB17
import Derived.Deep.RegionLaw
import Derived.Deep.AppendLies
namespace Go.Proofs.YtpbnhnilfpoljaaGreatDoor.M
open Go.RowKit
open Go.Lib Go.Proofs.YtpbnhnilfpoljaaGreatDoor.V
def editC (e:EditP):List Value:=[.int .i64 e.frm.line,.int .i64 e.frm.unit,.int .i64 e.til.line,.int .i64 e.til.unit,strCell e.text,.bool e.whole]
def editCs:List EditP→List Value
 | []=>[]
 | e :: r=>editC e++editCs r
theorem editCs_length:∀ (l:List EditP),(editCs l).length=6*l.length
 | []=>rfl
 | e :: r=>by simp only [editCs,List.length_append,editCs_length r,List.length_cons,editC,List.length_nil];omega
theorem editCs_snoc:∀ (l:List EditP) (e:EditP),editCs (l++[e])=editCs l++editC e
 | [],e=>by simp [editCs]
 | x :: r,e=>by simp [editCs,editCs_snoc r e]
theorem editC_one (e:EditP):∀ u∈editC e,u.oneCell'=true:=by
 intro u hu
 simp only [editC,strCell,List.mem_cons,List.not_mem_nil,or_false] at hu
 rcases hu with rfl|rfl|rfl|rfl|rfl|rfl <;> rfl
def EditsIn (W:World) (R:Nat→Prop) (l:List EditP) (v:Value):Prop:=∃ a cap,v=.slice a l.length cap∧(l=[]∨∃ g off,a=some ⟨g,off,none⟩∧R g∧CellsAt W g off (editCs l))
theorem EditsIn.later {W W':World} {R R':Nat→Prop} {l:List EditP} {v:Value} (h:EditsIn W R l v) (hs:Same R W W') (hR:∀ g,R g→R' g):EditsIn W' R' l v:=by
 obtain ⟨a,cap,h1,h2⟩:=h
 exact ⟨a,cap,h1,h2.imp id fun ⟨g,off,h3,h4,h5⟩=>⟨g,off,h3,hR g h4,h5.later h4 hs⟩⟩
theorem EditsIn.bound {W:World} {R:Nat→Prop} {l:List EditP} {v:Value} (h:EditsIn W R l v):EditsIn W (fun g=>R g∧g<W.heap.size) l v:=by
 obtain ⟨a,cap,h1,h2⟩:=h
 refine ⟨a,cap,h1,?_⟩
 rcases h2 with h2|⟨g,off,h3,h4,h5⟩
 ·exact .inl h2
 ·by_cases hl:l=[]
  ·exact .inl hl
  ·refine .inr ⟨g,off,h3,⟨h4,cells_lt h5 (fun h=>hl ?_)⟩,h5⟩
   have:=editCs_length l
   rw [h] at this
   exact List.eq_nil_of_length_eq_zero (by simp at this;omega)
theorem edits_nil (W:World) (R:Nat→Prop):EditsIn W R [] (.slice none 0 0):=⟨none,0,rfl,.inl rfl⟩
theorem edit_at {W:World}:∀ {l:List EditP} {g off:Nat} (i:Nat),CellsAt W g off (editCs l)→(hi:i<l.length) →
  W.cell? ⟨g,off+i*6,none⟩=some (.int .i64 l[i].frm.line)∧W.cell? ⟨g,off+i*6+1,none⟩=some (.int .i64 l[i].frm.unit)∧W.cell? ⟨g,off+i*6+2,none⟩=some (.int .i64 l[i].til.line)∧W.cell? ⟨g,off+i*6+3,none⟩=some (.int .i64 l[i].til.unit) ∧
   W.cell? ⟨g,off+i*6+4,none⟩=some (.string ⟨l[i].text.toArray⟩)∧W.cell? ⟨g,off+i*6+5,none⟩=some (.bool l[i].whole)
 | [],_,_,i,_,hi=>absurd hi (Nat.not_lt_zero _)
 | e :: r,g,off,0,hc,_=>⟨hc 0 _ rfl,hc 1 _ rfl,hc 2 _ rfl,hc 3 _ rfl,hc 4 _ rfl,hc 5 _ rfl⟩
 | e :: r,g,off,i+1,hc,hi=>by
  have hc':CellsAt W g (off+6) (editCs r):=fun j u hj=>by
   have:=hc (6+j) u (by rw [editCs,List.getElem?_append_right (by simp [editC])];simpa [editC] using hj)
   rwa [show off+6+j=off+(6+j) by omega]
  have:=edit_at i hc' (by simpa using hi)
  simpa [show off+6+i*6=off+(i+1)*6 by omega] using this
structure CgSt (l:List EditP) (lv:Value) (xs:List Value) (i:Nat) (w wr:World):Prop where
 below:Below w.heap.size w wr
 size:w.heap.size+2≤wr.heap.size
 res:wr.heap[w.heap.size]?=some (.cells #[.int .i64 0,.bool false,.int .i64 0,.string ⟨#[]⟩,.slice none 0 0,.slice none 0 0] 36 (0,0))
 box:wr.heap[w.heap.size+1]?=some (.cells #[.int .i64 4,.bool false,.int .i64 0,.string ⟨#[]⟩,lv,.slice none 0 0] 36 (0,0))
 own:wr.ownsRow (w.heap.size+2) 36 6 lv i xs
 parts:ListIn wr (fun g=>w.heap.size+2≤g∧lv.ownBlock≠some g) ((l.take i).map editV) xs
theorem cg_start (l:List EditP) (w:World):CgSt l (.slice none 0 0) [] 0 w
  ((w.alloc (.cells #[.int .i64 0,.bool false,.int .i64 0,.string ⟨#[]⟩,.slice none 0 0,.slice none 0 0] 36)).alloc (.cells #[.int .i64 4,.bool false,.int .i64 0,.string ⟨#[]⟩,.slice none 0 0,.slice none 0 0] 36)):=by
 obtain ⟨h1,h2,h3,h4⟩:=two w (.cells #[.int .i64 0,.bool false,.int .i64 0,.string ⟨#[]⟩,.slice none 0 0,.slice none 0 0] 36) (.cells #[.int .i64 4,.bool false,.int .i64 0,.string ⟨#[]⟩,.slice none 0 0,.slice none 0 0] 36)
 exact ⟨h3,by rw [h4];omega,h1,h2,World.ownsRow_nil _ _ _ _,rfl⟩
theorem cg_step {l:List EditP} {lvo lv' kv':Value} {xs:List Value} {i gg capg:Nat} {w wr w2 w3:World} {zo:Obj}
  (hst:CgSt l lvo xs i w wr) (hi:i<l.length) (hb2:Below wr.heap.size wr w2) (hv:ValIn w2 (fun g=>wr.heap.size≤g) (editV l[i]) lv' kv')
  (hgrow:(w2.alloc zo).grownBy w3 lvo.ownBlock)
  (hown3:w3.ownsRow (w.heap.size+2) 36 6 (.slice (some ⟨gg,0,none⟩) (i+1) capg) (i+1) (xs++six' (editV l[i]) lv' kv'))
  (hat:lvo.ownBlock=some gg∨gg=w2.heap.size+1) :
  CgSt l (.slice (some ⟨gg,0,none⟩) (i+1) capg) (xs++six' (editV l[i]) lv' kv') (i+1) w (w3.setCell ⟨w.heap.size+1,4,none⟩ (.slice (some ⟨gg,0,none⟩) (i+1) capg)):=by
 have hrow:∀ k,lvo.ownBlock=some k→w.heap.size+2≤k∧k<wr.heap.size:=fun k hk=>row_lt hst.own k hk
 have hz2:=hb2.size
 have hz0:=hst.size
 have hgB:=(row_lt hown3 gg rfl).1
 have hggw:∀ k,k<w2.heap.size→lvo.ownBlock≠some k→k≠gg:=fun k hk hne h=>by
  subst h;rcases hat with h|h
  ·exact hne h
  ·omega
 have far3:∀ k,k<w2.heap.size→lvo.ownBlock≠some k→w3.heap[k]?=w2.heap[k]?:=fun k hk hne=>by
  rw [hgrow.block k (by simp;omega) (fun h=>hne h.symm)]
  exact Below.heap_alloc w2 zo k (by omega)
 have far2:∀ k,k<w2.heap.size→lvo.ownBlock≠some k→k≠w.heap.size+1→(w3.setCell ⟨w.heap.size+1,4,none⟩ (.slice (some ⟨gg,0,none⟩) (i+1) capg)).heap[k]?=w2.heap[k]?:=fun k hk hne hkb=>by
  rw [Below.heap_setCell _ _ _ _ hkb]
  exact far3 k hk hne
 have hlow:∀ k,k<w.heap.size+2→lvo.ownBlock≠some k:=fun k hk h=>by have:=hrow k h;omega
 have hs3:=hgrow.size
 simp only [World.size_alloc] at hs3
 refine ⟨?_,?_,?_,?_,?_,?_⟩
 ·refine ⟨hgrow.os.trans (hb2.os.trans hst.below.os),hgrow.tape.trans (hb2.tape.trans hst.below.tape),hgrow.output.trans (hb2.output.trans hst.below.output),?_,fun k hk=>?_⟩
  ·rw [sc_size];omega
  ·exact (far2 k (by omega) (hlow k (by omega)) (by omega)).trans ((hb2.block k (by omega)).trans (hst.below.block k hk))
 ·rw [sc_size];omega
 ·exact (far2 _ (by omega) (hlow _ (by omega)) (by omega)).trans ((hb2.block _ (by omega)).trans hst.res)
 ·exact Go.Joins.block_setCell (cs:=#[.int .i64 4,.bool false,.int .i64 0,.string ⟨#[]⟩,lvo,.slice none 0 0]) (i:=4) ((far3 _ (by omega) (hlow _ (by omega))).trans ((hb2.block _ (by omega)).trans hst.box)) _
 ·refine ownsRow_same hown3 fun g hg=>?_
  have hg:gg=g:=by simpa [Value.ownBlock] using hg
  rw [Below.heap_setCell _ _ _ _ (by show g≠w.heap.size+1;omega)]
 ·rw [List.take_succ_eq_append_getElem hi,List.map_append,List.map_singleton]
  refine ListIn.snoc ?_ ?_
  ·refine ListIn.later (R:=fun g=>(w.heap.size+2≤g∧lvo.ownBlock≠some g)∧g<wr.heap.size) (fun g hg hlt=>?_) (fun g hg=>?_) _ xs (ListIn.bound _ xs hst.parts)
   ·exact (far2 g (by omega) hg.1.2 (by omega)).trans (hb2.block g hlt)
   ·refine ⟨hg.1.1,fun h2=>?_⟩
    have h2:gg=g:=by simpa [Value.ownBlock] using h2
    exact hggw g (by omega) hg.1.2 h2.symm
  ·refine ValIn.later (R:=fun g=>wr.heap.size≤g∧g<w2.heap.size) (fun g hg hlt=>?_) (fun g hg=>?_) _ _ _ (ValIn.bound _ _ _ hv)
   ·have hne:lvo.ownBlock≠some g:=fun h=>by have:=hrow g h;omega
    exact far2 g hlt hne (by omega)
   ·have hne:lvo.ownBlock≠some g:=fun h=>by have:=hrow g h;omega
    refine ⟨by omega,fun h2=>?_⟩
    have h2:gg=g:=by simpa [Value.ownBlock] using h2
    exact hggw g hg.2 hne h2.symm
theorem cg_end {l:List EditP} {lv:Value} {xs:List Value} {w wr:World} (hst:CgSt l lv xs l.length w wr):ValIn wr (fun g=>w.heap.size+2≤g) (listV l) lv (.slice none 0 0):=by
 have hp:=hst.parts
 rw [List.take_length] at hp
 refine ⟨?_,⟨none,0,rfl,.inl rfl⟩⟩
 rw [List.length_map]
 rcases hst.own.2 with ⟨h1,h2⟩|⟨g,cap,cur,h1,hg,hgg,hle,hcap,hsz,htake⟩
 ·exact ⟨none,0,by rw [h1,h2],.inl (by rw [List.eq_nil_of_length_eq_zero h2];rfl)⟩
 ·refine ⟨some ⟨g,0,none⟩,cap,h1,.inr ⟨g,0,xs,rfl,hg,fun j u hj=>?_,ListIn.later (fun _ _ _=>rfl) (fun g hg=>hg.1) _ _ hp⟩⟩
  rw [Nat.zero_add]
  unfold World.cell?
  rw [hgg]
  rw [← htake,List.getElem?_take] at hj
  split at hj
  ·simpa using hj
  ·cases hj
set_option maxHeartbeats 8000000 in
set_option maxRecDepth 100000 in
theorem changes_any (l:List EditP) (v:Value) (R:Nat→Prop) (w:World) (hl:EditsIn w R l v) (hll:l.length≤1000) :
  Calls Tryz.prog 58 #[v] w fun e w'=>Below w.heap.size w w'∧∃ a c,e=.returned (.agg #[.int .i64 4,.bool false,.int .i64 0,.string ⟨#[]⟩,.slice a l.length c,.slice none 0 0])∧ValIn w' (fun b=>w.heap.size≤b) (listV l) (.slice a l.length c) (.slice none 0 0):=by
 obtain ⟨i0,hi0,hz0,hz1,hz2⟩:=info_parts infoV
 obtain ⟨a0,c0,rfl,hE⟩:=hl.bound
 have HE:=Lib.hid hE
 obtain ⟨ln,hln⟩:∃ k,l.length=k:=⟨_,rfl⟩
 have HLN:=Lib.hid hln
 rw [hln] at hll ⊢
 clear hl hE hln
 go_enter Tryz.func58,Tryz.ntmps58
 go_wp2_with fail
 obtain ⟨w1,hw1⟩:∃ w1,(w.alloc (.cells #[.int .i64 0,.bool false,.int .i64 0,.string ⟨#[]⟩,.slice none 0 0,.slice none 0 0] 36)).alloc (.cells #[.int .i64 4,.bool false,.int .i64 0,.string ⟨#[]⟩,.slice none 0 0,.slice none 0 0] 36)=w1:=⟨_,rfl⟩
 rw [hw1]
 have HST:Hid (CgSt l (.slice none 0 0) [] 0 w w1):=Lib.hid (by rw [← hw1];exact cg_start l w)
 clear hw1
 go_loopw [9] (fun iv wr=>∃ (i:Nat) (ao:Option Addr) (cap:Nat) (xs:List Value),iv=.int .i64 i∧i≤ln∧Hid (CgSt l (.slice ao i cap) xs i w wr)) (fun iv _=>ln - (Go.RowKit.intOf iv).toNat)
 case atStart=>exact ⟨0,none,0,[],rfl,by omega,HST⟩
 case round =>
  obtain ⟨i,ao,cap,xs,rfl,hi,HI⟩:=hrel
  have hzr:=HI.out.size
  by_cases hlt:i<ln
  ·have hil:i<l.length:=by rw [HLN.out];exact hlt
   obtain ⟨g,off,rfl,hg,hc⟩:=HE.out.resolve_left (fun h=>by rw [h] at hil;exact Nat.not_lt_zero _ hil)
   have hb0:=HI.out.below
   have hgw:=hg.2
   obtain ⟨p0,p1,p2,p3,p4,p5⟩:=edit_at i hc hil
   replace p0:=(hb0.cell hgw).trans p0
   replace p1:=(hb0.cell hgw).trans p1
   replace p2:=(hb0.cell hgw).trans p2
   replace p3:=(hb0.cell hgw).trans p3
   replace p4:=(hb0.cell hgw).trans p4
   replace p5:=(hb0.cell hgw).trans p5
   have cC:=fun W=>change_any l[i] W
   obtain ⟨E,hEe⟩:∃ E,l[i]=E:=⟨_,rfl⟩
   simp only [hEe] at p0 p1 p2 p3 p4 p5 cC
   obtain ⟨⟨fl,fu⟩,⟨tl,tu⟩,tx,wh⟩:=E
   obtain ⟨kE,lE,hV⟩:∃ kE lE,editV ⟨⟨fl,fu⟩,⟨tl,tu⟩,tx,wh⟩=recP kE lE:=by unfold editV;split <;> exact ⟨_,_,rfl⟩
   simp only [hV] at cC
   have HEV:=Lib.hid (show editV l[i]=recP kE lE by rw [hEe];exact hV)
   obtain ⟨n1,hn1⟩:∃ k,lE.length=k:=⟨_,rfl⟩
   obtain ⟨n2,hn2⟩:∃ k,kE.length=k:=⟨_,rfl⟩
   obtain ⟨W1,hW1⟩:∃ W1,wr.alloc (.cells #[.int .i64 fl,.int .i64 fu,.int .i64 tl,.int .i64 tu,.string ⟨tx.toArray⟩,.bool wh] 84)=W1:=⟨_,rfl⟩
   have hp1:W1.heap[wr.heap.size]?=some (.cells #[.int .i64 fl,.int .i64 fu,.int .i64 tl,.int .i64 tu,.string ⟨tx.toArray⟩,.bool wh] 84 (0,0)):=by rw [← hW1];exact heap_alloc_new wr _
   have hx1:W1.heap[w.heap.size+1]?=some (.cells #[.int .i64 4,.bool false,.int .i64 0,.string ⟨#[]⟩,.slice ao i cap,.slice none 0 0] 36 (0,0)):=by rw [← hW1];exact (Below.heap_alloc wr _ _ (by omega)).trans HI.out.box
   have hbW:Below wr.heap.size wr W1:=by rw [← hW1];exact (Below.refl _ _).alloc (Nat.le_refl _) _
   have hzW:wr.heap.size<W1.heap.size:=by rw [← hW1];simp
   have hol:W1.ownsRow (w.heap.size+2) 36 6 (.slice ao i cap) i xs:=by rw [← hW1];exact HI.out.own.alloc _
   have r0:W1.cell? ⟨wr.heap.size,0,none⟩=some (.int .i64 fl):=by unfold World.cell?;rw [hp1];rfl
   have r1:W1.cell? ⟨wr.heap.size,1,none⟩=some (.int .i64 fu):=by unfold World.cell?;rw [hp1];rfl
   have r2:W1.cell? ⟨wr.heap.size,2,none⟩=some (.int .i64 tl):=by unfold World.cell?;rw [hp1];rfl
   have r3:W1.cell? ⟨wr.heap.size,3,none⟩=some (.int .i64 tu):=by unfold World.cell?;rw [hp1];rfl
   have r4:W1.cell? ⟨wr.heap.size,4,none⟩=some (.string ⟨tx.toArray⟩):=by unfold World.cell?;rw [hp1];rfl
   have r5:W1.cell? ⟨wr.heap.size,5,none⟩=some (.bool wh):=by unfold World.cell?;rw [hp1];rfl
   obtain ⟨⟨_,_,_,_,q4,_⟩,qf⟩:=cells_six hx1
   have hcP:∀ W',Below W1.heap.size W1 W'→Calls Tryz.prog 91 #[.agg #[.int .i64 fl,.int .i64 fu,.int .i64 tl,.int .i64 tu,.string ⟨tx.toArray⟩,.bool wh]] W' fun e w2=>∃ a3 c3 a4 c4,e=.returned (.agg #[.int .i64 5,.bool false,.int .i64 0,.string ⟨#[]⟩,.slice a3 n1 c3,.slice a4 n2 c4])∧Hid (Below wr.heap.size wr w2)∧Hid (ValIn w2 (fun g=>wr.heap.size≤g) (recP kE lE) (.slice a3 n1 c3) (.slice a4 n2 c4)) ∧
     w2.cell? ⟨w.heap.size+1,4,none⟩=some (.slice ao i cap)∧(∀ j,w2.frozen? ⟨w.heap.size+1,j,none⟩=false)∧Hid (w2.ownsRow (w.heap.size+2) 36 6 (.slice ao i cap) i xs)∧w.heap.size+1<w2.heap.size:=fun W' hb'=>by
    refine (cC W').mono ?_
    rintro e w2 ⟨h1,lv,kv,rfl,h3⟩
    have h4:=h3
    obtain ⟨⟨a3,c3,rfl,_⟩,⟨a4,c4,rfl,_⟩⟩:=h4
    have hb2:Below W1.heap.size W1 w2:=hb'.trans (h1.mono hb'.size)
    have hbx:=cells_six ((hb2.block _ (by omega)).trans hx1)
    rw [hn1,hn2] at h3 ⊢
    refine ⟨a3,c3,a4,c4,by simp [arg,recP,six',six,strCell],Lib.hid (hbW.trans (hb2.mono (by omega))),Lib.hid (ValIn.later (fun _ _ _=>rfl) (fun b hb=>by have:=hb'.size;omega) _ _ _ h3),hbx.1.2.2.2.2.1,hbx.2,Lib.hid (ownsRow_same hol fun g' hg'=>hb2.block g' (row_lt hol g' hg').2),by have:=hb2.size;omega⟩
   have hbg:some (w.heap.size+1)≠(Value.slice ao i cap).ownBlock:=fun h=>by
    have:=row_lt hol _ h.symm
    omega
   clear cC hp1 hx1 hbW hol hb0
   go_wp2_with fail
   go_region_law (first
    | (refine step_append_lies _ (by rfl) _ _ _ (by rfl) (w.heap.size+2) 36 i0 _ 6 88 Tryz.underlying34 hi0 hz0 hz1 hz2 rfl (by omega) (.slice ao i cap) i xs (by rfl) (HO2.out.alloc _) ⟨w2.heap.size,0,none⟩ 1 1 [.int .i64 5,.bool false,.int .i64 0,.string ⟨#[]⟩,.slice a3 n1 c3,.slice a4 n2 c4] (by rfl) (by rfl) (World.news_of_block (cs:=#[.int .i64 5,.bool false,.int .i64 0,.string ⟨#[]⟩,.slice a3 n1 c3,.slice a4 n2 c4]) (t:=36) (fr:=(0,0)) (heap_alloc_new w2 _)) (by intro u hu;simp at hu;rcases hu with rfl|rfl|rfl|rfl|rfl|rfl <;> rfl) (by omega) (by unfold maxLen;omega) (by omega) (by simp;omega) (w2.heap.size+1) (by simp) ?_;intro gg capg w3 hown3 hgrow hat hlt3;have kb3:=(hgrow.cell_far ⟨w.heap.size+1,4,none⟩ (by simp;omega) hbg).trans ((World.cell?_alloc_past _ _ _ hbt2).trans k4');have fb3:=(hgrow.frozen_far ⟨w.heap.size+1,4,none⟩ (by simp;omega) hbg).trans ((World.frozen?_alloc_past _ _ _ hbt2).trans (kf' 4)))
    | (go_simp;refine (hcP _ (by exact ⟨rfl,rfl,rfl,Nat.le_refl _,fun _ _=>rfl⟩)).mono ?_;rintro e w2 ⟨a3,c3,a4,c4,rfl,HB2,HV2,k4',kf',HO2,hbt2⟩))
   all_goals
    have hfin:=cg_step (lv':=.slice a3 n1 c3) (kv':=.slice a4 n2 c4) HI.out hil HB2.out (by rw [HEV.out];exact HV2.out) hgrow (by rw [HEV.out];exact hown3) hat
    rw [HEV.out] at hfin
    have HFIN:=Lib.hid hfin
    clear hfin hown3 hgrow hat kb3 fb3 k4' kf' r0 r1 r2 r3 r4 r5 q4 qf hcP
    go_wp2_with fail
    go_roundw
    case rel=>exact ⟨i+1,some ⟨gg,0,none⟩,capg,_,by go_num,by omega,HFIN⟩
    case measure=>simp [Go.RowKit.intOf];omega
  ·obtain rfl:i=ln:=by omega
   have hst:=HI.out
   have hve:=cg_end (by rw [HLN.out];exact hst)
   obtain ⟨⟨q0,q1,q2,q3,q4,q5⟩,qf⟩:=cells_six hst.box
   obtain ⟨⟨r0,r1,r2,r3,r4,r5⟩,rf⟩:=cells_six hst.res
   unfold listV at hve
   obtain ⟨HP1,HMB,HV4⟩:=ret6 hst.res hst.below (Nat.le_refl _) hve (fun b hb=>by omega)
   have HVE:=Lib.hid (ValIn.later (R':=fun b=>w.heap.size≤b) (fun _ _ _=>rfl) (fun b hb=>by omega) _ _ _ HV4.out)
   clear hst hve HI HV4
   go_wp2_with fail
   (try simp only [Exit.inBlock,Exit.then])
   refine bodyPost_ret (v:=.agg #[.int .i64 4,.bool false,.int .i64 0,.string ⟨#[]⟩,.slice ao i cap,.slice none 0 0]) (results_cell_row rfl _ _ w.heap.size 36 #[.int .i64 4,.bool false,.int .i64 0,.string ⟨#[]⟩,.slice ao i cap,.slice none 0 0] (0,0) _ (by rfl) HP1.out Tryz.underlying36 rfl (by kernel_rfl)) rfl ?_
   exact ⟨HMB.out,ao,cap,rfl,HVE.out⟩
end Go.Proofs.YtpbnhnilfpoljaaGreatDoor.M
