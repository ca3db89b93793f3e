/- What the claim needs of the texts MRep, MMake1, MPlain2. -/
import Derived.Test.YtpbnhnilfpoljaaGreatDoorRB14
import Derived.Laws.AppendOwnNone
import Derived.Laws.MakeOwn
import Derived.Test.YtpbnhnilfpoljaaGreatDoorRB9
import Derived.Test.YtpbnhnilfpoljaaGreatDoorRB10
namespace Go.Proofs.YtpbnhnilfpoljaaGreatDoor.M
open Go.RowKit
open Go.Lib Go.Proofs.YtpbnhnilfpoljaaGreatDoor.V
def PartsL (W:World) (R:Nat→Prop):List (List UInt8 × Val)→List Value→Prop
 | [],xs=>xs=[]
 | (k,v) :: r,xs=>∃ lv kv rest,xs=strCell k :: six' v lv kv++rest∧ValIn W R v lv kv∧PartsL W R r rest
def PartsAt (W:World) (R:Nat→Prop) (ps:List (List UInt8 × Val)) (g off:Nat):Prop:=∃ xs,CellsAt W g off xs∧PartsL W R ps xs
theorem PartsL.later {W W':World} {R R':Nat→Prop} (hs:Same R W W') (hR:∀ g,R g→R' g):∀ (ps:List (List UInt8 × Val)) (xs:List Value),PartsL W R ps xs→PartsL W' R' ps xs
 | [],xs,h=>h
 | (k,v) :: r,xs,h=>by
  obtain ⟨lv,kv,rest,h1,h2,h3⟩:=h
  exact ⟨lv,kv,rest,h1,ValIn.later hs hR v lv kv h2,PartsL.later hs hR r rest h3⟩
theorem PartsL.length {W:World} {R:Nat→Prop}:∀ {ps:List (List UInt8 × Val)} {xs:List Value},PartsL W R ps xs→xs.length=7*ps.length
 | [],xs,h=>by have h:xs=[]:=h;subst h;rfl
 | (k,v) :: r,xs,h=>by
  obtain ⟨lv,kv,rest,rfl,_,h3⟩:=h
  have:=PartsL.length h3
  simp only [List.cons_append,List.length_cons,List.length_append,six_length,this];omega
theorem PartsL.one {W:World} {R:Nat→Prop}:∀ {ps:List (List UInt8 × Val)} {xs:List Value},PartsL W R ps xs→∀ u∈xs,u.oneCell'=true
 | [],xs,h,u,hu=>by
  have h:xs=[]:=h
  subst h;cases hu
 | (k,.mk so on n t l' ks) :: r,xs,h,u,hu=>by
  obtain ⟨lv,kv,rest,rfl,hv,hr⟩:=h
  obtain ⟨⟨a1,c1,rfl,_⟩,⟨a2,c2,rfl,_⟩⟩:=hv
  rcases List.mem_append.1 hu with h1|h1
  ·simp only [six',six,strCell,List.mem_cons,List.not_mem_nil,or_false] at h1
   rcases h1 with rfl|rfl|rfl|rfl|rfl|rfl|rfl <;> rfl
  ·exact PartsL.one hr u h1
theorem PartsL.append {W:World} {R:Nat→Prop}:∀ {ps qs:List (List UInt8 × Val)} {xs ys:List Value},PartsL W R ps xs→PartsL W R qs ys→PartsL W R (ps++qs) (xs++ys)
 | [],qs,xs,ys,h,h'=>by
  have h:xs=[]:=h
  subst h;exact h'
 | (k,v) :: r,qs,xs,ys,h,h'=>by
  obtain ⟨lv,kv,rest,rfl,hv,hr⟩:=h
  exact ⟨lv,kv,rest++ys,by simp,hv,PartsL.append hr h'⟩
theorem PartsL.bound {W:World} {R:Nat→Prop}:∀ (ps:List (List UInt8 × Val)) (xs:List Value),PartsL W R ps xs→PartsL W (fun g=>R g∧g<W.heap.size) ps xs
 | [],xs,h=>h
 | (k,v) :: r,xs,h=>by
  obtain ⟨lv,kv,rest,h1,h2,h3⟩:=h
  exact ⟨lv,kv,rest,h1,ValIn.bound v lv kv h2,PartsL.bound r rest h3⟩
theorem parts_at {W:World} {R:Nat→Prop}:∀ {ps:List (List UInt8 × Val)} {xs:List Value} {g off:Nat} (i:Nat),PartsL W R ps xs→CellsAt W g off xs→(hi:i<ps.length) →
  ∃ so on n t l' ks a1 c1 a2 c2,ps[i].2=.mk so on n t l' ks∧ValIn W R (.mk so on n t l' ks) (.slice a1 l'.length c1) (.slice a2 ks.length c2) ∧
   W.cell? ⟨g,off+i*7,none⟩=some (.string ⟨(ps[i].1).toArray⟩)∧W.cell? ⟨g,off+i*7+1,none⟩=some (.int .i64 so)∧W.cell? ⟨g,off+i*7+2,none⟩=some (.bool on)∧W.cell? ⟨g,off+i*7+3,none⟩=some (.int .i64 n)∧W.cell? ⟨g,off+i*7+4,none⟩=some (.string ⟨t.toArray⟩) ∧
   W.cell? ⟨g,off+i*7+5,none⟩=some (.slice a1 l'.length c1)∧W.cell? ⟨g,off+i*7+6,none⟩=some (.slice a2 ks.length c2)
 | [],_,_,_,i,_,_,hi=>absurd hi (Nat.not_lt_zero _)
 | (k,.mk so on n t l' ks) :: r,xs,g,off,0,h,hc,_=>by
  obtain ⟨lv,kv,rest,rfl,hv,_⟩:=h
  have hv':=hv
  obtain ⟨⟨a1,c1,rfl,_⟩,⟨a2,c2,rfl,_⟩⟩:=hv'
  refine ⟨so,on,n,t,l',ks,a1,c1,a2,c2,rfl,hv,?_,?_,?_,?_,?_,?_,?_⟩
  ·exact hc 0 _ rfl
  ·exact hc 1 _ rfl
  ·exact hc 2 _ rfl
  ·exact hc 3 _ rfl
  ·exact hc 4 _ rfl
  ·exact hc 5 _ rfl
  ·exact hc 6 _ rfl
 | (k,v) :: r,xs,g,off,i+1,h,hc,hi=>by
  obtain ⟨lv,kv,rest,rfl,_,hr⟩:=h
  have hc':CellsAt W g (off+7) rest:=fun j u hj=>by
   have:=hc (7+j) u (by rw [List.getElem?_append_right (by simp only [List.length_cons,six_length];omega)];simp only [List.length_cons,six_length];simpa using hj)
   rwa [show off+7+j=off+(7+j) by omega]
  have:=parts_at i hr hc' (by simpa using hi)
  simpa [show off+7+i*7=off+(i+1)*7 by omega] using this
theorem leaf_in (W:World) (R:Nat→Prop) (so:Int) (on:Bool) (n:Int) (t:List UInt8):ValIn W R (.mk so on n t [] []) (.slice none 0 0) (.slice none 0 0):=⟨⟨none,0,rfl,.inl rfl⟩,⟨none,0,rfl,.inl rfl⟩⟩
theorem text_any (s:ByteArray) (w:World) :
  Calls Tryz.prog 31 #[.string s] w fun e w'=>e=.returned (.agg #[.int .i64 3,.bool false,.int .i64 0,.string s,.slice none 0 0,.slice none 0 0])∧Below w.heap.size w w':=by
 go_enter Tryz.func31,Tryz.ntmps31
 go_wp2_with fail
 (try simp only [Exit.inBlock,Exit.then])
 refine bodyPost_ret (v:=.agg #[.int .i64 3,.bool false,.int .i64 0,.string s,.slice none 0 0,.slice none 0 0]) (by simp [results,Tryz.results31,go_sem]) rfl ?_
 exact ⟨rfl,(Below.refl _ _).alloc (Nat.le_refl _) _⟩
theorem number_any (n:Int) (w:World) :
  Calls Tryz.prog 51 #[.int .i64 n] w fun e w'=>e=.returned (.agg #[.int .i64 2,.bool false,.int .i64 n,.string ⟨#[]⟩,.slice none 0 0,.slice none 0 0])∧Below w.heap.size w w':=by
 go_enter Tryz.func51,Tryz.ntmps51
 go_wp2_with fail
 (try simp only [Exit.inBlock,Exit.then])
 refine bodyPost_ret (v:=.agg #[.int .i64 2,.bool false,.int .i64 n,.string ⟨#[]⟩,.slice none 0 0,.slice none 0 0]) (by simp [results,Tryz.results51,go_sem]) rfl ?_
 exact ⟨rfl,(Below.refl _ _).alloc (Nat.le_refl _) _⟩
structure RcSt (R:Nat→Prop) (ks:List (List UInt8)) (l:List Val) (lv kv:Value) (xs:List Value) (i:Nat) (w wr:World):Prop where
 below:Below w.heap.size w wr
 size:w.heap.size+2≤wr.heap.size
 res:wr.heap[w.heap.size]?=some (.cells #[.int .i64 0,.bool false,.int .i64 0,.string ⟨#[]⟩,.slice none 0 0,.slice none 0 0] 36 (0,0))
 box:wr.heap[w.heap.size+1]?=some (.cells #[.int .i64 5,.bool false,.int .i64 0,.string ⟨#[]⟩,lv,kv] 36 (0,0))
 keys:wr.ownsRow (w.heap.size+2) 9 1 kv i ((ks.take i).map strCell)
 own:wr.ownsRow (w.heap.size+2) 36 6 lv i xs
 parts:ListIn wr (fun g=>R g∧g<w.heap.size) (l.take i) xs
theorem owns_block {w:World} {B e size n:Nat} {v:Value} {xs:List Value} (h:w.ownsRow B e size v n xs) {k:Nat} (hk:v.ownBlock=some k):∃ cur:Array Value,w.heap[k]?=some (.cells cur e (0,0)):=by
 rcases h.2 with ⟨rfl,_⟩|⟨g,cap,cur,rfl,hb,hg,_⟩
 ·simp [Value.ownBlock] at hk
 ·simp [Value.ownBlock] at hk
  subst hk
  exact ⟨cur,hg⟩
theorem owns_apart {w:World} {B B' e e' n n' size size':Nat} {v v':Value} {xs xs':List Value} (h:w.ownsRow B e size v n xs) (h':w.ownsRow B' e' size' v' n' xs') (he:e≠e') {k:Nat} (hk:v.ownBlock=some k):some k≠v'.ownBlock:=by
 intro hk'
 obtain ⟨c1,h1⟩:=owns_block h hk
 obtain ⟨c2,h2⟩:=owns_block h' hk'.symm
 rw [h1] at h2
 injection h2 with h2
 injection h2 with _ h3
 exact he h3
theorem rc_step {R:Nat→Prop} {ks:List (List UInt8)} {l:List Val} {lv kv:Value} {xs:List Value} {i gk ck gl cl:Nat} {w wr w3 w5:World} {P z1 z2:Obj} {a b:Value}
  (hst:RcSt R ks l lv kv xs i w wr) (hi:i<l.length) (hik:i<ks.length)
  (hk3:w3.ownsRow (w.heap.size+2) 9 1 (.slice (some ⟨gk,0,none⟩) (i+1) ck) (i+1) ((ks.take i).map strCell++[strCell ks[i]]))
  (hg3:((wr.alloc P).alloc z1).grownBy w3 kv.ownBlock)
  (hl5:w5.ownsRow (w.heap.size+2) 36 6 (.slice (some ⟨gl,0,none⟩) (i+1) cl) (i+1) (xs++six' l[i] a b))
  (hg5:((w3.setCell ⟨w.heap.size+1,5,none⟩ (.slice (some ⟨gk,0,none⟩) (i+1) ck)).alloc z2).grownBy w5 lv.ownBlock)
  (hv:ValIn w (fun g=>R g∧g<w.heap.size) l[i] a b) :
  RcSt R ks l (.slice (some ⟨gl,0,none⟩) (i+1) cl) (.slice (some ⟨gk,0,none⟩) (i+1) ck) (xs++six' l[i] a b) (i+1) w (w5.setCell ⟨w.heap.size+1,4,none⟩ (.slice (some ⟨gl,0,none⟩) (i+1) cl)):=by
 have hz:=hst.size
 have hs3:=hg3.size
 have hs5:=hg5.size
 simp only [World.size_alloc,sc_size] at hs3 hs5
 have hkr:∀ k,kv.ownBlock=some k→w.heap.size+2≤k∧k<wr.heap.size:=fun k hk=>row_lt hst.keys k hk
 have hlr:∀ k,lv.ownBlock=some k→w.heap.size+2≤k∧k<wr.heap.size:=fun k hk=>row_lt hst.own k hk
 have far3:∀ k,k<wr.heap.size→kv.ownBlock≠some k→w3.heap[k]?=wr.heap[k]?:=fun k hk hne=>by
  rw [hg3.block k (by simp;omega) (fun h=>hne h.symm),Below.heap_alloc _ z1 k (by simp;omega),Below.heap_alloc wr P k hk]
 have far4:∀ k,k≠w.heap.size+1→(w3.setCell ⟨w.heap.size+1,5,none⟩ (.slice (some ⟨gk,0,none⟩) (i+1) ck)).heap[k]?=w3.heap[k]?:=fun k hk=>Below.heap_setCell _ _ _ _ hk
 have far5:∀ k,k<w3.heap.size→lv.ownBlock≠some k→w5.heap[k]?=(w3.setCell ⟨w.heap.size+1,5,none⟩ (.slice (some ⟨gk,0,none⟩) (i+1) ck)).heap[k]?:=fun k hk hne=>by
  rw [hg5.block k (by simp only [World.size_alloc,sc_size];omega) (fun h=>hne h.symm),Below.heap_alloc _ z2 k (by rw [sc_size];omega)]
 have far6:∀ k,k≠w.heap.size+1→(w5.setCell ⟨w.heap.size+1,4,none⟩ (.slice (some ⟨gl,0,none⟩) (i+1) cl)).heap[k]?=w5.heap[k]?:=fun k hk=>Below.heap_setCell _ _ _ _ hk
 have hl3:w3.ownsRow (w.heap.size+2) 36 6 lv i xs:=ownsRow_same hst.own fun g hg=>far3 g (hlr g hg).2 (fun h=>owns_apart hst.own hst.keys (by decide) hg h.symm)
 have hgkr:=row_lt hk3 gk rfl
 have hgl:lv.ownBlock≠some gk:=fun h=>owns_apart hl3 hk3 (by decide) h rfl
 have low:∀ k,k<w.heap.size+1→(w5.setCell ⟨w.heap.size+1,4,none⟩ (.slice (some ⟨gl,0,none⟩) (i+1) cl)).heap[k]?=wr.heap[k]?:=fun k hk=>by
  rw [far6 k (by omega),far5 k (by omega) (fun h=>by have:=hlr k h;omega),far4 k (by omega),far3 k (by omega) (fun h=>by have:=hkr k h;omega)]
 have hbox3:w3.heap[w.heap.size+1]?=_:=(far3 (w.heap.size+1) (by omega) (fun h=>by have:=hkr _ h;omega)).trans hst.box
 have hbox4:=Go.Joins.block_setCell (i:=5) hbox3 (.slice (some ⟨gk,0,none⟩) (i+1) ck)
 have hbox5:=(far5 (w.heap.size+1) (by omega) (fun h=>by have:=hlr _ h;omega)).trans hbox4
 have hbox6:=Go.Joins.block_setCell (i:=4) hbox5 (.slice (some ⟨gl,0,none⟩) (i+1) cl)
 refine ⟨?_,?_,?_,hbox6,?_,?_,?_⟩
 ·refine ⟨hg5.os.trans (hg3.os.trans hst.below.os),hg5.tape.trans (hg3.tape.trans hst.below.tape),hg5.output.trans (hg3.output.trans hst.below.output),by rw [sc_size];omega,fun k hk=>?_⟩
  exact (low k (by omega)).trans (hst.below.block k hk)
 ·rw [sc_size];omega
 ·exact (low _ (by omega)).trans hst.res
 ·rw [List.take_succ_eq_append_getElem hik,List.map_append]
  refine ownsRow_same hk3 fun g hg=>?_
  have hg:gk=g:=by simpa [Value.ownBlock] using hg
  subst hg
  rw [far6 gk (by omega),far5 gk (by omega) hgl,far4 gk (by omega)]
 ·refine ownsRow_same hl5 fun g hg=>?_
  have hg:gl=g:=by simpa [Value.ownBlock] using hg
  subst hg
  have:=row_lt hl5 gl rfl
  rw [far6 gl (by omega)]
 ·rw [List.take_succ_eq_append_getElem hi]
  refine ListIn.snoc ?_ ?_
  ·exact ListIn.later (fun b hb' _=>low b (by have:=hb'.2;omega)) (fun _ h=>h) _ _ hst.parts
  ·exact ValIn.later (fun b hb' _=>(low b (by have:=hb'.2;omega)).trans (hst.below.block b hb'.2)) (fun _ h=>h) _ _ _ hv
theorem rc_start (R:Nat→Prop) (ks:List (List UInt8)) (l:List Val) (w:World):RcSt R ks l (.slice none 0 0) (.slice none 0 0) [] 0 w
  ((w.alloc (.cells #[.int .i64 0,.bool false,.int .i64 0,.string ⟨#[]⟩,.slice none 0 0,.slice none 0 0] 36)).alloc (.cells #[.int .i64 5,.bool false,.int .i64 0,.string ⟨#[]⟩,.slice none 0 0,.slice none 0 0] 36)):=by
 obtain ⟨h1,h2,h3,h4⟩:=two w (.cells #[.int .i64 0,.bool false,.int .i64 0,.string ⟨#[]⟩,.slice none 0 0,.slice none 0 0] 36) (.cells #[.int .i64 5,.bool false,.int .i64 0,.string ⟨#[]⟩,.slice none 0 0,.slice none 0 0] 36)
 exact ⟨h3,by rw [h4];omega,h1,h2,World.ownsRow_nil _ _ _ _,World.ownsRow_nil _ _ _ _,rfl⟩
theorem rc_end {R:Nat→Prop} {ks:List (List UInt8)} {l:List Val} {lv kv:Value} {xs:List Value} {w wr:World} (hst:RcSt R ks l lv kv xs l.length w wr) (hkl:ks.length=l.length) :
  ValIn wr (fun g=>(R g∧g<w.heap.size)∨w.heap.size+2≤g) (recP ks l) lv kv:=by
 have hk:=hst.keys
 have hp:=hst.parts
 have ho:=hst.own
 rw [List.take_of_length_le (by omega)] at hk
 rw [List.take_of_length_le (by omega)] at hp
 rw [← hkl] at hk
 refine ⟨?_,(keys_own hk).later (fun _ _ _=>rfl) (fun _ h=>.inr h)⟩
 rcases ho.2 with ⟨h1,h2⟩|⟨g,cap,cur,h1,hg,hgg,hle,hcap,hsz,htake⟩
 ·exact ⟨none,0,by rw [h1,h2],.inl (List.eq_nil_of_length_eq_zero h2)⟩
 ·refine ⟨some ⟨g,0,none⟩,cap,h1,.inr ⟨g,0,xs,rfl,.inr hg,fun j u hj=>?_,ListIn.later (fun _ _ _=>rfl) (fun _ h=>.inl h) _ _ hp⟩⟩
  rw [Nat.zero_add]
  unfold World.cell?
  rw [hgg]
  rw [← htake,List.getElem?_take] at hj
  split at hj
  ·simpa using hj
  ·cases hj
end Go.Proofs.YtpbnhnilfpoljaaGreatDoor.M
namespace Go.Proofs.YtpbnhnilfpoljaaGreatDoor.M
open Go.RowKit
open Go.Lib Go.Proofs.YtpbnhnilfpoljaaGreatDoor.V
set_option maxHeartbeats 8000000 in
set_option maxRecDepth 100000 in
theorem record_any (ps:List (List UInt8 × Val)) (g off c:Nat) (R:Nat→Prop) (w:World) (hp:PartsAt w R ps g off) (hpl:ps.length≤1000) :
  Calls Tryz.prog 50 #[.slice (some ⟨g,off,none⟩) ps.length c] w fun e w'=>Below w.heap.size w w'∧∃ lv kv,e=.returned (arg (recP (ps.map (·.1)) (ps.map (·.2))) lv kv)∧ValIn w' (fun b=>R b∨w.heap.size≤b) (recP (ps.map (·.1)) (ps.map (·.2))) lv kv:=by
 obtain ⟨i0,hi0,hz0,hz1,hz2⟩:=info_parts infoV
 obtain ⟨j0,hj0,hy0,hy1,hy2⟩:=info_parts infoS
 obtain ⟨xs0,hc,hP⟩:=hp
 have HC:=Lib.hid hc
 have HP:=Lib.hid (PartsL.bound _ _ hP)
 obtain ⟨pn,hpn⟩:∃ k,ps.length=k:=⟨_,rfl⟩
 have HPN:=Lib.hid hpn
 rw [hpn] at hpl ⊢
 clear hc hP hpn
 go_enter Tryz.func50,Tryz.ntmps50
 go_wp2_with fail
 obtain ⟨w1,hw1⟩:∃ w1,(w.alloc (.cells #[.int .i64 0,.bool false,.int .i64 0,.string ⟨#[]⟩,.slice none 0 0,.slice none 0 0] 36)).alloc (.cells #[.int .i64 5,.bool false,.int .i64 0,.string ⟨#[]⟩,.slice none 0 0,.slice none 0 0] 36)=w1:=⟨_,rfl⟩
 rw [hw1]
 have HST:Hid (RcSt R (ps.map (·.1)) (ps.map (·.2)) (.slice none 0 0) (.slice none 0 0) [] 0 w w1):=Lib.hid (by rw [← hw1];exact rc_start R _ _ w)
 clear hw1
 go_loopw [9] (fun iv wr=>∃ (i:Nat) (al ak:Option Addr) (cl ck:Nat) (xs:List Value),iv=.int .i64 i∧i≤pn∧Hid (RcSt R (ps.map (·.1)) (ps.map (·.2)) (.slice al i cl) (.slice ak i ck) xs i w wr)) (fun iv _=>pn - (Go.RowKit.intOf iv).toNat)
 case atStart=>exact ⟨0,none,none,0,0,[],rfl,by omega,HST⟩
 case round =>
  obtain ⟨i,al,ak,cl,ck,xs,rfl,hi,HI⟩:=hrel
  have hzr:=HI.out.size
  by_cases hlt:i<pn
  ·have hll:i<ps.length:=by rw [HPN.out];exact hlt
   obtain ⟨so',on',n',t',l',ks',a1',c1',a2',c2',he,hv',p0,p1,p2,p3,p4,p5,p6⟩:=parts_at i HP.out HC.out hll
   have hgw:g<w.heap.size:=lt_of_cell p0
   have hb0:=HI.out.below
   replace p0:=(hb0.cell hgw).trans p0
   replace p1:=(hb0.cell hgw).trans p1
   replace p2:=(hb0.cell hgw).trans p2
   replace p3:=(hb0.cell hgw).trans p3
   replace p4:=(hb0.cell hgw).trans p4
   replace p5:=(hb0.cell hgw).trans p5
   replace p6:=(hb0.cell hgw).trans p6
   have hlv:i<(ps.map (·.2)).length:=by simpa using hll
   have hlk:i<(ps.map (·.1)).length:=by simpa using hll
   have hev:(ps.map (·.2))[i]=.mk so' on' n' t' l' ks':=by simpa using he
   have hek:(ps.map (·.1))[i]=ps[i].1:=by simp
   have HEV:=Lib.hid hev
   have HEK:=Lib.hid hek
   have HV:=Lib.hid hv'
   generalize ps[i].1=kk at p0 HEK
   clear hb0 he hv' hev hek
   obtain ⟨W1,hW1⟩:∃ W1,wr.alloc (.cells #[.string ⟨kk.toArray⟩,.int .i64 so',.bool on',.int .i64 n',.string ⟨t'.toArray⟩,.slice a1' l'.length c1',.slice a2' ks'.length c2'] 78)=W1:=⟨_,rfl⟩
   have hp1:W1.heap[wr.heap.size]?=some (.cells #[.string ⟨kk.toArray⟩,.int .i64 so',.bool on',.int .i64 n',.string ⟨t'.toArray⟩,.slice a1' l'.length c1',.slice a2' ks'.length c2'] 78 (0,0)):=by rw [← hW1];exact heap_alloc_new wr _
   have hx1:W1.heap[w.heap.size+1]?=some (.cells #[.int .i64 5,.bool false,.int .i64 0,.string ⟨#[]⟩,.slice al i cl,.slice ak i ck] 36 (0,0)):=by rw [← hW1];exact (Below.heap_alloc wr _ _ (by omega)).trans HI.out.box
   have hZ1:wr.heap.size+1≤W1.heap.size:=by rw [← hW1];simp
   have hok:W1.ownsRow (w.heap.size+2) 9 1 (.slice ak i ck) i (((ps.map (·.1)).take i).map strCell):=by rw [← hW1];exact HI.out.keys.alloc _
   have hol:W1.ownsRow (w.heap.size+2) 36 6 (.slice al i cl) i xs:=by rw [← hW1];exact HI.out.own.alloc _
   have HW1:=Lib.hid hW1
   obtain ⟨⟨_,_,_,_,q4,q5⟩,qf⟩:=cells_six hx1
   have q5f:=qf 5
   have r0:W1.cell? ⟨wr.heap.size,0,none⟩=some (.string ⟨kk.toArray⟩):=by unfold World.cell?;rw [hp1];rfl
   have r1:W1.cell? ⟨wr.heap.size,1,none⟩=some (.int .i64 so'):=by unfold World.cell?;rw [hp1];rfl
   have r2:W1.cell? ⟨wr.heap.size,2,none⟩=some (.bool on'):=by unfold World.cell?;rw [hp1];rfl
   have r3:W1.cell? ⟨wr.heap.size,3,none⟩=some (.int .i64 n'):=by unfold World.cell?;rw [hp1];rfl
   have r4:W1.cell? ⟨wr.heap.size,4,none⟩=some (.string ⟨t'.toArray⟩):=by unfold World.cell?;rw [hp1];rfl
   have r5:W1.cell? ⟨wr.heap.size,5,none⟩=some (.slice a1' l'.length c1'):=by unfold World.cell?;rw [hp1];rfl
   have r6:W1.cell? ⟨wr.heap.size,6,none⟩=some (.slice a2' ks'.length c2'):=by unfold World.cell?;rw [hp1];rfl
   have HX1:=Lib.hid hx1
   have HP1:=Lib.hid hp1
   have HOL:=Lib.hid hol
   clear qf hp1 hx1 hol
   go_wp2_with (at_builtin;refine wpList_append_lies _ rfl (.tmp 14) (.tmp 17) 24 rfl (w.heap.size+2) 9 j0 (.string ⟨#[]⟩) 1 16 Tryz.underlying24 hj0 hy0 hy1 hy2 rfl (by decide) (.slice ak i ck) i (((ps.map (·.1)).take i).map strCell) rfl (hok.alloc _) ⟨W1.heap.size,0,none⟩ 1 1 [.string ⟨kk.toArray⟩] rfl rfl (World.news_of_block (cs:=#[.string ⟨kk.toArray⟩]) (t:=9) (fr:=(0,0)) (heap_alloc_new W1 _)) (by simp [Value.oneCell']) (by omega) (by unfold maxLen;omega) (by omega) (by simp;omega) (W1.heap.size+1) (by simp) ?_)
   intro gk ck3 w3 hk3 hg3 hat3 hlt3
   have hkr:=row_lt hok
   have hlr:=row_lt HOL.out
   have far3:∀ k,k<W1.heap.size→(Value.slice ak i ck).ownBlock≠some k→w3.heap[k]?=W1.heap[k]?:=fun k hk hne=>by
    rw [hg3.block k (by simp;omega) (fun h=>hne h.symm),Below.heap_alloc _ _ k (by omega)]
   have hx3:=(far3 (w.heap.size+1) (by omega) (fun h=>by have:=hkr _ h;omega)).trans HX1.out
   have hp3:=(far3 wr.heap.size (by omega) (fun h=>by have:=row_lt HI.out.keys _ h;omega)).trans HP1.out
   have hz3:=hg3.size
   simp only [World.size_alloc] at hz3
   have hol3:w3.ownsRow (w.heap.size+2) 36 6 (.slice al i cl) i xs:=ownsRow_same HOL.out fun g' hg'=>far3 g' (hlr g' hg').2 (fun h=>owns_apart HOL.out hok (by decide) hg' h.symm)
   have hol4:(w3.setCell ⟨w.heap.size+1,5,none⟩ (.slice (some ⟨gk,0,none⟩) (i+1) ck3)).ownsRow (w.heap.size+2) 36 6 (.slice al i cl) i xs:=ownsRow_same hol3 fun g' hg'=>Below.heap_setCell _ _ _ _ (by have:=hlr g' hg';show g'≠w.heap.size+1;omega)
   have hx4:=Go.Joins.block_setCell (i:=5) hx3 (.slice (some ⟨gk,0,none⟩) (i+1) ck3)
   have hp4:=(Below.heap_setCell w3 ⟨w.heap.size+1,5,none⟩ (.slice (some ⟨gk,0,none⟩) (i+1) ck3) wr.heap.size (by show wr.heap.size≠w.heap.size+1;omega)).trans hp3
   have l5:w3.cell? ⟨w.heap.size+1,5,none⟩=some (.slice ak i ck):=by unfold World.cell?;rw [hx3];rfl
   have l5f:w3.frozen? ⟨w.heap.size+1,5,none⟩=false:=by unfold World.frozen?;rw [hx3];simp
   have HK3:=Lib.hid hk3
   have HG3:=Lib.hid hg3
   obtain ⟨w4,hw4⟩:∃ w4,w3.setCell ⟨w.heap.size+1,5,none⟩ (.slice (some ⟨gk,0,none⟩) (i+1) ck3)=w4:=⟨_,rfl⟩
   have hz4:w3.heap.size≤w4.heap.size:=by rw [← hw4,sc_size];omega
   rw [hw4] at hol4 hx4 hp4
   clear r0 r1 r2 r3 r4 r5 r6 q4 q5 q5f far3 hx3 hp3 hol3 hk3 hg3 hok
   have q4:w4.cell? ⟨w.heap.size+1,4,none⟩=some (.slice al i cl):=by unfold World.cell?;rw [hx4];rfl
   have q4f:w4.frozen? ⟨w.heap.size+1,4,none⟩=false:=by unfold World.frozen?;rw [hx4];simp
   have r1:w4.cell? ⟨wr.heap.size,1,none⟩=some (.int .i64 so'):=by unfold World.cell?;rw [hp4];rfl
   have r2:w4.cell? ⟨wr.heap.size,2,none⟩=some (.bool on'):=by unfold World.cell?;rw [hp4];rfl
   have r3:w4.cell? ⟨wr.heap.size,3,none⟩=some (.int .i64 n'):=by unfold World.cell?;rw [hp4];rfl
   have r4:w4.cell? ⟨wr.heap.size,4,none⟩=some (.string ⟨t'.toArray⟩):=by unfold World.cell?;rw [hp4];rfl
   have r5:w4.cell? ⟨wr.heap.size,5,none⟩=some (.slice a1' l'.length c1'):=by unfold World.cell?;rw [hp4];rfl
   have r6:w4.cell? ⟨wr.heap.size,6,none⟩=some (.slice a2' ks'.length c2'):=by unfold World.cell?;rw [hp4];rfl
   have HW4:=Lib.hid hw4
   have HX4:=Lib.hid hx4
   clear hp4 hx4
   go_wp2_with (at_builtin;refine wpList_append_lies _ rfl (.tmp 21) (.tmp 24) 34 rfl (w.heap.size+2) 36 i0 _ 6 88 Tryz.underlying34 hi0 hz0 hz1 hz2 rfl (by decide) (.slice al i cl) i xs rfl (hol4.alloc _) ⟨w4.heap.size,0,none⟩ 1 1 [.int .i64 so',.bool on',.int .i64 n',.string ⟨t'.toArray⟩,.slice a1' l'.length c1',.slice a2' ks'.length c2'] rfl rfl (World.news_of_block (cs:=#[.int .i64 so',.bool on',.int .i64 n',.string ⟨t'.toArray⟩,.slice a1' l'.length c1',.slice a2' ks'.length c2']) (t:=36) (fr:=(0,0)) (heap_alloc_new w4 _)) (oneCell_six so' n' on' t' a1' a2' l'.length c1' ks'.length c2') (by omega) (by unfold maxLen;omega) (by omega) (by simp;omega) (w4.heap.size+1) (by simp) ?_)
   intro gl cl5 w5 hl5 hg5 hat5 hlt5
   have hx5:=(hg5.block (w.heap.size+1) (by simp;omega) (fun h=>by have:=row_lt hol4 _ h.symm;omega)).trans ((Below.heap_alloc w4 _ _ (by omega)).trans HX4.out)
   have m4:w5.cell? ⟨w.heap.size+1,4,none⟩=some (.slice al i cl):=by unfold World.cell?;rw [hx5];rfl
   have m4f:w5.frozen? ⟨w.heap.size+1,4,none⟩=false:=by unfold World.frozen?;rw [hx5];simp
   have hfin:=rc_step (P:=.cells #[.string ⟨kk.toArray⟩,.int .i64 so',.bool on',.int .i64 n',.string ⟨t'.toArray⟩,.slice a1' l'.length c1',.slice a2' ks'.length c2'] 78) (a:=.slice a1' l'.length c1') (b:=.slice a2' ks'.length c2') HI.out hlv hlk (by rw [HEK.out,show ((ps.map (·.1)).take i).map strCell=List.take i (ps.map (strCell ∘ fun x=>x.fst)) by simp [List.map_take]];exact HK3.out) (by rw [HW1.out];exact HG3.out) (by rw [HEV.out];exact hl5) (by rw [HW4.out];exact hg5) (by rw [HEV.out];exact HV.out)
   rw [HEV.out] at hfin
   have HFIN:=Lib.hid hfin
   clear hfin hx5 hl5 hg5 hol4 r1 r2 r3 r4 r5 r6 q4 q4f
   go_wp2_with fail
   go_roundw
   case rel=>exact ⟨i+1,_,_,_,_,_,by go_num,by omega,HFIN⟩
   case measure=>simp [Go.RowKit.intOf];omega
  ·obtain rfl:i=pn:=by omega
   have hst:=HI.out
   have HE:Hid (ValIn wr (fun b=>(R b∧b<w.heap.size)∨w.heap.size+2≤b) (recP (ps.map (·.1)) (ps.map (·.2))) (.slice al i cl) (.slice ak i ck)):=Lib.hid (rc_end (by rw [List.length_map,HPN.out];exact hst) (by simp))
   have hkn:(ps.map (·.1)).length=i:=by rw [List.length_map,HPN.out]
   have hln:(ps.map (·.2)).length=i:=by rw [List.length_map,HPN.out]
   obtain ⟨⟨q0,q1,q2,q3,q4,q5⟩,qf⟩:=cells_six hst.box
   obtain ⟨⟨r0,r1,r2,r3,r4,r5⟩,rf⟩:=cells_six hst.res
   have hst2:=hst
   obtain ⟨hp1,hp2⟩:=six_put' hst.res (.int .i64 5) (.bool false) (.int .i64 0) (.string ⟨#[]⟩) (.slice al i cl) (.slice ak i ck)
   have hmb:=below6 hst.below (Nat.le_refl _) (.int .i64 5) (.bool false) (.int .i64 0) (.string ⟨#[]⟩) (.slice al i cl) (.slice ak i ck)
   have hve:=ValIn.later (R':=fun b=>R b∨w.heap.size≤b) (fun b hb _=>hp2 b (by rcases hb with ⟨_,hb⟩|hb <;> omega)) (fun b hb=>hb.imp (·.1) (fun h=>by omega)) _ _ _ HE.out
   have HP1:=Lib.hid hp1
   have HMB:=Lib.hid hmb
   have HVE:=Lib.hid hve
   clear hst hst2 hp1 hp2 hmb hve HE HI
   go_wp2_with fail
   (try simp only [Exit.inBlock,Exit.then])
   refine bodyPost_ret (v:=.agg #[.int .i64 5,.bool false,.int .i64 0,.string ⟨#[]⟩,.slice al i cl,.slice ak i ck]) (results_cell_row rfl _ _ w.heap.size 36 #[.int .i64 5,.bool false,.int .i64 0,.string ⟨#[]⟩,.slice al i cl,.slice ak i ck] (0,0) _ (by rfl) HP1.out Tryz.underlying36 rfl (by kernel_rfl)) rfl ?_
   exact ⟨HMB.out,.slice al i cl,.slice ak i ck,rfl,HVE.out⟩
end Go.Proofs.YtpbnhnilfpoljaaGreatDoor.M
namespace Go.Proofs.YtpbnhnilfpoljaaGreatDoor.M
open Go.Lib Go.Proofs.YtpbnhnilfpoljaaGreatDoor.V
def readW (v:Val):CallP × Int:=if rightTop v=true then readM v else (call0 0 zV,42)
def toldK (k:Int):Bool:=decide (4≤k∧k≤9)
def messageW (c:CallP):Val :=
 recP ([bJsonrpc]++(if sortOf c.id=0 then [] else [bId])++[bMethod]++(if toldK c.kind=true then [bParams] else []))
  ([strP bTwo]++(if sortOf c.id=0 then [] else [c.id])++[strP (methodP c.kind)]++(if toldK c.kind=true then [toldV c] else []))
theorem messageW_is (c:CallP) (h:c.kind≤9):messageW c=messageV c:=by
 unfold messageW messageV
 have e:(toldK c.kind=true)=(3<c.kind):=by
  unfold toldK
  rw [decide_eq_true_eq]
  exact propext ⟨fun h=>by omega,fun h=>by omega⟩
 simp only [e]
def placeB (p q:PlaceP):Bool:=p.line==q.line&&p.unit==q.unit
def editB (p q:EditP):Bool:=placeB p.frm q.frm&&placeB p.til q.til&&p.text==q.text&&p.whole==q.whole
theorem placeB_iff (p q:PlaceP):placeB p q=true ↔ p=q:=by
 cases p;cases q;simp [placeB]
theorem editB_iff (p q:EditP):editB p q=true ↔ p=q:=by
 cases p;cases q;simp [editB,placeB_iff,and_assoc]
def editsB:List EditP→List EditP→Bool
 | [],[]=>true
 | p :: l,q :: m=>editB p q&&editsB l m
 | _,_=>false
theorem editsB_iff:∀ (l m:List EditP),editsB l m=true ↔ l=m
 | [],[]=>by simp [editsB]
 | [],q :: m=>by simp [editsB]
 | p :: l,[]=>by simp [editsB]
 | p :: l,q :: m=>by simp [editsB,editB_iff,editsB_iff l m]
def sameC (a b:CallP):Bool:=a.kind==b.kind&&a.name==b.name&&a.version==b.version&&a.text==b.text&&placeB a.place b.place&&editsB a.changes b.changes&&sameP a.id b.id&&sameP a.other b.other
theorem sameC_iff (a b:CallP):sameC a b=true ↔ a=b:=by
 cases a;cases b
 simp only [sameC,Bool.and_eq_true,beq_iff_eq,placeB_iff,editsB_iff,sameP_iff,CallP.mk.injEq]
 constructor
 ·rintro ⟨⟨⟨⟨⟨⟨⟨h1,h2⟩,h3⟩,h4⟩,h5⟩,h6⟩,h7⟩,h8⟩;exact ⟨h1,h7,h2,h3,h4,h6,h5,h8⟩
 ·rintro ⟨h1,h7,h2,h3,h4,h6,h5,h8⟩;exact ⟨⟨⟨⟨⟨⟨⟨h1,h2⟩,h3⟩,h4⟩,h5⟩,h6⟩,h7⟩,h8⟩
def writesB (c:CallP):Bool:=(readW (messageW c)).2==0&&sameC (readW (messageW c)).1 c
theorem writesB_iff (c:CallP):writesB c=true ↔ readW (messageW c)=(c,0):=by
 unfold writesB
 rw [Bool.and_eq_true,sameC_iff,beq_iff_eq]
 constructor
 ·rintro ⟨h1,h2⟩;exact Prod.ext h2 h1
 ·intro h;rw [h];exact ⟨rfl,rfl⟩
theorem readW_right {v:Val} {d:CallP} (h:readW v=(d,0)):rightTop v=true∧readM v=(d,0):=by
 unfold readW at h
 split at h
 ·rename_i hr;exact ⟨hr,h⟩
 ·injection h with _ h;cases h
theorem okE:okP []=true:=by decide +kernel
theorem right_parts {l:List Val} (h:rightPs l=true):∀ v∈l,rightP v=true:=by
 induction l with
 | nil=>intro v hv;cases hv
 | cons x r ih =>
  simp only [rightPs,Bool.and_eq_true] at h
  intro v hv
  rcases List.mem_cons.1 hv with rfl|hv
  ·exact h.1
  ·exact ih h.2 v hv
theorem right_list {v:Val} (h:rightP v=true):∀ x∈listOf v,rightP x=true:=by
 obtain ⟨so,on,n,t,l,ks⟩:=v
 have hl:rightPs l=true:=by
  rcases right_form h with h|h|h|h|h|h
  ·rw [h.2.2.2.2.1];rfl
  ·rw [h.2.2.2.1];rfl
  ·rw [h.2.2.2.1];rfl
  ·rw [h.2.2.2.1];rfl
  ·exact h.2.2.2.2.2
  ·exact h.2.2.2.2.2.2
 exact right_parts hl
theorem right_text {v:Val} (h:rightP v=true):okP (textOf v)=true:=by
 obtain ⟨so,on,n,t,l,ks⟩:=v
 show okP t=true
 rcases right_form h with h|h|h|h|h|h
 ·rw [h.2.2.2.1];exact okE
 ·rw [h.2.2.1];exact okE
 ·rw [h.2.2.1];exact okE
 ·exact h.2.2.2.2.2
 ·rw [h.2.2.2.1];exact okE
 ·rw [h.2.2.2.1];exact okE
theorem right_num {v:Val} (h:rightP v=true):inP (numOf v)=true:=by
 obtain ⟨so,on,n,t,l,ks⟩:=v
 show inP n=true
 have z:inP 0=true:=by decide
 rcases right_form h with h|h|h|h|h|h
 ·rw [h.2.2.1];exact z
 ·rw [h.2.1];exact z
 ·unfold inP;exact decide_eq_true ⟨h.2.2.2.2.2.1,h.2.2.2.2.2.2⟩
 ·rw [h.2.2.1];exact z
 ·rw [h.2.2.1];exact z
 ·rw [h.2.2.1];exact z
theorem right_zero:rightP zV=true:=by decide +kernel
theorem getP_right:∀ (p:List (List UInt8)) (v u:Val),rightP v=true→getP v p=some u→rightP u=true
 | [],v,u,h,hg=>by
  have hg:some v=some u:=by cases v;simpa [getP] using hg
  injection hg with hg
  rw [← hg];exact h
 | x :: p,.mk so on n t l ks,u,h,hg=>by
  by_cases hc:so=5∧ks.idxOf x<l.length∧ks.idxOf x<ks.length
  ·rw [getP_step hc.1 hc.2.1 hc.2.2] at hg
   exact getP_right p _ u (right_list h _ (List.getElem_mem hc.2.1)) hg
  ·rw [getP_no hc] at hg;cases hg
theorem getZ_right {v:Val} (h:rightP v=true) (p:List (List UInt8)):rightP (getZ v p)=true:=by
 unfold getZ
 cases hg:getP v p with
 | none=>exact right_zero
 | some u=>exact getP_right p v u h hg
def placeR (p:PlaceP):Prop:=inP p.line=true∧inP p.unit=true
theorem placeR_zero:placeR p0:=⟨by decide,by decide⟩
structure RightC (c:CallP):Prop where
 id:rightP c.id=true
 name:okP c.name=true
 version:inP c.version=true
 text:okP c.text=true
 edits:∀ e∈c.changes,okP e.text=true∧placeR e.frm∧placeR e.til
 place:placeR c.place
 other:rightP c.other=true
theorem placeAt_right {v:Val} (h:rightP v=true) (p:List (List UInt8)):placeR (placeAt v p):=⟨right_num (getZ_right (getZ_right h p) _),right_num (getZ_right (getZ_right h p) _)⟩
theorem changeAt_right {v:Val} (h:rightP v=true):okP (changeAt v).text=true∧placeR (changeAt v).frm∧placeR (changeAt v).til:=by
 unfold changeAt
 split
 ·exact ⟨right_text (getZ_right h _),placeAt_right h _,placeAt_right h _⟩
 ·exact ⟨right_text (getZ_right h _),placeR_zero,placeR_zero⟩
theorem call0_right (k:Int) {i:Val} (h:rightP i=true):RightC (call0 k i):=⟨h,okE,(by decide:inP 0=true),okE,(fun e he=>by cases he),placeR_zero,right_zero⟩
theorem params_right (k:Int) {i p:Val} (hi:rightP i=true) (hp:rightP p=true):RightC (paramsP k i p):=by
 unfold paramsP
 split
 ·exact call0_right k hi
 split
 ·exact { call0_right k hi with other:=getZ_right hp _ }
 ·refine ⟨hi,right_text (getZ_right hp _),?_,?_,?_,?_,right_zero⟩
  ·show inP (if _ then _ else _)=true
   split
   ·exact right_num (getZ_right hp _)
   ·exact (by decide:inP 0=true)
  ·show okP (if _ then _ else _)=true
   split
   ·exact right_text (getZ_right hp _)
   ·exact okE
  ·intro e he
   have he:e∈(if k=5 then changesAt p else []):=he
   split at he
   ·obtain ⟨x,hx,rfl⟩:=List.mem_map.1 he
    exact changeAt_right (right_list (getZ_right hp _) x hx)
   ·cases he
  ·show placeR (if _ then _ else _)
   split
   ·exact placeAt_right hp _
   ·exact placeR_zero
theorem read_right {v:Val} {d:CallP} (h:rightP v=true) (hr:readM v=(d,0)):RightC d:=by
 unfold readM at hr
 split at hr
 ·injection hr with _ hr;cases hr
 split at hr
 ·injection hr with _ hr;cases hr
 split at hr
 ·injection hr with hr _
  rw [← hr];exact params_right _ (getZ_right h _) (getZ_right h _)
 ·injection hr with _ hr;cases hr
theorem rec_right {ks:List (List UInt8)} {l:List Val} (hl:ks.length=l.length) (hk:keysP ks []=true) (hr:rightPs l=true):rightP (recP ks l)=true:=by
 simp [recP,rightP,elseP,hl,hk,hr]
theorem str_right {t:List UInt8} (h:okP t=true):rightP (strP t)=true:=by simp [strP,rightP,elseP,h]
theorem num_right {n:Int} (h:inP n=true):rightP (numP n)=true:=by simp [numP,rightP,elseP,h]
theorem atPlace_right {p:PlaceP} (h:placeR p):rightP (atPlace p)=true :=
 rec_right rfl (by decide +kernel) (by simp [rightPs,num_right h.1,num_right h.2])
theorem editV_right {e:EditP} (h:okP e.text=true∧placeR e.frm∧placeR e.til):rightP (editV e)=true:=by
 unfold editV
 split
 ·exact rec_right rfl (by decide +kernel) (by simp [rightPs,str_right h.1])
 ·refine rec_right rfl (by decide +kernel) ?_
  have hr:rightP (recP [bStart,bEnd] [atPlace e.frm,atPlace e.til])=true:=rec_right rfl (by decide +kernel) (by simp [rightPs,atPlace_right h.2.1,atPlace_right h.2.2])
  simp [rightPs,str_right h.1,hr]
theorem listV_right {l:List EditP} (h:∀ e∈l,okP e.text=true∧placeR e.frm∧placeR e.til):rightP (listV l)=true:=by
 have hl:rightPs (l.map editV)=true:=by
  induction l with
  | nil=>rfl
  | cons e r ih=>simp [rightPs,editV_right (h e (List.mem_cons_self ..)),ih (fun x hx=>h x (List.mem_cons_of_mem _ hx))]
 simp [listV,rightP,elseP,hl]
theorem docV_right {c:CallP} (h:RightC c):rightP (docV c)=true:=by
 unfold docV
 by_cases h4:c.kind=4
 ·rw [if_pos (.inl h4),if_pos h4,if_pos (.inl h4),if_pos h4]
  exact rec_right rfl (by decide +kernel) (by simp [rightPs,str_right h.name,num_right h.version,str_right h.text])
 ·rw [if_neg h4,if_neg h4]
  by_cases h5:c.kind=4∨c.kind=5
  ·rw [if_pos h5,if_pos h5]
   exact rec_right rfl (by decide +kernel) (by simp [rightPs,str_right h.name,num_right h.version])
  ·rw [if_neg h5,if_neg h5]
   exact rec_right rfl (by decide +kernel) (by simp [rightPs,str_right h.name])
theorem toldV_right {c:CallP} (h:RightC c):rightP (toldV c)=true:=by
 unfold toldV
 split
 ·exact rec_right rfl (by decide +kernel) (by simp [rightPs,h.other])
 split
 ·exact rec_right rfl (by decide +kernel) (by simp [rightPs,docV_right h,listV_right h.edits])
 split
 ·exact rec_right rfl (by decide +kernel) (by simp [rightPs,docV_right h,atPlace_right h.place])
 ·exact rec_right rfl (by decide +kernel) (by simp [rightPs,docV_right h])
theorem method_ok (k:Int):okP (methodP k)=true:=by
 unfold methodP
 repeat' split
 all_goals decide +kernel
theorem messageV_right {c:CallP} (h:RightC c):rightP (messageV c)=true:=by
 have ht:rightP (strP bTwo)=true:=by decide +kernel
 unfold messageV
 by_cases h0:sortOf c.id=0
 ·rw [if_pos h0,if_pos h0]
  by_cases h3:3<c.kind
  ·rw [if_pos h3,if_pos h3]
   exact rec_right rfl (by decide +kernel) (by simp [rightPs,ht,str_right (method_ok c.kind),toldV_right h])
  ·rw [if_neg h3,if_neg h3]
   exact rec_right rfl (by decide +kernel) (by simp [rightPs,ht,str_right (method_ok c.kind)])
 ·rw [if_neg h0,if_neg h0]
  by_cases h3:3<c.kind
  ·rw [if_pos h3,if_pos h3]
   exact rec_right rfl (by decide +kernel) (by simp [rightPs,ht,str_right (method_ok c.kind),toldV_right h,h.id])
  ·rw [if_neg h3,if_neg h3]
   exact rec_right rfl (by decide +kernel) (by simp [rightPs,ht,str_right (method_ok c.kind),h.id])
theorem nest_rec {ks:List (List UInt8)} {l:List Val} {m:Nat} (h:nestL l m=true):nestP (recP ks l) (m+1)=true:=by
 unfold recP
 rw [nestP,if_neg (by omega),Nat.add_sub_cancel]
 exact h
theorem nest_id {i:Val} (hr:rightP i=true) (h:idP i=true) (m:Nat):nestP i m=true:=by
 obtain ⟨so,on,n,t,l,ks⟩:=i
 have hs:so=2∨so=3:=by simpa [idP,sortOf] using h
 have hl:l=[]:=by
  rcases right_form hr with h|h|h|h|h|h
  ·exact h.2.2.2.2.1
  ·exact h.2.2.2.1
  ·exact h.2.2.2.1
  ·exact h.2.2.2.1
  ·exfalso;have:=h.1;omega
  ·exfalso;have:=h.1;omega
 subst hl
 unfold nestP
 split
 ·rcases hs with rfl|rfl <;> rfl
 ·rfl
theorem nest_leaf (so:Int) (on:Bool) (n:Int) (t:List UInt8) (m:Nat):nestP (.mk so on n t [] []) (m+1)=true:=by
 rw [nestP,if_neg (by omega)];rfl
theorem nest_place (p:PlaceP) (m:Nat):nestP (atPlace p) (m+2)=true:=nest_rec (by simp [nestL,numP,nest_leaf])
theorem nest_edit (e:EditP) (m:Nat):nestP (editV e) (m+4)=true:=by
 unfold editV
 split
 ·exact nest_rec (by simp [nestL,strP,nest_leaf])
 ·have h:nestP (recP [bStart,bEnd] [atPlace e.frm,atPlace e.til]) (m+3)=true:=nest_rec (by simp [nestL,nest_place])
  exact nest_rec (by simp [nestL,strP,nest_leaf,h])
theorem nest_list (l:List EditP) (m:Nat):nestP (listV l) (m+5)=true:=by
 unfold listV
 rw [nestP,if_neg (by omega)]
 show nestL (l.map editV) (m+4)=true
 induction l with
 | nil=>rfl
 | cons e r ih=>simp [nestL,nest_edit,ih]
theorem nest_doc (c:CallP) (m:Nat):nestP (docV c) (m+2)=true:=by
 unfold docV
 by_cases h4:c.kind=4
 ·rw [if_pos (.inl h4),if_pos h4,if_pos (.inl h4),if_pos h4]
  exact nest_rec (by simp [nestL,strP,numP,nest_leaf])
 ·rw [if_neg h4,if_neg h4]
  by_cases h5:c.kind=4∨c.kind=5
  ·rw [if_pos h5,if_pos h5];exact nest_rec (by simp [nestL,strP,numP,nest_leaf])
  ·rw [if_neg h5,if_neg h5];exact nest_rec (by simp [nestL,strP,nest_leaf])
theorem nest_told {c:CallP} (h:RightC c) (hc:c.kind=9→idP c.other=true) (m:Nat):nestP (toldV c) (m+6)=true:=by
 have hd:nestP (docV c) (m+5)=true:=nest_doc c (m+3)
 have hp:nestP (atPlace c.place) (m+5)=true:=nest_place c.place (m+3)
 unfold toldV
 split
 ·rename_i h9
  exact nest_rec (by simp [nestL,nest_id h.other (hc h9)])
 split
 ·exact nest_rec (by simp [nestL,hd,nest_list])
 split
 ·exact nest_rec (by simp [nestL,hd,hp])
 ·exact nest_rec (by simp [nestL,hd])
theorem message_top {c:CallP} (hc:Canon c) (h:RightC c):rightTop (messageV c)=true:=by
 unfold rightTop
 rw [messageV_right h,Bool.and_true]
 have ht:nestP (toldV c) 19=true:=nest_told h hc.cancel 13
 have hi:sortOf c.id≠0→nestP c.id 19=true:=fun h0=>by
  cases hr:reqP c.kind with
  | true=>exact nest_id h.id (hc.req hr) 19
  | false=>rw [hc.note hr] at h0;exact absurd rfl h0
 unfold messageV
 by_cases h0:sortOf c.id=0
 ·rw [if_pos h0,if_pos h0]
  by_cases h3:3<c.kind
  ·rw [if_pos h3,if_pos h3];exact nest_rec (by simp [nestL,strP,nest_leaf,ht])
  ·rw [if_neg h3,if_neg h3];exact nest_rec (by simp [nestL,strP,nest_leaf])
 ·rw [if_neg h0,if_neg h0]
  by_cases h3:3<c.kind
  ·rw [if_pos h3,if_pos h3];exact nest_rec (by simp [nestL,strP,nest_leaf,ht,hi h0])
  ·rw [if_neg h3,if_neg h3];exact nest_rec (by simp [nestL,strP,nest_leaf,hi h0])
theorem readW_again {v:Val} {d:CallP} (h:readW v=(d,0)):writesB d=true:=by
 obtain ⟨hr,hm⟩:=readW_right h
 have hc:=read_canon v d hm
 have hrp:rightP v=true:=by simp only [rightTop,Bool.and_eq_true] at hr;exact hr.2
 rw [writesB_iff,messageW_is d hc.high]
 unfold readW
 rw [if_pos (message_top hc (read_right hrp hm))]
 exact message_back d hc
def wtE:List EditP→Nat
 | []=>0
 | e :: r=>1+e.text.length+wtE r
structure SmallC (c:CallP):Prop where
 id:wt c.id≤400
 name:c.name.length≤400
 text:c.text.length≤400
 edits:wtE c.changes≤400
 other:wt c.other≤400
theorem wt_pos (v:Val):1≤wt v:=by cases v;simp only [wt];omega
theorem text_wt (v:Val):(textOf v).length+1≤wt v:=by cases v;simp only [wt,textOf];omega
theorem list_wt (v:Val):wtL (listOf v)≤wt v:=by cases v;simp only [wt,listOf];omega
theorem getZ_wt (v:Val) (p:List (List UInt8)):wt (getZ v p)≤wt v:=by
 unfold getZ
 cases hg:getP v p with
 | none=>have:wt ((none:Option Val).getD zV)=1:=by decide
         rw [this];exact wt_pos v
 | some u=>exact getP_wt p v u hg
theorem textAt_wt (v:Val) (p:List (List UInt8)):(textAt v p).length+1≤wt v:=Nat.le_trans (text_wt _) (getZ_wt v p)
theorem changeAt_wt (v:Val):1+(changeAt v).text.length≤wt v:=by
 unfold changeAt
 split
 ·have:=textAt_wt v [bText];simp only;omega
 ·have:=textAt_wt v [bText];simp only;omega
theorem changes_wt:∀ (l:List Val),wtE (l.map changeAt)≤wtL l
 | []=>by simp [wtE,wtL]
 | v :: r=>by
  have h1:=changeAt_wt v
  have h2:=changes_wt r
  simp only [List.map_cons,wtE,wtL];omega
theorem params_small (k:Int) {i p:Val} (hi:wt i≤400) (hp:wt p≤400):SmallC (paramsP k i p):=by
 have hz:wt zV≤400:=by decide
 unfold paramsP
 split
 ·exact ⟨hi,by simp [call0],by simp [call0],by simp [call0,wtE],hz⟩
 split
 ·exact ⟨hi,by simp [call0],by simp [call0],by simp [call0,wtE],Nat.le_trans (getZ_wt p _) hp⟩
 ·refine ⟨hi,?_,?_,?_,hz⟩
  ·have:=textAt_wt p [bDoc,bUri];show (textAt p [bDoc,bUri]).length≤400;omega
  ·show (if _ then _ else _:List UInt8).length≤400
   split
   ·have:=textAt_wt p [bDoc,bText];omega
   ·simp
  ·show wtE (if _ then _ else _)≤400
   split
   ·exact Nat.le_trans (changes_wt _) (Nat.le_trans (list_wt _) (Nat.le_trans (getZ_wt p _) hp))
   ·simp [wtE]
theorem read_small {v:Val} {d:CallP} {e:Int} (h:wt v≤400) (hr:readW v=(d,e)):SmallC d:=by
 have hz:wt zV≤400:=by decide
 have h0:∀ k i,wt i≤400→SmallC (call0 k i):=fun k i hi=>⟨hi,by simp [call0],by simp [call0],by simp [call0,wtE],hz⟩
 have hi:=Nat.le_trans (getZ_wt v [bId]) h
 have hp:=Nat.le_trans (getZ_wt v [bParams]) h
 unfold readW at hr
 split at hr
 ·unfold readM at hr
  split at hr
  ·injection hr with hr _;rw [← hr];exact h0 _ _ hz
  split at hr
  ·injection hr with hr _;rw [← hr];exact h0 _ _ hi
  split at hr
  ·injection hr with hr _;rw [← hr];exact params_small _ hi hp
  ·injection hr with hr _;rw [← hr];exact h0 _ _ hi
 ·injection hr with hr _;rw [← hr];exact h0 _ _ hz
theorem wt_rec (ks:List (List UInt8)) (l:List Val):wt (recP ks l)=1+(ks.map fun k=>k.length+1).sum+wtL l:=by simp [recP,wt]
theorem wt_str (t:List UInt8):wt (strP t)=1+t.length:=by simp [strP,wt,wtL]
theorem wt_num (n:Int):wt (numP n)=1:=by simp [numP,wt,wtL]
theorem wt_place (p:PlaceP):wt (atPlace p)=18:=by simp [atPlace,wt_rec,wtL,wt_num,bLine,bChar]
theorem wt_edit (e:EditP):wt (editV e)≤100*(1+e.text.length):=by
 unfold editV
 split
 ·simp [wt_rec,wtL,wt_str,bText];omega
 ·simp [wt_rec,wtL,wt_str,wt_place,bText,bRange,bStart,bEnd];omega
theorem wt_edits:∀ (l:List EditP),wtL (l.map editV)≤100*wtE l
 | []=>by simp [wtL,wtE]
 | e :: r=>by
  have h1:=wt_edit e
  have h2:=wt_edits r
  simp only [List.map_cons,wtL,wtE];omega
theorem wt_list (l:List EditP):wt (listV l)≤1+100*wtE l:=by
 have:=wt_edits l
 simp [listV,wt];omega
theorem wt_doc {c:CallP} (h:SmallC c):wt (docV c)≤1000:=by
 have h1:=h.name
 have h2:=h.text
 unfold docV
 by_cases h4:c.kind=4
 ·rw [if_pos (.inl h4),if_pos h4,if_pos (.inl h4),if_pos h4]
  simp [wt_rec,wtL,wt_str,wt_num,bUri,bVersion,bText];omega
 ·rw [if_neg h4,if_neg h4]
  by_cases h5:c.kind=4∨c.kind=5
  ·rw [if_pos h5,if_pos h5];simp [wt_rec,wtL,wt_str,wt_num,bUri,bVersion];omega
  ·rw [if_neg h5,if_neg h5];simp [wt_rec,wtL,wt_str,bUri];omega
theorem wt_told {c:CallP} (h:SmallC c):wt (toldV c)≤42000:=by
 have h1:=wt_doc h
 have h2:=wt_list c.changes
 have h3:=h.edits
 have h4:=h.other
 unfold toldV
 split
 ·simp [wt_rec,wtL,bId];omega
 split
 ·simp [wt_rec,wtL,bDoc,bChanges];omega
 split
 ·simp [wt_rec,wtL,bDoc,bPos,wt_place];omega
 ·simp [wt_rec,wtL,bDoc];omega
theorem method_len (k:Int):(methodP k).length≤30:=by
 unfold methodP
 repeat' split
 all_goals decide
theorem wt_message {c:CallP} (h:SmallC c):wt (messageW c)≤50000:=by
 have h1:=wt_told h
 have h2:=h.id
 have h3:=method_len c.kind
 have hm:(if sortOf c.id=0 then ([]:List Val) else [c.id])=[]∨(if sortOf c.id=0 then ([]:List Val) else [c.id])=[c.id]:=by split <;> simp
 have hk:((if sortOf c.id=0 then ([]:List (List UInt8)) else [bId]).map fun k=>k.length+1).sum≤10:=by split <;> simp [bId]
 have hp:(if toldK c.kind=true then [toldV c] else ([]:List Val))=[]∨(if toldK c.kind=true then [toldV c] else ([]:List Val))=[toldV c]:=by split <;> simp
 have hq:((if toldK c.kind=true then [bParams] else ([]:List (List UInt8))).map fun k=>k.length+1).sum≤10:=by split <;> simp [bParams]
 unfold messageW
 rw [wt_rec]
 simp only [List.map_append,List.sum_append]
 have e1:(([bJsonrpc]:List (List UInt8)).map fun k=>k.length+1).sum=8:=by decide
 have e2:(([bMethod]:List (List UInt8)).map fun k=>k.length+1).sum=7:=by decide
 rw [e1,e2]
 have e3:bTwo.length=3:=by decide
 rcases hm with hm|hm <;> rcases hp with hp|hp <;> rw [hm,hp] <;> simp only [List.nil_append,List.cons_append,List.append_nil,wtL,wt_str] <;> omega
end Go.Proofs.YtpbnhnilfpoljaaGreatDoor.M
