/- What the claim needs of the texts VFirst, VRead10, VRead11, VRead12. -/
import Derived.Test.YtpbnhnilfpoljaaGreatDoorRB5
import Derived.Maps.OwnOps
import Derived.Maps.Views
import Derived.Test.YtpbnhnilfpoljaaGreatDoorRB6
import Derived.Carry
namespace Go.Proofs.YtpbnhnilfpoljaaGreatDoor.V
open Go.RowKit Go.WideMaps Go.Maps
open Go.Lib
theorem lawS:Keyed Tryz.prog 9:=string_keyed Tryz.underlying9
theorem zeroI (w:World):(zeroValue 3).run Tryz.prog w=.ok (.int .i64 0) w:=by kernel_rfl
def Seen (m:Nat) (ks:List (List UInt8)) (w:World):Prop :=
 ∃ D:DataW Unit,w.ownsMap Tryz.prog 9 (plainElem Tryz.prog 3) m ks.length D∧IsMap D ∧
  ∀ k,D.atKey (.string k) (.lit (.int .i64 0))=.lit (.int .i64 (if k∈ks then 1 else 0))
theorem Seen.made (w:World):Seen w.heap.size [] (w.alloc (.map #[] 0)):=⟨.map [],World.ownsMap_made _ _ _ _,⟨_,rfl⟩,fun k=>by simp;rfl⟩
theorem Seen.same {m:Nat} {ks:List (List UInt8)} {w w':World} (h:Seen m ks w) (hs:w'.heap[m]?=w.heap[m]?):Seen m ks w':=by
 obtain ⟨D,⟨es,clock,hb,rest⟩,h2⟩:=h
 exact ⟨D,⟨es,clock,hs.trans hb,rest⟩,h2⟩
theorem Seen.lt {m:Nat} {ks:List (List UInt8)} {w:World} (h:Seen m ks w):m<w.heap.size:=by obtain ⟨D,h,_⟩:=h;exact h.lt
def Turns (m:Nat) (w w':World):Prop:=w.grownBy w' (some m)
set_option maxHeartbeats 1000000 in
theorem first_new (m:Nat) (ks:List (List UInt8)) (k:List UInt8) (w:World) (h:Seen m ks w) (hk:k.length≤1099511627776) (hks:ks.length≤1099511627776) (hnew:¬ k∈ks) :
  Calls Tryz.prog 115 #[.map (some m),.string ⟨k.toArray⟩] w fun e w'=>e=.returned (.bool true)∧Seen m (ks++[k]) w'∧Turns m w w':=by
 obtain ⟨D,hown,hD,hat⟩:=h
 have hkey:keyOf Tryz.prog 9 (.string ⟨k.toArray⟩)=some (.string k):=by
  have:=keyOf_string_mk (s:=⟨k.toArray⟩) Tryz.underlying9 (by unfold maxLen;rw [size_mk];omega)
  simpa using this
 obtain ⟨c,hrun,hc,_⟩:=hown.lookup_int lawS Tryz.underlying183 Tryz.underlying3 (zeroI _) hkey
 have hc0:c=0:=by
  rw [hat k,if_neg hnew] at hc
  simpa using hc.symm
 subst hc0
 have HAT:=Lib.hid hat
 clear hat hc
 go_enter Tryz.func115,Tryz.ntmps115
 go_wp2_with (at_mapUpdate;refine wpList_mapUpdate_own _ rfl _ _ _ 183 rfl 9 3 lawS Tryz.underlying183 _ m ks.length _ rfl hown (by unfold maxLen;omega) _ _ _ rfl rfl hkey _ [] (plainElem_int Tryz.underlying3 (by decide)) ?_)
 intro w1 hown1 hgrow1
 have hD1:IsMap (D.put (Lit.string k) (DataW.lit (Lit.int IntKind.i64 1))):=hD.put _ _
 have hat1:∀ k',(D.put (Lit.string k) (DataW.lit (Lit.int IntKind.i64 1))).atKey (.string k') (.lit (.int .i64 0))=.lit (.int .i64 (if k'∈ks++[k] then 1 else 0)):=fun k'=>by
  by_cases h:k'=k
  ·subst h;rw [atKey_put_same hD (lawS.key hkey)];simp
  ·rw [atKey_put_other (by simpa using h),HAT.out k'];simp [h]
 obtain ⟨c2,hrun2,hc2,_⟩:=hown1.lookup_int lawS Tryz.underlying183 Tryz.underlying3 (zeroI _) hkey
 have hc21:c2=1:=by
  rw [hat1 k] at hc2
  simpa using hc2.symm
 subst hc21
 have HAT1:=Lib.hid hat1
 clear hat1 hc2 hrun HAT
 go_wp2_with fail
 go_ret
 exact ⟨rfl,⟨_,by rw [List.length_append];exact hown1,hD1,HAT1.out⟩,hgrow1⟩
set_option maxHeartbeats 1000000 in
theorem first_old (m:Nat) (ks:List (List UInt8)) (k:List UInt8) (w:World) (h:Seen m ks w) (hk:k.length≤1099511627776) (hks:ks.length≤1099511627776) (hold:k∈ks) :
  Calls Tryz.prog 115 #[.map (some m),.string ⟨k.toArray⟩] w fun e w'=>e=.returned (.bool false)∧Turns m w w':=by
 obtain ⟨D,hown,hD,hat⟩:=h
 have hkey:keyOf Tryz.prog 9 (.string ⟨k.toArray⟩)=some (.string k):=by
  have:=keyOf_string_mk (s:=⟨k.toArray⟩) Tryz.underlying9 (by unfold maxLen;rw [size_mk];omega)
  simpa using this
 obtain ⟨c,hrun,hc,_⟩:=hown.lookup_int lawS Tryz.underlying183 Tryz.underlying3 (zeroI _) hkey
 have hc0:c=1:=by
  rw [hat k,if_pos hold] at hc
  simpa using hc.symm
 subst hc0
 clear hat hc
 go_enter Tryz.func115,Tryz.ntmps115
 go_wp2_with (at_mapUpdate;refine wpList_mapUpdate_own _ rfl _ _ _ 183 rfl 9 3 lawS Tryz.underlying183 _ m ks.length _ rfl hown (by unfold maxLen;omega) _ _ _ rfl rfl hkey _ [] (plainElem_int Tryz.underlying3 (by decide)) ?_)
 intro w1 hown1 hgrow1
 obtain ⟨c2,hrun2,hc2,_⟩:=hown1.lookup_int lawS Tryz.underlying183 Tryz.underlying3 (zeroI _) hkey
 have hc21:c2=2:=by
  rw [atKey_put_same hD (lawS.key hkey)] at hc2
  simpa using hc2.symm
 subst hc21
 clear hc2 hrun
 go_wp2_with fail
 go_ret
 exact ⟨rfl,hgrow1⟩
end Go.Proofs.YtpbnhnilfpoljaaGreatDoor.V
namespace Go.Proofs.YtpbnhnilfpoljaaGreatDoor.V
open Go.RowKit
open Go.Lib
def stepR (o:Nat) (f:Nat) (st:List (List UInt8) × List Val) (l:List UInt8):Res (List (List UInt8) × List Val) :=
 match key l with
 | none=>.bad
 | some (k,r0)=>if k∈st.1 then .bad else resMap (fun v=>(st.1++[k],st.2++[v])) (value f o r0)
theorem fields_loop (o:Nat):∀ (f:Nat) (l:List UInt8) (ks:List (List UInt8)) (vs:List Val),fields f o l ks vs=loopG (stepR o) 125 f l (ks,vs)
 | 0,l,ks,vs=>by simp only [fields,loopG]
 | f+1,l,ks,vs=>by
  simp only [fields,loopG,stepR]
  cases hk:key l with
  | none=>rfl
  | some p =>
   obtain ⟨k,r0⟩:=p
   simp only
   by_cases h0:k∈ks
   ·rw [if_pos h0,if_pos h0]
   ·rw [if_neg h0,if_neg h0]
    cases h:value f o r0 with
    | bad=>rfl
    | deep=>rfl
    | ok v r =>
     simp only [resMap]
     match r with
     | []=>rfl
     | c :: r' =>
      by_cases h1:c=125
      ·subst h1;simp
      ·by_cases h2:c=44
       ·subst h2;simp;exact fields_loop o f r' _ _
       ·simp [h1,h2]
def RI (d b p q m:Nat) (Bl:Nat) (st:List (List UInt8) × List Val) (W:World):Prop :=
 (d<Bl∧b<Bl∧p<Bl∧q<Bl∧m<Bl∧Bl≤W.heap.size∧d≠b∧d≠p∧d≠q∧d≠m∧p≠b∧q≠b∧m≠b∧p≠m∧q≠m)∧W.cell? ⟨p,0,none⟩=some (.pointer (some ⟨d,0,none⟩))∧W.cell? ⟨q,0,none⟩=some (.map (some m))∧Seen m st.1 W ∧
 ∃ lv kv xs,W.heap[b]?=some (.cells (six 5 false 0 [] lv kv).toArray 36 (0,0))∧W.ownsRow Bl 36 6 lv st.2.length xs∧ListIn W (fun g=>Bl≤g∧lv.ownBlock≠some g∧¬ kv.ownBlock=some g) st.2 xs ∧
  W.ownsRow Bl 9 1 kv st.1.length (st.1.map strCell)∧∀ g,kv.ownBlock=some g→lv.ownBlock≠some g
theorem infoS:(Tryz.prog.info? 9).map (fun i=>(i.zero,i.size,i.bytes))=some (some (.string ⟨#[]⟩),1,16):=by kernel_rfl
theorem row_lt {W:World} {Bl e size n:Nat} {v:Value} {xs:List Value} (h:W.ownsRow Bl e size v n xs) (g:Nat) (hg:v.ownBlock=some g):Bl≤g∧g<W.heap.size:=World.ownsRowF.lt (World.ownsRowF_of h) g hg
theorem RI.mut {d b p q m Bl:Nat} {st:List (List UInt8) × List Val} {W W':World} (h:RI d b p q m Bl st W) (hm:Mut W.heap.size d W W'):RI d b p q m Bl st W':=by
 obtain ⟨⟨h1,h2,h3,h4,h5,h6,h7,h8,h9,h10,h11⟩,c1,c2,hs,lv,kv,xs,k1,k2,k3,k4,k5⟩:=h
 have row:∀ {e size n:Nat} {v:Value} {ys:List Value},W.ownsRow Bl e size v n ys→W'.ownsRow Bl e size v n ys:=fun hh=>ownsRow_same hh fun g hg=>by
  have:=row_lt hh g hg
  exact hm.block g this.2 (by omega)
 refine ⟨⟨h1,h2,h3,h4,h5,Nat.le_trans h6 hm.size,h7,h8,h9,h10,h11⟩,?_,?_,hs.same (hm.block m hs.lt (Ne.symm h10)),lv,kv,xs,(hm.block b (by omega) (Ne.symm h7)).trans k1,row k2,?_,row k4,k5⟩
 ·rw [cell_of_same (p:=⟨p,0,none⟩) (hm.block p (by omega) (Ne.symm h8))];exact c1
 ·rw [cell_of_same (p:=⟨q,0,none⟩) (hm.block q (by omega) (Ne.symm h9))];exact c2
 ·exact ListIn.later (fun g hg hlt=>hm.block g hlt (by omega)) (fun g hg=>hg) _ xs k3
set_option maxHeartbeats 2000000 in
set_option maxRecDepth 100000 in
theorem record_part (F f d b p q m Bl B0:Nat) (s:ByteArray) (l:List UInt8) (o:Nat) (st:List (List UInt8) × List Val) (W:World) (IH:ValC F) (hf:f<F) (hf2:f≤1099511627776)
  (hr:RdL d s l o W) (hE:Env B0 W) (hd:B0≤d) (hbm:B0≤b∧B0≤m) (hs:s.size≤274877906944) (ho:o≤20) (hl:2*l.length+1≤f) (hn:st.1.length≤1099511627776) (hn2:st.2.length≤1099511627776) (hI:RI d b p q m Bl st W) :
  Calls Tryz.prog 113 #[.pointer (some ⟨p,0,none⟩),.pointer (some ⟨q,0,none⟩),.pointer (some ⟨b,0,none⟩)] W (ReadsX d s o (RI d b p q m Bl) Bl (fun k=>k=b∨k=m) (stepR o f st l) W):=by
 have hI':=hI
 obtain ⟨⟨h1,h2,h3,h4,h5,h6,h7,h8,h9,h10,h11,h12,h13,h14,h15⟩,c1,c2,hseen,lv,kv,xs,k1,k2,k3,k4,k5⟩:=hI
 have cK:=key_any d s l o B0 W hr hE hd (by omega)
 unfold stepR
 cases hk:key l with
 | none =>
  rw [hk] at cK
  clear hr hE hI' hseen k1 k2 k3 k4 k5 c2 IH hk
  go_enter Tryz.func113,Tryz.ntmps113
  go_wp2_with fail
  refine cK.mono ?_;rintro e w1 ⟨mm,l1,rfl,hr1,hm1⟩
  go_wp2_with fail
  go_ret
  exact ⟨MutX.of_mut (hm1.mono h6),rfl,l1,hr1⟩
 | some pr =>
  obtain ⟨k,r0⟩:=pr
  rw [hk] at cK
  have hklen:k.length≤1099511627776:=by
   have:=key_tlen hk
   have:=hr.len
   omega
  by_cases hold:k∈st.1
  ·simp only [if_pos hold]
   have HOLD:=Lib.hid hold
   clear hr hE k1 k2 k3 k4 k5 IH hk hI' hold
   go_enter Tryz.func113,Tryz.ntmps113
   go_wp2_with fail
   refine cK.mono ?_;rintro e w1 ⟨rfl,hr1,hm1⟩
   have hz1:=hm1.size
   have c2':w1.cell? ⟨q,0,none⟩=some (.map (some m)):=by rw [cell_of_same (p:=⟨q,0,none⟩) (hm1.block q (by omega) (Ne.symm h9))];exact c2
   have cF:=first_old m st.1 k w1 (hseen.same (hm1.block m hseen.lt (Ne.symm h10))) hklen hn HOLD.out
   clear cK c1 c2 hseen
   go_wp2_with fail
   refine cF.mono ?_;rintro e w2 ⟨rfl,ht⟩
   go_wp2_with fail
   go_ret
   have ht:w1.grownBy w2 (some m):=ht
   refine ⟨(MutX.of_mut (hm1.mono h6)).trans ⟨ht.os,ht.tape,ht.output,ht.size,fun j hj hjd hX=>ht.block j (by omega) (fun h=>hX (.inr (by simpa using h)))⟩,rfl,r0,?_⟩
   obtain ⟨a,g1,g2,g3⟩:=hr1
   exact ⟨a,g1,g2,(ht.block d (g3.lt) (by simpa using h10)).trans g3⟩
  ·simp only [if_neg hold]
   obtain ⟨i0,hi0,hz0,hz1,hz2⟩:=info_parts infoS
   have HNEW:=Lib.hid hold
   have H1:=Lib.hid k1
   have H2:=Lib.hid k2
   have H3:=Lib.hid k3
   have H4:=Lib.hid k4
   have H5:=Lib.hid k5
   have HI':=Lib.hid hI'
   clear hI' hold
   go_enter Tryz.func113,Tryz.ntmps113
   go_wp2_with fail
   refine cK.mono ?_;rintro e w1 ⟨rfl,hr1,hm1⟩
   have zw1:=hm1.size
   have c2':w1.cell? ⟨q,0,none⟩=some (.map (some m)):=by rw [cell_of_same (p:=⟨q,0,none⟩) (hm1.block q (by omega) (Ne.symm h9))];exact c2
   have cF:=first_new m st.1 k w1 (hseen.same (hm1.block m hseen.lt (Ne.symm h10))) hklen hn HNEW.out
   clear cK c2
   go_wp2_with fail
   refine cF.mono ?_;rintro e w2 ⟨rfl,hseen2,ht⟩
   have ht:w1.grownBy w2 (some m):=ht
   have zw2:=ht.size
   have hb2:w2.heap[b]?=some (.cells (six 5 false 0 [] lv kv).toArray 36 (0,0)):=(ht.block b (by omega) (by simpa using Ne.symm h13)).trans ((hm1.block b (by omega) (Ne.symm h7)).trans H1.out)
   obtain ⟨⟨j0,j1,j2,j3,j4,j5⟩,jf⟩:=cells_six hb2
   have j5f:=jf 5
   clear cF c2' hseen j0 j1 j2 j3 j4 jf k1 k2 k3 k4 k5
   have hown2:w2.ownsRow Bl 9 1 kv st.1.length (st.1.map strCell):=ownsRow_same H4.out fun g hg=>by
    have hg2:=row_lt H4.out g hg
    exact (ht.block g (by omega) (by simp;omega)).trans (hm1.block g hg2.2 (by omega))
   obtain ⟨ka,kc,rfl⟩:=slice_form hown2
   go_wp2_with (at_builtin;refine wpList_append_lies _ rfl (.tmp 22) (.tmp 24) 24 rfl Bl 9 i0 (.string ⟨#[]⟩) 1 16 Tryz.underlying24 hi0 hz0 hz1 hz2 rfl (by decide) (.slice ka st.1.length kc) st.1.length (st.1.map strCell) rfl (hown2.alloc _) ⟨w2.heap.size,0,none⟩ 1 1 [.string ⟨k.toArray⟩] rfl rfl (World.news_of_block (cs:=#[.string ⟨k.toArray⟩]) (t:=9) (fr:=(0,0)) (heap_alloc_new w2 _)) (by simp [Value.oneCell']) (by omega) (by unfold maxLen;omega) (by omega) (by simp;omega) (w2.heap.size+1) (by simp) ?_)
   intro gk capk w3 hown3 hgrow3 hat3 hlt3
   have hkvb:(Value.slice ka st.1.length kc).ownBlock≠some b:=fun h=>by have:=row_lt H4.out b h;omega
   have hb3:w3.heap[b]?=some (.cells (six 5 false 0 [] lv (.slice ka st.1.length kc)).toArray 36 (0,0)):=(hgrow3.block b (by simp;omega) (fun h=>hkvb h.symm)).trans ((Below.heap_alloc w2 _ b (by omega)).trans hb2)
   obtain ⟨⟨_,_,_,_,_,l5⟩,lf⟩:=cells_six hb3
   have l5f:=lf 5
   clear lf j5 j5f
   have far3:∀ j,j<W.heap.size→j≠d→j≠m→(Value.slice ka st.1.length kc).ownBlock≠some j→w3.heap[j]?=W.heap[j]?:=fun j hj hjd hjm hjk =>
    (hgrow3.block j (by simp;omega) (fun h=>hjk h.symm)).trans ((Below.heap_alloc w2 _ j (by omega)).trans ((ht.block j (by omega) (by simpa using hjm)).trans (hm1.block j hj hjd)))
   have hkv:∀ j,(Value.slice ka st.1.length kc).ownBlock=some j→Bl≤j∧j<W.heap.size:=fun j hj=>row_lt H4.out j hj
   have cp3:w3.cell? ⟨p,0,none⟩=some (.pointer (some ⟨d,0,none⟩)):=by
    rw [cell_of_same (p:=⟨p,0,none⟩) (far3 p (by omega) (by omega) (by omega) (fun h=>by have:=hkv p h;omega))];exact c1
   have FAR3:=Lib.hid far3
   have HKV:=Lib.hid hkv
   clear far3 hkv hkvb c1
   go_wp2_with fail
   have hgB:Bl≤gk:=(row_lt hown3 gk rfl).1
   have hgb:gk≠b:=by omega
   have hgd:gk≠d:=by omega
   have z3:=hgrow3.size
   simp at z3
   have far4:∀ j,j≠b→(w3.setCell ⟨b,5,none⟩ (.slice (some ⟨gk,0,none⟩) (st.1.length+1) capk)).heap[j]?=w3.heap[j]?:=fun j hj=>Below.heap_setCell _ _ _ _ hj
   have hb4:(w3.setCell ⟨b,5,none⟩ (.slice (some ⟨gk,0,none⟩) (st.1.length+1) capk)).heap[b]?=some (.cells (six 5 false 0 [] lv (.slice (some ⟨gk,0,none⟩) (st.1.length+1) capk)).toArray 36 (0,0)):=Go.Joins.block_setCell (cs:=#[.int .i64 5,.bool false,.int .i64 0,.string ⟨#[]⟩,lv,.slice ka st.1.length kc]) hb3 _
   have z4:(w3.setCell ⟨b,5,none⟩ (.slice (some ⟨gk,0,none⟩) (st.1.length+1) capk)).heap.size=w3.heap.size:=sc_size _ _ _
   have o4:(w3.setCell ⟨b,5,none⟩ (.slice (some ⟨gk,0,none⟩) (st.1.length+1) capk)).os=w3.os:=rfl
   have t4:(w3.setCell ⟨b,5,none⟩ (.slice (some ⟨gk,0,none⟩) (st.1.length+1) capk)).tape=w3.tape:=rfl
   have p4:(w3.setCell ⟨b,5,none⟩ (.slice (some ⟨gk,0,none⟩) (st.1.length+1) capk)).output=w3.output:=rfl
   generalize w3.setCell ⟨b,5,none⟩ (.slice (some ⟨gk,0,none⟩) (st.1.length+1) capk)=w4 at *
   have far:∀ j,j<W.heap.size→j≠d→j≠m→(Value.slice ka st.1.length kc).ownBlock≠some j→j≠b→w4.heap[j]?=W.heap[j]?:=fun j hj hjd hjm hjk hjb=>(far4 j hjb).trans (FAR3.out j hj hjd hjm hjk)
   have hlv:∀ j,lv.ownBlock=some j→Bl≤j∧j<W.heap.size:=fun j hj=>row_lt H2.out j hj
   have hkl:∀ j,lv.ownBlock=some j→(Value.slice ka st.1.length kc).ownBlock≠some j:=fun j hj h=>H5.out j h hj
   have hgl:lv.ownBlock≠some gk:=fun h=>by
    rcases hat3 with h2|h2
    ·exact hkl gk h h2
    ·have:=hlv gk h;omega
   have hr4:RdL d s r0 o w4:=by
    obtain ⟨a,g1,g2,g3⟩:=hr1
    refine ⟨a,g1,g2,(far4 d h7).trans ((hgrow3.block d (by simp;have:=g3.lt;omega) (fun h=>by have:=HKV.out d h.symm;omega)).trans ((Below.heap_alloc w2 _ d (by have:=g3.lt;omega)).trans ((ht.block d g3.lt (by simpa using h10)).trans g3)))⟩
   have hmx:MutX W.heap.size d (fun j=>j=m∨j=b∨(Value.slice ka st.1.length kc).ownBlock=some j) W w4:=⟨o4.trans (hgrow3.os.trans (ht.os.trans hm1.os)),t4.trans (hgrow3.tape.trans (ht.tape.trans hm1.tape)),p4.trans (hgrow3.output.trans (ht.output.trans hm1.output)),by omega,fun j hj hjd hX=>far j hj hjd (fun h=>hX (.inl h)) (fun h=>hX (.inr (.inr h))) (fun h=>hX (.inr (.inl h)))⟩
   have hE4:Env B0 w4:=by
    have h0:=hE.size
    refine hE.later ((hmx.mut (B':=B0) h0 (fun j hj=>?_)).below hd)
    rcases hj with rfl|rfl|hj
    ·exact hbm.2
    ·exact hbm.1
    ·have:=HKV.out j hj;omega
   have hown4:w4.ownsRow Bl 36 6 lv st.2.length xs:=ownsRow_same H2.out fun g hg=>by
    have:=hlv g hg
    exact far g this.2 (by omega) (by omega) (hkl g hg) (by omega)
   have hin4:ListIn w4 (fun g=>Bl≤g∧lv.ownBlock≠some g∧¬ some gk=some g) st.2 xs:=by
    refine ListIn.later (R:=fun g=>(Bl≤g∧lv.ownBlock≠some g∧¬ (Value.slice ka st.1.length kc).ownBlock=some g)∧g<W.heap.size) (fun g hg hlt=>far g hg.2 (by omega) (by omega) hg.1.2.2 (by omega)) (fun g hg=>⟨hg.1.1,hg.1.2.1,fun h=>?_⟩) _ xs (ListIn.bound _ xs H3.out)
    have h:gk=g:=by simpa using h
    subst h
    rcases hat3 with h2|h2
    ·exact hg.1.2.2 h2
    ·omega
   have cV:=IH f hf d B0 s r0 o w4 hr4 hE4 hd hs ho (by have:=key_len hk;omega) hf2
   have cP:=part_any d b Bl st.2.length s o 5 lv (.slice (some ⟨gk,0,none⟩) (st.1.length+1) capk) xs st.2 _ w4 hb4 hown4 rfl (fun g=>some gk=some g) (fun g hg=>(Option.some.inj hg) ▸ (by omega)) hin4 h1 h2 h7 (by omega) hn2 cV
   refine cP.mono ?_
   intro e W1 hP
   have key:∃ v,e=.returned v∧ReadsX d s o (RI d b p q m Bl) Bl (fun k=>k=b∨k=m) (resMap (fun v=>(st.1++[k],st.2++[v])) (value f o r0)) W (.returned v) W1:=by
    have hfr:∀ W1:World,W1.os=w4.os→W1.tape=w4.tape→W1.output=w4.output→w4.heap.size≤W1.heap.size→(∀ j,j<Bl→j≠d→j≠b→W1.heap[j]?=w4.heap[j]?)→MutX Bl d (fun k=>k=b∨k=m) W W1:=fun W1 g1 g2 g3 g4 g5 =>
     ⟨g1.trans hmx.os,g2.trans hmx.tape,g3.trans hmx.output,by omega,fun j hj hjd hX=>(g5 j hj hjd (fun h=>hX (.inl h))).trans (far j (by omega) hjd (fun h=>hX (.inr h)) (fun h=>by have:=HKV.out j h;omega) (fun h=>hX (.inl h)))⟩
    cases hv:value f o r0 with
    | bad =>
     rw [hv] at hP
     obtain ⟨rfl,hrb,hmb⟩:=hP
     exact ⟨_,rfl,hfr W1 hmb.os hmb.tape hmb.output hmb.size (fun j hj hjd _=>hmb.block j (by omega) hjd),rfl,hrb⟩
    | deep =>
     rw [hv] at hP
     obtain ⟨rfl,hrb,hmb⟩:=hP
     exact ⟨_,rfl,hfr W1 hmb.os hmb.tape hmb.output hmb.size (fun j hj hjd _=>hmb.block j (by omega) hjd),rfl,hrb⟩
    | ok v rest =>
     rw [hv] at hP
     obtain ⟨rfl,hrb,hmb,lv',xs',n1,n2,n3,n4⟩:=hP
     have hz5:=hmb.size
     have far5:∀ j,j<w4.heap.size→j≠d→j≠b→lv.ownBlock≠some j→W1.heap[j]?=w4.heap[j]?:=fun j hj hjd hjb hjl=>hmb.block j hj hjd (fun h=>h.elim hjb hjl)
     refine ⟨_,rfl,hfr W1 hmb.os hmb.tape hmb.output hmb.size (fun j hj hjd hjb=>far5 j (by omega) hjd hjb (fun h=>by have:=hlv j h;omega)),rfl,?_,hrb⟩
     obtain ⟨_,e1,e2,_⟩:=HI'.out
     refine ⟨⟨h1,h2,h3,h4,h5,by omega,h7,h8,h9,h10,h11,h12,h13,h14,h15⟩,?_,?_,?_,lv',.slice (some ⟨gk,0,none⟩) (st.1.length+1) capk,xs',n1,?_,n3,?_,?_⟩
     ·rw [cell_of_same (p:=⟨p,0,none⟩) ((far5 p (by omega) (by omega) h11 (fun h=>by have:=hlv p h;omega)).trans (far p (by omega) (by omega) h14 (fun h=>by have:=HKV.out p h;omega) h11))];exact e1
     ·rw [cell_of_same (p:=⟨q,0,none⟩) ((far5 q (by omega) (by omega) h12 (fun h=>by have:=hlv q h;omega)).trans (far q (by omega) (by omega) h15 (fun h=>by have:=HKV.out q h;omega) h12))];exact e2
     ·have hml:=hseen2.lt
      refine hseen2.same ((far5 m (by omega) (Ne.symm h10) h13 (fun h=>by have:=hlv m h;omega)).trans ((far4 m h13).trans ((hgrow3.block m (by simp;omega) (fun h=>by have:=HKV.out m h.symm;omega)).trans (Below.heap_alloc w2 _ m hml))))
     ·rw [List.length_append];exact n2
     ·have hown5:W1.ownsRow Bl 9 1 (.slice (some ⟨gk,0,none⟩) (st.1.length+1) capk) (st.1.length+1) (st.1.map strCell++[.string ⟨k.toArray⟩]):=ownsRow_same hown3 fun g hg=>by
       have hg:gk=g:=by simpa [Value.ownBlock] using hg
       subst hg
       exact (far5 gk (by omega) hgd hgb hgl).trans (far4 gk hgb)
      rw [List.length_append,List.map_append];exact hown5
     ·intro g hg h
      have hg:gk=g:=by simpa [Value.ownBlock] using hg
      subst hg
      rcases n4 with h6'|h6'
      ·rw [h6'] at h;exact hgl h
      ·have:=h6' gk h;omega
   obtain ⟨v,rfl,hX⟩:=key
   clear hP cP
   go_wp2_with fail
   go_ret
   exact hX
end Go.Proofs.YtpbnhnilfpoljaaGreatDoor.V
namespace Go.Proofs.YtpbnhnilfpoljaaGreatDoor.V
open Go.RowKit
open Go.Lib
def recordP (f o:Nat) (l:List UInt8):Res Val:=resMap (fun p:List (List UInt8) × List Val=>Val.rcd p.1 p.2) (partsG (stepR (o+1)) 125 f o l ([],[]))
theorem five (w:World) (o1 o2 o3 o4 o5:Obj):(((((w.alloc o1).alloc o2).alloc o3).alloc o4).alloc o5).heap[w.heap.size]?=some o1∧(((((w.alloc o1).alloc o2).alloc o3).alloc o4).alloc o5).heap[w.heap.size+1]?=some o2∧(((((w.alloc o1).alloc o2).alloc o3).alloc o4).alloc o5).heap[w.heap.size+1+1]?=some o3 ∧
  (((((w.alloc o1).alloc o2).alloc o3).alloc o4).alloc o5).heap[w.heap.size+1+1+1]?=some o4∧(((((w.alloc o1).alloc o2).alloc o3).alloc o4).alloc o5).heap[w.heap.size+1+1+1+1]?=some o5 ∧
  Below w.heap.size w (((((w.alloc o1).alloc o2).alloc o3).alloc o4).alloc o5)∧(((((w.alloc o1).alloc o2).alloc o3).alloc o4).alloc o5).heap.size=w.heap.size+5:=by
 obtain ⟨h1,h2,h3,hb,hz⟩:=three w o1 o2 o3
 have s4:((((w.alloc o1).alloc o2).alloc o3).alloc o4).heap.size=w.heap.size+4:=by simp
 refine ⟨?_,?_,?_,?_,?_,(hb.alloc (by omega) _).alloc (by omega) _,by simp⟩
 ·rw [Below.heap_alloc _ _ _ (by omega),Below.heap_alloc _ _ _ (by omega)];exact h1
 ·rw [Below.heap_alloc _ _ _ (by omega),Below.heap_alloc _ _ _ (by omega)];exact h2
 ·rw [Below.heap_alloc _ _ _ (by omega),Below.heap_alloc _ _ _ (by omega)];exact h3
 ·rw [Below.heap_alloc _ _ _ (by omega),← hz];exact heap_alloc_new _ o4
 ·rw [show w.heap.size+1+1+1+1=((((w.alloc o1).alloc o2).alloc o3).alloc o4).heap.size by omega];exact heap_alloc_new _ o5
theorem keysIn_of {W:World} {Bl:Nat} {ks:List (List UInt8)} {kv:Value} (h:W.ownsRow Bl 9 1 kv ks.length (ks.map strCell)):KeysIn W (fun g=>Bl≤g) ks kv:=by
 rcases h.2 with ⟨rfl,h0⟩|⟨g,cap,cur,rfl,hg,hgg,rest⟩
 ·exact ⟨none,0,by rw [h0],.inl (List.eq_nil_of_length_eq_zero h0)⟩
 ·refine ⟨_,cap,rfl,.inr ⟨g,0,rfl,hg,fun j u hj=>?_⟩⟩
  have h2:=World.ownsRowF.cells (World.ownsRowF_of h) (g:=g) rfl j u hj
  rw [show (⟨g,0,none⟩:Addr).add j=⟨g,0+j,none⟩ from by unfold Addr.add;split <;> simp_all] at h2
  exact h2
theorem seen_nil {m:Nat} {W:World} (h:W.heap[m]?=some (.map #[] 0)):Seen m [] W:=by
 obtain ⟨D,⟨es,clock,hb,rest⟩,h2⟩:=Seen.made W
 rw [heap_alloc_new] at hb
 cases hb
 exact ⟨D,⟨_,_,h,rest⟩,h2⟩
theorem stepR_inv {o f:Nat} {st st':List (List UInt8) × List Val} {l r:List UInt8} (h:stepR o f st l=.ok st' r):∃ k r0 v,key l=some (k,r0)∧value f o r0=.ok v r∧st'=(st.1++[k],st.2++[v]):=by
 unfold stepR at h
 cases hk:key l with
 | none=>rw [hk] at h;cases h
 | some p =>
  obtain ⟨k,r0⟩:=p
  rw [hk] at h
  simp only at h
  split at h
  ·cases h
  ·obtain ⟨v,h2,h3⟩:=resMap_len h
   exact ⟨k,r0,v,rfl,h2,h3⟩
theorem stepR_len {o f:Nat} {st st':List (List UInt8) × List Val} {l r:List UInt8} (h:stepR o f st l=.ok st' r):r.length≤l.length:=by
 obtain ⟨k,r0,v,h1,h2,_⟩:=stepR_inv h
 have:=key_len h1
 have:=value_len _ _ _ _ _ h2
 omega
theorem stepR_cnt {o f:Nat} {st st':List (List UInt8) × List Val} {l r:List UInt8} (h:stepR o f st l=.ok st' r):max st'.1.length st'.2.length≤max st.1.length st.2.length+1:=by
 obtain ⟨k,r0,v,_,_,rfl⟩:=stepR_inv h
 simp only [List.length_append,List.length_cons,List.length_nil];omega
set_option maxHeartbeats 2000000 in
theorem record_any (F f d B0:Nat) (s:ByteArray) (l:List UInt8) (o:Nat) (w:World) (IH:ValC F) (hf:f≤F) (hf2:f≤1099511627776)
  (hr:RdL d s l o w) (hE:Env B0 w) (hd:B0≤d) (hs:s.size≤274877906944) (ho:o≤20) (hl:2*l.length+2≤f) :
  Calls Tryz.prog 85 #[.pointer (some ⟨d,0,none⟩)] w (ReadsV d s o (recordP f o l) w):=by
 have hmf:∀ (fn:Fn) (first cap:Array Value) (w:World),(Instr.makeFunc fn first cap).run Tryz.prog w=.ok (.func fn first cap) w:=fun _ _ _ _=>rfl
 have hmm:=@run_makeMap Tryz.prog
 have hdlt:=hr.lt
 have hz0:=hE.size
 go_enter Tryz.func85,Tryz.ntmps85
 go_wp2_with fail
 obtain ⟨t1,t2,t3,t4,t5,tb,tz⟩:=five w (.cells #[.pointer (some ⟨d,0,none⟩)] 149) (.cells #[.int .i64 0,.bool false,.int .i64 0,.string ⟨#[]⟩,.slice none 0 0,.slice none 0 0] 36) (.cells #[.int .i64 5,.bool false,.int .i64 0,.string ⟨#[]⟩,.slice none 0 0,.slice none 0 0] 36) (.map #[] 0) (.cells #[.map (some (w.heap.size+1+1+1))] 183)
 generalize ((((w.alloc (.cells #[.pointer (some ⟨d,0,none⟩)] 149)).alloc (.cells #[.int .i64 0,.bool false,.int .i64 0,.string ⟨#[]⟩,.slice none 0 0,.slice none 0 0] 36)).alloc (.cells #[.int .i64 5,.bool false,.int .i64 0,.string ⟨#[]⟩,.slice none 0 0,.slice none 0 0] 36)).alloc (.map #[] 0)).alloc (.cells #[.map (some (w.heap.size+1+1+1))] 183)=W0 at *
 have cP:=parts_any (stepR (o+1)) 125 (RI d (w.heap.size+1+1) w.heap.size (w.heap.size+1+1+1+1) (w.heap.size+1+1+1)) (fun k=>k=w.heap.size+1+1∨k=w.heap.size+1+1+1) 113 #[.pointer (some ⟨w.heap.size,0,none⟩),.pointer (some ⟨w.heap.size+1+1+1+1,0,none⟩),.pointer (some ⟨w.heap.size+1+1,0,none⟩)] d B0 f s l o ([],[]) W0
  (hr.below tb) (hE.later (tb.mono hz0)) hd (by omega) ho (by rintro k (rfl|rfl) <;> omega) hl
  (fun f st l st' r h=>stepR_len h) (fun st=>max st.1.length st.2.length) rfl (fun f st l st' r h=>stepR_cnt h)
  (fun W hm=>⟨by have:=hm.size;omega,
   by rw [cell_of_same (p:=⟨w.heap.size,0,none⟩) (hm.block w.heap.size (by omega) (by omega))];unfold World.cell?;rw [t1];rfl,
   by rw [cell_of_same (p:=⟨w.heap.size+1+1+1+1,0,none⟩) (hm.block (w.heap.size+1+1+1+1) (by omega) (by omega))];unfold World.cell?;rw [t5];rfl,
   seen_nil ((hm.block _ (by omega) (by omega)).trans t4),
   .slice none 0 0,.slice none 0 0,[],(hm.block _ (by omega) (by omega)).trans t3,World.ownsRow_nil _ _ _ _,rfl,World.ownsRow_nil _ _ _ _,fun g hg=>by cases hg⟩)
  (fun Bl st W W' _ h hm=>h.mut hm)
  (enters_of Tryz.func113 (by kernel_rfl) rfl)
  (fun Bl f' st l' W ho' hc hl' _ _ hEW hI hrW=>record_part F f' d (w.heap.size+1+1) w.heap.size (w.heap.size+1+1+1+1) (w.heap.size+1+1+1) Bl B0 s l' (o+1) st W IH (by omega) (by omega) hrW hEW hd (by omega) hs (by omega) hl' (by omega) (by omega) hI)
 have HCP:=Lib.hid cP
 clear cP
 cases hp:partsG (stepR (o+1)) 125 f o l ([],[]) with
 | bad =>
  have hres:recordP f o l=.bad:=by unfold recordP;rw [hp];rfl
  have HRes:=Lib.hid hres
  have cQ:=HCP.out
  rw [hp] at cQ
  clear hres HCP hp
  refine cQ.mono ?_
  rintro e W1 ⟨hm,rfl,l1,hr1⟩
  have hb:=(hm.block (w.heap.size+1) (by omega) (by omega) (by omega)).trans t2
  obtain ⟨⟨k0,k1,k2,k3,k4,k5⟩,kf⟩:=cells_six hb
  have hmw:Mut w.heap.size d w W1:=(Mut.of_below tb).trans (hm.mut (by omega) (by rintro k (rfl|rfl) <;> omega))
  clear cQ hm t1 t2 t3 hb
  go_wp2_with fail
  refine bodyPost_ret (v:=.tuple #[.agg (six 0 false 0 [] (.slice none 0 0) (.slice none 0 0)).toArray,.int .i64 21]) (by simp [results,Tryz.results85,go_sem,six,strCell,k0,k1,k2,k3,k4,k5]) rfl ?_
  exact readsV_bad HRes.out hmw hr1 (by omega) (by omega)
 | deep =>
  have hres:recordP f o l=.deep:=by unfold recordP;rw [hp];rfl
  have HRes:=Lib.hid hres
  have cQ:=HCP.out
  rw [hp] at cQ
  clear hres HCP hp
  refine cQ.mono ?_
  rintro e W1 ⟨hm,rfl,l1,hr1⟩
  have hb:=(hm.block (w.heap.size+1) (by omega) (by omega) (by omega)).trans t2
  obtain ⟨⟨k0,k1,k2,k3,k4,k5⟩,kf⟩:=cells_six hb
  have hmw:Mut w.heap.size d w W1:=(Mut.of_below tb).trans (hm.mut (by omega) (by rintro k (rfl|rfl) <;> omega))
  clear cQ hm t1 t2 t3 hb
  go_wp2_with fail
  refine bodyPost_ret (v:=.tuple #[.agg (six 0 false 0 [] (.slice none 0 0) (.slice none 0 0)).toArray,.int .i64 22]) (by simp [results,Tryz.results85,go_sem,six,strCell,k0,k1,k2,k3,k4,k5]) rfl ?_
  exact readsV_deep HRes.out hmw hr1 (by omega) (by omega)
 | ok pr rest =>
  obtain ⟨ks,vs⟩:=pr
  have hres:recordP f o l=.ok (.mk 5 false 0 [] vs ks) rest:=by unfold recordP;rw [hp];rfl
  have HRes:=Lib.hid hres
  have cQ:=HCP.out
  rw [hp] at cQ
  clear hres HCP hp
  refine cQ.mono ?_
  rintro e W1 ⟨hm,rfl,⟨Bl,⟨i1,i2,i3,_,_,i4,i5,i6,_⟩,_,_,_,lv,kv,xs,i8,i9,i10,i11,_⟩,hr1⟩
  have hb:=(hm.block (w.heap.size+1) (by omega) (by omega) (by omega)).trans t2
  obtain ⟨⟨k0,k1,k2,k3,k4,k5⟩,kf⟩:=cells_six hb
  have HV:=Lib.hid (valIn_of (so:=5) (Nat.le_refl _) i9 i10 (keysIn_of i11) false 0 [])
  obtain ⟨la,lc,rfl⟩:=slice_form i9
  obtain ⟨qa,qc,rfl⟩:=slice_form i11
  obtain ⟨⟨j0,j1,j2,j3,j4,j5⟩,jf⟩:=cells_six i8
  replace j3:W1.cell? ⟨w.heap.size+1+1,3,none⟩=some (.string ⟨#[]⟩):=j3
  have hmw:Mut w.heap.size d w W1:=(Mut.of_below tb).trans (hm.mut (by omega) (by rintro k (rfl|rfl) <;> omega))
  have hne:¬ w.heap.size+1+1=w.heap.size+1:=by omega
  clear cQ hm t1 t2 t3 hb i8 i9 i10 i11 jf
  go_wp2_with fail
  refine bodyPost_ret (v:=.tuple #[.agg (six 5 false 0 [] (.slice la vs.length lc) (.slice qa ks.length qc)).toArray,.int .i64 0]) (by simp [results,Tryz.results85,go_sem,six,strCell,k0,k1,k2,k3,k4,k5]) rfl ?_
  exact readsV_ok HRes.out hmw hr1 HV.out (by omega) (by omega) (by omega)
end Go.Proofs.YtpbnhnilfpoljaaGreatDoor.V
namespace Go.Proofs.YtpbnhnilfpoljaaGreatDoor.V
open Go.RowKit
open Go.Lib
def skipR:Res Val→Res Val
 | .ok v r=>.ok v (skip r)
 | .bad=>.bad
 | .deep=>.deep
theorem value_list {f o:Nat} {l r:List UInt8} (h:skip l=91 :: r):value (f+1) o l=skipR (listP f o r):=by
 simp only [value,h,listP,partsG]
 by_cases ho:o=20
 ·rw [if_pos ho,if_pos (by omega)];rfl
 ·rw [if_neg ho,if_neg (by omega)]
  cases hp:Lib.hasPrefix (skip r) [93] with
  | true =>
   rw [prefix_one hp];simp [resMap,skipR,Val.arr]
  | false =>
   rw [if_neg (by simp),← items_loop]
   split
   ·rename_i r' h2;rw [h2] at hp;simp [Lib.hasPrefix] at hp
   ·cases items f (o+1) (skip r) [] <;> rfl
theorem value_record {f o:Nat} {l r:List UInt8} (h:skip l=123 :: r):value (f+1) o l=skipR (recordP f o r):=by
 simp only [value,h,recordP,partsG]
 by_cases ho:o=20
 ·rw [if_pos ho,if_pos (by omega)];rfl
 ·rw [if_neg ho,if_neg (by omega)]
  cases hp:Lib.hasPrefix (skip r) [125] with
  | true =>
   rw [prefix_one hp];simp [resMap,skipR,Val.rcd]
  | false =>
   rw [if_neg (by simp),← fields_loop]
   split
   ·rename_i r' h2;rw [h2] at hp;simp [Lib.hasPrefix] at hp
   ·cases fields f (o+1) (skip r) [] [] <;> rfl
def plainR (l:List UInt8):Res Val:=match plain l with
 | some (v,r)=>.ok v r
 | none=>.bad
theorem value_plain {f o:Nat} {l:List UInt8} (h1:Lib.hasPrefix (skip l) [91]=false) (h2:Lib.hasPrefix (skip l) [123]=false):value (f+1) o l=skipR (plainR (skip l)):=by
 simp only [value,plainR]
 split
 ·rename_i r h;rw [h] at h1;simp [Lib.hasPrefix] at h1
 ·rename_i r h;rw [h] at h2;simp [Lib.hasPrefix] at h2
 ·cases plain (skip l) with
  | none=>rfl
  | some p=>rfl
theorem readsV_plain {d:Nat} {s:ByteArray} {o:Int} {l:List UInt8} {w w':World} {e:Ending} (h:ReadsP d s o (plain l) w e w') :
  (∃ so on n t rest,e=.returned (.tuple #[vagg so on n t (.slice none 0 0) (.slice none 0 0),.bool true])∧plainR l=.ok (.mk so on n t [] []) rest∧RdL d s rest o w'∧Mut w.heap.size d w w') ∨
  (∃ so n t rest,e=.returned (.tuple #[vagg so false n t (.slice none 0 0) (.slice none 0 0),.bool false])∧plainR l=.bad∧RdL d s rest o w'∧Mut w.heap.size d w w'):=by
 unfold plainR
 cases hp:plain l with
 | none =>
  rw [hp] at h
  obtain ⟨so,n,t,r,he,h1,h2⟩:=h
  exact .inr ⟨so,n,t,r,he,rfl,h1,h2⟩
 | some p =>
  obtain ⟨⟨so,on,n,t,l',k'⟩,r⟩:=p
  rw [hp] at h
  match l',k',h with
  | [],[],h=>exact .inl ⟨so,on,n,t,r,h.1,rfl,h.2.1,h.2.2⟩
theorem value_fin {d:Nat} {s:ByteArray} {o:Int} {r:Res Val} {w w1 w2:World} {e:Ending} (h:ReadsV d s o r w1 e w2) (hm01:Mut w.heap.size d w w1) (hR:w.heap.size<w1.heap.size) (hd:d<w.heap.size) :
  ∃ (so:Int) (on:Bool) (n:Int) (t:List UInt8) (a1 a2:Option Addr) (n1 c1 n2 c2:Nat) (en:Int) (rest:List UInt8),
   e=.returned (.tuple #[.agg #[.int .i64 so,.bool on,.int .i64 n,.string ⟨t.toArray⟩,.slice a1 n1 c1,.slice a2 n2 c2],.int .i64 en])∧RdL d s rest o w2∧Mut w1.heap.size d w1 w2 ∧
   ∀ (x0 x1 x2 x3 x4 x5:Value) (W':World),Mut w2.heap.size d ((((((w2.setCell ⟨w.heap.size,0,none⟩ x0).setCell ⟨w.heap.size,1,none⟩ x1).setCell ⟨w.heap.size,2,none⟩ x2).setCell ⟨w.heap.size,3,none⟩ x3).setCell ⟨w.heap.size,4,none⟩ x4).setCell ⟨w.heap.size,5,none⟩ x5) W'→RdL d s (skip rest) o W' →
    ReadsV d s o (skipR r) w (.returned (.tuple #[.agg #[.int .i64 so,.bool on,.int .i64 n,.string ⟨t.toArray⟩,.slice a1 n1 c1,.slice a2 n2 c2],.int .i64 en])) W':=by
 obtain ⟨hm12,h⟩:=h
 have z01:=hm01.size
 have z12:=hm12.size
 have chain:∀ (x0 x1 x2 x3 x4 x5:Value) (W':World),Mut w2.heap.size d ((((((w2.setCell ⟨w.heap.size,0,none⟩ x0).setCell ⟨w.heap.size,1,none⟩ x1).setCell ⟨w.heap.size,2,none⟩ x2).setCell ⟨w.heap.size,3,none⟩ x3).setCell ⟨w.heap.size,4,none⟩ x4).setCell ⟨w.heap.size,5,none⟩ x5) W'→Mut w.heap.size d w W':=fun x0 x1 x2 x3 x4 x5 W' hm =>
  (mut6 w.heap.size x0 x1 x2 x3 x4 x5 (hm01.trans (hm12.mono (by omega))) (Nat.le_refl _)).trans (hm.mono (by omega))
 cases r with
 | bad =>
  obtain ⟨rfl,l,hr⟩:=h
  exact ⟨0,false,0,[],none,none,0,0,0,0,21,l,rfl,hr,hm12,fun x0 x1 x2 x3 x4 x5 W' hm hr'=>⟨chain x0 x1 x2 x3 x4 x5 W' hm,rfl,_,hr'⟩⟩
 | deep =>
  obtain ⟨rfl,l,hr⟩:=h
  exact ⟨0,false,0,[],none,none,0,0,0,0,22,l,rfl,hr,hm12,fun x0 x1 x2 x3 x4 x5 W' hm hr'=>⟨chain x0 x1 x2 x3 x4 x5 W' hm,rfl,_,hr'⟩⟩
 | ok v rest =>
  obtain ⟨so,on,n,t,l,ks⟩:=v
  obtain ⟨lv,kv,rfl,hv,hr⟩:=h
  have hv':=hv
  obtain ⟨⟨a1,c1,rfl,_⟩,⟨a2,c2,rfl,_⟩⟩:=hv'
  refine ⟨so,on,n,t,a1,a2,l.length,c1,ks.length,c2,0,rest,rfl,hr,hm12,fun x0 x1 x2 x3 x4 x5 W' hm hr'=>⟨chain x0 x1 x2 x3 x4 x5 W' hm,.slice a1 l.length c1,.slice a2 ks.length c2,rfl,?_,hr'⟩⟩
  refine ValIn.later (R:=fun g=>w1.heap.size≤g) (fun g hg hlt=>?_) (fun g hg=>by omega) _ _ _ hv
  exact (hm.block g hlt (by omega)).trans (far6 w2 w.heap.size g _ _ _ _ _ _ (by omega))
theorem heap6 {W:World} {q:Nat} {c0 c1 c2 c3 c4 c5:Value} {t:TypeId} (h:W.heap[q]?=some (.cells #[c0,c1,c2,c3,c4,c5] t (0,0))) (x0 x1 x2 x3 x4 x5:Value) :
  ((((((W.setCell ⟨q,0,none⟩ x0).setCell ⟨q,1,none⟩ x1).setCell ⟨q,2,none⟩ x2).setCell ⟨q,3,none⟩ x3).setCell ⟨q,4,none⟩ x4).setCell ⟨q,5,none⟩ x5).heap[q]?=some (.cells #[x0,x1,x2,x3,x4,x5] t (0,0)):=by
 have e0:=Go.Joins.block_setCell (i:=0) h x0
 have e1:=Go.Joins.block_setCell (i:=1) e0 x1
 have e2:=Go.Joins.block_setCell (i:=2) e1 x2
 have e3:=Go.Joins.block_setCell (i:=3) e2 x3
 have e4:=Go.Joins.block_setCell (i:=4) e3 x4
 have e5:=Go.Joins.block_setCell (i:=5) e4 x5
 exact e5
theorem plain_ok_fin {d:Nat} {s:ByteArray} {o:Int} {r:Res Val} {w W':World} {so n:Int} {on:Bool} {t rest:List UInt8} (hr:r=.ok (.mk so on n t [] []) rest) (hm:Mut w.heap.size d w W') (h:RdL d s (skip rest) o W') :
  ReadsV d s o (skipR r) w (.returned (.tuple #[.agg #[.int .i64 so,.bool on,.int .i64 n,.string ⟨t.toArray⟩,.slice none 0 0,.slice none 0 0],.int .i64 0])) W':=by
 subst hr
 exact ⟨hm,.slice none 0 0,.slice none 0 0,rfl,⟨⟨none,0,rfl,.inl rfl⟩,keysIn_nil _ _⟩,h⟩
theorem plain_bad_fin {d:Nat} {s:ByteArray} {o:Int} {r:Res Val} {w W':World} {l:List UInt8} (hr:r=.bad) (hm:Mut w.heap.size d w W') (h:RdL d s l o W') :
  ReadsV d s o (skipR r) w (.returned (.tuple #[.agg #[.int .i64 0,.bool false,.int .i64 0,.string ⟨#[]⟩,.slice none 0 0,.slice none 0 0],.int .i64 21])) W':=by
 subst hr
 exact ⟨hm,rfl,l,h⟩
set_option maxHeartbeats 4000000 in
theorem value_step (F d B0:Nat) (s:ByteArray) (l:List UInt8) (o:Nat) (w:World) (IH:ValC F) (hf2:F+1≤1099511627776)
  (hr:RdL d s l o w) (hE:Env B0 w) (hd:B0≤d) (hs:s.size≤274877906944) (ho:o≤20) (hl:2*l.length+1≤F+1) :
  Calls Tryz.prog 45 #[.pointer (some ⟨d,0,none⟩)] w (ReadsV d s o (value (F+1) o l) w):=by
 have hdlt:=hr.lt
 have hsl:=skip_len l
 have hr0:∀ ob,RdL d s l o (w.alloc ob):=fun ob=>hr.below ((Below.refl _ _).alloc (Nat.le_refl _) _)
 have hm0:∀ ob,Mut w.heap.size d w (w.alloc ob):=fun ob=>(Mut.refl _ _ _).alloc (Nat.le_refl _) _
 have hmut:∀ W,Mut w.heap.size d w W→Env B0 W:=fun W hm=>hE.mut hd hm
 obtain ⟨l1,hl1⟩:∃ l1,skip l=l1:=⟨_,rfl⟩
 have c1:∀ W,RdL d s l o W→Calls Tryz.prog 82 #[.pointer (some ⟨d,0,none⟩),.string ⟨#[32,9,10,13]⟩] W fun e w'=>(∃ t,e=.returned (.string t))∧RdL d s l1 o w'∧Mut W.heap.size d W w':=fun W h=>(takeAll_any d s _ blank set_blank l o W h (by omega)).mono fun e w' ⟨he,h1,h2⟩=>⟨⟨_,he⟩,by rw [← hl1];exact h1,h2⟩
 cases hp:Lib.hasPrefix l1 [91] with
 | true =>
  obtain ⟨r,hlr⟩:∃ r,l1=91 :: r:=⟨_,prefix_one hp⟩
  have hres:=value_list (f:=F) (o:=o) (hl1.trans hlr)
  have hrl:2*r.length+2≤F:=by rw [← hl1] at hlr;rw [hlr] at hsl;simp at hsl;omega
  have c2:∀ W,RdL d s l1 o W→Calls Tryz.prog 83 #[.pointer (some ⟨d,0,none⟩),.string ⟨#[91]⟩] W fun e w'=>e=.returned (.bool true)∧RdL d s r o w'∧Mut W.heap.size d W w':=fun W h=>(take_yes d s ⟨#[91]⟩ l1 o W h (by omega) hp).mono fun e w' ⟨he,h1,h2⟩=>⟨he,by rw [hlr] at h1;exact h1,h2⟩
  have c3:∀ W,RdL d s r o W→Env B0 W→_:=fun W h hE=>list_any F F d B0 s r o W IH (Nat.le_refl _) (by omega) h hE hd hs ho hrl
  rw [hres]
  clear hr hE hl1 hp hlr hres IH hsl
  generalize listP F o r=RR at *
  go_enter_defers Tryz.func45,Tryz.ntmps45
  go_wp2_with fail
  refine (c1 _ (hr0 _)).mono ?_;rintro e w1 ⟨⟨tt,rfl⟩,hr1,hm1⟩
  have zz1:=hm1.size
  simp at zz1
  go_wp2_with fail
  refine (c2 _ hr1).mono ?_;rintro e w2 ⟨rfl,hr2,hm2⟩
  have hm02:=(hm0 _).trans ((hm1.trans (hm2.mono hm1.size)).mono (by simp))
  have zz2:=hm2.size
  have hb2:=((hm2.block w.heap.size (by omega) (by omega)).trans (hm1.block w.heap.size (by simp) (by omega))).trans (heap_alloc_new w _)
  go_wp2_with fail
  refine (c3 _ hr2 (hmut _ hm02)).mono ?_
  intro e w3 hV
  obtain ⟨so,on,n,t,a1,a2,n1,k1,n2,k2,en,rest,rfl,hr3,hm3,hfin⟩:=value_fin hV hm02 (by omega) hdlt
  have hb3:=(hm3.block w.heap.size (by omega) (by omega)).trans hb2
  obtain ⟨⟨j0,j1,j2,j3,j4,j5⟩,jf⟩:=cells_six hb3
  have HFin:=Lib.hid hfin
  have HB3:=Lib.hid hb3
  have hw3:w.heap.size<w3.heap.size:=by have:=hm3.size;omega
  clear c1 c2 c3 hr0 hm0 hmut hV hfin hb2 hb3 hm1 hm2
  go_wp2_with fail
  refine leaves_cons (f:=82) (args:=#[.pointer (some ⟨d,0,none⟩),.string ⟨#[32,9,10,13]⟩]) (by simp) (by simp [go_sem]) ?_
  refine (takeAll_d d s _ blank set_blank rest o _ (rdl6 w.heap.size _ _ _ _ _ _ hr3 (by omega)) (by omega) _).mono ?_
  rintro e u' w4 ⟨rfl,rfl,hr4,hm4⟩
  have hb4:=(hm4.block w.heap.size (by simp;omega) (by omega)).trans (heap6 HB3.out _ _ _ _ _ _)
  obtain ⟨⟨m0,m1,m2,m3,m4,m5⟩,_⟩:=cells_six hb4
  refine ⟨.tuple #[.agg #[.int .i64 so,.bool on,.int .i64 n,.string ⟨t.toArray⟩,.slice a1 n1 k1,.slice a2 n2 k2],.int .i64 en],?_,HFin.out _ _ _ _ _ _ w4 (hm4.mono (by simp)) hr4⟩
  simp [results,Tryz.results45,go_sem,m0,m1,m2,m3,m4,m5]
 | false =>
  cases hp2:Lib.hasPrefix l1 [123] with
  | true =>
   obtain ⟨r,hlr⟩:∃ r,l1=123 :: r:=⟨_,prefix_one hp2⟩
   have hres:=value_record (f:=F) (o:=o) (hl1.trans hlr)
   have hrl:2*r.length+2≤F:=by rw [← hl1] at hlr;rw [hlr] at hsl;simp at hsl;omega
   have c0:∀ W,RdL d s l1 o W→_:=fun W h=>take_no d s ⟨#[91]⟩ l1 o W h hp
   have c2:∀ W,RdL d s l1 o W→Calls Tryz.prog 83 #[.pointer (some ⟨d,0,none⟩),.string ⟨#[123]⟩] W fun e w'=>e=.returned (.bool true)∧RdL d s r o w'∧Mut W.heap.size d W w':=fun W h=>(take_yes d s ⟨#[123]⟩ l1 o W h (by omega) hp2).mono fun e w' ⟨he,h1,h2⟩=>⟨he,by rw [hlr] at h1;exact h1,h2⟩
   have c3:∀ W,RdL d s r o W→Env B0 W→_:=fun W h hE=>record_any F F d B0 s r o W IH (Nat.le_refl _) (by omega) h hE hd hs ho hrl
   rw [hres]
   clear hr hE hl1 hp hp2 hlr hres IH hsl
   generalize recordP F o r=RR at *
   go_enter_defers Tryz.func45,Tryz.ntmps45
   go_wp2_with fail
   refine (c1 _ (hr0 _)).mono ?_;rintro e w1 ⟨⟨tt,rfl⟩,hr1,hm1⟩
   have zz1:=hm1.size
   simp at zz1
   go_wp2_with fail
   refine (c0 _ hr1).mono ?_;rintro e w9 ⟨rfl,hr9,hm9⟩
   replace hm1:=hm1.trans (hm9.mono hm1.size)
   have zz9:=hm9.size
   go_wp2_with fail
   refine (c2 _ hr9).mono ?_;rintro e w2 ⟨rfl,hr2,hm2⟩
   have hm02:=(hm0 _).trans ((hm1.trans (hm2.mono hm1.size)).mono (by simp))
   have zz2:=hm2.size
   have hb2:=((hm2.block w.heap.size (by omega) (by omega)).trans (hm1.block w.heap.size (by simp) (by omega))).trans (heap_alloc_new w _)
   go_wp2_with fail
   refine (c3 _ hr2 (hmut _ hm02)).mono ?_
   intro e w3 hV
   obtain ⟨so,on,n,t,a1,a2,n1,k1,n2,k2,en,rest,rfl,hr3,hm3,hfin⟩:=value_fin hV hm02 (by omega) hdlt
   have hb3:=(hm3.block w.heap.size (by omega) (by omega)).trans hb2
   obtain ⟨⟨j0,j1,j2,j3,j4,j5⟩,jf⟩:=cells_six hb3
   have HFin:=Lib.hid hfin
   have HB3:=Lib.hid hb3
   have hw3:w.heap.size<w3.heap.size:=by have:=hm3.size;omega
   clear c0 c1 c2 c3 hr0 hm0 hmut hV hfin hb2 hb3 hm1 hm2
   go_wp2_with fail
   refine leaves_cons (f:=82) (args:=#[.pointer (some ⟨d,0,none⟩),.string ⟨#[32,9,10,13]⟩]) (by simp) (by simp [go_sem]) ?_
   refine (takeAll_d d s _ blank set_blank rest o _ (rdl6 w.heap.size _ _ _ _ _ _ hr3 (by omega)) (by omega) _).mono ?_
   rintro e u' w4 ⟨rfl,rfl,hr4,hm4⟩
   have hb4:=(hm4.block w.heap.size (by simp;omega) (by omega)).trans (heap6 HB3.out _ _ _ _ _ _)
   obtain ⟨⟨m0,m1,m2,m3,m4,m5⟩,_⟩:=cells_six hb4
   refine ⟨.tuple #[.agg #[.int .i64 so,.bool on,.int .i64 n,.string ⟨t.toArray⟩,.slice a1 n1 k1,.slice a2 n2 k2],.int .i64 en],?_,HFin.out _ _ _ _ _ _ w4 (hm4.mono (by simp)) hr4⟩
   simp [results,Tryz.results45,go_sem,m0,m1,m2,m3,m4,m5]
  | false =>
   have c0:∀ W,RdL d s l1 o W→_:=fun W h=>take_no d s ⟨#[91]⟩ l1 o W h hp
   have c2:∀ W,RdL d s l1 o W→_:=fun W h=>take_no d s ⟨#[123]⟩ l1 o W h hp2
   have c3:∀ W,RdL d s l1 o W→Env B0 W→_:=fun W h hE=>plain_any d s l1 o B0 W h hE hd (by omega)
   have hres:=value_plain (f:=F) (o:=o) (l:=l) (by rw [hl1];exact hp) (by rw [hl1];exact hp2)
   rw [hl1] at hres
   rw [hres]
   clear hr hE hl1 hp hp2 hres IH hsl
   go_enter_defers Tryz.func45,Tryz.ntmps45
   go_wp2_with fail
   refine (c1 _ (hr0 _)).mono ?_;rintro e w1 ⟨⟨tt,rfl⟩,hr1,hm1⟩
   have zz1:=hm1.size
   simp at zz1
   go_wp2_with fail
   refine (c0 _ hr1).mono ?_;rintro e w9 ⟨rfl,hr9,hm9⟩
   replace hm1:=hm1.trans (hm9.mono hm1.size)
   have zz9:=hm9.size
   go_wp2_with fail
   refine (c2 _ hr9).mono ?_;rintro e w2 ⟨rfl,hr2,hm2⟩
   have hm02:=(hm0 _).trans ((hm1.trans (hm2.mono hm1.size)).mono (by simp))
   have zz2:=hm2.size
   have hb2:=((hm2.block w.heap.size (by omega) (by omega)).trans (hm1.block w.heap.size (by simp) (by omega))).trans (heap_alloc_new w _)
   go_wp2_with fail
   refine (c3 _ hr2 (hmut _ hm02)).mono ?_
   intro e w3 hP
   rcases readsV_plain hP with ⟨so,on,n,t,rest,rfl,hpl,hr3,hm3⟩|⟨so,n,t,rest,rfl,hpl,hr3,hm3⟩
   ·have zz3:=hm3.size
    have hb3:=(hm3.block w.heap.size (by omega) (by omega)).trans hb2
    have hm03:=hm02.trans (hm3.mono (by omega))
    have HPL:=Lib.hid hpl
    obtain ⟨⟨j0,j1,j2,j3,j4,j5⟩,jf⟩:=cells_six hb3
    have HB3:=Lib.hid hb3
    have hw3:w.heap.size<w3.heap.size:=by omega
    clear c0 c1 c2 c3 hr0 hm0 hmut hP hb2 hb3 hm1 hm2 hpl
    simp only [vagg]
    go_wp2_with fail
    refine leaves_cons (f:=82) (args:=#[.pointer (some ⟨d,0,none⟩),.string ⟨#[32,9,10,13]⟩]) (by simp) (by simp [go_sem]) ?_
    refine (takeAll_d d s _ blank set_blank rest o _ ((rdl6 w.heap.size _ _ _ _ _ _ hr3 (by omega)).below ((Below.refl _ _).alloc (Nat.le_refl _) _)) (by omega) _).mono ?_
    rintro e u' w4 ⟨rfl,rfl,hr4,hm4⟩
    have hb4:=(hm4.block w.heap.size (by simp;omega) (by omega)).trans ((Below.heap_alloc _ _ w.heap.size (by simp;omega)).trans (heap6 HB3.out _ _ _ _ _ _))
    obtain ⟨⟨m0,m1,m2,m3,m4,m5⟩,_⟩:=cells_six hb4
    refine ⟨.tuple #[.agg #[.int .i64 so,.bool on,.int .i64 n,.string ⟨t.toArray⟩,.slice none 0 0,.slice none 0 0],.int .i64 0],?_,plain_ok_fin HPL.out (((mut6 w.heap.size _ _ _ _ _ _ hm03 (Nat.le_refl _)).alloc (by simp;omega) _).trans (hm4.mono (by simp;omega))) hr4⟩
    simp [results,Tryz.results45,go_sem,m0,m1,m2,m3,m4,m5]
   ·have zz3:=hm3.size
    have hb3:=(hm3.block w.heap.size (by omega) (by omega)).trans hb2
    have hm03:=hm02.trans (hm3.mono (by omega))
    have HPL:=Lib.hid hpl
    obtain ⟨⟨j0,j1,j2,j3,j4,j5⟩,jf⟩:=cells_six hb3
    have HB3:=Lib.hid hb3
    have hw3:w.heap.size<w3.heap.size:=by omega
    clear c0 c1 c2 c3 hr0 hm0 hmut hP hb2 hb3 hm1 hm2 hpl
    simp only [vagg]
    go_wp2_with fail
    refine leaves_cons (f:=82) (args:=#[.pointer (some ⟨d,0,none⟩),.string ⟨#[32,9,10,13]⟩]) (by simp) (by simp [go_sem]) ?_
    refine (takeAll_d d s _ blank set_blank rest o _ ((rdl6 w.heap.size _ _ _ _ _ _ hr3 (by omega)).below ((Below.refl _ _).alloc (Nat.le_refl _) _)) (by omega) _).mono ?_
    rintro e u' w4 ⟨rfl,rfl,hr4,hm4⟩
    have hb4:=(hm4.block w.heap.size (by simp;omega) (by omega)).trans ((Below.heap_alloc _ _ w.heap.size (by simp;omega)).trans (heap6 HB3.out _ _ _ _ _ _))
    obtain ⟨⟨m0,m1,m2,m3,m4,m5⟩,_⟩:=cells_six hb4
    refine ⟨.tuple #[.agg #[.int .i64 0,.bool false,.int .i64 0,.string ⟨#[]⟩,.slice none 0 0,.slice none 0 0],.int .i64 21],?_,plain_bad_fin HPL.out (((mut6 w.heap.size _ _ _ _ _ _ hm03 (Nat.le_refl _)).alloc (by simp;omega) _).trans (hm4.mono (by simp;omega))) hr4⟩
    simp [results,Tryz.results45,go_sem,m0,m1,m2,m3,m4,m5]
end Go.Proofs.YtpbnhnilfpoljaaGreatDoor.V
