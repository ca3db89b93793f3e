/- What the claim needs of the texts MMake2, MMake3, MMake4, MMake5. -/
import Derived.Test.YtpbnhnilfpoljaaGreatDoorRB15
import Derived.Deep.RegionHeld3
namespace Go.Proofs.YtpbnhnilfpoljaaGreatDoor.M
open Go.RowKit
open Go.Lib Go.Proofs.YtpbnhnilfpoljaaGreatDoor.V
theorem infoP:(Tryz.prog.info? 78).map (fun i=>(i.zero,i.size,i.bytes))=some (some (.agg #[.string ⟨#[]⟩,.int .i64 0,.bool false,.int .i64 0,.string ⟨#[]⟩,.slice none 0 0,.slice none 0 0]),7,104):=by kernel_rfl
theorem own_made {B e size:Nat} (w:World) (cs:Array Value) (hb:B≤w.heap.size) (hs:cs.size=size):(w.alloc (.cells cs e)).ownsRow B e size (.slice (some ⟨w.heap.size,0,none⟩) 1 1) 1 cs.toList :=
 ⟨by simp [hs],.inr ⟨w.heap.size,1,cs,rfl,hb,heap_alloc_new w _,Nat.le_refl _,(by decide),by rw [hs,Nat.one_mul],by rw [List.take_of_length_le];simp [hs]⟩⟩
theorem cells_of_block {W:World} {b:Nat} {cs:Array Value} {t:TypeId} (h:W.heap[b]?=some (.cells cs t (0,0))):CellsAt W b 0 cs.toList:=by
 intro j u hj
 unfold World.cell?
 rw [h]
 simpa using hj
theorem cells_of_own {W:World} {B e size n cap g:Nat} {xs:List Value} (h:W.ownsRow B e size (.slice (some ⟨g,0,none⟩) n cap) n xs):CellsAt W g 0 xs:=by
 intro j u hj
 have h2:=World.ownsRowF.cells (World.ownsRowF_of h) (g:=g) rfl j u hj
 rw [show (⟨g,0,none⟩:Addr).add j=⟨g,0+j,none⟩ from by unfold Addr.add;split <;> simp_all] at h2
 exact h2
theorem cells_add {W:World} {g off:Nat} {xs:List Value} (h:CellsAt W g off xs):∀ j u,xs[j]?=some u→W.cell? ((⟨g,off,none⟩:Addr).add j)=some u:=by
 intro j u hj
 rw [show (⟨g,off,none⟩:Addr).add j=⟨g,off+j,none⟩ from by unfold Addr.add;split <;> simp_all]
 exact h j u hj
theorem cells_lt {W:World} {g off:Nat} {xs:List Value} (h:CellsAt W g off xs) (hn:xs≠[]):g<W.heap.size:=by
 cases xs with
 | nil=>exact absurd rfl hn
 | cons x r=>exact lt_of_cell (h 0 x rfl)
set_option maxHeartbeats 8000000 in
set_option maxRecDepth 100000 in
theorem written_any (ps:List (List UInt8 × Val)) (g off c:Nat) (R:Nat→Prop) (w:World) (hp:PartsAt w R ps g off) (hpl:ps.length≤900) (h0:ps≠[]) :
  Calls Tryz.prog 33 #[.slice (some ⟨g,off,none⟩) ps.length c] w fun e w'=>Below w.heap.size w w'∧∃ lv kv,e=.returned (arg (recP (bJsonrpc :: ps.map (·.1)) (strP bTwo :: ps.map (·.2))) lv kv)∧ValIn w' (fun b=>R b∨w.heap.size≤b) (recP (bJsonrpc :: ps.map (·.1)) (strP bTwo :: ps.map (·.2))) lv kv:=by
 obtain ⟨i0,hi0,hz0,hz1,hz2⟩:=info_parts infoP
 obtain ⟨xs,hc,hP⟩:=hp
 have HC:=Lib.hid hc
 have HP:=Lib.hid (PartsL.bound _ _ hP)
 have hlen:=PartsL.length hP
 have hone:=PartsL.one hP
 obtain ⟨pn,hpn⟩:∃ k,ps.length=k:=⟨_,rfl⟩
 have HPN:=Lib.hid hpn
 have hp0:0<pn:=by rw [← hpn];exact List.length_pos_iff.2 h0
 rw [hpn] at hpl hlen ⊢
 have HLEN:=Lib.hid hlen
 have HONE:=Lib.hid hone
 have hgw:g<w.heap.size:=cells_lt hc (by intro h;rw [h] at hlen;simp at hlen;omega)
 clear hc hP hpn hlen hone
 go_enter Tryz.func33,Tryz.ntmps33
 go_wp2_with fail
 obtain ⟨w0,hw0⟩:∃ w0,w.alloc (.cells #[.int .i64 0,.bool false,.int .i64 0,.string ⟨#[]⟩,.slice none 0 0,.slice none 0 0] 36)=w0:=⟨_,rfl⟩
 have hr0:w0.heap[w.heap.size]?=some (.cells #[.int .i64 0,.bool false,.int .i64 0,.string ⟨#[]⟩,.slice none 0 0,.slice none 0 0] 36 (0,0)):=by rw [← hw0];exact heap_alloc_new w _
 have hb0:Below w.heap.size w w0:=by rw [← hw0];exact (Below.refl _ _).alloc (Nat.le_refl _) _
 have hz0':w.heap.size<w0.heap.size:=by rw [← hw0];simp
 rw [hw0]
 clear hw0
 refine (text_any ⟨#[50,46,48]⟩ w0).mono ?_
 rintro e w1 ⟨rfl,hb1⟩
 have HB1:=Lib.hid (hb0.trans (hb1.mono (by omega)))
 have HR1:=Lib.hid ((hb1.block w.heap.size hz0').trans hr0)
 have hz1':w.heap.size<w1.heap.size:=by have:=hb1.size;omega
 clear hb1 hb0 hr0 hz0'
 have hxc:∀ ob,∀ j u,xs[j]?=some u→(w1.alloc ob).cell? ((⟨g,off,none⟩:Addr).add j)=some u:=fun ob j u hj=>by
  have h1:=cells_add HC.out j u hj
  exact Lib.cell?_alloc_some _ ((HB1.out.cell (lt_of_cell h1)).trans h1)
 go_wp2_with (at_builtin;refine wpList_append_lies _ rfl (.tmp 5) (.tmp 6) 75 rfl w.heap.size 78 i0 _ 7 104 Tryz.underlying75 hi0 hz0 hz1 hz2 rfl (by decide) (.slice (some ⟨w1.heap.size,0,none⟩) 1 1) 1 _ rfl (own_made w1 #[.string ⟨#[106,115,111,110,114,112,99]⟩,.int .i64 3,.bool false,.int .i64 0,.string ⟨#[50,46,48]⟩,.slice none 0 0,.slice none 0 0] (by omega) rfl) ⟨g,off,none⟩ pn c xs rfl (by rw [HLEN.out];omega) (hxc _) HONE.out hp0 (by unfold maxLen;omega) (by omega) (by simp;omega) (w1.heap.size+1) (by simp) ?_)
 intro gg cg w3 hown hgrow hat hlt
 have hz3:=hgrow.size
 simp only [World.size_alloc] at hz3
 have far3:∀ k,k<w1.heap.size→w3.heap[k]?=w1.heap[k]?:=fun k hk=>by
  rw [hgrow.block k (by simp;omega) (by simp [Value.ownBlock];omega),Below.heap_alloc _ _ k hk]
 have hb3:Below w.heap.size w w3:=⟨hgrow.os.trans HB1.out.os,hgrow.tape.trans HB1.out.tape,hgrow.output.trans HB1.out.output,by omega,fun k hk=>(far3 k (by omega)).trans (HB1.out.block k hk)⟩
 have hP3:PartsAt w3 (fun b=>R b∧b<w.heap.size) ((bJsonrpc,strP bTwo) :: ps) gg 0 :=
  ⟨_,cells_of_own hown,.slice none 0 0,.slice none 0 0,xs,rfl,leaf_in _ _ _ _ _ _,PartsL.later (fun b hb' _=>(far3 b (by have:=hb'.2;omega)).trans (HB1.out.block b hb'.2)) (fun _ h=>h) _ _ HP.out⟩
 have hr3:=(far3 w.heap.size hz1').trans HR1.out
 have cR:=fun c'=>record_any ((bJsonrpc,strP bTwo) :: ps) gg 0 c' _ w3 hP3 (by simp;rw [HPN.out];omega)
 simp only [List.length_cons,HPN.out,List.map_cons] at cR
 replace cR:=cR cg
 rw [Nat.add_comm pn 1] at cR
 have HB3:=Lib.hid hb3
 have HR3:=Lib.hid hr3
 have CR:=Lib.hid cR
 have hz4:w.heap.size<w3.heap.size:=by omega
 clear hgrow hown hat hlt far3 hb3 hP3 hr3 cR hxc
 go_wp2_with fail
 refine CR.out.mono ?_
 rintro e w4 ⟨hb4,lv,kv,rfl,hv4⟩
 have hv4':=hv4
 obtain ⟨⟨a1,c1,rfl,_⟩,⟨a2,c2,rfl,_⟩⟩:=hv4'
 have hr4:=(hb4.block w.heap.size hz4).trans HR3.out
 have hb5:=HB3.out.trans (hb4.mono HB3.out.size)
 simp only [List.length_cons,List.length_map] at hv4
 obtain ⟨hp1,hp2⟩:=six_put' hr4 (.int .i64 5) (.bool false) (.int .i64 0) (.string ⟨#[]⟩) (.slice a1 (ps.length+1) c1) (.slice a2 (ps.length+1) c2)
 have HMB:=Lib.hid (below6 hb5 (Nat.le_refl _) (.int .i64 5) (.bool false) (.int .i64 0) (.string ⟨#[]⟩) (.slice a1 (ps.length+1) c1) (.slice a2 (ps.length+1) c2))
 have HVE:=Lib.hid (ValIn.later (R':=fun b=>R b∨w.heap.size≤b) (fun b hb _=>hp2 b (by rcases hb with ⟨_,hb⟩|hb <;> omega)) (fun b hb=>hb.imp (·.1) (fun h=>by omega)) _ _ _ hv4)
 have HP1:=Lib.hid hp1
 obtain ⟨⟨r0,r1,r2,r3,r4,r5⟩,rf⟩:=cells_six hr4
 clear hv4 hr4 hb4 hb5 hp1 hp2 HR3 HP HB3
 simp only [arg,recP,six',six,strCell,List.length_cons,List.length_map]
 go_wp2_with fail
 (try simp only [Exit.inBlock,Exit.then])
 refine bodyPost_ret (v:=.agg #[.int .i64 5,.bool false,.int .i64 0,.string ⟨#[]⟩,.slice a1 (ps.length+1) c1,.slice a2 (ps.length+1) c2]) (results_cell_row rfl _ _ w.heap.size 36 #[.int .i64 5,.bool false,.int .i64 0,.string ⟨#[]⟩,.slice a1 (ps.length+1) c1,.slice a2 (ps.length+1) c2] (0,0) _ (by rfl) HP1.out Tryz.underlying36 rfl (by kernel_rfl)) rfl ?_
 exact ⟨HMB.out,.slice a1 (ps.length+1) c1,.slice a2 (ps.length+1) c2,rfl,HVE.out⟩
end Go.Proofs.YtpbnhnilfpoljaaGreatDoor.M
namespace Go.Proofs.YtpbnhnilfpoljaaGreatDoor.M
open Go.RowKit
open Go.Lib Go.Proofs.YtpbnhnilfpoljaaGreatDoor.V
theorem ret6 {B q:Nat} {w W:World} {y0 y1 y2 y3 y4 y5:Value} {R:Nat→Prop} {so:Int} {on:Bool} {n:Int} {t:List UInt8} {l:List Val} {ks:List (List UInt8)} {lv kv:Value}
  (hr:W.heap[q]?=some (.cells #[y0,y1,y2,y3,y4,y5] 36 (0,0))) (hb:Below B w W) (hq:B≤q) (hv:ValIn W R (.mk so on n t l ks) lv kv) (hne:∀ b,R b→b≠q) :
  Hid (((((((W.setCell ⟨q,0,none⟩ (.int .i64 so)).setCell ⟨q,1,none⟩ (.bool on)).setCell ⟨q,2,none⟩ (.int .i64 n)).setCell ⟨q,3,none⟩ (.string ⟨t.toArray⟩)).setCell ⟨q,4,none⟩ lv).setCell ⟨q,5,none⟩ kv).heap[q]?=some (.cells #[.int .i64 so,.bool on,.int .i64 n,.string ⟨t.toArray⟩,lv,kv] 36 (0,0))) ∧
  Hid (Below B w ((((((W.setCell ⟨q,0,none⟩ (.int .i64 so)).setCell ⟨q,1,none⟩ (.bool on)).setCell ⟨q,2,none⟩ (.int .i64 n)).setCell ⟨q,3,none⟩ (.string ⟨t.toArray⟩)).setCell ⟨q,4,none⟩ lv).setCell ⟨q,5,none⟩ kv)) ∧
  Hid (ValIn ((((((W.setCell ⟨q,0,none⟩ (.int .i64 so)).setCell ⟨q,1,none⟩ (.bool on)).setCell ⟨q,2,none⟩ (.int .i64 n)).setCell ⟨q,3,none⟩ (.string ⟨t.toArray⟩)).setCell ⟨q,4,none⟩ lv).setCell ⟨q,5,none⟩ kv) R (.mk so on n t l ks) lv kv):=by
 obtain ⟨hp1,hp2⟩:=six_put' hr (.int .i64 so) (.bool on) (.int .i64 n) (.string ⟨t.toArray⟩) lv kv
 exact ⟨Lib.hid hp1,Lib.hid (below6 hb hq _ _ _ _ _ _),Lib.hid (ValIn.later (fun b hb' _=>hp2 b (hne b hb')) (fun _ h=>h) _ _ _ hv)⟩
set_option maxHeartbeats 8000000 in
set_option maxRecDepth 100000 in
theorem ofdoc_some (so:Int) (on:Bool) (n:Int) (t:List UInt8) (l:List Val) (ks:List (List UInt8)) (a1 a2:Option Addr) (c1 c2:Nat) (ps:List (List UInt8 × Val)) (g off c:Nat) (R:Nat→Prop) (w:World)
  (hv:ValIn w R (.mk so on n t l ks) (.slice a1 l.length c1) (.slice a2 ks.length c2)) (hp:PartsAt w R ps g off) (hpl:ps.length≤900) (h0:ps≠[]) :
  Calls Tryz.prog 57 #[.agg #[.int .i64 so,.bool on,.int .i64 n,.string ⟨t.toArray⟩,.slice a1 l.length c1,.slice a2 ks.length c2],.slice (some ⟨g,off,none⟩) ps.length c] w fun e w'=>Below w.heap.size w w'∧∃ lv kv,e=.returned (arg (recP (bDoc :: ps.map (·.1)) (.mk so on n t l ks :: ps.map (·.2))) lv kv)∧ValIn w' (fun b=>R b∨w.heap.size≤b) (recP (bDoc :: ps.map (·.1)) (.mk so on n t l ks :: ps.map (·.2))) lv kv:=by
 obtain ⟨i0,hi0,hz0,hz1,hz2⟩:=info_parts infoP
 obtain ⟨xs,hc,hP⟩:=hp
 have HC:=Lib.hid hc
 have HP:=Lib.hid (PartsL.bound _ _ hP)
 have HV:=Lib.hid (ValIn.bound _ _ _ hv)
 have hlen:=PartsL.length hP
 have hone:=PartsL.one hP
 obtain ⟨pn,hpn⟩:∃ k,ps.length=k:=⟨_,rfl⟩
 have HPN:=Lib.hid hpn
 have hp0:0<pn:=by rw [← hpn];exact List.length_pos_iff.2 h0
 rw [hpn] at hpl hlen ⊢
 have HLEN:=Lib.hid hlen
 have HONE:=Lib.hid hone
 have hgw:g<w.heap.size:=cells_lt hc (by intro h;rw [h] at hlen;simp at hlen;omega)
 obtain ⟨ln,hln⟩:∃ k,l.length=k:=⟨_,rfl⟩
 obtain ⟨kn,hkn⟩:∃ k,ks.length=k:=⟨_,rfl⟩
 rw [hln,hkn] at HV ⊢
 clear hc hP hpn hlen hone hv hln hkn
 obtain ⟨h1,h2,h3,h4⟩:=two w (.cells #[.int .i64 so,.bool on,.int .i64 n,.string ⟨t.toArray⟩,.slice a1 ln c1,.slice a2 kn c2] 36) (.cells #[.int .i64 0,.bool false,.int .i64 0,.string ⟨#[]⟩,.slice none 0 0,.slice none 0 0] 36)
 obtain ⟨W2,hW2⟩:∃ W2,(w.alloc (.cells #[.int .i64 so,.bool on,.int .i64 n,.string ⟨t.toArray⟩,.slice a1 ln c1,.slice a2 kn c2] 36)).alloc (.cells #[.int .i64 0,.bool false,.int .i64 0,.string ⟨#[]⟩,.slice none 0 0,.slice none 0 0] 36)=W2:=⟨_,rfl⟩
 rw [hW2] at h1 h2 h3 h4
 obtain ⟨⟨q0,q1,q2,q3,q4,q5⟩,qf⟩:=cells_six h1
 have HR2:=Lib.hid h2
 have HB2:=Lib.hid h3
 have hz2':w.heap.size+2≤W2.heap.size:=by omega
 have hxc:∀ ob,∀ j u,xs[j]?=some u→(W2.alloc ob).cell? ((⟨g,off,none⟩:Addr).add j)=some u:=fun ob j u hj=>by
  have h1:=cells_add HC.out j u hj
  exact Lib.cell?_alloc_some _ ((HB2.out.cell (lt_of_cell h1)).trans h1)
 clear h1 h2 h3 h4
 go_enter Tryz.func57,Tryz.ntmps57
 go_wp2_with (at_builtin;refine wpList_append_lies _ rfl (.tmp 7) (.tmp 8) 75 rfl w.heap.size 78 i0 _ 7 104 Tryz.underlying75 hi0 hz0 hz1 hz2 rfl (by decide) (.slice (some ⟨W2.heap.size,0,none⟩) 1 1) 1 _ rfl (own_made W2 #[.string ⟨#[116,101,120,116,68,111,99,117,109,101,110,116]⟩,.int .i64 so,.bool on,.int .i64 n,.string ⟨t.toArray⟩,.slice a1 ln c1,.slice a2 kn c2] (by omega) rfl) ⟨g,off,none⟩ pn c xs rfl (by rw [HLEN.out];omega) (hxc _) HONE.out hp0 (by unfold maxLen;omega) (by omega) (by simp;omega) (W2.heap.size+1) (by simp) ?_)
 intro gg cg w3 hown hgrow hat hlt
 have hz3:=hgrow.size
 simp only [World.size_alloc] at hz3
 have far3:∀ k,k<W2.heap.size→w3.heap[k]?=W2.heap[k]?:=fun k hk=>by
  rw [hgrow.block k (by simp;omega) (by simp [Value.ownBlock];omega),Below.heap_alloc _ _ k hk]
 have hb3:Below w.heap.size w w3:=⟨hgrow.os.trans HB2.out.os,hgrow.tape.trans HB2.out.tape,hgrow.output.trans HB2.out.output,by omega,fun k hk=>(far3 k (by omega)).trans (HB2.out.block k hk)⟩
 have hsm:Same (fun b=>R b∧b<w.heap.size) w w3:=fun b hb' _=>(far3 b (by have:=hb'.2;omega)).trans (HB2.out.block b hb'.2)
 have hP3:PartsAt w3 (fun b=>R b∧b<w.heap.size) ((bDoc,.mk so on n t l ks) :: ps) gg 0 :=
  ⟨_,cells_of_own hown,.slice a1 ln c1,.slice a2 kn c2,xs,rfl,ValIn.later hsm (fun _ h=>h) _ _ _ HV.out,PartsL.later hsm (fun _ h=>h) _ _ HP.out⟩
 have hr3:=(far3 (w.heap.size+1) (by omega)).trans HR2.out
 have cR:=fun c'=>record_any ((bDoc,.mk so on n t l ks) :: ps) gg 0 c' _ w3 hP3 (by simp;rw [HPN.out];omega)
 simp only [List.length_cons,HPN.out,List.map_cons] at cR
 replace cR:=cR cg
 rw [Nat.add_comm pn 1] at cR
 have HB3:=Lib.hid hb3
 have HR3:=Lib.hid hr3
 have CR:=Lib.hid cR
 have hz4:w.heap.size+2≤w3.heap.size:=by omega
 clear hgrow hown hat hlt far3 hb3 hP3 hr3 cR hxc hsm q0 q1 q2 q3 q4 q5 qf hW2
 go_wp2_with fail
 refine CR.out.mono ?_
 rintro e w4 ⟨hb4,lv,kv,rfl,hv4⟩
 have hv4':=hv4
 obtain ⟨⟨a3,c3,rfl,_⟩,⟨a4,c4,rfl,_⟩⟩:=hv4'
 have hr4:=(hb4.block (w.heap.size+1) (by omega)).trans HR3.out
 have hb5:=HB3.out.trans (hb4.mono HB3.out.size)
 simp only [List.length_cons,List.length_map] at hv4
 obtain ⟨HP1,HMB,HV4⟩:=ret6 hr4 hb5 (Nat.le_succ _) hv4 (fun b hb=>by rcases hb with ⟨_,hb⟩|hb <;> omega)
 have HVE:=Lib.hid (ValIn.later (R':=fun b=>R b∨w.heap.size≤b) (fun _ _ _=>rfl) (fun b hb=>hb.imp (·.1) (fun h=>by omega)) _ _ _ HV4.out)
 obtain ⟨⟨r0,r1,r2,r3,r4,r5⟩,rf⟩:=cells_six hr4
 clear hv4 hr4 hb4 hb5 HR3 HP HB3 HV4
 simp only [arg,recP,six',six,strCell,List.length_cons,List.length_map]
 go_wp2_with fail
 (try simp only [Exit.inBlock,Exit.then])
 refine bodyPost_ret (v:=.agg #[.int .i64 5,.bool false,.int .i64 0,.string ⟨#[]⟩,.slice a3 (ps.length+1) c3,.slice a4 (ps.length+1) c4]) (results_cell_row rfl _ _ (w.heap.size+1) 36 #[.int .i64 5,.bool false,.int .i64 0,.string ⟨#[]⟩,.slice a3 (ps.length+1) c3,.slice a4 (ps.length+1) c4] (0,0) _ (by rfl) HP1.out Tryz.underlying36 rfl (by kernel_rfl)) rfl ?_
 exact ⟨HMB.out,.slice a3 (ps.length+1) c3,.slice a4 (ps.length+1) c4,rfl,HVE.out⟩
set_option maxHeartbeats 8000000 in
set_option maxRecDepth 100000 in
theorem ofdoc_none (so:Int) (on:Bool) (n:Int) (t:List UInt8) (l:List Val) (ks:List (List UInt8)) (a1 a2:Option Addr) (c1 c2:Nat) (R:Nat→Prop) (w:World)
  (hv:ValIn w R (.mk so on n t l ks) (.slice a1 l.length c1) (.slice a2 ks.length c2)) :
  Calls Tryz.prog 57 #[.agg #[.int .i64 so,.bool on,.int .i64 n,.string ⟨t.toArray⟩,.slice a1 l.length c1,.slice a2 ks.length c2],.slice none 0 0] w fun e w'=>Below w.heap.size w w'∧∃ lv kv,e=.returned (arg (recP [bDoc] [.mk so on n t l ks]) lv kv)∧ValIn w' (fun b=>R b∨w.heap.size≤b) (recP [bDoc] [.mk so on n t l ks]) lv kv:=by
 obtain ⟨i0,hi0,hz0,hz1,hz2⟩:=info_parts infoP
 have HV:=Lib.hid (ValIn.bound _ _ _ hv)
 obtain ⟨ln,hln⟩:∃ k,l.length=k:=⟨_,rfl⟩
 obtain ⟨kn,hkn⟩:∃ k,ks.length=k:=⟨_,rfl⟩
 rw [hln,hkn] at HV ⊢
 clear hv hln hkn
 obtain ⟨h1,h2,h3,h4⟩:=two w (.cells #[.int .i64 so,.bool on,.int .i64 n,.string ⟨t.toArray⟩,.slice a1 ln c1,.slice a2 kn c2] 36) (.cells #[.int .i64 0,.bool false,.int .i64 0,.string ⟨#[]⟩,.slice none 0 0,.slice none 0 0] 36)
 obtain ⟨W2,hW2⟩:∃ W2,(w.alloc (.cells #[.int .i64 so,.bool on,.int .i64 n,.string ⟨t.toArray⟩,.slice a1 ln c1,.slice a2 kn c2] 36)).alloc (.cells #[.int .i64 0,.bool false,.int .i64 0,.string ⟨#[]⟩,.slice none 0 0,.slice none 0 0] 36)=W2:=⟨_,rfl⟩
 rw [hW2] at h1 h2 h3 h4
 obtain ⟨⟨q0,q1,q2,q3,q4,q5⟩,qf⟩:=cells_six h1
 have HR2:=Lib.hid h2
 have HB2:=Lib.hid h3
 have hz2':w.heap.size+2≤W2.heap.size:=by omega
 have hd:=heap_alloc_new W2 (.cells #[.string ⟨#[116,101,120,116,68,111,99,117,109,101,110,116]⟩,.int .i64 so,.bool on,.int .i64 n,.string ⟨t.toArray⟩,.slice a1 ln c1,.slice a2 kn c2] 78)
 obtain ⟨w3,hw3⟩:∃ w3,W2.alloc (.cells #[.string ⟨#[116,101,120,116,68,111,99,117,109,101,110,116]⟩,.int .i64 so,.bool on,.int .i64 n,.string ⟨t.toArray⟩,.slice a1 ln c1,.slice a2 kn c2] 78)=w3:=⟨_,rfl⟩
 have hon:w3.ownsRow w.heap.size 78 7 (.slice (some ⟨W2.heap.size,0,none⟩) 1 1) 1 (#[.string ⟨#[116,101,120,116,68,111,99,117,109,101,110,116]⟩,.int .i64 so,.bool on,.int .i64 n,.string ⟨t.toArray⟩,.slice a1 ln c1,.slice a2 kn c2]:Array Value).toList:=by rw [← hw3];exact own_made W2 #[.string ⟨#[116,101,120,116,68,111,99,117,109,101,110,116]⟩,.int .i64 so,.bool on,.int .i64 n,.string ⟨t.toArray⟩,.slice a1 ln c1,.slice a2 kn c2] (by omega) rfl
 have hz3:W2.heap.size<w3.heap.size:=by rw [← hw3];simp
 have hb3:Below W2.heap.size W2 w3:=by rw [← hw3];exact (Below.refl _ _).alloc (Nat.le_refl _) _
 have hB3:=h3.trans (hb3.mono (by omega))
 have hP3:PartsAt w3 (fun b=>R b∧b<w.heap.size) [(bDoc,.mk so on n t l ks)] W2.heap.size 0 :=
  ⟨_,cells_of_own hon,.slice a1 ln c1,.slice a2 kn c2,[],rfl,ValIn.later (fun b hb' _=>hB3.block b hb'.2) (fun _ h=>h) _ _ _ HV.out,rfl⟩
 have cR:=record_any [(bDoc,.mk so on n t l ks)] W2.heap.size 0 1 _ w3 hP3 (by simp)
 simp only [List.length_cons,List.length_nil,Nat.zero_add,List.map_cons,List.map_nil] at cR
 have HB3:=Lib.hid hB3
 have HR3:=Lib.hid ((hb3.block (w.heap.size+1) (by omega)).trans h2)
 have CR:=Lib.hid cR
 clear h1 h2 h3 h4 hd hb3 hB3 hP3 cR
 go_enter Tryz.func57,Tryz.ntmps57
 go_wp2_with (at_builtin;refine wpList_append_own_none rfl (.tmp 7) (.tmp 8) 75 rfl w.heap.size 78 i0 7 Tryz.underlying75 hi0 (.slice (some ⟨W2.heap.size,0,none⟩) 1 1) 1 _ rfl hon rfl ?_)
 clear q0 q1 q2 q3 q4 q5 qf hW2 hw3
 go_wp2_with fail
 refine CR.out.mono ?_
 rintro e w4 ⟨hb4,lv,kv,rfl,hv4⟩
 have hv4':=hv4
 obtain ⟨⟨a3,c3,rfl,_⟩,⟨a4,c4,rfl,_⟩⟩:=hv4'
 have hr4:=(hb4.block (w.heap.size+1) (by omega)).trans HR3.out
 have hb5:=HB3.out.trans (hb4.mono HB3.out.size)
 simp only [List.length_cons,List.length_nil,Nat.zero_add] at hv4
 obtain ⟨HP1,HMB,HV4⟩:=ret6 hr4 hb5 (Nat.le_succ _) hv4 (fun b hb=>by rcases hb with ⟨_,hb⟩|hb <;> omega)
 have HVE:=Lib.hid (ValIn.later (R':=fun b=>R b∨w.heap.size≤b) (fun _ _ _=>rfl) (fun b hb=>hb.imp (·.1) (fun h=>by omega)) _ _ _ HV4.out)
 obtain ⟨⟨r0,r1,r2,r3,r4,r5⟩,rf⟩:=cells_six hr4
 clear hv4 hr4 hb4 hb5 HR3 HB3 HV4
 simp only [arg,recP,six',six,strCell,List.length_cons,List.length_nil,Nat.zero_add]
 go_wp2_with fail
 (try simp only [Exit.inBlock,Exit.then])
 refine bodyPost_ret (v:=.agg #[.int .i64 5,.bool false,.int .i64 0,.string ⟨#[]⟩,.slice a3 1 c3,.slice a4 1 c4]) (results_cell_row rfl _ _ (w.heap.size+1) 36 #[.int .i64 5,.bool false,.int .i64 0,.string ⟨#[]⟩,.slice a3 1 c3,.slice a4 1 c4] (0,0) _ (by rfl) HP1.out Tryz.underlying36 rfl (by kernel_rfl)) rfl ?_
 exact ⟨HMB.out,.slice a3 1 c3,.slice a4 1 c4,rfl,HVE.out⟩
theorem rcopy_any (so:Int) (on:Bool) (n:Int) (t:List UInt8) (l:List Val) (ks:List (List UInt8)) (a1 a2:Option Addr) (c1 c2:Nat) (R:Nat→Prop) (w:World)
  (hv:ValIn w R (.mk so on n t l ks) (.slice a1 l.length c1) (.slice a2 ks.length c2)) (hw:wt (.mk so on n t l ks)≤65536) :
  Calls Tryz.prog 30 #[.agg #[.int .i64 so,.bool on,.int .i64 n,.string ⟨t.toArray⟩,.slice a1 l.length c1,.slice a2 ks.length c2]] w fun e w'=>Below w.heap.size w w'∧∃ lv kv,e=.returned (arg (.mk so on n t l ks) lv kv)∧ValIn w' (fun b=>w.heap.size≤b) (.mk so on n t l ks) lv kv:=by
 have HV:=Lib.hid hv
 have HW:=Lib.hid hw
 obtain ⟨ln,hln⟩:∃ k,l.length=k:=⟨_,rfl⟩
 obtain ⟨kn,hkn⟩:∃ k,ks.length=k:=⟨_,rfl⟩
 have HLN:=Lib.hid hln
 have HKN:=Lib.hid hkn
 rw [hln,hkn] at HV ⊢
 clear hv hw hln hkn
 obtain ⟨h1,h2,h3,h4⟩:=two w (.cells #[.int .i64 so,.bool on,.int .i64 n,.string ⟨t.toArray⟩,.slice a1 ln c1,.slice a2 kn c2] 36) (.cells #[.int .i64 0,.bool false,.int .i64 0,.string ⟨#[]⟩,.slice none 0 0,.slice none 0 0] 36)
 obtain ⟨W2,hW2⟩:∃ W2,(w.alloc (.cells #[.int .i64 so,.bool on,.int .i64 n,.string ⟨t.toArray⟩,.slice a1 ln c1,.slice a2 kn c2] 36)).alloc (.cells #[.int .i64 0,.bool false,.int .i64 0,.string ⟨#[]⟩,.slice none 0 0,.slice none 0 0] 36)=W2:=⟨_,rfl⟩
 rw [hW2] at h1 h2 h3 h4
 obtain ⟨⟨q0,q1,q2,q3,q4,q5⟩,qf⟩:=cells_six h1
 have HR2:=Lib.hid h2
 have HB2:=Lib.hid h3
 have hz2':w.heap.size+2≤W2.heap.size:=by omega
 have cG:=get_any (.mk so on n t l ks) (.slice a1 ln c1) (.slice a2 kn c2) [] none 0 R (fun _=>True) W2 (val_below HV.out (by exact h3)) ⟨none,0,rfl,.inl rfl⟩ (by simp) HW.out
 have CG:=Lib.hid cG
 clear h1 h2 h3 h4 cG
 simp only [arg,six',six,strCell,List.length_nil] at CG
 go_enter Tryz.func30,Tryz.ntmps30
 go_wp2_with fail
 refine CG.out.mono ?_
 rintro e w3 ⟨hb3,⟨hn,_⟩|⟨u,lv,kv,hn,rfl,hv3⟩⟩
 ·simp [getP] at hn
 have hu:u=.mk so on n t l ks:=by simpa [getP] using hn.symm
 subst hu
 have hv4:=hv3
 obtain ⟨⟨a3,c3,rfl,_⟩,⟨a4,c4,rfl,_⟩⟩:=hv4
 have hr3:=(hb3.block (w.heap.size+1) (by omega)).trans HR2.out
 have hb4:=HB2.out.trans (hb3.mono HB2.out.size)
 have hz3:=hb3.size
 obtain ⟨w4,hw4⟩:∃ w4,w3.alloc (.cells #[.int .i64 so,.bool on,.int .i64 n,.string ⟨t.toArray⟩,.slice a3 l.length c3,.slice a4 ks.length c4] 36)=w4:=⟨_,rfl⟩
 have hx4:w4.heap[w3.heap.size]?=some (.cells #[.int .i64 so,.bool on,.int .i64 n,.string ⟨t.toArray⟩,.slice a3 l.length c3,.slice a4 ks.length c4] 36 (0,0)):=by rw [← hw4];exact heap_alloc_new _ _
 have hb34:Below w3.heap.size w3 w4:=by rw [← hw4];exact (Below.refl _ _).alloc (Nat.le_refl _) _
 have hr4:=(hb34.block (w.heap.size+1) (by omega)).trans hr3
 obtain ⟨HP1,HMB,HV4⟩:=ret6 hr4 (hb4.trans (hb34.mono (by omega))) (Nat.le_succ _) (val_below hv3 hb34) (fun b hb=>by omega)
 have HVE:=Lib.hid (ValIn.later (R':=fun b=>w.heap.size≤b) (fun _ _ _=>rfl) (fun b hb=>by omega) _ _ _ HV4.out)
 obtain ⟨⟨r0,r1,r2,r3,r4,r5⟩,rf⟩:=cells_six hr4
 obtain ⟨⟨s0,s1,s2,s3,s4,s5⟩,sf⟩:=cells_six hx4
 clear hr3 hr4 hb3 hb4 hb34 hx4 hv3 q0 q1 q2 q3 q4 q5 qf hW2 HV4 HV HW HR2 HB2 hn
 simp only [arg,six',six,strCell]
 go_wp2_with fail
 (try simp only [Exit.inBlock,Exit.then])
 refine bodyPost_ret (v:=.agg #[.int .i64 so,.bool on,.int .i64 n,.string ⟨t.toArray⟩,.slice a3 l.length c3,.slice a4 ks.length c4]) (results_cell_row rfl _ _ (w.heap.size+1) 36 #[.int .i64 so,.bool on,.int .i64 n,.string ⟨t.toArray⟩,.slice a3 l.length c3,.slice a4 ks.length c4] (0,0) _ (by rfl) HP1.out Tryz.underlying36 rfl (by kernel_rfl)) rfl ?_
 exact ⟨HMB.out,.slice a3 l.length c3,.slice a4 ks.length c4,rfl,HVE.out⟩
end Go.Proofs.YtpbnhnilfpoljaaGreatDoor.M
namespace Go.Proofs.YtpbnhnilfpoljaaGreatDoor.M
open Go.RowKit
open Go.Lib Go.Proofs.YtpbnhnilfpoljaaGreatDoor.V
def Open (q:Nat) (W0 W:World):Prop:=Mut W0.heap.size q W0 W∧q<W0.heap.size∧∃ y0 y1 y2 y3 y4 y5,W.heap[q]?=some (.cells #[y0,y1,y2,y3,y4,y5] 36 (0,0))
theorem Open.size {q:Nat} {W0 W:World} (h:Open q W0 W):W0.heap.size≤W.heap.size:=h.1.size
theorem Open.lt {q:Nat} {W0 W:World} (h:Open q W0 W):q<W.heap.size:=Nat.lt_of_lt_of_le h.2.1 h.1.size
theorem Open.later {q:Nat} {W0 W W':World} (h:Open q W0 W) (hb:Below W.heap.size W W'):Open q W0 W':=by
 have hl:=h.lt
 obtain ⟨h1,h3,y0,y1,y2,y3,y4,y5,h4⟩:=h
 exact ⟨h1.trans ((Mut.of_below hb).mono h1.size),h3,y0,y1,y2,y3,y4,y5,(hb.block q hl).trans h4⟩
theorem Open.alloc {q:Nat} {W0 W:World} (h:Open q W0 W) (ob:Obj):Open q W0 (W.alloc ob):=h.later ((Below.refl _ _).alloc (Nat.le_refl _) ob)
theorem Open.drew {q:Nat} {W0 W:World} (h:Open q W0 W):Open q W0 W.drew:=by
 obtain ⟨h1,h3,h4⟩:=h
 exact ⟨⟨h1.os,h1.tape,h1.output,h1.size,h1.block⟩,h3,h4⟩
theorem Open.set {q:Nat} {W0 W:World} (h:Open q W0 W) (i:Nat) (v:Value):Open q W0 (W.setCell ⟨q,i,none⟩ v):=by
 obtain ⟨h1,h3,y0,y1,y2,y3,y4,y5,h4⟩:=h
 refine ⟨h1.setCell i v,h3,?_⟩
 have h5:=Go.Joins.block_setCell (i:=i) h4 v
 match i,h5 with
 | 0,h5=>exact ⟨_,_,_,_,_,_,h5⟩
 | 1,h5=>exact ⟨_,_,_,_,_,_,h5⟩
 | 2,h5=>exact ⟨_,_,_,_,_,_,h5⟩
 | 3,h5=>exact ⟨_,_,_,_,_,_,h5⟩
 | 4,h5=>exact ⟨_,_,_,_,_,_,h5⟩
 | 5,h5=>exact ⟨_,_,_,_,_,_,h5⟩
 | _+6,h5=>exact ⟨_,_,_,_,_,_,h5⟩
theorem Open.start {q:Nat} {W:World} {y0 y1 y2 y3 y4 y5:Value} (h:W.heap[q]?=some (.cells #[y0,y1,y2,y3,y4,y5] 36 (0,0))):Open q W W :=
 ⟨Mut.refl _ _ _,(Array.getElem?_eq_some_iff.1 h).1,y0,y1,y2,y3,y4,y5,h⟩
theorem Open.cell {q:Nat} {W0 W:World} (h:Open q W0 W) {p:Addr} {v:Value} (hp:W0.cell? p=some v) (hq:p.block≠q):W.cell? p=some v :=
 (cell_of_same (h.1.block p.block (lt_of_cell hp) hq)).trans hp
theorem Open.below {q B:Nat} {w W0 W:World} (h:Open q W0 W) (hb:Below B w W0) (hB:B≤q) (hB2:B≤W0.heap.size):Below B w W:=hb.trans ((h.1.mono hB2).below hB)
theorem Open.cells {q:Nat} {W0 W:World} (h:Open q W0 W):∃ y0 y1 y2 y3 y4 y5,W.cell? ⟨q,0,none⟩=some y0∧W.cell? ⟨q,1,none⟩=some y1∧W.cell? ⟨q,2,none⟩=some y2∧W.cell? ⟨q,3,none⟩=some y3∧W.cell? ⟨q,4,none⟩=some y4∧W.cell? ⟨q,5,none⟩=some y5∧(∀ i,W.frozen? ⟨q,i,none⟩=false)∧Hid (W.heap[q]?=some (.cells #[y0,y1,y2,y3,y4,y5] 36 (0,0))):=by
 obtain ⟨h1,h3,y0,y1,y2,y3,y4,y5,h4⟩:=h
 obtain ⟨⟨k0,k1,k2,k3,k4,k5⟩,kf⟩:=cells_six h4
 exact ⟨y0,y1,y2,y3,y4,y5,k0,k1,k2,k3,k4,k5,kf,Lib.hid h4⟩
def Made (v:Val) (n:Nat) (q:Nat) (W0:World) (B:Nat) (e:Ending) (w':World):Prop :=
 ∃ a c a' c',e=.returned (.agg #[.int .i64 5,.bool false,.int .i64 0,.string ⟨#[]⟩,.slice a n c,.slice a' n c'])∧Hid (ValIn w' (fun b=>B≤b) v (.slice a n c) (.slice a' n c'))∧Hid (Open q W0 w')
theorem made_rec {ps:List (List UInt8 × Val)} {g off c q B:Nat} {R:Nat→Prop} {W0 W:World} (hp:PartsAt W R ps g off) (hpl:ps.length≤900) (hR:∀ b,R b→B≤b) (hB:B≤W.heap.size) (hO:Open q W0 W) :
  Calls Tryz.prog 50 #[.slice (some ⟨g,off,none⟩) ps.length c] W (Made (recP (ps.map (·.1)) (ps.map (·.2))) ps.length q W0 B):=by
 refine (record_any ps g off c R W hp (by omega)).mono ?_
 rintro e w' ⟨hb,lv,kv,rfl,hv⟩
 have hv':=hv
 obtain ⟨⟨a1,c1,rfl,_⟩,⟨a2,c2,rfl,_⟩⟩:=hv'
 refine ⟨a1,c1,a2,c2,?_,Lib.hid ?_,Lib.hid (hO.later hb)⟩
 ·simp [arg,recP,six',six,strCell]
 ·have h:=ValIn.later (R':=fun b=>B≤b) (fun _ _ _=>rfl) (fun b hb=>hb.elim (hR b) (fun h=>by omega)) _ _ _ hv
  simpa using h
set_option maxHeartbeats 8000000 in
set_option maxRecDepth 100000 in
theorem place_any (p:PlaceP) (w:World) :
  Calls Tryz.prog 59 #[.agg #[.int .i64 p.line,.int .i64 p.unit]] w fun e w'=>Below w.heap.size w w'∧∃ lv kv,e=.returned (arg (atPlace p) lv kv)∧ValIn w' (fun b=>w.heap.size≤b) (atPlace p) lv kv:=by
 obtain ⟨ln,un⟩:=p
 simp only
 obtain ⟨h1,h2,h3,h4⟩:=two w (.cells #[.int .i64 ln,.int .i64 un] 29) (.cells #[.int .i64 0,.bool false,.int .i64 0,.string ⟨#[]⟩,.slice none 0 0,.slice none 0 0] 36)
 obtain ⟨W2,hW2⟩:∃ W2,(w.alloc (.cells #[.int .i64 ln,.int .i64 un] 29)).alloc (.cells #[.int .i64 0,.bool false,.int .i64 0,.string ⟨#[]⟩,.slice none 0 0,.slice none 0 0] 36)=W2:=⟨_,rfl⟩
 rw [hW2] at h1 h2 h3 h4
 have q0:W2.cell? ⟨w.heap.size,0,none⟩=some (.int .i64 ln):=by unfold World.cell?;rw [h1];rfl
 have q1:W2.cell? ⟨w.heap.size,1,none⟩=some (.int .i64 un):=by unfold World.cell?;rw [h1];rfl
 have hz2:w.heap.size+2≤W2.heap.size:=by omega
 have HB2:=Lib.hid h3
 have hc:∀ W,Open (w.heap.size+1) W2 W→(W.cell? ⟨w.heap.size,0,none⟩=some (.int .i64 ln)∧W.cell? ⟨w.heap.size,1,none⟩=some (.int .i64 un)∧Open (w.heap.size+1) W2 W):=fun W hO=>⟨hO.cell q0 (Nat.ne_of_lt (Nat.lt_succ_self _)),hO.cell q1 (Nat.ne_of_lt (Nat.lt_succ_self _)),hO⟩
 have cN:∀ n W,(W.cell? ⟨w.heap.size,0,none⟩=some (.int .i64 ln)∧W.cell? ⟨w.heap.size,1,none⟩=some (.int .i64 un)∧Open (w.heap.size+1) W2 W)→Calls Tryz.prog 51 #[.int .i64 n] W fun e w'=>e=.returned (.agg #[.int .i64 2,.bool false,.int .i64 n,.string ⟨#[]⟩,.slice none 0 0,.slice none 0 0])∧(w'.cell? ⟨w.heap.size,0,none⟩=some (.int .i64 ln)∧w'.cell? ⟨w.heap.size,1,none⟩=some (.int .i64 un)∧Open (w.heap.size+1) W2 w'):=fun n W hS=>by
  refine (number_any n W).mono ?_
  rintro e w' ⟨h1,h2⟩
  exact ⟨h1,hc _ (hS.2.2.later h2)⟩
 have cR:∀ W g,(W.cell? ⟨w.heap.size,0,none⟩=some (.int .i64 ln)∧W.cell? ⟨w.heap.size,1,none⟩=some (.int .i64 un)∧Open (w.heap.size+1) W2 W)→W.heap[g]?=some (.cells #[.string ⟨#[108,105,110,101]⟩,.int .i64 2,.bool false,.int .i64 ln,.string ⟨#[]⟩,.slice none 0 0,.slice none 0 0,.string ⟨#[99,104,97,114,97,99,116,101,114]⟩,.int .i64 2,.bool false,.int .i64 un,.string ⟨#[]⟩,.slice none 0 0,.slice none 0 0] 78 (0,0)) →
   Calls Tryz.prog 50 #[.slice (some ⟨g,0,none⟩) 2 2] W fun e w'=>∃ a c a' c' y0 y1 y2 y3 y4 y5,e=.returned (.agg #[.int .i64 5,.bool false,.int .i64 0,.string ⟨#[]⟩,.slice a 2 c,.slice a' 2 c'])∧Hid (ValIn w' (fun b=>W2.heap.size≤b) (atPlace ⟨ln,un⟩) (.slice a 2 c) (.slice a' 2 c')) ∧
    w'.cell? ⟨w.heap.size+1,0,none⟩=some y0∧w'.cell? ⟨w.heap.size+1,1,none⟩=some y1∧w'.cell? ⟨w.heap.size+1,2,none⟩=some y2∧w'.cell? ⟨w.heap.size+1,3,none⟩=some y3∧w'.cell? ⟨w.heap.size+1,4,none⟩=some y4∧w'.cell? ⟨w.heap.size+1,5,none⟩=some y5∧(∀ i,w'.frozen? ⟨w.heap.size+1,i,none⟩=false)∧Hid (w'.heap[w.heap.size+1]?=some (.cells #[y0,y1,y2,y3,y4,y5] 36 (0,0)))∧(w'.cell? ⟨w.heap.size,0,none⟩=some (.int .i64 ln)∧w'.cell? ⟨w.heap.size,1,none⟩=some (.int .i64 un)∧Open (w.heap.size+1) W2 w'):=fun W g hS hg=>by
  have hP:PartsAt W (fun _=>False) [(bLine,numP ln),(bChar,numP un)] g 0:=⟨_,cells_of_block hg,.slice none 0 0,.slice none 0 0,_,rfl,leaf_in _ _ _ _ _ _,.slice none 0 0,.slice none 0 0,[],rfl,leaf_in _ _ _ _ _ _,rfl⟩
  refine (made_rec (c:=2) (B:=W2.heap.size) hP (by simp) (fun b h=>h.elim) hS.2.2.size hS.2.2).mono ?_
  rintro e w' ⟨a,c,a',c',rfl,hv,hO⟩
  obtain ⟨y0,y1,y2,y3,y4,y5,k0,k1,k2,k3,k4,k5,kf,hh⟩:=hO.out.cells
  exact ⟨a,c,a',c',y0,y1,y2,y3,y4,y5,rfl,hv,k0,k1,k2,k3,k4,k5,kf,hh,hc _ hO.out⟩
 have hA:∀ W ob,(W.cell? ⟨w.heap.size,0,none⟩=some (.int .i64 ln)∧W.cell? ⟨w.heap.size,1,none⟩=some (.int .i64 un)∧Open (w.heap.size+1) W2 W)→((W.alloc ob).cell? ⟨w.heap.size,0,none⟩=some (.int .i64 ln)∧(W.alloc ob).cell? ⟨w.heap.size,1,none⟩=some (.int .i64 un)∧Open (w.heap.size+1) W2 (W.alloc ob)):=fun W ob hS=>hc _ (hS.2.2.alloc ob)
 have hT:∀ W i v,(W.cell? ⟨w.heap.size,0,none⟩=some (.int .i64 ln)∧W.cell? ⟨w.heap.size,1,none⟩=some (.int .i64 un)∧Open (w.heap.size+1) W2 W)→((W.setCell ⟨w.heap.size+1,i,none⟩ v).cell? ⟨w.heap.size,0,none⟩=some (.int .i64 ln)∧(W.setCell ⟨w.heap.size+1,i,none⟩ v).cell? ⟨w.heap.size,1,none⟩=some (.int .i64 un)∧Open (w.heap.size+1) W2 (W.setCell ⟨w.heap.size+1,i,none⟩ v)):=fun W i v hS=>hc _ (hS.2.2.set i v)
 have hS0:(W2.drew.cell? ⟨w.heap.size,0,none⟩=some (.int .i64 ln)∧W2.drew.cell? ⟨w.heap.size,1,none⟩=some (.int .i64 un)∧Open (w.heap.size+1) W2 (W2.drew)):=hc _ (Open.start h2).drew
 clear h1 h2 h3 h4 hc
 go_enter Tryz.func59,Tryz.ntmps59
 go_upto_region 1 with fail
 go_region_held3 (fun W=>(W.cell? ⟨w.heap.size,0,none⟩=some (.int .i64 ln)∧W.cell? ⟨w.heap.size,1,none⟩=some (.int .i64 un)∧Open (w.heap.size+1) W2 W)) (with_reducible (repeat (first|assumption|refine hA _ _ ?_|refine hT _ _ _ ?_))) (first
  | (go_at_call 51;(with_reducible refine (cN _ _ ?_).mono ?_);assumption;rintro e wn ⟨rfl,hSn⟩)
  | (go_at_call 50;(with_reducible refine (cR _ _ ?_ ?_).mono ?_);(with_reducible (repeat (first|assumption|refine hA _ _ ?_)));(exact heap_alloc_new _ _);rintro e wq ⟨a,c,a',c',y0,y1,y2,y3,y4,y5,rfl,hv,k0,k1,k2,k3,k4,k5,kf,hh,hSq⟩))
 obtain ⟨HP1,HMB,HV4⟩:=ret6 hh.out (hSq.2.2.below HB2.out (Nat.le_succ _) (by omega)) (Nat.le_succ _) hv.out (fun b hb=>by omega)
 have HVE:=Lib.hid (ValIn.later (R':=fun b=>w.heap.size≤b) (fun _ _ _=>rfl) (fun b hb=>by omega) _ _ _ HV4.out)
 clear hA hT cN cR hS0 q0 q1 hW2
 go_wp2_with fail
 (try simp only [Exit.inBlock,Exit.then])
 refine bodyPost_ret (v:=.agg #[.int .i64 5,.bool false,.int .i64 0,.string ⟨#[]⟩,.slice a 2 c,.slice a' 2 c']) (results_cell_row rfl _ _ (w.heap.size+1) 36 #[.int .i64 5,.bool false,.int .i64 0,.string ⟨#[]⟩,.slice a 2 c,.slice a' 2 c'] (0,0) _ (by rfl) HP1.out Tryz.underlying36 rfl (by kernel_rfl)) rfl ?_
 exact ⟨HMB.out,.slice a 2 c,.slice a' 2 c',rfl,HVE.out⟩
end Go.Proofs.YtpbnhnilfpoljaaGreatDoor.M
namespace Go.Proofs.YtpbnhnilfpoljaaGreatDoor.M
open Go.RowKit
open Go.Lib Go.Proofs.YtpbnhnilfpoljaaGreatDoor.V
set_option maxHeartbeats 8000000 in
set_option maxRecDepth 100000 in
theorem change_whole (t:List UInt8) (fl fu tl tu:Int) (w:World) :
  Calls Tryz.prog 91 #[.agg #[.int .i64 fl,.int .i64 fu,.int .i64 tl,.int .i64 tu,.string ⟨t.toArray⟩,.bool true]] w fun e w'=>Below w.heap.size w w'∧∃ lv kv,e=.returned (arg (editV ⟨⟨fl,fu⟩,⟨tl,tu⟩,t,true⟩) lv kv)∧ValIn w' (fun b=>w.heap.size≤b) (editV ⟨⟨fl,fu⟩,⟨tl,tu⟩,t,true⟩) lv kv:=by
 have he:editV ⟨⟨fl,fu⟩,⟨tl,tu⟩,t,true⟩=recP [bText] [strP t]:=rfl
 rw [he]
 obtain ⟨h1,h2,h3,h4⟩:=two w (.cells #[.int .i64 fl,.int .i64 fu,.int .i64 tl,.int .i64 tu,.string ⟨t.toArray⟩,.bool true] 84) (.cells #[.int .i64 0,.bool false,.int .i64 0,.string ⟨#[]⟩,.slice none 0 0,.slice none 0 0] 36)
 obtain ⟨W2,hW2⟩:∃ W2,(w.alloc (.cells #[.int .i64 fl,.int .i64 fu,.int .i64 tl,.int .i64 tu,.string ⟨t.toArray⟩,.bool true] 84)).alloc (.cells #[.int .i64 0,.bool false,.int .i64 0,.string ⟨#[]⟩,.slice none 0 0,.slice none 0 0] 36)=W2:=⟨_,rfl⟩
 rw [hW2] at h1 h2 h3 h4
 have q4:W2.cell? ⟨w.heap.size,4,none⟩=some (.string ⟨t.toArray⟩):=by unfold World.cell?;rw [h1];rfl
 have q5:W2.cell? ⟨w.heap.size,5,none⟩=some (.bool true):=by unfold World.cell?;rw [h1];rfl
 have hz2:w.heap.size+2≤W2.heap.size:=by omega
 have HB2:=Lib.hid h3
 have HO:=Lib.hid (Open.start h2)
 clear h1 h2 h3 h4
 go_enter Tryz.func91,Tryz.ntmps91
 go_wp2_with fail
 refine (text_any ⟨t.toArray⟩ _).mono ?_
 rintro e w1 ⟨rfl,hb1⟩
 have HO1:=Lib.hid (HO.out.later hb1)
 have hg:=heap_alloc_new w1 (.cells #[.string ⟨#[116,101,120,116]⟩,.int .i64 3,.bool false,.int .i64 0,.string ⟨t.toArray⟩,.slice none 0 0,.slice none 0 0] 78)
 have hP:PartsAt (w1.alloc (.cells #[.string ⟨#[116,101,120,116]⟩,.int .i64 3,.bool false,.int .i64 0,.string ⟨t.toArray⟩,.slice none 0 0,.slice none 0 0] 78)) (fun _=>False) [(bText,strP t)] w1.heap.size 0:=⟨_,cells_of_block hg,.slice none 0 0,.slice none 0 0,[],rfl,leaf_in _ _ _ _ _ _,rfl⟩
 have cR:=made_rec (c:=1) (B:=W2.heap.size) hP (by simp) (fun b h=>h.elim) (HO1.out.alloc _).size (HO1.out.alloc _)
 simp only [List.length_cons,List.length_nil,Nat.zero_add,List.map_cons,List.map_nil] at cR
 have CR:=Lib.hid cR
 clear hg hP cR q4 q5 hW2 hb1
 go_wp2_with fail
 refine CR.out.mono ?_
 rintro e wq ⟨a,c,a',c',rfl,hv,hO⟩
 obtain ⟨y0,y1,y2,y3,y4,y5,k0,k1,k2,k3,k4,k5,kf,hh⟩:=hO.out.cells
 obtain ⟨HP1,HMB,HV4⟩:=ret6 hh.out (hO.out.below HB2.out (Nat.le_succ _) (by omega)) (Nat.le_succ _) hv.out (fun b hb=>by omega)
 have HVE:=Lib.hid (ValIn.later (R':=fun b=>w.heap.size≤b) (fun _ _ _=>rfl) (fun b hb=>by omega) _ _ _ HV4.out)
 clear CR
 go_wp2_with fail
 (try simp only [Exit.inBlock,Exit.then])
 refine bodyPost_ret (v:=.agg #[.int .i64 5,.bool false,.int .i64 0,.string ⟨#[]⟩,.slice a 1 c,.slice a' 1 c']) (results_cell_row rfl _ _ (w.heap.size+1) 36 #[.int .i64 5,.bool false,.int .i64 0,.string ⟨#[]⟩,.slice a 1 c,.slice a' 1 c'] (0,0) _ (by rfl) HP1.out Tryz.underlying36 rfl (by kernel_rfl)) rfl ?_
 exact ⟨HMB.out,.slice a 1 c,.slice a' 1 c',rfl,HVE.out⟩
end Go.Proofs.YtpbnhnilfpoljaaGreatDoor.M
