/- What the claim needs of the texts MRSame, MEq3. -/
import Derived.Test.YtpbnhnilfpoljaaGreatDoorRB31
import Derived.Test.YtpbnhnilfpoljaaGreatDoorRB12
namespace Go.Proofs.YtpbnhnilfpoljaaGreatDoor.M
open Go.RowKit
open Go.Lib Go.Proofs.YtpbnhnilfpoljaaGreatDoor.V
set_option maxHeartbeats 8000000 in
set_option maxRecDepth 20000 in
theorem rsamec_any (a b:CallP) (ail aik ach aol aok bil bik bch bol bok:Value) (R R':Nat→Prop) (w:World) (ha:CallIn w R a ail aik ach aol aok) (hb:CallIn w R' b bil bik bch bol bok)
  (h1:wt a.id≤1099511627776) (h2:wt a.other≤1099511627776) (h3:wt b.id≤1099511627776) (h4:wt b.other≤1099511627776) (h5:a.changes.length≤1099511627776) :
  Calls Tryz.prog 15 #[argC a ail aik ach aol aok,argC b bil bik bch bol bok] w fun e w'=>e=.returned (.bool (sameC a b))∧Below w.heap.size w w':=by
 have hE1:=ha.edits.bound
 have hE2:=hb.edits.bound
 have cI:=fun W (hB:Below w.heap.size w W)=>rsame_v a.id b.id _ _ _ _ _ _ W (val_below ha.id hB) (val_below hb.id hB) h1 h3
 have cO:=fun W (hB:Below w.heap.size w W)=>rsame_v a.other b.other _ _ _ _ _ _ W (val_below ha.other hB) (val_below hb.other hB) h2 h4
 obtain ⟨ac1,ac2,rfl,hE1⟩:=hE1
 obtain ⟨bc1,bc2,rfl,hE2⟩:=hE2
 have HE1:=Lib.hid hE1
 have HE2:=Lib.hid hE2
 clear hE1 hE2
 have hll:=h5
 have hi1:=ha.id
 have hi2:=hb.id
 have ho1:=ha.other
 have ho2:=hb.other
 clear ha hb h1 h2 h3 h4 h5
 obtain ⟨ak,⟨aiso,aion,ainn,aitx,ail,aiks⟩,anm,av,atx,ach,⟨apl,apu⟩,⟨aoso,aoon,aonn,aotx,aol,aoks⟩⟩:=a
 obtain ⟨bk,⟨biso,bion,binn,bitx,bil,biks⟩,bnm,bv,btx,bch,⟨bpl,bpu⟩,⟨boso,boon,bonn,botx,bol,boks⟩⟩:=b
 obtain ⟨⟨ai1,ai2,rfl,_⟩,⟨ai3,ai4,rfl,_⟩⟩:=hi1
 obtain ⟨⟨bi1,bi2,rfl,_⟩,⟨bi3,bi4,rfl,_⟩⟩:=hi2
 obtain ⟨⟨ao1,ao2,rfl,_⟩,⟨ao3,ao4,rfl,_⟩⟩:=ho1
 obtain ⟨⟨bo1,bo2,rfl,_⟩,⟨bo3,bo4,rfl,_⟩⟩:=ho2
 unfold sameC
 have hP:=fun W=>neq_place ⟨apl,apu⟩ ⟨bpl,bpu⟩ W
 simp only [argC,callC,arg,six',six,strCell,List.cons_append,List.nil_append] at cI cO hP hll ⊢
 simp only at HE1 HE2
 generalize hx5:placeB ⟨apl,apu⟩ ⟨bpl,bpu⟩=x5 at hP ⊢
 generalize sameP (.mk aiso aion ainn aitx ail aiks) (.mk biso bion binn bitx bil biks)=x7 at cI ⊢
 generalize sameP (.mk aoso aoon aonn aotx aol aoks) (.mk boso boon bonn botx bol boks)=x8 at cO ⊢
 obtain ⟨x1,hx1⟩:∃ x,(ak==bk)=x:=⟨_,rfl⟩
 obtain ⟨x2,hx2⟩:∃ x,(anm==bnm)=x:=⟨_,rfl⟩
 obtain ⟨x3,hx3⟩:∃ x,(av==bv)=x:=⟨_,rfl⟩
 obtain ⟨x4,hx4⟩:∃ x,(atx==btx)=x:=⟨_,rfl⟩
 rw [hx1,hx2,hx3,hx4]
 have hx1':(ak != bk)=!x1:=by rw [← hx1];rfl
 have hx2':(anm != bnm)=!x2:=by rw [← hx2];rfl
 have hx3':(av != bv)=!x3:=by rw [← hx3];rfl
 have hx4':(atx != btx)=!x4:=by rw [← hx4];rfl
 clear hx5
 obtain ⟨R1,hR1⟩:∃ r,editsB ach bch=r:=⟨_,rfl⟩
 have HR:=Lib.hid (show editsB (ach.drop 0) (bch.drop 0)=R1 from hR1)
 rw [hR1]
 clear hR1
 obtain ⟨t1,t2,t3,t4⟩:=two w (.cells #[.int .i64 ak,.int .i64 aiso,.bool aion,.int .i64 ainn,.string ⟨aitx.toArray⟩,.slice ai1 ail.length ai2,.slice ai3 aiks.length ai4,.string ⟨anm.toArray⟩,.int .i64 av,.string ⟨atx.toArray⟩,.slice ac1 ach.length ac2,.int .i64 apl,.int .i64 apu,.int .i64 aoso,.bool aoon,.int .i64 aonn,.string ⟨aotx.toArray⟩,.slice ao1 aol.length ao2,.slice ao3 aoks.length ao4] 31) (.cells #[.int .i64 bk,.int .i64 biso,.bool bion,.int .i64 binn,.string ⟨bitx.toArray⟩,.slice bi1 bil.length bi2,.slice bi3 biks.length bi4,.string ⟨bnm.toArray⟩,.int .i64 bv,.string ⟨btx.toArray⟩,.slice bc1 bch.length bc2,.int .i64 bpl,.int .i64 bpu,.int .i64 boso,.bool boon,.int .i64 bonn,.string ⟨botx.toArray⟩,.slice bo1 bol.length bo2,.slice bo3 boks.length bo4] 31)
 obtain ⟨W2,hW2⟩:∃ W2,(w.alloc (.cells #[.int .i64 ak,.int .i64 aiso,.bool aion,.int .i64 ainn,.string ⟨aitx.toArray⟩,.slice ai1 ail.length ai2,.slice ai3 aiks.length ai4,.string ⟨anm.toArray⟩,.int .i64 av,.string ⟨atx.toArray⟩,.slice ac1 ach.length ac2,.int .i64 apl,.int .i64 apu,.int .i64 aoso,.bool aoon,.int .i64 aonn,.string ⟨aotx.toArray⟩,.slice ao1 aol.length ao2,.slice ao3 aoks.length ao4] 31)).alloc (.cells #[.int .i64 bk,.int .i64 biso,.bool bion,.int .i64 binn,.string ⟨bitx.toArray⟩,.slice bi1 bil.length bi2,.slice bi3 biks.length bi4,.string ⟨bnm.toArray⟩,.int .i64 bv,.string ⟨btx.toArray⟩,.slice bc1 bch.length bc2,.int .i64 bpl,.int .i64 bpu,.int .i64 boso,.bool boon,.int .i64 bonn,.string ⟨botx.toArray⟩,.slice bo1 bol.length bo2,.slice bo3 boks.length bo4] 31)=W2:=⟨_,rfl⟩
 rw [hW2] at t1 t2 t3 t4
 have HAW2:=Lib.hid t1
 have HBbW2:=Lib.hid t2
 have HB2:=Lib.hid t3
 have hz2:w.heap.size+2≤W2.heap.size:=by omega
 have CI:=Lib.hid cI
 have CO:=Lib.hid cO
 clear t1 t2 t3 t4 cI cO
 have a0:W2.cell? ⟨w.heap.size,0,none⟩=some (.int .i64 ak):=by unfold World.cell?;rw [HAW2.out];rfl
 have b0:W2.cell? ⟨w.heap.size+1,0,none⟩=some (.int .i64 bk):=by unfold World.cell?;rw [HBbW2.out];rfl
 have a1:W2.cell? ⟨w.heap.size,1,none⟩=some (.int .i64 aiso):=by unfold World.cell?;rw [HAW2.out];rfl
 have b1:W2.cell? ⟨w.heap.size+1,1,none⟩=some (.int .i64 biso):=by unfold World.cell?;rw [HBbW2.out];rfl
 have a2:W2.cell? ⟨w.heap.size,2,none⟩=some (.bool aion):=by unfold World.cell?;rw [HAW2.out];rfl
 have b2:W2.cell? ⟨w.heap.size+1,2,none⟩=some (.bool bion):=by unfold World.cell?;rw [HBbW2.out];rfl
 have a3:W2.cell? ⟨w.heap.size,3,none⟩=some (.int .i64 ainn):=by unfold World.cell?;rw [HAW2.out];rfl
 have b3:W2.cell? ⟨w.heap.size+1,3,none⟩=some (.int .i64 binn):=by unfold World.cell?;rw [HBbW2.out];rfl
 have a4:W2.cell? ⟨w.heap.size,4,none⟩=some (.string ⟨aitx.toArray⟩):=by unfold World.cell?;rw [HAW2.out];rfl
 have b4:W2.cell? ⟨w.heap.size+1,4,none⟩=some (.string ⟨bitx.toArray⟩):=by unfold World.cell?;rw [HBbW2.out];rfl
 have a5:W2.cell? ⟨w.heap.size,5,none⟩=some (.slice ai1 ail.length ai2):=by unfold World.cell?;rw [HAW2.out];rfl
 have b5:W2.cell? ⟨w.heap.size+1,5,none⟩=some (.slice bi1 bil.length bi2):=by unfold World.cell?;rw [HBbW2.out];rfl
 have a6:W2.cell? ⟨w.heap.size,6,none⟩=some (.slice ai3 aiks.length ai4):=by unfold World.cell?;rw [HAW2.out];rfl
 have b6:W2.cell? ⟨w.heap.size+1,6,none⟩=some (.slice bi3 biks.length bi4):=by unfold World.cell?;rw [HBbW2.out];rfl
 have a7:W2.cell? ⟨w.heap.size,7,none⟩=some (.string ⟨anm.toArray⟩):=by unfold World.cell?;rw [HAW2.out];rfl
 have b7:W2.cell? ⟨w.heap.size+1,7,none⟩=some (.string ⟨bnm.toArray⟩):=by unfold World.cell?;rw [HBbW2.out];rfl
 have a8:W2.cell? ⟨w.heap.size,8,none⟩=some (.int .i64 av):=by unfold World.cell?;rw [HAW2.out];rfl
 have b8:W2.cell? ⟨w.heap.size+1,8,none⟩=some (.int .i64 bv):=by unfold World.cell?;rw [HBbW2.out];rfl
 have a9:W2.cell? ⟨w.heap.size,9,none⟩=some (.string ⟨atx.toArray⟩):=by unfold World.cell?;rw [HAW2.out];rfl
 have b9:W2.cell? ⟨w.heap.size+1,9,none⟩=some (.string ⟨btx.toArray⟩):=by unfold World.cell?;rw [HBbW2.out];rfl
 have a10:W2.cell? ⟨w.heap.size,10,none⟩=some (.slice ac1 ach.length ac2):=by unfold World.cell?;rw [HAW2.out];rfl
 have b10:W2.cell? ⟨w.heap.size+1,10,none⟩=some (.slice bc1 bch.length bc2):=by unfold World.cell?;rw [HBbW2.out];rfl
 have a11:W2.cell? ⟨w.heap.size,11,none⟩=some (.int .i64 apl):=by unfold World.cell?;rw [HAW2.out];rfl
 have b11:W2.cell? ⟨w.heap.size+1,11,none⟩=some (.int .i64 bpl):=by unfold World.cell?;rw [HBbW2.out];rfl
 have a12:W2.cell? ⟨w.heap.size,12,none⟩=some (.int .i64 apu):=by unfold World.cell?;rw [HAW2.out];rfl
 have b12:W2.cell? ⟨w.heap.size+1,12,none⟩=some (.int .i64 bpu):=by unfold World.cell?;rw [HBbW2.out];rfl
 have a13:W2.cell? ⟨w.heap.size,13,none⟩=some (.int .i64 aoso):=by unfold World.cell?;rw [HAW2.out];rfl
 have b13:W2.cell? ⟨w.heap.size+1,13,none⟩=some (.int .i64 boso):=by unfold World.cell?;rw [HBbW2.out];rfl
 have a14:W2.cell? ⟨w.heap.size,14,none⟩=some (.bool aoon):=by unfold World.cell?;rw [HAW2.out];rfl
 have b14:W2.cell? ⟨w.heap.size+1,14,none⟩=some (.bool boon):=by unfold World.cell?;rw [HBbW2.out];rfl
 have a15:W2.cell? ⟨w.heap.size,15,none⟩=some (.int .i64 aonn):=by unfold World.cell?;rw [HAW2.out];rfl
 have b15:W2.cell? ⟨w.heap.size+1,15,none⟩=some (.int .i64 bonn):=by unfold World.cell?;rw [HBbW2.out];rfl
 have a16:W2.cell? ⟨w.heap.size,16,none⟩=some (.string ⟨aotx.toArray⟩):=by unfold World.cell?;rw [HAW2.out];rfl
 have b16:W2.cell? ⟨w.heap.size+1,16,none⟩=some (.string ⟨botx.toArray⟩):=by unfold World.cell?;rw [HBbW2.out];rfl
 have a17:W2.cell? ⟨w.heap.size,17,none⟩=some (.slice ao1 aol.length ao2):=by unfold World.cell?;rw [HAW2.out];rfl
 have b17:W2.cell? ⟨w.heap.size+1,17,none⟩=some (.slice bo1 bol.length bo2):=by unfold World.cell?;rw [HBbW2.out];rfl
 have a18:W2.cell? ⟨w.heap.size,18,none⟩=some (.slice ao3 aoks.length ao4):=by unfold World.cell?;rw [HAW2.out];rfl
 have b18:W2.cell? ⟨w.heap.size+1,18,none⟩=some (.slice bo3 boks.length bo4):=by unfold World.cell?;rw [HBbW2.out];rfl
 go_enter Tryz.func15,Tryz.ntmps15
 go_upto_region 1 with fail
 clear hW2
 go_wp2_with fail
 refine (CI.out _ HB2.out).mono ?_
 rintro e w3 ⟨rfl,hb3⟩
 have HB3:=Lib.hid (HB2.out.trans (hb3.mono HB2.out.size))
 have HAw3:=Lib.hid ((hb3.block w.heap.size (by omega)).trans HAW2.out)
 have HBbw3:=Lib.hid ((hb3.block (w.heap.size+1) (by omega)).trans HBbW2.out)
 have hzw3:=hb3.size
 clear a0 b0 a1 b1 a2 b2 a3 b3 a4 b4 a5 b5 a6 b6 a7 b7 a8 b8 a9 b9 a10 b10 a11 b11 a12 b12 a13 b13 a14 b14 a15 b15 a16 b16 a17 b17 a18 b18
 have a0:w3.cell? ⟨w.heap.size,0,none⟩=some (.int .i64 ak):=by unfold World.cell?;rw [HAw3.out];rfl
 have b0:w3.cell? ⟨w.heap.size+1,0,none⟩=some (.int .i64 bk):=by unfold World.cell?;rw [HBbw3.out];rfl
 have a1:w3.cell? ⟨w.heap.size,1,none⟩=some (.int .i64 aiso):=by unfold World.cell?;rw [HAw3.out];rfl
 have b1:w3.cell? ⟨w.heap.size+1,1,none⟩=some (.int .i64 biso):=by unfold World.cell?;rw [HBbw3.out];rfl
 have a2:w3.cell? ⟨w.heap.size,2,none⟩=some (.bool aion):=by unfold World.cell?;rw [HAw3.out];rfl
 have b2:w3.cell? ⟨w.heap.size+1,2,none⟩=some (.bool bion):=by unfold World.cell?;rw [HBbw3.out];rfl
 have a3:w3.cell? ⟨w.heap.size,3,none⟩=some (.int .i64 ainn):=by unfold World.cell?;rw [HAw3.out];rfl
 have b3:w3.cell? ⟨w.heap.size+1,3,none⟩=some (.int .i64 binn):=by unfold World.cell?;rw [HBbw3.out];rfl
 have a4:w3.cell? ⟨w.heap.size,4,none⟩=some (.string ⟨aitx.toArray⟩):=by unfold World.cell?;rw [HAw3.out];rfl
 have b4:w3.cell? ⟨w.heap.size+1,4,none⟩=some (.string ⟨bitx.toArray⟩):=by unfold World.cell?;rw [HBbw3.out];rfl
 have a5:w3.cell? ⟨w.heap.size,5,none⟩=some (.slice ai1 ail.length ai2):=by unfold World.cell?;rw [HAw3.out];rfl
 have b5:w3.cell? ⟨w.heap.size+1,5,none⟩=some (.slice bi1 bil.length bi2):=by unfold World.cell?;rw [HBbw3.out];rfl
 have a6:w3.cell? ⟨w.heap.size,6,none⟩=some (.slice ai3 aiks.length ai4):=by unfold World.cell?;rw [HAw3.out];rfl
 have b6:w3.cell? ⟨w.heap.size+1,6,none⟩=some (.slice bi3 biks.length bi4):=by unfold World.cell?;rw [HBbw3.out];rfl
 have a7:w3.cell? ⟨w.heap.size,7,none⟩=some (.string ⟨anm.toArray⟩):=by unfold World.cell?;rw [HAw3.out];rfl
 have b7:w3.cell? ⟨w.heap.size+1,7,none⟩=some (.string ⟨bnm.toArray⟩):=by unfold World.cell?;rw [HBbw3.out];rfl
 have a8:w3.cell? ⟨w.heap.size,8,none⟩=some (.int .i64 av):=by unfold World.cell?;rw [HAw3.out];rfl
 have b8:w3.cell? ⟨w.heap.size+1,8,none⟩=some (.int .i64 bv):=by unfold World.cell?;rw [HBbw3.out];rfl
 have a9:w3.cell? ⟨w.heap.size,9,none⟩=some (.string ⟨atx.toArray⟩):=by unfold World.cell?;rw [HAw3.out];rfl
 have b9:w3.cell? ⟨w.heap.size+1,9,none⟩=some (.string ⟨btx.toArray⟩):=by unfold World.cell?;rw [HBbw3.out];rfl
 have a10:w3.cell? ⟨w.heap.size,10,none⟩=some (.slice ac1 ach.length ac2):=by unfold World.cell?;rw [HAw3.out];rfl
 have b10:w3.cell? ⟨w.heap.size+1,10,none⟩=some (.slice bc1 bch.length bc2):=by unfold World.cell?;rw [HBbw3.out];rfl
 have a11:w3.cell? ⟨w.heap.size,11,none⟩=some (.int .i64 apl):=by unfold World.cell?;rw [HAw3.out];rfl
 have b11:w3.cell? ⟨w.heap.size+1,11,none⟩=some (.int .i64 bpl):=by unfold World.cell?;rw [HBbw3.out];rfl
 have a12:w3.cell? ⟨w.heap.size,12,none⟩=some (.int .i64 apu):=by unfold World.cell?;rw [HAw3.out];rfl
 have b12:w3.cell? ⟨w.heap.size+1,12,none⟩=some (.int .i64 bpu):=by unfold World.cell?;rw [HBbw3.out];rfl
 have a13:w3.cell? ⟨w.heap.size,13,none⟩=some (.int .i64 aoso):=by unfold World.cell?;rw [HAw3.out];rfl
 have b13:w3.cell? ⟨w.heap.size+1,13,none⟩=some (.int .i64 boso):=by unfold World.cell?;rw [HBbw3.out];rfl
 have a14:w3.cell? ⟨w.heap.size,14,none⟩=some (.bool aoon):=by unfold World.cell?;rw [HAw3.out];rfl
 have b14:w3.cell? ⟨w.heap.size+1,14,none⟩=some (.bool boon):=by unfold World.cell?;rw [HBbw3.out];rfl
 have a15:w3.cell? ⟨w.heap.size,15,none⟩=some (.int .i64 aonn):=by unfold World.cell?;rw [HAw3.out];rfl
 have b15:w3.cell? ⟨w.heap.size+1,15,none⟩=some (.int .i64 bonn):=by unfold World.cell?;rw [HBbw3.out];rfl
 have a16:w3.cell? ⟨w.heap.size,16,none⟩=some (.string ⟨aotx.toArray⟩):=by unfold World.cell?;rw [HAw3.out];rfl
 have b16:w3.cell? ⟨w.heap.size+1,16,none⟩=some (.string ⟨botx.toArray⟩):=by unfold World.cell?;rw [HBbw3.out];rfl
 have a17:w3.cell? ⟨w.heap.size,17,none⟩=some (.slice ao1 aol.length ao2):=by unfold World.cell?;rw [HAw3.out];rfl
 have b17:w3.cell? ⟨w.heap.size+1,17,none⟩=some (.slice bo1 bol.length bo2):=by unfold World.cell?;rw [HBbw3.out];rfl
 have a18:w3.cell? ⟨w.heap.size,18,none⟩=some (.slice ao3 aoks.length ao4):=by unfold World.cell?;rw [HAw3.out];rfl
 have b18:w3.cell? ⟨w.heap.size+1,18,none⟩=some (.slice bo3 boks.length bo4):=by unfold World.cell?;rw [HBbw3.out];rfl
 clear CI hb3
 go_wp2_with fail
 refine (CO.out _ HB3.out).mono ?_
 rintro e w4 ⟨rfl,hb4⟩
 have HB4:=Lib.hid (HB3.out.trans (hb4.mono HB3.out.size))
 have HAw4:=Lib.hid ((hb4.block w.heap.size (by omega)).trans HAw3.out)
 have HBbw4:=Lib.hid ((hb4.block (w.heap.size+1) (by omega)).trans HBbw3.out)
 have hzw4:=hb4.size
 clear a0 b0 a1 b1 a2 b2 a3 b3 a4 b4 a5 b5 a6 b6 a7 b7 a8 b8 a9 b9 a10 b10 a11 b11 a12 b12 a13 b13 a14 b14 a15 b15 a16 b16 a17 b17 a18 b18
 have a0:w4.cell? ⟨w.heap.size,0,none⟩=some (.int .i64 ak):=by unfold World.cell?;rw [HAw4.out];rfl
 have b0:w4.cell? ⟨w.heap.size+1,0,none⟩=some (.int .i64 bk):=by unfold World.cell?;rw [HBbw4.out];rfl
 have a7:w4.cell? ⟨w.heap.size,7,none⟩=some (.string ⟨anm.toArray⟩):=by unfold World.cell?;rw [HAw4.out];rfl
 have b7:w4.cell? ⟨w.heap.size+1,7,none⟩=some (.string ⟨bnm.toArray⟩):=by unfold World.cell?;rw [HBbw4.out];rfl
 have a8:w4.cell? ⟨w.heap.size,8,none⟩=some (.int .i64 av):=by unfold World.cell?;rw [HAw4.out];rfl
 have b8:w4.cell? ⟨w.heap.size+1,8,none⟩=some (.int .i64 bv):=by unfold World.cell?;rw [HBbw4.out];rfl
 have a9:w4.cell? ⟨w.heap.size,9,none⟩=some (.string ⟨atx.toArray⟩):=by unfold World.cell?;rw [HAw4.out];rfl
 have b9:w4.cell? ⟨w.heap.size+1,9,none⟩=some (.string ⟨btx.toArray⟩):=by unfold World.cell?;rw [HBbw4.out];rfl
 have a10:w4.cell? ⟨w.heap.size,10,none⟩=some (.slice ac1 ach.length ac2):=by unfold World.cell?;rw [HAw4.out];rfl
 have b10:w4.cell? ⟨w.heap.size+1,10,none⟩=some (.slice bc1 bch.length bc2):=by unfold World.cell?;rw [HBbw4.out];rfl
 have a11:w4.cell? ⟨w.heap.size,11,none⟩=some (.int .i64 apl):=by unfold World.cell?;rw [HAw4.out];rfl
 have b11:w4.cell? ⟨w.heap.size+1,11,none⟩=some (.int .i64 bpl):=by unfold World.cell?;rw [HBbw4.out];rfl
 have a12:w4.cell? ⟨w.heap.size,12,none⟩=some (.int .i64 apu):=by unfold World.cell?;rw [HAw4.out];rfl
 have b12:w4.cell? ⟨w.heap.size+1,12,none⟩=some (.int .i64 bpu):=by unfold World.cell?;rw [HBbw4.out];rfl
 clear CO hb4
 cases x7 with
 | false =>
  go_wp2_with fail
  go_ret
  exact ⟨by simp,HB4.out⟩
 | true =>
  cases x8 with
  | false =>
   go_wp2_with fail
   go_ret
   exact ⟨by simp,HB4.out⟩
  | true =>
   cases x1 with
   | false =>
    simp only [Bool.not_false] at hx1'
    go_wp2_with fail
    go_ret
    exact ⟨by simp,HB4.out⟩
   | true =>
    simp only [Bool.not_true] at hx1'
    cases x2 with
    | false =>
     simp only [Bool.not_false] at hx2'
     go_wp2_with fail
     go_ret
     exact ⟨by simp,HB4.out⟩
    | true =>
     simp only [Bool.not_true] at hx2'
     cases x3 with
     | false =>
      simp only [Bool.not_false] at hx3'
      go_wp2_with fail
      go_ret
      exact ⟨by simp,HB4.out⟩
     | true =>
      simp only [Bool.not_true] at hx3'
      cases x4 with
      | false =>
       simp only [Bool.not_false] at hx4'
       go_wp2_with fail
       go_ret
       exact ⟨by simp,HB4.out⟩
      | true =>
       simp only [Bool.not_true] at hx4'
       cases x5 with
       | false =>
        simp only [Bool.not_false] at hP
        go_wp2_with fail
        go_ret
        exact ⟨by simp,HB4.out⟩
       | true =>
        simp only [Bool.not_true] at hP
        by_cases hlen:ach.length=bch.length
        ·obtain ⟨ln,hln⟩:∃ k,ach.length=k:=⟨_,rfl⟩
         have HLN:=Lib.hid hln
         have HLN':=Lib.hid (hlen.symm.trans hln)
         rw [hln] at a10 hll
         rw [← hlen,hln] at b10
         clear hln hlen
         go_wp2_with fail
         go_loopw [7] (fun iv wr=>∃ i:Nat,iv=.int .i64 i∧i≤ln∧Hid (editsB (ach.drop i) (bch.drop i)=R1)∧Hid (Below w4.heap.size w4 wr)) (fun iv _=>ln - (Go.RowKit.intOf iv).toNat)
         case atStart=>exact ⟨0,rfl,by omega,HR,Lib.hid (Below.refl _ _)⟩
         case round =>
          obtain ⟨i,rfl,hi,HI,HB⟩:=hrel
          have hb:=HB.out
          replace a10:=(hb.cell (by omega:w.heap.size<w4.heap.size)).trans a10
          replace b10:=(hb.cell (by omega:w.heap.size+1<w4.heap.size)).trans b10
          have HBW:=Lib.hid (HB4.out.trans (hb.mono HB4.out.size))
          by_cases hlt:i<ln
          ·have hl1:i<ach.length:=by rw [HLN.out];exact hlt
           have hl2:i<bch.length:=by rw [HLN'.out];exact hlt
           obtain ⟨g,off,rfl,hg,hc⟩:=HE1.out.resolve_left (fun h=>by rw [h] at hl1;exact Nat.not_lt_zero _ hl1)
           obtain ⟨g',off',rfl,hg',hc'⟩:=HE2.out.resolve_left (fun h=>by rw [h] at hl2;exact Nat.not_lt_zero _ hl2)
           have hsm:∀ Q,Same Q w wr:=fun _ b _ hb=>HBW.out.block b hb
           obtain ⟨k0,k1,k2,k3,k4,k5⟩:=edit_at i (hc.later (R:=fun g=>R g∧g<w.heap.size) hg (hsm _)) hl1
           obtain ⟨j0,j1,j2,j3,j4,j5⟩:=edit_at i (hc'.later (R:=fun g=>R' g∧g<w.heap.size) hg' (hsm _)) hl2
           have hdr:=editsB_drop hl1 hl2
           rw [HI.out] at hdr
           have hn:=fun W=>neq_refedit ach[i] bch[i] W
           generalize editB ach[i] bch[i]=x at hdr hn
           generalize ach[i]=e at hn k0 k1 k2 k3 k4 k5
           generalize bch[i]=f at hn j0 j1 j2 j3 j4 j5
           obtain ⟨⟨fl,fu⟩,⟨tl,tu⟩,t,wh⟩:=e
           obtain ⟨⟨fl',fu'⟩,⟨tl',tu'⟩,t',wh'⟩:=f
           simp only [editC,strCell] at hn
           have HDR:=Lib.hid hdr
           have hlt1:(i:Int)<(ln:Int):=by omega
           clear hdr hsm hc hc' hg hg' hb
           go_upto_region 8 with fail
           go_quiet (fail)
           have HB2:=Lib.hid (below_drewN HB.out nq)
           cases x with
           | false =>
            go_wp2_with fail
            go_ret
            exact ⟨by rw [HDR.out];rfl,below_drewN HBW.out nq⟩
           | true =>
            go_wp2_with fail
            go_roundw
            case rel=>exact ⟨i+1,by go_num,by omega,Lib.hid (by rw [HDR.out,Bool.true_and]),HB2⟩
            case measure=>simp [Go.RowKit.intOf];omega
          ·go_wp2_with fail
           go_ret
           refine ⟨?_,HBW.out⟩
           obtain rfl:i=ln:=by omega
           have h:=HI.out
           rw [List.drop_eq_nil_of_le (by rw [HLN.out];exact Nat.le_refl _),List.drop_eq_nil_of_le (by rw [HLN'.out];exact Nat.le_refl _)] at h
           rw [← h];simp [editsB]
        ·have hf:=HR.out
         rw [List.drop_zero,List.drop_zero,editsB_len hlen] at hf
         subst hf
         have q:((ach.length:Int)==(bch.length:Int))=false:=by simp;omega
         have q2:((ach.length:Int) != (bch.length:Int))=true:=by simp;omega
         go_wp2_with fail
         go_ret
         exact ⟨by simp,HB4.out⟩
end Go.Proofs.YtpbnhnilfpoljaaGreatDoor.M
namespace Go.Proofs.YtpbnhnilfpoljaaGreatDoor.M
open Go.RowKit
open Go.Lib Go.Proofs.YtpbnhnilfpoljaaGreatDoor.V
theorem same_small (v u:Val) (h:wt v≤65536):sameTop v u=sameP v u:=by unfold sameTop;rw [nestP_wt _ _ h,Bool.true_and]
theorem same_vals (v u:Val) (lv kv lu ku:Value) (R R':Nat→Prop) (w:World) (hv:ValIn w R v lv kv) (hu:ValIn w R' u lu ku) (hwv:wt v≤65536) (hwu:wt u≤1099511627776) :
  Calls Tryz.prog 19 #[arg v lv kv,arg u lu ku] w fun e w'=>e=.returned (.bool (sameP v u))∧Below w.heap.size w w':=by
 rw [← same_small v u hwv]
 obtain ⟨so,on,n,t,l,ks⟩:=v
 obtain ⟨so',on',n',t',l',ks'⟩:=u
 exact same_top so so' on on' n n' t t' l l' ks ks' lv kv lu ku R R' w hv hu (by omega) hwu
set_option maxHeartbeats 8000000 in
set_option maxRecDepth 20000 in
theorem samec_any (a b:CallP) (ail aik ach aol aok bil bik bch bol bok:Value) (R R':Nat→Prop) (w:World) (ha:CallIn w R a ail aik ach aol aok) (hb:CallIn w R' b bil bik bch bol bok)
  (h1:wt a.id≤65536) (h2:wt a.other≤65536) (h3:wt b.id≤1099511627776) (h4:wt b.other≤1099511627776) (h5:a.changes.length≤100000) :
  Calls Tryz.prog 34 #[argC a ail aik ach aol aok,argC b bil bik bch bol bok] w fun e w'=>e=.returned (.bool (sameC a b))∧Below w.heap.size w w':=by
 have hE1:=ha.edits
 have hE2:=hb.edits
 have cI:=fun W (hB:Below w.heap.size w W)=>same_vals a.id b.id _ _ _ _ _ _ W (val_below ha.id hB) (val_below hb.id hB) h1 h3
 have cO:=fun W (hB:Below w.heap.size w W)=>same_vals a.other b.other _ _ _ _ _ _ W (val_below ha.other hB) (val_below hb.other hB) h2 h4
 obtain ⟨ac1,ac2,rfl,_⟩:=hE1
 obtain ⟨bc1,bc2,rfl,_⟩:=hE2
 have cE:=fun W (hB:Below w.heap.size w W)=>eq_edits a.changes b.changes ac1 bc1 ac2 bc2 _ _ W (EditsIn.later (R':=fun g=>R g∧g<w.heap.size) ha.edits.bound (fun g hg hlt=>hB.block g hg.2) (fun _ h=>h)) (EditsIn.later (R':=fun g=>R' g∧g<w.heap.size) hb.edits.bound (fun g hg hlt=>hB.block g hg.2) (fun _ h=>h)) h5
 have hi1:=ha.id
 have hi2:=hb.id
 have ho1:=ha.other
 have ho2:=hb.other
 clear ha hb h1 h2 h3 h4 h5
 obtain ⟨ak,⟨aiso,aion,ainn,aitx,ail,aiks⟩,anm,av,atx,ach,⟨apl,apu⟩,⟨aoso,aoon,aonn,aotx,aol,aoks⟩⟩:=a
 obtain ⟨bk,⟨biso,bion,binn,bitx,bil,biks⟩,bnm,bv,btx,bch,⟨bpl,bpu⟩,⟨boso,boon,bonn,botx,bol,boks⟩⟩:=b
 obtain ⟨⟨ai1,ai2,rfl,_⟩,⟨ai3,ai4,rfl,_⟩⟩:=hi1
 obtain ⟨⟨bi1,bi2,rfl,_⟩,⟨bi3,bi4,rfl,_⟩⟩:=hi2
 obtain ⟨⟨ao1,ao2,rfl,_⟩,⟨ao3,ao4,rfl,_⟩⟩:=ho1
 obtain ⟨⟨bo1,bo2,rfl,_⟩,⟨bo3,bo4,rfl,_⟩⟩:=ho2
 unfold sameC
 have hP:=fun W=>eql_place ⟨apl,apu⟩ ⟨bpl,bpu⟩ W
 simp only [argC,callC,arg,six',six,strCell,List.cons_append,List.nil_append] at cI cO cE hP ⊢
 generalize hx5:placeB ⟨apl,apu⟩ ⟨bpl,bpu⟩=x5 at hP ⊢
 generalize editsB ach bch=x6 at cE ⊢
 generalize sameP (.mk aiso aion ainn aitx ail aiks) (.mk biso bion binn bitx bil biks)=x7 at cI ⊢
 generalize sameP (.mk aoso aoon aonn aotx aol aoks) (.mk boso boon bonn botx bol boks)=x8 at cO ⊢
 obtain ⟨x1,hx1⟩:∃ x,(ak==bk)=x:=⟨_,rfl⟩
 obtain ⟨x2,hx2⟩:∃ x,(anm==bnm)=x:=⟨_,rfl⟩
 obtain ⟨x3,hx3⟩:∃ x,(av==bv)=x:=⟨_,rfl⟩
 obtain ⟨x4,hx4⟩:∃ x,(atx==btx)=x:=⟨_,rfl⟩
 rw [hx1,hx2,hx3,hx4]
 clear hx5
 obtain ⟨t1,t2,t3,t4⟩:=two w (.cells #[.int .i64 ak,.int .i64 aiso,.bool aion,.int .i64 ainn,.string ⟨aitx.toArray⟩,.slice ai1 ail.length ai2,.slice ai3 aiks.length ai4,.string ⟨anm.toArray⟩,.int .i64 av,.string ⟨atx.toArray⟩,.slice ac1 ach.length ac2,.int .i64 apl,.int .i64 apu,.int .i64 aoso,.bool aoon,.int .i64 aonn,.string ⟨aotx.toArray⟩,.slice ao1 aol.length ao2,.slice ao3 aoks.length ao4] 43) (.cells #[.int .i64 bk,.int .i64 biso,.bool bion,.int .i64 binn,.string ⟨bitx.toArray⟩,.slice bi1 bil.length bi2,.slice bi3 biks.length bi4,.string ⟨bnm.toArray⟩,.int .i64 bv,.string ⟨btx.toArray⟩,.slice bc1 bch.length bc2,.int .i64 bpl,.int .i64 bpu,.int .i64 boso,.bool boon,.int .i64 bonn,.string ⟨botx.toArray⟩,.slice bo1 bol.length bo2,.slice bo3 boks.length bo4] 43)
 obtain ⟨W2,hW2⟩:∃ W2,(w.alloc (.cells #[.int .i64 ak,.int .i64 aiso,.bool aion,.int .i64 ainn,.string ⟨aitx.toArray⟩,.slice ai1 ail.length ai2,.slice ai3 aiks.length ai4,.string ⟨anm.toArray⟩,.int .i64 av,.string ⟨atx.toArray⟩,.slice ac1 ach.length ac2,.int .i64 apl,.int .i64 apu,.int .i64 aoso,.bool aoon,.int .i64 aonn,.string ⟨aotx.toArray⟩,.slice ao1 aol.length ao2,.slice ao3 aoks.length ao4] 43)).alloc (.cells #[.int .i64 bk,.int .i64 biso,.bool bion,.int .i64 binn,.string ⟨bitx.toArray⟩,.slice bi1 bil.length bi2,.slice bi3 biks.length bi4,.string ⟨bnm.toArray⟩,.int .i64 bv,.string ⟨btx.toArray⟩,.slice bc1 bch.length bc2,.int .i64 bpl,.int .i64 bpu,.int .i64 boso,.bool boon,.int .i64 bonn,.string ⟨botx.toArray⟩,.slice bo1 bol.length bo2,.slice bo3 boks.length bo4] 43)=W2:=⟨_,rfl⟩
 rw [hW2] at t1 t2 t3 t4
 have HAW2:=Lib.hid t1
 have HBbW2:=Lib.hid t2
 have HB2:=Lib.hid t3
 have hz2:w.heap.size+2≤W2.heap.size:=by omega
 have CE:=Lib.hid cE
 have CI:=Lib.hid cI
 have CO:=Lib.hid cO
 clear t1 t2 t3 t4 cE cI cO
 have a0:W2.cell? ⟨w.heap.size,0,none⟩=some (.int .i64 ak):=by unfold World.cell?;rw [HAW2.out];rfl
 have b0:W2.cell? ⟨w.heap.size+1,0,none⟩=some (.int .i64 bk):=by unfold World.cell?;rw [HBbW2.out];rfl
 have a1:W2.cell? ⟨w.heap.size,1,none⟩=some (.int .i64 aiso):=by unfold World.cell?;rw [HAW2.out];rfl
 have b1:W2.cell? ⟨w.heap.size+1,1,none⟩=some (.int .i64 biso):=by unfold World.cell?;rw [HBbW2.out];rfl
 have a2:W2.cell? ⟨w.heap.size,2,none⟩=some (.bool aion):=by unfold World.cell?;rw [HAW2.out];rfl
 have b2:W2.cell? ⟨w.heap.size+1,2,none⟩=some (.bool bion):=by unfold World.cell?;rw [HBbW2.out];rfl
 have a3:W2.cell? ⟨w.heap.size,3,none⟩=some (.int .i64 ainn):=by unfold World.cell?;rw [HAW2.out];rfl
 have b3:W2.cell? ⟨w.heap.size+1,3,none⟩=some (.int .i64 binn):=by unfold World.cell?;rw [HBbW2.out];rfl
 have a4:W2.cell? ⟨w.heap.size,4,none⟩=some (.string ⟨aitx.toArray⟩):=by unfold World.cell?;rw [HAW2.out];rfl
 have b4:W2.cell? ⟨w.heap.size+1,4,none⟩=some (.string ⟨bitx.toArray⟩):=by unfold World.cell?;rw [HBbW2.out];rfl
 have a5:W2.cell? ⟨w.heap.size,5,none⟩=some (.slice ai1 ail.length ai2):=by unfold World.cell?;rw [HAW2.out];rfl
 have b5:W2.cell? ⟨w.heap.size+1,5,none⟩=some (.slice bi1 bil.length bi2):=by unfold World.cell?;rw [HBbW2.out];rfl
 have a6:W2.cell? ⟨w.heap.size,6,none⟩=some (.slice ai3 aiks.length ai4):=by unfold World.cell?;rw [HAW2.out];rfl
 have b6:W2.cell? ⟨w.heap.size+1,6,none⟩=some (.slice bi3 biks.length bi4):=by unfold World.cell?;rw [HBbW2.out];rfl
 have a7:W2.cell? ⟨w.heap.size,7,none⟩=some (.string ⟨anm.toArray⟩):=by unfold World.cell?;rw [HAW2.out];rfl
 have b7:W2.cell? ⟨w.heap.size+1,7,none⟩=some (.string ⟨bnm.toArray⟩):=by unfold World.cell?;rw [HBbW2.out];rfl
 have a8:W2.cell? ⟨w.heap.size,8,none⟩=some (.int .i64 av):=by unfold World.cell?;rw [HAW2.out];rfl
 have b8:W2.cell? ⟨w.heap.size+1,8,none⟩=some (.int .i64 bv):=by unfold World.cell?;rw [HBbW2.out];rfl
 have a9:W2.cell? ⟨w.heap.size,9,none⟩=some (.string ⟨atx.toArray⟩):=by unfold World.cell?;rw [HAW2.out];rfl
 have b9:W2.cell? ⟨w.heap.size+1,9,none⟩=some (.string ⟨btx.toArray⟩):=by unfold World.cell?;rw [HBbW2.out];rfl
 have a10:W2.cell? ⟨w.heap.size,10,none⟩=some (.slice ac1 ach.length ac2):=by unfold World.cell?;rw [HAW2.out];rfl
 have b10:W2.cell? ⟨w.heap.size+1,10,none⟩=some (.slice bc1 bch.length bc2):=by unfold World.cell?;rw [HBbW2.out];rfl
 have a11:W2.cell? ⟨w.heap.size,11,none⟩=some (.int .i64 apl):=by unfold World.cell?;rw [HAW2.out];rfl
 have b11:W2.cell? ⟨w.heap.size+1,11,none⟩=some (.int .i64 bpl):=by unfold World.cell?;rw [HBbW2.out];rfl
 have a12:W2.cell? ⟨w.heap.size,12,none⟩=some (.int .i64 apu):=by unfold World.cell?;rw [HAW2.out];rfl
 have b12:W2.cell? ⟨w.heap.size+1,12,none⟩=some (.int .i64 bpu):=by unfold World.cell?;rw [HBbW2.out];rfl
 have a13:W2.cell? ⟨w.heap.size,13,none⟩=some (.int .i64 aoso):=by unfold World.cell?;rw [HAW2.out];rfl
 have b13:W2.cell? ⟨w.heap.size+1,13,none⟩=some (.int .i64 boso):=by unfold World.cell?;rw [HBbW2.out];rfl
 have a14:W2.cell? ⟨w.heap.size,14,none⟩=some (.bool aoon):=by unfold World.cell?;rw [HAW2.out];rfl
 have b14:W2.cell? ⟨w.heap.size+1,14,none⟩=some (.bool boon):=by unfold World.cell?;rw [HBbW2.out];rfl
 have a15:W2.cell? ⟨w.heap.size,15,none⟩=some (.int .i64 aonn):=by unfold World.cell?;rw [HAW2.out];rfl
 have b15:W2.cell? ⟨w.heap.size+1,15,none⟩=some (.int .i64 bonn):=by unfold World.cell?;rw [HBbW2.out];rfl
 have a16:W2.cell? ⟨w.heap.size,16,none⟩=some (.string ⟨aotx.toArray⟩):=by unfold World.cell?;rw [HAW2.out];rfl
 have b16:W2.cell? ⟨w.heap.size+1,16,none⟩=some (.string ⟨botx.toArray⟩):=by unfold World.cell?;rw [HBbW2.out];rfl
 have a17:W2.cell? ⟨w.heap.size,17,none⟩=some (.slice ao1 aol.length ao2):=by unfold World.cell?;rw [HAW2.out];rfl
 have b17:W2.cell? ⟨w.heap.size+1,17,none⟩=some (.slice bo1 bol.length bo2):=by unfold World.cell?;rw [HBbW2.out];rfl
 have a18:W2.cell? ⟨w.heap.size,18,none⟩=some (.slice ao3 aoks.length ao4):=by unfold World.cell?;rw [HAW2.out];rfl
 have b18:W2.cell? ⟨w.heap.size+1,18,none⟩=some (.slice bo3 boks.length bo4):=by unfold World.cell?;rw [HBbW2.out];rfl
 go_enter Tryz.func34,Tryz.ntmps34
 go_upto_region 1 with fail
 clear hW2
 cases x1 with
 | false =>
  go_wp2_with fail
  go_ret
  exact ⟨by simp,HB2.out⟩
 | true =>
  cases x2 with
  | false =>
   go_wp2_with fail
   go_ret
   exact ⟨by simp,HB2.out⟩
  | true =>
   cases x3 with
   | false =>
    go_wp2_with fail
    go_ret
    exact ⟨by simp,HB2.out⟩
   | true =>
    cases x4 with
    | false =>
     go_wp2_with fail
     go_ret
     exact ⟨by simp,HB2.out⟩
    | true =>
     cases x5 with
     | false =>
      go_wp2_with fail
      go_ret
      exact ⟨by simp,HB2.out⟩
     | true =>
      go_wp2_with fail
      refine (CE.out _ HB2.out).mono ?_
      rintro e w3 ⟨rfl,hb3⟩
      have HB3:=Lib.hid (HB2.out.trans (hb3.mono HB2.out.size))
      have HAw3:=Lib.hid ((hb3.block w.heap.size (by omega)).trans HAW2.out)
      have HBbw3:=Lib.hid ((hb3.block (w.heap.size+1) (by omega)).trans HBbW2.out)
      have hzw3:=hb3.size
      clear a0 b0 a1 b1 a2 b2 a3 b3 a4 b4 a5 b5 a6 b6 a7 b7 a8 b8 a9 b9 a10 b10 a11 b11 a12 b12 a13 b13 a14 b14 a15 b15 a16 b16 a17 b17 a18 b18
      have a0:w3.cell? ⟨w.heap.size,0,none⟩=some (.int .i64 ak):=by unfold World.cell?;rw [HAw3.out];rfl
      have b0:w3.cell? ⟨w.heap.size+1,0,none⟩=some (.int .i64 bk):=by unfold World.cell?;rw [HBbw3.out];rfl
      have a1:w3.cell? ⟨w.heap.size,1,none⟩=some (.int .i64 aiso):=by unfold World.cell?;rw [HAw3.out];rfl
      have b1:w3.cell? ⟨w.heap.size+1,1,none⟩=some (.int .i64 biso):=by unfold World.cell?;rw [HBbw3.out];rfl
      have a2:w3.cell? ⟨w.heap.size,2,none⟩=some (.bool aion):=by unfold World.cell?;rw [HAw3.out];rfl
      have b2:w3.cell? ⟨w.heap.size+1,2,none⟩=some (.bool bion):=by unfold World.cell?;rw [HBbw3.out];rfl
      have a3:w3.cell? ⟨w.heap.size,3,none⟩=some (.int .i64 ainn):=by unfold World.cell?;rw [HAw3.out];rfl
      have b3:w3.cell? ⟨w.heap.size+1,3,none⟩=some (.int .i64 binn):=by unfold World.cell?;rw [HBbw3.out];rfl
      have a4:w3.cell? ⟨w.heap.size,4,none⟩=some (.string ⟨aitx.toArray⟩):=by unfold World.cell?;rw [HAw3.out];rfl
      have b4:w3.cell? ⟨w.heap.size+1,4,none⟩=some (.string ⟨bitx.toArray⟩):=by unfold World.cell?;rw [HBbw3.out];rfl
      have a5:w3.cell? ⟨w.heap.size,5,none⟩=some (.slice ai1 ail.length ai2):=by unfold World.cell?;rw [HAw3.out];rfl
      have b5:w3.cell? ⟨w.heap.size+1,5,none⟩=some (.slice bi1 bil.length bi2):=by unfold World.cell?;rw [HBbw3.out];rfl
      have a6:w3.cell? ⟨w.heap.size,6,none⟩=some (.slice ai3 aiks.length ai4):=by unfold World.cell?;rw [HAw3.out];rfl
      have b6:w3.cell? ⟨w.heap.size+1,6,none⟩=some (.slice bi3 biks.length bi4):=by unfold World.cell?;rw [HBbw3.out];rfl
      have a7:w3.cell? ⟨w.heap.size,7,none⟩=some (.string ⟨anm.toArray⟩):=by unfold World.cell?;rw [HAw3.out];rfl
      have b7:w3.cell? ⟨w.heap.size+1,7,none⟩=some (.string ⟨bnm.toArray⟩):=by unfold World.cell?;rw [HBbw3.out];rfl
      have a8:w3.cell? ⟨w.heap.size,8,none⟩=some (.int .i64 av):=by unfold World.cell?;rw [HAw3.out];rfl
      have b8:w3.cell? ⟨w.heap.size+1,8,none⟩=some (.int .i64 bv):=by unfold World.cell?;rw [HBbw3.out];rfl
      have a9:w3.cell? ⟨w.heap.size,9,none⟩=some (.string ⟨atx.toArray⟩):=by unfold World.cell?;rw [HAw3.out];rfl
      have b9:w3.cell? ⟨w.heap.size+1,9,none⟩=some (.string ⟨btx.toArray⟩):=by unfold World.cell?;rw [HBbw3.out];rfl
      have a10:w3.cell? ⟨w.heap.size,10,none⟩=some (.slice ac1 ach.length ac2):=by unfold World.cell?;rw [HAw3.out];rfl
      have b10:w3.cell? ⟨w.heap.size+1,10,none⟩=some (.slice bc1 bch.length bc2):=by unfold World.cell?;rw [HBbw3.out];rfl
      have a11:w3.cell? ⟨w.heap.size,11,none⟩=some (.int .i64 apl):=by unfold World.cell?;rw [HAw3.out];rfl
      have b11:w3.cell? ⟨w.heap.size+1,11,none⟩=some (.int .i64 bpl):=by unfold World.cell?;rw [HBbw3.out];rfl
      have a12:w3.cell? ⟨w.heap.size,12,none⟩=some (.int .i64 apu):=by unfold World.cell?;rw [HAw3.out];rfl
      have b12:w3.cell? ⟨w.heap.size+1,12,none⟩=some (.int .i64 bpu):=by unfold World.cell?;rw [HBbw3.out];rfl
      have a13:w3.cell? ⟨w.heap.size,13,none⟩=some (.int .i64 aoso):=by unfold World.cell?;rw [HAw3.out];rfl
      have b13:w3.cell? ⟨w.heap.size+1,13,none⟩=some (.int .i64 boso):=by unfold World.cell?;rw [HBbw3.out];rfl
      have a14:w3.cell? ⟨w.heap.size,14,none⟩=some (.bool aoon):=by unfold World.cell?;rw [HAw3.out];rfl
      have b14:w3.cell? ⟨w.heap.size+1,14,none⟩=some (.bool boon):=by unfold World.cell?;rw [HBbw3.out];rfl
      have a15:w3.cell? ⟨w.heap.size,15,none⟩=some (.int .i64 aonn):=by unfold World.cell?;rw [HAw3.out];rfl
      have b15:w3.cell? ⟨w.heap.size+1,15,none⟩=some (.int .i64 bonn):=by unfold World.cell?;rw [HBbw3.out];rfl
      have a16:w3.cell? ⟨w.heap.size,16,none⟩=some (.string ⟨aotx.toArray⟩):=by unfold World.cell?;rw [HAw3.out];rfl
      have b16:w3.cell? ⟨w.heap.size+1,16,none⟩=some (.string ⟨botx.toArray⟩):=by unfold World.cell?;rw [HBbw3.out];rfl
      have a17:w3.cell? ⟨w.heap.size,17,none⟩=some (.slice ao1 aol.length ao2):=by unfold World.cell?;rw [HAw3.out];rfl
      have b17:w3.cell? ⟨w.heap.size+1,17,none⟩=some (.slice bo1 bol.length bo2):=by unfold World.cell?;rw [HBbw3.out];rfl
      have a18:w3.cell? ⟨w.heap.size,18,none⟩=some (.slice ao3 aoks.length ao4):=by unfold World.cell?;rw [HAw3.out];rfl
      have b18:w3.cell? ⟨w.heap.size+1,18,none⟩=some (.slice bo3 boks.length bo4):=by unfold World.cell?;rw [HBbw3.out];rfl
      clear CE hb3
      cases x6 with
      | false =>
       go_wp2_with fail
       go_ret
       exact ⟨by simp,HB3.out⟩
      | true =>
       go_wp2_with fail
       refine (CI.out _ HB3.out).mono ?_
       rintro e w4 ⟨rfl,hb4⟩
       have HB4:=Lib.hid (HB3.out.trans (hb4.mono HB3.out.size))
       have HAw4:=Lib.hid ((hb4.block w.heap.size (by omega)).trans HAw3.out)
       have HBbw4:=Lib.hid ((hb4.block (w.heap.size+1) (by omega)).trans HBbw3.out)
       have hzw4:=hb4.size
       clear a0 b0 a1 b1 a2 b2 a3 b3 a4 b4 a5 b5 a6 b6 a7 b7 a8 b8 a9 b9 a10 b10 a11 b11 a12 b12 a13 b13 a14 b14 a15 b15 a16 b16 a17 b17 a18 b18
       have a0:w4.cell? ⟨w.heap.size,0,none⟩=some (.int .i64 ak):=by unfold World.cell?;rw [HAw4.out];rfl
       have b0:w4.cell? ⟨w.heap.size+1,0,none⟩=some (.int .i64 bk):=by unfold World.cell?;rw [HBbw4.out];rfl
       have a1:w4.cell? ⟨w.heap.size,1,none⟩=some (.int .i64 aiso):=by unfold World.cell?;rw [HAw4.out];rfl
       have b1:w4.cell? ⟨w.heap.size+1,1,none⟩=some (.int .i64 biso):=by unfold World.cell?;rw [HBbw4.out];rfl
       have a2:w4.cell? ⟨w.heap.size,2,none⟩=some (.bool aion):=by unfold World.cell?;rw [HAw4.out];rfl
       have b2:w4.cell? ⟨w.heap.size+1,2,none⟩=some (.bool bion):=by unfold World.cell?;rw [HBbw4.out];rfl
       have a3:w4.cell? ⟨w.heap.size,3,none⟩=some (.int .i64 ainn):=by unfold World.cell?;rw [HAw4.out];rfl
       have b3:w4.cell? ⟨w.heap.size+1,3,none⟩=some (.int .i64 binn):=by unfold World.cell?;rw [HBbw4.out];rfl
       have a4:w4.cell? ⟨w.heap.size,4,none⟩=some (.string ⟨aitx.toArray⟩):=by unfold World.cell?;rw [HAw4.out];rfl
       have b4:w4.cell? ⟨w.heap.size+1,4,none⟩=some (.string ⟨bitx.toArray⟩):=by unfold World.cell?;rw [HBbw4.out];rfl
       have a5:w4.cell? ⟨w.heap.size,5,none⟩=some (.slice ai1 ail.length ai2):=by unfold World.cell?;rw [HAw4.out];rfl
       have b5:w4.cell? ⟨w.heap.size+1,5,none⟩=some (.slice bi1 bil.length bi2):=by unfold World.cell?;rw [HBbw4.out];rfl
       have a6:w4.cell? ⟨w.heap.size,6,none⟩=some (.slice ai3 aiks.length ai4):=by unfold World.cell?;rw [HAw4.out];rfl
       have b6:w4.cell? ⟨w.heap.size+1,6,none⟩=some (.slice bi3 biks.length bi4):=by unfold World.cell?;rw [HBbw4.out];rfl
       have a7:w4.cell? ⟨w.heap.size,7,none⟩=some (.string ⟨anm.toArray⟩):=by unfold World.cell?;rw [HAw4.out];rfl
       have b7:w4.cell? ⟨w.heap.size+1,7,none⟩=some (.string ⟨bnm.toArray⟩):=by unfold World.cell?;rw [HBbw4.out];rfl
       have a8:w4.cell? ⟨w.heap.size,8,none⟩=some (.int .i64 av):=by unfold World.cell?;rw [HAw4.out];rfl
       have b8:w4.cell? ⟨w.heap.size+1,8,none⟩=some (.int .i64 bv):=by unfold World.cell?;rw [HBbw4.out];rfl
       have a9:w4.cell? ⟨w.heap.size,9,none⟩=some (.string ⟨atx.toArray⟩):=by unfold World.cell?;rw [HAw4.out];rfl
       have b9:w4.cell? ⟨w.heap.size+1,9,none⟩=some (.string ⟨btx.toArray⟩):=by unfold World.cell?;rw [HBbw4.out];rfl
       have a10:w4.cell? ⟨w.heap.size,10,none⟩=some (.slice ac1 ach.length ac2):=by unfold World.cell?;rw [HAw4.out];rfl
       have b10:w4.cell? ⟨w.heap.size+1,10,none⟩=some (.slice bc1 bch.length bc2):=by unfold World.cell?;rw [HBbw4.out];rfl
       have a11:w4.cell? ⟨w.heap.size,11,none⟩=some (.int .i64 apl):=by unfold World.cell?;rw [HAw4.out];rfl
       have b11:w4.cell? ⟨w.heap.size+1,11,none⟩=some (.int .i64 bpl):=by unfold World.cell?;rw [HBbw4.out];rfl
       have a12:w4.cell? ⟨w.heap.size,12,none⟩=some (.int .i64 apu):=by unfold World.cell?;rw [HAw4.out];rfl
       have b12:w4.cell? ⟨w.heap.size+1,12,none⟩=some (.int .i64 bpu):=by unfold World.cell?;rw [HBbw4.out];rfl
       have a13:w4.cell? ⟨w.heap.size,13,none⟩=some (.int .i64 aoso):=by unfold World.cell?;rw [HAw4.out];rfl
       have b13:w4.cell? ⟨w.heap.size+1,13,none⟩=some (.int .i64 boso):=by unfold World.cell?;rw [HBbw4.out];rfl
       have a14:w4.cell? ⟨w.heap.size,14,none⟩=some (.bool aoon):=by unfold World.cell?;rw [HAw4.out];rfl
       have b14:w4.cell? ⟨w.heap.size+1,14,none⟩=some (.bool boon):=by unfold World.cell?;rw [HBbw4.out];rfl
       have a15:w4.cell? ⟨w.heap.size,15,none⟩=some (.int .i64 aonn):=by unfold World.cell?;rw [HAw4.out];rfl
       have b15:w4.cell? ⟨w.heap.size+1,15,none⟩=some (.int .i64 bonn):=by unfold World.cell?;rw [HBbw4.out];rfl
       have a16:w4.cell? ⟨w.heap.size,16,none⟩=some (.string ⟨aotx.toArray⟩):=by unfold World.cell?;rw [HAw4.out];rfl
       have b16:w4.cell? ⟨w.heap.size+1,16,none⟩=some (.string ⟨botx.toArray⟩):=by unfold World.cell?;rw [HBbw4.out];rfl
       have a17:w4.cell? ⟨w.heap.size,17,none⟩=some (.slice ao1 aol.length ao2):=by unfold World.cell?;rw [HAw4.out];rfl
       have b17:w4.cell? ⟨w.heap.size+1,17,none⟩=some (.slice bo1 bol.length bo2):=by unfold World.cell?;rw [HBbw4.out];rfl
       have a18:w4.cell? ⟨w.heap.size,18,none⟩=some (.slice ao3 aoks.length ao4):=by unfold World.cell?;rw [HAw4.out];rfl
       have b18:w4.cell? ⟨w.heap.size+1,18,none⟩=some (.slice bo3 boks.length bo4):=by unfold World.cell?;rw [HBbw4.out];rfl
       clear CI hb4
       cases x7 with
       | false =>
        go_wp2_with fail
        go_ret
        exact ⟨by simp,HB4.out⟩
       | true =>
        go_wp2_with fail
        refine (CO.out _ HB4.out).mono ?_
        rintro e w5 ⟨rfl,hb5⟩
        have HB5:=Lib.hid (HB4.out.trans (hb5.mono HB4.out.size))
        clear hb5 CO
        go_wp2_with fail
        go_ret
        exact ⟨by simp,HB5.out⟩
end Go.Proofs.YtpbnhnilfpoljaaGreatDoor.M
