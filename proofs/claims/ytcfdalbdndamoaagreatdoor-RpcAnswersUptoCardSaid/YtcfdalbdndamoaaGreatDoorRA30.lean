/- What the claim needs of the texts MEq3, MWrite1, MWrite2. -/
import Derived.Test.YtcfdalbdndamoaaGreatDoorRA29
namespace Go.Proofs.YtcfdalbdndamoaaGreatDoor.M
open Go.RowKit
open Go.Lib Go.Proofs.YtcfdalbdndamoaaGreatDoor.V
theorem same_small (v u : Val) (h : wt v ≤ 65536) : sameTop v u = sameP v u := by unfold sameTop; rw [nestP_wt _ _ h,Bool.true_and]
theorem same_vals (v u : Val) (lv kv lu ku : Value) (R R' : Nat → Prop) (w : World) (hv : ValIn w R v lv kv) (hu : ValIn w R' u lu ku) (hwv : wt v ≤ 65536) (hwu : wt u ≤ 1099511627776) :
  Calls Tryz.prog 19 #[arg v lv kv,arg u lu ku] w fun e w' => e = .returned (.bool (sameP v u)) ∧ Below w.heap.size w w' := by
 rw [← same_small v u hwv]
 obtain ⟨so,on,n,t,l,ks⟩ := v
 obtain ⟨so',on',n',t',l',ks'⟩ := u
 exact same_top so so' on on' n n' t t' l l' ks ks' lv kv lu ku R R' w hv hu (by omega) hwu
set_option maxHeartbeats 8000000 in
set_option maxRecDepth 20000 in
theorem samec_any (a b : CallP) (ail aik ach aol aok bil bik bch bol bok : Value) (R R' : Nat → Prop) (w : World) (ha : CallIn w R a ail aik ach aol aok) (hb : CallIn w R' b bil bik bch bol bok)
  (h1 : wt a.id ≤ 65536) (h2 : wt a.other ≤ 65536) (h3 : wt b.id ≤ 1099511627776) (h4 : wt b.other ≤ 1099511627776) (h5 : a.changes.length ≤ 100000) :
  Calls Tryz.prog 34 #[argC a ail aik ach aol aok,argC b bil bik bch bol bok] w fun e w' => e = .returned (.bool (sameC a b)) ∧ Below w.heap.size w w' := by
 have hE1 := ha.edits
 have hE2 := hb.edits
 have cI := fun W (hB : Below w.heap.size w W) => same_vals a.id b.id _ _ _ _ _ _ W (val_below ha.id hB) (val_below hb.id hB) h1 h3
 have cO := fun W (hB : Below w.heap.size w W) => same_vals a.other b.other _ _ _ _ _ _ W (val_below ha.other hB) (val_below hb.other hB) h2 h4
 obtain ⟨ac1,ac2,rfl,_⟩ := hE1
 obtain ⟨bc1,bc2,rfl,_⟩ := hE2
 have cE := fun W (hB : Below w.heap.size w W) => eq_edits a.changes b.changes ac1 bc1 ac2 bc2 _ _ W (EditsIn.later (R' := fun g => R g ∧ g < w.heap.size) ha.edits.bound (fun g hg hlt => hB.block g hg.2) (fun _ h => h)) (EditsIn.later (R' := fun g => R' g ∧ g < w.heap.size) hb.edits.bound (fun g hg hlt => hB.block g hg.2) (fun _ h => h)) h5
 have hi1 := ha.id
 have hi2 := hb.id
 have ho1 := ha.other
 have ho2 := hb.other
 clear ha hb h1 h2 h3 h4 h5
 obtain ⟨ak,⟨aiso,aion,ainn,aitx,ail,aiks⟩,anm,av,atx,ach,⟨apl,apu⟩,⟨aoso,aoon,aonn,aotx,aol,aoks⟩⟩ := a
 obtain ⟨bk,⟨biso,bion,binn,bitx,bil,biks⟩,bnm,bv,btx,bch,⟨bpl,bpu⟩,⟨boso,boon,bonn,botx,bol,boks⟩⟩ := b
 obtain ⟨⟨ai1,ai2,rfl,_⟩,⟨ai3,ai4,rfl,_⟩⟩ := hi1
 obtain ⟨⟨bi1,bi2,rfl,_⟩,⟨bi3,bi4,rfl,_⟩⟩ := hi2
 obtain ⟨⟨ao1,ao2,rfl,_⟩,⟨ao3,ao4,rfl,_⟩⟩ := ho1
 obtain ⟨⟨bo1,bo2,rfl,_⟩,⟨bo3,bo4,rfl,_⟩⟩ := ho2
 unfold sameC
 have hP := fun W => eql_place ⟨apl,apu⟩ ⟨bpl,bpu⟩ W
 simp only [argC,callC,arg,six',six,strCell,List.cons_append,List.nil_append] at cI cO cE hP ⊢
 generalize hx5 : placeB ⟨apl,apu⟩ ⟨bpl,bpu⟩ = x5 at hP ⊢
 generalize editsB ach bch = x6 at cE ⊢
 generalize sameP (.mk aiso aion ainn aitx ail aiks) (.mk biso bion binn bitx bil biks) = x7 at cI ⊢
 generalize sameP (.mk aoso aoon aonn aotx aol aoks) (.mk boso boon bonn botx bol boks) = x8 at cO ⊢
 obtain ⟨x1,hx1⟩ : ∃ x,(ak == bk) = x := ⟨_,rfl⟩
 obtain ⟨x2,hx2⟩ : ∃ x,(anm == bnm) = x := ⟨_,rfl⟩
 obtain ⟨x3,hx3⟩ : ∃ x,(av == bv) = x := ⟨_,rfl⟩
 obtain ⟨x4,hx4⟩ : ∃ x,(atx == btx) = x := ⟨_,rfl⟩
 rw [hx1,hx2,hx3,hx4]
 clear hx5
 obtain ⟨t1,t2,t3,t4⟩ := two w (.cells #[.int .i64 ak,.int .i64 aiso,.bool aion,.int .i64 ainn,.string ⟨aitx.toArray⟩,.slice ai1 ail.length ai2,.slice ai3 aiks.length ai4,.string ⟨anm.toArray⟩,.int .i64 av,.string ⟨atx.toArray⟩,.slice ac1 ach.length ac2,.int .i64 apl,.int .i64 apu,.int .i64 aoso,.bool aoon,.int .i64 aonn,.string ⟨aotx.toArray⟩,.slice ao1 aol.length ao2,.slice ao3 aoks.length ao4] 43) (.cells #[.int .i64 bk,.int .i64 biso,.bool bion,.int .i64 binn,.string ⟨bitx.toArray⟩,.slice bi1 bil.length bi2,.slice bi3 biks.length bi4,.string ⟨bnm.toArray⟩,.int .i64 bv,.string ⟨btx.toArray⟩,.slice bc1 bch.length bc2,.int .i64 bpl,.int .i64 bpu,.int .i64 boso,.bool boon,.int .i64 bonn,.string ⟨botx.toArray⟩,.slice bo1 bol.length bo2,.slice bo3 boks.length bo4] 43)
 obtain ⟨W2,hW2⟩ : ∃ W2,(w.alloc (.cells #[.int .i64 ak,.int .i64 aiso,.bool aion,.int .i64 ainn,.string ⟨aitx.toArray⟩,.slice ai1 ail.length ai2,.slice ai3 aiks.length ai4,.string ⟨anm.toArray⟩,.int .i64 av,.string ⟨atx.toArray⟩,.slice ac1 ach.length ac2,.int .i64 apl,.int .i64 apu,.int .i64 aoso,.bool aoon,.int .i64 aonn,.string ⟨aotx.toArray⟩,.slice ao1 aol.length ao2,.slice ao3 aoks.length ao4] 43)).alloc (.cells #[.int .i64 bk,.int .i64 biso,.bool bion,.int .i64 binn,.string ⟨bitx.toArray⟩,.slice bi1 bil.length bi2,.slice bi3 biks.length bi4,.string ⟨bnm.toArray⟩,.int .i64 bv,.string ⟨btx.toArray⟩,.slice bc1 bch.length bc2,.int .i64 bpl,.int .i64 bpu,.int .i64 boso,.bool boon,.int .i64 bonn,.string ⟨botx.toArray⟩,.slice bo1 bol.length bo2,.slice bo3 boks.length bo4] 43) = W2 := ⟨_,rfl⟩
 rw [hW2] at t1 t2 t3 t4
 have HAW2 := Lib.hid t1
 have HBbW2 := Lib.hid t2
 have HB2 := Lib.hid t3
 have hz2 : w.heap.size + 2 ≤ W2.heap.size := by omega
 have CE := Lib.hid cE
 have CI := Lib.hid cI
 have CO := Lib.hid cO
 clear t1 t2 t3 t4 cE cI cO
 have a0 : W2.cell? ⟨w.heap.size,0,none⟩ = some (.int .i64 ak) := by unfold World.cell?; rw [HAW2.out]; rfl
 have b0 : W2.cell? ⟨w.heap.size + 1,0,none⟩ = some (.int .i64 bk) := by unfold World.cell?; rw [HBbW2.out]; rfl
 have a1 : W2.cell? ⟨w.heap.size,1,none⟩ = some (.int .i64 aiso) := by unfold World.cell?; rw [HAW2.out]; rfl
 have b1 : W2.cell? ⟨w.heap.size + 1,1,none⟩ = some (.int .i64 biso) := by unfold World.cell?; rw [HBbW2.out]; rfl
 have a2 : W2.cell? ⟨w.heap.size,2,none⟩ = some (.bool aion) := by unfold World.cell?; rw [HAW2.out]; rfl
 have b2 : W2.cell? ⟨w.heap.size + 1,2,none⟩ = some (.bool bion) := by unfold World.cell?; rw [HBbW2.out]; rfl
 have a3 : W2.cell? ⟨w.heap.size,3,none⟩ = some (.int .i64 ainn) := by unfold World.cell?; rw [HAW2.out]; rfl
 have b3 : W2.cell? ⟨w.heap.size + 1,3,none⟩ = some (.int .i64 binn) := by unfold World.cell?; rw [HBbW2.out]; rfl
 have a4 : W2.cell? ⟨w.heap.size,4,none⟩ = some (.string ⟨aitx.toArray⟩) := by unfold World.cell?; rw [HAW2.out]; rfl
 have b4 : W2.cell? ⟨w.heap.size + 1,4,none⟩ = some (.string ⟨bitx.toArray⟩) := by unfold World.cell?; rw [HBbW2.out]; rfl
 have a5 : W2.cell? ⟨w.heap.size,5,none⟩ = some (.slice ai1 ail.length ai2) := by unfold World.cell?; rw [HAW2.out]; rfl
 have b5 : W2.cell? ⟨w.heap.size + 1,5,none⟩ = some (.slice bi1 bil.length bi2) := by unfold World.cell?; rw [HBbW2.out]; rfl
 have a6 : W2.cell? ⟨w.heap.size,6,none⟩ = some (.slice ai3 aiks.length ai4) := by unfold World.cell?; rw [HAW2.out]; rfl
 have b6 : W2.cell? ⟨w.heap.size + 1,6,none⟩ = some (.slice bi3 biks.length bi4) := by unfold World.cell?; rw [HBbW2.out]; rfl
 have a7 : W2.cell? ⟨w.heap.size,7,none⟩ = some (.string ⟨anm.toArray⟩) := by unfold World.cell?; rw [HAW2.out]; rfl
 have b7 : W2.cell? ⟨w.heap.size + 1,7,none⟩ = some (.string ⟨bnm.toArray⟩) := by unfold World.cell?; rw [HBbW2.out]; rfl
 have a8 : W2.cell? ⟨w.heap.size,8,none⟩ = some (.int .i64 av) := by unfold World.cell?; rw [HAW2.out]; rfl
 have b8 : W2.cell? ⟨w.heap.size + 1,8,none⟩ = some (.int .i64 bv) := by unfold World.cell?; rw [HBbW2.out]; rfl
 have a9 : W2.cell? ⟨w.heap.size,9,none⟩ = some (.string ⟨atx.toArray⟩) := by unfold World.cell?; rw [HAW2.out]; rfl
 have b9 : W2.cell? ⟨w.heap.size + 1,9,none⟩ = some (.string ⟨btx.toArray⟩) := by unfold World.cell?; rw [HBbW2.out]; rfl
 have a10 : W2.cell? ⟨w.heap.size,10,none⟩ = some (.slice ac1 ach.length ac2) := by unfold World.cell?; rw [HAW2.out]; rfl
 have b10 : W2.cell? ⟨w.heap.size + 1,10,none⟩ = some (.slice bc1 bch.length bc2) := by unfold World.cell?; rw [HBbW2.out]; rfl
 have a11 : W2.cell? ⟨w.heap.size,11,none⟩ = some (.int .i64 apl) := by unfold World.cell?; rw [HAW2.out]; rfl
 have b11 : W2.cell? ⟨w.heap.size + 1,11,none⟩ = some (.int .i64 bpl) := by unfold World.cell?; rw [HBbW2.out]; rfl
 have a12 : W2.cell? ⟨w.heap.size,12,none⟩ = some (.int .i64 apu) := by unfold World.cell?; rw [HAW2.out]; rfl
 have b12 : W2.cell? ⟨w.heap.size + 1,12,none⟩ = some (.int .i64 bpu) := by unfold World.cell?; rw [HBbW2.out]; rfl
 have a13 : W2.cell? ⟨w.heap.size,13,none⟩ = some (.int .i64 aoso) := by unfold World.cell?; rw [HAW2.out]; rfl
 have b13 : W2.cell? ⟨w.heap.size + 1,13,none⟩ = some (.int .i64 boso) := by unfold World.cell?; rw [HBbW2.out]; rfl
 have a14 : W2.cell? ⟨w.heap.size,14,none⟩ = some (.bool aoon) := by unfold World.cell?; rw [HAW2.out]; rfl
 have b14 : W2.cell? ⟨w.heap.size + 1,14,none⟩ = some (.bool boon) := by unfold World.cell?; rw [HBbW2.out]; rfl
 have a15 : W2.cell? ⟨w.heap.size,15,none⟩ = some (.int .i64 aonn) := by unfold World.cell?; rw [HAW2.out]; rfl
 have b15 : W2.cell? ⟨w.heap.size + 1,15,none⟩ = some (.int .i64 bonn) := by unfold World.cell?; rw [HBbW2.out]; rfl
 have a16 : W2.cell? ⟨w.heap.size,16,none⟩ = some (.string ⟨aotx.toArray⟩) := by unfold World.cell?; rw [HAW2.out]; rfl
 have b16 : W2.cell? ⟨w.heap.size + 1,16,none⟩ = some (.string ⟨botx.toArray⟩) := by unfold World.cell?; rw [HBbW2.out]; rfl
 have a17 : W2.cell? ⟨w.heap.size,17,none⟩ = some (.slice ao1 aol.length ao2) := by unfold World.cell?; rw [HAW2.out]; rfl
 have b17 : W2.cell? ⟨w.heap.size + 1,17,none⟩ = some (.slice bo1 bol.length bo2) := by unfold World.cell?; rw [HBbW2.out]; rfl
 have a18 : W2.cell? ⟨w.heap.size,18,none⟩ = some (.slice ao3 aoks.length ao4) := by unfold World.cell?; rw [HAW2.out]; rfl
 have b18 : W2.cell? ⟨w.heap.size + 1,18,none⟩ = some (.slice bo3 boks.length bo4) := by unfold World.cell?; rw [HBbW2.out]; rfl
 go_enter Tryz.func34,Tryz.ntmps34
 go_upto_region 1 with fail
 clear hW2
 cases x1 with
 | false =>
  go_wp2_with fail
  go_ret
  exact ⟨by simp,HB2.out⟩
 | true =>
  cases x2 with
  | false =>
   go_wp2_with fail
   go_ret
   exact ⟨by simp,HB2.out⟩
  | true =>
   cases x3 with
   | false =>
    go_wp2_with fail
    go_ret
    exact ⟨by simp,HB2.out⟩
   | true =>
    cases x4 with
    | false =>
     go_wp2_with fail
     go_ret
     exact ⟨by simp,HB2.out⟩
    | true =>
     cases x5 with
     | false =>
      go_wp2_with fail
      go_ret
      exact ⟨by simp,HB2.out⟩
     | true =>
      go_wp2_with fail
      refine (CE.out _ HB2.out).mono ?_
      rintro e w3 ⟨rfl,hb3⟩
      have HB3 := Lib.hid (HB2.out.trans (hb3.mono HB2.out.size))
      have HAw3 := Lib.hid ((hb3.block w.heap.size (by omega)).trans HAW2.out)
      have HBbw3 := Lib.hid ((hb3.block (w.heap.size + 1) (by omega)).trans HBbW2.out)
      have hzw3 := hb3.size
      clear a0 b0 a1 b1 a2 b2 a3 b3 a4 b4 a5 b5 a6 b6 a7 b7 a8 b8 a9 b9 a10 b10 a11 b11 a12 b12 a13 b13 a14 b14 a15 b15 a16 b16 a17 b17 a18 b18
      have a0 : w3.cell? ⟨w.heap.size,0,none⟩ = some (.int .i64 ak) := by unfold World.cell?; rw [HAw3.out]; rfl
      have b0 : w3.cell? ⟨w.heap.size + 1,0,none⟩ = some (.int .i64 bk) := by unfold World.cell?; rw [HBbw3.out]; rfl
      have a1 : w3.cell? ⟨w.heap.size,1,none⟩ = some (.int .i64 aiso) := by unfold World.cell?; rw [HAw3.out]; rfl
      have b1 : w3.cell? ⟨w.heap.size + 1,1,none⟩ = some (.int .i64 biso) := by unfold World.cell?; rw [HBbw3.out]; rfl
      have a2 : w3.cell? ⟨w.heap.size,2,none⟩ = some (.bool aion) := by unfold World.cell?; rw [HAw3.out]; rfl
      have b2 : w3.cell? ⟨w.heap.size + 1,2,none⟩ = some (.bool bion) := by unfold World.cell?; rw [HBbw3.out]; rfl
      have a3 : w3.cell? ⟨w.heap.size,3,none⟩ = some (.int .i64 ainn) := by unfold World.cell?; rw [HAw3.out]; rfl
      have b3 : w3.cell? ⟨w.heap.size + 1,3,none⟩ = some (.int .i64 binn) := by unfold World.cell?; rw [HBbw3.out]; rfl
      have a4 : w3.cell? ⟨w.heap.size,4,none⟩ = some (.string ⟨aitx.toArray⟩) := by unfold World.cell?; rw [HAw3.out]; rfl
      have b4 : w3.cell? ⟨w.heap.size + 1,4,none⟩ = some (.string ⟨bitx.toArray⟩) := by unfold World.cell?; rw [HBbw3.out]; rfl
      have a5 : w3.cell? ⟨w.heap.size,5,none⟩ = some (.slice ai1 ail.length ai2) := by unfold World.cell?; rw [HAw3.out]; rfl
      have b5 : w3.cell? ⟨w.heap.size + 1,5,none⟩ = some (.slice bi1 bil.length bi2) := by unfold World.cell?; rw [HBbw3.out]; rfl
      have a6 : w3.cell? ⟨w.heap.size,6,none⟩ = some (.slice ai3 aiks.length ai4) := by unfold World.cell?; rw [HAw3.out]; rfl
      have b6 : w3.cell? ⟨w.heap.size + 1,6,none⟩ = some (.slice bi3 biks.length bi4) := by unfold World.cell?; rw [HBbw3.out]; rfl
      have a7 : w3.cell? ⟨w.heap.size,7,none⟩ = some (.string ⟨anm.toArray⟩) := by unfold World.cell?; rw [HAw3.out]; rfl
      have b7 : w3.cell? ⟨w.heap.size + 1,7,none⟩ = some (.string ⟨bnm.toArray⟩) := by unfold World.cell?; rw [HBbw3.out]; rfl
      have a8 : w3.cell? ⟨w.heap.size,8,none⟩ = some (.int .i64 av) := by unfold World.cell?; rw [HAw3.out]; rfl
      have b8 : w3.cell? ⟨w.heap.size + 1,8,none⟩ = some (.int .i64 bv) := by unfold World.cell?; rw [HBbw3.out]; rfl
      have a9 : w3.cell? ⟨w.heap.size,9,none⟩ = some (.string ⟨atx.toArray⟩) := by unfold World.cell?; rw [HAw3.out]; rfl
      have b9 : w3.cell? ⟨w.heap.size + 1,9,none⟩ = some (.string ⟨btx.toArray⟩) := by unfold World.cell?; rw [HBbw3.out]; rfl
      have a10 : w3.cell? ⟨w.heap.size,10,none⟩ = some (.slice ac1 ach.length ac2) := by unfold World.cell?; rw [HAw3.out]; rfl
      have b10 : w3.cell? ⟨w.heap.size + 1,10,none⟩ = some (.slice bc1 bch.length bc2) := by unfold World.cell?; rw [HBbw3.out]; rfl
      have a11 : w3.cell? ⟨w.heap.size,11,none⟩ = some (.int .i64 apl) := by unfold World.cell?; rw [HAw3.out]; rfl
      have b11 : w3.cell? ⟨w.heap.size + 1,11,none⟩ = some (.int .i64 bpl) := by unfold World.cell?; rw [HBbw3.out]; rfl
      have a12 : w3.cell? ⟨w.heap.size,12,none⟩ = some (.int .i64 apu) := by unfold World.cell?; rw [HAw3.out]; rfl
      have b12 : w3.cell? ⟨w.heap.size + 1,12,none⟩ = some (.int .i64 bpu) := by unfold World.cell?; rw [HBbw3.out]; rfl
      have a13 : w3.cell? ⟨w.heap.size,13,none⟩ = some (.int .i64 aoso) := by unfold World.cell?; rw [HAw3.out]; rfl
      have b13 : w3.cell? ⟨w.heap.size + 1,13,none⟩ = some (.int .i64 boso) := by unfold World.cell?; rw [HBbw3.out]; rfl
      have a14 : w3.cell? ⟨w.heap.size,14,none⟩ = some (.bool aoon) := by unfold World.cell?; rw [HAw3.out]; rfl
      have b14 : w3.cell? ⟨w.heap.size + 1,14,none⟩ = some (.bool boon) := by unfold World.cell?; rw [HBbw3.out]; rfl
      have a15 : w3.cell? ⟨w.heap.size,15,none⟩ = some (.int .i64 aonn) := by unfold World.cell?; rw [HAw3.out]; rfl
      have b15 : w3.cell? ⟨w.heap.size + 1,15,none⟩ = some (.int .i64 bonn) := by unfold World.cell?; rw [HBbw3.out]; rfl
      have a16 : w3.cell? ⟨w.heap.size,16,none⟩ = some (.string ⟨aotx.toArray⟩) := by unfold World.cell?; rw [HAw3.out]; rfl
      have b16 : w3.cell? ⟨w.heap.size + 1,16,none⟩ = some (.string ⟨botx.toArray⟩) := by unfold World.cell?; rw [HBbw3.out]; rfl
      have a17 : w3.cell? ⟨w.heap.size,17,none⟩ = some (.slice ao1 aol.length ao2) := by unfold World.cell?; rw [HAw3.out]; rfl
      have b17 : w3.cell? ⟨w.heap.size + 1,17,none⟩ = some (.slice bo1 bol.length bo2) := by unfold World.cell?; rw [HBbw3.out]; rfl
      have a18 : w3.cell? ⟨w.heap.size,18,none⟩ = some (.slice ao3 aoks.length ao4) := by unfold World.cell?; rw [HAw3.out]; rfl
      have b18 : w3.cell? ⟨w.heap.size + 1,18,none⟩ = some (.slice bo3 boks.length bo4) := by unfold World.cell?; rw [HBbw3.out]; rfl
      clear CE hb3
      cases x6 with
      | false =>
       go_wp2_with fail
       go_ret
       exact ⟨by simp,HB3.out⟩
      | true =>
       go_wp2_with fail
       refine (CI.out _ HB3.out).mono ?_
       rintro e w4 ⟨rfl,hb4⟩
       have HB4 := Lib.hid (HB3.out.trans (hb4.mono HB3.out.size))
       have HAw4 := Lib.hid ((hb4.block w.heap.size (by omega)).trans HAw3.out)
       have HBbw4 := Lib.hid ((hb4.block (w.heap.size + 1) (by omega)).trans HBbw3.out)
       have hzw4 := hb4.size
       clear a0 b0 a1 b1 a2 b2 a3 b3 a4 b4 a5 b5 a6 b6 a7 b7 a8 b8 a9 b9 a10 b10 a11 b11 a12 b12 a13 b13 a14 b14 a15 b15 a16 b16 a17 b17 a18 b18
       have a0 : w4.cell? ⟨w.heap.size,0,none⟩ = some (.int .i64 ak) := by unfold World.cell?; rw [HAw4.out]; rfl
       have b0 : w4.cell? ⟨w.heap.size + 1,0,none⟩ = some (.int .i64 bk) := by unfold World.cell?; rw [HBbw4.out]; rfl
       have a1 : w4.cell? ⟨w.heap.size,1,none⟩ = some (.int .i64 aiso) := by unfold World.cell?; rw [HAw4.out]; rfl
       have b1 : w4.cell? ⟨w.heap.size + 1,1,none⟩ = some (.int .i64 biso) := by unfold World.cell?; rw [HBbw4.out]; rfl
       have a2 : w4.cell? ⟨w.heap.size,2,none⟩ = some (.bool aion) := by unfold World.cell?; rw [HAw4.out]; rfl
       have b2 : w4.cell? ⟨w.heap.size + 1,2,none⟩ = some (.bool bion) := by unfold World.cell?; rw [HBbw4.out]; rfl
       have a3 : w4.cell? ⟨w.heap.size,3,none⟩ = some (.int .i64 ainn) := by unfold World.cell?; rw [HAw4.out]; rfl
       have b3 : w4.cell? ⟨w.heap.size + 1,3,none⟩ = some (.int .i64 binn) := by unfold World.cell?; rw [HBbw4.out]; rfl
       have a4 : w4.cell? ⟨w.heap.size,4,none⟩ = some (.string ⟨aitx.toArray⟩) := by unfold World.cell?; rw [HAw4.out]; rfl
       have b4 : w4.cell? ⟨w.heap.size + 1,4,none⟩ = some (.string ⟨bitx.toArray⟩) := by unfold World.cell?; rw [HBbw4.out]; rfl
       have a5 : w4.cell? ⟨w.heap.size,5,none⟩ = some (.slice ai1 ail.length ai2) := by unfold World.cell?; rw [HAw4.out]; rfl
       have b5 : w4.cell? ⟨w.heap.size + 1,5,none⟩ = some (.slice bi1 bil.length bi2) := by unfold World.cell?; rw [HBbw4.out]; rfl
       have a6 : w4.cell? ⟨w.heap.size,6,none⟩ = some (.slice ai3 aiks.length ai4) := by unfold World.cell?; rw [HAw4.out]; rfl
       have b6 : w4.cell? ⟨w.heap.size + 1,6,none⟩ = some (.slice bi3 biks.length bi4) := by unfold World.cell?; rw [HBbw4.out]; rfl
       have a7 : w4.cell? ⟨w.heap.size,7,none⟩ = some (.string ⟨anm.toArray⟩) := by unfold World.cell?; rw [HAw4.out]; rfl
       have b7 : w4.cell? ⟨w.heap.size + 1,7,none⟩ = some (.string ⟨bnm.toArray⟩) := by unfold World.cell?; rw [HBbw4.out]; rfl
       have a8 : w4.cell? ⟨w.heap.size,8,none⟩ = some (.int .i64 av) := by unfold World.cell?; rw [HAw4.out]; rfl
       have b8 : w4.cell? ⟨w.heap.size + 1,8,none⟩ = some (.int .i64 bv) := by unfold World.cell?; rw [HBbw4.out]; rfl
       have a9 : w4.cell? ⟨w.heap.size,9,none⟩ = some (.string ⟨atx.toArray⟩) := by unfold World.cell?; rw [HAw4.out]; rfl
       have b9 : w4.cell? ⟨w.heap.size + 1,9,none⟩ = some (.string ⟨btx.toArray⟩) := by unfold World.cell?; rw [HBbw4.out]; rfl
       have a10 : w4.cell? ⟨w.heap.size,10,none⟩ = some (.slice ac1 ach.length ac2) := by unfold World.cell?; rw [HAw4.out]; rfl
       have b10 : w4.cell? ⟨w.heap.size + 1,10,none⟩ = some (.slice bc1 bch.length bc2) := by unfold World.cell?; rw [HBbw4.out]; rfl
       have a11 : w4.cell? ⟨w.heap.size,11,none⟩ = some (.int .i64 apl) := by unfold World.cell?; rw [HAw4.out]; rfl
       have b11 : w4.cell? ⟨w.heap.size + 1,11,none⟩ = some (.int .i64 bpl) := by unfold World.cell?; rw [HBbw4.out]; rfl
       have a12 : w4.cell? ⟨w.heap.size,12,none⟩ = some (.int .i64 apu) := by unfold World.cell?; rw [HAw4.out]; rfl
       have b12 : w4.cell? ⟨w.heap.size + 1,12,none⟩ = some (.int .i64 bpu) := by unfold World.cell?; rw [HBbw4.out]; rfl
       have a13 : w4.cell? ⟨w.heap.size,13,none⟩ = some (.int .i64 aoso) := by unfold World.cell?; rw [HAw4.out]; rfl
       have b13 : w4.cell? ⟨w.heap.size + 1,13,none⟩ = some (.int .i64 boso) := by unfold World.cell?; rw [HBbw4.out]; rfl
       have a14 : w4.cell? ⟨w.heap.size,14,none⟩ = some (.bool aoon) := by unfold World.cell?; rw [HAw4.out]; rfl
       have b14 : w4.cell? ⟨w.heap.size + 1,14,none⟩ = some (.bool boon) := by unfold World.cell?; rw [HBbw4.out]; rfl
       have a15 : w4.cell? ⟨w.heap.size,15,none⟩ = some (.int .i64 aonn) := by unfold World.cell?; rw [HAw4.out]; rfl
       have b15 : w4.cell? ⟨w.heap.size + 1,15,none⟩ = some (.int .i64 bonn) := by unfold World.cell?; rw [HBbw4.out]; rfl
       have a16 : w4.cell? ⟨w.heap.size,16,none⟩ = some (.string ⟨aotx.toArray⟩) := by unfold World.cell?; rw [HAw4.out]; rfl
       have b16 : w4.cell? ⟨w.heap.size + 1,16,none⟩ = some (.string ⟨botx.toArray⟩) := by unfold World.cell?; rw [HBbw4.out]; rfl
       have a17 : w4.cell? ⟨w.heap.size,17,none⟩ = some (.slice ao1 aol.length ao2) := by unfold World.cell?; rw [HAw4.out]; rfl
       have b17 : w4.cell? ⟨w.heap.size + 1,17,none⟩ = some (.slice bo1 bol.length bo2) := by unfold World.cell?; rw [HBbw4.out]; rfl
       have a18 : w4.cell? ⟨w.heap.size,18,none⟩ = some (.slice ao3 aoks.length ao4) := by unfold World.cell?; rw [HAw4.out]; rfl
       have b18 : w4.cell? ⟨w.heap.size + 1,18,none⟩ = some (.slice bo3 boks.length bo4) := by unfold World.cell?; rw [HBbw4.out]; rfl
       clear CI hb4
       cases x7 with
       | false =>
        go_wp2_with fail
        go_ret
        exact ⟨by simp,HB4.out⟩
       | true =>
        go_wp2_with fail
        refine (CO.out _ HB4.out).mono ?_
        rintro e w5 ⟨rfl,hb5⟩
        have HB5 := Lib.hid (HB4.out.trans (hb5.mono HB4.out.size))
        clear hb5 CO
        go_wp2_with fail
        go_ret
        exact ⟨by simp,HB5.out⟩
end Go.Proofs.YtcfdalbdndamoaaGreatDoor.M
namespace Go.Proofs.YtcfdalbdndamoaaGreatDoor.M
open Go.RowKit
open Go.Lib Go.Proofs.YtcfdalbdndamoaaGreatDoor.V
structure PSt (B : Nat) (ps : List (List UInt8 × Val)) (v : Value) (n : Nat) (xs : List Value) (W : World) : Prop where
 own : W.ownsRow B 78 7 v n xs
 parts : PartsL W (fun g => B ≤ g ∧ v.ownBlock ≠ some g) ps xs
theorem PSt.nil (B : Nat) (W : World) : PSt B [] (.slice none 0 0) 0 [] W := ⟨World.ownsRow_nil _ _ _ _,rfl⟩
theorem PSt.later {B n : Nat} {ps : List (List UInt8 × Val)} {v : Value} {xs : List Value} {W W' : World} (h : PSt B ps v n xs W) (hb : Below W.heap.size W W') : PSt B ps v n xs W' :=
 ⟨ownsRow_same h.own fun g hg => hb.block g (row_lt h.own g hg).2,PartsL.later (fun g _ hlt => hb.block g hlt) (fun _ h => h) _ _ h.parts⟩
theorem PSt.step {B n gg cap : Nat} {ps : List (List UInt8 × Val)} {v : Value} {xs : List Value} {W w2 w3 : World} {zo : Obj} {key : List UInt8} {val : Val} {lv kv : Value} (h : PSt B ps v n xs W) (hb2 : Below W.heap.size W w2) (hv : ValIn w2 (fun g => W.heap.size ≤ g) val lv kv) (hB : B ≤ W.heap.size)
  (hgrow : (w2.alloc zo).grownBy w3 v.ownBlock) (hown3 : w3.ownsRow B 78 7 (.slice (some ⟨gg,0,none⟩) (n + 1) cap) (n + 1) (xs ++ (strCell key :: six' val lv kv))) (hat : v.ownBlock = some gg ∨ gg = w2.heap.size + 1) :
  PSt B (ps ++ [(key,val)]) (.slice (some ⟨gg,0,none⟩) (n + 1) cap) (n + 1) (xs ++ (strCell key :: six' val lv kv)) w3 ∧ Below B W w3 := by
 have hrow : ∀ k,v.ownBlock = some k → B ≤ k ∧ k < W.heap.size := fun k hk => row_lt h.own k hk
 have hz2 := hb2.size
 have hs3 := hgrow.size
 simp only [World.size_alloc] at hs3
 have hgB := (row_lt hown3 gg rfl).1
 have hggw : ∀ k,k < w2.heap.size → v.ownBlock ≠ some k → k ≠ gg := fun k hk hne h => by
  subst h; rcases hat with h | h
  ·exact hne h
  ·omega
 have far3 : ∀ k,k < w2.heap.size → v.ownBlock ≠ some k → w3.heap[k]? = w2.heap[k]? := fun k hk hne => by
  rw [hgrow.block k (by simp; omega) (fun h => hne h.symm)]
  exact Below.heap_alloc w2 zo k (by omega)
 refine ⟨⟨hown3,?_⟩,hgrow.os.trans hb2.os,hgrow.tape.trans hb2.tape,hgrow.output.trans hb2.output,by omega,fun k hk => ?_⟩
 ·refine PartsL.append ?_ ⟨lv,kv,[],by simp,?_,rfl⟩
  ·refine PartsL.later (R := fun g => (B ≤ g ∧ v.ownBlock ≠ some g) ∧ g < W.heap.size) (fun g hg hlt => ?_) (fun g hg => ?_) _ _ (PartsL.bound _ _ h.parts)
   ·exact (far3 g (by omega) hg.1.2).trans (hb2.block g hlt)
   ·refine ⟨hg.1.1,fun h2 => ?_⟩
    have h2 : gg = g := by simpa [Value.ownBlock] using h2
    exact hggw g (by omega) hg.1.2 h2.symm
  ·refine ValIn.later (R := fun g => W.heap.size ≤ g ∧ g < w2.heap.size) (fun g hg hlt => ?_) (fun g hg => ?_) _ _ _ (ValIn.bound _ _ _ hv)
   ·have hne : v.ownBlock ≠ some g := fun h => by have := hrow g h; omega
    exact far3 g hlt hne
   ·have hne : v.ownBlock ≠ some g := fun h => by have := hrow g h; omega
    refine ⟨by omega,fun h2 => ?_⟩
    have h2 : gg = g := by simpa [Value.ownBlock] using h2
    exact hggw g hg.2 hne h2.symm
 ·have hne : v.ownBlock ≠ some k := fun h => by have := hrow k h; omega
  exact (far3 k (by omega) hne).trans (hb2.block k (by omega))
theorem PSt.at {B n gg cap : Nat} {ps : List (List UInt8 × Val)} {xs : List Value} {W : World} (h : PSt B ps (.slice (some ⟨gg,0,none⟩) n cap) n xs W) : PartsAt W (fun g => B ≤ g) ps gg 0 :=
 ⟨xs,cells_of_own h.own,PartsL.later (fun _ _ _ => rfl) (fun _ h => h.1) _ _ h.parts⟩
theorem method_of (k : Int) : methodP (ofK k) = methodP k ∧ toldK (ofK k) = toldK k := by
 unfold ofK
 split
 ·exact ⟨rfl,rfl⟩
 ·rename_i h
  constructor
  ·unfold methodP
   rw [if_neg (by omega),if_neg (by omega),if_neg (by omega),if_neg (by omega),if_neg (by omega),if_neg (by omega),if_neg (by omega),if_neg (by omega),if_neg (by omega),if_neg (by omega),if_neg (by omega),if_neg (by omega),if_neg (by omega),if_neg (by omega),if_neg (by omega),if_neg (by omega),if_neg (by omega),if_neg (by omega)]
  ·unfold toldK
   rw [decide_eq_false (by omega),decide_eq_false (by omega)]
structure Light (N : Nat) (d : CallP) : Prop where
 id : wt d.id ≤ N
 other : wt d.other ≤ N
 edits : d.changes.length ≤ N
theorem zV_wt {v : Val} {N : Nat} (h : wt v ≤ N) : wt zV ≤ N := by
 have h1 := wt_pos v
 have h2 : wt zV = 1 := by decide
 omega
theorem listL (l : List Val) : l.length ≤ wtL l := wtL_length l
theorem call0_light {N : Nat} (k : Int) {i : Val} (hi : wt i ≤ N) : Light N (call0 k i) := ⟨hi,zV_wt hi,Nat.zero_le _⟩
theorem params_light {N : Nat} (k : Int) {i p : Val} (hi : wt i ≤ N) (hp : wt p ≤ N) : Light N (paramsP k i p) := by
 unfold paramsP
 split
 ·exact call0_light k hi
 split
 ·exact ⟨hi,Nat.le_trans (getZ_wt p _) hp,Nat.zero_le _⟩
 ·refine ⟨hi,zV_wt hi,?_⟩
  show (if k = 5 then changesAt p else []).length ≤ N
  split
  ·unfold changesAt
   rw [List.length_map]
   exact Nat.le_trans (listL _) (Nat.le_trans (list_wt _) (Nat.le_trans (getZ_wt p _) hp))
  ·exact Nat.zero_le _
theorem read_light {N : Nat} {v : Val} (h : wt v ≤ N) : Light N (readW v).1 := by
 have hi := Nat.le_trans (getZ_wt v [bId]) h
 have hp := Nat.le_trans (getZ_wt v [bParams]) h
 have hz := zV_wt h
 unfold readW
 split
 ·unfold readM
  split
  ·exact call0_light _ hz
  split
  ·exact call0_light _ hi
  split
  ·exact params_light _ hi hp
  ·exact call0_light _ hi
 ·exact call0_light _ hz
end Go.Proofs.YtcfdalbdndamoaaGreatDoor.M
namespace Go.Proofs.YtcfdalbdndamoaaGreatDoor.M
open Go.RowKit
open Go.Lib Go.Proofs.YtcfdalbdndamoaaGreatDoor.V
def WriteP (c : CallP) (w : World) (e : Ending) (w' : World) : Prop :=
 Below w.heap.size w w' ∧ ∃ lv kv,e = .returned (.tuple #[arg (if writesB c = true then messageW c else zV) lv kv,.int .i64 (if writesB c = true then 0 else 42)]) ∧ ValIn w' (fun b => w.heap.size ≤ b) (if writesB c = true then messageW c else zV) lv kv
theorem results_val {fn : Func} {p u : Tmp} (h : fn.results = #[.cell p 36,.tmp u]) {tmps : Array Value} {W : World} {q : Nat} {y0 y1 y2 y3 y4 y5 : Value} (hp : tmps.getD p undef = .pointer (some ⟨q,0,none⟩)) (hc : W.heap[q]? = some (.cells #[y0,y1,y2,y3,y4,y5] 36 (0,0))) :
  (results fn tmps).run Tryz.prog W = .ok (.tuple #[.agg #[y0,y1,y2,y3,y4,y5],tmps.getD u undef]) W := by
 rw [results_cell_tmp h,hp]
 have hl := run_loadVar_row (P := Tryz.prog) W q 36 36 #[y0,y1,y2,y3,y4,y5] (0,0) _ hc Tryz.underlying36 rfl (by kernel_rfl)
 simp [asAddr,Result.andThen,hl]
theorem wp_loadV {P : Program} {w : World} {o : Oper} {a : Act} {K : Act → World → Prop} {Q : Exit → Act → World → Prop} (t : TypeId) (x : Operand) (ho : o.op = .load t x) (v : Value)
  (hr : (Instr.loadAt t (a.eval x)).run P w = .ok v w) (h : K (a.put o.dst v) w) : o.wp P a w K Q := by
 unfold Oper.wp
 simp [execOp,ho,hr,Result.andThen]
 exact h
theorem tab_lt {W : World} (h : MTab W) : 0 < W.heap.size := cells_lt h (by simp [tabM])
theorem MTab.later' {B : Nat} {W W' : World} (h : MTab W) (hb : Below B W W') (hB : 0 < B) : MTab W' := CellsAt.later (R := fun g => g < B) h hB (fun g hg _ => hb.block g hg)
end Go.Proofs.YtcfdalbdndamoaaGreatDoor.M
