/- What the claim needs of the texts VRead8, VLen, VRead9, VNest. -/
import Derived.Test.YtpbnhnilfpoljaaGreatDoorRB5
import Derived.Deep.RegionLaw
import Derived.Deep.AppendLies
import Derived.OwnWalk
import Derived.Laws.Pointers
import Derived.Test.YtpbnhnilfpoljaaGreatDoorRB4
namespace Go.Proofs.YtpbnhnilfpoljaaGreatDoor.V
open Go.RowKit
open Go.Lib
theorem infoV:(Tryz.prog.info? 36).map (fun i=>(i.zero,i.size,i.bytes))=some (some (.agg #[.int .i64 0,.bool false,.int .i64 0,.string ⟨#[]⟩,.slice none 0 0,.slice none 0 0]),6,88):=by kernel_rfl
theorem row_cells {W:World} {Bl g n cap:Nat} {xs:List Value} (h:W.ownsRow Bl 36 6 (.slice (some ⟨g,0,none⟩) (n+1) cap) (n+1) xs) :
  Bl≤g∧(∀ j,j<6→∃ u,W.cell? ⟨g,n*6+j,none⟩=some u)∧(∀ i,W.frozen? ⟨g,i,none⟩=false):=by
 rcases h.2 with ⟨h2,_⟩|⟨g',cap',cur,he,hg,hgg,hle,hcap,hsz,htake⟩
 ·cases h2
 ·cases he
  refine ⟨hg,fun j hj=>?_,fun i=>by unfold World.frozen?;rw [hgg];simp⟩
  have:n*6+j<cur.size:=by rw [hsz];omega
  exact ⟨cur[n*6+j],by unfold World.cell?;rw [hgg];simp [this]⟩
theorem row_cells0 {W:World} {Bl g cap:Nat} {xs:List Value} (h:W.ownsRow Bl 36 6 (.slice (some ⟨g,0,none⟩) (0+1) cap) (0+1) xs) :
  Bl≤g∧(∀ j,j<6→∃ u,W.cell? ⟨g,j,none⟩=some u)∧(∀ i,W.frozen? ⟨g,i,none⟩=false):=by
 have:=row_cells (n:=0) h
 simpa using this
theorem oneCell_six (so n:Int) (on:Bool) (t:List UInt8) (a b:Option Addr) (n1 c1 n2 c2:Nat):∀ u∈[Value.int .i64 so,.bool on,.int .i64 n,.string ⟨t.toArray⟩,.slice a n1 c1,.slice b n2 c2],u.oneCell'=true:=by
 intro u hu
 simp at hu
 rcases hu with rfl|rfl|rfl|rfl|rfl|rfl <;> rfl
set_option maxHeartbeats 8000000 in
set_option maxRecDepth 100000 in
theorem part_any (d b Bl n:Nat) (s:ByteArray) (o:Int) (so:Int) (lv kv:Value) (xs:List Value) (vs:List Val) (r:Res Val) (w:World)
  (hb:w.heap[b]?=some (.cells (six so false 0 [] lv kv).toArray 36 (0,0))) (hown:w.ownsRow Bl 36 6 lv n xs) (hn:n=vs.length) (A:Nat→Prop) (hA:∀ g,A g→g<w.heap.size) (hin:ListIn w (fun g=>Bl≤g∧lv.ownBlock≠some g∧¬ A g) vs xs)
  (hdl:d<Bl) (hbl:b<Bl) (hdb:d≠b) (hBl:Bl≤w.heap.size) (hn2:n≤1099511627776)
  (hval:Calls Tryz.prog 45 #[.pointer (some ⟨d,0,none⟩)] w (ReadsV d s o r w)) :
  Calls Tryz.prog 112 #[.pointer (some ⟨d,0,none⟩),.pointer (some ⟨b,0,none⟩)] w (ReadsE d b s o so kv lv A Bl vs r w):=by
 obtain ⟨i0,hi0,hz0,hz1,hz2⟩:=info_parts infoV
 have HN:=Lib.hid hn
 clear hn
 cases r with
 | bad =>
  go_enter Tryz.func112,Tryz.ntmps112
  go_wp2_with fail
  refine hval.mono ?_;rintro e w1 ⟨hm1,rfl,l1,hr1⟩
  simp only [six,strCell]
  go_wp2_with fail
  go_ret
  exact ⟨rfl,⟨l1,hr1.below ((Below.refl _ _).alloc (Nat.le_refl _) _)⟩,hm1.alloc hm1.size _⟩
 | deep =>
  go_enter Tryz.func112,Tryz.ntmps112
  go_wp2_with fail
  refine hval.mono ?_;rintro e w1 ⟨hm1,rfl,l1,hr1⟩
  simp only [six,strCell]
  go_wp2_with fail
  go_ret
  exact ⟨rfl,⟨l1,hr1.below ((Below.refl _ _).alloc (Nat.le_refl _) _)⟩,hm1.alloc hm1.size _⟩
 | ok v rest =>
  obtain ⟨vso,von,vn,vt,vl,vks⟩:=v
  have hn63:(0:Int)≤n:=by omega
  have hn64:(n:Int)<(n:Int)+1:=by omega
  rcases hown.2 with ⟨rfl,rfl⟩|⟨g,cap,cur,rfl,hg,hgg,hle,hcap,hsz,htake⟩
  ·go_enter Tryz.func112,Tryz.ntmps112
   go_wp2_with fail
   refine hval.mono ?_;rintro e w1 ⟨hm1,lv1,kv1,rfl,hv1,hr1⟩
   have hv1':=hv1
   obtain ⟨⟨a1,cap1,rfl,_⟩,⟨a2,cap2,rfl,_⟩⟩:=hv1'
   have hlt:=(Array.getElem?_eq_some_iff.1 hb).1
   have zw1:=hm1.size
   have hb1:w1.heap[b]?=_:=(hm1.block b hlt (by omega)).trans hb
   have hown1:w1.ownsRow Bl 36 6 (.slice none 0 0) 0 xs:=⟨hown.1,.inl ⟨rfl,rfl⟩⟩
   have HB:=Lib.hid hb
   have HOWN:=Lib.hid hown
   have HM1:=Lib.hid hm1
   have HV1:=Lib.hid hv1
   clear hown hval hb hv1
   simp only [six,strCell]
   go_wp2_with fail
   have hB2:∀ ob,(w1.alloc ob).heap[b]?=_:=fun ob=>((Below.refl w1.heap.size w1).alloc (Nat.le_refl _) ob).block b (by omega) |>.trans hb1
   have hP2:∀ ob,(w1.alloc ob).heap[w1.heap.size]?=some ob:=fun ob=>heap_alloc_new w1 ob
   have hO2:∀ ob,(w1.alloc ob).ownsRow Bl 36 6 (.slice none 0 0) 0 xs:=fun ob=>hown1.alloc ob
   have hb2:=hB2 (.cells #[.int .i64 vso,.bool von,.int .i64 vn,.string ⟨vt.toArray⟩,.slice a1 vl.length cap1,.slice a2 vks.length cap2] 36)
   have hp2:=hP2 (.cells #[.int .i64 vso,.bool von,.int .i64 vn,.string ⟨vt.toArray⟩,.slice a1 vl.length cap1,.slice a2 vks.length cap2] 36)
   have hown2:=hO2 (.cells #[.int .i64 vso,.bool von,.int .i64 vn,.string ⟨vt.toArray⟩,.slice a1 vl.length cap1,.slice a2 vks.length cap2] 36)
   have hbel2:Below w1.heap.size w1 (w1.alloc (.cells #[.int .i64 vso,.bool von,.int .i64 vn,.string ⟨vt.toArray⟩,.slice a1 vl.length cap1,.slice a2 vks.length cap2] 36)):=(Below.refl _ _).alloc (Nat.le_refl _) _
   have zw2:(w1.alloc (.cells #[.int .i64 vso,.bool von,.int .i64 vn,.string ⟨vt.toArray⟩,.slice a1 vl.length cap1,.slice a2 vks.length cap2] 36)).heap.size=w1.heap.size+1:=by simp
   clear hB2 hP2 hO2
   generalize w1.alloc (.cells #[.int .i64 vso,.bool von,.int .i64 vn,.string ⟨vt.toArray⟩,.slice a1 vl.length cap1,.slice a2 vks.length cap2] 36)=w2 at *
   have hbt:b<w2.heap.size:=by omega
   have hbs:w1.heap.size<w2.heap.size:=by omega
   have hbn:¬ b=w1.heap.size:=by omega
   have HZ2:=Lib.hid zw2
   have HBEL:=Lib.hid hbel2
   clear zw2 hbel2
   generalize hbp:w1.heap.size=bp at *
   have HBP:=Lib.hid hbp
   clear hbp
   have k4:w2.cell? ⟨b,4,none⟩=some (.slice none 0 0):=by unfold World.cell?;rw [hb2];rfl
   have p0:w2.cell? ⟨bp,0,none⟩=some (.int .i64 vso):=by unfold World.cell?;rw [hp2];rfl
   have p1:w2.cell? ⟨bp,1,none⟩=some (.bool von):=by unfold World.cell?;rw [hp2];rfl
   have p2:w2.cell? ⟨bp,2,none⟩=some (.int .i64 vn):=by unfold World.cell?;rw [hp2];rfl
   have p3:w2.cell? ⟨bp,3,none⟩=some (.string ⟨vt.toArray⟩):=by unfold World.cell?;rw [hp2];rfl
   have p4:w2.cell? ⟨bp,4,none⟩=some (.slice a1 vl.length cap1):=by unfold World.cell?;rw [hp2];rfl
   have p5:w2.cell? ⟨bp,5,none⟩=some (.slice a2 vks.length cap2):=by unfold World.cell?;rw [hp2];rfl
   have hf2:w2.frozen? ⟨b,4,none⟩=false:=by unfold World.frozen?;rw [hb2];simp
   have hbg:some b≠(Value.slice none 0 0).ownBlock:=by simp [Value.ownBlock]
   go_region_law (refine step_append_lies _ (by rfl) _ _ _ (by rfl) Bl 36 i0 _ 6 88 Tryz.underlying34 hi0 hz0 hz1 hz2 rfl (by omega) (.slice none 0 0) 0 xs (by rfl) ((hown2.alloc _).drew) ⟨w2.heap.size,0,none⟩ 1 1 [.int .i64 0,.bool false,.int .i64 0,.string ⟨#[]⟩,.slice none 0 0,.slice none 0 0] (by rfl) (by rfl) (World.news_of_block (cs:=#[.int .i64 0,.bool false,.int .i64 0,.string ⟨#[]⟩,.slice none 0 0,.slice none 0 0]) (t:=36) (fr:=(0,0)) (heap_alloc_new w2 _)) (by simp [Value.oneCell']) (by omega) (by unfold maxLen;omega) (by omega) (by simp;omega) (w2.heap.size+1) (by simp) ?_;intro gg capg w3 hown3 hgrow hat hlt3;obtain ⟨rg,rc,rf⟩:=row_cells0 hown3;obtain ⟨u0,r0⟩:=rc 0 (by omega);obtain ⟨u1,r1⟩:=rc 1 (by omega);obtain ⟨u2,r2⟩:=rc 2 (by omega);obtain ⟨u3,r3⟩:=rc 3 (by omega);obtain ⟨u4,r4⟩:=rc 4 (by omega);obtain ⟨u5,r5⟩:=rc 5 (by omega);clear rc;have kb3:=(hgrow.cell_far ⟨b,4,none⟩ (by simp;omega) hbg).trans ((World.cell?_alloc_past _ _ _ hbt).trans k4);have fb3:=(hgrow.frozen_far ⟨b,4,none⟩ (by simp;omega) hbg).trans ((World.frozen?_alloc_past _ _ _ hbt).trans hf2))
   all_goals
    clear r0 r1 r2 r3 r4 r5 rf kb3 fb3 k4 p0 p1 p2 p3 p4 p5 hf2
    go_wp2_with fail
    go_ret
    have hgb:gg≠b:=by omega
    have hbel3:Below w1.heap.size w1 w2:=by rw [HBP.out];exact HBEL.out
    have hz3:w2.heap.size=w1.heap.size+1:=by rw [HZ2.out,HBP.out]
    have fin:=fun W'=>part_done (W':=W') (rest:=rest) (kv:=kv) (so:=so) (o:=o) HM1.out hbel3 hz3 hgrow HOWN.out HN.out hown3 hat hA hin HV1.out hr1 HB.out hdl hbl hdb hBl
    refine fin _ ?_
    first|(with_reducible exact putIn_a _ _ _ _ _ _ _ _ _ _ _ hgb)|(with_reducible exact putIn_b _ _ _ _ _ _ _ _ _ _ _ hgb)
  ·go_enter Tryz.func112,Tryz.ntmps112
   go_wp2_with fail
   refine hval.mono ?_;rintro e w1 ⟨hm1,lv1,kv1,rfl,hv1,hr1⟩
   have hv1':=hv1
   obtain ⟨⟨a1,cap1,rfl,_⟩,⟨a2,cap2,rfl,_⟩⟩:=hv1'
   have hlt:=(Array.getElem?_eq_some_iff.1 hb).1
   have hglt:=(Array.getElem?_eq_some_iff.1 hgg).1
   have zw1:=hm1.size
   have hb1:w1.heap[b]?=_:=(hm1.block b hlt (by omega)).trans hb
   have hg1:w1.heap[g]?=_:=(hm1.block g hglt (by omega)).trans hgg
   have hown1:w1.ownsRow Bl 36 6 (.slice (some ⟨g,0,none⟩) n cap) n xs:=⟨hown.1,.inr ⟨g,cap,cur,rfl,hg,hg1,hle,hcap,hsz,htake⟩⟩
   have HB:=Lib.hid hb
   have HOWN:=Lib.hid hown
   have HM1:=Lib.hid hm1
   have HV1:=Lib.hid hv1
   clear hown hval hb hgg hv1
   simp only [six,strCell]
   go_wp2_with fail
   have hB2:∀ ob,(w1.alloc ob).heap[b]?=_:=fun ob=>((Below.refl w1.heap.size w1).alloc (Nat.le_refl _) ob).block b (by omega) |>.trans hb1
   have hP2:∀ ob,(w1.alloc ob).heap[w1.heap.size]?=some ob:=fun ob=>heap_alloc_new w1 ob
   have hO2:∀ ob,(w1.alloc ob).ownsRow Bl 36 6 (.slice (some ⟨g,0,none⟩) n cap) n xs:=fun ob=>hown1.alloc ob
   have hb2:=hB2 (.cells #[.int .i64 vso,.bool von,.int .i64 vn,.string ⟨vt.toArray⟩,.slice a1 vl.length cap1,.slice a2 vks.length cap2] 36)
   have hp2:=hP2 (.cells #[.int .i64 vso,.bool von,.int .i64 vn,.string ⟨vt.toArray⟩,.slice a1 vl.length cap1,.slice a2 vks.length cap2] 36)
   have hown2:=hO2 (.cells #[.int .i64 vso,.bool von,.int .i64 vn,.string ⟨vt.toArray⟩,.slice a1 vl.length cap1,.slice a2 vks.length cap2] 36)
   have hbel2:Below w1.heap.size w1 (w1.alloc (.cells #[.int .i64 vso,.bool von,.int .i64 vn,.string ⟨vt.toArray⟩,.slice a1 vl.length cap1,.slice a2 vks.length cap2] 36)):=(Below.refl _ _).alloc (Nat.le_refl _) _
   have zw2:(w1.alloc (.cells #[.int .i64 vso,.bool von,.int .i64 vn,.string ⟨vt.toArray⟩,.slice a1 vl.length cap1,.slice a2 vks.length cap2] 36)).heap.size=w1.heap.size+1:=by simp
   clear hB2 hP2 hO2
   generalize w1.alloc (.cells #[.int .i64 vso,.bool von,.int .i64 vn,.string ⟨vt.toArray⟩,.slice a1 vl.length cap1,.slice a2 vks.length cap2] 36)=w2 at *
   have hbt:b<w2.heap.size:=by omega
   have hbs:w1.heap.size<w2.heap.size:=by omega
   have hbn:¬ b=w1.heap.size:=by omega
   have HZ2:=Lib.hid zw2
   have HBEL:=Lib.hid hbel2
   clear zw2 hbel2
   generalize hbp:w1.heap.size=bp at *
   have HBP:=Lib.hid hbp
   clear hbp
   have k4:w2.cell? ⟨b,4,none⟩=some (.slice (some ⟨g,0,none⟩) n cap):=by unfold World.cell?;rw [hb2];rfl
   have p0:w2.cell? ⟨bp,0,none⟩=some (.int .i64 vso):=by unfold World.cell?;rw [hp2];rfl
   have p1:w2.cell? ⟨bp,1,none⟩=some (.bool von):=by unfold World.cell?;rw [hp2];rfl
   have p2:w2.cell? ⟨bp,2,none⟩=some (.int .i64 vn):=by unfold World.cell?;rw [hp2];rfl
   have p3:w2.cell? ⟨bp,3,none⟩=some (.string ⟨vt.toArray⟩):=by unfold World.cell?;rw [hp2];rfl
   have p4:w2.cell? ⟨bp,4,none⟩=some (.slice a1 vl.length cap1):=by unfold World.cell?;rw [hp2];rfl
   have p5:w2.cell? ⟨bp,5,none⟩=some (.slice a2 vks.length cap2):=by unfold World.cell?;rw [hp2];rfl
   have hf2:w2.frozen? ⟨b,4,none⟩=false:=by unfold World.frozen?;rw [hb2];simp
   have hbg:some b≠some g:=by simp;omega
   go_region_law (refine step_append_lies _ (by rfl) _ _ _ (by rfl) Bl 36 i0 _ 6 88 Tryz.underlying34 hi0 hz0 hz1 hz2 rfl (by omega) (.slice (some ⟨g,0,none⟩) n cap) n xs (by rfl) ((hown2.alloc _).drew) ⟨w2.heap.size,0,none⟩ 1 1 [.int .i64 0,.bool false,.int .i64 0,.string ⟨#[]⟩,.slice none 0 0,.slice none 0 0] (by rfl) (by rfl) (World.news_of_block (cs:=#[.int .i64 0,.bool false,.int .i64 0,.string ⟨#[]⟩,.slice none 0 0,.slice none 0 0]) (t:=36) (fr:=(0,0)) (heap_alloc_new w2 _)) (by simp [Value.oneCell']) (by omega) (by unfold maxLen;omega) (by omega) (by simp;omega) (w2.heap.size+1) (by simp) ?_;intro gg capg w3 hown3 hgrow hat hlt3;obtain ⟨rg,rc,rf⟩:=row_cells hown3;obtain ⟨u0,r0⟩:=rc 0 (by omega);obtain ⟨u1,r1⟩:=rc 1 (by omega);obtain ⟨u2,r2⟩:=rc 2 (by omega);obtain ⟨u3,r3⟩:=rc 3 (by omega);obtain ⟨u4,r4⟩:=rc 4 (by omega);obtain ⟨u5,r5⟩:=rc 5 (by omega);clear rc;rw [Nat.add_zero] at r0;have kb3:=(hgrow.cell_far ⟨b,4,none⟩ (by simp;omega) hbg).trans ((World.cell?_alloc_past _ _ _ hbt).trans k4);have fb3:=(hgrow.frozen_far ⟨b,4,none⟩ (by simp;omega) hbg).trans ((World.frozen?_alloc_past _ _ _ hbt).trans hf2))
   all_goals
    clear r0 r1 r2 r3 r4 r5 rf kb3 fb3 k4 p0 p1 p2 p3 p4 p5 hf2
    go_wp2_with fail
    go_ret
    have hgb:gg≠b:=by omega
    have hbel3:Below w1.heap.size w1 w2:=by rw [HBP.out];exact HBEL.out
    have hz3:w2.heap.size=w1.heap.size+1:=by rw [HZ2.out,HBP.out]
    have fin:=fun W'=>part_done (W':=W') (rest:=rest) (kv:=kv) (so:=so) (o:=o) HM1.out hbel3 hz3 hgrow HOWN.out HN.out hown3 hat hA hin HV1.out hr1 HB.out hdl hbl hdb hBl
    refine fin _ ?_
    first|(with_reducible exact putIn_a _ _ _ _ _ _ _ _ _ _ _ hgb)|(with_reducible exact putIn_b _ _ _ _ _ _ _ _ _ _ _ hgb)
end Go.Proofs.YtpbnhnilfpoljaaGreatDoor.V
namespace Go.Proofs.YtpbnhnilfpoljaaGreatDoor.V
open Go.Lib
theorem skip_len (l:List UInt8):(skip l).length≤l.length:=(List.dropWhile_suffix _).length_le
theorem number_len {l r:List UInt8} {n:Int} (h:number l=some (n,r)):r.length≤l.length:=by
 unfold number at h
 split at h
 ·split at h
  ·simp only [Option.some.injEq,Prod.mk.injEq] at h
   obtain ⟨_,rfl⟩:=h
   exact (List.dropWhile_suffix _).length_le
  ·cases h
 ·cases h
theorem quoted_len:∀ (f:Nat) (l acc t r:List UInt8),quoted f l acc=some (t,r)→r.length<l.length
 | 0,_,_,_,_,h=>by cases h
 | _+1,[],_,_,_,h=>by cases h
 | f+1,c :: l,acc,t,r,h=>by
  by_cases h1:c=34
  ·rw [quoted_end h1] at h
   simp only [Option.some.injEq,Prod.mk.injEq] at h
   obtain ⟨_,rfl⟩:=h;simp
  ·by_cases h2:c<32
   ·rw [quoted_low h1 h2] at h;cases h
   ·by_cases h3:c=92
    ·cases he:escape l with
     | none=>rw [quoted_wrong h1 h2 h3 he] at h;cases h
     | some p =>
      obtain ⟨x,l'⟩:=p
      rw [quoted_esc h1 h2 h3 he] at h
      have:=quoted_len f l' _ t r h
      have:=escape_len he
      simp;omega
    ·rw [quoted_byte h1 h2 h3] at h
     have:=quoted_len f l _ t r h
     simp;omega
theorem quoted_tlen:∀ (f:Nat) (l acc t r:List UInt8),quoted f l acc=some (t,r)→t.length≤acc.length+4*l.length
 | 0,_,_,_,_,h=>by cases h
 | _+1,[],_,_,_,h=>by cases h
 | f+1,c :: l,acc,t,r,h=>by
  by_cases h1:c=34
  ·rw [quoted_end h1] at h
   simp only [Option.some.injEq,Prod.mk.injEq] at h
   obtain ⟨rfl,_⟩:=h;omega
  ·by_cases h2:c<32
   ·rw [quoted_low h1 h2] at h;cases h
   ·by_cases h3:c=92
    ·cases he:escape l with
     | none=>rw [quoted_wrong h1 h2 h3 he] at h;cases h
     | some p =>
      obtain ⟨x,l'⟩:=p
      rw [quoted_esc h1 h2 h3 he] at h
      have hq:=quoted_tlen f l' _ t r h
      have:=escape_len he
      have h4:=(Lib.runeCells_le x).2
      rw [Lib.runeCells_length] at h4
      rw [List.length_append] at hq
      simp;omega
    ·rw [quoted_byte h1 h2 h3] at h
     have:=quoted_tlen f l _ t r h
     simp at this ⊢;omega
theorem key_tlen {l k r:List UInt8} (h:key l=some (k,r)):k.length≤4*l.length:=by
 have hs:=skip_len l
 unfold key at h
 split at h
 ·rename_i r0 h0
  rw [h0] at hs
  cases hq:quotedA r0 with
  | none=>rw [hq] at h;cases h
  | some p =>
   obtain ⟨k',r1⟩:=p
   rw [hq] at h
   have h1:=quoted_tlen _ _ _ _ _ hq
   simp only at h
   split at h
   ·simp only [Option.some.injEq,Prod.mk.injEq] at h
    obtain ⟨rfl,_⟩:=h
    simp at h1 hs;omega
   ·cases h
 ·cases h
theorem quotedA_len {l t r:List UInt8} (h:quotedA l=some (t,r)):r.length<l.length:=quoted_len _ _ _ _ _ h
theorem key_len {l k r:List UInt8} (h:key l=some (k,r)):r.length<l.length:=by
 have hs:=skip_len l
 unfold key at h
 split at h
 ·rename_i r0 h0
  rw [h0] at hs
  cases hq:quotedA r0 with
  | none=>rw [hq] at h;cases h
  | some p =>
   obtain ⟨k',r1⟩:=p
   rw [hq] at h
   have h1:=quotedA_len hq
   have h2:=skip_len r1
   simp only at h
   split at h
   ·rename_i r2 h3
    rw [h3] at h2
    simp only [Option.some.injEq,Prod.mk.injEq] at h
    obtain ⟨_,rfl⟩:=h
    simp at h2 hs;omega
   ·cases h
 ·cases h
theorem plain_len {l r:List UInt8} {v:Val} (h:plain l=some (v,r)):r.length≤l.length:=by
 unfold plain at h
 split at h
 ·simp only [Option.some.injEq,Prod.mk.injEq] at h
  obtain ⟨_,rfl⟩:=h;simp
 ·split at h
  ·simp only [Option.some.injEq,Prod.mk.injEq] at h
   obtain ⟨_,rfl⟩:=h;simp
  ·split at h
   ·simp only [Option.some.injEq,Prod.mk.injEq] at h
    obtain ⟨_,rfl⟩:=h;simp
   ·split at h
    ·simp only [Option.map_eq_some_iff,Prod.mk.injEq] at h
     obtain ⟨p,h1,_,rfl⟩:=h
     have:=quotedA_len h1;simp;omega
    ·simp only [Option.map_eq_some_iff,Prod.mk.injEq] at h
     obtain ⟨p,h1,_,rfl⟩:=h
     exact number_len h1
mutual
theorem value_len:∀ (f o:Nat) (l:List UInt8) (v:Val) (r:List UInt8),value f o l=.ok v r→r.length≤l.length
 | 0,_,_,_,_,h=>by cases h
 | f+1,o,l,v,r,h=>by
  have hs:=skip_len l
  unfold value at h
  split at h
  ·rename_i r0 h0
   rw [h0] at hs
   split at h
   ·cases h
   ·have h2:=skip_len r0
    split at h
    ·rename_i r1 h1
     rw [h1] at h2
     simp only [Res.ok.injEq] at h
     obtain ⟨_,rfl⟩:=h
     have:=skip_len r1
     simp at hs h2;omega
    ·split at h
     ·rename_i vs r1 h1
      simp only [Res.ok.injEq] at h
      obtain ⟨_,rfl⟩:=h
      have:=items_len f _ _ _ _ _ h1
      have:=skip_len r1
      simp at hs;omega
     ·cases h
     ·cases h
  ·rename_i r0 h0
   rw [h0] at hs
   split at h
   ·cases h
   ·have h2:=skip_len r0
    split at h
    ·rename_i r1 h1
     rw [h1] at h2
     simp only [Res.ok.injEq] at h
     obtain ⟨_,rfl⟩:=h
     have:=skip_len r1
     simp at hs h2;omega
    ·split at h
     ·rename_i vs r1 h1
      simp only [Res.ok.injEq] at h
      obtain ⟨_,rfl⟩:=h
      have:=fields_len f _ _ _ _ _ _ h1
      have:=skip_len r1
      simp at hs;omega
     ·cases h
     ·cases h
  ·split at h
   ·rename_i v' r1 h1
    simp only [Res.ok.injEq] at h
    obtain ⟨_,rfl⟩:=h
    have:=plain_len h1
    have:=skip_len r1
    omega
   ·cases h
theorem items_len:∀ (f o:Nat) (l:List UInt8) (acc vs:List Val) (r:List UInt8),items f o l acc=.ok vs r→r.length≤l.length
 | 0,_,_,_,_,_,h=>by cases h
 | f+1,o,l,acc,vs,r,h=>by
  unfold items at h
  split at h
  ·cases h
  ·cases h
  ·rename_i v r0 h0
   have h1:=value_len f o l v r0 h0
   split at h
   ·simp only [Res.ok.injEq] at h
    obtain ⟨_,rfl⟩:=h
    simp at h1;omega
   ·have:=items_len f o _ _ _ _ h
    simp at h1;omega
   ·cases h
theorem fields_len:∀ (f o:Nat) (l:List UInt8) (ks:List (List UInt8)) (vs:List Val) (p:List (List UInt8) × List Val) (r:List UInt8),fields f o l ks vs=.ok p r→r.length≤l.length
 | 0,_,_,_,_,_,_,h=>by cases h
 | f+1,o,l,ks,vs,p,r,h=>by
  unfold fields at h
  split at h
  ·cases h
  ·rename_i k r0 h0
   have hk:=key_len h0
   split at h
   ·cases h
   ·split at h
    ·cases h
    ·cases h
    ·rename_i v r1 h2
     have h1:=value_len f o r0 v r1 h2
     split at h
     ·simp only [Res.ok.injEq] at h
      obtain ⟨_,rfl⟩:=h
      simp at h1;omega
     ·have:=fields_len f o _ _ _ _ _ h
      simp at h1;omega
     ·cases h
end
end Go.Proofs.YtpbnhnilfpoljaaGreatDoor.V
namespace Go.Proofs.YtpbnhnilfpoljaaGreatDoor.V
open Go.RowKit
open Go.Lib
def LI (d b p:Nat) (so:Int) (kv:Value) (Bl:Nat) (vs:List Val) (W:World):Prop :=
 (d<Bl∧b<Bl∧p<Bl∧Bl≤W.heap.size∧d≠b∧d≠p)∧W.cell? ⟨p,0,none⟩=some (.pointer (some ⟨d,0,none⟩)) ∧
 ∃ lv xs,W.heap[b]?=some (.cells (six so false 0 [] lv kv).toArray 36 (0,0))∧W.ownsRow Bl 36 6 lv vs.length xs∧ListIn W (fun g=>Bl≤g∧lv.ownBlock≠some g∧¬ False) vs xs
theorem cell_of_same {W W':World} {p:Addr} (h:W'.heap[p.block]?=W.heap[p.block]?):W'.cell? p=W.cell? p:=by unfold World.cell?;rw [h]
theorem ownsRow_same {W W':World} {Bl e size n:Nat} {v:Value} {xs:List Value} (h:W.ownsRow Bl e size v n xs) (hs:∀ g,v.ownBlock=some g→W'.heap[g]?=W.heap[g]?):W'.ownsRow Bl e size v n xs:=by
 refine ⟨h.1,?_⟩
 rcases h.2 with h2|⟨g,cap,cur,rfl,hg,hgg,rest⟩
 ·exact .inl h2
 ·exact .inr ⟨g,cap,cur,rfl,hg,(hs g rfl).trans hgg,rest⟩
theorem LI.mut {d b p:Nat} {so:Int} {kv:Value} {Bl:Nat} {vs:List Val} {W W':World} (h:LI d b p so kv Bl vs W) (hm:Mut W.heap.size d W W'):LI d b p so kv Bl vs W':=by
 obtain ⟨⟨h1,h2,h3,h4,h5,h6⟩,h7,lv,xs,h8,h9,h10⟩:=h
 refine ⟨⟨h1,h2,h3,Nat.le_trans h4 hm.size,h5,h6⟩,?_,lv,xs,(hm.block b (by omega) (Ne.symm h5)).trans h8,?_,?_⟩
 ·rw [cell_of_same (p:=⟨p,0,none⟩) (hm.block p (by omega) (Ne.symm h6))];exact h7
 ·refine ownsRow_same h9 fun g hg=>?_
  have:=World.ownsRowF.lt (World.ownsRowF_of h9) g hg
  exact hm.block g this.2 (by omega)
 ·refine ListIn.later (fun g hg hlt=>hm.block g hlt (by omega)) (fun g hg=>hg) vs xs h10
def resMap {α β:Type} (f:α→β):Res α→Res β
 | .ok a r=>.ok (f a) r
 | .bad=>.bad
 | .deep=>.deep
def stepL (o:Nat) (f:Nat) (vs:List Val) (l:List UInt8):Res (List Val):=resMap (fun v=>vs++[v]) (value f o l)
theorem items_loop (o:Nat):∀ (f:Nat) (l:List UInt8) (acc:List Val),items f o l acc=loopG (stepL o) 93 f l acc
 | 0,l,acc=>by simp only [items,loopG]
 | f+1,l,acc=>by
  simp only [items,loopG,stepL]
  cases h:value f o l with
  | bad=>rfl
  | deep=>rfl
  | ok v r =>
   simp only [resMap]
   match r with
   | []=>rfl
   | c :: r' =>
    by_cases h1:c=93
    ·subst h1;simp
    ·by_cases h2:c=44
     ·subst h2;simp;exact items_loop o f r' _
     ·simp [h1,h2]
def ValC (F:Nat):Prop:=∀ f,f<F→∀ (d B0:Nat) (s:ByteArray) (l:List UInt8) (o:Nat) (w:World),RdL d s l o w→Env B0 w→B0≤d→s.size≤274877906944→o≤20→2*l.length+1≤f→f≤1099511627776 →
 Calls Tryz.prog 45 #[.pointer (some ⟨d,0,none⟩)] w (ReadsV d s o (value f o l) w)
theorem list_part (F f d b p Bl B0:Nat) (s:ByteArray) (l:List UInt8) (o:Nat) (vs:List Val) (so:Int) (kv:Value) (W:World) (IH:ValC F) (hf:f<F) (hf2:f≤1099511627776)
  (hr:RdL d s l o W) (hE:Env B0 W) (hd:B0≤d) (hs:s.size≤274877906944) (ho:o≤20) (hl:2*l.length+1≤f) (hn:vs.length≤1099511627776) (hI:LI d b p so kv Bl vs W) :
  Calls Tryz.prog 111 #[.pointer (some ⟨p,0,none⟩),.pointer (some ⟨b,0,none⟩)] W (ReadsX d s o (LI d b p so kv Bl) Bl (fun k=>k=b) (stepL o f vs l) W):=by
 have hI':=hI
 obtain ⟨⟨h1,h2,h3,h4,h5,h6⟩,h7,lv,xs,h8,h9,h10⟩:=hI
 have cV:=IH f hf d B0 s l o W hr hE hd hs ho hl hf2
 have cP:=part_any d b Bl vs.length s o so lv kv xs vs _ W h8 h9 rfl (fun _=>False) (fun _ h=>h.elim) h10 h1 h2 h5 h4 hn cV
 have hrow:=fun g (hg:lv.ownBlock=some g)=>World.ownsRowF.lt (World.ownsRowF_of h9) g hg
 have HROW:=Lib.hid hrow
 have H8:=Lib.hid h8
 clear cV h8 h9 h10 hrow hr hE
 go_enter Tryz.func111,Tryz.ntmps111
 go_wp2_with fail
 refine cP.mono ?_
 intro e W1 hP
 have key:∃ v,e=.returned v∧ReadsX d s o (LI d b p so kv Bl) Bl (fun k=>k=b) (stepL o f vs l) W (.returned v) W1:=by
  unfold stepL
  cases hv:value f o l with
  | bad =>
   rw [hv] at hP
   obtain ⟨rfl,hr1,hm1⟩:=hP
   exact ⟨_,rfl,MutX.of_mut (hm1.mono h4),rfl,hr1⟩
  | deep =>
   rw [hv] at hP
   obtain ⟨rfl,hr1,hm1⟩:=hP
   exact ⟨_,rfl,MutX.of_mut (hm1.mono h4),rfl,hr1⟩
  | ok v rest =>
   rw [hv] at hP
   obtain ⟨rfl,hr1,hm1,lv',xs',k1,k2,k3,k4⟩:=hP
   have hz:=hm1.size
   refine ⟨_,rfl,⟨hm1.os,hm1.tape,hm1.output,hm1.size,fun k hk hkd hX=>hm1.block k (by omega) hkd (fun h=>?_)⟩,rfl,⟨⟨h1,h2,h3,by omega,h5,h6⟩,?_,lv',xs',k1,by rw [List.length_append];exact k2,k3⟩,hr1⟩
   ·rcases h with h|h
    ·exact hX h
    ·have:=HROW.out k h;omega
   ·rw [cell_of_same (p:=⟨p,0,none⟩) (hm1.block p (by omega) (Ne.symm h6) (fun h=>?_))]
    ·exact h7
    ·rcases h with h|h
     ·subst h
      have h8:=H8.out
      unfold World.cell? at h7
      rw [h8] at h7
      simp [six] at h7
     ·have:=HROW.out p h;omega
 obtain ⟨v,rfl,hX⟩:=key
 clear hP cP
 go_wp2_with fail
 go_ret
 exact hX
def listP (f o:Nat) (l:List UInt8):Res Val:=resMap Val.arr (partsG (stepL (o+1)) 93 f o l [])
theorem valIn_of {A:Nat→Prop} {so:Int} {Bl B:Nat} {vs:List Val} {W:World} {ks:List (List UInt8)} {lv kv:Value} {xs:List Value} (hB:B≤Bl)
  (h9:W.ownsRow Bl 36 6 lv vs.length xs) (h10:ListIn W (fun g=>Bl≤g∧lv.ownBlock≠some g∧¬ A g) vs xs) (hk:KeysIn W (fun g=>B≤g) ks kv) (on:Bool) (n:Int) (t:List UInt8) :
  ValIn W (fun g=>B≤g) (.mk so on n t vs ks) lv kv:=by
 refine ⟨?_,hk⟩
 have h10':=ListIn.later (W':=W) (R':=fun g=>B≤g) (fun _ _ _=>rfl) (fun g hg=>by omega) vs xs h10
 rcases h9.2 with ⟨rfl,h0⟩|⟨g,cap,cur,rfl,hg,hgg,hle,hcap,hsz,htake⟩
 ·exact ⟨none,0,by rw [h0],.inl (List.eq_nil_of_length_eq_zero h0)⟩
 ·refine ⟨_,cap,rfl,.inr ⟨g,0,xs,rfl,by omega,?_,h10'⟩⟩
  intro j u hj
  have h:=World.ownsRowF.cells (World.ownsRowF_of h9) (g:=g) rfl j u hj
  rw [show (⟨g,0,none⟩:Addr).add j=⟨g,0+j,none⟩ from by unfold Addr.add;split <;> simp_all] at h
  exact h
theorem keysIn_nil (W:World) (R:Nat→Prop):KeysIn W R [] (.slice none 0 0):=⟨none,0,rfl,.inl rfl⟩
theorem slice_form {W:World} {Bl e size n:Nat} {v:Value} {xs:List Value} (h:W.ownsRow Bl e size v n xs):∃ a cap,v=.slice a n cap:=by
 rcases h.2 with ⟨rfl,rfl⟩|⟨g,cap,cur,rfl,_⟩
 ·exact ⟨_,_,rfl⟩
 ·exact ⟨_,_,rfl⟩
theorem three (w:World) (o1 o2 o3:Obj):(((w.alloc o1).alloc o2).alloc o3).heap[w.heap.size]?=some o1∧(((w.alloc o1).alloc o2).alloc o3).heap[w.heap.size+1]?=some o2∧(((w.alloc o1).alloc o2).alloc o3).heap[w.heap.size+1+1]?=some o3 ∧
  Below w.heap.size w (((w.alloc o1).alloc o2).alloc o3)∧(((w.alloc o1).alloc o2).alloc o3).heap.size=w.heap.size+3:=by
 have s1:(w.alloc o1).heap.size=w.heap.size+1:=by simp
 have s2:((w.alloc o1).alloc o2).heap.size=w.heap.size+1+1:=by simp
 refine ⟨?_,?_,?_,(((Below.refl _ _).alloc (Nat.le_refl _) _).alloc (by omega) _).alloc (by omega) _,by simp⟩
 ·rw [Below.heap_alloc _ _ _ (by omega),Below.heap_alloc _ _ _ (by omega)];exact heap_alloc_new w o1
 ·rw [Below.heap_alloc _ _ _ (by omega),← s1];exact heap_alloc_new _ o2
 ·rw [← s2];exact heap_alloc_new _ o3
theorem resMap_len {α β:Type} {f:α→β} {r:Res α} {b:β} {l:List UInt8} (h:resMap f r=.ok b l):∃ a,r=.ok a l∧b=f a:=by
 cases r with
 | ok a r=>simp only [resMap,Res.ok.injEq] at h;obtain ⟨rfl,rfl⟩:=h;exact ⟨a,rfl,rfl⟩
 | bad=>cases h
 | deep=>cases h
theorem far6 (W:World) (q k:Nat) (x0 x1 x2 x3 x4 x5:Value) (h:k≠q):((((((W.setCell ⟨q,0,none⟩ x0).setCell ⟨q,1,none⟩ x1).setCell ⟨q,2,none⟩ x2).setCell ⟨q,3,none⟩ x3).setCell ⟨q,4,none⟩ x4).setCell ⟨q,5,none⟩ x5).heap[k]?=W.heap[k]?:=by
 rw [Below.heap_setCell _ _ _ _ h,Below.heap_setCell _ _ _ _ h,Below.heap_setCell _ _ _ _ h,Below.heap_setCell _ _ _ _ h,Below.heap_setCell _ _ _ _ h,Below.heap_setCell _ _ _ _ h]
theorem rdl6 {d:Nat} {s:ByteArray} {l:List UInt8} {o:Int} {W:World} (q:Nat) (x0 x1 x2 x3 x4 x5:Value) (h:RdL d s l o W) (hq:d≠q):RdL d s l o ((((((W.setCell ⟨q,0,none⟩ x0).setCell ⟨q,1,none⟩ x1).setCell ⟨q,2,none⟩ x2).setCell ⟨q,3,none⟩ x3).setCell ⟨q,4,none⟩ x4).setCell ⟨q,5,none⟩ x5) :=
 rdl_set (rdl_set (rdl_set (rdl_set (rdl_set (rdl_set h _ hq _) _ hq _) _ hq _) _ hq _) _ hq _) _ hq _
theorem mut6 {B d:Nat} {w W:World} (q:Nat) (x0 x1 x2 x3 x4 x5:Value) (h:Mut B d w W) (hq:B≤q):Mut B d w ((((((W.setCell ⟨q,0,none⟩ x0).setCell ⟨q,1,none⟩ x1).setCell ⟨q,2,none⟩ x2).setCell ⟨q,3,none⟩ x3).setCell ⟨q,4,none⟩ x4).setCell ⟨q,5,none⟩ x5) :=
 Mut.setNew (Mut.setNew (Mut.setNew (Mut.setNew (Mut.setNew (Mut.setNew h _ hq _) _ hq _) _ hq _) _ hq _) _ hq _) _ hq _
theorem cells_six {W:World} {q:Nat} {c0 c1 c2 c3 c4 c5:Value} {t:TypeId} (h:W.heap[q]?=some (.cells #[c0,c1,c2,c3,c4,c5] t (0,0))) :
  (W.cell? ⟨q,0,none⟩=some c0∧W.cell? ⟨q,1,none⟩=some c1∧W.cell? ⟨q,2,none⟩=some c2∧W.cell? ⟨q,3,none⟩=some c3∧W.cell? ⟨q,4,none⟩=some c4∧W.cell? ⟨q,5,none⟩=some c5)∧∀ i,W.frozen? ⟨q,i,none⟩=false:=by
 refine ⟨⟨?_,?_,?_,?_,?_,?_⟩,fun i=>by unfold World.frozen?;rw [h];simp⟩ <;> (unfold World.cell?;rw [h];rfl)
theorem readsV_bad {d:Nat} {s:ByteArray} {o:Int} {r:Res Val} {w W1:World} {q:Nat} {l1:List UInt8} {x0 x1 x2 x3 x4 x5:Value} (hr:r=.bad) (hm:Mut w.heap.size d w W1) (hr1:RdL d s l1 o W1) (hq:w.heap.size≤q) (hdq:d≠q) :
  ReadsV d s o r w (.returned (.tuple #[.agg (six 0 false 0 [] (.slice none 0 0) (.slice none 0 0)).toArray,.int .i64 21])) ((((((W1.setCell ⟨q,0,none⟩ x0).setCell ⟨q,1,none⟩ x1).setCell ⟨q,2,none⟩ x2).setCell ⟨q,3,none⟩ x3).setCell ⟨q,4,none⟩ x4).setCell ⟨q,5,none⟩ x5):=by
 subst hr;exact ⟨mut6 q _ _ _ _ _ _ hm hq,rfl,l1,rdl6 q _ _ _ _ _ _ hr1 hdq⟩
theorem readsV_deep {d:Nat} {s:ByteArray} {o:Int} {r:Res Val} {w W1:World} {q:Nat} {l1:List UInt8} {x0 x1 x2 x3 x4 x5:Value} (hr:r=.deep) (hm:Mut w.heap.size d w W1) (hr1:RdL d s l1 o W1) (hq:w.heap.size≤q) (hdq:d≠q) :
  ReadsV d s o r w (.returned (.tuple #[.agg (six 0 false 0 [] (.slice none 0 0) (.slice none 0 0)).toArray,.int .i64 22])) ((((((W1.setCell ⟨q,0,none⟩ x0).setCell ⟨q,1,none⟩ x1).setCell ⟨q,2,none⟩ x2).setCell ⟨q,3,none⟩ x3).setCell ⟨q,4,none⟩ x4).setCell ⟨q,5,none⟩ x5):=by
 subst hr;exact ⟨mut6 q _ _ _ _ _ _ hm hq,rfl,l1,rdl6 q _ _ _ _ _ _ hr1 hdq⟩
theorem readsV_ok {d Bl:Nat} {s:ByteArray} {o:Int} {r:Res Val} {w W1:World} {q:Nat} {rest:List UInt8} {x0 x1 x2 x3 x4 x5:Value} {so n:Int} {on:Bool} {t:List UInt8} {vl:List Val} {vk:List (List UInt8)} {lv kv:Value} (hr:r=.ok (.mk so on n t vl vk) rest) (hm:Mut w.heap.size d w W1) (hr1:RdL d s rest o W1)
  (hv:ValIn W1 (fun g=>Bl≤g) (.mk so on n t vl vk) lv kv) (hq:w.heap.size≤q) (hqB:q<Bl) (hdq:d≠q) :
  ReadsV d s o r w (.returned (.tuple #[.agg (six so on n t lv kv).toArray,.int .i64 0])) ((((((W1.setCell ⟨q,0,none⟩ x0).setCell ⟨q,1,none⟩ x1).setCell ⟨q,2,none⟩ x2).setCell ⟨q,3,none⟩ x3).setCell ⟨q,4,none⟩ x4).setCell ⟨q,5,none⟩ x5):=by
 subst hr
 exact ⟨mut6 q _ _ _ _ _ _ hm hq,lv,kv,rfl,ValIn.later (fun g hg _=>far6 W1 q g _ _ _ _ _ _ (by omega)) (fun g hg=>by omega) _ _ _ hv,rdl6 q _ _ _ _ _ _ hr1 hdq⟩
set_option maxHeartbeats 2000000 in
theorem list_any (F f d B0:Nat) (s:ByteArray) (l:List UInt8) (o:Nat) (w:World) (IH:ValC F) (hf:f≤F) (hf2:f≤1099511627776)
  (hr:RdL d s l o w) (hE:Env B0 w) (hd:B0≤d) (hs:s.size≤274877906944) (ho:o≤20) (hl:2*l.length+2≤f) :
  Calls Tryz.prog 84 #[.pointer (some ⟨d,0,none⟩)] w (ReadsV d s o (listP f o l) w):=by
 have hmf:∀ (fn:Fn) (first cap:Array Value) (w:World),(Instr.makeFunc fn first cap).run Tryz.prog w=.ok (.func fn first cap) w:=fun _ _ _ _=>rfl
 have hdlt:=hr.lt
 have hz0:=hE.size
 go_enter Tryz.func84,Tryz.ntmps84
 go_wp2_with fail
 obtain ⟨t1,t2,t3,tb,tz⟩:=three w (.cells #[.pointer (some ⟨d,0,none⟩)] 149) (.cells #[.int .i64 0,.bool false,.int .i64 0,.string ⟨#[]⟩,.slice none 0 0,.slice none 0 0] 36) (.cells #[.int .i64 4,.bool false,.int .i64 0,.string ⟨#[]⟩,.slice none 0 0,.slice none 0 0] 36)
 generalize ((w.alloc (.cells #[.pointer (some ⟨d,0,none⟩)] 149)).alloc (.cells #[.int .i64 0,.bool false,.int .i64 0,.string ⟨#[]⟩,.slice none 0 0,.slice none 0 0] 36)).alloc (.cells #[.int .i64 4,.bool false,.int .i64 0,.string ⟨#[]⟩,.slice none 0 0,.slice none 0 0] 36)=W0 at *
 have cP:=parts_any (stepL (o+1)) 93 (LI d (w.heap.size+1+1) w.heap.size 4 (.slice none 0 0)) (fun k=>k=w.heap.size+1+1) 111 #[.pointer (some ⟨w.heap.size,0,none⟩),.pointer (some ⟨w.heap.size+1+1,0,none⟩)] d B0 f s l o [] W0
  (hr.below tb) (hE.later (tb.mono hz0)) hd (by omega) ho (by rintro k rfl;omega) hl
  (fun f st l st' r h=>by obtain ⟨v,h2,_⟩:=resMap_len h;exact value_len _ _ _ _ _ h2) List.length rfl (fun f st l st' r h=>by obtain ⟨v,_,rfl⟩:=resMap_len h;simp)
  (fun W hm=>⟨⟨by have:=hm.size;omega,by have:=hm.size;omega,by have:=hm.size;omega,Nat.le_refl _,by omega,by omega⟩,
   by rw [cell_of_same (p:=⟨w.heap.size,0,none⟩) (hm.block w.heap.size (by omega) (by omega))];unfold World.cell?;rw [t1];rfl,
   .slice none 0 0,[],(hm.block _ (by omega) (by omega)).trans t3,World.ownsRow_nil _ _ _ _,rfl⟩)
  (fun Bl st W W' _ h hm=>h.mut hm)
  (enters_of Tryz.func111 (by kernel_rfl) rfl)
  (fun Bl f' st l' W ho' hc hl' _ _ hEW hI hrW=>list_part F f' d (w.heap.size+1+1) w.heap.size Bl B0 s l' (o+1) st 4 (.slice none 0 0) W IH (by omega) (by omega) hrW hEW hd hs (by omega) hl' (by omega) hI)
 have HCP:=Lib.hid cP
 clear cP
 cases hp:partsG (stepL (o+1)) 93 f o l [] with
 | bad =>
  have hres:listP f o l=.bad:=by unfold listP;rw [hp];rfl
  have HRes:=Lib.hid hres
  have cQ:=HCP.out
  rw [hp] at cQ
  clear hres HCP hp
  refine cQ.mono ?_
  rintro e W1 ⟨hm,rfl,l1,hr1⟩
  have hb:=(hm.block (w.heap.size+1) (by omega) (by omega) (by omega)).trans t2
  obtain ⟨⟨k0,k1,k2,k3,k4,k5⟩,kf⟩:=cells_six hb
  have hmw:Mut w.heap.size d w W1:=(Mut.of_below tb).trans (hm.mut (by omega) (by rintro k rfl;omega))
  clear cQ hm t1 t2 t3 hb
  go_wp2_with fail
  refine bodyPost_ret (v:=.tuple #[.agg (six 0 false 0 [] (.slice none 0 0) (.slice none 0 0)).toArray,.int .i64 21]) (by simp [results,Tryz.results84,go_sem,six,strCell,k0,k1,k2,k3,k4,k5]) rfl ?_
  exact readsV_bad HRes.out hmw hr1 (by omega) (by omega)
 | deep =>
  have hres:listP f o l=.deep:=by unfold listP;rw [hp];rfl
  have HRes:=Lib.hid hres
  have cQ:=HCP.out
  rw [hp] at cQ
  clear hres HCP hp
  refine cQ.mono ?_
  rintro e W1 ⟨hm,rfl,l1,hr1⟩
  have hb:=(hm.block (w.heap.size+1) (by omega) (by omega) (by omega)).trans t2
  obtain ⟨⟨k0,k1,k2,k3,k4,k5⟩,kf⟩:=cells_six hb
  have hmw:Mut w.heap.size d w W1:=(Mut.of_below tb).trans (hm.mut (by omega) (by rintro k rfl;omega))
  clear cQ hm t1 t2 t3 hb
  go_wp2_with fail
  refine bodyPost_ret (v:=.tuple #[.agg (six 0 false 0 [] (.slice none 0 0) (.slice none 0 0)).toArray,.int .i64 22]) (by simp [results,Tryz.results84,go_sem,six,strCell,k0,k1,k2,k3,k4,k5]) rfl ?_
  exact readsV_deep HRes.out hmw hr1 (by omega) (by omega)
 | ok vs rest =>
  have hres:listP f o l=.ok (.mk 4 false 0 [] vs []) rest:=by unfold listP;rw [hp];rfl
  have HRes:=Lib.hid hres
  have cQ:=HCP.out
  rw [hp] at cQ
  clear hres HCP hp
  refine cQ.mono ?_
  rintro e W1 ⟨hm,rfl,⟨Bl,⟨i1,i2,i3,i4,i5,i6⟩,i7,lv,xs,i8,i9,i10⟩,hr1⟩
  have hb:=(hm.block (w.heap.size+1) (by omega) (by omega) (by omega)).trans t2
  obtain ⟨⟨k0,k1,k2,k3,k4,k5⟩,kf⟩:=cells_six hb
  have HV:=Lib.hid (valIn_of (so:=4) (Nat.le_refl _) i9 i10 (keysIn_nil W1 _) false 0 [])
  obtain ⟨la,lc,rfl⟩:=slice_form i9
  obtain ⟨⟨j0,j1,j2,j3,j4,j5⟩,jf⟩:=cells_six i8
  replace j3:W1.cell? ⟨w.heap.size+1+1,3,none⟩=some (.string ⟨#[]⟩):=j3
  have hmw:Mut w.heap.size d w W1:=(Mut.of_below tb).trans (hm.mut (by omega) (by rintro k rfl;omega))
  have hne:¬ w.heap.size+1+1=w.heap.size+1:=by omega
  clear cQ hm t1 t2 t3 hb i7 i8 i9 i10 jf
  go_wp2_with fail
  refine bodyPost_ret (v:=.tuple #[.agg (six 4 false 0 [] (.slice la vs.length lc) (.slice none 0 0)).toArray,.int .i64 0]) (by simp [results,Tryz.results84,go_sem,six,strCell,k0,k1,k2,k3,k4,k5]) rfl ?_
  exact readsV_ok HRes.out hmw hr1 HV.out (by omega) (by omega) (by omega)
end Go.Proofs.YtpbnhnilfpoljaaGreatDoor.V
namespace Go.Proofs.YtpbnhnilfpoljaaGreatDoor.V
open Go.RowKit
open Go.Lib
theorem Val.ind {C:Val→Prop} (h:∀ so on n t l ks,(∀ v∈l,C v)→C (.mk so on n t l ks)):∀ v,C v
 | .mk so on n t l ks=>h so on n t l ks (go l)
where
 go:∀ (l:List Val),∀ v∈l,C v
  | [],v,hv=>absurd hv (List.not_mem_nil)
  | x :: r,v,hv=>by
   rcases List.mem_cons.1 hv with h1|h1
   ·rw [h1];exact Val.ind h x
   ·exact go r v h1
mutual
def nestP:Val→Nat→Bool
 | .mk so _ _ _ l _,m=>if m=0 then !(so==4||so==5||!l.isEmpty) else nestL l (m - 1)
def nestL:List Val→Nat→Bool
 | [],_=>true
 | v :: r,m=>nestP v m&&nestL r m
end
def arg (v:Val) (lv kv:Value):Value:=.agg (six' v lv kv).toArray
theorem part_at {W:World} {R:Nat→Prop}:∀ {l:List Val} {xs:List Value} {g off:Nat} (k:Nat),ListIn W R l xs→CellsAt W g off xs→(hk:k<l.length) →
  ∃ so on n t l' ks a1 c1 a2 c2,l[k]=.mk so on n t l' ks∧ValIn W R (.mk so on n t l' ks) (.slice a1 l'.length c1) (.slice a2 ks.length c2) ∧
   W.cell? ⟨g,off+k*6,none⟩=some (.int .i64 so)∧W.cell? ⟨g,off+k*6+1,none⟩=some (.bool on)∧W.cell? ⟨g,off+k*6+2,none⟩=some (.int .i64 n)∧W.cell? ⟨g,off+k*6+3,none⟩=some (.string ⟨t.toArray⟩) ∧
   W.cell? ⟨g,off+k*6+4,none⟩=some (.slice a1 l'.length c1)∧W.cell? ⟨g,off+k*6+5,none⟩=some (.slice a2 ks.length c2)
 | [],_,_,_,k,_,_,hk=>absurd hk (Nat.not_lt_zero _)
 | .mk so on n t l' ks :: r,xs,g,off,0,h,hc,_=>by
  obtain ⟨lv,kv,rest,rfl,hv,_⟩:=h
  have hv':=hv
  obtain ⟨⟨a1,c1,rfl,_⟩,⟨a2,c2,rfl,_⟩⟩:=hv'
  refine ⟨so,on,n,t,l',ks,a1,c1,a2,c2,rfl,hv,?_,?_,?_,?_,?_,?_⟩
  ·exact hc 0 _ rfl
  ·exact hc 1 _ rfl
  ·exact hc 2 _ rfl
  ·exact hc 3 _ rfl
  ·exact hc 4 _ rfl
  ·exact hc 5 _ rfl
 | v :: r,xs,g,off,k+1,h,hc,hk=>by
  obtain ⟨lv,kv,rest,rfl,_,hr⟩:=h
  have hc':CellsAt W g (off+6) rest:=fun j u hj=>by
   have:=hc (6+j) u (by rw [List.getElem?_append_right (by rw [six_length];omega),six_length];simpa using hj)
   rwa [show off+6+j=off+(6+j) by omega]
  have:=part_at k hr hc' (by simpa using hk)
  simpa [show off+6+k*6=off+(k+1)*6 by omega] using this
theorem nestL_drop {l:List Val} {m k:Nat} (hk:k<l.length):nestL (l.drop k) m=(nestP l[k] m&&nestL (l.drop (k+1)) m):=by
 rw [List.drop_eq_getElem_cons hk];simp only [nestL]
mutual
def wt:Val→Nat
 | .mk _ _ _ t l ks=>1+t.length+(ks.map fun k=>k.length+1).sum+wtL l
def wtL:List Val→Nat
 | []=>0
 | v :: r=>wt v+wtL r
end
theorem wtL_mem {v:Val}:∀ {l:List Val},v∈l→wt v≤wtL l
 | [],h=>absurd h (List.not_mem_nil)
 | x :: r,h=>by
  rcases List.mem_cons.1 h with h|h
  ·subst h;simp only [wtL];omega
  ·have:=wtL_mem h;simp only [wtL];omega
theorem wtL_length:∀ (l:List Val),l.length≤wtL l
 | []=>Nat.le_refl _
 | v :: r=>by
  have h1:=wtL_length r
  have h2:1≤wt v:=by cases v;simp only [wt];omega
  simp only [wtL,List.length_cons];omega
theorem wt_keys:∀ (ks:List (List UInt8)),ks.length≤(ks.map fun k=>k.length+1).sum
 | []=>Nat.le_refl _
 | k :: r=>by have:=wt_keys r;simp only [List.map_cons,List.sum_cons,List.length_cons];omega
def NestC (v:Val):Prop:=∀ (lv kv:Value) (R:Nat→Prop) (m:Nat) (w:World),ValIn w R v lv kv→m≤1099511627776→wt v≤1099511627776 →
 Calls Tryz.prog 47 #[arg v lv kv,.int .i64 m] w fun e w'=>e=.returned (.bool (nestP v m))∧Below w.heap.size w w'
set_option maxHeartbeats 2000000 in
theorem nest_any:∀ v,NestC v:=Val.ind fun so on n t l ks IH lv kv R m w hv hm hw=>by
 have hv':=hv
 obtain ⟨⟨a1,c1,rfl,hl⟩,⟨a2,c2,rfl,_⟩⟩:=hv'
 by_cases h0:m=0
 ·subst h0
  clear IH hv
  have hb0:Below w.heap.size w (w.alloc (Obj.cells #[Value.int IntKind.i64 so,Value.bool on,Value.int IntKind.i64 n,Value.string { data:=t.toArray },Value.slice a1 l.length c1,Value.slice a2 ks.length c2] 36)):=(Below.refl _ _).alloc (Nat.le_refl _) _
  have HB0:=Lib.hid hb0
  clear hb0
  simp only [arg,six',six,strCell]
  by_cases h4:so=4
  ·subst h4
   go_enter Tryz.func47,Tryz.ntmps47
   go_wp2_with fail
   go_ret
   exact ⟨by simp [nestP],HB0.out⟩
  ·by_cases h5:so=5
   ·subst h5
    go_enter Tryz.func47,Tryz.ntmps47
    go_wp2_with fail
    go_ret
    exact ⟨by simp [nestP],HB0.out⟩
   ·have q4:(so==4)=false:=by simpa using h4
    have q5:(so==5)=false:=by simpa using h5
    cases l with
    | nil =>
     clear hl hw
     simp only [List.length_nil] at HB0 ⊢
     go_enter Tryz.func47,Tryz.ntmps47
     go_wp2_with fail
     go_loopw [28] (fun iv w'=>iv=.int .i64 0∧Hid (Below w.heap.size w w')) (fun iv _=>0)
     case atStart=>exact ⟨rfl,HB0⟩
     case round =>
      obtain ⟨rfl,HB⟩:=hrel
      go_wp2_with fail
      go_ret
      exact ⟨by simp [nestP,h4,h5],HB.out⟩
    | cons x r =>
     have hlz:(0:Int)<((x :: r).length:Int):=by simp
     have HX:=Lib.hid (show (!(x :: r).isEmpty)=true from rfl)
     generalize hl':(x :: r).length=k at hlz HB0 ⊢
     clear hl'
     go_enter Tryz.func47,Tryz.ntmps47
     go_wp2_with fail
     go_ret
     exact ⟨by simp [nestP],HB0.out⟩
 ·have hres:nestP (.mk so on n t l ks) m=nestL l (m - 1):=by simp only [nestP,if_neg h0]
  obtain ⟨m,rfl⟩:∃ k,m=k+1:=⟨m - 1,by omega⟩
  rw [hres,Nat.add_sub_cancel]
  clear hres h0
  have hwl:wtL l≤1099511627776:=by simp only [wt] at hw;omega
  have HWM:=Lib.hid (fun v (h:v∈l)=>Nat.le_trans (wtL_mem h) hwl)
  have hlb:l.length≤1099511627776:=Nat.le_trans (wtL_length l) hwl
  clear hw hwl
  have HL:=Lib.hid hl
  have HIH:=Lib.hid IH
  clear hl hv IH
  obtain ⟨R1,hR1⟩:∃ r,nestL l m=r:=⟨_,rfl⟩
  rw [hR1]
  have HR:=Lib.hid (show nestL (l.drop 0) m=R1 from hR1)
  clear hR1
  obtain ⟨ln,hln⟩:∃ k,l.length=k:=⟨_,rfl⟩
  have HLN:=Lib.hid hln
  simp only [arg,six',six,strCell,hln]
  rw [hln] at hlb
  clear hln
  have q0:(((m+1:Nat):Int)==0)=false:=by simp;omega
  go_enter Tryz.func47,Tryz.ntmps47
  go_wp2_with fail
  have hb0:Below w.heap.size w (w.alloc (Obj.cells #[Value.int IntKind.i64 so,Value.bool on,Value.int IntKind.i64 n,Value.string { data:=t.toArray },Value.slice a1 ln c1,Value.slice a2 ks.length c2] 36)):=(Below.refl _ _).alloc (Nat.le_refl _) _
  have HB0:=Lib.hid hb0
  generalize w.alloc (Obj.cells #[Value.int IntKind.i64 so,Value.bool on,Value.int IntKind.i64 n,Value.string { data:=t.toArray },Value.slice a1 ln c1,Value.slice a2 ks.length c2] 36)=w0 at HB0 ⊢
  clear hb0
  go_loopw [28] (fun iv w'=>∃ i:Nat,iv=.int .i64 i∧i≤ln∧Hid (nestL (l.drop i) m=R1)∧Hid (Below w.heap.size w w')) (fun iv _=>ln - (Go.RowKit.intOf iv).toNat)
  case atStart=>exact ⟨0,rfl,by omega,HR,HB0⟩
  case round =>
   obtain ⟨i,rfl,hi,HI,HB⟩:=hrel
   by_cases hlt:i<ln
   ·have hll:i<l.length:=by rw [HLN.out];exact hlt
    obtain ⟨g,off,xs,rfl,hg,hc,hL⟩:=HL.out.resolve_left (fun h=>by rw [h] at hll;exact Nat.not_lt_zero _ hll)
    have hsm:Same R w wr:=fun b _ hb=>HB.out.block b hb
    obtain ⟨so',on',n',t',l',ks',a1',c1',a2',c2',he,hv',k0,k1,k2,k3,k4,k5⟩:=part_at i (ListIn.later hsm (fun _ h=>h) l xs hL) (hc.later hg hsm) hll
    have hdr:=nestL_drop (m:=m) hll
    rw [HI.out,he] at hdr
    have cP:=fun W' (hb':Below wr.heap.size wr W')=>(HIH.out l[i] (List.getElem_mem hll)) (.slice a1' l'.length c1') (.slice a2' ks'.length c2') R m W' (by rw [he];exact ValIn.later (fun b _ hb=>hb'.block b hb) (fun _ h=>h) _ _ _ hv') (by omega) (HWM.out _ (List.getElem_mem hll))
    rw [he] at cP
    obtain ⟨b1,hb1⟩:∃ b,nestP (.mk so' on' n' t' l' ks') m=b:=⟨_,rfl⟩
    rw [hb1] at hdr
    simp only [hb1,arg,six',six,strCell] at cP
    have HDR:=Lib.hid hdr
    clear hdr he hv' hb1 hsm hL hc
    go_wp2_with fail
    refine (cP _ ((Below.refl _ _).alloc (Nat.le_refl _) _)).mono ?_
    rintro e w2 ⟨rfl,hb2⟩
    have HB2:=Lib.hid (HB.out.trans ((((Below.refl wr.heap.size wr).alloc (Nat.le_refl _) _).trans (hb2.mono (by simp))).mono HB.out.size))
    clear cP hb2
    cases b1 with
    | false =>
     go_wp2_with fail
     go_ret
     exact ⟨by rw [HDR.out];rfl,HB2.out⟩
    | true =>
     go_wp2_with fail
     go_roundw
     case rel=>exact ⟨i+1,by go_num,by omega,Lib.hid (by rw [HDR.out,Bool.true_and]),HB2⟩
     case measure=>simp [Go.RowKit.intOf];omega
   ·go_wp2_with fail
    go_ret
    refine ⟨?_,HB.out⟩
    obtain rfl:i=ln:=by omega
    have h:=HI.out
    rw [← HLN.out,List.drop_length] at h
    rw [← h];rfl
end Go.Proofs.YtpbnhnilfpoljaaGreatDoor.V
