/- What the claim needs of the texts VRead3, VBuild, VRead4. -/
import Derived.Test.YtpbnhnilfpoljaaGreatDoorRB2
import Derived.Test.YtpbnhnilfpoljaaGreatDoorProg
import Derived.Shelf.Strings.BuilderK
import Derived.Shelf.Strings.BuilderRune
namespace Go.Proofs.YtpbnhnilfpoljaaGreatDoor.V
open Go.RowKit
open Go.Lib
def ReadsS (d:Nat) (s:ByteArray) (o:Int) (r:Option (Nat × List UInt8)) (w:World) (e:Ending) (w':World):Prop :=
 match r with
 | some (n,l)=>e=.returned (.tuple #[.int .i32 n,.bool true])∧RdL d s l o w'∧Mut w.heap.size d w w'
 | none=>∃ (m:Int) (l:List UInt8),e=.returned (.tuple #[.int .i32 m,.bool false])∧RdL d s l o w'∧Mut w.heap.size d w w'
theorem readsS_some {d:Nat} {s:ByteArray} {o:Int} {r:Option (Nat × List UInt8)} {w w':World} {n:Nat} {l:List UInt8} {k:Int} (h:r=some (n,l)) (hk:k=n) (h1:RdL d s l o w') (h2:Mut w.heap.size d w w') :
  ReadsS d s o r w (.returned (.tuple #[.int .i32 k,.bool true])) w':=by subst h;subst hk;exact ⟨rfl,h1,h2⟩
theorem readsS_none {d:Nat} {s:ByteArray} {o:Int} {r:Option (Nat × List UInt8)} {w w':World} {m:Int} {l:List UInt8} (h:r=none) (h1:RdL d s l o w') (h2:Mut w.heap.size d w w') :
  ReadsS d s o r w (.returned (.tuple #[.int .i32 m,.bool false])) w':=by subst h;exact ⟨m,l,rfl,h1,h2⟩
theorem scalarE_none {l:List UInt8} (h:unit l=none):scalarE l=none:=by simp only [scalarE,h]
theorem scalarE_one {l r:List UInt8} {a:Nat} (h:unit l=some (a,r)) (ha:a<55296∨57344≤a):scalarE l=some (a,r):=by simp only [scalarE,h,if_pos ha]
theorem scalarE_late {l r:List UInt8} {a:Nat} (h:unit l=some (a,r)) (h1:56320≤a) (h2:a<57344):scalarE l=none:=by
 simp only [scalarE,h];rw [if_neg (by omega),if_pos h1]
theorem scalarE_bare {l r:List UInt8} {a:Nat} (h:unit l=some (a,r)) (h1:55296≤a) (h2:a<56320) (hr:Lib.hasPrefix r [92,117]=false):scalarE l=none:=by
 simp only [scalarE,h];rw [if_neg (by omega),if_neg (by omega)]
 split
 ·simp [Lib.hasPrefix] at hr
 ·rfl
theorem scalarE_two {l r r':List UInt8} {a:Nat} (h:unit l=some (a,r)) (h1:55296≤a) (h2:a<56320) (hr:r=92 :: 117 :: r') :
  scalarE l=match unit r' with
    | none=>none
    | some (b,r'')=>if b<56320∨57344≤b then none else some (65536+(a - 55296)*1024+(b - 56320),r''):=by
 simp only [scalarE,h];rw [if_neg (by omega),if_neg (by omega),hr];rfl
theorem prefix_two {r:List UInt8} (h:Lib.hasPrefix r [92,117]=true):r=92 :: 117 :: r.drop 2:=by
 obtain ⟨t,rfl⟩:=List.isPrefixOf_iff_prefix.1 h
 rfl
theorem hex4_lt {x y z u:UInt8} {n:Nat} (h:hex4 x y z u=some n):n≤65535:=by
 unfold hex4 at h
 split at h
 ·rename_i p q p2 q2 ha hb hc hd
  have:=hexv_lt _ _ ha;have:=hexv_lt _ _ hb;have:=hexv_lt _ _ hc;have:=hexv_lt _ _ hd
  have h:((p*16+q)*16+p2)*16+q2=n:=by simpa using h
  omega
 ·cases h
theorem unit_lt {l r:List UInt8} {n:Nat} (h:unit l=some (n,r)):n≤65535:=by
 match l,h with
 | x :: y :: z :: u :: r',h =>
  simp only [unit,Option.map_eq_some_iff,Prod.mk.injEq] at h
  obtain ⟨m,h3,rfl,_⟩:=h
  exact hex4_lt h3
set_option maxHeartbeats 1000000 in
set_option maxRecDepth 100000 in
theorem scalar_any (d:Nat) (s:ByteArray) (l:List UInt8) (o:Int) (B:Nat) (w:World) (hr:RdL d s l o w) (hE:Env B w) (hd:B≤d) (hs:s.size≤1099511627776) :
  Calls Tryz.prog 135 #[.pointer (some ⟨d,0,none⟩)] w (ReadsS d s o (scalarE l) w):=by
 cases h1:unit l with
 | none =>
  have hres:=Lib.hid (scalarE_none h1)
  have c1:=unit_none d s l o B w hr hE hs h1
  clear h1 hr hE
  go_enter Tryz.func135,Tryz.ntmps135
  go_wp2_with (go_at_call 144;refine c1.mono ?_;rintro e w1 ⟨rfl,hr1,hm1⟩)
  go_ret2
  exact readsS_none hres.out hr1 hm1
 | some p =>
  obtain ⟨a,r⟩:=p
  have c1:=unit_ok d s l r a o w hr hs h1
  have H65:=Lib.hid (unit_lt h1)
  by_cases ha1:a<55296
  ·have hres:=Lib.hid (scalarE_one h1 (.inl ha1))
   have i1:decide ((a:Int)<55296)=true:=by simp;omega
   clear h1 hr hE ha1
   go_enter Tryz.func135,Tryz.ntmps135
   go_wp2_with (go_at_call 144;refine c1.mono ?_;rintro e w1 ⟨rfl,hr1,hm1⟩)
   go_ret2
   exact readsS_some hres.out rfl hr1 hm1
  ·by_cases ha2:57344≤a
   ·have hres:=Lib.hid (scalarE_one h1 (.inr ha2))
    have i1:decide ((a:Int)<55296)=false:=by simp;omega
    have i2:decide (57344≤(a:Int))=true:=by simp;omega
    clear h1 hr hE ha1 ha2
    go_enter Tryz.func135,Tryz.ntmps135
    go_wp2_with (go_at_call 144;refine c1.mono ?_;rintro e w1 ⟨rfl,hr1,hm1⟩)
    go_ret2
    exact readsS_some hres.out rfl hr1 hm1
   ·have i1:decide ((a:Int)<55296)=false:=by simp;omega
    have i2:decide (57344≤(a:Int))=false:=by simp;omega
    by_cases ha3:56320≤a
    ·have hres:=Lib.hid (scalarE_late h1 ha3 (by omega))
     have i3:decide (56320≤(a:Int))=true:=by simp;omega
     clear h1 hr hE ha1 ha2 ha3
     go_enter Tryz.func135,Tryz.ntmps135
     go_wp2_with (go_at_call 144;refine c1.mono ?_;rintro e w1 ⟨rfl,hr1,hm1⟩)
     go_ret2
     exact readsS_none hres.out hr1 hm1
    ·have i3:decide (56320≤(a:Int))=false:=by simp;omega
     cases hp:Lib.hasPrefix r [92,117] with
     | false =>
      have hres:=Lib.hid (scalarE_bare h1 (by omega) (by omega) hp)
      have c2:∀ W,RdL d s r o W→Calls Tryz.prog 83 #[.pointer (some ⟨d,0,none⟩),.string ⟨#[92,117]⟩] W _:=fun W h=>take_no d s ⟨#[92,117]⟩ r o W h hp
      have HP:=Lib.hid hp
      clear h1 hr hE ha1 ha2 ha3 hp
      go_enter Tryz.func135,Tryz.ntmps135
      go_wp2_with (first|(go_at_call 144;refine c1.mono ?_;rintro e w1 ⟨rfl,hr1,hm1⟩)|(go_at_call 83;refine (c2 _ hr1).mono ?_;rintro e w2 ⟨rfl,hr2,hm2⟩))
      go_ret2
      exact readsS_none hres.out hr2 (hm1.trans (hm2.mono hm1.size))
     | true =>
      obtain ⟨r',hr'⟩:∃ r',r=92 :: 117 :: r':=⟨_,prefix_two hp⟩
      have hres:=scalarE_two h1 (by omega) (by omega) hr'
      have c2:∀ W,RdL d s r o W→Calls Tryz.prog 83 #[.pointer (some ⟨d,0,none⟩),.string ⟨#[92,117]⟩] W fun e w'=>e=.returned (.bool true)∧RdL d s r' o w'∧Mut W.heap.size d W w':=fun W h=>(take_yes d s ⟨#[92,117]⟩ r o W h hs hp).mono fun e w' ⟨he,h1,h2⟩=>⟨he,by rw [hr'] at h1;exact h1,h2⟩
      clear hp hr'
      cases h2:unit r' with
      | none =>
       rw [h2] at hres
       replace hres:=Lib.hid hres
       have c3:∀ W,RdL d s r' o W→Env B W→_:=fun W h hE=>unit_none d s r' o B W h hE hs h2
       have hmut:∀ W,Mut w.heap.size d w W→Env B W:=fun W hm=>hE.mut hd hm
       clear h1 hr hE ha1 ha2 ha3 h2
       go_enter Tryz.func135,Tryz.ntmps135
       go_wp2_with fail
       refine c1.mono ?_;rintro e w1 ⟨rfl,hr1,hm1⟩
       go_wp2_with fail
       refine (c2 _ hr1).mono ?_;rintro e w2 ⟨rfl,hr2,hm2⟩
       replace hm2:=hm1.trans (hm2.mono hm1.size)
       go_wp2_with fail
       refine (c3 _ hr2 (hmut _ hm2)).mono ?_;rintro e w3 ⟨rfl,hr3,hm3⟩
       go_wp2_with fail
       go_ret2
       exact readsS_none hres.out hr3 (hm2.trans (hm3.mono hm2.size))
      | some q =>
       obtain ⟨b,r''⟩:=q
       rw [h2] at hres
       have c3:∀ W,RdL d s r' o W→Calls Tryz.prog 144 #[.pointer (some ⟨d,0,none⟩)] W fun e w'=>e=.returned (.tuple #[.int .i32 b,.bool true])∧RdL d s r'' o w'∧Mut W.heap.size d W w':=fun W h=>unit_ok d s r' r'' b o W h hs h2
       have hb65:=unit_lt h2
       by_cases hb1:b<56320
       ·replace hres:=Lib.hid (hres.trans (if_pos (.inl hb1)))
        have k1:decide ((b:Int)<56320)=true:=by simp;omega
        clear h1 hr hE ha1 ha2 ha3 h2 hb65 hb1
        go_enter Tryz.func135,Tryz.ntmps135
        go_wp2_with fail
        refine c1.mono ?_;rintro e w1 ⟨rfl,hr1,hm1⟩
        go_wp2_with fail
        refine (c2 _ hr1).mono ?_;rintro e w2 ⟨rfl,hr2,hm2⟩
        replace hm2:=hm1.trans (hm2.mono hm1.size)
        go_wp2_with fail
        clear i1 i2 i3 c1 c2
        refine (c3 _ hr2).mono ?_;rintro e w3 ⟨rfl,hr3,hm3⟩
        go_wp2_with fail
        go_ret2
        exact readsS_none hres.out hr3 (hm2.trans (hm3.mono hm2.size))
       ·have k1:decide ((b:Int)<56320)=false:=by simp;omega
        by_cases hb2:57344≤b
        ·replace hres:=Lib.hid (hres.trans (if_pos (.inr hb2)))
         have k2:decide (57344≤(b:Int))=true:=by simp;omega
         clear h1 hr hE ha1 ha2 ha3 h2 hb65 hb1 hb2
         go_enter Tryz.func135,Tryz.ntmps135
         go_wp2_with fail
         refine c1.mono ?_;rintro e w1 ⟨rfl,hr1,hm1⟩
         go_wp2_with fail
         refine (c2 _ hr1).mono ?_;rintro e w2 ⟨rfl,hr2,hm2⟩
         replace hm2:=hm1.trans (hm2.mono hm1.size)
         go_wp2_with fail
         clear i1 i2 i3 c1 c2
         refine (c3 _ hr2).mono ?_;rintro e w3 ⟨rfl,hr3,hm3⟩
         go_wp2_with fail
         go_ret2
         exact readsS_none hres.out hr3 (hm2.trans (hm3.mono hm2.size))
        ·replace hres:=Lib.hid (hres.trans (if_neg (by omega)))
         have k2:decide (57344≤(b:Int))=false:=by simp;omega
         have HA:=Lib.hid (And.intro (show 55296≤a∧a<56320 by omega) (show 56320≤b∧b<57344 by omega))
         clear h1 hr hE ha1 ha2 ha3 h2 hb65 hb1 hb2
         go_enter Tryz.func135,Tryz.ntmps135
         go_wp2_with fail
         refine c1.mono ?_;rintro e w1 ⟨rfl,hr1,hm1⟩
         go_wp2_with fail
         refine (c2 _ hr1).mono ?_;rintro e w2 ⟨rfl,hr2,hm2⟩
         replace hm2:=hm1.trans (hm2.mono hm1.size)
         go_wp2_with fail
         clear i1 i2 i3 c1 c2
         refine (c3 _ hr2).mono ?_;rintro e w3 ⟨rfl,hr3,hm3⟩
         go_wp2_with fail
         go_ret2
         refine readsS_some hres.out ?_ hr3 (hm2.trans (hm3.mono hm2.size))
         obtain ⟨⟨g1,g2⟩,g3,g4⟩:=HA.out
         unfold wrap32;omega
theorem letters_fin:∀ n:Fin 256,(escLetter (UInt8.ofNat n.val)=none∧Lib.indexByte [34,92,47,98,102,110,114,116] (UInt8.ofNat n.val)=-1) ∨
  (∃ i:Fin 8,Lib.indexByte [34,92,47,98,102,110,114,116] (UInt8.ofNat n.val)=i.val∧escLetter (UInt8.ofNat n.val)=some (([34,92,47,8,12,10,13,9]:List Nat).getD i.val 0)):=by decide +kernel
theorem letters (c:UInt8):(escLetter c=none∧Lib.indexByte [34,92,47,98,102,110,114,116] c=-1) ∨
  (∃ i:Fin 8,Lib.indexByte [34,92,47,98,102,110,114,116] c=i.val∧escLetter c=some (([34,92,47,8,12,10,13,9]:List Nat).getD i.val 0)):=by
 have h:=letters_fin ⟨c.toNat,c.toNat_lt⟩
 simpa using h
theorem escape_u {c:UInt8} {r:List UInt8} (h:c=117):escape (c :: r)=scalarE r:=by simp [escape,h]
theorem escape_no {c:UInt8} {r:List UInt8} (h:c≠117) (h2:escLetter c=none):escape (c :: r)=none:=by simp [escape,h,h2]
theorem escape_yes {c:UInt8} {r:List UInt8} {n:Nat} (h:c≠117) (h2:escLetter c=some n):escape (c :: r)=some (n,r):=by simp [escape,h,h2]
set_option maxHeartbeats 2000000 in
theorem escape_any (d:Nat) (s:ByteArray) (l:List UInt8) (o:Int) (B:Nat) (w:World) (hr:RdL d s l o w) (hE:Env B w) (hd:B≤d) (hs:s.size≤1099511627776) :
  Calls Tryz.prog 127 #[.pointer (some ⟨d,0,none⟩)] w (ReadsS d s o (escape l) w):=by
 match l,hr with
 | [],hr =>
  have hres:Hid (escape []=none):=rfl
  have c1:=take_no d s ⟨#[117]⟩ [] o w hr rfl
  clear hr hE
  go_enter Tryz.func127,Tryz.ntmps127
  go_wp2_with fail
  refine c1.mono ?_;rintro e w1 ⟨rfl,hr1,hm1⟩
  have hr1':=hr1
  obtain ⟨a,ha,hl,hr1⟩:=hr1
  obtain rfl:a=s.size:=by
   have:=congrArg List.length hl
   rw [List.length_drop,← Lib.size_eq] at this;simp at this;omega
  have c2:=ended_yes d s o w1 hr1
  clear hl ha
  go_wp2_with fail
  refine c2.mono ?_;rintro e w2 ⟨rfl,nq,rfl⟩
  go_wp2_with fail
  go_ret2
  exact readsS_none hres.out (hr1'.below ⟨rfl,rfl,rfl,Nat.le_refl _,fun _ _=>rfl⟩) (hm1.drewN nq)
 | c :: r,hr =>
  by_cases hc:c=117
  ·have hres:=Lib.hid (escape_u (r:=r) hc)
   have c1:=take_yes d s ⟨#[117]⟩ (c :: r) o w hr hs (by rw [hc];simp [Lib.hasPrefix])
   have c2:∀ W,RdL d s r o W→Env B W→_:=fun W h hE=>scalar_any d s r o B W h hE hd hs
   have hmut:∀ W,Mut w.heap.size d w W→Env B W:=fun W hm=>hE.mut hd hm
   clear hr hE hc
   go_enter Tryz.func127,Tryz.ntmps127
   go_wp2_with fail
   refine c1.mono ?_;rintro e w1 ⟨rfl,hr1,hm1⟩
   go_wp2_with fail
   refine (c2 _ hr1 (hmut _ hm1)).mono ?_;intro e w2 hR
   rcases hq:scalarE r with _|⟨n,l'⟩
   ·rw [hq] at hR
    obtain ⟨m,l',rfl,hr2,hm2⟩:=hR
    have HQ:=Lib.hid hq
    clear hq
    go_wp2_with fail
    go_ret2
    exact readsS_none (hres.out.trans HQ.out) hr2 (hm1.trans (hm2.mono hm1.size))
   ·rw [hq] at hR
    obtain ⟨rfl,hr2,hm2⟩:=hR
    have HQ:=Lib.hid hq
    clear hq
    go_wp2_with fail
    go_ret2
    exact readsS_some (hres.out.trans HQ.out) rfl hr2 (hm1.trans (hm2.mono hm1.size))
  ·have c1:=take_no d s ⟨#[117]⟩ (c :: r) o w hr (by simp [Lib.hasPrefix,List.isPrefixOf];exact fun h=>hc h.symm)
   have hmono:∀ W,Mut w.heap.size d w W→w.heap.size≤W.heap.size:=fun W h=>h.size
   have after:∀ W,RdL d s (c :: r) o W→∃ (a:Nat) (ha:a<s.size),Rd d s a o W∧s[a]=c∧s.data.toList.drop (a+1)=r:=fun W h=>by
    obtain ⟨a,ha,hl,hR⟩:=h
    have hlt:a<s.size:=by
     have:=congrArg List.length hl
     rw [List.length_drop,← Lib.size_eq] at this;simp at this;omega
    refine ⟨a,hlt,hR,?_,?_⟩
    ·have:=drop_get s a 0 (by omega)
     rw [hl] at this;simpa using this.symm
    ·rw [← List.drop_drop,hl];rfl
   rcases letters c with ⟨h1,h2⟩|⟨i,h2,h1⟩
   ·have hres:=Lib.hid (escape_no (r:=r) hc h1)
    have cI:∀ W,Calls Tryz.prog 108 #[.string ⟨#[34,92,47,98,102,110,114,116]⟩,.int .u8 c.toNat] W fun e w'=>e=.returned (.int .i64 (-1))∧w'=W:=fun W=>by
     have h:=Tryz.strings_IndexByte ⟨#[34,92,47,98,102,110,114,116]⟩ c.toNat W
     rw [u8_round] at h
     rw [show Lib.indexByte (⟨#[34,92,47,98,102,110,114,116]⟩:ByteArray).data.toList c=-1 from h2] at h;exact h
    clear hr hE hc h1 h2
    go_enter Tryz.func127,Tryz.ntmps127
    go_wp2_with fail
    refine c1.mono ?_;rintro e w1 ⟨rfl,hr1,hm1⟩
    obtain ⟨a,ha,hR,hsc,hdr⟩:=after w1 hr1
    subst hsc
    have c2:=ended_no d s a o w1 hR ha
    have HDR:=Lib.hid hdr
    clear hdr after
    go_wp2_with fail
    refine c2.mono ?_;rintro e w2 ⟨rfl,nq,hw2⟩
    have hR2:Rd d s a o w2:=by rw [hw2];exact hR.drewN nq
    have hr2:RdL d s (s[a] :: r) o w2:=by rw [hw2];exact hr1.below ⟨rfl,rfl,rfl,Nat.le_refl _,fun _ _=>rfl⟩
    have hm2:Mut w.heap.size d w w2:=by rw [hw2];exact hm1.drewN nq
    have q0:=hR2.c0
    have q1:=hR2.c1
    have b0:(0:Int)≤(a:Int):=by omega
    have b1:(a:Int)<(s.size:Int):=by omega
    clear hw2 hr1 hm1 hR
    go_wp2_with fail
    go_quiet ((go_at_call 108;exact Calls.quiet_of_same (cI _)))
    go_wp2_with fail
    go_ret2
    exact readsS_none hres.out (hr2.below ⟨rfl,rfl,rfl,Nat.le_refl _,fun _ _=>rfl⟩) (hm2.drewN _)
   ·have hres:=Lib.hid (escape_yes (r:=r) hc h1)
    have cI:∀ W,Calls Tryz.prog 108 #[.string ⟨#[34,92,47,98,102,110,114,116]⟩,.int .u8 c.toNat] W fun e w'=>e=.returned (.int .i64 i.val)∧w'=W:=fun W=>by
     have h:=Tryz.strings_IndexByte ⟨#[34,92,47,98,102,110,114,116]⟩ c.toNat W
     rw [u8_round] at h
     rw [show Lib.indexByte (⟨#[34,92,47,98,102,110,114,116]⟩:ByteArray).data.toList c=i.val from h2] at h;exact h
    clear hr hE hc h1 h2
    have h8:=i.isLt
    obtain ⟨i,hi⟩:=i
    match i,hi,h8 with
    | 0,_,_ =>
     go_enter Tryz.func127,Tryz.ntmps127
     go_wp2_with fail
     refine c1.mono ?_;rintro e w1 ⟨rfl,hr1,hm1⟩
     obtain ⟨a,ha,hR,hsc,hdr⟩:=after w1 hr1
     subst hsc
     have c2:=ended_no d s a o w1 hR ha
     have HDR:=Lib.hid hdr
     clear hdr after
     go_wp2_with fail
     refine c2.mono ?_;rintro e w2 ⟨rfl,nq,hw2⟩
     have hR2:Rd d s a o w2:=by rw [hw2];exact hR.drewN nq
     have hm2:Mut w.heap.size d w w2:=by rw [hw2];exact hm1.drewN nq
     have q0:=hR2.c0
     have q1:=hR2.c1
     have q2:=hR2.f1
     have b0:(0:Int)≤(a:Int):=by omega
     have b1:(a:Int)<(s.size:Int):=by omega
     clear hw2 hr1 hm1 hR
     go_wp2_with fail
     go_quiet ((go_at_call 108;exact Calls.quiet_of_same (cI _)))
     go_wp2_with fail
     go_ret2
     exact readsS_some hres.out (by unfold wrap32;decide +kernel) (RdL.of (a+1) _ (by omega) (by omega) HDR.out ((hR2.drewN _).set1 _)) ((hm2.drewN _).setCell 1 _)
    | 1,_,_ =>
     go_enter Tryz.func127,Tryz.ntmps127
     go_wp2_with fail
     refine c1.mono ?_;rintro e w1 ⟨rfl,hr1,hm1⟩
     obtain ⟨a,ha,hR,hsc,hdr⟩:=after w1 hr1
     subst hsc
     have c2:=ended_no d s a o w1 hR ha
     have HDR:=Lib.hid hdr
     clear hdr after
     go_wp2_with fail
     refine c2.mono ?_;rintro e w2 ⟨rfl,nq,hw2⟩
     have hR2:Rd d s a o w2:=by rw [hw2];exact hR.drewN nq
     have hm2:Mut w.heap.size d w w2:=by rw [hw2];exact hm1.drewN nq
     have q0:=hR2.c0
     have q1:=hR2.c1
     have q2:=hR2.f1
     have b0:(0:Int)≤(a:Int):=by omega
     have b1:(a:Int)<(s.size:Int):=by omega
     clear hw2 hr1 hm1 hR
     go_wp2_with fail
     go_quiet ((go_at_call 108;exact Calls.quiet_of_same (cI _)))
     go_wp2_with fail
     go_ret2
     exact readsS_some hres.out (by unfold wrap32;decide +kernel) (RdL.of (a+1) _ (by omega) (by omega) HDR.out ((hR2.drewN _).set1 _)) ((hm2.drewN _).setCell 1 _)
    | 2,_,_ =>
     go_enter Tryz.func127,Tryz.ntmps127
     go_wp2_with fail
     refine c1.mono ?_;rintro e w1 ⟨rfl,hr1,hm1⟩
     obtain ⟨a,ha,hR,hsc,hdr⟩:=after w1 hr1
     subst hsc
     have c2:=ended_no d s a o w1 hR ha
     have HDR:=Lib.hid hdr
     clear hdr after
     go_wp2_with fail
     refine c2.mono ?_;rintro e w2 ⟨rfl,nq,hw2⟩
     have hR2:Rd d s a o w2:=by rw [hw2];exact hR.drewN nq
     have hm2:Mut w.heap.size d w w2:=by rw [hw2];exact hm1.drewN nq
     have q0:=hR2.c0
     have q1:=hR2.c1
     have q2:=hR2.f1
     have b0:(0:Int)≤(a:Int):=by omega
     have b1:(a:Int)<(s.size:Int):=by omega
     clear hw2 hr1 hm1 hR
     go_wp2_with fail
     go_quiet ((go_at_call 108;exact Calls.quiet_of_same (cI _)))
     go_wp2_with fail
     go_ret2
     exact readsS_some hres.out (by unfold wrap32;decide +kernel) (RdL.of (a+1) _ (by omega) (by omega) HDR.out ((hR2.drewN _).set1 _)) ((hm2.drewN _).setCell 1 _)
    | 3,_,_ =>
     go_enter Tryz.func127,Tryz.ntmps127
     go_wp2_with fail
     refine c1.mono ?_;rintro e w1 ⟨rfl,hr1,hm1⟩
     obtain ⟨a,ha,hR,hsc,hdr⟩:=after w1 hr1
     subst hsc
     have c2:=ended_no d s a o w1 hR ha
     have HDR:=Lib.hid hdr
     clear hdr after
     go_wp2_with fail
     refine c2.mono ?_;rintro e w2 ⟨rfl,nq,hw2⟩
     have hR2:Rd d s a o w2:=by rw [hw2];exact hR.drewN nq
     have hm2:Mut w.heap.size d w w2:=by rw [hw2];exact hm1.drewN nq
     have q0:=hR2.c0
     have q1:=hR2.c1
     have q2:=hR2.f1
     have b0:(0:Int)≤(a:Int):=by omega
     have b1:(a:Int)<(s.size:Int):=by omega
     clear hw2 hr1 hm1 hR
     go_wp2_with fail
     go_quiet ((go_at_call 108;exact Calls.quiet_of_same (cI _)))
     go_wp2_with fail
     go_ret2
     exact readsS_some hres.out (by unfold wrap32;decide +kernel) (RdL.of (a+1) _ (by omega) (by omega) HDR.out ((hR2.drewN _).set1 _)) ((hm2.drewN _).setCell 1 _)
    | 4,_,_ =>
     go_enter Tryz.func127,Tryz.ntmps127
     go_wp2_with fail
     refine c1.mono ?_;rintro e w1 ⟨rfl,hr1,hm1⟩
     obtain ⟨a,ha,hR,hsc,hdr⟩:=after w1 hr1
     subst hsc
     have c2:=ended_no d s a o w1 hR ha
     have HDR:=Lib.hid hdr
     clear hdr after
     go_wp2_with fail
     refine c2.mono ?_;rintro e w2 ⟨rfl,nq,hw2⟩
     have hR2:Rd d s a o w2:=by rw [hw2];exact hR.drewN nq
     have hm2:Mut w.heap.size d w w2:=by rw [hw2];exact hm1.drewN nq
     have q0:=hR2.c0
     have q1:=hR2.c1
     have q2:=hR2.f1
     have b0:(0:Int)≤(a:Int):=by omega
     have b1:(a:Int)<(s.size:Int):=by omega
     clear hw2 hr1 hm1 hR
     go_wp2_with fail
     go_quiet ((go_at_call 108;exact Calls.quiet_of_same (cI _)))
     go_wp2_with fail
     go_ret2
     exact readsS_some hres.out (by unfold wrap32;decide +kernel) (RdL.of (a+1) _ (by omega) (by omega) HDR.out ((hR2.drewN _).set1 _)) ((hm2.drewN _).setCell 1 _)
    | 5,_,_ =>
     go_enter Tryz.func127,Tryz.ntmps127
     go_wp2_with fail
     refine c1.mono ?_;rintro e w1 ⟨rfl,hr1,hm1⟩
     obtain ⟨a,ha,hR,hsc,hdr⟩:=after w1 hr1
     subst hsc
     have c2:=ended_no d s a o w1 hR ha
     have HDR:=Lib.hid hdr
     clear hdr after
     go_wp2_with fail
     refine c2.mono ?_;rintro e w2 ⟨rfl,nq,hw2⟩
     have hR2:Rd d s a o w2:=by rw [hw2];exact hR.drewN nq
     have hm2:Mut w.heap.size d w w2:=by rw [hw2];exact hm1.drewN nq
     have q0:=hR2.c0
     have q1:=hR2.c1
     have q2:=hR2.f1
     have b0:(0:Int)≤(a:Int):=by omega
     have b1:(a:Int)<(s.size:Int):=by omega
     clear hw2 hr1 hm1 hR
     go_wp2_with fail
     go_quiet ((go_at_call 108;exact Calls.quiet_of_same (cI _)))
     go_wp2_with fail
     go_ret2
     exact readsS_some hres.out (by unfold wrap32;decide +kernel) (RdL.of (a+1) _ (by omega) (by omega) HDR.out ((hR2.drewN _).set1 _)) ((hm2.drewN _).setCell 1 _)
    | 6,_,_ =>
     go_enter Tryz.func127,Tryz.ntmps127
     go_wp2_with fail
     refine c1.mono ?_;rintro e w1 ⟨rfl,hr1,hm1⟩
     obtain ⟨a,ha,hR,hsc,hdr⟩:=after w1 hr1
     subst hsc
     have c2:=ended_no d s a o w1 hR ha
     have HDR:=Lib.hid hdr
     clear hdr after
     go_wp2_with fail
     refine c2.mono ?_;rintro e w2 ⟨rfl,nq,hw2⟩
     have hR2:Rd d s a o w2:=by rw [hw2];exact hR.drewN nq
     have hm2:Mut w.heap.size d w w2:=by rw [hw2];exact hm1.drewN nq
     have q0:=hR2.c0
     have q1:=hR2.c1
     have q2:=hR2.f1
     have b0:(0:Int)≤(a:Int):=by omega
     have b1:(a:Int)<(s.size:Int):=by omega
     clear hw2 hr1 hm1 hR
     go_wp2_with fail
     go_quiet ((go_at_call 108;exact Calls.quiet_of_same (cI _)))
     go_wp2_with fail
     go_ret2
     exact readsS_some hres.out (by unfold wrap32;decide +kernel) (RdL.of (a+1) _ (by omega) (by omega) HDR.out ((hR2.drewN _).set1 _)) ((hm2.drewN _).setCell 1 _)
    | 7,_,_ =>
     go_enter Tryz.func127,Tryz.ntmps127
     go_wp2_with fail
     refine c1.mono ?_;rintro e w1 ⟨rfl,hr1,hm1⟩
     obtain ⟨a,ha,hR,hsc,hdr⟩:=after w1 hr1
     subst hsc
     have c2:=ended_no d s a o w1 hR ha
     have HDR:=Lib.hid hdr
     clear hdr after
     go_wp2_with fail
     refine c2.mono ?_;rintro e w2 ⟨rfl,nq,hw2⟩
     have hR2:Rd d s a o w2:=by rw [hw2];exact hR.drewN nq
     have hm2:Mut w.heap.size d w w2:=by rw [hw2];exact hm1.drewN nq
     have q0:=hR2.c0
     have q1:=hR2.c1
     have q2:=hR2.f1
     have b0:(0:Int)≤(a:Int):=by omega
     have b1:(a:Int)<(s.size:Int):=by omega
     clear hw2 hr1 hm1 hR
     go_wp2_with fail
     go_quiet ((go_at_call 108;exact Calls.quiet_of_same (cI _)))
     go_wp2_with fail
     go_ret2
     exact readsS_some hres.out (by unfold wrap32;decide +kernel) (RdL.of (a+1) _ (by omega) (by omega) HDR.out ((hR2.drewN _).set1 _)) ((hm2.drewN _).setCell 1 _)
end Go.Proofs.YtpbnhnilfpoljaaGreatDoor.V
namespace Go.Proofs.YtpbnhnilfpoljaaGreatDoor.V
open Go.Shelf Go.RowKit
def bren:Go.Shelf.Ren:=⟨fun|166=>75|167=>106|168=>128|240=>103|276=>122|242=>136|278=>145|n=>n,fun|0=>0|3=>3|4=>4|5=>5|9=>9|20=>20|21=>21|37=>98|46=>171|51=>209|70=>97|72=>100|75=>141|164=>192|80=>102|n=>n,fun n=>n⟩
theorem blays166:Lays.n166 Tryz.prog bren:={
 mixed:=by kernel_rfl,
 f166:=Tryz.func75.trans (congrArg some (by kernel_rfl)),
 f240:=Tryz.func103.trans (congrArg some (by kernel_rfl)),
 f276:=Tryz.func122.trans (congrArg some (by kernel_rfl)),
 t0:=Tryz.underlying0,
 a0:=Tryz.isAgg0,
 z0:=Tryz.sizeOf0,
 v0:=Tryz.zeroValue0,
 t3:=Tryz.underlying3,
 a3:=Tryz.isAgg3,
 z3:=Tryz.sizeOf3,
 v3:=Tryz.zeroValue3,
 t4:=Tryz.underlying4,
 a4:=Tryz.isAgg4,
 z4:=Tryz.sizeOf4,
 v4:=Tryz.zeroValue4,
 t9:=Tryz.underlying9,
 a9:=Tryz.isAgg9,
 z9:=Tryz.sizeOf9,
 v9:=Tryz.zeroValue9,
 t20:=Tryz.underlying20,
 a20:=Tryz.isAgg20,
 z20:=Tryz.sizeOf20,
 v20:=Tryz.zeroValue20,
 t37:=Tryz.underlying98,
 a37:=Tryz.isAgg98,
 z37:=Tryz.sizeOf98,
 v37:=Tryz.zeroValue98,
 t70:=Tryz.underlying97,
 a70:=Tryz.isAgg97,
 z70:=Tryz.sizeOf97,
 v70:=Tryz.zeroValue97,
 t72:=Tryz.underlying100,
 a72:=Tryz.isAgg100,
 z72:=Tryz.sizeOf100,
 v72:=Tryz.zeroValue100,
 t75:=Tryz.underlying141,
 a75:=Tryz.isAgg141,
 z75:=Tryz.sizeOf141,
 v75:=Tryz.zeroValue141,
 t164:=Tryz.underlying192,
 a164:=Tryz.isAgg192,
 z164:=Tryz.sizeOf192,
 v164:=Tryz.zeroValue192 }
theorem blays167:Lays.n167 Tryz.prog bren:={
 mixed:=by kernel_rfl,
 f167:=Tryz.func106.trans (congrArg some (by kernel_rfl)),
 f240:=Tryz.func103.trans (congrArg some (by kernel_rfl)),
 f276:=Tryz.func122.trans (congrArg some (by kernel_rfl)),
 t0:=Tryz.underlying0,
 a0:=Tryz.isAgg0,
 z0:=Tryz.sizeOf0,
 v0:=Tryz.zeroValue0,
 t4:=Tryz.underlying4,
 a4:=Tryz.isAgg4,
 z4:=Tryz.sizeOf4,
 v4:=Tryz.zeroValue4,
 t5:=Tryz.underlying5,
 a5:=Tryz.isAgg5,
 z5:=Tryz.sizeOf5,
 v5:=Tryz.zeroValue5,
 t9:=Tryz.underlying9,
 a9:=Tryz.isAgg9,
 z9:=Tryz.sizeOf9,
 v9:=Tryz.zeroValue9,
 t20:=Tryz.underlying20,
 a20:=Tryz.isAgg20,
 z20:=Tryz.sizeOf20,
 v20:=Tryz.zeroValue20,
 t37:=Tryz.underlying98,
 a37:=Tryz.isAgg98,
 z37:=Tryz.sizeOf98,
 v37:=Tryz.zeroValue98,
 t70:=Tryz.underlying97,
 a70:=Tryz.isAgg97,
 z70:=Tryz.sizeOf97,
 v70:=Tryz.zeroValue97,
 t72:=Tryz.underlying100,
 a72:=Tryz.isAgg100,
 z72:=Tryz.sizeOf100,
 v72:=Tryz.zeroValue100,
 t75:=Tryz.underlying141,
 a75:=Tryz.isAgg141,
 z75:=Tryz.sizeOf141,
 v75:=Tryz.zeroValue141,
 t164:=Tryz.underlying192,
 a164:=Tryz.isAgg192,
 z164:=Tryz.sizeOf192,
 v164:=Tryz.zeroValue192 }
theorem blays168:Lays.n168 Tryz.prog bren:={
 mixed:=by kernel_rfl,
 f168:=Tryz.func128.trans (congrArg some (by kernel_rfl)),
 f240:=Tryz.func103.trans (congrArg some (by kernel_rfl)),
 f242:=Tryz.func136.trans (congrArg some (by kernel_rfl)),
 f276:=Tryz.func122.trans (congrArg some (by kernel_rfl)),
 f278:=Tryz.func145.trans (congrArg some (by kernel_rfl)),
 t0:=Tryz.underlying0,
 a0:=Tryz.isAgg0,
 z0:=Tryz.sizeOf0,
 v0:=Tryz.zeroValue0,
 t3:=Tryz.underlying3,
 a3:=Tryz.isAgg3,
 z3:=Tryz.sizeOf3,
 v3:=Tryz.zeroValue3,
 t4:=Tryz.underlying4,
 a4:=Tryz.isAgg4,
 z4:=Tryz.sizeOf4,
 v4:=Tryz.zeroValue4,
 t5:=Tryz.underlying5,
 a5:=Tryz.isAgg5,
 z5:=Tryz.sizeOf5,
 v5:=Tryz.zeroValue5,
 t9:=Tryz.underlying9,
 a9:=Tryz.isAgg9,
 z9:=Tryz.sizeOf9,
 v9:=Tryz.zeroValue9,
 t20:=Tryz.underlying20,
 a20:=Tryz.isAgg20,
 z20:=Tryz.sizeOf20,
 v20:=Tryz.zeroValue20,
 t21:=Tryz.underlying21,
 a21:=Tryz.isAgg21,
 z21:=Tryz.sizeOf21,
 v21:=Tryz.zeroValue21,
 t37:=Tryz.underlying98,
 a37:=Tryz.isAgg98,
 z37:=Tryz.sizeOf98,
 v37:=Tryz.zeroValue98,
 t46:=Tryz.underlying171,
 a46:=Tryz.isAgg171,
 z46:=Tryz.sizeOf171,
 v46:=Tryz.zeroValue171,
 t51:=Tryz.underlying209,
 a51:=Tryz.isAgg209,
 z51:=Tryz.sizeOf209,
 v51:=Tryz.zeroValue209,
 t70:=Tryz.underlying97,
 a70:=Tryz.isAgg97,
 z70:=Tryz.sizeOf97,
 v70:=Tryz.zeroValue97,
 t72:=Tryz.underlying100,
 a72:=Tryz.isAgg100,
 z72:=Tryz.sizeOf100,
 v72:=Tryz.zeroValue100,
 t75:=Tryz.underlying141,
 a75:=Tryz.isAgg141,
 z75:=Tryz.sizeOf141,
 v75:=Tryz.zeroValue141,
 t164:=Tryz.underlying192,
 a164:=Tryz.isAgg192,
 z164:=Tryz.sizeOf192,
 v164:=Tryz.zeroValue192 }
theorem bextra:Builder.Extra Tryz.prog bren where
 sizeBuilder:=by kernel_rfl
 liesBuilder:=by kernel_rfl
 t5:=Tryz.underlying5
 a5:=Tryz.isAgg5
 z5:=Tryz.sizeOf5
 v5:=Tryz.zeroValue5
 infoByte:=by kernel_rfl
 cellsByte:=by kernel_rfl
 sizeByte:=by kernel_rfl
 neB5:=by decide
theorem Builder_WriteByte_k (B b:Nat) (bs:List Value) (c:Int) (w:World) (h:Lib.IsBuilderF 100 5 B b bs w) (hlen:bs.length+1≤140737488355328) (hBw:B≤w.heap.size) :
  Calls Tryz.prog 106 #[.pointer (some ⟨b,0,none⟩),.int .u8 c] w fun e w'=>e=.returned .nilIface∧(Lib.BuilderAtF 100 5 B b (.pointer (some ⟨b,0,none⟩)) (bs++[.int .u8 c]) w'∧Below B w w'∧Lib.OthersKept 5 (some b) w w') :=
 Any.Builder_WriteByte_k blays167 bextra B b bs c w h hlen hBw
theorem Builder_WriteString_k (B b:Nat) (bs:List Value) (s:ByteArray) (w:World) (h:Lib.IsBuilderF 100 5 B b bs w) (hlen:bs.length+s.size≤140737488355328) (hBw:B≤w.heap.size) :
  Calls Tryz.prog 75 #[.pointer (some ⟨b,0,none⟩),.string s] w fun e w'=>e=.returned (.tuple #[.int .i64 s.size,.nilIface])∧(Lib.BuilderAtF 100 5 B b (.pointer (some ⟨b,0,none⟩)) (bs++Lib.strCells s) w'∧Below B w w'∧Lib.OthersKept 5 (some b) w w') :=
 Any.Builder_WriteString_k blays166 bextra B b bs s w h hlen hBw
theorem Builder_WriteRune_k (B b:Nat) (bs:List Value) (r:Int) (hr0:-2147483648≤r) (hr1:r≤2147483647) (w:World) (h:Lib.IsBuilderF 100 5 B b bs w) (hlen:bs.length+4≤140737488355328) (hBw:B≤w.heap.size) :
  Calls Tryz.prog 128 #[.pointer (some ⟨b,0,none⟩),.int .i32 r] w fun e w'=>e=.returned (.tuple #[.int .i64 (Lib.runeCells r).length,.nilIface])∧(Lib.BuilderAtF 100 5 B b (.pointer (some ⟨b,0,none⟩)) (bs++Lib.runeCells r) w'∧Below B w w'∧Lib.OthersKept 5 (some b) w w') :=
 Any.Builder_WriteRune_k blays168 bextra B b bs r hr0 hr1 w h hlen hBw
end Go.Proofs.YtpbnhnilfpoljaaGreatDoor.V
namespace Go.Proofs.YtpbnhnilfpoljaaGreatDoor.V
open Go.RowKit
open Go.Lib
theorem builder_mut {T e:TypeId} {B b d:Nat} {bs:List Value} {w w':World} (h:Lib.IsBuilderF T e B b bs w) (hd:d<B) (hm:Mut w.heap.size d w w'):Lib.IsBuilderF T e B b bs w':=by
 have one:∀ p,Lib.BuilderAtF T e B b p bs w→Lib.BuilderAtF T e B b p bs w':=by
  rintro p ⟨hB,v,hb,hown,hne⟩
  have hlt:b<w.heap.size:=(Array.getElem?_eq_some_iff.1 hb).1
  refine ⟨hB,v,by rw [hm.block b hlt (by omega)];exact hb,⟨hown.1,?_⟩,hne⟩
  rcases hown.2 with hn|⟨g,cap,cur,fz,hv,hg,hgg,rest⟩
  ·exact .inl hn
  ·refine .inr ⟨g,cap,cur,fz,hv,hg,?_,rest⟩
   rw [hm.block g (Array.getElem?_eq_some_iff.1 hgg).1 (by omega)]
   exact hgg
 exact h.elim (fun x=>.inl (one _ x)) (fun x=>.inr (one _ x))
theorem unit_len {l r:List UInt8} {n:Nat} (h:unit l=some (n,r)):r.length<l.length:=by
 match l,h with
 | x :: y :: z :: u :: r',h =>
  simp only [unit,Option.map_eq_some_iff,Prod.mk.injEq] at h
  obtain ⟨m,_,_,rfl⟩:=h
  simp;omega
theorem scalarE_len {l r:List UInt8} {n:Nat} (h:scalarE l=some (n,r)):r.length<l.length:=by
 unfold scalarE at h
 cases h1:unit l with
 | none=>rw [h1] at h;cases h
 | some p =>
  obtain ⟨a,r1⟩:=p
  have hl:=unit_len h1
  rw [h1] at h
  simp only at h
  split at h
  ·cases h;exact hl
  ·split at h
   ·cases h
   ·split at h
    ·rename_i r'
     cases h2:unit r' with
     | none=>rw [h2] at h;cases h
     | some q =>
      obtain ⟨b,r2⟩:=q
      have hl2:=unit_len h2
      rw [h2] at h
      simp only at h
      split at h
      ·cases h
      ·simp only [Option.some.injEq,Prod.mk.injEq] at h
       obtain ⟨_,rfl⟩:=h
       simp at hl;omega
    ·cases h
theorem escape_len {l r:List UInt8} {n:Nat} (h:escape l=some (n,r)):r.length<l.length:=by
 match l,h with
 | c :: r',h =>
  simp only [escape] at h
  split at h
  ·have:=scalarE_len h;simp;omega
  ·simp only [Option.map_eq_some_iff,Prod.mk.injEq] at h
   obtain ⟨_,_,_,rfl⟩:=h
   simp
theorem scalarE_lt {l r:List UInt8} {n:Nat} (h:scalarE l=some (n,r)):n≤1114111:=by
 unfold scalarE at h
 cases h1:unit l with
 | none=>rw [h1] at h;cases h
 | some p =>
  obtain ⟨a,r1⟩:=p
  have hl:=unit_lt h1
  rw [h1] at h
  simp only at h
  split at h
  ·cases h;omega
  ·split at h
   ·cases h
   ·split at h
    ·rename_i r'
     cases h2:unit r' with
     | none=>rw [h2] at h;cases h
     | some q =>
      obtain ⟨b,r2⟩:=q
      rw [h2] at h
      simp only at h
      split at h
      ·cases h
      ·simp only [Option.some.injEq,Prod.mk.injEq] at h
       obtain ⟨rfl,_⟩:=h
       omega
    ·cases h
theorem escape_lt {l r:List UInt8} {n:Nat} (h:escape l=some (n,r)):n≤1114111:=by
 match l,h with
 | c :: r',h =>
  simp only [escape] at h
  split at h
  ·exact scalarE_lt h
  ·simp only [Option.map_eq_some_iff,Prod.mk.injEq] at h
   obtain ⟨m,h2,rfl,_⟩:=h
   unfold escLetter at h2
   repeat' (split at h2;· cases h2;omega)
   cases h2
theorem left_rd {d:Nat} {s:ByteArray} {l:List UInt8} {o:Int} {w:World} (h:RdL d s l o w):s.size - atOf d w=l.length:=by
 obtain ⟨a,h1,h2,h3⟩:=h
 rw [atOf_rd h3,← h2,List.length_drop,← Lib.size_eq]
theorem RdL.mut {d:Nat} {s:ByteArray} {l:List UInt8} {o:Int} {w w':World} {B:Nat} (h:RdL d s l o w) (hd:d<B) (hb:Below B w w'):RdL d s l o w':=by
 obtain ⟨a,h1,h2,h3⟩:=h;exact ⟨a,h1,h2,(hb.block d hd).trans h3⟩
theorem RdL.next {d:Nat} {s:ByteArray} {c:UInt8} {r:List UInt8} {o:Int} {w:World} (h:RdL d s (c :: r) o w) :
  ∃ (a:Nat) (ha:a<s.size),Rd d s a o w∧s[a]=c∧s.data.toList.drop (a+1)=r:=by
 obtain ⟨a,ha,hl,hR⟩:=h
 have hlt:a<s.size:=by
  have:=congrArg List.length hl
  rw [List.length_drop,← Lib.size_eq] at this;simp at this;omega
 refine ⟨a,hlt,hR,?_,?_⟩
 ·have:=drop_get s a 0 (by omega)
  rw [hl] at this;simpa using this.symm
 ·rw [← List.drop_drop,hl];rfl
theorem RdL.done {d:Nat} {s:ByteArray} {o:Int} {w:World} (h:RdL d s [] o w):Rd d s s.size o w:=by
 obtain ⟨a,ha,hl,h⟩:=h
 have:=congrArg List.length hl
 rw [List.length_drop,← Lib.size_eq] at this
 obtain rfl:a=s.size:=by simp at this;omega
 exact h
theorem u8_eq {c n:UInt8} (h:c=n):((c.toNat:Int)==(n.toNat:Int))=true:=by simp [h]
theorem u8_ne {c n:UInt8} (h:¬ c=n):((c.toNat:Int)==(n.toNat:Int))=false:=by
 simp;intro h2;exact h (UInt8.toNat_inj.1 (by omega))
theorem quoted_end {f:Nat} {c:UInt8} {r acc:List UInt8} (h:c=34):quoted (f+1) (c :: r) acc=some (acc,r):=by simp only [quoted,if_pos h]
theorem quoted_low {f:Nat} {c:UInt8} {r acc:List UInt8} (h:¬ c=34) (h2:c<32):quoted (f+1) (c :: r) acc=none:=by simp only [quoted,if_neg h,if_pos h2]
theorem quoted_wrong {f:Nat} {c:UInt8} {r acc:List UInt8} (h:¬ c=34) (h2:¬ c<32) (h3:c=92) (h4:escape r=none):quoted (f+1) (c :: r) acc=none:=by simp only [quoted,if_neg h,if_neg h2,if_pos h3,h4]
theorem quoted_esc {f:Nat} {c:UInt8} {r acc r':List UInt8} {x:Nat} (h:¬ c=34) (h2:¬ c<32) (h3:c=92) (h4:escape r=some (x,r')):quoted (f+1) (c :: r) acc=quoted f r' (acc++encodeRune x):=by simp only [quoted,if_neg h,if_neg h2,if_pos h3,h4]
theorem quoted_byte {f:Nat} {c:UInt8} {r acc:List UInt8} (h:¬ c=34) (h2:¬ c<32) (h3:¬ c=92):quoted (f+1) (c :: r) acc=quoted f r (acc++[c]):=by simp only [quoted,if_neg h,if_neg h2,if_neg h3]
def ReadsT (d:Nat) (s:ByteArray) (o:Int) (r:Option (List UInt8 × List UInt8)) (w:World) (e:Ending) (w':World):Prop :=
 match r with
 | some (t,l)=>e=.returned (.tuple #[.string ⟨t.toArray⟩,.bool true])∧RdL d s l o w'∧Mut w.heap.size d w w'
 | none=>∃ (m:ByteArray) (l:List UInt8),e=.returned (.tuple #[.string m,.bool false])∧RdL d s l o w'∧Mut w.heap.size d w w'
theorem readsT_some {d:Nat} {s:ByteArray} {o:Int} {r:Option (List UInt8 × List UInt8)} {w w':World} {t l:List UInt8} (h:r=some (t,l)) (h1:RdL d s l o w') (h2:Mut w.heap.size d w w') :
  ReadsT d s o r w (.returned (.tuple #[.string ⟨t.toArray⟩,.bool true])) w':=by subst h;exact ⟨rfl,h1,h2⟩
theorem readsT_none {d:Nat} {s:ByteArray} {o:Int} {r:Option (List UInt8 × List UInt8)} {w w':World} {m:ByteArray} {l:List UInt8} (h:r=none) (h1:RdL d s l o w') (h2:Mut w.heap.size d w w') :
  ReadsT d s o r w (.returned (.tuple #[.string m,.bool false])) w':=by subst h;exact ⟨m,l,rfl,h1,h2⟩
set_option maxHeartbeats 4000000 in
theorem quoted_any (d:Nat) (s:ByteArray) (l:List UInt8) (o:Int) (B0:Nat) (w:World) (hr:RdL d s l o w) (hE:Env B0 w) (hd:B0≤d) (hs:s.size≤1099511627776) :
  Calls Tryz.prog 116 #[.pointer (some ⟨d,0,none⟩)] w (ReadsT d s o (quotedA l) w):=by
 obtain ⟨R,hR⟩:∃ R,quoted (l.length+1) l []=R:=⟨_,rfl⟩
 have HR:=Lib.hid hR
 have e0:quotedA l=R:=hR
 rw [e0]
 have hlen:=hr.len
 have hdlt:=hr.lt
 clear hR e0
 go_enter Tryz.func116,Tryz.ntmps116
 go_wp2_with fail
 go_loopw [] (fun w'=>∃ (f:Nat) (l' acc:List UInt8),RdL d s l' o w'∧Mut w.heap.size d w w'∧Lib.IsBuilderF 100 5 w.heap.size w.heap.size (Lib.byteCells acc) w'∧Hid (quoted f l' acc=R)∧l'.length<f∧acc.length+4*l'.length≤4*s.size) (fun w'=>s.size - atOf d w')
 case atStart=>exact ⟨l.length+1,l,[],hr.below ((Below.refl _ _).alloc (Nat.le_refl _) _),(Mut.refl _ _ _).alloc (Nat.le_refl _) _,.inl ⟨Nat.le_refl _,.slice none 0 0,heap_alloc_new _ _,World.ownsRowF_nil _ _ _ _,by simp [Value.ownBlock]⟩,HR,by omega,by simp;omega⟩
 case round =>
  obtain ⟨f,l',acc,hrl,hm,hB,HQ,hf,hacc⟩:=hrel
  have hleft:=Lib.hid (left_rd hrl)
  have hBw:w.heap.size≤wr.heap.size:=hm.size
  obtain ⟨f,rfl⟩:∃ g,f=g+1:=⟨f - 1,by omega⟩
  match l',hrl,HQ,hf,hacc,hleft with
  | [],hrl,HQ,hf,hacc,hleft =>
   have hq:R=none:=by rw [← HQ.out];rfl
   have HQ2:=Lib.hid hq
   have c2:=ended_yes d s o wr hrl.done
   clear hq HQ hE hr
   go_wp2_with fail
   refine c2.mono ?_;rintro e w2 ⟨rfl,nq,rfl⟩
   go_wp2_with fail
   go_ret2
   exact readsT_none HQ2.out (hrl.below ⟨rfl,rfl,rfl,Nat.le_refl _,fun _ _=>rfl⟩) (hm.drewN nq)
  | c :: r,hrl,HQ,hf,hacc,hleft =>
   obtain ⟨a,ha,hR0,hsc,hdr⟩:=hrl.next
   subst hsc
   have c2:=ended_no d s a o wr hR0 ha
   have HDR:=Lib.hid hdr
   clear hdr hr
   have b0:(0:Int)≤(a:Int):=by omega
   have b1:(a:Int)<(s.size:Int):=by omega
   go_wp2_with fail
   refine c2.mono ?_;rintro e w2 ⟨rfl,nq,hw2⟩
   have hR2:Rd d s a o w2:=by rw [hw2];exact hR0.drewN nq
   have hm2:Mut w.heap.size d w w2:=by rw [hw2];exact hm.drewN nq
   have hB2:Lib.IsBuilderF 100 5 w.heap.size w.heap.size (Lib.byteCells acc) w2:=by rw [hw2];exact hB
   clear hw2 hR0 hm hB c2
   have q0:=hR2.c0
   have q1:=hR2.c1
   have q2:=hR2.f1
   go_wp2_with fail
   go_quiet (fail)
   have hR3:RdL d s r o ((w2.drewN nq).setCell ⟨d,1,none⟩ (.int .i64 ((a:Int)+1))):=RdL.of (a+1) _ (by omega) (by omega) HDR.out ((hR2.drewN nq).set1 _)
   have hm3:Mut w.heap.size d w ((w2.drewN nq).setCell ⟨d,1,none⟩ (.int .i64 ((a:Int)+1))):=(hm2.drewN nq).setCell 1 _
   have hB3:Lib.IsBuilderF 100 5 w.heap.size w.heap.size (Lib.byteCells acc) ((w2.drewN nq).setCell ⟨d,1,none⟩ (.int .i64 ((a:Int)+1))):=builder_mut hB2 hdlt (((Mut.refl _ d _).drewN nq).setCell 1 _)
   have hBw3:w.heap.size≤((w2.drewN nq).setCell ⟨d,1,none⟩ (.int .i64 ((a:Int)+1))).heap.size:=hm3.size
   by_cases k1:s[a]=34
   ·have t1:((s[a].toNat:Int)==34)=true:=u8_eq k1
    have HQ2:=Lib.hid (HQ.out.symm.trans (quoted_end k1))
    clear k1 HQ
    go_wp2_with fail
    refine (Tryz.Builder_String_any_k _ _ acc _ hB3 hBw3).mono ?_;rintro e w4 ⟨rfl,hB4,hb4,_⟩
    go_wp2_with fail
    go_ret2
    exact readsT_some HQ2.out (hR3.mut hdlt hb4) (hm3.trans (Mut.of_below hb4))
   ·have t1:((s[a].toNat:Int)==34)=false:=u8_ne k1
    by_cases k2:s[a]<32
    ·have t2:decide ((s[a].toNat:Int)<32)=true:=by have:=UInt8.lt_iff_toNat_lt.1 k2;simp at this;simp;omega
     have HQ2:=Lib.hid (HQ.out.symm.trans (quoted_low k1 k2))
     clear k1 HQ k2
     go_wp2_with fail
     go_ret2
     exact readsT_none HQ2.out hR3 hm3
    ·have t2:decide ((s[a].toNat:Int)<32)=false:=by
      have:¬ s[a].toNat<32:=fun h=>k2 (UInt8.lt_iff_toNat_lt.2 (by simpa using h))
      simp;omega
     by_cases k3:s[a]=92
     ·have t3:((s[a].toNat:Int)==92)=true:=u8_eq k3
      have hE3:=(hE.mut hd hm3)
      have c3:=escape_any d s r o B0 _ hR3 hE3 hd hs
      rcases hq:escape r with _|⟨x,r'⟩
      ·have HQ2:=Lib.hid (HQ.out.symm.trans (quoted_wrong k1 k2 k3 hq))
       rw [hq] at c3
       clear k1 HQ k2 k3 hq
       go_wp2_with fail
       refine c3.mono ?_;rintro e w4 ⟨m,l4,rfl,hr4,hm4⟩
       go_wp2_with fail
       go_ret2
       exact readsT_none HQ2.out hr4 (hm3.trans (hm4.mono hBw3))
      ·have HQ2:=Lib.hid (HQ.out.symm.trans (quoted_esc k1 k2 k3 hq))
       have hx:=Lib.hid (escape_lt hq)
       have hlx:=escape_len hq
       rw [hq] at c3
       clear k1 HQ k2 k3 hq
       go_wp2_with fail
       refine c3.mono ?_;rintro e w4 ⟨rfl,hr4,hm4⟩
       have hB4:=builder_mut hB3 hdlt hm4
       have hm4':=hm3.trans (hm4.mono hBw3)
       go_wp2_with fail
       refine (Builder_WriteRune_k w.heap.size w.heap.size (Lib.byteCells acc) x (by omega) (by have:=hx.out;omega) _ hB4 (by rw [Lib.byteCells_length];simp at hacc;omega) hm4'.size).mono ?_;rintro e w5 ⟨rfl,hB5,hb5,_⟩
       go_wp2_with fail
       go_roundw
       case rel =>
        refine ⟨f,r',acc++encodeRune x,hr4.mut hdlt hb5,hm4'.trans (Mut.of_below hb5),.inr (by rw [Lib.byteCells_append,Lib.byteCells_encodeRune];exact hB5),Lib.hid HQ2.out.symm,by simp at hf;omega,?_⟩
        have h4:=(Lib.runeCells_le x).2
        rw [Lib.runeCells_length] at h4
        rw [List.length_append];simp at hacc;omega
       case measure =>
        rw [hleft.out,left_rd (hr4.mut hdlt hb5)];simp;omega
     ·have t3:((s[a].toNat:Int)==92)=false:=u8_ne k3
      have HQ2:=Lib.hid (HQ.out.symm.trans (quoted_byte k1 k2 k3))
      clear k1 HQ k2 k3
      go_wp2_with fail
      refine (Builder_WriteByte_k w.heap.size w.heap.size (Lib.byteCells acc) s[a].toNat _ hB3 (by rw [Lib.byteCells_length];simp at hacc;omega) hBw3).mono ?_;rintro e w5 ⟨rfl,hB5,hb5,_⟩
      go_wp2_with fail
      go_roundw
      case rel=>exact ⟨f,r,acc++[s[a]],hR3.mut hdlt hb5,hm3.trans (Mut.of_below hb5),.inr (by rw [Lib.byteCells_append];exact hB5),Lib.hid HQ2.out.symm,by simp at hf;omega,by rw [List.length_append];simp at hacc;simp;omega⟩
      case measure=>rw [hleft.out,left_rd (hR3.mut hdlt hb5)];simp
end Go.Proofs.YtpbnhnilfpoljaaGreatDoor.V
