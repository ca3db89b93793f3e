/- What the claim needs of the texts VRead5, VRead6. -/
import Derived.Test.YtpbnhnilfpoljaaGreatDoorRB3
namespace Go.Proofs.YtpbnhnilfpoljaaGreatDoor.V
open Go.RowKit
open Go.Lib
def ReadsI (d:Nat) (s:ByteArray) (o:Int) (r:Option (Int × List UInt8)) (w:World) (e:Ending) (w':World):Prop :=
 match r with
 | some (n,l)=>e=.returned (.tuple #[.int .i64 n,.bool true])∧RdL d s l o w'∧Mut w.heap.size d w w'
 | none=>∃ (m:Int) (l:List UInt8),e=.returned (.tuple #[.int .i64 m,.bool false])∧RdL d s l o w'∧Mut w.heap.size d w w'
theorem readsI_some {d:Nat} {s:ByteArray} {o:Int} {r:Option (Int × List UInt8)} {w w':World} {n:Int} {l:List UInt8} (h:r=some (n,l)) (h1:RdL d s l o w') (h2:Mut w.heap.size d w w') :
  ReadsI d s o r w (.returned (.tuple #[.int .i64 n,.bool true])) w':=by subst h;exact ⟨rfl,h1,h2⟩
theorem readsI_none {d:Nat} {s:ByteArray} {o:Int} {r:Option (Int × List UInt8)} {w w':World} {m:Int} {l:List UInt8} (h:r=none) (h1:RdL d s l o w') (h2:Mut w.heap.size d w w') :
  ReadsI d s o r w (.returned (.tuple #[.int .i64 m,.bool false])) w':=by subst h;exact ⟨m,l,rfl,h1,h2⟩
theorem inRange_yes (n:Int) (w:World) (h:-9007199254740992≤n∧n≤9007199254740992) :
  Calls Tryz.prog 100 #[.int .i64 n] w fun e w'=>e=.returned (.bool true)∧w=w':=by
 have h1:decide (-9007199254740992≤n)=true:=decide_eq_true h.1
 have h2:decide (n≤9007199254740992)=true:=decide_eq_true h.2
 clear h
 go_enter Tryz.func100,Tryz.ntmps100
 go_wp2
 go_ret
 exact ⟨rfl,rfl⟩
theorem inRange_no (n:Int) (w:World) (h:¬ (-9007199254740992≤n∧n≤9007199254740992)) :
  Calls Tryz.prog 100 #[.int .i64 n] w fun e w'=>e=.returned (.bool false)∧w=w':=by
 by_cases h0:-9007199254740992≤n
 ·have h1:decide (-9007199254740992≤n)=true:=decide_eq_true h0
  have h2:decide (n≤9007199254740992)=false:=decide_eq_false (fun h3=>h ⟨h0,h3⟩)
  clear h h0
  go_enter Tryz.func100,Tryz.ntmps100
  go_wp2
  go_ret
  exact ⟨rfl,rfl⟩
 ·have h1:decide (-9007199254740992≤n)=false:=decide_eq_false h0
  clear h h0
  go_enter Tryz.func100,Tryz.ntmps100
  go_wp2
  go_ret
  exact ⟨rfl,rfl⟩
theorem set_num:SetIs ⟨#[45,48,49,50,51,52,53,54,55,56,57]⟩ numB:=by
 have h:∀ n:Fin 256,numB (UInt8.ofNat n.val)=decide (0≤Lib.indexByte [45,48,49,50,51,52,53,54,55,56,57] (UInt8.ofNat n.val)):=by decide +kernel
 intro c
 have:=h ⟨c.toNat,c.toNat_lt⟩
 simpa using this
theorem set_blank:SetIs ⟨#[32,9,10,13]⟩ blank:=by
 have h:∀ n:Fin 256,blank (UInt8.ofNat n.val)=decide (0≤Lib.indexByte [32,9,10,13] (UInt8.ofNat n.val)):=by decide +kernel
 intro c
 have:=h ⟨c.toNat,c.toNat_lt⟩
 simpa using this
theorem size_mk (l:List UInt8):(⟨l.toArray⟩:ByteArray).size=l.length:=by simp [Lib.size_eq]
set_option maxHeartbeats 1000000 in
theorem number_any (d:Nat) (s:ByteArray) (l:List UInt8) (o:Int) (B:Nat) (w:World) (hr:RdL d s l o w) (hE:Env B w) (hd:B≤d) (hs:s.size≤1099511627776) :
  Calls Tryz.prog 117 #[.pointer (some ⟨d,0,none⟩)] w (ReadsI d s o (number l) w):=by
 have c1:=takeAll_any d s _ numB set_num l o w hr hs
 have hlen:=hr.len
 have htl:(l.takeWhile numB).length≤1099511627776:=by
  have:=(List.takeWhile_prefix numB (l:=l)).length_le;omega
 have hsz:(⟨(l.takeWhile numB).toArray⟩:ByteArray).size≤1099511627776:=by rw [size_mk];exact htl
 have hdl:(⟨(l.takeWhile numB).toArray⟩:ByteArray).data.toList=l.takeWhile numB:=by simp
 have hmut:∀ W,Mut w.heap.size d w W→Env B W:=fun W hm=>hE.mut hd hm
 rcases ha:atoiAll (l.takeWhile numB) with n|_|_
 ·have hb:=atoiAll_bounds ha
  have cA:∀ W,Calls Tryz.prog 129 #[.string ⟨(l.takeWhile numB).toArray⟩] W fun e w'=>e=.returned (.tuple #[.int .i64 n,.nilIface])∧Below W.heap.size W w':=fun W =>
   (Tryz.strconv_Atoi_ok _ (by omega) n (by rw [hdl];exact ha) W).mono fun e w' ⟨he,hw⟩=>⟨he,by
    rcases hw with rfl|⟨t,rfl⟩
    ·exact Below.refl _ _
    ·exact Lib.bytesWorld_below _ _ _⟩
  by_cases hin:-9007199254740992≤n∧n≤9007199254740992
  ·have cR:∀ W,_:=fun W=>inRange_yes n W hin
   have cI:∀ W,Env B W→Calls Tryz.prog 77 #[.int .i64 n] W fun e w'=>e=.returned (.string ⟨(Lib.itoa n).toArray⟩)∧Below W.heap.size W w':=fun W hW =>
    (Tryz.strconv_Itoa n hb.1 hb.2 W hW.now.pow).mono fun e w' ⟨he,k,os,hw⟩=>⟨he,by rw [hw];exact Lib.below_grow _ _ (Nat.le_refl _) _ _⟩
   by_cases heq:itoa n=l.takeWhile numB
   ·have hres:number l=some (n,l.dropWhile numB):=by simp only [number,ha];rw [if_pos ⟨hin,heq⟩]
    rw [heq] at cI
    have HRes:=Lib.hid hres
    clear ha hb hin heq hres hr hE hdl hsz
    generalize l.takeWhile numB=t at *
    go_enter Tryz.func117,Tryz.ntmps117
    go_wp2_with fail
    refine c1.mono ?_;rintro e w1 ⟨rfl,hr1,hm1⟩
    go_wp2_with fail
    refine (cA _).mono ?_;rintro e w2 ⟨rfl,hb2⟩
    go_wp2_with fail
    refine (cR _).mono ?_;rintro e w3 ⟨rfl,rfl⟩
    have hm2:=hm1.trans (Mut.of_below (hb2.mono hm1.size))
    go_wp2_with fail
    refine (cI _ (hmut _ hm2)).mono ?_;rintro e w3 ⟨rfl,hb3⟩
    go_wp2_with fail
    go_ret2
    exact readsI_some HRes.out ((hr1.below hb2).below hb3) (hm2.trans (Mut.of_below (hb3.mono hm2.size)))
   ·have hres:number l=none:=by simp only [number,ha];rw [if_neg (fun h=>heq h.2)]
    have hne:(itoa n==l.takeWhile numB)=false:=beq_eq_false_iff_ne.2 heq
    have HRes:=Lib.hid hres
    clear ha hb hin heq hres hr hE hdl hsz
    generalize l.takeWhile numB=t at *
    go_enter Tryz.func117,Tryz.ntmps117
    go_wp2_with fail
    refine c1.mono ?_;rintro e w1 ⟨rfl,hr1,hm1⟩
    go_wp2_with fail
    refine (cA _).mono ?_;rintro e w2 ⟨rfl,hb2⟩
    go_wp2_with fail
    refine (cR _).mono ?_;rintro e w3 ⟨rfl,rfl⟩
    have hm2:=hm1.trans (Mut.of_below (hb2.mono hm1.size))
    go_wp2_with fail
    refine (cI _ (hmut _ hm2)).mono ?_;rintro e w3 ⟨rfl,hb3⟩
    go_wp2_with fail
    go_ret2
    exact readsI_none HRes.out ((hr1.below hb2).below hb3) (hm2.trans (Mut.of_below (hb3.mono hm2.size)))
  ·have hres:number l=none:=by simp only [number,ha];rw [if_neg (fun h=>hin h.1)]
   have cR:∀ W,_:=fun W=>inRange_no n W hin
   have HRes:=Lib.hid hres
   clear ha hb hin hres hr hE hdl hsz
   generalize l.takeWhile numB=t at *
   go_enter Tryz.func117,Tryz.ntmps117
   go_wp2_with fail
   refine c1.mono ?_;rintro e w1 ⟨rfl,hr1,hm1⟩
   go_wp2_with fail
   refine (cA _).mono ?_;rintro e w2 ⟨rfl,hb2⟩
   go_wp2_with fail
   refine (cR _).mono ?_;rintro e w3 ⟨rfl,rfl⟩
   go_wp2_with fail
   go_ret2
   exact readsI_none HRes.out (hr1.below hb2) (hm1.trans (Mut.of_below (hb2.mono hm1.size)))
 ·have hres:number l=none:=by simp only [number,ha]
  have cA:∀ W,Env B W→Calls Tryz.prog 129 #[.string ⟨(l.takeWhile numB).toArray⟩] W fun e w'=>∃ n te pe,e=.returned (.tuple #[.int .i64 n,.iface te pe])∧Below W.heap.size W w':=fun W hW=>by
   obtain ⟨te,pe,hes⟩:=hW.now.es
   exact (Tryz.strconv_Atoi_syntax _ (by omega) (by rw [hdl];exact ha) _ W hes (.inr ⟨te,pe,rfl⟩)).mono fun e w' ⟨N,he,_,_,hw⟩=>⟨_,_,_,he,hw⟩
  have HRes:=Lib.hid hres
  clear ha hres hr hE hdl hsz
  generalize l.takeWhile numB=t at *
  go_enter Tryz.func117,Tryz.ntmps117
  go_wp2_with fail
  refine c1.mono ?_;rintro e w1 ⟨rfl,hr1,hm1⟩
  go_wp2_with fail
  refine (cA _ (hmut _ hm1)).mono ?_;rintro e w2 ⟨n,te,pe,rfl,hb2⟩
  go_wp2_with fail
  go_ret2
  exact readsI_none HRes.out (hr1.below hb2) (hm1.trans (Mut.of_below (hb2.mono hm1.size)))
 ·have hres:number l=none:=by simp only [number,ha]
  have cA:∀ W,Env B W→Calls Tryz.prog 129 #[.string ⟨(l.takeWhile numB).toArray⟩] W fun e w'=>∃ n te pe,e=.returned (.tuple #[.int .i64 n,.iface te pe])∧Below W.heap.size W w':=fun W hW=>by
   obtain ⟨te,pe,hes⟩:=hW.now.er
   exact (Tryz.strconv_Atoi_range _ (by omega) (by rw [hdl];exact ha) _ W hes (.inr ⟨te,pe,rfl⟩)).mono fun e w' ⟨N,he,_,_,hw⟩=>⟨_,_,_,he,hw⟩
  have HRes:=Lib.hid hres
  clear ha hres hr hE hdl hsz
  generalize l.takeWhile numB=t at *
  go_enter Tryz.func117,Tryz.ntmps117
  go_wp2_with fail
  refine c1.mono ?_;rintro e w1 ⟨rfl,hr1,hm1⟩
  go_wp2_with fail
  refine (cA _ (hmut _ hm1)).mono ?_;rintro e w2 ⟨n,te,pe,rfl,hb2⟩
  go_wp2_with fail
  go_ret2
  exact readsI_none HRes.out (hr1.below hb2) (hm1.trans (Mut.of_below (hb2.mono hm1.size)))
theorem key_bare {l:List UInt8} (h:Lib.hasPrefix (skip l) [34]=false):key l=none:=by
 unfold key
 split
 ·rename_i r h2;rw [h2] at h;simp [Lib.hasPrefix] at h
 ·rfl
theorem key_wrong {l r:List UInt8} (h:skip l=34 :: r) (h2:quotedA r=none):key l=none:=by simp only [key,h,h2]
theorem key_open {l r r' k:List UInt8} (h:skip l=34 :: r) (h2:quotedA r=some (k,r')) (h3:Lib.hasPrefix (skip r') [58]=false):key l=none:=by
 simp only [key,h,h2]
 split
 ·rename_i r2 h4;rw [h4] at h3;simp [Lib.hasPrefix] at h3
 ·rfl
theorem key_good {l r r' r'' k:List UInt8} (h:skip l=34 :: r) (h2:quotedA r=some (k,r')) (h3:skip r'=58 :: r''):key l=some (k,r''):=by simp only [key,h,h2,h3]
theorem prefix_one {l:List UInt8} {c:UInt8} (h:Lib.hasPrefix l [c]=true):l=c :: l.drop 1:=by
 obtain ⟨t,rfl⟩:=List.isPrefixOf_iff_prefix.1 h
 rfl
set_option maxHeartbeats 1000000 in
theorem key_any (d:Nat) (s:ByteArray) (l:List UInt8) (o:Int) (B:Nat) (w:World) (hr:RdL d s l o w) (hE:Env B w) (hd:B≤d) (hs:s.size≤1099511627776) :
  Calls Tryz.prog 114 #[.pointer (some ⟨d,0,none⟩)] w (ReadsT d s o (key l) w):=by
 have c1:=takeAll_any d s _ blank set_blank l o w hr hs
 have hmut:∀ W,Mut w.heap.size d w W→Env B W:=fun W hm=>hE.mut hd hm
 obtain ⟨l1,hl1⟩:∃ l1,skip l=l1:=⟨_,rfl⟩
 rw [show l.dropWhile blank=l1 from hl1] at c1
 cases hp:Lib.hasPrefix l1 [34] with
 | false =>
  have HRes:=Lib.hid (key_bare (l:=l) (by rw [hl1];exact hp))
  have c2:∀ W,RdL d s l1 o W→_:=fun W h=>take_no d s ⟨#[34]⟩ l1 o W h hp
  clear hr hE hl1 hp
  go_enter Tryz.func114,Tryz.ntmps114
  go_wp2_with fail
  refine c1.mono ?_;rintro e w1 ⟨rfl,hr1,hm1⟩
  go_wp2_with fail
  refine (c2 _ hr1).mono ?_;rintro e w2 ⟨rfl,hr2,hm2⟩
  go_wp2_with fail
  go_ret2
  exact readsT_none HRes.out hr2 (hm1.trans (hm2.mono hm1.size))
 | true =>
  obtain ⟨r,hlr⟩:∃ r,l1=34 :: r:=⟨_,prefix_one hp⟩
  have c2:∀ W,RdL d s l1 o W→Calls Tryz.prog 83 #[.pointer (some ⟨d,0,none⟩),.string ⟨#[34]⟩] W fun e w'=>e=.returned (.bool true)∧RdL d s r o w'∧Mut W.heap.size d W w':=fun W h=>(take_yes d s ⟨#[34]⟩ l1 o W h hs hp).mono fun e w' ⟨he,h1,h2⟩=>⟨he,by rw [hlr] at h1;exact h1,h2⟩
  have c3:∀ W,RdL d s r o W→Env B W→_:=fun W h hE=>quoted_any d s r o B W h hE hd hs
  have hl2:=hl1.trans hlr
  cases hq:quotedA r with
  | none =>
   have HRes:=Lib.hid (key_wrong hl2 hq)
   rw [hq] at c3
   clear hr hE hl1 hp hlr hl2 hq
   go_enter Tryz.func114,Tryz.ntmps114
   go_wp2_with fail
   refine c1.mono ?_;rintro e w1 ⟨rfl,hr1,hm1⟩
   go_wp2_with fail
   refine (c2 _ hr1).mono ?_;rintro e w2 ⟨rfl,hr2,hm2⟩
   replace hm2:=hm1.trans (hm2.mono hm1.size)
   go_wp2_with fail
   refine (c3 _ hr2 (hmut _ hm2)).mono ?_;rintro e w3 ⟨m,l3,rfl,hr3,hm3⟩
   go_wp2_with fail
   go_ret2
   exact readsT_none HRes.out hr3 (hm2.trans (hm3.mono hm2.size))
  | some p =>
   obtain ⟨k,r'⟩:=p
   rw [hq] at c3
   have c4:∀ W,RdL d s r' o W→_:=fun W h=>takeAll_any d s _ blank set_blank r' o W h hs
   obtain ⟨l2,hl3⟩:∃ l2,skip r'=l2:=⟨_,rfl⟩
   rw [show r'.dropWhile blank=l2 from hl3] at c4
   cases hp2:Lib.hasPrefix l2 [58] with
   | false =>
    have HRes:=Lib.hid (key_open hl2 hq (by rw [hl3];exact hp2))
    have c5:∀ W,RdL d s l2 o W→_:=fun W h=>take_no d s ⟨#[58]⟩ l2 o W h hp2
    clear hr hE hl1 hp hlr hl2 hq hl3 hp2
    go_enter Tryz.func114,Tryz.ntmps114
    go_wp2_with fail
    refine c1.mono ?_;rintro e w1 ⟨rfl,hr1,hm1⟩
    go_wp2_with fail
    refine (c2 _ hr1).mono ?_;rintro e w2 ⟨rfl,hr2,hm2⟩
    replace hm2:=hm1.trans (hm2.mono hm1.size)
    go_wp2_with fail
    refine (c3 _ hr2 (hmut _ hm2)).mono ?_;rintro e w3 ⟨rfl,hr3,hm3⟩
    replace hm3:=hm2.trans (hm3.mono hm2.size)
    go_wp2_with fail
    refine (c4 _ hr3).mono ?_;rintro e w4 ⟨rfl,hr4,hm4⟩
    replace hm4:=hm3.trans (hm4.mono hm3.size)
    go_wp2_with fail
    refine (c5 _ hr4).mono ?_;rintro e w5 ⟨rfl,hr5,hm5⟩
    go_wp2_with fail
    go_ret2
    exact readsT_none HRes.out hr5 (hm4.trans (hm5.mono hm4.size))
   | true =>
    obtain ⟨r'',hlr2⟩:∃ r'',l2=58 :: r'':=⟨_,prefix_one hp2⟩
    have HRes:=Lib.hid (key_good hl2 hq (hl3.trans hlr2))
    have c5:∀ W,RdL d s l2 o W→Calls Tryz.prog 83 #[.pointer (some ⟨d,0,none⟩),.string ⟨#[58]⟩] W fun e w'=>e=.returned (.bool true)∧RdL d s r'' o w'∧Mut W.heap.size d W w':=fun W h=>(take_yes d s ⟨#[58]⟩ l2 o W h hs hp2).mono fun e w' ⟨he,h1,h2⟩=>⟨he,by rw [hlr2] at h1;exact h1,h2⟩
    clear hr hE hl1 hp hlr hl2 hq hl3 hp2 hlr2
    go_enter Tryz.func114,Tryz.ntmps114
    go_wp2_with fail
    refine c1.mono ?_;rintro e w1 ⟨rfl,hr1,hm1⟩
    go_wp2_with fail
    refine (c2 _ hr1).mono ?_;rintro e w2 ⟨rfl,hr2,hm2⟩
    replace hm2:=hm1.trans (hm2.mono hm1.size)
    go_wp2_with fail
    refine (c3 _ hr2 (hmut _ hm2)).mono ?_;rintro e w3 ⟨rfl,hr3,hm3⟩
    replace hm3:=hm2.trans (hm3.mono hm2.size)
    go_wp2_with fail
    refine (c4 _ hr3).mono ?_;rintro e w4 ⟨rfl,hr4,hm4⟩
    replace hm4:=hm3.trans (hm4.mono hm3.size)
    go_wp2_with fail
    refine (c5 _ hr4).mono ?_;rintro e w5 ⟨rfl,hr5,hm5⟩
    go_wp2_with fail
    go_ret2
    exact readsT_some HRes.out hr5 (hm4.trans (hm5.mono hm4.size))
end Go.Proofs.YtpbnhnilfpoljaaGreatDoor.V
namespace Go.Proofs.YtpbnhnilfpoljaaGreatDoor.V
open Go.RowKit
open Go.Lib
def vagg (sort:Int) (on:Bool) (n:Int) (t:List UInt8) (l k:Value):Value:=.agg #[.int .i64 sort,.bool on,.int .i64 n,.string ⟨t.toArray⟩,l,k]
def ReadsP (d:Nat) (s:ByteArray) (o:Int) (r:Option (Val × List UInt8)) (w:World) (e:Ending) (w':World):Prop :=
 match r with
 | some (.mk so on n t [] [],l)=>e=.returned (.tuple #[vagg so on n t (.slice none 0 0) (.slice none 0 0),.bool true])∧RdL d s l o w'∧Mut w.heap.size d w w'
 | some _=>False
 | none=>∃ (so n:Int) (t l:List UInt8),e=.returned (.tuple #[vagg so false n t (.slice none 0 0) (.slice none 0 0),.bool false])∧RdL d s l o w'∧Mut w.heap.size d w w'
theorem readsP_some {d:Nat} {s:ByteArray} {o:Int} {r:Option (Val × List UInt8)} {w w':World} {so n:Int} {on:Bool} {t l:List UInt8} (h:r=some (.mk so on n t [] [],l)) (h1:RdL d s l o w') (h2:Mut w.heap.size d w w') :
  ReadsP d s o r w (.returned (.tuple #[vagg so on n t (.slice none 0 0) (.slice none 0 0),.bool true])) w':=by subst h;exact ⟨rfl,h1,h2⟩
theorem readsP_none {d:Nat} {s:ByteArray} {o:Int} {r:Option (Val × List UInt8)} {w w':World} {so n:Int} {t l:List UInt8} (h:r=none) (h1:RdL d s l o w') (h2:Mut w.heap.size d w w') :
  ReadsP d s o r w (.returned (.tuple #[vagg so false n t (.slice none 0 0) (.slice none 0 0),.bool false])) w':=by subst h;exact ⟨so,n,t,l,rfl,h1,h2⟩
theorem plain_null {l:List UInt8} (h:Lib.hasPrefix l [110,117,108,108]=true):plain l=some (.null,l.drop 4):=by simp only [plain];rw [if_pos (by exact h)]
theorem plain_false {l:List UInt8} (h:Lib.hasPrefix l [110,117,108,108]=false) (h2:Lib.hasPrefix l [102,97,108,115,101]=true):plain l=some (.bool false,l.drop 5):=by
 simp only [plain];rw [if_neg (by unfold Lib.hasPrefix at h;rw [h];simp),if_pos (by exact h2)]
theorem plain_true {l:List UInt8} (h:Lib.hasPrefix l [110,117,108,108]=false) (h2:Lib.hasPrefix l [102,97,108,115,101]=false) (h3:Lib.hasPrefix l [116,114,117,101]=true):plain l=some (.bool true,l.drop 4):=by
 simp only [plain];rw [if_neg (by unfold Lib.hasPrefix at h;rw [h];simp),if_neg (by unfold Lib.hasPrefix at h2;rw [h2];simp),if_pos (by exact h3)]
theorem plain_str {l r:List UInt8} (h:l=34 :: r):plain l=(quotedA r).map fun p=>(.str p.1,p.2):=by
 subst h
 simp only [plain];rw [if_neg (by simp [List.isPrefixOf]),if_neg (by simp [List.isPrefixOf]),if_neg (by simp [List.isPrefixOf])]
theorem plain_num {l:List UInt8} (h:Lib.hasPrefix l [110,117,108,108]=false) (h2:Lib.hasPrefix l [102,97,108,115,101]=false) (h3:Lib.hasPrefix l [116,114,117,101]=false) (h4:Lib.hasPrefix l [34]=false) :
  plain l=(number l).map fun p=>(.num p.1,p.2):=by
 simp only [plain];rw [if_neg (by unfold Lib.hasPrefix at h;rw [h];simp),if_neg (by unfold Lib.hasPrefix at h2;rw [h2];simp),if_neg (by unfold Lib.hasPrefix at h3;rw [h3];simp)]
 split
 ·simp [Lib.hasPrefix] at h4
 ·rfl
theorem rdl_set {d:Nat} {s:ByteArray} {l:List UInt8} {o:Int} {w:World} (h:RdL d s l o w) (p:Addr) (hp:d≠p.block) (v:Value):RdL d s l o (w.setCell p v):=by
 obtain ⟨a,h1,h2,h3⟩:=h;exact ⟨a,h1,h2,h3.setOther p hp v⟩
theorem cells_mut {d b:Nat} {W w1:World} (hm:Mut W.heap.size d W w1) (hb:b<W.heap.size) (hne:b≠d) :
  (∀ o,w1.cell? ⟨b,o,none⟩=W.cell? ⟨b,o,none⟩)∧(∀ o,w1.frozen? ⟨b,o,none⟩=W.frozen? ⟨b,o,none⟩):=by
 have h:=hm.block b hb hne
 exact ⟨fun o=>by unfold World.cell?;rw [h],fun o=>by unfold World.frozen?;rw [h]⟩
set_option maxHeartbeats 1000000 in
theorem plain_any (d:Nat) (s:ByteArray) (l:List UInt8) (o:Int) (B:Nat) (w:World) (hr:RdL d s l o w) (hE:Env B w) (hd:B≤d) (hs:s.size≤1099511627776) :
  Calls Tryz.prog 86 #[.pointer (some ⟨d,0,none⟩)] w (ReadsP d s o (plain l) w):=by
 have hmut:∀ W,Mut w.heap.size d w W→Env B W:=fun W hm=>hE.mut hd hm
 have hdlt:=hr.lt
 have hr0:∀ ob,RdL d s l o (w.alloc ob):=fun ob=>hr.below ((Below.refl _ _).alloc (Nat.le_refl _) _)
 have hm0:∀ ob,Mut w.heap.size d w (w.alloc ob):=fun ob=>(Mut.refl _ _ _).alloc (Nat.le_refl _) _
 have hne:d≠w.heap.size:=by omega
 have RS:∀ (l':List UInt8) (W:World) (x0 x1 x2 x3 x4 x5:Value),RdL d s l' o W→RdL d s l' o ((((((W.setCell ⟨w.heap.size,0,none⟩ x0).setCell ⟨w.heap.size,1,none⟩ x1).setCell ⟨w.heap.size,2,none⟩ x2).setCell ⟨w.heap.size,3,none⟩ x3).setCell ⟨w.heap.size,4,none⟩ x4).setCell ⟨w.heap.size,5,none⟩ x5):=fun l' W x0 x1 x2 x3 x4 x5 h =>
  rdl_set (rdl_set (rdl_set (rdl_set (rdl_set (rdl_set h _ hne _) _ hne _) _ hne _) _ hne _) _ hne _) _ hne _
 have MS:∀ (W:World) (x0 x1 x2 x3 x4 x5:Value),Mut w.heap.size d w W→Mut w.heap.size d w ((((((W.setCell ⟨w.heap.size,0,none⟩ x0).setCell ⟨w.heap.size,1,none⟩ x1).setCell ⟨w.heap.size,2,none⟩ x2).setCell ⟨w.heap.size,3,none⟩ x3).setCell ⟨w.heap.size,4,none⟩ x4).setCell ⟨w.heap.size,5,none⟩ x5):=fun W x0 x1 x2 x3 x4 x5 h =>
  Mut.setNew (Mut.setNew (Mut.setNew (Mut.setNew (Mut.setNew (Mut.setNew h _ (Nat.le_refl _) _) _ (Nat.le_refl _) _) _ (Nat.le_refl _) _) _ (Nat.le_refl _) _) _ (Nat.le_refl _) _) _ (Nat.le_refl _) _
 have hz0:∀ ob,w.heap.size≤(w.alloc ob).heap.size:=fun ob=>by simp
 cases hp1:Lib.hasPrefix l [110,117,108,108] with
 | true =>
  have HRes:=Lib.hid (plain_null hp1)
  have c1:∀ W,RdL d s l o W→_:=fun W h=>take_yes d s ⟨#[110,117,108,108]⟩ l o W h hs hp1
  clear hr hE hp1
  go_enter Tryz.func86,Tryz.ntmps86
  go_wp2_with fail
  refine (c1 _ (hr0 _)).mono ?_;rintro e w1 ⟨rfl,hr1,hm1⟩
  obtain ⟨hc,hf⟩:=cells_mut hm1 (b:=w.heap.size) (by simp) (by omega)
  go_wp2_with fail
  refine bodyPost_ret (v:=.tuple #[vagg 0 false 0 [] (.slice none 0 0) (.slice none 0 0),.bool true]) (by simp [results,Tryz.results86,go_sem,hc];rfl) rfl ?_
  exact readsP_some HRes.out (RS _ _ _ _ _ _ _ _ hr1) (MS _ _ _ _ _ _ _ ((hm0 _).trans (hm1.mono (hz0 _))))
 | false =>
  have c1:∀ W,RdL d s l o W→_:=fun W h=>take_no d s ⟨#[110,117,108,108]⟩ l o W h hp1
  cases hp2:Lib.hasPrefix l [102,97,108,115,101] with
  | true =>
   have HRes:=Lib.hid (plain_false hp1 hp2)
   have c2:∀ W,RdL d s l o W→_:=fun W h=>take_yes d s ⟨#[102,97,108,115,101]⟩ l o W h hs hp2
   clear hr hE hp1 hp2
   go_enter Tryz.func86,Tryz.ntmps86
   go_wp2_with fail
   refine (c1 _ (hr0 _)).mono ?_;rintro e w1 ⟨rfl,hr1,hm1⟩
   go_wp2_with fail
   refine (c2 _ hr1).mono ?_;rintro e w2 ⟨rfl,hr2,hm2⟩
   replace hm2:=hm1.trans (hm2.mono hm1.size)
   obtain ⟨hc,hf⟩:=cells_mut hm2 (b:=w.heap.size) (by simp) (by omega)
   clear c1 c2
   go_wp2_with fail
   refine bodyPost_ret (v:=.tuple #[vagg 1 false 0 [] (.slice none 0 0) (.slice none 0 0),.bool true]) (by simp [results,Tryz.results86,go_sem,hc];rfl) rfl ?_
   exact readsP_some HRes.out (RS _ _ _ _ _ _ _ _ hr2) (MS _ _ _ _ _ _ _ ((hm0 _).trans (hm2.mono (hz0 _))))
  | false =>
   have c2:∀ W,RdL d s l o W→_:=fun W h=>take_no d s ⟨#[102,97,108,115,101]⟩ l o W h hp2
   cases hp3:Lib.hasPrefix l [116,114,117,101] with
   | true =>
    have HRes:=Lib.hid (plain_true hp1 hp2 hp3)
    have c3:∀ W,RdL d s l o W→_:=fun W h=>take_yes d s ⟨#[116,114,117,101]⟩ l o W h hs hp3
    clear hr hE hp1 hp2 hp3
    go_enter Tryz.func86,Tryz.ntmps86
    go_wp2_with fail
    refine (c1 _ (hr0 _)).mono ?_;rintro e w1 ⟨rfl,hr1,hm1⟩
    go_wp2_with fail
    refine (c2 _ hr1).mono ?_;rintro e w2 ⟨rfl,hr2,hm2⟩
    replace hm2:=hm1.trans (hm2.mono hm1.size)
    go_wp2_with fail
    refine (c3 _ hr2).mono ?_;rintro e w3 ⟨rfl,hr3,hm3⟩
    replace hm3:=hm2.trans (hm3.mono hm2.size)
    obtain ⟨hc,hf⟩:=cells_mut hm3 (b:=w.heap.size) (by simp) (by omega)
    clear c1 c2 c3
    go_wp2_with fail
    refine bodyPost_ret (v:=.tuple #[vagg 1 true 0 [] (.slice none 0 0) (.slice none 0 0),.bool true]) (by simp [results,Tryz.results86,go_sem,hc];rfl) rfl ?_
    exact readsP_some HRes.out (RS _ _ _ _ _ _ _ _ hr3) (MS _ _ _ _ _ _ _ ((hm0 _).trans (hm3.mono (hz0 _))))
   | false =>
    have c3:∀ W,RdL d s l o W→_:=fun W h=>take_no d s ⟨#[116,114,117,101]⟩ l o W h hp3
    cases hp4:Lib.hasPrefix l [34] with
    | true =>
     obtain ⟨r,hlr⟩:∃ r,l=34 :: r:=⟨_,prefix_one hp4⟩
     have hres:=plain_str hlr
     have c4:∀ W,RdL d s l o W→Calls Tryz.prog 83 #[.pointer (some ⟨d,0,none⟩),.string ⟨#[34]⟩] W fun e w'=>e=.returned (.bool true)∧RdL d s r o w'∧Mut W.heap.size d W w':=fun W h=>(take_yes d s ⟨#[34]⟩ l o W h hs hp4).mono fun e w' ⟨he,h1,h2⟩=>⟨he,by rw [hlr] at h1;exact h1,h2⟩
     have c5:∀ W,RdL d s r o W→Env B W→_:=fun W h hE=>quoted_any d s r o B W h hE hd hs
     cases hq:quotedA r with
     | none =>
      rw [hq] at c5 hres
      have HRes:=Lib.hid hres
      clear hr hE hp1 hp2 hp3 hp4 hlr hres hq
      go_enter Tryz.func86,Tryz.ntmps86
      go_wp2_with fail
      refine (c1 _ (hr0 _)).mono ?_;rintro e w1 ⟨rfl,hr1,hm1⟩
      go_wp2_with fail
      refine (c2 _ hr1).mono ?_;rintro e w2 ⟨rfl,hr2,hm2⟩
      replace hm2:=hm1.trans (hm2.mono hm1.size)
      go_wp2_with fail
      refine (c3 _ hr2).mono ?_;rintro e w3 ⟨rfl,hr3,hm3⟩
      replace hm3:=hm2.trans (hm3.mono hm2.size)
      go_wp2_with fail
      refine (c4 _ hr3).mono ?_;rintro e w4 ⟨rfl,hr4,hm4⟩
      replace hm4:=hm3.trans (hm4.mono hm3.size)
      go_wp2_with fail
      refine (c5 _ hr4 (hmut _ ((hm0 _).trans (hm4.mono (hz0 _))))).mono ?_;rintro e w5 ⟨m,l5,rfl,hr5,hm5⟩
      replace hm5:=hm4.trans (hm5.mono hm4.size)
      obtain ⟨hc,hf⟩:=cells_mut hm5 (b:=w.heap.size) (by simp) (by omega)
      clear c1 c2 c3 c4 c5
      go_wp2_with fail
      refine bodyPost_ret (v:=.tuple #[vagg 3 false 0 m.data.toList (.slice none 0 0) (.slice none 0 0),.bool false]) (by simp [results,Tryz.results86,go_sem,hc];rfl) rfl ?_
      exact readsP_none HRes.out (RS _ _ _ _ _ _ _ _ hr5) (MS _ _ _ _ _ _ _ ((hm0 _).trans (hm5.mono (hz0 _))))
     | some p =>
      obtain ⟨t,r'⟩:=p
      rw [hq] at c5 hres
      have HRes:=Lib.hid hres
      clear hr hE hp1 hp2 hp3 hp4 hlr hres hq
      go_enter Tryz.func86,Tryz.ntmps86
      go_wp2_with fail
      refine (c1 _ (hr0 _)).mono ?_;rintro e w1 ⟨rfl,hr1,hm1⟩
      go_wp2_with fail
      refine (c2 _ hr1).mono ?_;rintro e w2 ⟨rfl,hr2,hm2⟩
      replace hm2:=hm1.trans (hm2.mono hm1.size)
      go_wp2_with fail
      refine (c3 _ hr2).mono ?_;rintro e w3 ⟨rfl,hr3,hm3⟩
      replace hm3:=hm2.trans (hm3.mono hm2.size)
      go_wp2_with fail
      refine (c4 _ hr3).mono ?_;rintro e w4 ⟨rfl,hr4,hm4⟩
      replace hm4:=hm3.trans (hm4.mono hm3.size)
      go_wp2_with fail
      refine (c5 _ hr4 (hmut _ ((hm0 _).trans (hm4.mono (hz0 _))))).mono ?_;rintro e w5 ⟨rfl,hr5,hm5⟩
      replace hm5:=hm4.trans (hm5.mono hm4.size)
      obtain ⟨hc,hf⟩:=cells_mut hm5 (b:=w.heap.size) (by simp) (by omega)
      clear c1 c2 c3 c4 c5
      go_wp2_with fail
      refine bodyPost_ret (v:=.tuple #[vagg 3 false 0 t (.slice none 0 0) (.slice none 0 0),.bool true]) (by simp [results,Tryz.results86,go_sem,hc];rfl) rfl ?_
      exact readsP_some HRes.out (RS _ _ _ _ _ _ _ _ hr5) (MS _ _ _ _ _ _ _ ((hm0 _).trans (hm5.mono (hz0 _))))
    | false =>
     have hres:=plain_num hp1 hp2 hp3 hp4
     have c4:∀ W,RdL d s l o W→_:=fun W h=>take_no d s ⟨#[34]⟩ l o W h hp4
     have c5:∀ W,RdL d s l o W→Env B W→_:=fun W h hE=>number_any d s l o B W h hE hd hs
     cases hq:number l with
     | none =>
      rw [hq] at c5 hres
      have HRes:=Lib.hid hres
      clear hr hE hp1 hp2 hp3 hp4 hres hq
      go_enter Tryz.func86,Tryz.ntmps86
      go_wp2_with fail
      refine (c1 _ (hr0 _)).mono ?_;rintro e w1 ⟨rfl,hr1,hm1⟩
      go_wp2_with fail
      refine (c2 _ hr1).mono ?_;rintro e w2 ⟨rfl,hr2,hm2⟩
      replace hm2:=hm1.trans (hm2.mono hm1.size)
      go_wp2_with fail
      refine (c3 _ hr2).mono ?_;rintro e w3 ⟨rfl,hr3,hm3⟩
      replace hm3:=hm2.trans (hm3.mono hm2.size)
      go_wp2_with fail
      refine (c4 _ hr3).mono ?_;rintro e w4 ⟨rfl,hr4,hm4⟩
      replace hm4:=hm3.trans (hm4.mono hm3.size)
      go_wp2_with fail
      refine (c5 _ hr4 (hmut _ ((hm0 _).trans (hm4.mono (hz0 _))))).mono ?_;rintro e w5 ⟨m,l5,rfl,hr5,hm5⟩
      replace hm5:=hm4.trans (hm5.mono hm4.size)
      obtain ⟨hc,hf⟩:=cells_mut hm5 (b:=w.heap.size) (by simp) (by omega)
      clear c1 c2 c3 c4 c5
      go_wp2_with fail
      refine bodyPost_ret (v:=.tuple #[vagg 2 false m [] (.slice none 0 0) (.slice none 0 0),.bool false]) (by simp [results,Tryz.results86,go_sem,hc];rfl) rfl ?_
      exact readsP_none HRes.out (RS _ _ _ _ _ _ _ _ hr5) (MS _ _ _ _ _ _ _ ((hm0 _).trans (hm5.mono (hz0 _))))
     | some p =>
      obtain ⟨n,r'⟩:=p
      rw [hq] at c5 hres
      have HRes:=Lib.hid hres
      clear hr hE hp1 hp2 hp3 hp4 hres hq
      go_enter Tryz.func86,Tryz.ntmps86
      go_wp2_with fail
      refine (c1 _ (hr0 _)).mono ?_;rintro e w1 ⟨rfl,hr1,hm1⟩
      go_wp2_with fail
      refine (c2 _ hr1).mono ?_;rintro e w2 ⟨rfl,hr2,hm2⟩
      replace hm2:=hm1.trans (hm2.mono hm1.size)
      go_wp2_with fail
      refine (c3 _ hr2).mono ?_;rintro e w3 ⟨rfl,hr3,hm3⟩
      replace hm3:=hm2.trans (hm3.mono hm2.size)
      go_wp2_with fail
      refine (c4 _ hr3).mono ?_;rintro e w4 ⟨rfl,hr4,hm4⟩
      replace hm4:=hm3.trans (hm4.mono hm3.size)
      go_wp2_with fail
      refine (c5 _ hr4 (hmut _ ((hm0 _).trans (hm4.mono (hz0 _))))).mono ?_;rintro e w5 ⟨rfl,hr5,hm5⟩
      replace hm5:=hm4.trans (hm5.mono hm4.size)
      obtain ⟨hc,hf⟩:=cells_mut hm5 (b:=w.heap.size) (by simp) (by omega)
      clear c1 c2 c3 c4 c5
      go_wp2_with fail
      refine bodyPost_ret (v:=.tuple #[vagg 2 false n [] (.slice none 0 0) (.slice none 0 0),.bool true]) (by simp [results,Tryz.results86,go_sem,hc];rfl) rfl ?_
      exact readsP_some HRes.out (RS _ _ _ _ _ _ _ _ hr5) (MS _ _ _ _ _ _ _ ((hm0 _).trans (hm5.mono (hz0 _))))
end Go.Proofs.YtpbnhnilfpoljaaGreatDoor.V
