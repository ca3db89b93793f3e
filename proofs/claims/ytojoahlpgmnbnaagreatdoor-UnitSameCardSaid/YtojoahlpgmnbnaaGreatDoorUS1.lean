/- What the claim needs of the texts Plain, SRef1, SRef2, RefAll, SRef3, SRef4, QPieces, QFacts. -/
import Derived.Test.YtojoahlpgmnbnaaGreatDoorUSOp
import Derived.Test.YtojoahlpgmnbnaaGreatDoorUF1
import Derived.Test.YtojoahlpgmnbnaaGreatDoorUF2
import Derived.Test.YtojoahlpgmnbnaaGreatDoorUF3
import Derived.Test.YtojoahlpgmnbnaaGreatDoorUF4
import Derived.Test.YtojoahlpgmnbnaaGreatDoorUF5
import Derived.Test.YtojoahlpgmnbnaaGreatDoorUF6
import Derived.Test.YtojoahlpgmnbnaaGreatDoorUF7
import Derived.Test.YtojoahlpgmnbnaaGreatDoorUF8
import Derived.Test.YtojoahlpgmnbnaaGreatDoorUF9
import Derived.Test.YtojoahlpgmnbnaaGreatDoorUF10
import Derived.Test.YtojoahlpgmnbnaaGreatDoorUF11
import Derived.Test.YtojoahlpgmnbnaaGreatDoorUF12
import Derived.Test.YtojoahlpgmnbnaaGreatDoorUF13
import Derived.Test.YtojoahlpgmnbnaaGreatDoorUF14
import Derived.Test.YtojoahlpgmnbnaaGreatDoorUF15
import Derived.Lib.DecodeN
import Derived.Lib.ValidU
import Derived.Lib.ValidAsc
import Derived.Lib.RuneCountTail
import Derived.Test.YtojoahlpgmnbnaaGreatDoorProg
import Derived.WalkKit
import Derived.WalkMore
import Derived.WalkSmall
import Derived.Below
import Derived.Lib.Hide
import Derived.Shelf.Unicode.DecodeSlow
import Derived.Deep.DeepMust
import Derived.Maps.AppendAt
import Derived.Deep.QuietTactic
import Derived.BigQuiet
import Derived.Laws.AppendOwn
import Derived.Lib.SmallJoins
import Derived.RangeFuncOwn
import Derived.Deep.AppendLies
import Derived.Deep.RegionHeld3
import Derived.Deep.RegionWith
import Derived.BigRegion
import Derived.Deep.DeepCutAuto
import Derived.Defers
import Derived.Recover
import Derived.Laws.Pointers
import Derived.Laws.Rows
import Derived.RangeFuncNested
import Derived.RangeFuncBound
import Derived.RangeFuncCalls
import Derived.RangeFuncLeaves
import Derived.OwnWalkIn
import Derived.TacticsInMore
import Derived.LoopNIn
import Derived.LoopIn
import Derived.Laws.OwnMore
import Derived.Deep.LoopGhost
import Derived.Shelf.LaysM
import Derived.Shelf.Strconv.Clone
import Derived.Shelf.Strings.Prefix
import Derived.Shelf.Unicode.ValidAny
import Derived.OwnWalk
import Derived.Test.YtojoahlpgmnbnaaGreatDoorRows
import Derived.OpenShut
import Derived.Lib.LaidTab
import Derived.Lib.LaidU8T
import Derived.PinnedBridge
namespace Go.Proofs.YtojoahlpgmnbnaaGreatDoor.U
open Go.Lib
theorem uw_pos (r:Nat):1≤uw r:=by unfold uw;split <;> omega
theorem uw_le (r:Nat):uw r≤2:=by unfold uw;split <;> omega
theorem decodeN_rune (n b0 b1 b2 b3:Nat) (h0:b0<256):(decodeN n b0 b1 b2 b3).1≤1114111:=by
 unfold decodeN
 repeat' split
 all_goals (simp only;omega)
theorem rune_le (s:ByteArray) (pos:Nat):(Utf8.decode s pos).1≤1114111:=by rw [decode_at];exact decodeN_rune _ _ _ _ _ (UInt8.toNat_lt _)
def sumU:List (Nat × Nat)→Nat
 | []=>0
 | x :: t=>uw x.1+sumU t
theorem sumU_le:∀ l:List (Nat × Nat),Wide l→sumU l≤2*sumW l
 | [],_=>by simp [sumU,sumW]
 | x :: t,h=>by
  have h1:=h x (by simp)
  have h2:=sumU_le t (fun y hy=>h y (by simp [hy]))
  have:=uw_le x.1
  simp only [sumU,sumW];omega
end Go.Proofs.YtojoahlpgmnbnaaGreatDoor.U
namespace Go.Proofs.YtojoahlpgmnbnaaGreatDoor.S
open Go.RowKit hiding intOf
open Go.Lib
open U
set_option maxRecDepth 20000 in
theorem figure_any (c:UInt8) (w:World):Calls Tryz.prog 108 #[.int .u8 (c.toNat:Nat)] w fun e w'=>e=.returned (.bool (figu c))∧w=w':=by
 have hf:figu c=decide (48≤c.toNat∧c.toNat≤57):=by unfold figu;simp [UInt8.le_iff_toNat_le]
 rw [hf]
 generalize c.toNat=n
 obtain ⟨R,hR⟩:∃ R,decide (48≤n∧n≤57)=R:=⟨_,rfl⟩
 have HR:=hid hR
 rw [hR]
 clear hR
 go_enter Tryz.func108,Tryz.ntmps108
 go_wp2_with fail
 all_goals (go_ret;exact ⟨retB (by rw [← HR.out,Bool.eq_iff_iff];simp;omega),rfl⟩)
set_option maxRecDepth 20000 in
theorem letter_any (c:UInt8) (w:World):Calls Tryz.prog 107 #[.int .u8 (c.toNat:Nat)] w fun e w'=>e=.returned (.bool (lett c))∧w=w':=by
 have hf:lett c=decide ((97≤c.toNat∧c.toNat≤122)∨(65≤c.toNat∧c.toNat≤90)∨c.toNat=95):=by
  unfold lett
  have:decide (c=95)=decide (c.toNat=95):=by
   rw [decide_eq_decide]
   exact ⟨fun h=>by rw [h];rfl,fun h=>UInt8.toNat_inj.1 h⟩
  rw [this]
  simp [UInt8.le_iff_toNat_le,Bool.or_assoc]
 rw [hf]
 generalize c.toNat=n
 obtain ⟨R,hR⟩:∃ R,decide ((97≤n∧n≤122)∨(65≤n∧n≤90)∨n=95)=R:=⟨_,rfl⟩
 have HR:=hid hR
 rw [hR]
 clear hR
 go_enter Tryz.func107,Tryz.ntmps107
 go_wp2_with fail
 all_goals (go_ret;exact ⟨retB (by rw [← HR.out,Bool.eq_iff_iff];simp;omega),rfl⟩)
set_option maxRecDepth 20000 in
theorem key_any (s:ByteArray) (w:World):Calls Tryz.prog 81 #[.string s] w fun e w'=>e=.returned (.bool (keyB s.toList))∧w=w':=by
 obtain ⟨R,hR⟩:∃ R,keyB s.toList=R:=⟨_,rfl⟩
 have HR:=hid hR
 rw [hR]
 clear hR
 go_enter Tryz.func81,Tryz.ntmps81
 go_wp2_with fail
 all_goals (go_ret;exact ⟨retB (by first|(exfalso;simp_all;done)|(rw [← HR.out];simp only [keyB, *];rfl)),rfl⟩)
set_option maxHeartbeats 4000000 in
set_option maxRecDepth 20000 in
theorem ends_any (k f e':Int) (t:ByteArray) (w:World):Calls Tryz.prog 57 #[.agg #[.int .i64 k,.string t,.int .i64 f,.int .i64 e']] w fun e w'=>e=.returned (.bool (endsP k t.toList))∧Below w.heap.size w w':=by
 obtain ⟨R,hR⟩:∃ R,endsP k t.toList=R:=⟨_,rfl⟩
 rw [hR]
 unfold endsP at hR
 have HR:=hid hR
 clear hR
 go_enter Tryz.func57,Tryz.ntmps57
 go_wp2_with fail
 all_goals (go_ret;refine ⟨retB (by first|(exfalso;simp_all;done)|(exfalso;omega)|(rw [← HR.out];simp [*];done)|(rw [← HR.out];simp_all;done)|(rw [← HR.out];simp;omega)),(Below.refl _ _).alloc (Nat.le_refl _) _⟩)
end Go.Proofs.YtojoahlpgmnbnaaGreatDoor.S
namespace Go.Proofs.YtojoahlpgmnbnaaGreatDoor.S
open Go.RowKit hiding intOf
open Go.Lib
open U
def nameAt (s:ByteArray) (i:Nat):Nat:=if i=0 then nameLen s.toList else i+((s.toList.drop i).takeWhile nmc).length
theorem nameAt_on (s:ByteArray) {i:Nat} (h:i<s.size) (hc:lett s[i]=true∨(figu s[i]=true∧i≠0)):nameAt s (i+1)=nameAt s i:=by
 unfold nameAt
 rw [if_neg (by omega)]
 by_cases h0:i=0
 ·subst h0
  rw [if_pos rfl]
  have hl:lett s[0]=true:=by
   rcases hc with h|⟨_,h⟩
   ·exact h
   ·exact absurd rfl h
  have:=tl_drop s h
  rw [List.drop_zero] at this
  rw [this]
  simp only [nameLen,hl,if_true,Nat.zero_add,List.drop_succ_cons,List.drop_zero]
 ·rw [if_neg h0,tl_drop s h,List.takeWhile_cons]
  have:nmc s[i]=true:=by
   unfold nmc
   rcases hc with h|⟨h,_⟩ <;> simp [h]
  rw [this]
  simp only [if_true,List.length_cons]
  omega
theorem nameAt_off (s:ByteArray) {i:Nat} (h:i<s.size) (h1:lett s[i]=false) (h2:figu s[i]=false∨i=0):nameAt s i=i:=by
 unfold nameAt
 by_cases h0:i=0
 ·subst h0
  rw [if_pos rfl]
  have:=tl_drop s h
  rw [List.drop_zero] at this
  rw [this]
  simp [nameLen,h1]
 ·rw [if_neg h0,tl_drop s h,List.takeWhile_cons]
  have:nmc s[i]=false:=by
   unfold nmc
   rcases h2 with h|h
   ·simp [h,h1]
   ·exact absurd h h0
  rw [this]
  simp
theorem nameAt_end (s:ByteArray) {i:Nat} (h:s.size≤i):nameAt s i=i:=by
 unfold nameAt
 by_cases h0:i=0
 ·subst h0
  rw [if_pos rfl]
  have:=tl_end s h
  rw [List.drop_zero] at this
  rw [this];rfl
 ·rw [if_neg h0,tl_end s h];rfl
set_option maxHeartbeats 4000000 in
set_option maxRecDepth 20000 in
theorem name_any (s:ByteArray) (w:World) (hs:s.size≤1099511627776):Calls Tryz.prog 80 #[.string s] w fun e w'=>e=.returned (.int .i64 (nameLen s.toList:Nat))∧w=w':=by
 have cL:=fun c W=>letter_any c W
 have cF:=fun c W=>figure_any c W
 obtain ⟨R,hR⟩:∃ R,nameLen s.toList=R:=⟨_,rfl⟩
 have HR:Hid (nameAt s 0=R):=hid hR
 rw [hR]
 clear hR
 go_enter Tryz.func80,Tryz.ntmps80
 go_wp2_with fail
 go_loop [3] (fun iv=>∃ i:Nat,iv=.int .i64 i∧i≤s.size∧Hid (nameAt s i=R)) (fun iv=>s.size - (intOf iv).toNat)
 case atStart=>exact ⟨0,rfl,Nat.zero_le _,HR⟩
 case round =>
  obtain ⟨i,rfl,hi,HI⟩:=hrel
  clear HR
  by_cases hlt:i<s.size
  ·have h1:=nameAt_on s hlt
   have h2:=nameAt_off s hlt
   obtain ⟨x,hx⟩:∃ x,s[i]=x:=⟨_,rfl⟩
   rw [hx] at h1 h2
   have H1:=hid h1
   have H2:=hid h2
   have c1:=cL x w
   have c2:=cF x w
   clear h1 h2
   go_wp2_with fail
   refine c1.mono ?_
   rintro e w1 ⟨rfl,rfl⟩
   go_wp2_with fail
   refine c2.mono ?_
   rintro e w2 ⟨rfl,rfl⟩
   clear c1 c2
   cases hl:lett x
   ·cases hf:figu x
    ·have HE:=hid (H2.out hl (.inl hf))
     clear hl hf
     go_wp2_with fail
     go_ret
     exact ⟨by rw [← HI.out,HE.out];rfl,rfl⟩
    ·by_cases h0:i=0
     ·have HE:=hid (H2.out hl (.inr h0))
      have hz:((i:Int)==0)=true:=by simp [h0]
      clear hl hf h0
      go_wp2_with fail
      go_ret
      exact ⟨by rw [← HI.out,HE.out];rfl,rfl⟩
     ·have HN:Hid (nameAt s (i+1)=R):=hid ((H1.out (.inr ⟨hf,h0⟩)).trans HI.out)
      have hz:((i:Int)==0)=false:=by simp [h0]
      clear hl hf h0
      go_wp2_with fail
      go_round
      case rel=>exact ⟨i+1,by go_num,by omega,HN⟩
      case measure=>simp [intOf];omega
   ·have HN:Hid (nameAt s (i+1)=R):=hid ((H1.out (.inl hl)).trans HI.out)
    clear hl
    go_wp2_with fail
    go_round
    case rel=>exact ⟨i+1,by go_num,by omega,HN⟩
    case measure=>simp [intOf];omega
  ·have HE:=hid (nameAt_end s (i:=i) (by omega))
   go_wp2_with fail
   go_ret
   exact ⟨by rw [← HI.out,HE.out];rfl,rfl⟩
theorem figu_or (c:UInt8):(figu c=true∧decide ((48:Int)≤(c.toNat:Int))=true∧decide ((c.toNat:Int)≤57)=true)∨(figu c=false∧decide ((48:Int)≤(c.toNat:Int))=false)∨(figu c=false∧decide ((48:Int)≤(c.toNat:Int))=true∧decide ((c.toNat:Int)≤57)=false):=by
 have hf:figu c=decide (48≤c.toNat∧c.toNat≤57):=by unfold figu;simp [UInt8.le_iff_toNat_le]
 rw [hf]
 generalize c.toNat=n
 by_cases h1:48≤n
 ·by_cases h2:n≤57
  ·exact .inl ⟨by simp [h1,h2],by simp;omega,by simp;omega⟩
  ·exact .inr (.inr ⟨by simp [h2],by simp;omega,by simp;omega⟩)
 ·exact .inr (.inl ⟨by simp [h1],by simp;omega⟩)
set_option maxHeartbeats 4000000 in
set_option maxRecDepth 20000 in
theorem number_any (s:ByteArray) (w:World) (hs:s.size≤1099511627776):Calls Tryz.prog 82 #[.string s] w fun e w'=>e=.returned (.int .i64 (numLen s.toList:Nat))∧w=w':=by
 obtain ⟨R,hR⟩:∃ R,numLen s.toList=R:=⟨_,rfl⟩
 have HR:Hid (whileAt figu s 0=R):=hid (by unfold whileAt;rw [Nat.zero_add,List.drop_zero];exact hR)
 rw [hR]
 clear hR
 go_enter Tryz.func82,Tryz.ntmps82
 go_wp2_with fail
 go_loop [3] (fun iv=>∃ i:Nat,iv=.int .i64 i∧i≤s.size∧Hid (whileAt figu s i=R)) (fun iv=>s.size - (intOf iv).toNat)
 case atStart=>exact ⟨0,rfl,Nat.zero_le _,HR⟩
 case round =>
  obtain ⟨i,rfl,hi,HI⟩:=hrel
  clear HR
  by_cases hlt:i<s.size
  ·have h1:=whileAt_on (p:=figu) hlt
   have h2:=whileAt_off (p:=figu) hlt
   obtain ⟨x,hx⟩:∃ x,s[i]=x:=⟨_,rfl⟩
   rw [hx] at h1 h2
   have H1:=hid h1
   have H2:=hid h2
   have hor:=figu_or x
   clear h1 h2
   rcases hor with ⟨hf,d1,d2⟩|⟨hf,d1⟩|⟨hf,d1,d2⟩
   ·have HN:=hid ((H1.out hf).trans HI.out)
    clear hf
    go_wp2_with fail
    go_round
    case rel=>exact ⟨i+1,by go_num,by omega,HN⟩
    case measure=>simp [intOf];omega
   ·have HE:=hid (H2.out hf)
    clear hf
    go_wp2_with fail
    go_ret
    exact ⟨by rw [← HI.out,HE.out];rfl,rfl⟩
   ·have HE:=hid (H2.out hf)
    clear hf
    go_wp2_with fail
    go_ret
    exact ⟨by rw [← HI.out,HE.out];rfl,rfl⟩
  ·have HE:=hid (whileAt_end figu (s:=s) (i:=i) (by omega))
   go_wp2_with fail
   go_ret
   exact ⟨by rw [← HI.out,HE.out];rfl,rfl⟩
def qAt (s:ByteArray) (i:Nat):Nat:=match quoTail (s.toList.drop i) with|none=>0|some n=>i+n
theorem qAt_10 {s:ByteArray} {i:Nat} (h:i<s.size) (hc:s[i]=10):qAt s i=0:=by
 unfold qAt
 rw [tl_drop s h]
 simp [quoTail,hc]
theorem qAt_34 {s:ByteArray} {i:Nat} (h:i<s.size) (hc:s[i]=34):qAt s i=i+1:=by
 unfold qAt
 rw [tl_drop s h]
 simp [quoTail,hc]
theorem qAt_on {s:ByteArray} {i:Nat} (h:i<s.size) (h1:s[i]≠10) (h2:s[i]≠34):qAt s (i+1)=qAt s i:=by
 unfold qAt
 rw [tl_drop s h]
 simp only [quoTail,if_neg h1,if_neg h2]
 cases quoTail (s.toList.drop (i+1)) with
 | none=>rfl
 | some n=>simp only [Option.map_some];omega
theorem qAt_end {s:ByteArray} {i:Nat} (h:s.size≤i):qAt s i=0:=by
 unfold qAt
 rw [tl_end s h];rfl
set_option maxHeartbeats 4000000 in
set_option maxRecDepth 20000 in
theorem quote_any (s:ByteArray) (w:World) (hs:s.size≤1099511627776) (h0:0<s.size):Calls Tryz.prog 83 #[.string s] w fun e w'=>e=.returned (.int .i64 (quoLen s.toList:Nat))∧w=w':=by
 have hl:=tl_drop s h0
 rw [List.drop_zero] at hl
 obtain ⟨R,hR⟩:∃ R,quoLen s.toList=R:=⟨_,rfl⟩
 rw [hR]
 obtain ⟨z,hz⟩:∃ z,s[0]=z:=⟨_,rfl⟩
 by_cases h34:z=34
 ·have HR:Hid (qAt s 1=R):=hid (by
   rw [← hR,hl,hz,h34]
   unfold qAt quoLen
   simp only [Nat.zero_add,if_true]
   cases quoTail (s.toList.drop 1) with
   | none=>rfl
   | some n=>simp only;omega)
  have hb:((z.toNat:Int)==34)=true:=by rw [h34];rfl
  clear hR hl h34
  go_enter Tryz.func83,Tryz.ntmps83
  go_wp2_with fail
  go_loop [3] (fun iv=>∃ i:Nat,iv=.int .i64 i∧1≤i∧i≤s.size∧Hid (qAt s i=R)) (fun iv=>s.size - (intOf iv).toNat)
  case atStart=>exact ⟨1,rfl,Nat.le_refl _,h0,HR⟩
  case round =>
   obtain ⟨i,rfl,hi1,hi,HI⟩:=hrel
   clear HR
   by_cases hlt:i<s.size
   ·have h1:=qAt_10 hlt
    have h2:=qAt_34 hlt
    have h3:=qAt_on hlt
    obtain ⟨x,hx⟩:∃ x,s[i]=x:=⟨_,rfl⟩
    rw [hx] at h1 h2 h3
    have H1:=hid h1
    have H2:=hid h2
    have H3:=hid h3
    have e1:=u8_eq x 10
    have e2:=u8_eq x 34
    clear h1 h2 h3
    by_cases h10:x=10
    ·rw [decide_eq_true h10] at e1
     replace e1:((x.toNat:Int)==10)=true:=e1
     have HE:=hid (H1.out h10)
     clear e2 h10
     go_wp2_with fail
     go_ret
     exact ⟨by rw [← HI.out,HE.out];rfl,rfl⟩
    ·rw [decide_eq_false h10] at e1
     replace e1:((x.toNat:Int)==10)=false:=e1
     by_cases h34:x=34
     ·rw [decide_eq_true h34] at e2
      replace e2:((x.toNat:Int)==34)=true:=e2
      have HE:=hid (H2.out h34)
      clear h10 h34
      go_wp2_with fail
      go_ret
      exact ⟨by rw [← HI.out,HE.out];rfl,rfl⟩
     ·rw [decide_eq_false h34] at e2
      replace e2:((x.toNat:Int)==34)=false:=e2
      have HN:=hid ((H3.out h10 h34).trans HI.out)
      clear h10 h34
      go_wp2_with fail
      go_round
      case rel=>exact ⟨i+1,by go_num,by omega,by omega,HN⟩
      case measure=>simp [intOf];omega
   ·have HE:=hid (qAt_end (s:=s) (i:=i) (by omega))
    go_wp2_with fail
    go_ret
    exact ⟨by rw [← HI.out,HE.out];rfl,rfl⟩
 ·have hR0:R=0:=by rw [← hR,hl,hz];simp [quoLen,h34]
  subst hR0
  have hb:=u8_eq z 34
  rw [decide_eq_false h34] at hb
  replace hb:((z.toNat:Int)==34)=false:=hb
  clear hR hl h34
  go_enter Tryz.func83,Tryz.ntmps83
  go_wp2_with fail
  go_ret
  exact ⟨rfl,rfl⟩
theorem cmt_or (s:ByteArray):(2≤s.size∧((s.extract 0 2).toList==[47,47])=true∧cmtLen s.toList=whileAt not10 s 2)∨(2≤s.size∧((s.extract 0 2).toList==[47,47])=false∧cmtLen s.toList=0)∨(s.size<2∧cmtLen s.toList=0):=by
 have hl:=tl_len s
 rw [ext_take]
 unfold whileAt
 match h:s.toList with
 | []=>rw [h] at hl;simp at hl;exact .inr (.inr ⟨by omega,rfl⟩)
 | [a]=>rw [h] at hl;simp at hl;exact .inr (.inr ⟨by omega,rfl⟩)
 | a :: b :: r =>
  rw [h] at hl
  simp only [List.length_cons] at hl
  by_cases hc:a=47∧b=47
  ·obtain ⟨rfl,rfl⟩:=hc
   refine .inl ⟨by omega,by simp,?_⟩
   simp only [cmtLen,and_self,if_true,List.drop_succ_cons,List.drop_zero]
   rfl
  ·refine .inr (.inl ⟨by omega,?_,?_⟩)
   ·simp only [List.take_succ_cons,List.take_zero]
    rw [beq_eq_false_iff_ne]
    intro h
    simp at h
    exact hc h
   ·simp only [cmtLen];rw [if_neg hc]
set_option maxHeartbeats 4000000 in
set_option maxRecDepth 20000 in
theorem comment_any (s:ByteArray) (w:World) (hs:s.size≤1099511627776):Calls Tryz.prog 56 #[.string s] w fun e w'=>e=.returned (.int .i64 (cmtLen s.toList:Nat))∧w=w':=by
 rcases cmt_or s with ⟨h2,hb,hR⟩|⟨h2,hb,hR⟩|⟨h2,hR⟩
 ·rw [hR]
  obtain ⟨R,hR2⟩:∃ R,whileAt not10 s 2=R:=⟨_,rfl⟩
  have HR:=hid hR2
  have hd:decide ((s.size:Int)<2)=false:=by simp;omega
  rw [hR2]
  clear hR hR2
  go_enter Tryz.func56,Tryz.ntmps56
  go_wp2_with fail
  go_loop [3] (fun iv=>∃ i:Nat,iv=.int .i64 i∧i≤s.size∧Hid (whileAt not10 s i=R)) (fun iv=>s.size - (intOf iv).toNat)
  case atStart=>exact ⟨2,rfl,h2,HR⟩
  case round =>
   obtain ⟨i,rfl,hi,HI⟩:=hrel
   clear HR
   by_cases hlt:i<s.size
   ·have h1:=whileAt_on (p:=not10) hlt
    have h2:=whileAt_off (p:=not10) hlt
    obtain ⟨x,hx⟩:∃ x,s[i]=x:=⟨_,rfl⟩
    rw [hx] at h1 h2
    have H1:=hid h1
    have H2:=hid h2
    have e1:=u8_eq x 10
    clear h1 h2
    by_cases h10:x=10
    ·rw [decide_eq_true h10] at e1
     replace e1:((x.toNat:Int)==10)=true:=e1
     have HE:=hid (H2.out (by simp [not10,h10]))
     clear h10
     go_wp2_with fail
     go_ret
     exact ⟨by rw [← HI.out,HE.out];rfl,rfl⟩
    ·rw [decide_eq_false h10] at e1
     replace e1:((x.toNat:Int)==10)=false:=e1
     have HN:=hid ((H1.out (by simp [not10,h10])).trans HI.out)
     clear h10
     go_wp2_with fail
     go_round
     case rel=>exact ⟨i+1,by go_num,by omega,HN⟩
     case measure=>simp [intOf];omega
   ·have HE:=hid (whileAt_end not10 (s:=s) (i:=i) (by omega))
    go_wp2_with fail
    go_ret
    exact ⟨by rw [← HI.out,HE.out];rfl,rfl⟩
 ·rw [hR]
  have hd:decide ((s.size:Int)<2)=false:=by simp;omega
  clear hR
  go_enter Tryz.func56,Tryz.ntmps56
  go_wp2_with fail
  go_ret
  exact ⟨rfl,rfl⟩
 ·rw [hR]
  have hd:decide ((s.size:Int)<2)=true:=by simp;omega
  clear hR
  go_enter Tryz.func56,Tryz.ntmps56
  go_wp2_with fail
  go_ret
  exact ⟨rfl,rfl⟩
end Go.Proofs.YtojoahlpgmnbnaaGreatDoor.S
namespace Go.Proofs.YtojoahlpgmnbnaaGreatDoor.U
open Go.Lib
def scal (s:ByteArray):Nat × Nat:=if (Utf8.decode s 0).1=65533∧(Utf8.decode s 0).2=1 then (0,0) else Utf8.decode s 0
def contF (s:ByteArray) (n:Nat):Nat→Nat→Nat→Option Nat
 | 0,_,c=>some c
 | f+1,i,c=>if i<n then (if (s.get! i).toNat<128∨192≤(s.get! i).toNat then none else contF s n f (i+1) (64*c+(s.get! i).toNat - 128)) else some c
def refFin (least n:Nat):Option Nat→Nat × Nat
 | none=>(0,0)
 | some c=>if c<least∨1114111<c∨(55296≤c∧c≤57343) then (0,0) else (c,n)
def refC (s:ByteArray) (n least c:Nat):Nat × Nat:=if s.size<n then (0,0) else refFin least n (contF s n (n - 1) 1 c)
theorem refFin_bad (least n c:Nat) (h:c<least∨1114111<c∨(55296≤c∧c≤57343)):refFin least n (some c)=(0,0):=by
 simp only [refFin];rw [if_pos h]
theorem refFin_ok (least n c:Nat) (h1:¬ c<least) (h2:¬ 1114111<c) (h3:¬ (55296≤c∧c≤57343)):refFin least n (some c)=(c,n):=by
 simp only [refFin];rw [if_neg (fun h=>h.elim h1 fun h=>h.elim h2 h3)]
theorem contF_bad (s:ByteArray) (n f i c:Nat) (hi:i<n) (h:(s.get! i).toNat<128∨192≤(s.get! i).toNat):contF s n (f+1) i c=none:=by
 simp only [contF];rw [if_pos hi,if_pos h]
theorem contF_on (s:ByteArray) (n f i c:Nat) (hi:i<n) (h:¬ ((s.get! i).toNat<128∨192≤(s.get! i).toNat)):contF s n (f+1) i c=contF s n f (i+1) (64*c+(s.get! i).toNat - 128):=by
 simp only [contF];rw [if_pos hi,if_neg h]
theorem contF_done (s:ByteArray) (n f i c:Nat) (hi:¬ i<n):contF s n f i c=some c:=by
 cases f <;> simp only [contF];rw [if_neg hi]
def scalN (n b0 b1 b2 b3:Nat):Nat × Nat:=if (decodeN n b0 b1 b2 b3).1=65533∧(decodeN n b0 b1 b2 b3).2=1 then (0,0) else decodeN n b0 b1 b2 b3
theorem scal_eq (s:ByteArray):scal s=scalN s.size (s.get! 0).toNat (s.get! 1).toNat (s.get! 2).toNat (s.get! 3).toNat:=by
 unfold scal scalN
 rw [decode_at]
 rfl
theorem scalN_bad {n b0 b1 b2 b3:Nat} (h:decodeN n b0 b1 b2 b3=(65533,1)):scalN n b0 b1 b2 b3=(0,0):=by
 unfold scalN;rw [h];simp
theorem scalN_good {n b0 b1 b2 b3 c k:Nat} (h:decodeN n b0 b1 b2 b3=(c,k)) (hk:1<k∨c<65533):scalN n b0 b1 b2 b3=(c,k):=by
 unfold scalN;rw [h];rw [if_neg (by simp only;omega)]
theorem ref1 (s:ByteArray) (h:(s.get! 0).toNat<128):scal s=((s.get! 0).toNat,1):=by
 rw [scal_eq]
 generalize (s.get! 0).toNat=b0 at *
 exact scalN_good (by unfold decodeN;rw [if_pos h]) (by omega)
theorem ref0 (s:ByteArray) (h:¬ (s.get! 0).toNat<128) (h2:¬ (192≤(s.get! 0).toNat∧(s.get! 0).toNat<224)) (h3:¬ (224≤(s.get! 0).toNat∧(s.get! 0).toNat<240)) (h4:¬ (240≤(s.get! 0).toNat∧(s.get! 0).toNat<248)):scal s=(0,0):=by
 rw [scal_eq]
 have hb:(s.get! 0).toNat<256:=UInt8.toNat_lt _
 generalize (s.get! 0).toNat=b0 at *
 exact scalN_bad (by unfold decodeN;rw [if_neg h,if_neg (by omega),if_neg (by omega),if_neg (by omega)])
set_option maxHeartbeats 4000000 in
theorem ref2 (s:ByteArray) (h:192≤(s.get! 0).toNat) (h2:(s.get! 0).toNat<224):scal s=refC s 2 128 ((s.get! 0).toNat - 192):=by
 rw [scal_eq]
 have c1:(s.get! 1).toNat<256:=UInt8.toNat_lt _
 have c2:(s.get! 2).toNat<256:=UInt8.toNat_lt _
 have c3:(s.get! 3).toNat<256:=UInt8.toNat_lt _
 unfold refC
 simp only [contF]
 generalize (s.get! 0).toNat=b0 at *
 generalize (s.get! 1).toNat=b1 at *
 generalize (s.get! 2).toNat=b2 at *
 generalize (s.get! 3).toNat=b3 at *
 generalize s.size=z at *
 by_cases hs:z<2
 ·rw [if_pos hs]
  exact scalN_bad (by unfold decodeN;repeat rw [if_neg (by omega)])
 ·rw [if_neg hs,if_pos (by omega)]
  by_cases q1:b1<128∨192≤b1
  ·rw [if_pos q1]
   exact scalN_bad (by unfold decodeN;repeat rw [if_neg (by omega)])
  rw [if_neg q1]
  simp only [refFin]
  by_cases q:64*(b0 - 192)+b1 - 128<128∨1114111<64*(b0 - 192)+b1 - 128∨(55296≤64*(b0 - 192)+b1 - 128∧64*(b0 - 192)+b1 - 128≤57343)
  ·rw [if_pos q]
   exact scalN_bad (by unfold decodeN;rw [if_neg (by omega),if_pos (by omega)];rw [if_neg (by omega)])
  ·rw [if_neg q]
   exact scalN_good (by unfold decodeN;rw [if_neg (by omega),if_pos (by omega)];rw [if_pos (by omega)];exact Prod.ext (by simp only;omega) rfl) (by omega)
set_option maxHeartbeats 4000000 in
theorem ref3 (s:ByteArray) (h:224≤(s.get! 0).toNat) (h2:(s.get! 0).toNat<240):scal s=refC s 3 2048 ((s.get! 0).toNat - 224):=by
 rw [scal_eq]
 have c1:(s.get! 1).toNat<256:=UInt8.toNat_lt _
 have c2:(s.get! 2).toNat<256:=UInt8.toNat_lt _
 have c3:(s.get! 3).toNat<256:=UInt8.toNat_lt _
 unfold refC
 simp only [contF]
 generalize (s.get! 0).toNat=b0 at *
 generalize (s.get! 1).toNat=b1 at *
 generalize (s.get! 2).toNat=b2 at *
 generalize (s.get! 3).toNat=b3 at *
 generalize s.size=z at *
 by_cases hs:z<3
 ·rw [if_pos hs]
  exact scalN_bad (by unfold decodeN;repeat rw [if_neg (by omega)])
 ·rw [if_neg hs,if_pos (by omega)]
  by_cases q1:b1<128∨192≤b1
  ·rw [if_pos q1]
   exact scalN_bad (by unfold decodeN;repeat rw [if_neg (by omega)])
  rw [if_neg q1]
  rw [if_pos (by omega)]
  by_cases q2:b2<128∨192≤b2
  ·rw [if_pos q2]
   exact scalN_bad (by unfold decodeN;repeat rw [if_neg (by omega)])
  rw [if_neg q2]
  simp only [refFin]
  by_cases q:64*(64*(b0 - 224)+b1 - 128)+b2 - 128<2048∨1114111<64*(64*(b0 - 224)+b1 - 128)+b2 - 128∨(55296≤64*(64*(b0 - 224)+b1 - 128)+b2 - 128∧64*(64*(b0 - 224)+b1 - 128)+b2 - 128≤57343)
  ·rw [if_pos q]
   exact scalN_bad (by unfold decodeN;rw [if_neg (by omega),if_neg (by omega),if_pos (by omega)];rw [if_neg (by omega)])
  ·rw [if_neg q]
   exact scalN_good (by unfold decodeN;rw [if_neg (by omega),if_neg (by omega),if_pos (by omega)];rw [if_pos (by omega)];exact Prod.ext (by simp only;omega) rfl) (by omega)
set_option maxHeartbeats 4000000 in
theorem ref4 (s:ByteArray) (h:240≤(s.get! 0).toNat) (h2:(s.get! 0).toNat<248):scal s=refC s 4 65536 ((s.get! 0).toNat - 240):=by
 rw [scal_eq]
 have c1:(s.get! 1).toNat<256:=UInt8.toNat_lt _
 have c2:(s.get! 2).toNat<256:=UInt8.toNat_lt _
 have c3:(s.get! 3).toNat<256:=UInt8.toNat_lt _
 unfold refC
 simp only [contF]
 generalize (s.get! 0).toNat=b0 at *
 generalize (s.get! 1).toNat=b1 at *
 generalize (s.get! 2).toNat=b2 at *
 generalize (s.get! 3).toNat=b3 at *
 generalize s.size=z at *
 by_cases hs:z<4
 ·rw [if_pos hs]
  exact scalN_bad (by unfold decodeN;repeat rw [if_neg (by omega)])
 ·rw [if_neg hs,if_pos (by omega)]
  by_cases q1:b1<128∨192≤b1
  ·rw [if_pos q1]
   exact scalN_bad (by unfold decodeN;repeat rw [if_neg (by omega)])
  rw [if_neg q1]
  rw [if_pos (by omega)]
  by_cases q2:b2<128∨192≤b2
  ·rw [if_pos q2]
   exact scalN_bad (by unfold decodeN;repeat rw [if_neg (by omega)])
  rw [if_neg q2]
  rw [if_pos (by omega)]
  by_cases q3:b3<128∨192≤b3
  ·rw [if_pos q3]
   exact scalN_bad (by unfold decodeN;repeat rw [if_neg (by omega)])
  rw [if_neg q3]
  simp only [refFin]
  by_cases q:64*(64*(64*(b0 - 240)+b1 - 128)+b2 - 128)+b3 - 128<65536∨1114111<64*(64*(64*(b0 - 240)+b1 - 128)+b2 - 128)+b3 - 128∨(55296≤64*(64*(64*(b0 - 240)+b1 - 128)+b2 - 128)+b3 - 128∧64*(64*(64*(b0 - 240)+b1 - 128)+b2 - 128)+b3 - 128≤57343)
  ·rw [if_pos q]
   exact scalN_bad (by unfold decodeN;rw [if_neg (by omega),if_neg (by omega),if_neg (by omega),if_pos (by omega)];rw [if_neg (by omega)])
  ·rw [if_neg q]
   exact scalN_good (by unfold decodeN;rw [if_neg (by omega),if_neg (by omega),if_neg (by omega),if_pos (by omega)];rw [if_pos (by omega)];exact Prod.ext (by simp only;omega) rfl) (by omega)
end Go.Proofs.YtojoahlpgmnbnaaGreatDoor.U
namespace Go.Proofs.YtojoahlpgmnbnaaGreatDoor.U
open Go.RowKit
open Go.Lib hiding intOf
def TwoN (p:Nat × Nat) (w:World) (e:Ending) (w':World):Prop:=e=.returned (.tuple #[.int .i64 p.1,.int .i64 p.2])∧w=w'
theorem twoN {p:Nat × Nat} {a b:Int} {w:World} (h1:a=(p.1:Int)) (h2:b=(p.2:Int)):TwoN p w (.returned (.tuple #[.int .i64 a,.int .i64 b])) w:=⟨by rw [h1,h2],rfl⟩
theorem get_at (s:ByteArray) (i:Nat) (h:i<s.size):s[i]'h=s.get! i:=(Utf8W.get!_of_lt s i h).symm
end Go.Proofs.YtojoahlpgmnbnaaGreatDoor.U
namespace Go.Proofs.YtojoahlpgmnbnaaGreatDoor.U
open Go.RowKit
open Go.Lib hiding intOf
theorem scalar_one (s:ByteArray) (w:World) (h0:0<s.size) (_hs:s.size≤1099511627776) (x:UInt8) (hx:s.get! 0=x) (h:x.toNat<128) :
  Calls Tryz.prog 106 #[.string s] w (TwoN (x.toNat,1) w):=by
 have hs0:s[0]'h0=x:=by rw [← hx];exact get_at s 0 h0
 have hz:(x.toNat:Int)<128:=by omega
 have hxl:x.toNat<256:=x.toNat_lt
 clear hx
 go_enter Tryz.func106,Tryz.ntmps106
 go_wp2
 go_ret2
 exact twoN (by simp) (by simp)
set_option maxRecDepth 100000 in
theorem scalar_none (s:ByteArray) (w:World) (h0:0<s.size) (_hs:s.size≤1099511627776) (x:UInt8) (hx:s.get! 0=x) (h:(128≤x.toNat∧x.toNat<192)∨248≤x.toNat) :
  Calls Tryz.prog 106 #[.string s] w (TwoN (0,0) w):=by
 have hs0:s[0]'h0=x:=by rw [← hx];exact get_at s 0 h0
 have hxl:x.toNat<256:=x.toNat_lt
 clear hx
 rcases h with ⟨ha,hb⟩|ha
 ·have hz1:¬ (x.toNat:Int)<128:=by omega
  have hz2:¬ (192:Int)≤(x.toNat:Int):=by omega
  have hz3:¬ (224:Int)≤(x.toNat:Int):=by omega
  have hz4:¬ (240:Int)≤(x.toNat:Int):=by omega
  go_enter Tryz.func106,Tryz.ntmps106
  go_wp2
  go_ret2
  exact twoN rfl rfl
 ·have hz1:¬ (x.toNat:Int)<128:=by omega
  have hz2:(192:Int)≤(x.toNat:Int):=by omega
  have hz3:(224:Int)≤(x.toNat:Int):=by omega
  have hz4:(240:Int)≤(x.toNat:Int):=by omega
  have hz5:¬ (x.toNat:Int)<248:=by omega
  go_enter Tryz.func106,Tryz.ntmps106
  go_wp2
  go_ret2
  exact twoN rfl rfl
set_option maxRecDepth 100000 in
set_option maxHeartbeats 2000000 in
theorem scalar_2 (s:ByteArray) (w:World) (h0:0<s.size) (hs:s.size≤1099511627776) (x:UInt8) (hx:s.get! 0=x) (ha:192≤x.toNat) (hb:x.toNat<224) :
  Calls Tryz.prog 106 #[.string s] w (TwoN (refC s 2 128 (x.toNat - 192)) w):=by
 have hs0:s[0]'h0=x:=by rw [← hx];exact get_at s 0 h0
 have hxl:x.toNat<256:=x.toNat_lt
 have hz0:¬ (x.toNat:Int)<128:=by omega
 have hz1:(192:Int)≤(x.toNat:Int):=by omega
 have hz2:(x.toNat:Int)<224:=by omega
 clear hx
 unfold refC
 by_cases hn:s.size<2
 ·rw [if_pos hn]
  have hnz:(s.size:Int)<2:=by omega
  go_enter Tryz.func106,Tryz.ntmps106
  go_wp2
  go_ret2
  exact twoN rfl rfl
 ·rw [if_neg hn]
  have hnz:¬ (s.size:Int)<2:=by omega
  obtain ⟨R,hR⟩:∃ R,contF s 2 (2 - 1) 1 (x.toNat - 192)=R:=⟨_,rfl⟩
  rw [hR]
  have HR:=hid hR;clear hR
  obtain ⟨y,hy⟩:∃ y:Nat,x.toNat=y+192:=⟨x.toNat - 192,by omega⟩
  have hyz:((x.toNat:Int) - 192)=(y:Int):=by omega
  have HY:Hid (x.toNat=y+192):=hid hy
  clear hy
  go_enter Tryz.func106,Tryz.ntmps106
  go_wp2
  go_loop [4,7] (fun cv iv=>∃ (c i:Nat),cv=.int .i64 c∧iv=.int .i64 i∧Hid (contF s 2 (2 - i) i c=R)∧((i=1∧c<32)∨(i=2∧c<8388608))) (fun _ iv=>2 - (intOf iv).toNat)
  case atStart =>
   have hy:=HY.out
   refine ⟨y,1,rfl,rfl,hid ?_,by omega⟩
   rw [← HR.out];congr 1;omega
  case round =>
   obtain ⟨c,i,rfl,rfl,HC,hrng⟩:=hrel
   clear hyz HY HR hs0
   by_cases hin:i<2
   ·obtain ⟨v,hv⟩:∃ v,s.get! i=v:=⟨_,rfl⟩
    have hi2:i<s.size:=by omega
    have hsi:s[i]'hi2=v:=by rw [← hv];exact get_at s i hi2
    have hvl:v.toNat<256:=v.toNat_lt
    have hbad:=contF_bad s 2 (2 - i - 1) i c hin
    have hon:=contF_on s 2 (2 - i - 1) i c hin
    rw [hv,show 2 - i - 1+1=2 - i by omega] at hbad hon
    have HB:=hid hbad
    have HO:=hid hon
    clear hbad hon hv
    by_cases q1:v.toNat<128
    ·have q1z:(v.toNat:Int)<128:=by omega
     have hRn:Hid (R=none):=hid (HC.out.symm.trans (HB.out (.inl q1)))
     go_wp2
     go_ret2
     rw [hRn.out]
     exact twoN rfl rfl
    ·have q1z:¬ (v.toNat:Int)<128:=by omega
     by_cases q2:192≤v.toNat
     ·have q2z:(192:Int)≤(v.toNat:Int):=by omega
      have hRn:Hid (R=none):=hid (HC.out.symm.trans (HB.out (.inr q2)))
      go_wp2
      go_ret2
      rw [hRn.out]
      exact twoN rfl rfl
     ·have q2z:¬ (192:Int)≤(v.toNat:Int):=by omega
      have hcn:Hid (contF s 2 (2 - (i+1)) (i+1) (64*c+v.toNat - 128)=R):=hid (by rw [← HC.out,HO.out (by omega)];congr 1)
      go_wp2
      go_round
      case rel=>exact ⟨64*c+v.toNat - 128,i+1,by go_num,by go_num,hcn,by omega⟩
      case measure=>simp [intOf];omega
   ·have hfin:=contF_done s 2 (2 - i) i c hin
    have hRn:Hid (R=some c):=hid (HC.out.symm.trans hfin)
    clear hfin HC
    have hc8:c<8388608:=by omega
    clear hrng
    by_cases p1:c<128
    ·have p1z:(c:Int)<128:=by omega
     go_wp2
     go_ret2
     have hans:=refFin_bad 128 2 c (.inl p1)
     rw [← hRn.out] at hans
     rw [hans]
     exact twoN rfl rfl
    ·have p1z:¬ (c:Int)<128:=by omega
     by_cases p2:1114111<c
     ·have p2z:(1114111:Int)<(c:Int):=by omega
      go_wp2
      go_ret2
      have hans:=refFin_bad 128 2 c (.inr (.inl p2))
      rw [← hRn.out] at hans
      rw [hans]
      exact twoN rfl rfl
     ·have p2z:¬ (1114111:Int)<(c:Int):=by omega
      by_cases p3:55296≤c
      ·have p3z:(55296:Int)≤(c:Int):=by omega
       by_cases p4:c≤57343
       ·have p4z:(c:Int)≤57343:=by omega
        first
         | (exfalso;omega)
         | (go_wp2
            go_ret2
            have hans:=refFin_bad 128 2 c (.inr (.inr ⟨p3,p4⟩))
            rw [← hRn.out] at hans
            rw [hans]
            exact twoN rfl rfl)
       ·have p4z:¬ (c:Int)≤57343:=by omega
        go_wp2
        go_ret2
        have hans:=refFin_ok 128 2 c p1 p2 (by omega)
        rw [← hRn.out] at hans
        rw [hans]
        exact twoN rfl rfl
      ·have p3z:¬ (55296:Int)≤(c:Int):=by omega
       first
        | (exfalso;omega)
        | (go_wp2
           go_ret2
           have hans:=refFin_ok 128 2 c p1 p2 (by omega)
           rw [← hRn.out] at hans
           rw [hans]
           exact twoN rfl rfl)
end Go.Proofs.YtojoahlpgmnbnaaGreatDoor.U
namespace Go.Proofs.YtojoahlpgmnbnaaGreatDoor.U
open Go.RowKit
open Go.Lib hiding intOf
set_option maxRecDepth 100000 in
set_option maxHeartbeats 2000000 in
theorem scalar_3 (s:ByteArray) (w:World) (h0:0<s.size) (hs:s.size≤1099511627776) (x:UInt8) (hx:s.get! 0=x) (ha:224≤x.toNat) (hb:x.toNat<240) :
  Calls Tryz.prog 106 #[.string s] w (TwoN (refC s 3 2048 (x.toNat - 224)) w):=by
 have hs0:s[0]'h0=x:=by rw [← hx];exact get_at s 0 h0
 have hxl:x.toNat<256:=x.toNat_lt
 have hz0:¬ (x.toNat:Int)<128:=by omega
 have hz1:(192:Int)≤(x.toNat:Int):=by omega
 have hz2:¬ (x.toNat:Int)<224:=by omega
 have hz3:(224:Int)≤(x.toNat:Int):=by omega
 have hz4:(x.toNat:Int)<240:=by omega
 clear hx
 unfold refC
 by_cases hn:s.size<3
 ·rw [if_pos hn]
  have hnz:(s.size:Int)<3:=by omega
  go_enter Tryz.func106,Tryz.ntmps106
  go_wp2
  go_ret2
  exact twoN rfl rfl
 ·rw [if_neg hn]
  have hnz:¬ (s.size:Int)<3:=by omega
  obtain ⟨R,hR⟩:∃ R,contF s 3 (3 - 1) 1 (x.toNat - 224)=R:=⟨_,rfl⟩
  rw [hR]
  have HR:=hid hR;clear hR
  obtain ⟨y,hy⟩:∃ y:Nat,x.toNat=y+224:=⟨x.toNat - 224,by omega⟩
  have hyz:((x.toNat:Int) - 224)=(y:Int):=by omega
  have HY:Hid (x.toNat=y+224):=hid hy
  clear hy
  go_enter Tryz.func106,Tryz.ntmps106
  go_wp2
  generalize hL:(2048:Int)=l
  have HL:Hid (l=2048):=hid hL.symm
  clear hL
  go_loop [4,7] (fun cv iv=>∃ (c i:Nat),cv=.int .i64 c∧iv=.int .i64 i∧Hid (contF s 3 (3 - i) i c=R)∧((i=1∧c<16)∨(i=2∧c<2048)∨(i=3∧c<8388608))) (fun _ iv=>3 - (intOf iv).toNat)
  case atStart =>
   have hy:=HY.out
   refine ⟨y,1,rfl,rfl,hid ?_,by omega⟩
   rw [← HR.out];congr 1;omega
  case round =>
   obtain ⟨c,i,rfl,rfl,HC,hrng⟩:=hrel
   clear hyz HY HR hs0
   by_cases hin:i<3
   ·obtain ⟨v,hv⟩:∃ v,s.get! i=v:=⟨_,rfl⟩
    have hi2:i<s.size:=by omega
    have hsi:s[i]'hi2=v:=by rw [← hv];exact get_at s i hi2
    have hvl:v.toNat<256:=v.toNat_lt
    have hbad:=contF_bad s 3 (3 - i - 1) i c hin
    have hon:=contF_on s 3 (3 - i - 1) i c hin
    rw [hv,show 3 - i - 1+1=3 - i by omega] at hbad hon
    have HB:=hid hbad
    have HO:=hid hon
    clear hbad hon hv
    by_cases q1:v.toNat<128
    ·have q1z:(v.toNat:Int)<128:=by omega
     have hRn:Hid (R=none):=hid (HC.out.symm.trans (HB.out (.inl q1)))
     go_wp2
     go_ret2
     rw [hRn.out]
     exact twoN rfl rfl
    ·have q1z:¬ (v.toNat:Int)<128:=by omega
     by_cases q2:192≤v.toNat
     ·have q2z:(192:Int)≤(v.toNat:Int):=by omega
      have hRn:Hid (R=none):=hid (HC.out.symm.trans (HB.out (.inr q2)))
      go_wp2
      go_ret2
      rw [hRn.out]
      exact twoN rfl rfl
     ·have q2z:¬ (192:Int)≤(v.toNat:Int):=by omega
      have hcn:Hid (contF s 3 (3 - (i+1)) (i+1) (64*c+v.toNat - 128)=R):=hid (by rw [← HC.out,HO.out (by omega)];congr 1)
      go_wp2
      go_round
      case rel=>exact ⟨64*c+v.toNat - 128,i+1,by go_num,by go_num,hcn,by omega⟩
      case measure=>simp [intOf];omega
   ·have hfin:=contF_done s 3 (3 - i) i c hin
    have hRn:Hid (R=some c):=hid (HC.out.symm.trans hfin)
    clear hfin HC
    have hc8:c<8388608:=by omega
    clear hrng
    by_cases p1:c<2048
    ·have p1z:(c:Int)<l:=by rw [HL.out];omega
     go_wp2
     go_ret2
     have hans:=refFin_bad 2048 3 c (.inl p1)
     rw [← hRn.out] at hans
     rw [hans]
     exact twoN rfl rfl
    ·have p1z:¬ (c:Int)<l:=by rw [HL.out];omega
     by_cases p2:1114111<c
     ·have p2z:(1114111:Int)<(c:Int):=by omega
      go_wp2
      go_ret2
      have hans:=refFin_bad 2048 3 c (.inr (.inl p2))
      rw [← hRn.out] at hans
      rw [hans]
      exact twoN rfl rfl
     ·have p2z:¬ (1114111:Int)<(c:Int):=by omega
      by_cases p3:55296≤c
      ·have p3z:(55296:Int)≤(c:Int):=by omega
       by_cases p4:c≤57343
       ·have p4z:(c:Int)≤57343:=by omega
        first
         | (exfalso;omega)
         | (go_wp2
            go_ret2
            have hans:=refFin_bad 2048 3 c (.inr (.inr ⟨p3,p4⟩))
            rw [← hRn.out] at hans
            rw [hans]
            exact twoN rfl rfl)
       ·have p4z:¬ (c:Int)≤57343:=by omega
        go_wp2
        go_ret2
        have hans:=refFin_ok 2048 3 c p1 p2 (by omega)
        rw [← hRn.out] at hans
        rw [hans]
        exact twoN rfl rfl
      ·have p3z:¬ (55296:Int)≤(c:Int):=by omega
       first
        | (exfalso;omega)
        | (go_wp2
           go_ret2
           have hans:=refFin_ok 2048 3 c p1 p2 (by omega)
           rw [← hRn.out] at hans
           rw [hans]
           exact twoN rfl rfl)
end Go.Proofs.YtojoahlpgmnbnaaGreatDoor.U
namespace Go.Proofs.YtojoahlpgmnbnaaGreatDoor.U
open Go.RowKit
open Go.Lib hiding intOf
set_option maxRecDepth 100000 in
set_option maxHeartbeats 2000000 in
theorem scalar_4 (s:ByteArray) (w:World) (h0:0<s.size) (hs:s.size≤1099511627776) (x:UInt8) (hx:s.get! 0=x) (ha:240≤x.toNat) (hb:x.toNat<248) :
  Calls Tryz.prog 106 #[.string s] w (TwoN (refC s 4 65536 (x.toNat - 240)) w):=by
 have hs0:s[0]'h0=x:=by rw [← hx];exact get_at s 0 h0
 have hxl:x.toNat<256:=x.toNat_lt
 have hz0:¬ (x.toNat:Int)<128:=by omega
 have hz1:(192:Int)≤(x.toNat:Int):=by omega
 have hz2:¬ (x.toNat:Int)<224:=by omega
 have hz3:(224:Int)≤(x.toNat:Int):=by omega
 have hz4:¬ (x.toNat:Int)<240:=by omega
 have hz5:(240:Int)≤(x.toNat:Int):=by omega
 have hz6:(x.toNat:Int)<248:=by omega
 clear hx
 unfold refC
 by_cases hn:s.size<4
 ·rw [if_pos hn]
  have hnz:(s.size:Int)<4:=by omega
  go_enter Tryz.func106,Tryz.ntmps106
  go_wp2
  go_ret2
  exact twoN rfl rfl
 ·rw [if_neg hn]
  have hnz:¬ (s.size:Int)<4:=by omega
  obtain ⟨R,hR⟩:∃ R,contF s 4 (4 - 1) 1 (x.toNat - 240)=R:=⟨_,rfl⟩
  rw [hR]
  have HR:=hid hR;clear hR
  obtain ⟨y,hy⟩:∃ y:Nat,x.toNat=y+240:=⟨x.toNat - 240,by omega⟩
  have hyz:((x.toNat:Int) - 240)=(y:Int):=by omega
  have HY:Hid (x.toNat=y+240):=hid hy
  clear hy
  go_enter Tryz.func106,Tryz.ntmps106
  go_wp2
  generalize hL:(65536:Int)=l
  have HL:Hid (l=65536):=hid hL.symm
  clear hL
  go_loop [4,7] (fun cv iv=>∃ (c i:Nat),cv=.int .i64 c∧iv=.int .i64 i∧Hid (contF s 4 (4 - i) i c=R)∧((i=1∧c<8)∨(i=2∧c<1024)∨(i=3∧c<131072)∨(i=4∧c<8388608))) (fun _ iv=>4 - (intOf iv).toNat)
  case atStart =>
   have hy:=HY.out
   refine ⟨y,1,rfl,rfl,hid ?_,by omega⟩
   rw [← HR.out];congr 1;omega
  case round =>
   obtain ⟨c,i,rfl,rfl,HC,hrng⟩:=hrel
   clear hyz HY HR hs0
   by_cases hin:i<4
   ·obtain ⟨v,hv⟩:∃ v,s.get! i=v:=⟨_,rfl⟩
    have hi2:i<s.size:=by omega
    have hsi:s[i]'hi2=v:=by rw [← hv];exact get_at s i hi2
    have hvl:v.toNat<256:=v.toNat_lt
    have hbad:=contF_bad s 4 (4 - i - 1) i c hin
    have hon:=contF_on s 4 (4 - i - 1) i c hin
    rw [hv,show 4 - i - 1+1=4 - i by omega] at hbad hon
    have HB:=hid hbad
    have HO:=hid hon
    clear hbad hon hv
    by_cases q1:v.toNat<128
    ·have q1z:(v.toNat:Int)<128:=by omega
     have hRn:Hid (R=none):=hid (HC.out.symm.trans (HB.out (.inl q1)))
     go_wp2
     go_ret2
     rw [hRn.out]
     exact twoN rfl rfl
    ·have q1z:¬ (v.toNat:Int)<128:=by omega
     by_cases q2:192≤v.toNat
     ·have q2z:(192:Int)≤(v.toNat:Int):=by omega
      have hRn:Hid (R=none):=hid (HC.out.symm.trans (HB.out (.inr q2)))
      go_wp2
      go_ret2
      rw [hRn.out]
      exact twoN rfl rfl
     ·have q2z:¬ (192:Int)≤(v.toNat:Int):=by omega
      have hcn:Hid (contF s 4 (4 - (i+1)) (i+1) (64*c+v.toNat - 128)=R):=hid (by rw [← HC.out,HO.out (by omega)];congr 1)
      go_wp2
      go_round
      case rel=>exact ⟨64*c+v.toNat - 128,i+1,by go_num,by go_num,hcn,by omega⟩
      case measure=>simp [intOf];omega
   ·have hfin:=contF_done s 4 (4 - i) i c hin
    have hRn:Hid (R=some c):=hid (HC.out.symm.trans hfin)
    clear hfin HC
    have hc8:c<8388608:=by omega
    clear hrng
    by_cases p1:c<65536
    ·have p1z:(c:Int)<l:=by rw [HL.out];omega
     go_wp2
     go_ret2
     have hans:=refFin_bad 65536 4 c (.inl p1)
     rw [← hRn.out] at hans
     rw [hans]
     exact twoN rfl rfl
    ·have p1z:¬ (c:Int)<l:=by rw [HL.out];omega
     by_cases p2:1114111<c
     ·have p2z:(1114111:Int)<(c:Int):=by omega
      go_wp2
      go_ret2
      have hans:=refFin_bad 65536 4 c (.inr (.inl p2))
      rw [← hRn.out] at hans
      rw [hans]
      exact twoN rfl rfl
     ·have p2z:¬ (1114111:Int)<(c:Int):=by omega
      by_cases p3:55296≤c
      ·have p3z:(55296:Int)≤(c:Int):=by omega
       by_cases p4:c≤57343
       ·have p4z:(c:Int)≤57343:=by omega
        first
         | (exfalso;omega)
         | (go_wp2
            go_ret2
            have hans:=refFin_bad 65536 4 c (.inr (.inr ⟨p3,p4⟩))
            rw [← hRn.out] at hans
            rw [hans]
            exact twoN rfl rfl)
       ·have p4z:¬ (c:Int)≤57343:=by omega
        go_wp2
        go_ret2
        have hans:=refFin_ok 65536 4 c p1 p2 (by omega)
        rw [← hRn.out] at hans
        rw [hans]
        exact twoN rfl rfl
      ·have p3z:¬ (55296:Int)≤(c:Int):=by omega
       first
        | (exfalso;omega)
        | (go_wp2
           go_ret2
           have hans:=refFin_ok 65536 4 c p1 p2 (by omega)
           rw [← hRn.out] at hans
           rw [hans]
           exact twoN rfl rfl)
end Go.Proofs.YtojoahlpgmnbnaaGreatDoor.U
namespace Go.Proofs.YtojoahlpgmnbnaaGreatDoor.U
open Go.RowKit
open Go.Lib hiding intOf
theorem scalar_any (s:ByteArray) (w:World) (h0:0<s.size) (hs:s.size≤1099511627776) :
  Calls Tryz.prog 106 #[.string s] w (TwoN (scal s) w):=by
 obtain ⟨x,hx⟩:∃ x,s.get! 0=x:=⟨_,rfl⟩
 have r1:=ref1 s
 have r0:=ref0 s
 have r2:=ref2 s
 have r3:=ref3 s
 have r4:=ref4 s
 rw [hx] at r1 r0 r2 r3 r4
 by_cases q1:x.toNat<128
 ·rw [r1 q1];exact scalar_one s w h0 hs x hx q1
 ·by_cases q2:192≤x.toNat∧x.toNat<224
  ·rw [r2 q2.1 q2.2];exact scalar_2 s w h0 hs x hx q2.1 q2.2
  ·by_cases q3:224≤x.toNat∧x.toNat<240
   ·rw [r3 q3.1 q3.2];exact scalar_3 s w h0 hs x hx q3.1 q3.2
   ·by_cases q4:240≤x.toNat∧x.toNat<248
    ·rw [r4 q4.1 q4.2];exact scalar_4 s w h0 hs x hx q4.1 q4.2
    ·rw [r0 q1 q2 q3 q4];exact scalar_none s w h0 hs x hx (by omega)
end Go.Proofs.YtojoahlpgmnbnaaGreatDoor.U
namespace Go.Proofs.YtojoahlpgmnbnaaGreatDoor.U
open Go.Lib
theorem posL_length:∀ (l:List (Nat × Nat)) (p:Nat),(posL l p).length=l.length+1
 | [],_=>rfl
 | x :: t,p=>by simp only [posL,List.length_cons,posL_length t]
theorem unL_length:∀ (l:List (Nat × Nat)) (a:Nat),(unL l a).length=l.length+1
 | [],_=>rfl
 | x :: t,a=>by simp only [unL,List.length_cons,unL_length t]
theorem posL_snoc:∀ (l:List (Nat × Nat)) (p:Nat) (y:Nat × Nat),posL (l++[y]) p=posL l p++[p+sumW l+y.2]
 | [],p,y=>by simp [posL,sumW]
 | x :: t,p,y=>by
  simp only [List.cons_append,posL,sumW,posL_snoc t]
  rw [Nat.add_assoc p x.2 (sumW t)]
theorem unL_snoc:∀ (l:List (Nat × Nat)) (a:Nat) (y:Nat × Nat),unL (l++[y]) a=unL l a++[a+sumU l+uw y.1]
 | [],a,y=>by simp [unL,sumU]
 | x :: t,a,y=>by
  simp only [List.cons_append,unL,sumU,unL_snoc t]
  rw [Nat.add_assoc a (uw x.1) (sumU t)]
theorem unL_last:∀ (l:List (Nat × Nat)) (a:Nat),(unL l a).getD l.length 0=a+sumU l
 | [],a=>by simp [unL,sumU]
 | x :: t,a=>by
  simp only [unL,sumU,List.length_cons,List.getD_cons_succ,unL_last t]
  omega
theorem scal_at (s:ByteArray) (pos:Nat):scal (s.extract pos s.size)=if (Utf8.decode s pos).1=65533∧(Utf8.decode s pos).2=1 then (0,0) else Utf8.decode s pos:=by
 have h:=tail_decode s pos 0
 rw [Nat.add_zero] at h
 unfold scal
 rw [h]
theorem okL_bad (s:ByteArray) (f pos:Nat) (h:pos<s.size) (hb:(Utf8.decode s pos).1=65533∧(Utf8.decode s pos).2=1):okL (itemsF s (f+1) pos)=false:=by
 rw [itemsF_step s f pos h];simp only [okL];rw [if_pos hb]
theorem okL_on (s:ByteArray) (f pos:Nat) (h:pos<s.size) (hb:¬ ((Utf8.decode s pos).1=65533∧(Utf8.decode s pos).2=1)):okL (itemsF s (f+1) pos)=okL (itemsF s f (pos+(Utf8.decode s pos).2)):=by
 rw [itemsF_step s f pos h];simp only [okL];rw [if_neg hb]
theorem okL_done (s:ByteArray) (f pos:Nat) (h:¬ pos<s.size):okL (itemsF s f pos)=true:=by rw [itemsF_end s f pos h];rfl
theorem split_step {s:ByteArray} {l:List (Nat × Nat)} {f pos:Nat} (h:Split s l (f+1) pos) (hp:pos<s.size):Split s (l++[Utf8.decode s pos]) f (pos+(Utf8.decode s pos).2):=by
 obtain ⟨h1,h2,h3,h4⟩:=h
 have hw:=width_pos s pos hp
 refine ⟨?_,?_,by omega,width_le s pos hp⟩
 ·rw [h1,itemsF_step s f pos hp];simp
 ·rw [sumW_append,h2];rfl
theorem split_done {s:ByteArray} {l:List (Nat × Nat)} {f pos:Nat} (h:Split s l f pos) (hp:¬ pos<s.size):l=items s:=by
 obtain ⟨h1,h2,h3,h4⟩:=h
 rw [h1,itemsF_end s f pos hp,List.append_nil]
end Go.Proofs.YtojoahlpgmnbnaaGreatDoor.U
namespace Go.Proofs.YtojoahlpgmnbnaaGreatDoor.U
open Go.RowKit
open Go.Lib hiding intOf
def PlacesPost (s:ByteArray) (w:World) (e:Ending) (w':World):Prop :=
 if okB s=true then ∃ g1 c1 g2 c2,e=.returned (.tuple #[.slice (some ⟨g1,0,none⟩) ((items s).length+1) c1,.slice (some ⟨g2,0,none⟩) ((items s).length+1) c2,.bool true]) ∧
  Row w' g1 (posL (items s) 0)∧Row w' g2 (unL (items s) 0)∧Below w.heap.size w w'∧g1<w'.heap.size∧g2<w'.heap.size
 else e=.returned (.tuple #[.slice none 0 0,.slice none 0 0,.bool false])∧Below w.heap.size w w'
theorem row_of_owns {w:World} {B g c n:Nat} {l:List Nat} (h:w.ownsRow B 3 1 (.slice (some ⟨g,0,none⟩) n c) n (l.map I)):Row w g l∧g<w.heap.size:=by
 have hl:l.length=n:=by have:=h.1;simpa using this
 refine ⟨fun i hi=>?_,(h.lt g rfl).2⟩
 rw [h.cellAt i (by omega),List.getElem?_map,List.getElem?_eq_getElem hi]
 simp [I,hi]
theorem shape {w:World} {B n:Nat} {v:Value} {xs:List Value} (h:w.ownsRow B 3 1 v (n+1) xs):∃ g c,v=.slice (some ⟨g,0,none⟩) (n+1) c:=by
 rcases h.2 with ⟨_,h0⟩|⟨g,cap,cur,hv,_⟩
 ·omega
 ·exact ⟨g,cap,hv⟩
theorem places_fin {s:ByteArray} {w w':World} {l:List (Nat × Nat)} {g1 c1 g2 c2 B:Nat} (hok:okB s=true) (hl:l=items s)
  (h1:w'.ownsRow B 3 1 (.slice (some ⟨g1,0,none⟩) (l.length+1) c1) (l.length+1) ((posL l 0).map I)) (h2:w'.ownsRow B 3 1 (.slice (some ⟨g2,0,none⟩) (l.length+1) c2) (l.length+1) ((unL l 0).map I))
  (hb:Below w.heap.size w w'):PlacesPost s w (.returned (.tuple #[.slice (some ⟨g1,0,none⟩) (l.length+1) c1,.slice (some ⟨g2,0,none⟩) (l.length+1) c2,.bool true])) w':=by
 subst hl
 unfold PlacesPost
 rw [if_pos hok]
 obtain ⟨r1,s1⟩:=row_of_owns h1
 obtain ⟨r2,s2⟩:=row_of_owns h2
 exact ⟨g1,c1,g2,c2,rfl,r1,r2,hb,s1,s2⟩
theorem places_bad {s:ByteArray} {w w':World} (hok:okB s=false) (hb:Below w.heap.size w w'):PlacesPost s w (.returned (.tuple #[.slice none 0 0,.slice none 0 0,.bool false])) w':=by
 unfold PlacesPost
 rw [if_neg (by rw [hok];simp)]
 exact ⟨rfl,hb⟩
theorem scalar_is (s:ByteArray) (w:World) (a b:Nat) (h0:0<s.size) (hs:s.size≤1099511627776) (h:scal s=(a,b)) :
  Calls Tryz.prog 106 #[.string s] w fun e w'=>e=.returned (.tuple #[.int .i64 a,.int .i64 b])∧w=w' :=
 (scalar_any s w h0 hs).mono fun e w' ⟨he,hw⟩=>by rw [h] at he;exact ⟨he,hw⟩
theorem info3:(Tryz.prog.info? 3).map (fun i=>(i.zero,i.size,i.bytes))=some (some (.int .i64 0),1,8):=by kernel_rfl
theorem two_step {w0 wr w1 w2:World} {s:ByteArray} {l:List (Nat × Nat)} {f pos m g1 c1 g2 c2 u:Nat} {v1 v2:Value} {o1 o2:Obj} {x y:Int}
  (hS:Split s l f pos) (hA:okL (itemsF s f pos)=okB s) (hm:l.length=m) (hp:pos<s.size) (hgood:¬ ((Utf8.decode s pos).1=65533∧(Utf8.decode s pos).2=1)) (hu:uw (Utf8.decode s pos).1=u)
  (hx:x=((pos+(Utf8.decode s pos).2:Nat):Int)) (hy:y=((sumU l+u:Nat):Int))
  (h1:wr.ownsRow w0.heap.size 3 1 (.slice (some ⟨g1,0,none⟩) (m+1) c1) (m+1) ((posL l 0).map I)) (h2:wr.ownsRow w0.heap.size 3 1 (.slice (some ⟨g2,0,none⟩) (m+1) c2) (m+1) ((unL l 0).map I))
  (hne:g1≠g2) (hb:Below w0.heap.size w0 wr)
  (hv1:w1.ownsRow w0.heap.size 3 1 v1 (m+1+1) ((posL l 0).map I++[.int .i64 x])) (hg1:(wr.alloc o1).grownBy w1 (some g1)) (hat1:v1.ownBlock=some g1∨v1.ownBlock=some (wr.alloc o1).heap.size)
  (hv2:w2.ownsRow w0.heap.size 3 1 v2 (m+1+1) ((unL l 0).map I++[.int .i64 y])) (hg2:(w1.alloc o2).grownBy w2 (some g2)) (hat2:v2.ownBlock=some g2∨v2.ownBlock=some (w1.alloc o2).heap.size) :
  Two w0 w0.heap.size s v1 v2 (.int .i64 x) w2:=by
 obtain ⟨k,rfl⟩:∃ k,f=k+1:=⟨f - 1,by have:=hS.2.2.1;omega⟩
 have hlt1:=h1.lt g1 rfl
 have hlt2:=h2.lt g2 rfl
 have hsz1:=hg1.size
 have hsz2:=hg2.size
 rw [World.size_alloc] at hsz1 hsz2 hat1 hat2
 have hsum:sumW l=pos:=hS.2.1
 have e1:(posL l 0).map I++[.int .i64 x]=(posL (l++[Utf8.decode s pos]) 0).map I:=by
  rw [posL_snoc,hsum,hx];simp [I]
 have e2:(unL l 0).map I++[.int .i64 y]=(unL (l++[Utf8.decode s pos]) 0).map I:=by
  rw [unL_snoc,hu,hy];simp [I]
 rw [e1] at hv1
 rw [e2] at hv2
 have hlen:(l++[Utf8.decode s pos]).length=m+1:=by simp [hm]
 obtain ⟨g1',c1',rfl⟩:=shape hv1
 obtain ⟨g2',c2',rfl⟩:=shape hv2
 have hl1:=hv1.lt g1' rfl
 have hl2:=hv2.lt g2' rfl
 simp only [Value.ownBlock,Option.some.injEq] at hat1 hat2
 have hk1:=(hv1.alloc o2).kept hg2 (.inr (by simp only [Value.ownBlock,ne_eq,Option.some.injEq];omega))
 refine ⟨l++[Utf8.decode s pos],k,pos+(Utf8.decode s pos).2,g1',c1',g2',c2',by rw [hx],by rw [hlen],by rw [hlen],split_step hS hp,?_,?_,?_,by omega,?_⟩
 ·rw [← hA,okL_on s k pos hp hgood]
 ·rw [hlen];exact hk1
 ·rw [hlen];exact hv2
 ·exact (((hb.alloc hb.size o1).grown hg1 (by rw [World.size_alloc];have:=hb.size;omega) (fun j hj=>by cases hj;omega)).alloc (by have:=hb.size;omega) o2).grown hg2 (by rw [World.size_alloc];have:=hb.size;omega) (fun j hj=>by cases hj;omega)
theorem keep_units {w w1:World} {o:Obj} {B g1 c1 g2 c2 n k:Nat} {xs:List Value} (h:w.ownsRow B 3 1 (.slice (some ⟨g2,0,none⟩) n c2) n xs) (hne:g1≠g2) (hg:(w.alloc o).grownBy w1 (Value.slice (some ⟨g1,0,none⟩) k c1).ownBlock) :
  w1.ownsRow B 3 1 (.slice (some ⟨g2,0,none⟩) n c2) n xs:=(h.alloc o).kept hg (.inr (by simp only [Value.ownBlock,ne_eq,Option.some.injEq];omega))
theorem last_cell {w:World} {B g c m:Nat} {l:List (Nat × Nat)} (hm:l.length=m) (h:w.ownsRow B 3 1 (.slice (some ⟨g,0,none⟩) (m+1) c) (m+1) ((unL l 0).map I)):w.cell? ⟨g,m,none⟩=some (.int .i64 (sumU l:Nat)):=by
 have hl:=unL_last l 0
 rw [h.cellAt m (by omega),List.getElem?_map]
 rw [hm,Nat.zero_add,List.getD_eq_getElem?_getD] at hl
 have hlt:m<(unL l 0).length:=by rw [unL_length];omega
 rw [List.getElem?_eq_getElem hlt] at hl ⊢
 simp only [Option.getD_some] at hl
 rw [hl];rfl
set_option maxHeartbeats 4000000 in
set_option maxRecDepth 100000 in
theorem places_any (s:ByteArray) (w:World) (hs:s.size≤1048576) :
  Calls Tryz.prog 79 #[.string s] w (PlacesPost s w):=by
 have HST:=hid (start w s 3 rfl)
 obtain ⟨i0,hi,hz0,hz1,hz2⟩:=info_parts info3
 go_enter Tryz.func79,Tryz.ntmps79
 go_wp2
 go_loopw [5,6,7] (fun bv uv av wr=>Two w w.heap.size s bv uv av wr) (fun _ _ av _=>s.size - (intOf av).toNat)
 case atStart=>exact HST.out
 case round =>
  clear HST
  obtain ⟨l,f,pos,g1,c1,g2,c2,rfl,rfl,rfl,hS,hA,h1,h2,hne,hb⟩:=hrel
  obtain ⟨m,hm⟩:∃ m,l.length=m:=⟨_,rfl⟩
  rw [hm] at h1 h2 ⊢
  have HS:=hid hS
  have HA:=hid hA
  have hpos:pos≤s.size:=hS.2.2.2
  have hlen:m≤1048576:=by
   have h3:=itemsF_wide s s.size 0
   have h4:=hS.1
   have h5:=hS.2.1
   have hW:Wide l:=fun y hy=>h3 y (by show y∈items s;rw [h4];simp [hy])
   have:=length_le l hW
   omega
  have hsu:sumU l≤2097152:=by
   have h3:=itemsF_wide s s.size 0
   have h4:=hS.1
   have h5:=hS.2.1
   have hW:Wide l:=fun y hy=>h3 y (by show y∈items s;rw [h4];simp [hy])
   have:=sumU_le l hW
   omega
  have hlast:=last_cell (w:=wr) hm h2
  have HM:=hid hm
  clear hS hA hm
  by_cases hp:pos<s.size
  ·by_cases hbad:(Utf8.decode s pos).1=65533∧(Utf8.decode s pos).2=1
   ·have hsc:scal (s.extract pos s.size)=(0,0):=by rw [scal_at,if_pos hbad]
    have cS:=scalar_is (s.extract pos s.size) wr 0 0 (by rw [ext_size];omega) (by rw [ext_size];omega) hsc
    have hok:Hid (okB s=false):=hid (by
     obtain ⟨k,rfl⟩:∃ k,f=k+1:=⟨f - 1,by have:=HS.out.2.2.1;omega⟩
     rw [← HA.out];exact okL_bad s k pos hp hbad)
    clear hbad hsc
    go_wp2_with (go_at_call 106;refine cS.mono ?_;rintro e w1 ⟨rfl,rfl⟩)
    go_ret3
    exact places_bad hok.out hb
   ·obtain ⟨d,hd⟩:∃ d,Utf8.decode s pos=d:=⟨_,rfl⟩
    have hsc:scal (s.extract pos s.size)=(d.1,d.2):=by rw [scal_at,if_neg hbad,hd]
    have hw1:=width_pos s pos hp
    have hw2:=width_le s pos hp
    have hr:=rune_le s pos
    have HG:=hid hbad
    have HD:=hid hd
    rw [hd] at hw1 hw2 hr
    obtain ⟨r,wd⟩:=d
    simp only at hw1 hw2 hr hsc
    have cS:=scalar_is (s.extract pos s.size) wr r wd (by rw [ext_size];omega) (by rw [ext_size];omega) hsc
    obtain ⟨S,hSe⟩:∃ S,sumU l=S:=⟨_,rfl⟩
    have HSe:=hid hSe
    rw [hSe] at hlast hsu
    clear hbad hsc hd hSe
    clear hlast
    have hn0:((wd:Int)==0)=false:=by simp;omega
    by_cases h65:65536≤r
    ·have h65z:(65536:Int)≤(r:Int):=by omega
     have hu:Hid (uw (Utf8.decode s pos).1=2):=hid (by rw [HD.out];unfold uw;rw [if_pos (by simp only;omega)])
     go_wp2_with (first
      | (go_at_call 106;refine cS.mono ?_;rintro e w1 ⟨rfl,rfl⟩)
      | (at_builtin;refine wpList_append_own_at _ rfl (.tmp 31) (.tmp 33) 113 rfl w.heap.size 3 i0 (.int .i64 0) 1 8 Tryz.underlying113 hi hz0 hz1 hz2 rfl (by decide) _ _ _ rfl (h1.alloc _) ⟨wr.heap.size,0,none⟩ 1 1 [.int .i64 ((pos:Int)+(wd:Int))] rfl rfl (cell_one_new _ _ _) (by intro u hu;simp at hu;subst hu;rfl) (by unfold maxLen;omega) (by omega) (by have:=hb.size;simp;omega) ?_;intro v1 w1 hv1 hg1 _ hat1;have hk:=keep_units h2 hne hg1;have hlast1:=last_cell HM.out hk;rw [HSe.out] at hlast1)
      | (at_builtin;refine wpList_append_own_at _ rfl (.tmp 35) (.tmp 44) 113 rfl w.heap.size 3 i0 (.int .i64 0) 1 8 Tryz.underlying113 hi hz0 hz1 hz2 rfl (by decide) _ _ _ rfl (hk.alloc _) ⟨w1.heap.size,0,none⟩ 1 1 [.int .i64 ((S:Int)+2)] rfl rfl (cell_one_new _ _ _) (by intro u hu;simp at hu;subst hu;rfl) (by unfold maxLen;omega) (by omega) (by have:=hb.size;have:=hg1.size;simp at this ⊢;omega) ?_;intro v2 w2 hv2 hg2 _ hat2))
     go_roundw
     case rel=>exact two_step HS.out HA.out HM.out hp HG.out hu.out (by rw [HD.out];omega) (by rw [HSe.out];omega) h1 h2 hne hb hv1 hg1 hat1 hv2 hg2 hat2
     case measure=>simp [intOf];omega
    ·have h65z:decide ((65536:Int)≤(r:Int))=false:=decide_eq_false (by omega)
     have hu:Hid (uw (Utf8.decode s pos).1=1):=hid (by rw [HD.out];unfold uw;rw [if_neg (by simp only;omega)])
     clear h65
     go_wp2_with (first
      | (go_at_call 106;refine cS.mono ?_;rintro e w1 ⟨rfl,rfl⟩)
      | (at_builtin;refine wpList_append_own_at _ rfl (.tmp 31) (.tmp 33) 113 rfl w.heap.size 3 i0 (.int .i64 0) 1 8 Tryz.underlying113 hi hz0 hz1 hz2 rfl (by decide) _ _ _ rfl (h1.alloc _) ⟨wr.heap.size,0,none⟩ 1 1 [.int .i64 ((pos:Int)+(wd:Int))] rfl rfl (cell_one_new _ _ _) (by intro u hu;simp at hu;subst hu;rfl) (by unfold maxLen;omega) (by omega) (by have:=hb.size;simp;omega) ?_;intro v1 w1 hv1 hg1 _ hat1;have hk:=keep_units h2 hne hg1;have hlast1:=last_cell HM.out hk;rw [HSe.out] at hlast1)
      | (at_builtin;refine wpList_append_own_at _ rfl (.tmp 35) (.tmp 44) 113 rfl w.heap.size 3 i0 (.int .i64 0) 1 8 Tryz.underlying113 hi hz0 hz1 hz2 rfl (by decide) _ _ _ rfl (hk.alloc _) ⟨w1.heap.size,0,none⟩ 1 1 [.int .i64 ((S:Int)+1)] rfl rfl (cell_one_new _ _ _) (by intro u hu;simp at hu;subst hu;rfl) (by unfold maxLen;omega) (by omega) (by have:=hb.size;have:=hg1.size;simp at this ⊢;omega) ?_;intro v2 w2 hv2 hg2 _ hat2))
     go_roundw
     case rel=>exact two_step HS.out HA.out HM.out hp HG.out hu.out (by rw [HD.out];omega) (by rw [HSe.out];omega) h1 h2 hne hb hv1 hg1 hat1 hv2 hg2 hat2
     case measure=>simp [intOf];omega
  ·have hok:Hid (okB s=true):=hid (by rw [← HA.out];exact okL_done s f pos hp)
   go_wp2
   go_ret3
   rw [← HM.out] at h1 h2 ⊢
   exact places_fin hok.out (split_done HS.out hp) h1 h2 hb
end Go.Proofs.YtojoahlpgmnbnaaGreatDoor.U
namespace Go.Proofs.YtojoahlpgmnbnaaGreatDoor.U
open Go.RowKit
open Go.Lib hiding intOf
theorem ref_right_big (s:ByteArray) (w:World) (hs:s.size≤1048576) :
  Calls Tryz.prog 55 #[.string s] w fun e w'=>e=.returned (.bool (okB s))∧Below w.heap.size w w':=by
 have cP:=places_any s w hs
 unfold PlacesPost at cP
 cases hok:okB s
 ·rw [hok] at cP
  simp only [Bool.false_eq_true,if_false] at cP
  go_enter Tryz.func55,Tryz.ntmps55
  go_wp2_with (go_at_call 79;refine cP.mono ?_;rintro e w1 ⟨rfl,hb⟩)
  go_ret
  exact ⟨rfl,hb⟩
 ·rw [hok] at cP
  simp only [if_true] at cP
  go_enter Tryz.func55,Tryz.ntmps55
  go_wp2_with (go_at_call 79;refine cP.mono ?_;rintro e w1 ⟨g1,k1,g2,k2,rfl,_,_,hb,_,_⟩)
  go_ret
  exact ⟨rfl,hb⟩
theorem ref_right (s:ByteArray) (w:World) (hs:s.size≤1000000) :
  Calls Tryz.prog 55 #[.string s] w fun e w'=>e=.returned (.bool (okB s))∧Below w.heap.size w w':=ref_right_big s w (by omega)
end Go.Proofs.YtojoahlpgmnbnaaGreatDoor.U
namespace Go.Proofs.YtojoahlpgmnbnaaGreatDoor.S
open Go.RowKit
open Go.Lib hiding intOf
open U L
def OtherR (s:ByteArray) (n:Nat):Prop:=(two s.toList=true∧n=2)∨(two s.toList=false∧OtherP s n)
set_option maxHeartbeats 4000000 in
set_option maxRecDepth 20000 in
theorem other_loop (s:ByteArray) (w:World) (hs:s.size≤1000000) (ht:two s.toList=false) (h0:0<s.size) :
  Calls Tryz.prog 84 #[.string s] w fun e w'=>∃ n:Nat,e=.returned (.int .i64 n)∧OtherP s n∧Below w.heap.size w w':=by
 have CR:=hid (fun (n:Nat) (hn:n≤s.size) W=>ref_right (s.extract 0 n) W (by rw [size_extract s 0 n (by omega) hn];omega))
 have HB0:=hid (Below.refl w.heap.size w)
 have hor:(∃ _:2≤s.size,((s.extract 0 2).toList==[58,61])=false∧((s.extract 0 2).toList==[61,61])=false∧((s.extract 0 2).toList==[33,61])=false∧((s.extract 0 2).toList==[60,61])=false∧((s.extract 0 2).toList==[62,61])=false∧((s.extract 0 2).toList==[38,38])=false∧((s.extract 0 2).toList==[124,124])=false)∨s.size<2:=by
  by_cases h2:2≤s.size
  ·left
   obtain ⟨t,h1,h3⟩:=two_or s h2
   rw [ht] at h3
   simp only [Bool.false_eq,Bool.or_eq_false_iff] at h3
   obtain ⟨⟨⟨⟨⟨⟨t1,t2⟩,t3⟩,t4⟩,t5⟩,t6⟩,t7⟩:=h3
   rw [h1]
   exact ⟨h2,t1,t2,t3,t4,t5,t6,t7⟩
  ·exact .inr (by omega)
 clear ht
 rcases hor with ⟨h2,t1,t2,t3,t4,t5,t6,t7⟩|h2
 ·have hd:decide ((2:Int)≤(s.size:Int))=true:=by simp;omega
  go_enter Tryz.func84,Tryz.ntmps84
  go_wp2_with fail
  clear t1 t2 t3 t4 t5 t6 t7
  go_loopw [3] (fun iv wr=>∃ i:Nat,iv=.int .i64 i∧1≤i∧i≤5∧i≤s.size+1∧Hid (∀ j,1≤j→j<i→okB (s.extract 0 j)=false)∧Hid (Below w.heap.size w wr)) (fun iv _=>5 - (intOf iv).toNat)
  case atStart=>exact ⟨1,rfl,Nat.le_refl _,by omega,by omega,hid (fun j h1 h2=>by omega),HB0⟩
  case round =>
   obtain ⟨i,rfl,h1,h5,hi,HJ,HL⟩:=hrel
   clear HB0
   by_cases h4:i≤4
   ·by_cases hsz:i≤s.size
    ·have e1:decide ((i:Int)≤4)=true:=by simp;omega
     have e2:decide ((i:Int)≤(s.size:Int))=true:=by simp;omega
     have c1:=CR.out i hsz wr
     obtain ⟨b,hb⟩:∃ b,okB (s.extract 0 i)=b:=⟨_,rfl⟩
     rw [hb] at c1
     have HOK:=hid hb
     clear hb
     go_wp2_with fail
     refine c1.mono ?_
     rintro e w2 ⟨rfl,hb2⟩
     have HL2:=hid (HL.out.trans (hb2.mono HL.out.size))
     clear c1 hb2
     cases b
     ·go_wp2_with fail
      go_roundw
      case rel=>exact ⟨i+1,by go_num,by omega,by omega,by omega,hid (fun j h1 h2=>by
       by_cases e:j<i
       ·exact HJ.out j h1 e
       ·rw [show j=i by omega];exact HOK.out),HL2⟩
      case measure=>simp [intOf];omega
     ·go_wp2_with fail
      go_ret
      exact ⟨i,rfl,.inl ⟨h1,hsz,HOK.out,HJ.out⟩,HL2.out⟩
    ·have e1:decide ((i:Int)≤4)=true:=by simp;omega
     have e2:decide (i≤s.size)=false:=by simpa using hsz
     have e3:decide ((i:Int)≤(s.size:Int))=false:=by simp;omega
     go_wp2_with fail
     go_ret
     exact ⟨1,rfl,.inr ⟨rfl,fun j g1 g2 g3=>HJ.out j g1 (by omega)⟩,HL.out⟩
   ·have e1:decide ((i:Int)≤4)=false:=by simp;omega
    go_wp2_with fail
    go_ret
    exact ⟨1,rfl,.inr ⟨rfl,fun j g1 g2 g3=>HJ.out j g1 (by omega)⟩,HL.out⟩
 ·have hd:decide ((2:Int)≤(s.size:Int))=false:=by simp;omega
  go_enter Tryz.func84,Tryz.ntmps84
  go_wp2_with fail
  go_loopw [3] (fun iv wr=>∃ i:Nat,iv=.int .i64 i∧1≤i∧i≤5∧i≤s.size+1∧Hid (∀ j,1≤j→j<i→okB (s.extract 0 j)=false)∧Hid (Below w.heap.size w wr)) (fun iv _=>5 - (intOf iv).toNat)
  case atStart=>exact ⟨1,rfl,Nat.le_refl _,by omega,by omega,hid (fun j h1 h2=>by omega),HB0⟩
  case round =>
   obtain ⟨i,rfl,h1,h5,hi,HJ,HL⟩:=hrel
   clear HB0
   by_cases h4:i≤4
   ·by_cases hsz:i≤s.size
    ·have e1:decide ((i:Int)≤4)=true:=by simp;omega
     have e2:decide ((i:Int)≤(s.size:Int))=true:=by simp;omega
     have c1:=CR.out i hsz wr
     obtain ⟨b,hb⟩:∃ b,okB (s.extract 0 i)=b:=⟨_,rfl⟩
     rw [hb] at c1
     have HOK:=hid hb
     clear hb
     go_wp2_with fail
     refine c1.mono ?_
     rintro e w2 ⟨rfl,hb2⟩
     have HL2:=hid (HL.out.trans (hb2.mono HL.out.size))
     clear c1 hb2
     cases b
     ·go_wp2_with fail
      go_roundw
      case rel=>exact ⟨i+1,by go_num,by omega,by omega,by omega,hid (fun j h1 h2=>by
       by_cases e:j<i
       ·exact HJ.out j h1 e
       ·rw [show j=i by omega];exact HOK.out),HL2⟩
      case measure=>simp [intOf];omega
     ·go_wp2_with fail
      go_ret
      exact ⟨i,rfl,.inl ⟨h1,hsz,HOK.out,HJ.out⟩,HL2.out⟩
    ·have e1:decide ((i:Int)≤4)=true:=by simp;omega
     have e2:decide (i≤s.size)=false:=by simpa using hsz
     have e3:decide ((i:Int)≤(s.size:Int))=false:=by simp;omega
     go_wp2_with fail
     go_ret
     exact ⟨1,rfl,.inr ⟨rfl,fun j g1 g2 g3=>HJ.out j g1 (by omega)⟩,HL.out⟩
   ·have e1:decide ((i:Int)≤4)=false:=by simp;omega
    go_wp2_with fail
    go_ret
    exact ⟨1,rfl,.inr ⟨rfl,fun j g1 g2 g3=>HJ.out j g1 (by omega)⟩,HL.out⟩
set_option maxHeartbeats 4000000 in
set_option maxRecDepth 20000 in
theorem other_two (s:ByteArray) (w:World) (ht:two s.toList=true) :
  Calls Tryz.prog 84 #[.string s] w fun e w'=>e=.returned (.int .i64 2)∧w=w':=by
 have h2:2≤s.size:=by have:=two_len ht;rwa [tl_len] at this
 obtain ⟨t,h1,h3⟩:=two_or s h2
 rw [ht,← h1] at h3
 clear h1 ht
 have hd:decide ((2:Int)≤(s.size:Int))=true:=by simp;omega
 cases e0:((s.extract 0 2).toList==[58,61])
 rotate_left
 ·clear h3
  go_enter Tryz.func84,Tryz.ntmps84
  go_wp2_with fail
  go_ret
  exact ⟨rfl,rfl⟩
 ·rw [e0] at h3
  cases e1:((s.extract 0 2).toList==[61,61])
  rotate_left
  ·clear h3
   go_enter Tryz.func84,Tryz.ntmps84
   go_wp2_with fail
   go_ret
   exact ⟨rfl,rfl⟩
  ·rw [e1] at h3
   cases e2:((s.extract 0 2).toList==[33,61])
   rotate_left
   ·clear h3
    go_enter Tryz.func84,Tryz.ntmps84
    go_wp2_with fail
    go_ret
    exact ⟨rfl,rfl⟩
   ·rw [e2] at h3
    cases e3:((s.extract 0 2).toList==[60,61])
    rotate_left
    ·clear h3
     go_enter Tryz.func84,Tryz.ntmps84
     go_wp2_with fail
     go_ret
     exact ⟨rfl,rfl⟩
    ·rw [e3] at h3
     cases e4:((s.extract 0 2).toList==[62,61])
     rotate_left
     ·clear h3
      go_enter Tryz.func84,Tryz.ntmps84
      go_wp2_with fail
      go_ret
      exact ⟨rfl,rfl⟩
     ·rw [e4] at h3
      cases e5:((s.extract 0 2).toList==[38,38])
      rotate_left
      ·clear h3
       go_enter Tryz.func84,Tryz.ntmps84
       go_wp2_with fail
       go_ret
       exact ⟨rfl,rfl⟩
      ·rw [e5] at h3
       cases e6:((s.extract 0 2).toList==[124,124])
       rotate_left
       ·clear h3
        go_enter Tryz.func84,Tryz.ntmps84
        go_wp2_with fail
        go_ret
        exact ⟨rfl,rfl⟩
       ·rw [e6] at h3
        simp at h3
theorem other_any (s:ByteArray) (w:World) (hs:s.size≤1000000) (h0:0<s.size) :
  Calls Tryz.prog 84 #[.string s] w fun e w'=>∃ n:Nat,e=.returned (.int .i64 n)∧OtherR s n∧Below w.heap.size w w':=by
 cases ht:two s.toList
 ·refine (other_loop s w hs ht h0).mono ?_
  rintro e w' ⟨n,h1,h2,h3⟩
  exact ⟨n,h1,.inr ⟨ht,h2⟩,h3⟩
 ·refine (other_two s w ht).mono ?_
  rintro e w' ⟨h1,rfl⟩
  exact ⟨2,h1,.inl ⟨ht,rfl⟩,Below.refl _ _⟩
end Go.Proofs.YtojoahlpgmnbnaaGreatDoor.S
namespace Go.Proofs.YtojoahlpgmnbnaaGreatDoor.S
open Go.RowKit
open Go.Lib hiding intOf
open U L
theorem two_low {s:ByteArray} (h0:0<s.size) (h:two s.toList=true):s[0].toNat<128:=by
 have hl:=tl_drop s h0
 rw [List.drop_zero] at hl
 rw [hl] at h
 generalize s[0]=z at h ⊢
 match s.toList.drop (0+1),h with
 | b :: u,h =>
  simp [two] at h
  rcases h with (((((⟨h,_⟩|⟨h,_⟩)|⟨h,_⟩)|⟨h,_⟩)|⟨h,_⟩)|⟨h,_⟩)|⟨h,_⟩ <;> (rw [h];decide)
set_option maxHeartbeats 8000000 in
set_option maxRecDepth 20000 in
theorem word_any (s:ByteArray) (right:Bool) (w:World) (hs:s.size≤1000000) (h0:0<s.size) (hr:right=true→okB s=true) :
  Calls Tryz.prog 58 #[.string s,.bool right] w fun e w'=>e=.returned (.tuple #[.int .i64 (wordL right s.toList).1,.int .i64 ((wordL right s.toList).2:Nat)])∧Below w.heap.size w w':=by
 have cN:=name_any s w (by omega)
 have cM:=number_any s w (by omega)
 have cQ:=quote_any s w (by omega) h0
 have cO:=other_any s w hs h0
 have hnl:=name_le s.toList
 rw [tl_len] at hnl
 have hl:=tl_drop s h0
 rw [List.drop_zero] at hl
 obtain ⟨R,hR⟩:∃ R,wordL right s.toList=R:=⟨_,rfl⟩
 rw [hR]
 unfold wordL at hR
 by_cases h1:0<nameLen s.toList
 ·rw [if_pos h1,← ext_take] at hR
  obtain ⟨n,hn⟩:∃ n,nameLen s.toList=n:=⟨_,rfl⟩
  rw [hn] at cN hnl h1 hR
  have cK:=key_any (s.extract 0 n) w
  obtain ⟨b,hb⟩:∃ b,keyB (s.extract 0 n).toList=b:=⟨_,rfl⟩
  rw [hb] at cK hR
  subst hR
  clear cM cQ cO hl hn hb hr
  go_enter Tryz.func58,Tryz.ntmps58
  go_wp2_with fail
  refine cN.mono ?_
  rintro e w1 ⟨rfl,rfl⟩
  go_wp2_with fail
  refine cK.mono ?_
  rintro e w2 ⟨rfl,rfl⟩
  cases b
  ·go_wp2_with fail
   go_ret2
   exact ⟨rfl,Below.refl _ _⟩
  ·go_wp2_with fail
   go_ret2
   exact ⟨rfl,Below.refl _ _⟩
 ·rw [if_neg h1] at hR
  have hn:nameLen s.toList=0:=by omega
  rw [hn] at cN
  clear h1 hn hnl
  by_cases h2:0<numLen s.toList
  ·rw [if_pos h2] at hR
   obtain ⟨n,hn⟩:∃ n,numLen s.toList=n:=⟨_,rfl⟩
   rw [hn] at cM h2 hR
   subst hR
   clear cQ cO hl hn hr
   go_enter Tryz.func58,Tryz.ntmps58
   go_wp2_with fail
   refine cN.mono ?_
   rintro e w1 ⟨rfl,rfl⟩
   go_wp2_with fail
   refine cM.mono ?_
   rintro e w2 ⟨rfl,rfl⟩
   go_wp2_with fail
   go_ret2
   exact ⟨rfl,Below.refl _ _⟩
  ·rw [if_neg h2] at hR
   have hn:numLen s.toList=0:=by omega
   rw [hn] at cM
   clear h2 hn
   by_cases h3:0<quoLen s.toList
   ·rw [if_pos h3] at hR
    obtain ⟨n,hn⟩:∃ n,quoLen s.toList=n:=⟨_,rfl⟩
    rw [hn] at cQ h3 hR
    subst hR
    clear cO hl hn hr
    go_enter Tryz.func58,Tryz.ntmps58
    go_wp2_with fail
    refine cN.mono ?_
    rintro e w1 ⟨rfl,rfl⟩
    go_wp2_with fail
    refine cM.mono ?_
    rintro e w2 ⟨rfl,rfl⟩
    go_wp2_with fail
    refine cQ.mono ?_
    rintro e w3 ⟨rfl,rfl⟩
    go_wp2_with fail
    go_ret2
    exact ⟨rfl,Below.refl _ _⟩
   ·rw [if_neg h3,hl] at hR
    have hn:quoLen s.toList=0:=by omega
    rw [hn] at cQ
    clear h3 hn
    have htl:=@two_low s h0
    have hlow:=fun (n:Nat) (h:OtherP s n)=>h.low h0
    obtain ⟨z,hz⟩:∃ z,s[0]=z:=⟨_,rfl⟩
    have e59:=u8_eq z 59
    rw [hz] at hR htl hlow hl
    simp only [List.head?_cons,Option.some.injEq] at hR
    by_cases h4:z=59
    ·rw [if_pos h4] at hR
     rw [decide_eq_true h4] at e59
     replace e59:((z.toNat:Int)==59)=true:=e59
     subst hR
     clear cO hl hr h4 htl hlow
     go_enter Tryz.func58,Tryz.ntmps58
     go_wp2_with fail
     refine cN.mono ?_
     rintro e w1 ⟨rfl,rfl⟩
     go_wp2_with fail
     refine cM.mono ?_
     rintro e w2 ⟨rfl,rfl⟩
     go_wp2_with fail
     refine cQ.mono ?_
     rintro e w3 ⟨rfl,rfl⟩
     go_wp2_with fail
     go_ret2
     exact ⟨rfl,Below.refl _ _⟩
    ·rw [if_neg h4] at hR
     rw [decide_eq_false h4] at e59
     replace e59:((z.toNat:Int)==59)=false:=e59
     have hml:∀ n,OtherR s n→(right=true∧markLen right s.toList=n)∨(right=false∧markLen right s.toList=n∧(n=1∨z.toNat<128))∨(right=false∧markLen right s.toList=1∧1<n∧128≤z.toNat):=by
      intro n hn
      rcases hn with ⟨ht,rfl⟩|⟨ht,hp⟩
      ·have hm:markLen right s.toList=2:=by unfold markLen;rw [if_pos ht]
       cases right
       ·exact .inr (.inl ⟨rfl,hm,.inr (htl ht)⟩)
       ·exact .inl ⟨rfl,hm⟩
      ·have hm:markLen right s.toList=if right=true then wid s.toList else 1:=by unfold markLen;rw [if_neg (by rw [ht];simp)]
       cases right
       ·right
        have hm1:markLen false s.toList=1:=by rw [hm];rfl
        have hn1:1≤n:=by rcases hp with ⟨h,_⟩|⟨h,_⟩ <;> omega
        by_cases hz:z.toNat<128
        ·exact .inl ⟨rfl,by rw [hm1,hlow n hp hz],.inr hz⟩
        ·by_cases h1:n=1
         ·exact .inl ⟨rfl,by rw [hm1,h1],.inl h1⟩
         ·exact .inr ⟨rfl,hm1,by omega,by omega⟩
       ·left
        exact ⟨rfl,by rw [hm,hp.right h0 (hr rfl)];rfl⟩
     have HML:=hid hml
     rw [← hl] at hR
     clear hl hr h4 htl hlow hml
     have HR:=hid hR
     clear hR
     go_enter Tryz.func58,Tryz.ntmps58
     go_wp2_with fail
     refine cN.mono ?_
     rintro e w1 ⟨rfl,rfl⟩
     go_wp2_with fail
     refine cM.mono ?_
     rintro e w2 ⟨rfl,rfl⟩
     go_wp2_with fail
     refine cQ.mono ?_
     rintro e w3 ⟨rfl,rfl⟩
     go_wp2_with fail
     refine cO.mono ?_
     rintro e w4 ⟨n,rfl,hn,hb4⟩
     rcases HML.out n hn with ⟨rfl,hm⟩|⟨rfl,hm,hor⟩|⟨rfl,hm,h1,h2⟩
     ·have HM:=hid hm
      clear hn hm
      go_wp2_with fail
      go_ret2
      exact ⟨by rw [← HR.out,HM.out];rfl,hb4⟩
     ·have HM:=hid hm
      clear hm
      rcases hor with rfl|hz
      ·clear hn
       go_wp2_with fail
       go_ret2
       exact ⟨by rw [← HR.out,HM.out];rfl,hb4⟩
      ·by_cases h1:1<n
       ·clear hn
        go_wp2_with fail
        go_ret2
        exact ⟨by rw [← HR.out,HM.out];rfl,hb4⟩
       ·clear hn
        go_wp2_with fail
        go_ret2
        exact ⟨by rw [← HR.out,HM.out];rfl,hb4⟩
     ·have HM:=hid hm
      clear hn hm
      go_wp2_with fail
      go_ret2
      exact ⟨by rw [← HR.out,HM.out];rfl,hb4⟩
end Go.Proofs.YtojoahlpgmnbnaaGreatDoor.S
namespace Go.Proofs.YtojoahlpgmnbnaaGreatDoor.Q
open Go.Lib Go.Proofs.YtojoahlpgmnbnaaGreatDoor.U Go.Proofs.YtojoahlpgmnbnaaGreatDoor.S
def shP (k:Nat) (p:PcP):PcP:=⟨k+p.f,k+p.e,p.d,p.j⟩
theorem beg_zero (v:By):beg v 0=declW v:=by unfold beg;simp
theorem beg_left (u v:By) {i:Nat} (h:i≤u.length):beg (u++10 :: v) i=beg u i:=by
 unfold beg
 rw [List.drop_append_of_le_length h,declW_stop]
 by_cases h0:i=0
 ·simp [h0]
 ·rw [List.getElem?_append_left (by omega)]
theorem beg_right (u v:By) (i:Nat):beg (u++10 :: v) (u.length+1+i)=beg v i:=by
 have hd:(u++10 :: v).drop (u.length+1+i)=v.drop i:=by
  rw [show u.length+1+i=u.length+(1+i) by omega,← List.drop_drop,List.drop_left,Nat.add_comm 1 i,List.drop_succ_cons]
 unfold beg
 rw [hd,List.getElem?_append_right (by omega),show u.length+1+i - 1 - u.length=i by omega]
 cases i with
 | zero=>simp
 | succ k=>simp
theorem cuts_left (u v:By):∀ (n a:Nat),a+n≤u.length+1→cuts (u++10 :: v) a n=cuts u a n
 | 0,_,_=>rfl
 | n+1,a,h=>by rw [cuts_succ,cuts_succ,beg_left u v (by omega),cuts_left u v n (a+1) (by omega)]
theorem cuts_right (u v:By):∀ (n a:Nat),cuts (u++10 :: v) (u.length+1+a) n=(cuts v a n).map (u.length+1+·)
 | 0,_=>rfl
 | n+1,a=>by
  rw [cuts_succ,cuts_succ,beg_right,Nat.add_assoc _ a 1,cuts_right u v n (a+1)]
  split <;> simp
theorem cut_bytes (u v w:By) {f e:Nat} (hf:f≤u.length) (he:e≤u.length+1):((u++10 :: v).drop f).take (e - f)=((u++10 :: w).drop f).take (e - f):=by
 have h:∀ z:By,((u++10 :: z).drop f).take (e - f)=((u++[10]).drop f).take (e - f):=fun z=>by
  rw [show u++10 :: z=(u++[10])++z by simp,List.drop_append_of_le_length (by simp;omega),List.take_append_of_le_length (by simp;omega)]
 rw [h v,h w]
theorem made_left (u v w:By) {f e:Nat} (hf:f≤u.length) (he:e≤u.length+1):made (u++10 :: v) f e=made (u++10 :: w) f e:=by
 unfold made
 rw [beg_left u v hf,beg_left u w hf,cut_bytes u v w hf he]
theorem made_right (u v:By) (f e:Nat):made (u++10 :: v) (u.length+1+f) (u.length+1+e)=shP (u.length+1) (made v f e):=by
 have hd:(u++10 :: v).drop (u.length+1+f)=v.drop f:=by
  rw [show u.length+1+f=u.length+(1+f) by omega,← List.drop_drop,List.drop_left,Nat.add_comm 1 f,List.drop_succ_cons]
 unfold made shP
 rw [beg_right,hd,show u.length+1+e - (u.length+1+f)=e - f by omega]
theorem heads_left (u v w:By):∀ (cs:List Nat) (f:Nat),f≤u.length→(∀ c∈cs,c≤u.length)→heads (u++10 :: v) f cs=heads (u++10 :: w) f cs
 | [],_,_,_=>rfl
 | c :: cs,f,hf,h=>by
  have hc:=h c (by simp)
  simp only [heads]
  rw [made_left u v w hf (by omega),heads_left u v w cs c hc (fun x hx=>h x (List.mem_cons_of_mem _ hx))]
theorem heads_right (u v:By):∀ (cs:List Nat) (f:Nat),heads (u++10 :: v) (u.length+1+f) (cs.map (u.length+1+·))=(heads v f cs).map (shP (u.length+1))
 | [],_=>rfl
 | c :: cs,f=>by simp only [List.map_cons,heads,made_right,heads_right u v cs c]
theorem lastD_map (k:Nat):∀ (cs:List Nat) (f:Nat),lastD (k+f) (cs.map (k+·))=k+lastD f cs
 | [],_=>rfl
 | c :: cs,f=>by simp only [List.map_cons,lastD,lastD_map k cs c]
theorem pieces_ahead (u v:By):∃ r,pieces (u++10 :: v)=heads (u++10 :: v) 0 (cuts u 1 u.length)++r∧1≤r.length:=by
 have hl:(u++10 :: v).length - 1=u.length+v.length:=by simp
 unfold pieces chain
 rw [hl,cuts_app,cuts_left u v _ _ (by omega),heads_app]
 exact ⟨_,List.append_assoc _ _ _,by simp⟩
theorem pieces_parts (u v:By) (hv:declW v=true):pieces (u++10 :: v)=heads (u++10 :: v) 0 (cuts u 1 u.length)++made (u++10 :: v) (lastD 0 (cuts u 1 u.length)) (u.length+1) :: (pieces v).map (shP (u.length+1)):=by
 have h1:=declW_pos hv
 obtain ⟨n,hn⟩:∃ n,v.length=n+1:=⟨v.length - 1,by omega⟩
 have hl:(u++10 :: v).length - 1=u.length+v.length:=by simp
 have hz:(u++10 :: v).length=u.length+1+v.length:=by simp;omega
 have hc:cuts (u++10 :: v) (1+u.length) v.length=(u.length+1) :: (cuts v 1 n).map (u.length+1+·):=by
  have:=cuts_right u v v.length 0
  rw [Nat.add_zero] at this
  rw [Nat.add_comm 1,this,hn,cuts_succ,beg_zero,if_pos hv]
  simp
 have e0:=heads_right u v (cuts v 1 n) 0
 have e1:=lastD_map (u.length+1) (cuts v 1 n) 0
 rw [Nat.add_zero] at e0 e1
 unfold pieces chain
 rw [hl,cuts_app,cuts_left u v _ _ (by omega),hc,heads_app,lastD_app]
 simp only [heads,lastD]
 rw [e0,e1,hz,made_right,show v.length - 1=n by omega]
 simp
theorem parts_len (u v:By) (hv:declW v=true):(pieces (u++10 :: v)).length=(cuts u 1 u.length).length+1+(pieces v).length:=by
 rw [pieces_parts u v hv];simp [heads_len];omega
theorem cut_at (s:By) {i:Nat} (hi:i<(cuts s 1 (s.length - 1)).length):∃ u v,s=u++10 :: v∧u.length+1=(cuts s 1 (s.length - 1))[i]∧declW v=true∧(cuts u 1 u.length).length=i:=by
 obtain ⟨K,hK⟩:∃ K,(cuts s 1 (s.length - 1))[i]=K:=⟨_,rfl⟩
 have hm:K∈cuts s 1 (s.length - 1):=by rw [← hK];exact List.getElem_mem hi
 obtain ⟨h1,h2,h3⟩:=cuts_mem hm
 have h10:s[K - 1]?=some 10:=by
  unfold beg at h3
  simp only [Bool.and_eq_true,Bool.or_eq_true,decide_eq_true_eq] at h3
  rcases h3.1 with h|h
  ·omega
  ·exact h
 have hlt:K - 1<s.length:=by omega
 have hs:s=s.take (K - 1)++10 :: s.drop K:=by
  have hd:=List.drop_eq_getElem_cons hlt
  rw [List.getElem?_eq_getElem hlt] at h10
  rw [Option.some.inj h10,show K - 1+1=K by omega] at hd
  rw [← hd,List.take_append_drop]
 have hul:(s.take (K - 1)).length=K - 1:=by rw [List.length_take];omega
 have hdv:declW (s.drop K)=true:=by
  unfold beg at h3
  simp only [Bool.and_eq_true] at h3
  exact h3.2
 refine ⟨s.take (K - 1),s.drop K,hs,by omega,hdv,?_⟩
 have hA:cuts (s.take (K - 1)) 1 (s.take (K - 1)).length=cuts s 1 (K - 1):=by
  have:=cuts_left (s.take (K - 1)) (s.drop K) (s.take (K - 1)).length 1 (by omega)
  rw [← hs,hul] at this
  rw [hul,this]
 rw [hA]
 have hL:cuts s 1 (s.length - 1)=cuts s 1 (K - 1)++K :: cuts s (K+1) (s.length - 1 - K):=by
  have h:=cuts_app s 1 (K - 1) (s.length - 1 - K+1)
  rw [show K - 1+(s.length - 1 - K+1)=s.length - 1 by omega,show 1+(K - 1)=K by omega,cuts_succ,if_pos h3] at h
  exact h
 have hj:(cuts s 1 (K - 1)).length<(cuts s 1 (s.length - 1)).length:=by rw [hL];simp
 have hKj:(cuts s 1 (s.length - 1))[(cuts s 1 (K - 1)).length]=K:=by
  have:(cuts s 1 (s.length - 1))[(cuts s 1 (K - 1)).length]?=some K:=by rw [hL];simp
  rw [List.getElem?_eq_getElem hj] at this
  exact Option.some.inj this
 have hp:=List.pairwise_iff_getElem.1 (cuts_up s 1 (s.length - 1))
 rcases Nat.lt_trichotomy (cuts s 1 (K - 1)).length i with h|h|h
 ·have:=hp _ _ hj hi h;omega
 ·exact h
 ·have:=hp _ _ hi hj h;omega
theorem fol_lt:∀ {l:List PcP} {a:Nat},Fol a l→∀ i j (hj:j<l.length) (hij:i<j),(l[i]'(by omega)).e≤l[j].f
 | [],_,_,_,_,hj,_=>by simp at hj
 | _ :: r,_,h,0,j+1,hj,_=>(fol_mem (l:=r) h.2.2 (r[j]'(by simpa using hj)) (List.getElem_mem _)).1
 | _ :: r,_,h,i+1,j+1,hj,hij=>by
  simp only [List.getElem_cons_succ]
  exact fol_lt (l:=r) h.2.2 i j (by simpa using hj) (by omega)
theorem fol_last:∀ {l:List PcP} (a:Nat),l≠[]→l.getLast?.map (fun p=>(p.e:Int))=some ((endE a l:Nat):Int)
 | [],_,h=>absurd rfl h
 | [p],a,_=>rfl
 | p :: q :: r,a,_=>by
  rw [List.getLast?_cons_cons]
  exact fol_last (l:=q :: r) p.e (by simp)
theorem fol_find:∀ {l:List PcP} {a:Nat} {x:Int},Fol a l→(a:Int)≤x→x<((endE a l:Nat):Int)→∃ p∈l,(p.f:Int)≤x∧x<(p.e:Int)
 | [],a,x,_,h1,h2=>by simp only [endE] at h2;omega
 | p :: r,a,x,h,h1,h2=>by
  by_cases hx:x<(p.e:Int)
  ·exact ⟨p,by simp,by rw [h.1];exact h1,hx⟩
  ·obtain ⟨q,hq,h3⟩:=fol_find (l:=r) h.2.2 (by omega) h2
   exact ⟨q,List.mem_cons_of_mem _ hq,h3⟩
def inP (x:Int) (p:PcP):Bool:=decide ((p.f:Int)≤x)&&decide (x<(p.e:Int))
def ofL (l:List PcP) (x:Int):Int:=match l.findIdx? (inP x) with
 | some i=>i
 | none=>if l.getLast?.map (fun p=>(p.e:Int))=some x then (l.length:Int) - 1 else -1
theorem ofL_hit {l:List PcP} {x:Int} {i:Nat} (hi:i<l.length) (h:inP x l[i]=true) (ha:∀ j (hj:j<l.length),j<i→inP x l[j]=false):ofL l x=i:=by
 unfold ofL
 rw [List.findIdx?_eq_some_iff_getElem.2 ⟨hi,h,fun j hj=>by simp [ha j (by omega) hj]⟩]
theorem ofL_miss {l:List PcP} {x:Int} (ha:∀ j (hj:j<l.length),inP x l[j]=false):ofL l x=if l.getLast?.map (fun p=>(p.e:Int))=some x then (l.length:Int) - 1 else -1:=by
 unfold ofL
 rw [List.findIdx?_eq_none_iff.2 (fun p hp=>by
  obtain ⟨j,hj,rfl⟩:=List.getElem_of_mem hp
  exact ha j hj)]
theorem of_in {l:List PcP} {x:Int} (h:Fol 0 l) (hl:l≠[]) (h0:0≤x) (h1:x≤((endE 0 l:Nat):Int)) :
  ∃ (j:Nat) (hj:j<l.length),ofL l x=j∧(l[j].f:Int)≤x∧(x<(l[j].e:Int)∨(j+1=l.length∧x=(l[j].e:Int))):=by
 by_cases hx:x<((endE 0 l:Nat):Int)
 ·obtain ⟨p,hp,h2,h3⟩:=fol_find h (by simpa using h0) hx
  cases hf:l.findIdx? (inP x) with
  | none =>
   have:=(List.findIdx?_eq_none_iff.1 hf) p hp
   simp [inP,h2,h3] at this
  | some j =>
   obtain ⟨hj,h4,_⟩:=List.findIdx?_eq_some_iff_getElem.1 hf
   simp only [inP,Bool.and_eq_true,decide_eq_true_eq] at h4
   exact ⟨j,hj,by unfold ofL;rw [hf],h4.1,.inl h4.2⟩
 ·have hx':x=((endE 0 l:Nat):Int):=by omega
  have hn:0<l.length:=List.length_pos_iff.2 hl
  have hm:∀ j (hj:j<l.length),inP x l[j]=false:=fun j hj=>by
   have:=(fol_mem h l[j] (List.getElem_mem hj)).2.2
   simp only [inP,Bool.and_eq_false_iff,decide_eq_false_iff_not]
   exact .inr (by omega)
  have hlast:=fol_last 0 hl
  have hm2:=hlast
  rw [List.getLast?_eq_getElem?,List.getElem?_eq_getElem (by omega)] at hm2
  simp only [Option.map_some,Option.some.injEq] at hm2
  have h5:=fol_mem h l[l.length - 1] (List.getElem_mem (by omega))
  refine ⟨l.length - 1,by omega,?_,by omega,.inr ⟨by omega,by omega⟩⟩
  rw [ofL_miss hm,hlast,hx',if_pos rfl]
  omega
theorem of_out {l:List PcP} {x:Int} (h:Fol 0 l) (h1:((endE 0 l:Nat):Int)<x∨l=[]):ofL l x=-1:=by
 rcases h1 with h1|rfl
 ·have hm:∀ j (hj:j<l.length),inP x l[j]=false:=fun j hj=>by
   have:=(fol_mem h l[j] (List.getElem_mem hj)).2.2
   simp only [inP,Bool.and_eq_false_iff,decide_eq_false_iff_not]
   exact .inr (by omega)
  rw [ofL_miss hm]
  by_cases hl:l=[]
  ·subst hl;rfl
  ·rw [fol_last 0 hl,if_neg (by intro e;have:=Option.some.inj e;omega)]
 ·rfl
def touchL (l:List PcP) (a b:Int):Int × Int:=if a<0∨b<a∨ofL l a<0∨ofL l b<0 then (0,0) else (max (ofL l a - 1) 0,ofL l b+1)
def touchR (l:List PcP) (a b:Int):Int × Int:=if l=[]∨a<0∨b<a∨(∃ e,l.getLast?.map (fun p=>(p.e:Int))=some e∧e<b) then (0,0) else (max (ofL l a - 1) 0,ofL l b+1)
theorem touch_same {l:List PcP} (h:Fol 0 l) (a b:Int):touchL l a b=touchR l a b:=by
 unfold touchL touchR
 by_cases hl:l=[]
 ·rw [if_pos (by rw [of_out (x:=a) h (.inr hl)];omega),if_pos (.inl hl)]
 ·rw [fol_last 0 hl]
  by_cases h1:a<0∨b<a
  ·rw [if_pos (by rcases h1 with h1|h1;exact .inl h1;exact .inr (.inl h1)),if_pos (by rcases h1 with h1|h1;exact .inr (.inl h1);exact .inr (.inr (.inl h1)))]
  ·by_cases h2:((endE 0 l:Nat):Int)<b
   ·rw [if_pos (by rw [of_out (x:=b) h (.inl h2)];omega),if_pos (.inr (.inr (.inr ⟨_,rfl,h2⟩)))]
   ·obtain ⟨i,hi,e1,_⟩:=of_in (x:=a) h hl (by omega) (by omega)
    obtain ⟨j,hj,e2,_⟩:=of_in (x:=b) h hl (by omega) (by omega)
    rw [if_neg (by rw [e1,e2];omega),if_neg]
    rintro (h3|h3|h3|⟨e,h3,h4⟩)
    ·exact hl h3
    ·omega
    ·omega
    ·have:=Option.some.inj h3;omega
theorem pieces_ne (s:By):pieces s≠[]:=by unfold pieces chain;simp
theorem heads_get (s:By) (e:Nat):∀ (cs:List Nat) (f i:Nat) (h:i<cs.length),((chain s e f cs)[i+1]?).map (·.f)=some cs[i]
 | [],_,_,h=>by simp at h
 | c :: cs,f,0,_=>by
  cases cs with
  | nil=>simp [chain,heads,lastD,made]
  | cons d ds=>simp [chain,heads,made]
 | c :: cs,f,i+1,h=>by
  have:=heads_get s e cs c i (by simpa using h)
  have e0:chain s e f (c :: cs)=made s f c :: chain s e c cs:=rfl
  rw [e0,List.getElem?_cons_succ,this]
  simp
end Go.Proofs.YtojoahlpgmnbnaaGreatDoor.Q
namespace Go.Proofs.YtojoahlpgmnbnaaGreatDoor.Q
open Go.Lib Go.Proofs.YtojoahlpgmnbnaaGreatDoor.U Go.Proofs.YtojoahlpgmnbnaaGreatDoor.S
def Moved (k:Int) (p p':PcP):Prop:=(p'.f:Int)=p.f+k∧(p'.e:Int)=p.e+k∧p'.d=p.d∧p'.j=p.j
theorem cut_take (u v:By) {p:Nat} (h:u.length+1≤p):(u++10 :: v).take p=u++10 :: v.take (p - (u.length+1)):=by
 rw [List.take_append,List.take_of_length_le (by omega)]
 obtain ⟨k,hk⟩:∃ k,p - u.length=k+1:=⟨p - u.length - 1,by omega⟩
 rw [hk,List.take_succ_cons,show p - (u.length+1)=k by omega]
theorem piece_cut (s:By) {i:Nat} (hi:i+1<(pieces s).length):∃ u v,s=u++10 :: v∧u.length+1=((pieces s)[i+1]).f∧declW v=true∧(cuts u 1 u.length).length=i:=by
 have hl:i<(cuts s 1 (s.length - 1)).length:=by unfold pieces at hi;rw [chain_len] at hi;omega
 obtain ⟨u,v,h1,h2,h3,h4⟩:=cut_at s hl
 have:=heads_get s s.length (cuts s 1 (s.length - 1)) 0 i hl
 have h5:(pieces s)[i+1]?=some (pieces s)[i+1]:=List.getElem?_eq_getElem hi
 unfold pieces at h5
 rw [h5] at this
 exact ⟨u,v,h1,by rw [h2];exact (Option.some.inj this).symm,h3,h4⟩
theorem edits_plain (s t:By) (p q:Nat) (hpq:p≤q) (hq:q≤s.length) :
  ∃ a b:Nat,touchL (pieces s) p q=((a:Int),(b:Int))∧a<b∧b≤(pieces s).length∧a+(pieces s).length≤(pieces (s.take p++t++s.drop q)).length+b ∧
   (∀ i,i<a→(pieces s)[i]?=(pieces (s.take p++t++s.drop q))[i]?) ∧
   ∀ i (hi:i<(pieces s).length),b≤i→∃ (k:Nat) (hk:k<(pieces (s.take p++t++s.drop q)).length),k+(pieces s).length=(pieces (s.take p++t++s.drop q)).length+i ∧
    Moved ((t.length:Int) - ((q:Int) - p)) (pieces s)[i] (pieces (s.take p++t++s.drop q))[k]:=by
 obtain ⟨hF,hE⟩:=fol_pieces s
 obtain ⟨j,hj,ej,j1,j2⟩:=of_in (x:=(p:Int)) hF (pieces_ne s) (by omega) (by rw [hE];omega)
 obtain ⟨m,hm,em,m1,m2⟩:=of_in (x:=(q:Int)) hF (pieces_ne s) (by omega) (by rw [hE];omega)
 have hjm:j≤m:=by
  by_cases h:j≤m
  ·exact h
  ·have:=fol_lt hF m j hj (by omega)
   omega
 have ht:touchL (pieces s) p q=(((j - 1:Nat):Int),((m+1:Nat):Int)):=by
  unfold touchL
  rw [ej,em,if_neg (by omega)]
  congr 1
  omega
 obtain ⟨s',hs'⟩:∃ s',s.take p++t++s.drop q=s':=⟨_,rfl⟩
 have hA:∃ X r r',(pieces s)=X++r∧pieces s'=X++r'∧X.length=j - 1∧(2≤j→∃ u1 w,s'=u1++10 :: w∧u1.length+1≤p∧(cuts u1 1 u1.length).length=j - 1):=by
  by_cases h2:2≤j
  ·obtain ⟨i,rfl⟩:∃ i,j=i+1:=⟨j - 1,by omega⟩
   obtain ⟨u,v,h3,h4,h5,h6⟩:=piece_cut s hj
   have hup:u.length+1≤p:=by rw [h4];omega
   have h7:s'=u++10 :: (v.take (p - (u.length+1))++t++s.drop q):=by
    rw [← hs']
    conv=>lhs;rw [h3]
    rw [cut_take u v hup,← h3]
    simp
   obtain ⟨r,e1,_⟩:=pieces_ahead u v
   obtain ⟨r',e2,_⟩:=pieces_ahead u (v.take (p - (u.length+1))++t++s.drop q)
   rw [← h3] at e1
   rw [← h7] at e2
   have e3:=heads_left u v (v.take (p - (u.length+1))++t++s.drop q) (cuts u 1 u.length) 0 (Nat.zero_le _) (fun c hc=>by have:=cuts_mem hc;omega)
   rw [← h3,← h7] at e3
   refine ⟨_,r,r',e1,by rw [e2,e3],by rw [heads_len,h6];omega,fun _=>⟨u,_,h7,hup,by rw [h6];omega⟩⟩
  ·exact ⟨[],_,_,rfl,rfl,by simp;omega,fun h=>absurd h h2⟩
 obtain ⟨X,r,r',x1,x2,x3,x4⟩:=hA
 have hya:j - 1≤(pieces s').length:=by rw [x2,List.length_append,x3];omega
 refine ⟨j - 1,m+1,ht,by omega,by omega,?_⟩
 have hahead:∀ i,i<j - 1→(pieces s)[i]?=(pieces s')[i]?:=fun i hi=>by
  rw [x1,x2,List.getElem?_append_left (by omega),List.getElem?_append_left (by omega)]
 rw [hs']
 by_cases hlast:m+1=(pieces s).length
 ·exact ⟨by omega,hahead,fun i hi hb=>by omega⟩
 ·have hm1:m+1<(pieces s).length:=by omega
  obtain ⟨u,v,h3,h4,h5,h6⟩:=piece_cut s hm1
  have hqu:q≤u.length:=by
   have:=fol_lt hF m (m+1) hm1 (by omega)
   omega
  obtain ⟨u',hu'⟩:∃ u',s.take p++t++u.drop q=u':=⟨_,rfl⟩
  have h7:s'=u'++10 :: v:=by
   rw [← hs',← hu']
   conv=>lhs;rw [h3]
   rw [List.drop_append_of_le_length hqu,← h3]
   simp
  have hul:u'.length=p+t.length+(u.length - q):=by
   rw [← hu']
   simp only [List.length_append,List.length_take,List.length_drop]
   omega
  have e1:=pieces_parts u v h5
  have e2:=pieces_parts u' v h5
  have l1:=parts_len u v h5
  have l2:=parts_len u' v h5
  rw [← h3] at e1 l1
  rw [← h7] at e2 l2
  rw [h6] at l1
  have hcu:j - 1≤(cuts u' 1 u'.length).length:=by
   by_cases h2:2≤j
   ·obtain ⟨u1,w,w1,w2,w3⟩:=x4 h2
    have c1:=cuts_left u' v u'.length 1 (by omega)
    rw [← h7,show u'.length=u1.length+(u'.length - u1.length) by omega,cuts_app,w1,cuts_left u1 w u1.length 1 (by omega),← w1,show u1.length+(u'.length - u1.length)=u'.length by omega] at c1
    rw [← c1,List.length_append,w3];omega
   ·omega
  refine ⟨by omega,hahead,fun i hi hb=>?_⟩
  obtain ⟨n,hn⟩:∃ n,i=m+1+n:=⟨i - (m+1),by omega⟩
  subst hn
  have hnv:n<(pieces v).length:=by omega
  have g1:(pieces s)[m+1+n]?=some (shP (u.length+1) (pieces v)[n]):=by
   rw [e1,List.getElem?_append_right (by rw [heads_len,h6];omega),heads_len,h6,show m+1+n - m=n+1 by omega,List.getElem?_cons_succ,List.getElem?_map,List.getElem?_eq_getElem hnv]
   rfl
  have hk:(cuts u' 1 u'.length).length+1+n<(pieces s').length:=by omega
  have g2:(pieces s')[(cuts u' 1 u'.length).length+1+n]?=some (shP (u'.length+1) (pieces v)[n]):=by
   rw [e2,List.getElem?_append_right (by rw [heads_len];omega),heads_len,show (cuts u' 1 u'.length).length+1+n - (cuts u' 1 u'.length).length=n+1 by omega,List.getElem?_cons_succ,List.getElem?_map,List.getElem?_eq_getElem hnv]
   rfl
  rw [List.getElem?_eq_getElem hi] at g1
  rw [List.getElem?_eq_getElem hk] at g2
  refine ⟨(cuts u' 1 u'.length).length+1+n,hk,by omega,?_⟩
  rw [Option.some.inj g1,Option.some.inj g2]
  unfold Moved shP
  exact ⟨by simp only;omega,by simp only;omega,rfl,rfl⟩
end Go.Proofs.YtojoahlpgmnbnaaGreatDoor.Q
