/- What the claim needs of the texts Plain, Lays, VRead13, VRight, VRightK, VRightP. -/
import Derived.Lib.DecodeN
import Derived.Lib.ValidU
import Derived.Lib.ValidAsc
import Derived.Lib.RuneCountTail
import Derived.Test.YtpbnhnilfpoljaaGreatDoorProg
import Derived.Shelf.Unicode.ValidAny
import Derived.Test.YtpbnhnilfpoljaaGreatDoorRB7
import Derived.Test.YtpbnhnilfpoljaaGreatDoorRB6
namespace Go.Proofs.YtpbnhnilfpoljaaGreatDoor.U
open Go.Lib
def uw (r:Nat):Nat:=if 65536≤r then 2 else 1
def itemsF (s:ByteArray):Nat→Nat→List (Nat × Nat)
 | 0,_=>[]
 | f+1,pos=>if pos<s.size then Utf8.decode s pos :: itemsF s f (pos+(Utf8.decode s pos).2) else []
def items (s:ByteArray):List (Nat × Nat):=itemsF s s.size 0
def okL:List (Nat × Nat)→Bool
 | []=>true
 | x :: t=>if x.1=65533∧x.2=1 then false else okL t
def okB (s:ByteArray):Bool:=okL (items s)
theorem decodeN_bounds (n b0 b1 b2 b3:Nat) (hn:1≤n):1≤(decodeN n b0 b1 b2 b3).2∧(decodeN n b0 b1 b2 b3).2≤n:=by
 unfold decodeN
 repeat' split
 all_goals (simp only;omega)
theorem width_pos (s:ByteArray) (pos:Nat) (h:pos<s.size):1≤(Utf8.decode s pos).2:=by
 rw [decode_at];exact (decodeN_bounds _ _ _ _ _ (by omega)).1
theorem width_le (s:ByteArray) (pos:Nat) (h:pos<s.size):pos+(Utf8.decode s pos).2≤s.size:=by
 rw [decode_at];have:=(decodeN_bounds (s.size - pos) (s.get! pos).toNat (s.get! (pos+1)).toNat (s.get! (pos+2)).toNat (s.get! (pos+3)).toNat (by omega)).2;omega
theorem itemsF_end (s:ByteArray) (f pos:Nat) (h:¬ pos<s.size):itemsF s f pos=[]:=by cases f <;> simp [itemsF,h]
theorem itemsF_step (s:ByteArray) (f pos:Nat) (h:pos<s.size):itemsF s (f+1) pos=Utf8.decode s pos :: itemsF s f (pos+(Utf8.decode s pos).2):=by simp [itemsF,h]
theorem itemsF_fuel (s:ByteArray):∀ f g pos,s.size - pos≤f→s.size - pos≤g→itemsF s f pos=itemsF s g pos
 | 0,g,pos,hf,_=>by rw [itemsF_end s 0 pos (by omega),itemsF_end s g pos (by omega)]
 | f+1,g,pos,hf,hg=>by
  by_cases h:pos<s.size
  ·obtain ⟨g,rfl⟩:∃ k,g=k+1:=⟨g - 1,by omega⟩
   have:=width_pos s pos h
   rw [itemsF_step s f pos h,itemsF_step s g pos h,itemsF_fuel s f g _ (by omega) (by omega)]
  ·rw [itemsF_end s _ pos h,itemsF_end s _ pos h]
def Wide (l:List (Nat × Nat)):Prop:=∀ x∈l,1≤x.2
theorem itemsF_wide (s:ByteArray):∀ f pos,Wide (itemsF s f pos)
 | 0,_=>by intro x hx;cases hx
 | f+1,pos=>by
  intro x hx
  by_cases h:pos<s.size
  ·rw [itemsF_step s f pos h] at hx
   rcases List.mem_cons.1 hx with rfl|hx
   ·exact width_pos s pos h
   ·exact itemsF_wide s f _ x hx
  ·rw [itemsF_end s _ pos h] at hx;cases hx
def sumW:List (Nat × Nat)→Nat
 | []=>0
 | x :: t=>x.2+sumW t
theorem sumW_itemsF (s:ByteArray):∀ f pos,s.size - pos≤f→pos≤s.size→sumW (itemsF s f pos)=s.size - pos
 | 0,pos,hf,hp=>by simp only [itemsF,sumW];omega
 | f+1,pos,hf,hp=>by
  by_cases h:pos<s.size
  ·have h1:=width_pos s pos h
   have h2:=width_le s pos h
   rw [itemsF_step s f pos h];simp only [sumW]
   rw [sumW_itemsF s f _ (by omega) h2];omega
  ·rw [itemsF_end s _ pos h];simp only [sumW];omega
theorem sumW_items (s:ByteArray):sumW (items s)=s.size:=by unfold items;rw [sumW_itemsF s s.size 0 (by omega) (by omega)];omega
theorem decodeL_drop (s:ByteArray) (pos:Nat):decodeL (s.data.toList.drop pos)=Utf8.decode s pos:=by
 have h:=tail_decode s pos 0
 rw [Nat.add_zero] at h
 rw [← h]
 unfold decodeL
 rw [← ext_list s pos]
theorem validGo_ok (s:ByteArray):∀ n pos,validGoD n (s.data.toList.drop pos)=okL (itemsF s n pos)
 | 0,_=>rfl
 | n+1,pos=>by
  unfold validGoD
  by_cases h:pos<s.size
  ·have hne:¬ s.data.toList.drop pos=[]:=by
    intro e
    have:=congrArg List.length e
    simp at this
    have h2:s.data.size=s.size:=rfl
    omega
   rw [if_neg hne,itemsF_step s n pos h,decodeL_drop]
   simp only [okL]
   split
   ·rfl
   ·rw [List.drop_drop,validGo_ok s n]
  ·have he:s.data.toList.drop pos=[]:=by
    apply List.drop_eq_nil_of_le
    have h2:s.data.size=s.size:=rfl
    simp;omega
   rw [if_pos he,itemsF_end s _ pos h];rfl
theorem valid_ok (s:ByteArray):validD s.data.toList=okB s:=by
 unfold validD okB items
 have h:=validGo_ok s s.size 0
 rw [List.drop_zero] at h
 have h2:s.data.toList.length=s.size:=by simp
 rw [h2,h]
def off:List (Nat × Nat)→Nat→Nat→Int→Int × Int
 | [],pos,ahead,unit=>if (ahead:Int)=unit then ((pos:Int),0) else (0,12)
 | x :: t,pos,ahead,unit=>if (ahead:Int)=unit then ((pos:Int),0) else off t (pos+x.2) (ahead+uw x.1) unit
theorem drop_at (l:List ByteArray) (i:Nat) (h:i<l.length):l.drop i=l.getD i ByteArray.empty :: l.drop (i+1):=by
 rw [List.getD_eq_getElem?_getD,List.getElem?_eq_getElem h,Option.getD_some]
 exact List.drop_eq_getElem_cons h
theorem size_append (a b:ByteArray):(a++b).size=a.size+b.size:=by simp [ByteArray.size_append]
theorem get!_left (a b:ByteArray) (i:Nat) (h:i<a.size):(a++b).get! i=a.get! i:=by
 rw [← getD_get!',← getD_get!']
 have:(a++b).data.toList=a.data.toList++b.data.toList:=by simp [ByteArray.data_append]
 rw [this,List.getD_eq_getElem?_getD,List.getD_eq_getElem?_getD,List.getElem?_append_left (by simpa using h)]
theorem get!_right (a b:ByteArray) (i:Nat):(a++b).get! (a.size+i)=b.get! i:=by
 rw [← getD_get!',← getD_get!']
 have:(a++b).data.toList=a.data.toList++b.data.toList:=by simp [ByteArray.data_append]
 have h2:a.data.toList.length=a.size:=by simp
 rw [this,List.getD_eq_getElem?_getD,List.getD_eq_getElem?_getD,List.getElem?_append_right (by omega),h2,Nat.add_sub_cancel_left]
theorem decode_right (a b:ByteArray) (pos:Nat):Utf8.decode (a++b) (a.size+pos)=Utf8.decode b pos:=by
 rw [decode_at,decode_at,size_append,get!_right,Nat.add_assoc,get!_right,Nat.add_assoc,get!_right,Nat.add_assoc,get!_right]
 congr 1
 omega
theorem decodeN_more (n k b0 b1 b2 b3 c1 c2 c3:Nat) (h1:1<n→c1=b1) (h2:2<n→c2=b2) (h3:3<n→c3=b3)
  (hok:¬ ((decodeN n b0 b1 b2 b3).1=65533∧(decodeN n b0 b1 b2 b3).2=1)):decodeN (n+k) b0 c1 c2 c3=decodeN n b0 b1 b2 b3:=by
 unfold decodeN at hok ⊢
 by_cases c0:b0<128
 ·simp [c0]
 ·rw [if_neg c0] at hok ⊢
  rw [if_neg c0]
  by_cases q1:b0 / 32=6∧(1<n∧b1 / 64=2)
  ·have e1:=h1 q1.2.1
   subst e1
   rw [if_pos q1,if_pos ⟨q1.1,by omega,q1.2.2⟩]
  ·rw [if_neg q1] at hok ⊢
   by_cases q2:b0 / 16=14∧(1<n∧b1 / 64=2)∧(2<n∧b2 / 64=2)
   ·have e1:=h1 q2.2.1.1
    have e2:=h2 q2.2.2.1
    subst e1;subst e2
    rw [if_pos q2,if_neg (by omega),if_pos ⟨q2.1,⟨by omega,q2.2.1.2⟩,by omega,q2.2.2.2⟩]
   ·rw [if_neg q2] at hok ⊢
    by_cases q3:b0 / 8=30∧(1<n∧b1 / 64=2)∧(2<n∧b2 / 64=2)∧(3<n∧b3 / 64=2)
    ·have e1:=h1 q3.2.1.1
     have e2:=h2 q3.2.2.1.1
     have e3:=h3 q3.2.2.2.1
     subst e1;subst e2;subst e3
     rw [if_pos q3,if_neg (by omega),if_neg (by omega),if_pos ⟨q3.1,⟨by omega,q3.2.1.2⟩,⟨by omega,q3.2.2.1.2⟩,by omega,q3.2.2.2.2⟩]
    ·rw [if_neg q3] at hok
     simp at hok
theorem decode_left (a b:ByteArray) (pos:Nat) (h:pos<a.size) (hok:¬ ((Utf8.decode a pos).1=65533∧(Utf8.decode a pos).2=1)):Utf8.decode (a++b) pos=Utf8.decode a pos:=by
 rw [decode_at] at hok
 rw [decode_at,decode_at,get!_left a b pos h,size_append]
 have e:a.size+b.size - pos=(a.size - pos)+b.size:=by omega
 rw [e]
 refine decodeN_more _ _ _ _ _ _ _ _ _ (fun h1=>?_) (fun h1=>?_) (fun h1=>?_) hok
 ·rw [get!_left a b _ (by omega)]
 ·rw [get!_left a b _ (by omega)]
 ·rw [get!_left a b _ (by omega)]
theorem itemsF_right (a b:ByteArray):∀ f pos,itemsF (a++b) f (a.size+pos)=itemsF b f pos
 | 0,_=>rfl
 | f+1,pos=>by
  by_cases h:pos<b.size
  ·rw [itemsF_step _ f _ (by rw [size_append];omega),itemsF_step b f pos h,decode_right,Nat.add_assoc,itemsF_right a b f]
  ·rw [itemsF_end _ _ _ (by rw [size_append];omega),itemsF_end b _ pos h]
theorem itemsF_left (a b:ByteArray):∀ f pos,a.size - pos≤f→pos≤a.size→okL (itemsF a f pos)=true →
  itemsF (a++b) (f+b.size) pos=itemsF a f pos++items b
 | 0,pos,hf,hp,_=>by
  obtain rfl:pos=a.size:=by omega
  rw [Nat.zero_add]
  have:=itemsF_right a b b.size 0
  rw [Nat.add_zero] at this
  rw [this];rfl
 | f+1,pos,hf,hp,hok=>by
  by_cases h:pos<a.size
  ·rw [itemsF_step a f pos h] at hok ⊢
   simp only [okL] at hok
   split at hok
   ·cases hok
   ·rename_i hne
    have hl:=decode_left a b pos h hne
    have e:f+1+b.size=(f+b.size)+1:=by omega
    have hw:=width_pos a pos h
    rw [e,itemsF_step _ _ pos (by rw [size_append];omega),hl,itemsF_left a b f _ (by omega) (width_le a pos h) hok]
    rfl
  ·obtain rfl:pos=a.size:=by omega
   rw [itemsF_end a _ _ h]
   have hr:=itemsF_right a b (f+1+b.size) 0
   rw [Nat.add_zero a.size] at hr
   rw [hr,List.nil_append]
   exact itemsF_fuel b _ _ 0 (by omega) (by omega)
theorem items_append (a b:ByteArray) (h:okB a=true):items (a++b)=items a++items b:=by
 have:=itemsF_left a b a.size 0 (by omega) (by omega) h
 unfold items
 rw [size_append]
 exact this
theorem okL_append:∀ x y:List (Nat × Nat),okL (x++y)=(okL x&&okL y)
 | [],y=>by simp [okL]
 | x :: t,y=>by
  simp only [List.cons_append,okL]
  split
  ·rfl
  ·exact okL_append t y
theorem okB_append (a b:ByteArray) (ha:okB a=true) (hb:okB b=true):okB (a++b)=true:=by
 unfold okB at *
 rw [items_append a b ha,okL_append,ha,hb];rfl
end Go.Proofs.YtpbnhnilfpoljaaGreatDoor.U
namespace Go.Proofs.YtpbnhnilfpoljaaGreatDoor.U
open Go.Shelf
def lays_ren:Go.Shelf.Ren:=⟨fun|196=>81|259=>107|n=>n,fun|9=>9|4=>4|3=>3|5=>5|12=>12|119=>173|0=>0|46=>171|139=>176|138=>175|53=>195|n=>n,fun|3=>1|4=>2|n=>n⟩
theorem lays:Lays.n196 Tryz.prog lays_ren:={
 mixed:=by kernel_rfl,
 f196:=Tryz.func81.trans (congrArg some (by kernel_rfl)),
 f259:=Tryz.func107.trans (congrArg some (by kernel_rfl)),
 t0:=Tryz.underlying0,
 a0:=Tryz.isAgg0,
 z0:=Tryz.sizeOf0,
 v0:=Tryz.zeroValue0,
 t3:=Tryz.underlying3,
 a3:=Tryz.isAgg3,
 z3:=Tryz.sizeOf3,
 v3:=Tryz.zeroValue3,
 t4:=Tryz.underlying4,
 a4:=Tryz.isAgg4,
 z4:=Tryz.sizeOf4,
 v4:=Tryz.zeroValue4,
 t5:=Tryz.underlying5,
 a5:=Tryz.isAgg5,
 z5:=Tryz.sizeOf5,
 v5:=Tryz.zeroValue5,
 t9:=Tryz.underlying9,
 a9:=Tryz.isAgg9,
 z9:=Tryz.sizeOf9,
 v9:=Tryz.zeroValue9,
 t12:=Tryz.underlying12,
 a12:=Tryz.isAgg12,
 z12:=Tryz.sizeOf12,
 v12:=Tryz.zeroValue12,
 t46:=Tryz.underlying171,
 a46:=Tryz.isAgg171,
 z46:=Tryz.sizeOf171,
 v46:=Tryz.zeroValue171,
 t53:=Tryz.underlying195,
 a53:=Tryz.isAgg195,
 z53:=Tryz.sizeOf195,
 v53:=Tryz.zeroValue195,
 t119:=Tryz.underlying173,
 a119:=Tryz.isAgg173,
 z119:=Tryz.sizeOf173,
 t138:=Tryz.underlying175,
 a138:=Tryz.isAgg175,
 z138:=Tryz.sizeOf175,
 v138:=Tryz.zeroValue175,
 t139:=Tryz.underlying176,
 a139:=Tryz.isAgg176,
 z139:=Tryz.sizeOf176,
 v139:=Tryz.zeroValue176,
 g3:=by kernel_rfl,
 g4:=by kernel_rfl }
end Go.Proofs.YtpbnhnilfpoljaaGreatDoor.U
namespace Go.Proofs.YtpbnhnilfpoljaaGreatDoor.V
open Go.RowKit
open Go.Lib
theorem value_all:∀ F,ValC F
 | 0=>fun f hf=>absurd hf (Nat.not_lt_zero _)
 | F+1=>fun f hf d B0 s l o w hr hE hd hs ho hl hf2=>by
  by_cases h:f<F
  ·exact value_all F f h d B0 s l o w hr hE hd hs ho hl hf2
  ·obtain rfl:f=F:=by omega
   obtain ⟨G,rfl⟩:∃ G,f=G+1:=⟨f - 1,by omega⟩
   exact value_step G d B0 s l o w (fun g hg=>value_all (G+1) g (by omega)) hf2 hr hE hd hs ho hl
theorem right_any (s:ByteArray) (w:World) (hs:s.size≤1099511627776) (hE:EnvW w) :
  Calls Tryz.prog 44 #[.string s] w fun e w'=>e=.returned (.bool (U.okB s))∧Below w.heap.size w w':=by
 have cV:Calls Tryz.prog 81 #[.string s] w (fun e w'=>e=.returned (.bool (Lib.validD s.data.toList))∧Below w.heap.size w w'):=Any.utf8_ValidString U.lays s w (by omega) hE.tabs
 rw [U.valid_ok s] at cV
 generalize U.okB s=V at cV ⊢
 go_enter Tryz.func44,Tryz.ntmps44
 go_wp2_with (go_at_call 81;refine cV.mono ?_;rintro e w' ⟨rfl,hb⟩)
 go_ret
 exact ⟨rfl,hb⟩
def readB (s:ByteArray):Except Int Val:=if U.okB s=true then readP s.data.toList else .error 11
def ReadsTop (r:Except Int Val) (w:World) (e:Ending) (w':World):Prop :=
 Below w.heap.size w w'∧match r with
 | .ok (.mk so on n t l ks)=>∃ lv kv,e=.returned (.tuple #[.agg (six so on n t lv kv).toArray,.int .i64 0])∧ValIn w' (fun g=>w.heap.size≤g) (.mk so on n t l ks) lv kv
 | .error k=>e=.returned (.tuple #[.agg (six 0 false 0 [] (.slice none 0 0) (.slice none 0 0)).toArray,.int .i64 k])
set_option maxHeartbeats 4000000 in
theorem read_any (s:ByteArray) (w:World) (hs:s.size≤274877906944) (hE:EnvW w) :
  Calls Tryz.prog 18 #[.string s] w (ReadsTop (readB s) w):=by
 have cR:∀ ob,_:=fun ob=>right_any s (w.alloc ob) (by omega) (hE.later ((Below.refl _ _).alloc (Nat.le_refl _) ob))
 unfold readB
 by_cases hok:U.okB s=true
 ·rw [if_pos hok]
  rw [hok] at cR
  clear hok
  go_enter Tryz.func18,Tryz.ntmps18
  go_wp2_with fail
  refine (cR _).mono ?_;rintro e w1 ⟨rfl,hb1⟩
  have hz1:=hb1.size
  simp at hz1
  have hb1':=(((Below.refl w.heap.size w).alloc (Nat.le_refl _) (.cells #[.int .i64 0,.bool false,.int .i64 0,.string ⟨#[]⟩,.slice none 0 0,.slice none 0 0] 36))).trans (hb1.mono (by simp))
  have hq1:=(hb1.block w.heap.size (by simp)).trans (heap_alloc_new w _)
  clear cR hb1
  go_wp2_with fail
  have hrd:RdL w1.heap.size s s.data.toList (0:Nat) (w1.alloc (.cells #[.string s,.int .i64 0,.int .i64 0] 107)):=⟨0,by omega,rfl,heap_alloc_new w1 _⟩
  have hE2:Env w1.heap.size (w1.alloc (.cells #[.string s,.int .i64 0,.int .i64 0] 107)):=(Env.start (hE.later hb1')).later ((Below.refl _ _).alloc (Nat.le_refl _) _)
  have cV:=value_all (2*s.data.toList.length+2) (2*s.data.toList.length+1) (by omega) w1.heap.size w1.heap.size s s.data.toList 0 _ hrd hE2 (Nat.le_refl _) hs (by omega) (Nat.le_refl _) (by rw [← Lib.size_eq];omega)
  have hq2:=(Below.heap_alloc w1 (.cells #[.string s,.int .i64 0,.int .i64 0] 107) w.heap.size (by omega)).trans hq1
  have hz2:(w1.alloc (.cells #[.string s,.int .i64 0,.int .i64 0] 107)).heap.size=w1.heap.size+1:=by simp
  have hb2:Below w.heap.size w (w1.alloc (.cells #[.string s,.int .i64 0,.int .i64 0] 107)):=hb1'.alloc (by omega) _
  clear hrd hE2 hq1
  generalize w1.alloc (.cells #[.string s,.int .i64 0,.int .i64 0] 107)=w2 at *
  have HZ2:=Lib.hid hz2
  clear hz2
  have top:∀ W',Mut w2.heap.size w1.heap.size w2 W'→Below w.heap.size w W':=fun W' hm=>hb2.trans ((hm.mono (by have:=HZ2.out;omega)).below (by omega))
  have TOP:=Lib.hid top
  clear top
  cases hv:value (2*s.data.toList.length+1) 0 s.data.toList with
  | bad =>
   have HRes:Hid (readP s.data.toList=.error 21):=Lib.hid (by simp only [readP,hv])
   rw [hv] at cV
   clear hv
   refine cV.mono ?_;rintro e w3 ⟨hm3,rfl,l3,hr3⟩
   have hz3:=hm3.size
   have hq3:=(hm3.block w.heap.size (by have:=HZ2.out;omega) (by omega)).trans hq2
   obtain ⟨⟨j0,j1,j2,j3,j4,j5⟩,jf⟩:=cells_six hq3
   have hw3:w.heap.size<w3.heap.size:=by have:=HZ2.out;omega
   simp only [six,strCell]
   go_wp2_with fail
   refine bodyPost_ret (v:=.tuple #[.agg (six 0 false 0 [] (.slice none 0 0) (.slice none 0 0)).toArray,.int .i64 21]) (by simp [results,Tryz.results18,go_sem,six,strCell,j0,j1,j2,j3,j4,j5,hw3]) rfl ?_
   rw [HRes.out]
   exact ⟨((mut6 (d:=w.heap.size) w.heap.size _ _ _ _ _ _ (Mut.of_below (TOP.out _ hm3)) (Nat.le_refl _)).below (Nat.le_refl _)).alloc (by simp;omega) _,rfl⟩
  | deep =>
   have HRes:Hid (readP s.data.toList=.error 22):=Lib.hid (by simp only [readP,hv])
   rw [hv] at cV
   clear hv
   refine cV.mono ?_;rintro e w3 ⟨hm3,rfl,l3,hr3⟩
   have hz3:=hm3.size
   have hq3:=(hm3.block w.heap.size (by have:=HZ2.out;omega) (by omega)).trans hq2
   obtain ⟨⟨j0,j1,j2,j3,j4,j5⟩,jf⟩:=cells_six hq3
   have hw3:w.heap.size<w3.heap.size:=by have:=HZ2.out;omega
   simp only [six,strCell]
   go_wp2_with fail
   refine bodyPost_ret (v:=.tuple #[.agg (six 0 false 0 [] (.slice none 0 0) (.slice none 0 0)).toArray,.int .i64 22]) (by simp [results,Tryz.results18,go_sem,six,strCell,j0,j1,j2,j3,j4,j5,hw3]) rfl ?_
   rw [HRes.out]
   exact ⟨((mut6 (d:=w.heap.size) w.heap.size _ _ _ _ _ _ (Mut.of_below (TOP.out _ hm3)) (Nat.le_refl _)).below (Nat.le_refl _)).alloc (by simp;omega) _,rfl⟩
  | ok v rest =>
   rw [hv] at cV
   obtain ⟨so,on,n,t,vl,vk⟩:=v
   refine cV.mono ?_;rintro e w3 ⟨hm3,lv,kv,rfl,hval,hr3⟩
   have hz3:=hm3.size
   have hq3:=(hm3.block w.heap.size (by have:=HZ2.out;omega) (by omega)).trans hq2
   obtain ⟨⟨j0,j1,j2,j3,j4,j5⟩,jf⟩:=cells_six hq3
   have hw3:w.heap.size<w3.heap.size:=by have:=HZ2.out;omega
   have hval':=hval
   obtain ⟨⟨a1,k1,rfl,_⟩,⟨a2,k2,rfl,_⟩⟩:=hval'
   have hwne:∀ ob,RdL w1.heap.size s rest (0:Nat) (w3.alloc ob):=fun ob=>hr3.below ((Below.refl _ _).alloc (Nat.le_refl _) ob)
   have HVAL:=Lib.hid hval
   clear hval hr3 hq3 cV
   cases rest with
   | nil =>
    have HRes:Hid (readP s.data.toList=.ok (.mk so on n t vl vk)):=Lib.hid (by simp only [readP,hv])
    have ce:∀ ob,_:=fun ob=>ended_yes w1.heap.size s _ (w3.alloc ob) (hwne ob).done
    clear hv
    simp only [six,strCell]
    go_wp2_with fail
    refine (ce _).mono ?_;rintro e w4 ⟨rfl,nq,rfl⟩
    go_wp2_with fail
    refine bodyPost_ret (v:=.tuple #[.agg (six so on n t (.slice a1 vl.length k1) (.slice a2 vk.length k2)).toArray,.int .i64 0]) (by simp [results,Tryz.results18,go_sem,six,strCell,j0,j1,j2,j3,j4,j5,hw3]) rfl ?_
    rw [HRes.out]
    refine ⟨(mut6 (d:=w.heap.size) w.heap.size _ _ _ _ _ _ (((Mut.of_below (TOP.out _ hm3)).alloc (by omega) _).drewN nq) (Nat.le_refl _)).below (Nat.le_refl _),_,_,rfl,?_⟩
    refine ValIn.later (R:=fun g=>w2.heap.size≤g) (fun g hg hlt=>?_) (fun g hg=>by have:=HZ2.out;omega) _ _ _ HVAL.out
    rw [far6 _ _ _ _ _ _ _ _ _ (by have:=HZ2.out;omega)]
    exact Below.heap_alloc w3 _ g hlt
   | cons c r =>
    have HRes:Hid (readP s.data.toList=.error 21):=Lib.hid (by simp only [readP,hv])
    have ce:∀ ob,Calls Tryz.prog 46 #[.pointer (some ⟨w1.heap.size,0,none⟩)] (w3.alloc ob) fun e w'=>e=.returned (.bool false)∧∃ n,w'=(w3.alloc ob).drewN n:=fun ob=>by
     obtain ⟨a,ha,hR,_,_⟩:=(hwne ob).next
     exact ended_no w1.heap.size s a _ (w3.alloc ob) hR ha
    clear hv
    simp only [six,strCell]
    go_wp2_with fail
    refine (ce _).mono ?_;rintro e w4 ⟨rfl,nq,rfl⟩
    go_wp2_with fail
    refine bodyPost_ret (v:=.tuple #[.agg (six 0 false 0 [] (.slice none 0 0) (.slice none 0 0)).toArray,.int .i64 21]) (by simp [results,Tryz.results18,go_sem,six,strCell,j0,j1,j2,j3,j4,j5,hw3]) rfl ?_
    rw [HRes.out]
    exact ⟨(mut6 (d:=w.heap.size) w.heap.size _ _ _ _ _ _ (((Mut.of_below (TOP.out _ hm3)).alloc (by omega) _).drewN nq) (Nat.le_refl _)).below (Nat.le_refl _),rfl⟩
 ·have hf:U.okB s=false:=by simpa using hok
  rw [if_neg hok]
  rw [hf] at cR
  clear hok hf
  go_enter Tryz.func18,Tryz.ntmps18
  go_wp2_with fail
  refine (cR _).mono ?_;rintro e w1 ⟨rfl,hb1⟩
  have hz1:=hb1.size
  simp at hz1
  have hb1':=(((Below.refl w.heap.size w).alloc (Nat.le_refl _) (.cells #[.int .i64 0,.bool false,.int .i64 0,.string ⟨#[]⟩,.slice none 0 0,.slice none 0 0] 36))).trans (hb1.mono (by simp))
  have hq1:=(hb1.block w.heap.size (by simp)).trans (heap_alloc_new w _)
  obtain ⟨⟨j0,j1,j2,j3,j4,j5⟩,jf⟩:=cells_six hq1
  clear cR hb1 hq1
  go_wp2_with fail
  refine bodyPost_ret (v:=.tuple #[.agg (six 0 false 0 [] (.slice none 0 0) (.slice none 0 0)).toArray,.int .i64 11]) (by simp [results,Tryz.results18,go_sem,six,strCell,j0,j1,j2,j3,j4,j5]) rfl ?_
  exact ⟨(mut6 (d:=w.heap.size) w.heap.size _ _ _ _ _ _ (Mut.of_below hb1') (Nat.le_refl _)).below (Nat.le_refl _),rfl⟩
end Go.Proofs.YtpbnhnilfpoljaaGreatDoor.V
namespace Go.Proofs.YtpbnhnilfpoljaaGreatDoor.V
open Go.RowKit Go.WideMaps Go.Maps
open Go.Lib
def elseP:Val→Bool
 | .mk so on n t l ks=>(!on||so==1)&&(n==0||so==2)&&(t.isEmpty||so==3)&&(l.isEmpty||so==4||so==5)&&(ks.isEmpty||so==5)
set_option maxHeartbeats 2000000 in
theorem else_any (so:Int) (on:Bool) (n:Int) (t:List UInt8) (l:List Val) (ks:List (List UInt8)) (a1 a2:Option Addr) (c1 c2:Nat) (w:World) (_:t.length≤1099511627776) (_:l.length≤1099511627776) (hk:ks.length≤1099511627776) :
  Calls Tryz.prog 99 #[arg (.mk so on n t l ks) (.slice a1 l.length c1) (.slice a2 ks.length c2)] w fun e w'=>e=.returned (.bool (elseP (.mk so on n t l ks)))∧Below w.heap.size w w':=by
 simp only [arg,six',six,strCell]
 go_enter Tryz.func99,Tryz.ntmps99
 go_wp2_with fail
 all_goals go_ret
 all_goals refine ⟨?_,(Below.refl _ _).alloc (Nat.le_refl _) _⟩
 all_goals (have hk0:((ks.length:Int)==0)=ks.isEmpty:=by cases ks <;> simp;omega)
 all_goals simp_all [elseP]
end Go.Proofs.YtpbnhnilfpoljaaGreatDoor.V
namespace Go.Proofs.YtpbnhnilfpoljaaGreatDoor.V
open Go.RowKit Go.WideMaps Go.Maps
open Go.Lib
def okP (t:List UInt8):Bool:=U.okB ⟨t.toArray⟩
def keysP:List (List UInt8)→List (List UInt8)→Bool
 | [],_=>true
 | k :: r,seen=>okP k&&!decide (k∈seen)&&keysP r (seen++[k])
theorem key_at {W:World} {R:Nat→Prop} {ks:List (List UInt8)} {kv:Value} (h:KeysIn W R ks kv) (i:Nat) (hi:i<ks.length) :
  ∃ g off cap,kv=.slice (some ⟨g,off,none⟩) ks.length cap∧W.cell? ⟨g,off+i,none⟩=some (.string ⟨(ks[i]).toArray⟩):=by
 obtain ⟨a,cap,rfl,h1⟩:=h
 rcases h1 with h1|⟨g,off,rfl,_,hc⟩
 ·subst h1;exact absurd hi (Nat.not_lt_zero _)
 ·exact ⟨g,off,cap,rfl,hc i _ (by simp [hi,strCell])⟩
theorem keysP_drop {ks seen:List (List UInt8)} {k:Nat} (hk:k<ks.length):keysP (ks.drop k) seen=(okP ks[k]&&!decide (ks[k]∈seen)&&keysP (ks.drop (k+1)) (seen++[ks[k]])):=by
 rw [List.drop_eq_getElem_cons hk];simp only [keysP]
theorem sum_mem {k:List UInt8}:∀ {ks:List (List UInt8)},k∈ks→k.length≤(ks.map fun k=>k.length+1).sum
 | [],h=>absurd h (List.not_mem_nil)
 | x :: r,h=>by
  rcases List.mem_cons.1 h with h|h
  ·subst h;simp;omega
  ·have:=sum_mem h;simp;omega
set_option maxHeartbeats 2000000 in
theorem keys_any (ks:List (List UInt8)) (kv:Value) (R:Nat→Prop) (w:World) (h:KeysIn w R ks kv) (hw:(ks.map fun k=>k.length+1).sum≤1099511627776) (hE:EnvW w) :
  Calls Tryz.prog 102 #[kv] w fun e w'=>e=.returned (.bool (keysP ks []))∧Below w.heap.size w w':=by
 have hkl:ks.length≤1099511627776:=Nat.le_trans (wt_keys ks) hw
 have HW:=Lib.hid (fun k (hk:k∈ks)=>Nat.le_trans (sum_mem hk) hw)
 have HK:=Lib.hid h
 have HE:=Lib.hid hE
 obtain ⟨a,cap,rfl,_⟩:=h
 obtain ⟨R1,hR1⟩:∃ r,keysP ks []=r:=⟨_,rfl⟩
 rw [hR1]
 have HR:=Lib.hid (show keysP (ks.drop 0) (ks.take 0)=R1 from hR1)
 obtain ⟨ln,hln⟩:∃ k,ks.length=k:=⟨_,rfl⟩
 have HLN:=Lib.hid hln
 rw [hln] at hkl ⊢
 clear hR1 hw hE hln
 have hmm:=@run_makeMap Tryz.prog
 go_enter Tryz.func102,Tryz.ntmps102
 go_wp2_with fail
 have HB0:=Lib.hid ((Below.refl w.heap.size w).alloc (Nat.le_refl _) (.map #[] 0))
 have HS0:=Lib.hid (Seen.made w)
 generalize w.alloc (.map #[] 0)=w0 at HB0 HS0 ⊢
 clear hmm
 go_loopw [9] (fun iv wr=>∃ i:Nat,iv=.int .i64 i∧i≤ln∧Hid (keysP (ks.drop i) (ks.take i)=R1)∧Hid (Below w.heap.size w wr)∧Hid (Seen w.heap.size (ks.take i) wr)) (fun iv _=>ln - (Go.RowKit.intOf iv).toNat)
 case atStart=>exact ⟨0,rfl,by omega,HR,HB0,HS0⟩
 case round =>
  obtain ⟨i,rfl,hi,HI,HB,HS⟩:=hrel
  by_cases hlt:i<ln
  ·have hll:i<ks.length:=by rw [HLN.out];exact hlt
   have hsm:Same R w wr:=fun b _ hb=>HB.out.block b hb
   obtain ⟨g,off,cap',he,k0⟩:=key_at (HK.out.later hsm (fun _ h=>h)) i hll
   obtain ⟨rfl,rfl⟩:a=some ⟨g,off,none⟩∧cap'=cap:=by cases he;exact ⟨rfl,rfl⟩
   have hdr:=keysP_drop (seen:=ks.take i) hll
   rw [HI.out] at hdr
   have hsz:(ks[i]).length≤1099511627776:=HW.out _ (List.getElem_mem hll)
   have htk:ks.take i++[ks[i]]=ks.take (i+1):=by rw [List.take_add_one];simp [hll]
   rw [htk] at hdr
   have hnew:=fun W hS=>first_new w.heap.size (ks.take i) ks[i] W hS hsz (by rw [List.length_take];omega)
   have hold:=fun W hS=>first_old w.heap.size (ks.take i) ks[i] W hS hsz (by rw [List.length_take];omega)
   rw [htk] at hnew
   generalize ks[i]=key at k0 hdr hnew hold hsz htk
   have cR:=right_any ⟨key.toArray⟩ wr (by rw [size_mk];exact hsz) (HE.out.later (HB.out.mono (Nat.le_refl _)))
   obtain ⟨b1,hb1⟩:∃ b,U.okB ⟨key.toArray⟩=b:=⟨_,rfl⟩
   rw [hb1] at cR
   simp only [okP,hb1] at hdr
   have HDR:=Lib.hid hdr
   have HNEW:=Lib.hid hnew
   have HOLD:=Lib.hid hold
   clear hdr he hb1 hsm hnew hold htk
   go_wp2_with fail
   refine cR.mono ?_
   rintro e w1 ⟨rfl,hb1⟩
   have HS1:=Lib.hid (HS.out.same (hb1.block _ HS.out.lt))
   have HB1:=Lib.hid (HB.out.trans (hb1.mono HB.out.size))
   clear cR hb1
   cases b1 with
   | false =>
    go_wp2_with fail
    go_ret
    exact ⟨by rw [HDR.out];rfl,HB1.out⟩
   | true =>
    by_cases hin:key∈ks.take i
    ·have cF:=HOLD.out w1 HS1.out hin
     go_wp2_with fail
     refine cF.mono ?_
     rintro e w2 ⟨rfl,hg⟩
     have HB2:=Lib.hid (HB1.out.grown hg HB1.out.size (by rintro k ⟨⟩;exact Nat.le_refl _))
     clear cF hg
     go_wp2_with fail
     go_ret
     exact ⟨by rw [HDR.out];simp [hin],HB2.out⟩
    ·have cF:=HNEW.out w1 HS1.out hin
     go_wp2_with fail
     refine cF.mono ?_
     rintro e w2 ⟨rfl,hS2,hg⟩
     have HB2:=Lib.hid (HB1.out.grown hg HB1.out.size (by rintro k ⟨⟩;exact Nat.le_refl _))
     have HS2:=Lib.hid hS2
     clear cF hg hS2
     go_wp2_with fail
     go_roundw
     case rel=>exact ⟨i+1,by go_num,by omega,Lib.hid (by rw [HDR.out];simp [hin]),HB2,HS2⟩
     case measure=>simp [Go.RowKit.intOf];omega
  ·go_wp2_with fail
   go_ret
   refine ⟨?_,HB.out⟩
   obtain rfl:i=ln:=by omega
   have h:=HI.out
   rw [← HLN.out,List.drop_length] at h
   rw [← h];rfl
end Go.Proofs.YtpbnhnilfpoljaaGreatDoor.V
namespace Go.Proofs.YtpbnhnilfpoljaaGreatDoor.V
open Go.RowKit
open Go.Lib
def inP (n:Int):Bool:=decide (-9007199254740992≤n∧n≤9007199254740992)
mutual
def rightP:Val→Bool
 | .mk so on n t l ks=>elseP (.mk so on n t l ks)&&(if so=0∨so=1 then true else if so=2 then inP n else if so=3 then okP t else if so=4 then rightPs l else if so=5 then ks.length==l.length&&keysP ks []&&rightPs l else false)
def rightPs:List Val→Bool
 | []=>true
 | v :: r=>rightP v&&rightPs r
end
theorem rightPs_drop {l:List Val} {k:Nat} (hk:k<l.length):rightPs (l.drop k)=(rightP l[k]&&rightPs (l.drop (k+1))):=by
 rw [List.drop_eq_getElem_cons hk];simp only [rightPs]
def RightC (v:Val):Prop:=∀ (lv kv:Value) (R:Nat→Prop) (w:World),ValIn w R v lv kv→wt v≤1099511627776→EnvW w →
 Calls Tryz.prog 74 #[arg v lv kv] w fun e w'=>e=.returned (.bool (rightP v))∧Below w.heap.size w w'
set_option maxHeartbeats 2000000 in
theorem parts_right (l:List Val) (IH:∀ v∈l,RightC v) (a1:Option Addr) (c1:Nat) (R:Nat→Prop) (w:World)
  (hl:l=[]∨∃ g off xs,a1=some ⟨g,off,none⟩∧R g∧CellsAt w g off xs∧ListIn w R l xs) (hwl:wtL l≤1099511627776) (hE:EnvW w) :
  Calls Tryz.prog 101 #[.slice a1 l.length c1] w fun e w'=>e=.returned (.bool (rightPs l))∧Below w.heap.size w w':=by
 have HL:=Lib.hid hl
 have HIH:=Lib.hid IH
 have HE:=Lib.hid hE
 have HWM:=Lib.hid (fun v (h:v∈l)=>Nat.le_trans (wtL_mem h) hwl)
 have hlb:l.length≤1099511627776:=Nat.le_trans (wtL_length l) hwl
 obtain ⟨R1,hR1⟩:∃ r,rightPs l=r:=⟨_,rfl⟩
 rw [hR1]
 have HR:=Lib.hid (show rightPs (l.drop 0)=R1 from hR1)
 obtain ⟨ln,hln⟩:∃ k,l.length=k:=⟨_,rfl⟩
 have HLN:=Lib.hid hln
 have HB0:=Lib.hid (Below.refl w.heap.size w)
 rw [hln] at hlb ⊢
 clear hl IH hE hwl hR1 hln
 go_enter Tryz.func101,Tryz.ntmps101
 go_wp2_with fail
 go_loopw [7] (fun iv wr=>∃ i:Nat,iv=.int .i64 i∧i≤ln∧Hid (rightPs (l.drop i)=R1)∧Hid (Below w.heap.size w wr)) (fun iv _=>ln - (Go.RowKit.intOf iv).toNat)
 case atStart=>exact ⟨0,rfl,by omega,HR,HB0⟩
 case round =>
  obtain ⟨i,rfl,hi,HI,HB⟩:=hrel
  by_cases hlt:i<ln
  ·have hll:i<l.length:=by rw [HLN.out];exact hlt
   obtain ⟨g,off,xs,rfl,hg,hc,hL⟩:=HL.out.resolve_left (fun h=>by rw [h] at hll;exact Nat.not_lt_zero _ hll)
   have hsm:Same R w wr:=fun b _ hb=>HB.out.block b hb
   obtain ⟨so',on',n',t',l',ks',a1',c1',a2',c2',he,hv',k0,k1,k2,k3,k4,k5⟩:=part_at i (ListIn.later hsm (fun _ h=>h) l xs hL) (hc.later hg hsm) hll
   have hdr:=rightPs_drop hll
   rw [HI.out,he] at hdr
   have cP:=fun W' (hb':Below wr.heap.size wr W')=>(HIH.out l[i] (List.getElem_mem hll)) (.slice a1' l'.length c1') (.slice a2' ks'.length c2') R W' (by rw [he];exact ValIn.later (fun b _ hb=>hb'.block b hb) (fun _ h=>h) _ _ _ hv') (HWM.out _ (List.getElem_mem hll)) (HE.out.later (HB.out.trans (hb'.mono HB.out.size)))
   rw [he] at cP
   obtain ⟨b1,hb1⟩:∃ b,rightP (.mk so' on' n' t' l' ks')=b:=⟨_,rfl⟩
   rw [hb1] at hdr
   simp only [hb1,arg,six',six,strCell] at cP
   have HDR:=Lib.hid hdr
   clear hdr he hv' hb1 hsm hL hc
   go_wp2_with fail
   refine (cP _ ((Below.refl _ _).alloc (Nat.le_refl _) _)).mono ?_
   rintro e w2 ⟨rfl,hb2⟩
   have HB2:=Lib.hid (HB.out.trans ((((Below.refl wr.heap.size wr).alloc (Nat.le_refl _) _).trans (hb2.mono (by simp))).mono HB.out.size))
   clear cP hb2
   cases b1 with
   | false =>
    go_wp2_with fail
    go_ret
    exact ⟨by rw [HDR.out];rfl,HB2.out⟩
   | true =>
    go_wp2_with fail
    go_roundw
    case rel=>exact ⟨i+1,by go_num,by omega,Lib.hid (by rw [HDR.out,Bool.true_and]),HB2⟩
    case measure=>simp [Go.RowKit.intOf];omega
  ·go_wp2_with fail
   go_ret
   refine ⟨?_,HB.out⟩
   obtain rfl:i=ln:=by omega
   have h:=HI.out
   rw [← HLN.out,List.drop_length] at h
   rw [← h];rfl
set_option maxHeartbeats 2000000 in
theorem right_v:∀ v,RightC v:=Val.ind fun so on n t l ks IH lv kv R w hv hw hE=>by
 have hv':=hv
 obtain ⟨⟨a1,c1,rfl,hl⟩,hk⟩:=hv'
 have hk':=hk
 obtain ⟨a2,c2,rfl,_⟩:=hk'
 have hw2:=hw
 simp only [wt] at hw2
 have hkl:=wt_keys ks
 have hll:=wtL_length l
 have cE:=fun W=>else_any so on n t l ks a1 a2 c1 c2 W (by omega) (by omega) (by omega)
 have HE:=Lib.hid hE
 have HV:=Lib.hid hl
 have HK:=Lib.hid hk
 have hwl:wtL l≤1099511627776:=by omega
 have hwk:(ks.map fun k=>k.length+1).sum≤1099511627776:=by omega
 have htb:t.length≤1099511627776:=by omega
 have cP:=fun W (hb:Below w.heap.size w W)=>parts_right l IH a1 c1 R W (by
  refine hl.imp id fun ⟨g,off,xs,h1,h2,h3,h4⟩=>⟨g,off,xs,h1,h2,h3.later h2 (fun b _ hb'=>hb.block b hb'),ListIn.later (fun b _ hb'=>hb.block b hb') (fun _ h=>h) _ _ h4⟩) hwl (hE.later hb)
 have cK:=fun W (hb:Below w.heap.size w W)=>keys_any ks (.slice a2 ks.length c2) R W (hk.later (fun b _ hb'=>hb.block b hb') (fun _ h=>h)) hwk (hE.later hb)
 have cT:=fun W (hb:Below w.heap.size w W)=>right_any ⟨t.toArray⟩ W (by rw [size_mk];exact htb) (hE.later hb)
 have HP:=Lib.hid cP
 have HKK:=Lib.hid cK
 have HT:=Lib.hid cT
 obtain ⟨R1,hR1⟩:∃ r,rightP (.mk so on n t l ks)=r:=⟨_,rfl⟩
 rw [hR1]
 simp only [rightP] at hR1
 obtain ⟨e1,he1⟩:∃ r,elseP (.mk so on n t l ks)=r:=⟨_,rfl⟩
 rw [he1] at hR1
 simp only [he1] at cE
 have hA:=Lib.hid (show arg (.mk so on n t l ks) (.slice a1 l.length c1) (.slice a2 ks.length c2)=_ from rfl)
 simp only [arg,six',six,strCell] at cE ⊢
 have HR:=Lib.hid hR1
 clear hv hk hl hE hw hw2 cP cK cT he1 hR1 IH HV HK HE hA
 go_enter Tryz.func74,Tryz.ntmps74
 go_wp2_with fail
 refine (cE _).mono ?_
 rintro e w1 ⟨rfl,hb1⟩
 have HB1:=Lib.hid (((Below.refl w.heap.size w).alloc (Nat.le_refl _) _).trans (hb1.mono (by simp)))
 have hblk:=(hb1.block w.heap.size (by simp)).trans (heap_alloc_new w _)
 obtain ⟨⟨k0,k1,k2,k3,k4,k5⟩,kf⟩:=cells_six hblk
 clear cE hb1 hblk
 cases e1 with
 | false =>
  go_wp2_with fail
  go_ret
  exact ⟨by rw [← HR.out];rfl,HB1.out⟩
 | true =>
  by_cases h0:so=0
  ·subst h0
   go_wp2_with fail
   go_ret
   exact ⟨by rw [← HR.out];rfl,HB1.out⟩
  by_cases h1:so=1
  ·subst h1
   go_wp2_with fail
   go_ret
   exact ⟨by rw [← HR.out];rfl,HB1.out⟩
  have q0:(so==0)=false:=by simpa using h0
  have q1:(so==1)=false:=by simpa using h1
  by_cases h2:so=2
  ·subst h2
   by_cases hn:-9007199254740992≤n∧n≤9007199254740992
   ·have cN:=inRange_yes n w1 hn
    have HN:=Lib.hid (show inP n=true from decide_eq_true hn)
    clear hn
    go_wp2_with fail
    refine cN.mono ?_
    rintro e w2 ⟨rfl,rfl⟩
    clear cN
    go_wp2_with fail
    go_ret
    exact ⟨by rw [← HR.out];simp [HN.out],HB1.out⟩
   ·have cN:=inRange_no n w1 hn
    have HN:=Lib.hid (show inP n=false from decide_eq_false hn)
    clear hn
    go_wp2_with fail
    refine cN.mono ?_
    rintro e w2 ⟨rfl,rfl⟩
    clear cN
    go_wp2_with fail
    go_ret
    exact ⟨by rw [← HR.out];simp [HN.out],HB1.out⟩
  have q2:(so==2)=false:=by simpa using h2
  by_cases h3:so=3
  ·subst h3
   have cT:=HT.out w1 HB1.out
   go_wp2_with fail
   refine cT.mono ?_
   rintro e w2 ⟨rfl,hb2⟩
   have HB2:=Lib.hid (HB1.out.trans (hb2.mono HB1.out.size))
   clear cT hb2
   go_wp2_with fail
   go_ret
   exact ⟨by rw [← HR.out];rfl,HB2.out⟩
  have q3:(so==3)=false:=by simpa using h3
  by_cases h4:so=4
  ·subst h4
   have cT:=HP.out w1 HB1.out
   go_wp2_with fail
   refine cT.mono ?_
   rintro e w2 ⟨rfl,hb2⟩
   have HB2:=Lib.hid (HB1.out.trans (hb2.mono HB1.out.size))
   clear cT hb2
   go_wp2_with fail
   go_ret
   exact ⟨by rw [← HR.out];rfl,HB2.out⟩
  have q4:(so==4)=false:=by simpa using h4
  by_cases h5:so=5
  ·subst h5
   by_cases hlen:ks.length=l.length
   ·have cK:=HKK.out w1 HB1.out
    rw [hlen] at k5 cK
    have HLN:=Lib.hid hlen
    obtain ⟨b2,hb2⟩:∃ b,keysP ks []=b:=⟨_,rfl⟩
    have HK2:=Lib.hid hb2
    rw [hb2] at cK
    clear hb2 hlen
    go_wp2_with fail
    refine cK.mono ?_
    rintro e w2 ⟨rfl,hb2⟩
    have HB2:=Lib.hid (HB1.out.trans (hb2.mono HB1.out.size))
    have hblk:=fun i=>hb2.cell (p:=⟨w.heap.size,i,none⟩) (show w.heap.size<w1.heap.size from lt_of_cell k0)
    have j4:=(hblk 4).trans k4
    clear cK hb2 hblk
    cases b2 with
    | false =>
     go_wp2_with fail
     go_ret
     exact ⟨by rw [← HR.out,HK2.out];simp,HB2.out⟩
    | true =>
     have cT:=HP.out w2 HB2.out
     go_wp2_with fail
     refine cT.mono ?_
     rintro e w3 ⟨rfl,hb3⟩
     have HB3:=Lib.hid (HB2.out.trans (hb3.mono HB2.out.size))
     clear cT hb3
     go_wp2_with fail
     go_ret
     exact ⟨by rw [← HR.out,HK2.out];simp [HLN.out],HB3.out⟩
   ·have hq:((ks.length:Int)==(l.length:Int))=false:=by simp;omega
    have HLN:=Lib.hid (show (ks.length==l.length)=false by simpa using hlen)
    clear hlen
    go_wp2_with fail
    go_ret
    exact ⟨by rw [← HR.out,HLN.out];rfl,HB1.out⟩
  have q5:(so==5)=false:=by simpa using h5
  go_wp2_with fail
  go_ret
  exact ⟨by rw [← HR.out];simp [h0,h1,h2,h3,h4,h5],HB1.out⟩
def rightTop (v:Val):Bool:=nestP v 20&&rightP v
set_option maxHeartbeats 1000000 in
theorem right_top (so:Int) (on:Bool) (n:Int) (t:List UInt8) (l:List Val) (ks:List (List UInt8)) (lv kv:Value) (R:Nat→Prop) (w:World) (hv:ValIn w R (.mk so on n t l ks) lv kv) (hw:wt (.mk so on n t l ks)≤1099511627776) (hE:EnvW w) :
  Calls Tryz.prog 41 #[arg (.mk so on n t l ks) lv kv] w fun e w'=>e=.returned (.bool (rightTop (.mk so on n t l ks)))∧Below w.heap.size w w':=by
 have cN:=fun W (hb:Below w.heap.size w W)=>nest_any (.mk so on n t l ks) lv kv R 20 W (hv.later (fun b _ hb'=>hb.block b hb') (fun _ h=>h) _ _ _) (by omega) hw
 have cR:=fun W (hb:Below w.heap.size w W)=>right_v (.mk so on n t l ks) lv kv R W (hv.later (fun b _ hb'=>hb.block b hb') (fun _ h=>h) _ _ _) hw (hE.later hb)
 have hv':=hv
 obtain ⟨⟨a1,c1,rfl,_⟩,⟨a2,c2,rfl,_⟩⟩:=hv'
 unfold rightTop
 generalize nestP (.mk so on n t l ks) 20=b1 at cN ⊢
 generalize rightP (.mk so on n t l ks)=b2 at cR ⊢
 simp only [arg,six',six,strCell] at cN cR ⊢
 have HR:=Lib.hid cR
 clear hv hw hE cR
 go_enter Tryz.func41,Tryz.ntmps41
 go_wp2_with fail
 refine (cN _ ((Below.refl _ _).alloc (Nat.le_refl _) _)).mono ?_
 rintro e w1 ⟨rfl,hb1⟩
 have HB1:=Lib.hid (((Below.refl w.heap.size w).alloc (Nat.le_refl _) _).trans (hb1.mono (by simp)))
 have hblk:=(hb1.block w.heap.size (by simp)).trans (heap_alloc_new w _)
 obtain ⟨⟨k0,k1,k2,k3,k4,k5⟩,kf⟩:=cells_six hblk
 clear cN hb1 hblk
 cases b1 with
 | false =>
  go_wp2_with fail
  go_ret
  exact ⟨rfl,HB1.out⟩
 | true =>
  have cT:=HR.out w1 HB1.out
  go_wp2_with fail
  refine cT.mono ?_
  rintro e w3 ⟨rfl,hb3⟩
  have HB3:=Lib.hid (HB1.out.trans (hb3.mono HB1.out.size))
  clear cT hb3
  go_wp2_with fail
  go_ret
  exact ⟨rfl,HB3.out⟩
end Go.Proofs.YtpbnhnilfpoljaaGreatDoor.V
