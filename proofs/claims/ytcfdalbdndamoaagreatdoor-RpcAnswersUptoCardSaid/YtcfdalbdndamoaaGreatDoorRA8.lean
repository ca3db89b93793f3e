/- What the claim needs of the texts VRead12, Plain, Lays, VRead13, VRight, VRightK. -/
import Derived.Test.YtcfdalbdndamoaaGreatDoorRA7
import Derived.Lib.DecodeN
import Derived.Lib.ValidU
import Derived.Lib.ValidAsc
import Derived.Lib.RuneCountTail
import Derived.Test.YtcfdalbdndamoaaGreatDoorProg
import Derived.Shelf.Unicode.ValidAny
namespace Go.Proofs.YtcfdalbdndamoaaGreatDoor.V
open Go.RowKit
open Go.Lib
def skipR : Res Val → Res Val
 | .ok v r => .ok v (skip r)
 | .bad => .bad
 | .deep => .deep
theorem value_list {f o : Nat} {l r : List UInt8} (h : skip l = 91 :: r) : value (f + 1) o l = skipR (listP f o r) := by
 simp only [value,h,listP,partsG]
 by_cases ho : o = 20
 ·rw [if_pos ho,if_pos (by omega)]; rfl
 ·rw [if_neg ho,if_neg (by omega)]
  cases hp : Lib.hasPrefix (skip r) [93] with
  | true =>
   rw [prefix_one hp]; simp [resMap,skipR,Val.arr]
  | false =>
   rw [if_neg (by simp),← items_loop]
   split
   ·rename_i r' h2; rw [h2] at hp; simp [Lib.hasPrefix] at hp
   ·cases items f (o + 1) (skip r) [] <;> rfl
theorem value_record {f o : Nat} {l r : List UInt8} (h : skip l = 123 :: r) : value (f + 1) o l = skipR (recordP f o r) := by
 simp only [value,h,recordP,partsG]
 by_cases ho : o = 20
 ·rw [if_pos ho,if_pos (by omega)]; rfl
 ·rw [if_neg ho,if_neg (by omega)]
  cases hp : Lib.hasPrefix (skip r) [125] with
  | true =>
   rw [prefix_one hp]; simp [resMap,skipR,Val.rcd]
  | false =>
   rw [if_neg (by simp),← fields_loop]
   split
   ·rename_i r' h2; rw [h2] at hp; simp [Lib.hasPrefix] at hp
   ·cases fields f (o + 1) (skip r) [] [] <;> rfl
def plainR (l : List UInt8) : Res Val := match plain l with
 | some (v,r) => .ok v r
 | none => .bad
theorem value_plain {f o : Nat} {l : List UInt8} (h1 : Lib.hasPrefix (skip l) [91] = false) (h2 : Lib.hasPrefix (skip l) [123] = false) : value (f + 1) o l = skipR (plainR (skip l)) := by
 simp only [value,plainR]
 split
 ·rename_i r h; rw [h] at h1; simp [Lib.hasPrefix] at h1
 ·rename_i r h; rw [h] at h2; simp [Lib.hasPrefix] at h2
 ·cases plain (skip l) with
  | none => rfl
  | some p => rfl
theorem readsV_plain {d : Nat} {s : ByteArray} {o : Int} {l : List UInt8} {w w' : World} {e : Ending} (h : ReadsP d s o (plain l) w e w') :
  (∃ so on n t rest,e = .returned (.tuple #[vagg so on n t (.slice none 0 0) (.slice none 0 0),.bool true]) ∧ plainR l = .ok (.mk so on n t [] []) rest ∧ RdL d s rest o w' ∧ Mut w.heap.size d w w') ∨
  (∃ so n t rest,e = .returned (.tuple #[vagg so false n t (.slice none 0 0) (.slice none 0 0),.bool false]) ∧ plainR l = .bad ∧ RdL d s rest o w' ∧ Mut w.heap.size d w w') := by
 unfold plainR
 cases hp : plain l with
 | none =>
  rw [hp] at h
  obtain ⟨so,n,t,r,he,h1,h2⟩ := h
  exact .inr ⟨so,n,t,r,he,rfl,h1,h2⟩
 | some p =>
  obtain ⟨⟨so,on,n,t,l',k'⟩,r⟩ := p
  rw [hp] at h
  match l',k',h with
  | [],[],h => exact .inl ⟨so,on,n,t,r,h.1,rfl,h.2.1,h.2.2⟩
theorem value_fin {d : Nat} {s : ByteArray} {o : Int} {r : Res Val} {w w1 w2 : World} {e : Ending} (h : ReadsV d s o r w1 e w2) (hm01 : Mut w.heap.size d w w1) (hR : w.heap.size < w1.heap.size) (hd : d < w.heap.size) :
  ∃ (so : Int) (on : Bool) (n : Int) (t : List UInt8) (a1 a2 : Option Addr) (n1 c1 n2 c2 : Nat) (en : Int) (rest : List UInt8),
   e = .returned (.tuple #[.agg #[.int .i64 so,.bool on,.int .i64 n,.string ⟨t.toArray⟩,.slice a1 n1 c1,.slice a2 n2 c2],.int .i64 en]) ∧ RdL d s rest o w2 ∧ Mut w1.heap.size d w1 w2 ∧
   ∀ (x0 x1 x2 x3 x4 x5 : Value) (W' : World),Mut w2.heap.size d ((((((w2.setCell ⟨w.heap.size,0,none⟩ x0).setCell ⟨w.heap.size,1,none⟩ x1).setCell ⟨w.heap.size,2,none⟩ x2).setCell ⟨w.heap.size,3,none⟩ x3).setCell ⟨w.heap.size,4,none⟩ x4).setCell ⟨w.heap.size,5,none⟩ x5) W' → RdL d s (skip rest) o W' →
    ReadsV d s o (skipR r) w (.returned (.tuple #[.agg #[.int .i64 so,.bool on,.int .i64 n,.string ⟨t.toArray⟩,.slice a1 n1 c1,.slice a2 n2 c2],.int .i64 en])) W' := by
 obtain ⟨hm12,h⟩ := h
 have z01 := hm01.size
 have z12 := hm12.size
 have chain : ∀ (x0 x1 x2 x3 x4 x5 : Value) (W' : World),Mut w2.heap.size d ((((((w2.setCell ⟨w.heap.size,0,none⟩ x0).setCell ⟨w.heap.size,1,none⟩ x1).setCell ⟨w.heap.size,2,none⟩ x2).setCell ⟨w.heap.size,3,none⟩ x3).setCell ⟨w.heap.size,4,none⟩ x4).setCell ⟨w.heap.size,5,none⟩ x5) W' → Mut w.heap.size d w W' := fun x0 x1 x2 x3 x4 x5 W' hm =>
  (mut6 w.heap.size x0 x1 x2 x3 x4 x5 (hm01.trans (hm12.mono (by omega))) (Nat.le_refl _)).trans (hm.mono (by omega))
 cases r with
 | bad =>
  obtain ⟨rfl,l,hr⟩ := h
  exact ⟨0,false,0,[],none,none,0,0,0,0,21,l,rfl,hr,hm12,fun x0 x1 x2 x3 x4 x5 W' hm hr' => ⟨chain x0 x1 x2 x3 x4 x5 W' hm,rfl,_,hr'⟩⟩
 | deep =>
  obtain ⟨rfl,l,hr⟩ := h
  exact ⟨0,false,0,[],none,none,0,0,0,0,22,l,rfl,hr,hm12,fun x0 x1 x2 x3 x4 x5 W' hm hr' => ⟨chain x0 x1 x2 x3 x4 x5 W' hm,rfl,_,hr'⟩⟩
 | ok v rest =>
  obtain ⟨so,on,n,t,l,ks⟩ := v
  obtain ⟨lv,kv,rfl,hv,hr⟩ := h
  have hv' := hv
  obtain ⟨⟨a1,c1,rfl,_⟩,⟨a2,c2,rfl,_⟩⟩ := hv'
  refine ⟨so,on,n,t,a1,a2,l.length,c1,ks.length,c2,0,rest,rfl,hr,hm12,fun x0 x1 x2 x3 x4 x5 W' hm hr' => ⟨chain x0 x1 x2 x3 x4 x5 W' hm,.slice a1 l.length c1,.slice a2 ks.length c2,rfl,?_,hr'⟩⟩
  refine ValIn.later (R := fun g => w1.heap.size ≤ g) (fun g hg hlt => ?_) (fun g hg => by omega) _ _ _ hv
  exact (hm.block g hlt (by omega)).trans (far6 w2 w.heap.size g _ _ _ _ _ _ (by omega))
theorem heap6 {W : World} {q : Nat} {c0 c1 c2 c3 c4 c5 : Value} {t : TypeId} (h : W.heap[q]? = some (.cells #[c0,c1,c2,c3,c4,c5] t (0,0))) (x0 x1 x2 x3 x4 x5 : Value) :
  ((((((W.setCell ⟨q,0,none⟩ x0).setCell ⟨q,1,none⟩ x1).setCell ⟨q,2,none⟩ x2).setCell ⟨q,3,none⟩ x3).setCell ⟨q,4,none⟩ x4).setCell ⟨q,5,none⟩ x5).heap[q]? = some (.cells #[x0,x1,x2,x3,x4,x5] t (0,0)) := by
 have e0 := Go.Joins.block_setCell (i := 0) h x0
 have e1 := Go.Joins.block_setCell (i := 1) e0 x1
 have e2 := Go.Joins.block_setCell (i := 2) e1 x2
 have e3 := Go.Joins.block_setCell (i := 3) e2 x3
 have e4 := Go.Joins.block_setCell (i := 4) e3 x4
 have e5 := Go.Joins.block_setCell (i := 5) e4 x5
 exact e5
theorem plain_ok_fin {d : Nat} {s : ByteArray} {o : Int} {r : Res Val} {w W' : World} {so n : Int} {on : Bool} {t rest : List UInt8} (hr : r = .ok (.mk so on n t [] []) rest) (hm : Mut w.heap.size d w W') (h : RdL d s (skip rest) o W') :
  ReadsV d s o (skipR r) w (.returned (.tuple #[.agg #[.int .i64 so,.bool on,.int .i64 n,.string ⟨t.toArray⟩,.slice none 0 0,.slice none 0 0],.int .i64 0])) W' := by
 subst hr
 exact ⟨hm,.slice none 0 0,.slice none 0 0,rfl,⟨⟨none,0,rfl,.inl rfl⟩,keysIn_nil _ _⟩,h⟩
theorem plain_bad_fin {d : Nat} {s : ByteArray} {o : Int} {r : Res Val} {w W' : World} {l : List UInt8} (hr : r = .bad) (hm : Mut w.heap.size d w W') (h : RdL d s l o W') :
  ReadsV d s o (skipR r) w (.returned (.tuple #[.agg #[.int .i64 0,.bool false,.int .i64 0,.string ⟨#[]⟩,.slice none 0 0,.slice none 0 0],.int .i64 21])) W' := by
 subst hr
 exact ⟨hm,rfl,l,h⟩
set_option maxHeartbeats 4000000 in
theorem value_step (F d B0 : Nat) (s : ByteArray) (l : List UInt8) (o : Nat) (w : World) (IH : ValC F) (hf2 : F + 1 ≤ 1099511627776)
  (hr : RdL d s l o w) (hE : Env B0 w) (hd : B0 ≤ d) (hs : s.size ≤ 274877906944) (ho : o ≤ 20) (hl : 2 * l.length + 1 ≤ F + 1) :
  Calls Tryz.prog 45 #[.pointer (some ⟨d,0,none⟩)] w (ReadsV d s o (value (F + 1) o l) w) := by
 have hdlt := hr.lt
 have hsl := skip_len l
 have hr0 : ∀ ob,RdL d s l o (w.alloc ob) := fun ob => hr.below ((Below.refl _ _).alloc (Nat.le_refl _) _)
 have hm0 : ∀ ob,Mut w.heap.size d w (w.alloc ob) := fun ob => (Mut.refl _ _ _).alloc (Nat.le_refl _) _
 have hmut : ∀ W,Mut w.heap.size d w W → Env B0 W := fun W hm => hE.mut hd hm
 obtain ⟨l1,hl1⟩ : ∃ l1,skip l = l1 := ⟨_,rfl⟩
 have c1 : ∀ W,RdL d s l o W → Calls Tryz.prog 82 #[.pointer (some ⟨d,0,none⟩),.string ⟨#[32,9,10,13]⟩] W fun e w' => (∃ t,e = .returned (.string t)) ∧ RdL d s l1 o w' ∧ Mut W.heap.size d W w' := fun W h => (takeAll_any d s _ blank set_blank l o W h (by omega)).mono fun e w' ⟨he,h1,h2⟩ => ⟨⟨_,he⟩,by rw [← hl1]; exact h1,h2⟩
 cases hp : Lib.hasPrefix l1 [91] with
 | true =>
  obtain ⟨r,hlr⟩ : ∃ r,l1 = 91 :: r := ⟨_,prefix_one hp⟩
  have hres := value_list (f := F) (o := o) (hl1.trans hlr)
  have hrl : 2 * r.length + 2 ≤ F := by rw [← hl1] at hlr; rw [hlr] at hsl; simp at hsl; omega
  have c2 : ∀ W,RdL d s l1 o W → Calls Tryz.prog 83 #[.pointer (some ⟨d,0,none⟩),.string ⟨#[91]⟩] W fun e w' => e = .returned (.bool true) ∧ RdL d s r o w' ∧ Mut W.heap.size d W w' := fun W h => (take_yes d s ⟨#[91]⟩ l1 o W h (by omega) hp).mono fun e w' ⟨he,h1,h2⟩ => ⟨he,by rw [hlr] at h1; exact h1,h2⟩
  have c3 : ∀ W,RdL d s r o W → Env B0 W → _ := fun W h hE => list_any F F d B0 s r o W IH (Nat.le_refl _) (by omega) h hE hd hs ho hrl
  rw [hres]
  clear hr hE hl1 hp hlr hres IH hsl
  generalize listP F o r = RR at *
  go_enter_defers Tryz.func45,Tryz.ntmps45
  go_wp2_with fail
  refine (c1 _ (hr0 _)).mono ?_; rintro e w1 ⟨⟨tt,rfl⟩,hr1,hm1⟩
  have zz1 := hm1.size
  simp at zz1
  go_wp2_with fail
  refine (c2 _ hr1).mono ?_; rintro e w2 ⟨rfl,hr2,hm2⟩
  have hm02 := (hm0 _).trans ((hm1.trans (hm2.mono hm1.size)).mono (by simp))
  have zz2 := hm2.size
  have hb2 := ((hm2.block w.heap.size (by omega) (by omega)).trans (hm1.block w.heap.size (by simp) (by omega))).trans (heap_alloc_new w _)
  go_wp2_with fail
  refine (c3 _ hr2 (hmut _ hm02)).mono ?_
  intro e w3 hV
  obtain ⟨so,on,n,t,a1,a2,n1,k1,n2,k2,en,rest,rfl,hr3,hm3,hfin⟩ := value_fin hV hm02 (by omega) hdlt
  have hb3 := (hm3.block w.heap.size (by omega) (by omega)).trans hb2
  obtain ⟨⟨j0,j1,j2,j3,j4,j5⟩,jf⟩ := cells_six hb3
  have HFin := Lib.hid hfin
  have HB3 := Lib.hid hb3
  have hw3 : w.heap.size < w3.heap.size := by have := hm3.size; omega
  clear c1 c2 c3 hr0 hm0 hmut hV hfin hb2 hb3 hm1 hm2
  go_wp2_with fail
  refine leaves_cons (f := 82) (args := #[.pointer (some ⟨d,0,none⟩),.string ⟨#[32,9,10,13]⟩]) (by simp) (by simp [go_sem]) ?_
  refine (takeAll_d d s _ blank set_blank rest o _ (rdl6 w.heap.size _ _ _ _ _ _ hr3 (by omega)) (by omega) _).mono ?_
  rintro e u' w4 ⟨rfl,rfl,hr4,hm4⟩
  have hb4 := (hm4.block w.heap.size (by simp; omega) (by omega)).trans (heap6 HB3.out _ _ _ _ _ _)
  obtain ⟨⟨m0,m1,m2,m3,m4,m5⟩,_⟩ := cells_six hb4
  refine ⟨.tuple #[.agg #[.int .i64 so,.bool on,.int .i64 n,.string ⟨t.toArray⟩,.slice a1 n1 k1,.slice a2 n2 k2],.int .i64 en],?_,HFin.out _ _ _ _ _ _ w4 (hm4.mono (by simp)) hr4⟩
  simp [results,Tryz.results45,go_sem,m0,m1,m2,m3,m4,m5]
 | false =>
  cases hp2 : Lib.hasPrefix l1 [123] with
  | true =>
   obtain ⟨r,hlr⟩ : ∃ r,l1 = 123 :: r := ⟨_,prefix_one hp2⟩
   have hres := value_record (f := F) (o := o) (hl1.trans hlr)
   have hrl : 2 * r.length + 2 ≤ F := by rw [← hl1] at hlr; rw [hlr] at hsl; simp at hsl; omega
   have c0 : ∀ W,RdL d s l1 o W → _ := fun W h => take_no d s ⟨#[91]⟩ l1 o W h hp
   have c2 : ∀ W,RdL d s l1 o W → Calls Tryz.prog 83 #[.pointer (some ⟨d,0,none⟩),.string ⟨#[123]⟩] W fun e w' => e = .returned (.bool true) ∧ RdL d s r o w' ∧ Mut W.heap.size d W w' := fun W h => (take_yes d s ⟨#[123]⟩ l1 o W h (by omega) hp2).mono fun e w' ⟨he,h1,h2⟩ => ⟨he,by rw [hlr] at h1; exact h1,h2⟩
   have c3 : ∀ W,RdL d s r o W → Env B0 W → _ := fun W h hE => record_any F F d B0 s r o W IH (Nat.le_refl _) (by omega) h hE hd hs ho hrl
   rw [hres]
   clear hr hE hl1 hp hp2 hlr hres IH hsl
   generalize recordP F o r = RR at *
   go_enter_defers Tryz.func45,Tryz.ntmps45
   go_wp2_with fail
   refine (c1 _ (hr0 _)).mono ?_; rintro e w1 ⟨⟨tt,rfl⟩,hr1,hm1⟩
   have zz1 := hm1.size
   simp at zz1
   go_wp2_with fail
   refine (c0 _ hr1).mono ?_; rintro e w9 ⟨rfl,hr9,hm9⟩
   replace hm1 := hm1.trans (hm9.mono hm1.size)
   have zz9 := hm9.size
   go_wp2_with fail
   refine (c2 _ hr9).mono ?_; rintro e w2 ⟨rfl,hr2,hm2⟩
   have hm02 := (hm0 _).trans ((hm1.trans (hm2.mono hm1.size)).mono (by simp))
   have zz2 := hm2.size
   have hb2 := ((hm2.block w.heap.size (by omega) (by omega)).trans (hm1.block w.heap.size (by simp) (by omega))).trans (heap_alloc_new w _)
   go_wp2_with fail
   refine (c3 _ hr2 (hmut _ hm02)).mono ?_
   intro e w3 hV
   obtain ⟨so,on,n,t,a1,a2,n1,k1,n2,k2,en,rest,rfl,hr3,hm3,hfin⟩ := value_fin hV hm02 (by omega) hdlt
   have hb3 := (hm3.block w.heap.size (by omega) (by omega)).trans hb2
   obtain ⟨⟨j0,j1,j2,j3,j4,j5⟩,jf⟩ := cells_six hb3
   have HFin := Lib.hid hfin
   have HB3 := Lib.hid hb3
   have hw3 : w.heap.size < w3.heap.size := by have := hm3.size; omega
   clear c0 c1 c2 c3 hr0 hm0 hmut hV hfin hb2 hb3 hm1 hm2
   go_wp2_with fail
   refine leaves_cons (f := 82) (args := #[.pointer (some ⟨d,0,none⟩),.string ⟨#[32,9,10,13]⟩]) (by simp) (by simp [go_sem]) ?_
   refine (takeAll_d d s _ blank set_blank rest o _ (rdl6 w.heap.size _ _ _ _ _ _ hr3 (by omega)) (by omega) _).mono ?_
   rintro e u' w4 ⟨rfl,rfl,hr4,hm4⟩
   have hb4 := (hm4.block w.heap.size (by simp; omega) (by omega)).trans (heap6 HB3.out _ _ _ _ _ _)
   obtain ⟨⟨m0,m1,m2,m3,m4,m5⟩,_⟩ := cells_six hb4
   refine ⟨.tuple #[.agg #[.int .i64 so,.bool on,.int .i64 n,.string ⟨t.toArray⟩,.slice a1 n1 k1,.slice a2 n2 k2],.int .i64 en],?_,HFin.out _ _ _ _ _ _ w4 (hm4.mono (by simp)) hr4⟩
   simp [results,Tryz.results45,go_sem,m0,m1,m2,m3,m4,m5]
  | false =>
   have c0 : ∀ W,RdL d s l1 o W → _ := fun W h => take_no d s ⟨#[91]⟩ l1 o W h hp
   have c2 : ∀ W,RdL d s l1 o W → _ := fun W h => take_no d s ⟨#[123]⟩ l1 o W h hp2
   have c3 : ∀ W,RdL d s l1 o W → Env B0 W → _ := fun W h hE => plain_any d s l1 o B0 W h hE hd (by omega)
   have hres := value_plain (f := F) (o := o) (l := l) (by rw [hl1]; exact hp) (by rw [hl1]; exact hp2)
   rw [hl1] at hres
   rw [hres]
   clear hr hE hl1 hp hp2 hres IH hsl
   go_enter_defers Tryz.func45,Tryz.ntmps45
   go_wp2_with fail
   refine (c1 _ (hr0 _)).mono ?_; rintro e w1 ⟨⟨tt,rfl⟩,hr1,hm1⟩
   have zz1 := hm1.size
   simp at zz1
   go_wp2_with fail
   refine (c0 _ hr1).mono ?_; rintro e w9 ⟨rfl,hr9,hm9⟩
   replace hm1 := hm1.trans (hm9.mono hm1.size)
   have zz9 := hm9.size
   go_wp2_with fail
   refine (c2 _ hr9).mono ?_; rintro e w2 ⟨rfl,hr2,hm2⟩
   have hm02 := (hm0 _).trans ((hm1.trans (hm2.mono hm1.size)).mono (by simp))
   have zz2 := hm2.size
   have hb2 := ((hm2.block w.heap.size (by omega) (by omega)).trans (hm1.block w.heap.size (by simp) (by omega))).trans (heap_alloc_new w _)
   go_wp2_with fail
   refine (c3 _ hr2 (hmut _ hm02)).mono ?_
   intro e w3 hP
   rcases readsV_plain hP with ⟨so,on,n,t,rest,rfl,hpl,hr3,hm3⟩ | ⟨so,n,t,rest,rfl,hpl,hr3,hm3⟩
   ·have zz3 := hm3.size
    have hb3 := (hm3.block w.heap.size (by omega) (by omega)).trans hb2
    have hm03 := hm02.trans (hm3.mono (by omega))
    have HPL := Lib.hid hpl
    obtain ⟨⟨j0,j1,j2,j3,j4,j5⟩,jf⟩ := cells_six hb3
    have HB3 := Lib.hid hb3
    have hw3 : w.heap.size < w3.heap.size := by omega
    clear c0 c1 c2 c3 hr0 hm0 hmut hP hb2 hb3 hm1 hm2 hpl
    simp only [vagg]
    go_wp2_with fail
    refine leaves_cons (f := 82) (args := #[.pointer (some ⟨d,0,none⟩),.string ⟨#[32,9,10,13]⟩]) (by simp) (by simp [go_sem]) ?_
    refine (takeAll_d d s _ blank set_blank rest o _ ((rdl6 w.heap.size _ _ _ _ _ _ hr3 (by omega)).below ((Below.refl _ _).alloc (Nat.le_refl _) _)) (by omega) _).mono ?_
    rintro e u' w4 ⟨rfl,rfl,hr4,hm4⟩
    have hb4 := (hm4.block w.heap.size (by simp; omega) (by omega)).trans ((Below.heap_alloc _ _ w.heap.size (by simp; omega)).trans (heap6 HB3.out _ _ _ _ _ _))
    obtain ⟨⟨m0,m1,m2,m3,m4,m5⟩,_⟩ := cells_six hb4
    refine ⟨.tuple #[.agg #[.int .i64 so,.bool on,.int .i64 n,.string ⟨t.toArray⟩,.slice none 0 0,.slice none 0 0],.int .i64 0],?_,plain_ok_fin HPL.out (((mut6 w.heap.size _ _ _ _ _ _ hm03 (Nat.le_refl _)).alloc (by simp; omega) _).trans (hm4.mono (by simp; omega))) hr4⟩
    simp [results,Tryz.results45,go_sem,m0,m1,m2,m3,m4,m5]
   ·have zz3 := hm3.size
    have hb3 := (hm3.block w.heap.size (by omega) (by omega)).trans hb2
    have hm03 := hm02.trans (hm3.mono (by omega))
    have HPL := Lib.hid hpl
    obtain ⟨⟨j0,j1,j2,j3,j4,j5⟩,jf⟩ := cells_six hb3
    have HB3 := Lib.hid hb3
    have hw3 : w.heap.size < w3.heap.size := by omega
    clear c0 c1 c2 c3 hr0 hm0 hmut hP hb2 hb3 hm1 hm2 hpl
    simp only [vagg]
    go_wp2_with fail
    refine leaves_cons (f := 82) (args := #[.pointer (some ⟨d,0,none⟩),.string ⟨#[32,9,10,13]⟩]) (by simp) (by simp [go_sem]) ?_
    refine (takeAll_d d s _ blank set_blank rest o _ ((rdl6 w.heap.size _ _ _ _ _ _ hr3 (by omega)).below ((Below.refl _ _).alloc (Nat.le_refl _) _)) (by omega) _).mono ?_
    rintro e u' w4 ⟨rfl,rfl,hr4,hm4⟩
    have hb4 := (hm4.block w.heap.size (by simp; omega) (by omega)).trans ((Below.heap_alloc _ _ w.heap.size (by simp; omega)).trans (heap6 HB3.out _ _ _ _ _ _))
    obtain ⟨⟨m0,m1,m2,m3,m4,m5⟩,_⟩ := cells_six hb4
    refine ⟨.tuple #[.agg #[.int .i64 0,.bool false,.int .i64 0,.string ⟨#[]⟩,.slice none 0 0,.slice none 0 0],.int .i64 21],?_,plain_bad_fin HPL.out (((mut6 w.heap.size _ _ _ _ _ _ hm03 (Nat.le_refl _)).alloc (by simp; omega) _).trans (hm4.mono (by simp; omega))) hr4⟩
    simp [results,Tryz.results45,go_sem,m0,m1,m2,m3,m4,m5]
end Go.Proofs.YtcfdalbdndamoaaGreatDoor.V
namespace Go.Proofs.YtcfdalbdndamoaaGreatDoor.U
open Go.Lib
def uw (r : Nat) : Nat := if 65536 ≤ r then 2 else 1
def itemsF (s : ByteArray) : Nat → Nat → List (Nat × Nat)
 | 0,_ => []
 | f + 1,pos => if pos < s.size then Utf8.decode s pos :: itemsF s f (pos + (Utf8.decode s pos).2) else []
def items (s : ByteArray) : List (Nat × Nat) := itemsF s s.size 0
def okL : List (Nat × Nat) → Bool
 | [] => true
 | x :: t => if x.1 = 65533 ∧ x.2 = 1 then false else okL t
def okB (s : ByteArray) : Bool := okL (items s)
theorem decodeN_bounds (n b0 b1 b2 b3 : Nat) (hn : 1 ≤ n) : 1 ≤ (decodeN n b0 b1 b2 b3).2 ∧ (decodeN n b0 b1 b2 b3).2 ≤ n := by
 unfold decodeN
 repeat' split
 all_goals (simp only; omega)
theorem width_pos (s : ByteArray) (pos : Nat) (h : pos < s.size) : 1 ≤ (Utf8.decode s pos).2 := by
 rw [decode_at]; exact (decodeN_bounds _ _ _ _ _ (by omega)).1
theorem itemsF_end (s : ByteArray) (f pos : Nat) (h : ¬ pos < s.size) : itemsF s f pos = [] := by cases f <;> simp [itemsF,h]
theorem itemsF_step (s : ByteArray) (f pos : Nat) (h : pos < s.size) : itemsF s (f + 1) pos = Utf8.decode s pos :: itemsF s f (pos + (Utf8.decode s pos).2) := by simp [itemsF,h]
def Wide (l : List (Nat × Nat)) : Prop := ∀ x ∈ l,1 ≤ x.2
theorem itemsF_wide (s : ByteArray) : ∀ f pos,Wide (itemsF s f pos)
 | 0,_ => by intro x hx; cases hx
 | f + 1,pos => by
  intro x hx
  by_cases h : pos < s.size
  ·rw [itemsF_step s f pos h] at hx
   rcases List.mem_cons.1 hx with rfl | hx
   ·exact width_pos s pos h
   ·exact itemsF_wide s f _ x hx
  ·rw [itemsF_end s _ pos h] at hx; cases hx
theorem decodeL_drop (s : ByteArray) (pos : Nat) : decodeL (s.data.toList.drop pos) = Utf8.decode s pos := by
 have h := tail_decode s pos 0
 rw [Nat.add_zero] at h
 rw [← h]
 unfold decodeL
 rw [← ext_list s pos]
theorem validGo_ok (s : ByteArray) : ∀ n pos,validGoD n (s.data.toList.drop pos) = okL (itemsF s n pos)
 | 0,_ => rfl
 | n + 1,pos => by
  unfold validGoD
  by_cases h : pos < s.size
  ·have hne : ¬ s.data.toList.drop pos = [] := by
    intro e
    have := congrArg List.length e
    simp at this
    have h2 : s.data.size = s.size := rfl
    omega
   rw [if_neg hne,itemsF_step s n pos h,decodeL_drop]
   simp only [okL]
   split
   ·rfl
   ·rw [List.drop_drop,validGo_ok s n]
  ·have he : s.data.toList.drop pos = [] := by
    apply List.drop_eq_nil_of_le
    have h2 : s.data.size = s.size := rfl
    simp; omega
   rw [if_pos he,itemsF_end s _ pos h]; rfl
theorem valid_ok (s : ByteArray) : validD s.data.toList = okB s := by
 unfold validD okB items
 have h := validGo_ok s s.size 0
 rw [List.drop_zero] at h
 have h2 : s.data.toList.length = s.size := by simp
 rw [h2,h]
def off : List (Nat × Nat) → Nat → Nat → Int → Int × Int
 | [],pos,ahead,unit => if (ahead : Int) = unit then ((pos : Int),0) else (0,12)
 | x :: t,pos,ahead,unit => if (ahead : Int) = unit then ((pos : Int),0) else off t (pos + x.2) (ahead + uw x.1) unit
end Go.Proofs.YtcfdalbdndamoaaGreatDoor.U
namespace Go.Proofs.YtcfdalbdndamoaaGreatDoor.U
open Go.Shelf
def lays_ren : Go.Shelf.Ren := ⟨fun | 196 => 81 | 259 => 107 | n => n,fun | 9 => 9 | 4 => 4 | 3 => 3 | 5 => 5 | 12 => 12 | 119 => 173 | 0 => 0 | 46 => 171 | 139 => 176 | 138 => 175 | 53 => 195 | n => n,fun | 3 => 1 | 4 => 2 | n => n⟩
theorem lays : Lays.n196 Tryz.prog lays_ren := {
 mixed := by kernel_rfl,
 f196 := Tryz.func81.trans (congrArg some (by kernel_rfl)),
 f259 := Tryz.func107.trans (congrArg some (by kernel_rfl)),
 t0 := Tryz.underlying0,
 a0 := Tryz.isAgg0,
 z0 := Tryz.sizeOf0,
 v0 := Tryz.zeroValue0,
 t3 := Tryz.underlying3,
 a3 := Tryz.isAgg3,
 z3 := Tryz.sizeOf3,
 v3 := Tryz.zeroValue3,
 t4 := Tryz.underlying4,
 a4 := Tryz.isAgg4,
 z4 := Tryz.sizeOf4,
 v4 := Tryz.zeroValue4,
 t5 := Tryz.underlying5,
 a5 := Tryz.isAgg5,
 z5 := Tryz.sizeOf5,
 v5 := Tryz.zeroValue5,
 t9 := Tryz.underlying9,
 a9 := Tryz.isAgg9,
 z9 := Tryz.sizeOf9,
 v9 := Tryz.zeroValue9,
 t12 := Tryz.underlying12,
 a12 := Tryz.isAgg12,
 z12 := Tryz.sizeOf12,
 v12 := Tryz.zeroValue12,
 t46 := Tryz.underlying171,
 a46 := Tryz.isAgg171,
 z46 := Tryz.sizeOf171,
 v46 := Tryz.zeroValue171,
 t53 := Tryz.underlying195,
 a53 := Tryz.isAgg195,
 z53 := Tryz.sizeOf195,
 v53 := Tryz.zeroValue195,
 t119 := Tryz.underlying173,
 a119 := Tryz.isAgg173,
 z119 := Tryz.sizeOf173,
 t138 := Tryz.underlying175,
 a138 := Tryz.isAgg175,
 z138 := Tryz.sizeOf175,
 v138 := Tryz.zeroValue175,
 t139 := Tryz.underlying176,
 a139 := Tryz.isAgg176,
 z139 := Tryz.sizeOf176,
 v139 := Tryz.zeroValue176,
 g3 := by kernel_rfl,
 g4 := by kernel_rfl }
end Go.Proofs.YtcfdalbdndamoaaGreatDoor.U
namespace Go.Proofs.YtcfdalbdndamoaaGreatDoor.V
open Go.RowKit
open Go.Lib
theorem value_all : ∀ F,ValC F
 | 0 => fun f hf => absurd hf (Nat.not_lt_zero _)
 | F + 1 => fun f hf d B0 s l o w hr hE hd hs ho hl hf2 => by
  by_cases h : f < F
  ·exact value_all F f h d B0 s l o w hr hE hd hs ho hl hf2
  ·obtain rfl : f = F := by omega
   obtain ⟨G,rfl⟩ : ∃ G,f = G + 1 := ⟨f - 1,by omega⟩
   exact value_step G d B0 s l o w (fun g hg => value_all (G + 1) g (by omega)) hf2 hr hE hd hs ho hl
theorem right_any (s : ByteArray) (w : World) (hs : s.size ≤ 1099511627776) (hE : EnvW w) :
  Calls Tryz.prog 44 #[.string s] w fun e w' => e = .returned (.bool (U.okB s)) ∧ Below w.heap.size w w' := by
 have cV : Calls Tryz.prog 81 #[.string s] w (fun e w' => e = .returned (.bool (Lib.validD s.data.toList)) ∧ Below w.heap.size w w') := Any.utf8_ValidString U.lays s w (by omega) hE.tabs
 rw [U.valid_ok s] at cV
 generalize U.okB s = V at cV ⊢
 go_enter Tryz.func44,Tryz.ntmps44
 go_wp2_with (go_at_call 81; refine cV.mono ?_; rintro e w' ⟨rfl,hb⟩)
 go_ret
 exact ⟨rfl,hb⟩
def readB (s : ByteArray) : Except Int Val := if U.okB s = true then readP s.data.toList else .error 11
def ReadsTop (r : Except Int Val) (w : World) (e : Ending) (w' : World) : Prop :=
 Below w.heap.size w w' ∧ match r with
 | .ok (.mk so on n t l ks) => ∃ lv kv,e = .returned (.tuple #[.agg (six so on n t lv kv).toArray,.int .i64 0]) ∧ ValIn w' (fun g => w.heap.size ≤ g) (.mk so on n t l ks) lv kv
 | .error k => e = .returned (.tuple #[.agg (six 0 false 0 [] (.slice none 0 0) (.slice none 0 0)).toArray,.int .i64 k])
set_option maxHeartbeats 4000000 in
theorem read_any (s : ByteArray) (w : World) (hs : s.size ≤ 274877906944) (hE : EnvW w) :
  Calls Tryz.prog 18 #[.string s] w (ReadsTop (readB s) w) := by
 have cR : ∀ ob,_ := fun ob => right_any s (w.alloc ob) (by omega) (hE.later ((Below.refl _ _).alloc (Nat.le_refl _) ob))
 unfold readB
 by_cases hok : U.okB s = true
 ·rw [if_pos hok]
  rw [hok] at cR
  clear hok
  go_enter Tryz.func18,Tryz.ntmps18
  go_wp2_with fail
  refine (cR _).mono ?_; rintro e w1 ⟨rfl,hb1⟩
  have hz1 := hb1.size
  simp at hz1
  have hb1' := (((Below.refl w.heap.size w).alloc (Nat.le_refl _) (.cells #[.int .i64 0,.bool false,.int .i64 0,.string ⟨#[]⟩,.slice none 0 0,.slice none 0 0] 36))).trans (hb1.mono (by simp))
  have hq1 := (hb1.block w.heap.size (by simp)).trans (heap_alloc_new w _)
  clear cR hb1
  go_wp2_with fail
  have hrd : RdL w1.heap.size s s.data.toList (0 : Nat) (w1.alloc (.cells #[.string s,.int .i64 0,.int .i64 0] 107)) := ⟨0,by omega,rfl,heap_alloc_new w1 _⟩
  have hE2 : Env w1.heap.size (w1.alloc (.cells #[.string s,.int .i64 0,.int .i64 0] 107)) := (Env.start (hE.later hb1')).later ((Below.refl _ _).alloc (Nat.le_refl _) _)
  have cV := value_all (2 * s.data.toList.length + 2) (2 * s.data.toList.length + 1) (by omega) w1.heap.size w1.heap.size s s.data.toList 0 _ hrd hE2 (Nat.le_refl _) hs (by omega) (Nat.le_refl _) (by rw [← Lib.size_eq]; omega)
  have hq2 := (Below.heap_alloc w1 (.cells #[.string s,.int .i64 0,.int .i64 0] 107) w.heap.size (by omega)).trans hq1
  have hz2 : (w1.alloc (.cells #[.string s,.int .i64 0,.int .i64 0] 107)).heap.size = w1.heap.size + 1 := by simp
  have hb2 : Below w.heap.size w (w1.alloc (.cells #[.string s,.int .i64 0,.int .i64 0] 107)) := hb1'.alloc (by omega) _
  clear hrd hE2 hq1
  generalize w1.alloc (.cells #[.string s,.int .i64 0,.int .i64 0] 107) = w2 at *
  have HZ2 := Lib.hid hz2
  clear hz2
  have top : ∀ W',Mut w2.heap.size w1.heap.size w2 W' → Below w.heap.size w W' := fun W' hm => hb2.trans ((hm.mono (by have := HZ2.out; omega)).below (by omega))
  have TOP := Lib.hid top
  clear top
  cases hv : value (2 * s.data.toList.length + 1) 0 s.data.toList with
  | bad =>
   have HRes : Hid (readP s.data.toList = .error 21) := Lib.hid (by simp only [readP,hv])
   rw [hv] at cV
   clear hv
   refine cV.mono ?_; rintro e w3 ⟨hm3,rfl,l3,hr3⟩
   have hz3 := hm3.size
   have hq3 := (hm3.block w.heap.size (by have := HZ2.out; omega) (by omega)).trans hq2
   obtain ⟨⟨j0,j1,j2,j3,j4,j5⟩,jf⟩ := cells_six hq3
   have hw3 : w.heap.size < w3.heap.size := by have := HZ2.out; omega
   simp only [six,strCell]
   go_wp2_with fail
   refine bodyPost_ret (v := .tuple #[.agg (six 0 false 0 [] (.slice none 0 0) (.slice none 0 0)).toArray,.int .i64 21]) (by simp [results,Tryz.results18,go_sem,six,strCell,j0,j1,j2,j3,j4,j5,hw3]) rfl ?_
   rw [HRes.out]
   exact ⟨((mut6 (d := w.heap.size) w.heap.size _ _ _ _ _ _ (Mut.of_below (TOP.out _ hm3)) (Nat.le_refl _)).below (Nat.le_refl _)).alloc (by simp; omega) _,rfl⟩
  | deep =>
   have HRes : Hid (readP s.data.toList = .error 22) := Lib.hid (by simp only [readP,hv])
   rw [hv] at cV
   clear hv
   refine cV.mono ?_; rintro e w3 ⟨hm3,rfl,l3,hr3⟩
   have hz3 := hm3.size
   have hq3 := (hm3.block w.heap.size (by have := HZ2.out; omega) (by omega)).trans hq2
   obtain ⟨⟨j0,j1,j2,j3,j4,j5⟩,jf⟩ := cells_six hq3
   have hw3 : w.heap.size < w3.heap.size := by have := HZ2.out; omega
   simp only [six,strCell]
   go_wp2_with fail
   refine bodyPost_ret (v := .tuple #[.agg (six 0 false 0 [] (.slice none 0 0) (.slice none 0 0)).toArray,.int .i64 22]) (by simp [results,Tryz.results18,go_sem,six,strCell,j0,j1,j2,j3,j4,j5,hw3]) rfl ?_
   rw [HRes.out]
   exact ⟨((mut6 (d := w.heap.size) w.heap.size _ _ _ _ _ _ (Mut.of_below (TOP.out _ hm3)) (Nat.le_refl _)).below (Nat.le_refl _)).alloc (by simp; omega) _,rfl⟩
  | ok v rest =>
   rw [hv] at cV
   obtain ⟨so,on,n,t,vl,vk⟩ := v
   refine cV.mono ?_; rintro e w3 ⟨hm3,lv,kv,rfl,hval,hr3⟩
   have hz3 := hm3.size
   have hq3 := (hm3.block w.heap.size (by have := HZ2.out; omega) (by omega)).trans hq2
   obtain ⟨⟨j0,j1,j2,j3,j4,j5⟩,jf⟩ := cells_six hq3
   have hw3 : w.heap.size < w3.heap.size := by have := HZ2.out; omega
   have hval' := hval
   obtain ⟨⟨a1,k1,rfl,_⟩,⟨a2,k2,rfl,_⟩⟩ := hval'
   have hwne : ∀ ob,RdL w1.heap.size s rest (0 : Nat) (w3.alloc ob) := fun ob => hr3.below ((Below.refl _ _).alloc (Nat.le_refl _) ob)
   have HVAL := Lib.hid hval
   clear hval hr3 hq3 cV
   cases rest with
   | nil =>
    have HRes : Hid (readP s.data.toList = .ok (.mk so on n t vl vk)) := Lib.hid (by simp only [readP,hv])
    have ce : ∀ ob,_ := fun ob => ended_yes w1.heap.size s _ (w3.alloc ob) (hwne ob).done
    clear hv
    simp only [six,strCell]
    go_wp2_with fail
    refine (ce _).mono ?_; rintro e w4 ⟨rfl,nq,rfl⟩
    go_wp2_with fail
    refine bodyPost_ret (v := .tuple #[.agg (six so on n t (.slice a1 vl.length k1) (.slice a2 vk.length k2)).toArray,.int .i64 0]) (by simp [results,Tryz.results18,go_sem,six,strCell,j0,j1,j2,j3,j4,j5,hw3]) rfl ?_
    rw [HRes.out]
    refine ⟨(mut6 (d := w.heap.size) w.heap.size _ _ _ _ _ _ (((Mut.of_below (TOP.out _ hm3)).alloc (by omega) _).drewN nq) (Nat.le_refl _)).below (Nat.le_refl _),_,_,rfl,?_⟩
    refine ValIn.later (R := fun g => w2.heap.size ≤ g) (fun g hg hlt => ?_) (fun g hg => by have := HZ2.out; omega) _ _ _ HVAL.out
    rw [far6 _ _ _ _ _ _ _ _ _ (by have := HZ2.out; omega)]
    exact Below.heap_alloc w3 _ g hlt
   | cons c r =>
    have HRes : Hid (readP s.data.toList = .error 21) := Lib.hid (by simp only [readP,hv])
    have ce : ∀ ob,Calls Tryz.prog 46 #[.pointer (some ⟨w1.heap.size,0,none⟩)] (w3.alloc ob) fun e w' => e = .returned (.bool false) ∧ ∃ n,w' = (w3.alloc ob).drewN n := fun ob => by
     obtain ⟨a,ha,hR,_,_⟩ := (hwne ob).next
     exact ended_no w1.heap.size s a _ (w3.alloc ob) hR ha
    clear hv
    simp only [six,strCell]
    go_wp2_with fail
    refine (ce _).mono ?_; rintro e w4 ⟨rfl,nq,rfl⟩
    go_wp2_with fail
    refine bodyPost_ret (v := .tuple #[.agg (six 0 false 0 [] (.slice none 0 0) (.slice none 0 0)).toArray,.int .i64 21]) (by simp [results,Tryz.results18,go_sem,six,strCell,j0,j1,j2,j3,j4,j5,hw3]) rfl ?_
    rw [HRes.out]
    exact ⟨(mut6 (d := w.heap.size) w.heap.size _ _ _ _ _ _ (((Mut.of_below (TOP.out _ hm3)).alloc (by omega) _).drewN nq) (Nat.le_refl _)).below (Nat.le_refl _),rfl⟩
 ·have hf : U.okB s = false := by simpa using hok
  rw [if_neg hok]
  rw [hf] at cR
  clear hok hf
  go_enter Tryz.func18,Tryz.ntmps18
  go_wp2_with fail
  refine (cR _).mono ?_; rintro e w1 ⟨rfl,hb1⟩
  have hz1 := hb1.size
  simp at hz1
  have hb1' := (((Below.refl w.heap.size w).alloc (Nat.le_refl _) (.cells #[.int .i64 0,.bool false,.int .i64 0,.string ⟨#[]⟩,.slice none 0 0,.slice none 0 0] 36))).trans (hb1.mono (by simp))
  have hq1 := (hb1.block w.heap.size (by simp)).trans (heap_alloc_new w _)
  obtain ⟨⟨j0,j1,j2,j3,j4,j5⟩,jf⟩ := cells_six hq1
  clear cR hb1 hq1
  go_wp2_with fail
  refine bodyPost_ret (v := .tuple #[.agg (six 0 false 0 [] (.slice none 0 0) (.slice none 0 0)).toArray,.int .i64 11]) (by simp [results,Tryz.results18,go_sem,six,strCell,j0,j1,j2,j3,j4,j5]) rfl ?_
  exact ⟨(mut6 (d := w.heap.size) w.heap.size _ _ _ _ _ _ (Mut.of_below hb1') (Nat.le_refl _)).below (Nat.le_refl _),rfl⟩
end Go.Proofs.YtcfdalbdndamoaaGreatDoor.V
namespace Go.Proofs.YtcfdalbdndamoaaGreatDoor.V
open Go.RowKit Go.WideMaps Go.Maps
open Go.Lib
def elseP : Val → Bool
 | .mk so on n t l ks => (!on || so == 1) && (n == 0 || so == 2) && (t.isEmpty || so == 3) && (l.isEmpty || so == 4 || so == 5) && (ks.isEmpty || so == 5)
set_option maxHeartbeats 2000000 in
theorem else_any (so : Int) (on : Bool) (n : Int) (t : List UInt8) (l : List Val) (ks : List (List UInt8)) (a1 a2 : Option Addr) (c1 c2 : Nat) (w : World) (_ : t.length ≤ 1099511627776) (_ : l.length ≤ 1099511627776) (hk : ks.length ≤ 1099511627776) :
  Calls Tryz.prog 99 #[arg (.mk so on n t l ks) (.slice a1 l.length c1) (.slice a2 ks.length c2)] w fun e w' => e = .returned (.bool (elseP (.mk so on n t l ks))) ∧ Below w.heap.size w w' := by
 simp only [arg,six',six,strCell]
 go_enter Tryz.func99,Tryz.ntmps99
 go_wp2_with fail
 all_goals go_ret
 all_goals refine ⟨?_,(Below.refl _ _).alloc (Nat.le_refl _) _⟩
 all_goals (have hk0 : ((ks.length : Int) == 0) = ks.isEmpty := by cases ks <;> simp; omega)
 all_goals simp_all [elseP]
end Go.Proofs.YtcfdalbdndamoaaGreatDoor.V
namespace Go.Proofs.YtcfdalbdndamoaaGreatDoor.V
open Go.RowKit Go.WideMaps Go.Maps
open Go.Lib
def okP (t : List UInt8) : Bool := U.okB ⟨t.toArray⟩
def keysP : List (List UInt8) → List (List UInt8) → Bool
 | [],_ => true
 | k :: r,seen => okP k && !decide (k ∈ seen) && keysP r (seen ++ [k])
theorem key_at {W : World} {R : Nat → Prop} {ks : List (List UInt8)} {kv : Value} (h : KeysIn W R ks kv) (i : Nat) (hi : i < ks.length) :
  ∃ g off cap,kv = .slice (some ⟨g,off,none⟩) ks.length cap ∧ W.cell? ⟨g,off + i,none⟩ = some (.string ⟨(ks[i]).toArray⟩) := by
 obtain ⟨a,cap,rfl,h1⟩ := h
 rcases h1 with h1 | ⟨g,off,rfl,_,hc⟩
 ·subst h1; exact absurd hi (Nat.not_lt_zero _)
 ·exact ⟨g,off,cap,rfl,hc i _ (by simp [hi,strCell])⟩
theorem keysP_drop {ks seen : List (List UInt8)} {k : Nat} (hk : k < ks.length) : keysP (ks.drop k) seen = (okP ks[k] && !decide (ks[k] ∈ seen) && keysP (ks.drop (k + 1)) (seen ++ [ks[k]])) := by
 rw [List.drop_eq_getElem_cons hk]; simp only [keysP]
theorem sum_mem {k : List UInt8} : ∀ {ks : List (List UInt8)},k ∈ ks → k.length ≤ (ks.map fun k => k.length + 1).sum
 | [],h => absurd h (List.not_mem_nil)
 | x :: r,h => by
  rcases List.mem_cons.1 h with h | h
  ·subst h; simp; omega
  ·have := sum_mem h; simp; omega
set_option maxHeartbeats 2000000 in
theorem keys_any (ks : List (List UInt8)) (kv : Value) (R : Nat → Prop) (w : World) (h : KeysIn w R ks kv) (hw : (ks.map fun k => k.length + 1).sum ≤ 1099511627776) (hE : EnvW w) :
  Calls Tryz.prog 102 #[kv] w fun e w' => e = .returned (.bool (keysP ks [])) ∧ Below w.heap.size w w' := by
 have hkl : ks.length ≤ 1099511627776 := Nat.le_trans (wt_keys ks) hw
 have HW := Lib.hid (fun k (hk : k ∈ ks) => Nat.le_trans (sum_mem hk) hw)
 have HK := Lib.hid h
 have HE := Lib.hid hE
 obtain ⟨a,cap,rfl,_⟩ := h
 obtain ⟨R1,hR1⟩ : ∃ r,keysP ks [] = r := ⟨_,rfl⟩
 rw [hR1]
 have HR := Lib.hid (show keysP (ks.drop 0) (ks.take 0) = R1 from hR1)
 obtain ⟨ln,hln⟩ : ∃ k,ks.length = k := ⟨_,rfl⟩
 have HLN := Lib.hid hln
 rw [hln] at hkl ⊢
 clear hR1 hw hE hln
 have hmm := @run_makeMap Tryz.prog
 go_enter Tryz.func102,Tryz.ntmps102
 go_wp2_with fail
 have HB0 := Lib.hid ((Below.refl w.heap.size w).alloc (Nat.le_refl _) (.map #[] 0))
 have HS0 := Lib.hid (Seen.made w)
 generalize w.alloc (.map #[] 0) = w0 at HB0 HS0 ⊢
 clear hmm
 go_loopw [9] (fun iv wr => ∃ i : Nat,iv = .int .i64 i ∧ i ≤ ln ∧ Hid (keysP (ks.drop i) (ks.take i) = R1) ∧ Hid (Below w.heap.size w wr) ∧ Hid (Seen w.heap.size (ks.take i) wr)) (fun iv _ => ln - (Go.RowKit.intOf iv).toNat)
 case atStart => exact ⟨0,rfl,by omega,HR,HB0,HS0⟩
 case round =>
  obtain ⟨i,rfl,hi,HI,HB,HS⟩ := hrel
  by_cases hlt : i < ln
  ·have hll : i < ks.length := by rw [HLN.out]; exact hlt
   have hsm : Same R w wr := fun b _ hb => HB.out.block b hb
   obtain ⟨g,off,cap',he,k0⟩ := key_at (HK.out.later hsm (fun _ h => h)) i hll
   obtain ⟨rfl,rfl⟩ : a = some ⟨g,off,none⟩ ∧ cap' = cap := by cases he; exact ⟨rfl,rfl⟩
   have hdr := keysP_drop (seen := ks.take i) hll
   rw [HI.out] at hdr
   have hsz : (ks[i]).length ≤ 1099511627776 := HW.out _ (List.getElem_mem hll)
   have htk : ks.take i ++ [ks[i]] = ks.take (i + 1) := by rw [List.take_add_one]; simp [hll]
   rw [htk] at hdr
   have hnew := fun W hS => first_new w.heap.size (ks.take i) ks[i] W hS hsz (by rw [List.length_take]; omega)
   have hold := fun W hS => first_old w.heap.size (ks.take i) ks[i] W hS hsz (by rw [List.length_take]; omega)
   rw [htk] at hnew
   generalize ks[i] = key at k0 hdr hnew hold hsz htk
   have cR := right_any ⟨key.toArray⟩ wr (by rw [size_mk]; exact hsz) (HE.out.later (HB.out.mono (Nat.le_refl _)))
   obtain ⟨b1,hb1⟩ : ∃ b,U.okB ⟨key.toArray⟩ = b := ⟨_,rfl⟩
   rw [hb1] at cR
   simp only [okP,hb1] at hdr
   have HDR := Lib.hid hdr
   have HNEW := Lib.hid hnew
   have HOLD := Lib.hid hold
   clear hdr he hb1 hsm hnew hold htk
   go_wp2_with fail
   refine cR.mono ?_
   rintro e w1 ⟨rfl,hb1⟩
   have HS1 := Lib.hid (HS.out.same (hb1.block _ HS.out.lt))
   have HB1 := Lib.hid (HB.out.trans (hb1.mono HB.out.size))
   clear cR hb1
   cases b1 with
   | false =>
    go_wp2_with fail
    go_ret
    exact ⟨by rw [HDR.out]; rfl,HB1.out⟩
   | true =>
    by_cases hin : key ∈ ks.take i
    ·have cF := HOLD.out w1 HS1.out hin
     go_wp2_with fail
     refine cF.mono ?_
     rintro e w2 ⟨rfl,hg⟩
     have HB2 := Lib.hid (HB1.out.grown hg HB1.out.size (by rintro k ⟨⟩; exact Nat.le_refl _))
     clear cF hg
     go_wp2_with fail
     go_ret
     exact ⟨by rw [HDR.out]; simp [hin],HB2.out⟩
    ·have cF := HNEW.out w1 HS1.out hin
     go_wp2_with fail
     refine cF.mono ?_
     rintro e w2 ⟨rfl,hS2,hg⟩
     have HB2 := Lib.hid (HB1.out.grown hg HB1.out.size (by rintro k ⟨⟩; exact Nat.le_refl _))
     have HS2 := Lib.hid hS2
     clear cF hg hS2
     go_wp2_with fail
     go_roundw
     case rel => exact ⟨i + 1,by go_num,by omega,Lib.hid (by rw [HDR.out]; simp [hin]),HB2,HS2⟩
     case measure => simp [Go.RowKit.intOf]; omega
  ·go_wp2_with fail
   go_ret
   refine ⟨?_,HB.out⟩
   obtain rfl : i = ln := by omega
   have h := HI.out
   rw [← HLN.out,List.drop_length] at h
   rw [← h]; rfl
end Go.Proofs.YtcfdalbdndamoaaGreatDoor.V
