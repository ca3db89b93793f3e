/- What the claim needs of the texts VNest, VFirst, VRead10, VRead11. -/
import Derived.Test.YtcfdalbdndamoaaGreatDoorRA6
import Derived.Test.YtcfdalbdndamoaaGreatDoorRA5
import Derived.Maps.OwnOps
import Derived.Maps.Views
import Derived.Carry
namespace Go.Proofs.YtcfdalbdndamoaaGreatDoor.V
open Go.RowKit
open Go.Lib
theorem Val.ind {C : Val → Prop} (h : ∀ so on n t l ks,(∀ v ∈ l,C v) → C (.mk so on n t l ks)) : ∀ v,C v
 | .mk so on n t l ks => h so on n t l ks (go l)
where
 go : ∀ (l : List Val),∀ v ∈ l,C v
  | [],v,hv => absurd hv (List.not_mem_nil)
  | x :: r,v,hv => by
   rcases List.mem_cons.1 hv with h1 | h1
   ·rw [h1]; exact Val.ind h x
   ·exact go r v h1
mutual
def nestP : Val → Nat → Bool
 | .mk so _ _ _ l _,m => if m = 0 then !(so == 4 || so == 5 || !l.isEmpty) else nestL l (m - 1)
def nestL : List Val → Nat → Bool
 | [],_ => true
 | v :: r,m => nestP v m && nestL r m
end
def arg (v : Val) (lv kv : Value) : Value := .agg (six' v lv kv).toArray
theorem part_at {W : World} {R : Nat → Prop} : ∀ {l : List Val} {xs : List Value} {g off : Nat} (k : Nat),ListIn W R l xs → CellsAt W g off xs → (hk : k < l.length) →
  ∃ so on n t l' ks a1 c1 a2 c2,l[k] = .mk so on n t l' ks ∧ ValIn W R (.mk so on n t l' ks) (.slice a1 l'.length c1) (.slice a2 ks.length c2) ∧
   W.cell? ⟨g,off + k * 6,none⟩ = some (.int .i64 so) ∧ W.cell? ⟨g,off + k * 6 + 1,none⟩ = some (.bool on) ∧ W.cell? ⟨g,off + k * 6 + 2,none⟩ = some (.int .i64 n) ∧ W.cell? ⟨g,off + k * 6 + 3,none⟩ = some (.string ⟨t.toArray⟩) ∧
   W.cell? ⟨g,off + k * 6 + 4,none⟩ = some (.slice a1 l'.length c1) ∧ W.cell? ⟨g,off + k * 6 + 5,none⟩ = some (.slice a2 ks.length c2)
 | [],_,_,_,k,_,_,hk => absurd hk (Nat.not_lt_zero _)
 | .mk so on n t l' ks :: r,xs,g,off,0,h,hc,_ => by
  obtain ⟨lv,kv,rest,rfl,hv,_⟩ := h
  have hv' := hv
  obtain ⟨⟨a1,c1,rfl,_⟩,⟨a2,c2,rfl,_⟩⟩ := hv'
  refine ⟨so,on,n,t,l',ks,a1,c1,a2,c2,rfl,hv,?_,?_,?_,?_,?_,?_⟩
  ·exact hc 0 _ rfl
  ·exact hc 1 _ rfl
  ·exact hc 2 _ rfl
  ·exact hc 3 _ rfl
  ·exact hc 4 _ rfl
  ·exact hc 5 _ rfl
 | v :: r,xs,g,off,k + 1,h,hc,hk => by
  obtain ⟨lv,kv,rest,rfl,_,hr⟩ := h
  have hc' : CellsAt W g (off + 6) rest := fun j u hj => by
   have := hc (6 + j) u (by rw [List.getElem?_append_right (by rw [six_length]; omega),six_length]; simpa using hj)
   rwa [show off + 6 + j = off + (6 + j) by omega]
  have := part_at k hr hc' (by simpa using hk)
  simpa [show off + 6 + k * 6 = off + (k + 1) * 6 by omega] using this
theorem nestL_drop {l : List Val} {m k : Nat} (hk : k < l.length) : nestL (l.drop k) m = (nestP l[k] m && nestL (l.drop (k + 1)) m) := by
 rw [List.drop_eq_getElem_cons hk]; simp only [nestL]
mutual
def wt : Val → Nat
 | .mk _ _ _ t l ks => 1 + t.length + (ks.map fun k => k.length + 1).sum + wtL l
def wtL : List Val → Nat
 | [] => 0
 | v :: r => wt v + wtL r
end
theorem wtL_mem {v : Val} : ∀ {l : List Val},v ∈ l → wt v ≤ wtL l
 | [],h => absurd h (List.not_mem_nil)
 | x :: r,h => by
  rcases List.mem_cons.1 h with h | h
  ·subst h; simp only [wtL]; omega
  ·have := wtL_mem h; simp only [wtL]; omega
theorem wtL_length : ∀ (l : List Val),l.length ≤ wtL l
 | [] => Nat.le_refl _
 | v :: r => by
  have h1 := wtL_length r
  have h2 : 1 ≤ wt v := by cases v; simp only [wt]; omega
  simp only [wtL,List.length_cons]; omega
theorem wt_keys : ∀ (ks : List (List UInt8)),ks.length ≤ (ks.map fun k => k.length + 1).sum
 | [] => Nat.le_refl _
 | k :: r => by have := wt_keys r; simp only [List.map_cons,List.sum_cons,List.length_cons]; omega
def NestC (v : Val) : Prop := ∀ (lv kv : Value) (R : Nat → Prop) (m : Nat) (w : World),ValIn w R v lv kv → m ≤ 1099511627776 → wt v ≤ 1099511627776 →
 Calls Tryz.prog 47 #[arg v lv kv,.int .i64 m] w fun e w' => e = .returned (.bool (nestP v m)) ∧ Below w.heap.size w w'
set_option maxHeartbeats 2000000 in
theorem nest_any : ∀ v,NestC v := Val.ind fun so on n t l ks IH lv kv R m w hv hm hw => by
 have hv' := hv
 obtain ⟨⟨a1,c1,rfl,hl⟩,⟨a2,c2,rfl,_⟩⟩ := hv'
 by_cases h0 : m = 0
 ·subst h0
  clear IH hv
  have hb0 : Below w.heap.size w (w.alloc (Obj.cells #[Value.int IntKind.i64 so,Value.bool on,Value.int IntKind.i64 n,Value.string { data := t.toArray },Value.slice a1 l.length c1,Value.slice a2 ks.length c2] 36)) := (Below.refl _ _).alloc (Nat.le_refl _) _
  have HB0 := Lib.hid hb0
  clear hb0
  simp only [arg,six',six,strCell]
  by_cases h4 : so = 4
  ·subst h4
   go_enter Tryz.func47,Tryz.ntmps47
   go_wp2_with fail
   go_ret
   exact ⟨by simp [nestP],HB0.out⟩
  ·by_cases h5 : so = 5
   ·subst h5
    go_enter Tryz.func47,Tryz.ntmps47
    go_wp2_with fail
    go_ret
    exact ⟨by simp [nestP],HB0.out⟩
   ·have q4 : (so == 4) = false := by simpa using h4
    have q5 : (so == 5) = false := by simpa using h5
    cases l with
    | nil =>
     clear hl hw
     simp only [List.length_nil] at HB0 ⊢
     go_enter Tryz.func47,Tryz.ntmps47
     go_wp2_with fail
     go_loopw [28] (fun iv w' => iv = .int .i64 0 ∧ Hid (Below w.heap.size w w')) (fun iv _ => 0)
     case atStart => exact ⟨rfl,HB0⟩
     case round =>
      obtain ⟨rfl,HB⟩ := hrel
      go_wp2_with fail
      go_ret
      exact ⟨by simp [nestP,h4,h5],HB.out⟩
    | cons x r =>
     have hlz : (0 : Int) < ((x :: r).length : Int) := by simp
     have HX := Lib.hid (show (!(x :: r).isEmpty) = true from rfl)
     generalize hl' : (x :: r).length = k at hlz HB0 ⊢
     clear hl'
     go_enter Tryz.func47,Tryz.ntmps47
     go_wp2_with fail
     go_ret
     exact ⟨by simp [nestP],HB0.out⟩
 ·have hres : nestP (.mk so on n t l ks) m = nestL l (m - 1) := by simp only [nestP,if_neg h0]
  obtain ⟨m,rfl⟩ : ∃ k,m = k + 1 := ⟨m - 1,by omega⟩
  rw [hres,Nat.add_sub_cancel]
  clear hres h0
  have hwl : wtL l ≤ 1099511627776 := by simp only [wt] at hw; omega
  have HWM := Lib.hid (fun v (h : v ∈ l) => Nat.le_trans (wtL_mem h) hwl)
  have hlb : l.length ≤ 1099511627776 := Nat.le_trans (wtL_length l) hwl
  clear hw hwl
  have HL := Lib.hid hl
  have HIH := Lib.hid IH
  clear hl hv IH
  obtain ⟨R1,hR1⟩ : ∃ r,nestL l m = r := ⟨_,rfl⟩
  rw [hR1]
  have HR := Lib.hid (show nestL (l.drop 0) m = R1 from hR1)
  clear hR1
  obtain ⟨ln,hln⟩ : ∃ k,l.length = k := ⟨_,rfl⟩
  have HLN := Lib.hid hln
  simp only [arg,six',six,strCell,hln]
  rw [hln] at hlb
  clear hln
  have q0 : (((m + 1 : Nat) : Int) == 0) = false := by simp; omega
  go_enter Tryz.func47,Tryz.ntmps47
  go_wp2_with fail
  have hb0 : Below w.heap.size w (w.alloc (Obj.cells #[Value.int IntKind.i64 so,Value.bool on,Value.int IntKind.i64 n,Value.string { data := t.toArray },Value.slice a1 ln c1,Value.slice a2 ks.length c2] 36)) := (Below.refl _ _).alloc (Nat.le_refl _) _
  have HB0 := Lib.hid hb0
  generalize w.alloc (Obj.cells #[Value.int IntKind.i64 so,Value.bool on,Value.int IntKind.i64 n,Value.string { data := t.toArray },Value.slice a1 ln c1,Value.slice a2 ks.length c2] 36) = w0 at HB0 ⊢
  clear hb0
  go_loopw [28] (fun iv w' => ∃ i : Nat,iv = .int .i64 i ∧ i ≤ ln ∧ Hid (nestL (l.drop i) m = R1) ∧ Hid (Below w.heap.size w w')) (fun iv _ => ln - (Go.RowKit.intOf iv).toNat)
  case atStart => exact ⟨0,rfl,by omega,HR,HB0⟩
  case round =>
   obtain ⟨i,rfl,hi,HI,HB⟩ := hrel
   by_cases hlt : i < ln
   ·have hll : i < l.length := by rw [HLN.out]; exact hlt
    obtain ⟨g,off,xs,rfl,hg,hc,hL⟩ := HL.out.resolve_left (fun h => by rw [h] at hll; exact Nat.not_lt_zero _ hll)
    have hsm : Same R w wr := fun b _ hb => HB.out.block b hb
    obtain ⟨so',on',n',t',l',ks',a1',c1',a2',c2',he,hv',k0,k1,k2,k3,k4,k5⟩ := part_at i (ListIn.later hsm (fun _ h => h) l xs hL) (hc.later hg hsm) hll
    have hdr := nestL_drop (m := m) hll
    rw [HI.out,he] at hdr
    have cP := fun W' (hb' : Below wr.heap.size wr W') => (HIH.out l[i] (List.getElem_mem hll)) (.slice a1' l'.length c1') (.slice a2' ks'.length c2') R m W' (by rw [he]; exact ValIn.later (fun b _ hb => hb'.block b hb) (fun _ h => h) _ _ _ hv') (by omega) (HWM.out _ (List.getElem_mem hll))
    rw [he] at cP
    obtain ⟨b1,hb1⟩ : ∃ b,nestP (.mk so' on' n' t' l' ks') m = b := ⟨_,rfl⟩
    rw [hb1] at hdr
    simp only [hb1,arg,six',six,strCell] at cP
    have HDR := Lib.hid hdr
    clear hdr he hv' hb1 hsm hL hc
    go_wp2_with fail
    refine (cP _ ((Below.refl _ _).alloc (Nat.le_refl _) _)).mono ?_
    rintro e w2 ⟨rfl,hb2⟩
    have HB2 := Lib.hid (HB.out.trans ((((Below.refl wr.heap.size wr).alloc (Nat.le_refl _) _).trans (hb2.mono (by simp))).mono HB.out.size))
    clear cP hb2
    cases b1 with
    | false =>
     go_wp2_with fail
     go_ret
     exact ⟨by rw [HDR.out]; rfl,HB2.out⟩
    | true =>
     go_wp2_with fail
     go_roundw
     case rel => exact ⟨i + 1,by go_num,by omega,Lib.hid (by rw [HDR.out,Bool.true_and]),HB2⟩
     case measure => simp [Go.RowKit.intOf]; omega
   ·go_wp2_with fail
    go_ret
    refine ⟨?_,HB.out⟩
    obtain rfl : i = ln := by omega
    have h := HI.out
    rw [← HLN.out,List.drop_length] at h
    rw [← h]; rfl
end Go.Proofs.YtcfdalbdndamoaaGreatDoor.V
namespace Go.Proofs.YtcfdalbdndamoaaGreatDoor.V
open Go.RowKit Go.WideMaps Go.Maps
open Go.Lib
theorem lawS : Keyed Tryz.prog 9 := string_keyed Tryz.underlying9
theorem zeroI (w : World) : (zeroValue 3).run Tryz.prog w = .ok (.int .i64 0) w := by kernel_rfl
def Seen (m : Nat) (ks : List (List UInt8)) (w : World) : Prop :=
 ∃ D : DataW Unit,w.ownsMap Tryz.prog 9 (plainElem Tryz.prog 3) m ks.length D ∧ IsMap D ∧
  ∀ k,D.atKey (.string k) (.lit (.int .i64 0)) = .lit (.int .i64 (if k ∈ ks then 1 else 0))
theorem Seen.made (w : World) : Seen w.heap.size [] (w.alloc (.map #[] 0)) := ⟨.map [],World.ownsMap_made _ _ _ _,⟨_,rfl⟩,fun k => by simp; rfl⟩
theorem Seen.same {m : Nat} {ks : List (List UInt8)} {w w' : World} (h : Seen m ks w) (hs : w'.heap[m]? = w.heap[m]?) : Seen m ks w' := by
 obtain ⟨D,⟨es,clock,hb,rest⟩,h2⟩ := h
 exact ⟨D,⟨es,clock,hs.trans hb,rest⟩,h2⟩
theorem Seen.lt {m : Nat} {ks : List (List UInt8)} {w : World} (h : Seen m ks w) : m < w.heap.size := by obtain ⟨D,h,_⟩ := h; exact h.lt
def Turns (m : Nat) (w w' : World) : Prop := w.grownBy w' (some m)
set_option maxHeartbeats 1000000 in
theorem first_new (m : Nat) (ks : List (List UInt8)) (k : List UInt8) (w : World) (h : Seen m ks w) (hk : k.length ≤ 1099511627776) (hks : ks.length ≤ 1099511627776) (hnew : ¬ k ∈ ks) :
  Calls Tryz.prog 115 #[.map (some m),.string ⟨k.toArray⟩] w fun e w' => e = .returned (.bool true) ∧ Seen m (ks ++ [k]) w' ∧ Turns m w w' := by
 obtain ⟨D,hown,hD,hat⟩ := h
 have hkey : keyOf Tryz.prog 9 (.string ⟨k.toArray⟩) = some (.string k) := by
  have := keyOf_string_mk (s := ⟨k.toArray⟩) Tryz.underlying9 (by unfold maxLen; rw [size_mk]; omega)
  simpa using this
 obtain ⟨c,hrun,hc,_⟩ := hown.lookup_int lawS Tryz.underlying183 Tryz.underlying3 (zeroI _) hkey
 have hc0 : c = 0 := by
  rw [hat k,if_neg hnew] at hc
  simpa using hc.symm
 subst hc0
 have HAT := Lib.hid hat
 clear hat hc
 go_enter Tryz.func115,Tryz.ntmps115
 go_wp2_with (at_mapUpdate; refine wpList_mapUpdate_own _ rfl _ _ _ 183 rfl 9 3 lawS Tryz.underlying183 _ m ks.length _ rfl hown (by unfold maxLen; omega) _ _ _ rfl rfl hkey _ [] (plainElem_int Tryz.underlying3 (by decide)) ?_)
 intro w1 hown1 hgrow1
 have hD1 : IsMap (D.put (Lit.string k) (DataW.lit (Lit.int IntKind.i64 1))) := hD.put _ _
 have hat1 : ∀ k',(D.put (Lit.string k) (DataW.lit (Lit.int IntKind.i64 1))).atKey (.string k') (.lit (.int .i64 0)) = .lit (.int .i64 (if k' ∈ ks ++ [k] then 1 else 0)) := fun k' => by
  by_cases h : k' = k
  ·subst h; rw [atKey_put_same hD (lawS.key hkey)]; simp
  ·rw [atKey_put_other (by simpa using h),HAT.out k']; simp [h]
 obtain ⟨c2,hrun2,hc2,_⟩ := hown1.lookup_int lawS Tryz.underlying183 Tryz.underlying3 (zeroI _) hkey
 have hc21 : c2 = 1 := by
  rw [hat1 k] at hc2
  simpa using hc2.symm
 subst hc21
 have HAT1 := Lib.hid hat1
 clear hat1 hc2 hrun HAT
 go_wp2_with fail
 go_ret
 exact ⟨rfl,⟨_,by rw [List.length_append]; exact hown1,hD1,HAT1.out⟩,hgrow1⟩
set_option maxHeartbeats 1000000 in
theorem first_old (m : Nat) (ks : List (List UInt8)) (k : List UInt8) (w : World) (h : Seen m ks w) (hk : k.length ≤ 1099511627776) (hks : ks.length ≤ 1099511627776) (hold : k ∈ ks) :
  Calls Tryz.prog 115 #[.map (some m),.string ⟨k.toArray⟩] w fun e w' => e = .returned (.bool false) ∧ Turns m w w' := by
 obtain ⟨D,hown,hD,hat⟩ := h
 have hkey : keyOf Tryz.prog 9 (.string ⟨k.toArray⟩) = some (.string k) := by
  have := keyOf_string_mk (s := ⟨k.toArray⟩) Tryz.underlying9 (by unfold maxLen; rw [size_mk]; omega)
  simpa using this
 obtain ⟨c,hrun,hc,_⟩ := hown.lookup_int lawS Tryz.underlying183 Tryz.underlying3 (zeroI _) hkey
 have hc0 : c = 1 := by
  rw [hat k,if_pos hold] at hc
  simpa using hc.symm
 subst hc0
 clear hat hc
 go_enter Tryz.func115,Tryz.ntmps115
 go_wp2_with (at_mapUpdate; refine wpList_mapUpdate_own _ rfl _ _ _ 183 rfl 9 3 lawS Tryz.underlying183 _ m ks.length _ rfl hown (by unfold maxLen; omega) _ _ _ rfl rfl hkey _ [] (plainElem_int Tryz.underlying3 (by decide)) ?_)
 intro w1 hown1 hgrow1
 obtain ⟨c2,hrun2,hc2,_⟩ := hown1.lookup_int lawS Tryz.underlying183 Tryz.underlying3 (zeroI _) hkey
 have hc21 : c2 = 2 := by
  rw [atKey_put_same hD (lawS.key hkey)] at hc2
  simpa using hc2.symm
 subst hc21
 clear hc2 hrun
 go_wp2_with fail
 go_ret
 exact ⟨rfl,hgrow1⟩
end Go.Proofs.YtcfdalbdndamoaaGreatDoor.V
namespace Go.Proofs.YtcfdalbdndamoaaGreatDoor.V
open Go.RowKit
open Go.Lib
def stepR (o : Nat) (f : Nat) (st : List (List UInt8) × List Val) (l : List UInt8) : Res (List (List UInt8) × List Val) :=
 match key l with
 | none => .bad
 | some (k,r0) => if k ∈ st.1 then .bad else resMap (fun v => (st.1 ++ [k],st.2 ++ [v])) (value f o r0)
theorem fields_loop (o : Nat) : ∀ (f : Nat) (l : List UInt8) (ks : List (List UInt8)) (vs : List Val),fields f o l ks vs = loopG (stepR o) 125 f l (ks,vs)
 | 0,l,ks,vs => by simp only [fields,loopG]
 | f + 1,l,ks,vs => by
  simp only [fields,loopG,stepR]
  cases hk : key l with
  | none => rfl
  | some p =>
   obtain ⟨k,r0⟩ := p
   simp only
   by_cases h0 : k ∈ ks
   ·rw [if_pos h0,if_pos h0]
   ·rw [if_neg h0,if_neg h0]
    cases h : value f o r0 with
    | bad => rfl
    | deep => rfl
    | ok v r =>
     simp only [resMap]
     match r with
     | [] => rfl
     | c :: r' =>
      by_cases h1 : c = 125
      ·subst h1; simp
      ·by_cases h2 : c = 44
       ·subst h2; simp; exact fields_loop o f r' _ _
       ·simp [h1,h2]
def RI (d b p q m : Nat) (Bl : Nat) (st : List (List UInt8) × List Val) (W : World) : Prop :=
 (d < Bl ∧ b < Bl ∧ p < Bl ∧ q < Bl ∧ m < Bl ∧ Bl ≤ W.heap.size ∧ d ≠ b ∧ d ≠ p ∧ d ≠ q ∧ d ≠ m ∧ p ≠ b ∧ q ≠ b ∧ m ≠ b ∧ p ≠ m ∧ q ≠ m) ∧ W.cell? ⟨p,0,none⟩ = some (.pointer (some ⟨d,0,none⟩)) ∧ W.cell? ⟨q,0,none⟩ = some (.map (some m)) ∧ Seen m st.1 W ∧
 ∃ lv kv xs,W.heap[b]? = some (.cells (six 5 false 0 [] lv kv).toArray 36 (0,0)) ∧ W.ownsRow Bl 36 6 lv st.2.length xs ∧ ListIn W (fun g => Bl ≤ g ∧ lv.ownBlock ≠ some g ∧ ¬ kv.ownBlock = some g) st.2 xs ∧
  W.ownsRow Bl 9 1 kv st.1.length (st.1.map strCell) ∧ ∀ g,kv.ownBlock = some g → lv.ownBlock ≠ some g
theorem infoS : (Tryz.prog.info? 9).map (fun i => (i.zero,i.size,i.bytes)) = some (some (.string ⟨#[]⟩),1,16) := by kernel_rfl
theorem row_lt {W : World} {Bl e size n : Nat} {v : Value} {xs : List Value} (h : W.ownsRow Bl e size v n xs) (g : Nat) (hg : v.ownBlock = some g) : Bl ≤ g ∧ g < W.heap.size := World.ownsRowF.lt (World.ownsRowF_of h) g hg
theorem RI.mut {d b p q m Bl : Nat} {st : List (List UInt8) × List Val} {W W' : World} (h : RI d b p q m Bl st W) (hm : Mut W.heap.size d W W') : RI d b p q m Bl st W' := by
 obtain ⟨⟨h1,h2,h3,h4,h5,h6,h7,h8,h9,h10,h11⟩,c1,c2,hs,lv,kv,xs,k1,k2,k3,k4,k5⟩ := h
 have row : ∀ {e size n : Nat} {v : Value} {ys : List Value},W.ownsRow Bl e size v n ys → W'.ownsRow Bl e size v n ys := fun hh => ownsRow_same hh fun g hg => by
  have := row_lt hh g hg
  exact hm.block g this.2 (by omega)
 refine ⟨⟨h1,h2,h3,h4,h5,Nat.le_trans h6 hm.size,h7,h8,h9,h10,h11⟩,?_,?_,hs.same (hm.block m hs.lt (Ne.symm h10)),lv,kv,xs,(hm.block b (by omega) (Ne.symm h7)).trans k1,row k2,?_,row k4,k5⟩
 ·rw [cell_of_same (p := ⟨p,0,none⟩) (hm.block p (by omega) (Ne.symm h8))]; exact c1
 ·rw [cell_of_same (p := ⟨q,0,none⟩) (hm.block q (by omega) (Ne.symm h9))]; exact c2
 ·exact ListIn.later (fun g hg hlt => hm.block g hlt (by omega)) (fun g hg => hg) _ xs k3
set_option maxHeartbeats 2000000 in
set_option maxRecDepth 100000 in
theorem record_part (F f d b p q m Bl B0 : Nat) (s : ByteArray) (l : List UInt8) (o : Nat) (st : List (List UInt8) × List Val) (W : World) (IH : ValC F) (hf : f < F) (hf2 : f ≤ 1099511627776)
  (hr : RdL d s l o W) (hE : Env B0 W) (hd : B0 ≤ d) (hbm : B0 ≤ b ∧ B0 ≤ m) (hs : s.size ≤ 274877906944) (ho : o ≤ 20) (hl : 2 * l.length + 1 ≤ f) (hn : st.1.length ≤ 1099511627776) (hn2 : st.2.length ≤ 1099511627776) (hI : RI d b p q m Bl st W) :
  Calls Tryz.prog 113 #[.pointer (some ⟨p,0,none⟩),.pointer (some ⟨q,0,none⟩),.pointer (some ⟨b,0,none⟩)] W (ReadsX d s o (RI d b p q m Bl) Bl (fun k => k = b ∨ k = m) (stepR o f st l) W) := by
 have hI' := hI
 obtain ⟨⟨h1,h2,h3,h4,h5,h6,h7,h8,h9,h10,h11,h12,h13,h14,h15⟩,c1,c2,hseen,lv,kv,xs,k1,k2,k3,k4,k5⟩ := hI
 have cK := key_any d s l o B0 W hr hE hd (by omega)
 unfold stepR
 cases hk : key l with
 | none =>
  rw [hk] at cK
  clear hr hE hI' hseen k1 k2 k3 k4 k5 c2 IH hk
  go_enter Tryz.func113,Tryz.ntmps113
  go_wp2_with fail
  refine cK.mono ?_; rintro e w1 ⟨mm,l1,rfl,hr1,hm1⟩
  go_wp2_with fail
  go_ret
  exact ⟨MutX.of_mut (hm1.mono h6),rfl,l1,hr1⟩
 | some pr =>
  obtain ⟨k,r0⟩ := pr
  rw [hk] at cK
  have hklen : k.length ≤ 1099511627776 := by
   have := key_tlen hk
   have := hr.len
   omega
  by_cases hold : k ∈ st.1
  ·simp only [if_pos hold]
   have HOLD := Lib.hid hold
   clear hr hE k1 k2 k3 k4 k5 IH hk hI' hold
   go_enter Tryz.func113,Tryz.ntmps113
   go_wp2_with fail
   refine cK.mono ?_; rintro e w1 ⟨rfl,hr1,hm1⟩
   have hz1 := hm1.size
   have c2' : w1.cell? ⟨q,0,none⟩ = some (.map (some m)) := by rw [cell_of_same (p := ⟨q,0,none⟩) (hm1.block q (by omega) (Ne.symm h9))]; exact c2
   have cF := first_old m st.1 k w1 (hseen.same (hm1.block m hseen.lt (Ne.symm h10))) hklen hn HOLD.out
   clear cK c1 c2 hseen
   go_wp2_with fail
   refine cF.mono ?_; rintro e w2 ⟨rfl,ht⟩
   go_wp2_with fail
   go_ret
   have ht : w1.grownBy w2 (some m) := ht
   refine ⟨(MutX.of_mut (hm1.mono h6)).trans ⟨ht.os,ht.tape,ht.output,ht.size,fun j hj hjd hX => ht.block j (by omega) (fun h => hX (.inr (by simpa using h)))⟩,rfl,r0,?_⟩
   obtain ⟨a,g1,g2,g3⟩ := hr1
   exact ⟨a,g1,g2,(ht.block d (g3.lt) (by simpa using h10)).trans g3⟩
  ·simp only [if_neg hold]
   obtain ⟨i0,hi0,hz0,hz1,hz2⟩ := info_parts infoS
   have HNEW := Lib.hid hold
   have H1 := Lib.hid k1
   have H2 := Lib.hid k2
   have H3 := Lib.hid k3
   have H4 := Lib.hid k4
   have H5 := Lib.hid k5
   have HI' := Lib.hid hI'
   clear hI' hold
   go_enter Tryz.func113,Tryz.ntmps113
   go_wp2_with fail
   refine cK.mono ?_; rintro e w1 ⟨rfl,hr1,hm1⟩
   have zw1 := hm1.size
   have c2' : w1.cell? ⟨q,0,none⟩ = some (.map (some m)) := by rw [cell_of_same (p := ⟨q,0,none⟩) (hm1.block q (by omega) (Ne.symm h9))]; exact c2
   have cF := first_new m st.1 k w1 (hseen.same (hm1.block m hseen.lt (Ne.symm h10))) hklen hn HNEW.out
   clear cK c2
   go_wp2_with fail
   refine cF.mono ?_; rintro e w2 ⟨rfl,hseen2,ht⟩
   have ht : w1.grownBy w2 (some m) := ht
   have zw2 := ht.size
   have hb2 : w2.heap[b]? = some (.cells (six 5 false 0 [] lv kv).toArray 36 (0,0)) := (ht.block b (by omega) (by simpa using Ne.symm h13)).trans ((hm1.block b (by omega) (Ne.symm h7)).trans H1.out)
   obtain ⟨⟨j0,j1,j2,j3,j4,j5⟩,jf⟩ := cells_six hb2
   have j5f := jf 5
   clear cF c2' hseen j0 j1 j2 j3 j4 jf k1 k2 k3 k4 k5
   have hown2 : w2.ownsRow Bl 9 1 kv st.1.length (st.1.map strCell) := ownsRow_same H4.out fun g hg => by
    have hg2 := row_lt H4.out g hg
    exact (ht.block g (by omega) (by simp; omega)).trans (hm1.block g hg2.2 (by omega))
   obtain ⟨ka,kc,rfl⟩ := slice_form hown2
   go_wp2_with (at_builtin; refine wpList_append_lies _ rfl (.tmp 22) (.tmp 24) 24 rfl Bl 9 i0 (.string ⟨#[]⟩) 1 16 Tryz.underlying24 hi0 hz0 hz1 hz2 rfl (by decide) (.slice ka st.1.length kc) st.1.length (st.1.map strCell) rfl (hown2.alloc _) ⟨w2.heap.size,0,none⟩ 1 1 [.string ⟨k.toArray⟩] rfl rfl (World.news_of_block (cs := #[.string ⟨k.toArray⟩]) (t := 9) (fr := (0,0)) (heap_alloc_new w2 _)) (by simp [Value.oneCell']) (by omega) (by unfold maxLen; omega) (by omega) (by simp; omega) (w2.heap.size + 1) (by simp) ?_)
   intro gk capk w3 hown3 hgrow3 hat3 hlt3
   have hkvb : (Value.slice ka st.1.length kc).ownBlock ≠ some b := fun h => by have := row_lt H4.out b h; omega
   have hb3 : w3.heap[b]? = some (.cells (six 5 false 0 [] lv (.slice ka st.1.length kc)).toArray 36 (0,0)) := (hgrow3.block b (by simp; omega) (fun h => hkvb h.symm)).trans ((Below.heap_alloc w2 _ b (by omega)).trans hb2)
   obtain ⟨⟨_,_,_,_,_,l5⟩,lf⟩ := cells_six hb3
   have l5f := lf 5
   clear lf j5 j5f
   have far3 : ∀ j,j < W.heap.size → j ≠ d → j ≠ m → (Value.slice ka st.1.length kc).ownBlock ≠ some j → w3.heap[j]? = W.heap[j]? := fun j hj hjd hjm hjk =>
    (hgrow3.block j (by simp; omega) (fun h => hjk h.symm)).trans ((Below.heap_alloc w2 _ j (by omega)).trans ((ht.block j (by omega) (by simpa using hjm)).trans (hm1.block j hj hjd)))
   have hkv : ∀ j,(Value.slice ka st.1.length kc).ownBlock = some j → Bl ≤ j ∧ j < W.heap.size := fun j hj => row_lt H4.out j hj
   have cp3 : w3.cell? ⟨p,0,none⟩ = some (.pointer (some ⟨d,0,none⟩)) := by
    rw [cell_of_same (p := ⟨p,0,none⟩) (far3 p (by omega) (by omega) (by omega) (fun h => by have := hkv p h; omega))]; exact c1
   have FAR3 := Lib.hid far3
   have HKV := Lib.hid hkv
   clear far3 hkv hkvb c1
   go_wp2_with fail
   have hgB : Bl ≤ gk := (row_lt hown3 gk rfl).1
   have hgb : gk ≠ b := by omega
   have hgd : gk ≠ d := by omega
   have z3 := hgrow3.size
   simp at z3
   have far4 : ∀ j,j ≠ b → (w3.setCell ⟨b,5,none⟩ (.slice (some ⟨gk,0,none⟩) (st.1.length + 1) capk)).heap[j]? = w3.heap[j]? := fun j hj => Below.heap_setCell _ _ _ _ hj
   have hb4 : (w3.setCell ⟨b,5,none⟩ (.slice (some ⟨gk,0,none⟩) (st.1.length + 1) capk)).heap[b]? = some (.cells (six 5 false 0 [] lv (.slice (some ⟨gk,0,none⟩) (st.1.length + 1) capk)).toArray 36 (0,0)) := Go.Joins.block_setCell (cs := #[.int .i64 5,.bool false,.int .i64 0,.string ⟨#[]⟩,lv,.slice ka st.1.length kc]) hb3 _
   have z4 : (w3.setCell ⟨b,5,none⟩ (.slice (some ⟨gk,0,none⟩) (st.1.length + 1) capk)).heap.size = w3.heap.size := sc_size _ _ _
   have o4 : (w3.setCell ⟨b,5,none⟩ (.slice (some ⟨gk,0,none⟩) (st.1.length + 1) capk)).os = w3.os := rfl
   have t4 : (w3.setCell ⟨b,5,none⟩ (.slice (some ⟨gk,0,none⟩) (st.1.length + 1) capk)).tape = w3.tape := rfl
   have p4 : (w3.setCell ⟨b,5,none⟩ (.slice (some ⟨gk,0,none⟩) (st.1.length + 1) capk)).output = w3.output := rfl
   generalize w3.setCell ⟨b,5,none⟩ (.slice (some ⟨gk,0,none⟩) (st.1.length + 1) capk) = w4 at *
   have far : ∀ j,j < W.heap.size → j ≠ d → j ≠ m → (Value.slice ka st.1.length kc).ownBlock ≠ some j → j ≠ b → w4.heap[j]? = W.heap[j]? := fun j hj hjd hjm hjk hjb => (far4 j hjb).trans (FAR3.out j hj hjd hjm hjk)
   have hlv : ∀ j,lv.ownBlock = some j → Bl ≤ j ∧ j < W.heap.size := fun j hj => row_lt H2.out j hj
   have hkl : ∀ j,lv.ownBlock = some j → (Value.slice ka st.1.length kc).ownBlock ≠ some j := fun j hj h => H5.out j h hj
   have hgl : lv.ownBlock ≠ some gk := fun h => by
    rcases hat3 with h2 | h2
    ·exact hkl gk h h2
    ·have := hlv gk h; omega
   have hr4 : RdL d s r0 o w4 := by
    obtain ⟨a,g1,g2,g3⟩ := hr1
    refine ⟨a,g1,g2,(far4 d h7).trans ((hgrow3.block d (by simp; have := g3.lt; omega) (fun h => by have := HKV.out d h.symm; omega)).trans ((Below.heap_alloc w2 _ d (by have := g3.lt; omega)).trans ((ht.block d g3.lt (by simpa using h10)).trans g3)))⟩
   have hmx : MutX W.heap.size d (fun j => j = m ∨ j = b ∨ (Value.slice ka st.1.length kc).ownBlock = some j) W w4 := ⟨o4.trans (hgrow3.os.trans (ht.os.trans hm1.os)),t4.trans (hgrow3.tape.trans (ht.tape.trans hm1.tape)),p4.trans (hgrow3.output.trans (ht.output.trans hm1.output)),by omega,fun j hj hjd hX => far j hj hjd (fun h => hX (.inl h)) (fun h => hX (.inr (.inr h))) (fun h => hX (.inr (.inl h)))⟩
   have hE4 : Env B0 w4 := by
    have h0 := hE.size
    refine hE.later ((hmx.mut (B' := B0) h0 (fun j hj => ?_)).below hd)
    rcases hj with rfl | rfl | hj
    ·exact hbm.2
    ·exact hbm.1
    ·have := HKV.out j hj; omega
   have hown4 : w4.ownsRow Bl 36 6 lv st.2.length xs := ownsRow_same H2.out fun g hg => by
    have := hlv g hg
    exact far g this.2 (by omega) (by omega) (hkl g hg) (by omega)
   have hin4 : ListIn w4 (fun g => Bl ≤ g ∧ lv.ownBlock ≠ some g ∧ ¬ some gk = some g) st.2 xs := by
    refine ListIn.later (R := fun g => (Bl ≤ g ∧ lv.ownBlock ≠ some g ∧ ¬ (Value.slice ka st.1.length kc).ownBlock = some g) ∧ g < W.heap.size) (fun g hg hlt => far g hg.2 (by omega) (by omega) hg.1.2.2 (by omega)) (fun g hg => ⟨hg.1.1,hg.1.2.1,fun h => ?_⟩) _ xs (ListIn.bound _ xs H3.out)
    have h : gk = g := by simpa using h
    subst h
    rcases hat3 with h2 | h2
    ·exact hg.1.2.2 h2
    ·omega
   have cV := IH f hf d B0 s r0 o w4 hr4 hE4 hd hs ho (by have := key_len hk; omega) hf2
   have cP := part_any d b Bl st.2.length s o 5 lv (.slice (some ⟨gk,0,none⟩) (st.1.length + 1) capk) xs st.2 _ w4 hb4 hown4 rfl (fun g => some gk = some g) (fun g hg => (Option.some.inj hg) ▸ (by omega)) hin4 h1 h2 h7 (by omega) hn2 cV
   refine cP.mono ?_
   intro e W1 hP
   have key : ∃ v,e = .returned v ∧ ReadsX d s o (RI d b p q m Bl) Bl (fun k => k = b ∨ k = m) (resMap (fun v => (st.1 ++ [k],st.2 ++ [v])) (value f o r0)) W (.returned v) W1 := by
    have hfr : ∀ W1 : World,W1.os = w4.os → W1.tape = w4.tape → W1.output = w4.output → w4.heap.size ≤ W1.heap.size → (∀ j,j < Bl → j ≠ d → j ≠ b → W1.heap[j]? = w4.heap[j]?) → MutX Bl d (fun k => k = b ∨ k = m) W W1 := fun W1 g1 g2 g3 g4 g5 =>
     ⟨g1.trans hmx.os,g2.trans hmx.tape,g3.trans hmx.output,by omega,fun j hj hjd hX => (g5 j hj hjd (fun h => hX (.inl h))).trans (far j (by omega) hjd (fun h => hX (.inr h)) (fun h => by have := HKV.out j h; omega) (fun h => hX (.inl h)))⟩
    cases hv : value f o r0 with
    | bad =>
     rw [hv] at hP
     obtain ⟨rfl,hrb,hmb⟩ := hP
     exact ⟨_,rfl,hfr W1 hmb.os hmb.tape hmb.output hmb.size (fun j hj hjd _ => hmb.block j (by omega) hjd),rfl,hrb⟩
    | deep =>
     rw [hv] at hP
     obtain ⟨rfl,hrb,hmb⟩ := hP
     exact ⟨_,rfl,hfr W1 hmb.os hmb.tape hmb.output hmb.size (fun j hj hjd _ => hmb.block j (by omega) hjd),rfl,hrb⟩
    | ok v rest =>
     rw [hv] at hP
     obtain ⟨rfl,hrb,hmb,lv',xs',n1,n2,n3,n4⟩ := hP
     have hz5 := hmb.size
     have far5 : ∀ j,j < w4.heap.size → j ≠ d → j ≠ b → lv.ownBlock ≠ some j → W1.heap[j]? = w4.heap[j]? := fun j hj hjd hjb hjl => hmb.block j hj hjd (fun h => h.elim hjb hjl)
     refine ⟨_,rfl,hfr W1 hmb.os hmb.tape hmb.output hmb.size (fun j hj hjd hjb => far5 j (by omega) hjd hjb (fun h => by have := hlv j h; omega)),rfl,?_,hrb⟩
     obtain ⟨_,e1,e2,_⟩ := HI'.out
     refine ⟨⟨h1,h2,h3,h4,h5,by omega,h7,h8,h9,h10,h11,h12,h13,h14,h15⟩,?_,?_,?_,lv',.slice (some ⟨gk,0,none⟩) (st.1.length + 1) capk,xs',n1,?_,n3,?_,?_⟩
     ·rw [cell_of_same (p := ⟨p,0,none⟩) ((far5 p (by omega) (by omega) h11 (fun h => by have := hlv p h; omega)).trans (far p (by omega) (by omega) h14 (fun h => by have := HKV.out p h; omega) h11))]; exact e1
     ·rw [cell_of_same (p := ⟨q,0,none⟩) ((far5 q (by omega) (by omega) h12 (fun h => by have := hlv q h; omega)).trans (far q (by omega) (by omega) h15 (fun h => by have := HKV.out q h; omega) h12))]; exact e2
     ·have hml := hseen2.lt
      refine hseen2.same ((far5 m (by omega) (Ne.symm h10) h13 (fun h => by have := hlv m h; omega)).trans ((far4 m h13).trans ((hgrow3.block m (by simp; omega) (fun h => by have := HKV.out m h.symm; omega)).trans (Below.heap_alloc w2 _ m hml))))
     ·rw [List.length_append]; exact n2
     ·have hown5 : W1.ownsRow Bl 9 1 (.slice (some ⟨gk,0,none⟩) (st.1.length + 1) capk) (st.1.length + 1) (st.1.map strCell ++ [.string ⟨k.toArray⟩]) := ownsRow_same hown3 fun g hg => by
       have hg : gk = g := by simpa [Value.ownBlock] using hg
       subst hg
       exact (far5 gk (by omega) hgd hgb hgl).trans (far4 gk hgb)
      rw [List.length_append,List.map_append]; exact hown5
     ·intro g hg h
      have hg : gk = g := by simpa [Value.ownBlock] using hg
      subst hg
      rcases n4 with h6' | h6'
      ·rw [h6'] at h; exact hgl h
      ·have := h6' gk h; omega
   obtain ⟨v,rfl,hX⟩ := key
   clear hP cP
   go_wp2_with fail
   go_ret
   exact hX
end Go.Proofs.YtcfdalbdndamoaaGreatDoor.V
namespace Go.Proofs.YtcfdalbdndamoaaGreatDoor.V
open Go.RowKit
open Go.Lib
def recordP (f o : Nat) (l : List UInt8) : Res Val := resMap (fun p : List (List UInt8) × List Val => Val.rcd p.1 p.2) (partsG (stepR (o + 1)) 125 f o l ([],[]))
theorem five (w : World) (o1 o2 o3 o4 o5 : Obj) : (((((w.alloc o1).alloc o2).alloc o3).alloc o4).alloc o5).heap[w.heap.size]? = some o1 ∧ (((((w.alloc o1).alloc o2).alloc o3).alloc o4).alloc o5).heap[w.heap.size + 1]? = some o2 ∧ (((((w.alloc o1).alloc o2).alloc o3).alloc o4).alloc o5).heap[w.heap.size + 1 + 1]? = some o3 ∧
  (((((w.alloc o1).alloc o2).alloc o3).alloc o4).alloc o5).heap[w.heap.size + 1 + 1 + 1]? = some o4 ∧ (((((w.alloc o1).alloc o2).alloc o3).alloc o4).alloc o5).heap[w.heap.size + 1 + 1 + 1 + 1]? = some o5 ∧
  Below w.heap.size w (((((w.alloc o1).alloc o2).alloc o3).alloc o4).alloc o5) ∧ (((((w.alloc o1).alloc o2).alloc o3).alloc o4).alloc o5).heap.size = w.heap.size + 5 := by
 obtain ⟨h1,h2,h3,hb,hz⟩ := three w o1 o2 o3
 have s4 : ((((w.alloc o1).alloc o2).alloc o3).alloc o4).heap.size = w.heap.size + 4 := by simp
 refine ⟨?_,?_,?_,?_,?_,(hb.alloc (by omega) _).alloc (by omega) _,by simp⟩
 ·rw [Below.heap_alloc _ _ _ (by omega),Below.heap_alloc _ _ _ (by omega)]; exact h1
 ·rw [Below.heap_alloc _ _ _ (by omega),Below.heap_alloc _ _ _ (by omega)]; exact h2
 ·rw [Below.heap_alloc _ _ _ (by omega),Below.heap_alloc _ _ _ (by omega)]; exact h3
 ·rw [Below.heap_alloc _ _ _ (by omega),← hz]; exact heap_alloc_new _ o4
 ·rw [show w.heap.size + 1 + 1 + 1 + 1 = ((((w.alloc o1).alloc o2).alloc o3).alloc o4).heap.size by omega]; exact heap_alloc_new _ o5
theorem keysIn_of {W : World} {Bl : Nat} {ks : List (List UInt8)} {kv : Value} (h : W.ownsRow Bl 9 1 kv ks.length (ks.map strCell)) : KeysIn W (fun g => Bl ≤ g) ks kv := by
 rcases h.2 with ⟨rfl,h0⟩ | ⟨g,cap,cur,rfl,hg,hgg,rest⟩
 ·exact ⟨none,0,by rw [h0],.inl (List.eq_nil_of_length_eq_zero h0)⟩
 ·refine ⟨_,cap,rfl,.inr ⟨g,0,rfl,hg,fun j u hj => ?_⟩⟩
  have h2 := World.ownsRowF.cells (World.ownsRowF_of h) (g := g) rfl j u hj
  rw [show (⟨g,0,none⟩ : Addr).add j = ⟨g,0 + j,none⟩ from by unfold Addr.add; split <;> simp_all] at h2
  exact h2
theorem seen_nil {m : Nat} {W : World} (h : W.heap[m]? = some (.map #[] 0)) : Seen m [] W := by
 obtain ⟨D,⟨es,clock,hb,rest⟩,h2⟩ := Seen.made W
 rw [heap_alloc_new] at hb
 cases hb
 exact ⟨D,⟨_,_,h,rest⟩,h2⟩
theorem stepR_inv {o f : Nat} {st st' : List (List UInt8) × List Val} {l r : List UInt8} (h : stepR o f st l = .ok st' r) : ∃ k r0 v,key l = some (k,r0) ∧ value f o r0 = .ok v r ∧ st' = (st.1 ++ [k],st.2 ++ [v]) := by
 unfold stepR at h
 cases hk : key l with
 | none => rw [hk] at h; cases h
 | some p =>
  obtain ⟨k,r0⟩ := p
  rw [hk] at h
  simp only at h
  split at h
  ·cases h
  ·obtain ⟨v,h2,h3⟩ := resMap_len h
   exact ⟨k,r0,v,rfl,h2,h3⟩
theorem stepR_len {o f : Nat} {st st' : List (List UInt8) × List Val} {l r : List UInt8} (h : stepR o f st l = .ok st' r) : r.length ≤ l.length := by
 obtain ⟨k,r0,v,h1,h2,_⟩ := stepR_inv h
 have := key_len h1
 have := value_len _ _ _ _ _ h2
 omega
theorem stepR_cnt {o f : Nat} {st st' : List (List UInt8) × List Val} {l r : List UInt8} (h : stepR o f st l = .ok st' r) : max st'.1.length st'.2.length ≤ max st.1.length st.2.length + 1 := by
 obtain ⟨k,r0,v,_,_,rfl⟩ := stepR_inv h
 simp only [List.length_append,List.length_cons,List.length_nil]; omega
set_option maxHeartbeats 2000000 in
theorem record_any (F f d B0 : Nat) (s : ByteArray) (l : List UInt8) (o : Nat) (w : World) (IH : ValC F) (hf : f ≤ F) (hf2 : f ≤ 1099511627776)
  (hr : RdL d s l o w) (hE : Env B0 w) (hd : B0 ≤ d) (hs : s.size ≤ 274877906944) (ho : o ≤ 20) (hl : 2 * l.length + 2 ≤ f) :
  Calls Tryz.prog 85 #[.pointer (some ⟨d,0,none⟩)] w (ReadsV d s o (recordP f o l) w) := by
 have hmf : ∀ (fn : Fn) (first cap : Array Value) (w : World),(Instr.makeFunc fn first cap).run Tryz.prog w = .ok (.func fn first cap) w := fun _ _ _ _ => rfl
 have hmm := @run_makeMap Tryz.prog
 have hdlt := hr.lt
 have hz0 := hE.size
 go_enter Tryz.func85,Tryz.ntmps85
 go_wp2_with fail
 obtain ⟨t1,t2,t3,t4,t5,tb,tz⟩ := five w (.cells #[.pointer (some ⟨d,0,none⟩)] 149) (.cells #[.int .i64 0,.bool false,.int .i64 0,.string ⟨#[]⟩,.slice none 0 0,.slice none 0 0] 36) (.cells #[.int .i64 5,.bool false,.int .i64 0,.string ⟨#[]⟩,.slice none 0 0,.slice none 0 0] 36) (.map #[] 0) (.cells #[.map (some (w.heap.size + 1 + 1 + 1))] 183)
 generalize ((((w.alloc (.cells #[.pointer (some ⟨d,0,none⟩)] 149)).alloc (.cells #[.int .i64 0,.bool false,.int .i64 0,.string ⟨#[]⟩,.slice none 0 0,.slice none 0 0] 36)).alloc (.cells #[.int .i64 5,.bool false,.int .i64 0,.string ⟨#[]⟩,.slice none 0 0,.slice none 0 0] 36)).alloc (.map #[] 0)).alloc (.cells #[.map (some (w.heap.size + 1 + 1 + 1))] 183) = W0 at *
 have cP := parts_any (stepR (o + 1)) 125 (RI d (w.heap.size + 1 + 1) w.heap.size (w.heap.size + 1 + 1 + 1 + 1) (w.heap.size + 1 + 1 + 1)) (fun k => k = w.heap.size + 1 + 1 ∨ k = w.heap.size + 1 + 1 + 1) 113 #[.pointer (some ⟨w.heap.size,0,none⟩),.pointer (some ⟨w.heap.size + 1 + 1 + 1 + 1,0,none⟩),.pointer (some ⟨w.heap.size + 1 + 1,0,none⟩)] d B0 f s l o ([],[]) W0
  (hr.below tb) (hE.later (tb.mono hz0)) hd (by omega) ho (by rintro k (rfl | rfl) <;> omega) hl
  (fun f st l st' r h => stepR_len h) (fun st => max st.1.length st.2.length) rfl (fun f st l st' r h => stepR_cnt h)
  (fun W hm => ⟨by have := hm.size; omega,
   by rw [cell_of_same (p := ⟨w.heap.size,0,none⟩) (hm.block w.heap.size (by omega) (by omega))]; unfold World.cell?; rw [t1]; rfl,
   by rw [cell_of_same (p := ⟨w.heap.size + 1 + 1 + 1 + 1,0,none⟩) (hm.block (w.heap.size + 1 + 1 + 1 + 1) (by omega) (by omega))]; unfold World.cell?; rw [t5]; rfl,
   seen_nil ((hm.block _ (by omega) (by omega)).trans t4),
   .slice none 0 0,.slice none 0 0,[],(hm.block _ (by omega) (by omega)).trans t3,World.ownsRow_nil _ _ _ _,rfl,World.ownsRow_nil _ _ _ _,fun g hg => by cases hg⟩)
  (fun Bl st W W' _ h hm => h.mut hm)
  (enters_of Tryz.func113 (by kernel_rfl) rfl)
  (fun Bl f' st l' W ho' hc hl' _ _ hEW hI hrW => record_part F f' d (w.heap.size + 1 + 1) w.heap.size (w.heap.size + 1 + 1 + 1 + 1) (w.heap.size + 1 + 1 + 1) Bl B0 s l' (o + 1) st W IH (by omega) (by omega) hrW hEW hd (by omega) hs (by omega) hl' (by omega) (by omega) hI)
 have HCP := Lib.hid cP
 clear cP
 cases hp : partsG (stepR (o + 1)) 125 f o l ([],[]) with
 | bad =>
  have hres : recordP f o l = .bad := by unfold recordP; rw [hp]; rfl
  have HRes := Lib.hid hres
  have cQ := HCP.out
  rw [hp] at cQ
  clear hres HCP hp
  refine cQ.mono ?_
  rintro e W1 ⟨hm,rfl,l1,hr1⟩
  have hb := (hm.block (w.heap.size + 1) (by omega) (by omega) (by omega)).trans t2
  obtain ⟨⟨k0,k1,k2,k3,k4,k5⟩,kf⟩ := cells_six hb
  have hmw : Mut w.heap.size d w W1 := (Mut.of_below tb).trans (hm.mut (by omega) (by rintro k (rfl | rfl) <;> omega))
  clear cQ hm t1 t2 t3 hb
  go_wp2_with fail
  refine bodyPost_ret (v := .tuple #[.agg (six 0 false 0 [] (.slice none 0 0) (.slice none 0 0)).toArray,.int .i64 21]) (by simp [results,Tryz.results85,go_sem,six,strCell,k0,k1,k2,k3,k4,k5]) rfl ?_
  exact readsV_bad HRes.out hmw hr1 (by omega) (by omega)
 | deep =>
  have hres : recordP f o l = .deep := by unfold recordP; rw [hp]; rfl
  have HRes := Lib.hid hres
  have cQ := HCP.out
  rw [hp] at cQ
  clear hres HCP hp
  refine cQ.mono ?_
  rintro e W1 ⟨hm,rfl,l1,hr1⟩
  have hb := (hm.block (w.heap.size + 1) (by omega) (by omega) (by omega)).trans t2
  obtain ⟨⟨k0,k1,k2,k3,k4,k5⟩,kf⟩ := cells_six hb
  have hmw : Mut w.heap.size d w W1 := (Mut.of_below tb).trans (hm.mut (by omega) (by rintro k (rfl | rfl) <;> omega))
  clear cQ hm t1 t2 t3 hb
  go_wp2_with fail
  refine bodyPost_ret (v := .tuple #[.agg (six 0 false 0 [] (.slice none 0 0) (.slice none 0 0)).toArray,.int .i64 22]) (by simp [results,Tryz.results85,go_sem,six,strCell,k0,k1,k2,k3,k4,k5]) rfl ?_
  exact readsV_deep HRes.out hmw hr1 (by omega) (by omega)
 | ok pr rest =>
  obtain ⟨ks,vs⟩ := pr
  have hres : recordP f o l = .ok (.mk 5 false 0 [] vs ks) rest := by unfold recordP; rw [hp]; rfl
  have HRes := Lib.hid hres
  have cQ := HCP.out
  rw [hp] at cQ
  clear hres HCP hp
  refine cQ.mono ?_
  rintro e W1 ⟨hm,rfl,⟨Bl,⟨i1,i2,i3,_,_,i4,i5,i6,_⟩,_,_,_,lv,kv,xs,i8,i9,i10,i11,_⟩,hr1⟩
  have hb := (hm.block (w.heap.size + 1) (by omega) (by omega) (by omega)).trans t2
  obtain ⟨⟨k0,k1,k2,k3,k4,k5⟩,kf⟩ := cells_six hb
  have HV := Lib.hid (valIn_of (so := 5) (Nat.le_refl _) i9 i10 (keysIn_of i11) false 0 [])
  obtain ⟨la,lc,rfl⟩ := slice_form i9
  obtain ⟨qa,qc,rfl⟩ := slice_form i11
  obtain ⟨⟨j0,j1,j2,j3,j4,j5⟩,jf⟩ := cells_six i8
  replace j3 : W1.cell? ⟨w.heap.size + 1 + 1,3,none⟩ = some (.string ⟨#[]⟩) := j3
  have hmw : Mut w.heap.size d w W1 := (Mut.of_below tb).trans (hm.mut (by omega) (by rintro k (rfl | rfl) <;> omega))
  have hne : ¬ w.heap.size + 1 + 1 = w.heap.size + 1 := by omega
  clear cQ hm t1 t2 t3 hb i8 i9 i10 i11 jf
  go_wp2_with fail
  refine bodyPost_ret (v := .tuple #[.agg (six 5 false 0 [] (.slice la vs.length lc) (.slice qa ks.length qc)).toArray,.int .i64 0]) (by simp [results,Tryz.results85,go_sem,six,strCell,k0,k1,k2,k3,k4,k5]) rfl ?_
  exact readsV_ok HRes.out hmw hr1 HV.out (by omega) (by omega) (by omega)
end Go.Proofs.YtcfdalbdndamoaaGreatDoor.V
