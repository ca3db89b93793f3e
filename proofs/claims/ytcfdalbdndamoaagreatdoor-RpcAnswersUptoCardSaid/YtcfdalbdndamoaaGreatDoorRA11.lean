/- What the claim needs of the texts VRefS. -/
import Derived.Test.YtcfdalbdndamoaaGreatDoorRA9
import Derived.Test.YtcfdalbdndamoaaGreatDoorRA10
import Derived.Deep.QuietTactic
import Derived.BigQuiet
import Derived.Laws.Small
import Derived.Deep.DeepCutAuto
import Derived.Deep.RegionHeld3
import Derived.Deep.DrawnRows
namespace Go.Proofs.YtcfdalbdndamoaaGreatDoor.V
open Go.Lib
def getP : Val → List (List UInt8) → Option Val
 | v,[] => some v
 | .mk so _ _ _ l ks,k :: p =>
  if so = 5 then
   if ks.idxOf k < l.length ∧ ks.idxOf k < ks.length then
    match l[ks.idxOf k]? with
    | some u => getP u p
    | none => none
   else none
  else none
end Go.Proofs.YtcfdalbdndamoaaGreatDoor.V
namespace Go.Proofs.YtcfdalbdndamoaaGreatDoor.V
open Go.RowKit
open Go.Lib
theorem texts_of {W : World} {R : Nat → Prop} {ks : List (List UInt8)} {a : Option Addr} {c : Nat} (h : KeysIn W R ks (.slice a ks.length c)) :
  ks = [] ∨ ∃ g off,a = some ⟨g,off,none⟩ ∧ ∀ i (hi : i < ks.length),W.cell? ⟨g,off + i,none⟩ = some (.string ⟨(ks[i]).toArray⟩) := by
 obtain ⟨a',c',h1,h2⟩ := h
 cases h1
 rcases h2 with h2 | ⟨g,off,h3,_,hc⟩
 ·exact .inl h2
 ·exact .inr ⟨g,off,h3,fun i hi => hc i _ (by simp [hi,strCell])⟩
theorem below_draws (w : World) (k : Nat) (w' : World) (h : w' = w.drewN k) : Below w.heap.size w w' := by
 subst h
 exact ⟨rfl,rfl,rfl,Nat.le_refl _,fun _ _ => rfl⟩
set_option maxHeartbeats 2000000 in
theorem strings_any (l l' : List (List UInt8)) (a a' : Option Addr) (c c' : Nat) (R R' : Nat → Prop) (w : World) (hk : KeysIn w R l (.slice a l.length c)) (hk' : KeysIn w R' l' (.slice a' l'.length c')) (hn : l.length ≤ 1099511627776) :
  Calls Tryz.prog 37 #[.slice a l.length c,.slice a' l'.length c'] w fun e w' => e = .returned (.bool (decide (l = l'))) ∧ Below w.heap.size w w' := by
 by_cases hlen : l.length = l'.length
 ·obtain ⟨F,hF⟩ : ∃ F,decide (l = l') = F := ⟨_,rfl⟩
  have HF := Lib.hid (show decide (l.drop 0 = l'.drop 0) = F from hF)
  have HL := Lib.hid (texts_of hk)
  have HL' := Lib.hid (texts_of hk')
  rw [hF,← hlen]
  have HLEN := Lib.hid hlen
  clear hF hlen hk hk'
  go_enter Tryz.func37,Tryz.ntmps37
  go_wp2_with fail
  go_loopw [5] (fun iv wr => ∃ i : Nat,iv = .int .i64 i ∧ i ≤ l.length ∧ Hid (decide (l.drop i = l'.drop i) = F) ∧ ∃ k,wr = w.drewN k) (fun iv _ => l.length - (Go.RowKit.intOf iv).toNat)
  case atStart => exact ⟨0,rfl,by omega,HF,0,rfl⟩
  case round =>
   obtain ⟨i,rfl,hi,HI,k,rfl⟩ := hrel
   by_cases hlt : i < l.length
   ·have hlt' : i < l'.length := by rw [← HLEN.out]; exact hlt
    have hI := HI.out
    rw [List.drop_eq_getElem_cons hlt,List.drop_eq_getElem_cons hlt'] at hI
    obtain ⟨g,off,rfl,hc⟩ := HL.out.resolve_left (fun h => by rw [h] at hlt; exact Nat.not_lt_zero _ hlt)
    obtain ⟨g',off',rfl,hc'⟩ := HL'.out.resolve_left (fun h => by rw [h] at hlt'; exact Nat.not_lt_zero _ hlt')
    have hci := hc i hlt
    have hci' := hc' i hlt'
    have hdc : ∀ (x y : List UInt8) (r s : List (List UInt8)),decide (x :: r = y :: s) = (decide (x = y) && decide (r = s)) := by
     intro x y r s
     by_cases h1 : x = y <;> by_cases h2 : r = s <;> simp [h1,h2]
    rw [hdc] at hI
    have HI1 := Lib.hid hI
    clear hc hc' hdc hI
    by_cases hx : l[i] = l'[i]
    ·have HI2 := Lib.hid (show decide (l.drop (i + 1) = l'.drop (i + 1)) = F by rw [← HI1.out,decide_eq_true hx,Bool.true_and])
     rw [← hx] at hci'
     clear hx HI1
     generalize l[i] = x at hci hci'
     go_wp2_with fail
     go_quiet (fail)
     go_wp2_with fail
     go_roundw
     case rel => exact ⟨i + 1,by go_num,by omega,HI2,k + nq,by simp⟩
     case measure => simp [Go.RowKit.intOf]; omega
    ·have hF0 : F = false := by rw [← HI1.out,decide_eq_false hx,Bool.false_and]
     subst hF0
     clear HI1
     generalize l[i] = x at hci hx
     generalize l'[i] = y at hci' hx
     have hx2 : (x == y) = false := beq_eq_false_iff_ne.2 hx
     go_wp2_with fail
     go_quiet (fail)
     go_wp2_with fail
     go_ret
     exact ⟨rfl,show Below w.heap.size w ((w.drewN k).drewN nq) from ⟨rfl,rfl,rfl,Nat.le_refl _,fun _ _ => rfl⟩⟩
   ·have hI := HI.out
    rw [List.drop_eq_nil_of_le (by omega),List.drop_eq_nil_of_le (by have := HLEN.out; omega)] at hI
    obtain rfl : true = F := by rw [← hI]; simp
    clear hI
    go_wp2_with fail
    go_ret
    exact ⟨rfl,below_draws w k _ rfl⟩
 ·have hne : decide (l = l') = false := decide_eq_false (fun h => hlen (by rw [h]))
  rw [hne]
  clear hk hk' hne
  go_enter Tryz.func37,Tryz.ntmps37
  go_wp2_with fail
  go_ret
  exact ⟨rfl,Below.refl _ _⟩
end Go.Proofs.YtcfdalbdndamoaaGreatDoor.V
namespace Go.Proofs.YtcfdalbdndamoaaGreatDoor.V
open Go.RowKit
open Go.Lib
attribute [local go_sem ↓] Go.wp_at_zero Go.wp_at_succ
def RSameC (v : Val) : Prop := ∀ (v' : Val) (lv kv lv' kv' : Value) (R R' : Nat → Prop) (w : World),ValIn w R v lv kv → ValIn w R' v' lv' kv' → wt v ≤ 1099511627776 → wt v' ≤ 1099511627776 →
 Calls Tryz.prog 11 #[arg v lv kv,arg v' lv' kv'] w fun e w' => e = .returned (.bool (sameP v v')) ∧ Below w.heap.size w w'
theorem sameP_false {so so' : Int} {on on' : Bool} {n n' : Int} {t t' : List UInt8} {l l' : List Val} {ks ks' : List (List UInt8)} (h : ¬ (ks = ks' ∧ so = so' ∧ on = on' ∧ n = n' ∧ t = t' ∧ l.length = l'.length)) :
  sameP (.mk so on n t l ks) (.mk so' on' n' t' l' ks') = false := by
 rw [Bool.eq_false_iff]
 intro h2
 have := (sameP_iff _ _).1 h2
 injection this with h1 h2 h3 h4 h5 h6
 exact h ⟨h6,h1,h2,h3,h4,by rw [h5]⟩
set_option maxRecDepth 20000 in
set_option maxHeartbeats 8000000 in
theorem rsame_v : ∀ v,RSameC v := Val.ind fun so on n t l ks IH => fun
 | .mk so' on' n' t' l' ks',lv,kv,lv',kv',R,R',w,hv,hv',hw,hw' => by
  have hW : ∀ {X : World},Below w.heap.size w X → ValIn X R (.mk so on n t l ks) lv kv ∧ ValIn X R' (.mk so' on' n' t' l' ks') lv' kv' := fun hb => ⟨hv.later (fun b _ hlt => hb.block b hlt) (fun _ h => h) _ _ _,hv'.later (fun b _ hlt => hb.block b hlt) (fun _ h => h) _ _ _⟩
  obtain ⟨⟨a1,c1,rfl,hl⟩,⟨a2,c2,rfl,_⟩⟩ := hv
  obtain ⟨⟨a1',c1',rfl,hl'⟩,⟨a2',c2',rfl,_⟩⟩ := hv'
  have hw2 := hw
  have hw2' := hw'
  simp only [wt] at hw2 hw2'
  have hwl : wtL l ≤ 1099511627776 := by omega
  have hwl' : wtL l' ≤ 1099511627776 := by omega
  have hkl := wt_keys ks
  have hlb : l.length ≤ 1099511627776 := Nat.le_trans (wtL_length l) hwl
  have hlb' : l'.length ≤ 1099511627776 := Nat.le_trans (wtL_length l') hwl'
  have cE := fun X (hb : Below w.heap.size w X) => strings_any ks ks' a2 a2' c2 c2' R R' X (hW hb).1.2 (hW hb).2.2 (by omega)
  obtain ⟨t1,t2,tb,tz⟩ := two w (.cells #[.int .i64 so,.bool on,.int .i64 n,.string ⟨t.toArray⟩,.slice a1 l.length c1,.slice a2 ks.length c2] 26) (.cells #[.int .i64 so',.bool on',.int .i64 n',.string ⟨t'.toArray⟩,.slice a1' l'.length c1',.slice a2' ks'.length c2'] 26)
  have T1 := Lib.hid t1
  have T2 := Lib.hid t2
  have TB := Lib.hid tb
  have TZ := Lib.hid tz
  have HL := Lib.hid hl
  have HL' := Lib.hid hl'
  have HIH := Lib.hid IH
  have HWM := Lib.hid (fun v (h : v ∈ l) => Nat.le_trans (wtL_mem h) hwl)
  have HWM' := Lib.hid (fun v (h : v ∈ l') => Nat.le_trans (wtL_mem h) hwl')
  have HFL := Lib.hid (@sameP_false so so' on on' n n' t t' l l' ks ks')
  have HTR := Lib.hid (show ks = ks' → so = so' → on = on' → n = n' → t = t' → sameP (.mk so on n t l ks) (.mk so' on' n' t' l' ks') = sameLs l l' from fun h1 h2 h3 h4 h5 => by subst h1; subst h2; subst h3; subst h4; subst h5; simp [sameP])
  obtain ⟨F,hF⟩ : ∃ F,sameP (.mk so on n t l ks) (.mk so' on' n' t' l' ks') = F := ⟨_,rfl⟩
  rw [hF] at HFL HTR ⊢
  simp only [arg,six',six,strCell] at cE ⊢
  clear hW hw hw' hw2 hw2' hwl hwl' hkl t1 t2 tb tz hl hl' IH hF
  go_enter Tryz.func11,Tryz.ntmps11
  go_wp2_with fail
  refine (cE _ TB.out).mono ?_
  rintro e w1 ⟨rfl,hb1⟩
  have htz := TZ.out
  have HB1 := Lib.hid (TB.out.trans (hb1.mono (by omega)))
  have HX1 := Lib.hid ((hb1.block w.heap.size (by omega)).trans T1.out)
  have HY1 := Lib.hid ((hb1.block (w.heap.size + 1) (by omega)).trans T2.out)
  have hz1 := hb1.size
  rw [htz] at hz1
  obtain ⟨⟨j0,j1,j2,j3,j4,j5⟩,jf⟩ := cells_six HX1.out
  obtain ⟨⟨k0,k1,k2,k3,k4,k5⟩,kf⟩ := cells_six HY1.out
  clear cE hb1 htz T1 T2 TB TZ
  by_cases hk : ks = ks'
  ·rw [decide_eq_true hk]
   by_cases hc : so = so' ∧ on = on' ∧ n = n' ∧ t = t' ∧ l.length = l'.length
   ·obtain ⟨rfl,rfl,rfl,rfl,hlen⟩ := hc
    have HFF := Lib.hid (show F = sameLs (l.drop 0) (l'.drop 0) from HTR.out hk rfl rfl rfl rfl)
    have hkl : ks.length = ks'.length := by rw [hk]
    obtain ⟨ln,hln⟩ : ∃ k,l.length = k := ⟨_,rfl⟩
    have HLN := Lib.hid hln
    have HLN' := Lib.hid (hlen.symm.trans hln)
    rw [← hlen,hln] at HY1 k4 ⊢
    rw [hln] at HX1 j4 hlb
    clear hk HFL HTR hlen hkl hln hlb'
    go_wp2_with fail
    clear j0 j1 j2 j3 j4 j5 jf k0 k1 k2 k3 k4 k5 kf
    go_loopw [6] (fun iv wr => ∃ i : Nat,iv = .int .i64 i ∧ i ≤ ln ∧ Hid (F = sameLs (l.drop i) (l'.drop i)) ∧ Hid (Below w1.heap.size w1 wr)) (fun iv _ => ln - (Go.RowKit.intOf iv).toNat)
    case atStart => exact ⟨0,rfl,by omega,HFF,Lib.hid (Below.refl _ _)⟩
    case round =>
     obtain ⟨i,rfl,hi,HI,HB⟩ := hrel
     have hzr := HB.out.size
     have hbw := HB1.out.trans (HB.out.mono HB1.out.size)
     have HXr := Lib.hid ((HB.out.block w.heap.size (by omega)).trans HX1.out)
     have HYr := Lib.hid ((HB.out.block (w.heap.size + 1) (by omega)).trans HY1.out)
     obtain ⟨⟨j0,j1,j2,j3,j4,j5⟩,jf⟩ := cells_six HXr.out
     by_cases hlt : i < ln
     ·have hll : i < l.length := by rw [HLN.out]; exact hlt
      have hll' : i < l'.length := by rw [HLN'.out]; exact hlt
      obtain ⟨g,off,xs,rfl,hg,hc,hL⟩ := HL.out.resolve_left (fun h => by rw [h] at hll; exact Nat.not_lt_zero _ hll)
      obtain ⟨g',off',xs',rfl,hg',hc',hL'⟩ := HL'.out.resolve_left (fun h => by rw [h] at hll'; exact Nat.not_lt_zero _ hll')
      have hsm : ∀ Q,Same Q w wr := fun _ b _ hb => hbw.block b hb
      obtain ⟨so1,on1,n1,t1,l1,ks1,b1,d1,b2,d2,he,hv1,p0,p1,p2,p3,p4,p5⟩ := part_at i (ListIn.later (hsm R) (fun _ h => h) l xs hL) (hc.later hg (hsm R)) hll
      obtain ⟨so2,on2,n2,t2,l2,ks2,e1,f1,e2,f2,he',hv2,q0,q1,q2,q3,q4,q5⟩ := part_at i (ListIn.later (hsm R') (fun _ h => h) l' xs' hL') (hc'.later hg' (hsm R')) hll'
      have hI := HI.out
      rw [sameLs_drop hll hll',he,he'] at hI
      have cP := fun W' (hb' : Below wr.heap.size wr W') => (HIH.out l[i] (List.getElem_mem hll)) l'[i] (.slice b1 l1.length d1) (.slice b2 ks1.length d2) (.slice e1 l2.length f1) (.slice e2 ks2.length f2) R R' W'
       (by rw [he]; exact ValIn.later (fun b _ hb => hb'.block b hb) (fun _ h => h) _ _ _ hv1) (by rw [he']; exact ValIn.later (fun b _ hb => hb'.block b hb) (fun _ h => h) _ _ _ hv2) (HWM.out _ (List.getElem_mem hll)) (HWM'.out _ (List.getElem_mem hll'))
      rw [he,he'] at cP
      obtain ⟨bb,hbb⟩ : ∃ b,sameP (.mk so1 on1 n1 t1 l1 ks1) (.mk so2 on2 n2 t2 l2 ks2) = b := ⟨_,rfl⟩
      rw [hbb] at hI
      simp only [hbb,arg,six',six,strCell] at cP
      obtain ⟨⟨k0,k1,k2,k3,k4,k5⟩,kf⟩ := cells_six HYr.out
      have CC : Hid (∀ W,Below wr.heap.size wr W → (fun W => W.cell? ⟨w.heap.size,4,none⟩ = some (.slice (some ⟨g,off,none⟩) ln c1) ∧ W.cell? ⟨w.heap.size + 1,4,none⟩ = some (.slice (some ⟨g',off',none⟩) ln c1') ∧ W.cell? ⟨g,off + i * 6,none⟩ = some (.int .i64 so1) ∧ W.cell? ⟨g,off + i * 6 + 1,none⟩ = some (.bool on1) ∧ W.cell? ⟨g,off + i * 6 + 2,none⟩ = some (.int .i64 n1) ∧ W.cell? ⟨g,off + i * 6 + 3,none⟩ = some (.string ⟨t1.toArray⟩) ∧ W.cell? ⟨g,off + i * 6 + 4,none⟩ = some (.slice b1 l1.length d1) ∧ W.cell? ⟨g,off + i * 6 + 5,none⟩ = some (.slice b2 ks1.length d2) ∧ W.cell? ⟨g',off' + i * 6,none⟩ = some (.int .i64 so2) ∧ W.cell? ⟨g',off' + i * 6 + 1,none⟩ = some (.bool on2) ∧ W.cell? ⟨g',off' + i * 6 + 2,none⟩ = some (.int .i64 n2) ∧ W.cell? ⟨g',off' + i * 6 + 3,none⟩ = some (.string ⟨t2.toArray⟩) ∧ W.cell? ⟨g',off' + i * 6 + 4,none⟩ = some (.slice e1 l2.length f1) ∧ W.cell? ⟨g',off' + i * 6 + 5,none⟩ = some (.slice e2 ks2.length f2) ∧ Below wr.heap.size wr W) W) := Lib.hid fun W hb => by
       have hc0 := fun (p : Addr) (u : Value) (hp : wr.cell? p = some u) => (hb.cell (p := p) (Lib.lt_of_cell hp)).trans hp
       exact ⟨hc0 _ _ j4,hc0 _ _ k4,hc0 _ _ p0,hc0 _ _ p1,hc0 _ _ p2,hc0 _ _ p3,hc0 _ _ p4,hc0 _ _ p5,hc0 _ _ q0,hc0 _ _ q1,hc0 _ _ q2,hc0 _ _ q3,hc0 _ _ q4,hc0 _ _ q5,hb⟩
      have cP2 : ∀ W,(fun W => W.cell? ⟨w.heap.size,4,none⟩ = some (.slice (some ⟨g,off,none⟩) ln c1) ∧ W.cell? ⟨w.heap.size + 1,4,none⟩ = some (.slice (some ⟨g',off',none⟩) ln c1') ∧ W.cell? ⟨g,off + i * 6,none⟩ = some (.int .i64 so1) ∧ W.cell? ⟨g,off + i * 6 + 1,none⟩ = some (.bool on1) ∧ W.cell? ⟨g,off + i * 6 + 2,none⟩ = some (.int .i64 n1) ∧ W.cell? ⟨g,off + i * 6 + 3,none⟩ = some (.string ⟨t1.toArray⟩) ∧ W.cell? ⟨g,off + i * 6 + 4,none⟩ = some (.slice b1 l1.length d1) ∧ W.cell? ⟨g,off + i * 6 + 5,none⟩ = some (.slice b2 ks1.length d2) ∧ W.cell? ⟨g',off' + i * 6,none⟩ = some (.int .i64 so2) ∧ W.cell? ⟨g',off' + i * 6 + 1,none⟩ = some (.bool on2) ∧ W.cell? ⟨g',off' + i * 6 + 2,none⟩ = some (.int .i64 n2) ∧ W.cell? ⟨g',off' + i * 6 + 3,none⟩ = some (.string ⟨t2.toArray⟩) ∧ W.cell? ⟨g',off' + i * 6 + 4,none⟩ = some (.slice e1 l2.length f1) ∧ W.cell? ⟨g',off' + i * 6 + 5,none⟩ = some (.slice e2 ks2.length f2) ∧ Below wr.heap.size wr W) W → Calls Tryz.prog 11 #[.agg #[.int .i64 so1,.bool on1,.int .i64 n1,.string ⟨t1.toArray⟩,.slice b1 l1.length d1,.slice b2 ks1.length d2],.agg #[.int .i64 so2,.bool on2,.int .i64 n2,.string ⟨t2.toArray⟩,.slice e1 l2.length f1,.slice e2 ks2.length f2]] W fun e w' => e = .returned (.bool bb) ∧ (fun W => W.cell? ⟨w.heap.size,4,none⟩ = some (.slice (some ⟨g,off,none⟩) ln c1) ∧ W.cell? ⟨w.heap.size + 1,4,none⟩ = some (.slice (some ⟨g',off',none⟩) ln c1') ∧ W.cell? ⟨g,off + i * 6,none⟩ = some (.int .i64 so1) ∧ W.cell? ⟨g,off + i * 6 + 1,none⟩ = some (.bool on1) ∧ W.cell? ⟨g,off + i * 6 + 2,none⟩ = some (.int .i64 n1) ∧ W.cell? ⟨g,off + i * 6 + 3,none⟩ = some (.string ⟨t1.toArray⟩) ∧ W.cell? ⟨g,off + i * 6 + 4,none⟩ = some (.slice b1 l1.length d1) ∧ W.cell? ⟨g,off + i * 6 + 5,none⟩ = some (.slice b2 ks1.length d2) ∧ W.cell? ⟨g',off' + i * 6,none⟩ = some (.int .i64 so2) ∧ W.cell? ⟨g',off' + i * 6 + 1,none⟩ = some (.bool on2) ∧ W.cell? ⟨g',off' + i * 6 + 2,none⟩ = some (.int .i64 n2) ∧ W.cell? ⟨g',off' + i * 6 + 3,none⟩ = some (.string ⟨t2.toArray⟩) ∧ W.cell? ⟨g',off' + i * 6 + 4,none⟩ = some (.slice e1 l2.length f1) ∧ W.cell? ⟨g',off' + i * 6 + 5,none⟩ = some (.slice e2 ks2.length f2) ∧ Below wr.heap.size wr W) w' := fun W hS => (cP W hS.2.2.2.2.2.2.2.2.2.2.2.2.2.2).mono (by
       rintro e w' ⟨h1,h2⟩
       exact ⟨h1,CC.out _ (hS.2.2.2.2.2.2.2.2.2.2.2.2.2.2.trans (h2.mono hS.2.2.2.2.2.2.2.2.2.2.2.2.2.2.size))⟩)
      have hS0 := CC.out _ (Below.refl wr.heap.size wr).drew
      dsimp only at cP2 hS0
      have HII := Lib.hid hI
      clear hI he he' hv1 hv2 hbb hsm hL hc hL' hc' cP CC j0 j1 j2 j3 j5 jf k0 k1 k2 k3 k4 k5 kf p0 p1 p2 p3 p4 p5 q0 q1 q2 q3 q4 q5
      go_wp2_with fail
      go_region_held3 (fun W => W.cell? ⟨w.heap.size,4,none⟩ = some (.slice (some ⟨g,off,none⟩) ln c1) ∧ W.cell? ⟨w.heap.size + 1,4,none⟩ = some (.slice (some ⟨g',off',none⟩) ln c1') ∧ W.cell? ⟨g,off + i * 6,none⟩ = some (.int .i64 so1) ∧ W.cell? ⟨g,off + i * 6 + 1,none⟩ = some (.bool on1) ∧ W.cell? ⟨g,off + i * 6 + 2,none⟩ = some (.int .i64 n1) ∧ W.cell? ⟨g,off + i * 6 + 3,none⟩ = some (.string ⟨t1.toArray⟩) ∧ W.cell? ⟨g,off + i * 6 + 4,none⟩ = some (.slice b1 l1.length d1) ∧ W.cell? ⟨g,off + i * 6 + 5,none⟩ = some (.slice b2 ks1.length d2) ∧ W.cell? ⟨g',off' + i * 6,none⟩ = some (.int .i64 so2) ∧ W.cell? ⟨g',off' + i * 6 + 1,none⟩ = some (.bool on2) ∧ W.cell? ⟨g',off' + i * 6 + 2,none⟩ = some (.int .i64 n2) ∧ W.cell? ⟨g',off' + i * 6 + 3,none⟩ = some (.string ⟨t2.toArray⟩) ∧ W.cell? ⟨g',off' + i * 6 + 4,none⟩ = some (.slice e1 l2.length f1) ∧ W.cell? ⟨g',off' + i * 6 + 5,none⟩ = some (.slice e2 ks2.length f2) ∧ Below wr.heap.size wr W) (first | assumption) (first | (go_at_call 11; (with_reducible refine (cP2 _ ?_).mono ?_); assumption; rintro e ws ⟨rfl,hSs⟩))
      have HBs := Lib.hid (HB.out.trans (hSs.2.2.2.2.2.2.2.2.2.2.2.2.2.2.mono hzr))
      clear hS0 hSs cP2 j4
      cases bb with
      | false =>
       have hF : F = false := by rw [HII.out]; rfl
       subst hF
       go_wp2_with fail
       go_ret
       exact ⟨rfl,HB1.out.trans (HBs.out.mono HB1.out.size)⟩
      | true =>
       go_wp2_with fail
       go_roundw
       case rel => exact ⟨i + 1,by go_num,by omega,Lib.hid (by rw [HII.out,Bool.true_and]),HBs⟩
       case measure => simp [Go.RowKit.intOf]; omega
     ·have hF : F = true := by
       rw [HI.out,List.drop_eq_nil_of_le (by rw [HLN.out]; omega),List.drop_eq_nil_of_le (by rw [HLN'.out]; omega)]; simp [sameLs]
      subst hF
      have HE := Lib.hid hbw
      clear hbw
      go_wp2_with fail
      go_ret
      exact ⟨rfl,HE.out⟩
   ·have hF0 : F = false := HFL.out (fun h => hc h.2)
    subst hF0
    have HH := Lib.hid hc
    clear hc hk HFL HTR
    go_wp2_with fail
    all_goals first
     | (go_ret; exact ⟨rfl,HB1.out⟩)
     | exact absurd HH.out (by simp_all <;> omega)
  ·rw [decide_eq_false hk]
   have hF0 : F = false := HFL.out (fun h => hk h.1)
   subst hF0
   clear hk
   go_wp2_with fail
   go_ret
   exact ⟨rfl,HB1.out⟩
end Go.Proofs.YtcfdalbdndamoaaGreatDoor.V
