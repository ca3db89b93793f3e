/- What the claim needs of the texts MMake1, MPlain2, MMake2, MMake3. -/
import Derived.Test.YtcfdalbdndamoaaGreatDoorRA13
import Derived.Test.YtcfdalbdndamoaaGreatDoorRA9
namespace Go.Proofs.YtcfdalbdndamoaaGreatDoor.M
open Go.RowKit
open Go.Lib Go.Proofs.YtcfdalbdndamoaaGreatDoor.V
set_option maxHeartbeats 8000000 in
set_option maxRecDepth 100000 in
theorem record_any (ps : List (List UInt8 × Val)) (g off c : Nat) (R : Nat → Prop) (w : World) (hp : PartsAt w R ps g off) (hpl : ps.length ≤ 1000) :
  Calls Tryz.prog 50 #[.slice (some ⟨g,off,none⟩) ps.length c] w fun e w' => Below w.heap.size w w' ∧ ∃ lv kv,e = .returned (arg (recP (ps.map (·.1)) (ps.map (·.2))) lv kv) ∧ ValIn w' (fun b => R b ∨ w.heap.size ≤ b) (recP (ps.map (·.1)) (ps.map (·.2))) lv kv := by
 obtain ⟨i0,hi0,hz0,hz1,hz2⟩ := info_parts infoV
 obtain ⟨j0,hj0,hy0,hy1,hy2⟩ := info_parts infoS
 obtain ⟨xs0,hc,hP⟩ := hp
 have HC := Lib.hid hc
 have HP := Lib.hid (PartsL.bound _ _ hP)
 obtain ⟨pn,hpn⟩ : ∃ k,ps.length = k := ⟨_,rfl⟩
 have HPN := Lib.hid hpn
 rw [hpn] at hpl ⊢
 clear hc hP hpn
 go_enter Tryz.func50,Tryz.ntmps50
 go_wp2_with fail
 obtain ⟨w1,hw1⟩ : ∃ w1,(w.alloc (.cells #[.int .i64 0,.bool false,.int .i64 0,.string ⟨#[]⟩,.slice none 0 0,.slice none 0 0] 36)).alloc (.cells #[.int .i64 5,.bool false,.int .i64 0,.string ⟨#[]⟩,.slice none 0 0,.slice none 0 0] 36) = w1 := ⟨_,rfl⟩
 rw [hw1]
 have HST : Hid (RcSt R (ps.map (·.1)) (ps.map (·.2)) (.slice none 0 0) (.slice none 0 0) [] 0 w w1) := Lib.hid (by rw [← hw1]; exact rc_start R _ _ w)
 clear hw1
 go_loopw [9] (fun iv wr => ∃ (i : Nat) (al ak : Option Addr) (cl ck : Nat) (xs : List Value),iv = .int .i64 i ∧ i ≤ pn ∧ Hid (RcSt R (ps.map (·.1)) (ps.map (·.2)) (.slice al i cl) (.slice ak i ck) xs i w wr)) (fun iv _ => pn - (Go.RowKit.intOf iv).toNat)
 case atStart => exact ⟨0,none,none,0,0,[],rfl,by omega,HST⟩
 case round =>
  obtain ⟨i,al,ak,cl,ck,xs,rfl,hi,HI⟩ := hrel
  have hzr := HI.out.size
  by_cases hlt : i < pn
  ·have hll : i < ps.length := by rw [HPN.out]; exact hlt
   obtain ⟨so',on',n',t',l',ks',a1',c1',a2',c2',he,hv',p0,p1,p2,p3,p4,p5,p6⟩ := parts_at i HP.out HC.out hll
   have hgw : g < w.heap.size := lt_of_cell p0
   have hb0 := HI.out.below
   replace p0 := (hb0.cell hgw).trans p0
   replace p1 := (hb0.cell hgw).trans p1
   replace p2 := (hb0.cell hgw).trans p2
   replace p3 := (hb0.cell hgw).trans p3
   replace p4 := (hb0.cell hgw).trans p4
   replace p5 := (hb0.cell hgw).trans p5
   replace p6 := (hb0.cell hgw).trans p6
   have hlv : i < (ps.map (·.2)).length := by simpa using hll
   have hlk : i < (ps.map (·.1)).length := by simpa using hll
   have hev : (ps.map (·.2))[i] = .mk so' on' n' t' l' ks' := by simpa using he
   have hek : (ps.map (·.1))[i] = ps[i].1 := by simp
   have HEV := Lib.hid hev
   have HEK := Lib.hid hek
   have HV := Lib.hid hv'
   generalize ps[i].1 = kk at p0 HEK
   clear hb0 he hv' hev hek
   obtain ⟨W1,hW1⟩ : ∃ W1,wr.alloc (.cells #[.string ⟨kk.toArray⟩,.int .i64 so',.bool on',.int .i64 n',.string ⟨t'.toArray⟩,.slice a1' l'.length c1',.slice a2' ks'.length c2'] 78) = W1 := ⟨_,rfl⟩
   have hp1 : W1.heap[wr.heap.size]? = some (.cells #[.string ⟨kk.toArray⟩,.int .i64 so',.bool on',.int .i64 n',.string ⟨t'.toArray⟩,.slice a1' l'.length c1',.slice a2' ks'.length c2'] 78 (0,0)) := by rw [← hW1]; exact heap_alloc_new wr _
   have hx1 : W1.heap[w.heap.size + 1]? = some (.cells #[.int .i64 5,.bool false,.int .i64 0,.string ⟨#[]⟩,.slice al i cl,.slice ak i ck] 36 (0,0)) := by rw [← hW1]; exact (Below.heap_alloc wr _ _ (by omega)).trans HI.out.box
   have hZ1 : wr.heap.size + 1 ≤ W1.heap.size := by rw [← hW1]; simp
   have hok : W1.ownsRow (w.heap.size + 2) 9 1 (.slice ak i ck) i (((ps.map (·.1)).take i).map strCell) := by rw [← hW1]; exact HI.out.keys.alloc _
   have hol : W1.ownsRow (w.heap.size + 2) 36 6 (.slice al i cl) i xs := by rw [← hW1]; exact HI.out.own.alloc _
   have HW1 := Lib.hid hW1
   obtain ⟨⟨_,_,_,_,q4,q5⟩,qf⟩ := cells_six hx1
   have q5f := qf 5
   have r0 : W1.cell? ⟨wr.heap.size,0,none⟩ = some (.string ⟨kk.toArray⟩) := by unfold World.cell?; rw [hp1]; rfl
   have r1 : W1.cell? ⟨wr.heap.size,1,none⟩ = some (.int .i64 so') := by unfold World.cell?; rw [hp1]; rfl
   have r2 : W1.cell? ⟨wr.heap.size,2,none⟩ = some (.bool on') := by unfold World.cell?; rw [hp1]; rfl
   have r3 : W1.cell? ⟨wr.heap.size,3,none⟩ = some (.int .i64 n') := by unfold World.cell?; rw [hp1]; rfl
   have r4 : W1.cell? ⟨wr.heap.size,4,none⟩ = some (.string ⟨t'.toArray⟩) := by unfold World.cell?; rw [hp1]; rfl
   have r5 : W1.cell? ⟨wr.heap.size,5,none⟩ = some (.slice a1' l'.length c1') := by unfold World.cell?; rw [hp1]; rfl
   have r6 : W1.cell? ⟨wr.heap.size,6,none⟩ = some (.slice a2' ks'.length c2') := by unfold World.cell?; rw [hp1]; rfl
   have HX1 := Lib.hid hx1
   have HP1 := Lib.hid hp1
   have HOL := Lib.hid hol
   clear qf hp1 hx1 hol
   go_wp2_with (at_builtin; refine wpList_append_lies _ rfl (.tmp 14) (.tmp 17) 24 rfl (w.heap.size + 2) 9 j0 (.string ⟨#[]⟩) 1 16 Tryz.underlying24 hj0 hy0 hy1 hy2 rfl (by decide) (.slice ak i ck) i (((ps.map (·.1)).take i).map strCell) rfl (hok.alloc _) ⟨W1.heap.size,0,none⟩ 1 1 [.string ⟨kk.toArray⟩] rfl rfl (World.news_of_block (cs := #[.string ⟨kk.toArray⟩]) (t := 9) (fr := (0,0)) (heap_alloc_new W1 _)) (by simp [Value.oneCell']) (by omega) (by unfold maxLen; omega) (by omega) (by simp; omega) (W1.heap.size + 1) (by simp) ?_)
   intro gk ck3 w3 hk3 hg3 hat3 hlt3
   have hkr := row_lt hok
   have hlr := row_lt HOL.out
   have far3 : ∀ k,k < W1.heap.size → (Value.slice ak i ck).ownBlock ≠ some k → w3.heap[k]? = W1.heap[k]? := fun k hk hne => by
    rw [hg3.block k (by simp; omega) (fun h => hne h.symm),Below.heap_alloc _ _ k (by omega)]
   have hx3 := (far3 (w.heap.size + 1) (by omega) (fun h => by have := hkr _ h; omega)).trans HX1.out
   have hp3 := (far3 wr.heap.size (by omega) (fun h => by have := row_lt HI.out.keys _ h; omega)).trans HP1.out
   have hz3 := hg3.size
   simp only [World.size_alloc] at hz3
   have hol3 : w3.ownsRow (w.heap.size + 2) 36 6 (.slice al i cl) i xs := ownsRow_same HOL.out fun g' hg' => far3 g' (hlr g' hg').2 (fun h => owns_apart HOL.out hok (by decide) hg' h.symm)
   have hol4 : (w3.setCell ⟨w.heap.size + 1,5,none⟩ (.slice (some ⟨gk,0,none⟩) (i + 1) ck3)).ownsRow (w.heap.size + 2) 36 6 (.slice al i cl) i xs := ownsRow_same hol3 fun g' hg' => Below.heap_setCell _ _ _ _ (by have := hlr g' hg'; show g' ≠ w.heap.size + 1; omega)
   have hx4 := Go.Joins.block_setCell (i := 5) hx3 (.slice (some ⟨gk,0,none⟩) (i + 1) ck3)
   have hp4 := (Below.heap_setCell w3 ⟨w.heap.size + 1,5,none⟩ (.slice (some ⟨gk,0,none⟩) (i + 1) ck3) wr.heap.size (by show wr.heap.size ≠ w.heap.size + 1; omega)).trans hp3
   have l5 : w3.cell? ⟨w.heap.size + 1,5,none⟩ = some (.slice ak i ck) := by unfold World.cell?; rw [hx3]; rfl
   have l5f : w3.frozen? ⟨w.heap.size + 1,5,none⟩ = false := by unfold World.frozen?; rw [hx3]; simp
   have HK3 := Lib.hid hk3
   have HG3 := Lib.hid hg3
   obtain ⟨w4,hw4⟩ : ∃ w4,w3.setCell ⟨w.heap.size + 1,5,none⟩ (.slice (some ⟨gk,0,none⟩) (i + 1) ck3) = w4 := ⟨_,rfl⟩
   have hz4 : w3.heap.size ≤ w4.heap.size := by rw [← hw4,sc_size]; omega
   rw [hw4] at hol4 hx4 hp4
   clear r0 r1 r2 r3 r4 r5 r6 q4 q5 q5f far3 hx3 hp3 hol3 hk3 hg3 hok
   have q4 : w4.cell? ⟨w.heap.size + 1,4,none⟩ = some (.slice al i cl) := by unfold World.cell?; rw [hx4]; rfl
   have q4f : w4.frozen? ⟨w.heap.size + 1,4,none⟩ = false := by unfold World.frozen?; rw [hx4]; simp
   have r1 : w4.cell? ⟨wr.heap.size,1,none⟩ = some (.int .i64 so') := by unfold World.cell?; rw [hp4]; rfl
   have r2 : w4.cell? ⟨wr.heap.size,2,none⟩ = some (.bool on') := by unfold World.cell?; rw [hp4]; rfl
   have r3 : w4.cell? ⟨wr.heap.size,3,none⟩ = some (.int .i64 n') := by unfold World.cell?; rw [hp4]; rfl
   have r4 : w4.cell? ⟨wr.heap.size,4,none⟩ = some (.string ⟨t'.toArray⟩) := by unfold World.cell?; rw [hp4]; rfl
   have r5 : w4.cell? ⟨wr.heap.size,5,none⟩ = some (.slice a1' l'.length c1') := by unfold World.cell?; rw [hp4]; rfl
   have r6 : w4.cell? ⟨wr.heap.size,6,none⟩ = some (.slice a2' ks'.length c2') := by unfold World.cell?; rw [hp4]; rfl
   have HW4 := Lib.hid hw4
   have HX4 := Lib.hid hx4
   clear hp4 hx4
   go_wp2_with (at_builtin; refine wpList_append_lies _ rfl (.tmp 21) (.tmp 24) 34 rfl (w.heap.size + 2) 36 i0 _ 6 88 Tryz.underlying34 hi0 hz0 hz1 hz2 rfl (by decide) (.slice al i cl) i xs rfl (hol4.alloc _) ⟨w4.heap.size,0,none⟩ 1 1 [.int .i64 so',.bool on',.int .i64 n',.string ⟨t'.toArray⟩,.slice a1' l'.length c1',.slice a2' ks'.length c2'] rfl rfl (World.news_of_block (cs := #[.int .i64 so',.bool on',.int .i64 n',.string ⟨t'.toArray⟩,.slice a1' l'.length c1',.slice a2' ks'.length c2']) (t := 36) (fr := (0,0)) (heap_alloc_new w4 _)) (oneCell_six so' n' on' t' a1' a2' l'.length c1' ks'.length c2') (by omega) (by unfold maxLen; omega) (by omega) (by simp; omega) (w4.heap.size + 1) (by simp) ?_)
   intro gl cl5 w5 hl5 hg5 hat5 hlt5
   have hx5 := (hg5.block (w.heap.size + 1) (by simp; omega) (fun h => by have := row_lt hol4 _ h.symm; omega)).trans ((Below.heap_alloc w4 _ _ (by omega)).trans HX4.out)
   have m4 : w5.cell? ⟨w.heap.size + 1,4,none⟩ = some (.slice al i cl) := by unfold World.cell?; rw [hx5]; rfl
   have m4f : w5.frozen? ⟨w.heap.size + 1,4,none⟩ = false := by unfold World.frozen?; rw [hx5]; simp
   have hfin := rc_step (P := .cells #[.string ⟨kk.toArray⟩,.int .i64 so',.bool on',.int .i64 n',.string ⟨t'.toArray⟩,.slice a1' l'.length c1',.slice a2' ks'.length c2'] 78) (a := .slice a1' l'.length c1') (b := .slice a2' ks'.length c2') HI.out hlv hlk (by rw [HEK.out,show ((ps.map (·.1)).take i).map strCell = List.take i (ps.map (strCell ∘ fun x => x.fst)) by simp [List.map_take]]; exact HK3.out) (by rw [HW1.out]; exact HG3.out) (by rw [HEV.out]; exact hl5) (by rw [HW4.out]; exact hg5) (by rw [HEV.out]; exact HV.out)
   rw [HEV.out] at hfin
   have HFIN := Lib.hid hfin
   clear hfin hx5 hl5 hg5 hol4 r1 r2 r3 r4 r5 r6 q4 q4f
   go_wp2_with fail
   go_roundw
   case rel => exact ⟨i + 1,_,_,_,_,_,by go_num,by omega,HFIN⟩
   case measure => simp [Go.RowKit.intOf]; omega
  ·obtain rfl : i = pn := by omega
   have hst := HI.out
   have HE : Hid (ValIn wr (fun b => (R b ∧ b < w.heap.size) ∨ w.heap.size + 2 ≤ b) (recP (ps.map (·.1)) (ps.map (·.2))) (.slice al i cl) (.slice ak i ck)) := Lib.hid (rc_end (by rw [List.length_map,HPN.out]; exact hst) (by simp))
   have hkn : (ps.map (·.1)).length = i := by rw [List.length_map,HPN.out]
   have hln : (ps.map (·.2)).length = i := by rw [List.length_map,HPN.out]
   obtain ⟨⟨q0,q1,q2,q3,q4,q5⟩,qf⟩ := cells_six hst.box
   obtain ⟨⟨r0,r1,r2,r3,r4,r5⟩,rf⟩ := cells_six hst.res
   have hst2 := hst
   obtain ⟨hp1,hp2⟩ := six_put' hst.res (.int .i64 5) (.bool false) (.int .i64 0) (.string ⟨#[]⟩) (.slice al i cl) (.slice ak i ck)
   have hmb := below6 hst.below (Nat.le_refl _) (.int .i64 5) (.bool false) (.int .i64 0) (.string ⟨#[]⟩) (.slice al i cl) (.slice ak i ck)
   have hve := ValIn.later (R' := fun b => R b ∨ w.heap.size ≤ b) (fun b hb _ => hp2 b (by rcases hb with ⟨_,hb⟩ | hb <;> omega)) (fun b hb => hb.imp (·.1) (fun h => by omega)) _ _ _ HE.out
   have HP1 := Lib.hid hp1
   have HMB := Lib.hid hmb
   have HVE := Lib.hid hve
   clear hst hst2 hp1 hp2 hmb hve HE HI
   go_wp2_with fail
   (try simp only [Exit.inBlock,Exit.then])
   refine bodyPost_ret (v := .agg #[.int .i64 5,.bool false,.int .i64 0,.string ⟨#[]⟩,.slice al i cl,.slice ak i ck]) (results_cell_row rfl _ _ w.heap.size 36 #[.int .i64 5,.bool false,.int .i64 0,.string ⟨#[]⟩,.slice al i cl,.slice ak i ck] (0,0) _ (by rfl) HP1.out Tryz.underlying36 rfl (by kernel_rfl)) rfl ?_
   exact ⟨HMB.out,.slice al i cl,.slice ak i ck,rfl,HVE.out⟩
end Go.Proofs.YtcfdalbdndamoaaGreatDoor.M
namespace Go.Proofs.YtcfdalbdndamoaaGreatDoor.M
open Go.Lib Go.Proofs.YtcfdalbdndamoaaGreatDoor.V
def readW (v : Val) : CallP × Int := if rightTop v = true then readM v else (call0 0 zV,42)
def toldK (k : Int) : Bool := decide (4 ≤ k ∧ k ≤ 9)
def messageW (c : CallP) : Val :=
 recP ([bJsonrpc] ++ (if sortOf c.id = 0 then [] else [bId]) ++ [bMethod] ++ (if toldK c.kind = true then [bParams] else []))
  ([strP bTwo] ++ (if sortOf c.id = 0 then [] else [c.id]) ++ [strP (methodP c.kind)] ++ (if toldK c.kind = true then [toldV c] else []))
def placeB (p q : PlaceP) : Bool := p.line == q.line && p.unit == q.unit
def editB (p q : EditP) : Bool := placeB p.frm q.frm && placeB p.til q.til && p.text == q.text && p.whole == q.whole
def editsB : List EditP → List EditP → Bool
 | [],[] => true
 | p :: l,q :: m => editB p q && editsB l m
 | _,_ => false
def sameC (a b : CallP) : Bool := a.kind == b.kind && a.name == b.name && a.version == b.version && a.text == b.text && placeB a.place b.place && editsB a.changes b.changes && sameP a.id b.id && sameP a.other b.other
def writesB (c : CallP) : Bool := (readW (messageW c)).2 == 0 && sameC (readW (messageW c)).1 c
def placeR (p : PlaceP) : Prop := inP p.line = true ∧ inP p.unit = true
structure RightC (c : CallP) : Prop where
 id : rightP c.id = true
 name : okP c.name = true
 version : inP c.version = true
 text : okP c.text = true
 edits : ∀ e ∈ c.changes,okP e.text = true ∧ placeR e.frm ∧ placeR e.til
 place : placeR c.place
 other : rightP c.other = true
def wtE : List EditP → Nat
 | [] => 0
 | e :: r => 1 + e.text.length + wtE r
structure SmallC (c : CallP) : Prop where
 id : wt c.id ≤ 400
 name : c.name.length ≤ 400
 text : c.text.length ≤ 400
 edits : wtE c.changes ≤ 400
 other : wt c.other ≤ 400
theorem wt_pos (v : Val) : 1 ≤ wt v := by cases v; simp only [wt]; omega
theorem list_wt (v : Val) : wtL (listOf v) ≤ wt v := by cases v; simp only [wt,listOf]; omega
theorem getZ_wt (v : Val) (p : List (List UInt8)) : wt (getZ v p) ≤ wt v := by
 unfold getZ
 cases hg : getP v p with
 | none => have : wt ((none : Option Val).getD zV) = 1 := by decide
           rw [this]; exact wt_pos v
 | some u => exact getP_wt p v u hg
theorem wt_rec (ks : List (List UInt8)) (l : List Val) : wt (recP ks l) = 1 + (ks.map fun k => k.length + 1).sum + wtL l := by simp [recP,wt]
theorem wt_str (t : List UInt8) : wt (strP t) = 1 + t.length := by simp [strP,wt,wtL]
theorem wt_num (n : Int) : wt (numP n) = 1 := by simp [numP,wt,wtL]
theorem wt_place (p : PlaceP) : wt (atPlace p) = 18 := by simp [atPlace,wt_rec,wtL,wt_num,bLine,bChar]
theorem wt_edit (e : EditP) : wt (editV e) ≤ 100 * (1 + e.text.length) := by
 unfold editV
 split
 ·simp [wt_rec,wtL,wt_str,bText]; omega
 ·simp [wt_rec,wtL,wt_str,wt_place,bText,bRange,bStart,bEnd]; omega
theorem wt_edits : ∀ (l : List EditP),wtL (l.map editV) ≤ 100 * wtE l
 | [] => by simp [wtL,wtE]
 | e :: r => by
  have h1 := wt_edit e
  have h2 := wt_edits r
  simp only [List.map_cons,wtL,wtE]; omega
theorem wt_list (l : List EditP) : wt (listV l) ≤ 1 + 100 * wtE l := by
 have := wt_edits l
 simp [listV,wt]; omega
theorem wt_doc {c : CallP} (h : SmallC c) : wt (docV c) ≤ 1000 := by
 have h1 := h.name
 have h2 := h.text
 unfold docV
 by_cases h4 : c.kind = 4
 ·rw [if_pos (.inl h4),if_pos h4,if_pos (.inl h4),if_pos h4]
  simp [wt_rec,wtL,wt_str,wt_num,bUri,bVersion,bText]; omega
 ·rw [if_neg h4,if_neg h4]
  by_cases h5 : c.kind = 4 ∨ c.kind = 5
  ·rw [if_pos h5,if_pos h5]; simp [wt_rec,wtL,wt_str,wt_num,bUri,bVersion]; omega
  ·rw [if_neg h5,if_neg h5]; simp [wt_rec,wtL,wt_str,bUri]; omega
theorem wt_told {c : CallP} (h : SmallC c) : wt (toldV c) ≤ 42000 := by
 have h1 := wt_doc h
 have h2 := wt_list c.changes
 have h3 := h.edits
 have h4 := h.other
 unfold toldV
 split
 ·simp [wt_rec,wtL,bId]; omega
 split
 ·simp [wt_rec,wtL,bDoc,bChanges]; omega
 split
 ·simp [wt_rec,wtL,bDoc,bPos,wt_place]; omega
 ·simp [wt_rec,wtL,bDoc]; omega
theorem method_len (k : Int) : (methodP k).length ≤ 30 := by
 unfold methodP
 repeat' split
 all_goals decide
theorem wt_message {c : CallP} (h : SmallC c) : wt (messageW c) ≤ 50000 := by
 have h1 := wt_told h
 have h2 := h.id
 have h3 := method_len c.kind
 have hm : (if sortOf c.id = 0 then ([] : List Val) else [c.id]) = [] ∨ (if sortOf c.id = 0 then ([] : List Val) else [c.id]) = [c.id] := by split <;> simp
 have hk : ((if sortOf c.id = 0 then ([] : List (List UInt8)) else [bId]).map fun k => k.length + 1).sum ≤ 10 := by split <;> simp [bId]
 have hp : (if toldK c.kind = true then [toldV c] else ([] : List Val)) = [] ∨ (if toldK c.kind = true then [toldV c] else ([] : List Val)) = [toldV c] := by split <;> simp
 have hq : ((if toldK c.kind = true then [bParams] else ([] : List (List UInt8))).map fun k => k.length + 1).sum ≤ 10 := by split <;> simp [bParams]
 unfold messageW
 rw [wt_rec]
 simp only [List.map_append,List.sum_append]
 have e1 : (([bJsonrpc] : List (List UInt8)).map fun k => k.length + 1).sum = 8 := by decide
 have e2 : (([bMethod] : List (List UInt8)).map fun k => k.length + 1).sum = 7 := by decide
 rw [e1,e2]
 have e3 : bTwo.length = 3 := by decide
 rcases hm with hm | hm <;> rcases hp with hp | hp <;> rw [hm,hp] <;> simp only [List.nil_append,List.cons_append,List.append_nil,wtL,wt_str] <;> omega
end Go.Proofs.YtcfdalbdndamoaaGreatDoor.M
namespace Go.Proofs.YtcfdalbdndamoaaGreatDoor.M
open Go.RowKit
open Go.Lib Go.Proofs.YtcfdalbdndamoaaGreatDoor.V
theorem infoP : (Tryz.prog.info? 78).map (fun i => (i.zero,i.size,i.bytes)) = some (some (.agg #[.string ⟨#[]⟩,.int .i64 0,.bool false,.int .i64 0,.string ⟨#[]⟩,.slice none 0 0,.slice none 0 0]),7,104) := by kernel_rfl
theorem own_made {B e size : Nat} (w : World) (cs : Array Value) (hb : B ≤ w.heap.size) (hs : cs.size = size) : (w.alloc (.cells cs e)).ownsRow B e size (.slice (some ⟨w.heap.size,0,none⟩) 1 1) 1 cs.toList :=
 ⟨by simp [hs],.inr ⟨w.heap.size,1,cs,rfl,hb,heap_alloc_new w _,Nat.le_refl _,(by decide),by rw [hs,Nat.one_mul],by rw [List.take_of_length_le]; simp [hs]⟩⟩
theorem cells_of_block {W : World} {b : Nat} {cs : Array Value} {t : TypeId} (h : W.heap[b]? = some (.cells cs t (0,0))) : CellsAt W b 0 cs.toList := by
 intro j u hj
 unfold World.cell?
 rw [h]
 simpa using hj
theorem cells_of_own {W : World} {B e size n cap g : Nat} {xs : List Value} (h : W.ownsRow B e size (.slice (some ⟨g,0,none⟩) n cap) n xs) : CellsAt W g 0 xs := by
 intro j u hj
 have h2 := World.ownsRowF.cells (World.ownsRowF_of h) (g := g) rfl j u hj
 rw [show (⟨g,0,none⟩ : Addr).add j = ⟨g,0 + j,none⟩ from by unfold Addr.add; split <;> simp_all] at h2
 exact h2
theorem cells_add {W : World} {g off : Nat} {xs : List Value} (h : CellsAt W g off xs) : ∀ j u,xs[j]? = some u → W.cell? ((⟨g,off,none⟩ : Addr).add j) = some u := by
 intro j u hj
 rw [show (⟨g,off,none⟩ : Addr).add j = ⟨g,off + j,none⟩ from by unfold Addr.add; split <;> simp_all]
 exact h j u hj
theorem cells_lt {W : World} {g off : Nat} {xs : List Value} (h : CellsAt W g off xs) (hn : xs ≠ []) : g < W.heap.size := by
 cases xs with
 | nil => exact absurd rfl hn
 | cons x r => exact lt_of_cell (h 0 x rfl)
set_option maxHeartbeats 8000000 in
set_option maxRecDepth 100000 in
theorem written_any (ps : List (List UInt8 × Val)) (g off c : Nat) (R : Nat → Prop) (w : World) (hp : PartsAt w R ps g off) (hpl : ps.length ≤ 900) (h0 : ps ≠ []) :
  Calls Tryz.prog 33 #[.slice (some ⟨g,off,none⟩) ps.length c] w fun e w' => Below w.heap.size w w' ∧ ∃ lv kv,e = .returned (arg (recP (bJsonrpc :: ps.map (·.1)) (strP bTwo :: ps.map (·.2))) lv kv) ∧ ValIn w' (fun b => R b ∨ w.heap.size ≤ b) (recP (bJsonrpc :: ps.map (·.1)) (strP bTwo :: ps.map (·.2))) lv kv := by
 obtain ⟨i0,hi0,hz0,hz1,hz2⟩ := info_parts infoP
 obtain ⟨xs,hc,hP⟩ := hp
 have HC := Lib.hid hc
 have HP := Lib.hid (PartsL.bound _ _ hP)
 have hlen := PartsL.length hP
 have hone := PartsL.one hP
 obtain ⟨pn,hpn⟩ : ∃ k,ps.length = k := ⟨_,rfl⟩
 have HPN := Lib.hid hpn
 have hp0 : 0 < pn := by rw [← hpn]; exact List.length_pos_iff.2 h0
 rw [hpn] at hpl hlen ⊢
 have HLEN := Lib.hid hlen
 have HONE := Lib.hid hone
 have hgw : g < w.heap.size := cells_lt hc (by intro h; rw [h] at hlen; simp at hlen; omega)
 clear hc hP hpn hlen hone
 go_enter Tryz.func33,Tryz.ntmps33
 go_wp2_with fail
 obtain ⟨w0,hw0⟩ : ∃ w0,w.alloc (.cells #[.int .i64 0,.bool false,.int .i64 0,.string ⟨#[]⟩,.slice none 0 0,.slice none 0 0] 36) = w0 := ⟨_,rfl⟩
 have hr0 : w0.heap[w.heap.size]? = some (.cells #[.int .i64 0,.bool false,.int .i64 0,.string ⟨#[]⟩,.slice none 0 0,.slice none 0 0] 36 (0,0)) := by rw [← hw0]; exact heap_alloc_new w _
 have hb0 : Below w.heap.size w w0 := by rw [← hw0]; exact (Below.refl _ _).alloc (Nat.le_refl _) _
 have hz0' : w.heap.size < w0.heap.size := by rw [← hw0]; simp
 rw [hw0]
 clear hw0
 refine (text_any ⟨#[50,46,48]⟩ w0).mono ?_
 rintro e w1 ⟨rfl,hb1⟩
 have HB1 := Lib.hid (hb0.trans (hb1.mono (by omega)))
 have HR1 := Lib.hid ((hb1.block w.heap.size hz0').trans hr0)
 have hz1' : w.heap.size < w1.heap.size := by have := hb1.size; omega
 clear hb1 hb0 hr0 hz0'
 have hxc : ∀ ob,∀ j u,xs[j]? = some u → (w1.alloc ob).cell? ((⟨g,off,none⟩ : Addr).add j) = some u := fun ob j u hj => by
  have h1 := cells_add HC.out j u hj
  exact Lib.cell?_alloc_some _ ((HB1.out.cell (lt_of_cell h1)).trans h1)
 go_wp2_with (at_builtin; refine wpList_append_lies _ rfl (.tmp 5) (.tmp 6) 75 rfl w.heap.size 78 i0 _ 7 104 Tryz.underlying75 hi0 hz0 hz1 hz2 rfl (by decide) (.slice (some ⟨w1.heap.size,0,none⟩) 1 1) 1 _ rfl (own_made w1 #[.string ⟨#[106,115,111,110,114,112,99]⟩,.int .i64 3,.bool false,.int .i64 0,.string ⟨#[50,46,48]⟩,.slice none 0 0,.slice none 0 0] (by omega) rfl) ⟨g,off,none⟩ pn c xs rfl (by rw [HLEN.out]; omega) (hxc _) HONE.out hp0 (by unfold maxLen; omega) (by omega) (by simp; omega) (w1.heap.size + 1) (by simp) ?_)
 intro gg cg w3 hown hgrow hat hlt
 have hz3 := hgrow.size
 simp only [World.size_alloc] at hz3
 have far3 : ∀ k,k < w1.heap.size → w3.heap[k]? = w1.heap[k]? := fun k hk => by
  rw [hgrow.block k (by simp; omega) (by simp [Value.ownBlock]; omega),Below.heap_alloc _ _ k hk]
 have hb3 : Below w.heap.size w w3 := ⟨hgrow.os.trans HB1.out.os,hgrow.tape.trans HB1.out.tape,hgrow.output.trans HB1.out.output,by omega,fun k hk => (far3 k (by omega)).trans (HB1.out.block k hk)⟩
 have hP3 : PartsAt w3 (fun b => R b ∧ b < w.heap.size) ((bJsonrpc,strP bTwo) :: ps) gg 0 :=
  ⟨_,cells_of_own hown,.slice none 0 0,.slice none 0 0,xs,rfl,leaf_in _ _ _ _ _ _,PartsL.later (fun b hb' _ => (far3 b (by have := hb'.2; omega)).trans (HB1.out.block b hb'.2)) (fun _ h => h) _ _ HP.out⟩
 have hr3 := (far3 w.heap.size hz1').trans HR1.out
 have cR := fun c' => record_any ((bJsonrpc,strP bTwo) :: ps) gg 0 c' _ w3 hP3 (by simp; rw [HPN.out]; omega)
 simp only [List.length_cons,HPN.out,List.map_cons] at cR
 replace cR := cR cg
 rw [Nat.add_comm pn 1] at cR
 have HB3 := Lib.hid hb3
 have HR3 := Lib.hid hr3
 have CR := Lib.hid cR
 have hz4 : w.heap.size < w3.heap.size := by omega
 clear hgrow hown hat hlt far3 hb3 hP3 hr3 cR hxc
 go_wp2_with fail
 refine CR.out.mono ?_
 rintro e w4 ⟨hb4,lv,kv,rfl,hv4⟩
 have hv4' := hv4
 obtain ⟨⟨a1,c1,rfl,_⟩,⟨a2,c2,rfl,_⟩⟩ := hv4'
 have hr4 := (hb4.block w.heap.size hz4).trans HR3.out
 have hb5 := HB3.out.trans (hb4.mono HB3.out.size)
 simp only [List.length_cons,List.length_map] at hv4
 obtain ⟨hp1,hp2⟩ := six_put' hr4 (.int .i64 5) (.bool false) (.int .i64 0) (.string ⟨#[]⟩) (.slice a1 (ps.length + 1) c1) (.slice a2 (ps.length + 1) c2)
 have HMB := Lib.hid (below6 hb5 (Nat.le_refl _) (.int .i64 5) (.bool false) (.int .i64 0) (.string ⟨#[]⟩) (.slice a1 (ps.length + 1) c1) (.slice a2 (ps.length + 1) c2))
 have HVE := Lib.hid (ValIn.later (R' := fun b => R b ∨ w.heap.size ≤ b) (fun b hb _ => hp2 b (by rcases hb with ⟨_,hb⟩ | hb <;> omega)) (fun b hb => hb.imp (·.1) (fun h => by omega)) _ _ _ hv4)
 have HP1 := Lib.hid hp1
 obtain ⟨⟨r0,r1,r2,r3,r4,r5⟩,rf⟩ := cells_six hr4
 clear hv4 hr4 hb4 hb5 hp1 hp2 HR3 HP HB3
 simp only [arg,recP,six',six,strCell,List.length_cons,List.length_map]
 go_wp2_with fail
 (try simp only [Exit.inBlock,Exit.then])
 refine bodyPost_ret (v := .agg #[.int .i64 5,.bool false,.int .i64 0,.string ⟨#[]⟩,.slice a1 (ps.length + 1) c1,.slice a2 (ps.length + 1) c2]) (results_cell_row rfl _ _ w.heap.size 36 #[.int .i64 5,.bool false,.int .i64 0,.string ⟨#[]⟩,.slice a1 (ps.length + 1) c1,.slice a2 (ps.length + 1) c2] (0,0) _ (by rfl) HP1.out Tryz.underlying36 rfl (by kernel_rfl)) rfl ?_
 exact ⟨HMB.out,.slice a1 (ps.length + 1) c1,.slice a2 (ps.length + 1) c2,rfl,HVE.out⟩
end Go.Proofs.YtcfdalbdndamoaaGreatDoor.M
namespace Go.Proofs.YtcfdalbdndamoaaGreatDoor.M
open Go.RowKit
open Go.Lib Go.Proofs.YtcfdalbdndamoaaGreatDoor.V
theorem ret6 {B q : Nat} {w W : World} {y0 y1 y2 y3 y4 y5 : Value} {R : Nat → Prop} {so : Int} {on : Bool} {n : Int} {t : List UInt8} {l : List Val} {ks : List (List UInt8)} {lv kv : Value}
  (hr : W.heap[q]? = some (.cells #[y0,y1,y2,y3,y4,y5] 36 (0,0))) (hb : Below B w W) (hq : B ≤ q) (hv : ValIn W R (.mk so on n t l ks) lv kv) (hne : ∀ b,R b → b ≠ q) :
  Hid (((((((W.setCell ⟨q,0,none⟩ (.int .i64 so)).setCell ⟨q,1,none⟩ (.bool on)).setCell ⟨q,2,none⟩ (.int .i64 n)).setCell ⟨q,3,none⟩ (.string ⟨t.toArray⟩)).setCell ⟨q,4,none⟩ lv).setCell ⟨q,5,none⟩ kv).heap[q]? = some (.cells #[.int .i64 so,.bool on,.int .i64 n,.string ⟨t.toArray⟩,lv,kv] 36 (0,0))) ∧
  Hid (Below B w ((((((W.setCell ⟨q,0,none⟩ (.int .i64 so)).setCell ⟨q,1,none⟩ (.bool on)).setCell ⟨q,2,none⟩ (.int .i64 n)).setCell ⟨q,3,none⟩ (.string ⟨t.toArray⟩)).setCell ⟨q,4,none⟩ lv).setCell ⟨q,5,none⟩ kv)) ∧
  Hid (ValIn ((((((W.setCell ⟨q,0,none⟩ (.int .i64 so)).setCell ⟨q,1,none⟩ (.bool on)).setCell ⟨q,2,none⟩ (.int .i64 n)).setCell ⟨q,3,none⟩ (.string ⟨t.toArray⟩)).setCell ⟨q,4,none⟩ lv).setCell ⟨q,5,none⟩ kv) R (.mk so on n t l ks) lv kv) := by
 obtain ⟨hp1,hp2⟩ := six_put' hr (.int .i64 so) (.bool on) (.int .i64 n) (.string ⟨t.toArray⟩) lv kv
 exact ⟨Lib.hid hp1,Lib.hid (below6 hb hq _ _ _ _ _ _),Lib.hid (ValIn.later (fun b hb' _ => hp2 b (hne b hb')) (fun _ h => h) _ _ _ hv)⟩
set_option maxHeartbeats 8000000 in
set_option maxRecDepth 100000 in
theorem ofdoc_some (so : Int) (on : Bool) (n : Int) (t : List UInt8) (l : List Val) (ks : List (List UInt8)) (a1 a2 : Option Addr) (c1 c2 : Nat) (ps : List (List UInt8 × Val)) (g off c : Nat) (R : Nat → Prop) (w : World)
  (hv : ValIn w R (.mk so on n t l ks) (.slice a1 l.length c1) (.slice a2 ks.length c2)) (hp : PartsAt w R ps g off) (hpl : ps.length ≤ 900) (h0 : ps ≠ []) :
  Calls Tryz.prog 57 #[.agg #[.int .i64 so,.bool on,.int .i64 n,.string ⟨t.toArray⟩,.slice a1 l.length c1,.slice a2 ks.length c2],.slice (some ⟨g,off,none⟩) ps.length c] w fun e w' => Below w.heap.size w w' ∧ ∃ lv kv,e = .returned (arg (recP (bDoc :: ps.map (·.1)) (.mk so on n t l ks :: ps.map (·.2))) lv kv) ∧ ValIn w' (fun b => R b ∨ w.heap.size ≤ b) (recP (bDoc :: ps.map (·.1)) (.mk so on n t l ks :: ps.map (·.2))) lv kv := by
 obtain ⟨i0,hi0,hz0,hz1,hz2⟩ := info_parts infoP
 obtain ⟨xs,hc,hP⟩ := hp
 have HC := Lib.hid hc
 have HP := Lib.hid (PartsL.bound _ _ hP)
 have HV := Lib.hid (ValIn.bound _ _ _ hv)
 have hlen := PartsL.length hP
 have hone := PartsL.one hP
 obtain ⟨pn,hpn⟩ : ∃ k,ps.length = k := ⟨_,rfl⟩
 have HPN := Lib.hid hpn
 have hp0 : 0 < pn := by rw [← hpn]; exact List.length_pos_iff.2 h0
 rw [hpn] at hpl hlen ⊢
 have HLEN := Lib.hid hlen
 have HONE := Lib.hid hone
 have hgw : g < w.heap.size := cells_lt hc (by intro h; rw [h] at hlen; simp at hlen; omega)
 obtain ⟨ln,hln⟩ : ∃ k,l.length = k := ⟨_,rfl⟩
 obtain ⟨kn,hkn⟩ : ∃ k,ks.length = k := ⟨_,rfl⟩
 rw [hln,hkn] at HV ⊢
 clear hc hP hpn hlen hone hv hln hkn
 obtain ⟨h1,h2,h3,h4⟩ := two w (.cells #[.int .i64 so,.bool on,.int .i64 n,.string ⟨t.toArray⟩,.slice a1 ln c1,.slice a2 kn c2] 36) (.cells #[.int .i64 0,.bool false,.int .i64 0,.string ⟨#[]⟩,.slice none 0 0,.slice none 0 0] 36)
 obtain ⟨W2,hW2⟩ : ∃ W2,(w.alloc (.cells #[.int .i64 so,.bool on,.int .i64 n,.string ⟨t.toArray⟩,.slice a1 ln c1,.slice a2 kn c2] 36)).alloc (.cells #[.int .i64 0,.bool false,.int .i64 0,.string ⟨#[]⟩,.slice none 0 0,.slice none 0 0] 36) = W2 := ⟨_,rfl⟩
 rw [hW2] at h1 h2 h3 h4
 obtain ⟨⟨q0,q1,q2,q3,q4,q5⟩,qf⟩ := cells_six h1
 have HR2 := Lib.hid h2
 have HB2 := Lib.hid h3
 have hz2' : w.heap.size + 2 ≤ W2.heap.size := by omega
 have hxc : ∀ ob,∀ j u,xs[j]? = some u → (W2.alloc ob).cell? ((⟨g,off,none⟩ : Addr).add j) = some u := fun ob j u hj => by
  have h1 := cells_add HC.out j u hj
  exact Lib.cell?_alloc_some _ ((HB2.out.cell (lt_of_cell h1)).trans h1)
 clear h1 h2 h3 h4
 go_enter Tryz.func57,Tryz.ntmps57
 go_wp2_with (at_builtin; refine wpList_append_lies _ rfl (.tmp 7) (.tmp 8) 75 rfl w.heap.size 78 i0 _ 7 104 Tryz.underlying75 hi0 hz0 hz1 hz2 rfl (by decide) (.slice (some ⟨W2.heap.size,0,none⟩) 1 1) 1 _ rfl (own_made W2 #[.string ⟨#[116,101,120,116,68,111,99,117,109,101,110,116]⟩,.int .i64 so,.bool on,.int .i64 n,.string ⟨t.toArray⟩,.slice a1 ln c1,.slice a2 kn c2] (by omega) rfl) ⟨g,off,none⟩ pn c xs rfl (by rw [HLEN.out]; omega) (hxc _) HONE.out hp0 (by unfold maxLen; omega) (by omega) (by simp; omega) (W2.heap.size + 1) (by simp) ?_)
 intro gg cg w3 hown hgrow hat hlt
 have hz3 := hgrow.size
 simp only [World.size_alloc] at hz3
 have far3 : ∀ k,k < W2.heap.size → w3.heap[k]? = W2.heap[k]? := fun k hk => by
  rw [hgrow.block k (by simp; omega) (by simp [Value.ownBlock]; omega),Below.heap_alloc _ _ k hk]
 have hb3 : Below w.heap.size w w3 := ⟨hgrow.os.trans HB2.out.os,hgrow.tape.trans HB2.out.tape,hgrow.output.trans HB2.out.output,by omega,fun k hk => (far3 k (by omega)).trans (HB2.out.block k hk)⟩
 have hsm : Same (fun b => R b ∧ b < w.heap.size) w w3 := fun b hb' _ => (far3 b (by have := hb'.2; omega)).trans (HB2.out.block b hb'.2)
 have hP3 : PartsAt w3 (fun b => R b ∧ b < w.heap.size) ((bDoc,.mk so on n t l ks) :: ps) gg 0 :=
  ⟨_,cells_of_own hown,.slice a1 ln c1,.slice a2 kn c2,xs,rfl,ValIn.later hsm (fun _ h => h) _ _ _ HV.out,PartsL.later hsm (fun _ h => h) _ _ HP.out⟩
 have hr3 := (far3 (w.heap.size + 1) (by omega)).trans HR2.out
 have cR := fun c' => record_any ((bDoc,.mk so on n t l ks) :: ps) gg 0 c' _ w3 hP3 (by simp; rw [HPN.out]; omega)
 simp only [List.length_cons,HPN.out,List.map_cons] at cR
 replace cR := cR cg
 rw [Nat.add_comm pn 1] at cR
 have HB3 := Lib.hid hb3
 have HR3 := Lib.hid hr3
 have CR := Lib.hid cR
 have hz4 : w.heap.size + 2 ≤ w3.heap.size := by omega
 clear hgrow hown hat hlt far3 hb3 hP3 hr3 cR hxc hsm q0 q1 q2 q3 q4 q5 qf hW2
 go_wp2_with fail
 refine CR.out.mono ?_
 rintro e w4 ⟨hb4,lv,kv,rfl,hv4⟩
 have hv4' := hv4
 obtain ⟨⟨a3,c3,rfl,_⟩,⟨a4,c4,rfl,_⟩⟩ := hv4'
 have hr4 := (hb4.block (w.heap.size + 1) (by omega)).trans HR3.out
 have hb5 := HB3.out.trans (hb4.mono HB3.out.size)
 simp only [List.length_cons,List.length_map] at hv4
 obtain ⟨HP1,HMB,HV4⟩ := ret6 hr4 hb5 (Nat.le_succ _) hv4 (fun b hb => by rcases hb with ⟨_,hb⟩ | hb <;> omega)
 have HVE := Lib.hid (ValIn.later (R' := fun b => R b ∨ w.heap.size ≤ b) (fun _ _ _ => rfl) (fun b hb => hb.imp (·.1) (fun h => by omega)) _ _ _ HV4.out)
 obtain ⟨⟨r0,r1,r2,r3,r4,r5⟩,rf⟩ := cells_six hr4
 clear hv4 hr4 hb4 hb5 HR3 HP HB3 HV4
 simp only [arg,recP,six',six,strCell,List.length_cons,List.length_map]
 go_wp2_with fail
 (try simp only [Exit.inBlock,Exit.then])
 refine bodyPost_ret (v := .agg #[.int .i64 5,.bool false,.int .i64 0,.string ⟨#[]⟩,.slice a3 (ps.length + 1) c3,.slice a4 (ps.length + 1) c4]) (results_cell_row rfl _ _ (w.heap.size + 1) 36 #[.int .i64 5,.bool false,.int .i64 0,.string ⟨#[]⟩,.slice a3 (ps.length + 1) c3,.slice a4 (ps.length + 1) c4] (0,0) _ (by rfl) HP1.out Tryz.underlying36 rfl (by kernel_rfl)) rfl ?_
 exact ⟨HMB.out,.slice a3 (ps.length + 1) c3,.slice a4 (ps.length + 1) c4,rfl,HVE.out⟩
set_option maxHeartbeats 8000000 in
set_option maxRecDepth 100000 in
theorem ofdoc_none (so : Int) (on : Bool) (n : Int) (t : List UInt8) (l : List Val) (ks : List (List UInt8)) (a1 a2 : Option Addr) (c1 c2 : Nat) (R : Nat → Prop) (w : World)
  (hv : ValIn w R (.mk so on n t l ks) (.slice a1 l.length c1) (.slice a2 ks.length c2)) :
  Calls Tryz.prog 57 #[.agg #[.int .i64 so,.bool on,.int .i64 n,.string ⟨t.toArray⟩,.slice a1 l.length c1,.slice a2 ks.length c2],.slice none 0 0] w fun e w' => Below w.heap.size w w' ∧ ∃ lv kv,e = .returned (arg (recP [bDoc] [.mk so on n t l ks]) lv kv) ∧ ValIn w' (fun b => R b ∨ w.heap.size ≤ b) (recP [bDoc] [.mk so on n t l ks]) lv kv := by
 obtain ⟨i0,hi0,hz0,hz1,hz2⟩ := info_parts infoP
 have HV := Lib.hid (ValIn.bound _ _ _ hv)
 obtain ⟨ln,hln⟩ : ∃ k,l.length = k := ⟨_,rfl⟩
 obtain ⟨kn,hkn⟩ : ∃ k,ks.length = k := ⟨_,rfl⟩
 rw [hln,hkn] at HV ⊢
 clear hv hln hkn
 obtain ⟨h1,h2,h3,h4⟩ := two w (.cells #[.int .i64 so,.bool on,.int .i64 n,.string ⟨t.toArray⟩,.slice a1 ln c1,.slice a2 kn c2] 36) (.cells #[.int .i64 0,.bool false,.int .i64 0,.string ⟨#[]⟩,.slice none 0 0,.slice none 0 0] 36)
 obtain ⟨W2,hW2⟩ : ∃ W2,(w.alloc (.cells #[.int .i64 so,.bool on,.int .i64 n,.string ⟨t.toArray⟩,.slice a1 ln c1,.slice a2 kn c2] 36)).alloc (.cells #[.int .i64 0,.bool false,.int .i64 0,.string ⟨#[]⟩,.slice none 0 0,.slice none 0 0] 36) = W2 := ⟨_,rfl⟩
 rw [hW2] at h1 h2 h3 h4
 obtain ⟨⟨q0,q1,q2,q3,q4,q5⟩,qf⟩ := cells_six h1
 have HR2 := Lib.hid h2
 have HB2 := Lib.hid h3
 have hz2' : w.heap.size + 2 ≤ W2.heap.size := by omega
 have hd := heap_alloc_new W2 (.cells #[.string ⟨#[116,101,120,116,68,111,99,117,109,101,110,116]⟩,.int .i64 so,.bool on,.int .i64 n,.string ⟨t.toArray⟩,.slice a1 ln c1,.slice a2 kn c2] 78)
 obtain ⟨w3,hw3⟩ : ∃ w3,W2.alloc (.cells #[.string ⟨#[116,101,120,116,68,111,99,117,109,101,110,116]⟩,.int .i64 so,.bool on,.int .i64 n,.string ⟨t.toArray⟩,.slice a1 ln c1,.slice a2 kn c2] 78) = w3 := ⟨_,rfl⟩
 have hon : w3.ownsRow w.heap.size 78 7 (.slice (some ⟨W2.heap.size,0,none⟩) 1 1) 1 (#[.string ⟨#[116,101,120,116,68,111,99,117,109,101,110,116]⟩,.int .i64 so,.bool on,.int .i64 n,.string ⟨t.toArray⟩,.slice a1 ln c1,.slice a2 kn c2] : Array Value).toList := by rw [← hw3]; exact own_made W2 #[.string ⟨#[116,101,120,116,68,111,99,117,109,101,110,116]⟩,.int .i64 so,.bool on,.int .i64 n,.string ⟨t.toArray⟩,.slice a1 ln c1,.slice a2 kn c2] (by omega) rfl
 have hz3 : W2.heap.size < w3.heap.size := by rw [← hw3]; simp
 have hb3 : Below W2.heap.size W2 w3 := by rw [← hw3]; exact (Below.refl _ _).alloc (Nat.le_refl _) _
 have hB3 := h3.trans (hb3.mono (by omega))
 have hP3 : PartsAt w3 (fun b => R b ∧ b < w.heap.size) [(bDoc,.mk so on n t l ks)] W2.heap.size 0 :=
  ⟨_,cells_of_own hon,.slice a1 ln c1,.slice a2 kn c2,[],rfl,ValIn.later (fun b hb' _ => hB3.block b hb'.2) (fun _ h => h) _ _ _ HV.out,rfl⟩
 have cR := record_any [(bDoc,.mk so on n t l ks)] W2.heap.size 0 1 _ w3 hP3 (by simp)
 simp only [List.length_cons,List.length_nil,Nat.zero_add,List.map_cons,List.map_nil] at cR
 have HB3 := Lib.hid hB3
 have HR3 := Lib.hid ((hb3.block (w.heap.size + 1) (by omega)).trans h2)
 have CR := Lib.hid cR
 clear h1 h2 h3 h4 hd hb3 hB3 hP3 cR
 go_enter Tryz.func57,Tryz.ntmps57
 go_wp2_with (at_builtin; refine wpList_append_own_none rfl (.tmp 7) (.tmp 8) 75 rfl w.heap.size 78 i0 7 Tryz.underlying75 hi0 (.slice (some ⟨W2.heap.size,0,none⟩) 1 1) 1 _ rfl hon rfl ?_)
 clear q0 q1 q2 q3 q4 q5 qf hW2 hw3
 go_wp2_with fail
 refine CR.out.mono ?_
 rintro e w4 ⟨hb4,lv,kv,rfl,hv4⟩
 have hv4' := hv4
 obtain ⟨⟨a3,c3,rfl,_⟩,⟨a4,c4,rfl,_⟩⟩ := hv4'
 have hr4 := (hb4.block (w.heap.size + 1) (by omega)).trans HR3.out
 have hb5 := HB3.out.trans (hb4.mono HB3.out.size)
 simp only [List.length_cons,List.length_nil,Nat.zero_add] at hv4
 obtain ⟨HP1,HMB,HV4⟩ := ret6 hr4 hb5 (Nat.le_succ _) hv4 (fun b hb => by rcases hb with ⟨_,hb⟩ | hb <;> omega)
 have HVE := Lib.hid (ValIn.later (R' := fun b => R b ∨ w.heap.size ≤ b) (fun _ _ _ => rfl) (fun b hb => hb.imp (·.1) (fun h => by omega)) _ _ _ HV4.out)
 obtain ⟨⟨r0,r1,r2,r3,r4,r5⟩,rf⟩ := cells_six hr4
 clear hv4 hr4 hb4 hb5 HR3 HB3 HV4
 simp only [arg,recP,six',six,strCell,List.length_cons,List.length_nil,Nat.zero_add]
 go_wp2_with fail
 (try simp only [Exit.inBlock,Exit.then])
 refine bodyPost_ret (v := .agg #[.int .i64 5,.bool false,.int .i64 0,.string ⟨#[]⟩,.slice a3 1 c3,.slice a4 1 c4]) (results_cell_row rfl _ _ (w.heap.size + 1) 36 #[.int .i64 5,.bool false,.int .i64 0,.string ⟨#[]⟩,.slice a3 1 c3,.slice a4 1 c4] (0,0) _ (by rfl) HP1.out Tryz.underlying36 rfl (by kernel_rfl)) rfl ?_
 exact ⟨HMB.out,.slice a3 1 c3,.slice a4 1 c4,rfl,HVE.out⟩
theorem rcopy_any (so : Int) (on : Bool) (n : Int) (t : List UInt8) (l : List Val) (ks : List (List UInt8)) (a1 a2 : Option Addr) (c1 c2 : Nat) (R : Nat → Prop) (w : World)
  (hv : ValIn w R (.mk so on n t l ks) (.slice a1 l.length c1) (.slice a2 ks.length c2)) (hw : wt (.mk so on n t l ks) ≤ 65536) :
  Calls Tryz.prog 30 #[.agg #[.int .i64 so,.bool on,.int .i64 n,.string ⟨t.toArray⟩,.slice a1 l.length c1,.slice a2 ks.length c2]] w fun e w' => Below w.heap.size w w' ∧ ∃ lv kv,e = .returned (arg (.mk so on n t l ks) lv kv) ∧ ValIn w' (fun b => w.heap.size ≤ b) (.mk so on n t l ks) lv kv := by
 have HV := Lib.hid hv
 have HW := Lib.hid hw
 obtain ⟨ln,hln⟩ : ∃ k,l.length = k := ⟨_,rfl⟩
 obtain ⟨kn,hkn⟩ : ∃ k,ks.length = k := ⟨_,rfl⟩
 have HLN := Lib.hid hln
 have HKN := Lib.hid hkn
 rw [hln,hkn] at HV ⊢
 clear hv hw hln hkn
 obtain ⟨h1,h2,h3,h4⟩ := two w (.cells #[.int .i64 so,.bool on,.int .i64 n,.string ⟨t.toArray⟩,.slice a1 ln c1,.slice a2 kn c2] 36) (.cells #[.int .i64 0,.bool false,.int .i64 0,.string ⟨#[]⟩,.slice none 0 0,.slice none 0 0] 36)
 obtain ⟨W2,hW2⟩ : ∃ W2,(w.alloc (.cells #[.int .i64 so,.bool on,.int .i64 n,.string ⟨t.toArray⟩,.slice a1 ln c1,.slice a2 kn c2] 36)).alloc (.cells #[.int .i64 0,.bool false,.int .i64 0,.string ⟨#[]⟩,.slice none 0 0,.slice none 0 0] 36) = W2 := ⟨_,rfl⟩
 rw [hW2] at h1 h2 h3 h4
 obtain ⟨⟨q0,q1,q2,q3,q4,q5⟩,qf⟩ := cells_six h1
 have HR2 := Lib.hid h2
 have HB2 := Lib.hid h3
 have hz2' : w.heap.size + 2 ≤ W2.heap.size := by omega
 have cG := get_any (.mk so on n t l ks) (.slice a1 ln c1) (.slice a2 kn c2) [] none 0 R (fun _ => True) W2 (val_below HV.out (by exact h3)) ⟨none,0,rfl,.inl rfl⟩ (by simp) HW.out
 have CG := Lib.hid cG
 clear h1 h2 h3 h4 cG
 simp only [arg,six',six,strCell,List.length_nil] at CG
 go_enter Tryz.func30,Tryz.ntmps30
 go_wp2_with fail
 refine CG.out.mono ?_
 rintro e w3 ⟨hb3,⟨hn,_⟩ | ⟨u,lv,kv,hn,rfl,hv3⟩⟩
 ·simp [getP] at hn
 have hu : u = .mk so on n t l ks := by simpa [getP] using hn.symm
 subst hu
 have hv4 := hv3
 obtain ⟨⟨a3,c3,rfl,_⟩,⟨a4,c4,rfl,_⟩⟩ := hv4
 have hr3 := (hb3.block (w.heap.size + 1) (by omega)).trans HR2.out
 have hb4 := HB2.out.trans (hb3.mono HB2.out.size)
 have hz3 := hb3.size
 obtain ⟨w4,hw4⟩ : ∃ w4,w3.alloc (.cells #[.int .i64 so,.bool on,.int .i64 n,.string ⟨t.toArray⟩,.slice a3 l.length c3,.slice a4 ks.length c4] 36) = w4 := ⟨_,rfl⟩
 have hx4 : w4.heap[w3.heap.size]? = some (.cells #[.int .i64 so,.bool on,.int .i64 n,.string ⟨t.toArray⟩,.slice a3 l.length c3,.slice a4 ks.length c4] 36 (0,0)) := by rw [← hw4]; exact heap_alloc_new _ _
 have hb34 : Below w3.heap.size w3 w4 := by rw [← hw4]; exact (Below.refl _ _).alloc (Nat.le_refl _) _
 have hr4 := (hb34.block (w.heap.size + 1) (by omega)).trans hr3
 obtain ⟨HP1,HMB,HV4⟩ := ret6 hr4 (hb4.trans (hb34.mono (by omega))) (Nat.le_succ _) (val_below hv3 hb34) (fun b hb => by omega)
 have HVE := Lib.hid (ValIn.later (R' := fun b => w.heap.size ≤ b) (fun _ _ _ => rfl) (fun b hb => by omega) _ _ _ HV4.out)
 obtain ⟨⟨r0,r1,r2,r3,r4,r5⟩,rf⟩ := cells_six hr4
 obtain ⟨⟨s0,s1,s2,s3,s4,s5⟩,sf⟩ := cells_six hx4
 clear hr3 hr4 hb3 hb4 hb34 hx4 hv3 q0 q1 q2 q3 q4 q5 qf hW2 HV4 HV HW HR2 HB2 hn
 simp only [arg,six',six,strCell]
 go_wp2_with fail
 (try simp only [Exit.inBlock,Exit.then])
 refine bodyPost_ret (v := .agg #[.int .i64 so,.bool on,.int .i64 n,.string ⟨t.toArray⟩,.slice a3 l.length c3,.slice a4 ks.length c4]) (results_cell_row rfl _ _ (w.heap.size + 1) 36 #[.int .i64 so,.bool on,.int .i64 n,.string ⟨t.toArray⟩,.slice a3 l.length c3,.slice a4 ks.length c4] (0,0) _ (by rfl) HP1.out Tryz.underlying36 rfl (by kernel_rfl)) rfl ?_
 exact ⟨HMB.out,.slice a3 l.length c3,.slice a4 ks.length c4,rfl,HVE.out⟩
end Go.Proofs.YtcfdalbdndamoaaGreatDoor.M
