/- What the claim needs of the texts MLaid. -/
import Derived.Test.YtcfdalbdndamoaaGreatDoorRows
import Derived.Test.YtcfdalbdndamoaaGreatDoorRA1
import Derived.Test.YtcfdalbdndamoaaGreatDoorRA8
import Derived.Test.YtcfdalbdndamoaaGreatDoorRA22
import Derived.OpenShut
import Derived.Lib.LaidTab
import Derived.Lib.LaidU8T
import Derived.Stop.LaidErr
import Derived.PinnedBridge
namespace Go.Proofs.YtcfdalbdndamoaaGreatDoor.M
open Go.Proofs Go.Shelf Go.RowKit
open Go.Proofs.YtcfdalbdndamoaaGreatDoor.V
theorem iface_laidM {P : Program} {W : World} {l : List (String × DataW Unit)} (hL : laidMet P l W) {n nm : String} {d : DataW Unit} {g : Nat} {ti : TypeId} {ms : Array (String × TypeId)} (hm : (n,.iface nm d) ∈ l)
  (hg : P.globalNamed n = some g) (ht : (P.globals[g]?).map (·.type) = some ti) (hi : P.underlying ti = some (.interface ms)) : ∃ te pe,W.cell? ⟨g,0,none⟩ = some (.iface te pe) := by
 obtain ⟨g',t',cs,fuel,p,hg',ht',hv,hd⟩ := Lib.laidMet.reads hL hm
 obtain rfl := Option.some.inj (hg.symm.trans hg')
 obtain rfl := Option.some.inj (ht.symm.trans ht')
 obtain ⟨f1,u,v,hcs,_,_⟩ := iface_of_trod hi hd
 obtain ⟨l0⟩ := cs
 have e : l0 = [.iface u v] := hcs
 subst e
 exact ⟨u,v,by simpa using World.var?_cell hg hv 0⟩
theorem env_of_laidM {W : World} (hL : laidMet Tryz.prog Rows.rpcAnswersUptoRow.laid W) : EnvW W where
 es := iface_laidM hL (.tail _ (.tail _ (.tail _ (.tail _ (.tail _ (.head _)))))) (g := 5) (by kernel_rfl) (by kernel_rfl) Tryz.underlying141
 er := iface_laidM hL (.tail _ (.tail _ (.tail _ (.tail _ (.head _))))) (g := 6) (by kernel_rfl) (by kernel_rfl) Tryz.underlying141
 tabs := utf8Tabs_of_readsT (U8Types.of196 U.lays) ⟨by kernel_rfl,by kernel_rfl,by kernel_rfl,by kernel_rfl,by kernel_rfl,by kernel_rfl,by kernel_rfl⟩
  (Pinned.utf8First_eq ▸ Lib.laidMet.reads hL (.tail _ (.tail _ (.tail _ (.tail _ (.tail _ (.tail _ (.tail _ (.head _))))))))) (Lib.laidMet.reads hL (.tail _ (.tail _ (.tail _ (.head _)))))
 pow := Lib.tabIs_of_head (P := Tryz.prog) (g := 3) (by kernel_rfl) (by kernel_rfl) Tryz.underlying208 Tryz.underlying195 (by kernel_rfl) (by kernel_rfl) hL.tail.tail
theorem cells_meth : Tryz.prog.cellsOf 73 = 4 := by kernel_rfl
theorem cells_meths : Tryz.prog.cellsOf 117 = 36 := by kernel_rfl
theorem cells_kindM : Tryz.prog.cellsOf 40 = 1 := by kernel_rfl
theorem cells_strM : Tryz.prog.cellsOf 9 = 1 := by kernel_rfl
theorem cells_boolM : Tryz.prog.cellsOf 4 = 1 := by kernel_rfl
theorem four_list {α : Type} {l : List α} (h : l.length = 4) : ∃ a b c d,l = [a,b,c,d] := by
 match l,h with
 | [a,b,c,d],_ => exact ⟨a,b,c,d,rfl⟩
theorem str_back {s : ByteArray} {l : List UInt8} (h : s.data.toList = l) : s = ⟨l.toArray⟩ := by
 subst h
 cases s
 simp
theorem meth_of {H : Type} {enc : TypeId × Value → H} {W : World} {held : Bool} {fuel : Nat} {cs : List Value} {k : Int} {s : List UInt8} {a b : Bool} {x : DataW H × List MemPlace}
  (h : DataW.trod enc Tryz.prog W 0 (fun _ => true) held fuel 73 cs = some x) (hx : x.1 = .agg [.lit (.int .i64 k),.lit (.string s),.lit (.bool a),.lit (.bool b)]) : cs = [.int .i64 k,.string ⟨s.toArray⟩,.bool a,.bool b] := by
 obtain ⟨xs,n,rfl,rfl,hcl,hxl,hfd⟩ := DataW.trod_struct Tryz.underlying73 h
 rw [cells_meth] at hcl
 obtain ⟨c0,c1,c2,c3,rfl⟩ := four_list hcl
 obtain ⟨y0,y1,y2,y3,rfl⟩ := four_list (hxl.trans rfl)
 have f0 := hfd 0 _ rfl
 have f1 := hfd 1 _ rfl
 have f2 := hfd 2 _ rfl
 have f3 := hfd 3 _ rfl
 have g0 : DataW.trod enc Tryz.prog W 0 (fun _ => true) held n 40 (([c0,c1,c2,c3].drop 0).take (Tryz.prog.cellsOf 40)) = some y0 := f0
 rw [cells_kindM] at g0
 replace g0 : DataW.trod enc Tryz.prog W 0 (fun _ => true) held n 40 [c0] = some y0 := g0
 have g1 : DataW.trod enc Tryz.prog W 0 (fun _ => true) held n 9 (([c0,c1,c2,c3].drop 1).take (Tryz.prog.cellsOf 9)) = some y1 := f1
 rw [cells_strM] at g1
 replace g1 : DataW.trod enc Tryz.prog W 0 (fun _ => true) held n 9 [c1] = some y1 := g1
 have g2 : DataW.trod enc Tryz.prog W 0 (fun _ => true) held n 4 (([c0,c1,c2,c3].drop 2).take (Tryz.prog.cellsOf 4)) = some y2 := f2
 rw [cells_boolM] at g2
 replace g2 : DataW.trod enc Tryz.prog W 0 (fun _ => true) held n 4 [c2] = some y2 := g2
 have g3 : DataW.trod enc Tryz.prog W 0 (fun _ => true) held n 4 (([c0,c1,c2,c3].drop 3).take (Tryz.prog.cellsOf 4)) = some y3 := f3
 rw [cells_boolM] at g3
 replace g3 : DataW.trod enc Tryz.prog W 0 (fun _ => true) held n 4 [c3] = some y3 := g3
 obtain ⟨z,h0,e0,_⟩ := DataW.trod_int Tryz.underlying40 g0
 obtain ⟨ts,h1,e1,_⟩ := DataW.trod_string Tryz.underlying9 g1
 obtain ⟨b2,h2,e2⟩ := DataW.trod_bool Tryz.underlying4 g2
 obtain ⟨b3,h3,e3⟩ := DataW.trod_bool Tryz.underlying4 g3
 cases h0; cases h1; cases h2; cases h3
 subst e0; subst e1; subst e2; subst e3
 simp only [List.map_cons,List.map_nil,DataW.agg.injEq,List.cons.injEq,DataW.lit.injEq,Lit.int.injEq,Lit.string.injEq,Lit.bool.injEq,true_and,and_true] at hx
 obtain ⟨rfl,hs,rfl,rfl⟩ := hx
 rw [str_back hs]
theorem rows_flat {α : Type} {k : Nat} : ∀ (rows : List (List α)) (cs : List α),cs.length = rows.length * k → (∀ i r,rows[i]? = some r → (cs.drop (i * k)).take k = r) → cs = rows.flatten
 | [],cs,hl,_ => by
  simp at hl
  simpa using hl
 | r :: rows,cs,hl,h => by
  have h0 := h 0 r rfl
  simp only [Nat.zero_mul,List.drop_zero] at h0
  have ih := rows_flat rows (cs.drop k) (by rw [List.length_drop,hl,List.length_cons,Nat.add_mul,Nat.one_mul,Nat.add_sub_cancel]) (fun i r' hr => by
   have := h (i + 1) r' (by simpa using hr)
   rw [List.drop_drop,show k + i * k = (i + 1) * k by rw [Nat.add_mul,Nat.one_mul,Nat.add_comm]]
   exact this)
  rw [List.flatten_cons,← h0,← ih,List.take_append_drop]
theorem nine_list {α : Type} {l : List α} (h : l.length = 9) : ∃ a b c d e f g i j,l = [a,b,c,d,e,f,g,i,j] := by
 match l,h with
 | [a,b,c,d,e,f,g,i,j],_ => exact ⟨a,b,c,d,e,f,g,i,j,rfl⟩
def rowsM : List (List Value) := (List.range 9).map fun i => (tabM.drop (i * 4)).take 4
theorem table_of {H : Type} {enc : TypeId × Value → H} {W : World} {held : Bool} {fuel : Nat} {cs : List Value} {x : DataW H × List MemPlace}
  (h : DataW.trod enc Tryz.prog W 0 (fun _ => true) held fuel 117 cs = some x) (hx : x.1 = Rows.laid_bolthole_rpc_methods) : cs = tabM := by
 obtain ⟨xs,m,rfl,rfl,hcl,hxl,hel⟩ := DataW.trod_array Tryz.underlying117 h
 rw [cells_meths] at hcl
 rw [cells_meth] at hel
 obtain ⟨x0,x1,x2,x3,x4,x5,x6,x7,x8,rfl⟩ := nine_list hxl
 simp only [Rows.laid_bolthole_rpc_methods,List.map_cons,List.map_nil,DataW.agg.injEq,List.cons.injEq,and_true] at hx
 obtain ⟨d0,d1,d2,d3,d4,d5,d6,d7,d8⟩ := hx
 have r0 := meth_of (hel 0 (by omega)) d0
 have r1 := meth_of (hel 1 (by omega)) d1
 have r2 := meth_of (hel 2 (by omega)) d2
 have r3 := meth_of (hel 3 (by omega)) d3
 have r4 := meth_of (hel 4 (by omega)) d4
 have r5 := meth_of (hel 5 (by omega)) d5
 have r6 := meth_of (hel 6 (by omega)) d6
 have r7 := meth_of (hel 7 (by omega)) d7
 have r8 := meth_of (hel 8 (by omega)) d8
 refine (rows_flat rowsM cs (k := 4) hcl (fun i r hr => ?_)).trans (by kernel_rfl)
 have hi : i < 9 := (List.getElem?_eq_some_iff.1 hr).1
 by_cases e0 : i = 0
 ·subst e0
  exact r0.trans (Option.some.inj hr)
 by_cases e1 : i = 1
 ·subst e1
  exact r1.trans (Option.some.inj hr)
 by_cases e2 : i = 2
 ·subst e2
  exact r2.trans (Option.some.inj hr)
 by_cases e3 : i = 3
 ·subst e3
  exact r3.trans (Option.some.inj hr)
 by_cases e4 : i = 4
 ·subst e4
  exact r4.trans (Option.some.inj hr)
 by_cases e5 : i = 5
 ·subst e5
  exact r5.trans (Option.some.inj hr)
 by_cases e6 : i = 6
 ·subst e6
  exact r6.trans (Option.some.inj hr)
 by_cases e7 : i = 7
 ·subst e7
  exact r7.trans (Option.some.inj hr)
 by_cases e8 : i = 8
 ·subst e8
  exact r8.trans (Option.some.inj hr)
 omega
theorem mtab_of_laid {W : World} (hL : laidMet Tryz.prog Rows.rpcAnswersUptoRow.laid W) : MTab W := by
 obtain ⟨g', t', cs, fuel, p, hg', ht', hv, hd⟩ := Lib.laidMet.reads hL (n := "bolthole/rpc.methods") (.tail _ (.tail _ (.tail _ (.tail _ (.tail _ (.tail _ (.head _)))))))
 obtain rfl := Option.some.inj ((show Tryz.prog.globalNamed "bolthole/rpc.methods" = some 0 by kernel_rfl).symm.trans hg')
 obtain rfl := Option.some.inj ((show (Tryz.prog.globals[0]?).map (·.type) = some 117 by kernel_rfl).symm.trans ht')
 have e := table_of hd rfl
 intro j u hj
 have hc := World.var?_cell (P := Tryz.prog) (show Tryz.prog.globalNamed "bolthole/rpc.methods" = some 0 by kernel_rfl) hv j
 rw [Nat.zero_add,hc,← Array.getElem?_toList,e]
 exact hj
end Go.Proofs.YtcfdalbdndamoaaGreatDoor.M
