/- The statement 'the same' of layer 12 (bolthole/boltholelaw12.UnitSame): for every input it answers true, and what it was given reads afterwards as it read before; its tied card. Conditions: none beyond the card's own (the tables of unicode/utf8, and the program's own table of marks, hold what their texts lay). -/
import Derived.Test.YtojoahlpgmnbnaaGreatDoorUSOp
import Derived.Test.YtojoahlpgmnbnaaGreatDoorUF1
import Derived.Test.YtojoahlpgmnbnaaGreatDoorUF2
import Derived.Test.YtojoahlpgmnbnaaGreatDoorUF3
import Derived.Test.YtojoahlpgmnbnaaGreatDoorUF4
import Derived.Test.YtojoahlpgmnbnaaGreatDoorUF5
import Derived.Test.YtojoahlpgmnbnaaGreatDoorUF6
import Derived.Test.YtojoahlpgmnbnaaGreatDoorUF7
import Derived.Test.YtojoahlpgmnbnaaGreatDoorUF8
import Derived.Test.YtojoahlpgmnbnaaGreatDoorUF9
import Derived.Test.YtojoahlpgmnbnaaGreatDoorUF10
import Derived.Test.YtojoahlpgmnbnaaGreatDoorUF11
import Derived.Test.YtojoahlpgmnbnaaGreatDoorUF12
import Derived.Test.YtojoahlpgmnbnaaGreatDoorUF13
import Derived.Test.YtojoahlpgmnbnaaGreatDoorUF14
import Derived.Test.YtojoahlpgmnbnaaGreatDoorUF15
import Derived.Test.YtojoahlpgmnbnaaGreatDoorCards
import Derived.Test.YtojoahlpgmnbnaaGreatDoorTie
import Derived.Test.YtojoahlpgmnbnaaGreatDoorUS1
import Derived.Test.YtojoahlpgmnbnaaGreatDoorUS2
import Derived.WalkKit
import Derived.ProofKit
import Derived.OpenShut
import Derived.Lay
import Derived.LaidOnce
import Derived.SevenTiedAt
import Derived.Deep.DeepHandedRow
import Derived.PinnedBridge
import Derived.SliceStrings
namespace Go.Proofs.YtojoahlpgmnbnaaGreatDoor.cusame
open Go.Proofs Go.Shelf Go.RowKit Go.ChangeShapes Go.WideShapes Go.ChangeAt
open Go.ChangeMaps (open_string shut_string)
open U S T J
theorem tabs {W:World} (hL:laidMet Tryz.prog Rows.unitSameRow.laid W):Tabs W:=tabs_of hL (.tail _ (.tail _ (.head _))) (.head _)
theorem mtab {W:World} (hL:laidMet Tryz.prog Rows.unitSameRow.laid W):K.MTab W:=mtab_of hL (.tail _ (.head _))
theorem own:ownKnob Tryz.prog.godebug=none:=by kernel_rfl
set_option maxRecDepth 100000 in
set_option maxHeartbeats 2000000 in
theorem contract (H:Type) (enc:TypeId × Value→H) (W:World) (base:Nat) (args:Array Value) (ds gs:List (DataW H)) (before:List MemPlace)
  (hval0:∀ (j:Nat) t v,Tryz.f5.params[j]?=some t→args[j]?=some v→Value.okWide Tryz.prog W .any base t v)
  (hW:DataW.Whole enc Tryz.prog Tryz.f5.params.toList Rows.unitSameSpec.vars false W args.toList ds gs before)
  (hsz0:(DataW.weightsEach Tryz.prog (Tryz.f5.params.toList++Rows.unitSameSpec.plain.varTypes Tryz.prog) (ds++gs)).all (·≤reachBytes)=true) (hL:laidMetH Tryz.prog Rows.unitSameRow.laid W) :
  Calls Tryz.prog 5 args W fun e W'=>∃ v,e=.returned v∧Rows.unitSameSpec.post enc Tryz.prog Tryz.f5 false true false false W args v W':=by
 have hsz:=hsz0
 have hval:∀ (j:Nat) t v,Tryz.f5.params[j]?=some t→args[j]?=some v→Value.okWide Tryz.prog W .any base t v:=hval0
 have hW':=hW
 obtain ⟨p,q,hA0,hV,rfl,_,_⟩:=hW
 have hA:DataW.TrodAll enc Tryz.prog W 0 (fun _=>true) true Tryz.f5.params.toList args.toList ds p:=hA0
 rw [Tryz.params5] at hA hval hsz
 obtain ⟨v0,v1,v2,d0,d1,d2,p0,p1,p2,rfl,rfl,hp,h0,h1,h2⟩:=trodAll_three hA
 obtain ⟨rfl,rfl⟩:=trodVars_none hV
 simp only [List.append_nil] at hW'
 obtain ⟨s0,rfl,rfl,rfl,ws0⟩:=open_string Tryz.underlying9 (hval 0 9 v0 rfl rfl) h0
 obtain ⟨x1,rfl,rfl,rfl,wx1⟩:=open_int Tryz.underlying3 (hval 1 3 v1 rfl rfl) h1
 obtain ⟨s2,rfl,rfl,rfl,ws2⟩:=open_string Tryz.underlying9 (hval 2 9 v2 rfl rfl) h2
 clear hA0 hval0 hsz0
 rw [MakeChecks.laidMetH_plain _ _ _ (by kernel_rfl)] at hL
 refine (Ud.unitSame_law s0 s2 x1 W (tabs hL) (mtab hL)).mono fun e W' ⟨he,hb⟩=>?_
 subst he
 exact ⟨_,rfl,_,_,_,[],_,[],hW',trodAll_mk1 (shut_bool Tryz.underlying4 _),trodAll_mk3 (shut_string Tryz.underlying9 ws0) (shut_int Tryz.underlying3 wx1) (shut_string Tryz.underlying9 ws2),rfl,hb.frame _,fun h=>by cases h⟩
set_option maxRecDepth 100000 in
set_option maxHeartbeats 2000000 in
theorem lifted (os:Os) (started:os.Started) (H:Type) (enc:TypeId × Value→H) :
  ReturnsInHanded {} Tryz.checked os 5 .any (fun w args=>(Rows.unitSameSpec.pre enc Tryz.prog Tryz.f5 [] false w args∧laidMetH Tryz.prog Rows.unitSameRow.laid w)∧sizedMet enc Tryz.prog Tryz.f5 (OpenSpec.ofChange Rows.unitSameSpec) false w args)
   (Rows.unitSameSpec.post enc Tryz.prog Tryz.f5 false true false false):=by
 refine returnsInHanded_of_change_and (C:=Tryz.checked) (X:=fun w _=>laidMetH Tryz.prog Rows.unitSameRow.laid w) (fun _ _ _ hh h=>h.of_heap hh) own started (by kernel_rfl) Tryz.func5
  (ChangeSpec.witness_shaped (enc:=enc) (C:=Tryz.checked) (os:=os) (X:=fun w _=>laidMetH Tryz.prog Rows.unitSameRow.laid w) false (World.laidAll Tryz.prog os Rows.unitSameRow.laid) #[.string ⟨#[]⟩,.int .i64 0,.string ⟨#[]⟩] 8 (World.laidAll_os _ _ _)
   (World.shaped_of_ZipB (by kernel_rfl) (by kernel_rfl)) (by kernel_rfl) (by kernel_rfl) (by kernel_rfl)
   (by rw [MakeChecks.laidMetH_plain _ _ _ (by kernel_rfl)];exact laidMet_laidAll _ (by kernel_rfl) (by kernel_rfl))) ?_
 intro W base args ds gs before hval hW _ hsz hL _
 exact contract H enc W base args ds gs before hval hW hsz hL
theorem holds:Rows.UnitSameSaid :=
 OpenClaim.holds_of_wide 5 Tryz.f5 rfl rfl rfl rfl rfl rfl rfl ⟨rfl,rfl,rfl,rfl,rfl⟩ rfl rfl rfl rfl rfl (by kernel_rfl) Tryz.func5 (by kernel_rfl)
  (of_decide_eq_true (by kernel_rfl)) (by unfold Func.isWrapper;first|(rw [if_pos (by decide +kernel)];kernel_rfl)|(rw [if_neg (by decide +kernel)];exact ⟨rfl,rfl⟩))
  (fun os started H enc _=>lifted os started H enc)
theorem plain (f:FuncId) (fn:Func) (hf:Tryz.pinned.checked.prog.funcNamed "bolthole/boltholelaw12.UnitSame"=some f) (hfn:Tryz.pinned.checked.prog.funcs[f]?=some fn) :
  true=Tryz.pinned.checked.prog.looks []∧∀ (j:Nat) t,fn.params[j]?=some t→Tryz.pinned.checked.prog.wantsStandIn t=false:=by
 obtain rfl:f=5:=Option.some.inj ((show Tryz.prog.funcNamed "bolthole/boltholelaw12.UnitSame"=some 5 by kernel_rfl).symm.trans hf) |>.symm
 obtain rfl:fn=Tryz.f5:=(Option.some.inj (Tryz.func5.symm.trans hfn)).symm
 refine ⟨by kernel_rfl,fun j t ht=>?_⟩
 rw [Tryz.params5] at ht
 have hm:t∈[9,3,9]:=by simpa using Array.mem_of_getElem? ht
 have hall:([9,3,9].all fun u=>!Tryz.prog.wantsStandIn u)=true:=by kernel_rfl
 exact (show Tryz.prog.wantsStandIn t=false by simpa using List.all_eq_true.1 hall t hm)
theorem card_holds:Rows.UnitSameCardSaid :=
 Claim7.holds_tied_plain_at .later [] _ _ _ _ holds (fun _ h=>by cases h) (by kernel_rfl) (fun _ h=>by cases h) unitSame_row_tie rfl ⟨rfl,rfl⟩ (by kernel_rfl) rfl plain (by kernel_rfl)
end Go.Proofs.YtojoahlpgmnbnaaGreatDoor.cusame
