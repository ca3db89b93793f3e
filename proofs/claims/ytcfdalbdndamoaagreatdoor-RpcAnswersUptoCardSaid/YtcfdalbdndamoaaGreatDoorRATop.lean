/- The statement 'answers' of layer 4 (boltholelaw04.RpcAnswers), its second form: for every id and result that hold together at most 1048576 values and letters, and for every error, it answers true, and what it was given reads afterwards as it read before; its tied card. Conditions: that bound (what the two values hold, each counted each time it is reached), and none beyond the card's own (the library's tables, its two errors, and the program's table of methods hold what their texts lay). -/
import Derived.Test.YtcfdalbdndamoaaGreatDoorCards
import Derived.Test.YtcfdalbdndamoaaGreatDoorTie
import Derived.Test.YtcfdalbdndamoaaGreatDoorRA38
import Derived.WalkKit
import Derived.ProofKit
import Derived.OpenShut
import Derived.Test.YtcfdalbdndamoaaGreatDoorRA39
import Derived.PinnedBridge
import Derived.Lay
import Derived.LaidOnce
import Derived.SevenTiedAt
import Derived.Deep.DeepHandedRow
namespace Go.Proofs.YtcfdalbdndamoaaGreatDoor.answersU
open Go.Proofs Go.Shelf Go.RowKit Go.ChangeShapes Go.WideShapes Go.ChangeAt
open Go.Proofs.YtcfdalbdndamoaaGreatDoor.V Go.Proofs.YtcfdalbdndamoaaGreatDoor.M
theorem own : ownKnob Tryz.prog.godebug = none := by kernel_rfl
theorem laidOut : laidOutB Tryz.prog = true := by kernel_rfl
theorem arg_of {v : Val} {lv kv : Value} {cs : Array Value} (h : (Value.agg cs).cells.toList = six' v lv kv) : Value.agg cs = arg v lv kv := by
 have h : cs.toList = six' v lv kv := h
 unfold arg
 rw [← h]
theorem answers_any (i r : Val) (er : Int) (il ik rl rk : Value) (w : World) (hi : ValIn w (fun _ => True) i il ik) (hr : ValIn w (fun _ => True) r rl rk) (hwi : wt i ≤ 1099511627776) (hwr : wt r ≤ 1099511627776) (hE : EnvW w) (hM : MTab w) :
  Calls Tryz.prog 5 #[arg i il ik,arg r rl rk,.int .i64 er] w fun e w' => e = .returned (.bool true) ∧ Below w.heap.size w w' := by
 by_cases hbig : 400 < sizeV i ∨ 400 < sizeV r
 ·exact answers_long i r er il ik rl rk w hi hr hwi hwr hbig hE hM
 ·exact answers_short i r er il ik rl rk w hi hr (by omega) (by omega) hE hM
set_option maxRecDepth 100000 in
set_option maxHeartbeats 2000000 in
theorem contract (H : Type) (enc : TypeId × Value → H) (W : World) (base : Nat) (args : Array Value) (ds gs : List (DataW H)) (before : List MemPlace)
  (hval0 : ∀ (j : Nat) t v,Tryz.f5.params[j]? = some t → args[j]? = some v → Value.okWide Tryz.prog W .any base t v)
  (hW : DataW.Whole enc Tryz.prog Tryz.f5.params.toList Rows.rpcAnswersSpec.vars false W args.toList ds gs before) (hk : Rows.uptoSmall H (ds ++ gs) = true) (hL : laidMetH Tryz.prog Rows.rpcAnswersUptoRow.laid W) :
  Calls Tryz.prog 5 args W fun e W' => ∃ v,e = .returned v ∧ Rows.rpcAnswersSpec.post enc Tryz.prog Tryz.f5 false true false false W args v W' := by
 have hval : ∀ (j : Nat) t v,Tryz.f5.params[j]? = some t → args[j]? = some v → Value.okWide Tryz.prog W .any base t v := hval0
 have hW' := hW
 obtain ⟨p,q,hA0,hV,rfl,_,_⟩ := hW
 have hA : DataW.TrodAll enc Tryz.prog W 0 (fun _ => true) true Tryz.f5.params.toList args.toList ds p := hA0
 rw [Tryz.params5] at hA hval
 obtain ⟨v0,v1,v2,d0,d1,d2,p0,p1,p2,rfl,rfl,rfl,h0,h1,h2⟩ := trodAll_three hA
 obtain ⟨rfl,rfl⟩ := trodVars_none hV
 obtain ⟨cs0,rfl,_⟩ := okWide_struct Tryz.underlying26 (hval 0 26 v0 rfl rfl)
 obtain ⟨cs1,rfl,_⟩ := okWide_struct Tryz.underlying26 (hval 1 26 v1 rfl rfl)
 obtain ⟨er,rfl,rfl,rfl,wx⟩ := open_int Tryz.underlying3 (hval 2 3 v2 rfl rfl) h2
 have h0k := h0
 have h1k := h1
 obtain ⟨f0,hf0⟩ := h0
 obtain ⟨f1,hf1⟩ := h1
 obtain ⟨v,lv,kv,e0,hv,hb0⟩ := tree_of f0 f0 _ _ (Nat.le_refl _) hf0
 obtain ⟨u,lu,ku,e1,hu,hb1⟩ := tree_of f1 f1 _ _ (Nat.le_refl _) hf1
 have hbulk : Rows.uptoBulkAll ([d0,d1,.lit (.int .i64 er)] ++ ([] : List (DataW H))) ≤ 1048576 := of_decide_eq_true hk
 simp only [List.append_nil,Rows.uptoBulkAll] at hbulk
 have hb0' : wt v ≤ Rows.uptoBulk d0 := hb0
 have hb1' : wt u ≤ Rows.uptoBulk d1 := hb1
 have ea := arg_of e0
 have eb := arg_of e1
 clear hA0 hval0 hf0 hf1 e0 e1
 simp only [List.append_nil] at hW'
 rw [MakeChecks.laidMetH_plain _ _ _ (by kernel_rfl)] at hL
 have hE := env_of_laidM hL
 have hM := mtab_of_laid hL
 have hlt : ∀ x ∈ p0 ++ p1,x.block < W.heap.size := fun x hx => by
  have := hW'.lt x hx
  simpa using this
 have hc := answers_any v u er lv kv lu ku W hv hu (by omega) (by omega) hE hM
 rw [← ea,← eb] at hc
 refine hc.mono fun e W' ⟨he,hb⟩ => ?_
 subst he
 have ht := trodAll_mk3 (Below.trod laidOut (by kernel_rfl) (of_decide_eq_true (by kernel_rfl)) h0k hb (fun x hx => hlt x (List.mem_append_left _ hx))) (Below.trod laidOut (by kernel_rfl) (of_decide_eq_true (by kernel_rfl)) h1k hb (fun x hx => hlt x (List.mem_append_right _ hx))) (shut_int Tryz.underlying3 wx)
 rw [List.append_nil] at ht
 exact ⟨_,rfl,_,_,_,[],p0 ++ p1,[],hW',trodAll_mk1 (shut_bool Tryz.underlying4 _),ht,rfl,hb.frame _,fun h => by cases h⟩
set_option maxRecDepth 100000 in
theorem reads (os : Os) {H : Type} (enc : TypeId × Value → H) : ∃ places,DataW.whole enc Tryz.prog (((World.laidAll Tryz.prog os Rows.rpcAnswersUptoRow.laid).forCall (fun _ _ => 0) ⟨#[],#[.agg #[.int .i64 0,.bool false,.int .i64 0,.string ⟨#[]⟩,.slice none 0 0,.slice none 0 0],.agg #[.int .i64 0,.bool false,.int .i64 0,.string ⟨#[]⟩,.slice none 0 0,.slice none 0 0],.int .i64 0],[]⟩)).memory Tryz.f5.params.toList Rows.rpcAnswersSpec.vars false [.agg #[.int .i64 0,.bool false,.int .i64 0,.string ⟨#[]⟩,.slice none 0 0,.slice none 0 0],.agg #[.int .i64 0,.bool false,.int .i64 0,.string ⟨#[]⟩,.slice none 0 0,.slice none 0 0],.int .i64 0] 8 = some ([.agg [.lit (.int .i64 0),.lit (.bool false),.lit (.int .i64 0),.lit (.string []),.nil,.nil],.agg [.lit (.int .i64 0),.lit (.bool false),.lit (.int .i64 0),.lit (.string []),.nil,.nil],.lit (.int .i64 0)],[],places) :=
 ⟨[],by kernel_rfl⟩
set_option maxRecDepth 100000 in
set_option maxHeartbeats 2000000 in
theorem lifted (os : Os) (started : os.Started) (H : Type) (enc : TypeId × Value → H) (F : Stop.Interp) :
  ReturnsInHanded {} Tryz.checked os 5 .any ((Rows.OpenSpec.upto Rows.rpcAnswersSpec).preRow enc Tryz.prog Tryz.f5 Rows.rpcAnswersUptoRow.domain false Rows.rpcAnswersUptoRow.laid) (((Rows.OpenSpec.upto Rows.rpcAnswersSpec).at F).post enc Tryz.prog Tryz.f5 false true false false) := by
 obtain ⟨places,hx⟩ := reads os enc
 have hok : Input.okWideB Tryz.checked.prog ((World.laidAll Tryz.prog os Rows.rpcAnswersUptoRow.laid).forCall (fun _ _ => 0) ⟨#[],#[.agg #[.int .i64 0,.bool false,.int .i64 0,.string ⟨#[]⟩,.slice none 0 0,.slice none 0 0],.agg #[.int .i64 0,.bool false,.int .i64 0,.string ⟨#[]⟩,.slice none 0 0,.slice none 0 0],.int .i64 0],[]⟩) 5 ⟨#[],#[.agg #[.int .i64 0,.bool false,.int .i64 0,.string ⟨#[]⟩,.slice none 0 0,.slice none 0 0],.agg #[.int .i64 0,.bool false,.int .i64 0,.string ⟨#[]⟩,.slice none 0 0,.slice none 0 0],.int .i64 0],[]⟩ = true := by kernel_rfl
 refine returnsInHanded_of_row (C := Tryz.checked) (s := Rows.OpenSpec.upto Rows.rpcAnswersSpec) own started (by kernel_rfl) Tryz.func5
  ⟨World.laidAll Tryz.prog os Rows.rpcAnswersUptoRow.laid,fun _ _ => 0,⟨#[],#[.agg #[.int .i64 0,.bool false,.int .i64 0,.string ⟨#[]⟩,.slice none 0 0,.slice none 0 0],.agg #[.int .i64 0,.bool false,.int .i64 0,.string ⟨#[]⟩,.slice none 0 0,.slice none 0 0],.int .i64 0],[]⟩,World.laidAll_os _ _ _,
   World.shaped_of_ZipB (by kernel_rfl) (by kernel_rfl),(Input.okWide_of_okWideB (base := 0) hok).1,(Input.okWide_of_okWideB hok).2,
   OpenSpec.preRow_of_cond 8 hx (by kernel_rfl) (fun k hk => by cases hk; kernel_rfl) (by kernel_rfl) (by rw [MakeChecks.laidMetH_plain _ _ _ (by kernel_rfl)]; exact laidMet_laidAll _ (by kernel_rfl) (by kernel_rfl)),by
    simp only [Assume.holds]
    exact ⟨by simp,by simp,fun _ => Modest.zero,by simp,by simp⟩⟩ ?_
 intro W base args ds gs before hval hW _ hcond _ hL _ _
 exact contract H enc W base args ds gs before hval hW (hcond _ rfl) hL
theorem holds : Rows.RpcAnswersUptoSaid :=
 OpenClaim.holds_of_cond 5 Tryz.f5 rfl rfl rfl rfl rfl rfl rfl ⟨rfl,rfl,rfl,rfl,rfl⟩ rfl rfl rfl rfl rfl (by kernel_rfl) Tryz.func5 (by kernel_rfl)
  (of_decide_eq_true (by kernel_rfl)) (by unfold Func.isWrapper; first | (rw [if_pos (by decide +kernel)]; kernel_rfl) | (rw [if_neg (by decide +kernel)]; exact ⟨rfl,rfl⟩))
  (fun os started H enc _ F => by rw [OpenClaim.pre_eq_preRow]; exact lifted os started H enc F)
theorem plain (f : FuncId) (fn : Func) (hf : Tryz.pinned.checked.prog.funcNamed "bolthole/boltholelaw04.RpcAnswers" = some f) (hfn : Tryz.pinned.checked.prog.funcs[f]? = some fn) :
  true = Tryz.pinned.checked.prog.looks [] ∧ ∀ (j : Nat) t,fn.params[j]? = some t → Tryz.pinned.checked.prog.wantsStandIn t = false := by
 obtain rfl : f = 5 := Option.some.inj ((show Tryz.prog.funcNamed "bolthole/boltholelaw04.RpcAnswers" = some 5 by kernel_rfl).symm.trans hf) |>.symm
 obtain rfl : fn = Tryz.f5 := (Option.some.inj (Tryz.func5.symm.trans hfn)).symm
 refine ⟨by kernel_rfl,fun j t ht => ?_⟩
 rw [Tryz.params5] at ht
 have hm : t ∈ [26,26,3] := by simpa using Array.mem_of_getElem? ht
 have hall : ([26,26,3].all fun u => !Tryz.prog.wantsStandIn u) = true := by kernel_rfl
 exact (show Tryz.prog.wantsStandIn t = false by simpa using List.all_eq_true.1 hall t hm)
theorem card_holds : Rows.RpcAnswersUptoCardSaid :=
 Claim7.holds_tied_plain_at .later [] _ _ _ _ holds (fun _ h => by cases h) (by kernel_rfl) (fun _ h => by cases h) rpcAnswersUpto_row_tie rfl ⟨rfl,rfl⟩ (by kernel_rfl) rfl plain (by kernel_rfl)
end Go.Proofs.YtcfdalbdndamoaaGreatDoor.answersU
