/- The statement 'writes' of layer 2 (boltholelaw02.ValueWrites: whether a value is right, its text, whether two are one, and a part of a Record are as the document says), its second form: for every two values and every path that hold together at most 1048576 values and letters it answers true, and what it was given reads afterwards as it read before; its tied card. Conditions: that bound (what the arguments hold, each counted each time it is reached), and none beyond the card's own (the library's tables, and its two errors, hold what the library's text lays). -/
import Derived.Test.YtfjdeacpdcnjpaaGreatDoorCards
import Derived.Test.YtfjdeacpdcnjpaaGreatDoorTie
import Derived.Test.YtfjdeacpdcnjpaaGreatDoorVWritesW
import Derived.WalkKit
import Derived.ProofKit
import Derived.OpenShut
import Derived.Test.YtfjdeacpdcnjpaaGreatDoorVLaidW
import Derived.PinnedBridge
import Derived.Lay
import Derived.LaidOnce
import Derived.SevenTiedAt
import Derived.Deep.DeepHandedRow
namespace Go.Proofs.YtfjdeacpdcnjpaaGreatDoor.writesU
open Go.Proofs Go.Shelf Go.RowKit Go.ChangeShapes Go.WideShapes Go.ChangeAt
open Go.Proofs.YtfjdeacpdcnjpaaGreatDoor.V

theorem own : ownKnob Tryz.prog.godebug = none := by kernel_rfl
theorem laidOut : laidOutB Tryz.prog = true := by kernel_rfl

/-- A list of keys that comes in as an argument. -/
theorem strs_of {H : Type} {enc : TypeId × Value → H} {W : World} {held : Bool} {n : Nat} {c5 : Value} {y5 : DataW H × List MemPlace} (h : DataW.trod enc Tryz.prog W 0 (fun _ => true) held n 24 [c5] = some y5) :
    ∃ ks, KeysIn W (fun _ => True) ks c5 ∧ ks.length ≤ Rows.uptoBulk y5.1 := by
  have hkeys : ∃ ks, KeysIn W (fun _ => True) ks c5 ∧ sumK ks + 1 ≤ Rows.uptoBulk y5.1 := by
    rcases open_strings Tryz.underlying24 Tryz.underlying9 cells_str h with ⟨hc, rfl⟩ | ⟨a, len, cap, ss, hc, _, hl, hm, hz, rfl, hcell, _⟩
    · cases hc
      exact ⟨[], ⟨none, 0, rfl, .inl rfl⟩, by simp [sumK, Rows.uptoBulk]⟩
    · cases hc
      simp only [if_true] at hz
      have hb := strs_bulk (H := H) (ss.take len)
      refine ⟨(ss.take len).map fun s => s.data.toList, ⟨some a, cap, by simp [hz, Nat.min_eq_left hl], ?_⟩, ?_⟩
      · by_cases h0 : len = 0
        · left; subst h0; simp
        · right
          obtain ⟨g, off, spot⟩ := a
          have hspot : spot = none := by simpa [Addr.add] using World.cell?_spot (hcell 0 (by omega))
          subst hspot
          refine ⟨g, off, rfl, trivial, fun j u hj => ?_⟩
          have hj2 : j < len := by
            have := (List.getElem?_eq_some_iff.1 hj).1
            simp at this
            omega
          have hj3 : j < ss.length := by omega
          have hc := hcell j (by omega)
          rw [Addr.add_lit] at hc
          rw [hc]
          simp [hj2, hj3, strCell] at hj ⊢
          exact hj
      · simp only [Rows.uptoBulk]
        omega
  obtain ⟨ks, h1, h2⟩ := hkeys
  have h3 := wt_keys ks
  have e : (ks.map fun k => k.length + 1).sum = sumK ks := rfl
  exact ⟨ks, h1, by omega⟩

theorem writes_any (v u : Val) (lv kv lu ku : Value) (p : List (List UInt8)) (pa : Option Addr) (pc : Nat) (w : World) (hv : ValIn w (fun _ => True) v lv kv) (hu : ValIn w (fun _ => True) u lu ku) (hp : KeysIn w (fun _ => True) p (.slice pa p.length pc)) (hwv : wt v ≤ 1099511627776) (hwu : wt u ≤ 1099511627776) (hpl : p.length ≤ 1099511627776) (hE : EnvW w) :
    Calls Tryz.prog 3 #[arg v lv kv, arg u lu ku, .slice pa p.length pc] w fun e w' => e = .returned (.bool true) ∧ Below w.heap.size w w' := by
  by_cases h : 400 < sizeV v ∨ 400 < sizeV u ∨ 120 < p.length
  · exact writes_long v u lv kv lu ku p.length pa pc w hv hu hwv hwu hpl h hE
  · exact writes_short v u lv kv lu ku p pa pc w hv hu hp (by omega) (by omega) (by omega) hE

theorem arg_of {v : Val} {lv kv : Value} {cs : Array Value} (h : (Value.agg cs).cells.toList = six' v lv kv) : Value.agg cs = arg v lv kv := by
  have h : cs.toList = six' v lv kv := h
  unfold arg
  rw [← h]

set_option maxRecDepth 100000 in
set_option maxHeartbeats 2000000 in
theorem contract (H : Type) (enc : TypeId × Value → H) (W : World) (base : Nat) (args : Array Value) (ds gs : List (DataW H)) (before : List MemPlace)
    (hval0 : ∀ (j : Nat) t v, Tryz.f3.params[j]? = some t → args[j]? = some v → Value.okWide Tryz.prog W .any base t v)
    (hW : DataW.Whole enc Tryz.prog Tryz.f3.params.toList Rows.valueWritesSpec.vars false W args.toList ds gs before) (hk : Rows.uptoSmall H (ds ++ gs) = true) (hL : laidMetH Tryz.prog Rows.valueWritesUptoRow.laid W) :
    Calls Tryz.prog 3 args W fun e W' => ∃ v, e = .returned v ∧ Rows.valueWritesSpec.post enc Tryz.prog Tryz.f3 false true false false W args v W' := by
  have hval : ∀ (j : Nat) t v, Tryz.f3.params[j]? = some t → args[j]? = some v → Value.okWide Tryz.prog W .any base t v := hval0
  have hW' := hW
  obtain ⟨p, q, hA0, hV, rfl, _, _⟩ := hW
  have hA : DataW.TrodAll enc Tryz.prog W 0 (fun _ => true) true Tryz.f3.params.toList args.toList ds p := hA0
  rw [Tryz.params3] at hA hval
  obtain ⟨v0, v1, v2, d0, d1, d2, p0, p1, p2, rfl, rfl, rfl, h0, h1, h2⟩ := trodAll_three hA
  obtain ⟨rfl, rfl⟩ := trodVars_none hV
  obtain ⟨cs0, rfl, _⟩ := okWide_struct Tryz.underlying26 (hval 0 26 v0 rfl rfl)
  obtain ⟨cs1, rfl, _⟩ := okWide_struct Tryz.underlying26 (hval 1 26 v1 rfl rfl)
  obtain ⟨a0, len, cap, rfl⟩ := okWide_slice Tryz.underlying24 (hval 2 24 v2 rfl rfl)
  have h0k := h0
  have h1k := h1
  have h2k := h2
  obtain ⟨f0, hf0⟩ := h0
  obtain ⟨f1, hf1⟩ := h1
  obtain ⟨f2, hf2⟩ := h2
  obtain ⟨v, lv, kv, e0, hv, hb0⟩ := tree_of f0 f0 _ _ (Nat.le_refl _) hf0
  obtain ⟨u, lu, ku, e1, hu, hb1⟩ := tree_of f1 f1 _ _ (Nat.le_refl _) hf1
  obtain ⟨p, hp, hb2⟩ := strs_of (by simpa [Value.cells] using hf2)
  have hp' := hp
  obtain ⟨pa, pc, hpe, _⟩ := hp'
  injection hpe with q1 q2 q3
  subst q1
  subst q2
  subst q3
  have hbulk : Rows.uptoBulkAll ([d0, d1, d2] ++ ([] : List (DataW H))) ≤ 1048576 := of_decide_eq_true hk
  simp only [List.append_nil, Rows.uptoBulkAll] at hbulk
  have hb0' : wt v ≤ Rows.uptoBulk d0 := hb0
  have hb1' : wt u ≤ Rows.uptoBulk d1 := hb1
  have hb2' : p.length ≤ Rows.uptoBulk d2 := hb2
  have ea := arg_of e0
  have eb := arg_of e1
  clear hA0 hval0 hf0 hf1 hf2 e0 e1
  simp only [List.append_nil] at hW'
  rw [MakeChecks.laidMetH_plain _ _ _ (by kernel_rfl)] at hL
  have hE := env_of_laid hL
  have hlt : ∀ x ∈ p0 ++ p1 ++ p2, x.block < W.heap.size := fun x hx => by
    have := hW'.lt x hx
    simpa using this
  have hc := writes_any v u lv kv lu ku p _ _ W hv hu hp (by omega) (by omega) (by omega) hE
  rw [← ea, ← eb] at hc
  refine hc.mono fun e W' ⟨he, hb⟩ => ?_
  subst he
  have ht := trodAll_mk3 (Below.trod laidOut (by kernel_rfl) (of_decide_eq_true (by kernel_rfl)) h0k hb (fun x hx => hlt x (by simp [hx]))) (Below.trod laidOut (by kernel_rfl) (of_decide_eq_true (by kernel_rfl)) h1k hb (fun x hx => hlt x (by simp [hx]))) (Below.trod laidOut (by kernel_rfl) (of_decide_eq_true (by kernel_rfl)) h2k hb (fun x hx => hlt x (by simp [hx])))
  rw [← List.append_assoc] at ht
  exact ⟨_, rfl, _, _, _, [], p0 ++ p1 ++ p2, [], hW', trodAll_mk1 (shut_bool Tryz.underlying4 _), ht, rfl, hb.frame _, fun h => by cases h⟩

set_option maxRecDepth 100000 in
theorem reads (os : Os) {H : Type} (enc : TypeId × Value → H) : ∃ places, DataW.whole enc Tryz.prog (((World.laidAll Tryz.prog os Rows.valueWritesUptoRow.laid).forCall (fun _ _ => 0) ⟨#[], #[.agg #[.int .i64 0, .bool false, .int .i64 0, .string ⟨#[]⟩, .slice none 0 0, .slice none 0 0], .agg #[.int .i64 0, .bool false, .int .i64 0, .string ⟨#[]⟩, .slice none 0 0, .slice none 0 0], .slice none 0 0], []⟩)).memory Tryz.f3.params.toList Rows.valueWritesSpec.vars false [.agg #[.int .i64 0, .bool false, .int .i64 0, .string ⟨#[]⟩, .slice none 0 0, .slice none 0 0], .agg #[.int .i64 0, .bool false, .int .i64 0, .string ⟨#[]⟩, .slice none 0 0, .slice none 0 0], .slice none 0 0] 8 = some ([.agg [.lit (.int .i64 0), .lit (.bool false), .lit (.int .i64 0), .lit (.string []), .nil, .nil], .agg [.lit (.int .i64 0), .lit (.bool false), .lit (.int .i64 0), .lit (.string []), .nil, .nil], .nil], [], places) :=
  ⟨[], by kernel_rfl⟩

set_option maxRecDepth 100000 in
set_option maxHeartbeats 2000000 in
theorem lifted (os : Os) (started : os.Started) (H : Type) (enc : TypeId × Value → H) (F : Stop.Interp) :
    ReturnsInHanded {} Tryz.checked os 3 .any ((Rows.OpenSpec.upto Rows.valueWritesSpec).preRow enc Tryz.prog Tryz.f3 Rows.valueWritesUptoRow.domain false Rows.valueWritesUptoRow.laid) (((Rows.OpenSpec.upto Rows.valueWritesSpec).at F).post enc Tryz.prog Tryz.f3 false true false false) := by
  obtain ⟨places, hx⟩ := reads os enc
  have hok : Input.okWideB Tryz.checked.prog ((World.laidAll Tryz.prog os Rows.valueWritesUptoRow.laid).forCall (fun _ _ => 0) ⟨#[], #[.agg #[.int .i64 0, .bool false, .int .i64 0, .string ⟨#[]⟩, .slice none 0 0, .slice none 0 0], .agg #[.int .i64 0, .bool false, .int .i64 0, .string ⟨#[]⟩, .slice none 0 0, .slice none 0 0], .slice none 0 0], []⟩) 3 ⟨#[], #[.agg #[.int .i64 0, .bool false, .int .i64 0, .string ⟨#[]⟩, .slice none 0 0, .slice none 0 0], .agg #[.int .i64 0, .bool false, .int .i64 0, .string ⟨#[]⟩, .slice none 0 0, .slice none 0 0], .slice none 0 0], []⟩ = true := by kernel_rfl
  refine returnsInHanded_of_row (C := Tryz.checked) (s := Rows.OpenSpec.upto Rows.valueWritesSpec) own started (by kernel_rfl) Tryz.func3
    ⟨World.laidAll Tryz.prog os Rows.valueWritesUptoRow.laid, fun _ _ => 0, ⟨#[], #[.agg #[.int .i64 0, .bool false, .int .i64 0, .string ⟨#[]⟩, .slice none 0 0, .slice none 0 0], .agg #[.int .i64 0, .bool false, .int .i64 0, .string ⟨#[]⟩, .slice none 0 0, .slice none 0 0], .slice none 0 0], []⟩, World.laidAll_os _ _ _,
      World.shaped_of_ZipB (by kernel_rfl) (by kernel_rfl), (Input.okWide_of_okWideB (base := 0) hok).1, (Input.okWide_of_okWideB hok).2,
      OpenSpec.preRow_of_cond 8 hx (by kernel_rfl) (fun k hk => by cases hk; kernel_rfl) (by kernel_rfl) (by rw [MakeChecks.laidMetH_plain _ _ _ (by kernel_rfl)]; exact laidMet_laidAll _ (by kernel_rfl) (by kernel_rfl)), by
        simp only [Assume.holds]
        exact ⟨by simp, by simp, fun _ => Modest.zero, by simp, by simp⟩⟩ ?_
  intro W base args ds gs before hval hW _ hcond _ hL _ _
  exact contract H enc W base args ds gs before hval hW (hcond _ rfl) hL

theorem holds : Rows.ValueWritesUptoSaid :=
  OpenClaim.holds_of_cond 3 Tryz.f3 rfl rfl rfl rfl rfl rfl rfl ⟨rfl, rfl, rfl, rfl, rfl⟩ rfl rfl rfl rfl rfl (by kernel_rfl) Tryz.func3 (by kernel_rfl)
    (of_decide_eq_true (by kernel_rfl)) (by unfold Func.isWrapper; first | (rw [if_pos (by decide +kernel)]; kernel_rfl) | (rw [if_neg (by decide +kernel)]; exact ⟨rfl, rfl⟩))
    (fun os started H enc _ F => by rw [OpenClaim.pre_eq_preRow]; exact lifted os started H enc F)
theorem plain (f : FuncId) (fn : Func) (hf : Tryz.pinned.checked.prog.funcNamed "bolthole/boltholelaw02.ValueWrites" = some f) (hfn : Tryz.pinned.checked.prog.funcs[f]? = some fn) :
    true = Tryz.pinned.checked.prog.looks [] ∧ ∀ (j : Nat) t, fn.params[j]? = some t → Tryz.pinned.checked.prog.wantsStandIn t = false := by
  obtain rfl : f = 3 := Option.some.inj ((show Tryz.prog.funcNamed "bolthole/boltholelaw02.ValueWrites" = some 3 by kernel_rfl).symm.trans hf) |>.symm
  obtain rfl : fn = Tryz.f3 := (Option.some.inj (Tryz.func3.symm.trans hfn)).symm
  refine ⟨by kernel_rfl, fun j t ht => ?_⟩
  rw [Tryz.params3] at ht
  have hm : t ∈ [26, 26, 24] := by simpa using Array.mem_of_getElem? ht
  have hall : ([26, 26, 24].all fun u => !Tryz.prog.wantsStandIn u) = true := by kernel_rfl
  exact (show Tryz.prog.wantsStandIn t = false by simpa using List.all_eq_true.1 hall t hm)
theorem card_holds : Rows.ValueWritesUptoCardSaid :=
  Claim7.holds_tied_plain_at .later [] _ _ _ _ holds (fun _ h => by cases h) (by kernel_rfl) (fun _ h => by cases h) valueWritesUpto_row_tie rfl ⟨rfl, rfl⟩ (by kernel_rfl) rfl plain (by kernel_rfl)
end Go.Proofs.YtfjdeacpdcnjpaaGreatDoor.writesU
