/- The texts JLDeep, CPDeep, joined. -/
import Derived.Test.YtnjhmjkonmmomaaDoorG16
import Derived.Test.YtnjhmjkonmmomaaDoorG10
import Derived.Test.YtnjhmjkonmmomaaDoorCards
import Derived.Test.YtnjhmjkonmmomaaDoorTie
import Derived.Test.YtnjhmjkonmmomaaDoorG14
import Derived.WalkKit
import Derived.ProofKit
import Derived.OpenShut
import Derived.Lay
import Derived.LaidOnce
import Derived.SevenTiedAt
import Derived.Deep.DeepHandedRow
import Derived.PinnedBridge
/- JLDeep: The law ParseDeep: a type of so many stars, and blocks within blocks, are parts, as deep as they are, up to forty; deeper ones are ErrDeep. -/
section
namespace Go.Proofs.YtnjhmjkonmmomaaDoor.J
open Go.RowKit
open Go.Lib hiding intOf
open Go.Proofs.YtnjhmjkonmmomaaDoor.U Go.Proofs.YtnjhmjkonmmomaaDoor.S Go.Proofs.YtnjhmjkonmmomaaDoor.T
open Go.Proofs.YtnjhmjkonmmomaaDoor.K (MTab DeclPost decl_any declP zeroP)

theorem and_63 (z : Int) : ∃ q : Nat, bits BinOp.and .i64 z 63 = (q : Int) ∧ q ≤ 63 := by
  refine ⟨(BitVec.ofInt 64 z &&& BitVec.ofInt 64 63).toNat, ?_, ?_⟩
  · have h : (BitVec.ofInt 64 z &&& BitVec.ofInt 64 63).toNat ≤ 63 := by
      rw [BitVec.toNat_and]
      exact Nat.le_trans Nat.and_le_right (by decide)
    show IntKind.i64.wrap (((BitVec.ofInt 64 z &&& BitVec.ofInt 64 63).toNat : Nat) : Int) = _
    exact IntWalk.i64_in _ (by omega)
  · rw [BitVec.toNat_and]
    exact Nat.le_trans Nat.and_le_right (by decide)
/-- So many bytes. -/
def repB (c : UInt8) (k : Nat) : ByteArray := ⟨(List.replicate k c).toArray⟩
theorem repB_zero (c : UInt8) : repB c 0 = ⟨#[]⟩ := rfl
theorem repB_succ (c : UInt8) (k : Nat) : repB c k ++ ⟨#[c]⟩ = repB c (k + 1) := by
  unfold repB
  rw [List.replicate_succ', ← Q.mk_app]
theorem repB_size (c : UInt8) (k : Nat) : (repB c k).size = k := by show (List.replicate k c).length = k; simp
def starB (k : Nat) : ByteArray := (⟨#[118, 97, 114, 32, 120, 32]⟩ ++ repB 42 k) ++ ⟨#[105, 110, 116]⟩
def blockB (k : Nat) : ByteArray := ((⟨#[102, 117, 110, 99, 32, 102, 40, 41, 32, 123]⟩ ++ repB 123 k) ++ repB 125 k) ++ ⟨#[125]⟩
theorem starB_is (k : Nat) : starB k = ⟨(varX ++ (List.replicate k 42 ++ intB)).toArray⟩ := by
  unfold starB repB varX intB
  rw [← List.append_assoc, Q.mk_app, Q.mk_app]
theorem blockB_is (k : Nat) : blockB k = ⟨(funcX ++ (List.replicate k 123 ++ (List.replicate k 125 ++ [125]))).toArray⟩ := by
  unfold blockB repB funcX
  rw [← List.append_assoc, ← List.append_assoc, Q.mk_app, Q.mk_app, Q.mk_app]
theorem told_of {l : By} {s : ByteArray} (h : s = ⟨l.toArray⟩) : declP (scanB (okB s) s.toList) s.size = declP (scanB (okB ⟨l.toArray⟩) l) l.length := by
  subst h
  have e : (⟨l.toArray⟩ : ByteArray).toList = l := by rw [ByteArray.toList_eq]
  have z : (⟨l.toArray⟩ : ByteArray).size = l.length := by simp [ByteArray.size]
  rw [e, z]
theorem stars_k (k : Nat) (hk : k ≤ 63) : ∃ p at' er, declP (scanB (okB (starB k)) (starB k).toList) (starB k).size = (p, at', er) ∧ (38 < k → er = 22) ∧ (k ≤ 38 → er = 0 ∧ deep p = k + 2) := by
  have h := List.all_eq_true.1 stars_all k (List.mem_range.2 (by omega))
  rw [told_of (starB_is k)]
  unfold starsOk at h
  dsimp only at h
  obtain ⟨d, hd⟩ : ∃ d, declP (scanB (okB ⟨(varX ++ (List.replicate k 42 ++ intB)).toArray⟩) (varX ++ (List.replicate k 42 ++ intB))) (varX ++ (List.replicate k 42 ++ intB)).length = d := ⟨_, rfl⟩
  rw [hd] at h ⊢
  refine ⟨d.1, d.2.1, d.2.2, rfl, fun h1 => ?_, fun h1 => ?_⟩
  · rw [if_pos h1] at h; simpa using h
  · rw [if_neg (by omega)] at h; simpa using h
theorem blocks_k (k : Nat) (hk : k ≤ 63) : ∃ p at' er, declP (scanB (okB (blockB k)) (blockB k).toList) (blockB k).size = (p, at', er) ∧ (38 < k → er = 22) ∧ (k ≤ 38 → er = 0 ∧ deep p = k + 2) := by
  have h := List.all_eq_true.1 blocks_all k (List.mem_range.2 (by omega))
  rw [told_of (blockB_is k)]
  unfold blocksOk at h
  dsimp only at h
  obtain ⟨d, hd⟩ : ∃ d, declP (scanB (okB ⟨(funcX ++ (List.replicate k 123 ++ (List.replicate k 125 ++ [125]))).toArray⟩) (funcX ++ (List.replicate k 123 ++ (List.replicate k 125 ++ [125])))) (funcX ++ (List.replicate k 123 ++ (List.replicate k 125 ++ [125]))).length = d := ⟨_, rfl⟩
  rw [hd] at h ⊢
  refine ⟨d.1, d.2.1, d.2.2, rfl, fun h1 => ?_, fun h1 => ?_⟩
  · rw [if_pos h1] at h; simpa using h
  · rw [if_neg (by omega)] at h; simpa using h
theorem starB_size (k : Nat) : (starB k).size = k + 9 := by
  have h1 : (⟨#[118, 97, 114, 32, 120, 32]⟩ : ByteArray).size = 6 := rfl
  have h2 : (⟨#[105, 110, 116]⟩ : ByteArray).size = 3 := rfl
  unfold starB; simp only [ByteArray.size_append, repB_size, h1, h2]; omega
theorem blockB_size (k : Nat) : (blockB k).size = k + k + 11 := by
  have h1 : (⟨#[102, 117, 110, 99, 32, 102, 40, 41, 32, 123]⟩ : ByteArray).size = 10 := rfl
  have h2 : (⟨#[125]⟩ : ByteArray).size = 1 := rfl
  unfold blockB; simp only [ByteArray.size_append, repB_size, h1, h2]; omega
/-- What is read of a text, as it is needed here. -/
theorem decl_five (s : ByteArray) {p : Pt} {at' er : Int} (h : declP (scanB (okB s) s.toList) s.size = (p, at', er)) (w : World) (hs : s.size ≤ 600) (hT : Tabs w) (hG : MTab w) :
    Calls Tryd.prog 16 #[.string s] w fun e w' => ∃ kb tb f e0 a n c, e = .returned (.tuple #[.agg #[.string kb, .string tb, .int .i64 f, .int .i64 e0, .slice a n c], .int .i64 at', .int .i64 er]) ∧ Below w.heap.size w w' ∧
      ∀ X, Below w'.heap.size w' X → Calls Tryd.prog 14 #[.agg #[.string kb, .string tb, .int .i64 f, .int .i64 e0, .slice a n c]] X fun e X' => e = .returned (.int .i64 (deep p)) ∧ Below X.heap.size X X' := by
  refine (decl_any s w hs hT hG).mono ?_
  rintro e w' ⟨q, x, y, lv, h1, rfl, h3, h4, h5⟩
  rw [h] at h1
  cases h1
  obtain ⟨k, t, f, e0, ks⟩ := p
  obtain ⟨a, c, rfl⟩ := kids_form h3
  exact ⟨bstr k, bstr t, f, e0, a, ks.length, c, rfl, h4, fun X hX => deep_any _ (kids_below h3 hX) (by omega)⟩
set_option maxHeartbeats 8000000 in
set_option maxRecDepth 20000 in
theorem deep_law (z : Int) (w : World) (hT : Tabs w) (hG : MTab w) : Calls Tryd.prog 6 #[.int .i64 z] w fun e w' => e = .returned (.bool true) ∧ Below w.heap.size w w' := by
  have HT := Lib.hid hT
  have HG := Lib.hid hG
  obtain ⟨k, hk, hk63⟩ := and_63 z
  clear hT hG
  go_enter Tryd.func6, Tryd.ntmps6
  go_upto_region 2 with fail
  clear hk
  go_wp2_with fail
  go_loopw [4, 5, 6, 7] (fun sv ov ev iv wr => ∃ i : Nat, iv = .int .i64 i ∧ sv = .string (repB 42 i) ∧ ov = .string (repB 123 i) ∧ ev = .string (repB 125 i) ∧ i ≤ k ∧ wr = w) (fun _ _ _ iv _ => k - (Go.RowKit.intOf iv).toNat)
  case atStart => exact ⟨0, rfl, rfl, rfl, rfl, Nat.zero_le _, rfl⟩
  case round =>
    obtain ⟨i, rfl, rfl, rfl, rfl, hi, hwr⟩ := hrel
    have hwr' := hwr.symm
    subst hwr'
    clear hwr
    by_cases hlt : i < k
    · have z1 := repB_size 42 i
      have z2 := repB_size 123 i
      have z3 := repB_size 125 i
      have e1 := repB_succ 42 i
      have e2 := repB_succ 123 i
      have e3 := repB_succ 125 i
      go_wp2_with fail
      go_roundw
      case rel => exact ⟨i + 1, by go_num, by first | rfl | rw [e1], by first | rfl | rw [e2], by first | rfl | rw [e3], by omega, by first | rfl | trivial⟩
      case measure => simp [Go.RowKit.intOf]; omega
    · obtain rfl : i = k := by omega
      obtain ⟨p1, at1, er1, h1, h1a, h1b⟩ := stars_k i hk63
      obtain ⟨p2, at2, er2, h2, h2a, h2b⟩ := blocks_k i hk63
      have c1 := decl_five (starB i) h1 w (by rw [starB_size]; omega) HT.out HG.out
      have H1a := Lib.hid h1a
      have H1b := Lib.hid h1b
      have H2 := Lib.hid h2
      have H2a := Lib.hid h2a
      have H2b := Lib.hid h2b
      have z1 := repB_size 42 i
      have z2 := repB_size 123 i
      have z3 := repB_size 125 i
      have zs := starB_size i
      have zb := blockB_size i
      clear h1 h1a h1b h2 h2a h2b
      unfold starB at c1
      go_wp2_with fail
      refine c1.mono ?_
      rintro e w1 ⟨kb, tb, f, e0, a, n, c, rfl, hb1, hd1⟩
      have HB1 := Lib.hid hb1
      have HD1 := Lib.hid hd1
      clear c1 hb1 hd1
      go_upto_region 12 with fail
      obtain ⟨w2, hw2, hq2, hb2, hz2⟩ := new_block w1 (.cells #[.string kb, .string tb, .int .i64 f, .int .i64 e0, .slice a n c] 24)
      rw [hw2]
      have HQ2 := Lib.hid hq2
      have HB2 := Lib.hid hb2
      have HZ2 := Lib.hid hz2
      have hw := HB1.out.trans (hb2.mono HB1.out.size)
      have c2 := decl_five (blockB i) H2.out w2 (by rw [blockB_size]; omega) (HT.out.later hw) (HG.out.later hw)
      unfold blockB at c2
      clear hw2 hq2 hb2 hz2 hw
      go_wp2_with fail
      refine c2.mono ?_
      rintro e w3 ⟨kb', tb', f', e0', a', n', c', rfl, hb3, hd3⟩
      have HB3 := Lib.hid (HB2.out.trans (hb3.mono HB2.out.size))
      have HQ3 := Lib.hid ((hb3.block _ HZ2.out).trans HQ2.out)
      have HZ3 := Lib.hid (Nat.lt_of_lt_of_le HZ2.out hb3.size)
      have HD3 := Lib.hid hd3
      clear c2 hb3 hd3
      go_upto_region 13 with fail
      obtain ⟨w4, hw4, hq4, hb4, hz4⟩ := new_block w3 (.cells #[.string kb', .string tb', .int .i64 f', .int .i64 e0', .slice a' n' c'] 24)
      rw [hw4]
      have HB4 := Lib.hid (HB3.out.trans (hb4.mono HB3.out.size))
      have HQ4 := Lib.hid ((hb4.block _ HZ3.out).trans HQ3.out)
      have HZ4 := Lib.hid (Nat.lt_of_lt_of_le HZ3.out hb4.size)
      have HR4 := Lib.hid hq4
      have HB34 := Lib.hid hb4
      have HZ34 := Lib.hid hz4
      clear hw4 hq4 hb4 hz4
      have cA := alive_any w4 (HT.out.later (HB1.out.trans (HB4.out.mono HB1.out.size))) (HG.out.later (HB1.out.trans (HB4.out.mono HB1.out.size)))
      by_cases h38 : 38 < i
      · obtain rfl := H1a.out h38
        obtain rfl := H2a.out h38
        go_wp2_with fail
        refine cA.mono ?_
        rintro e w5 ⟨rfl, hb5⟩
        have HB5 := Lib.hid (HB1.out.trans ((HB4.out.trans (hb5.mono HB4.out.size)).mono HB1.out.size))
        clear cA hb5
        go_wp2_with fail
        go_ret
        exact ⟨rfl, HB5.out⟩
      · obtain ⟨rfl, hp1⟩ := H1b.out (by omega)
        obtain ⟨rfl, hp2⟩ := H2b.out (by omega)
        go_wp2_with fail
        refine cA.mono ?_
        rintro e w5 ⟨rfl, hb5⟩
        have HB5 := Lib.hid (HB4.out.trans (hb5.mono HB4.out.size))
        have hq5 := (hb5.block _ HZ4.out).trans HQ4.out
        have hr5 := (hb5.block _ HZ34.out).trans HR4.out
        have c5 := HD1.out w5 HB5.out
        rw [hp1] at c5
        obtain ⟨⟨q0, q1, q2, q3, q4⟩, qf⟩ := cells_five hq5
        have HR5 := Lib.hid hr5
        have HZ5 := Lib.hid (Nat.lt_of_lt_of_le HZ34.out hb5.size)
        have HB35 := Lib.hid (HB34.out.trans (hb5.mono HB34.out.size))
        clear cA hb5 hq5 hr5
        go_wp2_with fail
        refine c5.mono ?_
        rintro e w6 ⟨rfl, hb6⟩
        have HB6 := Lib.hid (HB1.out.trans ((HB5.out.trans (hb6.mono HB5.out.size)).mono HB1.out.size))
        have hr6 := (hb6.block _ HZ5.out).trans HR5.out
        have c6 := HD3.out w6 (HB35.out.trans (hb6.mono HB35.out.size))
        rw [hp2] at c6
        have ew : wrap64 ((i : Int) + 2) = ((i + 2 : Nat) : Int) := (IntWalk.wrap64_in _ (by omega)).trans (by omega)
        obtain ⟨⟨q0, q1, q2, q3, q4⟩, qf⟩ := cells_five hr6
        clear c5 hb6 hr6
        go_wp2_with fail
        refine c6.mono ?_
        rintro e w7 ⟨rfl, hb7⟩
        have HB7 := Lib.hid (HB6.out.trans (hb7.mono HB6.out.size))
        clear c6 hb7
        go_wp2_with fail
        go_ret
        exact ⟨rfl, HB7.out⟩
end Go.Proofs.YtnjhmjkonmmomaaDoor.J
end
/- CPDeep: The statement 'deep' of layer 10 (bolthole/boltholelaw10.ParseDeep): for every input it answers true, and what it was given reads afterwards as it read before; its tied card. Conditions: none beyond the card's own (the tables of unicode/utf8, and the program's own table of marks, hold what their texts lay). -/
section
namespace Go.Proofs.YtnjhmjkonmmomaaDoor.cpdeep
open Go.Proofs Go.Shelf Go.RowKit Go.ChangeShapes Go.WideShapes Go.ChangeAt
open Go.ChangeMaps (open_string shut_string)
open Go.Proofs.YtnjhmjkonmmomaaDoor.U Go.Proofs.YtnjhmjkonmmomaaDoor.S Go.Proofs.YtnjhmjkonmmomaaDoor.T Go.Proofs.YtnjhmjkonmmomaaDoor.J

theorem tabs {W : World} (hL : laidMet Tryd.prog Rows.parseDeepRow.laid W) : Tabs W := tabs_of hL (.tail _ (.tail _ (.head _))) (.head _)
theorem mtab {W : World} (hL : laidMet Tryd.prog Rows.parseDeepRow.laid W) : K.MTab W := mtab_of hL (.tail _ (.head _))
theorem own : ownKnob Tryd.prog.godebug = none := by kernel_rfl
theorem laidOut : laidOutB Tryd.prog = true := by kernel_rfl
set_option maxRecDepth 100000 in
set_option maxHeartbeats 2000000 in
theorem contract (H : Type) (enc : TypeId × Value → H) (W : World) (base : Nat) (args : Array Value) (ds gs : List (DataW H)) (before : List MemPlace)
    (hval0 : ∀ (j : Nat) t v, Tryd.f6.params[j]? = some t → args[j]? = some v → Value.okWide Tryd.prog W .any base t v)
    (hW : DataW.Whole enc Tryd.prog Tryd.f6.params.toList Rows.parseDeepSpec.vars false W args.toList ds gs before)
    (hsz0 : (DataW.weightsEach Tryd.prog (Tryd.f6.params.toList ++ Rows.parseDeepSpec.plain.varTypes Tryd.prog) (ds ++ gs)).all (· ≤ reachBytes) = true) (hL : laidMetH Tryd.prog Rows.parseDeepRow.laid W) :
    Calls Tryd.prog 6 args W fun e W' => ∃ v, e = .returned v ∧ Rows.parseDeepSpec.post enc Tryd.prog Tryd.f6 false true false false W args v W' := by
  have hsz := hsz0
  have hval : ∀ (j : Nat) t v, Tryd.f6.params[j]? = some t → args[j]? = some v → Value.okWide Tryd.prog W .any base t v := hval0
  have hW' := hW
  obtain ⟨p, q, hA0, hV, rfl, _, _⟩ := hW
  have hA : DataW.TrodAll enc Tryd.prog W 0 (fun _ => true) true Tryd.f6.params.toList args.toList ds p := hA0
  rw [Tryd.params6] at hA hval hsz
  obtain ⟨v0, d0, rfl, rfl, h0⟩ := trodAll_one hA
  obtain ⟨rfl, rfl⟩ := trodVars_none hV
  simp only [List.append_nil] at hW'
  obtain ⟨x0, rfl, rfl, rfl, wx0⟩ := open_int Tryd.underlying3 (hval 0 3 v0 rfl rfl) h0
  clear hA0 hval0 hsz0
  rw [MakeChecks.laidMetH_plain _ _ _ (by kernel_rfl)] at hL
  refine (J.deep_law x0 W (tabs hL) (mtab hL)).mono fun e W' ⟨he, hb⟩ => ?_
  subst he
  exact ⟨_, rfl, _, _, _, [], _, [], hW', trodAll_mk1 (shut_bool Tryd.underlying4 _), trodAll_mk1 (shut_int Tryd.underlying3 wx0), rfl, hb.frame _, fun h => by cases h⟩

set_option maxRecDepth 100000 in
set_option maxHeartbeats 2000000 in
theorem lifted (os : Os) (started : os.Started) (H : Type) (enc : TypeId × Value → H) :
    ReturnsInHanded {} Tryd.checked os 6 .any (fun w args => (Rows.parseDeepSpec.pre enc Tryd.prog Tryd.f6 [] false w args ∧ laidMetH Tryd.prog Rows.parseDeepRow.laid w) ∧ sizedMet enc Tryd.prog Tryd.f6 (OpenSpec.ofChange Rows.parseDeepSpec) false w args)
      (Rows.parseDeepSpec.post enc Tryd.prog Tryd.f6 false true false false) := by
  refine returnsInHanded_of_change_and (C := Tryd.checked) (X := fun w _ => laidMetH Tryd.prog Rows.parseDeepRow.laid w) (fun _ _ _ hh h => h.of_heap hh) own started (by kernel_rfl) Tryd.func6
    (ChangeSpec.witness_shaped (enc := enc) (C := Tryd.checked) (os := os) (X := fun w _ => laidMetH Tryd.prog Rows.parseDeepRow.laid w) false (World.laidAll Tryd.prog os Rows.parseDeepRow.laid) #[.int .i64 0] 8 (World.laidAll_os _ _ _)
      (World.shaped_of_ZipB (by kernel_rfl) (by kernel_rfl)) (by kernel_rfl) (by kernel_rfl) (by kernel_rfl)
      (by rw [MakeChecks.laidMetH_plain _ _ _ (by kernel_rfl)]; exact laidMet_laidAll _ (by kernel_rfl) (by kernel_rfl))) ?_
  intro W base args ds gs before hval hW _ hsz hL _
  exact contract H enc W base args ds gs before hval hW hsz hL

theorem holds : Rows.ParseDeepSaid :=
  OpenClaim.holds_of_wide 6 Tryd.f6 rfl rfl rfl rfl rfl rfl rfl ⟨rfl, rfl, rfl, rfl, rfl⟩ rfl rfl rfl rfl rfl (by kernel_rfl) Tryd.func6 (by kernel_rfl)
    (of_decide_eq_true (by kernel_rfl)) (by unfold Func.isWrapper; first | (rw [if_pos (by decide +kernel)]; kernel_rfl) | (rw [if_neg (by decide +kernel)]; exact ⟨rfl, rfl⟩))
    (fun os started H enc _ => lifted os started H enc)
theorem plain (f : FuncId) (fn : Func) (hf : Tryd.pinned.checked.prog.funcNamed "bolthole/boltholelaw10.ParseDeep" = some f) (hfn : Tryd.pinned.checked.prog.funcs[f]? = some fn) :
    true = Tryd.pinned.checked.prog.looks [] ∧ ∀ (j : Nat) t, fn.params[j]? = some t → Tryd.pinned.checked.prog.wantsStandIn t = false := by
  obtain rfl : f = 6 := Option.some.inj ((show Tryd.prog.funcNamed "bolthole/boltholelaw10.ParseDeep" = some 6 by kernel_rfl).symm.trans hf) |>.symm
  obtain rfl : fn = Tryd.f6 := (Option.some.inj (Tryd.func6.symm.trans hfn)).symm
  refine ⟨by kernel_rfl, fun j t ht => ?_⟩
  rw [Tryd.params6] at ht
  have hm : t ∈ [3] := by simpa using Array.mem_of_getElem? ht
  have hall : ([3].all fun u => !Tryd.prog.wantsStandIn u) = true := by kernel_rfl
  exact (show Tryd.prog.wantsStandIn t = false by simpa using List.all_eq_true.1 hall t hm)
theorem card_holds : Rows.ParseDeepCardSaid :=
  Claim7.holds_tied_plain_at .later [] _ _ _ _ holds (fun _ h => by cases h) (by kernel_rfl) (fun _ h => by cases h) parseDeep_row_tie rfl ⟨rfl, rfl⟩ (by kernel_rfl) rfl plain (by kernel_rfl)
end Go.Proofs.YtnjhmjkonmmomaaDoor.cpdeep
end
