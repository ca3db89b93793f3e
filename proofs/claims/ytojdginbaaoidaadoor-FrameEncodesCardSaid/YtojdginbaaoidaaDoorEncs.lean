/- The statement 'the frames of any bodies' of layer 3 (boltholelaw03.FrameEncodes): for every input it answers true, and what it was given reads afterwards as it read before; its tied card. Conditions: none beyond the card's own (the table of internal/strconv holds what the library's text lays). -/
import Derived.Test.YtojdginbaaoidaaDoorCards
import Derived.Test.YtojdginbaaoidaaDoorTie
import Derived.Test.YtojdginbaaoidaaDoorFEncsWalk
import Derived.WalkKit
import Derived.ProofKit
import Derived.OpenShut
import Derived.Lib.LaidTab
import Derived.Stop.LaidErr
import Derived.PinnedBridge
import Derived.Lay
import Derived.LaidOnce
import Derived.SevenTiedAt
import Derived.SizedLaws
import Derived.SliceStrings
namespace Go.Proofs.YtojdginbaaoidaaDoor.encs
open Go.Proofs Go.Shelf Go.RowKit Go.ChangeShapes Go.WideShapes Go.ChangeAt
open Go.ChangeMaps (open_string shut_string)
open Go.Proofs.YtojdginbaaoidaaDoor.F

theorem own : ownKnob Tryd.prog.godebug = none := by kernel_rfl
theorem env_of_laid {W : World} (hL : laidMet Tryd.prog Rows.frameEncodesRow.laid W) : EnvF W :=
  Lib.tabIs_of_head (P := Tryd.prog) (g := 0) (by kernel_rfl) (by kernel_rfl) Tryd.underlying74 Tryd.underlying67 (by kernel_rfl) (by kernel_rfl) hL.tail.tail
theorem byte_back {z : Int} (h : (Lit.int .u8 z).wf = true) : ((UInt8.ofNat z.toNat).toNat : Int) = z := by
  have hb := bounds_u8 h
  have h1 : (UInt8.ofNat z.toNat).toNat = z.toNat := by
    rw [UInt8.toNat_ofNat']
    omega
  rw [h1]
  omega
theorem laidOut : laidOutB Tryd.prog = true := by kernel_rfl
theorem cellsS : Tryd.prog.cellsOf 9 = 1 := by kernel_rfl
theorem bytesS : Tryd.prog.bytesOf 9 = 16 := by kernel_rfl
theorem mem_all {H : Type} {P : Program} {e : TypeId} : ∀ (es : List ByteArray) (s : ByteArray), s ∈ es → s.size ∈ DataW.weightsAll P e (strs (H := H) es)
  | [], s, h => by cases h
  | x :: t, s, h => by
    simp only [strs, List.map_cons, DataW.weightsAll, DataW.weights, List.mem_append]
    rcases List.mem_cons.1 h with rfl | h
    · exact .inl (by simp)
    · exact .inr (mem_all t s h)
theorem sized_strs {H : Type} {P : Program} {ts : List TypeId} {ds : List (DataW H)} (h : (DataW.weightsEach P ts ds).all (· ≤ reachBytes) = true) {j : Nat} {t e : TypeId} {es : List ByteArray} {spare : List (DataW H)}
    (ht : ts[j]? = some t) (hd : ds[j]? = some (.slice (strs es) spare)) (hu : P.underlying t = some (.slice e)) (s : ByteArray) (hs : s ∈ es) : s.size ≤ reachBytes := by
  have := List.all_eq_true.1 h _ (DataW.weights_mem_each ht hd s.size (by simp only [DataW.weights, hu, List.mem_cons, List.mem_append]; exact .inr (.inl (mem_all es s hs))))
  simpa using this

set_option maxRecDepth 100000 in
set_option maxHeartbeats 2000000 in
theorem lifted (os : Os) (started : os.Started) (H : Type) (enc : TypeId × Value → H) :
    ReturnsInHanded {} Tryd.checked os 3 .any (fun w args => (Rows.frameEncodesSpec.pre enc Tryd.prog Tryd.f3 [] false w args ∧ laidMetH Tryd.prog Rows.frameEncodesRow.laid w) ∧ sizedMet enc Tryd.prog Tryd.f3 (OpenSpec.ofChange Rows.frameEncodesSpec) false w args)
      (Rows.frameEncodesSpec.post enc Tryd.prog Tryd.f3 false true false false) := by
  refine returnsInHanded_of_change_and (C := Tryd.checked) (X := fun w _ => laidMetH Tryd.prog Rows.frameEncodesRow.laid w) (fun _ _ _ hh h => h.of_heap hh) own started (by kernel_rfl) Tryd.func3
    (ChangeSpec.witness_shaped (enc := enc) (C := Tryd.checked) (os := os) (X := fun w _ => laidMetH Tryd.prog Rows.frameEncodesRow.laid w) false (World.laidAll Tryd.prog os Rows.frameEncodesRow.laid) #[.slice none 0 0, .int .u8 0] 8 (World.laidAll_os _ _ _)
      (World.shaped_of_ZipB (by kernel_rfl) (by kernel_rfl)) (by kernel_rfl) (by kernel_rfl) (by kernel_rfl)
      (by rw [MakeChecks.laidMetH_plain _ _ _ (by kernel_rfl)]; exact laidMet_laidAll _ (by kernel_rfl) (by kernel_rfl))) ?_
  intro W base args ds gs before hval0 hW _ hsz0 hL _
  have hsz : (DataW.weightsEach Tryd.prog (Tryd.f3.params.toList ++ Rows.frameEncodesSpec.plain.varTypes Tryd.prog) (ds ++ gs)).all (· ≤ reachBytes) = true := hsz0
  have hval : ∀ (j : Nat) t v, Tryd.f3.params[j]? = some t → args[j]? = some v → Value.okWide Tryd.prog W .any base t v := hval0
  have hW' := hW
  obtain ⟨p, q, hA0, hV, rfl, _, _⟩ := hW
  have hA : DataW.TrodAll enc Tryd.prog W 0 (fun _ => true) true Tryd.f3.params.toList args.toList ds p := hA0
  rw [Tryd.params3] at hA hval hsz
  obtain ⟨v0, v1, d0, d1, p0, p1, rfl, rfl, rfl, h0, h1⟩ := trodAll_two hA
  obtain ⟨rfl, rfl⟩ := trodVars_none hV
  obtain ⟨a0, len, cap, rfl⟩ := okWide_slice Tryd.underlying22 (hval 0 22 v0 rfl rfl)
  obtain ⟨z, rfl, rfl, rfl, wz⟩ := open_int Tryd.underlying5 (hval 1 5 v1 rfl rfl) h1
  have h0k := h0
  obtain ⟨fuel, hf⟩ := h0
  clear hA0 hval0 hsz0
  simp only [List.append_nil] at hW'
  rw [MakeChecks.laidMetH_plain _ _ _ (by kernel_rfl)] at hL
  have hE := env_of_laid hL
  have hlt : ∀ x ∈ p0, x.block < W.heap.size := fun x hx => by
    have := hW'.lt x hx
    simpa using this
  have fin : ∀ (W' : World), Below W.heap.size W W' → Rows.frameEncodesSpec.post enc Tryd.checked.prog Tryd.f3 false true false false W #[.slice a0 len cap, .int .u8 z] (.bool true) W' := by
    intro W' hb
    have ht := trodAll_mk2 (Below.trod laidOut (by kernel_rfl) (of_decide_eq_true (by kernel_rfl)) h0k hb hlt) (shut_int Tryd.underlying5 wz)
    rw [List.append_nil] at ht
    refine ⟨_, _, _, [], p0, [], hW', trodAll_mk1 (shut_bool Tryd.underlying4 _), ht, rfl, hb.frame _, fun h => by cases h⟩
  have go : ∀ l : List (List UInt8), l.length = len → TextsAt W a0 l → len ≤ 17592186044416 → (∀ x ∈ l, x.length ≤ 1125899906842624) → Calls Tryd.checked.prog 3 #[.slice a0 len cap, .int .u8 z] W fun e W' => ∃ v, e = Ending.returned v ∧ Rows.frameEncodesSpec.post enc Tryd.checked.prog Tryd.f3 false true false false W #[.slice a0 len cap, .int .u8 z] v W' := by
    intro l hl ht hn hs
    subst hl
    refine (show Calls Tryd.prog 3 #[.slice a0 l.length cap, .int .u8 z] W (fun e w2 => e = .returned (.bool true) ∧ Below W.heap.size W w2) from (by have h := encs_walk a0 cap l (UInt8.ofNat z.toNat) W ht hn hs hE; rw [byte_back wz] at h; exact h)).mono fun e W' ⟨he, hb⟩ => ?_
    subst he
    exact ⟨_, rfl, fin _ hb⟩
  have none_end : len = 0 → Calls Tryd.checked.prog 3 #[.slice a0 len cap, .int .u8 z] W fun e W' => ∃ v, e = Ending.returned v ∧ Rows.frameEncodesSpec.post enc Tryd.checked.prog Tryd.f3 false true false false W #[.slice a0 len cap, .int .u8 z] v W' := by
    intro hl0
    exact go [] hl0.symm (.inl rfl) (by omega) (fun x hx => by cases hx)
  rcases open_strings Tryd.underlying22 Tryd.underlying9 cellsS hf with ⟨hcs, hx⟩ | ⟨a, len', cap', ss, hcs, _, hl, hm, hz, hx, hcell, hws⟩
  · simp [Value.cells] at hcs
    obtain ⟨rfl, rfl, rfl⟩ := hcs
    exact none_end rfl
  · simp [Value.cells] at hcs
    obtain ⟨rfl, rfl, rfl⟩ := hcs
    simp only [Prod.mk.injEq] at hx
    obtain ⟨rfl, rfl⟩ := hx
    simp only [if_true] at hz
    by_cases hl0 : len = 0
    · exact none_end hl0
    · have hreach : len * 16 ≤ 140737488351232 := by
        have := sized_slice hsz (j := 0) (t := 22) (e := 9) rfl rfl Tryd.underlying22
        rw [bytesS] at this
        simp only [strs, List.length_map, List.length_take, List.length_drop, reachBytes] at this
        omega
      have hstr : ∀ s ∈ ss.take len, s.size ≤ 281474976710656 := fun s hs => by
        have := sized_strs hsz (j := 0) (t := 22) (e := 9) rfl rfl Tryd.underlying22 s hs
        simp only [reachBytes] at this
        omega
      obtain ⟨b, off, spot⟩ := a
      have hspot : spot = none := by simpa [Addr.add] using World.cell?_spot (hcell 0 (by omega))
      subst hspot
      refine go ((ss.take len).map fun s => s.data.toList) (by simp; omega) (.inr ⟨b, off, rfl, fun i hi => ?_⟩) (by omega) ?_
      · simp only [List.length_map, List.length_take] at hi
        have h1 := hcell i (by omega)
        rw [Addr.add_lit] at h1
        rw [h1]
        have hi2 : i < ss.length := by omega
        simp [hi2]
      · intro x hx
        simp only [List.mem_map] at hx
        obtain ⟨s2, hs2, rfl⟩ := hx
        have := hstr s2 hs2
        simp
        omega

theorem holds : Rows.FrameEncodesSaid :=
  OpenClaim.holds_of_wide 3 Tryd.f3 rfl rfl rfl rfl rfl rfl rfl ⟨rfl, rfl, rfl, rfl, rfl⟩ rfl rfl rfl rfl rfl (by kernel_rfl) Tryd.func3 (by kernel_rfl)
    (of_decide_eq_true (by kernel_rfl)) (by unfold Func.isWrapper; first | (rw [if_pos (by decide +kernel)]; kernel_rfl) | (rw [if_neg (by decide +kernel)]; exact ⟨rfl, rfl⟩))
    (fun os started H enc _ => lifted os started H enc)
theorem plain (f : FuncId) (fn : Func) (hf : Tryd.pinned.checked.prog.funcNamed "bolthole/boltholelaw03.FrameEncodes" = some f) (hfn : Tryd.pinned.checked.prog.funcs[f]? = some fn) :
    false = Tryd.pinned.checked.prog.looks [] ∧ ∀ (j : Nat) t, fn.params[j]? = some t → Tryd.pinned.checked.prog.wantsStandIn t = false := by
  obtain rfl : f = 3 := Option.some.inj ((show Tryd.prog.funcNamed "bolthole/boltholelaw03.FrameEncodes" = some 3 by kernel_rfl).symm.trans hf) |>.symm
  obtain rfl : fn = Tryd.f3 := (Option.some.inj (Tryd.func3.symm.trans hfn)).symm
  refine ⟨by kernel_rfl, fun j t ht => ?_⟩
  rw [Tryd.params3] at ht
  have hm : t ∈ [22, 5] := by simpa using Array.mem_of_getElem? ht
  have hall : ([22, 5].all fun u => !Tryd.prog.wantsStandIn u) = true := by kernel_rfl
  exact (show Tryd.prog.wantsStandIn t = false by simpa using List.all_eq_true.1 hall t hm)
theorem card_holds : Rows.FrameEncodesCardSaid :=
  Claim7.holds_tied_plain_at .later [] _ _ _ _ holds (fun _ h => by cases h) (by kernel_rfl) (fun _ h => by cases h) frameEncodes_row_tie rfl ⟨rfl, rfl⟩ (by kernel_rfl) rfl plain (by kernel_rfl)
end Go.Proofs.YtojdginbaaoidaaDoor.encs
