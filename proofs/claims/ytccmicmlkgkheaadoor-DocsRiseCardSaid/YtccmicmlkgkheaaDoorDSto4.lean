/- The program's store: Size, in whatever order the map tells. -/
import Derived.Test.YtccmicmlkgkheaaDoorDSto2
import Derived.LoopN
namespace Go.Proofs.YtccmicmlkgkheaaDoor.D
open Go.RowKit
open Go.Lib hiding intOf
open Go.Proofs.YtccmicmlkgkheaaDoor.U Go.Proofs.YtccmicmlkgkheaaDoor.L Go.Proofs.YtccmicmlkgkheaaDoor.E

/-- The range's step over the store's map. -/
theorem next_docs (w : World) {ops : Array Oper} {rest : List Oper} {o : Oper} {a : Act} {Q : Exit → Act → World → Prop} (hg : o.guard = none) (it : Operand) (hop : o.op = Op.next it false) (b r : Nat) (D : DataW Unit) (l : List DocP) (left : Lit → Bool) (cnt : Nat)
    (hit : a.eval it = .pointer (some ⟨r, 0, none⟩)) (h : w.ranges Tryd.prog 9 docElem b r 8 D left cnt) (hM : MapOf D l)
    (hDone : (∀ k, left k = false) → wpList Tryd.prog ops Q rest (a.put o.dst (.tuple #[.bool false])) w)
    (hMore : ∀ (d : DocP) (w' : World) (cnt' : Nat), d ∈ l → left (kl d.n) = true → w'.ranges Tryd.prog 9 docElem b r 8 D (fun z => left z && !z.sameKey (kl d.n)) cnt' → cnt' < cnt →
      w.grownBy w' (some r) → w'.heap.size = w.heap.size → (Instr.entry (.pointer (some ⟨r, 0, none⟩))).run Tryd.prog w' = .ok (.tuple #[.string d.n, .agg #[.string d.n, .int .i64 d.v, .string d.t]]) w' → wpList Tryd.prog ops Q rest (a.put o.dst (.tuple #[.bool true, .string d.n, .agg #[.string d.n, .int .i64 d.v, .string d.t]])) w') :
    wpList Tryd.prog ops Q (o :: rest) a w := by
  refine wpList_next_ranges w hg it hop 9 strLaw docElem Value.string docV (fun key k hkey => ?_) (fun v y hv => ?_) b r 8 D left cnt hit h (fun _ hl => hDone hl) ?_
  · obtain ⟨s, hs, _, _⟩ := Maps.keyOf_str Tryd.underlying9 hkey
    exact ⟨_, hs⟩
  · obtain ⟨d, hd, _⟩ := docElem_inv hv
    exact ⟨d, hd⟩
  · intro x c k y w' cnt' hkey hlk hv hat hrg hlt hgr hsz hen
    have hk : k = kl x := by
      obtain ⟨s, hs, h2, _⟩ := Maps.keyOf_str Tryd.underlying9 hkey
      cases hs
      rw [h2]; unfold kl; simp
    subst hk
    obtain ⟨d, hd, rfl⟩ := docElem_inv hv
    have hcd : c = d := by
      have := docElem_mk c
      rw [hv] at this
      simp only [Option.some.injEq, Prod.mk.injEq, and_true] at this
      exact (docD_inj this).symm
    subst hcd
    have hh := Maps.has_true_of_atKey hat
    rw [hM.has] at hh
    obtain ⟨d', hd'⟩ := Option.isSome_iff_exists.1 hh
    have h1 := hM.fnd x d' (docD d0) hd'
    rw [hat] at h1
    have h2 := docD_inj h1
    subst h2
    obtain ⟨h3, h4⟩ := findL_some hd'
    subst h4
    exact hMore c w' cnt' h3 hlk hrg hlt hgr hsz hen

set_option maxHeartbeats 8000000 in
set_option maxRecDepth 20000 in
theorem size_none (p : Nat) (w : World) (p0 : w.cell? ⟨p, 0, none⟩ = some (.map none)) :
    Calls Tryd.prog 13 #[.pointer (some ⟨p, 0, none⟩)] w fun e w' => e = .returned (.int .i64 0) ∧ Below w.heap.size w w' := by
  have hrg := run_range_nilMap (P := Tryd.prog) w 50 9 30 Tryd.underlying50
  have hnx : ∀ ty, (Instr.next (.pointer (some ⟨w.heap.size, 0, none⟩)) false ty).run Tryd.prog (w.alloc (.mapIter none 0 #[] 0)) = _ := fun ty => run_next_nilMap w ty 0 0 #[]
  go_enter Tryd.func13, Tryd.ntmps13
  go_wp2_with fail
  refine wp_loop_rounds 1 ?_
  rw [rounds_succ]
  go_wp2_with fail
  go_ret
  exact ⟨rfl, (Below.refl _ _).alloc (Nat.le_refl _) _⟩
set_option maxHeartbeats 8000000 in
set_option maxRecDepth 20000 in
theorem size_some (p b : Nat) (D : DataW Unit) (l : List DocP) (w : World) (p0 : w.cell? ⟨p, 0, none⟩ = some (.map (some b))) (hown : w.ownsMap Tryd.prog 9 docElem b 8 D) (hM : MapOf D l) (hI : Inv l) :
    Calls Tryd.prog 13 #[.pointer (some ⟨p, 0, none⟩)] w fun e w' => e = .returned (.int .i64 (sizeL l : Nat)) ∧ Below w.heap.size w w' := by
  have hbl := hown.lt
  have hle : sizeL l ≤ 131072 := by have := sizeL_le fun d hd => (hI.each d hd).2.2; have := hI.few; omega
  obtain ⟨S, hS⟩ : ∃ S, sizeL l = S := ⟨_, rfl⟩
  obtain ⟨r, hr⟩ : ∃ r, w.heap.size = r := ⟨_, rfl⟩
  have HI := Lib.hid hI
  have HS0 := Lib.hid (lefT_all hM hI)
  rw [hS] at hle ⊢
  clear hI
  go_enter Tryd.func13, Tryd.ntmps13
  go_wp2_with (at_range; refine wpList_range_own _ rfl _ 50 rfl 9 30 strLaw Tryd.underlying50 docElem b 8 D rfl hown ?_; intro w0 hrg0 hg0 hs0)
  go_frame
  rw [hr] at hrg0 hs0 ⊢
  have HB0 : Hid (Below r w w0) := Lib.hid (by rw [← hr]; exact (Below.refl _ _).grown hg0 (Nat.le_refl _) (fun k hk => by cases hk))
  clear hg0 p0 hown
  go_loopw [3] (fun sv wr => ∃ (left : Lit → Bool) (cnt k : Nat), sv = .int .i64 k ∧ k + lefT l left = S ∧ wr.ranges Tryd.prog 9 docElem b r 8 D left cnt ∧ Hid (Below r w wr)) (fun _ wr => wr.rangeLeft b r)
  case atStart => exact ⟨_, _, 0, rfl, by rw [Nat.zero_add]; exact HS0.out.trans hS, hrg0, HB0⟩
  case round =>
    obtain ⟨left, cnt, k, rfl, hk, hrg, HB⟩ := hrel
    clear HB0 hrg0 hs0
    go_wp2_with (at_next; refine next_docs _ rfl _ rfl b r D l left cnt rfl hrg hM ?_ ?_)
    · intro hl0
      have hk2 : k = S := by rw [lefT_none hl0] at hk; omega
      subst hk2
      go_wp2_with fail
      go_ret
      exact ⟨rfl, by rw [hr]; exact HB.out⟩
    · intro d w1 cnt1 hdl hlx hrg1 hlt hg1 hs1 hen
      have hstep := lefT_step hlx HI.out.rise hdl
      have hrb := hrg.lt
      have HB1 : Hid (Below r w w1) := Lib.hid (HB.out.grown hg1 (by omega) (fun k hk => by cases hk; exact Nat.le_refl _))
      obtain ⟨T, hT⟩ : ∃ T, lefT l (fun z => left z && !z.sameKey (kl d.n)) = T := ⟨_, rfl⟩
      rw [hT] at hstep
      have HT := Lib.hid hT
      have hsz : k + d.t.size + T = S := by omega
      have HSZ := Lib.hid hsz
      have hb2 : k + d.t.size ≤ 131072 := by omega
      clear hT hk hstep hdl hlx hg1
      go_wp2_with fail
      go_roundw
      case rel => exact ⟨_, cnt1, k + d.t.size, by go_num, by rw [HT.out]; exact HSZ.out, hrg1.alloc _, Lib.hid (HB1.out.alloc (by omega) _)⟩
      case measure => rw [(hrg1.alloc _).left_eq, hrg.left_eq]; exact hlt
theorem size_any (p : Nat) (y : Option Nat) (l : List DocP) (w : World) (h : PSt p y l w) (hI : Inv l) :
    Calls Tryd.prog 13 #[.pointer (some ⟨p, 0, none⟩)] w fun e w' => e = .returned (.int .i64 (sizeL l : Nat)) ∧ Below w.heap.size w w' := by
  have p0 := h.c0
  rcases h.own with ⟨rfl, rfl⟩ | ⟨b, D, rfl, h2, h3⟩
  · exact size_none p w p0
  · exact size_some p b D l w p0 h2 h3 hI
end Go.Proofs.YtccmicmlkgkheaaDoor.D
