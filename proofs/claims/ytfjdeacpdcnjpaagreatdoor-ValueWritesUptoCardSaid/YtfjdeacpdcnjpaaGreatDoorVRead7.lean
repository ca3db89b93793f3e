/- The deferred calls: the blanks behind a value, and a bracket that is closed again; and the contract of what stands between two brackets, whatever is read there. -/
import Derived.Test.YtfjdeacpdcnjpaaGreatDoorVRead6
import Derived.Defers
import Derived.Recover
namespace Go.Proofs.YtfjdeacpdcnjpaaGreatDoor.V
open Go.RowKit
open Go.Lib

set_option maxHeartbeats 1000000 in
theorem takeAll_d (d : Nat) (s set : ByteArray) (p : UInt8 → Bool) (hset : SetIs set p) (l : List UInt8) (o : Int) (w : World) (hr : RdL d s l o w) (hs : s.size ≤ 1099511627776) (u : FrameMode) :
    CallsD Tryz.prog 49 #[.pointer (some ⟨d, 0, none⟩), .string set] u w fun e u' w' => u' = u ∧ (e = .returned (.string ⟨(l.takeWhile p).toArray⟩) ∧ RdL d s (l.dropWhile p) o w' ∧ Mut w.heap.size d w w') := by
  obtain ⟨at0, ha, hl, hr⟩ := hr
  have HL := Lib.hid hl
  have c0 := hr.c0
  have c1 := hr.c1
  clear hl
  go_enter_d Tryz.func49, Tryz.ntmps49
  go_wp2
  clear c0 c1
  go_loopw [] (fun w' => ∃ j : Nat, at0 ≤ j ∧ j ≤ s.size ∧ Rd d s (j : Nat) o w' ∧ Mut w.heap.size d w w' ∧ Taken p l (j - at0)) (fun w' => s.size - atOf d w')
  case atStart => exact ⟨at0, Nat.le_refl _, ha, hr, Mut.refl _ _ _, fun i hi => by omega⟩
  case round =>
    obtain ⟨j, hj, hk, hrk, hm, HT⟩ := hrel
    have hat := Lib.hid (atOf_rd hrk)
    have c0 := hrk.c0
    have c1 := hrk.c1
    have f1 := hrk.f1
    obtain ⟨k, hjk⟩ : ∃ k, j = at0 + k := ⟨j - at0, by omega⟩
    have fin : (∀ c, l[k]? = some c → p c = false) → ∀ n nq, Ending.returned (.string (s.extract at0 j)) = .returned (.string ⟨(l.takeWhile p).toArray⟩) ∧ RdL d s (l.dropWhile p) o ((wr.drewN n).drewN nq) ∧ Mut w.heap.size d w ((wr.drewN n).drewN nq) := fun hno n nq => by
      rw [hjk, Nat.add_sub_cancel_left] at HT
      obtain ⟨h1, h2⟩ := HT.all hno
      rw [h1, h2, ← HL.out, hjk, ← extract_take]
      exact ⟨rfl, RdL.of j _ rfl hk (by rw [List.drop_drop, hjk]) ((hrk.drewN n).drewN nq), (hm.drewN n).drewN nq⟩
    have Fin := Lib.hid fin
    have HJ := Lib.hid hjk
    clear fin
    by_cases hlt : j < s.size
    · have hg : l[k]? = some s[j] := by
        have hg := drop_get s at0 k (by omega)
        rw [HL.out] at hg; rw [hg]; congr 1; simp only [hjk]
      obtain ⟨I, hI⟩ : ∃ I, Lib.indexByte set.data.toList s[j] = I := ⟨_, rfl⟩
      have hcI : ∀ W, Calls Tryz.prog 61 #[.string set, .int .u8 (s[j].toNat)] W fun e w' => e = .returned (.int .i64 I) ∧ w' = W := fun W => by
        have h := Tryz.strings_IndexByte set (s[j].toNat) W
        rw [u8_round, hI] at h; exact h
      have hpI : p s[j] = decide (0 ≤ I) := by rw [← hI]; exact hset _
      have HP := Lib.hid hpI
      have HG := Lib.hid hg
      have b0 : (0 : Int) ≤ (j : Int) := by omega
      have b1 : (j : Int) < (s.size : Int) := by omega
      clear hpI hI hg hjk
      by_cases h0 : 0 ≤ I
      · go_wp2
        go_quiet (first | (go_at_call 30; exact Calls.quiet_of (ended_no d s j o _ (hrk.drewN _) hlt)) | (go_at_call 61; exact Calls.quiet_of_same (hcI _)))
        go_wp2
        go_roundw
        case rel => exact ⟨j + 1, by omega, by omega, by have := (hrk.drewN nq).set1 ((j + 1 : Nat) : Int); simpa using this, (hm.drewN nq).setCell 1 _, by rw [show j + 1 - at0 = k + 1 by have := HJ.out; omega]; exact Taken.step (by rw [show k = j - at0 by have := HJ.out; omega]; exact HT) _ HG.out (by rw [HP.out]; simpa using h0)⟩
        case measure => rw [hat.out, atOf_rd (a := j + 1) (o := o) (s := s) (by have := (hrk.drewN nq).set1 ((j + 1 : Nat) : Int); simpa using this)]; omega
      · have hd0 : decide (0 ≤ I) = false := by simpa using h0
        go_wp2
        go_quiet (first | (go_at_call 30; exact Calls.quiet_of (ended_no d s j o _ (hrk.drewN _) hlt)) | (go_at_call 61; exact Calls.quiet_of_same (hcI _)))
        go_wp2
        go_quiet (fail)
        go_wp2
        go_ret
        refine Fin.out (fun c hc => ?_) _ _
        rw [HG.out] at hc
        obtain rfl := Option.some.inj hc
        rw [HP.out]; simpa using h0
    · have hrk' : Rd d s (s.size : Nat) o wr := by obtain rfl : j = s.size := by omega
                                                   exact hrk
      have hn : l[k]? = none := by
        rw [← HL.out]; exact drop_none s at0 k (by omega)
      obtain rfl : j = s.size := by omega
      clear hjk
      go_wp2
      go_quiet (first | (go_at_call 30; exact Calls.quiet_of (ended_yes d s o _ (hrk.drewN _))))
      go_wp2
      go_quiet (fail)
      go_wp2
      go_ret
      exact Fin.out (fun c hc => by rw [hn] at hc; cases hc) _ _

theorem closed_d (d p : Nat) (s : ByteArray) (l : List UInt8) (o : Int) (w : World) (hr : RdL d s l o w) (h1 : 1 ≤ o) (h2 : o ≤ 20) (hp : w.cell? ⟨p, 0, none⟩ = some (.pointer (some ⟨d, 0, none⟩))) (u : FrameMode) :
    CallsD Tryz.prog 75 #[.pointer (some ⟨p, 0, none⟩)] u w fun e u' w' => u' = u ∧ (e = .returned (.tuple #[]) ∧ RdL d s l (o - 1) w' ∧ Mut w.heap.size d w w') := by
  obtain ⟨a, ha, hl, hr⟩ := hr
  have HL := Lib.hid hl
  have q2 := hr.c2
  have f2 := hr.f2
  clear hl
  go_enter_d Tryz.func75, Tryz.ntmps75
  go_wp2
  go_end0
  exact ⟨rfl, ⟨a, ha, HL.out, hr.set2 _⟩, (Mut.refl _ _ _).setCell 2 _⟩

/-- Below B all is as it was, but for block d and the blocks of X. -/
structure MutX (B d : Nat) (X : Nat → Prop) (w w' : World) : Prop where
  os : w'.os = w.os
  tape : w'.tape = w.tape
  output : w'.output = w.output
  size : w.heap.size ≤ w'.heap.size
  block : ∀ k, k < B → k ≠ d → ¬ X k → w'.heap[k]? = w.heap[k]?
theorem MutX.refl (B d : Nat) (X : Nat → Prop) (w : World) : MutX B d X w w := ⟨rfl, rfl, rfl, Nat.le_refl _, fun _ _ _ _ => rfl⟩
theorem MutX.trans {B d : Nat} {X : Nat → Prop} {a b c : World} (h : MutX B d X a b) (k : MutX B d X b c) : MutX B d X a c :=
  ⟨k.os.trans h.os, k.tape.trans h.tape, k.output.trans h.output, Nat.le_trans h.size k.size, fun i hi hd hx => (k.block i hi hd hx).trans (h.block i hi hd hx)⟩
theorem MutX.mono {B B' d : Nat} {X : Nat → Prop} {w w' : World} (h : MutX B d X w w') (hB : B' ≤ B) : MutX B' d X w w' := ⟨h.os, h.tape, h.output, h.size, fun k hk => h.block k (Nat.lt_of_lt_of_le hk hB)⟩
theorem MutX.of_mut {B d : Nat} {X : Nat → Prop} {w w' : World} (h : Mut B d w w') : MutX B d X w w' := ⟨h.os, h.tape, h.output, h.size, fun k hk hd _ => h.block k hk hd⟩
theorem MutX.mut {B B' d : Nat} {X : Nat → Prop} {w w' : World} (h : MutX B d X w w') (hB : B' ≤ B) (hX : ∀ k, X k → B' ≤ k) : Mut B' d w w' := ⟨h.os, h.tape, h.output, h.size, fun k hk hd => h.block k (by omega) hd (fun hx => by have := hX k hx; omega)⟩

/-- What is read, part by part, up to a bracket. -/
def loopG {σ : Type} (step : Nat → σ → List UInt8 → Res σ) (endc : UInt8) : Nat → List UInt8 → σ → Res σ
  | 0, _, _ => .bad
  | f + 1, l, st =>
    match step f st l with
    | .bad => .bad
    | .deep => .deep
    | .ok st' r => match r with
      | [] => .bad
      | c :: r' => if c = endc then .ok st' r' else if c = 44 then loopG step endc f r' st' else .bad

/-- How a call ends that reads parts into what memory holds. -/
def ReadsX {σ : Type} (d : Nat) (s : ByteArray) (o : Int) (I : σ → World → Prop) (B : Nat) (X : Nat → Prop) (r : Res σ) (w : World) (e : Ending) (w' : World) : Prop :=
  MutX B d X w w' ∧ match r with
  | .ok st l => e = .returned (.int .i64 0) ∧ I st w' ∧ RdL d s l o w'
  | .bad => e = .returned (.int .i64 21) ∧ ∃ l, RdL d s l o w'
  | .deep => e = .returned (.int .i64 22) ∧ ∃ l, RdL d s l o w'

/-- Brackets, and what stands between. -/
def partsG {σ : Type} (step : Nat → σ → List UInt8 → Res σ) (endc : UInt8) (f : Nat) (o : Int) (l : List UInt8) (st0 : σ) : Res σ :=
  if o = 20 then .deep
  else if Lib.hasPrefix (skip l) [endc] = true then .ok st0 ((skip l).drop 1)
  else loopG step endc f (skip l) st0

theorem loopG_bad {σ : Type} {step : Nat → σ → List UInt8 → Res σ} {endc : UInt8} {f : Nat} {l : List UInt8} {st : σ} (h : step f st l = .bad) : loopG step endc (f + 1) l st = .bad := by simp only [loopG, h]
theorem loopG_deep {σ : Type} {step : Nat → σ → List UInt8 → Res σ} {endc : UInt8} {f : Nat} {l : List UInt8} {st : σ} (h : step f st l = .deep) : loopG step endc (f + 1) l st = .deep := by simp only [loopG, h]
theorem loopG_end {σ : Type} {step : Nat → σ → List UInt8 → Res σ} {endc : UInt8} {f : Nat} {l r : List UInt8} {st st' : σ} (h : step f st l = .ok st' r) (h2 : Lib.hasPrefix r [endc] = true) : loopG step endc (f + 1) l st = .ok st' (r.drop 1) := by
  simp only [loopG, h]
  rw [prefix_one h2]; simp
theorem loopG_more {σ : Type} {step : Nat → σ → List UInt8 → Res σ} {endc : UInt8} {f : Nat} {l r : List UInt8} {st st' : σ} (h : step f st l = .ok st' r) (h2 : Lib.hasPrefix r [endc] = false) (h3 : Lib.hasPrefix r [44] = true) : loopG step endc (f + 1) l st = loopG step endc f (r.drop 1) st' := by
  simp only [loopG, h]
  rw [prefix_one h3] at h2 ⊢
  have : ¬ (44 : UInt8) = endc := by intro h4; subst h4; simp [Lib.hasPrefix] at h2
  simp [this]
theorem loopG_wrong {σ : Type} {step : Nat → σ → List UInt8 → Res σ} {endc : UInt8} {f : Nat} {l r : List UInt8} {st st' : σ} (h : step f st l = .ok st' r) (h2 : Lib.hasPrefix r [endc] = false) (h3 : Lib.hasPrefix r [44] = false) : loopG step endc (f + 1) l st = .bad := by
  simp only [loopG, h]
  cases r with
  | nil => rfl
  | cons c r' =>
    have a : ¬ c = endc := by intro h4; subst h4; simp [Lib.hasPrefix] at h2
    have b : ¬ c = 44 := by intro h4; subst h4; simp [Lib.hasPrefix] at h3
    simp [a, b]

set_option maxHeartbeats 2000000 in
theorem parts_any {σ : Type} (step : Nat → σ → List UInt8 → Res σ) (endc : UInt8) (I : Nat → σ → World → Prop) (X : Nat → Prop) (fcl : FuncId) (cap : Array Value)
    (d B0 f : Nat) (s : ByteArray) (l : List UInt8) (o : Nat) (st0 : σ) (w : World) (hr : RdL d s l o w) (hE : Env B0 w) (hd : B0 ≤ d) (hs : s.size ≤ 1099511627776) (ho : o ≤ 20)
    (hX : ∀ k, X k → B0 ≤ k ∧ k < w.heap.size) (hf : 2 * l.length + 2 ≤ f)
    (hlen : ∀ f st l st' r, step f st l = .ok st' r → r.length ≤ l.length) (cnt : σ → Nat) (hcnt0 : cnt st0 = 0) (hcnt : ∀ f st l st' r, step f st l = .ok st' r → cnt st' ≤ cnt st + 1)
    (hI0 : ∀ W, Mut w.heap.size d w W → I W.heap.size st0 W)
    (hIm : ∀ Bl st W W', Bl ≤ W.heap.size → I Bl st W → Mut W.heap.size d W W' → I Bl st W')
    (eg : ∀ args w, (callFunc fcl args).run Tryz.prog w = .ok (.enter fcl args) w)
    (hread : ∀ Bl f' st l' W, o < 20 → cnt st + f' < f → 2 * l'.length + 1 ≤ f' → (∀ k, X k → k < Bl) → Bl ≤ W.heap.size → Env B0 W → I Bl st W → RdL d s l' (o + 1 : Nat) W → Calls Tryz.prog fcl cap W (ReadsX d s (o + 1 : Nat) (I Bl) Bl X (step f' st l') W)) :
    Calls Tryz.prog 63 #[.pointer (some ⟨d, 0, none⟩), .string ⟨#[endc]⟩, .func (.func fcl) #[] cap] w (ReadsX d s o (fun st W => ∃ Bl, I Bl st W) w.heap.size X (partsG step endc f o l st0) w) := by
  have hmf : ∀ (fn : Fn) (first cap : Array Value) (w : World), (Instr.makeFunc fn first cap).run Tryz.prog w = .ok (.func fn first cap) w := fun _ _ _ _ => rfl
  have hdlt := hr.lt
  by_cases h20 : o = 20
  · have hres : partsG step endc f o l st0 = .deep := by unfold partsG; rw [if_pos (by omega)]
    rw [hres]
    obtain ⟨a, ha, hl, hR⟩ := hr
    have HL := Lib.hid hl
    have q2 := hR.c2
    subst h20
    clear hres hl hread hI0 hlen hf
    go_enter_defers Tryz.func63, Tryz.ntmps63
    go_wp2_with fail
    exact ⟨_, results_tmp rfl _ _ _, MutX.of_mut ((Mut.refl _ _ _).alloc (Nat.le_refl _) _), rfl, l, a, ha, HL.out, hR.alloc _⟩
  · have q20 : ((o : Int) == 20) = false := by simp; omega
    have hof : (if (o : Int) = 20 then Res.deep else if Lib.hasPrefix (skip l) [endc] = true then .ok st0 ((skip l).drop 1) else loopG step endc f (skip l) st0) = if Lib.hasPrefix (skip l) [endc] = true then .ok st0 ((skip l).drop 1) else loopG step endc f (skip l) st0 := if_neg (by omega)
    have hsl : (skip l).length ≤ l.length := (List.dropWhile_suffix _).length_le
    obtain ⟨a, ha, hl, hR⟩ := hr
    have HL := Lib.hid hl
    have q2 := hR.c2
    have f2 := hR.f2
    have hoi : (o : Int) ≤ 19 := by omega
    have HR1 := Lib.hid (show ∀ ob, RdL d s l (o + 1 : Nat) ((w.setCell ⟨d, 2, none⟩ (.int .i64 ((o : Int) + 1))).alloc ob) from fun ob => ⟨a, ha, hl, by have := (hR.set2 ((o + 1 : Nat) : Int)).alloc ob; simpa using this⟩)
    have HM1 := Lib.hid (show ∀ ob, Mut w.heap.size d w ((w.setCell ⟨d, 2, none⟩ (.int .i64 ((o : Int) + 1))).alloc ob) from fun ob => ((Mut.refl _ _ _).setCell 2 _).alloc ((Mut.refl w.heap.size d w).setCell 2 (.int .i64 ((o : Int) + 1))).size ob)
    have HZ1 := Lib.hid (show ∀ ob, w.heap.size + 1 ≤ ((w.setCell ⟨d, 2, none⟩ (.int .i64 ((o : Int) + 1))).alloc ob).heap.size from fun ob => Nat.le_of_eq (by simp [World.alloc, World.setCell]))
    have HC1 := Lib.hid (show ((w.setCell ⟨d, 2, none⟩ (.int .i64 ((o : Int) + 1))).alloc (.cells #[.pointer (some ⟨d, 0, none⟩)] 83)).cell? ⟨w.heap.size, 0, none⟩ = some (.pointer (some ⟨d, 0, none⟩)) from by rw [World.cell?_alloc_at _ _ _ _ (by simp [World.setCell])]; rfl)
    have HLoop : Hid (partsG step endc f o l st0 = if Lib.hasPrefix (skip l) [endc] = true then .ok st0 ((skip l).drop 1) else loopG step endc f (skip l) st0) := Lib.hid hof
    clear hl hof
    generalize partsG step endc f o l st0 = RR at *
    go_enter_defers Tryz.func63, Tryz.ntmps63
    go_wp2_with fail
    have hr1 := HR1.out (.cells #[.pointer (some ⟨d, 0, none⟩)] 83)
    have hm1 := HM1.out (.cells #[.pointer (some ⟨d, 0, none⟩)] 83)
    have hz1 := HZ1.out (.cells #[.pointer (some ⟨d, 0, none⟩)] 83)
    have hc1 := HC1.out
    clear HR1 HM1 HZ1 HC1 q2 f2 hR HL
    generalize (w.setCell ⟨d, 2, none⟩ (.int .i64 ((o : Int) + 1))).alloc (.cells #[.pointer (some ⟨d, 0, none⟩)] 83) = W1 at *
    refine (takeAll_any d s _ blank set_blank l _ _ hr1 hs).mono ?_; rintro e w1 ⟨rfl, hr2, hm2⟩
    have hc2 : w1.cell? ⟨w.heap.size, 0, none⟩ = some (.pointer (some ⟨d, 0, none⟩)) := by rw [(cells_mut hm2 (b := w.heap.size) (by omega) (by omega)).1]; exact hc1
    have hz2 := hm2.size
    replace hm2 := hm1.trans (hm2.mono (by omega))
    clear hr1 hm1 hc1
    replace hr2 : RdL d s (skip l) (o + 1 : Nat) w1 := hr2
    cases hp : Lib.hasPrefix (skip l) [endc] with
    | true =>
      have hres : RR = .ok st0 ((skip l).drop 1) := by rw [HLoop.out, if_pos hp]
      have HRes := Lib.hid hres
      clear hres HLoop hread
      go_wp2_with fail
      refine (take_yes d s ⟨#[endc]⟩ (skip l) _ _ hr2 hs hp).mono ?_; rintro e w2 ⟨rfl, hr3, hm3⟩
      have hc3 : w2.cell? ⟨w.heap.size, 0, none⟩ = some (.pointer (some ⟨d, 0, none⟩)) := by rw [(cells_mut hm3 (b := w.heap.size) (by omega) (by omega)).1]; exact hc2
      replace hm3 := hm2.trans (hm3.mono (by omega))
      go_wp2_with fail
      refine leaves_cons (f := 75) (args := #[.pointer (some ⟨w.heap.size, 0, none⟩)]) (by simp) (by simp [go_sem]) ?_
      refine (closed_d d w.heap.size s _ _ w2 hr3 (by omega) (by omega) hc3 _).mono ?_
      rintro e u' w3 ⟨rfl, rfl, hr4, hm4⟩
      refine ⟨_, results_tmp rfl _ _ _, ?_⟩
      have hm5 := hm3.trans (hm4.mono hm3.size)
      refine ⟨MutX.of_mut hm5, ?_⟩
      rw [HRes.out]
      rw [show ((o + 1 : Nat) : Int) - 1 = o by omega] at hr4
      exact ⟨rfl, ⟨_, hI0 w3 hm5⟩, hr4⟩
    | false =>
      have hres : RR = loopG step endc f (skip l) st0 := by rw [HLoop.out, if_neg (by rw [hp]; simp)]
      have HRes := Lib.hid hres.symm
      clear hres HLoop
      go_wp2_with fail
      refine (take_no d s ⟨#[endc]⟩ (skip l) _ _ hr2 hp).mono ?_; rintro e w2 ⟨rfl, hr3, hm3⟩
      have hc3 : w2.cell? ⟨w.heap.size, 0, none⟩ = some (.pointer (some ⟨d, 0, none⟩)) := by rw [(cells_mut hm3 (b := w.heap.size) (by omega) (by omega)).1]; exact hc2
      have hz3 := hm3.size
      replace hm3 := hm2.trans (hm3.mono (by omega))
      have hI := hI0 w2 hm3
      clear hr2 hm2 hc2 hp hI0
      go_wp2_with fail
      -- the bracket's end, behind each way out
      have fin : ∀ (v : Value) (tm : Array Value) (l' : List UInt8) (W : World), tm.getD 6 undef = v → RdL d s l' (o + 1 : Nat) W → W.cell? ⟨w.heap.size, 0, none⟩ = some (.pointer (some ⟨d, 0, none⟩)) → w.heap.size ≤ W.heap.size → (∀ W', Mut W.heap.size d W W' → RdL d s l' o W' → ReadsX d s o (fun st W => ∃ Bl, I Bl st W) w.heap.size X RR w (.returned v) W') →
          Leaves Tryz.prog Tryz.f63 tm (ReadsX d s o (fun st W => ∃ Bl, I Bl st W) w.heap.size X RR w) [{ target := Target.fn (Fn.func 75) #[.pointer (some ⟨w.heap.size, 0, none⟩)], args := #[] }] .returning W := by
        intro v tm l' W hv hrW hcW hzW hfin
        refine leaves_cons (f := 75) (args := #[.pointer (some ⟨w.heap.size, 0, none⟩)]) (by simp) (by simp [go_sem]) ?_
        refine (closed_d d w.heap.size s _ _ W hrW (by omega) (by omega) hcW _).mono ?_
        rintro e u' w3 ⟨rfl, rfl, hr4, hm4⟩
        rw [show ((o + 1 : Nat) : Int) - 1 = o by omega] at hr4
        subst hv
        exact ⟨_, results_tmp rfl _ _ _, hfin w3 hm4 hr4⟩
      have Fin := Lib.hid fin
      clear fin
      go_loopw [] (fun W => ∃ (f' Bl : Nat) (l' : List UInt8) (st : σ), RdL d s l' (o + 1 : Nat) W ∧ W.cell? ⟨w.heap.size, 0, none⟩ = some (.pointer (some ⟨d, 0, none⟩)) ∧ I Bl st W ∧ MutX w.heap.size d X w W ∧ w.heap.size < Bl ∧ Bl ≤ W.heap.size ∧ Hid (loopG step endc f' l' st = RR) ∧ 2 * l'.length + 2 ≤ f' ∧ cnt st + f' ≤ f) (fun W => s.size - atOf d W)
      case atStart => exact ⟨f, w2.heap.size, skip l, st0, hr3, hc3, hI, MutX.of_mut hm3, by omega, Nat.le_refl _, HRes, by omega, by omega⟩
      case round =>
        obtain ⟨f', Bl, l', st, hrl, hcb, hIl, hml, hBl, hBz, HQ, hf1, hf2⟩ := hrel
        have hleft := Lib.hid (left_rd hrl)
        obtain ⟨g, rfl⟩ : ∃ g, f' = g + 1 := ⟨f' - 1, by omega⟩
        have hEl : Env B0 wr := hE.later ((hml.mut hE.size (fun k hk => (hX k hk).1)).below hd)
        have hcall := hread Bl g st l' wr (by omega) (by omega) (by omega) (fun k hk => by have := (hX k hk).2; omega) hBz hEl hIl hrl
        have hP : ∀ W, MutX Bl d X wr W → W.cell? ⟨w.heap.size, 0, none⟩ = some (.pointer (some ⟨d, 0, none⟩)) := fun W hm => by
          have h := hm.block w.heap.size hBl (by omega) (fun h => by have := (hX _ h).2; omega)
          unfold World.cell? at hcb ⊢
          rw [h]; exact hcb
        cases hst : step g st l' with
        | bad =>
          rw [hst] at hcall
          have HR := Lib.hid (HQ.out.symm.trans (loopG_bad hst))
          clear hst HQ hread
          go_wp2_with fail
          refine hcall.mono ?_; rintro e w3 ⟨hm3', rfl, l3, hr3'⟩
          have hcb3 := hP w3 hm3'
          have hz3' := hm3'.size
          clear hcall hP
          go_wp2_with fail
          refine Fin.out _ _ _ w3 rfl hr3' hcb3 (by omega) (fun W' hm' hr' => ⟨hml.trans ((hm3'.mono (by omega)).trans (MutX.of_mut (hm'.mono (by omega)))), ?_⟩)
          rw [HR.out]
          exact ⟨rfl, _, hr'⟩
        | deep =>
          rw [hst] at hcall
          have HR := Lib.hid (HQ.out.symm.trans (loopG_deep hst))
          clear hst HQ hread
          go_wp2_with fail
          refine hcall.mono ?_; rintro e w3 ⟨hm3', rfl, l3, hr3'⟩
          have hcb3 := hP w3 hm3'
          have hz3' := hm3'.size
          clear hcall hP
          go_wp2_with fail
          refine Fin.out _ _ _ w3 rfl hr3' hcb3 (by omega) (fun W' hm' hr' => ⟨hml.trans ((hm3'.mono (by omega)).trans (MutX.of_mut (hm'.mono (by omega)))), ?_⟩)
          rw [HR.out]
          exact ⟨rfl, _, hr'⟩
        | ok st' r =>
          rw [hst] at hcall
          have hrlen := hlen _ _ _ _ _ hst
          have hcn := hcnt _ _ _ _ _ hst
          cases hp1 : Lib.hasPrefix r [endc] with
          | true =>
            have HR := Lib.hid (HQ.out.symm.trans (loopG_end hst hp1))
            have ct : ∀ W, RdL d s r (o + 1 : Nat) W → _ := fun W h => take_yes d s ⟨#[endc]⟩ r _ W h hs hp1
            clear hst HQ hread hp1
            go_wp2_with fail
            refine hcall.mono ?_; rintro e w3 ⟨hm3', rfl, hI3, hr3'⟩
            have hcb3 := hP w3 hm3'
            have hz3' := hm3'.size
            clear hcall hP
            go_wp2_with fail
            refine (ct _ hr3').mono ?_; rintro e w4 ⟨rfl, hr4, hm4⟩
            have hcb4 : w4.cell? ⟨w.heap.size, 0, none⟩ = some (.pointer (some ⟨d, 0, none⟩)) := by rw [(cells_mut hm4 (b := w.heap.size) (by omega) (by omega)).1]; exact hcb3
            have hz4 := hm4.size
            clear ct
            go_wp2_with fail
            refine Fin.out _ _ _ w4 rfl hr4 hcb4 (by omega) (fun W' hm' hr' => ⟨hml.trans ((hm3'.mono (by omega)).trans (MutX.of_mut ((hm4.mono (by omega)).trans (hm'.mono (by omega))))), ?_⟩)
            rw [HR.out]
            exact ⟨rfl, ⟨_, hIm _ _ _ _ (by omega) hI3 (hm4.trans (hm'.mono (by omega)))⟩, hr'⟩
          | false =>
            have ct : ∀ W, RdL d s r (o + 1 : Nat) W → _ := fun W h => take_no d s ⟨#[endc]⟩ r _ W h hp1
            cases hp2 : Lib.hasPrefix r [44] with
            | true =>
              have HR := Lib.hid (HQ.out.symm.trans (loopG_more hst hp1 hp2)).symm
              have ct2 : ∀ W, RdL d s r (o + 1 : Nat) W → _ := fun W h => take_yes d s ⟨#[44]⟩ r _ W h hs hp2
              have hr1 : 1 ≤ r.length := by rw [prefix_one hp2]; simp
              have HLR := Lib.hid (And.intro hr1 (And.intro hrlen hcn))
              clear hst HQ hread hp1 hp2
              go_wp2_with fail
              refine hcall.mono ?_; rintro e w3 ⟨hm3', rfl, hI3, hr3'⟩
              have hcb3 := hP w3 hm3'
              have hz3' := hm3'.size
              clear hcall hP
              go_wp2_with fail
              refine (ct _ hr3').mono ?_; rintro e w4 ⟨rfl, hr4, hm4⟩
              have hcb4 : w4.cell? ⟨w.heap.size, 0, none⟩ = some (.pointer (some ⟨d, 0, none⟩)) := by rw [(cells_mut hm4 (b := w.heap.size) (by omega) (by omega)).1]; exact hcb3
              have hz4 := hm4.size
              go_wp2_with fail
              refine (ct2 _ hr4).mono ?_; rintro e w5 ⟨rfl, hr5, hm5⟩
              replace hr5 : RdL d s (r.drop 1) (o + 1 : Nat) w5 := hr5
              have hcb5 : w5.cell? ⟨w.heap.size, 0, none⟩ = some (.pointer (some ⟨d, 0, none⟩)) := by rw [(cells_mut hm5 (b := w.heap.size) (by omega) (by omega)).1]; exact hcb4
              have hz5 := hm5.size
              clear ct ct2
              go_wp2_with fail
              go_roundw
              case rel => exact ⟨g, Bl, r.drop 1, st', hr5, hcb5, hIm _ _ _ _ (by omega) hI3 (hm4.trans (hm5.mono (by omega))), hml.trans ((hm3'.mono (by omega)).trans (MutX.of_mut ((hm4.mono (by omega)).trans (hm5.mono (by omega))))), hBl, by omega, HR, by rw [List.length_drop]; have := HLR.out; omega, by have := HLR.out; omega⟩
              case measure => rw [hleft.out, left_rd hr5, List.length_drop]; have := HLR.out; omega
            | false =>
              have HR := Lib.hid (HQ.out.symm.trans (loopG_wrong hst hp1 hp2))
              have ct2 : ∀ W, RdL d s r (o + 1 : Nat) W → _ := fun W h => take_no d s ⟨#[44]⟩ r _ W h hp2
              clear hst HQ hread hp1 hp2
              go_wp2_with fail
              refine hcall.mono ?_; rintro e w3 ⟨hm3', rfl, hI3, hr3'⟩
              have hcb3 := hP w3 hm3'
              have hz3' := hm3'.size
              clear hcall hP
              go_wp2_with fail
              refine (ct _ hr3').mono ?_; rintro e w4 ⟨rfl, hr4, hm4⟩
              have hcb4 : w4.cell? ⟨w.heap.size, 0, none⟩ = some (.pointer (some ⟨d, 0, none⟩)) := by rw [(cells_mut hm4 (b := w.heap.size) (by omega) (by omega)).1]; exact hcb3
              have hz4 := hm4.size
              go_wp2_with fail
              refine (ct2 _ hr4).mono ?_; rintro e w5 ⟨rfl, hr5, hm5⟩
              have hcb5 : w5.cell? ⟨w.heap.size, 0, none⟩ = some (.pointer (some ⟨d, 0, none⟩)) := by rw [(cells_mut hm5 (b := w.heap.size) (by omega) (by omega)).1]; exact hcb4
              have hz5 := hm5.size
              clear ct ct2
              go_wp2_with fail
              refine Fin.out _ _ _ w5 rfl hr5 hcb5 (by omega) (fun W' hm' hr' => ⟨hml.trans ((hm3'.mono (by omega)).trans (MutX.of_mut ((hm4.mono (by omega)).trans ((hm5.mono (by omega)).trans (hm'.mono (by omega)))))), ?_⟩)
              rw [HR.out]
              exact ⟨rfl, _, hr'⟩
end Go.Proofs.YtfjdeacpdcnjpaaGreatDoor.V
