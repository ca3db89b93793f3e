/- Contracts of the reader's small calls: whether it has ended, what it takes, what it takes all of. -/
import Derived.Test.YtfjdeacpdcnjpaaGreatDoorVMem
import Derived.Test.YtfjdeacpdcnjpaaGreatDoorShelf
import Derived.RegionTactic
import Derived.Deep.QuietTactic
import Derived.BigQuiet
import Derived.Deep.LoopGhost
import Derived.IntWalk
namespace Go.Proofs.YtfjdeacpdcnjpaaGreatDoor.V
open Go.RowKit
open Go.Lib

set_option maxHeartbeats 400000 in
theorem ended_any (d : Nat) (s : ByteArray) (at' : Nat) (o : Int) (w : World) (hr : Rd d s at' o w) :
    Calls Tryz.prog 30 #[.pointer (some ⟨d, 0, none⟩)] w fun e w' => e = .returned (.bool ((at' : Int) == (s.size : Int))) ∧ ∃ n, w' = w.drewN n := by
  have c0 := hr.c0
  have c1 := hr.c1
  go_enter Tryz.func30, Tryz.ntmps30
  go_wp2
  go_quiet (fail)
  go_wp2
  go_ret
  exact ⟨rfl, nq, rfl⟩
theorem ended_yes (d : Nat) (s : ByteArray) (o : Int) (w : World) (hr : Rd d s s.size o w) :
    Calls Tryz.prog 30 #[.pointer (some ⟨d, 0, none⟩)] w fun e w' => e = .returned (.bool true) ∧ ∃ n, w' = w.drewN n :=
  (ended_any d s s.size o w hr).mono fun e w' ⟨he, hw⟩ => ⟨by rw [he]; simp, hw⟩
theorem ended_no (d : Nat) (s : ByteArray) (at' : Nat) (o : Int) (w : World) (hr : Rd d s at' o w) (ha : at' < s.size) :
    Calls Tryz.prog 30 #[.pointer (some ⟨d, 0, none⟩)] w fun e w' => e = .returned (.bool false) ∧ ∃ n, w' = w.drewN n :=
  (ended_any d s at' o w hr).mono fun e w' ⟨he, hw⟩ => ⟨by rw [he, show ((at' : Int) == (s.size : Int)) = false from by simp; omega], hw⟩

/-- The reader's block, by what is left of the text. -/
def RdL (d : Nat) (s : ByteArray) (l : List UInt8) (o : Int) (w : World) : Prop := ∃ at' : Nat, at' ≤ s.size ∧ s.data.toList.drop at' = l ∧ Rd d s at' o w
theorem RdL.lt {d : Nat} {s : ByteArray} {l : List UInt8} {o : Int} {w : World} (h : RdL d s l o w) : d < w.heap.size := by obtain ⟨_, _, _, h⟩ := h; exact h.lt
theorem RdL.below {d : Nat} {s : ByteArray} {l : List UInt8} {o : Int} {w w' : World} (h : RdL d s l o w) (hb : Below w.heap.size w w') : RdL d s l o w' := by
  obtain ⟨a, h1, h2, h3⟩ := h; exact ⟨a, h1, h2, h3.below hb⟩
theorem RdL.len {d : Nat} {s : ByteArray} {l : List UInt8} {o : Int} {w : World} (h : RdL d s l o w) : l.length ≤ s.size := by
  obtain ⟨a, h1, h2, h3⟩ := h
  rw [← h2, List.length_drop, ← Lib.size_eq]; omega

theorem extract_drop (s : ByteArray) (a : Nat) : (s.extract a s.size).data.toList = s.data.toList.drop a := by
  rw [Lib.extract_data, List.take_of_length_le]
  rw [List.length_drop, ← Lib.size_eq]; omega

theorem RdL.of {d : Nat} {s : ByteArray} {l : List UInt8} {o : Int} {w : World} (n : Nat) (a : Int) (e : a = n) (h1 : n ≤ s.size) (h2 : s.data.toList.drop n = l) (h : Rd d s a o w) : RdL d s l o w := ⟨n, h1, h2, e ▸ h⟩

set_option maxHeartbeats 400000 in
theorem take_yes (d : Nat) (s p : ByteArray) (l : List UInt8) (o : Int) (w : World) (hr : RdL d s l o w) (hs : s.size ≤ 1099511627776) (hp : Lib.hasPrefix l p.data.toList = true) :
    Calls Tryz.prog 50 #[.pointer (some ⟨d, 0, none⟩), .string p] w fun e w' => e = .returned (.bool true) ∧ RdL d s (l.drop p.size) o w' ∧ Mut w.heap.size d w w' := by
  obtain ⟨at', ha, hl, hr⟩ := hr
  have hpl : p.size ≤ s.size - at' := by
    have h := (List.isPrefixOf_iff_prefix.1 hp).length_le
    rw [← hl, List.length_drop, ← Lib.size_eq, ← Lib.size_eq] at h; exact h
  have hcon : ∀ W, Calls Tryz.prog 62 #[.string (s.extract at' s.size), .string p] W fun e w' => e = .returned (.bool true) ∧ w' = W := fun W => by
    have h := Tryz.strings_HasPrefix (s.extract at' s.size) p W
    rw [extract_drop, hl, hp] at h; exact h
  have hl2 : s.data.toList.drop (at' + p.size) = l.drop p.size := by rw [← hl, List.drop_drop]
  have HL := Lib.hid hl2
  have c0 := hr.c0
  have c1 := hr.c1
  have f1 := hr.f1
  clear hp hl hl2
  go_enter Tryz.func50, Tryz.ntmps50
  go_wp2
  go_quiet ((go_at_call 62; exact Calls.quiet_of_same (hcon _)))
  go_wp2
  go_ret
  exact ⟨rfl, RdL.of (at' + p.size) _ (by omega) (by omega) HL.out ((hr.drewN nq).set1 _), ((Mut.refl _ _ _).drewN nq).setCell 1 _⟩

set_option maxHeartbeats 400000 in
theorem take_no (d : Nat) (s p : ByteArray) (l : List UInt8) (o : Int) (w : World) (hr : RdL d s l o w) (hp : Lib.hasPrefix l p.data.toList = false) :
    Calls Tryz.prog 50 #[.pointer (some ⟨d, 0, none⟩), .string p] w fun e w' => e = .returned (.bool false) ∧ RdL d s l o w' ∧ Mut w.heap.size d w w' := by
  obtain ⟨at', ha, hl, hr⟩ := hr
  have hcon : ∀ W, Calls Tryz.prog 62 #[.string (s.extract at' s.size), .string p] W fun e w' => e = .returned (.bool false) ∧ w' = W := fun W => by
    have h := Tryz.strings_HasPrefix (s.extract at' s.size) p W
    rw [extract_drop, hl, hp] at h; exact h
  have HL := Lib.hid hl
  have c0 := hr.c0
  have c1 := hr.c1
  have f1 := hr.f1
  clear hp hl
  go_enter Tryz.func50, Tryz.ntmps50
  go_wp2
  go_quiet ((go_at_call 62; exact Calls.quiet_of_same (hcon _)))
  go_wp2
  go_ret
  exact ⟨rfl, RdL.of at' _ rfl (by omega) HL.out (hr.drewN nq), (Mut.refl _ _ _).drewN nq⟩

/-- Which bytes a set has. -/
def SetIs (set : ByteArray) (p : UInt8 → Bool) : Prop := ∀ c : UInt8, p c = decide (0 ≤ Lib.indexByte set.data.toList c)

/-- Where the reader stands. -/
def atOf (d : Nat) (w : World) : Nat := match w.cell? ⟨d, 1, none⟩ with | some (.int _ n) => n.toNat | _ => 0
theorem atOf_rd {d : Nat} {s : ByteArray} {a : Nat} {o : Int} {w : World} (h : Rd d s a o w) : atOf d w = a := by unfold atOf; rw [h.c1]; simp

/-- The first k bytes are among those of p. -/
def Taken (p : UInt8 → Bool) (l : List UInt8) (k : Nat) : Prop := ∀ i, i < k → ∃ c, l[i]? = some c ∧ p c = true
theorem Taken.step {p : UInt8 → Bool} {l : List UInt8} {k : Nat} (h : Taken p l k) (c : UInt8) (hc : l[k]? = some c) (hp : p c = true) : Taken p l (k + 1) := by
  intro i hi
  by_cases h2 : i < k
  · exact h i h2
  · obtain rfl : i = k := by omega
    exact ⟨c, hc, hp⟩
theorem Taken.all {p : UInt8 → Bool} : ∀ {l : List UInt8} {k : Nat}, Taken p l k → (∀ c, l[k]? = some c → p c = false) → l.takeWhile p = l.take k ∧ l.dropWhile p = l.drop k
  | [], k, _, _ => by simp
  | c :: t, 0, _, h2 => by have := h2 c rfl; simp [this]
  | c :: t, k + 1, h1, h2 => by
    obtain ⟨c', hc', hp⟩ := h1 0 (by omega)
    have hcc : c = c' := by simpa using hc'
    subst hcc
    have := Taken.all (l := t) (k := k) (fun i hi => by simpa using h1 (i + 1) (by omega)) (fun c hc => h2 c (by simpa using hc))
    simp [hp, this.1, this.2]
theorem drop_get (s : ByteArray) (a k : Nat) (h : a + k < s.size) : (s.data.toList.drop a)[k]? = some s[a + k] := by
  rw [List.getElem?_drop, List.getElem?_eq_getElem (by rw [← Lib.size_eq]; exact h)]; rfl
theorem drop_none (s : ByteArray) (a k : Nat) (h : ¬ a + k < s.size) : (s.data.toList.drop a)[k]? = none := by
  rw [List.getElem?_drop, List.getElem?_eq_none (by rw [← Lib.size_eq]; omega)]
theorem u8_round (c : UInt8) : ((c.toNat : Int)).toNat.toUInt8 = c := by simp
theorem extract_take (s : ByteArray) (a k : Nat) : s.extract a (a + k) = ⟨((s.data.toList.drop a).take k).toArray⟩ := by
  rw [Lib.extract_eq, Nat.add_sub_cancel_left]

set_option maxHeartbeats 1000000 in
theorem takeAll_any (d : Nat) (s set : ByteArray) (p : UInt8 → Bool) (hset : SetIs set p) (l : List UInt8) (o : Int) (w : World) (hr : RdL d s l o w) (hs : s.size ≤ 1099511627776) :
    Calls Tryz.prog 49 #[.pointer (some ⟨d, 0, none⟩), .string set] w fun e w' => e = .returned (.string ⟨(l.takeWhile p).toArray⟩) ∧ RdL d s (l.dropWhile p) o w' ∧ Mut w.heap.size d w w' := by
  obtain ⟨at0, ha, hl, hr⟩ := hr
  have HL := Lib.hid hl
  have c0 := hr.c0
  have c1 := hr.c1
  clear hl
  go_enter Tryz.func49, Tryz.ntmps49
  go_wp2
  clear c0 c1
  go_loopw [] (fun w' => ∃ j : Nat, at0 ≤ j ∧ j ≤ s.size ∧ Rd d s (j : Nat) o w' ∧ Mut w.heap.size d w w' ∧ Taken p l (j - at0)) (fun w' => s.size - atOf d w')
  case atStart => exact ⟨at0, Nat.le_refl _, ha, hr, Mut.refl _ _ _, fun i hi => by omega⟩
  case round =>
    obtain ⟨j, hj, hk, hrk, hm, HT⟩ := hrel
    have hat := Lib.hid (atOf_rd hrk)
    have c0 := hrk.c0
    have c1 := hrk.c1
    have f1 := hrk.f1
    obtain ⟨k, hjk⟩ : ∃ k, j = at0 + k := ⟨j - at0, by omega⟩
    have fin : (∀ c, l[k]? = some c → p c = false) → ∀ n nq, Ending.returned (.string (s.extract at0 j)) = .returned (.string ⟨(l.takeWhile p).toArray⟩) ∧ RdL d s (l.dropWhile p) o ((wr.drewN n).drewN nq) ∧ Mut w.heap.size d w ((wr.drewN n).drewN nq) := fun hno n nq => by
      rw [hjk, Nat.add_sub_cancel_left] at HT
      obtain ⟨h1, h2⟩ := HT.all hno
      rw [h1, h2, ← HL.out, hjk, ← extract_take]
      exact ⟨rfl, RdL.of j _ rfl hk (by rw [List.drop_drop, hjk]) ((hrk.drewN n).drewN nq), (hm.drewN n).drewN nq⟩
    have Fin := Lib.hid fin
    have HJ := Lib.hid hjk
    clear fin
    by_cases hlt : j < s.size
    · have hg : l[k]? = some s[j] := by
        have hg := drop_get s at0 k (by omega)
        rw [HL.out] at hg; rw [hg]; congr 1; simp only [hjk]
      obtain ⟨I, hI⟩ : ∃ I, Lib.indexByte set.data.toList s[j] = I := ⟨_, rfl⟩
      have hcI : ∀ W, Calls Tryz.prog 61 #[.string set, .int .u8 (s[j].toNat)] W fun e w' => e = .returned (.int .i64 I) ∧ w' = W := fun W => by
        have h := Tryz.strings_IndexByte set (s[j].toNat) W
        rw [u8_round, hI] at h; exact h
      have hpI : p s[j] = decide (0 ≤ I) := by rw [← hI]; exact hset _
      have HP := Lib.hid hpI
      have HG := Lib.hid hg
      have b0 : (0 : Int) ≤ (j : Int) := by omega
      have b1 : (j : Int) < (s.size : Int) := by omega
      clear hpI hI hg hjk
      by_cases h0 : 0 ≤ I
      · go_wp2
        go_quiet (first | (go_at_call 30; exact Calls.quiet_of (ended_no d s j o _ (hrk.drewN _) hlt)) | (go_at_call 61; exact Calls.quiet_of_same (hcI _)))
        go_wp2
        go_roundw
        case rel => exact ⟨j + 1, by omega, by omega, by have := (hrk.drewN nq).set1 ((j + 1 : Nat) : Int); simpa using this, (hm.drewN nq).setCell 1 _, by rw [show j + 1 - at0 = k + 1 by have := HJ.out; omega]; exact Taken.step (by rw [show k = j - at0 by have := HJ.out; omega]; exact HT) _ HG.out (by rw [HP.out]; simpa using h0)⟩
        case measure => rw [hat.out, atOf_rd (a := j + 1) (o := o) (s := s) (by have := (hrk.drewN nq).set1 ((j + 1 : Nat) : Int); simpa using this)]; omega
      · have hd0 : decide (0 ≤ I) = false := by simpa using h0
        go_wp2
        go_quiet (first | (go_at_call 30; exact Calls.quiet_of (ended_no d s j o _ (hrk.drewN _) hlt)) | (go_at_call 61; exact Calls.quiet_of_same (hcI _)))
        go_wp2
        go_quiet (fail)
        go_wp2
        go_ret
        refine Fin.out (fun c hc => ?_) _ _
        rw [HG.out] at hc
        obtain rfl := Option.some.inj hc
        rw [HP.out]; simpa using h0
    · have hrk' : Rd d s (s.size : Nat) o wr := by obtain rfl : j = s.size := by omega
                                                   exact hrk
      have hn : l[k]? = none := by
        rw [← HL.out]; exact drop_none s at0 k (by omega)
      obtain rfl : j = s.size := by omega
      clear hjk
      go_wp2
      go_quiet (first | (go_at_call 30; exact Calls.quiet_of (ended_yes d s o _ (hrk.drewN _))))
      go_wp2
      go_quiet (fail)
      go_wp2
      go_ret
      exact Fin.out (fun c hc => by rw [hn] at hc; cases hc) _ _
end Go.Proofs.YtfjdeacpdcnjpaaGreatDoor.V
