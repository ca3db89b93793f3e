/- What the document answers of values, in plain words: what is right, how deep a value is nested, a part of a Record. The contracts of the document's Strings and Deep. The contracts of the document's formed and Right. The contracts of the document's digits, quoted, text and Write. The contracts of the document's text, Right and Write. The contract of the document's Same. -/
import Derived.Test.YtfjdeacpdcnjpaaGreatDoorVRightP
import Derived.Test.YtfjdeacpdcnjpaaGreatDoorVSized
import Derived.Deep.QuietTactic
import Derived.BigQuiet
import Derived.Laws.Small
import Derived.Test.YtfjdeacpdcnjpaaGreatDoorRefAll
import Derived.Deep.DeepCutAuto
import Derived.Test.YtfjdeacpdcnjpaaGreatDoorVFacts
import Derived.Deep.RegionHeld3
import Derived.Deep.DrawnRows
namespace Go.Proofs.YtfjdeacpdcnjpaaGreatDoor.V
open Go.Lib

theorem okP_nil : okP [] = true := by decide +kernel
theorem keysP_end : ∀ (a : List (List UInt8)) (k : List UInt8) (seen : List (List UInt8)), keysP (a ++ [k]) seen = (keysP a seen && (okP k && !decide (k ∈ seen ++ a)))
  | [], k, seen => by simp [keysP]
  | x :: r, k, seen => by
    simp only [List.cons_append, keysP, keysP_end r k (seen ++ [x]), List.append_assoc, Bool.and_assoc, List.nil_append]
theorem keysP_take {ks : List (List UInt8)} {i : Nat} (h : i < ks.length) : keysP (ks.take (i + 1)) [] = (keysP (ks.take i) [] && (okP ks[i] && !decide (ks[i] ∈ ks.take i))) := by
  rw [List.take_succ_eq_append_getElem h, keysP_end, List.nil_append]
theorem rightPs_end : ∀ (a : List Val) (v : Val), rightPs (a ++ [v]) = (rightPs a && rightP v)
  | [], v => by simp [rightPs]
  | x :: r, v => by simp only [List.cons_append, rightPs, rightPs_end r v, Bool.and_assoc]
theorem rightPs_take {l : List Val} {i : Nat} (h : i < l.length) : rightPs (l.take (i + 1)) = (rightPs (l.take i) && rightP l[i]) := by
  rw [List.take_succ_eq_append_getElem h, rightPs_end]
/-- No key of the first k is the i-th. -/
def apartP (ks : List (List UInt8)) (x : List UInt8) (k : Nat) : Bool := !decide (x ∈ ks.take k)
theorem apartP_zero (ks : List (List UInt8)) (x : List UInt8) : apartP ks x 0 = true := by simp [apartP]
theorem apartP_succ {ks : List (List UInt8)} {x : List UInt8} {k : Nat} (h : k < ks.length) : apartP ks x (k + 1) = (apartP ks x k && decide (ks[k] ≠ x)) := by
  have hm : x ∈ ks.take (k + 1) ↔ (x ∈ ks.take k ∨ x = ks[k]) := by
    rw [List.take_succ_eq_append_getElem h, List.mem_append, List.mem_singleton]
  unfold apartP
  by_cases h1 : x ∈ ks.take k
  · rw [decide_eq_true (hm.2 (.inl h1)), decide_eq_true h1]; rfl
  · by_cases h2 : x = ks[k]
    · rw [decide_eq_true (hm.2 (.inr h2)), decide_eq_false h1, decide_eq_false (fun h => h h2.symm)]; rfl
    · rw [decide_eq_false (fun h => (hm.1 h).elim h1 h2), decide_eq_false h1, decide_eq_true (show ks[k] ≠ x from fun h => h2 h.symm)]; rfl

def shapeP (so n : Int) (kl ll : Nat) : Bool := !(decide (so < 0) || decide (5 < so) || decide (n < -9007199254740992) || decide (9007199254740992 < n) || (so == 5 && !(kl == ll)))
theorem rightP_parts (so : Int) (on : Bool) (n : Int) (t : List UInt8) (l : List Val) (ks : List (List UInt8)) :
    rightP (.mk so on n t l ks) = (elseP (.mk so on n t l ks) && (shapeP so n ks.length l.length && (okP t && keysP ks [] && rightPs l))) := by
  rw [rightP]
  by_cases he : elseP (.mk so on n t l ks) = true
  · rw [he, Bool.true_and, Bool.true_and]
    simp only [elseP, Bool.and_eq_true, Bool.or_eq_true, beq_iff_eq, Bool.not_eq_true', List.isEmpty_iff] at he
    obtain ⟨⟨⟨⟨h1, h2⟩, h3⟩, h4⟩, h5⟩ := he
    have hn : so ≠ 2 → n = 0 := fun h => h2.resolve_right h
    have ht : so ≠ 3 → t = [] := fun h => h3.resolve_right h
    have hl : so ≠ 4 → so ≠ 5 → l = [] := fun h h' => (h4.resolve_right h').resolve_right h
    have hk : so ≠ 5 → ks = [] := fun h => h5.resolve_right h
    clear h1 h2 h3 h4 h5
    by_cases h0 : so = 0
    · subst h0
      rw [hn (by omega), ht (by omega), hl (by omega) (by omega), hk (by omega)]
      simp [shapeP, okP_nil, keysP, rightPs]
    · by_cases h1 : so = 1
      · subst h1
        rw [hn (by omega), ht (by omega), hl (by omega) (by omega), hk (by omega)]
        simp [shapeP, okP_nil, keysP, rightPs]
      · by_cases h2 : so = 2
        · subst h2
          rw [ht (by omega), hl (by omega) (by omega), hk (by omega)]
          simp only [shapeP, okP_nil, keysP, rightPs, inP]
          by_cases hi : -9007199254740992 ≤ n ∧ n ≤ 9007199254740992
          · obtain ⟨hi1, hi2⟩ := hi
            simp [hi1, hi2, show ¬ n < -9007199254740992 by omega, show ¬ 9007199254740992 < n by omega]
          · simp only [hi, decide_false]
            rcases Int.lt_or_le n (-9007199254740992) with h | h
            · simp [h]
            · have : 9007199254740992 < n := by omega
              simp [this]
        · rw [hn h2]
          by_cases h3 : so = 3
          · subst h3
            rw [hl (by omega) (by omega), hk (by omega)]
            simp [shapeP, keysP, rightPs]
          · rw [ht h3]
            by_cases h4 : so = 4
            · subst h4
              rw [hk (by omega)]
              simp [shapeP, okP_nil, keysP]
            · by_cases h5 : so = 5
              · subst h5
                simp [shapeP, okP_nil, Bool.and_assoc]
              · have hx : so < 0 ∨ 5 < so := by omega
                rcases hx with hx | hx <;> simp [shapeP, hx, h0, h1, h2, h3, h4, h5]
  · have he : elseP (.mk so on n t l ks) = false := by simpa using he
    rw [he]; rfl

mutual
theorem nest_deep' : ∀ (v : Val) (m : Nat), rightP v = true → (nestP v m = true ↔ deepV v ≤ m)
  | .mk so on n t l ks, m, h => by
    rw [rightP_parts] at h
    simp only [Bool.and_eq_true] at h
    obtain ⟨he, _, _, hl⟩ := h
    have hi := fun k => nestL_deep' l k hl
    simp only [nestP, deepV]
    by_cases h45 : so = 4 ∨ so = 5
    · rw [if_pos h45]
      by_cases hm : m = 0
      · subst hm
        rw [if_pos rfl]
        rcases h45 with h | h <;> simp [h]
      · rw [if_neg hm, hi (m - 1)]
        omega
    · rw [if_neg h45]
      have h4 : so ≠ 4 := fun h => h45 (.inl h)
      have h5 : so ≠ 5 := fun h => h45 (.inr h)
      simp only [elseP, Bool.and_eq_true, Bool.or_eq_true, beq_iff_eq, List.isEmpty_iff] at he
      have hl0 : l = [] := (he.1.2.resolve_right h5).resolve_right h4
      subst hl0
      by_cases hm : m = 0
      · subst hm; simp [h4, h5]
      · rw [if_neg hm]; simp [nestL]
theorem nestL_deep' : ∀ (l : List Val) (m : Nat), rightPs l = true → (nestL l m = true ↔ deepL l ≤ m)
  | [], m, _ => by simp [nestL, deepL]
  | v :: r, m, h => by
    simp only [rightPs, Bool.and_eq_true] at h
    simp only [nestL, deepL, Bool.and_eq_true, nest_deep' v m h.1, nestL_deep' r m h.2]
    omega
end
theorem nest_deep (v : Val) (m : Nat) (h : rightP v = true) : nestP v m = decide (deepV v ≤ m) := by
  rw [Bool.eq_iff_iff, nest_deep' v m h, decide_eq_true_iff]
theorem rightTop_deep (v : Val) : rightTop v = (rightP v && decide (deepV v ≤ 20)) := by
  unfold rightTop
  cases h : rightP v with
  | false => simp
  | true => rw [nest_deep v 20 h]; simp
mutual
theorem deep_wt : ∀ (v : Val), deepV v ≤ wt v
  | .mk so on n t l ks => by
    have := deepL_wt l
    simp only [deepV, wt]
    split <;> omega
theorem deepL_wt : ∀ (l : List Val), deepL l ≤ wtL l
  | [] => Nat.le_refl _
  | v :: r => by
    have h1 := deep_wt v
    have h2 := deepL_wt r
    simp only [deepL, wtL]
    omega
end
theorem deepL_snoc : ∀ (a : List Val) (v : Val), deepL (a ++ [v]) = max (deepL a) (deepV v)
  | [], v => by simp [deepL]
  | x :: r, v => by simp only [List.cons_append, deepL, deepL_snoc r v]; omega
theorem deepL_take {l : List Val} {i : Nat} (h : i < l.length) : deepL (l.take (i + 1)) = max (deepL (l.take i)) (deepV l[i]) := by
  rw [List.take_succ_eq_append_getElem h, deepL_snoc]
theorem deepL_take_le (l : List Val) (i : Nat) : deepL (l.take i) ≤ deepL l := by
  induction l generalizing i with
  | nil => simp
  | cons x r ih =>
    cases i with
    | zero => simp [deepL]
    | succ i => simp only [List.take_succ_cons, deepL]; have := ih i; omega

/-- A part of a Record, by a path of keys. -/
def getP : Val → List (List UInt8) → Option Val
  | v, [] => some v
  | .mk so _ _ _ l ks, k :: p =>
    if so = 5 then
      if ks.idxOf k < l.length ∧ ks.idxOf k < ks.length then
        match l[ks.idxOf k]? with
        | some u => getP u p
        | none => none
      else none
    else none
end Go.Proofs.YtfjdeacpdcnjpaaGreatDoor.V

namespace Go.Proofs.YtfjdeacpdcnjpaaGreatDoor.V
open Go.RowKit
open Go.Lib

theorem texts_of {W : World} {R : Nat → Prop} {ks : List (List UInt8)} {a : Option Addr} {c : Nat} (h : KeysIn W R ks (.slice a ks.length c)) :
    ks = [] ∨ ∃ g off, a = some ⟨g, off, none⟩ ∧ ∀ i (hi : i < ks.length), W.cell? ⟨g, off + i, none⟩ = some (.string ⟨(ks[i]).toArray⟩) := by
  obtain ⟨a', c', h1, h2⟩ := h
  cases h1
  rcases h2 with h2 | ⟨g, off, h3, _, hc⟩
  · exact .inl h2
  · exact .inr ⟨g, off, h3, fun i hi => hc i _ (by simp [hi, strCell])⟩

theorem below_draws (w : World) (k : Nat) (w' : World) (h : w' = w.drewN k) : Below w.heap.size w w' := by
  subst h
  exact ⟨rfl, rfl, rfl, Nat.le_refl _, fun _ _ => rfl⟩

set_option maxHeartbeats 2000000 in
theorem strings_any (l l' : List (List UInt8)) (a a' : Option Addr) (c c' : Nat) (R R' : Nat → Prop) (w : World) (hk : KeysIn w R l (.slice a l.length c)) (hk' : KeysIn w R' l' (.slice a' l'.length c')) (hn : l.length ≤ 1099511627776) :
    Calls Tryz.prog 23 #[.slice a l.length c, .slice a' l'.length c'] w fun e w' => e = .returned (.bool (decide (l = l'))) ∧ Below w.heap.size w w' := by
  by_cases hlen : l.length = l'.length
  · obtain ⟨F, hF⟩ : ∃ F, decide (l = l') = F := ⟨_, rfl⟩
    have HF := Lib.hid (show decide (l.drop 0 = l'.drop 0) = F from hF)
    have HL := Lib.hid (texts_of hk)
    have HL' := Lib.hid (texts_of hk')
    rw [hF, ← hlen]
    have HLEN := Lib.hid hlen
    clear hF hlen hk hk'
    go_enter Tryz.func23, Tryz.ntmps23
    go_wp2_with fail
    go_loopw [5] (fun iv wr => ∃ i : Nat, iv = .int .i64 i ∧ i ≤ l.length ∧ Hid (decide (l.drop i = l'.drop i) = F) ∧ ∃ k, wr = w.drewN k) (fun iv _ => l.length - (Go.RowKit.intOf iv).toNat)
    case atStart => exact ⟨0, rfl, by omega, HF, 0, rfl⟩
    case round =>
      obtain ⟨i, rfl, hi, HI, k, rfl⟩ := hrel
      by_cases hlt : i < l.length
      · have hlt' : i < l'.length := by rw [← HLEN.out]; exact hlt
        have hI := HI.out
        rw [List.drop_eq_getElem_cons hlt, List.drop_eq_getElem_cons hlt'] at hI
        obtain ⟨g, off, rfl, hc⟩ := HL.out.resolve_left (fun h => by rw [h] at hlt; exact Nat.not_lt_zero _ hlt)
        obtain ⟨g', off', rfl, hc'⟩ := HL'.out.resolve_left (fun h => by rw [h] at hlt'; exact Nat.not_lt_zero _ hlt')
        have hci := hc i hlt
        have hci' := hc' i hlt'
        have hdc : ∀ (x y : List UInt8) (r s : List (List UInt8)), decide (x :: r = y :: s) = (decide (x = y) && decide (r = s)) := by
          intro x y r s
          by_cases h1 : x = y <;> by_cases h2 : r = s <;> simp [h1, h2]
        rw [hdc] at hI
        have HI1 := Lib.hid hI
        clear hc hc' hdc hI
        by_cases hx : l[i] = l'[i]
        · have HI2 := Lib.hid (show decide (l.drop (i + 1) = l'.drop (i + 1)) = F by rw [← HI1.out, decide_eq_true hx, Bool.true_and])
          rw [← hx] at hci'
          clear hx HI1
          generalize l[i] = x at hci hci'
          go_wp2_with fail
          go_quiet (fail)
          go_wp2_with fail
          go_roundw
          case rel => exact ⟨i + 1, by go_num, by omega, HI2, k + nq, by simp⟩
          case measure => simp [Go.RowKit.intOf]; omega
        · have hF0 : F = false := by rw [← HI1.out, decide_eq_false hx, Bool.false_and]
          subst hF0
          clear HI1
          generalize l[i] = x at hci hx
          generalize l'[i] = y at hci' hx
          have hx2 : (x == y) = false := beq_eq_false_iff_ne.2 hx
          go_wp2_with fail
          go_quiet (fail)
          go_wp2_with fail
          go_ret
          exact ⟨rfl, show Below w.heap.size w ((w.drewN k).drewN nq) from ⟨rfl, rfl, rfl, Nat.le_refl _, fun _ _ => rfl⟩⟩
      · have hI := HI.out
        rw [List.drop_eq_nil_of_le (by omega), List.drop_eq_nil_of_le (by have := HLEN.out; omega)] at hI
        obtain rfl : true = F := by rw [← hI]; simp
        clear hI
        go_wp2_with fail
        go_ret
        exact ⟨rfl, below_draws w k _ rfl⟩
  · have hne : decide (l = l') = false := decide_eq_false (fun h => hlen (by rw [h]))
    rw [hne]
    clear hk hk' hne
    go_enter Tryz.func23, Tryz.ntmps23
    go_wp2_with fail
    go_ret
    exact ⟨rfl, Below.refl _ _⟩

/-- The contract of the document's Deep at a value. -/
def DeepC (v : Val) : Prop := ∀ (lv kv : Value) (R : Nat → Prop) (w : World), ValIn w R v lv kv → wt v ≤ 1099511627776 →
  Calls Tryz.prog 26 #[arg v lv kv] w fun e w' => e = .returned (.int .i64 (deepV v)) ∧ Below w.heap.size w w'

set_option maxHeartbeats 4000000 in
theorem deep_v : ∀ v, DeepC v := Val.ind fun so on n t l ks IH lv kv R w hv hw => by
  have hv' := hv
  obtain ⟨⟨a1, c1, rfl, hl⟩, ⟨a2, c2, rfl, hk⟩⟩ := hv'
  have HL := Lib.hid hl
  have HIH := Lib.hid IH
  have hw2 := hw
  simp only [wt] at hw2
  have hwl : wtL l ≤ 1099511627776 := by omega
  have HWM := Lib.hid (fun v (h : v ∈ l) => Nat.le_trans (wtL_mem h) hwl)
  have hlb : l.length ≤ 1099511627776 := Nat.le_trans (wtL_length l) hwl
  have HDB := Lib.hid (fun i => Nat.le_trans (deepL_take_le l i) (Nat.le_trans (deepL_wt l) hwl))
  obtain ⟨D, hD⟩ : ∃ D, deepV (.mk so on n t l ks) = D := ⟨_, rfl⟩
  have HD := Lib.hid (show (if so = 4 ∨ so = 5 then deepL l + 1 else 0) = D by rw [← hD]; simp only [deepV])
  rw [hD]
  obtain ⟨ln, hln⟩ : ∃ k, l.length = k := ⟨_, rfl⟩
  obtain ⟨kn, hkn⟩ : ∃ k, ks.length = k := ⟨_, rfl⟩
  have HLN := Lib.hid hln
  simp only [arg, six', six, strCell]
  rw [hln, hkn]
  rw [hln] at hlb
  clear hv hl hk IH hw hw2 hwl hD hln hkn
  go_enter Tryz.func26, Tryz.ntmps26
  go_wp2_with fail
  obtain ⟨w1, hw1⟩ : ∃ w1, w.alloc (.cells #[.int .i64 so, .bool on, .int .i64 n, .string ⟨t.toArray⟩, .slice a1 ln c1, .slice a2 kn c2] 26) = w1 := ⟨_, rfl⟩
  rw [hw1]
  have hq1 : w1.heap[w.heap.size]? = some (.cells #[.int .i64 so, .bool on, .int .i64 n, .string ⟨t.toArray⟩, .slice a1 ln c1, .slice a2 kn c2] 26 (0, 0)) := by rw [← hw1]; exact heap_alloc_new w _
  have hb1 : Below w.heap.size w w1 := by rw [← hw1]; exact (Below.refl _ _).alloc (Nat.le_refl _) _
  have hz1 : w.heap.size < w1.heap.size := by rw [← hw1]; simp
  have HQ1 := Lib.hid hq1
  have HB1 := Lib.hid hb1
  clear hq1 hb1 hw1
  go_loopw [3, 4] (fun nv iv w2 => ∃ i m : Nat, iv = .int .i64 i ∧ nv = .int .i64 m ∧ i ≤ ln ∧ m ≤ 1099511627776 ∧ Hid (m = deepL (l.take i)) ∧ Hid (Below w1.heap.size w1 w2)) (fun _ iv _ => ln - (Go.RowKit.intOf iv).toNat)
  case atStart => exact ⟨0, 0, rfl, rfl, by omega, by omega, Lib.hid (by simp [deepL]), Lib.hid (Below.refl _ _)⟩
  case round =>
    obtain ⟨i, m, rfl, rfl, hi, hm, HM, HB⟩ := hrel
    obtain ⟨⟨k0, k1, k2, k3, k4, k5⟩, kf⟩ := cells_six ((HB.out.block w.heap.size hz1).trans HQ1.out)
    have hz2 := HB.out.size
    by_cases hlt : i < ln
    · have hll : i < l.length := by rw [HLN.out]; exact hlt
      obtain ⟨g, off, xs, rfl, hg, hc, hL⟩ := HL.out.resolve_left (fun h => by rw [h] at hll; exact Nat.not_lt_zero _ hll)
      have hb0 : Below w.heap.size w wr := HB1.out.trans (HB.out.mono HB1.out.size)
      have hsm : Same R w wr := fun b _ hb => hb0.block b hb
      obtain ⟨so', on', n', t', l', ks', a1', c1', a2', c2', he, hv', j0, j1, j2, j3, j4, j5⟩ := part_at i (ListIn.later hsm (fun _ h => h) l xs hL) (hc.later hg hsm) hll
      have hts := deepL_take hll
      have hdm := HDB.out (i + 1)
      rw [hts] at hdm
      have HM2 := Lib.hid hts
      have cP := fun W' (hb' : Below wr.heap.size wr W') => (HIH.out l[i] (List.getElem_mem hll)) (.slice a1' l'.length c1') (.slice a2' ks'.length c2') R W' (by rw [he]; exact ValIn.later (fun b _ hb => hb'.block b hb) (fun _ h => h) _ _ _ hv') (HWM.out _ (List.getElem_mem hll))
      rw [he] at hdm HM2
      simp only [he] at cP
      simp only [arg, six', six, strCell] at cP
      obtain ⟨d, hd⟩ : ∃ z, deepV (.mk so' on' n' t' l' ks') = z := ⟨_, rfl⟩
      rw [hd] at hdm HM2
      simp only [hd] at cP
      rw [← HM.out] at hdm HM2
      have hd2 : d ≤ 1099511627776 := by omega
      clear hts he hv' hsm hL hc hb0 hd hdm
      go_wp2_with fail
      refine (cP _ (Below.refl _ _)).mono ?_
      rintro e w3 ⟨rfl, hb3⟩
      have HB3 := Lib.hid (HB.out.trans (hb3.mono hz2))
      clear cP hb3
      by_cases hgt : m < d
      · go_wp2_with fail
        go_roundw
        case rel => exact ⟨i + 1, d, by go_num, congrArg (Value.int .i64) (by omega), by omega, hd2, Lib.hid (by rw [HM2.out]; omega), HB3⟩
        case measure => simp [Go.RowKit.intOf]; omega
      · go_wp2_with fail
        go_roundw
        case rel => exact ⟨i + 1, m, by go_num, congrArg (Value.int .i64) (by omega), by omega, hm, Lib.hid (by rw [HM2.out]; omega), HB3⟩
        case measure => simp [Go.RowKit.intOf]; omega
    · have hM := HM.out
      rw [List.take_of_length_le (by rw [HLN.out]; omega)] at hM
      have hDD := HD.out
      rw [← hM] at hDD
      have HEND := Lib.hid (HB1.out.trans (HB.out.mono HB1.out.size))
      clear hM
      by_cases h4 : so = 4
      · have hD4 : D = m + 1 := by rw [← hDD, if_pos (.inl h4)]
        subst hD4
        subst h4
        clear hDD
        go_wp2_with fail
        go_ret
        exact ⟨by go_num, HEND.out⟩
      · by_cases h5 : so = 5
        · have hD5 : D = m + 1 := by rw [← hDD, if_pos (.inr h5)]
          subst hD5
          subst h5
          clear hDD
          go_wp2_with fail
          go_ret
          exact ⟨by go_num, HEND.out⟩
        · have hD0 : D = 0 := by rw [← hDD, if_neg (fun h => h.elim h4 h5)]
          subst hD0
          have q4 : (so == 4) = false := by simpa using h4
          have q5 : (so == 5) = false := by simpa using h5
          clear hDD
          go_wp2_with fail
          go_ret
          exact ⟨rfl, HEND.out⟩
end Go.Proofs.YtfjdeacpdcnjpaaGreatDoor.V

namespace Go.Proofs.YtfjdeacpdcnjpaaGreatDoor.V
open Go.RowKit
open Go.Lib

/-- The contract of the document's formed at a value. -/
def FormedC (v : Val) : Prop := ∀ (lv kv : Value) (R : Nat → Prop) (w : World), ValIn w R v lv kv → wt v ≤ 400 →
  Calls Tryz.prog 25 #[arg v lv kv] w fun e w' => e = .returned (.bool (rightP v)) ∧ Below w.heap.size w w'

theorem ok_ref (t : List UInt8) (w : World) (h : t.length ≤ 400) :
    Calls Tryz.prog 45 #[.string ⟨t.toArray⟩] w fun e w' => e = .returned (.bool (okP t)) ∧ Below w.heap.size w w' := U.ref_right ⟨t.toArray⟩ w h

theorem cast_beq (a b : Nat) : ((a : Int) == (b : Int)) = (a == b) := by
  by_cases h : a = b
  · subst h; simp
  · have h2 : ¬ (a : Int) = (b : Int) := fun e => h (by omega)
    rw [beq_eq_false_iff_ne.2 h, beq_eq_false_iff_ne.2 h2]

set_option maxRecDepth 20000 in
set_option maxHeartbeats 8000000 in
theorem formed_v : ∀ v, FormedC v := Val.ind fun so on n t l ks IH lv kv R w hv hw => by
  have hv' := hv
  obtain ⟨⟨a1, c1, rfl, hl⟩, ⟨a2, c2, rfl, hk⟩⟩ := hv'
  have HL := Lib.hid hl
  have HK := Lib.hid (texts_of ⟨a2, c2, rfl, hk⟩)
  have HIH := Lib.hid IH
  have hw2 := hw
  simp only [wt] at hw2
  have hwl : wtL l ≤ 400 := by omega
  have hks : (ks.map fun k => k.length + 1).sum ≤ 400 := by omega
  have HWM := Lib.hid (fun v (h : v ∈ l) => Nat.le_trans (wtL_mem h) hwl)
  have HKM := Lib.hid (fun k (h : k ∈ ks) => Nat.le_trans (sum_mem h) hks)
  have hlb : l.length ≤ 400 := Nat.le_trans (wtL_length l) hwl
  have hkb : ks.length ≤ 400 := Nat.le_trans (wt_keys ks) hks
  have htb : t.length ≤ 400 := by omega
  obtain ⟨E, hE⟩ : ∃ E, elseP (.mk so on n t l ks) = E := ⟨_, rfl⟩
  obtain ⟨S, hS⟩ : ∃ S, shapeP so n ks.length l.length = S := ⟨_, rfl⟩
  obtain ⟨T, hT⟩ : ∃ T, okP t = T := ⟨_, rfl⟩
  obtain ⟨F, hF⟩ : ∃ F, rightP (.mk so on n t l ks) = F := ⟨_, rfl⟩
  have HF := Lib.hid (show F = (E && (S && (T && keysP ks [] && rightPs l))) by rw [← hF, rightP_parts, hE, hS, hT])
  have cT := fun W => ok_ref t W htb
  rw [hT] at cT
  rw [hF]
  have hke : ks.isEmpty = decide (ks.length = 0) := by cases ks <;> simp
  have hle : l.isEmpty = decide (l.length = 0) := by cases l <;> simp
  have hte : t.isEmpty = decide (t = []) := by cases t <;> simp
  have HE := Lib.hid (show ((!on || so == 1) && (n == 0 || so == 2) && (decide (t = []) || so == 3) && (decide (l.length = 0) || so == 4 || so == 5) && (decide (ks.length = 0) || so == 5)) = E by rw [← hE, ← hke, ← hle, ← hte]; rfl)
  have HS := Lib.hid hS
  obtain ⟨ln, hln⟩ : ∃ k, l.length = k := ⟨_, rfl⟩
  obtain ⟨kn, hkn⟩ : ∃ k, ks.length = k := ⟨_, rfl⟩
  have HLN := Lib.hid hln
  have HKN := Lib.hid hkn
  simp only [arg, six', six, strCell]
  rw [hln, hkn] at HE HS ⊢
  rw [hln] at hlb
  rw [hkn] at hkb
  have CT := Lib.hid cT
  clear hv hl hk IH hw hw2 hwl hks hE hS hT hF hke hle hte hln hkn cT
  go_enter Tryz.func25, Tryz.ntmps25
  go_upto_region 1 with fail
  obtain ⟨w1, hw1⟩ : ∃ w1, w.alloc (.cells #[.int .i64 so, .bool on, .int .i64 n, .string ⟨t.toArray⟩, .slice a1 ln c1, .slice a2 kn c2] 26) = w1 := ⟨_, rfl⟩
  rw [hw1]
  have hq1 : w1.heap[w.heap.size]? = some (.cells #[.int .i64 so, .bool on, .int .i64 n, .string ⟨t.toArray⟩, .slice a1 ln c1, .slice a2 kn c2] 26 (0, 0)) := by rw [← hw1]; exact heap_alloc_new w _
  have hb1 : Below w.heap.size w w1 := by rw [← hw1]; exact (Below.refl _ _).alloc (Nat.le_refl _) _
  have hz1 : w.heap.size < w1.heap.size := by rw [← hw1]; simp
  obtain ⟨⟨k0, k1, k2, k3, k4, k5⟩, kf⟩ := cells_six hq1
  have HQ1 := Lib.hid hq1
  have HB1 := Lib.hid hb1
  clear hq1 hb1 hw1
  go_cut [62] (fun c wx => c = .bool (!E) ∧ w1 = wx)
  case first =>
    cases on
    all_goals go_wp2_with fail
    all_goals (try subst so)
    all_goals (try subst n)
    all_goals (try subst t)
    all_goals go_meet
    all_goals exact ⟨congrArg Value.bool (by rw [← HE.out]; clear HE HS HF HL HK HIH HWM HKM HLN HKN CT HQ1 HB1; by_cases hk0 : kn = 0 <;> by_cases hl0 : ln = 0 <;> first | (exfalso; omega) | (simp [*, bne]; done)), rfl⟩
  case rest =>
    obtain ⟨rfl, rfl⟩ := hcut
    cases E with
    | false =>
      have hF0 : F = false := by rw [HF.out]; rfl
      subst hF0
      go_wp2_with fail
      go_ret
      exact ⟨rfl, HB1.out⟩
    | true =>
      go_upto_region 3 with fail
      go_cut [94] (fun c wx => c = .bool (!S) ∧ w1 = wx)
      case first =>
        go_wp2_with fail
        all_goals (try subst so)
        all_goals go_meet
        all_goals exact ⟨congrArg Value.bool (by rw [← HS.out]; unfold shapeP; clear HS HF HL HK HIH HWM HKM HLN HKN CT HQ1 HB1; simp [*, bne, cast_beq]), rfl⟩
      case rest =>
        obtain ⟨rfl, rfl⟩ := hcut
        cases S with
        | false =>
          have hF0 : F = false := by rw [HF.out]; rfl
          subst hF0
          go_wp2_with fail
          go_ret
          exact ⟨rfl, HB1.out⟩
        | true =>
          have HF2 := Lib.hid (show F = (T && keysP ks [] && rightPs l) by rw [HF.out]; rfl)
          clear HF HE HS
          go_wp2_with fail
          refine (CT.out _).mono ?_
          rintro e w2 ⟨rfl, hb2⟩
          have HB2 := Lib.hid hb2
          clear CT hb2 k0 k1 k2 k3 k4 k5 kf
          go_wp2_with fail
          go_loopw [3, 4] (fun rv iv wr => ∃ (i : Nat) (b : Bool), iv = .int .i64 i ∧ rv = .bool b ∧ i ≤ kn ∧ Hid (b = (T && keysP (ks.take i) [])) ∧ Hid (Below w1.heap.size w1 wr)) (fun _ iv _ => kn - (Go.RowKit.intOf iv).toNat)
          case atStart => exact ⟨0, T, rfl, rfl, by omega, Lib.hid (by simp [keysP]), HB2⟩
          case round =>
            obtain ⟨i, b, rfl, rfl, hi, HI, HB⟩ := hrel
            obtain ⟨⟨k0, k1, k2, k3, k4, k5⟩, kf⟩ := cells_six ((HB.out.block w.heap.size hz1).trans HQ1.out)
            have hz2 := HB.out.size
            have hbw := HB1.out.trans (HB.out.mono HB1.out.size)
            by_cases hlt : i < kn
            · have hll : i < ks.length := by rw [HKN.out]; exact hlt
              obtain ⟨g, off, rfl, hc⟩ := HK.out.resolve_left (fun h => by rw [h] at hll; exact Nat.not_lt_zero _ hll)
              have hcr : ∀ W, Below w.heap.size w W → ∀ j (hj : j < ks.length), W.cell? ⟨g, off + j, none⟩ = some (.string ⟨(ks[j]).toArray⟩) := fun W hb j hj => (hb.cell (p := ⟨g, off + j, none⟩) (Lib.lt_of_cell (hc j hj))).trans (hc j hj)
              have HCR := Lib.hid hcr
              have hci := hcr _ hbw i hll
              have HCI := Lib.hid (fun W hb => hcr W hb i hll)
              have HT := Lib.hid (keysP_take hll)
              have hxl := HKM.out ks[i] (List.getElem_mem hll)
              have HAP := Lib.hid (fun k (hk : k < ks.length) => @apartP_succ ks ks[i] k hk)
              have HA0 := Lib.hid (apartP_zero ks ks[i])
              have HAI := Lib.hid (show apartP ks ks[i] i = !decide (ks[i] ∈ ks.take i) from rfl)
              generalize ks[i] = x at hci HCI HT hxl HAP HA0 HAI
              have cX := fun W => ok_ref x W hxl
              obtain ⟨bx, hbx⟩ : ∃ b, okP x = b := ⟨_, rfl⟩
              rw [hbx] at cX
              have HBX := Lib.hid hbx
              clear hc hcr hbx hbw hxl
              go_wp2_with fail
              refine (cX _).mono ?_
              rintro e w3 ⟨rfl, hb3⟩
              have HB3 := Lib.hid (HB.out.trans (hb3.mono hz2))
              have hz3 := hb3.size
              clear cX hb3 k0 k1 k2 k3 k4 k5 kf
              obtain ⟨b0, hb0⟩ : ∃ b0, b0 = b := ⟨b, rfl⟩
              have HI2 := Lib.hid (show (b0 && bx && (!decide (x ∈ ks.take i))) = (T && keysP (ks.take (i + 1)) []) by rw [hb0, HI.out, HT.out, HBX.out]; simp only [Bool.and_assoc])
              have HBB := Lib.hid hb0
              clear HI HT HBX hb0
              cases b
              all_goals
                go_wp2_with fail
                go_loopw [3, 6] (fun rv kv wi => ∃ (k : Nat) (b2 : Bool), kv = .int .i64 k ∧ rv = .bool b2 ∧ k ≤ i ∧ Hid (b2 = (b0 && bx && apartP ks x k)) ∧ Hid (Below w1.heap.size w1 wi)) (fun _ kv _ => i - (Go.RowKit.intOf kv).toNat)
                case atStart => exact ⟨0, _, rfl, rfl, by omega, Lib.hid (by rw [HA0.out, Bool.and_true, HBB.out]; rfl), HB3⟩
                case round =>
                  obtain ⟨k, b2, rfl, rfl, hk, HJ, HBI⟩ := hrel
                  obtain ⟨⟨k0, k1, k2, k3, k4, k5⟩, kf⟩ := cells_six ((HBI.out.block w.heap.size hz1).trans HQ1.out)
                  have hbi := HB1.out.trans (HBI.out.mono HB1.out.size)
                  by_cases hlk : k < i
                  · have hlk2 : k < ks.length := by omega
                    have hck := HCR.out _ hbi k hlk2
                    have hci2 := HCI.out _ hbi
                    have hap := HAP.out k hlk2
                    have hkk : k < kn := by omega
                    have HDR := Lib.hid (fun nq => HBI.out.trans ((below_draws wr nq _ rfl).mono HBI.out.size))
                    cases b2
                    · have HF3 := Lib.hid (show false = (b0 && bx && apartP ks x (k + 1)) by rw [hap, ← Bool.and_assoc, ← HJ.out]; rfl)
                      clear hap hck hci2 HJ hbi
                      go_wp2_with fail
                      go_quiet (fail)
                      go_wp2_with fail
                      go_roundw
                      case rel => exact ⟨k + 1, false, by go_num, rfl, by omega, HF3, Lib.hid (HDR.out nq)⟩
                      case measure => simp [Go.RowKit.intOf]; omega
                    · have HF3 := Lib.hid (show decide (ks[k] ≠ x) = (b0 && bx && apartP ks x (k + 1)) by rw [hap, ← Bool.and_assoc, ← HJ.out, Bool.true_and])
                      generalize ks[k] = y at hck HF3
                      clear hap HJ hbi
                      by_cases hxy : y = x
                      · subst hxy
                        have HF4 := Lib.hid (show false = (b0 && bx && apartP ks y (k + 1)) by rw [← HF3.out]; simp)
                        clear HF3
                        go_wp2_with fail
                        go_quiet (fail)
                        go_wp2_with fail
                        go_roundw
                        case rel => exact ⟨k + 1, false, by go_num, rfl, by omega, HF4, Lib.hid (HDR.out nq)⟩
                        case measure => simp [Go.RowKit.intOf]; omega
                      · have HF4 := Lib.hid (show true = (b0 && bx && apartP ks x (k + 1)) by rw [← HF3.out]; simp [hxy])
                        have hxy2 : (y == x) = false := beq_eq_false_iff_ne.2 hxy
                        clear HF3
                        go_wp2_with fail
                        go_quiet (fail)
                        go_wp2_with fail
                        go_roundw
                        case rel => exact ⟨k + 1, true, by go_num, rfl, by omega, HF4, Lib.hid (HDR.out nq)⟩
                        case measure => simp [Go.RowKit.intOf]; omega
                  · obtain rfl : k = i := by omega
                    have HJ2 := Lib.hid (show b2 = (T && keysP (ks.take (k + 1)) []) by rw [HJ.out, HAI.out, HI2.out])
                    clear HJ hbi
                    go_wp2_with fail
                    go_roundw
                    case rel => exact ⟨k + 1, b2, by go_num, rfl, by omega, HJ2, HBI⟩
                    case measure => simp [Go.RowKit.intOf]; omega
            · have hI := HI.out
              rw [List.take_of_length_le (by rw [HKN.out]; omega)] at hI
              have HI2 := Lib.hid (show F = (b && rightPs l) by rw [HF2.out, ← hI])
              clear hI HI HK HKM HF2
              go_wp2_with fail
              clear k0 k1 k2 k3 k4 k5 kf
              go_loopw [3, 7] (fun rv iv wi => ∃ (i : Nat) (b2 : Bool), iv = .int .i64 i ∧ rv = .bool b2 ∧ i ≤ ln ∧ Hid (b2 = (b && rightPs (l.take i))) ∧ Hid (Below w1.heap.size w1 wi)) (fun _ iv _ => ln - (Go.RowKit.intOf iv).toNat)
              case atStart => exact ⟨0, b, rfl, rfl, by omega, Lib.hid (by simp [rightPs]), HB⟩
              case round =>
                obtain ⟨j, b2, rfl, rfl, hj, HJ, HBI⟩ := hrel
                obtain ⟨⟨k0, k1, k2, k3, k4, k5⟩, kf⟩ := cells_six ((HBI.out.block w.heap.size hz1).trans HQ1.out)
                have hzi := HBI.out.size
                have hbi := HB1.out.trans (HBI.out.mono HB1.out.size)
                by_cases hlj : j < ln
                · have hll : j < l.length := by rw [HLN.out]; exact hlj
                  obtain ⟨g, off, xs, rfl, hg, hc, hL⟩ := HL.out.resolve_left (fun h => by rw [h] at hll; exact Nat.not_lt_zero _ hll)
                  have hsm : Same R w wr := fun b _ hb => hbi.block b hb
                  obtain ⟨so', on', n', t', l', ks', a1', c1', a2', c2', he, hv', j0, j1, j2, j3, j4, j5⟩ := part_at j (ListIn.later hsm (fun _ h => h) l xs hL) (hc.later hg hsm) hll
                  have hts := rightPs_take hll
                  have cP := fun W' (hb' : Below wr.heap.size wr W') => (HIH.out l[j] (List.getElem_mem hll)) (.slice a1' l'.length c1') (.slice a2' ks'.length c2') R W' (by rw [he]; exact ValIn.later (fun b _ hb => hb'.block b hb) (fun _ h => h) _ _ _ hv') (HWM.out _ (List.getElem_mem hll))
                  rw [he] at hts
                  simp only [he] at cP
                  simp only [arg, six', six, strCell] at cP
                  obtain ⟨d, hd⟩ : ∃ z, rightP (.mk so' on' n' t' l' ks') = z := ⟨_, rfl⟩
                  rw [hd] at hts
                  simp only [hd] at cP
                  have HTS := Lib.hid (show (b2 && d) = (b && rightPs (l.take (j + 1))) by rw [hts, HJ.out, Bool.and_assoc])
                  clear hts he hv' hsm hL hc hd HJ
                  go_wp2_with fail
                  refine (cP _ (Below.refl _ _)).mono ?_
                  rintro e w4 ⟨rfl, hb4⟩
                  have HB4 := Lib.hid (HBI.out.trans (hb4.mono hzi))
                  clear cP hb4
                  cases b2
                  all_goals
                    go_wp2_with fail
                    go_roundw
                    case rel => exact ⟨j + 1, _, by go_num, rfl, by omega, Lib.hid (by rw [← HTS.out]; rfl), HB4⟩
                    case measure => simp [Go.RowKit.intOf]; omega
                · have hJ := HJ.out
                  rw [List.take_of_length_le (by rw [HLN.out]; omega)] at hJ
                  have HJF := Lib.hid (HI2.out.trans hJ.symm)
                  have HBE := Lib.hid hbi
                  clear hJ HJ HI2 hbi
                  go_wp2_with fail
                  go_ret
                  exact ⟨by rw [HJF.out]; rfl, HBE.out⟩
end Go.Proofs.YtfjdeacpdcnjpaaGreatDoor.V

namespace Go.Proofs.YtfjdeacpdcnjpaaGreatDoor.V
open Go.RowKit
open Go.Lib

theorem app_bytes (a b : List UInt8) : (⟨a.toArray⟩ : ByteArray) ++ (⟨b.toArray⟩ : ByteArray) = ⟨(a ++ b).toArray⟩ := by
  apply ByteArray.ext
  simp
theorem decDigits_ne (n : Nat) : decDigits n ≠ [] := by
  intro h
  have h1 := decDigits_length n
  have h2 := nDigits_pos n
  rw [h, List.length_nil] at h1
  omega
def strLen : Value → Nat | .string s => s.size | _ => 0
theorem ten_cut (d : Nat) (hd : d < 10) : ∀ W, (Instr.slice 9 (.string ⟨#[48, 49, 50, 51, 52, 53, 54, 55, 56, 57]⟩) (some (.int .i64 d)) (some (.int .i64 ((d : Int) + 1))) none).run Tryz.prog W = .ok (.string ⟨#[UInt8.ofNat (48 + d)]⟩) W := fun W => by
  have hs : (⟨#[48, 49, 50, 51, 52, 53, 54, 55, 56, 57]⟩ : ByteArray).size = 10 := rfl
  have hc : ∀ k : Fin 10, (⟨#[48, 49, 50, 51, 52, 53, 54, 55, 56, 57]⟩ : ByteArray).extract k.val (k.val + 1) = ⟨#[UInt8.ofNat (48 + k.val)]⟩ := by decide +kernel
  rw [run_slice_string W _ _ _ _ _ _ Tryz.underlying9 (by omega) (by omega) (by rw [hs]; omega)]
  have e1 : ((d : Int)).toNat = d := by omega
  have e2 : ((d : Int) + 1).toNat = d + 1 := by omega
  rw [e1, e2, hc ⟨d, hd⟩]

theorem meas_dig (q m : Nat) (cc : UInt8) (acc : List UInt8) (h : 0 < m → q < m) (hq : q ≤ m) (h0 : acc = [] ∨ 0 < m) :
    (Go.RowKit.intOf (.int .i64 (q : Int))).toNat + (if strLen (.string ((⟨#[cc]⟩ : ByteArray) ++ ⟨acc.toArray⟩)) = 0 then 1 else 0) < (Go.RowKit.intOf (.int .i64 (m : Int))).toNat + (if strLen (.string ⟨acc.toArray⟩) = 0 then 1 else 0) := by
  have h1 : strLen (.string ((⟨#[cc]⟩ : ByteArray) ++ ⟨acc.toArray⟩)) = 1 + acc.length := by
    show ((⟨#[cc]⟩ : ByteArray) ++ ⟨acc.toArray⟩).size = _
    rw [ByteArray.size_append]; rfl
  have h2 : strLen (.string ⟨acc.toArray⟩) = acc.length := rfl
  rw [h1, h2, if_neg (by omega)]
  simp only [Go.RowKit.intOf, Int.toNat_natCast]
  rcases h0 with rfl | h0
  · simp; omega
  · have := h h0
    split <;> omega

set_option maxRecDepth 20000 in
set_option maxHeartbeats 2000000 in
theorem digits_nat (n : Nat) (w : World) (hn : n ≤ 9007199254740992) :
    Calls Tryz.prog 37 #[.int .i64 n] w fun e w' => e = .returned (.string ⟨(decDigits n).toArray⟩) ∧ w' = w := by
  obtain ⟨T, hT⟩ : ∃ T, decDigits n = T := ⟨_, rfl⟩
  have hTl : T.length ≤ 20 := by
    rw [← hT, decDigits_length]
    have : ∀ u, u < 18446744073709551616 → nDigits u ≤ 20 := fun u hu => by
      by_cases h0 : u = 0
      · subst h0; rw [nDigits_small (by omega)]; omega
      · have := numDigits_eq u (by omega) hu
        split at this <;> omega
    exact this n (by omega)
  have HTL := Lib.hid hTl
  have HT0 := Lib.hid (show decDigits n ++ [] = T by rw [List.append_nil]; exact hT)
  rw [hT]
  have HTN := Lib.hid (show T ≠ [] by rw [← hT]; exact decDigits_ne n)
  clear hT hTl
  go_enter Tryz.func37, Tryz.ntmps37
  have HTEN := Lib.hid ten_cut
  generalize (⟨#[48, 49, 50, 51, 52, 53, 54, 55, 56, 57]⟩ : ByteArray) = S10 at HTEN ⊢
  go_wp2_with fail
  go_loopw [0, 3] (fun nv sv wr => ∃ (m : Nat) (acc : List UInt8), nv = .int .i64 m ∧ sv = .string ⟨acc.toArray⟩ ∧ m ≤ 9007199254740992 ∧ acc.length ≤ 20 ∧ Hid ((acc ≠ [] ∧ m = 0 ∧ acc = T) ∨ (decDigits m ++ acc = T ∧ (acc = [] ∨ 0 < m))) ∧ wr = w)
    (fun nv sv _ => (Go.RowKit.intOf nv).toNat + (if strLen sv = 0 then 1 else 0))
  case atStart => exact ⟨n, [], rfl, rfl, by omega, by simp, Lib.hid (.inr ⟨HT0.out, .inl rfl⟩), rfl⟩
  case round =>
    obtain ⟨m, acc, rfl, rfl, hm, hal, HI, rfl⟩ := hrel
    have hsz : (⟨acc.toArray⟩ : ByteArray).size = acc.length := rfl
    have hem : (⟨#[]⟩ : ByteArray) = ⟨([] : List UInt8).toArray⟩ := rfl
    by_cases ha : acc = []
    · subst ha
      obtain ⟨dg, hdg⟩ : ∃ k, m % 10 = k := ⟨_, rfl⟩
      obtain ⟨qq, hqq⟩ : ∃ k, m / 10 = k := ⟨_, rfl⟩
      have em : ((m : Int) % 10) = (dg : Int) := by omega
      have ed : ((m : Int) / 10) = (qq : Int) := by omega
      have hd : dg < 10 := by omega
      have hq0 : qq ≤ m := by omega
      have hq1 : 0 < m → qq < m := by omega
      have hten := HTEN.out dg hd
      have hI : decDigits m ++ ([] : List UInt8) = T := HI.out.elim (fun h => absurd rfl h.1) (fun h => h.1)
      have HI2 : Hid ((UInt8.ofNat (48 + dg) :: ([] : List UInt8) ≠ [] ∧ qq = 0 ∧ UInt8.ofNat (48 + dg) :: ([] : List UInt8) = T) ∨ (decDigits qq ++ UInt8.ofNat (48 + dg) :: ([] : List UInt8) = T ∧ (UInt8.ofNat (48 + dg) :: ([] : List UInt8) = [] ∨ 0 < qq))) := Lib.hid (by
        by_cases h10 : m < 10
        · left
          refine ⟨by simp, by omega, ?_⟩
          rw [decDigits_one h10] at hI
          rw [← hI, show dg = m by omega]
          rfl
        · right
          refine ⟨?_, .inr (by omega)⟩
          rw [decDigits, dif_neg h10, hdg, hqq] at hI
          rw [← hI]
          simp)
      have HAB := Lib.hid (app_bytes [UInt8.ofNat (48 + dg)] ([] : List UInt8))
      generalize UInt8.ofNat (48 + dg) = cc at HI2 HAB hten
      have hc1 : (⟨#[cc]⟩ : ByteArray).size = 1 := rfl
      have hlb : (cc :: ([] : List UInt8)).length ≤ 20 := by
        have h1 := HTL.out
        rcases HI2.out with h | h
        · rw [h.2.2]; exact h1
        · have := congrArg List.length h.1
          rw [List.length_append] at this
          omega
      clear hI hdg hqq
      go_wp2_with fail
      go_roundw
      case rel => exact ⟨qq, cc :: ([] : List UInt8), by go_num, congrArg Value.string HAB.out, by omega, hlb, HI2, by first | rfl | trivial⟩
      case measure => exact meas_dig qq m cc [] hq1 hq0 (.inl rfl)
    · have hne : (acc == []) = false := beq_eq_false_iff_ne.2 ha
      by_cases hm0 : 0 < m
      · obtain ⟨dg, hdg⟩ : ∃ k, m % 10 = k := ⟨_, rfl⟩
        obtain ⟨qq, hqq⟩ : ∃ k, m / 10 = k := ⟨_, rfl⟩
        have em : ((m : Int) % 10) = (dg : Int) := by omega
        have ed : ((m : Int) / 10) = (qq : Int) := by omega
        have hd : dg < 10 := by omega
        have hq0 : qq ≤ m := by omega
        have hq1 : 0 < m → qq < m := by omega
        have hten := HTEN.out dg hd
        have hI : decDigits m ++ acc = T := HI.out.elim (fun h => absurd h.2.1 (by omega)) (fun h => h.1)
        have HI2 : Hid ((UInt8.ofNat (48 + dg) :: acc ≠ [] ∧ qq = 0 ∧ UInt8.ofNat (48 + dg) :: acc = T) ∨ (decDigits qq ++ UInt8.ofNat (48 + dg) :: acc = T ∧ (UInt8.ofNat (48 + dg) :: acc = [] ∨ 0 < qq))) := Lib.hid (by
          by_cases h10 : m < 10
          · left
            refine ⟨by simp, by omega, ?_⟩
            rw [decDigits_one h10] at hI
            rw [← hI, show dg = m by omega]
            rfl
          · right
            refine ⟨?_, .inr (by omega)⟩
            rw [decDigits, dif_neg h10, hdg, hqq] at hI
            rw [← hI]
            simp)
        have HAB := Lib.hid (app_bytes [UInt8.ofNat (48 + dg)] acc)
        generalize UInt8.ofNat (48 + dg) = cc at HI2 HAB hten
        have hc1 : (⟨#[cc]⟩ : ByteArray).size = 1 := rfl
        have hlb : (cc :: acc).length ≤ 20 := by
          have h1 := HTL.out
          rcases HI2.out with h | h
          · rw [h.2.2]; exact h1
          · have := congrArg List.length h.1
            rw [List.length_append] at this
            omega
        clear hI hdg hqq
        go_wp2_with fail
        go_roundw
        case rel => exact ⟨qq, cc :: acc, by go_num, congrArg Value.string HAB.out, by omega, hlb, HI2, by first | rfl | trivial⟩
        case measure => exact meas_dig qq m cc acc hq1 hq0 (.inr hm0)
      · have hT : acc = T := HI.out.elim (fun h => h.2.2) (fun h => absurd h.2 (fun h2 => h2.elim ha hm0))
        obtain rfl : m = 0 := by omega
        subst hT
        go_wp2_with fail
        go_ret
        exact ⟨rfl, rfl⟩

theorem dec_len (n : Nat) (hn : n ≤ 9007199254740992) : (decDigits n).length ≤ 20 := by
  rw [decDigits_length]
  by_cases h0 : n = 0
  · subst h0; rw [nDigits_small (by omega)]; omega
  · have := numDigits_eq n (by omega) (by omega)
    split at this <;> omega

set_option maxHeartbeats 1000000 in
theorem digits_any (n : Int) (w : World) (hn : -9007199254740992 ≤ n) (hn2 : n ≤ 9007199254740992) :
    Calls Tryz.prog 37 #[.int .i64 n] w fun e w' => e = .returned (.string ⟨(itoa n).toArray⟩) ∧ w' = w := by
  by_cases h0 : n < 0
  · obtain ⟨m, rfl⟩ : ∃ m : Nat, n = -(m : Int) := ⟨n.natAbs, by omega⟩
    have cI := digits_nat m w (by omega)
    have hl := dec_len m (by omega)
    have hi : itoa (-(m : Int)) = 45 :: decDigits m := by
      unfold itoa
      rw [if_pos h0, show (-(m : Int)).natAbs = m by omega]
    have HAB := Lib.hid (app_bytes [45] (decDigits m))
    rw [hi]
    clear hi
    generalize decDigits m = D at cI hl HAB ⊢
    have hD : (⟨D.toArray⟩ : ByteArray).size = D.length := rfl
    have h1 : (⟨#[45]⟩ : ByteArray).size = 1 := rfl
    go_enter Tryz.func37, Tryz.ntmps37
    go_wp2_with fail
    refine cI.mono ?_
    rintro e w1 ⟨rfl, rfl⟩
    clear cI
    go_wp2_with fail
    go_ret
    exact ⟨congrArg (fun s => Ending.returned (Value.string s)) HAB.out, rfl⟩
  · obtain ⟨m, rfl⟩ : ∃ m : Nat, n = (m : Int) := ⟨n.toNat, by omega⟩
    have hi : itoa (m : Int) = decDigits m := by
      unfold itoa
      rw [if_neg h0]
      rfl
    rw [hi]
    exact digits_nat m w (by omega)

theorem add_run (x y : List UInt8) (h : x.length + y.length ≤ 1000000) : ∀ W, (Op.stringOp .add ⟨x.toArray⟩ ⟨y.toArray⟩).run Tryz.prog W = .ok (.string ⟨(x ++ y).toArray⟩) W := fun W => by
  rw [run_string_add_sum (P := Tryz.prog) (w := W) ⟨x.toArray⟩ ⟨y.toArray⟩ (by show x.length + y.length ≤ _; omega), app_bytes]
theorem two_cut (d : Nat) (hd : d < 2) : ∀ W, (Instr.slice 9 (.string ⟨#[48, 49]⟩) (some (.int .i64 d)) (some (.int .i64 ((d : Int) + 1))) none).run Tryz.prog W = .ok (.string ⟨#[hexd d]⟩) W := fun W => by
  have hs : (⟨#[48, 49]⟩ : ByteArray).size = 2 := rfl
  have hc : ∀ k : Fin 2, (⟨#[48, 49]⟩ : ByteArray).extract k.val (k.val + 1) = ⟨#[hexd k.val]⟩ := by decide +kernel
  rw [run_slice_string W _ _ _ _ _ _ Tryz.underlying9 (by omega) (by omega) (by rw [hs]; omega)]
  have e1 : ((d : Int)).toNat = d := by omega
  have e2 : ((d : Int) + 1).toNat = d + 1 := by omega
  rw [e1, e2, hc ⟨d, hd⟩]
theorem hex_cut (d : Nat) (hd : d < 16) : ∀ W, (Instr.slice 9 (.string ⟨#[48, 49, 50, 51, 52, 53, 54, 55, 56, 57, 97, 98, 99, 100, 101, 102]⟩) (some (.int .i64 d)) (some (.int .i64 ((d : Int) + 1))) none).run Tryz.prog W = .ok (.string ⟨#[hexd d]⟩) W := fun W => by
  have hs : (⟨#[48, 49, 50, 51, 52, 53, 54, 55, 56, 57, 97, 98, 99, 100, 101, 102]⟩ : ByteArray).size = 16 := rfl
  have hc : ∀ k : Fin 16, (⟨#[48, 49, 50, 51, 52, 53, 54, 55, 56, 57, 97, 98, 99, 100, 101, 102]⟩ : ByteArray).extract k.val (k.val + 1) = ⟨#[hexd k.val]⟩ := by decide +kernel
  rw [run_slice_string W _ _ _ _ _ _ Tryz.underlying9 (by omega) (by omega) (by rw [hs]; omega)]
  have e1 : ((d : Int)).toNat = d := by omega
  have e2 : ((d : Int) + 1).toNat = d + 1 := by omega
  rw [e1, e2, hc ⟨d, hd⟩]
theorem ext_one {s : ByteArray} {i : Nat} (h : i < s.size) : s.extract i (i + 1) = ⟨#[s[i]]⟩ := by
  apply ByteArray.ext
  apply Array.ext'
  have h' : i < s.data.toList.length := by simpa using h
  simp only [ByteArray.data_extract, Array.toList_extract, List.extract_eq_take_drop, Nat.add_sub_cancel_left]
  rw [List.drop_eq_getElem_cons h', List.take_succ_cons, List.take_zero]
  rfl
theorem str_cut (s : ByteArray) (i : Nat) (h : i < s.size) : ∀ W, (Instr.slice 9 (.string s) (some (.int .i64 i)) (some (.int .i64 ((i : Int) + 1))) none).run Tryz.prog W = .ok (.string ⟨#[s[i]]⟩) W := fun W => by
  rw [run_slice_string W _ _ _ _ _ _ Tryz.underlying9 (by omega) (by omega) (by omega)]
  have e1 : ((i : Int)).toNat = i := by omega
  have e2 : ((i : Int) + 1).toNat = i + 1 := by omega
  rw [e1, e2, ext_one h]

set_option maxHeartbeats 4000000 in
theorem quoted_s (s : ByteArray) (w : World) (hs : s.size ≤ 400) :
    Calls Tryz.prog 38 #[.string s] w fun e w' => e = .returned (.string ⟨(quoteT s.data.toList).toArray⟩) ∧ Below w.heap.size w w' := by
  obtain ⟨T, hT⟩ : ∃ T, quoteT s.data.toList = T := ⟨_, rfl⟩
  rw [hT]
  have HT := Lib.hid (show 34 :: ([] ++ ((s.data.toList.drop 0).flatMap quoteB) ++ [34]) = T by rw [← hT]; simp [quoteT])
  clear hT
  have HC2 := Lib.hid two_cut
  have HC16 := Lib.hid hex_cut
  go_enter Tryz.func38, Tryz.ntmps38
  generalize (⟨#[48, 49, 50, 51, 52, 53, 54, 55, 56, 57, 97, 98, 99, 100, 101, 102]⟩ : ByteArray) = S16 at HC16 ⊢
  generalize (⟨#[48, 49]⟩ : ByteArray) = S2 at HC2 ⊢
  go_wp2_with fail
  go_loopw [3, 4] (fun ov iv wr => ∃ (i : Nat) (pre : List UInt8), iv = .int .i64 i ∧ ov = .string ⟨pre.toArray⟩ ∧ i ≤ s.size ∧ pre.length ≤ 6 * i ∧ Hid (34 :: (pre ++ ((s.data.toList.drop i).flatMap quoteB) ++ [34]) = T) ∧ ∃ k, wr = w.drewN k) (fun _ iv _ => s.size - (Go.RowKit.intOf iv).toNat)
  case atStart => exact ⟨0, [], rfl, rfl, by omega, by simp, HT, 0, rfl⟩
  case round =>
    obtain ⟨i, pre, rfl, rfl, hi, hpl, HI, k, rfl⟩ := hrel
    have hpz : (⟨pre.toArray⟩ : ByteArray).size = pre.length := rfl
    by_cases hlt : i < s.size
    · have hI := HI.out
      rw [drop_at hlt, List.flatMap_cons] at hI
      by_cases k1 : s[i] < 32
      · have t1 : decide (((s[i]).toNat : Int) < 32) = true := by have := UInt8.lt_iff_toNat_lt.1 k1; simp at this; simp; omega
        have hx : (s[i]).toNat < 32 := by have := UInt8.lt_iff_toNat_lt.1 k1; simpa using this
        rw [quoteB_low k1] at hI
        obtain ⟨d1, hd1⟩ : ∃ d, (s[i]).toNat / 16 = d := ⟨_, rfl⟩
        obtain ⟨d0, hd0⟩ : ∃ d, (s[i]).toNat % 16 = d := ⟨_, rfl⟩
        rw [hd1, hd0] at hI
        have e1 : ((s[i]).toNat : Int) / 16 = (d1 : Int) := by omega
        have e0 : ((s[i]).toNat : Int) % 16 = (d0 : Int) := by omega
        have l1 : d1 < 2 := by omega
        have l0 : d0 < 16 := by omega
        have c2 := HC2.out d1 l1
        have c16 := HC16.out d0 l0
        have HI2 := Lib.hid (show 34 :: ((pre ++ ([92, 117, 48, 48] ++ ([hexd d1] ++ [hexd d0]))) ++ ((s.data.toList.drop (i + 1)).flatMap quoteB) ++ [34]) = T by rw [← hI]; simp)
        have hl2 : (pre ++ ([92, 117, 48, 48] ++ ([hexd d1] ++ [hexd d0]))).length ≤ 6 * (i + 1) := by simp; omega
        clear k1 hI hd1 hd0 HI
        have w1 : IntKind.i64.wrap ((d1 : Int) + 1) = (d1 : Int) + 1 := IntWalk.i64_in _ (by omega)
        have w0 : IntKind.i64.wrap ((d0 : Int) + 1) = (d0 : Int) + 1 := IntWalk.i64_in _ (by omega)
        have v1 : IntKind.i64.wrap (d1 : Int) = (d1 : Int) := IntWalk.i64_in _ (by omega)
        have v0 : IntKind.i64.wrap (d0 : Int) = (d0 : Int) := IntWalk.i64_in _ (by omega)
        obtain ⟨p1, hp1⟩ : ∃ p, pre ++ [92, 117, 48, 48] = p := ⟨_, rfl⟩
        obtain ⟨p2, hp2⟩ : ∃ p, p1 ++ [hexd d1] = p := ⟨_, rfl⟩
        obtain ⟨p3, hp3⟩ : ∃ p, p2 ++ [hexd d0] = p := ⟨_, rfl⟩
        have hp4 : pre ++ ([92, 117, 48, 48] ++ ([hexd d1] ++ [hexd d0])) = p3 := by rw [← hp3, ← hp2, ← hp1]; simp
        have lp1 : p1.length = pre.length + 4 := by rw [← hp1]; simp
        have lp2 : p2.length = p1.length + 1 := by rw [← hp2]; simp
        have r1 := add_run pre [92, 117, 48, 48] (by simp; omega)
        have r2 := add_run p1 [hexd d1] (by simp; omega)
        have r3 := add_run p2 [hexd d0] (by simp; omega)
        rw [hp1] at r1
        rw [hp2] at r2
        rw [hp3] at r3
        rw [hp4] at HI2 hl2
        generalize hexd d1 = x1 at c2 r2
        generalize hexd d0 = x0 at c16 r3
        clear hp1 hp2 hp3 hp4 lp1 lp2
        go_wp2_with fail
        go_quiet (fail)
        go_wp2_with fail
        go_roundw
        case rel => exact ⟨i + 1, p3, by go_num, rfl, by omega, hl2, HI2, k + nq, by simp⟩
        case measure => simp [Go.RowKit.intOf]; omega
      · have t1 : decide (((s[i]).toNat : Int) < 32) = false := by
          have : ¬ (s[i]).toNat < 32 := fun h => k1 (UInt8.lt_iff_toNat_lt.2 (by simpa using h))
          simp; omega
        have hx : ¬ (s[i]).toNat < 32 := fun h => k1 (UInt8.lt_iff_toNat_lt.2 (by simpa using h))
        have hub : (s[i]).toNat < 256 := UInt8.toNat_lt _
        have cS := str_cut s i hlt
        by_cases k2 : s[i] = 34 ∨ s[i] = 92
        · rw [quoteB_esc k1 k2] at hI
          obtain ⟨p1, hp1⟩ : ∃ p, pre ++ [92] = p := ⟨_, rfl⟩
          obtain ⟨p2, hp2⟩ : ∃ p, p1 ++ [s[i]] = p := ⟨_, rfl⟩
          have lp1 : p1.length = pre.length + 1 := by rw [← hp1]; simp
          have lp2 : p2.length = p1.length + 1 := by rw [← hp2]; simp
          have HI2 := Lib.hid (show 34 :: (p2 ++ ((s.data.toList.drop (i + 1)).flatMap quoteB) ++ [34]) = T by rw [← hI, ← hp2, ← hp1]; simp)
          have r1 := add_run pre [92] (by simp; omega)
          have r2 := add_run p1 [s[i]] (by simp; omega)
          rw [hp1] at r1
          rw [hp2] at r2
          have hl2 : p2.length ≤ 6 * (i + 1) := by omega
          by_cases k3 : s[i] = 34
          · have t2 : (((s[i]).toNat : Int) == 34) = true := u8_eq k3
            clear k1 k2 hI k3 hp1 hp2 lp1 lp2 HI
            go_wp2_with fail
            go_roundw
            case rel => exact ⟨i + 1, p2, by go_num, rfl, by omega, hl2, HI2, k, rfl⟩
            case measure => simp [Go.RowKit.intOf]; omega
          · have t2 : (((s[i]).toNat : Int) == 34) = false := u8_ne k3
            have t3 : (((s[i]).toNat : Int) == 92) = true := u8_eq (k2.resolve_left k3)
            clear k1 k2 hI k3 hp1 hp2 lp1 lp2 HI
            go_wp2_with fail
            go_roundw
            case rel => exact ⟨i + 1, p2, by go_num, rfl, by omega, hl2, HI2, k, rfl⟩
            case measure => simp [Go.RowKit.intOf]; omega
        · rw [quoteB_one k1 k2] at hI
          have t2 : (((s[i]).toNat : Int) == 34) = false := u8_ne (fun h => k2 (.inl h))
          have t3 : (((s[i]).toNat : Int) == 92) = false := u8_ne (fun h => k2 (.inr h))
          obtain ⟨p2, hp2⟩ : ∃ p, pre ++ [s[i]] = p := ⟨_, rfl⟩
          have lp2 : p2.length = pre.length + 1 := by rw [← hp2]; simp
          have HI2 := Lib.hid (show 34 :: (p2 ++ ((s.data.toList.drop (i + 1)).flatMap quoteB) ++ [34]) = T by rw [← hI, ← hp2]; simp)
          have r2 := add_run pre [s[i]] (by simp; omega)
          rw [hp2] at r2
          have hl2 : p2.length ≤ 6 * (i + 1) := by omega
          clear k1 k2 hI hp2 lp2 HI
          go_wp2_with fail
          go_roundw
          case rel => exact ⟨i + 1, p2, by go_num, rfl, by omega, hl2, HI2, k, rfl⟩
          case measure => simp [Go.RowKit.intOf]; omega
    · have hdr : s.data.toList.drop i = [] := List.drop_eq_nil_of_le (by simp; omega)
      have hI := HI.out
      rw [hdr] at hI
      obtain ⟨p1, hp1⟩ : ∃ p, [34] ++ pre = p := ⟨_, rfl⟩
      obtain ⟨p2, hp2⟩ : ∃ p, p1 ++ [34] = p := ⟨_, rfl⟩
      have hT2 : p2 = T := by rw [← hI, ← hp2, ← hp1]; simp
      have lp1 : p1.length = pre.length + 1 := by rw [← hp1]; simp
      have r1 := add_run [34] pre (by simp; omega)
      have r2 := add_run p1 [34] (by simp; omega)
      rw [hp1] at r1
      rw [hp2, hT2] at r2
      clear hdr hI hp1 hp2 hT2 HI lp1
      go_wp2_with fail
      go_ret
      exact ⟨rfl, below_draws w k _ rfl⟩
theorem rquoted_any (t : List UInt8) (w : World) (ht : t.length ≤ 400) :
    Calls Tryz.prog 38 #[.string ⟨t.toArray⟩] w fun e w' => e = .returned (.string ⟨(quoteT t).toArray⟩) ∧ Below w.heap.size w w' := quoted_s ⟨t.toArray⟩ w ht
end Go.Proofs.YtfjdeacpdcnjpaaGreatDoor.V

namespace Go.Proofs.YtfjdeacpdcnjpaaGreatDoor.V
open Go.RowKit
open Go.Lib

/-- The contract of the document's text at a right value. -/
def TextC (v : Val) : Prop := ∀ (lv kv : Value) (R : Nat → Prop) (w : World), ValIn w R v lv kv → rightP v = true → wt v ≤ 400 →
  Calls Tryz.prog 19 #[arg v lv kv] w fun e w' => e = .returned (.string ⟨(write v).toArray⟩) ∧ Below w.heap.size w w'

theorem len_pre {a b c : List UInt8} (h : a ++ b = c) : a.length + b.length = c.length := by rw [← h, List.length_append]

set_option maxHeartbeats 8000000 in
theorem text_list (on : Bool) (n : Int) (t : List UInt8) (l : List Val) (ks : List (List UInt8)) (IH : ∀ v ∈ l, TextC v) (lv kv : Value) (R : Nat → Prop) (w : World) (hv : ValIn w R (.mk 4 on n t l ks) lv kv) (hr : rightP (.mk 4 on n t l ks) = true) (hw : wt (.mk 4 on n t l ks) ≤ 400) :
    Calls Tryz.prog 19 #[arg (.mk 4 on n t l ks) lv kv] w fun e w' => e = .returned (.string ⟨(write (.mk 4 on n t l ks)).toArray⟩) ∧ Below w.heap.size w w' := by
  have hv' := hv
  obtain ⟨⟨a1, c1, rfl, hl⟩, ⟨a2, c2, rfl, hk⟩⟩ := hv'
  have hwr := write_le _ hr
  have hwe : write (.mk 4 on n t l ks) = 91 :: (writeL l ++ [93]) := by simp [write]
  rw [hwe] at hwr ⊢
  simp only [List.length_cons, List.length_append, List.length_nil] at hwr
  rw [rightP_parts] at hr
  simp only [Bool.and_eq_true] at hr
  obtain ⟨_, hshape, _, hrl⟩ := hr
  have HL := Lib.hid hl
  have HK := Lib.hid (texts_of ⟨a2, c2, rfl, hk⟩)
  have HIH := Lib.hid IH
  have hw2 := hw
  simp only [wt] at hw2
  have hwl : wtL l ≤ 400 := by omega
  have hks : (ks.map fun k => k.length + 1).sum ≤ 400 := by omega
  have HWM := Lib.hid (fun v (h : v ∈ l) => Nat.le_trans (wtL_mem h) hwl)
  have HKM := Lib.hid (fun k (h : k ∈ ks) => Nat.le_trans (sum_mem h) hks)
  have HRM := Lib.hid (fun v (h : v ∈ l) => rightPs_mem hrl h)
  have hlb : l.length ≤ 400 := Nat.le_trans (wtL_length l) hwl
  obtain ⟨T, hT⟩ : ∃ T, writeL l = T := ⟨_, rfl⟩
  have HT := Lib.hid (show [] ++ restL 0 l = T by rw [← hT]; rfl)
  rw [hT] at hwr ⊢
  have hTl : T.length ≤ 16000 := by omega
  obtain ⟨ln, hln⟩ : ∃ k, l.length = k := ⟨_, rfl⟩
  obtain ⟨kn, hkn⟩ : ∃ k, ks.length = k := ⟨_, rfl⟩
  have HLN := Lib.hid hln
  simp only [arg, six', six, strCell]
  rw [hln, hkn]
  rw [hln] at hlb
  clear hv hl hk IH hw hw2 hwl hks hT hwr hwe hshape hrl hln hkn
  go_enter Tryz.func19, Tryz.ntmps19
  go_wp2_with fail
  obtain ⟨w1, hw1⟩ : ∃ w1, w.alloc (.cells #[.int .i64 4, .bool on, .int .i64 n, .string ⟨t.toArray⟩, .slice a1 ln c1, .slice a2 kn c2] 26) = w1 := ⟨_, rfl⟩
  rw [hw1]
  have hq1 : w1.heap[w.heap.size]? = some (.cells #[.int .i64 4, .bool on, .int .i64 n, .string ⟨t.toArray⟩, .slice a1 ln c1, .slice a2 kn c2] 26 (0, 0)) := by rw [← hw1]; exact heap_alloc_new w _
  have hb1 : Below w.heap.size w w1 := by rw [← hw1]; exact (Below.refl _ _).alloc (Nat.le_refl _) _
  have hz1 : w.heap.size < w1.heap.size := by rw [← hw1]; simp
  have HQ1 := Lib.hid hq1
  have HB1 := Lib.hid hb1
  clear hq1 hb1 hw1
  go_loopw [3, 4] (fun sv iv wr => ∃ (i : Nat) (pre : List UInt8), iv = .int .i64 i ∧ sv = .string ⟨pre.toArray⟩ ∧ i ≤ ln ∧ Hid (pre ++ restL i l = T) ∧ Hid (Below w1.heap.size w1 wr)) (fun _ iv _ => ln - (Go.RowKit.intOf iv).toNat)
  case atStart => exact ⟨0, [], rfl, rfl, by omega, HT, Lib.hid (Below.refl _ _)⟩
  case round =>
    obtain ⟨i, pre, rfl, rfl, hi, HI, HB⟩ := hrel
    obtain ⟨⟨k0, k1, k2, k3, k4, k5⟩, kf⟩ := cells_six ((HB.out.block w.heap.size hz1).trans HQ1.out)
    have hzr := HB.out.size
    have hbw := HB1.out.trans (HB.out.mono HB1.out.size)
    by_cases hlt : i < ln
    · have hll : i < l.length := by rw [HLN.out]; exact hlt
      have hI := HI.out
      rw [restL_at hll] at hI
      obtain ⟨g, off, xs, rfl, hg, hc, hL⟩ := HL.out.resolve_left (fun h => by rw [h] at hll; exact Nat.not_lt_zero _ hll)
      have hsm : Same R w wr := fun b _ hb => hbw.block b hb
      obtain ⟨so', on', n', t', l', ks', a1', c1', a2', c2', he, hv', j0, j1, j2, j3, j4, j5⟩ := part_at i (ListIn.later hsm (fun _ h => h) l xs hL) (hc.later hg hsm) hll
      have cP := fun W' (hb' : Below wr.heap.size wr W') => (HIH.out l[i] (List.getElem_mem hll)) (.slice a1' l'.length c1') (.slice a2' ks'.length c2') R W' (by rw [he]; exact ValIn.later (fun b _ hb => hb'.block b hb) (fun _ h => h) _ _ _ hv') (HRM.out _ (List.getElem_mem hll)) (HWM.out _ (List.getElem_mem hll))
      rw [he] at hI
      simp only [he] at cP
      simp only [arg, six', six, strCell] at cP
      obtain ⟨X, hX⟩ : ∃ z, write (.mk so' on' n' t' l' ks') = z := ⟨_, rfl⟩
      rw [hX] at hI
      simp only [hX] at cP
      obtain ⟨p1, hp1⟩ : ∃ p, pre ++ sepL i = p := ⟨_, rfl⟩
      obtain ⟨p4, hp4⟩ : ∃ p, p1 ++ X = p := ⟨_, rfl⟩
      have hI4 : p4 ++ restL (i + 1) l = T := by rw [← hI, ← hp4, ← hp1]; simp
      have HI4 := Lib.hid hI4
      have n4 := len_pre hI4
      have n3 := len_pre hp4
      have n0 := len_pre hp1
      have r4 := add_run p1 X (by omega)
      rw [hp4] at r4
      clear hI hI4 hp4 hsm hL hc he hv' hX HI
      by_cases hi0 : i = 0
      · have hp0 : p1 = pre := by rw [← hp1, hi0]; simp [sepL]
        have q0 : decide (0 < i) = false := decide_eq_false (by omega)
        subst hp0
        clear hp1 n0 hi0
        go_wp2_with fail
        refine (cP _ (Below.refl _ _)).mono ?_
        rintro e w3 ⟨rfl, hb3⟩
        have HB3 := Lib.hid (HB.out.trans (hb3.mono hzr))
        clear cP hb3 k0 k1 k2 k3 k4 k5 kf j0 j1 j2 j3 j4 j5
        go_wp2_with fail
        go_roundw
        case rel => exact ⟨i + 1, p4, by go_num, rfl, by omega, HI4, HB3⟩
        case measure => simp [Go.RowKit.intOf]; omega
      · have hp0 : pre ++ [44] = p1 := by rw [← hp1]; simp [sepL, hi0]
        have r1 := add_run pre [44] (by simp; omega)
        rw [hp0] at r1
        have q0 : 0 < i := by omega
        clear hp1 hp0 hi0
        go_wp2_with fail
        refine (cP _ (Below.refl _ _)).mono ?_
        rintro e w3 ⟨rfl, hb3⟩
        have HB3 := Lib.hid (HB.out.trans (hb3.mono hzr))
        clear cP hb3 k0 k1 k2 k3 k4 k5 kf j0 j1 j2 j3 j4 j5
        go_wp2_with fail
        go_roundw
        case rel => exact ⟨i + 1, p4, by go_num, rfl, by omega, HI4, HB3⟩
        case measure => simp [Go.RowKit.intOf]; omega
    · have hI := HI.out
      rw [show i = l.length by rw [HLN.out]; omega, restL_end, List.append_nil] at hI
      subst hI
      have r1 := add_run [91] pre (by simp; omega)
      have r2 := add_run ([91] ++ pre) [93] (by simp; omega)
      have hq : [91] ++ pre ++ [93] = 91 :: (pre ++ [93]) := by simp
      rw [hq] at r2
      generalize [91] ++ pre = p1 at r1 r2
      have HE := Lib.hid hbw
      clear hq hbw HI
      go_wp2_with fail
      go_ret
      exact ⟨rfl, HE.out⟩

set_option maxHeartbeats 8000000 in
theorem text_rec (on : Bool) (n : Int) (t : List UInt8) (l : List Val) (ks : List (List UInt8)) (IH : ∀ v ∈ l, TextC v) (lv kv : Value) (R : Nat → Prop) (w : World) (hv : ValIn w R (.mk 5 on n t l ks) lv kv) (hr : rightP (.mk 5 on n t l ks) = true) (hw : wt (.mk 5 on n t l ks) ≤ 400) :
    Calls Tryz.prog 19 #[arg (.mk 5 on n t l ks) lv kv] w fun e w' => e = .returned (.string ⟨(write (.mk 5 on n t l ks)).toArray⟩) ∧ Below w.heap.size w w' := by
  have hv' := hv
  obtain ⟨⟨a1, c1, rfl, hl⟩, ⟨a2, c2, rfl, hk⟩⟩ := hv'
  have hwr := write_le _ hr
  have hwe : write (.mk 5 on n t l ks) = 123 :: (writeR ks l ++ [125]) := by simp [write]
  rw [hwe] at hwr ⊢
  simp only [List.length_cons, List.length_append, List.length_nil] at hwr
  rw [rightP_parts] at hr
  simp only [Bool.and_eq_true] at hr
  obtain ⟨_, hshape, _, hrl⟩ := hr
  have hkl : ks.length = l.length := by simp [shapeP] at hshape; exact hshape.2
  have HL := Lib.hid hl
  have HK := Lib.hid (texts_of ⟨a2, c2, rfl, hk⟩)
  have HIH := Lib.hid IH
  have hw2 := hw
  simp only [wt] at hw2
  have hwl : wtL l ≤ 400 := by omega
  have hks : (ks.map fun k => k.length + 1).sum ≤ 400 := by omega
  have HWM := Lib.hid (fun v (h : v ∈ l) => Nat.le_trans (wtL_mem h) hwl)
  have HKM := Lib.hid (fun k (h : k ∈ ks) => Nat.le_trans (sum_mem h) hks)
  have HRM := Lib.hid (fun v (h : v ∈ l) => rightPs_mem hrl h)
  have hlb : l.length ≤ 400 := Nat.le_trans (wtL_length l) hwl
  obtain ⟨T, hT⟩ : ∃ T, writeR ks l = T := ⟨_, rfl⟩
  have HT := Lib.hid (show [] ++ restR 0 ks l = T by rw [← hT]; rfl)
  rw [hT] at hwr ⊢
  have hTl : T.length ≤ 16000 := by omega
  obtain ⟨ln, hln⟩ : ∃ k, l.length = k := ⟨_, rfl⟩
  have HLN := Lib.hid hln
  have HKL := Lib.hid hkl
  simp only [arg, six', six, strCell]
  rw [hkl, hln]
  rw [hln] at hlb
  clear hv hl hk IH hw hw2 hwl hks hT hwr hwe hshape hrl hln hkl
  go_enter Tryz.func19, Tryz.ntmps19
  go_wp2_with fail
  obtain ⟨w1, hw1⟩ : ∃ w1, w.alloc (.cells #[.int .i64 5, .bool on, .int .i64 n, .string ⟨t.toArray⟩, .slice a1 ln c1, .slice a2 ln c2] 26) = w1 := ⟨_, rfl⟩
  rw [hw1]
  have hq1 : w1.heap[w.heap.size]? = some (.cells #[.int .i64 5, .bool on, .int .i64 n, .string ⟨t.toArray⟩, .slice a1 ln c1, .slice a2 ln c2] 26 (0, 0)) := by rw [← hw1]; exact heap_alloc_new w _
  have hb1 : Below w.heap.size w w1 := by rw [← hw1]; exact (Below.refl _ _).alloc (Nat.le_refl _) _
  have hz1 : w.heap.size < w1.heap.size := by rw [← hw1]; simp
  have HQ1 := Lib.hid hq1
  have HB1 := Lib.hid hb1
  clear hq1 hb1 hw1
  go_loopw [3, 4] (fun sv iv wr => ∃ (i : Nat) (pre : List UInt8), iv = .int .i64 i ∧ sv = .string ⟨pre.toArray⟩ ∧ i ≤ ln ∧ Hid (pre ++ restR i ks l = T) ∧ Hid (Below w1.heap.size w1 wr)) (fun _ iv _ => ln - (Go.RowKit.intOf iv).toNat)
  case atStart => exact ⟨0, [], rfl, rfl, by omega, HT, Lib.hid (Below.refl _ _)⟩
  case round =>
    obtain ⟨i, pre, rfl, rfl, hi, HI, HB⟩ := hrel
    obtain ⟨⟨k0, k1, k2, k3, k4, k5⟩, kf⟩ := cells_six ((HB.out.block w.heap.size hz1).trans HQ1.out)
    have hzr := HB.out.size
    have hbw := HB1.out.trans (HB.out.mono HB1.out.size)
    by_cases hlt : i < ln
    · have hll : i < l.length := by rw [HLN.out]; exact hlt
      have hkk : i < ks.length := by rw [HKL.out]; exact hll
      have hI := HI.out
      rw [restR_at hll hkk] at hI
      obtain ⟨g, off, xs, rfl, hg, hc, hL⟩ := HL.out.resolve_left (fun h => by rw [h] at hll; exact Nat.not_lt_zero _ hll)
      have hsm : Same R w wr := fun b _ hb => hbw.block b hb
      obtain ⟨so', on', n', t', l', ks', a1', c1', a2', c2', he, hv', j0, j1, j2, j3, j4, j5⟩ := part_at i (ListIn.later hsm (fun _ h => h) l xs hL) (hc.later hg hsm) hll
      have cP := fun W' (hb' : Below wr.heap.size wr W') => (HIH.out l[i] (List.getElem_mem hll)) (.slice a1' l'.length c1') (.slice a2' ks'.length c2') R W' (by rw [he]; exact ValIn.later (fun b _ hb => hb'.block b hb) (fun _ h => h) _ _ _ hv') (HRM.out _ (List.getElem_mem hll)) (HWM.out _ (List.getElem_mem hll))
      rw [he] at hI
      simp only [he] at cP
      simp only [arg, six', six, strCell] at cP
      obtain ⟨X, hX⟩ : ∃ z, write (.mk so' on' n' t' l' ks') = z := ⟨_, rfl⟩
      rw [hX] at hI
      simp only [hX] at cP
      obtain ⟨p1, hp1⟩ : ∃ p, pre ++ sepL i = p := ⟨_, rfl⟩
      obtain ⟨kg, ko, rfl, hkc⟩ := HK.out.resolve_left (fun h => by rw [h] at hkk; exact Nat.not_lt_zero _ hkk)
      have hkx := hkc i hkk
      have hki := (hbw.cell (p := ⟨kg, ko + i, none⟩) (Lib.lt_of_cell hkx)).trans hkx
      have hxl := HKM.out ks[i] (List.getElem_mem hkk)
      clear hkc hkx
      generalize ks[i] = x at hI hki hxl
      have cK := fun W => rquoted_any x W hxl
      obtain ⟨Q, hQ⟩ : ∃ z, quoteT x = z := ⟨_, rfl⟩
      rw [hQ] at hI cK
      obtain ⟨p2, hp2⟩ : ∃ p, p1 ++ Q = p := ⟨_, rfl⟩
      obtain ⟨p3, hp3⟩ : ∃ p, p2 ++ [58] = p := ⟨_, rfl⟩
      obtain ⟨p4, hp4⟩ : ∃ p, p3 ++ X = p := ⟨_, rfl⟩
      have hI4 : p4 ++ restR (i + 1) ks l = T := by rw [← hI, ← hp4, ← hp3, ← hp2, ← hp1]; simp
      have HI4 := Lib.hid hI4
      have n4 := len_pre hI4
      have n3 := len_pre hp4
      have n2 := len_pre hp3
      have n1 := len_pre hp2
      have n0 := len_pre hp1
      simp only [List.length_cons, List.length_nil] at n2
      have r2 := add_run p1 Q (by omega)
      have r3 := add_run p2 [58] (by simp; omega)
      have r4 := add_run p3 X (by omega)
      rw [hp2] at r2
      rw [hp3] at r3
      rw [hp4] at r4
      have hs2 : (⟨Q.toArray⟩ : ByteArray).size = Q.length := rfl
      clear hI hI4 hp2 hp3 hp4 hsm hL hc he hv' hX hQ HI
      by_cases hi0 : i = 0
      · have hp0 : p1 = pre := by rw [← hp1, hi0]; simp [sepL]
        have q0 : decide (0 < i) = false := decide_eq_false (by omega)
        subst hp0
        clear hp1 n0 hi0
        go_wp2_with fail
        refine (cK _).mono ?_
        rintro e w2 ⟨rfl, hb2⟩
        have hc0 := fun (p : Addr) (hp : p.block < wr.heap.size) => hb2.cell (p := p) hp
        have hj : g < wr.heap.size := Lib.lt_of_cell j0
        replace j0 := (hc0 _ hj).trans j0
        replace j1 := (hc0 _ hj).trans j1
        replace j2 := (hc0 _ hj).trans j2
        replace j3 := (hc0 _ hj).trans j3
        replace j4 := (hc0 _ hj).trans j4
        replace j5 := (hc0 _ hj).trans j5
        obtain ⟨⟨k0, k1, k2, k3, k4, k5⟩, kf⟩ := cells_six ((hb2.block w.heap.size (by omega)).trans ((HB.out.block w.heap.size hz1).trans HQ1.out))
        have HB2 := Lib.hid hb2
        clear cK hb2 hc0 hj
        go_wp2_with fail
        refine (cP _ HB2.out).mono ?_
        rintro e w3 ⟨rfl, hb3⟩
        have HB3 := Lib.hid (HB.out.trans ((HB2.out.trans (hb3.mono HB2.out.size)).mono hzr))
        clear cP hb3 k0 k1 k2 k3 k4 k5 kf j0 j1 j2 j3 j4 j5
        go_wp2_with fail
        go_roundw
        case rel => exact ⟨i + 1, p4, by go_num, rfl, by omega, HI4, HB3⟩
        case measure => simp [Go.RowKit.intOf]; omega
      · have hp0 : pre ++ [44] = p1 := by rw [← hp1]; simp [sepL, hi0]
        have r1 := add_run pre [44] (by simp; omega)
        rw [hp0] at r1
        have q0 : 0 < i := by omega
        clear hp1 hp0 hi0
        go_wp2_with fail
        refine (cK _).mono ?_
        rintro e w2 ⟨rfl, hb2⟩
        have hc0 := fun (p : Addr) (hp : p.block < wr.heap.size) => hb2.cell (p := p) hp
        have hj : g < wr.heap.size := Lib.lt_of_cell j0
        replace j0 := (hc0 _ hj).trans j0
        replace j1 := (hc0 _ hj).trans j1
        replace j2 := (hc0 _ hj).trans j2
        replace j3 := (hc0 _ hj).trans j3
        replace j4 := (hc0 _ hj).trans j4
        replace j5 := (hc0 _ hj).trans j5
        obtain ⟨⟨k0, k1, k2, k3, k4, k5⟩, kf⟩ := cells_six ((hb2.block w.heap.size (by omega)).trans ((HB.out.block w.heap.size hz1).trans HQ1.out))
        have HB2 := Lib.hid hb2
        clear cK hb2 hc0 hj
        go_wp2_with fail
        refine (cP _ HB2.out).mono ?_
        rintro e w3 ⟨rfl, hb3⟩
        have HB3 := Lib.hid (HB.out.trans ((HB2.out.trans (hb3.mono HB2.out.size)).mono hzr))
        clear cP hb3 k0 k1 k2 k3 k4 k5 kf j0 j1 j2 j3 j4 j5
        go_wp2_with fail
        go_roundw
        case rel => exact ⟨i + 1, p4, by go_num, rfl, by omega, HI4, HB3⟩
        case measure => simp [Go.RowKit.intOf]; omega
    · have hI := HI.out
      rw [show i = l.length by rw [HLN.out]; omega, restR_end, List.append_nil] at hI
      subst hI
      have r1 := add_run [123] pre (by simp; omega)
      have r2 := add_run ([123] ++ pre) [125] (by simp; omega)
      have hq : [123] ++ pre ++ [125] = 123 :: (pre ++ [125]) := by simp
      rw [hq] at r2
      generalize [123] ++ pre = p1 at r1 r2
      have HE := Lib.hid hbw
      clear hq hbw HI
      go_wp2_with fail
      go_ret
      exact ⟨rfl, HE.out⟩

set_option maxHeartbeats 4000000 in
theorem text_v : ∀ v, TextC v := Val.ind fun so on n t l ks IH lv kv R w hv hr hw => by
  by_cases h4 : so = 4
  · subst h4; exact text_list on n t l ks IH lv kv R w hv hr hw
  by_cases h5 : so = 5
  · subst h5; exact text_rec on n t l ks IH lv kv R w hv hr hw
  have hv' := hv
  obtain ⟨⟨a1, c1, rfl, hl⟩, ⟨a2, c2, rfl, hk⟩⟩ := hv'
  rw [rightP_parts] at hr
  simp only [Bool.and_eq_true] at hr
  obtain ⟨_, hshape, _, _⟩ := hr
  simp only [shapeP, Bool.not_eq_true', Bool.or_eq_false_iff, decide_eq_false_iff_not] at hshape
  have hn1 : -9007199254740992 ≤ n := by omega
  have hn2 : n ≤ 9007199254740992 := by omega
  have hso : so = 0 ∨ so = 1 ∨ so = 2 ∨ so = 3 := by omega
  have hw2 := hw
  simp only [wt] at hw2
  have htl : t.length ≤ 400 := by omega
  simp only [arg, six', six, strCell]
  clear hv hl hk IH hw hw2 hshape h4 h5
  have HB := Lib.hid ((Below.refl w.heap.size w).alloc (Nat.le_refl _) (.cells #[.int .i64 so, .bool on, .int .i64 n, .string ⟨t.toArray⟩, .slice a1 l.length c1, .slice a2 ks.length c2] 26))
  rcases hso with rfl | rfl | rfl | rfl
  · have hwe : write (.mk 0 on n t l ks) = [110, 117, 108, 108] := by simp [write]
    rw [hwe]
    clear hwe hn1 hn2
    go_enter Tryz.func19, Tryz.ntmps19
    go_wp2_with fail
    go_ret
    exact ⟨rfl, HB.out⟩
  · have hwe : write (.mk 1 on n t l ks) = if on then [116, 114, 117, 101] else [102, 97, 108, 115, 101] := by simp [write]
    rw [hwe]
    clear hwe hn1 hn2
    cases on
    all_goals
      go_enter Tryz.func19, Tryz.ntmps19
      go_wp2_with fail
      go_ret
      exact ⟨rfl, HB.out⟩
  · have hwe : write (.mk 2 on n t l ks) = itoa n := by simp [write]
    have cD := fun W => digits_any n W hn1 hn2
    rw [hwe]
    clear hwe hn1 hn2
    generalize itoa n = D at cD ⊢
    go_enter Tryz.func19, Tryz.ntmps19
    go_wp2_with fail
    refine (cD _).mono ?_
    rintro e w2 ⟨rfl, rfl⟩
    clear cD
    go_wp2_with fail
    go_ret
    exact ⟨rfl, HB.out⟩
  · have hwe : write (.mk 3 on n t l ks) = quoteT t := by simp [write]
    have cD := fun W => rquoted_any t W htl
    rw [hwe]
    clear hwe hn1 hn2
    generalize quoteT t = D at cD ⊢
    go_enter Tryz.func19, Tryz.ntmps19
    go_wp2_with fail
    refine (cD _).mono ?_
    rintro e w2 ⟨rfl, hb2⟩
    clear cD
    go_wp2_with fail
    go_ret
    exact ⟨rfl, HB.out.trans (hb2.mono (by simp))⟩

set_option maxHeartbeats 2000000 in
theorem right_ref (v : Val) (lv kv : Value) (R : Nat → Prop) (w : World) (hv : ValIn w R v lv kv) (hw : wt v ≤ 400) :
    Calls Tryz.prog 14 #[arg v lv kv] w fun e w' => e = .returned (.bool (rightTop v)) ∧ Below w.heap.size w w' := by
  have cF := fun W (hb : Below w.heap.size w W) => formed_v v lv kv R W (val_below hv hb) hw
  have cD := fun W (hb : Below w.heap.size w W) => deep_v v lv kv R W (val_below hv hb) (by omega)
  rw [rightTop_deep]
  have hd := deep_wt v
  obtain ⟨so, on, n, t, l, ks⟩ := v
  obtain ⟨⟨a1, c1, rfl, _⟩, ⟨a2, c2, rfl, _⟩⟩ := hv
  generalize rightP (.mk so on n t l ks) = b1 at cF ⊢
  generalize deepV (.mk so on n t l ks) = d at cD hd ⊢
  have hdb : d ≤ 400 := by omega
  simp only [arg, six', six, strCell] at cF cD ⊢
  have CD := Lib.hid cD
  clear hd hw cD
  go_enter Tryz.func14, Tryz.ntmps14
  go_wp2_with fail
  refine (cF _ ((Below.refl _ _).alloc (Nat.le_refl _) _)).mono ?_
  rintro e w1 ⟨rfl, hb1⟩
  have HB1 := Lib.hid (((Below.refl w.heap.size w).alloc (Nat.le_refl _) _).trans (hb1.mono (by simp)))
  obtain ⟨⟨k0, k1, k2, k3, k4, k5⟩, kf⟩ := cells_six ((hb1.block w.heap.size (by simp)).trans (heap_alloc_new w _))
  clear cF hb1
  cases b1 with
  | false =>
    go_wp2_with fail
    go_ret
    exact ⟨rfl, HB1.out⟩
  | true =>
    go_wp2_with fail
    refine (CD.out _ HB1.out).mono ?_
    rintro e w2 ⟨rfl, hb2⟩
    have HB2 := Lib.hid (HB1.out.trans (hb2.mono HB1.out.size))
    clear hb2 k0 k1 k2 k3 k4 k5 kf
    go_wp2_with fail
    go_ret
    exact ⟨by simp; try omega, HB2.out⟩

/-- What Write answers: the text, and the error. -/
def outS (v : Val) : ByteArray := if rightTop v then ⟨(write v).toArray⟩ else ⟨#[]⟩
def outE (v : Val) : Int := if rightTop v then 0 else 21

set_option maxHeartbeats 2000000 in
theorem write_ref (v : Val) (lv kv : Value) (R : Nat → Prop) (w : World) (hv : ValIn w R v lv kv) (hw : wt v ≤ 400) :
    Calls Tryz.prog 8 #[arg v lv kv] w fun e w' => e = .returned (.tuple #[.string (outS v), .int .i64 (outE v)]) ∧ Below w.heap.size w w' := by
  have cF := fun W (hb : Below w.heap.size w W) => right_ref v lv kv R W (val_below hv hb) hw
  have cT := fun W (hb : Below w.heap.size w W) (h : rightTop v = true) => text_v v lv kv R W (val_below hv hb) (by simp only [rightTop, Bool.and_eq_true] at h; exact h.2) hw
  unfold outS outE
  obtain ⟨so, on, n, t, l, ks⟩ := v
  obtain ⟨⟨a1, c1, rfl, _⟩, ⟨a2, c2, rfl, _⟩⟩ := hv
  generalize rightTop (.mk so on n t l ks) = b1 at cF cT ⊢
  generalize write (.mk so on n t l ks) = X at cT ⊢
  simp only [arg, six', six, strCell] at cF cT ⊢
  have CT := Lib.hid cT
  clear hw cT
  go_enter Tryz.func8, Tryz.ntmps8
  go_wp2_with fail
  refine (cF _ ((Below.refl _ _).alloc (Nat.le_refl _) _)).mono ?_
  rintro e w1 ⟨rfl, hb1⟩
  have HB1 := Lib.hid (((Below.refl w.heap.size w).alloc (Nat.le_refl _) _).trans (hb1.mono (by simp)))
  obtain ⟨⟨k0, k1, k2, k3, k4, k5⟩, kf⟩ := cells_six ((hb1.block w.heap.size (by simp)).trans (heap_alloc_new w _))
  clear cF hb1
  cases b1 with
  | false =>
    go_wp2_with fail
    go_ret2
    exact ⟨rfl, HB1.out⟩
  | true =>
    go_wp2_with fail
    refine (CT.out _ HB1.out (by first | trivial | rfl)).mono ?_
    rintro e w2 ⟨rfl, hb2⟩
    have HB2 := Lib.hid (HB1.out.trans (hb2.mono HB1.out.size))
    clear hb2 k0 k1 k2 k3 k4 k5 kf
    go_wp2_with fail
    go_ret2
    exact ⟨rfl, HB2.out⟩
end Go.Proofs.YtfjdeacpdcnjpaaGreatDoor.V

namespace Go.Proofs.YtfjdeacpdcnjpaaGreatDoor.V
open Go.RowKit
open Go.Lib
attribute [local go_sem ↓] Go.wp_at_zero Go.wp_at_succ

/-- The contract of the document's Same at a value. -/
def RSameC (v : Val) : Prop := ∀ (v' : Val) (lv kv lv' kv' : Value) (R R' : Nat → Prop) (w : World), ValIn w R v lv kv → ValIn w R' v' lv' kv' → wt v ≤ 1099511627776 → wt v' ≤ 1099511627776 →
  Calls Tryz.prog 11 #[arg v lv kv, arg v' lv' kv'] w fun e w' => e = .returned (.bool (sameP v v')) ∧ Below w.heap.size w w'

theorem sameP_false {so so' : Int} {on on' : Bool} {n n' : Int} {t t' : List UInt8} {l l' : List Val} {ks ks' : List (List UInt8)} (h : ¬ (ks = ks' ∧ so = so' ∧ on = on' ∧ n = n' ∧ t = t' ∧ l.length = l'.length)) :
    sameP (.mk so on n t l ks) (.mk so' on' n' t' l' ks') = false := by
  rw [Bool.eq_false_iff]
  intro h2
  have := (sameP_iff _ _).1 h2
  injection this with h1 h2 h3 h4 h5 h6
  exact h ⟨h6, h1, h2, h3, h4, by rw [h5]⟩

set_option maxRecDepth 20000 in
set_option maxHeartbeats 8000000 in
theorem rsame_v : ∀ v, RSameC v := Val.ind fun so on n t l ks IH => fun
  | .mk so' on' n' t' l' ks', lv, kv, lv', kv', R, R', w, hv, hv', hw, hw' => by
    have hW : ∀ {X : World}, Below w.heap.size w X → ValIn X R (.mk so on n t l ks) lv kv ∧ ValIn X R' (.mk so' on' n' t' l' ks') lv' kv' := fun hb => ⟨hv.later (fun b _ hlt => hb.block b hlt) (fun _ h => h) _ _ _, hv'.later (fun b _ hlt => hb.block b hlt) (fun _ h => h) _ _ _⟩
    obtain ⟨⟨a1, c1, rfl, hl⟩, ⟨a2, c2, rfl, _⟩⟩ := hv
    obtain ⟨⟨a1', c1', rfl, hl'⟩, ⟨a2', c2', rfl, _⟩⟩ := hv'
    have hw2 := hw
    have hw2' := hw'
    simp only [wt] at hw2 hw2'
    have hwl : wtL l ≤ 1099511627776 := by omega
    have hwl' : wtL l' ≤ 1099511627776 := by omega
    have hkl := wt_keys ks
    have hlb : l.length ≤ 1099511627776 := Nat.le_trans (wtL_length l) hwl
    have hlb' : l'.length ≤ 1099511627776 := Nat.le_trans (wtL_length l') hwl'
    have cE := fun X (hb : Below w.heap.size w X) => strings_any ks ks' a2 a2' c2 c2' R R' X (hW hb).1.2 (hW hb).2.2 (by omega)
    obtain ⟨t1, t2, tb, tz⟩ := two w (.cells #[.int .i64 so, .bool on, .int .i64 n, .string ⟨t.toArray⟩, .slice a1 l.length c1, .slice a2 ks.length c2] 26) (.cells #[.int .i64 so', .bool on', .int .i64 n', .string ⟨t'.toArray⟩, .slice a1' l'.length c1', .slice a2' ks'.length c2'] 26)
    have T1 := Lib.hid t1
    have T2 := Lib.hid t2
    have TB := Lib.hid tb
    have TZ := Lib.hid tz
    have HL := Lib.hid hl
    have HL' := Lib.hid hl'
    have HIH := Lib.hid IH
    have HWM := Lib.hid (fun v (h : v ∈ l) => Nat.le_trans (wtL_mem h) hwl)
    have HWM' := Lib.hid (fun v (h : v ∈ l') => Nat.le_trans (wtL_mem h) hwl')
    have HFL := Lib.hid (@sameP_false so so' on on' n n' t t' l l' ks ks')
    have HTR := Lib.hid (show ks = ks' → so = so' → on = on' → n = n' → t = t' → sameP (.mk so on n t l ks) (.mk so' on' n' t' l' ks') = sameLs l l' from fun h1 h2 h3 h4 h5 => by subst h1; subst h2; subst h3; subst h4; subst h5; simp [sameP])
    obtain ⟨F, hF⟩ : ∃ F, sameP (.mk so on n t l ks) (.mk so' on' n' t' l' ks') = F := ⟨_, rfl⟩
    rw [hF] at HFL HTR ⊢
    simp only [arg, six', six, strCell] at cE ⊢
    clear hW hw hw' hw2 hw2' hwl hwl' hkl t1 t2 tb tz hl hl' IH hF
    go_enter Tryz.func11, Tryz.ntmps11
    go_wp2_with fail
    refine (cE _ TB.out).mono ?_
    rintro e w1 ⟨rfl, hb1⟩
    have htz := TZ.out
    have HB1 := Lib.hid (TB.out.trans (hb1.mono (by omega)))
    have HX1 := Lib.hid ((hb1.block w.heap.size (by omega)).trans T1.out)
    have HY1 := Lib.hid ((hb1.block (w.heap.size + 1) (by omega)).trans T2.out)
    have hz1 := hb1.size
    rw [htz] at hz1
    obtain ⟨⟨j0, j1, j2, j3, j4, j5⟩, jf⟩ := cells_six HX1.out
    obtain ⟨⟨k0, k1, k2, k3, k4, k5⟩, kf⟩ := cells_six HY1.out
    clear cE hb1 htz T1 T2 TB TZ
    by_cases hk : ks = ks'
    · rw [decide_eq_true hk]
      by_cases hc : so = so' ∧ on = on' ∧ n = n' ∧ t = t' ∧ l.length = l'.length
      · obtain ⟨rfl, rfl, rfl, rfl, hlen⟩ := hc
        have HFF := Lib.hid (show F = sameLs (l.drop 0) (l'.drop 0) from HTR.out hk rfl rfl rfl rfl)
        have hkl : ks.length = ks'.length := by rw [hk]
        obtain ⟨ln, hln⟩ : ∃ k, l.length = k := ⟨_, rfl⟩
        have HLN := Lib.hid hln
        have HLN' := Lib.hid (hlen.symm.trans hln)
        rw [← hlen, hln] at HY1 k4 ⊢
        rw [hln] at HX1 j4 hlb
        clear hk HFL HTR hlen hkl hln hlb'
        go_wp2_with fail
        clear j0 j1 j2 j3 j4 j5 jf k0 k1 k2 k3 k4 k5 kf
        go_loopw [6] (fun iv wr => ∃ i : Nat, iv = .int .i64 i ∧ i ≤ ln ∧ Hid (F = sameLs (l.drop i) (l'.drop i)) ∧ Hid (Below w1.heap.size w1 wr)) (fun iv _ => ln - (Go.RowKit.intOf iv).toNat)
        case atStart => exact ⟨0, rfl, by omega, HFF, Lib.hid (Below.refl _ _)⟩
        case round =>
          obtain ⟨i, rfl, hi, HI, HB⟩ := hrel
          have hzr := HB.out.size
          have hbw := HB1.out.trans (HB.out.mono HB1.out.size)
          have HXr := Lib.hid ((HB.out.block w.heap.size (by omega)).trans HX1.out)
          have HYr := Lib.hid ((HB.out.block (w.heap.size + 1) (by omega)).trans HY1.out)
          obtain ⟨⟨j0, j1, j2, j3, j4, j5⟩, jf⟩ := cells_six HXr.out
          by_cases hlt : i < ln
          · have hll : i < l.length := by rw [HLN.out]; exact hlt
            have hll' : i < l'.length := by rw [HLN'.out]; exact hlt
            obtain ⟨g, off, xs, rfl, hg, hc, hL⟩ := HL.out.resolve_left (fun h => by rw [h] at hll; exact Nat.not_lt_zero _ hll)
            obtain ⟨g', off', xs', rfl, hg', hc', hL'⟩ := HL'.out.resolve_left (fun h => by rw [h] at hll'; exact Nat.not_lt_zero _ hll')
            have hsm : ∀ Q, Same Q w wr := fun _ b _ hb => hbw.block b hb
            obtain ⟨so1, on1, n1, t1, l1, ks1, b1, d1, b2, d2, he, hv1, p0, p1, p2, p3, p4, p5⟩ := part_at i (ListIn.later (hsm R) (fun _ h => h) l xs hL) (hc.later hg (hsm R)) hll
            obtain ⟨so2, on2, n2, t2, l2, ks2, e1, f1, e2, f2, he', hv2, q0, q1, q2, q3, q4, q5⟩ := part_at i (ListIn.later (hsm R') (fun _ h => h) l' xs' hL') (hc'.later hg' (hsm R')) hll'
            have hI := HI.out
            rw [sameLs_drop hll hll', he, he'] at hI
            have cP := fun W' (hb' : Below wr.heap.size wr W') => (HIH.out l[i] (List.getElem_mem hll)) l'[i] (.slice b1 l1.length d1) (.slice b2 ks1.length d2) (.slice e1 l2.length f1) (.slice e2 ks2.length f2) R R' W'
              (by rw [he]; exact ValIn.later (fun b _ hb => hb'.block b hb) (fun _ h => h) _ _ _ hv1) (by rw [he']; exact ValIn.later (fun b _ hb => hb'.block b hb) (fun _ h => h) _ _ _ hv2) (HWM.out _ (List.getElem_mem hll)) (HWM'.out _ (List.getElem_mem hll'))
            rw [he, he'] at cP
            obtain ⟨bb, hbb⟩ : ∃ b, sameP (.mk so1 on1 n1 t1 l1 ks1) (.mk so2 on2 n2 t2 l2 ks2) = b := ⟨_, rfl⟩
            rw [hbb] at hI
            simp only [hbb, arg, six', six, strCell] at cP
            obtain ⟨⟨k0, k1, k2, k3, k4, k5⟩, kf⟩ := cells_six HYr.out
            have CC : Hid (∀ W, Below wr.heap.size wr W → (fun W => W.cell? ⟨w.heap.size, 4, none⟩ = some (.slice (some ⟨g, off, none⟩) ln c1) ∧ W.cell? ⟨w.heap.size + 1, 4, none⟩ = some (.slice (some ⟨g', off', none⟩) ln c1') ∧ W.cell? ⟨g, off + i * 6, none⟩ = some (.int .i64 so1) ∧ W.cell? ⟨g, off + i * 6 + 1, none⟩ = some (.bool on1) ∧ W.cell? ⟨g, off + i * 6 + 2, none⟩ = some (.int .i64 n1) ∧ W.cell? ⟨g, off + i * 6 + 3, none⟩ = some (.string ⟨t1.toArray⟩) ∧ W.cell? ⟨g, off + i * 6 + 4, none⟩ = some (.slice b1 l1.length d1) ∧ W.cell? ⟨g, off + i * 6 + 5, none⟩ = some (.slice b2 ks1.length d2) ∧ W.cell? ⟨g', off' + i * 6, none⟩ = some (.int .i64 so2) ∧ W.cell? ⟨g', off' + i * 6 + 1, none⟩ = some (.bool on2) ∧ W.cell? ⟨g', off' + i * 6 + 2, none⟩ = some (.int .i64 n2) ∧ W.cell? ⟨g', off' + i * 6 + 3, none⟩ = some (.string ⟨t2.toArray⟩) ∧ W.cell? ⟨g', off' + i * 6 + 4, none⟩ = some (.slice e1 l2.length f1) ∧ W.cell? ⟨g', off' + i * 6 + 5, none⟩ = some (.slice e2 ks2.length f2) ∧ Below wr.heap.size wr W) W) := Lib.hid fun W hb => by
              have hc0 := fun (p : Addr) (u : Value) (hp : wr.cell? p = some u) => (hb.cell (p := p) (Lib.lt_of_cell hp)).trans hp
              exact ⟨hc0 _ _ j4, hc0 _ _ k4, hc0 _ _ p0, hc0 _ _ p1, hc0 _ _ p2, hc0 _ _ p3, hc0 _ _ p4, hc0 _ _ p5, hc0 _ _ q0, hc0 _ _ q1, hc0 _ _ q2, hc0 _ _ q3, hc0 _ _ q4, hc0 _ _ q5, hb⟩
            have cP2 : ∀ W, (fun W => W.cell? ⟨w.heap.size, 4, none⟩ = some (.slice (some ⟨g, off, none⟩) ln c1) ∧ W.cell? ⟨w.heap.size + 1, 4, none⟩ = some (.slice (some ⟨g', off', none⟩) ln c1') ∧ W.cell? ⟨g, off + i * 6, none⟩ = some (.int .i64 so1) ∧ W.cell? ⟨g, off + i * 6 + 1, none⟩ = some (.bool on1) ∧ W.cell? ⟨g, off + i * 6 + 2, none⟩ = some (.int .i64 n1) ∧ W.cell? ⟨g, off + i * 6 + 3, none⟩ = some (.string ⟨t1.toArray⟩) ∧ W.cell? ⟨g, off + i * 6 + 4, none⟩ = some (.slice b1 l1.length d1) ∧ W.cell? ⟨g, off + i * 6 + 5, none⟩ = some (.slice b2 ks1.length d2) ∧ W.cell? ⟨g', off' + i * 6, none⟩ = some (.int .i64 so2) ∧ W.cell? ⟨g', off' + i * 6 + 1, none⟩ = some (.bool on2) ∧ W.cell? ⟨g', off' + i * 6 + 2, none⟩ = some (.int .i64 n2) ∧ W.cell? ⟨g', off' + i * 6 + 3, none⟩ = some (.string ⟨t2.toArray⟩) ∧ W.cell? ⟨g', off' + i * 6 + 4, none⟩ = some (.slice e1 l2.length f1) ∧ W.cell? ⟨g', off' + i * 6 + 5, none⟩ = some (.slice e2 ks2.length f2) ∧ Below wr.heap.size wr W) W → Calls Tryz.prog 11 #[.agg #[.int .i64 so1, .bool on1, .int .i64 n1, .string ⟨t1.toArray⟩, .slice b1 l1.length d1, .slice b2 ks1.length d2], .agg #[.int .i64 so2, .bool on2, .int .i64 n2, .string ⟨t2.toArray⟩, .slice e1 l2.length f1, .slice e2 ks2.length f2]] W fun e w' => e = .returned (.bool bb) ∧ (fun W => W.cell? ⟨w.heap.size, 4, none⟩ = some (.slice (some ⟨g, off, none⟩) ln c1) ∧ W.cell? ⟨w.heap.size + 1, 4, none⟩ = some (.slice (some ⟨g', off', none⟩) ln c1') ∧ W.cell? ⟨g, off + i * 6, none⟩ = some (.int .i64 so1) ∧ W.cell? ⟨g, off + i * 6 + 1, none⟩ = some (.bool on1) ∧ W.cell? ⟨g, off + i * 6 + 2, none⟩ = some (.int .i64 n1) ∧ W.cell? ⟨g, off + i * 6 + 3, none⟩ = some (.string ⟨t1.toArray⟩) ∧ W.cell? ⟨g, off + i * 6 + 4, none⟩ = some (.slice b1 l1.length d1) ∧ W.cell? ⟨g, off + i * 6 + 5, none⟩ = some (.slice b2 ks1.length d2) ∧ W.cell? ⟨g', off' + i * 6, none⟩ = some (.int .i64 so2) ∧ W.cell? ⟨g', off' + i * 6 + 1, none⟩ = some (.bool on2) ∧ W.cell? ⟨g', off' + i * 6 + 2, none⟩ = some (.int .i64 n2) ∧ W.cell? ⟨g', off' + i * 6 + 3, none⟩ = some (.string ⟨t2.toArray⟩) ∧ W.cell? ⟨g', off' + i * 6 + 4, none⟩ = some (.slice e1 l2.length f1) ∧ W.cell? ⟨g', off' + i * 6 + 5, none⟩ = some (.slice e2 ks2.length f2) ∧ Below wr.heap.size wr W) w' := fun W hS => (cP W hS.2.2.2.2.2.2.2.2.2.2.2.2.2.2).mono (by
              rintro e w' ⟨h1, h2⟩
              exact ⟨h1, CC.out _ (hS.2.2.2.2.2.2.2.2.2.2.2.2.2.2.trans (h2.mono hS.2.2.2.2.2.2.2.2.2.2.2.2.2.2.size))⟩)
            have hS0 := CC.out _ (Below.refl wr.heap.size wr).drew
            dsimp only at cP2 hS0
            have HII := Lib.hid hI
            clear hI he he' hv1 hv2 hbb hsm hL hc hL' hc' cP CC j0 j1 j2 j3 j5 jf k0 k1 k2 k3 k4 k5 kf p0 p1 p2 p3 p4 p5 q0 q1 q2 q3 q4 q5
            go_wp2_with fail
            go_region_held3 (fun W => W.cell? ⟨w.heap.size, 4, none⟩ = some (.slice (some ⟨g, off, none⟩) ln c1) ∧ W.cell? ⟨w.heap.size + 1, 4, none⟩ = some (.slice (some ⟨g', off', none⟩) ln c1') ∧ W.cell? ⟨g, off + i * 6, none⟩ = some (.int .i64 so1) ∧ W.cell? ⟨g, off + i * 6 + 1, none⟩ = some (.bool on1) ∧ W.cell? ⟨g, off + i * 6 + 2, none⟩ = some (.int .i64 n1) ∧ W.cell? ⟨g, off + i * 6 + 3, none⟩ = some (.string ⟨t1.toArray⟩) ∧ W.cell? ⟨g, off + i * 6 + 4, none⟩ = some (.slice b1 l1.length d1) ∧ W.cell? ⟨g, off + i * 6 + 5, none⟩ = some (.slice b2 ks1.length d2) ∧ W.cell? ⟨g', off' + i * 6, none⟩ = some (.int .i64 so2) ∧ W.cell? ⟨g', off' + i * 6 + 1, none⟩ = some (.bool on2) ∧ W.cell? ⟨g', off' + i * 6 + 2, none⟩ = some (.int .i64 n2) ∧ W.cell? ⟨g', off' + i * 6 + 3, none⟩ = some (.string ⟨t2.toArray⟩) ∧ W.cell? ⟨g', off' + i * 6 + 4, none⟩ = some (.slice e1 l2.length f1) ∧ W.cell? ⟨g', off' + i * 6 + 5, none⟩ = some (.slice e2 ks2.length f2) ∧ Below wr.heap.size wr W) (first | assumption) (first | (go_at_call 11; (with_reducible refine (cP2 _ ?_).mono ?_); assumption; rintro e ws ⟨rfl, hSs⟩))
            have HBs := Lib.hid (HB.out.trans (hSs.2.2.2.2.2.2.2.2.2.2.2.2.2.2.mono hzr))
            clear hS0 hSs cP2 j4
            cases bb with
            | false =>
              have hF : F = false := by rw [HII.out]; rfl
              subst hF
              go_wp2_with fail
              go_ret
              exact ⟨rfl, HB1.out.trans (HBs.out.mono HB1.out.size)⟩
            | true =>
              go_wp2_with fail
              go_roundw
              case rel => exact ⟨i + 1, by go_num, by omega, Lib.hid (by rw [HII.out, Bool.true_and]), HBs⟩
              case measure => simp [Go.RowKit.intOf]; omega
          · have hF : F = true := by
              rw [HI.out, List.drop_eq_nil_of_le (by rw [HLN.out]; omega), List.drop_eq_nil_of_le (by rw [HLN'.out]; omega)]; simp [sameLs]
            subst hF
            have HE := Lib.hid hbw
            clear hbw
            go_wp2_with fail
            go_ret
            exact ⟨rfl, HE.out⟩
      · have hF0 : F = false := HFL.out (fun h => hc h.2)
        subst hF0
        have HH := Lib.hid hc
        clear hc hk HFL HTR
        go_wp2_with fail
        all_goals first
          | (go_ret; exact ⟨rfl, HB1.out⟩)
          | exact absurd HH.out (by simp_all <;> omega)
    · rw [decide_eq_false hk]
      have hF0 : F = false := HFL.out (fun h => hk h.1)
      subst hF0
      clear hk
      go_wp2_with fail
      go_ret
      exact ⟨rfl, HB1.out⟩
end Go.Proofs.YtfjdeacpdcnjpaaGreatDoor.V
