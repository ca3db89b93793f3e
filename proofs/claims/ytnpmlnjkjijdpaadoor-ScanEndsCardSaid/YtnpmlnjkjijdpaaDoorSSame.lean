/- The contract of the document's own Same of layer 8: words compared. -/
import Derived.Test.YtnpmlnjkjijdpaaDoorSRef6
import Derived.Laws.StructEq
namespace Go.Proofs.YtnpmlnjkjijdpaaDoor.S
open Go.RowKit
open Go.Lib hiding intOf
open Go.Proofs.YtnpmlnjkjijdpaaDoor.U Go.Proofs.YtnpmlnjkjijdpaaDoor.L

theorem drewB {B : Nat} {a w : World} (h : Below B a w) (n : Nat) : Below B a (w.drewN n) := ⟨h.os, h.tape, h.output, h.size, h.block⟩
def tokB (x y : TokP) : Bool := (x.w == y.w) && (x.t == y.t) && (x.f == y.f) && (x.e == y.e)
theorem tokB_iff {x y : TokP} : tokB x y = true ↔ x = y := by
  obtain ⟨a, b, c, d⟩ := x
  obtain ⟨a', b', c', d'⟩ := y
  unfold tokB; simp [and_assoc]
set_option maxRecDepth 20000 in
theorem tok_eq (k : Nat) (a a' f f' e e' : Int) (p p' : ByteArray) (W : World) : (Op.equalIn (k + 1 + 1) 30 (.agg #[.int .i64 a, .string p, .int .i64 f, .int .i64 e]) (.agg #[.int .i64 a', .string p', .int .i64 f', .int .i64 e'])).run Tryd.prog W = .ok ((a == a') && (p.toList == p'.toList) && (f == f') && (e == e')) W := by
  rw [run_equalIn_agg _ _ _ _ _ (by kernel_rfl) (by kernel_rfl)]
  cases h : (a == a') <;> cases h2 : (p.toList == p'.toList) <;> cases h3 : (f == f') <;> cases h4 : (e == e') <;> simp [Op.eqFields, go_sem, h, h2, h3, h4] <;> simp_all
theorem tl_arr (l : By) : (⟨l.toArray⟩ : ByteArray).toList = l := by rw [ByteArray.toList_eq]
theorem neq_tok (x y : TokP) (W : World) : (binOp .neq 30 (.agg #[.int .i64 x.w, .string ⟨x.t.toArray⟩, .int .i64 x.f, .int .i64 x.e]) (.agg #[.int .i64 y.w, .string ⟨y.t.toArray⟩, .int .i64 y.f, .int .i64 y.e])).run Tryd.prog W = .ok (.bool (!tokB x y)) W := by
  rw [run_neq_struct, show (10000 : Nat) = 9998 + 1 + 1 from rfl, tok_eq, tl_arr, tl_arr]; rfl

def sameT : List TokP → List TokP → Bool
  | [], [] => true
  | x :: r, y :: r' => tokB x y && sameT r r'
  | _, _ => false
theorem sameT_iff : ∀ {l l' : List TokP}, sameT l l' = true ↔ l = l'
  | [], [] => by simp [sameT]
  | [], _ :: _ => by simp [sameT]
  | _ :: _, [] => by simp [sameT]
  | x :: r, y :: r' => by simp [sameT, tokB_iff, sameT_iff (l := r) (l' := r')]
theorem sameT_len : ∀ {l l' : List TokP}, l.length ≠ l'.length → sameT l l' = false
  | [], [], h => absurd rfl h
  | [], _ :: _, _ => rfl
  | _ :: _, [], _ => rfl
  | x :: r, y :: r', h => by simp only [sameT, sameT_len (l := r) (l' := r') (by simpa using h), Bool.and_false]
theorem sameT_drop {l l' : List TokP} {i : Nat} (h : i < l.length) (h' : i < l'.length) : sameT (l.drop i) (l'.drop i) = (tokB l[i] l'[i] && sameT (l.drop (i + 1)) (l'.drop (i + 1))) := by
  rw [List.drop_eq_getElem_cons h, List.drop_eq_getElem_cons h']; rfl

set_option maxHeartbeats 4000000 in
set_option maxRecDepth 20000 in
theorem refSame_any (B B' : Nat) (l l' : List TokP) (v v' : Value) (w : World) (h : ToksIn B w l v) (h' : ToksIn B' w l' v') (hl : l.length ≤ 1000000) (_hl' : l'.length ≤ 1000000) :
    Calls Tryd.prog 11 #[v, v'] w fun e w' => e = .returned (.bool (sameT l l')) ∧ Below w.heap.size w w' := by
  obtain ⟨a, cap, rfl, _, hc⟩ := h
  obtain ⟨a', cap', rfl, _, hc'⟩ := h'
  by_cases hlen : l.length = l'.length
  · have HC := Lib.hid hc
    have HC' := Lib.hid hc'
    obtain ⟨R, hR⟩ : ∃ R, sameT l l' = R := ⟨_, rfl⟩
    have HR : Hid (sameT (l.drop 0) (l'.drop 0) = R) := Lib.hid hR
    rw [hR]
    obtain ⟨m, hm⟩ : ∃ m, l.length = m := ⟨_, rfl⟩
    have HM := Lib.hid hm
    have HM' := Lib.hid (hlen.symm.trans hm)
    rw [← hlen, hm]
    rw [hm] at hl
    clear hc hc' hR hm hlen _hl'
    go_enter Tryd.func11, Tryd.ntmps11
    go_wp2_with fail
    go_loopw [5] (fun iv wr => ∃ i : Nat, iv = .int .i64 i ∧ i ≤ m ∧ Hid (sameT (l.drop i) (l'.drop i) = R) ∧ Hid (Below w.heap.size w wr)) (fun iv _ => m - (intOf iv).toNat)
    case atStart => exact ⟨0, rfl, Nat.zero_le _, HR, Lib.hid (Below.refl _ _)⟩
    case round =>
      obtain ⟨i, rfl, hi, HI, HL⟩ := hrel
      clear HR
      by_cases hlt : i < m
      · have hil : i < l.length := by rw [HM.out]; exact hlt
        have hil' : i < l'.length := by rw [HM'.out]; exact hlt
        obtain ⟨g, off, rfl, _, hg, hat⟩ := HC.out.resolve_left (fun h => by rw [h] at hil; exact Nat.not_lt_zero _ hil)
        obtain ⟨g', off', rfl, _, hg', hat'⟩ := HC'.out.resolve_left (fun h => by rw [h] at hil'; exact Nat.not_lt_zero _ hil')
        obtain ⟨p0, p1, p2, p3⟩ := tok_at i (fun j u hj => (HL.out.cell (p := ⟨g, off + j, none⟩) hg).trans (hat j u hj)) hil
        obtain ⟨r0, r1, r2, r3⟩ := tok_at i (fun j u hj => (HL.out.cell (p := ⟨g', off' + j, none⟩) hg').trans (hat' j u hj)) hil'
        have hst := sameT_drop hil hil'
        rw [HI.out] at hst
        have hq := fun W => neq_tok l[i] l'[i] W
        generalize l[i] = x at p0 p1 p2 p3 hst hq
        generalize l'[i] = y at r0 r1 r2 r3 hst hq
        obtain ⟨b, hb⟩ : ∃ b, tokB x y = b := ⟨_, rfl⟩
        rw [hb] at hst hq
        have HST := Lib.hid hst
        clear hat hat' hst hb
        cases b
        · have HF : Hid (R = false) := Lib.hid (by have := HST.out; simpa using this)
          simp only [Bool.not_false] at hq
          go_wp2_with fail
          go_quiet (fail)
          go_wp2_with fail
          go_ret
          exact ⟨by rw [HF.out]; rfl, drewB HL.out _⟩
        · have HN : Hid (sameT (l.drop (i + 1)) (l'.drop (i + 1)) = R) := Lib.hid (by have := HST.out; simpa using this.symm)
          simp only [Bool.not_true] at hq
          go_wp2_with fail
          go_quiet (fail)
          go_wp2_with fail
          go_roundw
          case rel => exact ⟨i + 1, by go_num, by omega, HN, Lib.hid (drewB HL.out _)⟩
          case measure => simp [intOf]; omega
      · obtain rfl : i = m := by omega
        have HF : Hid (R = true) := Lib.hid (by
          have := HI.out
          rw [List.drop_of_length_le (by rw [HM.out]; exact Nat.le_refl _), List.drop_of_length_le (by rw [HM'.out]; exact Nat.le_refl _)] at this
          exact this.symm)
        go_wp2_with fail
        go_ret
        exact ⟨by rw [HF.out]; rfl, HL.out⟩
  · rw [sameT_len hlen]
    generalize l.length = m at hlen hl
    generalize l'.length = m' at hlen _hl'
    have hne : ¬ ((m : Int) = (m' : Int)) := by omega
    clear hc hc'
    go_enter Tryd.func11, Tryd.ntmps11
    go_wp2_with fail
    go_ret
    exact ⟨rfl, Below.refl _ _⟩
end Go.Proofs.YtnpmlnjkjijdpaaDoor.S
