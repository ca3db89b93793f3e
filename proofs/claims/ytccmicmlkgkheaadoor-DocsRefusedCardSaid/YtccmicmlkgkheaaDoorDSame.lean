/- The contract of the document's own Same of layer 7: documents compared. -/
import Derived.Test.YtccmicmlkgkheaaDoorDRef6
import Derived.Laws.StructEq
namespace Go.Proofs.YtccmicmlkgkheaaDoor.D
open Go.RowKit
open Go.Lib hiding intOf
open Go.Proofs.YtccmicmlkgkheaaDoor.U Go.Proofs.YtccmicmlkgkheaaDoor.L Go.Proofs.YtccmicmlkgkheaaDoor.E

def docB (x y : DocP) : Bool := decide (x.n = y.n) && (x.v == y.v) && decide (x.t = y.t)
theorem docB_iff {x y : DocP} : docB x y = true ↔ x = y := by
  obtain ⟨a, b, c⟩ := x
  obtain ⟨a', b', c'⟩ := y
  unfold docB; simp [and_assoc]
theorem str_beq (a b : ByteArray) : (a.toList == b.toList) = decide (a = b) := by
  by_cases h : a = b
  · subst h; simp
  · rw [bytes_ne h]; simp [h]
set_option maxRecDepth 20000 in
theorem doc_eq (k : Nat) (x y : DocP) (W : World) : (Op.equalIn (k + 1 + 1) 30 (.agg #[.string x.n, .int .i64 x.v, .string x.t]) (.agg #[.string y.n, .int .i64 y.v, .string y.t])).run Tryd.prog W = .ok (docB x y) W := by
  rw [run_equalIn_agg _ _ _ _ _ (by kernel_rfl) (by kernel_rfl)]
  unfold docB
  rw [← str_beq, ← str_beq]
  cases h : (x.n.toList == y.n.toList) <;> cases h2 : (x.v == y.v) <;> cases h3 : (x.t.toList == y.t.toList) <;> simp [Op.eqFields, go_sem, h, h2, h3] <;> simp_all
theorem neq_doc (x y : DocP) (W : World) : (binOp .neq 30 (.agg #[.string x.n, .int .i64 x.v, .string x.t]) (.agg #[.string y.n, .int .i64 y.v, .string y.t])).run Tryd.prog W = .ok (.bool (!docB x y)) W := by
  rw [run_neq_struct, show (10000 : Nat) = 9998 + 1 + 1 from rfl, doc_eq]; rfl
theorem eql_doc (x y : DocP) (W : World) : (binOp .eql 30 (.agg #[.string x.n, .int .i64 x.v, .string x.t]) (.agg #[.string y.n, .int .i64 y.v, .string y.t])).run Tryd.prog W = .ok (.bool (docB x y)) W := by
  rw [run_eql_struct, show (10000 : Nat) = 9998 + 1 + 1 from rfl, doc_eq]; rfl

def sameD : List DocP → List DocP → Bool
  | [], [] => true
  | x :: r, y :: r' => docB x y && sameD r r'
  | _, _ => false
theorem sameD_iff : ∀ {l l' : List DocP}, sameD l l' = true ↔ l = l'
  | [], [] => by simp [sameD]
  | [], _ :: _ => by simp [sameD]
  | _ :: _, [] => by simp [sameD]
  | x :: r, y :: r' => by simp [sameD, docB_iff, sameD_iff (l := r) (l' := r')]
theorem sameD_len : ∀ {l l' : List DocP}, l.length ≠ l'.length → sameD l l' = false
  | [], [], h => absurd rfl h
  | [], _ :: _, _ => rfl
  | _ :: _, [], _ => rfl
  | x :: r, y :: r', h => by simp only [sameD, sameD_len (l := r) (l' := r') (by simpa using h), Bool.and_false]
theorem sameD_drop {l l' : List DocP} {i : Nat} (h : i < l.length) (h' : i < l'.length) : sameD (l.drop i) (l'.drop i) = (docB l[i] l'[i] && sameD (l.drop (i + 1)) (l'.drop (i + 1))) := by
  rw [List.drop_eq_getElem_cons h, List.drop_eq_getElem_cons h']; rfl

set_option maxHeartbeats 4000000 in
set_option maxRecDepth 20000 in
theorem same_any (B B' : Nat) (l l' : List DocP) (v v' : Value) (w : World) (h : DocsIn B w l v) (h' : DocsIn B' w l' v') (hl : l.length ≤ 1000000) (_hl' : l'.length ≤ 1000000) :
    Calls Tryd.prog 11 #[v, v'] w fun e w' => e = .returned (.bool (sameD l l')) ∧ Below w.heap.size w w' := by
  obtain ⟨a, cap, rfl, _, hc⟩ := h
  obtain ⟨a', cap', rfl, _, hc'⟩ := h'
  by_cases hlen : l.length = l'.length
  · have HC := Lib.hid hc
    have HC' := Lib.hid hc'
    obtain ⟨R, hR⟩ : ∃ R, sameD l l' = R := ⟨_, rfl⟩
    have HR : Hid (sameD (l.drop 0) (l'.drop 0) = R) := Lib.hid hR
    rw [hR]
    obtain ⟨m, hm⟩ : ∃ m, l.length = m := ⟨_, rfl⟩
    have HM := Lib.hid hm
    have HM' := Lib.hid (hlen.symm.trans hm)
    rw [← hlen, hm]
    rw [hm] at hl
    clear hc hc' hR hm hlen _hl'
    go_enter Tryd.func11, Tryd.ntmps11
    go_wp2_with fail
    go_loopw [5] (fun iv wr => ∃ i : Nat, iv = .int .i64 i ∧ i ≤ m ∧ Hid (sameD (l.drop i) (l'.drop i) = R) ∧ Hid (Below w.heap.size w wr)) (fun iv _ => m - (intOf iv).toNat)
    case atStart => exact ⟨0, rfl, Nat.zero_le _, HR, Lib.hid (Below.refl _ _)⟩
    case round =>
      obtain ⟨i, rfl, hi, HI, HL⟩ := hrel
      clear HR
      by_cases hlt : i < m
      · have hil : i < l.length := by rw [HM.out]; exact hlt
        have hil' : i < l'.length := by rw [HM'.out]; exact hlt
        obtain ⟨g, off, rfl, _, hg, hat⟩ := HC.out.resolve_left (fun h => by rw [h] at hil; exact Nat.not_lt_zero _ hil)
        obtain ⟨g', off', rfl, _, hg', hat'⟩ := HC'.out.resolve_left (fun h => by rw [h] at hil'; exact Nat.not_lt_zero _ hil')
        obtain ⟨p0, p1, p2⟩ := doc_at i (fun j u hj => (HL.out.cell (p := ⟨g, off + j, none⟩) hg).trans (hat j u hj)) hil
        obtain ⟨r0, r1, r2⟩ := doc_at i (fun j u hj => (HL.out.cell (p := ⟨g', off' + j, none⟩) hg').trans (hat' j u hj)) hil'
        have hst := sameD_drop hil hil'
        rw [HI.out] at hst
        have hq := fun W => neq_doc l[i] l'[i] W
        generalize l[i] = x at p0 p1 p2 hst hq
        generalize l'[i] = y at r0 r1 r2 hst hq
        obtain ⟨b, hb⟩ : ∃ b, docB x y = b := ⟨_, rfl⟩
        rw [hb] at hst hq
        have HST := Lib.hid hst
        clear hat hat' hst hb
        cases b
        · have HF : Hid (R = false) := Lib.hid (by have := HST.out; simpa using this)
          simp only [Bool.not_false] at hq
          go_wp2_with fail
          go_quiet (fail)
          go_wp2_with fail
          go_ret
          exact ⟨by rw [HF.out]; rfl, next HL.out (L.below_drewN _ _)⟩
        · have HN : Hid (sameD (l.drop (i + 1)) (l'.drop (i + 1)) = R) := Lib.hid (by have := HST.out; simpa using this.symm)
          simp only [Bool.not_true] at hq
          go_wp2_with fail
          go_quiet (fail)
          go_wp2_with fail
          go_roundw
          case rel => exact ⟨i + 1, by go_num, by omega, HN, Lib.hid (next HL.out (L.below_drewN _ _))⟩
          case measure => simp [intOf]; omega
      · obtain rfl : i = m := by omega
        have HF : Hid (R = true) := Lib.hid (by
          have := HI.out
          rw [List.drop_of_length_le (by rw [HM.out]; exact Nat.le_refl _), List.drop_of_length_le (by rw [HM'.out]; exact Nat.le_refl _)] at this
          exact this.symm)
        go_wp2_with fail
        go_ret
        exact ⟨by rw [HF.out]; rfl, HL.out⟩
  · rw [sameD_len hlen]
    generalize l.length = m at hlen hl
    generalize l'.length = m' at hlen _hl'
    have hne : ¬ ((m : Int) = (m' : Int)) := by omega
    clear hc hc'
    go_enter Tryd.func11, Tryd.ntmps11
    go_wp2_with fail
    go_ret
    exact ⟨rfl, Below.refl _ _⟩
end Go.Proofs.YtccmicmlkgkheaaDoor.D
