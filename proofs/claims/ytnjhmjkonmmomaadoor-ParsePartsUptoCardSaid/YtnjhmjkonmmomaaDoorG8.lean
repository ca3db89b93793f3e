/- The texts KStr, KRest, KBetw, KSim, KSimE, joined. -/
import Derived.Test.YtnjhmjkonmmomaaDoorG7
import Derived.Test.YtnjhmjkonmmomaaDoorG1
/- KStr: The program's reader: a mark's strength. -/
section
namespace Go.Proofs.YtnjhmjkonmmomaaDoor.K
open Go.RowKit
open Go.Lib hiding intOf
open Go.Proofs.YtnjhmjkonmmomaaDoor.U Go.Proofs.YtnjhmjkonmmomaaDoor.S Go.Proofs.YtnjhmjkonmmomaaDoor.T

section
variable {d : Nat} {L : List TokP} {size : Nat} {lv : Value} {s : St} {O : Nat → Prop}
def tabS : List Value := [.string ⟨#[124, 124]⟩, .int .i64 1, .string ⟨#[38, 38]⟩, .int .i64 2, .string ⟨#[61, 61]⟩, .int .i64 3, .string ⟨#[33, 61]⟩, .int .i64 3, .string ⟨#[60]⟩, .int .i64 3, .string ⟨#[60, 61]⟩, .int .i64 3, .string ⟨#[62]⟩, .int .i64 3, .string ⟨#[62, 61]⟩, .int .i64 3, .string ⟨#[43]⟩, .int .i64 4, .string ⟨#[45]⟩, .int .i64 4, .string ⟨#[42]⟩, .int .i64 5, .string ⟨#[47]⟩, .int .i64 5, .string ⟨#[37]⟩, .int .i64 5]
/-- The table of marks as the program lays it, in a block that nobody writes. -/
def PTab (O : Nat → Prop) (W : World) : Prop := Fr O W 2 ∧ CellsAt W 2 0 tabS
theorem PTab.stay {O' : Nat → Prop} {W W' : World} (h : PTab O W) (hS : Stay O O' W W') : PTab O' W' := ⟨hS.fr h.1, fun j u hj => by
  have h1 := h.2 j u hj
  unfold World.cell? at h1 ⊢
  rw [hS.at h.1]; exact h1⟩
theorem tab_add {W : World} {g j : Nat} {u : Value} (h : W.cell? ⟨g, 0 + j, none⟩ = some u) : W.cell? ((⟨g, 0, none⟩ : Addr).add j) = some u := by
  rw [Nat.zero_add] at h
  by_cases h0 : j = 0
  · subst h0; simpa [Addr.add] using h
  · simpa [Addr.add, h0] using h
theorem run_tab {W : World} (h : CellsAt W 2 0 tabS) : (Instr.loadAt 87 (.pointer (some ⟨2, 0, none⟩))).run Tryd.prog W = .ok (.agg tabS.toArray) W := by
  have h2 := run_loadCells_list (P := Tryd.prog) (w := W) ⟨2, 0, none⟩ tabS (fun j u hj => tab_add (h j u hj))
  have h3 : tabS.length = 26 := rfl
  rw [h3] at h2
  unfold Instr.loadAt Instr.sureAddr loadVar
  simp only [Sem.run_bind, Sem.run_pure, Result.andThen_ok, Tryd.isAgg87, Tryd.sizeOf87, h2, if_true]
theorem wpList_loadTab {P : Program} {w : World} {ops : Array Oper} {rest : List Oper} {o : Oper} {a : Act} {Q : Exit → Act → World → Prop} (hgd : o.guard = none) (t : TypeId) (x : Operand) (ho : o.op = .load t x) (v : Value)
    (hr : (Instr.loadAt t (a.eval x)).run P w = .ok v w) (h : wpList P ops Q rest (a.put o.dst v) w) : wpList P ops Q (o :: rest) a w := by
  refine wpList_plain hgd fun K hK => ?_
  unfold Oper.wp
  simp [execOp, ho, hr, Result.andThen]
  exact hK _ _ h
theorem wpList_indexTab {P : Program} {w : World} {ops : Array Oper} {rest : List Oper} {o : Oper} {a : Act} {Q : Exit → Act → World → Prop} (hgd : o.guard = none) (t : TypeId) (x y : Operand) (ho : o.op = .index t x y) (v : Value)
    (hr : (Instr.index t (a.eval x) (a.eval y)).run P w = .ok v w) (h : wpList P ops Q rest (a.put o.dst v) w) : wpList P ops Q (o :: rest) a w := by
  refine wpList_plain hgd fun K hK => ?_
  unfold Oper.wp
  simp [execOp, ho, hr, Result.andThen]
  exact hK _ _ h
theorem run_row0 (W : World) : (Instr.index 87 (.agg tabS.toArray) (.int .i64 0)).run Tryd.prog W = .ok (.agg #[.string ⟨#[124, 124]⟩, .int .i64 1]) W := by kernel_rfl
theorem run_row1 (W : World) : (Instr.index 87 (.agg tabS.toArray) (.int .i64 1)).run Tryd.prog W = .ok (.agg #[.string ⟨#[38, 38]⟩, .int .i64 2]) W := by kernel_rfl
theorem run_row2 (W : World) : (Instr.index 87 (.agg tabS.toArray) (.int .i64 2)).run Tryd.prog W = .ok (.agg #[.string ⟨#[61, 61]⟩, .int .i64 3]) W := by kernel_rfl
theorem run_row3 (W : World) : (Instr.index 87 (.agg tabS.toArray) (.int .i64 3)).run Tryd.prog W = .ok (.agg #[.string ⟨#[33, 61]⟩, .int .i64 3]) W := by kernel_rfl
theorem run_row4 (W : World) : (Instr.index 87 (.agg tabS.toArray) (.int .i64 4)).run Tryd.prog W = .ok (.agg #[.string ⟨#[60]⟩, .int .i64 3]) W := by kernel_rfl
theorem run_row5 (W : World) : (Instr.index 87 (.agg tabS.toArray) (.int .i64 5)).run Tryd.prog W = .ok (.agg #[.string ⟨#[60, 61]⟩, .int .i64 3]) W := by kernel_rfl
theorem run_row6 (W : World) : (Instr.index 87 (.agg tabS.toArray) (.int .i64 6)).run Tryd.prog W = .ok (.agg #[.string ⟨#[62]⟩, .int .i64 3]) W := by kernel_rfl
theorem run_row7 (W : World) : (Instr.index 87 (.agg tabS.toArray) (.int .i64 7)).run Tryd.prog W = .ok (.agg #[.string ⟨#[62, 61]⟩, .int .i64 3]) W := by kernel_rfl
theorem run_row8 (W : World) : (Instr.index 87 (.agg tabS.toArray) (.int .i64 8)).run Tryd.prog W = .ok (.agg #[.string ⟨#[43]⟩, .int .i64 4]) W := by kernel_rfl
theorem run_row9 (W : World) : (Instr.index 87 (.agg tabS.toArray) (.int .i64 9)).run Tryd.prog W = .ok (.agg #[.string ⟨#[45]⟩, .int .i64 4]) W := by kernel_rfl
theorem run_row10 (W : World) : (Instr.index 87 (.agg tabS.toArray) (.int .i64 10)).run Tryd.prog W = .ok (.agg #[.string ⟨#[42]⟩, .int .i64 5]) W := by kernel_rfl
theorem run_row11 (W : World) : (Instr.index 87 (.agg tabS.toArray) (.int .i64 11)).run Tryd.prog W = .ok (.agg #[.string ⟨#[47]⟩, .int .i64 5]) W := by kernel_rfl
theorem run_row12 (W : World) : (Instr.index 87 (.agg tabS.toArray) (.int .i64 12)).run Tryd.prog W = .ok (.agg #[.string ⟨#[37]⟩, .int .i64 5]) W := by kernel_rfl
def markAt : Nat → By
  | 0 => [124, 124]
  | 1 => [38, 38]
  | 2 => [61, 61]
  | 3 => [33, 61]
  | 4 => [60]
  | 5 => [60, 61]
  | 6 => [62]
  | 7 => [62, 61]
  | 8 => [43]
  | 9 => [45]
  | 10 => [42]
  | 11 => [47]
  | 12 => [37]
  | _ => []
theorem strP_none {x : By} (h : ∀ j, j < 13 → x ≠ markAt j) : strP x = 0 := by
  have h0 := h 0 (by decide); have h1 := h 1 (by decide); have h2 := h 2 (by decide); have h3 := h 3 (by decide); have h4 := h 4 (by decide); have h5 := h 5 (by decide); have h6 := h 6 (by decide)
  have h7 := h 7 (by decide); have h8 := h 8 (by decide); have h9 := h 9 (by decide); have h10 := h 10 (by decide); have h11 := h 11 (by decide); have h12 := h 12 (by decide)
  simp only [markAt] at h0 h1 h2 h3 h4 h5 h6 h7 h8 h9 h10 h11 h12
  unfold strP
  simp only [h0, h1, h2, h3, h4, h5, h6, h7, h8, h9, h10, h11, h12, or_self, if_false]
set_option maxHeartbeats 16000000 in
set_option maxRecDepth 100000 in
theorem str_any (y : ByteArray) (w : World) (hC : CellsAt w 2 0 tabS) : Calls Tryd.prog 88 #[.string y] w fun e w' => e = .returned (.int .i64 (strP y.toList)) ∧ Below w.heap.size w w' := by
  obtain ⟨T, hT⟩ : ∃ T, Value.agg tabS.toArray = T := ⟨_, rfl⟩
  have hL := run_tab hC
  rw [hT] at hL
  have hi0 := run_row0
  simp only [hT] at hi0
  have hi1 := run_row1
  simp only [hT] at hi1
  have hi2 := run_row2
  simp only [hT] at hi2
  have hi3 := run_row3
  simp only [hT] at hi3
  have hi4 := run_row4
  simp only [hT] at hi4
  have hi5 := run_row5
  simp only [hT] at hi5
  have hi6 := run_row6
  simp only [hT] at hi6
  have hi7 := run_row7
  simp only [hT] at hi7
  have hi8 := run_row8
  simp only [hT] at hi8
  have hi9 := run_row9
  simp only [hT] at hi9
  have hi10 := run_row10
  simp only [hT] at hi10
  have hi11 := run_row11
  simp only [hT] at hi11
  have hi12 := run_row12
  simp only [hT] at hi12
  clear hC hT
  go_enter Tryd.func88, Tryd.ntmps88
  go_wp2_with (refine wpList_loadTab rfl _ _ rfl T hL ?_)
  clear hL
  go_loopw [6] (fun iv wr => ∃ i : Nat, iv = .int .i64 i ∧ i ≤ 13 ∧ Hid (∀ j, j < i → y.toList ≠ markAt j) ∧ Hid (Below w.heap.size w wr)) (fun iv _ => 13 - (Go.RowKit.intOf iv).toNat)
  case atStart => exact ⟨0, rfl, by omega, Lib.hid (fun k h => by omega), Lib.hid (Below.refl _ _)⟩
  case round =>
    obtain ⟨i, rfl, hi, HN, HBw⟩ := hrel
    have hcs : i = 0 ∨ i = 1 ∨ i = 2 ∨ i = 3 ∨ i = 4 ∨ i = 5 ∨ i = 6 ∨ i = 7 ∨ i = 8 ∨ i = 9 ∨ i = 10 ∨ i = 11 ∨ i = 12 ∨ i = 13 := by omega
    rcases hcs with rfl | rfl | rfl | rfl | rfl | rfl | rfl | rfl | rfl | rfl | rfl | rfl | rfl | rfl
    · obtain ⟨b, hb⟩ : ∃ b, ([124, 124] == y.toList) = b := ⟨_, rfl⟩
      have hb2 : (y.toList == [124, 124]) = b := by rw [← hb]; exact Bool.beq_comm
      have HB3 : Hid (Below w.heap.size w (wr.alloc (.cells #[.string ⟨#[124, 124]⟩, .int .i64 1] 86))) := Lib.hid (HBw.out.alloc HBw.out.size _)
      cases b with
      | true =>
        have hy : Hid (strP y.toList = 1) := Lib.hid (by rw [show y.toList = [124, 124] by simpa using hb2]; rfl)
        go_wp2_with (refine wpList_indexTab rfl _ _ _ rfl _ (hi0 _) ?_)
        go_ret
        rw [hy.out]
        exact ⟨rfl, HB3.out⟩
      | false =>
        have hy : Hid (∀ j, j < 0+1 → y.toList ≠ markAt j) := Lib.hid (fun j hj => by
          rcases Nat.lt_or_ge j 0 with h | h
          · exact HN.out j h
          · obtain rfl : j = 0 := by omega
            simpa [markAt] using hb2)
        go_wp2_with (refine wpList_indexTab rfl _ _ _ rfl _ (hi0 _) ?_)
        go_roundw
        case rel => exact ⟨1, rfl, by omega, hy, HB3⟩
        case measure => simp [Go.RowKit.intOf]
    · obtain ⟨b, hb⟩ : ∃ b, ([38, 38] == y.toList) = b := ⟨_, rfl⟩
      have hb2 : (y.toList == [38, 38]) = b := by rw [← hb]; exact Bool.beq_comm
      have HB3 : Hid (Below w.heap.size w (wr.alloc (.cells #[.string ⟨#[38, 38]⟩, .int .i64 2] 86))) := Lib.hid (HBw.out.alloc HBw.out.size _)
      cases b with
      | true =>
        have hy : Hid (strP y.toList = 2) := Lib.hid (by rw [show y.toList = [38, 38] by simpa using hb2]; rfl)
        go_wp2_with (refine wpList_indexTab rfl _ _ _ rfl _ (hi1 _) ?_)
        go_ret
        rw [hy.out]
        exact ⟨rfl, HB3.out⟩
      | false =>
        have hy : Hid (∀ j, j < 1+1 → y.toList ≠ markAt j) := Lib.hid (fun j hj => by
          rcases Nat.lt_or_ge j 1 with h | h
          · exact HN.out j h
          · obtain rfl : j = 1 := by omega
            simpa [markAt] using hb2)
        go_wp2_with (refine wpList_indexTab rfl _ _ _ rfl _ (hi1 _) ?_)
        go_roundw
        case rel => exact ⟨2, rfl, by omega, hy, HB3⟩
        case measure => simp [Go.RowKit.intOf]
    · obtain ⟨b, hb⟩ : ∃ b, ([61, 61] == y.toList) = b := ⟨_, rfl⟩
      have hb2 : (y.toList == [61, 61]) = b := by rw [← hb]; exact Bool.beq_comm
      have HB3 : Hid (Below w.heap.size w (wr.alloc (.cells #[.string ⟨#[61, 61]⟩, .int .i64 3] 86))) := Lib.hid (HBw.out.alloc HBw.out.size _)
      cases b with
      | true =>
        have hy : Hid (strP y.toList = 3) := Lib.hid (by rw [show y.toList = [61, 61] by simpa using hb2]; rfl)
        go_wp2_with (refine wpList_indexTab rfl _ _ _ rfl _ (hi2 _) ?_)
        go_ret
        rw [hy.out]
        exact ⟨rfl, HB3.out⟩
      | false =>
        have hy : Hid (∀ j, j < 2+1 → y.toList ≠ markAt j) := Lib.hid (fun j hj => by
          rcases Nat.lt_or_ge j 2 with h | h
          · exact HN.out j h
          · obtain rfl : j = 2 := by omega
            simpa [markAt] using hb2)
        go_wp2_with (refine wpList_indexTab rfl _ _ _ rfl _ (hi2 _) ?_)
        go_roundw
        case rel => exact ⟨3, rfl, by omega, hy, HB3⟩
        case measure => simp [Go.RowKit.intOf]
    · obtain ⟨b, hb⟩ : ∃ b, ([33, 61] == y.toList) = b := ⟨_, rfl⟩
      have hb2 : (y.toList == [33, 61]) = b := by rw [← hb]; exact Bool.beq_comm
      have HB3 : Hid (Below w.heap.size w (wr.alloc (.cells #[.string ⟨#[33, 61]⟩, .int .i64 3] 86))) := Lib.hid (HBw.out.alloc HBw.out.size _)
      cases b with
      | true =>
        have hy : Hid (strP y.toList = 3) := Lib.hid (by rw [show y.toList = [33, 61] by simpa using hb2]; rfl)
        go_wp2_with (refine wpList_indexTab rfl _ _ _ rfl _ (hi3 _) ?_)
        go_ret
        rw [hy.out]
        exact ⟨rfl, HB3.out⟩
      | false =>
        have hy : Hid (∀ j, j < 3+1 → y.toList ≠ markAt j) := Lib.hid (fun j hj => by
          rcases Nat.lt_or_ge j 3 with h | h
          · exact HN.out j h
          · obtain rfl : j = 3 := by omega
            simpa [markAt] using hb2)
        go_wp2_with (refine wpList_indexTab rfl _ _ _ rfl _ (hi3 _) ?_)
        go_roundw
        case rel => exact ⟨4, rfl, by omega, hy, HB3⟩
        case measure => simp [Go.RowKit.intOf]
    · obtain ⟨b, hb⟩ : ∃ b, ([60] == y.toList) = b := ⟨_, rfl⟩
      have hb2 : (y.toList == [60]) = b := by rw [← hb]; exact Bool.beq_comm
      have HB3 : Hid (Below w.heap.size w (wr.alloc (.cells #[.string ⟨#[60]⟩, .int .i64 3] 86))) := Lib.hid (HBw.out.alloc HBw.out.size _)
      cases b with
      | true =>
        have hy : Hid (strP y.toList = 3) := Lib.hid (by rw [show y.toList = [60] by simpa using hb2]; rfl)
        go_wp2_with (refine wpList_indexTab rfl _ _ _ rfl _ (hi4 _) ?_)
        go_ret
        rw [hy.out]
        exact ⟨rfl, HB3.out⟩
      | false =>
        have hy : Hid (∀ j, j < 4+1 → y.toList ≠ markAt j) := Lib.hid (fun j hj => by
          rcases Nat.lt_or_ge j 4 with h | h
          · exact HN.out j h
          · obtain rfl : j = 4 := by omega
            simpa [markAt] using hb2)
        go_wp2_with (refine wpList_indexTab rfl _ _ _ rfl _ (hi4 _) ?_)
        go_roundw
        case rel => exact ⟨5, rfl, by omega, hy, HB3⟩
        case measure => simp [Go.RowKit.intOf]
    · obtain ⟨b, hb⟩ : ∃ b, ([60, 61] == y.toList) = b := ⟨_, rfl⟩
      have hb2 : (y.toList == [60, 61]) = b := by rw [← hb]; exact Bool.beq_comm
      have HB3 : Hid (Below w.heap.size w (wr.alloc (.cells #[.string ⟨#[60, 61]⟩, .int .i64 3] 86))) := Lib.hid (HBw.out.alloc HBw.out.size _)
      cases b with
      | true =>
        have hy : Hid (strP y.toList = 3) := Lib.hid (by rw [show y.toList = [60, 61] by simpa using hb2]; rfl)
        go_wp2_with (refine wpList_indexTab rfl _ _ _ rfl _ (hi5 _) ?_)
        go_ret
        rw [hy.out]
        exact ⟨rfl, HB3.out⟩
      | false =>
        have hy : Hid (∀ j, j < 5+1 → y.toList ≠ markAt j) := Lib.hid (fun j hj => by
          rcases Nat.lt_or_ge j 5 with h | h
          · exact HN.out j h
          · obtain rfl : j = 5 := by omega
            simpa [markAt] using hb2)
        go_wp2_with (refine wpList_indexTab rfl _ _ _ rfl _ (hi5 _) ?_)
        go_roundw
        case rel => exact ⟨6, rfl, by omega, hy, HB3⟩
        case measure => simp [Go.RowKit.intOf]
    · obtain ⟨b, hb⟩ : ∃ b, ([62] == y.toList) = b := ⟨_, rfl⟩
      have hb2 : (y.toList == [62]) = b := by rw [← hb]; exact Bool.beq_comm
      have HB3 : Hid (Below w.heap.size w (wr.alloc (.cells #[.string ⟨#[62]⟩, .int .i64 3] 86))) := Lib.hid (HBw.out.alloc HBw.out.size _)
      cases b with
      | true =>
        have hy : Hid (strP y.toList = 3) := Lib.hid (by rw [show y.toList = [62] by simpa using hb2]; rfl)
        go_wp2_with (refine wpList_indexTab rfl _ _ _ rfl _ (hi6 _) ?_)
        go_ret
        rw [hy.out]
        exact ⟨rfl, HB3.out⟩
      | false =>
        have hy : Hid (∀ j, j < 6+1 → y.toList ≠ markAt j) := Lib.hid (fun j hj => by
          rcases Nat.lt_or_ge j 6 with h | h
          · exact HN.out j h
          · obtain rfl : j = 6 := by omega
            simpa [markAt] using hb2)
        go_wp2_with (refine wpList_indexTab rfl _ _ _ rfl _ (hi6 _) ?_)
        go_roundw
        case rel => exact ⟨7, rfl, by omega, hy, HB3⟩
        case measure => simp [Go.RowKit.intOf]
    · obtain ⟨b, hb⟩ : ∃ b, ([62, 61] == y.toList) = b := ⟨_, rfl⟩
      have hb2 : (y.toList == [62, 61]) = b := by rw [← hb]; exact Bool.beq_comm
      have HB3 : Hid (Below w.heap.size w (wr.alloc (.cells #[.string ⟨#[62, 61]⟩, .int .i64 3] 86))) := Lib.hid (HBw.out.alloc HBw.out.size _)
      cases b with
      | true =>
        have hy : Hid (strP y.toList = 3) := Lib.hid (by rw [show y.toList = [62, 61] by simpa using hb2]; rfl)
        go_wp2_with (refine wpList_indexTab rfl _ _ _ rfl _ (hi7 _) ?_)
        go_ret
        rw [hy.out]
        exact ⟨rfl, HB3.out⟩
      | false =>
        have hy : Hid (∀ j, j < 7+1 → y.toList ≠ markAt j) := Lib.hid (fun j hj => by
          rcases Nat.lt_or_ge j 7 with h | h
          · exact HN.out j h
          · obtain rfl : j = 7 := by omega
            simpa [markAt] using hb2)
        go_wp2_with (refine wpList_indexTab rfl _ _ _ rfl _ (hi7 _) ?_)
        go_roundw
        case rel => exact ⟨8, rfl, by omega, hy, HB3⟩
        case measure => simp [Go.RowKit.intOf]
    · obtain ⟨b, hb⟩ : ∃ b, ([43] == y.toList) = b := ⟨_, rfl⟩
      have hb2 : (y.toList == [43]) = b := by rw [← hb]; exact Bool.beq_comm
      have HB3 : Hid (Below w.heap.size w (wr.alloc (.cells #[.string ⟨#[43]⟩, .int .i64 4] 86))) := Lib.hid (HBw.out.alloc HBw.out.size _)
      cases b with
      | true =>
        have hy : Hid (strP y.toList = 4) := Lib.hid (by rw [show y.toList = [43] by simpa using hb2]; rfl)
        go_wp2_with (refine wpList_indexTab rfl _ _ _ rfl _ (hi8 _) ?_)
        go_ret
        rw [hy.out]
        exact ⟨rfl, HB3.out⟩
      | false =>
        have hy : Hid (∀ j, j < 8+1 → y.toList ≠ markAt j) := Lib.hid (fun j hj => by
          rcases Nat.lt_or_ge j 8 with h | h
          · exact HN.out j h
          · obtain rfl : j = 8 := by omega
            simpa [markAt] using hb2)
        go_wp2_with (refine wpList_indexTab rfl _ _ _ rfl _ (hi8 _) ?_)
        go_roundw
        case rel => exact ⟨9, rfl, by omega, hy, HB3⟩
        case measure => simp [Go.RowKit.intOf]
    · obtain ⟨b, hb⟩ : ∃ b, ([45] == y.toList) = b := ⟨_, rfl⟩
      have hb2 : (y.toList == [45]) = b := by rw [← hb]; exact Bool.beq_comm
      have HB3 : Hid (Below w.heap.size w (wr.alloc (.cells #[.string ⟨#[45]⟩, .int .i64 4] 86))) := Lib.hid (HBw.out.alloc HBw.out.size _)
      cases b with
      | true =>
        have hy : Hid (strP y.toList = 4) := Lib.hid (by rw [show y.toList = [45] by simpa using hb2]; rfl)
        go_wp2_with (refine wpList_indexTab rfl _ _ _ rfl _ (hi9 _) ?_)
        go_ret
        rw [hy.out]
        exact ⟨rfl, HB3.out⟩
      | false =>
        have hy : Hid (∀ j, j < 9+1 → y.toList ≠ markAt j) := Lib.hid (fun j hj => by
          rcases Nat.lt_or_ge j 9 with h | h
          · exact HN.out j h
          · obtain rfl : j = 9 := by omega
            simpa [markAt] using hb2)
        go_wp2_with (refine wpList_indexTab rfl _ _ _ rfl _ (hi9 _) ?_)
        go_roundw
        case rel => exact ⟨10, rfl, by omega, hy, HB3⟩
        case measure => simp [Go.RowKit.intOf]
    · obtain ⟨b, hb⟩ : ∃ b, ([42] == y.toList) = b := ⟨_, rfl⟩
      have hb2 : (y.toList == [42]) = b := by rw [← hb]; exact Bool.beq_comm
      have HB3 : Hid (Below w.heap.size w (wr.alloc (.cells #[.string ⟨#[42]⟩, .int .i64 5] 86))) := Lib.hid (HBw.out.alloc HBw.out.size _)
      cases b with
      | true =>
        have hy : Hid (strP y.toList = 5) := Lib.hid (by rw [show y.toList = [42] by simpa using hb2]; rfl)
        go_wp2_with (refine wpList_indexTab rfl _ _ _ rfl _ (hi10 _) ?_)
        go_ret
        rw [hy.out]
        exact ⟨rfl, HB3.out⟩
      | false =>
        have hy : Hid (∀ j, j < 10+1 → y.toList ≠ markAt j) := Lib.hid (fun j hj => by
          rcases Nat.lt_or_ge j 10 with h | h
          · exact HN.out j h
          · obtain rfl : j = 10 := by omega
            simpa [markAt] using hb2)
        go_wp2_with (refine wpList_indexTab rfl _ _ _ rfl _ (hi10 _) ?_)
        go_roundw
        case rel => exact ⟨11, rfl, by omega, hy, HB3⟩
        case measure => simp [Go.RowKit.intOf]
    · obtain ⟨b, hb⟩ : ∃ b, ([47] == y.toList) = b := ⟨_, rfl⟩
      have hb2 : (y.toList == [47]) = b := by rw [← hb]; exact Bool.beq_comm
      have HB3 : Hid (Below w.heap.size w (wr.alloc (.cells #[.string ⟨#[47]⟩, .int .i64 5] 86))) := Lib.hid (HBw.out.alloc HBw.out.size _)
      cases b with
      | true =>
        have hy : Hid (strP y.toList = 5) := Lib.hid (by rw [show y.toList = [47] by simpa using hb2]; rfl)
        go_wp2_with (refine wpList_indexTab rfl _ _ _ rfl _ (hi11 _) ?_)
        go_ret
        rw [hy.out]
        exact ⟨rfl, HB3.out⟩
      | false =>
        have hy : Hid (∀ j, j < 11+1 → y.toList ≠ markAt j) := Lib.hid (fun j hj => by
          rcases Nat.lt_or_ge j 11 with h | h
          · exact HN.out j h
          · obtain rfl : j = 11 := by omega
            simpa [markAt] using hb2)
        go_wp2_with (refine wpList_indexTab rfl _ _ _ rfl _ (hi11 _) ?_)
        go_roundw
        case rel => exact ⟨12, rfl, by omega, hy, HB3⟩
        case measure => simp [Go.RowKit.intOf]
    · obtain ⟨b, hb⟩ : ∃ b, ([37] == y.toList) = b := ⟨_, rfl⟩
      have hb2 : (y.toList == [37]) = b := by rw [← hb]; exact Bool.beq_comm
      have HB3 : Hid (Below w.heap.size w (wr.alloc (.cells #[.string ⟨#[37]⟩, .int .i64 5] 86))) := Lib.hid (HBw.out.alloc HBw.out.size _)
      cases b with
      | true =>
        have hy : Hid (strP y.toList = 5) := Lib.hid (by rw [show y.toList = [37] by simpa using hb2]; rfl)
        go_wp2_with (refine wpList_indexTab rfl _ _ _ rfl _ (hi12 _) ?_)
        go_ret
        rw [hy.out]
        exact ⟨rfl, HB3.out⟩
      | false =>
        have hy : Hid (∀ j, j < 12+1 → y.toList ≠ markAt j) := Lib.hid (fun j hj => by
          rcases Nat.lt_or_ge j 12 with h | h
          · exact HN.out j h
          · obtain rfl : j = 12 := by omega
            simpa [markAt] using hb2)
        go_wp2_with (refine wpList_indexTab rfl _ _ _ rfl _ (hi12 _) ?_)
        go_roundw
        case rel => exact ⟨13, rfl, by omega, hy, HB3⟩
        case measure => simp [Go.RowKit.intOf]
    · have hy : Hid (strP y.toList = 0) := Lib.hid (strP_none (fun j hj => HN.out j hj))
      go_wp2_with fail
      go_ret
      rw [hy.out]
      exact ⟨rfl, HBw.out⟩
end
end Go.Proofs.YtnjhmjkonmmomaaDoor.K
end
/- KRest: The program's reader: result, behind. -/
section
namespace Go.Proofs.YtnjhmjkonmmomaaDoor.K
open Go.RowKit
open Go.Lib hiding intOf
open Go.Proofs.YtnjhmjkonmmomaaDoor.U Go.Proofs.YtnjhmjkonmmomaaDoor.S Go.Proofs.YtnjhmjkonmmomaaDoor.T

section
variable {d : Nat} {L : List TokP} {size : Nat} {lv : Value} {s : St} {O : Nat → Prop}
theorem wrap_some {k : By} {O O' : List Open} (h : wrapO k O = some O') : ∃ a r l p, O = a :: r ∧ a.kids = l ++ [p] ∧ O' = ⟨k, [], a.kf, [p], 0⟩ :: { a with kids := l } :: r := by
  cases O with
  | nil => cases h
  | cons a r =>
    unfold wrapO at h
    dsimp only at h
    cases hk : a.kids.getLast? with
    | none => rw [hk] at h; cases h
    | some p =>
      rw [hk] at h
      obtain ⟨ys, h1⟩ := List.getLast?_eq_some_iff.1 hk
      rw [h1, List.dropLast_concat] at h
      exact ⟨a, r, ys, p, rfl, h1, (Option.some.inj h).symm⟩
set_option maxHeartbeats 4000000 in
set_option maxRecDepth 20000 in
theorem g_result {W : World} (hM : Mem d L size lv s O W) (hs : Small L s) (hs1 : s.opn.length < 1000000) (hr : execM L size .result s ≠ .stuck) (ho : ∃ a r, s.opn = a :: r) : Calls Tryd.prog 39 #[ptr d] W (Does d L size lv s.i O W (execM L size .result s)) := by
  obtain ⟨a, r, ho⟩ := ho
  have hmf := hmf
  simp only [execM] at hr ⊢
  cases h0 : isP L size [123] s.i with
  | true =>
    rw [h0, if_pos rfl] at hr
    rw [if_pos rfl]
    have hi : ¬ s.i = 0 := fun h => hr (by rw [if_pos h])
    rw [if_neg hi, ho]
    dsimp only
    go_enter Tryd.func39, Tryd.ntmps39
    go_wp2_with fail
    refine (begin_any hM hs.i kResult hs.opn).mono ?_
    rintro e v1 ⟨rfl, O1, hM1, hS1⟩
    dsimp only
    go_wp2_with fail
    have c2 := is_any hM1 hs.i [123]
    dsimp only at c2
    rw [h0] at c2
    refine c2.mono ?_
    rintro e v2 ⟨rfl, hb2⟩
    dsimp only
    have hM2 := hM1.below hb2
    go_wp2_with fail
    refine (g_fin hM2 ⟨hs.i, hs.len, hs.todo, by show s.opn.length + 1 ≤ _; omega, fun q hq => by
      rcases List.mem_cons.1 hq with rfl | hq
      · exact Nat.zero_le _
      · exact hs.kids q hq⟩ ⟨kResult, [], (tok L size s.i).f, [], 0⟩ a r (by show _ :: s.opn = _; rw [ho]) (by show 0 < s.i; omega) (.mk kResult [] 0 0 []) rfl).mono ?_
    rintro e v3 ⟨rfl, O3, hM3, hS3⟩
    dsimp only
    (try go_wp2_with fail)
    first | go_end0 | refine bodyPost_ret (results_none rfl _ _ _) rfl ?_
    exact ⟨rfl, O3, hM3, (hS1.trans (Stay.of_below hb2)).trans hS3⟩
  | false =>
    rw [if_neg (by decide)]
    go_enter Tryd.func39, Tryd.ntmps39
    go_wp2_with fail
    refine (begin_any hM hs.i kResult hs.opn).mono ?_
    rintro e v1 ⟨rfl, O1, hM1, hS1⟩
    dsimp only
    go_wp2_with fail
    have c2 := is_any hM1 hs.i [123]
    dsimp only at c2
    rw [h0] at c2
    refine c2.mono ?_
    rintro e v2 ⟨rfl, hb2⟩
    dsimp only
    have hM2 := hM1.below hb2
    go_wp2_with fail
    refine (then_lit hM2 [.m .typeOf, .m .fin] [.func (.func 64) #[ptr d] #[], .func (.func 41) #[ptr d] #[]] 2 rfl ⟨_, _, rfl, rfl, ⟨_, _, rfl, rfl, rfl⟩⟩ (by decide) hs.todo).mono ?_
    rintro e v11 ⟨rfl, O11, hM11, hS11⟩
    dsimp only
    (try go_wp2_with fail)
    first | go_end0 | refine bodyPost_ret (results_none rfl _ _ _) rfl ?_
    exact ⟨rfl, O11, hM11, ((hS1.trans (Stay.of_below hb2)).trans hS11)⟩
set_option maxHeartbeats 4000000 in
set_option maxRecDepth 20000 in
theorem g_behind {W : World} (hM : Mem d L size lv s O W) (hs : Small L s) (hr : execM L size .behind s ≠ .stuck) : Calls Tryd.prog 87 #[ptr d] W (Does d L size lv s.i O W (execM L size .behind s)) := by
  obtain ⟨tw, tf, te, y, hP, _, _, c1⟩ := next_txt hM hs.i
  have hmf := hmf
  have hfl := fun X => fld1 (.int .i64 tw) (.string y) (.int .i64 tf) (.int .i64 te) X
  simp only [execM, hP] at hr ⊢
  clear hP
  obtain ⟨b0, h0⟩ : ∃ b, (y.toList == [46]) = b := ⟨_, rfl⟩
  cases b0 with
  | true =>
    rw [if_pos h0] at hr
    rw [if_pos h0]
    cases hw : wrapO kField s.opn with
    | none => rw [hw] at hr; exact absurd rfl hr
    | some O' =>
      obtain ⟨a, r, l, p, ho, hk, rfl⟩ := wrap_some hw
      clear hr hw
      go_enter Tryd.func87, Tryd.ntmps87
      go_wp2_with fail
      refine c1.mono ?_
      rintro e v0 ⟨rfl, hb0⟩
      dsimp only
      have hM0 := hM.below hb0
      go_wp2_with fail
      refine (g_wrap hM0 hs kField a r ho l p hk).mono ?_
      rintro e v1 ⟨rfl, O1, hM1, hS1⟩
      dsimp only
      go_wp2_with fail
      refine (word_make hM1 [46]).mono ?_
      rintro e v11 ⟨p11, q11, rfl, hp11, hq11, hb11⟩
      dsimp only
      have hM11 := hM1.below hb11
      go_wp2_with fail
      refine (then_lit hM11 [.word [46], .m .name, .m .fin, .m .behind] [.func (.func 59) #[] #[ptr p11, ptr q11], .func (.func 37) #[ptr d] #[], .func (.func 41) #[ptr d] #[], .func (.func 87) #[ptr d] #[]] 4 rfl ⟨_, _, rfl, ⟨p11, q11, rfl, hp11, hq11⟩, ⟨_, _, rfl, rfl, ⟨_, _, rfl, rfl, ⟨_, _, rfl, rfl, rfl⟩⟩⟩⟩ (by decide) hs.todo).mono ?_
      rintro e v12 ⟨rfl, O12, hM12, hS12⟩
      dsimp only
      (try go_wp2_with fail)
      first | go_end0 | refine bodyPost_ret (results_none rfl _ _ _) rfl ?_
      exact ⟨rfl, O12, hM12, ((((Stay.of_below hb0).trans hS1).trans (Stay.of_below hb11)).trans hS12)⟩
  | false =>
  rw [if_neg (show ¬ (y.toList == [46]) = true by rw [h0]; decide)] at hr
  rw [if_neg (show ¬ (y.toList == [46]) = true by rw [h0]; decide)]
  obtain ⟨b1, h1⟩ : ∃ b, (y.toList == [91]) = b := ⟨_, rfl⟩
  cases b1 with
  | true =>
    rw [if_pos h1] at hr
    rw [if_pos h1]
    cases hw : wrapO kIndex s.opn with
    | none => rw [hw] at hr; exact absurd rfl hr
    | some O' =>
      obtain ⟨a, r, l, p, ho, hk, rfl⟩ := wrap_some hw
      clear hr hw
      go_enter Tryd.func87, Tryd.ntmps87
      go_wp2_with fail
      refine c1.mono ?_
      rintro e v0 ⟨rfl, hb0⟩
      dsimp only
      have hM0 := hM.below hb0
      go_wp2_with fail
      refine (g_wrap hM0 hs kIndex a r ho l p hk).mono ?_
      rintro e v1 ⟨rfl, O1, hM1, hS1⟩
      dsimp only
      go_wp2_with fail
      refine (word_make hM1 [91]).mono ?_
      rintro e v11 ⟨p11, q11, rfl, hp11, hq11, hb11⟩
      dsimp only
      have hM11 := hM1.below hb11
      go_wp2_with fail
      refine (word_make hM11 [93]).mono ?_
      rintro e v12 ⟨p12, q12, rfl, hp12, hq12, hb12⟩
      dsimp only
      replace hp11 := hp11.below hb12
      replace hq11 := hq11.below hb12
      have hM12 := hM11.below hb12
      go_wp2_with fail
      refine (then_lit hM12 [.word [91], .m .expr, .word [93], .m .fin, .m .behind] [.func (.func 59) #[] #[ptr p11, ptr q11], .func (.func 77) #[ptr d] #[], .func (.func 59) #[] #[ptr p12, ptr q12], .func (.func 41) #[ptr d] #[], .func (.func 87) #[ptr d] #[]] 5 rfl ⟨_, _, rfl, ⟨p11, q11, rfl, hp11, hq11⟩, ⟨_, _, rfl, rfl, ⟨_, _, rfl, ⟨p12, q12, rfl, hp12, hq12⟩, ⟨_, _, rfl, rfl, ⟨_, _, rfl, rfl, rfl⟩⟩⟩⟩⟩ (by decide) hs.todo).mono ?_
      rintro e v13 ⟨rfl, O13, hM13, hS13⟩
      dsimp only
      (try go_wp2_with fail)
      first | go_end0 | refine bodyPost_ret (results_none rfl _ _ _) rfl ?_
      exact ⟨rfl, O13, hM13, (((((Stay.of_below hb0).trans hS1).trans (Stay.of_below hb11)).trans (Stay.of_below hb12)).trans hS13)⟩
  | false =>
  rw [if_neg (show ¬ (y.toList == [91]) = true by rw [h1]; decide)]
  clear hr
  go_enter Tryd.func87, Tryd.ntmps87
  go_wp2_with fail
  refine c1.mono ?_
  rintro e v0 ⟨rfl, hb0⟩
  dsimp only
  have hM0 := hM.below hb0
  go_wp2_with fail
  first | go_end0 | refine bodyPost_ret (results_none rfl _ _ _) rfl ?_
  exact ⟨rfl, O, hM0, .of_below hb0⟩
end
end Go.Proofs.YtnjhmjkonmmomaaDoor.K
end
/- KBetw: The program's reader: between. -/
section
namespace Go.Proofs.YtnjhmjkonmmomaaDoor.K
open Go.RowKit
open Go.Lib hiding intOf
open Go.Proofs.YtnjhmjkonmmomaaDoor.U Go.Proofs.YtnjhmjkonmmomaaDoor.S Go.Proofs.YtnjhmjkonmmomaaDoor.T

section
variable {d : Nat} {L : List TokP} {size : Nat} {lv : Value} {s : St} {O : Nat → Prop}
def opnLen (d : Nat) (W : World) : Nat := match W.cell? ⟨d, 3, none⟩ with
  | some (.slice _ n _) => n
  | _ => 0
theorem opn_len {W : World} (h : Mem d L size lv s O W) : opnLen d W = s.opn.length := by
  obtain ⟨tv, ov, bs, vs, xs, h⟩ := h
  obtain ⟨a, c, rfl⟩ := owns_len h.opnR
  have hb := h.blk
  unfold opnLen
  simp [World.cell?, hb]
theorem settle_or {e σ : Int} {C O' : List Open} (h : settleO e σ C = some O') : ∃ o r, C = o :: r ∧
    ((¬ (o.k = kBinary ∧ σ ≤ strP o.t) ∧ O' = o :: r) ∨ ((o.k = kBinary ∧ σ ≤ strP o.t) ∧ ∃ a r', r = a :: r' ∧ settleO e σ (a.add (.mk o.k o.t o.f e o.kids) o.f :: r') = some O')) := by
  cases C with
  | nil => cases h
  | cons o r =>
    refine ⟨o, r, rfl, ?_⟩
    cases r with
    | nil =>
      by_cases hc : o.k = kBinary ∧ σ ≤ strP o.t
      · simp [settleO, settle, hc] at h
      · simp only [settleO, settle, hc, if_false] at h
        exact .inl ⟨hc, (Option.some.inj h).symm⟩
    | cons a r' =>
      by_cases hc : o.k = kBinary ∧ σ ≤ strP o.t
      · refine .inr ⟨hc, a, r', rfl, ?_⟩
        unfold settleO at h ⊢
        dsimp only at h ⊢
        simp only [settle] at h
        rw [if_pos hc] at h
        exact h
      · unfold settleO at h
        dsimp only at h
        simp only [settle] at h
        rw [if_neg hc] at h
        exact .inl ⟨hc, (Option.some.inj h).symm⟩
set_option maxHeartbeats 8000000 in
set_option maxRecDepth 20000 in
theorem g_between {W : World} (hM : Mem d L size lv s O W) (hs : Small L s) (hG : PTab O W) (hk1 : ∀ o ∈ s.opn, o.kids.length < 1000000) (hr : execM L size .between s ≠ .stuck) : Calls Tryd.prog 83 #[ptr d] W (Does d L size lv s.i O W (execM L size .between s)) := by
  obtain ⟨tw, tf, te, y, _, _, hy, c1⟩ := next_txt hM hs.i
  have hmf := hmf
  have hfl := fun X => fld1 (.int .i64 tw) (.string y) (.int .i64 tf) (.int .i64 te) X
  simp only [execM, betweenM] at hr ⊢
  have hi : ¬ s.i = 0 := fun h => hr (by rw [if_pos h])
  rw [if_neg hi] at hr ⊢
  rw [hy] at hr ⊢
  obtain ⟨en, hen⟩ : ∃ e, (tok L size (s.i - 1)).e = e := ⟨_, rfl⟩
  obtain ⟨σ, hσ⟩ : ∃ e, strP y.toList = e := ⟨_, rfl⟩
  rw [hen, hσ] at hr ⊢
  cases hset : settleO en σ s.opn with
  | none => rw [hset] at hr; exact absurd rfl hr
  | some C =>
    rw [hset] at hr
    dsimp only at hr ⊢
    obtain ⟨R, hR⟩ : ∃ R, (if 0 < σ then ofOpt s.i ([.m .text, .m .pre, .m .between] ++ s.todo) (wrapO kBinary C) else Res.go ⟨s.i, s.todo, C⟩) = R := ⟨_, rfl⟩
    rw [hR] at hr ⊢
    have HR := Lib.hid hR
    have HSet := Lib.hid hset
    have Hen := Lib.hid hen
    have HM := Lib.hid hM
    have HG := Lib.hid hG
    have HK1 := Lib.hid hk1
    have cS := fun X (h : CellsAt X 2 0 tabS) => str_any y X h
    rw [hσ] at cS
    clear hset hR hen hM hG hk1 hy hσ
    go_enter Tryd.func83, Tryd.ntmps83
    go_wp2_with fail
    refine c1.mono ?_
    rintro e v0 ⟨rfl, hb0⟩
    dsimp only
    have HG0 := Lib.hid (HG.out.stay (.of_below hb0))
    have HM0 := Lib.hid (HM.out.below hb0)
    have HS0 := Lib.hid (Stay.of_below (O := O) hb0)
    clear hb0 c1
    go_wp2_with fail
    refine (cS _ HG0.out.2).mono ?_
    rintro e v1 ⟨rfl, hb1⟩
    dsimp only
    have HG1 := Lib.hid (HG0.out.stay (.of_below hb1))
    have HM1 := Lib.hid (HM0.out.below hb1)
    have HS1 := Lib.hid (HS0.out.trans (Stay.of_below hb1))
    clear hb1 cS HG0 HM0 HS0
    go_wp2_with fail
    go_loopw [] (fun wr => ∃ (X : List Open) (O' : Nat → Prop), Hid (settleO en σ X = some C) ∧ Hid (Mem d L size lv { s with opn := X } O' wr) ∧ Hid (Stay O O' W wr) ∧ Hid (PTab O' wr) ∧ Hid (X.length ≤ s.opn.length) ∧ Hid (∀ o r, X = o :: r → o.kids.length ≤ 1000000 ∧ ∀ q ∈ r, q.kids.length < 1000000)) (fun wr => opnLen d wr)
    case atStart => exact ⟨s.opn, O, HSet, HM1, HS1, HG1, Lib.hid (Nat.le_refl _), Lib.hid (fun o r h => ⟨Nat.le_of_lt (HK1.out o (by rw [h]; exact List.mem_cons_self)), fun q hq => HK1.out q (by rw [h]; exact List.mem_cons_of_mem _ hq)⟩)⟩
    case round =>
      obtain ⟨X, O', HX, HMX, HSX, HGX, HL, HKX⟩ := hrel
      have hlen := Lib.hid (opn_len HMX.out)
      obtain ⟨o, r, rfl, hor⟩ := settle_or HX.out
      obtain ⟨tv, ov, bs, us, xs, hXX⟩ := id HMX.out
      obtain ⟨g, c, kv, ks, us1, bs1, hT⟩ := top_of hXX (o := o) (r := r) rfl
      have hrl : r.length ≤ 1000000 := by have h1 := HL.out; have h2 := hs.opn; rw [List.length_cons] at h1; omega
      have cT := fun (X : World) (hb : Below wr.heap.size wr X) => top_any hXX hT hrl hb
      have k0 := hT.cell 0 _ rfl
      have k1 := hT.cell 1 _ rfl
      rw [Nat.add_zero] at k0
      obtain ⟨ko, hko, hkt⟩ := bstr_str o.k
      obtain ⟨tk, hto, htt⟩ := bstr_str o.t
      rw [hko] at k0
      rw [hto] at k1
      have hgl := hT.lt
      have HT := Lib.hid hT
      have HOR := Lib.hid hor
      clear hor hXX hT hko hto HM1 HS1 HG1
      by_cases hbin : o.k = kBinary
      · have h1 : (ko.toList == [98, 105, 110, 97, 114, 121]) = true := by rw [← hkt, hbin]; rfl
        have cS2 := fun X (h : CellsAt X 2 0 tabS) => str_any tk X h
        rw [← htt] at cS2
        obtain ⟨σ2, hσ2⟩ : ∃ e, strP o.t = e := ⟨_, rfl⟩
        rw [hσ2] at cS2
        have HC2 := Lib.hid hσ2
        have HB := Lib.hid hbin
        clear hkt htt hσ2 hbin
        by_cases hge : σ ≤ σ2
        · have hd1 : decide (σ ≤ σ2) = true := by simpa using hge
          go_wp2_with fail
          refine (cT wr (Below.refl _ _)).mono ?_
          rintro e w1 ⟨rfl, m1, rfl⟩
          dsimp only
          replace k0 : (wr.drewN m1).cell? _ = _ := k0
          replace k1 : (wr.drewN m1).cell? _ = _ := k1
          have HBd := Lib.hid (drewB' wr m1)
          have cT1 := cT _ HBd.out
          generalize wr.drewN m1 = W1 at k0 k1 HBd cT1 ⊢
          go_wp2_with fail
          refine cT1.mono ?_
          rintro e w2 ⟨rfl, m2, rfl⟩
          dsimp only
          replace k1 : (W1.drewN m2).cell? _ = _ := k1
          have HBd2 : Hid (Below wr.heap.size wr (W1.drewN m2)) := Lib.hid (HBd.out.trans ⟨rfl, rfl, rfl, Nat.le_refl _, fun _ _ => rfl⟩)
          generalize W1.drewN m2 = W2 at k1 HBd2 ⊢
          have HG2 := Lib.hid (HGX.out.stay (.of_below HBd2.out))
          clear k0 cT cT1 HBd
          go_wp2_with fail
          refine (cS2 _ HG2.out.2).mono ?_
          rintro e w3 ⟨rfl, hb3⟩
          dsimp only
          have HBd3 := Lib.hid (HBd2.out.trans (hb3.mono HBd2.out.size))
          clear hb3 k1 cS2
          obtain ⟨_, a, r', rfl, hset'⟩ := HOR.out.resolve_left (fun h => h.1 ⟨HB.out, by rw [HC2.out]; exact hge⟩)
          go_wp2_with fail
          refine (g_fin (HMX.out.below HBd3.out) ⟨hs.i, hs.len, hs.todo, Nat.le_trans HL.out hs.opn, fun q hq => by
            have h := HKX.out o (a :: r') rfl
            rcases List.mem_cons.1 hq with rfl | hq
            · exact h.1
            · exact Nat.le_of_lt (h.2 q hq)⟩ o a r' rfl (by show 0 < s.i; omega) (.mk o.k o.t o.f en o.kids) (by
              show o.close (tok L size (s.i - 1)).e = _
              rw [Hen.out]
              unfold Open.close
              rw [if_neg (by rw [HB.out]; decide), if_neg (by rw [HB.out]; decide)])).mono ?_
          rintro e w4 ⟨rfl, O4, hM4, hS4⟩
          dsimp only
          have HM4 := Lib.hid hM4
          have HS4 := Lib.hid (((HSX.out.trans (Stay.of_below HBd3.out)).trans hS4))
          have HG4 := Lib.hid ((HGX.out.stay (.of_below HBd3.out)).stay hS4)
          clear hM4 hS4
          go_wp2_with fail
          go_roundw
          case rel => exact ⟨a.add (.mk o.k o.t o.f en o.kids) o.f :: r', O4, Lib.hid hset', HM4, HS4, HG4, Lib.hid (by have := HL.out; simp only [List.length_cons] at this ⊢; omega), Lib.hid (fun q r2 hq => by
            have h := (HKX.out o (a :: r') rfl).2
            cases hq
            exact ⟨by show (a.kids ++ [_]).length ≤ _; rw [List.length_append]; have := h a List.mem_cons_self; simp; omega, fun q hq => h q (List.mem_cons_of_mem _ hq)⟩)⟩
          case measure => rw [hlen.out, opn_len HM4.out]; show r'.length + 1 < r'.length + 1 + 1; omega
        · have hd1 : decide (σ ≤ σ2) = false := by simpa using hge
          go_wp2_with fail
          refine (cT wr (Below.refl _ _)).mono ?_
          rintro e w1 ⟨rfl, m1, rfl⟩
          dsimp only
          replace k0 : (wr.drewN m1).cell? _ = _ := k0
          replace k1 : (wr.drewN m1).cell? _ = _ := k1
          have HBd := Lib.hid (drewB' wr m1)
          have cT1 := cT _ HBd.out
          generalize wr.drewN m1 = W1 at k0 k1 HBd cT1 ⊢
          go_wp2_with fail
          refine cT1.mono ?_
          rintro e w2 ⟨rfl, m2, rfl⟩
          dsimp only
          replace k1 : (W1.drewN m2).cell? _ = _ := k1
          have HBd2 : Hid (Below wr.heap.size wr (W1.drewN m2)) := Lib.hid (HBd.out.trans ⟨rfl, rfl, rfl, Nat.le_refl _, fun _ _ => rfl⟩)
          generalize W1.drewN m2 = W2 at k1 HBd2 ⊢
          have HG2 := Lib.hid (HGX.out.stay (.of_below HBd2.out))
          clear k0 cT cT1 HBd
          go_wp2_with fail
          refine (cS2 _ HG2.out.2).mono ?_
          rintro e w3 ⟨rfl, hb3⟩
          dsimp only
          have HBd3 := Lib.hid (HBd2.out.trans (hb3.mono HBd2.out.size))
          clear hb3 k1 cS2
          obtain ⟨_, rfl⟩ : _ ∧ C = o :: r := by
            rcases HOR.out with h | h
            · exact ⟨h.1, h.2⟩
            · exact absurd h.1.2 (by rw [HC2.out]; omega)
          have HM5 := Lib.hid (HMX.out.below HBd3.out)
          have HS5 := Lib.hid (HSX.out.trans (Stay.of_below HBd3.out))
          have hRR := HR.out
          by_cases hpos : 0 < σ
          · rw [if_pos hpos] at hRR
            have hd2 : decide (0 < σ) = true := by simpa using hpos
            cases hw : wrapO kBinary (o :: r) with
            | none => rw [hw] at hRR; exact absurd hRR.symm hr
            | some O5 =>
              rw [hw] at hRR
              obtain ⟨a, r2, l, p, ho, hk, rfl⟩ := wrap_some hw
              cases ho
              obtain rfl := hRR
              clear hw hr HR
              go_wp2_with fail
              refine (g_wrap HM5.out ⟨hs.i, hs.len, hs.todo, Nat.le_trans HL.out hs.opn, fun q hq => by
                have h := HKX.out o r rfl
                rcases List.mem_cons.1 hq with rfl | hq
                · exact h.1
                · exact Nat.le_of_lt (h.2 q hq)⟩ kBinary o r rfl l p hk).mono ?_
              rintro e v5 ⟨rfl, O5, hM6, hS6⟩
              dsimp only
              go_wp2_with fail
              refine (then_lit hM6 [.m .text, .m .pre, .m .between] [.func (.func 85) #[ptr d] #[], .func (.func 82) #[ptr d] #[], .func (.func 83) #[ptr d] #[]] 3 rfl ⟨_, _, rfl, rfl, ⟨_, _, rfl, rfl, ⟨_, _, rfl, rfl, rfl⟩⟩⟩ (by decide) hs.todo).mono ?_
              rintro e v21 ⟨rfl, O21, hM21, hS21⟩
              dsimp only
              (try go_wp2_with fail)
              first | go_end0 | refine bodyPost_ret (results_none rfl _ _ _) rfl ?_
              exact ⟨rfl, O21, hM21, ((HS5.out.trans hS6).trans hS21)⟩
          · rw [if_neg hpos] at hRR
            have hd2 : decide (0 < σ) = false := by simpa using hpos
            obtain rfl := hRR
            clear hr HR
            go_wp2_with fail
            first | go_end0 | refine bodyPost_ret (results_none rfl _ _ _) rfl ?_
            exact ⟨rfl, O', HM5.out, HS5.out⟩
      · have h1 : (ko.toList == [98, 105, 110, 97, 114, 121]) = false := by rw [← hkt]; exact beq_eq_false_iff_ne.2 hbin
        obtain ⟨_, rfl⟩ : _ ∧ C = o :: r := by
          rcases HOR.out with h | h
          · exact ⟨h.1, h.2⟩
          · exact absurd h.1.1 hbin
        clear hkt htt hbin
        go_wp2_with fail
        refine (cT wr (Below.refl _ _)).mono ?_
        rintro e w1 ⟨rfl, m1, rfl⟩
        dsimp only
        replace k0 : (wr.drewN m1).cell? _ = _ := k0
        have HBd3 := Lib.hid (drewB' wr m1)
        clear k1 cT
        generalize wr.drewN m1 = w3 at k0 HBd3 ⊢
        have HM5 := Lib.hid (HMX.out.below HBd3.out)
        have HS5 := Lib.hid (HSX.out.trans (Stay.of_below HBd3.out))
        have hRR := HR.out
        by_cases hpos : 0 < σ
        · rw [if_pos hpos] at hRR
          have hd2 : decide (0 < σ) = true := by simpa using hpos
          cases hw : wrapO kBinary (o :: r) with
          | none => rw [hw] at hRR; exact absurd hRR.symm hr
          | some O5 =>
            rw [hw] at hRR
            obtain ⟨a, r2, l, p, ho, hk, rfl⟩ := wrap_some hw
            cases ho
            obtain rfl := hRR
            clear hw hr HR
            go_wp2_with fail
            refine (g_wrap HM5.out ⟨hs.i, hs.len, hs.todo, Nat.le_trans HL.out hs.opn, fun q hq => by
              have h := HKX.out o r rfl
              rcases List.mem_cons.1 hq with rfl | hq
              · exact h.1
              · exact Nat.le_of_lt (h.2 q hq)⟩ kBinary o r rfl l p hk).mono ?_
            rintro e v5 ⟨rfl, O5, hM6, hS6⟩
            dsimp only
            go_wp2_with fail
            refine (then_lit hM6 [.m .text, .m .pre, .m .between] [.func (.func 85) #[ptr d] #[], .func (.func 82) #[ptr d] #[], .func (.func 83) #[ptr d] #[]] 3 rfl ⟨_, _, rfl, rfl, ⟨_, _, rfl, rfl, ⟨_, _, rfl, rfl, rfl⟩⟩⟩ (by decide) hs.todo).mono ?_
            rintro e v21 ⟨rfl, O21, hM21, hS21⟩
            dsimp only
            (try go_wp2_with fail)
            first | go_end0 | refine bodyPost_ret (results_none rfl _ _ _) rfl ?_
            exact ⟨rfl, O21, hM21, ((HS5.out.trans hS6).trans hS21)⟩
        · rw [if_neg hpos] at hRR
          have hd2 : decide (0 < σ) = false := by simpa using hpos
          obtain rfl := hRR
          clear hr HR
          go_wp2_with fail
          first | go_end0 | refine bodyPost_ret (results_none rfl _ _ _) rfl ?_
          exact ⟨rfl, O', HM5.out, HS5.out⟩
end
end Go.Proofs.YtnjhmjkonmmomaaDoor.K
end
/- KSim: The machine does what the document's reader does: types, params, expressions. -/
section
namespace Go.Proofs.YtnjhmjkonmmomaaDoor.K
open Go.Lib Go.Proofs.YtnjhmjkonmmomaaDoor.U Go.Proofs.YtnjhmjkonmmomaaDoor.S Go.Proofs.YtnjhmjkonmmomaaDoor.T

section
variable (L : List TokP) (size : Nat)
/-- Some steps on, each word's price paid. -/
def To (c : Int) (s s' : St) : Prop := ∃ n : Nat, (n : Int) + 100 * s.i ≤ 100 * s'.i + c ∧ Goes L size n s s'
def Fl (c : Int) (s : St) (j : Nat) : Prop := ∃ n : Nat, (n : Int) + 100 * s.i ≤ 100 * j + c ∧ Falls L size n s j
def tf (i : Nat) : Int := (tok L size i).f
end
section
variable {L : List TokP} {size : Nat}
theorem To.one {s s1 : St} (h : stepS L size s = .go s1) : To L size (1 + 100 * (s.i : Int) - 100 * s1.i) s s1 := ⟨1, by omega, .step h (.refl _ _)⟩
theorem To.trans {c d : Int} {a b e : St} (h : To L size c a b) (k : To L size d b e) : To L size (c + d) a e := by
  obtain ⟨n, h1, h2⟩ := h
  obtain ⟨m, k1, k2⟩ := k
  exact ⟨n + m, by omega, h2.trans k2⟩
theorem To.fl {c d : Int} {a b : St} {j : Nat} (h : To L size c a b) (k : Fl L size d b j) : Fl L size (c + d) a j := by
  obtain ⟨n, h1, h2⟩ := h
  obtain ⟨m, k1, k2⟩ := k
  exact ⟨n + m, by omega, h2.falls k2⟩
theorem To.mono {c d : Int} {a b : St} (h : To L size c a b) (hd : c ≤ d) : To L size d a b := by
  obtain ⟨n, h1, h2⟩ := h
  exact ⟨n, by omega, h2⟩
theorem Fl.mono {c d : Int} {a : St} {j : Nat} (h : Fl L size c a j) (hd : c ≤ d) : Fl L size d a j := by
  obtain ⟨n, h1, h2⟩ := h
  exact ⟨n, by omega, h2⟩
theorem Fl.now {s : St} (h : stepS L size s = .wrong) : Fl L size 0 s s.i := ⟨0, by omega, .now h 0⟩
/-- A step, and the rest. -/
theorem To.cons {c d : Int} {s s1 s2 : St} (h : stepS L size s = .go s1) (k : To L size c s1 s2) (hd : c + 1 + 100 * (s.i : Int) - 100 * s1.i ≤ d) : To L size d s s2 := ((To.one h).trans k).mono (by omega)
theorem Fl.cons {c d : Int} {s s1 : St} {j : Nat} (h : stepS L size s = .go s1) (k : Fl L size c s1 j) (hd : c + 1 + 100 * (s.i : Int) - 100 * s1.i ≤ d) : Fl L size d s j := ((To.one h).fl k).mono (by omega)
theorem To.last {d : Int} {s s1 : St} (h : stepS L size s = .go s1) (hd : 1 + 100 * (s.i : Int) - 100 * s1.i ≤ d) : To L size d s s1 := (To.one h).mono hd
theorem To.stay {d : Int} {s : St} (hd : 0 ≤ d) : To L size d s s := ⟨0, by omega, .refl _ _⟩
theorem To.app {c d e : Int} {a b s : St} (h : To L size c a b) (k : To L size d b s) (he : c + d ≤ e) : To L size e a s := (h.trans k).mono he
theorem To.fla {c d e : Int} {a b : St} {j : Nat} (h : To L size c a b) (k : Fl L size d b j) (he : c + d ≤ e) : Fl L size e a j := (h.fl k).mono he
theorem isT_lt {x : By} {i : Nat} (h : isT L x i = true) : i < L.length := by
  by_cases h1 : i < L.length
  · exact h1
  · unfold isT at h; rw [List.getElem?_eq_none (by omega)] at h; cases h
theorem comesT_lt {x : Int} {i : Nat} (h : comesT L x i = true) : i < L.length := by
  by_cases h1 : i < L.length
  · exact h1
  · unfold comesT at h; rw [List.getElem?_eq_none (by omega)] at h; cases h
theorem tf_from {i : Nat} (h : i < L.length) : tf L size i = fromT L i := by unfold tf fromT; rw [tok_in size h, List.getElem?_eq_getElem h]
theorem te_to {j : Nat} (h0 : 0 < j) (h : j ≤ L.length) : (tok L size (j - 1)).e = toT L j := by
  unfold toT
  rw [tok_in size (by omega), List.getElem?_eq_getElem (by omega), if_neg (by omega)]
theorem text_tok {i : Nat} (h : i < L.length) : (tok L size i).t = textT L i := by unfold textT; rw [tok_in size h, List.getElem?_eq_getElem h]
end
/-- A kind that ends as it is. -/
def plainK (kd : By) : Bool := !(kd == kBr) && !(kd == kParams) && !(kd == kResult)
theorem plainK_iff {kd : By} (h : plainK kd = true) : ¬ kd = kBr ∧ ¬ (kd = kParams ∨ kd = kResult) := by
  unfold plainK at h
  simp only [Bool.and_eq_true, Bool.not_eq_true', beq_eq_false_iff_ne] at h
  exact ⟨h.1.1, fun e => e.elim h.1.2 h.2⟩
section
variable {L : List TokP} (size : Nat) (hL : ∀ t ∈ L, Fine t)
include hL
theorem st_word {x : By} (hx : x ∈ special) {i : Nat} (R : List Stp) (O : List Open) (h : isT L x i = true) : stepS L size ⟨i, .word x :: R, O⟩ = .go ⟨i + 1, R, O⟩ := by
  show exec L size (.word x) ⟨i, R, O⟩ = _
  simp only [exec]
  rw [isP_is size hL hx, h, if_pos rfl]
theorem st_word_bad {x : By} (hx : x ∈ special) {i : Nat} (R : List Stp) (O : List Open) (h : isT L x i = false) : stepS L size ⟨i, .word x :: R, O⟩ = .wrong := by
  show exec L size (.word x) ⟨i, R, O⟩ = _
  simp only [exec]
  rw [isP_is size hL hx, h]; rfl
theorem st_name {i : Nat} (R : List Stp) (o : Open) (O : List Open) (h : comesT L 0 i = true) : stepS L size ⟨i, .m .name :: R, o :: O⟩ = .go ⟨i + 1, R, { o with t := textT L i } :: O⟩ := by
  show execM L size .name ⟨i, R, o :: O⟩ = _
  simp only [execM]
  rw [isW_is size hL (by decide), h, if_pos rfl, text_tok (comesT_lt h)]; rfl
theorem st_name_bad {i : Nat} (R : List Stp) (O : List Open) (h : comesT L 0 i = false) : stepS L size ⟨i, .m .name :: R, O⟩ = .wrong := by
  show execM L size .name ⟨i, R, O⟩ = _
  simp only [execM]
  rw [isW_is size hL (by decide), h]; rfl
omit hL in
theorem st_fin {j : Nat} (R : List Stp) (kd t : By) (f kf : Int) (ks : List Pt) (a : Open) (O : List Open) (h1 : plainK kd = true) (h0 : 0 < j) (h : j ≤ L.length) :
    stepS L size ⟨j, .m .fin :: R, ⟨kd, t, f, ks, kf⟩ :: a :: O⟩ = .go ⟨j, R, a.add (.mk kd t f (toT L j) ks) f :: O⟩ := by
  show finM L size ⟨j, R, ⟨kd, t, f, ks, kf⟩ :: a :: O⟩ = _
  obtain ⟨h2, h3⟩ := plainK_iff h1
  unfold finM
  dsimp only
  rw [if_neg (by omega), te_to h0 h]
  simp only [closeO, Open.close, h2, h3, if_false]; rfl
omit hL in
theorem st_text {i : Nat} (R : List Stp) (o : Open) (O : List Open) (h : i < L.length) : stepS L size ⟨i, .m .text :: R, o :: O⟩ = .go ⟨i + 1, R, { o with t := textT L i } :: O⟩ := by
  show execM L size .text ⟨i, R, o :: O⟩ = _
  simp only [execM]
  rw [if_pos h, text_tok h]; rfl
/-- Steps that add a part to the innermost one. -/
def Adds (L : List TokP) (size : Nat) (a b : Int) (x : List Stp) (i : Nat) (o : Out Pt) : Prop := ∀ (T : Open) (O : List Open) (rest : List Stp), match o with
  | .ok p j => j ≤ L.length ∧ i < j ∧ To L size (-a) ⟨i, x ++ rest, T :: O⟩ ⟨j, rest, T.add p (tf L size i) :: O⟩
  | .bad j => Fl L size b ⟨i, x ++ rest, T :: O⟩ j
omit hL in
theorem adds_ok {a b : Int} {x : List Stp} {i j : Nat} {o : Out Pt} {p : Pt} (h : Adds L size a b x i o) (ho : o = .ok p j) (T : Open) (O : List Open) (rest : List Stp) :
    j ≤ L.length ∧ i < j ∧ To L size (-a) ⟨i, x ++ rest, T :: O⟩ ⟨j, rest, T.add p (tf L size i) :: O⟩ := by subst ho; exact h T O rest
omit hL in
theorem adds_bad {a b : Int} {x : List Stp} {i j : Nat} {o : Out Pt} (h : Adds L size a b x i o) (ho : o = .bad j) (T : Open) (O : List Open) (rest : List Stp) :
    Fl L size b ⟨i, x ++ rest, T :: O⟩ j := by subst ho; exact h T O rest
theorem st_type {i : Nat} (R : List Stp) (O : List Open) : stepS L size ⟨i, .m .typeOf :: R, O⟩ =
    if isT L [42] i then .go ⟨i, .word [42] :: .m .typeOf :: .m .fin :: R, ⟨kStar, [], tf L size i, [], 0⟩ :: O⟩
    else if isT L [91] i then .go ⟨i, .word [91] :: .word [93] :: .m .typeOf :: .m .fin :: R, ⟨kSlice, [], tf L size i, [], 0⟩ :: O⟩
    else .go ⟨i, .m .name :: .m .fin :: R, ⟨kName, [], tf L size i, [], 0⟩ :: O⟩ := by
  show execM L size .typeOf ⟨i, R, O⟩ = _
  simp only [execM]
  rw [isP_is size hL (by decide), isP_is size hL (by decide)]; rfl
theorem typed_sim : ∀ (n i : Nat), 2 * (L.length - i) + 1 ≤ n → i ≤ L.length → Adds L size 60 10 [.m .typeOf] i (typed L n i)
  | 0, i, hn, _ => by omega
  | n + 1, i, hn, hi => by
    intro T O rest
    have h0 := st_type size hL (i := i) rest (T :: O)
    simp only [typed]
    cases h1 : isT L [42] i with
    | true =>
      have hlt := isT_lt h1
      rw [h1, if_pos rfl] at h0
      rw [if_pos rfl]
      have hw := st_word size hL (by decide) (.m .typeOf :: .m .fin :: rest) (⟨kStar, [], tf L size i, [], 0⟩ :: T :: O) h1
      cases h2 : typed L n (i + 1) with
      | ok p j =>
        obtain ⟨hj, hij, hr⟩ := adds_ok size (typed_sim n (i + 1) (by omega) hlt) h2 ⟨kStar, [], tf L size i, [], 0⟩ (T :: O) (.m .fin :: rest)
        refine ⟨hj, by omega, ?_⟩
        have hf := st_fin size rest kStar [] (tf L size i) (tf L size (i + 1)) [p] T O (by decide) (by omega) hj
        rw [tf_from hlt]
        rw [tf_from hlt] at h0 hw hr hf
        exact .cons h0 (.cons hw (hr.trans (.one hf)) (Int.le_refl _)) (by dsimp only; omega)
      | bad j =>
        have hr := adds_bad size (typed_sim n (i + 1) (by omega) hlt) h2 ⟨kStar, [], tf L size i, [], 0⟩ (T :: O) (.m .fin :: rest)
        exact .cons h0 (.cons hw hr (Int.le_refl _)) (by dsimp only; omega)
    | false =>
      rw [h1, if_neg (by decide)] at h0
      rw [if_neg (by decide)]
      cases h3 : isT L [91] i with
      | true =>
        have hlt := isT_lt h3
        rw [h3, if_pos rfl] at h0
        rw [if_pos rfl]
        have hw := st_word size hL (by decide) (.word [93] :: .m .typeOf :: .m .fin :: rest) (⟨kSlice, [], tf L size i, [], 0⟩ :: T :: O) h3
        unfold mustT
        cases h4 : isT L [93] (i + 1) with
        | true =>
          have hlt4 := isT_lt h4
          have hw4 := st_word size hL (by decide) (.m .typeOf :: .m .fin :: rest) (⟨kSlice, [], tf L size i, [], 0⟩ :: T :: O) h4
          rw [if_pos rfl]
          simp only [Out.next]
          cases h2 : typed L n (i + 1 + 1) with
          | ok p j =>
            obtain ⟨hj, hij, hr⟩ := adds_ok size (typed_sim n (i + 1 + 1) (by omega) hlt4) h2 ⟨kSlice, [], tf L size i, [], 0⟩ (T :: O) (.m .fin :: rest)
            refine ⟨hj, by omega, ?_⟩
            have hf := st_fin size rest kSlice [] (tf L size i) (tf L size (i + 1 + 1)) [p] T O (by decide) (by omega) hj
            rw [tf_from hlt]
            rw [tf_from hlt] at h0 hw hw4 hr hf
            exact .cons h0 (.cons hw (.cons hw4 (hr.trans (.one hf)) (Int.le_refl _)) (Int.le_refl _)) (by dsimp only; omega)
          | bad j =>
            have hr := adds_bad size (typed_sim n (i + 1 + 1) (by omega) hlt4) h2 ⟨kSlice, [], tf L size i, [], 0⟩ (T :: O) (.m .fin :: rest)
            exact .cons h0 (.cons hw (.cons hw4 hr (Int.le_refl _)) (Int.le_refl _)) (by dsimp only; omega)
        | false =>
          rw [if_neg (by decide)]
          exact .cons h0 (.cons hw (.now (st_word_bad size hL (by decide) _ _ h4)) (Int.le_refl _)) (by dsimp only; omega)
      | false =>
        rw [h3, if_neg (by decide)] at h0
        rw [if_neg (by decide)]
        unfold nameT
        cases h4 : comesT L 0 i with
        | true =>
          have hlt := comesT_lt h4
          rw [if_pos rfl]
          have hw := st_name size hL (.m .fin :: rest) ⟨kName, [], tf L size i, [], 0⟩ (T :: O) h4
          have hf := st_fin size rest kName (textT L i) (tf L size i) 0 [] T O (by decide) (Nat.succ_pos i) hlt
          refine ⟨hlt, Nat.lt_succ_self _, ?_⟩
          rw [tf_from hlt] at h0 hw hf ⊢
          exact .cons h0 (.cons hw (.one hf) (Int.le_refl _)) (by dsimp only; omega)
        | false =>
          rw [if_neg (by decide)]
          exact .cons h0 (.now (st_name_bad size hL _ _ h4)) (by dsimp only; omega)
theorem st_opened {i : Nat} {k : Mth} {kd : By} {l : List Stp} (h : ∀ s, execM L size k s = opened L size kd s l) (R : List Stp) (O : List Open) : stepS L size ⟨i, .m k :: R, O⟩ = .go ⟨i, l ++ R, ⟨kd, [], tf L size i, [], 0⟩ :: O⟩ := by
  have _hL := hL
  show execM L size k ⟨i, R, O⟩ = _
  rw [h]; rfl
/-- A name and its type. -/
theorem param_sim (k : Mth) (kd : By) (h : ∀ s, execM L size k s = opened L size kd s [.m .name, .m .typeOf, .m .fin]) (hk : plainK kd = true) (n i : Nat) (hn : 2 * (L.length - i) + 1 ≤ n) :
    Adds L size 50 20 [.m k] i (param L n kd i) := by
  intro T O rest
  have h0 := st_opened size hL h (i := i) rest (T :: O)
  unfold param nameT
  cases h4 : comesT L 0 i with
  | true =>
    have hlt := comesT_lt h4
    rw [if_pos rfl]
    have hw := st_name size hL (.m .typeOf :: .m .fin :: rest) ⟨kd, [], tf L size i, [], 0⟩ (T :: O) h4
    simp only [Out.next]
    cases h2 : typed L n (i + 1) with
    | ok p j =>
      obtain ⟨hj, hij, hr⟩ := adds_ok size (typed_sim size hL n (i + 1) (by omega) hlt) h2 ⟨kd, textT L i, tf L size i, [], 0⟩ (T :: O) (.m .fin :: rest)
      have hf := st_fin size rest kd (textT L i) (tf L size i) (tf L size (i + 1)) [p] T O hk (by omega) hj
      refine ⟨hj, by omega, ?_⟩
      rw [tf_from hlt] at h0 hw hr hf ⊢
      exact .cons h0 (.cons hw (hr.trans (.one hf)) (Int.le_refl _)) (by dsimp only; omega)
    | bad j =>
      have hr := adds_bad size (typed_sim size hL n (i + 1) (by omega) hlt) h2 ⟨kd, textT L i, tf L size i, [], 0⟩ (T :: O) (.m .fin :: rest)
      exact .cons h0 (.cons hw hr (Int.le_refl _)) (by dsimp only; omega)
  | false =>
    rw [if_neg (by decide)]
    exact .cons h0 (.now (st_name_bad size hL _ _ h4)) (by dsimp only; omega)
end
end Go.Proofs.YtnjhmjkonmmomaaDoor.K
end
/- KSimE: The machine does what the document's reader does: expressions. -/
section
namespace Go.Proofs.YtnjhmjkonmmomaaDoor.K
open Go.Lib Go.Proofs.YtnjhmjkonmmomaaDoor.U Go.Proofs.YtnjhmjkonmmomaaDoor.S Go.Proofs.YtnjhmjkonmmomaaDoor.T

theorem strong_pos (L : List TokP) (i : Nat) : 0 ≤ strongT L i := by
  unfold strongT
  split
  · unfold strong
    repeat' split
    all_goals decide
  · exact Int.le_refl _
theorem strong_out {L : List TokP} {i : Nat} (h : ¬ i < L.length) : strongT L i = 0 := by
  unfold strongT; rw [List.getElem?_eq_none (by omega)]
/-- What stands about an expression of marks that are stronger than one. -/
def Ctx (than : Int) (T : Open) (O : List Open) : Prop := (than = 0 ∧ T.k ≠ kBinary) ∨ (T.k = kBinary ∧ strP T.t = than ∧ O ≠ [])
theorem settle_keep {than s e : Int} {T : Open} {O : List Open} (h : Ctx than T O) (hs : than < s ∨ T.k ≠ kBinary) (a : Pt) (f : Int) : settleO e s (T.add a f :: O) = some (T.add a f :: O) := by
  have hn : ¬ ((T.add a f).k = kBinary ∧ s ≤ strP (T.add a f).t) := by
    rintro ⟨h1, h2⟩
    have h1 : T.k = kBinary := h1
    have h2 : s ≤ strP T.t := h2
    rcases hs with hs | hs
    · rcases h with h | h
      · exact h.2 h1
      · rw [h.2.1] at h2; omega
    · exact hs h1
  unfold settleO
  cases O with
  | nil => simp only [settle, hn, if_false]
  | cons b r => simp only [settle, hn, if_false]
theorem settle_close {s e : Int} {t : By} (f kf : Int) (ks : List Pt) (T : Open) (O : List Open) (h : s ≤ strP t) :
    settleO e s (⟨kBinary, t, f, ks, kf⟩ :: T :: O) = settleO e s (T.add (.mk kBinary t f e ks) f :: O) := by
  show settle e s ⟨kBinary, t, f, ks, kf⟩ (T :: O) = _
  simp only [settle, h, and_self, if_true]; rfl
theorem wrap_last (k : By) (T : Open) (O : List Open) (a : Pt) (f : Int) : wrapO k (T.add a f :: O) = some (⟨k, [], f, [a], 0⟩ :: { T with kf := f } :: O) := by
  unfold wrapO Open.add
  simp
section
variable {L : List TokP} (size : Nat)
def te (L : List TokP) (size : Nat) (i : Nat) : Int := (tok L size (i - 1)).e
/-- A mark between two, or none, makes the same of both. -/
def Alike (L : List TokP) (size : Nat) (i : Nat) (C D : List Open) : Prop := settleO (te L size i) (strongT L i) C = settleO (te L size i) (strongT L i) D
def ExprS (L : List TokP) (size : Nat) (a b : Int) (than : Int) (i : Nat) (o : Out Pt) : Prop := ∀ (T : Open) (O : List Open) (rest : List Stp), Ctx than T O → match o with
  | .ok p j => j ≤ L.length ∧ i < j ∧ strongT L j ≤ than ∧ ∃ C, To L size (-a) ⟨i, .m .pre :: .m .between :: rest, T :: O⟩ ⟨j, .m .between :: rest, C⟩ ∧ Alike L size j C (T.add p (tf L size i) :: O)
  | .bad j => Fl L size b ⟨i, .m .pre :: .m .between :: rest, T :: O⟩ j
def ExprsS (L : List TokP) (size : Nat) (b : Int) (than f : Int) (a : Pt) (i : Nat) (o : Out Pt) : Prop := ∀ (T : Open) (O : List Open) (rest : List Stp) (C : List Open), Ctx than T O → Alike L size i C (T.add a f :: O) → match o with
  | .ok p j => j ≤ L.length ∧ i ≤ j ∧ strongT L j ≤ than ∧ ∃ C', To L size 0 ⟨i, .m .between :: rest, C⟩ ⟨j, .m .between :: rest, C'⟩ ∧ Alike L size j C' (T.add p f :: O)
  | .bad j => Fl L size b ⟨i, .m .between :: rest, C⟩ j
def TailsS (L : List TokP) (size : Nat) (b : Int) (f : Int) (a : Pt) (i : Nat) (o : Out Pt) : Prop := ∀ (T : Open) (O : List Open) (rest : List Stp), match o with
  | .ok p j => j ≤ L.length ∧ i ≤ j ∧ To L size 1 ⟨i, .m .behind :: rest, T.add a f :: O⟩ ⟨j, rest, T.add p f :: O⟩
  | .bad j => Fl L size b ⟨i, .m .behind :: rest, T.add a f :: O⟩ j
def ArgsS (L : List TokP) (size : Nat) (b : Int) (i : Nat) (acc : List Pt) (o : Out (List Pt)) : Prop := ∀ (o' : Open) (O : List Open) (rest : List Stp), o'.kids = acc → o'.k ≠ kBinary → match o with
  | .ok l j => j ≤ L.length ∧ i < j ∧ ∃ kf, To L size 0 ⟨i, .m .expr :: .moreC .expr :: .word [41] :: rest, o' :: O⟩ ⟨j, rest, { o' with kids := l, kf := kf } :: O⟩
  | .bad j => Fl L size b ⟨i, .m .expr :: .moreC .expr :: .word [41] :: rest, o' :: O⟩ j
structure GoodE (L : List TokP) (size n : Nat) : Prop where
  expr : ∀ (than : Int) (i : Nat), 8 * (L.length - i) + 3 ≤ n → i ≤ L.length → 0 ≤ than → ExprS L size 70 30 than i (expr L n than i)
  exprs : ∀ (than f : Int) (a : Pt) (i : Nat), 8 * (L.length - i) + 1 ≤ n → i ≤ L.length → 0 < i → 0 ≤ than → ExprsS L size 30 than f a i (exprs L n than f a i)
  pre : ∀ (i : Nat), 8 * (L.length - i) + 2 ≤ n → i ≤ L.length → Adds L size 70 20 [.m .pre] i (prefixT L n i)
  tails : ∀ (f : Int) (a : Pt) (i : Nat), 8 * (L.length - i) + 1 ≤ n → i ≤ L.length → 0 < i → TailsS L size 20 f a i (tails L n f a i)
  operand : ∀ (i : Nat), 8 * (L.length - i) + 1 ≤ n → i ≤ L.length → Adds L size 80 10 [.m .operand] i (operand L n i)
  args : ∀ (i : Nat) (acc : List Pt), 8 * (L.length - i) + 4 ≤ n → i ≤ L.length → ArgsS L size 50 i acc (args L n i acc)
theorem st_between {i : Nat} {R : List Stp} {C O : List Open} (hL : ∀ t ∈ L, Fine t) (h0 : 0 < i) (hs : settleO (te L size i) (strongT L i) C = some O) :
    stepS L size ⟨i, .m .between :: R, C⟩ = if 0 < strongT L i then ofOpt i (.m .text :: .m .pre :: .m .between :: R) (wrapO kBinary O) else .go ⟨i, R, O⟩ := by
  show betweenM L size ⟨i, R, C⟩ = _
  unfold betweenM
  dsimp only
  rw [if_neg (by omega), strP_is size hL]
  unfold te at hs
  rw [hs]; rfl
theorem exprs_sim (hL : ∀ t ∈ L, Fine t) {n : Nat} (IH : GoodE L size n) (than f : Int) (a : Pt) (i : Nat) (hn : 8 * (L.length - i) + 1 ≤ n + 1) (hi : i ≤ L.length) (h0 : 0 < i) (ht : 0 ≤ than) : ExprsS L size 30 than f a i (exprs L (n + 1) than f a i) := by
  intro T O rest C hc hal
  simp only [exprs]
  by_cases h : i < L.length ∧ than < strongT L i
  · rw [if_pos h]
    obtain ⟨h1, h2⟩ := h
    have hset : settleO (te L size i) (strongT L i) C = some (T.add a f :: O) := Eq.trans hal (settle_keep hc (.inl h2) a f)
    have hb := st_between (R := rest) size hL h0 hset
    rw [if_pos (by omega), wrap_last] at hb
    have hx := st_text (L := L) size (.m .pre :: .m .between :: rest) ⟨kBinary, [], f, [a], 0⟩ ({ T with kf := f } :: O) h1
    have hM : Ctx (strongT L i) ⟨kBinary, textT L i, f, [a], 0⟩ ({ T with kf := f } :: O) := .inr ⟨rfl, by rw [← text_tok (size := size) h1]; exact strP_is size hL i, by simp⟩
    have he := IH.expr (strongT L i) (i + 1) (by omega) h1 (by omega) ⟨kBinary, textT L i, f, [a], 0⟩ ({ T with kf := f } :: O) rest hM
    cases h3 : expr L n (strongT L i) (i + 1) with
    | bad j =>
      rw [h3] at he
      exact .cons hb (.cons hx he (Int.le_refl _)) (by dsimp only; omega)
    | ok b j =>
      rw [h3] at he
      obtain ⟨hj, hij, hsj, C2, hr, hal2⟩ := he
      simp only [Out.next]
      have hal3 : Alike L size j C2 (T.add (.mk kBinary (textT L i) f (toT L j) [a, b]) f :: O) := by
        refine Eq.trans hal2 ?_
        have hcl := settle_close (s := strongT L j) (e := te L size j) (t := textT L i) f (tf L size (i + 1)) [a, b] { T with kf := f } O (by rw [← text_tok (size := size) h1, strP_is size hL i]; exact hsj)
        rw [show te L size j = toT L j from te_to (by omega) hj] at hcl ⊢
        exact hcl
      have hk := IH.exprs than f (.mk kBinary (textT L i) f (toT L j) [a, b]) j (by omega) hj (by omega) ht T O rest C2 hc hal3
      cases h4 : exprs L n than f (.mk kBinary (textT L i) f (toT L j) [a, b]) j with
      | bad k =>
        rw [h4] at hk
        exact .cons hb (.cons hx (hr.fl hk) (Int.le_refl _)) (by dsimp only; omega)
      | ok p k =>
        rw [h4] at hk
        obtain ⟨q1, q2, q3, C3, q4, q5⟩ := hk
        exact ⟨q1, by omega, q3, C3, .cons hb (.cons hx (hr.trans q4) (Int.le_refl _)) (by dsimp only; omega), q5⟩
  · rw [if_neg h]
    refine ⟨hi, Nat.le_refl _, ?_, C, .stay (Int.le_refl _), hal⟩
    by_cases h1 : i < L.length
    · have : ¬ than < strongT L i := fun e => h ⟨h1, e⟩
      omega
    · rw [strong_out h1]; exact ht
theorem expr_sim {n : Nat} (IH : GoodE L size n) (than : Int) (i : Nat) (hn : 8 * (L.length - i) + 3 ≤ n + 1) (hi : i ≤ L.length) (ht : 0 ≤ than) : ExprS L size 70 30 than i (expr L (n + 1) than i) := by
  intro T O rest hc
  simp only [expr]
  have hp := IH.pre i (by omega) hi T O (.m .between :: rest)
  cases h : prefixT L n i with
  | bad j => rw [h] at hp; exact hp.mono (by omega)
  | ok a j =>
    rw [h] at hp
    obtain ⟨hj, hij, hr⟩ := hp
    simp only [Out.next]
    rw [tf_from (by omega)] at hr ⊢
    have hk := IH.exprs than (fromT L i) a j (by omega) hj (by omega) ht T O rest _ hc (Eq.refl (settleO (te L size j) (strongT L j) (T.add a (fromT L i) :: O)))
    cases h4 : exprs L n than (fromT L i) a j with
    | bad k => rw [h4] at hk; exact (hr.fl hk).mono (by omega)
    | ok p k =>
      rw [h4] at hk
      obtain ⟨q1, q2, q3, C3, q4, q5⟩ := hk
      exact ⟨q1, by omega, q3, C3, (hr.trans q4).mono (by omega), q5⟩
/-- An expression among no mark's two. -/
theorem whole_sim (hL : ∀ t ∈ L, Fine t) {n i : Nat} (h : ExprS L size 70 30 0 i (expr L n 0 i)) (T : Open) (O : List Open) (rest : List Stp) (hT : T.k ≠ kBinary) : match expr L n 0 i with
    | .ok p j => j ≤ L.length ∧ i < j ∧ To L size (-69) ⟨i, .m .pre :: .m .between :: rest, T :: O⟩ ⟨j, rest, T.add p (tf L size i) :: O⟩
    | .bad j => Fl L size 30 ⟨i, .m .pre :: .m .between :: rest, T :: O⟩ j := by
  have hk := h T O rest (.inl ⟨rfl, hT⟩)
  cases h1 : expr L n 0 i with
  | bad j => rw [h1] at hk; exact hk
  | ok p j =>
    rw [h1] at hk
    obtain ⟨q1, q2, q3, C, q4, q5⟩ := hk
    have hz : strongT L j = 0 := by have := strong_pos L j; omega
    have hb := st_between (R := rest) size hL (by omega) (Eq.trans q5 (settle_keep (.inl ⟨rfl, hT⟩) (.inr hT) p (tf L size i)))
    rw [hz, if_neg (by decide)] at hb
    exact ⟨q1, q2, (q4.trans (.one hb)).mono (by dsimp only; omega)⟩
theorem full_sim (hL : ∀ t ∈ L, Fine t) {n i : Nat} (h : ExprS L size 70 30 0 i (expr L n 0 i)) (T : Open) (O : List Open) (rest : List Stp) (hT : T.k ≠ kBinary) : match expr L n 0 i with
    | .ok p j => j ≤ L.length ∧ i < j ∧ To L size (-68) ⟨i, .m .expr :: rest, T :: O⟩ ⟨j, rest, T.add p (tf L size i) :: O⟩
    | .bad j => Fl L size 31 ⟨i, .m .expr :: rest, T :: O⟩ j := by
  have hk := whole_sim size hL h T O rest hT
  have h0 : stepS L size ⟨i, .m .expr :: rest, T :: O⟩ = .go ⟨i, .m .pre :: .m .between :: rest, T :: O⟩ := rfl
  cases h1 : expr L n 0 i with
  | bad j => rw [h1] at hk; exact .cons h0 hk (by dsimp only; omega)
  | ok p j =>
    rw [h1] at hk
    obtain ⟨q1, q2, q4⟩ := hk
    exact ⟨q1, q2, .cons h0 q4 (by dsimp only; omega)⟩
end
section
variable {L : List TokP} (size : Nat) (hL : ∀ t ∈ L, Fine t)
include hL
theorem st_pre {i : Nat} (R : List Stp) (O : List Open) : stepS L size ⟨i, .m .pre :: R, O⟩ =
    if isT L [38] i ∨ isT L [42] i ∨ isT L [45] i ∨ isT L [33] i then .go ⟨i, .m .text :: .m .pre :: .m .fin :: R, ⟨kUnary, [], tf L size i, [], 0⟩ :: O⟩ else .go ⟨i, .m .operand :: .m .behind :: R, O⟩ := by
  show execM L size .pre ⟨i, R, O⟩ = _
  simp only [execM]
  rw [isP_is size hL (by decide), isP_is size hL (by decide), isP_is size hL (by decide), isP_is size hL (by decide)]; rfl
theorem unary_sim {n : Nat} (IH : GoodE L size n) (x : By) (i : Nat) (hn : 8 * (L.length - i) + 2 ≤ n + 1) (h : isT L x i = true) (ho : isT L [38] i ∨ isT L [42] i ∨ isT L [45] i ∨ isT L [33] i) (hx : textT L i = x) :
    Adds L size 70 20 [.m .pre] i ((prefixT L n (i + 1)).next fun e j => T.part L kUnary x (fromT L i) [e] j) := by
  intro T O rest
  have hlt := isT_lt h
  have h0 := st_pre size hL (i := i) rest (T :: O)
  rw [if_pos ho] at h0
  have h1 := st_text (L := L) size (.m .pre :: .m .fin :: rest) ⟨kUnary, [], tf L size i, [], 0⟩ (T :: O) hlt
  rw [hx] at h1
  have hp := IH.pre (i + 1) (by omega) hlt ⟨kUnary, x, tf L size i, [], 0⟩ (T :: O) (.m .fin :: rest)
  cases h2 : prefixT L n (i + 1) with
  | bad j => rw [h2] at hp; exact .cons h0 (.cons h1 hp (Int.le_refl _)) (by dsimp only; omega)
  | ok p j =>
    rw [h2] at hp
    obtain ⟨hj, hij, hr⟩ := hp
    have hf := st_fin size rest kUnary x (tf L size i) (tf L size (i + 1)) [p] T O (by decide) (by omega) hj
    refine ⟨hj, by omega, ?_⟩
    rw [tf_from hlt] at h0 h1 hr hf ⊢
    exact .cons h0 (.cons h1 (hr.trans (.one hf)) (Int.le_refl _)) (by dsimp only; omega)
omit hL in
theorem isT_text {x : By} {i : Nat} (h : isT L x i = true) : textT L i = x := by
  unfold isT at h; unfold textT
  split at h
  · simp only [Bool.and_eq_true, beq_iff_eq] at h; rename_i t ht; exact h.1
  · cases h
theorem pre_sim {n : Nat} (IH : GoodE L size n) (i : Nat) (hn : 8 * (L.length - i) + 2 ≤ n + 1) (hi : i ≤ L.length) : Adds L size 70 20 [.m .pre] i (prefixT L (n + 1) i) := by
  simp only [prefixT]
  by_cases h1 : isT L [38] i = true
  · rw [if_pos h1]; exact unary_sim size hL IH [38] i hn h1 (.inl h1) (isT_text h1)
  rw [if_neg h1]
  by_cases h2 : isT L [42] i = true
  · rw [if_pos h2]; exact unary_sim size hL IH [42] i hn h2 (.inr (.inl h2)) (isT_text h2)
  rw [if_neg h2]
  by_cases h3 : isT L [45] i = true
  · rw [if_pos h3]; exact unary_sim size hL IH [45] i hn h3 (.inr (.inr (.inl h3))) (isT_text h3)
  rw [if_neg h3]
  by_cases h4 : isT L [33] i = true
  · rw [if_pos h4]; exact unary_sim size hL IH [33] i hn h4 (.inr (.inr (.inr h4))) (isT_text h4)
  rw [if_neg h4]
  intro T O rest
  have h0 := st_pre size hL (i := i) rest (T :: O)
  rw [if_neg (by rintro (h | h | h | h); exact h1 h; exact h2 h; exact h3 h; exact h4 h)] at h0
  have hp := IH.operand i (by omega) hi T O (.m .behind :: rest)
  cases h5 : operand L n i with
  | bad j => rw [h5] at hp; exact .cons h0 hp (by dsimp only; omega)
  | ok a j =>
    rw [h5] at hp
    obtain ⟨hj, hij, hr⟩ := hp
    simp only [Out.next]
    rw [tf_from (by omega)] at hr ⊢
    have hk := IH.tails (fromT L i) a j (by omega) hj (by omega) T O rest
    cases h6 : tails L n (fromT L i) a j with
    | bad k => rw [h6] at hk; exact .cons h0 (hr.fl hk) (by dsimp only; omega)
    | ok p k =>
      rw [h6] at hk
      obtain ⟨q1, q2, q3⟩ := hk
      exact ⟨q1, by omega, .cons h0 (hr.trans q3) (by dsimp only; omega)⟩
theorem st_behind {i : Nat} (R : List Stp) (T : Open) (O : List Open) (a : Pt) (f : Int) : stepS L size ⟨i, .m .behind :: R, T.add a f :: O⟩ =
    if isT L [46] i then .go ⟨i, .word [46] :: .m .name :: .m .fin :: .m .behind :: R, ⟨kField, [], f, [a], 0⟩ :: { T with kf := f } :: O⟩
    else if isT L [91] i then .go ⟨i, .word [91] :: .m .expr :: .word [93] :: .m .fin :: .m .behind :: R, ⟨kIndex, [], f, [a], 0⟩ :: { T with kf := f } :: O⟩
    else .go ⟨i, R, T.add a f :: O⟩ := by
  show execM L size .behind ⟨i, R, T.add a f :: O⟩ = _
  simp only [execM]
  rw [isP_is size hL (by decide), isP_is size hL (by decide), wrap_last, wrap_last]; rfl
theorem tails_sim {n : Nat} (IH : GoodE L size n) (f : Int) (a : Pt) (i : Nat) (hn : 8 * (L.length - i) + 1 ≤ n + 1) (hi : i ≤ L.length) : TailsS L size 20 f a i (tails L (n + 1) f a i) := by
  intro T O rest
  have h0 := st_behind size hL (i := i) rest T O a f
  simp only [tails]
  cases h1 : isT L [46] i with
  | true =>
    have hlt := isT_lt h1
    rw [h1, if_pos rfl] at h0
    rw [if_pos rfl]
    have hw := st_word size hL (by decide) (.m .name :: .m .fin :: .m .behind :: rest) (⟨kField, [], f, [a], 0⟩ :: { T with kf := f } :: O) h1
    unfold nameT
    cases h2 : comesT L 0 (i + 1) with
    | false =>
      rw [if_neg (by decide)]
      exact .cons h0 (.cons hw (.now (st_name_bad size hL _ _ h2)) (Int.le_refl _)) (by dsimp only; omega)
    | true =>
      have hlt2 := comesT_lt h2
      rw [if_pos rfl]
      simp only [Out.next]
      have hm := st_name size hL (.m .fin :: .m .behind :: rest) ⟨kField, [], f, [a], 0⟩ ({ T with kf := f } :: O) h2
      have hf := st_fin size (.m .behind :: rest) kField (textT L (i + 1)) f 0 [a] { T with kf := f } O (by decide) (Nat.succ_pos (i + 1)) hlt2
      have hk := IH.tails f (.mk kField (textT L (i + 1)) f (toT L (i + 1 + 1)) [a]) (i + 1 + 1) (by omega) hlt2 (by omega) T O rest
      cases h6 : tails L n f (.mk kField (textT L (i + 1)) f (toT L (i + 1 + 1)) [a]) (i + 1 + 1) with
      | bad k => rw [h6] at hk; exact .cons h0 (.cons hw (.cons hm (.cons hf hk (Int.le_refl _)) (Int.le_refl _)) (Int.le_refl _)) (by dsimp only; omega)
      | ok p k =>
        rw [h6] at hk
        obtain ⟨q1, q2, q3⟩ := hk
        exact ⟨q1, by omega, .cons h0 (.cons hw (.cons hm (.cons hf q3 (Int.le_refl _)) (Int.le_refl _)) (Int.le_refl _)) (by dsimp only; omega)⟩
  | false =>
    rw [h1, if_neg (by decide)] at h0
    rw [if_neg (by decide)]
    cases h3 : isT L [91] i with
    | false =>
      rw [h3, if_neg (by decide)] at h0
      rw [if_neg (by decide)]
      exact ⟨hi, Nat.le_refl _, .last h0 (by dsimp only; omega)⟩
    | true =>
      have hlt := isT_lt h3
      rw [h3, if_pos rfl] at h0
      rw [if_pos rfl]
      have hw := st_word size hL (by decide) (.m .expr :: .word [93] :: .m .fin :: .m .behind :: rest) (⟨kIndex, [], f, [a], 0⟩ :: { T with kf := f } :: O) h3
      have he := full_sim size hL (IH.expr 0 (i + 1) (by omega) hlt (Int.le_refl _)) ⟨kIndex, [], f, [a], 0⟩ ({ T with kf := f } :: O) (.word [93] :: .m .fin :: .m .behind :: rest) (show ¬ kIndex = kBinary by decide)
      cases h4 : expr L n 0 (i + 1) with
      | bad j => rw [h4] at he; exact .cons h0 (.cons hw he (Int.le_refl _)) (by dsimp only; omega)
      | ok e j =>
        rw [h4] at he
        obtain ⟨hj, hij, hr⟩ := he
        simp only [Out.next]
        unfold mustT
        cases h5 : isT L [93] j with
        | false =>
          rw [if_neg (by decide)]
          exact .cons h0 (.cons hw (hr.fl (.now (st_word_bad size hL (by decide) _ _ h5))) (Int.le_refl _)) (by dsimp only; omega)
        | true =>
          have hlt5 := isT_lt h5
          rw [if_pos rfl]
          simp only
          have hw5 := st_word size hL (by decide) (.m .fin :: .m .behind :: rest) (⟨kIndex, [], f, [a, e], tf L size (i + 1)⟩ :: { T with kf := f } :: O) h5
          have hf := st_fin size (.m .behind :: rest) kIndex [] f (tf L size (i + 1)) [a, e] { T with kf := f } O (by decide) (Nat.succ_pos j) hlt5
          have hk := IH.tails f (.mk kIndex [] f (toT L (j + 1)) [a, e]) (j + 1) (by omega) hlt5 (by omega) T O rest
          cases h6 : tails L n f (.mk kIndex [] f (toT L (j + 1)) [a, e]) (j + 1) with
          | bad k => rw [h6] at hk; exact .cons h0 (.cons hw (hr.fl (.cons hw5 (.cons hf hk (Int.le_refl _)) (Int.le_refl _))) (Int.le_refl _)) (by dsimp only; omega)
          | ok p k =>
            rw [h6] at hk
            obtain ⟨q1, q2, q3⟩ := hk
            exact ⟨q1, by omega, .cons h0 (.cons hw (hr.trans (.cons hw5 (.cons hf q3 (Int.le_refl _)) (Int.le_refl _))) (Int.le_refl _)) (by dsimp only; omega)⟩
theorem st_moreC {i : Nat} (k : Mth) (R : List Stp) (O : List Open) : stepS L size ⟨i, .moreC k :: R, O⟩ = if isT L [44] i then .go ⟨i, .word [44] :: .m k :: .moreC k :: R, O⟩ else .go ⟨i, R, O⟩ := by
  show exec L size (.moreC k) ⟨i, R, O⟩ = _
  simp only [exec]
  rw [isP_is size hL (by decide)]; rfl
theorem st_commas {i : Nat} (k : Mth) (R : List Stp) (O : List Open) : stepS L size ⟨i, .commas k :: R, O⟩ = if isT L [41] i then .go ⟨i, R, O⟩ else .go ⟨i, .m k :: .moreC k :: R, O⟩ := by
  show exec L size (.commas k) ⟨i, R, O⟩ = _
  simp only [exec]
  rw [isP_is size hL (by decide)]; rfl
omit hL in
theorem not_both {x y : By} {i : Nat} (h : isT L x i = true) (hxy : x ≠ y) : isT L y i = false := by
  cases h2 : isT L y i with
  | false => rfl
  | true => exact absurd ((isT_text h).symm.trans (isT_text h2)) hxy
theorem args_sim {n : Nat} (IH : GoodE L size n) (i : Nat) (acc : List Pt) (hn : 8 * (L.length - i) + 4 ≤ n + 1) (hi : i ≤ L.length) : ArgsS L size 50 i acc (args L (n + 1) i acc) := by
  rintro o' O rest rfl hk
  simp only [args]
  have he := full_sim size hL (IH.expr 0 i (by omega) hi (Int.le_refl _)) o' O (.moreC .expr :: .word [41] :: rest) hk
  cases h1 : expr L n 0 i with
  | bad j => rw [h1] at he; exact he.mono (by omega)
  | ok a j =>
    rw [h1] at he
    obtain ⟨hj, hij, hr⟩ := he
    simp only [Out.next]
    have hm := st_moreC size hL (i := j) .expr (.word [41] :: rest) (o'.add a (tf L size i) :: O)
    cases h2 : isT L [41] j with
    | true =>
      rw [if_pos rfl]
      rw [not_both h2 (by decide), if_neg (by decide)] at hm
      have hw := st_word size hL (by decide) rest (o'.add a (tf L size i) :: O) h2
      exact ⟨isT_lt h2, by omega, tf L size i, (hr.trans (.cons hm (.one hw) (Int.le_refl _))).mono (by dsimp only; omega)⟩
    | false =>
      rw [if_neg (by decide)]
      unfold mustT
      cases h3 : isT L [44] j with
      | false =>
        rw [if_neg (by decide)]
        rw [h3, if_neg (by decide)] at hm
        exact (hr.fl (.cons hm (.now (st_word_bad size hL (by decide) _ _ h2)) (Int.le_refl _))).mono (by dsimp only; omega)
      | true =>
        have hlt := isT_lt h3
        rw [if_pos rfl]
        rw [h3, if_pos rfl] at hm
        simp only
        have hw := st_word size hL (by decide) (.m .expr :: .moreC .expr :: .word [41] :: rest) (o'.add a (tf L size i) :: O) h3
        have hq := IH.args (j + 1) (o'.kids ++ [a]) (by omega) hlt (o'.add a (tf L size i)) O rest rfl hk
        cases h4 : args L n (j + 1) (o'.kids ++ [a]) with
        | bad k => rw [h4] at hq; exact (hr.fl (.cons hm (.cons hw hq (Int.le_refl _)) (Int.le_refl _))).mono (by dsimp only; omega)
        | ok l k =>
          rw [h4] at hq
          obtain ⟨q1, q2, kf, q3⟩ := hq
          exact ⟨q1, by omega, kf, (hr.trans (.cons hm (.cons hw q3 (Int.le_refl _)) (Int.le_refl _))).mono (by dsimp only; omega)⟩
end
end Go.Proofs.YtnjhmjkonmmomaaDoor.K
end
