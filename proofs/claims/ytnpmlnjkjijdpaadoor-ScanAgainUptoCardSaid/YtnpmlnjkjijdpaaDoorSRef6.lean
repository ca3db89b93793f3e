/- Contracts of the document's own Brief and Same of layer 8. -/
import Derived.Test.YtnpmlnjkjijdpaaDoorSRef5
namespace Go.Proofs.YtnpmlnjkjijdpaaDoor.S
open Go.RowKit
open Go.Lib hiding intOf
open Go.Proofs.YtnpmlnjkjijdpaaDoor.U Go.Proofs.YtnpmlnjkjijdpaaDoor.L

theorem take_snoc {α : Type} (l : List α) {i : Nat} (h : i < l.length) : l.take (i + 1) = l.take i ++ [l[i]] := by
  rw [List.take_add_one, List.getElem?_eq_getElem h]; rfl
theorem brief_step (l : List TokP) {i : Nat} (h : i < l.length) : briefL (l.take (i + 1)) = if i = 0 then txP l[i] else briefL (l.take i) ++ 32 :: txP l[i] := by
  rw [take_snoc l h, briefL_snoc]
  by_cases h0 : i = 0
  · rw [if_pos h0, if_pos (by rw [h0]; rfl)]
  · rw [if_neg h0, if_neg (by intro e; have := congrArg List.length e; rw [List.length_take] at this; simp only [List.length_nil] at this; omega)]
theorem brief_grow (l : List TokP) : ∀ (k i : Nat), i + k = l.length → (briefL (l.take i)).length ≤ (briefL l).length
  | 0, i, h => by rw [List.take_of_length_le (by omega)]; exact Nat.le_refl _
  | k + 1, i, h => by
    refine Nat.le_trans ?_ (brief_grow l k (i + 1) (by omega))
    rw [brief_step l (show i < l.length by omega)]
    split
    · rename_i h0
      have e : briefL (l.take i) = [] := by rw [h0]; rfl
      rw [e]; simp
    · rw [List.length_append]; omega
theorem cat_list (a b : ByteArray) : (a ++ b).toList = a.toList ++ b.toList := by
  rw [ByteArray.toList_eq, ByteArray.toList_eq, ByteArray.toList_eq, ByteArray.data_append, Array.toList_append]
set_option maxHeartbeats 8000000 in
set_option maxRecDepth 20000 in
theorem refBrief_any (B : Nat) (l : List TokP) (v : Value) (w : World) (h : ToksIn B w l v) (hl : l.length ≤ 1000000) (hN : (briefL l).length ≤ 1000000000) :
    Calls Tryd.prog 13 #[v] w fun e w' => e = .returned (.string ⟨(briefL l).toArray⟩) ∧ w = w' := by
  obtain ⟨a, cap, rfl, _, hc⟩ := h
  obtain ⟨m, hm⟩ : ∃ m, l.length = m := ⟨_, rfl⟩
  have HM := Lib.hid hm
  have HC := Lib.hid hc
  have HG := Lib.hid (fun i (hi : i ≤ l.length) => Nat.le_trans (brief_grow l (l.length - i) i (by omega)) hN)
  rw [hm] at hl ⊢
  clear hc hm hN
  go_enter Tryd.func13, Tryd.ntmps13
  go_wp2_with fail
  go_loop [3, 4] (fun sv iv => ∃ (i : Nat) (cur : ByteArray), sv = .string cur ∧ iv = .int .i64 i ∧ i ≤ m ∧ Hid (cur.toList = briefL (l.take i))) (fun _ iv => m - (intOf iv).toNat)
  case atStart => exact ⟨0, ⟨#[]⟩, rfl, rfl, Nat.zero_le _, Lib.hid (by rw [ByteArray.toList_eq]; rfl)⟩
  case round =>
    obtain ⟨i, cur, rfl, rfl, hi, HS⟩ := hrel
    by_cases hlt : i < m
    · have hil : i < l.length := by rw [HM.out]; exact hlt
      obtain ⟨g, off, rfl, hBg, hgw, hat⟩ := HC.out.resolve_left (fun h => by rw [h] at hil; exact Nat.not_lt_zero _ hil)
      obtain ⟨c0, c1, c2, c3⟩ := tok_at i hat hil
      have hst := brief_step l hil
      obtain ⟨t, ht⟩ : ∃ t, l[i] = t := ⟨_, rfl⟩
      rw [ht] at c0 c1 c2 c3 hst
      have hg1 := HG.out (i + 1) (by omega)
      have hcz : cur.size = (briefL (l.take i)).length := by rw [← HS.out, tl_len]
      obtain ⟨x, hx⟩ : ∃ x : ByteArray, (⟨t.t.toArray⟩ : ByteArray) = x := ⟨_, rfl⟩
      have hxl : x.toList = t.t := by rw [← hx, ByteArray.toList_eq]
      have hxz : x.size = t.t.length := by rw [← tl_len, hxl]
      rw [hx] at c1
      clear hat ht hx
      by_cases h5 : t.w = 5
      · by_cases h0 : i = 0
        · have HS2 : Hid ((cur ++ ⟨#[59]⟩).toList = briefL (l.take (i + 1))) := Lib.hid (by
            rw [hst, if_pos h0, cat_list, HS.out, h0]; simp [txP, h5, briefL, ByteArray.toList_eq])
          have hsz : cur.size + 1 ≤ 1000000000 := by rw [hst, if_pos h0] at hg1; rw [hcz, h0]; simp [txP, h5, briefL] at hg1 ⊢
          have h5' : (t.w == 5) = true := by simpa using h5
          have hi0 : ¬ 0 < i := by omega
          clear hst h0 hg1 hcz
          go_wp2_with fail
          go_round
          case rel => exact ⟨i + 1, _, rfl, by go_num, by omega, HS2⟩
          case measure => simp [intOf]; omega
        · have HS2 : Hid ((cur ++ ⟨#[32]⟩ ++ ⟨#[59]⟩).toList = briefL (l.take (i + 1))) := Lib.hid (by
            rw [hst, if_neg h0, cat_list, cat_list, HS.out]; simp [txP, h5, ByteArray.toList_eq])
          have hsz : cur.size + 1 + 1 ≤ 1000000000 := by rw [hst, if_neg h0] at hg1; simp [txP, h5] at hg1; omega
          have h5' : (t.w == 5) = true := by simpa using h5
          have hi0 : 0 < i := by omega
          clear hst h0 hg1 hcz
          go_wp2_with fail
          go_round
          case rel => exact ⟨i + 1, _, rfl, by go_num, by omega, HS2⟩
          case measure => simp [intOf]; omega
      · by_cases h0 : i = 0
        · have HS2 : Hid ((cur ++ x).toList = briefL (l.take (i + 1))) := Lib.hid (by
            rw [hst, if_pos h0, cat_list, HS.out, h0, hxl]; simp [txP, h5, briefL])
          have hsz : cur.size + x.size ≤ 1000000000 := by rw [hst, if_pos h0] at hg1; rw [hcz, h0]; simp [txP, h5, briefL] at hg1 ⊢; omega
          have h5' : (t.w == 5) = false := by simpa using h5
          have hi0 : ¬ 0 < i := by omega
          clear hst h0 hg1 hcz
          go_wp2_with fail
          go_round
          case rel => exact ⟨i + 1, _, rfl, by go_num, by omega, HS2⟩
          case measure => simp [intOf]; omega
        · have HS2 : Hid ((cur ++ ⟨#[32]⟩ ++ x).toList = briefL (l.take (i + 1))) := Lib.hid (by
            rw [hst, if_neg h0, cat_list, cat_list, HS.out, hxl]; simp [txP, h5, ByteArray.toList_eq])
          have hsz : cur.size + 1 + x.size ≤ 1000000000 := by rw [hst, if_neg h0] at hg1; simp [txP, h5] at hg1; omega
          have h5' : (t.w == 5) = false := by simpa using h5
          have hi0 : 0 < i := by omega
          clear hst h0 hg1 hcz
          go_wp2_with fail
          go_round
          case rel => exact ⟨i + 1, _, rfl, by go_num, by omega, HS2⟩
          case measure => simp [intOf]; omega
    · obtain rfl : i = m := by omega
      have HF : Hid (cur = ⟨(briefL l).toArray⟩) := Lib.hid (by
        have h1 := HS.out
        rw [← HM.out, List.take_length] at h1
        rw [← h1, tl_mk])
      go_wp2_with fail
      go_ret
      exact ⟨by rw [HF.out]; rfl, rfl⟩
end Go.Proofs.YtnpmlnjkjijdpaaDoor.S
