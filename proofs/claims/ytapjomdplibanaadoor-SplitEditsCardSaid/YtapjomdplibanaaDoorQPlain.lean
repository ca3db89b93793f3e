/- Plain facts about a program's pieces: where a declaration begins, whatever stands ahead of its line, or behind it; what the first word of a line says of it; the words of a text behind whose byte 10 another one stands. It imports nothing of the program. -/
import Derived.Test.YtapjomdplibanaaDoorSAgain
namespace Go.Proofs.YtapjomdplibanaaDoor.Q
open Go.Lib Go.Proofs.YtapjomdplibanaaDoor.U Go.Proofs.YtapjomdplibanaaDoor.S

/-! ### One text behind another, with a byte 10 between -/
theorem decodeN_stop (n k b0 b1 b2 b3 c1 c2 c3 : Nat) (hn : 1 ≤ n) (h1 : 1 < n → c1 = b1) (h2 : 2 < n → c2 = b2) (h3 : 3 < n → c3 = b3) (g1 : n = 1 → c1 = 10) (g2 : n = 2 → c2 = 10) (g3 : n = 3 → c3 = 10) :
    decodeN (n + k) b0 c1 c2 c3 = decodeN n b0 b1 b2 b3 := by
  unfold decodeN
  by_cases c0 : b0 < 128
  · simp [c0]
  · rw [if_neg c0, if_neg c0]
    by_cases e1 : n = 1
    · have := g1 e1
      rw [if_neg (by omega), if_neg (by omega), if_neg (by omega), if_neg (by omega), if_neg (by omega), if_neg (by omega)]
    · have := h1 (by omega)
      subst this
      by_cases q1 : b0 / 32 = 6 ∧ (1 < n ∧ c1 / 64 = 2)
      · rw [if_pos q1, if_pos (by omega)]
      · rw [if_neg q1, if_neg (by omega)]
        by_cases e2 : n = 2
        · have := g2 e2
          rw [if_neg (by omega), if_neg (by omega), if_neg (by omega), if_neg (by omega)]
        · have := h2 (by omega)
          subst this
          by_cases q2 : b0 / 16 = 14 ∧ (1 < n ∧ c1 / 64 = 2) ∧ (2 < n ∧ c2 / 64 = 2)
          · rw [if_pos q2, if_pos (by omega)]
          · rw [if_neg q2, if_neg (by omega)]
            by_cases e3 : n = 3
            · have := g3 e3
              rw [if_neg (by omega), if_neg (by omega)]
            · have := h3 (by omega)
              subst this
              by_cases q3 : b0 / 8 = 30 ∧ (1 < n ∧ c1 / 64 = 2) ∧ (2 < n ∧ c2 / 64 = 2) ∧ (3 < n ∧ c3 / 64 = 2)
              · rw [if_pos q3, if_pos (by omega)]
              · rw [if_neg q3, if_neg (by omega)]
theorem mk_app (a b : By) : (⟨(a ++ b).toArray⟩ : ByteArray) = ⟨a.toArray⟩ ++ ⟨b.toArray⟩ := by
  apply ByteArray.ext
  simp [ByteArray.data_append]
theorem mk_size (a : By) : (⟨a.toArray⟩ : ByteArray).size = a.length := by simp [ByteArray.size]
theorem wid_stop (c : UInt8) (r b : By) : wid (c :: r ++ 10 :: b) = wid (c :: r) := by
  unfold wid
  rw [mk_app]
  obtain ⟨A, hA⟩ : ∃ A : ByteArray, (⟨(c :: r).toArray⟩ : ByteArray) = A := ⟨_, rfl⟩
  obtain ⟨B, hB⟩ : ∃ A : ByteArray, (⟨(10 :: b).toArray⟩ : ByteArray) = A := ⟨_, rfl⟩
  have hn : 1 ≤ A.size := by rw [← hA, mk_size]; simp
  have h10 : (B.get! 0).toNat = 10 := by
    rw [← hB]
    show (((10 : UInt8) :: b).toArray[0]!).toNat = 10
    simp
  rw [hA, hB]
  clear hA hB
  have hg : ∀ i, A.size = i → ((A ++ B).get! i).toNat = 10 := fun i hi => by
    have := get!_right A B 0
    rw [Nat.add_zero, hi] at this
    rw [this, h10]
  rw [decode_at, decode_at, size_append, get!_left A B 0 (by omega)]
  simp only [Nat.zero_add, Nat.sub_zero]
  rw [decodeN_stop A.size B.size _ _ _ _ _ _ _ hn (fun h => by rw [get!_left A B 1 h]) (fun h => by rw [get!_left A B 2 h]) (fun h => by rw [get!_left A B 3 h]) (hg 1) (hg 2) (hg 3)]
theorem word_stop2 (r1 : Bool) (c : UInt8) (r b : By) : wordL r1 (c :: r ++ 10 :: b) = wordL r1 (c :: r) := by
  have hn : nameLen (c :: r ++ 10 :: b) = nameLen (c :: r) := by
    rw [List.cons_append]; simp only [nameLen, tw_stop (show nmc 10 = false by decide)]
  have hm : numLen (c :: r ++ 10 :: b) = numLen (c :: r) := by
    unfold numLen; rw [tw_stop (show figu 10 = false by decide)]
  have hq : quoLen (c :: r ++ 10 :: b) = quoLen (c :: r) := by
    rw [List.cons_append]; simp only [quoLen, quoTail_stop]
  have ht : two (c :: r ++ 10 :: b) = two (c :: r) := by
    cases r with
    | nil => simp [two]
    | cons x y => rfl
  have hk : markLen r1 (c :: r ++ 10 :: b) = markLen r1 (c :: r) := by
    unfold markLen
    rw [ht, wid_stop]
  have htk : (c :: r ++ 10 :: b).take (nameLen (c :: r)) = (c :: r).take (nameLen (c :: r)) := List.take_append_of_le_length (name_le _)
  unfold wordL
  rw [hn, hm, hq, hk, htk]
  rfl
theorem scanF_join2 (r1 : Bool) (b : By) : ∀ (n m : Nat) (x : By) (pos : Nat) (ended : Bool), (x ++ 10 :: b).length < n → x.length < m →
    ∃ k, b.length < k ∧ scanF r1 n (x ++ 10 :: b) pos ended = (scanF r1 m x pos ended).map (fixT (pos + x.length)) ++ scanF r1 k b (pos + x.length + 1) false
  | 0, _, _, _, _, h, _ => by omega
  | _ + 1, 0, _, _, _, _, h => by omega
  | n + 1, m + 1, [], pos, ended, hn, hm => by
    refine ⟨n, by simp at hn; omega, ?_⟩
    simp only [List.nil_append, scanF, List.length_nil, Nat.add_zero]
    cases ended
    · simp [S.blank]
    · simp [fixT]
  | n + 1, m + 1, c :: r, pos, ended, hn, hm => by
    have hr : (r ++ 10 :: b).length < n ∧ r.length < m := by simp only [List.cons_append, List.length_cons] at hn hm; exact ⟨by omega, by omega⟩
    have hcl := cmt_le (c :: r)
    have hwb := word_bounds r1 (l := c :: r) (by simp)
    have hw := word_stop2 r1 c r b
    have hc := cmt_stop c r b
    have hfix : ∀ (w : Int) (t : By) (e : Int), fixT (pos + (c :: r).length) ⟨w, t, pos, e⟩ = ⟨w, t, pos, e⟩ := fun w t e => by
      unfold fixT
      rw [if_neg (by simp only [List.length_cons]; omega)]
    have hdrop : ∀ k, 1 ≤ k → k ≤ (c :: r).length → (c :: r ++ 10 :: b).drop k = (c :: r).drop k ++ 10 :: b ∧ ((c :: r).drop k ++ 10 :: b).length < n ∧ ((c :: r).drop k).length < m ∧ pos + k + ((c :: r).drop k).length = pos + (c :: r).length := fun k h1 h2 => by
      refine ⟨List.drop_append_of_le_length h2, ?_, ?_, ?_⟩
      · rw [List.length_append, List.length_drop]; simp only [List.cons_append, List.length_cons, List.length_append] at hn h2 ⊢; omega
      · rw [List.length_drop]; simp only [List.length_cons] at hm h2 ⊢; omega
      · rw [List.length_drop]; omega
    rw [List.cons_append] at hw hc ⊢
    simp only [scanF]
    rw [hw, hc]
    split
    · obtain ⟨k, h1, h2⟩ := scanF_join2 r1 b n m r (pos + 1) false hr.1 hr.2
      refine ⟨k, h1, ?_⟩
      rw [h2, List.map_cons, hfix, List.cons_append]
      simp only [List.length_cons]
      rw [show pos + 1 + r.length = pos + (r.length + 1) by omega]
    · split
      · obtain ⟨k, h1, h2⟩ := scanF_join2 r1 b n m r (pos + 1) ended hr.1 hr.2
        refine ⟨k, h1, ?_⟩
        rw [h2]
        simp only [List.length_cons]
        rw [show pos + 1 + r.length = pos + (r.length + 1) by omega]
      · split
        · rename_i hk
          obtain ⟨d1, d2, d3, d5⟩ := hdrop _ hk hcl
          rw [← List.cons_append, d1]
          obtain ⟨k, h1, h2⟩ := scanF_join2 r1 b n m _ (pos + cmtLen (c :: r)) ended d2 d3
          refine ⟨k, h1, ?_⟩
          rw [h2, d5]
        · obtain ⟨d1, d2, d3, d5⟩ := hdrop _ hwb.1 hwb.2
          rw [← List.cons_append, d1, List.take_append_of_le_length hwb.2]
          obtain ⟨k, h1, h2⟩ := scanF_join2 r1 b n m _ (pos + (wordL r1 (c :: r)).2) (endsP (wordL r1 (c :: r)).1 ((c :: r).take (wordL r1 (c :: r)).2)) d2 d3
          refine ⟨k, h1, ?_⟩
          rw [h2, d5, List.map_cons, hfix, List.cons_append]
theorem scan_join2 (r : Bool) (a b : By) : scanB r (a ++ 10 :: b) = (scanB r a).map (fixT a.length) ++ (scanB r b).map (shiftT (a.length + 1)) := by
  obtain ⟨k, h1, h2⟩ := scanF_join2 r b ((a ++ 10 :: b).length + 1) (a.length + 1) a 0 false (by omega) (by omega)
  unfold scanB
  rw [h2, Nat.zero_add]
  congr 1
  rw [scanF_fuel r k (b.length + 1) b _ _ h1 (by omega)]
  have := scanF_shift r (a.length + 1) (b.length + 1) b 0 false
  rw [Nat.zero_add] at this
  exact this
/-- How many words a text has that is cut behind a byte 10. -/
theorem scan_parts (r : Bool) (a b : By) : (scanB r (a ++ 10 :: b)).length = (scanB r (a ++ [10])).length + (scanB r b).length := by
  rw [scan_join2, scan_join2]
  simp [show scanB r [] = [] from rfl]

/-! ### Where a declaration begins -/
def kw (x : By) : Bool := x == [102, 117, 110, 99] || x == [118, 97, 114] || x == [116, 121, 112, 101]
def declW (l : By) : Bool := kw (l.takeWhile nmc)
def beg (s : By) (i : Nat) : Bool := (decide (i = 0) || decide (s[i - 1]? = some 10)) && declW (s.drop i)
theorem kw_not {c : UInt8} (h : lett c = false) (x : By) : kw (c :: x) = false := by
  unfold kw
  have h1 : ¬ c = 102 := by rintro rfl; simp [lett] at h
  have h2 : ¬ c = 118 := by rintro rfl; simp [lett] at h
  have h3 : ¬ c = 116 := by rintro rfl; simp [lett] at h
  simp [h1, h2, h3]
theorem declW_not {c : UInt8} (h : lett c = false) (x : By) : declW (c :: x) = false := by
  unfold declW
  rw [List.takeWhile_cons]
  split
  · exact kw_not h _
  · rfl
theorem declW_stop (a b : By) : declW (a ++ 10 :: b) = declW a := by unfold declW; rw [tw_stop (show nmc 10 = false by decide)]
theorem declW_nil : declW [] = false := rfl
theorem rises_head {s : By} {a : Nat} {t : TokP} {r : List TokP} (h : Rises s a (t :: r)) : (a : Int) ≤ t.f := by
  cases h with
  | cons h _ _ => rw [h.from_]; have := h.le; omega
theorem lett_blank {c : UInt8} (h : S.blank c = true) : lett c = false := by
  unfold S.blank at h
  simp at h
  rcases h with ((rfl | rfl) | rfl) | rfl <;> decide
/-- What the first word of a line says of whether a declaration begins with it. -/
theorem declW_scan (r : Bool) (l : By) : (scanB r l = [] → declW l = false) ∧ ∀ t u, scanB r l = t :: u → (0 < t.f → declW l = false) ∧ (¬ 0 < t.f → declW l = kw t.t) := by
  cases l with
  | nil => exact ⟨fun _ => rfl, fun t u h => by cases h⟩
  | cons c x =>
    have hri : ∀ p, p ≤ (c :: x).length → Rises (c :: x) p (scanF r (c :: x).length ((c :: x).drop p) p false) := fun p hp =>
      scanF_rises r (c :: x) _ p p false (Nat.le_refl _) hp (gap_nil _ _)
    have hfar : ∀ p, 1 ≤ p → p ≤ (c :: x).length → lett c = false → ∀ L, scanF r (c :: x).length ((c :: x).drop p) p false = L →
        (L = [] → declW (c :: x) = false) ∧ ∀ t u, L = t :: u → (0 < t.f → declW (c :: x) = false) ∧ (¬ 0 < t.f → declW (c :: x) = kw t.t) := fun p h1 h2 h3 L hL => by
      refine ⟨fun _ => declW_not h3 x, fun t u h => ⟨fun _ => declW_not h3 x, fun h4 => ?_⟩⟩
      have := hri p h2
      rw [hL, h] at this
      have := rises_head this
      omega
    have hsc : scanB r (c :: x) = scanF r ((c :: x).length + 1) (c :: x) 0 false := rfl
    simp only [scanF] at hsc
    rw [if_neg (by simp)] at hsc
    by_cases hb : S.blank c = true
    · rw [if_pos hb] at hsc
      rw [hsc]
      exact hfar 1 (Nat.le_refl _) (by simp) (lett_blank hb) _ rfl
    · rw [if_neg hb] at hsc
      by_cases hk : 0 < cmtLen (c :: x)
      · rw [if_pos hk, Nat.zero_add] at hsc
        rw [hsc]
        refine hfar _ hk (cmt_le _) ?_ _ rfl
        match x, hk with
        | [], hk => simp [cmtLen] at hk
        | b :: y, hk =>
          simp only [cmtLen] at hk
          split at hk
          · rename_i h; rw [h.1]; rfl
          · omega
      · rw [if_neg hk] at hsc
        rw [hsc]
        refine ⟨fun h => by (cases h), fun t u h => ?_⟩
        simp only [List.cons.injEq] at h
        obtain ⟨rfl, _⟩ := h
        refine ⟨fun h => by simp at h, fun _ => ?_⟩
        simp only
        have hwb := (word_bounds r (l := c :: x) (by simp)).1
        by_cases hl : lett c = true
        · have hn : nameLen (c :: x) = (x.takeWhile nmc).length + 1 := by simp only [nameLen, hl, if_true]; omega
          have hw : (wordL r (c :: x)).2 = nameLen (c :: x) := by
            unfold wordL
            rw [if_pos (by omega)]
          rw [hw, hn, List.take_succ_cons, tw_take]
          unfold declW
          rw [List.takeWhile_cons, if_pos (by unfold nmc; rw [hl]; rfl)]
        · have hl' : lett c = false := by simpa using hl
          obtain ⟨m, hm⟩ : ∃ m, (wordL r (c :: x)).2 = m + 1 := ⟨(wordL r (c :: x)).2 - 1, by omega⟩
          rw [hm, List.take_succ_cons, kw_not hl', declW_not hl']
end Go.Proofs.YtapjomdplibanaaDoor.Q
