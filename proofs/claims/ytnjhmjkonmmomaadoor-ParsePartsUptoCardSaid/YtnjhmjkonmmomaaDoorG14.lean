/- The texts JDeep, KDecl, JLaid, joined. -/
import Derived.Test.YtnjhmjkonmmomaaDoorG13
import Derived.Laws.AppendOwn
import Derived.Laws.OwnMore
import Derived.OwnWalk
import Derived.Maps.AppendAt
import Derived.Test.YtnjhmjkonmmomaaDoorRows
import Derived.Test.YtnjhmjkonmmomaaDoorG12
import Derived.OpenShut
import Derived.Lib.LaidTab
import Derived.Lib.LaidU8T
import Derived.PinnedBridge
/- JDeep: All Kids of parts; how deep a part is nested: the program's functions. -/
section
namespace Go.Proofs.YtnjhmjkonmmomaaDoor.J
open Go.RowKit
open Go.Lib hiding intOf
open Go.Proofs.YtnjhmjkonmmomaaDoor.U Go.Proofs.YtnjhmjkonmmomaaDoor.S Go.Proofs.YtnjhmjkonmmomaaDoor.T

/-! ### An append of whatever row -/
theorem run_append_zero {P : Program} {w : World} (base : Nat) (t ty e : TypeId) (i : TypeInfo) (size : Nat) (ht : P.underlying t = some (.slice e)) (hi : P.info? e = some i)
    (v : Value) (n : Nat) (xs : List Value) (hown : w.ownsRow base e size v n xs) (a : Option Addr) (c : Nat) :
    (Builtin.append_ #[t, t] ty #[v, .slice a 0 c]).run P w = .ok v w := by
  rcases hown.2 with ⟨rfl, rfl⟩ | ⟨g, cap, cur, rfl, _, _, hnc, _⟩
  · cases a <;> simp [Builtin.append_, run_underlying ht, sizeOf, typeInfo, hi, Builtin.lenOf, Builtin.firstCells, loadCells, loadCellsFrom]
  · cases a <;> simp [Builtin.append_, run_underlying ht, sizeOf, typeInfo, hi, Builtin.lenOf, Builtin.firstCells, hnc, storeCells, loadCells, loadCellsFrom]
theorem grown_refl (w : World) (row : Option Nat) : w.grownBy w row := ⟨rfl, rfl, rfl, Nat.le_refl _, fun _ _ _ => rfl⟩
theorem wpList_append_row {P : Program} {w : World} {ops : Array Oper} {rest : List Oper} {o : Oper} {a : Act} {Q : Exit → Act → World → Prop} (hgd : o.guard = none) (s x : Operand) (t : TypeId)
    (ho : o.op = .call { callee := .builtin .append, args := #[s, x], argTypes := #[t, t] })
    (base : Nat) (e : TypeId) (i : TypeInfo) (z : Value) (size bytes : Nat) (ht : P.underlying t = some (.slice e)) (hi : P.info? e = some i) (hz : i.zero = some z)
    (hsize : i.size = size) (hby : i.bytes = bytes) (hzs : z.cells.size = size) (hsz : 0 < size)
    (v : Value) (n : Nat) (xs : List Value) (hs : a.eval s = v) (hown : w.ownsRow base e size v n xs)
    (ad : Option Addr) (m c : Nat) (news : List Value) (hx : a.eval x = .slice ad m c) (hl : news.length = m * size) (hnews : m = 0 ∨ ∃ g off, ad = some ⟨g, off, none⟩ ∧ CellsAt w g off news) (h1 : ∀ u ∈ news, u.oneCell' = true)
    (h63 : n + m ≤ maxLen) (hbytes : (n + m) * bytes ≤ 140737488355328) (hbase : base ≤ w.heap.size)
    (h : ∀ v' w', w'.ownsRow base e size v' (n + m) (xs ++ news) → w.grownBy w' v.ownBlock → (v'.ownBlock = v.ownBlock ∨ v'.ownBlock = some w.heap.size) → wpList P ops Q rest (a.put o.dst v') w') : wpList P ops Q (o :: rest) a w := by
  rcases hnews with rfl | ⟨g, off, rfl, hc⟩
  · have hn : news = [] := List.eq_nil_of_length_eq_zero (by omega)
    subst hn
    refine wpList_plain hgd fun K hK => ?_
    have hrun := run_append_zero (P := P) (w := w) base t o.type e i size ht hi v n xs hown ad c
    unfold Oper.wp
    simp [execOp, ho, resolve, invoke, builtin, hs, hx, hrun, Result.andThen]
    refine hK _ _ (h v w ?_ (grown_refl w _) (.inl rfl))
    rw [List.append_nil, Nat.add_zero]; exact hown
  · exact wpList_append_own_at w hgd s x t ho base e i z size bytes ht hi hz hsize hby hzs hsz v n xs hs hown ⟨g, off, none⟩ m c news hx hl (fun j u hj => by rw [Addr.add_lit]; exact hc j u hj) h1 h63 hbytes hbase (fun v' w' a1 a2 _ a3 => h v' w' a1 a2 a3)

/-! ### Rows of parts -/
def kidsP : Pt → List Pt
  | .mk _ _ _ _ ks => ks
def kidsL : List Pt → List Pt
  | [] => []
  | p :: r => kidsP p ++ kidsL r
theorem kidsL_app : ∀ (a b : List Pt), kidsL (a ++ b) = kidsL a ++ kidsL b
  | [], b => rfl
  | p :: r, b => by rw [List.cons_append, kidsL, kidsL, kidsL_app r b, List.append_assoc]
theorem kidsL_take_succ {l : List Pt} {i : Nat} (h : i < l.length) : kidsL (l.take (i + 1)) = kidsL (l.take i) ++ kidsP l[i] := by
  rw [List.take_succ_eq_append_getElem h, kidsL_app]; simp [kidsL]
theorem wt_kids : ∀ l : List Pt, wtL (kidsL l) + l.length ≤ wtL l
  | [] => by simp [kidsL, wtL]
  | .mk k t f e ks :: r => by
    have := wt_kids r
    rw [kidsL, wtL, wtL_app, List.length_cons, wtP]
    show wtL ks + _ + _ ≤ _
    omega
theorem deepL_kids : ∀ l : List Pt, l ≠ [] → deepL l = 1 + deepL (kidsL l)
  | [.mk k t f e ks], _ => by
    rw [deepL, deepL, deep, kidsL, kidsL]
    show max (deepL ks + 1) 0 = 1 + deepL (ks ++ [])
    rw [List.append_nil]; omega
  | .mk k t f e0 ks :: q :: r, _ => by
    have h := deepL_kids (q :: r) (by simp)
    have happ : ∀ a b : List Pt, deepL (a ++ b) = max (deepL a) (deepL b) := by
      intro a b
      induction a with
      | nil => rw [List.nil_append, deepL]; omega
      | cons x a ih => rw [List.cons_append, deepL, deepL, ih]; omega
    have e : kidsL (.mk k t f e0 ks :: q :: r) = ks ++ kidsL (q :: r) := rfl
    rw [e, happ, deepL, h, deep]
    omega
theorem PartsIn.app {W : World} {R : Nat → Prop} : ∀ {a b : List Pt} {xs ys : List Value}, PartsIn W R a xs → PartsIn W R b ys → PartsIn W R (a ++ b) (xs ++ ys)
  | [], _, xs, _, h, k => by
    have h : xs = [] := h
    subst h
    exact k
  | p :: r, _, xs, ys, h, k => by
    obtain ⟨lv, rest, rfl, h2, h3⟩ := h
    exact ⟨lv, rest ++ ys, by rw [List.append_assoc], h2, PartsIn.app h3 k⟩
/-- Parts in a row. -/
def RowIn (W : World) (R : Nat → Prop) (l : List Pt) (v : Value) : Prop := ∃ a c, v = .slice a l.length c ∧ (l = [] ∨ ∃ g off xs, a = some ⟨g, off, none⟩ ∧ CellsAt W g off xs ∧ PartsIn W R l xs)
theorem five_one (p : Pt) (lv : Value) (h : ∃ a n c, lv = .slice a n c) : ∀ u ∈ five p lv, u.oneCell' = true := by
  obtain ⟨a, n, c, rfl⟩ := h
  cases p
  intro u hu
  simp only [five, List.mem_cons, List.not_mem_nil, or_false] at hu
  rcases hu with rfl | rfl | rfl | rfl | rfl <;> rfl
theorem parts_one {W : World} {R : Nat → Prop} : ∀ {l : List Pt} {xs : List Value}, PartsIn W R l xs → ∀ u ∈ xs, u.oneCell' = true
  | [], xs, h, u, hu => by rw [show xs = [] from h] at hu; cases hu
  | p :: r, xs, h, u, hu => by
    obtain ⟨lv, rest, rfl, h2, h3⟩ := h
    rcases List.mem_append.1 hu with hu | hu
    · obtain ⟨k, t, f, e, ks⟩ := p
      obtain ⟨a, c, rfl⟩ := kids_form h2
      exact five_one _ _ ⟨_, _, _, rfl⟩ u hu
    · exact parts_one h3 u hu
theorem row_in {W : World} {R : Nat → Prop} {B m : Nat} {v : Value} {l : List Pt} {xs : List Value} (h : W.ownsRow B 24 5 v m xs) (hm : l.length = m) (hp : PartsIn W R l xs) : RowIn W R l v := by
  subst hm
  rcases h.2 with ⟨rfl, h0⟩ | ⟨g, cap, cur, rfl, _⟩
  · exact ⟨none, 0, by rw [h0], .inl (List.eq_nil_of_length_eq_zero h0)⟩
  · refine ⟨some ⟨g, 0, none⟩, cap, rfl, .inr ⟨g, 0, xs, rfl, fun j u hj => ?_, hp⟩⟩
    have hj2 := (List.getElem?_eq_some_iff.1 hj).1
    have hl := h.1
    rw [Nat.zero_add, h.cellAt j (by omega)]; exact hj
theorem infoP : (Tryd.prog.info? 24).map (fun i => (i.zero, i.size, i.bytes)) = some (some (.agg #[.string ⟨#[]⟩, .string ⟨#[]⟩, .int .i64 0, .int .i64 0, .slice none 0 0]), 5, 72) := by kernel_rfl
set_option maxHeartbeats 4000000 in
set_option maxRecDepth 20000 in
theorem kidsOf_any {w : World} {R : Nat → Prop} {l : List Pt} {v : Value} (hv : RowIn w R l v) (hw : wtL l ≤ 1099511627776) :
    Calls Tryd.prog 19 #[v] w fun e w' => ∃ v', e = .returned v' ∧ RowIn w' R (kidsL l) v' ∧ Below w.heap.size w w' := by
  obtain ⟨a, c, rfl, hrow⟩ := hv
  obtain ⟨iP, hi0, hz0, hz1, hz2⟩ := info_parts infoP
  have HR := Lib.hid hrow
  have hlb : l.length ≤ 1099511627776 := Nat.le_trans (wtL_length l) hw
  have hkw := wt_kids l
  have HW := Lib.hid (show wtL (kidsL l) ≤ 1099511627776 by omega)
  obtain ⟨n, hn⟩ : ∃ n, l.length = n := ⟨_, rfl⟩
  have HN := Lib.hid hn
  rw [hn] at hlb
  rw [hn]
  clear hrow hn hw hkw
  go_enter Tryd.func19, Tryd.ntmps19
  go_wp2_with fail
  go_loopw [3, 8] (fun vv iv wr => ∃ (i m : Nat) (ys : List Value), iv = .int .i64 i ∧ i ≤ n ∧ Hid (m = (kidsL (l.take i)).length) ∧ Hid (PartsIn w R (kidsL (l.take i)) ys) ∧ Hid (wr.ownsRow w.heap.size 24 5 vv m ys) ∧ Hid (Below w.heap.size w wr)) (fun _ iv _ => n - (Go.RowKit.intOf iv).toNat)
  case atStart => exact ⟨0, 0, [], rfl, Nat.zero_le _, Lib.hid rfl, Lib.hid rfl, Lib.hid (World.ownsRow_nil _ _ _ _), Lib.hid (Below.refl _ _)⟩
  case round =>
    obtain ⟨i, m, ys, rfl, hi, HM, HP, HO, HB⟩ := hrel
    obtain ⟨va, vc, rfl⟩ := owns_len HO.out
    by_cases hlt : i < n
    · have hll : i < l.length := by rw [HN.out]; exact hlt
      obtain ⟨g, off, xs, rfl, hc, hp⟩ := HR.out.resolve_left (fun h => by rw [h] at hll; exact Nat.not_lt_zero _ hll)
      obtain ⟨k', t', f', e', ks', a', c', hK⟩ := kid_at hp hc i hll
      have hrow' := kids_row hK.kids
      have hks : kidsP l[i] = ks' := by rw [hK.eq]; rfl
      have hts := kidsL_take_succ hll
      rw [hks] at hts
      have htot : wtL (kidsL l) ≤ 1099511627776 := HW.out
      have hmk : m + ks'.length ≤ 1099511627776 := by
        have h1 : (kidsL (l.take (i + 1))).length ≤ (kidsL l).length := by
          have h2 : kidsL l = kidsL (l.take (i + 1)) ++ kidsL (l.drop (i + 1)) := by rw [← kidsL_app, List.take_append_drop]
          rw [h2, List.length_append]; omega
        have h3 := wtL_length (kidsL l)
        rw [hts, List.length_append, ← HM.out] at h1
        omega
      obtain ⟨zs, hz, hcz, hlz⟩ : ∃ zs, PartsIn w R ks' zs ∧ (ks'.length = 0 ∨ ∃ g off, a' = some ⟨g, off, none⟩ ∧ CellsAt w g off zs) ∧ zs.length = ks'.length * 5 := by
        rcases hrow'.2.2 with rfl | ⟨g', off', zs, rfl, _, h2, h3⟩
        · exact ⟨[], rfl, .inl rfl, rfl⟩
        · exact ⟨zs, h3, .inr ⟨g', off', rfl, h2⟩, by have := PartsIn.length h3; omega⟩
      have hone := parts_one hz
      have HM2 := Lib.hid (show m + ks'.length = (kidsL (l.take (i + 1))).length by rw [hts, List.length_append, ← HM.out])
      have HP2 := Lib.hid (show PartsIn w R (kidsL (l.take (i + 1))) (ys ++ zs) by rw [hts]; exact PartsIn.app HP.out hz)
      have hKb := hK.below HB.out
      have j0 := hKb.k0
      have j1 := hKb.k1
      have j2 := hKb.k2
      have j3 := hKb.k3
      have j4 := hKb.k4
      obtain ⟨kb, hkb⟩ : ∃ x, bstr k' = x := ⟨_, rfl⟩
      obtain ⟨tb, htb⟩ : ∃ x, bstr t' = x := ⟨_, rfl⟩
      rw [hkb] at j0
      rw [htb] at j1
      have hcz2 : ∀ X, Below w.heap.size w X → (ks'.length = 0 ∨ ∃ g off, a' = some ⟨g, off, none⟩ ∧ CellsAt X g off zs) := fun X hX => hcz.imp id (fun ⟨g, off, h1, h2⟩ => ⟨g, off, h1, fun j u hj => (hX.cell (World.block_lt_of_cell? w _ (h2 j u hj))).trans (h2 j u hj)⟩)
      have HCZ := Lib.hid hcz2
      have hbw := HB.out.size
      obtain ⟨kn, hkn⟩ : ∃ kn, ks'.length = kn := ⟨_, rfl⟩
      rw [hkn] at hmk HM2 j4 hlz HCZ
      have HLZ := Lib.hid hlz
      have HONE := Lib.hid hone
      clear hp hc hK hrow' hks hts htot hz hcz hKb hkb htb hcz2 hlz hone hkn HM HP
      go_upto_region 5 with fail
      obtain ⟨w1, hw1, hq1, hb1, hz1⟩ := new_block wr (.cells #[.string kb, .string tb, .int .i64 f', .int .i64 e', .slice a' kn c'] 24)
      rw [hw1]
      obtain ⟨⟨q0, q1, q2, q3, q4⟩, qf⟩ := cells_five hq1
      have HO1 := Lib.hid (owns_later HO.out hb1)
      have HB1 := Lib.hid (HB.out.trans (hb1.mono hbw))
      have hbw1 := HB1.out.size
      clear hq1 hb1 hw1 hz1 j0 j1 j2 j3 j4
      go_wp2_with (at_builtin; refine wpList_append_row rfl _ _ 22 rfl w.heap.size 24 iP _ 5 72 Tryd.underlying22 hi0 hz0 hz1 hz2 rfl (by decide) _ m ys rfl HO1.out _ kn c' zs rfl HLZ.out (HCZ.out _ HB1.out) HONE.out (by unfold maxLen; omega) (by omega) hbw1 ?_)
      intro v' w2 hown hgrow _
      have HO2 := Lib.hid hown
      have HB2 := Lib.hid (HB1.out.grown hgrow hbw1 (fun b hb => (HO1.out.lt b hb).1))
      clear hown hgrow
      go_wp2_with fail
      go_roundw
      case rel => exact ⟨i + 1, m + kn, ys ++ zs, by go_num, by omega, HM2, HP2, HO2, HB2⟩
      case measure => simp [Go.RowKit.intOf]; omega
    · obtain rfl : i = n := by omega
      go_wp2_with fail
      go_ret
      have ht : l.take i = l := List.take_of_length_le (by rw [HN.out]; exact Nat.le_refl _)
      have hP := HP.out
      have hM := HM.out
      rw [ht] at hP hM
      exact ⟨_, rfl, row_in HO.out hM.symm (parts_below hP HB.out), HB.out⟩
set_option maxHeartbeats 4000000 in
set_option maxRecDepth 20000 in
theorem deep_any {w : World} {R : Nat → Prop} (p : Pt) {lv : Value} (hv : KidsIn w R p lv) (hw : wtP p ≤ 1099511627776) :
    Calls Tryd.prog 14 #[arg p lv] w fun e w' => e = .returned (.int .i64 (deep p)) ∧ Below w.heap.size w w' := by
  obtain ⟨k, t, f, e, ks⟩ := p
  obtain ⟨a, c, rfl⟩ := kids_form hv
  have HV := Lib.hid hv
  obtain ⟨D, hD⟩ : ∃ D, deep (.mk k t f e ks) = D := ⟨_, rfl⟩
  have hdl : deepL [.mk k t f e ks] = D := by rw [deepL, deepL, hD]; omega
  have hDw : D ≤ 1099511627776 := by
    have hdw : ∀ (n : Nat) (l : List Pt), wtL l ≤ n → deepL l ≤ wtL l := by
      intro n
      induction n with
      | zero => intro l h; cases l with
        | nil => rw [deepL]; exact Nat.zero_le _
        | cons p r => have := wtP_pos p; rw [wtL] at h; omega
      | succ n ih =>
        intro l h
        by_cases h0 : l = []
        · rw [h0, deepL]; exact Nat.zero_le _
        · have h1 := wt_kids l
          have h2 : 0 < l.length := List.length_pos_iff.2 h0
          have h3 := ih (kidsL l) (by omega)
          rw [deepL_kids l h0]; omega
    have h1 := hdw _ [.mk k t f e ks] (Nat.le_refl _)
    rw [hdl] at h1
    rw [wtL, wtL] at h1
    omega
  have HD := Lib.hid hdl
  have HWT := Lib.hid (show wtL [.mk k t f e ks] ≤ 1099511627776 by rw [wtL, wtL]; omega)
  rw [hD]
  simp only [arg, five]
  obtain ⟨kb, hkb⟩ : ∃ x, bstr k = x := ⟨_, rfl⟩
  obtain ⟨tb, htb⟩ : ∃ x, bstr t = x := ⟨_, rfl⟩
  have HKT := Lib.hid (And.intro hkb htb)
  rw [hkb, htb]
  obtain ⟨n, hn⟩ : ∃ n, ks.length = n := ⟨_, rfl⟩
  have HN := Lib.hid hn
  rw [hn]
  clear hv hD hdl hw hkb htb hn
  go_enter Tryd.func14, Tryd.ntmps14
  go_upto_region 2 with fail
  obtain ⟨w1, hw1, hq1, hb1, hz1⟩ := new_block w (.cells #[.string kb, .string tb, .int .i64 f, .int .i64 e, .slice a n c] 24)
  obtain ⟨⟨q0, q1, q2, q3, q4⟩, qf⟩ := cells_five hq1
  have HB1 := Lib.hid hb1
  rw [hw1]
  clear hq1 hb1 hw1
  go_wp2_with fail
  obtain ⟨w2, hw2, hq2, hb2, hz2⟩ := new_block w1 (.cells #[.string kb, .string tb, .int .i64 f, .int .i64 e, .slice a n c] 24)
  rw [hw2]
  have HB2 := Lib.hid (HB1.out.trans (hb2.mono HB1.out.size))
  have HRow : Hid (RowIn w2 R [.mk k t f e ks] (.slice (some ⟨w1.heap.size, 0, none⟩) 1 1)) := Lib.hid ⟨_, 1, rfl, .inr ⟨w1.heap.size, 0, five (.mk k t f e ks) (.slice a ks.length c), rfl, fun j u hj => by
    have h : (five (.mk k t f e ks) (.slice a ks.length c)) = [.string kb, .string tb, .int .i64 f, .int .i64 e, .slice a n c] := by rw [five, HKT.out.1, HKT.out.2, HN.out]
    rw [h] at hj
    rw [Nat.zero_add]
    unfold World.cell?
    rw [hq2]
    simpa using hj, ⟨_, [], by rw [List.append_nil], kids_below HV.out HB2.out, rfl⟩⟩⟩
  clear hw2 hq2 hb2 hz1 hz2 q0 q1 q2 q3 q4 qf
  obtain ⟨N0, hN0⟩ : ∃ N0, wtL [.mk k t f e ks] = N0 := ⟨_, rfl⟩
  have HN0 := Lib.hid hN0
  have hDb := hDw
  clear hN0
  go_loopg [3, 4] N0 (fun N kv vv wr => ∃ (d : Nat) (l : List Pt), kv = .int .i64 d ∧ d ≤ D ∧ Hid (d + deepL l = D) ∧ Hid (wtL l = N) ∧ Hid (N ≤ 1099511627776) ∧ Hid (RowIn wr R l vv) ∧ Hid (Below w.heap.size w wr))
  case atStart => exact ⟨0, _, rfl, Nat.zero_le _, Lib.hid (by rw [HD.out]; omega), HN0, Lib.hid (by have := HWT.out; have := HN0.out; omega), HRow, HB2⟩
  case round =>
    obtain ⟨d, l, rfl, hd, HDL, HNl, HNb, HR, HB⟩ := hrel
    have hbw := HB.out.size
    by_cases h0 : l = []
    · subst h0
      have hDL := HDL.out
      rw [deepL, Nat.add_zero] at hDL
      subst hDL
      obtain ⟨va, vc, rfl, _⟩ := HR.out
      have hz : ([] : List Pt).length = 0 := rfl
      rw [hz]
      clear hz
      go_wp2_with fail
      go_ret
      exact ⟨rfl, HB.out⟩
    · have hpos := List.length_pos_iff.2 h0
      have hkw := wt_kids l
      have hdk := deepL_kids l h0
      have cK := kidsOf_any HR.out (by have := HNl.out; have := HNb.out; omega)
      have HDL2 := Lib.hid (show d + 1 + deepL (kidsL l) = D by have := HDL.out; omega)
      have hd2 : d + 1 ≤ D := by have := HDL.out; omega
      have HWK := Lib.hid (Nat.lt_of_lt_of_eq (show wtL (kidsL l) < wtL l by omega) HNl.out)
      obtain ⟨va, vc, rfl, _⟩ := HR.out
      obtain ⟨n', hn'⟩ : ∃ n', l.length = n' := ⟨_, rfl⟩
      rw [hn'] at cK hpos
      rw [hn']
      clear hkw hdk HDL HR hn'
      go_wp2_with fail
      refine cK.mono ?_
      rintro e w3 ⟨v', rfl, hr3, hb3⟩
      have HR3 := Lib.hid hr3
      have HB3 := Lib.hid (HB.out.trans (hb3.mono hbw))
      clear cK hr3 hb3
      go_wp2_with fail
      go_roundg (wtL (kidsL l))
      case rel => exact ⟨d + 1, kidsL l, by go_num, hd2, HDL2, Lib.hid rfl, Lib.hid (by have := HWK.out; have := HNb.out; omega), HR3, HB3⟩
      case measure => have := HWK.out; omega
end Go.Proofs.YtnjhmjkonmmomaaDoor.J
end
/- KDecl: The program's reader: a declaration's part. -/
section
namespace Go.Proofs.YtnjhmjkonmmomaaDoor.K
open Go.RowKit
open Go.Lib hiding intOf
open Go.Proofs.YtnjhmjkonmmomaaDoor.U Go.Proofs.YtnjhmjkonmmomaaDoor.S Go.Proofs.YtnjhmjkonmmomaaDoor.T Go.Proofs.YtnjhmjkonmmomaaDoor.J

/-- The table of marks. -/
def MTab (w : World) : Prop := 2 < w.heap.size ∧ (∃ o : Obj, w.heap[2]? = some o ∧ o.isCells = true) ∧ CellsAt w 2 0 tabS
theorem MTab.later {w w' : World} (h : MTab w) (hb : Below w.heap.size w w') : MTab w' := by
  obtain ⟨h1, ⟨o, h2, h3⟩, h4⟩ := h
  have hq := hb.block _ h1
  refine ⟨Nat.lt_of_lt_of_le h1 hb.size, ⟨o, hq.trans h2, h3⟩, fun j u hj => ?_⟩
  have := h4 j u hj
  exact (hb.cell (p := ⟨_, 0 + j, none⟩) h1).trans this
theorem stay_below {O O' : Nat → Prop} {W W' : World} {B : Nat} (h : Stay O O' W W') (hO : ∀ k, O k → B ≤ k) (hB : B ≤ W.heap.size) : Below B W W' :=
  ⟨h.os, h.tape, h.output, h.size, fun k hk => h.block k (by omega) (fun ho => by have := hO k ho; omega)⟩
theorem read_q {d : Nat} {s : By} {right : Bool} {lv : Value} {O : Nat → Prop} {B : Nat} {W : World} (hM : Mem d (scanB right s) s.length lv ⟨0, [], [root]⟩ O W) (hs : s.length ≤ 600) (hG : MTab W) (hO : ∀ k, O k → B ≤ k) (hB : B ≤ W.heap.size) (hg : 2 < B) :
    Calls Tryd.prog 21 #[ptr d] W fun e W' => ∃ q lv at' er, e = .returned (.tuple #[arg q lv, .int .i64 at', .int .i64 er]) ∧ KidsIn W' (fun _ => True) q lv ∧ wtP q ≤ 100000000 ∧ NnL (kidsP q) ∧ Below B W W' ∧
      declP (scanB right s) s.length = if 40 < deep q then (zeroP, 0, 22) else (q, at', er) := by
  have hl : (scanB right s).length ≤ 1600 := by have := scan_len' right s; omega
  have hG' : PTab O W := ⟨⟨hG.1, fun h => by have := hO _ h; omega, hG.2.1⟩, hG.2.2⟩
  have hwt : ∀ p, fate (scanB right s) = .part p → wtP p ≤ 100000000 := fun p h => wt_fate hs h
  refine (read_any hM (scan_fine right s) hl hG').mono ?_
  intro e W' h
  unfold declP
  cases hf : fate (scanB right s) with
  | bad j =>
    rw [hf] at h
    obtain ⟨O', rfl, hS⟩ := h
    refine ⟨zeroP, .slice none 0 0, (tok (scanB right s) s.length j).f, 101, rfl, ⟨none, 0, rfl, Nat.le_refl _, .inl rfl⟩, by decide, NnL.nil, stay_below hS hO hB, ?_⟩
    rw [if_neg (by decide)]
  | part p =>
    rw [hf] at h
    obtain ⟨plv, O', rfl, hk, hS⟩ := h
    exact ⟨p, plv, 0, 0, rfl, KidsIn.later (fun _ _ _ => rfl) (fun _ _ => trivial) _ _ hk, hwt p hf, (by have h := fate_nn hf; cases p; unfold Nn at h; exact h.2), stay_below hS hO hB, rfl⟩
theorem set_five {W : World} {b : Nat} {t : TypeId} {u0 u1 u2 u3 u4 : Value} (v0 v1 v2 v3 v4 : Value) (h : W.heap[b]? = some (.cells #[u0, u1, u2, u3, u4] t (0, 0))) :
    ∃ W', ((((W.setCell ⟨b, 0, none⟩ v0).setCell ⟨b, 1, none⟩ v1).setCell ⟨b, 2, none⟩ v2).setCell ⟨b, 3, none⟩ v3).setCell ⟨b, 4, none⟩ v4 = W' ∧ W'.heap[b]? = some (.cells #[v0, v1, v2, v3, v4] t (0, 0)) ∧ (∀ k, k ≠ b → W'.heap[k]? = W.heap[k]?) ∧ ∀ B, B ≤ b → Below B W W' := by
  have s0 : (W.setCell ⟨b, 0, none⟩ v0).heap[b]? = some (.cells #[v0, u1, u2, u3, u4] t (0, 0)) := Go.Joins.block_setCell h v0
  have s1 : ((W.setCell ⟨b, 0, none⟩ v0).setCell ⟨b, 1, none⟩ v1).heap[b]? = some (.cells #[v0, v1, u2, u3, u4] t (0, 0)) := Go.Joins.block_setCell s0 v1
  have s2 : (((W.setCell ⟨b, 0, none⟩ v0).setCell ⟨b, 1, none⟩ v1).setCell ⟨b, 2, none⟩ v2).heap[b]? = some (.cells #[v0, v1, v2, u3, u4] t (0, 0)) := Go.Joins.block_setCell s1 v2
  have s3 : ((((W.setCell ⟨b, 0, none⟩ v0).setCell ⟨b, 1, none⟩ v1).setCell ⟨b, 2, none⟩ v2).setCell ⟨b, 3, none⟩ v3).heap[b]? = some (.cells #[v0, v1, v2, v3, u4] t (0, 0)) := Go.Joins.block_setCell s2 v3
  have s4 : (((((W.setCell ⟨b, 0, none⟩ v0).setCell ⟨b, 1, none⟩ v1).setCell ⟨b, 2, none⟩ v2).setCell ⟨b, 3, none⟩ v3).setCell ⟨b, 4, none⟩ v4).heap[b]? = some (.cells #[v0, v1, v2, v3, v4] t (0, 0)) := Go.Joins.block_setCell s3 v4
  have oth : ∀ k, k ≠ b → (((((W.setCell ⟨b, 0, none⟩ v0).setCell ⟨b, 1, none⟩ v1).setCell ⟨b, 2, none⟩ v2).setCell ⟨b, 3, none⟩ v3).setCell ⟨b, 4, none⟩ v4).heap[k]? = W.heap[k]? := fun k hk =>
    (Below.heap_setCell _ _ _ _ hk).trans ((Below.heap_setCell _ _ _ _ hk).trans ((Below.heap_setCell _ _ _ _ hk).trans ((Below.heap_setCell _ _ _ _ hk).trans (Below.heap_setCell _ _ _ _ hk))))
  have b1 : ∀ B, B ≤ b → ∀ (X : World) (j : Nat) (v : Value), Below B X (X.setCell ⟨b, j, none⟩ v) := fun B hB X j v => ⟨rfl, rfl, rfl, by simp, fun k hk => Below.heap_setCell _ _ _ _ (by show k ≠ b; omega)⟩
  exact ⟨_, rfl, s4, oth, fun B hB => ((((b1 B hB _ _ _).trans (b1 B hB _ _ _)).trans (b1 B hB _ _ _)).trans (b1 B hB _ _ _)).trans (b1 B hB _ _ _)⟩
theorem kids_leaveL {W : World} {R X : Nat → Prop} (hX : ∀ g off k, X g → k ≠ [] → W.cell? ⟨g, off, none⟩ ≠ some (.string (bstr k))) {k t : By} {f e : Int} {ks : List Pt} {lv : Value} (hn : NnL ks) (h : KidsIn W R (.mk k t f e ks) lv) : KidsIn W (fun g => R g ∧ ¬ X g) (.mk k t f e ks) lv :=
  kids_leave hX (.mk [0] t f e ks) lv (by unfold Nn; exact ⟨by decide, hn⟩) h
/-- What a declaration's reading answers. -/
def DeclPost (s : ByteArray) (w : World) (e : Ending) (w' : World) : Prop := ∃ p at' er lv, declP (scanB (okB s) s.toList) s.size = (p, at', er) ∧ e = .returned (.tuple #[arg p lv, .int .i64 at', .int .i64 er]) ∧ KidsIn w' (fun _ => True) p lv ∧ Below w.heap.size w w' ∧ wtP p ≤ 100000000
set_option maxHeartbeats 4000000 in
set_option maxRecDepth 20000 in
theorem decl_any (s : ByteArray) (w : World) (hs : s.size ≤ 600) (hT : Tabs w) (hG : MTab w) :
    Calls Tryd.prog 16 #[.string s] w (DeclPost s w) := by
  have hgl := hG.1
  have HT := Lib.hid hT
  have HG := Lib.hid hG
  have HS := Lib.hid hs
  have htl := tl_len s
  clear hT hG
  go_enter Tryd.func16, Tryd.ntmps16
  go_upto_region 1 with fail
  obtain ⟨w1, hw1, hq1, hb1, hz1⟩ := new_block w (.cells #[.string ⟨#[]⟩, .string ⟨#[]⟩, .int .i64 0, .int .i64 0, .slice none 0 0] 24)
  rw [hw1]
  have HB1 := Lib.hid hb1
  have HQ1 := Lib.hid hq1
  have HZ1 := Lib.hid hz1
  have cN := new_any s w1 (by have := HS.out; omega) (HT.out.later hb1)
  clear hw1 hq1 hb1 hz1
  go_wp2_with fail
  refine cN.mono ?_
  rintro e w2 ⟨d, rv, O, rfl, hM, hb2, hO⟩
  have hz2 := HB1.out.size
  have HB2 := Lib.hid (HB1.out.trans (hb2.mono hz2))
  have HQ2 := Lib.hid ((hb2.block _ HZ1.out).trans HQ1.out)
  have cR := read_q (B := w1.heap.size) (by rw [htl]; exact hM) (by have := HS.out; omega) (HG.out.later HB2.out) hO hb2.size (by omega)
  rw [htl] at cR
  have HZ2 := Lib.hid (Nat.lt_of_lt_of_le HZ1.out hb2.size)
  clear cN hM hO hb2
  go_wp2_with fail
  refine cR.mono ?_
  rintro e w3 ⟨q, lv, at', er, rfl, hk, hwt, hnn, hb3, hdp⟩
  have HB3 := Lib.hid (HB2.out.trans (hb3.mono hz2))
  have HQ3 := Lib.hid ((hb3.block _ HZ1.out).trans HQ2.out)
  have HZ3 := Lib.hid (Nat.lt_of_lt_of_le HZ2.out hb3.size)
  have HDP := Lib.hid hdp
  obtain ⟨k, t, f, e, ks⟩ := q
  obtain ⟨a, c, rfl⟩ := J.kids_form hk
  have HK := Lib.hid hk
  have HNN := Lib.hid hnn
  have HWT := Lib.hid hwt
  have cD := fun X (hX : Below w3.heap.size w3 X) => deep_any (.mk k t f e ks) (kids_below HK.out hX) (by have := HWT.out; omega)
  obtain ⟨dp, hdpn⟩ : ∃ n, deep (.mk k t f e ks) = n := ⟨_, rfl⟩
  rw [hdpn] at cD
  have HDN := Lib.hid hdpn
  simp only [arg, five] at cD ⊢
  obtain ⟨kb, hkb⟩ : ∃ x, bstr k = x := ⟨_, rfl⟩
  obtain ⟨tb, htb⟩ : ∃ x, bstr t = x := ⟨_, rfl⟩
  have HKB := Lib.hid hkb
  have HTB := Lib.hid htb
  rw [hkb, htb] at cD ⊢
  obtain ⟨n, hn⟩ : ∃ n, ks.length = n := ⟨_, rfl⟩
  have HN := Lib.hid hn
  rw [hn] at cD ⊢
  clear cR hk hwt hnn hb3 hdp hdpn hkb htb hn htl hgl
  go_upto_region 2 with fail
  obtain ⟨w4, hw4, hq4, hb4, hz4⟩ := new_block w3 (.cells #[.string kb, .string tb, .int .i64 f, .int .i64 e, .slice a n c] 24)
  rw [hw4]
  have cD4 := cD w4 hb4
  have HQ4 := Lib.hid hq4
  have HB4 := Lib.hid hb4
  have HZ4 := Lib.hid hz4
  obtain ⟨⟨q0, q1, q2, q3, q4⟩, qf⟩ := J.cells_five hq4
  clear hw4 hq4 hb4 hz4 cD
  go_wp2_with fail
  refine cD4.mono ?_
  rintro e' w5 ⟨rfl, hb5⟩
  have hq5 := (hb5.block _ HZ4.out).trans HQ4.out
  have hp5 := (hb5.block _ (by have := HZ3.out; have := HB4.out.size; omega)).trans ((HB4.out.block _ HZ3.out).trans HQ3.out)
  have HB5 := Lib.hid (HB3.out.trans ((HB4.out.trans (hb5.mono HB4.out.size)).mono HB3.out.size))
  have hne : w3.heap.size ≠ w.heap.size := by have := HZ3.out; omega
  obtain ⟨⟨q0, q1, q2, q3, q4⟩, qf⟩ := J.cells_five hq5
  obtain ⟨⟨p0, p1, p2, p3, p4⟩, pf⟩ := J.cells_five hp5
  have HK5 := Lib.hid (kids_below (kids_below HK.out HB4.out) hb5)
  have HP5 := Lib.hid hp5
  obtain ⟨b, hb⟩ : ∃ b, w.heap.size = b := ⟨_, rfl⟩
  have HWB := Lib.hid hb
  rw [hb] at p0 p1 p2 p3 p4 pf hne HP5 ⊢
  clear cD4 hb5 hq5 hp5 hb
  by_cases hd : 40 < dp
  · go_wp2_with fail
    obtain ⟨Wf, hWf, f0, oth, hbf⟩ := set_five (.string ⟨#[]⟩) (.string ⟨#[]⟩) (.int .i64 0) (.int .i64 0) (.slice none 0 0) HP5.out
    rw [hWf]
    obtain ⟨⟨y0, y1, y2, y3, y4⟩, _⟩ := J.cells_five f0
    have hbw : Below w.heap.size w Wf := HB5.out.trans (hbf _ (by have := HWB.out; omega))
    have hfin : DeclPost s w (.returned (.tuple #[.agg #[.string ⟨#[]⟩, .string ⟨#[]⟩, .int .i64 0, .int .i64 0, .slice none 0 0], .int .i64 0, .int .i64 22])) Wf :=
      ⟨zeroP, 0, 22, .slice none 0 0, by rw [HDP.out, HDN.out, if_pos hd], rfl, ⟨none, 0, rfl, Nat.le_refl _, .inl rfl⟩, hbw, by decide⟩
    clear hWf f0 oth hbf hbw q0 q1 q2 q3 q4 qf p0 p1 p2 p3 p4 pf
    simp [bodyPost, results, Tryd.results16, go_sem, y0, y1, y2, y3, y4]
    exact hfin
  · go_wp2_with fail
    obtain ⟨Wf, hWf, f0, oth, hbf⟩ := set_five (.string kb) (.string tb) (.int .i64 f) (.int .i64 e) (.slice a n c) HP5.out
    rw [hWf]
    obtain ⟨⟨y0, y1, y2, y3, y4⟩, _⟩ := J.cells_five f0
    have hbw : Below w.heap.size w Wf := HB5.out.trans (hbf _ (by have := HWB.out; omega))
    have hkf : KidsIn Wf (fun _ => True) (.mk k t f e ks) (.slice a ks.length c) :=
      KidsIn.later (fun g hg _ => oth g hg.2) (fun _ _ => trivial) _ _ (kids_leaveL (X := fun g => g = b) (fun g off k hg hk => by subst hg; exact blank_block HP5.out off k hk) HNN.out HK5.out)
    have hfin : DeclPost s w (.returned (.tuple #[.agg #[.string kb, .string tb, .int .i64 f, .int .i64 e, .slice a n c], .int .i64 at', .int .i64 er])) Wf :=
      ⟨.mk k t f e ks, at', er, .slice a ks.length c, by rw [HDP.out, HDN.out, if_neg hd], by rw [arg, five, HKB.out, HTB.out, HN.out], hkf, hbw, HWT.out⟩
    clear hWf f0 oth hbf hbw hkf q0 q1 q2 q3 q4 qf p0 p1 p2 p3 p4 pf
    simp [bodyPost, results, Tryd.results16, go_sem, y0, y1, y2, y3, y4]
    exact hfin
end Go.Proofs.YtnjhmjkonmmomaaDoor.K
end
/- JLaid: What the rows' listed variables give layer 10's walks: the library's tables, and the program's own table of marks. -/
section
namespace Go.Proofs.YtnjhmjkonmmomaaDoor.J
open Go.Proofs Go.Shelf Go.RowKit
open Go.Lib hiding intOf
open Go.Proofs.YtnjhmjkonmmomaaDoor.U Go.Proofs.YtnjhmjkonmmomaaDoor.S Go.Proofs.YtnjhmjkonmmomaaDoor.T
open Go.Proofs.YtnjhmjkonmmomaaDoor.K (MTab tabS)

theorem tabs_of {W : World} {l : List (String × DataW Unit)} (hL : laidMet Tryd.prog l W) (h1 : ("unicode/utf8.first", Rows.laid_unicode_utf8_first) ∈ l) (h2 : ("unicode/utf8.acceptRanges", Rows.laid_unicode_utf8_acceptRanges) ∈ l) : Tabs W :=
  utf8Tabs_of_readsT (U8Types.of196 lays) ⟨by kernel_rfl, by kernel_rfl, by kernel_rfl, by kernel_rfl, by kernel_rfl, by kernel_rfl, by kernel_rfl⟩
    (Pinned.utf8First_eq ▸ Lib.laidMet.reads hL h1) (Lib.laidMet.reads hL h2)
theorem cells_mark : Tryd.prog.cellsOf 86 = 2 := by kernel_rfl
theorem cells_marks : Tryd.prog.cellsOf 87 = 26 := by kernel_rfl
theorem cells_strJ : Tryd.prog.cellsOf 9 = 1 := by kernel_rfl
theorem cells_intJ : Tryd.prog.cellsOf 3 = 1 := by kernel_rfl
theorem two_listJ {α : Type} {l : List α} (h : l.length = 2) : ∃ a b, l = [a, b] := by
  match l, h with
  | [a, b], _ => exact ⟨a, b, rfl⟩
theorem str_backJ {s : ByteArray} {l : List UInt8} (h : s.data.toList = l) : s = ⟨l.toArray⟩ := by
  subst h
  cases s
  simp
theorem mark_of {H : Type} {enc : TypeId × Value → H} {W : World} {held : Bool} {fuel : Nat} {cs : List Value} {s : List UInt8} {k : Int} {x : DataW H × List MemPlace}
    (h : DataW.trod enc Tryd.prog W 0 (fun _ => true) held fuel 86 cs = some x) (hx : x.1 = .agg [.lit (.string s), .lit (.int .i64 k)]) : cs = [.string ⟨s.toArray⟩, .int .i64 k] := by
  obtain ⟨xs, n, rfl, rfl, hcl, hxl, hfd⟩ := DataW.trod_struct Tryd.underlying86 h
  rw [cells_mark] at hcl
  obtain ⟨c0, c1, rfl⟩ := two_listJ hcl
  obtain ⟨y0, y1, rfl⟩ := two_listJ (hxl.trans rfl)
  have f0 := hfd 0 _ rfl
  have f1 := hfd 1 _ rfl
  have g0 : DataW.trod enc Tryd.prog W 0 (fun _ => true) held n 9 (([c0, c1].drop 0).take (Tryd.prog.cellsOf 9)) = some y0 := f0
  rw [cells_strJ] at g0
  replace g0 : DataW.trod enc Tryd.prog W 0 (fun _ => true) held n 9 [c0] = some y0 := g0
  have g1 : DataW.trod enc Tryd.prog W 0 (fun _ => true) held n 3 (([c0, c1].drop 1).take (Tryd.prog.cellsOf 3)) = some y1 := f1
  rw [cells_intJ] at g1
  replace g1 : DataW.trod enc Tryd.prog W 0 (fun _ => true) held n 3 [c1] = some y1 := g1
  obtain ⟨ts, h0, e0, _⟩ := DataW.trod_string Tryd.underlying9 g0
  obtain ⟨z, h1, e1, _⟩ := DataW.trod_int Tryd.underlying3 g1
  cases h0; cases h1
  subst e0; subst e1
  simp only [List.map_cons, List.map_nil, DataW.agg.injEq, List.cons.injEq, DataW.lit.injEq, Lit.int.injEq, Lit.string.injEq, true_and, and_true] at hx
  obtain ⟨hs, rfl⟩ := hx
  rw [str_backJ hs]
theorem rows_flatJ {α : Type} {k : Nat} : ∀ (rows : List (List α)) (cs : List α), cs.length = rows.length * k → (∀ i r, rows[i]? = some r → (cs.drop (i * k)).take k = r) → cs = rows.flatten
  | [], cs, hl, _ => by
    simp at hl
    simpa using hl
  | r :: rows, cs, hl, h => by
    have h0 := h 0 r rfl
    simp only [Nat.zero_mul, List.drop_zero] at h0
    have ih := rows_flatJ rows (cs.drop k) (by rw [List.length_drop, hl, List.length_cons, Nat.add_mul, Nat.one_mul, Nat.add_sub_cancel]) (fun i r' hr => by
      have := h (i + 1) r' (by simpa using hr)
      rw [List.drop_drop, show k + i * k = (i + 1) * k by rw [Nat.add_mul, Nat.one_mul, Nat.add_comm]]
      exact this)
    rw [List.flatten_cons, ← h0, ← ih, List.take_append_drop]
theorem list13 {α : Type} {l : List α} (h : l.length = 13) : ∃ x0 x1 x2 x3 x4 x5 x6 x7 x8 x9 x10 x11 x12, l = [x0, x1, x2, x3, x4, x5, x6, x7, x8, x9, x10, x11, x12] := by
  match l, h with
  | [x0, x1, x2, x3, x4, x5, x6, x7, x8, x9, x10, x11, x12], _ => exact ⟨x0, x1, x2, x3, x4, x5, x6, x7, x8, x9, x10, x11, x12, rfl⟩
def rowsS : List (List Value) := (List.range 13).map fun i => (tabS.drop (i * 2)).take 2
theorem table_of {H : Type} {enc : TypeId × Value → H} {W : World} {held : Bool} {fuel : Nat} {cs : List Value} {x : DataW H × List MemPlace}
    (h : DataW.trod enc Tryd.prog W 0 (fun _ => true) held fuel 87 cs = some x) (hx : x.1 = Rows.laid_bolthole_parse_marks) : cs = tabS := by
  obtain ⟨xs, m, rfl, rfl, hcl, hxl, hel⟩ := DataW.trod_array Tryd.underlying87 h
  rw [cells_marks] at hcl
  rw [cells_mark] at hel
  obtain ⟨x0, x1, x2, x3, x4, x5, x6, x7, x8, x9, x10, x11, x12, rfl⟩ := list13 hxl
  simp only [Rows.laid_bolthole_parse_marks, List.map_cons, List.map_nil, DataW.agg.injEq, List.cons.injEq, and_true] at hx
  obtain ⟨d0, d1, d2, d3, d4, d5, d6, d7, d8, d9, d10, d11, d12⟩ := hx
  have r0 := mark_of (hel 0 (by omega)) d0
  have r1 := mark_of (hel 1 (by omega)) d1
  have r2 := mark_of (hel 2 (by omega)) d2
  have r3 := mark_of (hel 3 (by omega)) d3
  have r4 := mark_of (hel 4 (by omega)) d4
  have r5 := mark_of (hel 5 (by omega)) d5
  have r6 := mark_of (hel 6 (by omega)) d6
  have r7 := mark_of (hel 7 (by omega)) d7
  have r8 := mark_of (hel 8 (by omega)) d8
  have r9 := mark_of (hel 9 (by omega)) d9
  have r10 := mark_of (hel 10 (by omega)) d10
  have r11 := mark_of (hel 11 (by omega)) d11
  have r12 := mark_of (hel 12 (by omega)) d12
  refine (rows_flatJ rowsS cs (k := 2) hcl (fun i r hr => ?_)).trans (by kernel_rfl)
  have hi : i < 13 := (List.getElem?_eq_some_iff.1 hr).1
  by_cases e0 : i = 0
  · subst e0
    exact r0.trans (Option.some.inj hr)
  by_cases e1 : i = 1
  · subst e1
    exact r1.trans (Option.some.inj hr)
  by_cases e2 : i = 2
  · subst e2
    exact r2.trans (Option.some.inj hr)
  by_cases e3 : i = 3
  · subst e3
    exact r3.trans (Option.some.inj hr)
  by_cases e4 : i = 4
  · subst e4
    exact r4.trans (Option.some.inj hr)
  by_cases e5 : i = 5
  · subst e5
    exact r5.trans (Option.some.inj hr)
  by_cases e6 : i = 6
  · subst e6
    exact r6.trans (Option.some.inj hr)
  by_cases e7 : i = 7
  · subst e7
    exact r7.trans (Option.some.inj hr)
  by_cases e8 : i = 8
  · subst e8
    exact r8.trans (Option.some.inj hr)
  by_cases e9 : i = 9
  · subst e9
    exact r9.trans (Option.some.inj hr)
  by_cases e10 : i = 10
  · subst e10
    exact r10.trans (Option.some.inj hr)
  by_cases e11 : i = 11
  · subst e11
    exact r11.trans (Option.some.inj hr)
  by_cases e12 : i = 12
  · subst e12
    exact r12.trans (Option.some.inj hr)
  omega
theorem mtab_of {W : World} {l : List (String × DataW Unit)} (hL : laidMet Tryd.prog l W) (hm : ("bolthole/parse.marks", Rows.laid_bolthole_parse_marks) ∈ l) : MTab W := by
  obtain ⟨g', t', cs, fuel, p, hg', ht', hv, hd⟩ := Lib.laidMet.reads hL hm
  obtain rfl := Option.some.inj ((show Tryd.prog.globalNamed "bolthole/parse.marks" = some 2 by kernel_rfl).symm.trans hg')
  obtain rfl := Option.some.inj ((show (Tryd.prog.globals[2]?).map (·.type) = some 87 by kernel_rfl).symm.trans ht')
  have e := table_of hd rfl
  have hcell : CellsAt W 2 0 tabS := by
    intro j u hj
    have hc := World.var?_cell (P := Tryd.prog) (show Tryd.prog.globalNamed "bolthole/parse.marks" = some 2 by kernel_rfl) hv j
    rw [Nat.zero_add, hc, ← Array.getElem?_toList, e]
    exact hj
  have h0 := hcell 0 _ rfl
  have hlt := World.block_lt_of_cell? W _ h0
  refine ⟨hlt, ?_, hcell⟩
  unfold World.cell? at h0
  cases ho : W.heap[2]? with
  | none => rw [ho] at h0; cases h0
  | some o =>
    refine ⟨o, rfl, ?_⟩
    rw [ho] at h0
    cases o <;> first | rfl | (simp at h0)
end Go.Proofs.YtnjhmjkonmmomaaDoor.J
end
