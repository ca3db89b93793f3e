/- The texts JClone, JShift, JShiftR, JAll, JSize, JLParts, JTree, CParts, joined. -/
import Derived.Test.YtnjhmjkonmmomaaDoorG14
import Derived.Lib.SliceRun
import Derived.Test.YtnjhmjkonmmomaaDoorG16
import Derived.Deep.AppendLies
import Derived.Test.YtnjhmjkonmmomaaDoorG13
import Derived.Test.YtnjhmjkonmmomaaDoorRows
import Derived.ChangeArms
import Derived.ChangeSlices
import Derived.SliceStrings
import Derived.Test.YtnjhmjkonmmomaaDoorCards
import Derived.Test.YtnjhmjkonmmomaaDoorTie
import Derived.WalkKit
import Derived.ProofKit
import Derived.OpenShut
import Derived.Lay
import Derived.LaidOnce
import Derived.SevenTiedAt
import Derived.Deep.DeepHandedRow
import Derived.PinnedBridge
/- JClone: slices.Clone of parts. A part that is moved: the plain function. -/
section
namespace Go.Proofs.YtnjhmjkonmmomaaDoor.J
open Go.RowKit
open Go.Lib hiding intOf
open Go.Proofs.YtnjhmjkonmmomaaDoor.U Go.Proofs.YtnjhmjkonmmomaaDoor.S Go.Proofs.YtnjhmjkonmmomaaDoor.T

theorem set_five {W : World} {b : Nat} {t : TypeId} {u0 u1 u2 u3 u4 : Value} (v0 v1 v2 v3 v4 : Value) (h : W.heap[b]? = some (.cells #[u0, u1, u2, u3, u4] t (0, 0))) :
    ∃ W', ((((W.setCell ⟨b, 0, none⟩ v0).setCell ⟨b, 1, none⟩ v1).setCell ⟨b, 2, none⟩ v2).setCell ⟨b, 3, none⟩ v3).setCell ⟨b, 4, none⟩ v4 = W' ∧ W'.heap[b]? = some (.cells #[v0, v1, v2, v3, v4] t (0, 0)) ∧ (∀ k, k ≠ b → W'.heap[k]? = W.heap[k]?) ∧ ∀ B, B ≤ b → Below B W W' := by
  have s0 : (W.setCell ⟨b, 0, none⟩ v0).heap[b]? = some (.cells #[v0, u1, u2, u3, u4] t (0, 0)) := Go.Joins.block_setCell h v0
  have s1 : ((W.setCell ⟨b, 0, none⟩ v0).setCell ⟨b, 1, none⟩ v1).heap[b]? = some (.cells #[v0, v1, u2, u3, u4] t (0, 0)) := Go.Joins.block_setCell s0 v1
  have s2 : (((W.setCell ⟨b, 0, none⟩ v0).setCell ⟨b, 1, none⟩ v1).setCell ⟨b, 2, none⟩ v2).heap[b]? = some (.cells #[v0, v1, v2, u3, u4] t (0, 0)) := Go.Joins.block_setCell s1 v2
  have s3 : ((((W.setCell ⟨b, 0, none⟩ v0).setCell ⟨b, 1, none⟩ v1).setCell ⟨b, 2, none⟩ v2).setCell ⟨b, 3, none⟩ v3).heap[b]? = some (.cells #[v0, v1, v2, v3, u4] t (0, 0)) := Go.Joins.block_setCell s2 v3
  have s4 : (((((W.setCell ⟨b, 0, none⟩ v0).setCell ⟨b, 1, none⟩ v1).setCell ⟨b, 2, none⟩ v2).setCell ⟨b, 3, none⟩ v3).setCell ⟨b, 4, none⟩ v4).heap[b]? = some (.cells #[v0, v1, v2, v3, v4] t (0, 0)) := Go.Joins.block_setCell s3 v4
  have oth : ∀ k, k ≠ b → (((((W.setCell ⟨b, 0, none⟩ v0).setCell ⟨b, 1, none⟩ v1).setCell ⟨b, 2, none⟩ v2).setCell ⟨b, 3, none⟩ v3).setCell ⟨b, 4, none⟩ v4).heap[k]? = W.heap[k]? := fun k hk =>
    (Below.heap_setCell _ _ _ _ hk).trans ((Below.heap_setCell _ _ _ _ hk).trans ((Below.heap_setCell _ _ _ _ hk).trans ((Below.heap_setCell _ _ _ _ hk).trans (Below.heap_setCell _ _ _ _ hk))))
  have b1 : ∀ B, B ≤ b → ∀ (X : World) (j : Nat) (v : Value), Below B X (X.setCell ⟨b, j, none⟩ v) := fun B hB X j v => ⟨rfl, rfl, rfl, by simp, fun k hk => Below.heap_setCell _ _ _ _ (by show k ≠ b; omega)⟩
  exact ⟨_, rfl, s4, oth, fun B hB => ((((b1 B hB _ _ _).trans (b1 B hB _ _ _)).trans (b1 B hB _ _ _)).trans (b1 B hB _ _ _)).trans (b1 B hB _ _ _)⟩
set_option maxHeartbeats 4000000 in
set_option maxRecDepth 20000 in
theorem clone_own {w : World} {a : Option Addr} {n c : Nat} {xs : List Value} (hc : n = 0 ∨ ∃ g off, a = some ⟨g, off, none⟩ ∧ CellsAt w g off xs) (hl : xs.length = n * 5) (hone : ∀ u ∈ xs, u.oneCell' = true) (hw : n ≤ 1099511627776) :
    Calls Tryd.prog 18 #[.slice a n c] w fun e w' => ∃ v', e = .returned v' ∧ w'.ownsRow w.heap.size 24 5 v' n xs ∧ Below w.heap.size w w' := by
  obtain ⟨iP, hi0, hz0, hz1, hz2⟩ := info_parts infoP
  have q22 : ∀ (w : World) (a : Option Addr) (n c n' c' : Nat), (binOp .eql 22 (.slice a n c) (.slice none n' c')).run Tryd.prog w = .ok (.bool a.isNone) w := fun w a n c n' c' => Lib.run_eql_slice_nil w _ _ a n c n' c' Tryd.underlying22
  have HC := Lib.hid hc
  have HL := Lib.hid hl
  have HO := Lib.hid hone
  clear hc hl hone
  cases a with
  | none =>
    have h0 : n = 0 := by
      rcases HC.out with h | ⟨g, off, h, _⟩
      · exact h
      · cases h
    subst h0
    have hx : xs = [] := List.eq_nil_of_length_eq_zero (by have := HL.out; omega)
    subst hx
    go_enter Tryd.func18, Tryd.ntmps18
    go_wp2_with fail
    go_ret
    exact ⟨_, rfl, World.ownsRow_nil _ _ _ _, Below.refl _ _⟩
  | some ad =>
    go_enter Tryd.func18, Tryd.ntmps18
    have hcb : ∀ X, Below w.heap.size w X → (n = 0 ∨ ∃ g off, some ad = some ⟨g, off, none⟩ ∧ CellsAt X g off xs) := fun X hX => HC.out.imp id (fun ⟨g, off, h1, h2⟩ => ⟨g, off, h1, fun j u hj => (hX.cell (World.block_lt_of_cell? w _ (h2 j u hj))).trans (h2 j u hj)⟩)
    have HCB := Lib.hid hcb
    clear hcb
    go_wp2_with (at_builtin; refine wpList_append_row rfl _ _ 22 rfl w.heap.size 24 iP _ 5 72 Tryd.underlying22 hi0 hz0 hz1 hz2 rfl (by decide) _ 0 [] rfl (World.ownsRow_made w #[] 0 (Nat.le_refl _) (Nat.zero_le _) rfl) _ n c xs rfl HL.out (HCB.out _ ((Below.refl _ _).alloc (Nat.le_refl _) _)) HO.out (by unfold maxLen; omega) (by omega) (by simp) ?_)
    intro v' w1 hown hgrow _
    have hb : Below w.heap.size w w1 := ((Below.refl _ w).alloc (Nat.le_refl _) (.cells #[] 24)).grown hgrow (by simp) (by intro k hk; simp [Value.ownBlock] at hk; omega)
    have HOwn : Hid (w1.ownsRow w.heap.size 24 5 v' n xs) := Lib.hid (by simpa using hown)
    have HB := Lib.hid hb
    clear hown hgrow hb
    go_wp2_with fail
    go_ret
    exact ⟨v', rfl, HOwn.out, HB.out⟩

/-! ### A part that is moved -/
def moved (f e x by' : Int) : Int := if f = 0 ∧ e = 0 then x else wrap64 (x + by')
mutual
def shiftP (by' : Int) : Pt → Pt
  | .mk k t f e ks => .mk k t (moved f e f by') (moved f e e by') (shiftL by' ks)
def shiftL (by' : Int) : List Pt → List Pt
  | [] => []
  | p :: r => shiftP by' p :: shiftL by' r
end
theorem shiftL_map (b : Int) : ∀ l, shiftL b l = l.map (shiftP b)
  | [] => rfl
  | p :: r => by rw [shiftL, shiftL_map b r]; rfl
theorem shiftL_length (b : Int) (l : List Pt) : (shiftL b l).length = l.length := by rw [shiftL_map, List.length_map]
theorem shiftL_snoc (b : Int) (l : List Pt) (p : Pt) : shiftL b (l ++ [p]) = shiftL b l ++ [shiftP b p] := by rw [shiftL_map, shiftL_map, List.map_append]; rfl
theorem shiftL_take_succ (b : Int) {l : List Pt} {i : Nat} (h : i < l.length) : shiftL b (l.take (i + 1)) = shiftL b (l.take i) ++ [shiftP b l[i]] := by
  rw [List.take_succ_eq_append_getElem h, shiftL_snoc]
mutual
theorem shift_wt (b : Int) : ∀ p, wtP (shiftP b p) = wtP p
  | .mk k t f e ks => by rw [shiftP, wtP, wtP, shiftL_wt b ks]
theorem shiftL_wt (b : Int) : ∀ l, wtL (shiftL b l) = wtL l
  | [] => by rw [shiftL]
  | p :: r => by rw [shiftL, wtL, wtL, shift_wt b p, shiftL_wt b r]
end
end Go.Proofs.YtnjhmjkonmmomaaDoor.J
end
/- JShift: A part that is moved: the program's Shift. -/
section
namespace Go.Proofs.YtnjhmjkonmmomaaDoor.J
open Go.RowKit
open Go.Lib hiding intOf
open Go.Proofs.YtnjhmjkonmmomaaDoor.U Go.Proofs.YtnjhmjkonmmomaaDoor.S Go.Proofs.YtnjhmjkonmmomaaDoor.T

/-- Five cells of a row are written. -/
theorem set5_at {W : World} {g o : Nat} {t : TypeId} {cur : Array Value} (v0 v1 v2 v3 v4 : Value) (h : W.heap[g]? = some (.cells cur t (0, 0))) (hs : o + 5 ≤ cur.size) :
    ∃ W' cur', ((((W.setCell ⟨g, o, none⟩ v0).setCell ⟨g, o + 1, none⟩ v1).setCell ⟨g, o + 2, none⟩ v2).setCell ⟨g, o + 3, none⟩ v3).setCell ⟨g, o + 4, none⟩ v4 = W' ∧ W'.heap[g]? = some (.cells cur' t (0, 0)) ∧ cur'.size = cur.size ∧
      (∀ j u, [v0, v1, v2, v3, v4][j]? = some u → cur'[o + j]? = some u) ∧ (∀ j, j < o ∨ o + 5 ≤ j → cur'[j]? = cur[j]?) ∧ (∀ k, k ≠ g → W'.heap[k]? = W.heap[k]?) ∧ ∀ B, B ≤ g → Below B W W' := by
  have b1 : ∀ B, B ≤ g → ∀ (X : World) (j : Nat) (v : Value), Below B X (X.setCell ⟨g, j, none⟩ v) := fun B hB X j v => ⟨rfl, rfl, rfl, by simp, fun k hk => Below.heap_setCell _ _ _ _ (by show k ≠ g; omega)⟩
  have s0 := Go.Joins.block_setCell h (i := o) v0
  have s1 := Go.Joins.block_setCell s0 (i := o + 1) v1
  have s2 := Go.Joins.block_setCell s1 (i := o + 2) v2
  have s3 := Go.Joins.block_setCell s2 (i := o + 3) v3
  have s4 := Go.Joins.block_setCell s3 (i := o + 4) v4
  refine ⟨_, _, rfl, s4, ?_, ?_, ?_, ?_, fun B hB => ((((b1 B hB _ _ _).trans (b1 B hB _ _ _)).trans (b1 B hB _ _ _)).trans (b1 B hB _ _ _)).trans (b1 B hB _ _ _)⟩
  · simp
  · intro j u hj
    rcases j with _ | _ | _ | _ | _ | j
    · simp at hj; subst hj; simp [Array.getElem?_setIfInBounds]; omega
    · simp at hj; subst hj; simp [Array.getElem?_setIfInBounds]; omega
    · simp at hj; subst hj; simp [Array.getElem?_setIfInBounds]; omega
    · simp at hj; subst hj; simp [Array.getElem?_setIfInBounds]; omega
    · simp at hj; subst hj; simp [Array.getElem?_setIfInBounds]; omega
    · simp at hj
  · intro j hj
    simp only [Array.getElem?_setIfInBounds]
    rw [if_neg (by omega), if_neg (by omega), if_neg (by omega), if_neg (by omega), if_neg (by omega)]
  · intro k hk
    exact (Below.heap_setCell _ _ _ _ hk).trans ((Below.heap_setCell _ _ _ _ hk).trans ((Below.heap_setCell _ _ _ _ hk).trans ((Below.heap_setCell _ _ _ _ hk).trans (Below.heap_setCell _ _ _ _ hk))))
theorem idx_row {o : Oper} {a : Act} (x y g off n i c : Nat) (W : World) (ho : o.op = .indexAddr 22 (.tmp x) (.tmp y)) (h1 : a.eval (.tmp x) = .slice (some ⟨g, off, none⟩) n c) (h2 : a.eval (.tmp y) = .int .i64 i) (hin : i < n) : (execOp a.eval o).run Tryd.prog W = .ok (.value (.pointer (some ⟨g, off + i * 5, none⟩))) W := by
  have hm : (0 : Int) ≤ (i : Int) := by omega
  have hm2 : (i : Int) < (n : Int) := by omega
  have hr : (Instr.indexAt 22 (.slice (some ⟨g, off, none⟩) n c) (.int .i64 i)).run Tryd.prog W = .ok (.pointer (some ⟨g, off + i * 5, none⟩)) W := by
    simp [go_sem]
    intro h
    omega
  unfold execOp
  rw [ho]
  simp only [h1, h2, Sem.run_bind, hr, Result.andThen_ok, Sem.run_pure]
theorem wanted_step {c : Prop} [Decidable c] {A B : Prop} (hc : c) (hA : A) : if c then A else B := by rw [if_pos hc]; exact hA
def ShiftPost (q : Pt) (w : World) (e : Ending) (w' : World) : Prop := ∃ lv, e = .returned (arg q lv) ∧ KidsIn w' (fun g => w.heap.size ≤ g) q lv ∧ Below w.heap.size w w'
/-- The row while its parts are moved, the first i done. -/
structure Half (H g : Nat) (b : Int) (ks : List Pt) (xs : List Value) (cap i : Nat) (W : World) : Prop where
  hg : H ≤ g
  row : ∃ (cur : Array Value) (ys : List Value), W.heap[g]? = some (.cells cur 24 (0, 0)) ∧ cur.size = cap * 5 ∧ PartsIn W (fun k => H ≤ k ∧ k ≠ g) (shiftL b (ks.take i)) ys ∧ ∀ (j : Nat) (u : Value), (ys ++ xs.drop (i * 5))[j]? = some u → cur[j]? = some u
def ShiftC (p : Pt) : Prop := ∀ (lv : Value) (R : Nat → Prop) (w : World) (b : Int), KidsIn w R p lv → wtP p ≤ 1099511627776 →
  Calls Tryd.prog 9 #[arg p lv, .int .i64 b] w (ShiftPost (shiftP b p) w)
set_option maxHeartbeats 8000000 in
set_option maxRecDepth 20000 in
theorem shift_any : ∀ p, ShiftC p := Pt.ind fun k t f e ks IH lv R w b hv hw => by
  obtain ⟨a, c, rfl⟩ := kids_form hv
  obtain ⟨_, hcap, hrow⟩ := kids_row hv
  have HIH := Lib.hid IH
  rw [wtP] at hw
  have hlb : ks.length ≤ 1099511627776 := Nat.le_trans (wtL_length ks) (by omega)
  have HWM := Lib.hid (fun v (h : v ∈ ks) => Nat.le_trans (wtL_mem h) (show wtL ks ≤ 1099511627776 by omega))
  obtain ⟨xs, hp, hc, hl⟩ : ∃ xs, PartsIn w R ks xs ∧ (ks.length = 0 ∨ ∃ g off, a = some ⟨g, off, none⟩ ∧ CellsAt w g off xs) ∧ xs.length = ks.length * 5 := by
    rcases hrow with rfl | ⟨g, off, xs, rfl, _, h2, h3⟩
    · exact ⟨[], rfl, .inl rfl, rfl⟩
    · exact ⟨xs, h3, .inr ⟨g, off, rfl, h2⟩, by have := PartsIn.length h3; omega⟩
  have HP := Lib.hid hp
  have HC := Lib.hid hc
  have HONE := Lib.hid (parts_one hp)
  obtain ⟨n, hn⟩ : ∃ n, ks.length = n := ⟨_, rfl⟩
  have HN := Lib.hid hn
  rw [hn] at hlb hl
  have HL := Lib.hid hl
  obtain ⟨f1, hf1⟩ : ∃ x, moved f e f b = x := ⟨_, rfl⟩
  obtain ⟨e1, he1⟩ : ∃ x, moved f e e b = x := ⟨_, rfl⟩
  obtain ⟨kb, hkb⟩ : ∃ x, bstr k = x := ⟨_, rfl⟩
  obtain ⟨tb, htb⟩ : ∃ x, bstr t = x := ⟨_, rfl⟩
  have HFin : Hid (∀ (W : World) (va : Option Addr) (vc : Nat), Below w.heap.size w W → (n = 0 ∨ ∃ g ys, va = some ⟨g, 0, none⟩ ∧ n ≤ vc ∧ w.heap.size ≤ g ∧ CellsAt W g 0 ys ∧ PartsIn W (fun k => w.heap.size ≤ k) (shiftL b ks) ys) →
      ShiftPost (shiftP b (.mk k t f e ks)) w (.returned (.agg #[.string kb, .string tb, .int .i64 f1, .int .i64 e1, .slice va n vc])) W) := Lib.hid (fun W va vc hb h => by
    have hq : shiftP b (.mk k t f e ks) = .mk k t f1 e1 (shiftL b ks) := by rw [shiftP, hf1, he1]
    rw [hq]
    refine ⟨.slice va n vc, by rw [arg, five, hkb, htb], ?_, hb⟩
    rcases h with h0 | ⟨g, ys, rfl, h1, h2, h3, h4⟩
    · have hk0 : ks = [] := List.eq_nil_of_length_eq_zero (by rw [hn]; exact h0)
      subst hk0
      refine ⟨va, vc, ?_, Nat.zero_le _, .inl rfl⟩
      rw [h0]; rfl
    · refine ⟨some ⟨g, 0, none⟩, vc, by rw [shiftL_length, hn], by rw [shiftL_length, hn]; exact h1, .inr ⟨g, 0, ys, rfl, h2, h3, h4⟩⟩)
  obtain ⟨q, hq⟩ : ∃ q, shiftP b (.mk k t f e ks) = q := ⟨_, rfl⟩
  rw [hq] at HFin ⊢
  simp only [arg, five]
  rw [hn, hkb, htb]
  have HF1 := Lib.hid hf1
  have HE1 := Lib.hid he1
  clear hv hrow IH hw hp hc hl hn hcap hkb htb hq hf1 he1
  have go : ∀ X : World, Below w.heap.size w X → (n = 0 ∨ ∃ g off, a = some ⟨g, off, none⟩ ∧ CellsAt X g off xs) := fun X hX => by
    rw [← HN.out]
    exact HC.out.imp id (fun ⟨g, off, h1, h2⟩ => ⟨g, off, h1, fun j u hj => (hX.cell (World.block_lt_of_cell? w _ (h2 j u hj))).trans (h2 j u hj)⟩)
  have HGo := Lib.hid go
  clear go HC
  go_enter Tryd.func9, Tryd.ntmps9
  by_cases hz : f = 0 ∧ e = 0
  · have hzz := hz
    obtain ⟨rfl, rfl⟩ := hzz
    go_upto_region 4 with fail
    obtain ⟨w1, hw1, hq1, hr1, hb1, hz1⟩ := two_new w (.cells #[.string kb, .string tb, .int .i64 0, .int .i64 0, .slice a n c] 24) (.cells #[.string ⟨#[]⟩, .string ⟨#[]⟩, .int .i64 0, .int .i64 0, .slice none 0 0] 24)
    rw [hw1]
    have hfe : f1 = 0 ∧ e1 = 0 := by rw [← HF1.out, ← HE1.out]; simp [moved]
    obtain ⟨rfl, rfl⟩ := hfe
    have HQ := Lib.hid hq1
    have HR := Lib.hid hr1
    have HB := Lib.hid hb1
    have HZ := Lib.hid hz1
    clear hw1 hq1 hr1 hb1 hz1 hz
    have cC := clone_own (w := w1) (c := c) (HGo.out _ HB.out) HL.out HONE.out hlb
    obtain ⟨⟨k0, k1, k2, k3, k4⟩, kf⟩ := cells_five HQ.out
    go_wp2_with fail
    refine cC.mono ?_
    rintro ee w2 ⟨v', rfl, hown, hb2⟩
    obtain ⟨va, vc, rfl⟩ := owns_len hown
    have hq2 := (hb2.block _ (by have := HZ.out; omega)).trans HQ.out
    have hr2 := (hb2.block _ HZ.out).trans HR.out
    obtain ⟨⟨k0, k1, k2, k3, k4⟩, kf⟩ := cells_five hq2
    have HQ2 := Lib.hid hq2
    have HR2 := Lib.hid hr2
    have HO2 := Lib.hid hown
    have HB2 := Lib.hid (HB.out.trans (hb2.mono HB.out.size))
    have HZ2 := Lib.hid (Nat.lt_of_lt_of_le HZ.out hb2.size)
    clear cC hq2 hr2 hown hb2 HQ HR HGo
    go_upto_region 5 with fail
    have hq3 : (w2.setCell ⟨w.heap.size, 4, none⟩ (.slice va n vc)).heap[w.heap.size]? = some (.cells #[.string kb, .string tb, .int .i64 0, .int .i64 0, .slice va n vc] 24 (0, 0)) := Go.Joins.block_setCell HQ2.out _
    have hoth : ∀ k, k ≠ w.heap.size → (w2.setCell ⟨w.heap.size, 4, none⟩ (.slice va n vc)).heap[k]? = w2.heap[k]? := fun k hk => Below.heap_setCell _ _ _ _ hk
    have hb3 : Below w.heap.size w (w2.setCell ⟨w.heap.size, 4, none⟩ (.slice va n vc)) := HB2.out.trans ⟨rfl, rfl, rfl, by simp, fun k hk => hoth k (by omega)⟩
    have hz3 : (w2.setCell ⟨w.heap.size, 4, none⟩ (.slice va n vc)).heap.size = w2.heap.size := by simp
    generalize w2.setCell ⟨w.heap.size, 4, none⟩ (.slice va n vc) = w3 at hq3 hoth hb3 hz3 ⊢
    have hr3 := (hoth (w.heap.size + 1) (by omega)).trans HR2.out
    have hhalf : n = 0 ∨ ∃ g, va = some ⟨g, 0, none⟩ ∧ n ≤ vc ∧ g < w3.heap.size ∧ g ≠ w.heap.size + 1 ∧ Half (w.heap.size + 2) g b ks xs vc 0 w3 := by
      rcases HO2.out.2 with ⟨_, h0⟩ | ⟨g, cap, cur, hv, h1, h2, h3, _, h4, h5⟩
      · exact .inl h0
      · cases hv
        have hgl := (Array.getElem?_eq_some_iff.1 h2).1
        have hzz := HZ.out
        refine .inr ⟨g, rfl, h3, by omega, by omega, ⟨by omega, cur, [], (hoth g (by omega)).trans h2, h4, rfl, fun j u hj => ?_⟩⟩
        rw [List.nil_append, Nat.zero_mul, List.drop_zero, ← h5, List.getElem?_take] at hj
        split at hj
        · simpa using hj
        · cases hj
    have HQ3 := Lib.hid hq3
    have HR3 := Lib.hid hr3
    have HB3 := Lib.hid hb3
    have HH3 := Lib.hid hhalf
    have HZ3 : Hid (w.heap.size + 1 < w3.heap.size) := Lib.hid (by have := HZ2.out; omega)
    obtain ⟨⟨k0, k1, k2, k3, k4⟩, kf⟩ := cells_five hq3
    clear hq3 hoth hb3 hz3 hr3 hhalf HQ2 HR2 HO2 HB2 HZ2 HB HZ
    go_wp2_with fail
    clear k0 k1 k2 k3 k4 kf
    go_loopw [32] (fun iv wr => ∃ i : Nat, iv = .int .i64 i ∧ i ≤ n ∧ Hid (Below w.heap.size w wr) ∧ Hid (wr.heap[w.heap.size]? = some (.cells #[.string kb, .string tb, .int .i64 0, .int .i64 0, .slice va n vc] 24 (0, 0))) ∧ Hid (wr.heap[w.heap.size + 1]? = some (.cells #[.string ⟨#[]⟩, .string ⟨#[]⟩, .int .i64 0, .int .i64 0, .slice none 0 0] 24 (0, 0))) ∧
        Hid (n = 0 ∨ ∃ g, va = some ⟨g, 0, none⟩ ∧ n ≤ vc ∧ g < wr.heap.size ∧ g ≠ w.heap.size + 1 ∧ Half (w.heap.size + 2) g b ks xs vc i wr)) (fun iv _ => n - (Go.RowKit.intOf iv).toNat)
    case atStart => exact ⟨0, rfl, Nat.zero_le _, HB3, HQ3, HR3, HH3⟩
    case round =>
      obtain ⟨i, rfl, hi, HB, HQ, HR, HH⟩ := hrel
      obtain ⟨⟨k0, k1, k2, k3, k4⟩, kf⟩ := cells_five HQ.out
      clear HB3 HQ3 HR3 HH3
      by_cases hlt : i < n
      · have hll : i < ks.length := by rw [HN.out]; exact hlt
        obtain ⟨g, rfl, hnc, hgl, hg1, hH⟩ := HH.out.resolve_left (by omega)
        obtain ⟨hg, cur, ys, hcur, hcs, hys, hcy⟩ := hH
        obtain ⟨lv, hkid, hget⟩ := parts_get i hll HP.out
        obtain ⟨p, hpp⟩ : ∃ p, ks[i] = p := ⟨_, rfl⟩
        have hpm : p ∈ ks := by rw [← hpp]; exact List.getElem_mem hll
        have hts := shiftL_take_succ b hll
        rw [hpp] at hkid hget hts
        obtain ⟨kk, tt, ff, ee, kks⟩ := p
        obtain ⟨aa, cc, rfl⟩ := kids_form hkid
        have hyl : ys.length = i * 5 := by have := PartsIn.length hys; rw [shiftL_length, List.length_take] at this; omega
        have at' : ∀ j u, (five (.mk kk tt ff ee kks) (.slice aa kks.length cc))[j]? = some u → wr.cell? ⟨g, i * 5 + j, none⟩ = some u := fun j u hj => by
          have h1 := hget j u hj
          have h2 := hcy (i * 5 + j) u (by rw [List.getElem?_append_right (by omega), hyl, List.getElem?_drop, show i * 5 + (i * 5 + j - i * 5) = i * 5 + j by omega]; exact h1)
          unfold World.cell?
          rw [hcur]
          exact h2
        have j0 : wr.cell? ⟨g, i * 5, none⟩ = some (.string (bstr kk)) := at' 0 _ rfl
        have j1 := at' 1 _ rfl
        have j2 := at' 2 _ rfl
        have j3 := at' 3 _ rfl
        have j4 := at' 4 _ rfl
        have cI := fun X (hX : Below w.heap.size w X) => (HIH.out _ hpm) (.slice aa kks.length cc) R X b (kids_below hkid hX) (HWM.out _ hpm)
        simp only [arg, five] at cI
        obtain ⟨y0, hy0⟩ : ∃ x, bstr kk = x := ⟨_, rfl⟩
        obtain ⟨y1, hy1⟩ : ∃ x, bstr tt = x := ⟨_, rfl⟩
        obtain ⟨z0, hz0⟩ : ∃ x, kks.length = x := ⟨_, rfl⟩
        rw [hy0] at j0 cI
        rw [hy1] at j1 cI
        rw [hz0] at j4 cI
        obtain ⟨sq, hsq⟩ : ∃ x, shiftP b (.mk kk tt ff ee kks) = x := ⟨_, rfl⟩
        rw [hsq] at cI hts
        have HCI := Lib.hid cI
        have HHalf := Lib.hid (Half.mk hg ⟨cur, ys, hcur, hcs, hys, hcy⟩)
        have HTS := Lib.hid hts
        have HG := Lib.hid (And.intro hnc (And.intro hgl hg1))
        clear hcur hcs hys hcy hkid hget hpp hpm hts at' cI hy0 hy1 hz0 hsq hg HH hnc hgl hg1 hyl
        go_upto_region 8 with fail
        obtain ⟨w4, hw4, hq4, hb4, hz4⟩ := new_block wr (.cells #[.string y0, .string y1, .int .i64 ff, .int .i64 ee, .slice aa z0 cc] 24)
        rw [hw4]
        obtain ⟨KB, hK⟩ : ∃ KB, wr.heap.size = KB := ⟨_, rfl⟩
        have HWK := Lib.hid hK
        rw [hK] at hq4 hb4 hz4 ⊢
        have hww : w.heap.size + 1 < KB := by have := HR.out; have := (Array.getElem?_eq_some_iff.1 this).1; omega
        have hq := (hb4.block w.heap.size (by omega)).trans HQ.out
        have hr := (hb4.block (w.heap.size + 1) hww).trans HR.out
        have hww1 : w.heap.size + 2 ≤ KB := hww
        have hB4 : Below w.heap.size w w4 := HB.out.trans (hb4.mono (by omega))
        have hH4 : Half (w.heap.size + 2) g b ks xs vc i w4 := by
          obtain ⟨a1, cur, ys, a2, a3, a4, a5⟩ := HHalf.out
          exact ⟨a1, cur, ys, (hb4.block g (by have := HG.out.2.1; omega)).trans a2, a3, PartsIn.later (fun k hk hkl => hb4.block k (by omega)) (fun _ h => h) _ _ a4, a5⟩
        have HQ4 := Lib.hid hq4
        have HB4 := Lib.hid hB4
        have HH4 := Lib.hid hH4
        have HP4 := Lib.hid hq
        have HR4 := Lib.hid hr
        have HZ4 := Lib.hid hz4
        have HWW := Lib.hid hww
        clear hw4 hq4 hb4 hz4 hK hww hq hr hB4 hH4 j0 j1 j2 j3 j4 k0 k1 k2 k3 k4 kf HB HQ HR HHalf
        refine wp_region_held_drew (S := fun X => Below w.heap.size w X ∧ X.heap[w.heap.size]? = some (.cells #[.string kb, .string tb, .int .i64 0, .int .i64 0, .slice (some ⟨g, 0, none⟩) n vc] 24 (0, 0)) ∧ X.heap[KB]? = some (.cells #[.string y0, .string y1, .int .i64 ff, .int .i64 ee, .slice aa z0 cc] 24 (0, 0))) (by kernel_rfl) ⟨HB4.out.drew, HP4.out, HQ4.out⟩ (fun hHeld => ?_)
        have HD1 : Hid (Half (w.heap.size + 2) g b ks xs vc i w4.drew) := Lib.hid (by
          obtain ⟨a1, cur, ys, a2, a3, a4, a5⟩ := HH4.out
          exact ⟨a1, cur, ys, a2, a3, parts_below a4 ((Below.refl _ _).drew), a5⟩)
        have HD2 : Hid (w4.drew.heap[w.heap.size + 1]? = _) := Lib.hid HR4.out
        have HD3 : Hid (KB < w4.drew.heap.size) := Lib.hid HZ4.out
        obtain ⟨V, hV⟩ : ∃ V, w4.drew = V := ⟨_, rfl⟩
        rw [hV] at hHeld HD1 HD2 HD3 ⊢
        clear hV HH4 HR4 HZ4 HB4 HP4 HQ4
        refine wpAnyH_take (i := 0) (oi := ({ dst := some 37, op := Op.fieldAddr 24 (Operand.tmp 2) 4, type := 0, pos := "parse.go:36", after := #[], guard := none } : Oper)) (v := .pointer (some ⟨w.heap.size, 4, none⟩)) rfl (by kernel_rfl) (by kernel_rfl) (by kernel_rfl) (fun _ _ _ h => h) (Or.inl ⟨by rfl, fun X hX => rfl⟩) hHeld ?_
        (try simp only [Act.put, List.setIfInBounds_toArray, List.set_cons_zero, List.set_cons_succ])
        refine wpAnyH_take (i := 1) (oi := ({ dst := some 38, op := Op.load 22 (Operand.tmp 37), type := 22, pos := "parse.go:36", after := #[{ on := 0, ground := Ground.data }], guard := none } : Oper)) (v := .slice (some ⟨g, 0, none⟩) n vc) rfl (by kernel_rfl) (by kernel_rfl) (by kernel_rfl) (fun _ _ _ h => h) (Or.inl ⟨by rfl, fun X hX => by have q := (cells_five hX.2.1).1.2.2.2.2; go_simp⟩) hHeld ?_
        (try simp only [Act.put, List.setIfInBounds_toArray, List.set_cons_zero, List.set_cons_succ])
        refine wpAnyH_take (i := 2) (oi := ({ dst := some 39, op := Op.move (Operand.tmp 5), type := 3, pos := "parse.go:36", after := #[], guard := none } : Oper)) (v := .int .i64 i) rfl (by kernel_rfl) (by kernel_rfl) (by kernel_rfl) (fun _ _ _ h => h) (Or.inl ⟨by rfl, fun X hX => rfl⟩) hHeld ?_
        (try simp only [Act.put, List.setIfInBounds_toArray, List.set_cons_zero, List.set_cons_succ])
        refine wpAnyH_take (i := 3) (oi := ({ dst := some 40, op := Op.load 24 (Operand.tmp 6), type := 24, pos := "parse.go:36", after := #[], guard := none } : Oper)) (v := .agg #[.string y0, .string y1, .int .i64 ff, .int .i64 ee, .slice aa z0 cc]) rfl (by kernel_rfl) (by kernel_rfl) (by kernel_rfl) (fun _ _ _ h => h) (Or.inl ⟨by rfl, fun X hX => by obtain ⟨q0, q1, q2, q3, q4⟩ := (cells_five hX.2.2).1; go_simp⟩) hHeld ?_
        (try simp only [Act.put, List.setIfInBounds_toArray, List.set_cons_zero, List.set_cons_succ])
        refine wpAnyH_take (i := 4) (oi := ({ dst := some 41, op := Op.move (Operand.tmp 1), type := 3, pos := "parse.go:36", after := #[], guard := none } : Oper)) (v := .int .i64 b) rfl (by kernel_rfl) (by kernel_rfl) (by kernel_rfl) (fun _ _ _ h => h) (Or.inl ⟨by rfl, fun X hX => rfl⟩) hHeld ?_
        (try simp only [Act.put, List.setIfInBounds_toArray, List.set_cons_zero, List.set_cons_succ])
        refine wpAnyH_ready (rs := [5]) (by kernel_rfl) (by simp) ?_
        refine (AllReadyH.cons (o := ({ dst := some 42, op := Op.call { callee := Callee.value (Operand.func 9), args := #[Operand.tmp 40, Operand.tmp 41], argTypes := #[24, 3] }, type := 24, pos := "parse.go:36", after := #[{ on := 3, ground := Ground.data }, { on := 4, ground := Ground.data }], guard := none } : Oper)) rfl (fun K hK => ?_) AllReadyH.nil)
        refine wanted_step (by kernel_rfl) ?_
        go_simp
        go_at_call 9
        refine (HCI.out V hHeld.1).mono ?_
        rintro e' w5 ⟨lv5, rfl, hk5, hb5⟩
        have hVb : w.heap.size ≤ V.heap.size := hHeld.1.size
        have hS5 : Below w.heap.size w w5 ∧ w5.heap[w.heap.size]? = _ ∧ w5.heap[KB]? = _ := ⟨hHeld.1.trans (hb5.mono hVb), (hb5.block _ (by have := HWW.out; have := HD3.out; omega)).trans hHeld.2.1, (hb5.block _ HD3.out).trans hHeld.2.2⟩
        dsimp only
        refine hK.out _ _ (hS5) (fun hHeld5 => ?_)
        (try simp only [Act.put, List.setIfInBounds_toArray, List.set_cons_zero, List.set_cons_succ])
        clear hK K
        obtain ⟨sk, st, sf, se, sks⟩ := sq
        obtain ⟨sa, sc, rfl⟩ := kids_form hk5
        simp only [arg, five]
        refine wpAnyH_take (i := 6) (oi := ({ dst := some 43, op := Op.indexAddr 22 (Operand.tmp 38) (Operand.tmp 39), type := 0, pos := "parse.go:36", after := #[{ on := 1, ground := Ground.data }, { on := 2, ground := Ground.data }, { on := 0, ground := Ground.phase }, { on := 1, ground := Ground.phase }, { on := 2, ground := Ground.phase }, { on := 3, ground := Ground.phase }, { on := 4, ground := Ground.phase }, { on := 5, ground := Ground.phase }], guard := none } : Oper)) (v := .pointer (some ⟨g, i * 5, none⟩)) rfl (by kernel_rfl) (by kernel_rfl) (by kernel_rfl) (fun _ _ _ h => h) (Or.inl ⟨by rfl, fun X hX => (idx_row 38 39 g 0 n i vc X rfl rfl rfl hlt).trans (by rw [Nat.zero_add])⟩) hHeld5 ?_
        (try simp only [Act.put, List.setIfInBounds_toArray, List.set_cons_zero, List.set_cons_succ])
        obtain ⟨a1, cur, ys, a2, a3, a4, a5⟩ := HD1.out
        have hVg : g < V.heap.size := (Array.getElem?_eq_some_iff.1 a2).1
        have c2 := (hb5.block g hVg).trans a2
        have hnc := HG.out.1
        have hsz : i * 5 + 5 ≤ cur.size := by omega
        obtain ⟨W', cur', hW', d1, d2, d3, d4, d5, d6⟩ := set5_at (.string (bstr sk)) (.string (bstr st)) (.int .i64 sf) (.int .i64 se) (.slice sa sks.length sc) c2 hsz
        have cl : ∀ j, j < 5 → ∃ u, w5.cell? ⟨g, i * 5 + j, none⟩ = some u := fun j hj => by
          have hj5 : i * 5 + j < cur.size := Nat.lt_of_lt_of_le (Nat.add_lt_add_left hj _) hsz
          unfold World.cell?; rw [c2]; exact ⟨cur[i * 5 + j]'hj5, Array.getElem?_eq_getElem hj5⟩
        obtain ⟨u0, q0⟩ : ∃ u, w5.cell? ⟨g, i * 5, none⟩ = some u := cl 0 (by omega)
        obtain ⟨u1, q1⟩ := cl 1 (by omega)
        obtain ⟨u2, q2⟩ := cl 2 (by omega)
        obtain ⟨u3, q3⟩ := cl 3 (by omega)
        obtain ⟨u4, q4⟩ := cl 4 (by omega)
        have qf : ∀ j, w5.frozen? ⟨g, j, none⟩ = false := fun j => by simp [World.frozen?, c2]
        have hgK : g ≠ KB := by have := HG.out.2.1; have := HWK.out; omega
        have hgP : g ≠ w.heap.size := by omega
        have hgQ : g ≠ w.heap.size + 1 := HG.out.2.2
        have hSf : Below w.heap.size w W' ∧ W'.heap[w.heap.size]? = _ ∧ W'.heap[KB]? = _ := ⟨hS5.1.trans (d6 _ (by omega)), (d5 _ (fun h => hgP h.symm)).trans hS5.2.1, (d5 _ (fun h => hgK h.symm)).trans hS5.2.2⟩
        have hHf : Half (w.heap.size + 2) g b ks xs vc (i + 1) W' := by
          have hyl : ys.length = i * 5 := by have h := PartsIn.length a4; rw [shiftL_length, List.length_take] at h; have := HN.out; omega
          refine ⟨a1, cur', ys ++ five (.mk sk st sf se sks) (.slice sa sks.length sc), d1, by rw [d2]; exact a3, ?_, fun j u hj => ?_⟩
          · rw [HTS.out]
            refine PartsIn.snoc (PartsIn.later (fun k hk hkl => (d5 k hk.2).trans (hb5.block k hkl)) (fun _ h => h) _ _ a4) (KidsIn.later (fun k hk _ => d5 k (by omega)) (fun k hk => ⟨by have := hVb; have := HD3.out; have := HWW.out; omega, by omega⟩) _ _ hk5)
          · by_cases h1 : j < i * 5
            · rw [d4 j (.inl h1)]
              refine a5 j u ?_
              rw [List.append_assoc, List.getElem?_append_left (by omega)] at hj
              rw [List.getElem?_append_left (by omega)]; exact hj
            · by_cases h2 : j < i * 5 + 5
              · obtain ⟨m, rfl⟩ : ∃ m, j = i * 5 + m := ⟨j - i * 5, by omega⟩
                rw [List.append_assoc, List.getElem?_append_right (by omega), hyl, show i * 5 + m - i * 5 = m by omega, List.getElem?_append_left (by rw [five_length]; omega)] at hj
                exact d3 m u hj
              · rw [d4 j (.inr (by omega))]
                refine a5 j u ?_
                rw [List.getElem?_append_right (by rw [List.length_append, five_length]; omega), List.length_append, five_length, List.getElem?_drop] at hj
                rw [List.getElem?_append_right (by omega), List.getElem?_drop, ← hj]
                congr 1
                omega
        have hr5 := (d5 (w.heap.size + 1) (fun h => hgQ h.symm)).trans ((hb5.block _ (by have := HD3.out; have := HWW.out; omega)).trans HD2.out)
        have hgs : g < W'.heap.size := (Array.getElem?_eq_some_iff.1 d1).1
        have HSf := Lib.hid hSf
        have HHf := Lib.hid hHf
        have HR5 := Lib.hid hr5
        have HGS := Lib.hid hgs
        clear a1 a2 a3 a4 a5 c2 hsz cl d1 d2 d3 d4 d5 d6 hHf hr5 hgs hk5 hb5 hS5 hVg hgK hgP hgQ
        refine wpAnyH_ready (rs := [7]) (by kernel_rfl) (by simp) ?_
        refine (AllReadyH.cons (o := ({ dst := none, op := Op.store 24 (Operand.tmp 43) (Operand.tmp 42), type := 0, pos := "parse.go:36", after := #[{ on := 6, ground := Ground.data }, { on := 5, ground := Ground.data }, { on := 5, ground := Ground.chain }, { on := 0, ground := Ground.phase }, { on := 1, ground := Ground.phase }, { on := 2, ground := Ground.phase }, { on := 3, ground := Ground.phase }, { on := 4, ground := Ground.phase }, { on := 5, ground := Ground.phase }], guard := none } : Oper)) rfl (fun K hK => ?_) AllReadyH.nil)
        refine wanted_step (by kernel_rfl) ?_
        go_simp
        refine hK.out _ _ (HSf.out) (fun hHeld6 => ?_)
        (try simp only [Act.put, List.setIfInBounds_toArray, List.set_cons_zero, List.set_cons_succ])
        clear hK K
        clear q0 q1 q2 q3 q4 qf hW' hSf hHeld6 hHeld5 hHeld
        refine wpAnyH_done (by kernel_rfl) ?_ _
        go_wp2_with fail
        go_roundw
        case rel => exact ⟨i + 1, by go_num, by omega, Lib.hid HSf.out.1, Lib.hid HSf.out.2.1, HR5, Lib.hid (.inr ⟨g, rfl, HG.out.1, HGS.out, HG.out.2.2, HHf.out⟩)⟩
        case measure => simp [Go.RowKit.intOf]; omega
      · obtain rfl : i = n := by omega
        have hk : i = 0 ∨ ∃ g ys, va = some ⟨g, 0, none⟩ ∧ i ≤ vc ∧ w.heap.size + 2 ≤ g ∧ CellsAt wr g 0 ys ∧ PartsIn wr (fun k => w.heap.size + 2 ≤ k) (shiftL b ks) ys := by
          refine HH.out.imp id ?_
          rintro ⟨g, h1, h2, h3, h4, h5⟩
          obtain ⟨a1, cur, ys, a2, a3, a4, a5⟩ := h5
          rw [List.take_of_length_le (by rw [HN.out]; exact Nat.le_refl _)] at a4
          have hdrop : xs.drop (i * 5) = [] := List.drop_eq_nil_of_le (by rw [HL.out]; exact Nat.le_refl _)
          rw [hdrop, List.append_nil] at a5
          refine ⟨g, ys, h1, h2, a1, fun j u hj => ?_, PartsIn.later (fun _ _ _ => rfl) (fun _ h => h.1) _ _ a4⟩
          rw [Nat.zero_add]; unfold World.cell?; rw [a2]; exact a5 j u hj
        have HK := Lib.hid hk
        obtain ⟨⟨l0, l1, l2, l3, l4⟩, lf⟩ := cells_five HR.out
        clear hk
        go_wp2_with fail
        obtain ⟨Wf, hWf, f0, oth, hbf⟩ := set_five (.string kb) (.string tb) (.int .i64 0) (.int .i64 0) (.slice va i vc) HR.out
        rw [hWf]
        obtain ⟨⟨y0, y1, y2, y3, y4⟩, _⟩ := cells_five f0
        have hfin := HFin.out Wf va vc (HB.out.trans (hbf _ (by omega))) (HK.out.imp id (fun ⟨g, ys, h1, h2, h3, h4, h5⟩ => ⟨g, ys, h1, h2, by omega, fun j u hj => by
          have h6 := h4 j u hj
          unfold World.cell? at h6 ⊢
          rw [oth g (by omega)]; exact h6, PartsIn.later (fun k hk _ => oth k (by omega)) (fun k hk => by omega) _ _ h5⟩))
        clear hWf f0 oth hbf l0 l1 l2 l3 l4 lf k0 k1 k2 k3 k4 kf
        simp [bodyPost, results, Tryd.results9, go_sem, y0, y1, y2, y3, y4]
        exact hfin

  by_cases hf0 : f = 0
  · have he0 : ¬ e = 0 := fun h => hz ⟨hf0, h⟩
    subst hf0
    have q1 : ((e : Int) != 0) = true := by simpa using he0
    have q2 : ((e : Int) == 0) = false := by simpa using he0
    have hfe : wrap64 b = f1 ∧ wrap64 (e + b) = e1 := by rw [← HF1.out, ← HE1.out]; unfold moved; rw [if_neg hz, if_neg hz, Int.zero_add]; exact ⟨rfl, rfl⟩
    go_upto_region 4 with fail
    rw [hfe.1, hfe.2]
    obtain ⟨w1, hw1, hq1, hr1, hb1, hz1⟩ := two_new w (.cells #[.string kb, .string tb, .int .i64 f1, .int .i64 e1, .slice a n c] 24) (.cells #[.string ⟨#[]⟩, .string ⟨#[]⟩, .int .i64 0, .int .i64 0, .slice none 0 0] 24)
    rw [hw1]
    have HQ := Lib.hid hq1
    have HR := Lib.hid hr1
    have HB := Lib.hid hb1
    have HZ := Lib.hid hz1
    clear hw1 hq1 hr1 hb1 hz1 hz hfe he0 q1 q2
    have cC := clone_own (w := w1) (c := c) (HGo.out _ HB.out) HL.out HONE.out hlb
    obtain ⟨⟨k0, k1, k2, k3, k4⟩, kf⟩ := cells_five HQ.out
    go_wp2_with fail
    refine cC.mono ?_
    rintro ee w2 ⟨v', rfl, hown, hb2⟩
    obtain ⟨va, vc, rfl⟩ := owns_len hown
    have hq2 := (hb2.block _ (by have := HZ.out; omega)).trans HQ.out
    have hr2 := (hb2.block _ HZ.out).trans HR.out
    obtain ⟨⟨k0, k1, k2, k3, k4⟩, kf⟩ := cells_five hq2
    have HQ2 := Lib.hid hq2
    have HR2 := Lib.hid hr2
    have HO2 := Lib.hid hown
    have HB2 := Lib.hid (HB.out.trans (hb2.mono HB.out.size))
    have HZ2 := Lib.hid (Nat.lt_of_lt_of_le HZ.out hb2.size)
    clear cC hq2 hr2 hown hb2 HQ HR HGo
    go_upto_region 5 with fail
    have hq3 : (w2.setCell ⟨w.heap.size, 4, none⟩ (.slice va n vc)).heap[w.heap.size]? = some (.cells #[.string kb, .string tb, .int .i64 f1, .int .i64 e1, .slice va n vc] 24 (0, 0)) := Go.Joins.block_setCell HQ2.out _
    have hoth : ∀ k, k ≠ w.heap.size → (w2.setCell ⟨w.heap.size, 4, none⟩ (.slice va n vc)).heap[k]? = w2.heap[k]? := fun k hk => Below.heap_setCell _ _ _ _ hk
    have hb3 : Below w.heap.size w (w2.setCell ⟨w.heap.size, 4, none⟩ (.slice va n vc)) := HB2.out.trans ⟨rfl, rfl, rfl, by simp, fun k hk => hoth k (by omega)⟩
    have hz3 : (w2.setCell ⟨w.heap.size, 4, none⟩ (.slice va n vc)).heap.size = w2.heap.size := by simp
    generalize w2.setCell ⟨w.heap.size, 4, none⟩ (.slice va n vc) = w3 at hq3 hoth hb3 hz3 ⊢
    have hr3 := (hoth (w.heap.size + 1) (by omega)).trans HR2.out
    have hhalf : n = 0 ∨ ∃ g, va = some ⟨g, 0, none⟩ ∧ n ≤ vc ∧ g < w3.heap.size ∧ g ≠ w.heap.size + 1 ∧ Half (w.heap.size + 2) g b ks xs vc 0 w3 := by
      rcases HO2.out.2 with ⟨_, h0⟩ | ⟨g, cap, cur, hv, h1, h2, h3, _, h4, h5⟩
      · exact .inl h0
      · cases hv
        have hgl := (Array.getElem?_eq_some_iff.1 h2).1
        have hzz := HZ.out
        refine .inr ⟨g, rfl, h3, by omega, by omega, ⟨by omega, cur, [], (hoth g (by omega)).trans h2, h4, rfl, fun j u hj => ?_⟩⟩
        rw [List.nil_append, Nat.zero_mul, List.drop_zero, ← h5, List.getElem?_take] at hj
        split at hj
        · simpa using hj
        · cases hj
    have HQ3 := Lib.hid hq3
    have HR3 := Lib.hid hr3
    have HB3 := Lib.hid hb3
    have HH3 := Lib.hid hhalf
    have HZ3 : Hid (w.heap.size + 1 < w3.heap.size) := Lib.hid (by have := HZ2.out; omega)
    obtain ⟨⟨k0, k1, k2, k3, k4⟩, kf⟩ := cells_five hq3
    clear hq3 hoth hb3 hz3 hr3 hhalf HQ2 HR2 HO2 HB2 HZ2 HB HZ
    go_wp2_with fail
    clear k0 k1 k2 k3 k4 kf
    go_loopw [32] (fun iv wr => ∃ i : Nat, iv = .int .i64 i ∧ i ≤ n ∧ Hid (Below w.heap.size w wr) ∧ Hid (wr.heap[w.heap.size]? = some (.cells #[.string kb, .string tb, .int .i64 f1, .int .i64 e1, .slice va n vc] 24 (0, 0))) ∧ Hid (wr.heap[w.heap.size + 1]? = some (.cells #[.string ⟨#[]⟩, .string ⟨#[]⟩, .int .i64 0, .int .i64 0, .slice none 0 0] 24 (0, 0))) ∧
        Hid (n = 0 ∨ ∃ g, va = some ⟨g, 0, none⟩ ∧ n ≤ vc ∧ g < wr.heap.size ∧ g ≠ w.heap.size + 1 ∧ Half (w.heap.size + 2) g b ks xs vc i wr)) (fun iv _ => n - (Go.RowKit.intOf iv).toNat)
    case atStart => exact ⟨0, rfl, Nat.zero_le _, HB3, HQ3, HR3, HH3⟩
    case round =>
      obtain ⟨i, rfl, hi, HB, HQ, HR, HH⟩ := hrel
      obtain ⟨⟨k0, k1, k2, k3, k4⟩, kf⟩ := cells_five HQ.out
      clear HB3 HQ3 HR3 HH3
      by_cases hlt : i < n
      · have hll : i < ks.length := by rw [HN.out]; exact hlt
        obtain ⟨g, rfl, hnc, hgl, hg1, hH⟩ := HH.out.resolve_left (by omega)
        obtain ⟨hg, cur, ys, hcur, hcs, hys, hcy⟩ := hH
        obtain ⟨lv, hkid, hget⟩ := parts_get i hll HP.out
        obtain ⟨p, hpp⟩ : ∃ p, ks[i] = p := ⟨_, rfl⟩
        have hpm : p ∈ ks := by rw [← hpp]; exact List.getElem_mem hll
        have hts := shiftL_take_succ b hll
        rw [hpp] at hkid hget hts
        obtain ⟨kk, tt, ff, ee, kks⟩ := p
        obtain ⟨aa, cc, rfl⟩ := kids_form hkid
        have hyl : ys.length = i * 5 := by have := PartsIn.length hys; rw [shiftL_length, List.length_take] at this; omega
        have at' : ∀ j u, (five (.mk kk tt ff ee kks) (.slice aa kks.length cc))[j]? = some u → wr.cell? ⟨g, i * 5 + j, none⟩ = some u := fun j u hj => by
          have h1 := hget j u hj
          have h2 := hcy (i * 5 + j) u (by rw [List.getElem?_append_right (by omega), hyl, List.getElem?_drop, show i * 5 + (i * 5 + j - i * 5) = i * 5 + j by omega]; exact h1)
          unfold World.cell?
          rw [hcur]
          exact h2
        have j0 : wr.cell? ⟨g, i * 5, none⟩ = some (.string (bstr kk)) := at' 0 _ rfl
        have j1 := at' 1 _ rfl
        have j2 := at' 2 _ rfl
        have j3 := at' 3 _ rfl
        have j4 := at' 4 _ rfl
        have cI := fun X (hX : Below w.heap.size w X) => (HIH.out _ hpm) (.slice aa kks.length cc) R X b (kids_below hkid hX) (HWM.out _ hpm)
        simp only [arg, five] at cI
        obtain ⟨y0, hy0⟩ : ∃ x, bstr kk = x := ⟨_, rfl⟩
        obtain ⟨y1, hy1⟩ : ∃ x, bstr tt = x := ⟨_, rfl⟩
        obtain ⟨z0, hz0⟩ : ∃ x, kks.length = x := ⟨_, rfl⟩
        rw [hy0] at j0 cI
        rw [hy1] at j1 cI
        rw [hz0] at j4 cI
        obtain ⟨sq, hsq⟩ : ∃ x, shiftP b (.mk kk tt ff ee kks) = x := ⟨_, rfl⟩
        rw [hsq] at cI hts
        have HCI := Lib.hid cI
        have HHalf := Lib.hid (Half.mk hg ⟨cur, ys, hcur, hcs, hys, hcy⟩)
        have HTS := Lib.hid hts
        have HG := Lib.hid (And.intro hnc (And.intro hgl hg1))
        clear hcur hcs hys hcy hkid hget hpp hpm hts at' cI hy0 hy1 hz0 hsq hg HH hnc hgl hg1 hyl
        go_upto_region 8 with fail
        obtain ⟨w4, hw4, hq4, hb4, hz4⟩ := new_block wr (.cells #[.string y0, .string y1, .int .i64 ff, .int .i64 ee, .slice aa z0 cc] 24)
        rw [hw4]
        obtain ⟨KB, hK⟩ : ∃ KB, wr.heap.size = KB := ⟨_, rfl⟩
        have HWK := Lib.hid hK
        rw [hK] at hq4 hb4 hz4 ⊢
        have hww : w.heap.size + 1 < KB := by have := HR.out; have := (Array.getElem?_eq_some_iff.1 this).1; omega
        have hq := (hb4.block w.heap.size (by omega)).trans HQ.out
        have hr := (hb4.block (w.heap.size + 1) hww).trans HR.out
        have hww1 : w.heap.size + 2 ≤ KB := hww
        have hB4 : Below w.heap.size w w4 := HB.out.trans (hb4.mono (by omega))
        have hH4 : Half (w.heap.size + 2) g b ks xs vc i w4 := by
          obtain ⟨a1, cur, ys, a2, a3, a4, a5⟩ := HHalf.out
          exact ⟨a1, cur, ys, (hb4.block g (by have := HG.out.2.1; omega)).trans a2, a3, PartsIn.later (fun k hk hkl => hb4.block k (by omega)) (fun _ h => h) _ _ a4, a5⟩
        have HQ4 := Lib.hid hq4
        have HB4 := Lib.hid hB4
        have HH4 := Lib.hid hH4
        have HP4 := Lib.hid hq
        have HR4 := Lib.hid hr
        have HZ4 := Lib.hid hz4
        have HWW := Lib.hid hww
        clear hw4 hq4 hb4 hz4 hK hww hq hr hB4 hH4 j0 j1 j2 j3 j4 k0 k1 k2 k3 k4 kf HB HQ HR HHalf
        refine wp_region_held_drew (S := fun X => Below w.heap.size w X ∧ X.heap[w.heap.size]? = some (.cells #[.string kb, .string tb, .int .i64 f1, .int .i64 e1, .slice (some ⟨g, 0, none⟩) n vc] 24 (0, 0)) ∧ X.heap[KB]? = some (.cells #[.string y0, .string y1, .int .i64 ff, .int .i64 ee, .slice aa z0 cc] 24 (0, 0))) (by kernel_rfl) ⟨HB4.out.drew, HP4.out, HQ4.out⟩ (fun hHeld => ?_)
        have HD1 : Hid (Half (w.heap.size + 2) g b ks xs vc i w4.drew) := Lib.hid (by
          obtain ⟨a1, cur, ys, a2, a3, a4, a5⟩ := HH4.out
          exact ⟨a1, cur, ys, a2, a3, parts_below a4 ((Below.refl _ _).drew), a5⟩)
        have HD2 : Hid (w4.drew.heap[w.heap.size + 1]? = _) := Lib.hid HR4.out
        have HD3 : Hid (KB < w4.drew.heap.size) := Lib.hid HZ4.out
        obtain ⟨V, hV⟩ : ∃ V, w4.drew = V := ⟨_, rfl⟩
        rw [hV] at hHeld HD1 HD2 HD3 ⊢
        clear hV HH4 HR4 HZ4 HB4 HP4 HQ4
        refine wpAnyH_take (i := 0) (oi := ({ dst := some 37, op := Op.fieldAddr 24 (Operand.tmp 2) 4, type := 0, pos := "parse.go:36", after := #[], guard := none } : Oper)) (v := .pointer (some ⟨w.heap.size, 4, none⟩)) rfl (by kernel_rfl) (by kernel_rfl) (by kernel_rfl) (fun _ _ _ h => h) (Or.inl ⟨by rfl, fun X hX => rfl⟩) hHeld ?_
        (try simp only [Act.put, List.setIfInBounds_toArray, List.set_cons_zero, List.set_cons_succ])
        refine wpAnyH_take (i := 1) (oi := ({ dst := some 38, op := Op.load 22 (Operand.tmp 37), type := 22, pos := "parse.go:36", after := #[{ on := 0, ground := Ground.data }], guard := none } : Oper)) (v := .slice (some ⟨g, 0, none⟩) n vc) rfl (by kernel_rfl) (by kernel_rfl) (by kernel_rfl) (fun _ _ _ h => h) (Or.inl ⟨by rfl, fun X hX => by have q := (cells_five hX.2.1).1.2.2.2.2; go_simp⟩) hHeld ?_
        (try simp only [Act.put, List.setIfInBounds_toArray, List.set_cons_zero, List.set_cons_succ])
        refine wpAnyH_take (i := 2) (oi := ({ dst := some 39, op := Op.move (Operand.tmp 5), type := 3, pos := "parse.go:36", after := #[], guard := none } : Oper)) (v := .int .i64 i) rfl (by kernel_rfl) (by kernel_rfl) (by kernel_rfl) (fun _ _ _ h => h) (Or.inl ⟨by rfl, fun X hX => rfl⟩) hHeld ?_
        (try simp only [Act.put, List.setIfInBounds_toArray, List.set_cons_zero, List.set_cons_succ])
        refine wpAnyH_take (i := 3) (oi := ({ dst := some 40, op := Op.load 24 (Operand.tmp 6), type := 24, pos := "parse.go:36", after := #[], guard := none } : Oper)) (v := .agg #[.string y0, .string y1, .int .i64 ff, .int .i64 ee, .slice aa z0 cc]) rfl (by kernel_rfl) (by kernel_rfl) (by kernel_rfl) (fun _ _ _ h => h) (Or.inl ⟨by rfl, fun X hX => by obtain ⟨q0, q1, q2, q3, q4⟩ := (cells_five hX.2.2).1; go_simp⟩) hHeld ?_
        (try simp only [Act.put, List.setIfInBounds_toArray, List.set_cons_zero, List.set_cons_succ])
        refine wpAnyH_take (i := 4) (oi := ({ dst := some 41, op := Op.move (Operand.tmp 1), type := 3, pos := "parse.go:36", after := #[], guard := none } : Oper)) (v := .int .i64 b) rfl (by kernel_rfl) (by kernel_rfl) (by kernel_rfl) (fun _ _ _ h => h) (Or.inl ⟨by rfl, fun X hX => rfl⟩) hHeld ?_
        (try simp only [Act.put, List.setIfInBounds_toArray, List.set_cons_zero, List.set_cons_succ])
        refine wpAnyH_ready (rs := [5]) (by kernel_rfl) (by simp) ?_
        refine (AllReadyH.cons (o := ({ dst := some 42, op := Op.call { callee := Callee.value (Operand.func 9), args := #[Operand.tmp 40, Operand.tmp 41], argTypes := #[24, 3] }, type := 24, pos := "parse.go:36", after := #[{ on := 3, ground := Ground.data }, { on := 4, ground := Ground.data }], guard := none } : Oper)) rfl (fun K hK => ?_) AllReadyH.nil)
        refine wanted_step (by kernel_rfl) ?_
        go_simp
        go_at_call 9
        refine (HCI.out V hHeld.1).mono ?_
        rintro e' w5 ⟨lv5, rfl, hk5, hb5⟩
        have hVb : w.heap.size ≤ V.heap.size := hHeld.1.size
        have hS5 : Below w.heap.size w w5 ∧ w5.heap[w.heap.size]? = _ ∧ w5.heap[KB]? = _ := ⟨hHeld.1.trans (hb5.mono hVb), (hb5.block _ (by have := HWW.out; have := HD3.out; omega)).trans hHeld.2.1, (hb5.block _ HD3.out).trans hHeld.2.2⟩
        dsimp only
        refine hK.out _ _ (hS5) (fun hHeld5 => ?_)
        (try simp only [Act.put, List.setIfInBounds_toArray, List.set_cons_zero, List.set_cons_succ])
        clear hK K
        obtain ⟨sk, st, sf, se, sks⟩ := sq
        obtain ⟨sa, sc, rfl⟩ := kids_form hk5
        simp only [arg, five]
        refine wpAnyH_take (i := 6) (oi := ({ dst := some 43, op := Op.indexAddr 22 (Operand.tmp 38) (Operand.tmp 39), type := 0, pos := "parse.go:36", after := #[{ on := 1, ground := Ground.data }, { on := 2, ground := Ground.data }, { on := 0, ground := Ground.phase }, { on := 1, ground := Ground.phase }, { on := 2, ground := Ground.phase }, { on := 3, ground := Ground.phase }, { on := 4, ground := Ground.phase }, { on := 5, ground := Ground.phase }], guard := none } : Oper)) (v := .pointer (some ⟨g, i * 5, none⟩)) rfl (by kernel_rfl) (by kernel_rfl) (by kernel_rfl) (fun _ _ _ h => h) (Or.inl ⟨by rfl, fun X hX => (idx_row 38 39 g 0 n i vc X rfl rfl rfl hlt).trans (by rw [Nat.zero_add])⟩) hHeld5 ?_
        (try simp only [Act.put, List.setIfInBounds_toArray, List.set_cons_zero, List.set_cons_succ])
        obtain ⟨a1, cur, ys, a2, a3, a4, a5⟩ := HD1.out
        have hVg : g < V.heap.size := (Array.getElem?_eq_some_iff.1 a2).1
        have c2 := (hb5.block g hVg).trans a2
        have hnc := HG.out.1
        have hsz : i * 5 + 5 ≤ cur.size := by omega
        obtain ⟨W', cur', hW', d1, d2, d3, d4, d5, d6⟩ := set5_at (.string (bstr sk)) (.string (bstr st)) (.int .i64 sf) (.int .i64 se) (.slice sa sks.length sc) c2 hsz
        have cl : ∀ j, j < 5 → ∃ u, w5.cell? ⟨g, i * 5 + j, none⟩ = some u := fun j hj => by
          have hj5 : i * 5 + j < cur.size := Nat.lt_of_lt_of_le (Nat.add_lt_add_left hj _) hsz
          unfold World.cell?; rw [c2]; exact ⟨cur[i * 5 + j]'hj5, Array.getElem?_eq_getElem hj5⟩
        obtain ⟨u0, q0⟩ : ∃ u, w5.cell? ⟨g, i * 5, none⟩ = some u := cl 0 (by omega)
        obtain ⟨u1, q1⟩ := cl 1 (by omega)
        obtain ⟨u2, q2⟩ := cl 2 (by omega)
        obtain ⟨u3, q3⟩ := cl 3 (by omega)
        obtain ⟨u4, q4⟩ := cl 4 (by omega)
        have qf : ∀ j, w5.frozen? ⟨g, j, none⟩ = false := fun j => by simp [World.frozen?, c2]
        have hgK : g ≠ KB := by have := HG.out.2.1; have := HWK.out; omega
        have hgP : g ≠ w.heap.size := by omega
        have hgQ : g ≠ w.heap.size + 1 := HG.out.2.2
        have hSf : Below w.heap.size w W' ∧ W'.heap[w.heap.size]? = _ ∧ W'.heap[KB]? = _ := ⟨hS5.1.trans (d6 _ (by omega)), (d5 _ (fun h => hgP h.symm)).trans hS5.2.1, (d5 _ (fun h => hgK h.symm)).trans hS5.2.2⟩
        have hHf : Half (w.heap.size + 2) g b ks xs vc (i + 1) W' := by
          have hyl : ys.length = i * 5 := by have h := PartsIn.length a4; rw [shiftL_length, List.length_take] at h; have := HN.out; omega
          refine ⟨a1, cur', ys ++ five (.mk sk st sf se sks) (.slice sa sks.length sc), d1, by rw [d2]; exact a3, ?_, fun j u hj => ?_⟩
          · rw [HTS.out]
            refine PartsIn.snoc (PartsIn.later (fun k hk hkl => (d5 k hk.2).trans (hb5.block k hkl)) (fun _ h => h) _ _ a4) (KidsIn.later (fun k hk _ => d5 k (by omega)) (fun k hk => ⟨by have := hVb; have := HD3.out; have := HWW.out; omega, by omega⟩) _ _ hk5)
          · by_cases h1 : j < i * 5
            · rw [d4 j (.inl h1)]
              refine a5 j u ?_
              rw [List.append_assoc, List.getElem?_append_left (by omega)] at hj
              rw [List.getElem?_append_left (by omega)]; exact hj
            · by_cases h2 : j < i * 5 + 5
              · obtain ⟨m, rfl⟩ : ∃ m, j = i * 5 + m := ⟨j - i * 5, by omega⟩
                rw [List.append_assoc, List.getElem?_append_right (by omega), hyl, show i * 5 + m - i * 5 = m by omega, List.getElem?_append_left (by rw [five_length]; omega)] at hj
                exact d3 m u hj
              · rw [d4 j (.inr (by omega))]
                refine a5 j u ?_
                rw [List.getElem?_append_right (by rw [List.length_append, five_length]; omega), List.length_append, five_length, List.getElem?_drop] at hj
                rw [List.getElem?_append_right (by omega), List.getElem?_drop, ← hj]
                congr 1
                omega
        have hr5 := (d5 (w.heap.size + 1) (fun h => hgQ h.symm)).trans ((hb5.block _ (by have := HD3.out; have := HWW.out; omega)).trans HD2.out)
        have hgs : g < W'.heap.size := (Array.getElem?_eq_some_iff.1 d1).1
        have HSf := Lib.hid hSf
        have HHf := Lib.hid hHf
        have HR5 := Lib.hid hr5
        have HGS := Lib.hid hgs
        clear a1 a2 a3 a4 a5 c2 hsz cl d1 d2 d3 d4 d5 d6 hHf hr5 hgs hk5 hb5 hS5 hVg hgK hgP hgQ
        refine wpAnyH_ready (rs := [7]) (by kernel_rfl) (by simp) ?_
        refine (AllReadyH.cons (o := ({ dst := none, op := Op.store 24 (Operand.tmp 43) (Operand.tmp 42), type := 0, pos := "parse.go:36", after := #[{ on := 6, ground := Ground.data }, { on := 5, ground := Ground.data }, { on := 5, ground := Ground.chain }, { on := 0, ground := Ground.phase }, { on := 1, ground := Ground.phase }, { on := 2, ground := Ground.phase }, { on := 3, ground := Ground.phase }, { on := 4, ground := Ground.phase }, { on := 5, ground := Ground.phase }], guard := none } : Oper)) rfl (fun K hK => ?_) AllReadyH.nil)
        refine wanted_step (by kernel_rfl) ?_
        go_simp
        refine hK.out _ _ (HSf.out) (fun hHeld6 => ?_)
        (try simp only [Act.put, List.setIfInBounds_toArray, List.set_cons_zero, List.set_cons_succ])
        clear hK K
        clear q0 q1 q2 q3 q4 qf hW' hSf hHeld6 hHeld5 hHeld
        refine wpAnyH_done (by kernel_rfl) ?_ _
        go_wp2_with fail
        go_roundw
        case rel => exact ⟨i + 1, by go_num, by omega, Lib.hid HSf.out.1, Lib.hid HSf.out.2.1, HR5, Lib.hid (.inr ⟨g, rfl, HG.out.1, HGS.out, HG.out.2.2, HHf.out⟩)⟩
        case measure => simp [Go.RowKit.intOf]; omega
      · obtain rfl : i = n := by omega
        have hk : i = 0 ∨ ∃ g ys, va = some ⟨g, 0, none⟩ ∧ i ≤ vc ∧ w.heap.size + 2 ≤ g ∧ CellsAt wr g 0 ys ∧ PartsIn wr (fun k => w.heap.size + 2 ≤ k) (shiftL b ks) ys := by
          refine HH.out.imp id ?_
          rintro ⟨g, h1, h2, h3, h4, h5⟩
          obtain ⟨a1, cur, ys, a2, a3, a4, a5⟩ := h5
          rw [List.take_of_length_le (by rw [HN.out]; exact Nat.le_refl _)] at a4
          have hdrop : xs.drop (i * 5) = [] := List.drop_eq_nil_of_le (by rw [HL.out]; exact Nat.le_refl _)
          rw [hdrop, List.append_nil] at a5
          refine ⟨g, ys, h1, h2, a1, fun j u hj => ?_, PartsIn.later (fun _ _ _ => rfl) (fun _ h => h.1) _ _ a4⟩
          rw [Nat.zero_add]; unfold World.cell?; rw [a2]; exact a5 j u hj
        have HK := Lib.hid hk
        obtain ⟨⟨l0, l1, l2, l3, l4⟩, lf⟩ := cells_five HR.out
        clear hk
        go_wp2_with fail
        obtain ⟨Wf, hWf, f0, oth, hbf⟩ := set_five (.string kb) (.string tb) (.int .i64 f1) (.int .i64 e1) (.slice va i vc) HR.out
        rw [hWf]
        obtain ⟨⟨y0, y1, y2, y3, y4⟩, _⟩ := cells_five f0
        have hfin := HFin.out Wf va vc (HB.out.trans (hbf _ (by omega))) (HK.out.imp id (fun ⟨g, ys, h1, h2, h3, h4, h5⟩ => ⟨g, ys, h1, h2, by omega, fun j u hj => by
          have h6 := h4 j u hj
          unfold World.cell? at h6 ⊢
          rw [oth g (by omega)]; exact h6, PartsIn.later (fun k hk _ => oth k (by omega)) (fun k hk => by omega) _ _ h5⟩))
        clear hWf f0 oth hbf l0 l1 l2 l3 l4 lf k0 k1 k2 k3 k4 kf
        simp [bodyPost, results, Tryd.results9, go_sem, y0, y1, y2, y3, y4]
        exact hfin

  · have q1 : ((f : Int) != 0) = true := by simpa using hf0
    have q2 : ((f : Int) == 0) = false := by simpa using hf0
    have hfe : wrap64 (f + b) = f1 ∧ wrap64 (e + b) = e1 := by rw [← HF1.out, ← HE1.out]; unfold moved; rw [if_neg hz, if_neg hz]; exact ⟨rfl, rfl⟩
    go_upto_region 4 with fail
    rw [hfe.1, hfe.2]
    obtain ⟨w1, hw1, hq1, hr1, hb1, hz1⟩ := two_new w (.cells #[.string kb, .string tb, .int .i64 f1, .int .i64 e1, .slice a n c] 24) (.cells #[.string ⟨#[]⟩, .string ⟨#[]⟩, .int .i64 0, .int .i64 0, .slice none 0 0] 24)
    rw [hw1]
    have HQ := Lib.hid hq1
    have HR := Lib.hid hr1
    have HB := Lib.hid hb1
    have HZ := Lib.hid hz1
    clear hw1 hq1 hr1 hb1 hz1 hz hfe hf0 q1 q2
    have cC := clone_own (w := w1) (c := c) (HGo.out _ HB.out) HL.out HONE.out hlb
    obtain ⟨⟨k0, k1, k2, k3, k4⟩, kf⟩ := cells_five HQ.out
    go_wp2_with fail
    refine cC.mono ?_
    rintro ee w2 ⟨v', rfl, hown, hb2⟩
    obtain ⟨va, vc, rfl⟩ := owns_len hown
    have hq2 := (hb2.block _ (by have := HZ.out; omega)).trans HQ.out
    have hr2 := (hb2.block _ HZ.out).trans HR.out
    obtain ⟨⟨k0, k1, k2, k3, k4⟩, kf⟩ := cells_five hq2
    have HQ2 := Lib.hid hq2
    have HR2 := Lib.hid hr2
    have HO2 := Lib.hid hown
    have HB2 := Lib.hid (HB.out.trans (hb2.mono HB.out.size))
    have HZ2 := Lib.hid (Nat.lt_of_lt_of_le HZ.out hb2.size)
    clear cC hq2 hr2 hown hb2 HQ HR HGo
    go_upto_region 5 with fail
    have hq3 : (w2.setCell ⟨w.heap.size, 4, none⟩ (.slice va n vc)).heap[w.heap.size]? = some (.cells #[.string kb, .string tb, .int .i64 f1, .int .i64 e1, .slice va n vc] 24 (0, 0)) := Go.Joins.block_setCell HQ2.out _
    have hoth : ∀ k, k ≠ w.heap.size → (w2.setCell ⟨w.heap.size, 4, none⟩ (.slice va n vc)).heap[k]? = w2.heap[k]? := fun k hk => Below.heap_setCell _ _ _ _ hk
    have hb3 : Below w.heap.size w (w2.setCell ⟨w.heap.size, 4, none⟩ (.slice va n vc)) := HB2.out.trans ⟨rfl, rfl, rfl, by simp, fun k hk => hoth k (by omega)⟩
    have hz3 : (w2.setCell ⟨w.heap.size, 4, none⟩ (.slice va n vc)).heap.size = w2.heap.size := by simp
    generalize w2.setCell ⟨w.heap.size, 4, none⟩ (.slice va n vc) = w3 at hq3 hoth hb3 hz3 ⊢
    have hr3 := (hoth (w.heap.size + 1) (by omega)).trans HR2.out
    have hhalf : n = 0 ∨ ∃ g, va = some ⟨g, 0, none⟩ ∧ n ≤ vc ∧ g < w3.heap.size ∧ g ≠ w.heap.size + 1 ∧ Half (w.heap.size + 2) g b ks xs vc 0 w3 := by
      rcases HO2.out.2 with ⟨_, h0⟩ | ⟨g, cap, cur, hv, h1, h2, h3, _, h4, h5⟩
      · exact .inl h0
      · cases hv
        have hgl := (Array.getElem?_eq_some_iff.1 h2).1
        have hzz := HZ.out
        refine .inr ⟨g, rfl, h3, by omega, by omega, ⟨by omega, cur, [], (hoth g (by omega)).trans h2, h4, rfl, fun j u hj => ?_⟩⟩
        rw [List.nil_append, Nat.zero_mul, List.drop_zero, ← h5, List.getElem?_take] at hj
        split at hj
        · simpa using hj
        · cases hj
    have HQ3 := Lib.hid hq3
    have HR3 := Lib.hid hr3
    have HB3 := Lib.hid hb3
    have HH3 := Lib.hid hhalf
    have HZ3 : Hid (w.heap.size + 1 < w3.heap.size) := Lib.hid (by have := HZ2.out; omega)
    obtain ⟨⟨k0, k1, k2, k3, k4⟩, kf⟩ := cells_five hq3
    clear hq3 hoth hb3 hz3 hr3 hhalf HQ2 HR2 HO2 HB2 HZ2 HB HZ
    go_wp2_with fail
    clear k0 k1 k2 k3 k4 kf
    go_loopw [32] (fun iv wr => ∃ i : Nat, iv = .int .i64 i ∧ i ≤ n ∧ Hid (Below w.heap.size w wr) ∧ Hid (wr.heap[w.heap.size]? = some (.cells #[.string kb, .string tb, .int .i64 f1, .int .i64 e1, .slice va n vc] 24 (0, 0))) ∧ Hid (wr.heap[w.heap.size + 1]? = some (.cells #[.string ⟨#[]⟩, .string ⟨#[]⟩, .int .i64 0, .int .i64 0, .slice none 0 0] 24 (0, 0))) ∧
        Hid (n = 0 ∨ ∃ g, va = some ⟨g, 0, none⟩ ∧ n ≤ vc ∧ g < wr.heap.size ∧ g ≠ w.heap.size + 1 ∧ Half (w.heap.size + 2) g b ks xs vc i wr)) (fun iv _ => n - (Go.RowKit.intOf iv).toNat)
    case atStart => exact ⟨0, rfl, Nat.zero_le _, HB3, HQ3, HR3, HH3⟩
    case round =>
      obtain ⟨i, rfl, hi, HB, HQ, HR, HH⟩ := hrel
      obtain ⟨⟨k0, k1, k2, k3, k4⟩, kf⟩ := cells_five HQ.out
      clear HB3 HQ3 HR3 HH3
      by_cases hlt : i < n
      · have hll : i < ks.length := by rw [HN.out]; exact hlt
        obtain ⟨g, rfl, hnc, hgl, hg1, hH⟩ := HH.out.resolve_left (by omega)
        obtain ⟨hg, cur, ys, hcur, hcs, hys, hcy⟩ := hH
        obtain ⟨lv, hkid, hget⟩ := parts_get i hll HP.out
        obtain ⟨p, hpp⟩ : ∃ p, ks[i] = p := ⟨_, rfl⟩
        have hpm : p ∈ ks := by rw [← hpp]; exact List.getElem_mem hll
        have hts := shiftL_take_succ b hll
        rw [hpp] at hkid hget hts
        obtain ⟨kk, tt, ff, ee, kks⟩ := p
        obtain ⟨aa, cc, rfl⟩ := kids_form hkid
        have hyl : ys.length = i * 5 := by have := PartsIn.length hys; rw [shiftL_length, List.length_take] at this; omega
        have at' : ∀ j u, (five (.mk kk tt ff ee kks) (.slice aa kks.length cc))[j]? = some u → wr.cell? ⟨g, i * 5 + j, none⟩ = some u := fun j u hj => by
          have h1 := hget j u hj
          have h2 := hcy (i * 5 + j) u (by rw [List.getElem?_append_right (by omega), hyl, List.getElem?_drop, show i * 5 + (i * 5 + j - i * 5) = i * 5 + j by omega]; exact h1)
          unfold World.cell?
          rw [hcur]
          exact h2
        have j0 : wr.cell? ⟨g, i * 5, none⟩ = some (.string (bstr kk)) := at' 0 _ rfl
        have j1 := at' 1 _ rfl
        have j2 := at' 2 _ rfl
        have j3 := at' 3 _ rfl
        have j4 := at' 4 _ rfl
        have cI := fun X (hX : Below w.heap.size w X) => (HIH.out _ hpm) (.slice aa kks.length cc) R X b (kids_below hkid hX) (HWM.out _ hpm)
        simp only [arg, five] at cI
        obtain ⟨y0, hy0⟩ : ∃ x, bstr kk = x := ⟨_, rfl⟩
        obtain ⟨y1, hy1⟩ : ∃ x, bstr tt = x := ⟨_, rfl⟩
        obtain ⟨z0, hz0⟩ : ∃ x, kks.length = x := ⟨_, rfl⟩
        rw [hy0] at j0 cI
        rw [hy1] at j1 cI
        rw [hz0] at j4 cI
        obtain ⟨sq, hsq⟩ : ∃ x, shiftP b (.mk kk tt ff ee kks) = x := ⟨_, rfl⟩
        rw [hsq] at cI hts
        have HCI := Lib.hid cI
        have HHalf := Lib.hid (Half.mk hg ⟨cur, ys, hcur, hcs, hys, hcy⟩)
        have HTS := Lib.hid hts
        have HG := Lib.hid (And.intro hnc (And.intro hgl hg1))
        clear hcur hcs hys hcy hkid hget hpp hpm hts at' cI hy0 hy1 hz0 hsq hg HH hnc hgl hg1 hyl
        go_upto_region 8 with fail
        obtain ⟨w4, hw4, hq4, hb4, hz4⟩ := new_block wr (.cells #[.string y0, .string y1, .int .i64 ff, .int .i64 ee, .slice aa z0 cc] 24)
        rw [hw4]
        obtain ⟨KB, hK⟩ : ∃ KB, wr.heap.size = KB := ⟨_, rfl⟩
        have HWK := Lib.hid hK
        rw [hK] at hq4 hb4 hz4 ⊢
        have hww : w.heap.size + 1 < KB := by have := HR.out; have := (Array.getElem?_eq_some_iff.1 this).1; omega
        have hq := (hb4.block w.heap.size (by omega)).trans HQ.out
        have hr := (hb4.block (w.heap.size + 1) hww).trans HR.out
        have hww1 : w.heap.size + 2 ≤ KB := hww
        have hB4 : Below w.heap.size w w4 := HB.out.trans (hb4.mono (by omega))
        have hH4 : Half (w.heap.size + 2) g b ks xs vc i w4 := by
          obtain ⟨a1, cur, ys, a2, a3, a4, a5⟩ := HHalf.out
          exact ⟨a1, cur, ys, (hb4.block g (by have := HG.out.2.1; omega)).trans a2, a3, PartsIn.later (fun k hk hkl => hb4.block k (by omega)) (fun _ h => h) _ _ a4, a5⟩
        have HQ4 := Lib.hid hq4
        have HB4 := Lib.hid hB4
        have HH4 := Lib.hid hH4
        have HP4 := Lib.hid hq
        have HR4 := Lib.hid hr
        have HZ4 := Lib.hid hz4
        have HWW := Lib.hid hww
        clear hw4 hq4 hb4 hz4 hK hww hq hr hB4 hH4 j0 j1 j2 j3 j4 k0 k1 k2 k3 k4 kf HB HQ HR HHalf
        refine wp_region_held_drew (S := fun X => Below w.heap.size w X ∧ X.heap[w.heap.size]? = some (.cells #[.string kb, .string tb, .int .i64 f1, .int .i64 e1, .slice (some ⟨g, 0, none⟩) n vc] 24 (0, 0)) ∧ X.heap[KB]? = some (.cells #[.string y0, .string y1, .int .i64 ff, .int .i64 ee, .slice aa z0 cc] 24 (0, 0))) (by kernel_rfl) ⟨HB4.out.drew, HP4.out, HQ4.out⟩ (fun hHeld => ?_)
        have HD1 : Hid (Half (w.heap.size + 2) g b ks xs vc i w4.drew) := Lib.hid (by
          obtain ⟨a1, cur, ys, a2, a3, a4, a5⟩ := HH4.out
          exact ⟨a1, cur, ys, a2, a3, parts_below a4 ((Below.refl _ _).drew), a5⟩)
        have HD2 : Hid (w4.drew.heap[w.heap.size + 1]? = _) := Lib.hid HR4.out
        have HD3 : Hid (KB < w4.drew.heap.size) := Lib.hid HZ4.out
        obtain ⟨V, hV⟩ : ∃ V, w4.drew = V := ⟨_, rfl⟩
        rw [hV] at hHeld HD1 HD2 HD3 ⊢
        clear hV HH4 HR4 HZ4 HB4 HP4 HQ4
        refine wpAnyH_take (i := 0) (oi := ({ dst := some 37, op := Op.fieldAddr 24 (Operand.tmp 2) 4, type := 0, pos := "parse.go:36", after := #[], guard := none } : Oper)) (v := .pointer (some ⟨w.heap.size, 4, none⟩)) rfl (by kernel_rfl) (by kernel_rfl) (by kernel_rfl) (fun _ _ _ h => h) (Or.inl ⟨by rfl, fun X hX => rfl⟩) hHeld ?_
        (try simp only [Act.put, List.setIfInBounds_toArray, List.set_cons_zero, List.set_cons_succ])
        refine wpAnyH_take (i := 1) (oi := ({ dst := some 38, op := Op.load 22 (Operand.tmp 37), type := 22, pos := "parse.go:36", after := #[{ on := 0, ground := Ground.data }], guard := none } : Oper)) (v := .slice (some ⟨g, 0, none⟩) n vc) rfl (by kernel_rfl) (by kernel_rfl) (by kernel_rfl) (fun _ _ _ h => h) (Or.inl ⟨by rfl, fun X hX => by have q := (cells_five hX.2.1).1.2.2.2.2; go_simp⟩) hHeld ?_
        (try simp only [Act.put, List.setIfInBounds_toArray, List.set_cons_zero, List.set_cons_succ])
        refine wpAnyH_take (i := 2) (oi := ({ dst := some 39, op := Op.move (Operand.tmp 5), type := 3, pos := "parse.go:36", after := #[], guard := none } : Oper)) (v := .int .i64 i) rfl (by kernel_rfl) (by kernel_rfl) (by kernel_rfl) (fun _ _ _ h => h) (Or.inl ⟨by rfl, fun X hX => rfl⟩) hHeld ?_
        (try simp only [Act.put, List.setIfInBounds_toArray, List.set_cons_zero, List.set_cons_succ])
        refine wpAnyH_take (i := 3) (oi := ({ dst := some 40, op := Op.load 24 (Operand.tmp 6), type := 24, pos := "parse.go:36", after := #[], guard := none } : Oper)) (v := .agg #[.string y0, .string y1, .int .i64 ff, .int .i64 ee, .slice aa z0 cc]) rfl (by kernel_rfl) (by kernel_rfl) (by kernel_rfl) (fun _ _ _ h => h) (Or.inl ⟨by rfl, fun X hX => by obtain ⟨q0, q1, q2, q3, q4⟩ := (cells_five hX.2.2).1; go_simp⟩) hHeld ?_
        (try simp only [Act.put, List.setIfInBounds_toArray, List.set_cons_zero, List.set_cons_succ])
        refine wpAnyH_take (i := 4) (oi := ({ dst := some 41, op := Op.move (Operand.tmp 1), type := 3, pos := "parse.go:36", after := #[], guard := none } : Oper)) (v := .int .i64 b) rfl (by kernel_rfl) (by kernel_rfl) (by kernel_rfl) (fun _ _ _ h => h) (Or.inl ⟨by rfl, fun X hX => rfl⟩) hHeld ?_
        (try simp only [Act.put, List.setIfInBounds_toArray, List.set_cons_zero, List.set_cons_succ])
        refine wpAnyH_ready (rs := [5]) (by kernel_rfl) (by simp) ?_
        refine (AllReadyH.cons (o := ({ dst := some 42, op := Op.call { callee := Callee.value (Operand.func 9), args := #[Operand.tmp 40, Operand.tmp 41], argTypes := #[24, 3] }, type := 24, pos := "parse.go:36", after := #[{ on := 3, ground := Ground.data }, { on := 4, ground := Ground.data }], guard := none } : Oper)) rfl (fun K hK => ?_) AllReadyH.nil)
        refine wanted_step (by kernel_rfl) ?_
        go_simp
        go_at_call 9
        refine (HCI.out V hHeld.1).mono ?_
        rintro e' w5 ⟨lv5, rfl, hk5, hb5⟩
        have hVb : w.heap.size ≤ V.heap.size := hHeld.1.size
        have hS5 : Below w.heap.size w w5 ∧ w5.heap[w.heap.size]? = _ ∧ w5.heap[KB]? = _ := ⟨hHeld.1.trans (hb5.mono hVb), (hb5.block _ (by have := HWW.out; have := HD3.out; omega)).trans hHeld.2.1, (hb5.block _ HD3.out).trans hHeld.2.2⟩
        dsimp only
        refine hK.out _ _ (hS5) (fun hHeld5 => ?_)
        (try simp only [Act.put, List.setIfInBounds_toArray, List.set_cons_zero, List.set_cons_succ])
        clear hK K
        obtain ⟨sk, st, sf, se, sks⟩ := sq
        obtain ⟨sa, sc, rfl⟩ := kids_form hk5
        simp only [arg, five]
        refine wpAnyH_take (i := 6) (oi := ({ dst := some 43, op := Op.indexAddr 22 (Operand.tmp 38) (Operand.tmp 39), type := 0, pos := "parse.go:36", after := #[{ on := 1, ground := Ground.data }, { on := 2, ground := Ground.data }, { on := 0, ground := Ground.phase }, { on := 1, ground := Ground.phase }, { on := 2, ground := Ground.phase }, { on := 3, ground := Ground.phase }, { on := 4, ground := Ground.phase }, { on := 5, ground := Ground.phase }], guard := none } : Oper)) (v := .pointer (some ⟨g, i * 5, none⟩)) rfl (by kernel_rfl) (by kernel_rfl) (by kernel_rfl) (fun _ _ _ h => h) (Or.inl ⟨by rfl, fun X hX => (idx_row 38 39 g 0 n i vc X rfl rfl rfl hlt).trans (by rw [Nat.zero_add])⟩) hHeld5 ?_
        (try simp only [Act.put, List.setIfInBounds_toArray, List.set_cons_zero, List.set_cons_succ])
        obtain ⟨a1, cur, ys, a2, a3, a4, a5⟩ := HD1.out
        have hVg : g < V.heap.size := (Array.getElem?_eq_some_iff.1 a2).1
        have c2 := (hb5.block g hVg).trans a2
        have hnc := HG.out.1
        have hsz : i * 5 + 5 ≤ cur.size := by omega
        obtain ⟨W', cur', hW', d1, d2, d3, d4, d5, d6⟩ := set5_at (.string (bstr sk)) (.string (bstr st)) (.int .i64 sf) (.int .i64 se) (.slice sa sks.length sc) c2 hsz
        have cl : ∀ j, j < 5 → ∃ u, w5.cell? ⟨g, i * 5 + j, none⟩ = some u := fun j hj => by
          have hj5 : i * 5 + j < cur.size := Nat.lt_of_lt_of_le (Nat.add_lt_add_left hj _) hsz
          unfold World.cell?; rw [c2]; exact ⟨cur[i * 5 + j]'hj5, Array.getElem?_eq_getElem hj5⟩
        obtain ⟨u0, q0⟩ : ∃ u, w5.cell? ⟨g, i * 5, none⟩ = some u := cl 0 (by omega)
        obtain ⟨u1, q1⟩ := cl 1 (by omega)
        obtain ⟨u2, q2⟩ := cl 2 (by omega)
        obtain ⟨u3, q3⟩ := cl 3 (by omega)
        obtain ⟨u4, q4⟩ := cl 4 (by omega)
        have qf : ∀ j, w5.frozen? ⟨g, j, none⟩ = false := fun j => by simp [World.frozen?, c2]
        have hgK : g ≠ KB := by have := HG.out.2.1; have := HWK.out; omega
        have hgP : g ≠ w.heap.size := by omega
        have hgQ : g ≠ w.heap.size + 1 := HG.out.2.2
        have hSf : Below w.heap.size w W' ∧ W'.heap[w.heap.size]? = _ ∧ W'.heap[KB]? = _ := ⟨hS5.1.trans (d6 _ (by omega)), (d5 _ (fun h => hgP h.symm)).trans hS5.2.1, (d5 _ (fun h => hgK h.symm)).trans hS5.2.2⟩
        have hHf : Half (w.heap.size + 2) g b ks xs vc (i + 1) W' := by
          have hyl : ys.length = i * 5 := by have h := PartsIn.length a4; rw [shiftL_length, List.length_take] at h; have := HN.out; omega
          refine ⟨a1, cur', ys ++ five (.mk sk st sf se sks) (.slice sa sks.length sc), d1, by rw [d2]; exact a3, ?_, fun j u hj => ?_⟩
          · rw [HTS.out]
            refine PartsIn.snoc (PartsIn.later (fun k hk hkl => (d5 k hk.2).trans (hb5.block k hkl)) (fun _ h => h) _ _ a4) (KidsIn.later (fun k hk _ => d5 k (by omega)) (fun k hk => ⟨by have := hVb; have := HD3.out; have := HWW.out; omega, by omega⟩) _ _ hk5)
          · by_cases h1 : j < i * 5
            · rw [d4 j (.inl h1)]
              refine a5 j u ?_
              rw [List.append_assoc, List.getElem?_append_left (by omega)] at hj
              rw [List.getElem?_append_left (by omega)]; exact hj
            · by_cases h2 : j < i * 5 + 5
              · obtain ⟨m, rfl⟩ : ∃ m, j = i * 5 + m := ⟨j - i * 5, by omega⟩
                rw [List.append_assoc, List.getElem?_append_right (by omega), hyl, show i * 5 + m - i * 5 = m by omega, List.getElem?_append_left (by rw [five_length]; omega)] at hj
                exact d3 m u hj
              · rw [d4 j (.inr (by omega))]
                refine a5 j u ?_
                rw [List.getElem?_append_right (by rw [List.length_append, five_length]; omega), List.length_append, five_length, List.getElem?_drop] at hj
                rw [List.getElem?_append_right (by omega), List.getElem?_drop, ← hj]
                congr 1
                omega
        have hr5 := (d5 (w.heap.size + 1) (fun h => hgQ h.symm)).trans ((hb5.block _ (by have := HD3.out; have := HWW.out; omega)).trans HD2.out)
        have hgs : g < W'.heap.size := (Array.getElem?_eq_some_iff.1 d1).1
        have HSf := Lib.hid hSf
        have HHf := Lib.hid hHf
        have HR5 := Lib.hid hr5
        have HGS := Lib.hid hgs
        clear a1 a2 a3 a4 a5 c2 hsz cl d1 d2 d3 d4 d5 d6 hHf hr5 hgs hk5 hb5 hS5 hVg hgK hgP hgQ
        refine wpAnyH_ready (rs := [7]) (by kernel_rfl) (by simp) ?_
        refine (AllReadyH.cons (o := ({ dst := none, op := Op.store 24 (Operand.tmp 43) (Operand.tmp 42), type := 0, pos := "parse.go:36", after := #[{ on := 6, ground := Ground.data }, { on := 5, ground := Ground.data }, { on := 5, ground := Ground.chain }, { on := 0, ground := Ground.phase }, { on := 1, ground := Ground.phase }, { on := 2, ground := Ground.phase }, { on := 3, ground := Ground.phase }, { on := 4, ground := Ground.phase }, { on := 5, ground := Ground.phase }], guard := none } : Oper)) rfl (fun K hK => ?_) AllReadyH.nil)
        refine wanted_step (by kernel_rfl) ?_
        go_simp
        refine hK.out _ _ (HSf.out) (fun hHeld6 => ?_)
        (try simp only [Act.put, List.setIfInBounds_toArray, List.set_cons_zero, List.set_cons_succ])
        clear hK K
        clear q0 q1 q2 q3 q4 qf hW' hSf hHeld6 hHeld5 hHeld
        refine wpAnyH_done (by kernel_rfl) ?_ _
        go_wp2_with fail
        go_roundw
        case rel => exact ⟨i + 1, by go_num, by omega, Lib.hid HSf.out.1, Lib.hid HSf.out.2.1, HR5, Lib.hid (.inr ⟨g, rfl, HG.out.1, HGS.out, HG.out.2.2, HHf.out⟩)⟩
        case measure => simp [Go.RowKit.intOf]; omega
      · obtain rfl : i = n := by omega
        have hk : i = 0 ∨ ∃ g ys, va = some ⟨g, 0, none⟩ ∧ i ≤ vc ∧ w.heap.size + 2 ≤ g ∧ CellsAt wr g 0 ys ∧ PartsIn wr (fun k => w.heap.size + 2 ≤ k) (shiftL b ks) ys := by
          refine HH.out.imp id ?_
          rintro ⟨g, h1, h2, h3, h4, h5⟩
          obtain ⟨a1, cur, ys, a2, a3, a4, a5⟩ := h5
          rw [List.take_of_length_le (by rw [HN.out]; exact Nat.le_refl _)] at a4
          have hdrop : xs.drop (i * 5) = [] := List.drop_eq_nil_of_le (by rw [HL.out]; exact Nat.le_refl _)
          rw [hdrop, List.append_nil] at a5
          refine ⟨g, ys, h1, h2, a1, fun j u hj => ?_, PartsIn.later (fun _ _ _ => rfl) (fun _ h => h.1) _ _ a4⟩
          rw [Nat.zero_add]; unfold World.cell?; rw [a2]; exact a5 j u hj
        have HK := Lib.hid hk
        obtain ⟨⟨l0, l1, l2, l3, l4⟩, lf⟩ := cells_five HR.out
        clear hk
        go_wp2_with fail
        obtain ⟨Wf, hWf, f0, oth, hbf⟩ := set_five (.string kb) (.string tb) (.int .i64 f1) (.int .i64 e1) (.slice va i vc) HR.out
        rw [hWf]
        obtain ⟨⟨y0, y1, y2, y3, y4⟩, _⟩ := cells_five f0
        have hfin := HFin.out Wf va vc (HB.out.trans (hbf _ (by omega))) (HK.out.imp id (fun ⟨g, ys, h1, h2, h3, h4, h5⟩ => ⟨g, ys, h1, h2, by omega, fun j u hj => by
          have h6 := h4 j u hj
          unfold World.cell? at h6 ⊢
          rw [oth g (by omega)]; exact h6, PartsIn.later (fun k hk _ => oth k (by omega)) (fun k hk => by omega) _ _ h5⟩))
        clear hWf f0 oth hbf l0 l1 l2 l3 l4 lf k0 k1 k2 k3 k4 kf
        simp [bodyPost, results, Tryd.results9, go_sem, y0, y1, y2, y3, y4]
        exact hfin

end Go.Proofs.YtnjhmjkonmmomaaDoor.J
end
/- JShiftR: A part that is moved: the document's Shift. -/
section
namespace Go.Proofs.YtnjhmjkonmmomaaDoor.J
open Go.RowKit
open Go.Lib hiding intOf
open Go.Proofs.YtnjhmjkonmmomaaDoor.U Go.Proofs.YtnjhmjkonmmomaaDoor.S Go.Proofs.YtnjhmjkonmmomaaDoor.T

mutual
theorem kids_lt {W : World} {R : Nat → Prop} : ∀ (p : Pt) (lv : Value), KidsIn W R p lv → KidsIn W (fun k => R k ∧ k < W.heap.size) p lv
  | .mk k t f e ks, lv, h => by
    obtain ⟨a, cap, h1, h0, h2⟩ := h
    refine ⟨a, cap, h1, h0, ?_⟩
    rcases h2 with h2 | ⟨g, off, xs, h3, h4, h5, h6⟩
    · exact .inl h2
    · cases ks with
      | nil => exact .inl rfl
      | cons p r =>
        have hl : g < W.heap.size := by
          obtain ⟨lv', rest, rfl, _, _⟩ := h6
          cases p
          exact World.block_lt_of_cell? W _ (h5 0 _ rfl)
        exact .inr ⟨g, off, xs, h3, ⟨h4, hl⟩, h5, parts_lt _ _ h6⟩
theorem parts_lt {W : World} {R : Nat → Prop} : ∀ (l : List Pt) (xs : List Value), PartsIn W R l xs → PartsIn W (fun k => R k ∧ k < W.heap.size) l xs
  | [], _, h => h
  | p :: r, xs, h => by
    obtain ⟨lv, rest, h1, h2, h3⟩ := h
    exact ⟨lv, rest, h1, kids_lt p lv h2, parts_lt r rest h3⟩
end
theorem rows_lt {W : World} {R : Nat → Prop} {l : List Pt} {xs : List Value} (h : PartsIn W R l xs) : PartsIn W (fun k => R k ∧ k < W.heap.size) l xs := parts_lt l xs h
/-- What is made, the first i parts done. -/
structure Acc (H : Nat) (b : Int) (ks : List Pt) (c0 c1 c2 c3 : Value) (i : Nat) (vO : Value) (X : World) : Prop where
  o : X.heap[H + 1 + 1]? = some (.cells #[c0, c1, c2, c3, vO] 24 (0, 0))
  q : X.heap[H + 1]? = some (.cells #[.string ⟨#[]⟩, .string ⟨#[]⟩, .int .i64 0, .int .i64 0, .slice none 0 0] 24 (0, 0))
  row : ∃ ys : List Value, X.ownsRow (H + 3) 24 5 vO i ys ∧ PartsIn X (fun k => H + 3 ≤ k ∧ vO.ownBlock ≠ some k) (shiftL b (ks.take i)) ys
theorem Acc.below {H i : Nat} {b : Int} {ks : List Pt} {c0 c1 c2 c3 vO : Value} {X X' : World} (h : Acc H b ks c0 c1 c2 c3 i vO X) (hb : Below X.heap.size X X') : Acc H b ks c0 c1 c2 c3 i vO X' := by
  obtain ⟨h1, h2, ys, h3, h4⟩ := h
  exact ⟨(hb.block _ (Array.getElem?_eq_some_iff.1 h1).1).trans h1, (hb.block _ (Array.getElem?_eq_some_iff.1 h2).1).trans h2, ys, owns_later h3 hb, parts_below h4 hb⟩
theorem Acc.add {H i : Nat} {b : Int} {ks : List Pt} {c0 c1 c2 c3 vO : Value} {X w6 : World} {g5 c5 : Nat} {ys : List Value} {p : Pt} {lv : Value} (hi : i < ks.length) (hp : shiftP b ks[i] = p) (h1 : X.heap[H + 1 + 1]? = some (.cells #[c0, c1, c2, c3, vO] 24 (0, 0)))
    (h2 : X.heap[H + 1]? = some (.cells #[.string ⟨#[]⟩, .string ⟨#[]⟩, .int .i64 0, .int .i64 0, .slice none 0 0] 24 (0, 0))) (h3 : X.ownsRow (H + 3) 24 5 vO i ys) (h4 : PartsIn X (fun k => H + 3 ≤ k ∧ vO.ownBlock ≠ some k) (shiftL b (ks.take i)) ys)
    (hk : KidsIn X (fun k => H + 3 ≤ k ∧ vO.ownBlock ≠ some k ∧ k < X.heap.size) p lv)
    (hown : w6.ownsRow (H + 3) 24 5 (.slice (some ⟨g5, 0, none⟩) (i + 1) c5) (i + 1) (ys ++ five p lv)) (hgrow : X.grownBy w6 vO.ownBlock) (hat : vO.ownBlock = some g5 ∨ g5 = X.heap.size) :
    w6.cell? ⟨H + 1 + 1, 4, none⟩ = some vO ∧ w6.frozen? ⟨H + 1 + 1, 4, none⟩ = false ∧ Acc H b ks c0 c1 c2 c3 (i + 1) (.slice (some ⟨g5, 0, none⟩) (i + 1) c5) (w6.setCell ⟨H + 1 + 1, 4, none⟩ (.slice (some ⟨g5, 0, none⟩) (i + 1) c5)) ∧ Below (H + 1) X (w6.setCell ⟨H + 1 + 1, 4, none⟩ (.slice (some ⟨g5, 0, none⟩) (i + 1) c5)) := by
  have hO : ∀ k, k < H + 3 → vO.ownBlock ≠ some k := fun k hk e => by have := (h3.lt k e).1; omega
  have l1 := (Array.getElem?_eq_some_iff.1 h1).1
  have l2 := (Array.getElem?_eq_some_iff.1 h2).1
  have b1 := (hgrow.block _ l1 (fun e => hO _ (by omega) e.symm)).trans h1
  have b2 := (hgrow.block _ l2 (fun e => hO _ (by omega) e.symm)).trans h2
  have hset : ∀ k, k ≠ H + 1 + 1 → (w6.setCell ⟨H + 1 + 1, 4, none⟩ (.slice (some ⟨g5, 0, none⟩) (i + 1) c5)).heap[k]? = w6.heap[k]? := fun k hk => Below.heap_setCell _ _ _ _ hk
  have hg5 : H + 3 ≤ g5 := (hown.lt g5 rfl).1
  refine ⟨by simp [World.cell?, b1], by simp [World.frozen?, b1], ⟨Go.Joins.block_setCell b1 _, (hset _ (by omega)).trans b2, ys ++ five p lv, ?_, ?_⟩, ?_⟩
  · refine ⟨hown.1, ?_⟩
    rcases hown.2 with h | ⟨g, cap, cur, hv, h5, h6, h7⟩
    · exact .inl h
    · exact .inr ⟨g, cap, cur, hv, h5, (hset g (by omega)).trans h6, h7⟩
  · rw [shiftL_take_succ b hi, hp]
    have keep : ∀ k, (H + 3 ≤ k ∧ vO.ownBlock ≠ some k) → k < X.heap.size → (w6.setCell ⟨H + 1 + 1, 4, none⟩ (.slice (some ⟨g5, 0, none⟩) (i + 1) c5)).heap[k]? = X.heap[k]? := fun k hk hl => (hset k (by omega)).trans (hgrow.block k hl (fun e => hk.2 e.symm))
    have rr : ∀ k, (H + 3 ≤ k ∧ vO.ownBlock ≠ some k) → k < X.heap.size → (H + 3 ≤ k ∧ (Value.slice (some ⟨g5, 0, none⟩) (i + 1) c5).ownBlock ≠ some k) := fun k hk hl => ⟨hk.1, fun e => by
      have e : g5 = k := by simpa [Value.ownBlock] using e
      rcases hat with h | h
      · exact hk.2 (by rw [← e]; exact h)
      · omega⟩
    have ltL : ∀ {l : List Pt} {zs : List Value}, PartsIn X (fun k => H + 3 ≤ k ∧ vO.ownBlock ≠ some k) l zs → PartsIn X (fun k => (H + 3 ≤ k ∧ vO.ownBlock ≠ some k) ∧ k < X.heap.size) l zs := fun h => rows_lt h
    refine PartsIn.snoc (PartsIn.later (fun k hk hl => keep k hk.1 hl) (fun k hk => rr k hk.1 hk.2) _ _ (ltL h4)) (KidsIn.later (fun k hk hl => keep k ⟨hk.1, hk.2.1⟩ hl) (fun k hk => rr k ⟨hk.1, hk.2.1⟩ hk.2.2) _ _ hk)
  · exact ⟨hgrow.os, hgrow.tape, hgrow.output, by simpa using hgrow.size, fun k hk => (hset k (by omega)).trans (hgrow.block k (by omega) (fun e => hO k (by omega) e.symm))⟩
def ShiftRC (p : Pt) : Prop := ∀ (lv : Value) (R : Nat → Prop) (w : World) (b : Int), KidsIn w R p lv → wtP p ≤ 1099511627776 →
  Calls Tryd.prog 10 #[arg p lv, .int .i64 b] w (ShiftPost (shiftP b p) w)
set_option maxHeartbeats 8000000 in
set_option maxRecDepth 20000 in
theorem refShift_any : ∀ p, ShiftRC p := Pt.ind fun k t f e ks IH lv R w b hv hw => by
  obtain ⟨a, c, rfl⟩ := kids_form hv
  obtain ⟨_, hcap, hrow⟩ := kids_row hv
  obtain ⟨iP, hi0, hz0, hz1, hz2⟩ := info_parts infoP
  have HIH := Lib.hid IH
  rw [wtP] at hw
  have hlb : ks.length ≤ 1099511627776 := Nat.le_trans (wtL_length ks) (by omega)
  have HWM := Lib.hid (fun v (h : v ∈ ks) => Nat.le_trans (wtL_mem h) (show wtL ks ≤ 1099511627776 by omega))
  have HROW := Lib.hid hrow
  obtain ⟨n, hn⟩ : ∃ n, ks.length = n := ⟨_, rfl⟩
  have HN := Lib.hid hn
  rw [hn] at hlb
  obtain ⟨f1, hf1⟩ : ∃ x, moved f e f b = x := ⟨_, rfl⟩
  obtain ⟨e1, he1⟩ : ∃ x, moved f e e b = x := ⟨_, rfl⟩
  obtain ⟨kb, hkb⟩ : ∃ x, bstr k = x := ⟨_, rfl⟩
  obtain ⟨tb, htb⟩ : ∃ x, bstr t = x := ⟨_, rfl⟩
  have HFin : Hid (∀ (W : World) (v : Value), Below w.heap.size w W → (∃ ys, W.ownsRow (w.heap.size + 3) 24 5 v n ys ∧ PartsIn W (fun k => w.heap.size ≤ k) (shiftL b ks) ys) →
      ShiftPost (shiftP b (.mk k t f e ks)) w (.returned (.agg #[.string kb, .string tb, .int .i64 f1, .int .i64 e1, v])) W) := Lib.hid (fun W v hb h => by
    obtain ⟨ys, h1, h2⟩ := h
    have hq : shiftP b (.mk k t f e ks) = .mk k t f1 e1 (shiftL b ks) := by rw [shiftP, hf1, he1]
    rw [hq]
    refine ⟨v, by rw [arg, five, hkb, htb], ?_, hb⟩
    rcases h1.2 with ⟨rfl, h0⟩ | ⟨g, cap, cur, rfl, h3, h4, h5, _⟩
    · have hk0 : ks = [] := List.eq_nil_of_length_eq_zero (by rw [hn]; exact h0)
      subst hk0
      exact ⟨none, 0, rfl, Nat.le_refl _, .inl rfl⟩
    · refine ⟨some ⟨g, 0, none⟩, cap, by rw [shiftL_length, hn], by rw [shiftL_length, hn]; exact h5, .inr ⟨g, 0, ys, rfl, by omega, fun j u hj => ?_, h2⟩⟩
      have hj2 := (List.getElem?_eq_some_iff.1 hj).1
      have hl := h1.1
      rw [Nat.zero_add, h1.cellAt j (by omega)]; exact hj)
  obtain ⟨q, hq⟩ : ∃ q, shiftP b (.mk k t f e ks) = q := ⟨_, rfl⟩
  rw [hq] at HFin ⊢
  simp only [arg, five]
  rw [hn, hkb, htb]
  have HF1 := Lib.hid hf1
  have HE1 := Lib.hid he1
  clear hv hrow IH hw hn hcap hkb htb hq hf1 he1
  go_enter Tryd.func10, Tryd.ntmps10
  go_wp2_with fail
  obtain ⟨w1, hw1, hp1, hr1, ho1, hb1, hz1⟩ := three_new w (.cells #[.string kb, .string tb, .int .i64 f, .int .i64 e, .slice a n c] 24) (.cells #[.string ⟨#[]⟩, .string ⟨#[]⟩, .int .i64 0, .int .i64 0, .slice none 0 0] 24) (.cells #[.string kb, .string tb, .int .i64 f, .int .i64 e, .slice none 0 0] 24)
  rw [hw1]
  have HP1 := Lib.hid hp1
  have HB1 := Lib.hid hb1
  have HA1 : Hid (Acc w.heap.size b ks (.string kb) (.string tb) (.int .i64 f) (.int .i64 e) 0 (.slice none 0 0) w1) := Lib.hid ⟨ho1, hr1, [], World.ownsRow_nil _ _ _ _, rfl⟩
  have HZ1 := Lib.hid hz1
  clear hw1 hp1 hr1 ho1 hb1 hz1
  go_loopw [6] (fun iv wr => ∃ (i : Nat) (vO : Value), iv = .int .i64 i ∧ i ≤ n ∧ Hid (Below w.heap.size w wr) ∧ Hid (wr.heap[w.heap.size]? = some (.cells #[.string kb, .string tb, .int .i64 f, .int .i64 e, .slice a n c] 24 (0, 0))) ∧ Hid (Acc w.heap.size b ks (.string kb) (.string tb) (.int .i64 f) (.int .i64 e) i vO wr)) (fun iv _ => n - (Go.RowKit.intOf iv).toNat)
  case atStart => exact ⟨0, _, rfl, Nat.zero_le _, HB1, HP1, HA1⟩
  case round =>
    obtain ⟨i, vO, rfl, hi, HB, HP, HA⟩ := hrel
    obtain ⟨⟨k0, k1, k2, k3, k4⟩, kf⟩ := cells_five HP.out
    clear HB1 HP1 HA1
    by_cases hlt : i < n
    · have hll : i < ks.length := by rw [HN.out]; exact hlt
      obtain ⟨g, off, xs, rfl, _, hc, hp⟩ := HROW.out.resolve_left (fun h => by rw [h] at hll; exact Nat.not_lt_zero _ hll)
      obtain ⟨kk, tt, ff, ee, kks, aa, cc, hK⟩ := kid_at hp hc i hll
      obtain ⟨p, hpp⟩ : ∃ p, ks[i] = p := ⟨_, rfl⟩
      have hpm : p ∈ ks := by rw [← hpp]; exact List.getElem_mem hll
      obtain ⟨sq, hsq⟩ : ∃ x, shiftP b p = x := ⟨_, rfl⟩
      rw [hpp] at hK
      have cI := fun X (hX : Below w.heap.size w X) => (HIH.out _ hpm) (.slice aa kks.length cc) R X b (by rw [hK.eq]; exact kids_below hK.kids hX) (HWM.out _ hpm)
      rw [hsq] at cI
      simp only [hK.eq, arg, five] at cI
      have hcell : ∀ X, Below w.heap.size w X → KidAt X R p g (off + i * 5) kk tt ff ee kks aa cc := fun X hX => hK.below hX
      have HSQ : Hid (shiftP b ks[i] = sq) := Lib.hid (by rw [hpp]; exact hsq)
      obtain ⟨y0, hy0⟩ : ∃ x, bstr kk = x := ⟨_, rfl⟩
      obtain ⟨y1, hy1⟩ : ∃ x, bstr tt = x := ⟨_, rfl⟩
      obtain ⟨z0, hz0'⟩ : ∃ x, kks.length = x := ⟨_, rfl⟩
      rw [hy0, hy1, hz0'] at cI
      have hkc : ∀ X, Below w.heap.size w X → X.cell? ⟨g, off + i * 5, none⟩ = some (.string y0) ∧ X.cell? ⟨g, off + i * 5 + 1, none⟩ = some (.string y1) ∧ X.cell? ⟨g, off + i * 5 + 2, none⟩ = some (.int .i64 ff) ∧ X.cell? ⟨g, off + i * 5 + 3, none⟩ = some (.int .i64 ee) ∧ X.cell? ⟨g, off + i * 5 + 4, none⟩ = some (.slice aa z0 cc) := fun X hX => by
        have h := hcell X hX
        rw [← hy0, ← hy1, ← hz0']
        exact ⟨h.k0, h.k1, h.k2, h.k3, h.k4⟩
      have HKC := Lib.hid hkc
      have HCI := Lib.hid cI
      clear hkc hcell cI hK hp hc hpp hpm hsq hy0 hy1 hz0' k0 k1 k2 k3 kf
      go_upto_region 6 with fail
      refine wp_region_held_drew (S := fun X => Below w.heap.size w X ∧ X.heap[w.heap.size]? = some (.cells #[.string kb, .string tb, .int .i64 f, .int .i64 e, .slice (some ⟨g, off, none⟩) n c] 24 (0, 0))) (by kernel_rfl) ⟨HB.out.drew, HP.out⟩ (fun hHeld => ?_)
      have HAV := Lib.hid (HA.out.below (Below.refl wr.heap.size wr).drew)
      obtain ⟨V, hV⟩ : ∃ V, wr.drew = V := ⟨_, rfl⟩
      rw [hV] at hHeld HAV ⊢
      clear hV HA HB HP k4
      obtain ⟨hoV, hqV, ys, hrV, hpV⟩ := HAV.out
      obtain ⟨oa, oc, rfl⟩ := owns_len hrV
      have hVs : w.heap.size + 1 + 1 < V.heap.size := (Array.getElem?_eq_some_iff.1 hoV).1
      have HVS := Lib.hid hVs
      have HE : Hid (∀ (X w6 : World) (g5 c5 : Nat) (lv : Value), Below V.heap.size V X → KidsIn X (fun k => V.heap.size ≤ k) sq lv → w6.ownsRow (w.heap.size + 3) 24 5 (.slice (some ⟨g5, 0, none⟩) (i + 1) c5) (i + 1) (ys ++ five sq lv) → X.grownBy w6 (Value.slice oa i oc).ownBlock → ((Value.slice oa i oc).ownBlock = some g5 ∨ g5 = X.heap.size) →
          w6.cell? ⟨w.heap.size + 1 + 1, 4, none⟩ = some (.slice oa i oc) ∧ w6.frozen? ⟨w.heap.size + 1 + 1, 4, none⟩ = false ∧ Acc w.heap.size b ks (.string kb) (.string tb) (.int .i64 f) (.int .i64 e) (i + 1) (.slice (some ⟨g5, 0, none⟩) (i + 1) c5) (w6.setCell ⟨w.heap.size + 1 + 1, 4, none⟩ (.slice (some ⟨g5, 0, none⟩) (i + 1) c5)) ∧
            (Below w.heap.size w (w6.setCell ⟨w.heap.size + 1 + 1, 4, none⟩ (.slice (some ⟨g5, 0, none⟩) (i + 1) c5)) ∧ (w6.setCell ⟨w.heap.size + 1 + 1, 4, none⟩ (.slice (some ⟨g5, 0, none⟩) (i + 1) c5)).heap[w.heap.size]? = some (.cells #[.string kb, .string tb, .int .i64 f, .int .i64 e, .slice (some ⟨g, off, none⟩) n c] 24 (0, 0))) ∧ Below w.heap.size w w6 ∧ w6.heap[w.heap.size]? = some (.cells #[.string kb, .string tb, .int .i64 f, .int .i64 e, .slice (some ⟨g, off, none⟩) n c] 24 (0, 0))) := Lib.hid (fun X w6 g5 c5 lv hX hk hown hgrow hat => by
        have hs := hX.size
        obtain ⟨r1, r2, r3, r4⟩ := Acc.add hll HSQ.out ((hX.block _ hVs).trans hoV) ((hX.block _ (by omega)).trans hqV) (owns_later hrV hX) (parts_below hpV hX) (KidsIn.later (fun _ _ _ => rfl) (fun k hk => ⟨by have := hk.1; omega, fun e => by have := (hrV.lt k e).2; have := hk.1; omega, hk.2⟩) _ _ (kids_lt _ _ hk)) hown hgrow hat
        have hwX : Below w.heap.size w X := hHeld.1.trans (hX.mono (by omega))
        have hpX := (hX.block w.heap.size (by omega)).trans hHeld.2
        have hb6 : Below w.heap.size w w6 := hwX.grown hgrow (by omega) (fun k hk => by have := (hrV.lt k hk).1; omega)
        have hp6 := (hgrow.block w.heap.size (by omega) (fun e => by have := (hrV.lt _ e.symm).1; omega)).trans hpX
        exact ⟨r1, r2, r3, ⟨hwX.trans (r4.mono (by omega)), (r4.block _ (by omega)).trans hpX⟩, hb6, hp6⟩)
      have HLoad : Hid (∀ X, Below V.heap.size V X → X.cell? ⟨w.heap.size + 1 + 1, 4, none⟩ = some (.slice oa i oc)) := Lib.hid (fun X hX => by
        have h := (hX.block _ hVs).trans hoV
        simp [World.cell?, h])
      have HRow : Hid (∀ X, Below V.heap.size V X → X.ownsRow (w.heap.size + 3) 24 5 (.slice oa i oc) i ys) := Lib.hid (fun X hX => owns_later hrV hX)
      have HS : Hid (∀ X, Below V.heap.size V X → Below w.heap.size w X ∧ X.heap[w.heap.size]? = some (.cells #[.string kb, .string tb, .int .i64 f, .int .i64 e, .slice (some ⟨g, off, none⟩) n c] 24 (0, 0))) := Lib.hid (fun X hX => ⟨hHeld.1.trans (hX.mono (by omega)), (hX.block w.heap.size (by omega)).trans hHeld.2⟩)
      clear hoV hqV hrV hpV HAV hVs
      refine wpAnyH_take (i := 0) (oi := ({ dst := some 16, op := Op.fieldAddr 24 (Operand.tmp 5) 4, type := 0, pos := "ref.go:402", after := #[], guard := none } : Oper)) (v := .pointer (some ⟨w.heap.size + 1 + 1, 4, none⟩)) rfl (by kernel_rfl) (by kernel_rfl) (by kernel_rfl) (fun _ _ _ h => h) (Or.inl ⟨by rfl, fun X hX => rfl⟩) hHeld ?_
      (try simp only [Act.put, List.setIfInBounds_toArray, List.set_cons_zero, List.set_cons_succ])
      refine wpAnyH_take (i := 2) (oi := ({ dst := some 18, op := Op.fieldAddr 24 (Operand.tmp 2) 4, type := 0, pos := "ref.go:402", after := #[], guard := none } : Oper)) (v := .pointer (some ⟨w.heap.size, 4, none⟩)) rfl (by kernel_rfl) (by kernel_rfl) (by kernel_rfl) (fun _ _ _ h => h) (Or.inl ⟨by rfl, fun X hX => rfl⟩) hHeld ?_
      (try simp only [Act.put, List.setIfInBounds_toArray, List.set_cons_zero, List.set_cons_succ])
      refine wpAnyH_take (i := 3) (oi := ({ dst := some 19, op := Op.load 22 (Operand.tmp 18), type := 22, pos := "ref.go:402", after := #[{ on := 2, ground := Ground.data }], guard := none } : Oper)) (v := .slice (some ⟨g, off, none⟩) n c) rfl (by kernel_rfl) (by kernel_rfl) (by kernel_rfl) (fun _ _ _ h => h) (Or.inl ⟨by rfl, fun X hX => by have q := (cells_five hX.2).1.2.2.2.2; go_simp⟩) hHeld ?_
      (try simp only [Act.put, List.setIfInBounds_toArray, List.set_cons_zero, List.set_cons_succ])
      refine wpAnyH_take (i := 4) (oi := ({ dst := some 20, op := Op.move (Operand.tmp 6), type := 3, pos := "ref.go:402", after := #[], guard := none } : Oper)) (v := .int .i64 i) rfl (by kernel_rfl) (by kernel_rfl) (by kernel_rfl) (fun _ _ _ h => h) (Or.inl ⟨by rfl, fun X hX => rfl⟩) hHeld ?_
      (try simp only [Act.put, List.setIfInBounds_toArray, List.set_cons_zero, List.set_cons_succ])
      refine wpAnyH_take (i := 5) (oi := ({ dst := some 21, op := Op.indexAddr 22 (Operand.tmp 19) (Operand.tmp 20), type := 0, pos := "ref.go:402", after := #[{ on := 3, ground := Ground.data }, { on := 4, ground := Ground.data }], guard := none } : Oper)) (v := .pointer (some ⟨g, off + i * 5, none⟩)) rfl (by kernel_rfl) (by kernel_rfl) (by kernel_rfl) (fun _ _ _ h => h) (Or.inl ⟨by rfl, fun X hX => idx_row 19 20 g off n i c X rfl rfl rfl hlt⟩) hHeld ?_
      (try simp only [Act.put, List.setIfInBounds_toArray, List.set_cons_zero, List.set_cons_succ])
      refine wpAnyH_take (i := 6) (oi := ({ dst := some 22, op := Op.load 24 (Operand.tmp 21), type := 24, pos := "ref.go:402", after := #[{ on := 5, ground := Ground.data }], guard := none } : Oper)) (v := .agg #[.string y0, .string y1, .int .i64 ff, .int .i64 ee, .slice aa z0 cc]) rfl (by kernel_rfl) (by kernel_rfl) (by kernel_rfl) (fun _ _ _ h => h) (Or.inl ⟨by rfl, fun X hX => by obtain ⟨q0, q1, q2, q3, q4⟩ := HKC.out X hX.1; go_simp⟩) hHeld ?_
      (try simp only [Act.put, List.setIfInBounds_toArray, List.set_cons_zero, List.set_cons_succ])
      refine wpAnyH_take (i := 7) (oi := ({ dst := some 23, op := Op.move (Operand.tmp 1), type := 3, pos := "ref.go:402", after := #[], guard := none } : Oper)) (v := .int .i64 b) rfl (by kernel_rfl) (by kernel_rfl) (by kernel_rfl) (fun _ _ _ h => h) (Or.inl ⟨by rfl, fun X hX => rfl⟩) hHeld ?_
      (try simp only [Act.put, List.setIfInBounds_toArray, List.set_cons_zero, List.set_cons_succ])
      refine wpAnyH_ready (rs := [1, 8]) (by kernel_rfl) (by simp) ?_
      refine (AllReadyH.cons (o := ({ dst := some 17, op := Op.load 22 (Operand.tmp 16), type := 22, pos := "ref.go:402", after := #[{ on := 0, ground := Ground.data }], guard := none } : Oper)) rfl (fun K hK => ?_) (AllReadyH.cons (o := ({ dst := some 24, op := Op.call { callee := Callee.value (Operand.func 10), args := #[Operand.tmp 22, Operand.tmp 23], argTypes := #[24, 3] }, type := 24, pos := "ref.go:402", after := #[{ on := 6, ground := Ground.data }, { on := 7, ground := Ground.data }], guard := none } : Oper)) rfl (fun K hK => ?_) AllReadyH.nil))
      · refine wanted_step (by kernel_rfl) ?_
        have qo := HLoad.out V (Below.refl _ _)
        go_simp
        refine hK.out _ _ (HS.out _ (Below.refl _ _)) (fun hHeld6 => ?_)
        (try simp only [Act.put, List.setIfInBounds_toArray, List.set_cons_zero, List.set_cons_succ])
        clear hK K
        clear qo
        refine wpAnyH_ready (rs := [8]) (by kernel_rfl) (by simp) ?_
        refine (AllReadyH.cons (o := ({ dst := some 24, op := Op.call { callee := Callee.value (Operand.func 10), args := #[Operand.tmp 22, Operand.tmp 23], argTypes := #[24, 3] }, type := 24, pos := "ref.go:402", after := #[{ on := 6, ground := Ground.data }, { on := 7, ground := Ground.data }], guard := none } : Oper)) rfl (fun K hK => ?_) AllReadyH.nil)
        refine wanted_step (by kernel_rfl) ?_
        go_simp
        go_at_call 10
        refine (HCI.out V hHeld.1).mono ?_
        rintro e' w5 ⟨lv5, rfl, hk5, hb5⟩
        have hb5 : Below V.heap.size V w5 := hb5
        dsimp only
        refine hK.out _ _ (HS.out _ hb5) (fun hHeld5 => ?_)
        (try simp only [Act.put, List.setIfInBounds_toArray, List.set_cons_zero, List.set_cons_succ])
        clear hK K
        obtain ⟨sk, st, sf, se, sks⟩ := sq
        obtain ⟨sa, sc, rfl⟩ := kids_form hk5
        simp only [arg, five]
        refine wpAnyH_ready (rs := [9]) (by kernel_rfl) (by simp) ?_
        refine (AllReadyH.cons (o := ({ dst := some 25, op := Op.buildSlice 22 1 #[(0, Operand.tmp 24)], type := 22, pos := "ref.go:402", after := #[{ on := 8, ground := Ground.data }], guard := none } : Oper)) rfl (fun K hK => ?_) AllReadyH.nil)
        refine wanted_step (by kernel_rfl) ?_
        go_simp
        obtain ⟨X2, hX2⟩ : ∃ Y, w5.alloc (.cells #[.string (bstr sk), .string (bstr st), .int .i64 sf, .int .i64 se, .slice sa sks.length sc] 24) = Y := ⟨_, rfl⟩
        obtain ⟨g3, hg3⟩ : ∃ g, w5.heap.size = g := ⟨_, rfl⟩
        have hn3 : X2.heap[g3]? = some (.cells #[.string (bstr sk), .string (bstr st), .int .i64 sf, .int .i64 se, .slice sa sks.length sc] 24 (0, 0)) := by rw [← hX2, ← hg3]; exact heap_new _ _
        have hb2 : Below w5.heap.size w5 X2 := by rw [← hX2]; exact (Below.refl _ _).alloc (Nat.le_refl _) _
        have hbV := hb5.trans (hb2.mono hb5.size)
        have hk2 := kids_below hk5 hb2
        rw [hg3, hX2]
        clear hX2 hg3
        refine hK.out _ _ (HS.out _ hbV) (fun hHeld7 => ?_)
        (try simp only [Act.put, List.setIfInBounds_toArray, List.set_cons_zero, List.set_cons_succ])
        clear hK K
        refine wpAnyH_ready (rs := [10]) (by kernel_rfl) (by simp) ?_
        refine (AllReadyH.cons (o := ({ dst := some 26, op := Op.call { callee := Callee.builtin Builtin.append, args := #[Operand.tmp 17, Operand.tmp 25], argTypes := #[22, 22] }, type := 22, pos := "ref.go:402", after := #[{ on := 1, ground := Ground.data }, { on := 9, ground := Ground.data }, { on := 8, ground := Ground.chain }], guard := none } : Oper)) rfl (fun K hK => ?_) AllReadyH.nil)
        refine wanted_step (by kernel_rfl) ?_
        refine wp_append_lies _ (.tmp 17) (.tmp 25) 22 rfl (w.heap.size + 3) 24 iP (.agg #[.string ⟨#[]⟩, .string ⟨#[]⟩, .int .i64 0, .int .i64 0, .slice none 0 0]) 5 72 Tryd.underlying22 hi0 hz0 hz1 hz2 rfl (by decide) (.slice oa i oc) i ys rfl (HRow.out _ hbV) ⟨g3, 0, none⟩ 1 1 (five (.mk sk st sf se sks) (.slice sa sks.length sc)) rfl rfl (World.news_of_block (cs := #[.string (bstr sk), .string (bstr st), .int .i64 sf, .int .i64 se, .slice sa sks.length sc]) hn3) (five_one _ _ ⟨_, _, _, rfl⟩) (by decide) (by unfold maxLen; omega) (by omega) (by have := hbV.size; have := HVS.out; omega) _ rfl ?_
        intro g5 c5 w6 hown hgrow hat hlt5
        obtain ⟨qe, fe, hA6, hS6, hS6b⟩ := HE.out X2 w6 g5 c5 _ hbV hk2 hown hgrow hat
        have HA6 := Lib.hid hA6
        have HS6 := Lib.hid hS6
        refine hK.out _ _ (hS6b) (fun hHeld8 => ?_)
        (try simp only [Act.put, List.setIfInBounds_toArray, List.set_cons_zero, List.set_cons_succ])
        clear hK K
        refine wpAnyH_take (i := 11) (oi := ({ dst := some 27, op := Op.fieldAddr 24 (Operand.tmp 5) 4, type := 0, pos := "ref.go:402", after := #[{ on := 0, ground := Ground.phase }, { on := 1, ground := Ground.phase }, { on := 2, ground := Ground.phase }, { on := 3, ground := Ground.phase }, { on := 4, ground := Ground.phase }, { on := 5, ground := Ground.phase }, { on := 6, ground := Ground.phase }, { on := 7, ground := Ground.phase }, { on := 8, ground := Ground.phase }, { on := 9, ground := Ground.phase }, { on := 10, ground := Ground.phase }], guard := none } : Oper)) (v := .pointer (some ⟨w.heap.size + 1 + 1, 4, none⟩)) rfl (by kernel_rfl) (by kernel_rfl) (by kernel_rfl) (fun _ _ _ h => h) (Or.inl ⟨by rfl, fun X hX => rfl⟩) hHeld8 ?_
        (try simp only [Act.put, List.setIfInBounds_toArray, List.set_cons_zero, List.set_cons_succ])
        refine wpAnyH_ready (rs := [12]) (by kernel_rfl) (by simp) ?_
        refine (AllReadyH.cons (o := ({ dst := none, op := Op.store 22 (Operand.tmp 27) (Operand.tmp 26), type := 0, pos := "ref.go:402", after := #[{ on := 11, ground := Ground.data }, { on := 10, ground := Ground.data }, { on := 10, ground := Ground.chain }, { on := 0, ground := Ground.phase }, { on := 1, ground := Ground.phase }, { on := 2, ground := Ground.phase }, { on := 3, ground := Ground.phase }, { on := 4, ground := Ground.phase }, { on := 5, ground := Ground.phase }, { on := 6, ground := Ground.phase }, { on := 7, ground := Ground.phase }, { on := 8, ground := Ground.phase }, { on := 9, ground := Ground.phase }, { on := 10, ground := Ground.phase }], guard := none } : Oper)) rfl (fun K hK => ?_) AllReadyH.nil)
        refine wanted_step (by kernel_rfl) ?_
        go_simp
        refine hK.out _ _ (HS6.out) (fun hHeld9 => ?_)
        (try simp only [Act.put, List.setIfInBounds_toArray, List.set_cons_zero, List.set_cons_succ])
        clear hK K
        clear qe fe hA6 hS6 hS6b hHeld5 hHeld7 hHeld8 hHeld9 hHeld hown hgrow hat hlt5 hk2 hbV hb2 hn3 hk5 hb5
        refine wpAnyH_done (by kernel_rfl) ?_ _
        generalize w6.setCell ⟨w.heap.size + 1 + 1, 4, none⟩ (.slice (some ⟨g5, 0, none⟩) (i + 1) c5) = w7 at HA6 HS6 ⊢
        go_wp2_with fail
        go_roundw
        case rel => exact ⟨i + 1, _, by go_num, by omega, Lib.hid HS6.out.1, Lib.hid HS6.out.2, HA6⟩
        case measure => simp [Go.RowKit.intOf]; omega
      · refine wanted_step (by kernel_rfl) ?_
        go_simp
        go_at_call 10
        refine (HCI.out V hHeld.1).mono ?_
        rintro e' w5 ⟨lv5, rfl, hk5, hb5⟩
        have hb5 : Below V.heap.size V w5 := hb5
        dsimp only
        refine hK.out _ _ (HS.out _ hb5) (fun hHeld5 => ?_)
        (try simp only [Act.put, List.setIfInBounds_toArray, List.set_cons_zero, List.set_cons_succ])
        clear hK K
        obtain ⟨sk, st, sf, se, sks⟩ := sq
        obtain ⟨sa, sc, rfl⟩ := kids_form hk5
        simp only [arg, five]
        refine wpAnyH_ready (rs := [1, 9]) (by kernel_rfl) (by simp) ?_
        refine (AllReadyH.cons (o := ({ dst := some 17, op := Op.load 22 (Operand.tmp 16), type := 22, pos := "ref.go:402", after := #[{ on := 0, ground := Ground.data }], guard := none } : Oper)) rfl (fun K hK => ?_) (AllReadyH.cons (o := ({ dst := some 25, op := Op.buildSlice 22 1 #[(0, Operand.tmp 24)], type := 22, pos := "ref.go:402", after := #[{ on := 8, ground := Ground.data }], guard := none } : Oper)) rfl (fun K hK => ?_) AllReadyH.nil))
        · refine wanted_step (by kernel_rfl) ?_
          have qo := HLoad.out w5 hb5
          go_simp
          refine hK.out _ _ (HS.out _ hb5) (fun hHeld6 => ?_)
          (try simp only [Act.put, List.setIfInBounds_toArray, List.set_cons_zero, List.set_cons_succ])
          clear hK K
          clear qo
          refine wpAnyH_ready (rs := [9]) (by kernel_rfl) (by simp) ?_
          refine (AllReadyH.cons (o := ({ dst := some 25, op := Op.buildSlice 22 1 #[(0, Operand.tmp 24)], type := 22, pos := "ref.go:402", after := #[{ on := 8, ground := Ground.data }], guard := none } : Oper)) rfl (fun K hK => ?_) AllReadyH.nil)
          refine wanted_step (by kernel_rfl) ?_
          go_simp
          obtain ⟨X2, hX2⟩ : ∃ Y, w5.alloc (.cells #[.string (bstr sk), .string (bstr st), .int .i64 sf, .int .i64 se, .slice sa sks.length sc] 24) = Y := ⟨_, rfl⟩
          obtain ⟨g3, hg3⟩ : ∃ g, w5.heap.size = g := ⟨_, rfl⟩
          have hn3 : X2.heap[g3]? = some (.cells #[.string (bstr sk), .string (bstr st), .int .i64 sf, .int .i64 se, .slice sa sks.length sc] 24 (0, 0)) := by rw [← hX2, ← hg3]; exact heap_new _ _
          have hb2 : Below w5.heap.size w5 X2 := by rw [← hX2]; exact (Below.refl _ _).alloc (Nat.le_refl _) _
          have hbV := hb5.trans (hb2.mono hb5.size)
          have hk2 := kids_below hk5 hb2
          rw [hg3, hX2]
          clear hX2 hg3
          refine hK.out _ _ (HS.out _ hbV) (fun hHeld7 => ?_)
          (try simp only [Act.put, List.setIfInBounds_toArray, List.set_cons_zero, List.set_cons_succ])
          clear hK K
          refine wpAnyH_ready (rs := [10]) (by kernel_rfl) (by simp) ?_
          refine (AllReadyH.cons (o := ({ dst := some 26, op := Op.call { callee := Callee.builtin Builtin.append, args := #[Operand.tmp 17, Operand.tmp 25], argTypes := #[22, 22] }, type := 22, pos := "ref.go:402", after := #[{ on := 1, ground := Ground.data }, { on := 9, ground := Ground.data }, { on := 8, ground := Ground.chain }], guard := none } : Oper)) rfl (fun K hK => ?_) AllReadyH.nil)
          refine wanted_step (by kernel_rfl) ?_
          refine wp_append_lies _ (.tmp 17) (.tmp 25) 22 rfl (w.heap.size + 3) 24 iP (.agg #[.string ⟨#[]⟩, .string ⟨#[]⟩, .int .i64 0, .int .i64 0, .slice none 0 0]) 5 72 Tryd.underlying22 hi0 hz0 hz1 hz2 rfl (by decide) (.slice oa i oc) i ys rfl (HRow.out _ hbV) ⟨g3, 0, none⟩ 1 1 (five (.mk sk st sf se sks) (.slice sa sks.length sc)) rfl rfl (World.news_of_block (cs := #[.string (bstr sk), .string (bstr st), .int .i64 sf, .int .i64 se, .slice sa sks.length sc]) hn3) (five_one _ _ ⟨_, _, _, rfl⟩) (by decide) (by unfold maxLen; omega) (by omega) (by have := hbV.size; have := HVS.out; omega) _ rfl ?_
          intro g5 c5 w6 hown hgrow hat hlt5
          obtain ⟨qe, fe, hA6, hS6, hS6b⟩ := HE.out X2 w6 g5 c5 _ hbV hk2 hown hgrow hat
          have HA6 := Lib.hid hA6
          have HS6 := Lib.hid hS6
          refine hK.out _ _ (hS6b) (fun hHeld8 => ?_)
          (try simp only [Act.put, List.setIfInBounds_toArray, List.set_cons_zero, List.set_cons_succ])
          clear hK K
          refine wpAnyH_take (i := 11) (oi := ({ dst := some 27, op := Op.fieldAddr 24 (Operand.tmp 5) 4, type := 0, pos := "ref.go:402", after := #[{ on := 0, ground := Ground.phase }, { on := 1, ground := Ground.phase }, { on := 2, ground := Ground.phase }, { on := 3, ground := Ground.phase }, { on := 4, ground := Ground.phase }, { on := 5, ground := Ground.phase }, { on := 6, ground := Ground.phase }, { on := 7, ground := Ground.phase }, { on := 8, ground := Ground.phase }, { on := 9, ground := Ground.phase }, { on := 10, ground := Ground.phase }], guard := none } : Oper)) (v := .pointer (some ⟨w.heap.size + 1 + 1, 4, none⟩)) rfl (by kernel_rfl) (by kernel_rfl) (by kernel_rfl) (fun _ _ _ h => h) (Or.inl ⟨by rfl, fun X hX => rfl⟩) hHeld8 ?_
          (try simp only [Act.put, List.setIfInBounds_toArray, List.set_cons_zero, List.set_cons_succ])
          refine wpAnyH_ready (rs := [12]) (by kernel_rfl) (by simp) ?_
          refine (AllReadyH.cons (o := ({ dst := none, op := Op.store 22 (Operand.tmp 27) (Operand.tmp 26), type := 0, pos := "ref.go:402", after := #[{ on := 11, ground := Ground.data }, { on := 10, ground := Ground.data }, { on := 10, ground := Ground.chain }, { on := 0, ground := Ground.phase }, { on := 1, ground := Ground.phase }, { on := 2, ground := Ground.phase }, { on := 3, ground := Ground.phase }, { on := 4, ground := Ground.phase }, { on := 5, ground := Ground.phase }, { on := 6, ground := Ground.phase }, { on := 7, ground := Ground.phase }, { on := 8, ground := Ground.phase }, { on := 9, ground := Ground.phase }, { on := 10, ground := Ground.phase }], guard := none } : Oper)) rfl (fun K hK => ?_) AllReadyH.nil)
          refine wanted_step (by kernel_rfl) ?_
          go_simp
          refine hK.out _ _ (HS6.out) (fun hHeld9 => ?_)
          (try simp only [Act.put, List.setIfInBounds_toArray, List.set_cons_zero, List.set_cons_succ])
          clear hK K
          clear qe fe hA6 hS6 hS6b hHeld5 hHeld7 hHeld8 hHeld9 hHeld hown hgrow hat hlt5 hk2 hbV hb2 hn3 hk5 hb5
          refine wpAnyH_done (by kernel_rfl) ?_ _
          generalize w6.setCell ⟨w.heap.size + 1 + 1, 4, none⟩ (.slice (some ⟨g5, 0, none⟩) (i + 1) c5) = w7 at HA6 HS6 ⊢
          go_wp2_with fail
          go_roundw
          case rel => exact ⟨i + 1, _, by go_num, by omega, Lib.hid HS6.out.1, Lib.hid HS6.out.2, HA6⟩
          case measure => simp [Go.RowKit.intOf]; omega
        · refine wanted_step (by kernel_rfl) ?_
          go_simp
          obtain ⟨X2, hX2⟩ : ∃ Y, w5.alloc (.cells #[.string (bstr sk), .string (bstr st), .int .i64 sf, .int .i64 se, .slice sa sks.length sc] 24) = Y := ⟨_, rfl⟩
          obtain ⟨g3, hg3⟩ : ∃ g, w5.heap.size = g := ⟨_, rfl⟩
          have hn3 : X2.heap[g3]? = some (.cells #[.string (bstr sk), .string (bstr st), .int .i64 sf, .int .i64 se, .slice sa sks.length sc] 24 (0, 0)) := by rw [← hX2, ← hg3]; exact heap_new _ _
          have hb2 : Below w5.heap.size w5 X2 := by rw [← hX2]; exact (Below.refl _ _).alloc (Nat.le_refl _) _
          have hbV := hb5.trans (hb2.mono hb5.size)
          have hk2 := kids_below hk5 hb2
          rw [hg3, hX2]
          clear hX2 hg3
          refine hK.out _ _ (HS.out _ hbV) (fun hHeld7 => ?_)
          (try simp only [Act.put, List.setIfInBounds_toArray, List.set_cons_zero, List.set_cons_succ])
          clear hK K
          refine wpAnyH_ready (rs := [1]) (by kernel_rfl) (by simp) ?_
          refine (AllReadyH.cons (o := ({ dst := some 17, op := Op.load 22 (Operand.tmp 16), type := 22, pos := "ref.go:402", after := #[{ on := 0, ground := Ground.data }], guard := none } : Oper)) rfl (fun K hK => ?_) AllReadyH.nil)
          refine wanted_step (by kernel_rfl) ?_
          have qo := HLoad.out X2 hbV
          go_simp
          refine hK.out _ _ (HS.out _ hbV) (fun hHeld6 => ?_)
          (try simp only [Act.put, List.setIfInBounds_toArray, List.set_cons_zero, List.set_cons_succ])
          clear hK K
          clear qo
          refine wpAnyH_ready (rs := [10]) (by kernel_rfl) (by simp) ?_
          refine (AllReadyH.cons (o := ({ dst := some 26, op := Op.call { callee := Callee.builtin Builtin.append, args := #[Operand.tmp 17, Operand.tmp 25], argTypes := #[22, 22] }, type := 22, pos := "ref.go:402", after := #[{ on := 1, ground := Ground.data }, { on := 9, ground := Ground.data }, { on := 8, ground := Ground.chain }], guard := none } : Oper)) rfl (fun K hK => ?_) AllReadyH.nil)
          refine wanted_step (by kernel_rfl) ?_
          refine wp_append_lies _ (.tmp 17) (.tmp 25) 22 rfl (w.heap.size + 3) 24 iP (.agg #[.string ⟨#[]⟩, .string ⟨#[]⟩, .int .i64 0, .int .i64 0, .slice none 0 0]) 5 72 Tryd.underlying22 hi0 hz0 hz1 hz2 rfl (by decide) (.slice oa i oc) i ys rfl (HRow.out _ hbV) ⟨g3, 0, none⟩ 1 1 (five (.mk sk st sf se sks) (.slice sa sks.length sc)) rfl rfl (World.news_of_block (cs := #[.string (bstr sk), .string (bstr st), .int .i64 sf, .int .i64 se, .slice sa sks.length sc]) hn3) (five_one _ _ ⟨_, _, _, rfl⟩) (by decide) (by unfold maxLen; omega) (by omega) (by have := hbV.size; have := HVS.out; omega) _ rfl ?_
          intro g5 c5 w6 hown hgrow hat hlt5
          obtain ⟨qe, fe, hA6, hS6, hS6b⟩ := HE.out X2 w6 g5 c5 _ hbV hk2 hown hgrow hat
          have HA6 := Lib.hid hA6
          have HS6 := Lib.hid hS6
          refine hK.out _ _ (hS6b) (fun hHeld8 => ?_)
          (try simp only [Act.put, List.setIfInBounds_toArray, List.set_cons_zero, List.set_cons_succ])
          clear hK K
          refine wpAnyH_take (i := 11) (oi := ({ dst := some 27, op := Op.fieldAddr 24 (Operand.tmp 5) 4, type := 0, pos := "ref.go:402", after := #[{ on := 0, ground := Ground.phase }, { on := 1, ground := Ground.phase }, { on := 2, ground := Ground.phase }, { on := 3, ground := Ground.phase }, { on := 4, ground := Ground.phase }, { on := 5, ground := Ground.phase }, { on := 6, ground := Ground.phase }, { on := 7, ground := Ground.phase }, { on := 8, ground := Ground.phase }, { on := 9, ground := Ground.phase }, { on := 10, ground := Ground.phase }], guard := none } : Oper)) (v := .pointer (some ⟨w.heap.size + 1 + 1, 4, none⟩)) rfl (by kernel_rfl) (by kernel_rfl) (by kernel_rfl) (fun _ _ _ h => h) (Or.inl ⟨by rfl, fun X hX => rfl⟩) hHeld8 ?_
          (try simp only [Act.put, List.setIfInBounds_toArray, List.set_cons_zero, List.set_cons_succ])
          refine wpAnyH_ready (rs := [12]) (by kernel_rfl) (by simp) ?_
          refine (AllReadyH.cons (o := ({ dst := none, op := Op.store 22 (Operand.tmp 27) (Operand.tmp 26), type := 0, pos := "ref.go:402", after := #[{ on := 11, ground := Ground.data }, { on := 10, ground := Ground.data }, { on := 10, ground := Ground.chain }, { on := 0, ground := Ground.phase }, { on := 1, ground := Ground.phase }, { on := 2, ground := Ground.phase }, { on := 3, ground := Ground.phase }, { on := 4, ground := Ground.phase }, { on := 5, ground := Ground.phase }, { on := 6, ground := Ground.phase }, { on := 7, ground := Ground.phase }, { on := 8, ground := Ground.phase }, { on := 9, ground := Ground.phase }, { on := 10, ground := Ground.phase }], guard := none } : Oper)) rfl (fun K hK => ?_) AllReadyH.nil)
          refine wanted_step (by kernel_rfl) ?_
          go_simp
          refine hK.out _ _ (HS6.out) (fun hHeld9 => ?_)
          (try simp only [Act.put, List.setIfInBounds_toArray, List.set_cons_zero, List.set_cons_succ])
          clear hK K
          clear qe fe hA6 hS6 hS6b hHeld5 hHeld7 hHeld8 hHeld9 hHeld hown hgrow hat hlt5 hk2 hbV hb2 hn3 hk5 hb5
          refine wpAnyH_done (by kernel_rfl) ?_ _
          generalize w6.setCell ⟨w.heap.size + 1 + 1, 4, none⟩ (.slice (some ⟨g5, 0, none⟩) (i + 1) c5) = w7 at HA6 HS6 ⊢
          go_wp2_with fail
          go_roundw
          case rel => exact ⟨i + 1, _, by go_num, by omega, Lib.hid HS6.out.1, Lib.hid HS6.out.2, HA6⟩
          case measure => simp [Go.RowKit.intOf]; omega
    · obtain rfl : i = n := by omega
      obtain ⟨ho, hr, ys, hown, hys⟩ := HA.out
      rw [List.take_of_length_le (by rw [HN.out]; exact Nat.le_refl _)] at hys
      have hlO : w.heap.size + 1 + 1 < wr.heap.size := (Array.getElem?_eq_some_iff.1 ho).1
      obtain ⟨oa, oc, rfl⟩ := owns_len hown
      have HO := Lib.hid ho
      have HR := Lib.hid hr
      have HOwn := Lib.hid hown
      have HYS := Lib.hid hys
      have HFin2 : Hid (∀ W7, (∀ k, k ≠ w.heap.size + 1 → k ≠ w.heap.size + 1 + 1 → W7.heap[k]? = wr.heap[k]?) → Below w.heap.size wr W7 → ShiftPost q w (.returned (.agg #[.string kb, .string tb, .int .i64 f1, .int .i64 e1, .slice oa i oc])) W7) := Lib.hid (fun W7 h7 hb7 => by
        refine HFin.out W7 _ (HB.out.trans hb7) ⟨ys, ?_, PartsIn.later (fun k hk _ => h7 k (by omega) (by omega)) (fun k hk => by have := hk.1; omega) _ _ HYS.out⟩
        refine ⟨HOwn.out.1, ?_⟩
        rcases HOwn.out.2 with h | ⟨g, cap, cur, hv, h5, h6, h7'⟩
        · exact .inl h
        · exact .inr ⟨g, cap, cur, hv, h5, (h7 g (by omega) (by omega)).trans h6, h7'⟩)
      obtain ⟨⟨l0, l1, l2, l3, l4⟩, lf⟩ := cells_five HR.out
      obtain ⟨⟨m0, m1, m2, m3, m4⟩, mf⟩ := cells_five HO.out
      clear ho hr hown hys
      by_cases hz : f = 0 ∧ e = 0
      · obtain ⟨rfl, rfl⟩ := hz
        have hfe : f1 = 0 ∧ e1 = 0 := by rw [← HF1.out, ← HE1.out]; simp [moved]
        obtain ⟨rfl, rfl⟩ := hfe
        go_wp2_with fail
        obtain ⟨Wf, hWf, f0, oth, hbf⟩ := set_five (.string kb) (.string tb) (.int .i64 0) (.int .i64 0) (.slice oa i oc) HR.out
        rw [hWf]
        obtain ⟨⟨y0, y1, y2, y3, y4⟩, _⟩ := cells_five f0
        have hfin := HFin2.out Wf (fun k h1 _ => oth k h1) (hbf _ (by omega))
        clear hWf f0 oth hbf l0 l1 l2 l3 l4 lf k0 k1 k2 k3 k4 kf m0 m1 m2 m3 m4 mf
        simp [bodyPost, results, Tryd.results10, go_sem, y0, y1, y2, y3, y4]
        exact hfin
      · have hfe : wrap64 (f + b) = f1 ∧ wrap64 (e + b) = e1 := by rw [← HF1.out, ← HE1.out]; unfold moved; rw [if_neg hz, if_neg hz]; exact ⟨rfl, rfl⟩
        have hfin3 : Hid (∃ W8, (((((((wr.setCell ⟨w.heap.size + 1 + 1, 2, none⟩ (.int .i64 f1)).setCell ⟨w.heap.size + 1 + 1, 3, none⟩ (.int .i64 e1)).setCell ⟨w.heap.size + 1, 0, none⟩ (.string kb)).setCell ⟨w.heap.size + 1, 1, none⟩ (.string tb)).setCell ⟨w.heap.size + 1, 2, none⟩ (.int .i64 f1)).setCell ⟨w.heap.size + 1, 3, none⟩ (.int .i64 e1)).setCell ⟨w.heap.size + 1, 4, none⟩ (.slice oa i oc)) = W8 ∧
            W8.heap[w.heap.size + 1]? = some (.cells #[.string kb, .string tb, .int .i64 f1, .int .i64 e1, .slice oa i oc] 24 (0, 0)) ∧ ShiftPost q w (.returned (.agg #[.string kb, .string tb, .int .i64 f1, .int .i64 e1, .slice oa i oc])) W8) := Lib.hid (by
          have st : ∀ (X : World) (j : Nat) (v : Value), Below w.heap.size X (X.setCell ⟨w.heap.size + 1 + 1, j, none⟩ v) := fun X j v => ⟨rfl, rfl, rfl, by simp, fun k hk => Below.heap_setCell _ _ _ _ (by show k ≠ w.heap.size + 1 + 1; omega)⟩
          have so : ∀ k, k ≠ w.heap.size + 1 + 1 → ((wr.setCell ⟨w.heap.size + 1 + 1, 2, none⟩ (.int .i64 f1)).setCell ⟨w.heap.size + 1 + 1, 3, none⟩ (.int .i64 e1)).heap[k]? = wr.heap[k]? := fun k hk => (Below.heap_setCell _ _ _ _ hk).trans (Below.heap_setCell _ _ _ _ hk)
          obtain ⟨Wf, hWf, f0, oth, hbf⟩ := set_five (.string kb) (.string tb) (.int .i64 f1) (.int .i64 e1) (.slice oa i oc) ((so (w.heap.size + 1) (by omega)).trans HR.out)
          exact ⟨Wf, hWf, f0, HFin2.out Wf (fun k h1 h2 => (oth k h1).trans (so k h2)) (((st _ _ _).trans (st _ _ _)).trans (hbf _ (by omega)))⟩)
        by_cases hf0 : f = 0
        · have he0 : ¬ e = 0 := fun h => hz ⟨hf0, h⟩
          subst hf0
          rw [Int.zero_add] at hfe
          have q1 : ((e : Int) != 0) = true := by simpa using he0
          have q2 : ((e : Int) == 0) = false := by simpa using he0
          clear hz he0
          go_wp2_with fail
          rw [hfe.1, hfe.2]
          obtain ⟨Wf, hWf, f0, hfin⟩ := hfin3.out
          rw [hWf]
          obtain ⟨⟨y0, y1, y2, y3, y4⟩, _⟩ := cells_five f0
          clear hWf f0 l0 l1 l2 l3 l4 lf k0 k1 k2 k3 k4 kf m0 m1 m2 m3 m4 mf
          simp [bodyPost, results, Tryd.results10, go_sem, y0, y1, y2, y3, y4]
          exact hfin
        · have q1 : ((f : Int) != 0) = true := by simpa using hf0
          have q2 : ((f : Int) == 0) = false := by simpa using hf0
          clear hz hf0
          go_wp2_with fail
          rw [hfe.1, hfe.2]
          obtain ⟨Wf, hWf, f0, hfin⟩ := hfin3.out
          rw [hWf]
          obtain ⟨⟨y0, y1, y2, y3, y4⟩, _⟩ := cells_five f0
          clear hWf f0 l0 l1 l2 l3 l4 lf k0 k1 k2 k3 k4 kf m0 m1 m2 m3 m4 mf
          simp [bodyPost, results, Tryd.results10, go_sem, y0, y1, y2, y3, y4]
          exact hfin
end Go.Proofs.YtnjhmjkonmmomaaDoor.J
end
/- JAll: A part, and all that it has: the program's All and the document's. -/
section
namespace Go.Proofs.YtnjhmjkonmmomaaDoor.J
open Go.RowKit
open Go.Lib hiding intOf
open Go.Proofs.YtnjhmjkonmmomaaDoor.U Go.Proofs.YtnjhmjkonmmomaaDoor.S Go.Proofs.YtnjhmjkonmmomaaDoor.T

mutual
def allOf : Pt → List Pt
  | .mk k t f e ks => .mk k t f e ks :: allOfL ks
def allOfL : List Pt → List Pt
  | [] => []
  | p :: r => allOf p ++ allOfL r
end
theorem allOfL_app : ∀ (a b : List Pt), allOfL (a ++ b) = allOfL a ++ allOfL b
  | [], b => by rw [List.nil_append, allOfL, List.nil_append]
  | p :: r, b => by rw [List.cons_append, allOfL, allOfL, allOfL_app r b, List.append_assoc]
theorem allOfL_take_succ {l : List Pt} {i : Nat} (h : i < l.length) : allOfL (l.take (i + 1)) = allOfL (l.take i) ++ allOf l[i] := by
  rw [List.take_succ_eq_append_getElem h, allOfL_app]; simp [allOfL]
theorem allOfL_take_le (l : List Pt) (i : Nat) : (allOfL (l.take i)).length ≤ (allOfL l).length := by
  have h : allOfL l = allOfL (l.take i) ++ allOfL (l.drop i) := by rw [← allOfL_app, List.take_append_drop]
  rw [h, List.length_append]; omega
mutual
theorem all_len : ∀ p, (allOf p).length ≤ wtP p
  | .mk k t f e ks => by have := all_lenL ks; rw [allOf, List.length_cons, wtP]; omega
theorem all_lenL : ∀ l, (allOfL l).length ≤ wtL l
  | [] => by rw [allOfL, wtL]; exact Nat.le_refl _
  | p :: r => by have := all_len p; have := all_lenL r; rw [allOfL, List.length_append, wtL]; omega
end
mutual
theorem all_mem : ∀ (p q : Pt), q ∈ allOf p → wtP q ≤ wtP p
  | .mk k t f e ks, q, h => by
    rw [allOf] at h
    rcases List.mem_cons.1 h with rfl | h
    · exact Nat.le_refl _
    · have := all_memL ks q h
      rw [wtP]; omega
theorem all_memL : ∀ (l : List Pt) (q : Pt), q ∈ allOfL l → wtP q ≤ wtL l
  | [], q, h => by rw [allOfL] at h; cases h
  | p :: r, q, h => by
    rw [allOfL] at h
    rw [wtL]
    rcases List.mem_append.1 h with h | h
    · have := all_mem p q h; omega
    · have := all_memL r q h; omega
end
def AllCPost (p : Pt) (_R : Nat → Prop) (w : World) (e : Ending) (w' : World) : Prop := ∃ v ys, e = .returned v ∧ w'.ownsRow w.heap.size 24 5 v (allOf p).length ys ∧ PartsIn w' (fun b => w.heap.size ≤ b ∧ v.ownBlock ≠ some b) ((allOf p).map (shiftP 0)) ys ∧ Below w.heap.size w w'
def AllC (p : Pt) : Prop := ∀ (lv : Value) (R : Nat → Prop) (w : World), KidsIn w R p lv → wtP p ≤ 1099511627776 →
  Calls Tryd.prog 12 #[arg p lv] w (AllCPost p R w)
set_option maxHeartbeats 8000000 in
set_option maxRecDepth 20000 in
theorem all_any : ∀ p, AllC p := Pt.ind fun k t f e ks IH lv R w hv hw => by
  obtain ⟨a, c, rfl⟩ := kids_form hv
  obtain ⟨_, hcap, hrow⟩ := kids_row hv
  obtain ⟨iP, hi0, hz0, hz1, hz2⟩ := info_parts infoP
  have HIH := Lib.hid IH
  have hal := all_len (.mk k t f e ks)
  have HAL := Lib.hid (show (allOf (.mk k t f e ks)).length ≤ 1099511627776 by omega)
  have hw' := hw
  rw [wtP] at hw'
  have hlb : ks.length ≤ 1099511627776 := Nat.le_trans (wtL_length ks) (by omega)
  have HWM := Lib.hid (fun v (h : v ∈ ks) => Nat.le_trans (wtL_mem h) (show wtL ks ≤ 1099511627776 by omega))
  have HROW := Lib.hid hrow
  have HAS : Hid (allOf (.mk k t f e ks) = .mk k t f e ks :: allOfL ks) := Lib.hid (by rw [allOf])
  have HV := Lib.hid hv
  obtain ⟨n, hn⟩ : ∃ n, ks.length = n := ⟨_, rfl⟩
  have HN := Lib.hid hn
  rw [hn] at hlb
  have cS := fun X (hX : Below w.heap.size w X) => shift_any (.mk k t f e ks) (.slice a ks.length c) R X 0 (kids_below hv hX) hw
  simp only [arg, five] at cS
  simp only [arg, five]
  obtain ⟨kb, hkb⟩ : ∃ x, bstr k = x := ⟨_, rfl⟩
  obtain ⟨tb, htb⟩ : ∃ x, bstr t = x := ⟨_, rfl⟩
  rw [hn, hkb, htb] at cS
  rw [hn, hkb, htb]
  obtain ⟨P0, hP0⟩ : ∃ p, Pt.mk k t f e ks = p := ⟨_, rfl⟩
  have HP0 := Lib.hid hP0
  obtain ⟨sq, hsq⟩ : ∃ x, shiftP 0 (.mk k t f e ks) = x := ⟨_, rfl⟩
  rw [hsq] at cS
  have HSQ := Lib.hid hsq
  clear hsq
  rw [hP0]
  have HKT := Lib.hid (And.intro hkb htb)
  clear hv hrow IH hw hw' hal hn hcap hkb htb hP0
  go_enter Tryd.func12, Tryd.ntmps12
  go_upto_region 1 with fail
  obtain ⟨w1, hw1, hq1, hb1, hz1⟩ := new_block w (.cells #[.string kb, .string tb, .int .i64 f, .int .i64 e, .slice a n c] 24)
  rw [hw1]
  have cS1 := cS w1 hb1
  obtain ⟨⟨q0, q1, q2, q3, q4⟩, qf⟩ := cells_five hq1
  have HQ1 := Lib.hid hq1
  have HB1 := Lib.hid hb1
  have HZ1 := Lib.hid hz1
  clear cS hw1 hq1 hb1 hz1
  go_wp2_with fail
  refine cS1.mono ?_
  rintro ee w2 ⟨lv0, rfl, hk2, hb2⟩
  obtain ⟨sk, st, sf, se, sks⟩ := sq
  obtain ⟨sa, sc, rfl⟩ := kids_form hk2
  simp only [arg, five]
  have hq2 := (hb2.block _ HZ1.out).trans HQ1.out
  obtain ⟨⟨q0, q1, q2, q3, q4⟩, qf⟩ := cells_five hq2
  have HQ2 := Lib.hid hq2
  have HB2 := Lib.hid (HB1.out.trans (hb2.mono HB1.out.size))
  have HZ2 := Lib.hid (Nat.lt_of_lt_of_le HZ1.out hb2.size)
  have HK2 := Lib.hid hk2
  clear cS1 hq2 hb2 hk2
  go_upto_region 2 with fail
  obtain ⟨w3, hw3, hq3, hb3, hz3⟩ := new_block w2 (.cells #[.string (bstr sk), .string (bstr st), .int .i64 sf, .int .i64 se, .slice sa sks.length sc] 24)
  have hown3 : w3.ownsRow w.heap.size 24 5 (.slice (some ⟨w2.heap.size, 0, none⟩) 1 1) 1 (five (.mk sk st sf se sks) (.slice sa sks.length sc)) := by
    rw [← hw3]
    exact World.ownsRow_lit w2 #[.string (bstr sk), .string (bstr st), .int .i64 sf, .int .i64 se, .slice sa sks.length sc] 1 HB2.out.size (by unfold maxLen; decide) (by rfl)
  rw [hw3]
  have hP3 : PartsIn w3 (fun b => w.heap.size ≤ b ∧ (Value.slice (some ⟨w2.heap.size, 0, none⟩) 1 1).ownBlock ≠ some b) [.mk sk st sf se sks] (five (.mk sk st sf se sks) (.slice sa sks.length sc)) :=
    ⟨_, [], by rw [List.append_nil], KidsIn.later (fun g hg hl => hb3.block g hl) (fun g hg => ⟨by have := hg.1; have := HB1.out.size; omega, fun h => by
      have h : w2.heap.size = g := by simpa [Value.ownBlock] using h
      have := hg.2
      omega⟩) _ _ (kids_lt _ _ HK2.out), rfl⟩
  have HO3 := Lib.hid hown3
  have HP3 := Lib.hid hP3
  have HB3 := Lib.hid (HB2.out.trans (hb3.mono HB2.out.size))
  have hq4 := (hb3.block _ HZ2.out).trans HQ2.out
  obtain ⟨⟨q0, q1, q2, q3, q4⟩, qf⟩ := cells_five hq4
  clear hw3 hq3 hb3 hz3 hown3 hP3 hq4
  go_wp2_with fail
  clear q0 q1 q2 q3 q4 qf
  go_loopw [3, 12] (fun vv iv wr => ∃ (i m : Nat) (ys : List Value), iv = .int .i64 i ∧ i ≤ n ∧ Hid (m = (.mk k t f e ks :: allOfL (ks.take i) : List Pt).length) ∧ Hid (wr.ownsRow w.heap.size 24 5 vv m ys) ∧ Hid (PartsIn wr (fun b => w.heap.size ≤ b ∧ vv.ownBlock ≠ some b) ((.mk k t f e ks :: allOfL (ks.take i) : List Pt).map (shiftP 0)) ys) ∧ Hid (Below w.heap.size w wr)) (fun _ iv _ => n - (Go.RowKit.intOf iv).toNat)
  case atStart => exact ⟨0, 1, _, rfl, Nat.zero_le _, Lib.hid (by simp [allOfL]), HO3, Lib.hid (by
    rw [List.take_zero, allOfL, List.map_cons, List.map_nil, HSQ.out]
    exact HP3.out), HB3⟩
  case round =>
    obtain ⟨i, m, ys, rfl, hi, HM, HO, HP, HB⟩ := hrel
    obtain ⟨va, vc, rfl⟩ := owns_len HO.out
    clear HO3 HP3 HB3
    by_cases hlt : i < n
    · have hll : i < ks.length := by rw [HN.out]; exact hlt
      obtain ⟨g, off, xs, rfl, _, hc, hp⟩ := HROW.out.resolve_left (fun h => by rw [h] at hll; exact Nat.not_lt_zero _ hll)
      obtain ⟨k', t', f', e', ks', a', c', hK⟩ := kid_at hp hc i hll
      have hK0 := hK
      have hK := hK.below HB.out
      obtain ⟨p, hpp⟩ : ∃ p, ks[i] = p := ⟨_, rfl⟩
      have hpm : p ∈ ks := by rw [← hpp]; exact List.getElem_mem hll
      have hts := allOfL_take_succ hll
      have htl := allOfL_take_le ks (i + 1)
      rw [hpp] at hK hK0 hts
      have hmm : m + (allOf p).length ≤ 1099511627776 := by
        have h1 := HAL.out
        have h2 := HM.out
        rw [HAS.out, List.length_cons] at h1
        rw [List.length_cons] at h2
        rw [hts, List.length_append] at htl
        omega
      have HM2 := Lib.hid (show m + (allOf p).length = (.mk k t f e ks :: allOfL (ks.take (i + 1)) : List Pt).length by rw [hts, HM.out]; simp; omega)
      have HTS := Lib.hid hts
      have cP := fun X (hX : Below w.heap.size w X) => (HIH.out _ hpm) (.slice a' ks'.length c') R X (by rw [hK0.eq]; exact kids_below hK0.kids hX) (HWM.out _ hpm)
      obtain ⟨m1, hm1⟩ : ∃ x, (allOf p).length = x := ⟨_, rfl⟩
      have HM1 := Lib.hid hm1
      have hpq : arg p (.slice a' ks'.length c') = .agg #[.string (bstr k'), .string (bstr t'), .int .i64 f', .int .i64 e', .slice a' ks'.length c'] := by rw [hK0.eq]; rfl
      simp only [hpq] at cP
      rw [hm1] at hmm HM2
      have j0 := hK.k0
      have j1 := hK.k1
      have j2 := hK.k2
      have j3 := hK.k3
      have j4 := hK.k4
      obtain ⟨y0, hy0⟩ : ∃ x, bstr k' = x := ⟨_, rfl⟩
      obtain ⟨y1, hy1⟩ : ∃ x, bstr t' = x := ⟨_, rfl⟩
      obtain ⟨z0, hz0'⟩ : ∃ x, ks'.length = x := ⟨_, rfl⟩
      rw [hy0] at j0 cP
      rw [hy1] at j1 cP
      rw [hz0'] at j4 cP
      clear hc hp hK hK0 hpp hpm hts htl hpq hy0 hy1 hz0' hm1
      go_upto_region 5 with fail
      obtain ⟨w4, hw4, hq4, hb4, hz4⟩ := new_block wr (.cells #[.string y0, .string y1, .int .i64 f', .int .i64 e', .slice a' z0 c'] 24)
      rw [hw4]
      obtain ⟨⟨q0, q1, q2, q3, q4⟩, qf⟩ := cells_five hq4
      have HB4 := Lib.hid (HB.out.trans (hb4.mono HB.out.size))
      have HO4 := Lib.hid (owns_later HO.out hb4)
      have HP4 := Lib.hid (parts_below HP.out hb4)
      have cP4 := cP w4 HB4.out
      clear hw4 hq4 hb4 hz4 cP j0 j1 j2 j3 j4 HO HP HB
      go_wp2_with fail
      refine cP4.mono ?_
      rintro ee w5 ⟨v1, zs, rfl, hown1, hp1, hb5⟩
      have hO1 := HM1.out
      rw [hO1] at hown1
      obtain ⟨xa, xc, rfl⟩ := owns_len hown1
      have hzl : zs.length = m1 * 5 := hown1.1
      have hcz : m1 = 0 ∨ ∃ g off, xa = some ⟨g, off, none⟩ ∧ CellsAt w5 g off zs := by
        rcases hown1.2 with ⟨_, h0⟩ | ⟨g, cap, cur, hv, _⟩
        · exact .inl h0
        · cases hv
          exact .inr ⟨g, 0, rfl, fun j u hj => by
            have hj2 := (List.getElem?_eq_some_iff.1 hj).1
            rw [Nat.zero_add, hown1.cellAt j (by omega)]; exact hj⟩
      have hO5 := owns_later HO4.out hb5
      have hB5 := HB4.out.trans (hb5.mono HB4.out.size)
      have HCZ := Lib.hid hcz
      have HZL := Lib.hid hzl
      have HONE := Lib.hid (parts_one hp1)
      have HO5 := Lib.hid hO5
      have HB5 := Lib.hid hB5
      have HPP := Lib.hid hp1
      have HZS := Lib.hid hown1
      have HP5 := Lib.hid (parts_below HP4.out hb5)
      have HSZ := Lib.hid HB4.out.size
      have HOB : Hid (∀ g, (Value.slice va m vc).ownBlock = some g → g < w4.heap.size) := Lib.hid (fun g hg => (HO4.out.lt g hg).2)
      clear cP4 hO5 hB5 hcz hzl hown1 hp1 hb5 hO1 q0 q1 q2 q3 q4 qf HB4 HO4 HP4
      have hbase := HB5.out.size
      go_wp2_with (at_builtin; refine wpList_append_row rfl _ _ 22 rfl w.heap.size 24 iP _ 5 72 Tryd.underlying22 hi0 hz0 hz1 hz2 rfl (by decide) _ m ys rfl HO5.out _ m1 xc zs rfl HZL.out HCZ.out HONE.out (by unfold maxLen; omega) (by omega) hbase ?_)
      intro v' w6 hown hgrow hat
      have HO6 := Lib.hid hown
      have HB6 := Lib.hid (HB5.out.grown hgrow hbase (fun b hb => (HO5.out.lt b hb).1))
      have hp6 : PartsIn w6 (fun b => w.heap.size ≤ b ∧ v'.ownBlock ≠ some b) ((.mk k t f e ks :: allOfL (ks.take (i + 1)) : List Pt).map (shiftP 0)) (ys ++ zs) := by
        rw [HTS.out, ← List.cons_append, List.map_append]
        have rr : ∀ g, (w.heap.size ≤ g ∧ (Value.slice va m vc).ownBlock ≠ some g) ∧ g < w5.heap.size → w.heap.size ≤ g ∧ v'.ownBlock ≠ some g := fun g hg => ⟨hg.1.1, fun h => by
          rcases hat with h2 | h2
          · rw [h2] at h; exact hg.1.2 h
          · rw [h2] at h; have := Option.some.inj h; have := hg.2; omega⟩
        have st : ∀ g, (w.heap.size ≤ g ∧ (Value.slice va m vc).ownBlock ≠ some g) ∧ g < w5.heap.size → g < w5.heap.size → w6.heap[g]? = w5.heap[g]? := fun g hg hl => hgrow.block g hl (fun h => hg.1.2 h.symm)
        refine PartsIn.app (PartsIn.later st rr _ _ (rows_lt HP5.out)) (PartsIn.later st rr _ _ (rows_lt (PartsIn.later (fun _ _ _ => rfl) (fun g hg => ⟨by have := hg.1; have := HSZ.out; omega, fun h => by have := HOB.out g h; have := hg.1; omega⟩) _ _ HPP.out)))
      have HP6 := Lib.hid hp6
      clear hp6
      clear hown hgrow hat
      go_wp2_with fail
      go_roundw
      case rel => exact ⟨i + 1, m + m1, ys ++ zs, by go_num, by omega, HM2, HO6, HP6, HB6⟩
      case measure => simp [Go.RowKit.intOf]; omega
    · obtain rfl : i = n := by omega
      have ht : ks.take i = ks := List.take_of_length_le (by rw [HN.out]; exact Nat.le_refl _)
      have hM := HM.out
      have hP := HP.out
      rw [ht, ← HAS.out, HP0.out] at hM hP
      have hO := HO.out
      rw [hM] at hO
      have hfin : AllCPost P0 R w (.returned (.slice va m vc)) wr := ⟨_, ys, rfl, by rw [hM]; exact hO, by rw [hM]; rw [hM] at hP; exact hP, HB.out⟩
      have HFin := Lib.hid hfin
      clear ht hM hP hO hfin
      go_wp2_with fail
      go_ret
      exact HFin.out
def AllRCPost (p : Pt) (R : Nat → Prop) (w : World) (e : Ending) (w' : World) : Prop := ∃ v ys, e = .returned v ∧ w'.ownsRow w.heap.size 24 5 v (allOf p).length ys ∧ PartsIn w' (fun b => R b ∧ b < w.heap.size) (allOf p) ys ∧ Below w.heap.size w w'
def AllRC (p : Pt) : Prop := ∀ (lv : Value) (R : Nat → Prop) (w : World), KidsIn w R p lv → wtP p ≤ 1099511627776 →
  Calls Tryd.prog 13 #[arg p lv] w (AllRCPost p R w)
set_option maxHeartbeats 8000000 in
set_option maxRecDepth 20000 in
theorem refAll_any : ∀ p, AllRC p := Pt.ind fun k t f e ks IH lv R w hv hw => by
  obtain ⟨a, c, rfl⟩ := kids_form hv
  obtain ⟨_, hcap, hrow⟩ := kids_row hv
  obtain ⟨iP, hi0, hz0, hz1, hz2⟩ := info_parts infoP
  have HIH := Lib.hid IH
  have hal := all_len (.mk k t f e ks)
  have HAL := Lib.hid (show (allOf (.mk k t f e ks)).length ≤ 1099511627776 by omega)
  have hw' := hw
  rw [wtP] at hw'
  have hlb : ks.length ≤ 1099511627776 := Nat.le_trans (wtL_length ks) (by omega)
  have HWM := Lib.hid (fun v (h : v ∈ ks) => Nat.le_trans (wtL_mem h) (show wtL ks ≤ 1099511627776 by omega))
  have HROW := Lib.hid hrow
  have HAS : Hid (allOf (.mk k t f e ks) = .mk k t f e ks :: allOfL ks) := Lib.hid (by rw [allOf])
  have HV := Lib.hid hv
  obtain ⟨n, hn⟩ : ∃ n, ks.length = n := ⟨_, rfl⟩
  have HN := Lib.hid hn
  rw [hn] at hlb
  simp only [arg, five]
  obtain ⟨kb, hkb⟩ : ∃ x, bstr k = x := ⟨_, rfl⟩
  obtain ⟨tb, htb⟩ : ∃ x, bstr t = x := ⟨_, rfl⟩
  rw [hn, hkb, htb]
  obtain ⟨P0, hP0⟩ : ∃ p, Pt.mk k t f e ks = p := ⟨_, rfl⟩
  have HP0 := Lib.hid hP0
  rw [hP0]
  have HKT := Lib.hid (And.intro hkb htb)
  clear hv hrow IH hw hw' hal hn hcap hkb htb hP0
  go_enter Tryd.func13, Tryd.ntmps13
  go_upto_region 2 with fail
  obtain ⟨w3, hw3, hp3, hq3, hb3, hz3⟩ := two_new w (.cells #[.string kb, .string tb, .int .i64 f, .int .i64 e, .slice a n c] 24) (.cells #[.string kb, .string tb, .int .i64 f, .int .i64 e, .slice a n c] 24)
  have hown3 : w3.ownsRow w.heap.size 24 5 (.slice (some ⟨w.heap.size + 1, 0, none⟩) 1 1) 1 [.string kb, .string tb, .int .i64 f, .int .i64 e, .slice a n c] :=
    ⟨rfl, .inr ⟨w.heap.size + 1, 1, _, rfl, by omega, hq3, Nat.le_refl _, by unfold maxLen; decide, rfl, rfl⟩⟩
  rw [hw3]
  have hP3 : PartsIn w (fun b => R b ∧ b < w.heap.size) [.mk k t f e ks] [.string kb, .string tb, .int .i64 f, .int .i64 e, .slice a n c] :=
    ⟨.slice a ks.length c, [], by rw [List.append_nil, five, HKT.out.1, HKT.out.2, HN.out], kids_lt _ _ HV.out, rfl⟩
  have HO3 := Lib.hid hown3
  have HP3 := Lib.hid hP3
  have HB3 := Lib.hid hb3
  have HX3 := Lib.hid hp3
  have HZ3 := Lib.hid hz3
  clear hw3 hp3 hq3 hb3 hz3 hown3 hP3
  go_wp2_with fail
  go_loopw [3, 4] (fun vv iv wr => ∃ (i m : Nat) (ys : List Value), iv = .int .i64 i ∧ i ≤ n ∧ Hid (m = (.mk k t f e ks :: allOfL (ks.take i) : List Pt).length) ∧ Hid (wr.ownsRow w.heap.size 24 5 vv m ys) ∧ Hid (∀ g, vv.ownBlock = some g → w.heap.size + 1 ≤ g) ∧ Hid (PartsIn w (fun b => R b ∧ b < w.heap.size) (.mk k t f e ks :: allOfL (ks.take i) : List Pt) ys) ∧ Hid (wr.heap[w.heap.size]? = some (.cells #[.string kb, .string tb, .int .i64 f, .int .i64 e, .slice a n c] 24 (0, 0))) ∧ Hid (Below w.heap.size w wr)) (fun _ iv _ => n - (Go.RowKit.intOf iv).toNat)
  case atStart => exact ⟨0, 1, _, rfl, Nat.zero_le _, Lib.hid (by simp [allOfL]), HO3, Lib.hid (fun g hg => by
    have h : w.heap.size + 1 = g := by simpa [Value.ownBlock] using hg
    omega), Lib.hid (by
    have h := HP3.out
    simpa [allOfL] using h), HX3, HB3⟩
  case round =>
    obtain ⟨i, m, ys, rfl, hi, HM, HO, HG, HP, HX, HB⟩ := hrel
    obtain ⟨va, vc, rfl⟩ := owns_len HO.out
    clear HO3 HP3 HB3
    obtain ⟨⟨q0, q1, q2, q3, q4⟩, qf⟩ := cells_five HX.out
    by_cases hlt : i < n
    · have hll : i < ks.length := by rw [HN.out]; exact hlt
      obtain ⟨g, off, xs, rfl, _, hc, hp⟩ := HROW.out.resolve_left (fun h => by rw [h] at hll; exact Nat.not_lt_zero _ hll)
      obtain ⟨k', t', f', e', ks', a', c', hK⟩ := kid_at hp hc i hll
      have hK0 := hK
      have hK := hK.below HB.out
      obtain ⟨p, hpp⟩ : ∃ p, ks[i] = p := ⟨_, rfl⟩
      have hpm : p ∈ ks := by rw [← hpp]; exact List.getElem_mem hll
      have hts := allOfL_take_succ hll
      have htl := allOfL_take_le ks (i + 1)
      rw [hpp] at hK hK0 hts
      have hmm : m + (allOf p).length ≤ 1099511627776 := by
        have h1 := HAL.out
        have h2 := HM.out
        rw [HAS.out, List.length_cons] at h1
        rw [List.length_cons] at h2
        rw [hts, List.length_append] at htl
        omega
      have HM2 := Lib.hid (show m + (allOf p).length = (.mk k t f e ks :: allOfL (ks.take (i + 1)) : List Pt).length by rw [hts, HM.out]; simp; omega)
      have HTS := Lib.hid hts
      have cP := fun X (hX : Below w.heap.size w X) => (HIH.out _ hpm) (.slice a' ks'.length c') (fun b => R b ∧ b < w.heap.size) X (by rw [hK0.eq]; exact kids_below (kids_lt _ _ hK0.kids) hX) (HWM.out _ hpm)
      obtain ⟨m1, hm1⟩ : ∃ x, (allOf p).length = x := ⟨_, rfl⟩
      have HM1 := Lib.hid hm1
      have hpq : arg p (.slice a' ks'.length c') = .agg #[.string (bstr k'), .string (bstr t'), .int .i64 f', .int .i64 e', .slice a' ks'.length c'] := by rw [hK0.eq]; rfl
      simp only [hpq] at cP
      rw [hm1] at hmm HM2
      have j0 := hK.k0
      have j1 := hK.k1
      have j2 := hK.k2
      have j3 := hK.k3
      have j4 := hK.k4
      obtain ⟨y0, hy0⟩ : ∃ x, bstr k' = x := ⟨_, rfl⟩
      obtain ⟨y1, hy1⟩ : ∃ x, bstr t' = x := ⟨_, rfl⟩
      obtain ⟨z0, hz0'⟩ : ∃ x, ks'.length = x := ⟨_, rfl⟩
      rw [hy0] at j0 cP
      rw [hy1] at j1 cP
      rw [hz0'] at j4 cP
      clear hc hp hK hK0 hpp hpm hts htl hpq hy0 hy1 hz0' hm1
      have cP4 := cP wr HB.out
      have HB4 := HB
      have HO4 := HO
      clear cP HO HB
      go_wp2_with fail
      refine cP4.mono ?_
      rintro ee w5 ⟨v1, zs, rfl, hown1, hp1, hb5⟩
      have hO1 := HM1.out
      rw [hO1] at hown1
      obtain ⟨xa, xc, rfl⟩ := owns_len hown1
      have hzl : zs.length = m1 * 5 := hown1.1
      have hcz : m1 = 0 ∨ ∃ g off, xa = some ⟨g, off, none⟩ ∧ CellsAt w5 g off zs := by
        rcases hown1.2 with ⟨_, h0⟩ | ⟨g, cap, cur, hv, _⟩
        · exact .inl h0
        · cases hv
          exact .inr ⟨g, 0, rfl, fun j u hj => by
            have hj2 := (List.getElem?_eq_some_iff.1 hj).1
            rw [Nat.zero_add, hown1.cellAt j (by omega)]; exact hj⟩
      have hO5 := owns_later HO4.out hb5
      have hB5 := HB4.out.trans (hb5.mono HB4.out.size)
      have HCZ := Lib.hid hcz
      have HZL := Lib.hid hzl
      have HONE := Lib.hid (parts_one hp1)
      have HO5 := Lib.hid hO5
      have HB5 := Lib.hid hB5
      have HPP := Lib.hid hp1
      have HZS := Lib.hid hown1
      have HX5 := Lib.hid ((hb5.block _ (Array.getElem?_eq_some_iff.1 HX.out).1).trans HX.out)
      clear cP4 hO5 hB5 hcz hzl hown1 hp1 hb5 hO1 q0 q1 q2 q3 q4 qf HB4 HO4
      have hbase := HB5.out.size
      go_wp2_with (at_builtin; refine wpList_append_row rfl _ _ 22 rfl w.heap.size 24 iP _ 5 72 Tryd.underlying22 hi0 hz0 hz1 hz2 rfl (by decide) _ m ys rfl HO5.out _ m1 xc zs rfl HZL.out HCZ.out HONE.out (by unfold maxLen; omega) (by omega) hbase ?_)
      intro v' w6 hown hgrow hat
      have HO6 := Lib.hid hown
      have HB6 := Lib.hid (HB5.out.grown hgrow hbase (fun b hb => (HO5.out.lt b hb).1))
      have hp6 : PartsIn w (fun b => R b ∧ b < w.heap.size) (.mk k t f e ks :: allOfL (ks.take (i + 1)) : List Pt) (ys ++ zs) := by
        rw [HTS.out, ← List.cons_append]
        refine PartsIn.app HP.out (PartsIn.later (fun g hg _ => ?_) (fun g hg => hg.1) _ _ HPP.out)
        exact (HB5.out.block g hg.1.2).symm
      have HP6 := Lib.hid hp6
      have HX6 := Lib.hid ((hgrow.block _ (Array.getElem?_eq_some_iff.1 HX5.out).1 (fun h => by have := HG.out _ h.symm; omega)).trans HX5.out)
      have HG6 : Hid (∀ g, v'.ownBlock = some g → w.heap.size + 1 ≤ g) := Lib.hid (fun g hg => by
        rcases hat with h2 | h2
        · rw [h2] at hg; exact HG.out g hg
        · rw [h2] at hg; have := Option.some.inj hg; have := (Array.getElem?_eq_some_iff.1 HX5.out).1; omega)
      clear hp6
      clear hown hgrow hat
      go_wp2_with fail
      go_roundw
      case rel => exact ⟨i + 1, m + m1, ys ++ zs, by go_num, by omega, HM2, HO6, HG6, HP6, HX6, HB6⟩
      case measure => simp [Go.RowKit.intOf]; omega
    · obtain rfl : i = n := by omega
      have ht : ks.take i = ks := List.take_of_length_le (by rw [HN.out]; exact Nat.le_refl _)
      have hM := HM.out
      have hP := HP.out
      rw [ht, ← HAS.out, HP0.out] at hM hP
      have hO := HO.out
      rw [hM] at hO
      have hfin : AllRCPost P0 R w (.returned (.slice va m vc)) wr := ⟨_, ys, rfl, by rw [hM]; exact hO, PartsIn.later (fun g hg _ => HB.out.block g hg.2) (fun _ h => h) _ _ hP, HB.out⟩
      have HFin := Lib.hid hfin
      clear ht hM hP hO hfin
      go_wp2_with fail
      go_ret
      exact HFin.out
end Go.Proofs.YtnjhmjkonmmomaaDoor.J
end
/- JSize: How many parts there are in one, and bytes: the contract of the law's Size. -/
section
namespace Go.Proofs.YtnjhmjkonmmomaaDoor.J
open Go.RowKit
open Go.Lib hiding intOf
open Go.Proofs.YtnjhmjkonmmomaaDoor.U Go.Proofs.YtnjhmjkonmmomaaDoor.S Go.Proofs.YtnjhmjkonmmomaaDoor.T

mutual
def sizeP : Pt → Nat
  | .mk k t _ _ ks => sizeLs ks (1 + t.length + k.length)
def sizeLs : List Pt → Nat → Nat
  | [], n => n
  | p :: r, n => if n ≤ 1600 then sizeLs r (n + sizeP p) else n
end
mutual
theorem sizeP_le : ∀ p, sizeP p ≤ wtP p
  | .mk k t f e ks => by
    have h := sizeLs_le ks (1 + t.length + k.length)
    rw [sizeP, wtP]; omega
theorem sizeLs_le : ∀ (l : List Pt) (n : Nat), sizeLs l n ≤ n + wtL l
  | [], n => by rw [sizeLs]; omega
  | p :: r, n => by
    have h1 := sizeP_le p
    have h2 := sizeLs_le r (n + sizeP p)
    rw [sizeLs, wtL]
    split <;> omega
end
theorem sizeLs_drop {l : List Pt} {k n : Nat} (hk : k < l.length) : sizeLs (l.drop k) n = if n ≤ 1600 then sizeLs (l.drop (k + 1)) (n + sizeP l[k]) else n := by
  rw [List.drop_eq_getElem_cons hk, sizeLs]
/-- A part that is small weighs no more. -/
theorem sizeLs_ge : ∀ (l : List Pt) (n : Nat), n ≤ sizeLs l n
  | [], n => by rw [sizeLs]; exact Nat.le_refl _
  | p :: r, n => by
    rw [sizeLs]
    split
    · exact Nat.le_trans (Nat.le_add_right _ _) (sizeLs_ge r _)
    · exact Nat.le_refl _
mutual
theorem size_is : ∀ p, sizeP p ≤ 1600 → wtP p = sizeP p
  | .mk k t f e ks, h => by
    rw [sizeP] at h ⊢
    have := size_isL ks _ h
    rw [wtP]; omega
theorem size_isL : ∀ (l : List Pt) (n : Nat), sizeLs l n ≤ 1600 → n + wtL l = sizeLs l n
  | [], n, _ => by rw [sizeLs, wtL]; rfl
  | p :: r, n, h => by
    have hn := Nat.le_trans (sizeLs_ge (p :: r) n) h
    rw [sizeLs] at h ⊢
    rw [if_pos hn] at h ⊢
    have h1 := sizeLs_ge r (n + sizeP p)
    have h2 := size_is p (by omega)
    have h3 := size_isL r _ h
    rw [wtL]; omega
end
def SizeC (p : Pt) : Prop := ∀ (lv : Value) (R : Nat → Prop) (w : World), KidsIn w R p lv → wtP p ≤ 1099511627776 →
  Calls Tryd.prog 7 #[arg p lv] w fun e w' => e = .returned (.int .i64 (sizeP p)) ∧ Below w.heap.size w w'
set_option maxHeartbeats 4000000 in
theorem size_any : ∀ p, SizeC p := Pt.ind fun k t f e ks IH lv R w hv hw => by
  obtain ⟨a, c, rfl⟩ := kids_form hv
  obtain ⟨_, hcap, hrow⟩ := kids_row hv
  have HR := Lib.hid hrow
  have HIH := Lib.hid IH
  rw [wtP] at hw
  have hlb : ks.length ≤ 1099511627776 := Nat.le_trans (wtL_length ks) (by omega)
  have HWM := Lib.hid (fun v (h : v ∈ ks) => Nat.le_trans (wtL_mem h) (show wtL ks ≤ 1099511627776 by omega))
  have HW := Lib.hid hw
  obtain ⟨F, hF⟩ : ∃ F, sizeP (.mk k t f e ks) = F := ⟨_, rfl⟩
  have HF := Lib.hid (show sizeLs (ks.drop 0) (1 + t.length + k.length) = F by rw [← hF, sizeP]; rfl)
  rw [hF]
  obtain ⟨n, hn⟩ : ∃ n, ks.length = n := ⟨_, rfl⟩
  have HN := Lib.hid hn
  simp only [arg, five]
  rw [hn]
  rw [hn] at hlb
  obtain ⟨kb, hkb⟩ : ∃ x, bstr k = x := ⟨_, rfl⟩
  obtain ⟨tb, htb⟩ : ∃ x, bstr t = x := ⟨_, rfl⟩
  have hks : kb.size = k.length := by rw [← hkb]; rfl
  have hts : tb.size = t.length := by rw [← htb]; rfl
  rw [hkb, htb]
  obtain ⟨n0, hn0⟩ : ∃ n0, 1 + t.length + k.length = n0 := ⟨_, rfl⟩
  rw [hn0] at HF
  have HN0 := Lib.hid hn0
  have hkl : k.length ≤ 1099511627776 := by omega
  have htl : t.length ≤ 1099511627776 := by omega
  clear hv hrow IH hw hF hn hcap hkb htb hn0
  go_enter Tryd.func7, Tryd.ntmps7
  go_wp2_with fail
  obtain ⟨w1, hw1, hq1, hb1, hz1⟩ := new_block w (.cells #[.string kb, .string tb, .int .i64 f, .int .i64 e, .slice a n c] 24)
  rw [hw1]
  obtain ⟨⟨k0, k1, k2, k3, k4⟩, kf⟩ := cells_five hq1
  have HQ1 := Lib.hid hq1
  have HB1 := Lib.hid hb1
  clear hq1 hb1 hw1
  go_loopw [3, 4] (fun nv iv wr => ∃ i m : Nat, iv = .int .i64 i ∧ nv = .int .i64 m ∧ i ≤ n ∧ Hid (m ≤ n0 + wtL (ks.take i)) ∧ Hid (sizeLs (ks.drop i) m = F) ∧ Hid (Below w1.heap.size w1 wr)) (fun _ iv _ => n - (Go.RowKit.intOf iv).toNat)
  case atStart => exact ⟨0, n0, rfl, by have := HN0.out; go_num, by omega, Lib.hid (by omega), HF, Lib.hid (Below.refl _ _)⟩
  case round =>
    obtain ⟨i, m, rfl, rfl, hi, HM, HI, HB⟩ := hrel
    have hq := (HB.out.block w.heap.size hz1).trans HQ1.out
    obtain ⟨⟨k0, k1, k2, k3, k4⟩, kf⟩ := cells_five hq
    have hmb : m ≤ 1099511627776 := by have h1 := HM.out; have h2 := wtL_take_le ks i; have h3 := HW.out; have h4 := HN0.out; omega
    have hz2 := HB.out.size
    have HQ := Lib.hid hq
    clear hq
    by_cases hlt : i < n
    · have hll : i < ks.length := by rw [HN.out]; exact hlt
      have hI := HI.out
      rw [sizeLs_drop hll] at hI
      by_cases h16 : m ≤ 1600
      · rw [if_pos h16] at hI
        obtain ⟨g, off, xs, rfl, hg, hc, hp⟩ := HR.out.resolve_left (fun h => by rw [h] at hll; exact Nat.not_lt_zero _ hll)
        have hb0 : Below w.heap.size w wr := HB1.out.trans (HB.out.mono HB1.out.size)
        obtain ⟨k', t', f', e', ks', a', c', hK⟩ := kid_at hp hc i hll
        have hK := hK.below hb0
        have hle := sizeP_le ks[i]
        have hts' := wtL_take_succ hll
        have htl' := wtL_take_le ks (i + 1)
        have HM3 := Lib.hid (show m + sizeP ks[i] ≤ n0 + wtL (ks.take (i + 1)) by have := HM.out; omega)
        have hmb3 : m + sizeP ks[i] ≤ 1099511627776 := by have h1 := HM.out; have h3 := HW.out; have h4 := HN0.out; omega
        have cP := (HIH.out ks[i] (List.getElem_mem hll)) (.slice a' ks'.length c') R wr (by rw [hK.eq]; exact hK.kids) (HWM.out _ (List.getElem_mem hll))
        obtain ⟨sz, hsz⟩ : ∃ x, sizeP ks[i] = x := ⟨_, rfl⟩
        rw [hsz] at hI HM3 hmb3 cP
        simp only [hK.eq, arg, five] at cP
        have HI2 := Lib.hid hI
        have j0 := hK.k0
        have j1 := hK.k1
        have j2 := hK.k2
        have j3 := hK.k3
        have j4 := hK.k4
        clear hI hsz hle hts' htl' hc hp hK hb0 HI HM
        go_wp2_with fail
        refine cP.mono ?_
        rintro e w2 ⟨rfl, hb2⟩
        have HB2 := Lib.hid (HB.out.trans (hb2.mono HB.out.size))
        clear cP hb2
        go_wp2_with fail
        go_roundw
        case rel => exact ⟨i + 1, m + sz, by go_num, by go_num, by omega, HM3, HI2, HB2⟩
        case measure => simp [Go.RowKit.intOf]; omega
      · rw [if_neg h16] at hI
        obtain rfl := hI
        clear HI HM
        go_wp2_with fail
        go_ret
        exact ⟨rfl, HB1.out.trans (HB.out.mono HB1.out.size)⟩
    · obtain rfl : i = n := by omega
      have hI := HI.out
      rw [List.drop_eq_nil_of_le (by rw [HN.out]; exact Nat.le_refl _), sizeLs] at hI
      obtain rfl := hI
      clear HI HM
      go_wp2_with fail
      go_ret
      exact ⟨rfl, HB1.out.trans (HB.out.mono HB1.out.size)⟩
end Go.Proofs.YtnjhmjkonmmomaaDoor.J
end
/- JLParts: The law ParseParts: how deep any part is nested, what it is moved, and all that it has, are as the document says. -/
section
namespace Go.Proofs.YtnjhmjkonmmomaaDoor.J
open Go.RowKit
open Go.Lib hiding intOf
open Go.Proofs.YtnjhmjkonmmomaaDoor.U Go.Proofs.YtnjhmjkonmmomaaDoor.S Go.Proofs.YtnjhmjkonmmomaaDoor.T
open Go.Proofs.YtnjhmjkonmmomaaDoor.K (MTab)

mutual
/-- All places are numbers of a machine. -/
def Rng : Pt → Prop
  | .mk _ _ f e ks => (-9223372036854775808 ≤ f ∧ f < 9223372036854775808) ∧ (-9223372036854775808 ≤ e ∧ e < 9223372036854775808) ∧ RngL ks
def RngL : List Pt → Prop
  | [] => True
  | p :: r => Rng p ∧ RngL r
end
mutual
theorem shift_zero : ∀ p, Rng p → shiftP 0 p = p
  | .mk k t f e ks, h => by
    unfold Rng at h
    have h1 : moved f e f 0 = f := by unfold moved; split <;> first | rfl | (rw [Int.add_zero]; exact IntWalk.wrap64_in _ (by omega))
    have h2 : moved f e e 0 = e := by unfold moved; split <;> first | rfl | (rw [Int.add_zero]; exact IntWalk.wrap64_in _ (by omega))
    rw [shiftP, h1, h2, shift_zeroL ks h.2.2]
theorem shift_zeroL : ∀ l, RngL l → shiftL 0 l = l
  | [], _ => by rw [shiftL]
  | p :: r, h => by
    unfold RngL at h
    rw [shiftL, shift_zero p h.1, shift_zeroL r h.2]
end
mutual
theorem rng_all : ∀ (p q : Pt), Rng p → q ∈ allOf p → Rng q
  | .mk k t f e ks, q, h, hq => by
    rw [allOf] at hq
    rcases List.mem_cons.1 hq with rfl | hq
    · exact h
    · unfold Rng at h
      exact rng_allL ks q h.2.2 hq
theorem rng_allL : ∀ (l : List Pt) (q : Pt), RngL l → q ∈ allOfL l → Rng q
  | [], q, _, hq => by rw [allOfL] at hq; cases hq
  | p :: r, q, h, hq => by
    unfold RngL at h
    rw [allOfL] at hq
    rcases List.mem_append.1 hq with hq | hq
    · exact rng_all p q h.1 hq
    · exact rng_allL r q h.2 hq
end
theorem all_same {p : Pt} (h : Rng p) : (allOf p).map (shiftP 0) = allOf p := by
  have : ∀ q ∈ allOf p, shiftP 0 q = q := fun q hq => shift_zero q (rng_all p q h hq)
  calc (allOf p).map (shiftP 0) = (allOf p).map id := List.map_congr_left this
    _ = allOf p := List.map_id _
set_option maxHeartbeats 8000000 in
set_option maxRecDepth 20000 in
theorem parts_law (p : Pt) (lv : Value) (R : Nat → Prop) (w : World) (b : Int) (hv : KidsIn w R p lv) (hw : wtP p ≤ 1048576) (hr : Rng p) (hT : Tabs w) (hG : MTab w) :
    Calls Tryd.prog 3 #[arg p lv, .int .i64 b] w fun e w' => e = .returned (.bool true) ∧ Below w.heap.size w w' := by
  have HT := Lib.hid hT
  have HG := Lib.hid hG
  have hsm := all_same hr
  have cZ := fun X (hX : Below w.heap.size w X) => size_any p lv R X (kids_below hv hX) (by omega)
  have cS := fun X (hX : Below w.heap.size w X) => shift_any p lv R X b (kids_below hv hX) (by omega)
  have cR := fun X (hX : Below w.heap.size w X) => refShift_any p lv R X b (kids_below hv hX) (by omega)
  have cA := fun X (hX : Below w.heap.size w X) => all_any p lv R X (kids_below hv hX) (by omega)
  have cB := fun X (hX : Below w.heap.size w X) => refAll_any p lv R X (kids_below hv hX) (by omega)
  have cD := fun X (hX : Below w.heap.size w X) => deep_any p (kids_below hv hX) (by omega)
  have cE := fun X (hX : Below w.heap.size w X) => refDeep_any p lv R X (kids_below hv hX) (by omega)
  have hswt : wtP (shiftP b p) ≤ 1099511627776 := by rw [shift_wt]; omega
  have hlen := all_len p
  have hmem := fun q (hq : q ∈ allOf p) => (show wtP q ≤ 1099511627776 from Nat.le_trans (all_mem p q hq) (by omega))
  unfold AllCPost at cA
  rw [hsm] at cA
  obtain ⟨L, hL⟩ : ∃ L, allOf p = L := ⟨_, rfl⟩
  unfold AllRCPost at cB
  rw [hL] at cA cB hlen hmem
  obtain ⟨sq, hsq⟩ : ∃ q, shiftP b p = q := ⟨_, rfl⟩
  rw [hsq] at cS cR hswt
  obtain ⟨D, hD⟩ : ∃ D, deep p = D := ⟨_, rfl⟩
  rw [hD] at cD cE
  obtain ⟨Z, hZ⟩ : ∃ Z, sizeP p = Z := ⟨_, rfl⟩
  rw [hZ] at cZ
  obtain ⟨k, t, f, e, ks⟩ := p
  obtain ⟨a, c, rfl⟩ := kids_form hv
  simp only [arg, five] at cZ cS cR cA cB cD cE ⊢
  obtain ⟨kb, hkb⟩ : ∃ x, bstr k = x := ⟨_, rfl⟩
  obtain ⟨tb, htb⟩ : ∃ x, bstr t = x := ⟨_, rfl⟩
  obtain ⟨n, hn⟩ : ∃ n, ks.length = n := ⟨_, rfl⟩
  rw [hkb, htb, hn] at cZ cS cR cA cB cD cE ⊢
  obtain ⟨m, hm⟩ : ∃ m, L.length = m := ⟨_, rfl⟩
  rw [hm] at cA cB hlen
  have hmb : m ≤ 1048576 := by omega
  have HCS := Lib.hid cS
  have HCR := Lib.hid cR
  have HCA := Lib.hid cA
  have HCB := Lib.hid cB
  have HCD := Lib.hid cD
  have HCE := Lib.hid cE
  have HCZ := Lib.hid cZ
  have HMem := Lib.hid hmem
  have HM := Lib.hid hm
  clear hT hG hv hw hr hsm cS cR cA cB cD cE cZ hL hsq hD hZ hkb htb hn hm hlen hmem
  go_enter Tryd.func3, Tryd.ntmps3
  go_upto_region 1 with fail
  obtain ⟨w1, hw1, hq1, hb1, hz1⟩ := new_block w (.cells #[.string kb, .string tb, .int .i64 f, .int .i64 e, .slice a n c] 24)
  rw [hw1]
  have cZ1 := HCZ.out w1 hb1
  obtain ⟨⟨q0, q1, q2, q3, q4⟩, qf⟩ := cells_five hq1
  have HQ1 := Lib.hid hq1
  have HB1 := Lib.hid hb1
  have HZ1 := Lib.hid hz1
  clear hw1 hq1 hb1 hz1
  go_wp2_with fail
  refine cZ1.mono ?_
  rintro e' w2 ⟨rfl, hb2⟩
  have HB2 := Lib.hid (HB1.out.trans (hb2.mono HB1.out.size))
  have hq2 := (hb2.block _ HZ1.out).trans HQ1.out
  obtain ⟨⟨q0, q1, q2, q3, q4⟩, qf⟩ := cells_five hq2
  have HQ2 := Lib.hid hq2
  have HZ2 := Lib.hid (Nat.lt_of_lt_of_le HZ1.out hb2.size)
  clear cZ1 hb2 hq2
  by_cases h400 : 400 < Z
  · have cAl := alive_any w2 (HT.out.later HB2.out) (HG.out.later HB2.out)
    go_wp2_with fail
    refine cAl.mono ?_
    rintro e' w3 ⟨rfl, hb3⟩
    have HB3 := Lib.hid (HB2.out.trans (hb3.mono HB2.out.size))
    clear cAl hb3
    go_wp2_with fail
    go_ret
    exact ⟨rfl, HB3.out⟩
  have cS2 := HCS.out w2 HB2.out
  go_wp2_with fail
  refine cS2.mono ?_
  rintro e' w3 ⟨lv1, rfl, hk1, hb3⟩
  obtain ⟨sk, st, sf, se, sks⟩ := sq
  obtain ⟨sa, sc, rfl⟩ := kids_form hk1
  have HB3 := Lib.hid (HB2.out.trans (hb3.mono HB2.out.size))
  have HQ3 := Lib.hid ((hb3.block _ HZ2.out).trans HQ2.out)
  have HZ3 := Lib.hid (Nat.lt_of_lt_of_le HZ2.out hb3.size)
  have HK1 := Lib.hid hk1
  have HCR2 : Hid (∀ X, Below w.heap.size w X → Calls Tryd.prog 10 #[.agg #[.string kb, .string tb, .int .i64 f, .int .i64 e, .slice a n c], .int .i64 b] X fun e X' => ∃ a' c', e = .returned (.agg #[.string (bstr sk), .string (bstr st), .int .i64 sf, .int .i64 se, .slice a' sks.length c']) ∧ KidsIn X' (fun g => X.heap.size ≤ g) (.mk sk st sf se sks) (.slice a' sks.length c') ∧ Below X.heap.size X X') := Lib.hid (fun X hX => (HCR.out X hX).mono (by
    rintro e X' ⟨lv, rfl, h1, h2⟩
    obtain ⟨a', c', rfl⟩ := kids_form h1
    exact ⟨a', c', rfl, h1, h2⟩))
  have cSm : Hid (∀ X a1 c1 a2 c2 R1 R2, KidsIn X R1 (.mk sk st sf se sks) (.slice a1 sks.length c1) → KidsIn X R2 (.mk sk st sf se sks) (.slice a2 sks.length c2) → Calls Tryd.prog 11 #[.agg #[.string (bstr sk), .string (bstr st), .int .i64 sf, .int .i64 se, .slice a1 sks.length c1], .agg #[.string (bstr sk), .string (bstr st), .int .i64 sf, .int .i64 se, .slice a2 sks.length c2]] X fun e X' => e = .returned (.bool true) ∧ Below X.heap.size X X') := Lib.hid (fun X a1 c1 a2 c2 R1 R2 h1 h2 => by
    have h := same_any (.mk sk st sf se sks) (.mk sk st sf se sks) _ _ _ _ X h1 h2 hswt hswt
    rw [same_self] at h
    exact h)
  simp only [arg, five]
  obtain ⟨sn, hsn⟩ : ∃ n, sks.length = n := ⟨_, rfl⟩
  obtain ⟨skb, hskb⟩ : ∃ x, bstr sk = x := ⟨_, rfl⟩
  obtain ⟨stb, hstb⟩ : ∃ x, bstr st = x := ⟨_, rfl⟩
  rw [hsn, hskb, hstb] at cSm HCR2
  rw [hsn] at HK1
  rw [hsn, hskb, hstb]
  clear cS2 hb3 hk1 hswt hsn hskb hstb HCS HCR HCZ q0 q1 q2 q3 q4 qf
  go_upto_region 4 with fail
  obtain ⟨w4, hw4, hq4, hb4, hz4⟩ := new_block w3 (.cells #[.string skb, .string stb, .int .i64 sf, .int .i64 se, .slice sa sn sc] 24)
  rw [hw4]
  have HB4 := Lib.hid (HB3.out.trans (hb4.mono HB3.out.size))
  have hp4 := (hb4.block _ HZ3.out).trans HQ3.out
  obtain ⟨⟨q0, q1, q2, q3, q4⟩, qf⟩ := cells_five hp4
  have HP4 := Lib.hid hp4
  have HX4 := Lib.hid hq4
  have HK4 := Lib.hid (kids_below HK1.out hb4)
  have HZ4 := Lib.hid hz4
  have HZP4 := Lib.hid (Nat.lt_of_lt_of_le HZ3.out hb4.size)
  have cR4 := HCR2.out w4 HB4.out
  clear hw4 hq4 hb4 hz4 hp4 HCR2
  go_wp2_with fail
  refine cR4.mono ?_
  rintro e' w5 ⟨ra, rc, rfl, hk5, hb5⟩
  have HB5 := Lib.hid (HB4.out.trans (hb5.mono HB4.out.size))
  have HP5 := Lib.hid ((hb5.block _ HZP4.out).trans HP4.out)
  have HX5 := Lib.hid ((hb5.block _ HZ4.out).trans HX4.out)
  have HK5 := Lib.hid (kids_below HK4.out hb5)
  have HL5 := Lib.hid hk5
  have HZ5 := Lib.hid (Nat.lt_of_lt_of_le HZ4.out hb5.size)
  have HZP5 := Lib.hid (Nat.lt_of_lt_of_le HZP4.out hb5.size)
  clear cR4 hb5 hk5 q0 q1 q2 q3 q4 qf
  go_upto_region 5 with fail
  obtain ⟨w6, hw6, hq6, hb6, hz6⟩ := new_block w5 (.cells #[.string skb, .string stb, .int .i64 sf, .int .i64 se, .slice ra sn rc] 24)
  rw [hw6]
  have HB6 := Lib.hid (HB5.out.trans (hb6.mono HB5.out.size))
  have hp6 := (hb6.block _ HZP5.out).trans HP5.out
  have hx6 := (hb6.block _ HZ5.out).trans HX5.out
  obtain ⟨⟨q0, q1, q2, q3, q4⟩, qf⟩ := cells_five hx6
  obtain ⟨⟨l0, l1, l2, l3, l4⟩, lf⟩ := cells_five hq6
  have HP6 := Lib.hid hp6
  have HZP6 := Lib.hid (Nat.lt_of_lt_of_le HZP5.out hb6.size)
  have cM6 := cSm.out w6 sa sc ra rc _ _ (kids_below HK5.out hb6) (kids_below HL5.out hb6)
  clear hw6 hq6 hb6 hz6 hp6 hx6 cSm
  go_wp2_with fail
  refine cM6.mono ?_
  rintro e' w7 ⟨rfl, hb7⟩
  have HB7 := Lib.hid (HB6.out.trans (hb7.mono HB6.out.size))
  have hp7 := (hb7.block _ HZP6.out).trans HP6.out
  have HP7 := Lib.hid hp7
  have HZ7 := Lib.hid (Nat.lt_of_lt_of_le HZP6.out hb7.size)
  obtain ⟨⟨q0, q1, q2, q3, q4⟩, qf⟩ := cells_five hp7
  have cA7 := HCA.out w7 HB7.out
  clear cM6 hb7 hp7 l0 l1 l2 l3 l4 lf
  go_wp2_with fail
  refine cA7.mono ?_
  rintro e' w8 ⟨v1, ys1, rfl, hown1, hps1, hb8⟩
  have HB8 := Lib.hid (HB7.out.trans (hb8.mono HB7.out.size))
  have hp8 := (hb8.block _ HZ7.out).trans HP7.out
  have HP8 := Lib.hid hp8
  have HZ8 := Lib.hid (Nat.lt_of_lt_of_le HZ7.out hb8.size)
  obtain ⟨⟨q0, q1, q2, q3, q4⟩, qf⟩ := cells_five hp8
  have hrow1 := row_in hown1 HM.out hps1
  obtain ⟨a1, c1, rfl, hr1⟩ := hrow1
  have hmm := HM.out
  rw [hmm]
  have HR1 := Lib.hid hr1
  have cB8 := HCB.out w8 HB8.out
  clear cA7 hb8 hp8 hown1 hps1 hr1 hmm
  go_wp2_with fail
  refine cB8.mono ?_
  rintro e' w9 ⟨v2, ys2, rfl, hown2, hps2, hb9⟩
  have HB9 := Lib.hid (HB8.out.trans (hb9.mono HB8.out.size))
  have hp9 := (hb9.block _ HZ8.out).trans HP8.out
  have HZ9 := Lib.hid (Nat.lt_of_lt_of_le HZ8.out hb9.size)
  have hrow2 := row_in hown2 HM.out hps2
  obtain ⟨a2, c2, rfl, hr2⟩ := hrow2
  have hmm := HM.out
  rw [hmm]
  have HR2 := Lib.hid hr2
  have HR19 : Hid (L = [] ∨ ∃ g off xs, a1 = some ⟨g, off, none⟩ ∧ CellsAt w9 g off xs ∧ PartsIn w9 (fun b => w7.heap.size ≤ b ∧ (Value.slice a1 L.length c1).ownBlock ≠ some b) L xs) := Lib.hid (HR1.out.imp id (fun ⟨g, off, xs, h1, h2, h3⟩ => ⟨g, off, xs, h1, fun j u hj => (hb9.cell (World.block_lt_of_cell? w8 _ (h2 j u hj))).trans (h2 j u hj), parts_below h3 hb9⟩))
  clear cB8 hb9 hown2 hps2 hr2 hmm HR1 q0 q1 q2 q3 q4 qf
  have HP9 := Lib.hid hp9
  clear hp9
  have HBw := HB7
  have w7' : True := trivial
  clear w7' HBw HP8 HP7 HP6 HB6 HB5 HB4 HB3 HB2 HB1 HB8 HZ8 HZ7 HZP6 HZP5 HZP4 HZ5 HZ4 HZ3 HZ2 HZ1 HK1 HK4 HK5 HL5 HP5 HP4 HX4 HX5 HQ3 HQ2 HQ1 HCA HCB HB7
  obtain ⟨R1, hR1⟩ : ∃ R1 : Nat → Prop, (fun b => w7.heap.size ≤ b ∧ (Value.slice a1 L.length c1).ownBlock ≠ some b) = R1 := ⟨_, rfl⟩
  obtain ⟨R2, hR2⟩ : ∃ R2 : Nat → Prop, (fun b => R b ∧ b < w8.heap.size) = R2 := ⟨_, rfl⟩
  rw [hR1] at HR19
  rw [hR2] at HR2
  clear hR1 hR2
  go_wp2_with fail
  go_loopw [10] (fun iv wr => ∃ i : Nat, iv = .int .i64 i ∧ i ≤ m ∧ Hid (Below w9.heap.size w9 wr)) (fun iv _ => m - (Go.RowKit.intOf iv).toNat)
  case atStart => exact ⟨0, rfl, Nat.zero_le _, Lib.hid (Below.refl _ _)⟩
  case round =>
    obtain ⟨i, rfl, hi, HB⟩ := hrel
    by_cases hlt : i < m
    · have hll : i < L.length := by rw [HM.out]; exact hlt
      obtain ⟨g1, o1, xs1, rfl, hc1, hp1⟩ := HR19.out.resolve_left (fun h => by rw [h] at hll; exact Nat.not_lt_zero _ hll)
      obtain ⟨g2, o2, xs2, rfl, hc2, hp2⟩ := HR2.out.resolve_left (fun h => by rw [h] at hll; exact Nat.not_lt_zero _ hll)
      obtain ⟨kk, tt, ff, ee, kks, aa, cc, hK⟩ := kid_at hp1 hc1 i hll
      obtain ⟨kk', tt', ff', ee', kks', aa', cc', hK'⟩ := kid_at hp2 hc2 i hll
      have hwt := HMem.out _ (List.getElem_mem hll)
      have hK := hK.below HB.out
      have hK' := hK'.below HB.out
      have cP := fun X (hX : Below wr.heap.size wr X) => same_any L[i] L[i] (.slice aa kks.length cc) (.slice aa' kks'.length cc') R1 R2 X (by rw [hK.eq]; exact kids_below hK.kids hX) (by rw [hK'.eq]; exact kids_below hK'.kids hX) hwt hwt
      simp only [same_self] at cP
      have ha1 : arg L[i] (.slice aa kks.length cc) = .agg #[.string (bstr kk), .string (bstr tt), .int .i64 ff, .int .i64 ee, .slice aa kks.length cc] := by rw [hK.eq]; rfl
      have ha2 : arg L[i] (.slice aa' kks'.length cc') = .agg #[.string (bstr kk'), .string (bstr tt'), .int .i64 ff', .int .i64 ee', .slice aa' kks'.length cc'] := by rw [hK'.eq]; rfl
      rw [ha1, ha2] at cP
      have j0 := hK.k0
      have j1 := hK.k1
      have j2 := hK.k2
      have j3 := hK.k3
      have j4 := hK.k4
      have m0 := hK'.k0
      have m1 := hK'.k1
      have m2 := hK'.k2
      have m3 := hK'.k3
      have m4 := hK'.k4
      obtain ⟨y0, hy0⟩ : ∃ x, bstr kk = x := ⟨_, rfl⟩
      obtain ⟨y1, hy1⟩ : ∃ x, bstr tt = x := ⟨_, rfl⟩
      obtain ⟨y2, hy2⟩ : ∃ x, bstr kk' = x := ⟨_, rfl⟩
      obtain ⟨y3, hy3⟩ : ∃ x, bstr tt' = x := ⟨_, rfl⟩
      obtain ⟨z0, hz0⟩ : ∃ x, kks.length = x := ⟨_, rfl⟩
      obtain ⟨z1, hz1'⟩ : ∃ x, kks'.length = x := ⟨_, rfl⟩
      rw [hy0, hy1, hy2, hy3, hz0, hz1'] at cP
      rw [hy0] at j0
      rw [hy1] at j1
      rw [hy2] at m0
      rw [hy3] at m1
      rw [hz0] at j4
      rw [hz1'] at m4
      have hi0 : (0 : Int) ≤ (i : Int) := by omega
      have hi1 : (i : Int) < (m : Int) := by omega
      clear hc1 hc2 hp1 hp2 hK hK' hwt ha1 ha2 hy0 hy1 hy2 hy3 hz0 hz1'
      go_upto_region 13 with fail
      have cl : ∀ {X : World} {b o : Nat} {v : Value}, Below wr.heap.size wr X → wr.cell? ⟨b, o, none⟩ = some v → X.cell? ⟨b, o, none⟩ = some v := fun hX h => (hX.cell (World.block_lt_of_cell? wr _ h)).trans h
      have hS : ∀ X, Below wr.heap.size wr X → Below wr.heap.size wr X ∧ X.cell? ⟨g1, o1 + i * 5, none⟩ = some (.string y0) ∧ X.cell? ⟨g1, o1 + i * 5 + 1, none⟩ = some (.string y1) ∧ X.cell? ⟨g1, o1 + i * 5 + 2, none⟩ = some (.int .i64 ff) ∧ X.cell? ⟨g1, o1 + i * 5 + 3, none⟩ = some (.int .i64 ee) ∧ X.cell? ⟨g1, o1 + i * 5 + 4, none⟩ = some (.slice aa z0 cc) ∧ X.cell? ⟨g2, o2 + i * 5, none⟩ = some (.string y2) ∧ X.cell? ⟨g2, o2 + i * 5 + 1, none⟩ = some (.string y3) ∧ X.cell? ⟨g2, o2 + i * 5 + 2, none⟩ = some (.int .i64 ff') ∧ X.cell? ⟨g2, o2 + i * 5 + 3, none⟩ = some (.int .i64 ee') ∧ X.cell? ⟨g2, o2 + i * 5 + 4, none⟩ = some (.slice aa' z1 cc') := fun X h => ⟨h, cl h j0, cl h j1, cl h j2, cl h j3, cl h j4, cl h m0, cl h m1, cl h m2, cl h m3, cl h m4⟩
      obtain ⟨d0, d1, d2, d3, d4, d5, d6, d7, d8, d9, d10⟩ := hS wr.drew (Below.refl _ _).drew
      have cS : ∀ X, (Below wr.heap.size wr X ∧ X.cell? ⟨g1, o1 + i * 5, none⟩ = some (.string y0) ∧ X.cell? ⟨g1, o1 + i * 5 + 1, none⟩ = some (.string y1) ∧ X.cell? ⟨g1, o1 + i * 5 + 2, none⟩ = some (.int .i64 ff) ∧ X.cell? ⟨g1, o1 + i * 5 + 3, none⟩ = some (.int .i64 ee) ∧ X.cell? ⟨g1, o1 + i * 5 + 4, none⟩ = some (.slice aa z0 cc) ∧ X.cell? ⟨g2, o2 + i * 5, none⟩ = some (.string y2) ∧ X.cell? ⟨g2, o2 + i * 5 + 1, none⟩ = some (.string y3) ∧ X.cell? ⟨g2, o2 + i * 5 + 2, none⟩ = some (.int .i64 ff') ∧ X.cell? ⟨g2, o2 + i * 5 + 3, none⟩ = some (.int .i64 ee') ∧ X.cell? ⟨g2, o2 + i * 5 + 4, none⟩ = some (.slice aa' z1 cc')) → Calls Tryd.prog 11 #[.agg #[.string y0, .string y1, .int .i64 ff, .int .i64 ee, .slice aa z0 cc], .agg #[.string y2, .string y3, .int .i64 ff', .int .i64 ee', .slice aa' z1 cc']] X fun e w' => e = .returned (.bool true) ∧ Below wr.heap.size wr w' ∧ w'.cell? ⟨g1, o1 + i * 5, none⟩ = some (.string y0) ∧ w'.cell? ⟨g1, o1 + i * 5 + 1, none⟩ = some (.string y1) ∧ w'.cell? ⟨g1, o1 + i * 5 + 2, none⟩ = some (.int .i64 ff) ∧ w'.cell? ⟨g1, o1 + i * 5 + 3, none⟩ = some (.int .i64 ee) ∧ w'.cell? ⟨g1, o1 + i * 5 + 4, none⟩ = some (.slice aa z0 cc) ∧ w'.cell? ⟨g2, o2 + i * 5, none⟩ = some (.string y2) ∧ w'.cell? ⟨g2, o2 + i * 5 + 1, none⟩ = some (.string y3) ∧ w'.cell? ⟨g2, o2 + i * 5 + 2, none⟩ = some (.int .i64 ff') ∧ w'.cell? ⟨g2, o2 + i * 5 + 3, none⟩ = some (.int .i64 ee') ∧ w'.cell? ⟨g2, o2 + i * 5 + 4, none⟩ = some (.slice aa' z1 cc') := fun X hX => (cP X hX.1).mono (fun e w' h => ⟨h.1, hS w' (hX.1.trans (h.2.mono hX.1.size))⟩)
      have hz2 := HB.out.size
      clear hS cl cP j0 j1 j2 j3 j4 m0 m1 m2 m3 m4
      go_region_held3 (fun X => Below wr.heap.size wr X ∧ X.cell? ⟨g1, o1 + i * 5, none⟩ = some (.string y0) ∧ X.cell? ⟨g1, o1 + i * 5 + 1, none⟩ = some (.string y1) ∧ X.cell? ⟨g1, o1 + i * 5 + 2, none⟩ = some (.int .i64 ff) ∧ X.cell? ⟨g1, o1 + i * 5 + 3, none⟩ = some (.int .i64 ee) ∧ X.cell? ⟨g1, o1 + i * 5 + 4, none⟩ = some (.slice aa z0 cc) ∧ X.cell? ⟨g2, o2 + i * 5, none⟩ = some (.string y2) ∧ X.cell? ⟨g2, o2 + i * 5 + 1, none⟩ = some (.string y3) ∧ X.cell? ⟨g2, o2 + i * 5 + 2, none⟩ = some (.int .i64 ff') ∧ X.cell? ⟨g2, o2 + i * 5 + 3, none⟩ = some (.int .i64 ee') ∧ X.cell? ⟨g2, o2 + i * 5 + 4, none⟩ = some (.slice aa' z1 cc')) (with_reducible (repeat (first | assumption | refine And.intro ?_ ?_))) (first | (with_reducible refine (cS _ ?_).mono ?_; (with_reducible (repeat (first | assumption | refine And.intro ?_ ?_))); rintro e w2 ⟨rfl, hS2⟩))
      have HB2 := Lib.hid (HB.out.trans (hS2.1.mono hz2))
      clear hS2 cS d0 d1 d2 d3 d4 d5 d6 d7 d8 d9 d10
      go_wp2_with fail
      go_roundw
      case rel => exact ⟨i + 1, by go_num, by omega, HB2⟩
      case measure => simp [Go.RowKit.intOf]; omega
    · obtain rfl : i = m := by omega
      have hbw : Below w.heap.size w wr := HB9.out.trans (HB.out.mono HB9.out.size)
      have hp := (HB.out.block _ HZ9.out).trans HP9.out
      have HPr := Lib.hid hp
      obtain ⟨⟨k0, k1, k2, k3, k4⟩, kf⟩ := cells_five hp
      have hpl : w.heap.size < wr.heap.size := (Array.getElem?_eq_some_iff.1 hp).1
      go_upto_region 16 with fail
      have hS : ∀ X, Below wr.heap.size wr X → Below wr.heap.size wr X ∧ X.cell? ⟨w.heap.size, 0, none⟩ = some (.string kb) ∧ X.cell? ⟨w.heap.size, 1, none⟩ = some (.string tb) ∧ X.cell? ⟨w.heap.size, 2, none⟩ = some (.int .i64 f) ∧ X.cell? ⟨w.heap.size, 3, none⟩ = some (.int .i64 e) ∧ X.cell? ⟨w.heap.size, 4, none⟩ = some (.slice a n c) := fun X h => by
        have hq := (h.block _ hpl).trans HPr.out
        obtain ⟨⟨k0, k1, k2, k3, k4⟩, _⟩ := cells_five hq
        exact ⟨h, k0, k1, k2, k3, k4⟩
      obtain ⟨d0, d1, d2, d3, d4, d5⟩ := hS wr.drew (Below.refl _ _).drew
      have cAl : ∀ X, (Below wr.heap.size wr X ∧ X.cell? ⟨w.heap.size, 0, none⟩ = some (.string kb) ∧ X.cell? ⟨w.heap.size, 1, none⟩ = some (.string tb) ∧ X.cell? ⟨w.heap.size, 2, none⟩ = some (.int .i64 f) ∧ X.cell? ⟨w.heap.size, 3, none⟩ = some (.int .i64 e) ∧ X.cell? ⟨w.heap.size, 4, none⟩ = some (.slice a n c)) → Calls Tryd.prog 8 #[] X fun en w' => en = .returned (.bool true) ∧ Below wr.heap.size wr w' ∧ w'.cell? ⟨w.heap.size, 0, none⟩ = some (.string kb) ∧ w'.cell? ⟨w.heap.size, 1, none⟩ = some (.string tb) ∧ w'.cell? ⟨w.heap.size, 2, none⟩ = some (.int .i64 f) ∧ w'.cell? ⟨w.heap.size, 3, none⟩ = some (.int .i64 e) ∧ w'.cell? ⟨w.heap.size, 4, none⟩ = some (.slice a n c) := fun X hX => (alive_any X (HT.out.later (hbw.trans (hX.1.mono hbw.size))) (HG.out.later (hbw.trans (hX.1.mono hbw.size)))).mono (fun en w' h => ⟨h.1, hS w' (hX.1.trans (h.2.mono hX.1.size))⟩)
      have cD1 : ∀ X, (Below wr.heap.size wr X ∧ X.cell? ⟨w.heap.size, 0, none⟩ = some (.string kb) ∧ X.cell? ⟨w.heap.size, 1, none⟩ = some (.string tb) ∧ X.cell? ⟨w.heap.size, 2, none⟩ = some (.int .i64 f) ∧ X.cell? ⟨w.heap.size, 3, none⟩ = some (.int .i64 e) ∧ X.cell? ⟨w.heap.size, 4, none⟩ = some (.slice a n c)) → Calls Tryd.prog 14 #[.agg #[.string kb, .string tb, .int .i64 f, .int .i64 e, .slice a n c]] X fun en w' => en = .returned (.int .i64 D) ∧ Below wr.heap.size wr w' ∧ w'.cell? ⟨w.heap.size, 0, none⟩ = some (.string kb) ∧ w'.cell? ⟨w.heap.size, 1, none⟩ = some (.string tb) ∧ w'.cell? ⟨w.heap.size, 2, none⟩ = some (.int .i64 f) ∧ w'.cell? ⟨w.heap.size, 3, none⟩ = some (.int .i64 e) ∧ w'.cell? ⟨w.heap.size, 4, none⟩ = some (.slice a n c) := fun X hX => (HCD.out X (hbw.trans (hX.1.mono hbw.size))).mono (fun en w' h => ⟨h.1, hS w' (hX.1.trans (h.2.mono hX.1.size))⟩)
      have cD2 : ∀ X, (Below wr.heap.size wr X ∧ X.cell? ⟨w.heap.size, 0, none⟩ = some (.string kb) ∧ X.cell? ⟨w.heap.size, 1, none⟩ = some (.string tb) ∧ X.cell? ⟨w.heap.size, 2, none⟩ = some (.int .i64 f) ∧ X.cell? ⟨w.heap.size, 3, none⟩ = some (.int .i64 e) ∧ X.cell? ⟨w.heap.size, 4, none⟩ = some (.slice a n c)) → Calls Tryd.prog 15 #[.agg #[.string kb, .string tb, .int .i64 f, .int .i64 e, .slice a n c]] X fun en w' => en = .returned (.int .i64 D) ∧ Below wr.heap.size wr w' ∧ w'.cell? ⟨w.heap.size, 0, none⟩ = some (.string kb) ∧ w'.cell? ⟨w.heap.size, 1, none⟩ = some (.string tb) ∧ w'.cell? ⟨w.heap.size, 2, none⟩ = some (.int .i64 f) ∧ w'.cell? ⟨w.heap.size, 3, none⟩ = some (.int .i64 e) ∧ w'.cell? ⟨w.heap.size, 4, none⟩ = some (.slice a n c) := fun X hX => (HCE.out X (hbw.trans (hX.1.mono hbw.size))).mono (fun en w' h => ⟨h.1, hS w' (hX.1.trans (h.2.mono hX.1.size))⟩)
      have HBW := Lib.hid hbw
      clear hS hbw hp k0 k1 k2 k3 k4 kf hpl
      go_region_held3 (fun X => Below wr.heap.size wr X ∧ X.cell? ⟨w.heap.size, 0, none⟩ = some (.string kb) ∧ X.cell? ⟨w.heap.size, 1, none⟩ = some (.string tb) ∧ X.cell? ⟨w.heap.size, 2, none⟩ = some (.int .i64 f) ∧ X.cell? ⟨w.heap.size, 3, none⟩ = some (.int .i64 e) ∧ X.cell? ⟨w.heap.size, 4, none⟩ = some (.slice a n c)) (with_reducible (repeat (first | assumption | refine And.intro ?_ ?_))) (first | (with_reducible refine (cAl _ ?_).mono ?_; (with_reducible (repeat (first | assumption | refine And.intro ?_ ?_))); rintro e' w2 ⟨rfl, hS2⟩; obtain ⟨d0, d1, d2, d3, d4, d5⟩ := hS2) | (with_reducible refine (cD1 _ ?_).mono ?_; (with_reducible (repeat (first | assumption | refine And.intro ?_ ?_))); rintro e' w2 ⟨rfl, hS2⟩; obtain ⟨d0, d1, d2, d3, d4, d5⟩ := hS2) | (with_reducible refine (cD2 _ ?_).mono ?_; (with_reducible (repeat (first | assumption | refine And.intro ?_ ?_))); rintro e' w2 ⟨rfl, hS2⟩; obtain ⟨d0, d1, d2, d3, d4, d5⟩ := hS2))
      have HB2 := Lib.hid (HBW.out.trans (d0.mono HBW.out.size))
      clear d0 d1 d2 d3 d4 d5 cAl cD1 cD2
      go_wp2_with fail
      go_ret
      exact ⟨rfl, HB2.out⟩
end Go.Proofs.YtnjhmjkonmmomaaDoor.J
end
/- JTree: A part that comes in as an argument: how it lies, that it weighs no more than what is read, and that its places are numbers of a machine. -/
section
namespace Go.Proofs.YtnjhmjkonmmomaaDoor.J
open Go.Proofs Go.RowKit Go.ChangeShapes Go.WideShapes Go.ChangeAt
open Go.Proofs.YtnjhmjkonmmomaaDoor.U Go.Proofs.YtnjhmjkonmmomaaDoor.S Go.Proofs.YtnjhmjkonmmomaaDoor.T

theorem bulkAll_snoc {H : Type} : ∀ (a : List (DataW H)) (d : DataW H), Rows.uptoBulkAll (a ++ [d]) = Rows.uptoBulkAll a + Rows.uptoBulk d
  | [], d => by simp [Rows.uptoBulkAll]
  | x :: r, d => by simp only [List.cons_append, Rows.uptoBulkAll, bulkAll_snoc r d]; omega
theorem wtL_snoc (l : List Pt) (p : Pt) : wtL (l ++ [p]) = wtL l + wtP p := by rw [wtL_app, wtL, wtL]; omega
theorem rngL_snoc : ∀ (l : List Pt) (p : Pt), RngL l → Rng p → RngL (l ++ [p])
  | [], p, _, h => by show RngL [p]; unfold RngL; exact ⟨h, by unfold RngL; trivial⟩
  | x :: r, p, hl, h => by
    unfold RngL at hl
    show RngL (x :: (r ++ [p]))
    unfold RngL
    exact ⟨hl.1, rngL_snoc r p hl.2 h⟩
theorem range_ofJ {a : Int} (h : (Lit.int .i64 a).wf = true) : -9223372036854775808 ≤ a ∧ a < 9223372036854775808 := by
  have h0 := h
  have h1 : IntKind.i64.min = -9223372036854775808 := by decide
  have h2 : IntKind.i64.max = 9223372036854775807 := by decide
  simp [Lit.wf, h1, h2] at h0
  omega
theorem list_of {H : Type} {W : World} {R : Nat → Prop} {g off : Nat} (E : List (DataW H × List MemPlace)) : ∀ m, m ≤ E.length → (∀ i (h : i < m) (hE : i < E.length), ∃ p lv, (∀ j u, (five p lv)[j]? = some u → W.cell? ⟨g, off + i * 5 + j, none⟩ = some u) ∧ KidsIn W R p lv ∧ wtP p ≤ Rows.uptoBulk E[i].1 ∧ Rng p) →
    ∃ l xs, l.length = m ∧ CellsAt W g off xs ∧ PartsIn W R l xs ∧ wtL l ≤ Rows.uptoBulkAll ((E.take m).map (·.1)) ∧ RngL l
  | 0, _, _ => ⟨[], [], rfl, fun j u hj => by simp at hj, rfl, by simp [wtL], by unfold RngL; trivial⟩
  | m + 1, hm, h => by
    obtain ⟨l, xs, h1, h2, h3, h4, h8⟩ := list_of E m (by omega) (fun i hi hE => h i (by omega) hE)
    obtain ⟨p, lv, h5, h6, h7, h9⟩ := h m (by omega) (by omega)
    have hlen := PartsIn.length h3
    refine ⟨l ++ [p], xs ++ five p lv, by simp [h1], ?_, PartsIn.snoc h3 h6, ?_, rngL_snoc l p h8 h9⟩
    · intro j u hj
      by_cases hj2 : j < xs.length
      · rw [List.getElem?_append_left hj2] at hj
        exact h2 j u hj
      · rw [List.getElem?_append_right (by omega)] at hj
        have := h5 _ u hj
        rw [show off + m * 5 + (j - xs.length) = off + j by omega] at this
        exact this
    · rw [wtL_snoc, List.take_succ_eq_append_getElem (by omega), List.map_append, List.map_singleton, bulkAll_snoc]
      omega
theorem cells_part : Tryd.prog.cellsOf 24 = 5 := by kernel_rfl
theorem cells_strT : Tryd.prog.cellsOf 9 = 1 := by kernel_rfl
theorem cells_intT : Tryd.prog.cellsOf 3 = 1 := by kernel_rfl
theorem cells_lstT : Tryd.prog.cellsOf 22 = 1 := by kernel_rfl
theorem five_listT {α : Type} {l : List α} (h : l.length = 5) : ∃ a b c d e, l = [a, b, c, d, e] := by
  match l, h with
  | [a, b, c, d, e], _ => exact ⟨a, b, c, d, e, rfl⟩
theorem mk_backT (s : ByteArray) : bstr s.data.toList = s := by
  cases s
  simp [bstr]
theorem tree_of {H : Type} {enc : TypeId × Value → H} {W : World} {held : Bool} : ∀ (F fuel : Nat) (cs : List Value) (x : DataW H × List MemPlace), fuel ≤ F → DataW.trod enc Tryd.prog W 0 (fun _ => true) held fuel 24 cs = some x →
    ∃ p lv, cs = five p lv ∧ KidsIn W (fun _ => True) p lv ∧ wtP p ≤ Rows.uptoBulk x.1 ∧ Rng p := by
  intro F
  induction F with
  | zero =>
    intro fuel cs x hf h
    obtain ⟨xs, n, rfl, _⟩ := DataW.trod_struct Tryd.underlying24 h
    omega
  | succ F ih =>
    intro fuel cs x hf h
    obtain ⟨xs, n, rfl, rfl, hcl, hxl, hfd⟩ := DataW.trod_struct Tryd.underlying24 h
    rw [cells_part] at hcl
    obtain ⟨c0, c1, c2, c3, c4, rfl⟩ := five_listT hcl
    obtain ⟨y0, y1, y2, y3, y4, rfl⟩ := five_listT (hxl.trans rfl)
    have f0 := hfd 0 _ rfl
    have g0 : DataW.trod enc Tryd.prog W 0 (fun _ => true) held n 9 (([c0, c1, c2, c3, c4].drop 0).take (Tryd.prog.cellsOf 9)) = some y0 := f0
    rw [cells_strT] at g0
    replace g0 : DataW.trod enc Tryd.prog W 0 (fun _ => true) held n 9 [c0] = some y0 := g0
    have f1 := hfd 1 _ rfl
    have g1 : DataW.trod enc Tryd.prog W 0 (fun _ => true) held n 9 (([c0, c1, c2, c3, c4].drop 1).take (Tryd.prog.cellsOf 9)) = some y1 := f1
    rw [cells_strT] at g1
    replace g1 : DataW.trod enc Tryd.prog W 0 (fun _ => true) held n 9 [c1] = some y1 := g1
    have f2 := hfd 2 _ rfl
    have g2 : DataW.trod enc Tryd.prog W 0 (fun _ => true) held n 3 (([c0, c1, c2, c3, c4].drop 2).take (Tryd.prog.cellsOf 3)) = some y2 := f2
    rw [cells_intT] at g2
    replace g2 : DataW.trod enc Tryd.prog W 0 (fun _ => true) held n 3 [c2] = some y2 := g2
    have f3 := hfd 3 _ rfl
    have g3 : DataW.trod enc Tryd.prog W 0 (fun _ => true) held n 3 (([c0, c1, c2, c3, c4].drop 3).take (Tryd.prog.cellsOf 3)) = some y3 := f3
    rw [cells_intT] at g3
    replace g3 : DataW.trod enc Tryd.prog W 0 (fun _ => true) held n 3 [c3] = some y3 := g3
    have f4 := hfd 4 _ rfl
    have g4 : DataW.trod enc Tryd.prog W 0 (fun _ => true) held n 22 (([c0, c1, c2, c3, c4].drop 4).take (Tryd.prog.cellsOf 22)) = some y4 := f4
    rw [cells_lstT] at g4
    replace g4 : DataW.trod enc Tryd.prog W 0 (fun _ => true) held n 22 [c4] = some y4 := g4
    obtain ⟨t0, h0, e0, _⟩ := DataW.trod_string Tryd.underlying9 g0
    obtain ⟨t1, h1, e1, _⟩ := DataW.trod_string Tryd.underlying9 g1
    obtain ⟨z2, h2, e2, w2⟩ := DataW.trod_int Tryd.underlying3 g2
    obtain ⟨z3, h3, e3, w3⟩ := DataW.trod_int Tryd.underlying3 g3
    cases h0; cases h1; cases h2; cases h3
    subst e0; subst e1; subst e2; subst e3
    clear f0 f1 f2 f3 f4 hfd g0 g1 g2 g3 h hcl hxl
    have hlist : ∃ l, (∃ a cap, c4 = .slice a l.length cap ∧ l.length ≤ cap ∧ (l = [] ∨ ∃ g off xs, a = some ⟨g, off, none⟩ ∧ True ∧ CellsAt W g off xs ∧ PartsIn W (fun _ => True) l xs)) ∧ wtL l + 1 ≤ Rows.uptoBulk y4.1 ∧ RngL l := by
      rcases DataW.trod_slice Tryd.underlying22 g4 with ⟨hc, rfl⟩ | ⟨a, len, cap, elems, rest, m, hnm, hc, rfl, _, hl, hm, hlen, hel, _, _⟩
      · cases hc
        exact ⟨[], ⟨none, 0, rfl, Nat.le_refl _, .inl rfl⟩, by simp [wtL, Rows.uptoBulk], by unfold RngL; trivial⟩
      · cases hc
        by_cases h0 : len = 0
        · refine ⟨[], ⟨some a, cap, by simp [h0], Nat.zero_le _, .inl rfl⟩, by simp [wtL, Rows.uptoBulk], by unfold RngL; trivial⟩
        · obtain ⟨g, off, spot⟩ := a
          have hgo : ∀ i (h : i < len) (hE : i < elems.length), ∃ ci, W.cells? 0 ((⟨g, off, spot⟩ : Addr).add (i * 5)) 5 = some ci ∧ DataW.trod enc Tryd.prog W 0 (fun _ => true) held m 24 ci = some elems[i] := by
            intro i hi hE
            have h1 := hel i hi
            rw [cells_part, List.getElem?_eq_getElem hE] at h1
            exact Option.bind_eq_some_iff.1 h1
          have hspot : spot = none := by
            obtain ⟨ci, hc1, _⟩ := hgo 0 (by omega) (by omega)
            obtain ⟨_, hcl, hcc⟩ := World.cells?_some hc1
            have h2 := hcc 0 (by omega)
            rw [List.getElem?_eq_getElem (by omega)] at h2
            simpa [Addr.add] using World.cell?_spot h2
          subst hspot
          obtain ⟨l, xs, h1, h2, h3, h4, h5⟩ := list_of (W := W) (R := fun _ => True) (g := g) (off := off) elems len (by omega) (fun i hi hE => by
            obtain ⟨ci, hc1, hc2⟩ := hgo i hi hE
            obtain ⟨p, lv, rfl, hv, hw, hr⟩ := ih m ci elems[i] (by omega) hc2
            obtain ⟨_, hcl, hcc⟩ := World.cells?_some hc1
            refine ⟨p, lv, fun j u hj => ?_, hv, hw, hr⟩
            have hj5 : j < 5 := by
              have := (List.getElem?_eq_some_iff.1 hj).1
              rw [five_length] at this
              exact this
            have := hcc j hj5
            rw [Addr.add_lit, Addr.add_lit, hj] at this
            exact this)
          refine ⟨l, ⟨some ⟨g, off, none⟩, cap, by rw [h1], by rw [h1]; exact hl, .inr ⟨g, off, xs, rfl, trivial, h2, h3⟩⟩, ?_, h5⟩
          rw [List.take_of_length_le (by omega)] at h4
          simp only [Rows.uptoBulk]
          omega
    obtain ⟨l, hl1, hl2, hl3⟩ := hlist
    refine ⟨.mk t0.data.toList t1.data.toList z2 z3 l, c4, ?_, hl1, ?_, ?_⟩
    · simp only [five, mk_backT]
    · simp only [wtP, Rows.uptoBulk, Rows.uptoBulkAll, List.map_cons, List.map_nil] at hl2 ⊢
      omega
    · unfold Rng
      exact ⟨range_ofJ w2, range_ofJ w3, hl3⟩
end Go.Proofs.YtnjhmjkonmmomaaDoor.J
end
/- CParts: The statement 'parts' of layer 10 (bolthole/boltholelaw10.ParseParts: sizes, ends, sameness, within, all the parts, and moved parts are as the document says), its second form: for every part and every number that hold together at most 1048576 values and letters it answers true, and what it was given reads afterwards as it read before; its tied card. Conditions: that bound (what the arguments hold, each counted each time it is reached), and none beyond the card's own (the tables of unicode/utf8, and the program's own table of marks, hold what their texts lay). -/
section
namespace Go.Proofs.YtnjhmjkonmmomaaDoor.cparts
open Go.Proofs Go.Shelf Go.RowKit Go.ChangeShapes Go.WideShapes Go.ChangeAt
open Go.Proofs.YtnjhmjkonmmomaaDoor.U Go.Proofs.YtnjhmjkonmmomaaDoor.S Go.Proofs.YtnjhmjkonmmomaaDoor.T Go.Proofs.YtnjhmjkonmmomaaDoor.J

theorem own : ownKnob Tryd.prog.godebug = none := by kernel_rfl
theorem laidOut : laidOutB Tryd.prog = true := by kernel_rfl

theorem arg_of {p : Pt} {lv : Value} {cs : Array Value} (h : (Value.agg cs).cells.toList = five p lv) : Value.agg cs = arg p lv := by
  have h : cs.toList = five p lv := h
  unfold arg
  rw [← h]
theorem tabs {W : World} (hL : laidMet Tryd.prog Rows.parsePartsUptoRow.laid W) : Tabs W := tabs_of hL (.tail _ (.tail _ (.head _))) (.head _)
theorem mtab {W : World} (hL : laidMet Tryd.prog Rows.parsePartsUptoRow.laid W) : K.MTab W := mtab_of hL (.tail _ (.head _))

set_option maxRecDepth 100000 in
set_option maxHeartbeats 2000000 in
theorem contract (H : Type) (enc : TypeId × Value → H) (W : World) (base : Nat) (args : Array Value) (ds gs : List (DataW H)) (before : List MemPlace)
    (hval0 : ∀ (j : Nat) t v, Tryd.f3.params[j]? = some t → args[j]? = some v → Value.okWide Tryd.prog W .any base t v)
    (hW : DataW.Whole enc Tryd.prog Tryd.f3.params.toList Rows.parsePartsSpec.vars false W args.toList ds gs before) (hk : Rows.uptoSmall H (ds ++ gs) = true) (hL : laidMetH Tryd.prog Rows.parsePartsUptoRow.laid W) :
    Calls Tryd.prog 3 args W fun e W' => ∃ v, e = .returned v ∧ Rows.parsePartsSpec.post enc Tryd.prog Tryd.f3 false true false false W args v W' := by
  have hval : ∀ (j : Nat) t v, Tryd.f3.params[j]? = some t → args[j]? = some v → Value.okWide Tryd.prog W .any base t v := hval0
  have hW' := hW
  obtain ⟨p, q, hA0, hV, rfl, _, _⟩ := hW
  have hA : DataW.TrodAll enc Tryd.prog W 0 (fun _ => true) true Tryd.f3.params.toList args.toList ds p := hA0
  rw [Tryd.params3] at hA hval
  obtain ⟨v0, v1, d0, d1, p0, p1, rfl, rfl, rfl, h0, h1⟩ := trodAll_two hA
  obtain ⟨rfl, rfl⟩ := trodVars_none hV
  obtain ⟨cs0, rfl, _⟩ := okWide_struct Tryd.underlying24 (hval 0 24 v0 rfl rfl)
  have h0k := h0
  obtain ⟨f0, hf0⟩ := h0
  obtain ⟨p, lv, e0, hv, hb0, hr⟩ := tree_of f0 f0 _ _ (Nat.le_refl _) hf0
  obtain ⟨x1, rfl, rfl, rfl, wx1⟩ := open_int Tryd.underlying3 (hval 1 3 v1 rfl rfl) h1
  have hbulk : Rows.uptoBulkAll ([d0, .lit (.int .i64 x1)] ++ ([] : List (DataW H))) ≤ 1048576 := of_decide_eq_true hk
  simp only [List.append_nil, Rows.uptoBulkAll] at hbulk
  have hb0' : wtP p ≤ Rows.uptoBulk d0 := hb0
  have ea := arg_of e0
  clear hA0 hval0 hf0 e0
  simp only [List.append_nil] at hW'
  rw [MakeChecks.laidMetH_plain _ _ _ (by kernel_rfl)] at hL
  have hlt : ∀ x ∈ p0, x.block < W.heap.size := fun x hx => by simpa using hW'.lt x (by simp [hx])
  have hc := parts_law p lv (fun _ => True) W x1 hv (by omega) hr (tabs hL) (mtab hL)
  rw [← ea] at hc
  refine hc.mono fun e W' ⟨he, hb⟩ => ?_
  subst he
  exact ⟨_, rfl, _, _, _, [], _, [], hW', trodAll_mk1 (shut_bool Tryd.underlying4 _), trodAll_mk2 (Below.trod laidOut (by kernel_rfl) (of_decide_eq_true (by kernel_rfl)) h0k hb hlt) (shut_int Tryd.underlying3 wx1), rfl, hb.frame _, fun h => by cases h⟩

set_option maxRecDepth 100000 in
theorem reads (os : Os) {H : Type} (enc : TypeId × Value → H) : ∃ places, DataW.whole enc Tryd.prog (((World.laidAll Tryd.prog os Rows.parsePartsUptoRow.laid).forCall (fun _ _ => 0) ⟨#[], #[.agg #[.string ⟨#[]⟩, .string ⟨#[]⟩, .int .i64 0, .int .i64 0, .slice none 0 0], .int .i64 0], []⟩)).memory Tryd.f3.params.toList Rows.parsePartsSpec.vars false [.agg #[.string ⟨#[]⟩, .string ⟨#[]⟩, .int .i64 0, .int .i64 0, .slice none 0 0], .int .i64 0] 8 = some ([.agg [.lit (.string []), .lit (.string []), .lit (.int .i64 0), .lit (.int .i64 0), .nil], .lit (.int .i64 0)], [], places) :=
  ⟨[], by kernel_rfl⟩

set_option maxRecDepth 100000 in
set_option maxHeartbeats 2000000 in
theorem lifted (os : Os) (started : os.Started) (H : Type) (enc : TypeId × Value → H) (F : Stop.Interp) :
    ReturnsInHanded {} Tryd.checked os 3 .any ((Rows.OpenSpec.upto Rows.parsePartsSpec).preRow enc Tryd.prog Tryd.f3 Rows.parsePartsUptoRow.domain false Rows.parsePartsUptoRow.laid) (((Rows.OpenSpec.upto Rows.parsePartsSpec).at F).post enc Tryd.prog Tryd.f3 false true false false) := by
  obtain ⟨places, hx⟩ := reads os enc
  have hok : Input.okWideB Tryd.checked.prog ((World.laidAll Tryd.prog os Rows.parsePartsUptoRow.laid).forCall (fun _ _ => 0) ⟨#[], #[.agg #[.string ⟨#[]⟩, .string ⟨#[]⟩, .int .i64 0, .int .i64 0, .slice none 0 0], .int .i64 0], []⟩) 3 ⟨#[], #[.agg #[.string ⟨#[]⟩, .string ⟨#[]⟩, .int .i64 0, .int .i64 0, .slice none 0 0], .int .i64 0], []⟩ = true := by kernel_rfl
  refine returnsInHanded_of_row (C := Tryd.checked) (s := Rows.OpenSpec.upto Rows.parsePartsSpec) own started (by kernel_rfl) Tryd.func3
    ⟨World.laidAll Tryd.prog os Rows.parsePartsUptoRow.laid, fun _ _ => 0, ⟨#[], #[.agg #[.string ⟨#[]⟩, .string ⟨#[]⟩, .int .i64 0, .int .i64 0, .slice none 0 0], .int .i64 0], []⟩, World.laidAll_os _ _ _,
      World.shaped_of_ZipB (by kernel_rfl) (by kernel_rfl), (Input.okWide_of_okWideB (base := 0) hok).1, (Input.okWide_of_okWideB hok).2,
      OpenSpec.preRow_of_cond 8 hx (by kernel_rfl) (fun k hk => by cases hk; kernel_rfl) (by kernel_rfl) (by rw [MakeChecks.laidMetH_plain _ _ _ (by kernel_rfl)]; exact laidMet_laidAll _ (by kernel_rfl) (by kernel_rfl)), by
        simp only [Assume.holds]
        exact ⟨by simp, by simp, fun _ => Modest.zero, by simp, by simp⟩⟩ ?_
  intro W base args ds gs before hval hW _ hcond _ hL _ _
  exact contract H enc W base args ds gs before hval hW (hcond _ rfl) hL

theorem holds : Rows.ParsePartsUptoSaid :=
  OpenClaim.holds_of_cond 3 Tryd.f3 rfl rfl rfl rfl rfl rfl rfl ⟨rfl, rfl, rfl, rfl, rfl⟩ rfl rfl rfl rfl rfl (by kernel_rfl) Tryd.func3 (by kernel_rfl)
    (of_decide_eq_true (by kernel_rfl)) (by unfold Func.isWrapper; first | (rw [if_pos (by decide +kernel)]; kernel_rfl) | (rw [if_neg (by decide +kernel)]; exact ⟨rfl, rfl⟩))
    (fun os started H enc _ F => by rw [OpenClaim.pre_eq_preRow]; exact lifted os started H enc F)
theorem plain (f : FuncId) (fn : Func) (hf : Tryd.pinned.checked.prog.funcNamed "bolthole/boltholelaw10.ParseParts" = some f) (hfn : Tryd.pinned.checked.prog.funcs[f]? = some fn) :
    true = Tryd.pinned.checked.prog.looks [] ∧ ∀ (j : Nat) t, fn.params[j]? = some t → Tryd.pinned.checked.prog.wantsStandIn t = false := by
  obtain rfl : f = 3 := Option.some.inj ((show Tryd.prog.funcNamed "bolthole/boltholelaw10.ParseParts" = some 3 by kernel_rfl).symm.trans hf) |>.symm
  obtain rfl : fn = Tryd.f3 := (Option.some.inj (Tryd.func3.symm.trans hfn)).symm
  refine ⟨by kernel_rfl, fun j t ht => ?_⟩
  rw [Tryd.params3] at ht
  have hm : t ∈ [24, 3] := by simpa using Array.mem_of_getElem? ht
  have hall : ([24, 3].all fun u => !Tryd.prog.wantsStandIn u) = true := by kernel_rfl
  exact (show Tryd.prog.wantsStandIn t = false by simpa using List.all_eq_true.1 hall t hm)
theorem card_holds : Rows.ParsePartsUptoCardSaid :=
  Claim7.holds_tied_plain_at .later [] _ _ _ _ holds (fun _ h => by cases h) (by kernel_rfl) (fun _ h => by cases h) parsePartsUpto_row_tie rfl ⟨rfl, rfl⟩ (by kernel_rfl) rfl plain (by kernel_rfl)
end Go.Proofs.YtnjhmjkonmmomaaDoor.cparts
end
