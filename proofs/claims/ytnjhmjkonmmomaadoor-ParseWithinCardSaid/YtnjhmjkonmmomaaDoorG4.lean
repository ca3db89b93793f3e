/- The texts KBegin, KMake, KGram1, KGram2, joined. -/
import Derived.Test.YtnjhmjkonmmomaaDoorG3
/- KBegin: The program's reader: a part is begun; what is read between, as values. -/
section
namespace Go.Proofs.YtnjhmjkonmmomaaDoor.K
open Go.RowKit
open Go.Lib hiding intOf
open Go.Proofs.YtnjhmjkonmmomaaDoor.U Go.Proofs.YtnjhmjkonmmomaaDoor.S Go.Proofs.YtnjhmjkonmmomaaDoor.T

theorem infoB : (Tryd.prog.info? 55).map (fun i => (i.zero, i.size, i.bytes)) = some (some (.agg #[.string ⟨#[]⟩, .string ⟨#[]⟩, .int .i64 0, .int .i64 0, .slice none 0 0, .int .i64 0]), 6, 80) := by kernel_rfl
section
variable {d : Nat} {L : List TokP} {size : Nat} {lv : Value} {s : St} {O : Nat → Prop}
theorem opens_lt {W : World} {k : Nat} : ∀ {l : List Open} {xs : List Value} {bs : List (Option Nat)}, OpensIn O W l xs bs → some k ∈ bs → k < W.heap.size
  | [], _, _, ⟨_, h⟩, hk => by rw [h] at hk; cases hk
  | o :: r, _, _, ⟨kv, ks, us, bs', _, h2, h3, _, h5⟩, hk => by
    rw [h2] at hk
    rcases List.mem_cons.1 hk with hk | hk
    · exact (h3.lt k hk.symm).2
    · exact opens_lt h5 hk
theorem six_one (o : Open) (kv : Value) (h : ∃ a n c, kv = .slice a n c) : ∀ u ∈ six o kv, u.oneCell' = true := by
  obtain ⟨a, n, c, rfl⟩ := h
  intro u hu
  simp only [six, List.mem_cons, List.not_mem_nil, or_false] at hu
  rcases hu with rfl | rfl | rfl | rfl | rfl | rfl <;> rfl
/-- One part more is begun. -/
theorem push_open {W Wd w5 : World} {tv ov kv : Value} {bs : List (Option Nat)} {us xs ks : List Value} {o : Open} {g5 c5 m : Nat} (hM : MemX d L size lv s O tv ov bs us xs W) (hm : s.opn.length = m) (hd : Below W.heap.size W Wd)
    (hown : w5.ownsRow 0 55 6 (.slice (some ⟨g5, 0, none⟩) (m + 1) c5) (m + 1) (xs ++ six o kv)) (hgrow : Wd.grownBy w5 ov.ownBlock) (hat : ov.ownBlock = some g5 ∨ g5 = Wd.heap.size)
    (hkv : Wd.ownsRow 0 24 5 kv o.kids.length ks) (hks : PartsIn W (Fr O W) o.kids ks) (hkn : ∀ k, kv.ownBlock = some k → W.heap.size ≤ k) :
    w5.cell? ⟨d, 3, none⟩ = some ov ∧ w5.frozen? ⟨d, 3, none⟩ = false ∧ ∃ O', Mem d L size lv { s with opn := o :: s.opn } O' (w5.setCell ⟨d, 3, none⟩ (.slice (some ⟨g5, 0, none⟩) (m + 1) c5)) ∧ Stay O O' W (w5.setCell ⟨d, 3, none⟩ (.slice (some ⟨g5, 0, none⟩) (m + 1) c5)) := by
  have hdl : d < W.heap.size := (Array.getElem?_eq_some_iff.1 hM.blk).1
  have hod : ov.ownBlock ≠ some d := fun e => by have h1 := owns_ty hM.opnR e; have h2 : Ty W d _ := ⟨_, _, hM.blk⟩; exact absurd (h1.one h2) (by decide)
  have h5d : ∀ k, k < Wd.heap.size → ov.ownBlock ≠ some k → w5.heap[k]? = Wd.heap[k]? := fun k hk hne => hgrow.block k hk (fun e => hne e.symm)
  have h5 : ∀ k, k < W.heap.size → ov.ownBlock ≠ some k → w5.heap[k]? = W.heap[k]? := fun k hk hne => (h5d k (Nat.lt_of_lt_of_le hk hd.size) hne).trans (hd.block k hk)
  have hb5 := (h5 d hdl hod).trans hM.blk
  have hat' : ov.ownBlock = some g5 ∨ W.heap.size ≤ g5 := hat.imp id (fun h => by rw [h]; exact hd.size)
  have hset : ∀ k, k ≠ d → (w5.setCell ⟨d, 3, none⟩ (.slice (some ⟨g5, 0, none⟩) (m + 1) c5)).heap[k]? = w5.heap[k]? := fun k hk => Below.heap_setCell _ _ _ _ hk
  have hz5 : W.heap.size ≤ w5.heap.size := Nat.le_trans hd.size hgrow.size
  refine ⟨by simp [World.cell?, hb5], by simp [World.frozen?, hb5], fun k => k = d ∨ tv.ownBlock = some k ∨ g5 = k ∨ some k ∈ kv.ownBlock :: bs, ?_⟩
  have hS : Stay O (fun k => k = d ∨ tv.ownBlock = some k ∨ g5 = k ∨ some k ∈ kv.ownBlock :: bs) W (w5.setCell ⟨d, 3, none⟩ (.slice (some ⟨g5, 0, none⟩) (m + 1) c5)) := by
    refine ⟨hgrow.os.trans hd.os, hgrow.tape.trans hd.tape, hgrow.output.trans hd.output, by simpa using hz5, ?_, ?_⟩
    · rintro k (rfl | h1 | rfl | h1)
      · exact .inl ((hM.own _).2 (.inl rfl))
      · exact .inl ((hM.own _).2 (.inr (.inl h1)))
      · exact hat'.elim (fun h => .inl ((hM.own _).2 (.inr (.inr (.inl h))))) .inr
      · rcases List.mem_cons.1 h1 with h1 | h1
        · exact .inr (hkn k h1.symm)
        · exact .inl ((hM.own _).2 (.inr (.inr (.inr h1))))
    · intro k hk hO
      have hkd : k ≠ d := fun e => hO ((hM.own k).2 (.inl e))
      rw [hset k hkd]
      exact h5 k hk (fun e => hO ((hM.own k).2 (.inr (.inr (.inl e)))))
  have hkv5 : ∀ k, kv.ownBlock = some k → (w5.setCell ⟨d, 3, none⟩ (.slice (some ⟨g5, 0, none⟩) (m + 1) c5)).heap[k]? = Wd.heap[k]? := fun k hk => by
    have h1 := hkn k hk
    rw [hset k (by omega)]
    exact h5d k (hkv.lt k hk).2 (fun e => by have := (hM.opnR.lt k e).2; omega)
  refine ⟨⟨tv, _, kv.ownBlock :: bs, us, xs ++ six o kv, Go.Joins.block_setCell hb5 _, hM.words.stay hS, ?_, hM.todo.stay hS, ?_, ⟨kv, ks, xs, bs, rfl, rfl, owns_at hkv hkv5, parts_stay hS hks, ?_⟩, ⟨fun k hk hb => ?_, hM.apart⟩, ?_⟩, hS⟩
  · refine owns_at hM.todoR (fun k hk => ?_)
    have h1 := owns_ty hM.todoR hk
    have hkd : k ≠ d := fun e => by rw [e] at h1; exact absurd (h1.one ⟨_, _, hM.blk⟩) (by decide)
    exact (hset k hkd).trans (h5 k (hM.todoR.lt k hk).2 (fun e => absurd (h1.one (owns_ty hM.opnR e)) (by decide)))
  · show World.ownsRow _ 0 _ 6 _ (s.opn.length + 1) _
    rw [hm]
    refine owns_at hown (fun k hk => ?_)
    have h1 : g5 = k := by simpa [Value.ownBlock] using hk
    refine hset k (fun e => ?_)
    have h2 : Ty w5 k 55 := owns_ty hown hk
    rw [e] at h2
    exact absurd (h2.one ⟨_, _, hb5⟩) (by decide)
  · refine OpensIn.stay hS hM.opn (fun k hk => ?_)
    have h1 := opens_ty hM.opn hk
    have hkd : k ≠ d := fun e => by rw [e] at h1; exact absurd (h1.one ⟨_, _, hM.blk⟩) (by decide)
    exact (hset k hkd).trans (h5 k (opens_lt hM.opn hk) (fun e => absurd (h1.one (owns_ty hM.opnR e)) (by decide)))
  · have h1 := hkn k hk
    have h2 := opens_lt hM.opn hb
    omega
  · intro k
    simp [Value.ownBlock]
theorem news_six (W : World) (o : Open) (kv : Value) : ∀ j u, (six o kv)[j]? = some u → (W.alloc (.cells #[.string (bstr o.k), .string (bstr o.t), .int .i64 o.f, .int .i64 0, kv, .int .i64 o.kf] 55)).cell? ((⟨W.heap.size, 0, none⟩ : Addr).add j) = some u :=
  World.news_of_block (cs := #[.string (bstr o.k), .string (bstr o.t), .int .i64 o.f, .int .i64 0, kv, .int .i64 o.kf]) (t := 55) (fr := (0, 0)) (heap_new _ _)
set_option maxHeartbeats 8000000 in
set_option maxRecDepth 20000 in
theorem begin_any {W : World} (hM : Mem d L size lv s O W) (hi : s.i ≤ L.length) (k : By) (hm6 : s.opn.length ≤ 1000000) :
    Calls Tryd.prog 35 #[ptr d, .string (bstr k)] W fun e W' => e = .returned (.tuple #[]) ∧ ∃ O', Mem d L size lv { s with opn := ⟨k, [], (tok L size s.i).f, [], 0⟩ :: s.opn } O' W' ∧ Stay O O' W W' := by
  obtain ⟨tv, ov, bs, us, xs, hX⟩ := id hM
  obtain ⟨m, hm⟩ : ∃ m, s.opn.length = m := ⟨_, rfl⟩
  have hR := hX.opnR
  rw [hm] at hR hm6
  obtain ⟨oa, oc, rfl⟩ := owns_len hR
  obtain ⟨iB, hi0, hz0, hz1, hz2⟩ := info_parts infoB
  have cN := fun X (hX : Below W.heap.size W X) => next_any (hM.below hX) hi
  have hdl := hM.dlt
  have q3 : W.cell? ⟨d, 3, none⟩ = some (.slice oa m oc) := by have := hX.blk; simp [World.cell?, this]
  obtain ⟨o, ho⟩ : ∃ o : Open, ⟨k, [], (tok L size s.i).f, [], 0⟩ = o := ⟨_, rfl⟩
  have HO := Lib.hid ho
  have hok : bstr k = bstr o.k := by rw [← ho]
  have hof : (tok L size s.i).f = o.f := by rw [← ho]
  rw [ho, hok]
  generalize tok L size s.i = t at cN hof
  obtain ⟨tw, tt, tf, te⟩ := t
  dsimp only [tokV] at cN hof
  rw [hof] at cN
  have hfl := fun X => fld2 (.int .i64 tw) (.string ⟨tt.toArray⟩) (.int .i64 o.f) (.int .i64 te) X
  have hcell : ∀ X, Below W.heap.size W X → X.cell? ⟨d, 3, none⟩ = some (.slice oa m oc) := fun X hX => (hX.cell (p := ⟨d, 3, none⟩) hdl).trans q3
  have HCell := Lib.hid hcell
  have HE : Hid (∀ (w1 w5 : World) (g5 c5 : Nat), Below W.heap.size W w1 → w5.ownsRow 0 55 6 (.slice (some ⟨g5, 0, none⟩) (m + 1) c5) (m + 1) (xs ++ six o (.slice none 0 0)) → (w1.alloc (.cells #[.string (bstr o.k), .string ⟨#[]⟩, .int .i64 o.f, .int .i64 0, .slice none 0 0, .int .i64 0] 55)).grownBy w5 (Value.slice oa m oc).ownBlock →
      ((Value.slice oa m oc).ownBlock = some g5 ∨ g5 = (w1.alloc (.cells #[.string (bstr o.k), .string ⟨#[]⟩, .int .i64 o.f, .int .i64 0, .slice none 0 0, .int .i64 0] 55)).heap.size) →
      w5.cell? ⟨d, 3, none⟩ = some (.slice oa m oc) ∧ w5.frozen? ⟨d, 3, none⟩ = false ∧ ∃ O', Mem d L size lv { s with opn := o :: s.opn } O' (w5.setCell ⟨d, 3, none⟩ (.slice (some ⟨g5, 0, none⟩) (m + 1) c5)) ∧ Stay O O' W (w5.setCell ⟨d, 3, none⟩ (.slice (some ⟨g5, 0, none⟩) (m + 1) c5))) := Lib.hid (fun w1 w5 g5 c5 hb hown hgrow hat =>
    push_open hX hm (hb.alloc hb.size _) hown hgrow hat (by rw [← HO.out]; exact World.ownsRow_nil _ _ _ _) (by rw [← HO.out]; rfl) (fun k h => by cases h))
  have HR : Hid (∀ X, Below W.heap.size W X → (X.alloc (.cells #[.string (bstr o.k), .string ⟨#[]⟩, .int .i64 o.f, .int .i64 0, .slice none 0 0, .int .i64 0] 55)).ownsRow 0 55 6 (.slice oa m oc) m xs) := Lib.hid (fun X hX => (owns_later hR hX).alloc _)
  have HNew : Hid (∀ X : World, ∀ j u, (six o (.slice none 0 0))[j]? = some u → (X.alloc (.cells #[.string (bstr o.k), .string ⟨#[]⟩, .int .i64 o.f, .int .i64 0, .slice none 0 0, .int .i64 0] 55)).cell? ((⟨X.heap.size, 0, none⟩ : Addr).add j) = some u) := Lib.hid (fun X => by
    have h := news_six X o (.slice none 0 0)
    rw [show bstr o.t = ⟨#[]⟩ by rw [← HO.out]; rfl, show o.kf = 0 by rw [← HO.out]] at h
    exact h)
  obtain ⟨kk, hkk⟩ : ∃ kk, bstr o.k = kk := ⟨_, rfl⟩
  obtain ⟨ff, hff⟩ : ∃ ff, o.f = ff := ⟨_, rfl⟩
  rw [hkk, hff] at HE
  rw [hkk, hff] at HR HNew
  rw [hff] at cN hfl
  rw [hkk]
  have HDr := Lib.hid (show Below W.heap.size W W.drew from (Below.refl _ _).drew)
  clear hof ho hok hX hM hR q3 hm hcell hdl hi hkk hff HO
  go_enter Tryd.func35, Tryd.ntmps35
  go_upto_region 0 with fail
  refine wp_region_held_drew (S := fun _ => True) (by kernel_rfl) trivial (fun hHeld => ?_)
  refine wpAnyH_take (i := 0) (oi := ({ dst := some 4, op := Op.move (Operand.tmp 0), type := 39, pos := "reader.go:114", after := #[], guard := none } : Oper)) (v := ptr d) rfl (by kernel_rfl) (by kernel_rfl) (by kernel_rfl) (fun _ _ _ h => h) (Or.inl ⟨by rfl, fun X hX => rfl⟩) hHeld ?_
  (try simp only [Act.put, List.setIfInBounds_toArray, List.set_cons_zero, List.set_cons_succ])
  refine wpAnyH_take (i := 1) (oi := ({ dst := some 5, op := Op.move (Operand.tmp 0), type := 39, pos := "reader.go:114", after := #[], guard := none } : Oper)) (v := ptr d) rfl (by kernel_rfl) (by kernel_rfl) (by kernel_rfl) (fun _ _ _ h => h) (Or.inl ⟨by rfl, fun X hX => rfl⟩) hHeld ?_
  (try simp only [Act.put, List.setIfInBounds_toArray, List.set_cons_zero, List.set_cons_succ])
  refine wpAnyH_take (i := 2) (oi := ({ dst := some 6, op := Op.nilCheck (Operand.tmp 5), type := 0, pos := "reader.go:114", after := #[{ on := 1, ground := Ground.data }], guard := none } : Oper)) (v := ptr d) rfl (by kernel_rfl) (by kernel_rfl) (by kernel_rfl) (fun _ _ _ h => h) (Or.inl ⟨by rfl, fun X hX => rfl⟩) hHeld ?_
  (try simp only [Act.put, List.setIfInBounds_toArray, List.set_cons_zero, List.set_cons_succ])
  refine wpAnyH_take (i := 3) (oi := ({ dst := some 7, op := Op.fieldAddr 50 (Operand.tmp 6) 3, type := 0, pos := "reader.go:114", after := #[{ on := 2, ground := Ground.data }], guard := none } : Oper)) (v := .pointer (some ⟨d, 3, none⟩)) rfl (by kernel_rfl) (by kernel_rfl) (by kernel_rfl) (fun _ _ _ h => h) (Or.inl ⟨by rfl, fun X hX => rfl⟩) hHeld ?_
  (try simp only [Act.put, List.setIfInBounds_toArray, List.set_cons_zero, List.set_cons_succ])
  refine wpAnyH_take (i := 5) (oi := ({ dst := some 9, op := Op.move (Operand.tmp 1), type := 9, pos := "reader.go:114", after := #[], guard := none } : Oper)) (v := .string kk) rfl (by kernel_rfl) (by kernel_rfl) (by kernel_rfl) (fun _ _ _ h => h) (Or.inl ⟨by rfl, fun X hX => rfl⟩) hHeld ?_
  (try simp only [Act.put, List.setIfInBounds_toArray, List.set_cons_zero, List.set_cons_succ])
  refine wpAnyH_take (i := 6) (oi := ({ dst := some 10, op := Op.move (Operand.tmp 0), type := 39, pos := "reader.go:114", after := #[], guard := none } : Oper)) (v := ptr d) rfl (by kernel_rfl) (by kernel_rfl) (by kernel_rfl) (fun _ _ _ h => h) (Or.inl ⟨by rfl, fun X hX => rfl⟩) hHeld ?_
  (try simp only [Act.put, List.setIfInBounds_toArray, List.set_cons_zero, List.set_cons_succ])
  refine wpAnyH_ready (rs := [4, 7]) (by kernel_rfl) (by simp) ?_
  refine (AllReadyH.cons (o := ({ dst := some 8, op := Op.load 47 (Operand.tmp 7), type := 47, pos := "reader.go:114", after := #[{ on := 3, ground := Ground.data }], guard := none } : Oper)) rfl (fun K hK => ?_) (AllReadyH.cons (o := ({ dst := some 11, op := Op.call { callee := Callee.value (Operand.func 34), args := #[Operand.tmp 10], argTypes := #[39] }, type := 44, pos := "reader.go:114", after := #[{ on := 6, ground := Ground.data }], guard := none } : Oper)) rfl (fun K hK => ?_) AllReadyH.nil))
  · refine wanted_step (by kernel_rfl) ?_
    have q3 := HCell.out W.drew HDr.out
    go_simp
    refine hK.out _ _ (trivial) (fun hHeld => ?_)
    (try simp only [Act.put, List.setIfInBounds_toArray, List.set_cons_zero, List.set_cons_succ])
    clear hK K
    clear q3
    refine wpAnyH_ready (rs := [7]) (by kernel_rfl) (by simp) ?_
    refine (AllReadyH.cons (o := ({ dst := some 11, op := Op.call { callee := Callee.value (Operand.func 34), args := #[Operand.tmp 10], argTypes := #[39] }, type := 44, pos := "reader.go:114", after := #[{ on := 6, ground := Ground.data }], guard := none } : Oper)) rfl (fun K hK => ?_) AllReadyH.nil)
    refine wanted_step (by kernel_rfl) ?_
    go_simp
    go_at_call 34
    refine (cN _ HDr.out).mono ?_
    rintro e w1 ⟨rfl, hb1⟩
    have hb2 := HDr.out.trans (hb1.mono HDr.out.size)
    dsimp only
    refine hK.out _ _ (trivial) (fun hHeld => ?_)
    (try simp only [Act.put, List.setIfInBounds_toArray, List.set_cons_zero, List.set_cons_succ])
    clear hK K
    refine wpAnyH_take (i := 8) (oi := ({ dst := some 12, op := Op.field 44 (Operand.tmp 11) 2, type := 3, pos := "reader.go:114", after := #[{ on := 7, ground := Ground.data }], guard := none } : Oper)) (v := .int .i64 ff) rfl (by kernel_rfl) (by kernel_rfl) (by kernel_rfl) (fun _ _ _ h => h) (Or.inl ⟨by rfl, fun X hX => by simp [execOp, Act.eval, hfl]⟩) hHeld ?_
    (try simp only [Act.put, List.setIfInBounds_toArray, List.set_cons_zero, List.set_cons_succ])
    refine wpAnyH_take (i := 9) (oi := ({ dst := some 13, op := Op.build 24 #[(0, Operand.tmp 9), (2, Operand.tmp 12)], type := 24, pos := "reader.go:114", after := #[{ on := 5, ground := Ground.data }, { on := 8, ground := Ground.data }], guard := none } : Oper)) (v := .agg #[.string kk, .string ⟨#[]⟩, .int .i64 ff, .int .i64 0, .slice none 0 0]) rfl (by kernel_rfl) (by kernel_rfl) (by kernel_rfl) (fun _ _ _ h => h) (Or.inl ⟨by rfl, fun X hX => by kernel_rfl⟩) hHeld ?_
    (try simp only [Act.put, List.setIfInBounds_toArray, List.set_cons_zero, List.set_cons_succ])
    refine wpAnyH_take (i := 10) (oi := ({ dst := some 14, op := Op.build 55 #[(0, Operand.tmp 13)], type := 55, pos := "reader.go:114", after := #[{ on := 9, ground := Ground.data }], guard := none } : Oper)) (v := .agg #[.string kk, .string ⟨#[]⟩, .int .i64 ff, .int .i64 0, .slice none 0 0, .int .i64 0]) rfl (by kernel_rfl) (by kernel_rfl) (by kernel_rfl) (fun _ _ _ h => h) (Or.inl ⟨by rfl, fun X hX => by kernel_rfl⟩) hHeld ?_
    (try simp only [Act.put, List.setIfInBounds_toArray, List.set_cons_zero, List.set_cons_succ])
    refine wpAnyH_ready (rs := [11]) (by kernel_rfl) (by simp) ?_
    refine (AllReadyH.cons (o := ({ dst := some 15, op := Op.buildSlice 47 1 #[(0, Operand.tmp 14)], type := 47, pos := "reader.go:114", after := #[{ on := 10, ground := Ground.data }], guard := none } : Oper)) rfl (fun K hK => ?_) AllReadyH.nil)
    refine wanted_step (by kernel_rfl) ?_
    go_simp
    refine hK.out _ _ (trivial) (fun hHeld => ?_)
    (try simp only [Act.put, List.setIfInBounds_toArray, List.set_cons_zero, List.set_cons_succ])
    clear hK K
    refine wpAnyH_ready (rs := [12]) (by kernel_rfl) (by simp) ?_
    refine (AllReadyH.cons (o := ({ dst := some 16, op := Op.call { callee := Callee.builtin Builtin.append, args := #[Operand.tmp 8, Operand.tmp 15], argTypes := #[47, 47] }, type := 47, pos := "reader.go:114", after := #[{ on := 4, ground := Ground.data }, { on := 11, ground := Ground.data }, { on := 7, ground := Ground.chain }], guard := none } : Oper)) rfl (fun K hK => ?_) AllReadyH.nil)
    refine wanted_step (by kernel_rfl) ?_
    refine wp_append_lies _ (.tmp 8) (.tmp 15) 47 rfl 0 55 iB (.agg #[.string ⟨#[]⟩, .string ⟨#[]⟩, .int .i64 0, .int .i64 0, .slice none 0 0, .int .i64 0]) 6 80 Tryd.underlying47 hi0 hz0 hz1 hz2 rfl (by decide) (.slice oa m oc) m xs rfl (HR.out _ hb2) ⟨w1.heap.size, 0, none⟩ 1 1 (six o (.slice none 0 0)) rfl rfl (HNew.out _) (six_one _ _ ⟨_, _, _, rfl⟩) (by decide) (by unfold maxLen; omega) (by omega) (Nat.zero_le _) _ rfl ?_
    intro g5 c5 w5 hown hgrow hat hlt5
    have he := HE.out w1 w5 g5 c5 hb2 hown hgrow hat
    refine hK.out _ _ (trivial) (fun hHeld => ?_)
    (try simp only [Act.put, List.setIfInBounds_toArray, List.set_cons_zero, List.set_cons_succ])
    clear hK K
    refine wpAnyH_take (i := 13) (oi := ({ dst := some 17, op := Op.nilCheck (Operand.tmp 4), type := 0, pos := "reader.go:114", after := #[{ on := 0, ground := Ground.data }, { on := 0, ground := Ground.phase }, { on := 1, ground := Ground.phase }, { on := 2, ground := Ground.phase }, { on := 3, ground := Ground.phase }, { on := 4, ground := Ground.phase }, { on := 5, ground := Ground.phase }, { on := 6, ground := Ground.phase }, { on := 7, ground := Ground.phase }, { on := 8, ground := Ground.phase }, { on := 9, ground := Ground.phase }, { on := 10, ground := Ground.phase }, { on := 11, ground := Ground.phase }, { on := 12, ground := Ground.phase }], guard := none } : Oper)) (v := ptr d) rfl (by kernel_rfl) (by kernel_rfl) (by kernel_rfl) (fun _ _ _ h => h) (Or.inl ⟨by rfl, fun X hX => rfl⟩) hHeld ?_
    (try simp only [Act.put, List.setIfInBounds_toArray, List.set_cons_zero, List.set_cons_succ])
    refine wpAnyH_take (i := 14) (oi := ({ dst := some 18, op := Op.fieldAddr 50 (Operand.tmp 17) 3, type := 0, pos := "reader.go:114", after := #[{ on := 13, ground := Ground.data }, { on := 0, ground := Ground.phase }, { on := 1, ground := Ground.phase }, { on := 2, ground := Ground.phase }, { on := 3, ground := Ground.phase }, { on := 4, ground := Ground.phase }, { on := 5, ground := Ground.phase }, { on := 6, ground := Ground.phase }, { on := 7, ground := Ground.phase }, { on := 8, ground := Ground.phase }, { on := 9, ground := Ground.phase }, { on := 10, ground := Ground.phase }, { on := 11, ground := Ground.phase }, { on := 12, ground := Ground.phase }], guard := none } : Oper)) (v := .pointer (some ⟨d, 3, none⟩)) rfl (by kernel_rfl) (by kernel_rfl) (by kernel_rfl) (fun _ _ _ h => h) (Or.inl ⟨by rfl, fun X hX => rfl⟩) hHeld ?_
    (try simp only [Act.put, List.setIfInBounds_toArray, List.set_cons_zero, List.set_cons_succ])
    have q3 := he.1
    have f3 := he.2.1
    refine wpAnyH_ready (rs := [15]) (by kernel_rfl) (by simp) ?_
    refine (AllReadyH.cons (o := ({ dst := none, op := Op.store 47 (Operand.tmp 18) (Operand.tmp 16), type := 0, pos := "reader.go:114", after := #[{ on := 14, ground := Ground.data }, { on := 12, ground := Ground.data }, { on := 12, ground := Ground.chain }, { on := 0, ground := Ground.phase }, { on := 1, ground := Ground.phase }, { on := 2, ground := Ground.phase }, { on := 3, ground := Ground.phase }, { on := 4, ground := Ground.phase }, { on := 5, ground := Ground.phase }, { on := 6, ground := Ground.phase }, { on := 7, ground := Ground.phase }, { on := 8, ground := Ground.phase }, { on := 9, ground := Ground.phase }, { on := 10, ground := Ground.phase }, { on := 11, ground := Ground.phase }, { on := 12, ground := Ground.phase }], guard := none } : Oper)) rfl (fun K hK => ?_) AllReadyH.nil)
    refine wanted_step (by kernel_rfl) ?_
    go_simp
    refine hK.out _ _ (trivial) (fun hHeld => ?_)
    (try simp only [Act.put, List.setIfInBounds_toArray, List.set_cons_zero, List.set_cons_succ])
    clear hK K
    refine wpAnyH_done (by kernel_rfl) ?_ _
    exact bodyPost_end (results_none rfl _ _ _) rfl ⟨rfl, he.2.2⟩
  · refine wanted_step (by kernel_rfl) ?_
    go_simp
    go_at_call 34
    refine (cN _ HDr.out).mono ?_
    rintro e w1 ⟨rfl, hb1⟩
    have hb2 := HDr.out.trans (hb1.mono HDr.out.size)
    dsimp only
    refine hK.out _ _ (trivial) (fun hHeld => ?_)
    (try simp only [Act.put, List.setIfInBounds_toArray, List.set_cons_zero, List.set_cons_succ])
    clear hK K
    refine wpAnyH_take (i := 8) (oi := ({ dst := some 12, op := Op.field 44 (Operand.tmp 11) 2, type := 3, pos := "reader.go:114", after := #[{ on := 7, ground := Ground.data }], guard := none } : Oper)) (v := .int .i64 ff) rfl (by kernel_rfl) (by kernel_rfl) (by kernel_rfl) (fun _ _ _ h => h) (Or.inl ⟨by rfl, fun X hX => by simp [execOp, Act.eval, hfl]⟩) hHeld ?_
    (try simp only [Act.put, List.setIfInBounds_toArray, List.set_cons_zero, List.set_cons_succ])
    refine wpAnyH_take (i := 9) (oi := ({ dst := some 13, op := Op.build 24 #[(0, Operand.tmp 9), (2, Operand.tmp 12)], type := 24, pos := "reader.go:114", after := #[{ on := 5, ground := Ground.data }, { on := 8, ground := Ground.data }], guard := none } : Oper)) (v := .agg #[.string kk, .string ⟨#[]⟩, .int .i64 ff, .int .i64 0, .slice none 0 0]) rfl (by kernel_rfl) (by kernel_rfl) (by kernel_rfl) (fun _ _ _ h => h) (Or.inl ⟨by rfl, fun X hX => by kernel_rfl⟩) hHeld ?_
    (try simp only [Act.put, List.setIfInBounds_toArray, List.set_cons_zero, List.set_cons_succ])
    refine wpAnyH_take (i := 10) (oi := ({ dst := some 14, op := Op.build 55 #[(0, Operand.tmp 13)], type := 55, pos := "reader.go:114", after := #[{ on := 9, ground := Ground.data }], guard := none } : Oper)) (v := .agg #[.string kk, .string ⟨#[]⟩, .int .i64 ff, .int .i64 0, .slice none 0 0, .int .i64 0]) rfl (by kernel_rfl) (by kernel_rfl) (by kernel_rfl) (fun _ _ _ h => h) (Or.inl ⟨by rfl, fun X hX => by kernel_rfl⟩) hHeld ?_
    (try simp only [Act.put, List.setIfInBounds_toArray, List.set_cons_zero, List.set_cons_succ])
    refine wpAnyH_ready (rs := [4, 11]) (by kernel_rfl) (by simp) ?_
    refine (AllReadyH.cons (o := ({ dst := some 8, op := Op.load 47 (Operand.tmp 7), type := 47, pos := "reader.go:114", after := #[{ on := 3, ground := Ground.data }], guard := none } : Oper)) rfl (fun K hK => ?_) (AllReadyH.cons (o := ({ dst := some 15, op := Op.buildSlice 47 1 #[(0, Operand.tmp 14)], type := 47, pos := "reader.go:114", after := #[{ on := 10, ground := Ground.data }], guard := none } : Oper)) rfl (fun K hK => ?_) AllReadyH.nil))
    · refine wanted_step (by kernel_rfl) ?_
      have q3 := HCell.out w1 hb2
      go_simp
      refine hK.out _ _ (trivial) (fun hHeld => ?_)
      (try simp only [Act.put, List.setIfInBounds_toArray, List.set_cons_zero, List.set_cons_succ])
      clear hK K
      clear q3
      refine wpAnyH_ready (rs := [11]) (by kernel_rfl) (by simp) ?_
      refine (AllReadyH.cons (o := ({ dst := some 15, op := Op.buildSlice 47 1 #[(0, Operand.tmp 14)], type := 47, pos := "reader.go:114", after := #[{ on := 10, ground := Ground.data }], guard := none } : Oper)) rfl (fun K hK => ?_) AllReadyH.nil)
      refine wanted_step (by kernel_rfl) ?_
      go_simp
      refine hK.out _ _ (trivial) (fun hHeld => ?_)
      (try simp only [Act.put, List.setIfInBounds_toArray, List.set_cons_zero, List.set_cons_succ])
      clear hK K
      refine wpAnyH_ready (rs := [12]) (by kernel_rfl) (by simp) ?_
      refine (AllReadyH.cons (o := ({ dst := some 16, op := Op.call { callee := Callee.builtin Builtin.append, args := #[Operand.tmp 8, Operand.tmp 15], argTypes := #[47, 47] }, type := 47, pos := "reader.go:114", after := #[{ on := 4, ground := Ground.data }, { on := 11, ground := Ground.data }, { on := 7, ground := Ground.chain }], guard := none } : Oper)) rfl (fun K hK => ?_) AllReadyH.nil)
      refine wanted_step (by kernel_rfl) ?_
      refine wp_append_lies _ (.tmp 8) (.tmp 15) 47 rfl 0 55 iB (.agg #[.string ⟨#[]⟩, .string ⟨#[]⟩, .int .i64 0, .int .i64 0, .slice none 0 0, .int .i64 0]) 6 80 Tryd.underlying47 hi0 hz0 hz1 hz2 rfl (by decide) (.slice oa m oc) m xs rfl (HR.out _ hb2) ⟨w1.heap.size, 0, none⟩ 1 1 (six o (.slice none 0 0)) rfl rfl (HNew.out _) (six_one _ _ ⟨_, _, _, rfl⟩) (by decide) (by unfold maxLen; omega) (by omega) (Nat.zero_le _) _ rfl ?_
      intro g5 c5 w5 hown hgrow hat hlt5
      have he := HE.out w1 w5 g5 c5 hb2 hown hgrow hat
      refine hK.out _ _ (trivial) (fun hHeld => ?_)
      (try simp only [Act.put, List.setIfInBounds_toArray, List.set_cons_zero, List.set_cons_succ])
      clear hK K
      refine wpAnyH_take (i := 13) (oi := ({ dst := some 17, op := Op.nilCheck (Operand.tmp 4), type := 0, pos := "reader.go:114", after := #[{ on := 0, ground := Ground.data }, { on := 0, ground := Ground.phase }, { on := 1, ground := Ground.phase }, { on := 2, ground := Ground.phase }, { on := 3, ground := Ground.phase }, { on := 4, ground := Ground.phase }, { on := 5, ground := Ground.phase }, { on := 6, ground := Ground.phase }, { on := 7, ground := Ground.phase }, { on := 8, ground := Ground.phase }, { on := 9, ground := Ground.phase }, { on := 10, ground := Ground.phase }, { on := 11, ground := Ground.phase }, { on := 12, ground := Ground.phase }], guard := none } : Oper)) (v := ptr d) rfl (by kernel_rfl) (by kernel_rfl) (by kernel_rfl) (fun _ _ _ h => h) (Or.inl ⟨by rfl, fun X hX => rfl⟩) hHeld ?_
      (try simp only [Act.put, List.setIfInBounds_toArray, List.set_cons_zero, List.set_cons_succ])
      refine wpAnyH_take (i := 14) (oi := ({ dst := some 18, op := Op.fieldAddr 50 (Operand.tmp 17) 3, type := 0, pos := "reader.go:114", after := #[{ on := 13, ground := Ground.data }, { on := 0, ground := Ground.phase }, { on := 1, ground := Ground.phase }, { on := 2, ground := Ground.phase }, { on := 3, ground := Ground.phase }, { on := 4, ground := Ground.phase }, { on := 5, ground := Ground.phase }, { on := 6, ground := Ground.phase }, { on := 7, ground := Ground.phase }, { on := 8, ground := Ground.phase }, { on := 9, ground := Ground.phase }, { on := 10, ground := Ground.phase }, { on := 11, ground := Ground.phase }, { on := 12, ground := Ground.phase }], guard := none } : Oper)) (v := .pointer (some ⟨d, 3, none⟩)) rfl (by kernel_rfl) (by kernel_rfl) (by kernel_rfl) (fun _ _ _ h => h) (Or.inl ⟨by rfl, fun X hX => rfl⟩) hHeld ?_
      (try simp only [Act.put, List.setIfInBounds_toArray, List.set_cons_zero, List.set_cons_succ])
      have q3 := he.1
      have f3 := he.2.1
      refine wpAnyH_ready (rs := [15]) (by kernel_rfl) (by simp) ?_
      refine (AllReadyH.cons (o := ({ dst := none, op := Op.store 47 (Operand.tmp 18) (Operand.tmp 16), type := 0, pos := "reader.go:114", after := #[{ on := 14, ground := Ground.data }, { on := 12, ground := Ground.data }, { on := 12, ground := Ground.chain }, { on := 0, ground := Ground.phase }, { on := 1, ground := Ground.phase }, { on := 2, ground := Ground.phase }, { on := 3, ground := Ground.phase }, { on := 4, ground := Ground.phase }, { on := 5, ground := Ground.phase }, { on := 6, ground := Ground.phase }, { on := 7, ground := Ground.phase }, { on := 8, ground := Ground.phase }, { on := 9, ground := Ground.phase }, { on := 10, ground := Ground.phase }, { on := 11, ground := Ground.phase }, { on := 12, ground := Ground.phase }], guard := none } : Oper)) rfl (fun K hK => ?_) AllReadyH.nil)
      refine wanted_step (by kernel_rfl) ?_
      go_simp
      refine hK.out _ _ (trivial) (fun hHeld => ?_)
      (try simp only [Act.put, List.setIfInBounds_toArray, List.set_cons_zero, List.set_cons_succ])
      clear hK K
      refine wpAnyH_done (by kernel_rfl) ?_ _
      exact bodyPost_end (results_none rfl _ _ _) rfl ⟨rfl, he.2.2⟩
    · refine wanted_step (by kernel_rfl) ?_
      go_simp
      refine hK.out _ _ (trivial) (fun hHeld => ?_)
      (try simp only [Act.put, List.setIfInBounds_toArray, List.set_cons_zero, List.set_cons_succ])
      clear hK K
      refine wpAnyH_ready (rs := [4]) (by kernel_rfl) (by simp) ?_
      refine (AllReadyH.cons (o := ({ dst := some 8, op := Op.load 47 (Operand.tmp 7), type := 47, pos := "reader.go:114", after := #[{ on := 3, ground := Ground.data }], guard := none } : Oper)) rfl (fun K hK => ?_) AllReadyH.nil)
      refine wanted_step (by kernel_rfl) ?_
      have q3 := HCell.out (w1.alloc (.cells #[.string kk, .string ⟨#[]⟩, .int .i64 ff, .int .i64 0, .slice none 0 0, .int .i64 0] 55)) (hb2.alloc hb2.size _)
      go_simp
      refine hK.out _ _ (trivial) (fun hHeld => ?_)
      (try simp only [Act.put, List.setIfInBounds_toArray, List.set_cons_zero, List.set_cons_succ])
      clear hK K
      clear q3
      refine wpAnyH_ready (rs := [12]) (by kernel_rfl) (by simp) ?_
      refine (AllReadyH.cons (o := ({ dst := some 16, op := Op.call { callee := Callee.builtin Builtin.append, args := #[Operand.tmp 8, Operand.tmp 15], argTypes := #[47, 47] }, type := 47, pos := "reader.go:114", after := #[{ on := 4, ground := Ground.data }, { on := 11, ground := Ground.data }, { on := 7, ground := Ground.chain }], guard := none } : Oper)) rfl (fun K hK => ?_) AllReadyH.nil)
      refine wanted_step (by kernel_rfl) ?_
      refine wp_append_lies _ (.tmp 8) (.tmp 15) 47 rfl 0 55 iB (.agg #[.string ⟨#[]⟩, .string ⟨#[]⟩, .int .i64 0, .int .i64 0, .slice none 0 0, .int .i64 0]) 6 80 Tryd.underlying47 hi0 hz0 hz1 hz2 rfl (by decide) (.slice oa m oc) m xs rfl (HR.out _ hb2) ⟨w1.heap.size, 0, none⟩ 1 1 (six o (.slice none 0 0)) rfl rfl (HNew.out _) (six_one _ _ ⟨_, _, _, rfl⟩) (by decide) (by unfold maxLen; omega) (by omega) (Nat.zero_le _) _ rfl ?_
      intro g5 c5 w5 hown hgrow hat hlt5
      have he := HE.out w1 w5 g5 c5 hb2 hown hgrow hat
      refine hK.out _ _ (trivial) (fun hHeld => ?_)
      (try simp only [Act.put, List.setIfInBounds_toArray, List.set_cons_zero, List.set_cons_succ])
      clear hK K
      refine wpAnyH_take (i := 13) (oi := ({ dst := some 17, op := Op.nilCheck (Operand.tmp 4), type := 0, pos := "reader.go:114", after := #[{ on := 0, ground := Ground.data }, { on := 0, ground := Ground.phase }, { on := 1, ground := Ground.phase }, { on := 2, ground := Ground.phase }, { on := 3, ground := Ground.phase }, { on := 4, ground := Ground.phase }, { on := 5, ground := Ground.phase }, { on := 6, ground := Ground.phase }, { on := 7, ground := Ground.phase }, { on := 8, ground := Ground.phase }, { on := 9, ground := Ground.phase }, { on := 10, ground := Ground.phase }, { on := 11, ground := Ground.phase }, { on := 12, ground := Ground.phase }], guard := none } : Oper)) (v := ptr d) rfl (by kernel_rfl) (by kernel_rfl) (by kernel_rfl) (fun _ _ _ h => h) (Or.inl ⟨by rfl, fun X hX => rfl⟩) hHeld ?_
      (try simp only [Act.put, List.setIfInBounds_toArray, List.set_cons_zero, List.set_cons_succ])
      refine wpAnyH_take (i := 14) (oi := ({ dst := some 18, op := Op.fieldAddr 50 (Operand.tmp 17) 3, type := 0, pos := "reader.go:114", after := #[{ on := 13, ground := Ground.data }, { on := 0, ground := Ground.phase }, { on := 1, ground := Ground.phase }, { on := 2, ground := Ground.phase }, { on := 3, ground := Ground.phase }, { on := 4, ground := Ground.phase }, { on := 5, ground := Ground.phase }, { on := 6, ground := Ground.phase }, { on := 7, ground := Ground.phase }, { on := 8, ground := Ground.phase }, { on := 9, ground := Ground.phase }, { on := 10, ground := Ground.phase }, { on := 11, ground := Ground.phase }, { on := 12, ground := Ground.phase }], guard := none } : Oper)) (v := .pointer (some ⟨d, 3, none⟩)) rfl (by kernel_rfl) (by kernel_rfl) (by kernel_rfl) (fun _ _ _ h => h) (Or.inl ⟨by rfl, fun X hX => rfl⟩) hHeld ?_
      (try simp only [Act.put, List.setIfInBounds_toArray, List.set_cons_zero, List.set_cons_succ])
      have q3 := he.1
      have f3 := he.2.1
      refine wpAnyH_ready (rs := [15]) (by kernel_rfl) (by simp) ?_
      refine (AllReadyH.cons (o := ({ dst := none, op := Op.store 47 (Operand.tmp 18) (Operand.tmp 16), type := 0, pos := "reader.go:114", after := #[{ on := 14, ground := Ground.data }, { on := 12, ground := Ground.data }, { on := 12, ground := Ground.chain }, { on := 0, ground := Ground.phase }, { on := 1, ground := Ground.phase }, { on := 2, ground := Ground.phase }, { on := 3, ground := Ground.phase }, { on := 4, ground := Ground.phase }, { on := 5, ground := Ground.phase }, { on := 6, ground := Ground.phase }, { on := 7, ground := Ground.phase }, { on := 8, ground := Ground.phase }, { on := 9, ground := Ground.phase }, { on := 10, ground := Ground.phase }, { on := 11, ground := Ground.phase }, { on := 12, ground := Ground.phase }], guard := none } : Oper)) rfl (fun K hK => ?_) AllReadyH.nil)
      refine wanted_step (by kernel_rfl) ?_
      go_simp
      refine hK.out _ _ (trivial) (fun hHeld => ?_)
      (try simp only [Act.put, List.setIfInBounds_toArray, List.set_cons_zero, List.set_cons_succ])
      clear hK K
      refine wpAnyH_done (by kernel_rfl) ?_ _
      exact bodyPost_end (results_none rfl _ _ _) rfl ⟨rfl, he.2.2⟩
end
end Go.Proofs.YtnjhmjkonmmomaaDoor.K
end
/- KMake: The program's reader: what is read between, as values; contracts of what a step does. -/
section
namespace Go.Proofs.YtnjhmjkonmmomaaDoor.K
open Go.RowKit
open Go.Lib hiding intOf
open Go.Proofs.YtnjhmjkonmmomaaDoor.U Go.Proofs.YtnjhmjkonmmomaaDoor.S Go.Proofs.YtnjhmjkonmmomaaDoor.T

structure Small (L : List TokP) (s : St) : Prop where
  i : s.i ≤ L.length
  len : L.length ≤ 1000000
  todo : s.todo.length ≤ 1000000
  opn : s.opn.length ≤ 1000000
  kids : ∀ o ∈ s.opn, o.kids.length ≤ 1000000
/-- What a step does. -/
def Does (d : Nat) (L : List TokP) (size : Nat) (lv : Value) (i : Nat) (O : Nat → Prop) (W : World) (r : Res) (e : Ending) (W' : World) : Prop := match r with
  | .go s' => e = .returned (.tuple #[]) ∧ ∃ O', Mem d L size lv s' O' W' ∧ Stay O O' W W'
  | .wrong => Panics L size i W e W'
  | .stuck => True
section
variable {d : Nat} {L : List TokP} {size : Nat} {lv : Value} {s : St} {O O' : Nat → Prop}
theorem BoxAt.below {W W' : World} {b : Nat} {v : Value} {t : TypeId} (h : BoxAt O W b v t) (hb : Below W.heap.size W W') : BoxAt O W' b v t := h.stay (.of_below hb)
theorem box_new {W W' : World} {b : Nat} {v : Value} {t : TypeId} (hM : Mem d L size lv s O W) (hb : W.heap.size ≤ b) (h : W'.heap[b]? = some (.cells #[v] t (0, 0))) : BoxAt O W' b v t :=
  ⟨⟨(Array.getElem?_eq_some_iff.1 h).1, fun hO => by have := hM.lt b hO; omega, _, h, rfl⟩, h⟩
theorem alloc2 (W : World) (o o' : Obj) : ((W.alloc o).alloc o').heap[W.heap.size]? = some o ∧ ((W.alloc o).alloc o').heap[W.heap.size + 1]? = some o' ∧ Below W.heap.size W ((W.alloc o).alloc o') := by
  refine ⟨?_, ?_, ((Below.refl _ _).alloc (Nat.le_refl _) _).alloc (by simp) _⟩
  · rw [Below.heap_alloc _ _ _ (by simp)]; exact heap_new _ _
  · have h := heap_new (W.alloc o) o'
    rw [World.size_alloc] at h
    exact h
/-- A closure over the reader and something else. -/
def Made (d : Nat) (f : Nat) (u : Value) (t : TypeId) (O : Nat → Prop) (W : World) (e : Ending) (W' : World) : Prop := ∃ b1 b2, e = .returned (.func (.func f) #[] #[ptr b1, ptr b2]) ∧ BoxAt O W' b1 (ptr d) 39 ∧ BoxAt O W' b2 u t ∧ Below W.heap.size W W'
theorem made_end {W : World} {f : Nat} {u : Value} {t : TypeId} (hM : Mem d L size lv s O W) : Made d f u t O W (.returned (.func (.func f) #[] #[ptr W.heap.size, ptr (W.heap.size + 1)])) ((W.alloc (.cells #[ptr d] 39)).alloc (.cells #[u] t)) := by
  obtain ⟨h1, h2, h3⟩ := alloc2 W (.cells #[ptr d] 39) (.cells #[u] t)
  exact ⟨_, _, rfl, box_new hM (Nat.le_refl _) h1, box_new hM (by omega) h2, h3⟩
theorem hmf (fn : Fn) (first cap : Array Value) (w : World) : (Instr.makeFunc fn first cap).run Tryd.prog w = .ok (.func fn first cap) w := rfl
set_option maxHeartbeats 4000000 in
set_option maxRecDepth 20000 in
theorem word_make {W : World} (hM : Mem d L size lv s O W) (x : By) : Calls Tryd.prog 36 #[ptr d, .string (bstr x)] W (Made d 59 (.string (bstr x)) 9 O W) := by
  have hend := made_end (f := 59) (u := .string (bstr x)) (t := 9) hM
  have hmf := hmf
  have HE := Lib.hid hend
  clear hend
  go_enter Tryd.func36, Tryd.ntmps36
  go_wp2_with fail
  go_ret
  exact HE.out
set_option maxHeartbeats 4000000 in
set_option maxRecDepth 20000 in
theorem lines_make {W : World} (hM : Mem d L size lv s O W) (k : Nat) : Calls Tryd.prog 43 #[ptr d, .func (.func k) #[ptr d] #[]] W (Made d 67 (.func (.func k) #[ptr d] #[]) 1 O W) := by
  have HE := Lib.hid (made_end (f := 67) (u := .func (.func k) #[ptr d] #[]) (t := 1) hM)
  have hmf := hmf
  go_enter Tryd.func43, Tryd.ntmps43
  go_wp2_with fail
  go_ret
  exact HE.out
set_option maxHeartbeats 4000000 in
set_option maxRecDepth 20000 in
theorem commas_make {W : World} (hM : Mem d L size lv s O W) (k : Nat) : Calls Tryd.prog 62 #[ptr d, .func (.func k) #[ptr d] #[]] W (Made d 73 (.func (.func k) #[ptr d] #[]) 1 O W) := by
  have HE := Lib.hid (made_end (f := 73) (u := .func (.func k) #[ptr d] #[]) (t := 1) hM)
  have hmf := hmf
  go_enter Tryd.func62, Tryd.ntmps62
  go_wp2_with fail
  go_ret
  exact HE.out
set_option maxHeartbeats 4000000 in
set_option maxRecDepth 20000 in
theorem more_make {W : World} (hM : Mem d L size lv s O W) (k : Nat) : Calls Tryd.prog 68 #[ptr d, .func (.func k) #[ptr d] #[]] W (Made d 79 (.func (.func k) #[ptr d] #[]) 1 O W) := by
  have HE := Lib.hid (made_end (f := 79) (u := .func (.func k) #[ptr d] #[]) (t := 1) hM)
  have hmf := hmf
  go_enter Tryd.func68, Tryd.ntmps68
  go_wp2_with fail
  go_ret
  exact HE.out
set_option maxHeartbeats 4000000 in
set_option maxRecDepth 20000 in
theorem moreC_make {W : World} (hM : Mem d L size lv s O W) (k : Nat) : Calls Tryd.prog 74 #[ptr d, .func (.func k) #[ptr d] #[]] W (Made d 80 (.func (.func k) #[ptr d] #[]) 1 O W) := by
  have HE := Lib.hid (made_end (f := 80) (u := .func (.func k) #[ptr d] #[]) (t := 1) hM)
  have hmf := hmf
  go_enter Tryd.func74, Tryd.ntmps74
  go_wp2_with fail
  go_ret
  exact HE.out
/-- The steps are laid, out of a list that is made for it. -/
theorem then_lit {W : World} (hM : Mem d L size lv s O W) (l : List Stp) (vs : List Value) (n : Nat) (hn : vs.length = n) (ha : ArgsIn O W d l vs) (hl : n ≤ 1000) (ht : s.todo.length ≤ 1000000) :
    Calls Tryd.prog 24 #[ptr d, .slice (some ⟨W.heap.size, 0, none⟩) n n] (W.alloc (.cells vs.toArray 1)) fun e W' => e = .returned (.tuple #[]) ∧ ∃ O', Mem d L size lv { s with todo := l ++ s.todo } O' W' ∧ Stay O O' W W' := by
  subst hn
  have hb : Below W.heap.size W (W.alloc (.cells vs.toArray 1)) := (Below.refl _ _).alloc (Nat.le_refl _) _
  have hn := heap_new W (.cells vs.toArray 1)
  have hargs : ∀ {l : List Stp} {vs : List Value} {W' : World}, Stay O O W W' → ArgsIn O W d l vs → ArgsIn O W' d l vs := by
    intro l
    induction l with
    | nil => intro vs W' _ h; exact h
    | cons x r ih => rintro vs W' hS ⟨v, us, h1, h2, h3⟩; exact ⟨v, us, h1, h2.stay hS, ih hS h3⟩
  refine (then_any (hM.below hb) l vs W.heap.size ⟨by simp, fun h => by have := hM.lt _ h; omega, _, hn, rfl⟩ hn (hargs (.of_below hb) ha) hl ht).mono ?_
  rintro e W' ⟨h1, O', h2, h3⟩
  exact ⟨h1, O', h2, (Stay.of_below hb).trans h3⟩
/-- A flag that does not hold is a wrong word. -/
theorem need_bad {W : World} (hM : Mem d L size lv s O W) (hi : s.i ≤ L.length) : Calls Tryd.prog 60 #[ptr d, .bool false] W (Panics L size s.i W) := by
  have c1 := fail_any hM hi
  clear hM hi
  go_enter Tryd.func60, Tryd.ntmps60
  go_wp2_with fail
  refine c1.mono ?_
  rintro e w1 ⟨rfl, hb1⟩
  dsimp only
  exact ⟨rfl, rfl, hb1⟩
/-- The reader goes on by a word. -/
theorem Mem.next {W : World} (hM : Mem d L size lv s O W) (j : Int) (hj : j = ((s.i + 1 : Nat) : Int)) : Mem d L size lv { s with i := s.i + 1 } O (W.setCell ⟨d, 1, none⟩ (.int .i64 j)) ∧ Stay O O W (W.setCell ⟨d, 1, none⟩ (.int .i64 j)) ∧ W.cell? ⟨d, 1, none⟩ = some (.int .i64 s.i) ∧ W.frozen? ⟨d, 1, none⟩ = false := by
  subst hj
  obtain ⟨tv, ov, bs, vs, xs, h⟩ := hM
  have hOd : O d := (h.own d).2 (.inl rfl)
  have hset : ∀ k, k ≠ d → (W.setCell ⟨d, 1, none⟩ (.int .i64 ((s.i + 1 : Nat) : Int))).heap[k]? = W.heap[k]? := fun k hk => Below.heap_setCell _ _ _ _ hk
  have hS : Stay O O W (W.setCell ⟨d, 1, none⟩ (.int .i64 ((s.i + 1 : Nat) : Int))) := ⟨rfl, rfl, rfl, by simp, fun _ h => .inl h, fun k _ hO => hset k (fun e => hO (e ▸ hOd))⟩
  have hb := h.blk
  have ne : ∀ {k : Nat} {t : TypeId}, Ty W k t → t ≠ 50 → k ≠ d := fun h1 h2 e => by rw [e] at h1; exact h2 (h1.one ⟨_, _, hb⟩)
  refine ⟨⟨tv, ov, bs, vs, xs, Go.Joins.block_setCell hb _, h.words.stay hS, owns_at h.todoR (fun k hk => hset k (ne (owns_ty h.todoR hk) (by decide))), h.todo.stay hS, owns_at h.opnR (fun k hk => hset k (ne (owns_ty h.opnR hk) (by decide))),
    OpensIn.stay hS h.opn (fun k hk => hset k (ne (opens_ty h.opn hk) (by decide))), h.apart, h.own⟩, hS, by simp [World.cell?, hb], by simp [World.frozen?, hb]⟩
set_option maxHeartbeats 4000000 in
theorem need_ok {W : World} (hM : Mem d L size lv s O W) (hi : s.i ≤ 1000000) : Calls Tryd.prog 60 #[ptr d, .bool true] W fun e W' => e = .returned (.tuple #[]) ∧ Mem d L size lv { s with i := s.i + 1 } O W' ∧ Stay O O W W' := by
  obtain ⟨h1, h2, c1, f1⟩ := hM.next ((s.i : Int) + 1) (by omega)
  have e0 : IntKind.i64.wrap ((s.i : Int) + 1) = (s.i : Int) + 1 := IntWalk.i64_in _ (by omega)
  have H1 := Lib.hid h1
  have H2 := Lib.hid h2
  obtain ⟨i, hi'⟩ : ∃ i, s.i = i := ⟨_, rfl⟩
  rw [hi'] at c1 e0 H1 H2
  rw [hi']
  clear h1 h2 hM hi hi'
  go_enter Tryd.func60, Tryd.ntmps60
  go_wp2_with fail
  go_end0
  exact ⟨rfl, H1.out, H2.out⟩
end
end Go.Proofs.YtnjhmjkonmmomaaDoor.K
end
/- KGram1: The program's reader: rules that begin a part. -/
section
namespace Go.Proofs.YtnjhmjkonmmomaaDoor.K
open Go.RowKit
open Go.Lib hiding intOf
open Go.Proofs.YtnjhmjkonmmomaaDoor.U Go.Proofs.YtnjhmjkonmmomaaDoor.S Go.Proofs.YtnjhmjkonmmomaaDoor.T

section
variable {d : Nat} {L : List TokP} {size : Nat} {lv : Value} {s : St} {O : Nat → Prop}
set_option maxHeartbeats 4000000 in
set_option maxRecDepth 20000 in
theorem g_varDecl {W : World} (hM : Mem d L size lv s O W) (hs : Small L s) : Calls Tryd.prog 42 #[ptr d] W (Does d L size lv s.i O W (varDecl L size s)) := by
  have hmf := hmf
  go_enter Tryd.func42, Tryd.ntmps42
  go_wp2_with fail
  refine (begin_any hM hs.i kVar hs.opn).mono ?_
  rintro e v1 ⟨rfl, O1, hM1, hS1⟩
  dsimp only
  go_wp2_with fail
  refine (word_make hM1 kVar).mono ?_
  rintro e v2 ⟨p2, q2, rfl, hp2, hq2, hb2⟩
  dsimp only
  have hM2 := hM1.below hb2
  go_wp2_with fail
  refine (then_lit hM2 [.word kVar, .m .name, .m .typeOf, .m .fin] [.func (.func 59) #[] #[ptr p2, ptr q2], .func (.func 37) #[ptr d] #[], .func (.func 64) #[ptr d] #[], .func (.func 41) #[ptr d] #[]] 4 rfl ⟨_, _, rfl, ⟨p2, q2, rfl, hp2, hq2⟩, ⟨_, _, rfl, rfl, ⟨_, _, rfl, rfl, ⟨_, _, rfl, rfl, rfl⟩⟩⟩⟩ (by decide) hs.todo).mono ?_
  rintro e v3 ⟨rfl, O3, hM3, hS3⟩
  dsimp only
  (try go_wp2_with fail)
  first | go_end0 | refine bodyPost_ret (results_none rfl _ _ _) rfl ?_
  exact ⟨rfl, O3, hM3, ((hS1.trans (Stay.of_below hb2)).trans hS3)⟩
set_option maxHeartbeats 4000000 in
set_option maxRecDepth 20000 in
theorem g_params {W : World} (hM : Mem d L size lv s O W) (hs : Small L s) : Calls Tryd.prog 38 #[ptr d] W (Does d L size lv s.i O W (execM L size .params s)) := by
  have hmf := hmf
  go_enter Tryd.func38, Tryd.ntmps38
  go_wp2_with fail
  refine (begin_any hM hs.i kParams hs.opn).mono ?_
  rintro e v1 ⟨rfl, O1, hM1, hS1⟩
  dsimp only
  go_wp2_with fail
  refine (word_make hM1 [40]).mono ?_
  rintro e v2 ⟨p2, q2, rfl, hp2, hq2, hb2⟩
  dsimp only
  have hM2 := hM1.below hb2
  go_wp2_with fail
  refine (commas_make hM2 63).mono ?_
  rintro e v3 ⟨p3, q3, rfl, hp3, hq3, hb3⟩
  dsimp only
  replace hp2 := hp2.below hb3
  replace hq2 := hq2.below hb3
  have hM3 := hM2.below hb3
  go_wp2_with fail
  refine (word_make hM3 [41]).mono ?_
  rintro e v4 ⟨p4, q4, rfl, hp4, hq4, hb4⟩
  dsimp only
  replace hp2 := hp2.below hb4
  replace hq2 := hq2.below hb4
  replace hp3 := hp3.below hb4
  replace hq3 := hq3.below hb4
  have hM4 := hM3.below hb4
  go_wp2_with fail
  refine (then_lit hM4 [.word [40], .commas .param, .word [41], .m .fin] [.func (.func 59) #[] #[ptr p2, ptr q2], .func (.func 73) #[] #[ptr p3, ptr q3], .func (.func 59) #[] #[ptr p4, ptr q4], .func (.func 41) #[ptr d] #[]] 4 rfl ⟨_, _, rfl, ⟨p2, q2, rfl, hp2, hq2⟩, ⟨_, _, rfl, ⟨p3, q3, rfl, hp3, hq3⟩, ⟨_, _, rfl, ⟨p4, q4, rfl, hp4, hq4⟩, ⟨_, _, rfl, rfl, rfl⟩⟩⟩⟩ (by decide) hs.todo).mono ?_
  rintro e v5 ⟨rfl, O5, hM5, hS5⟩
  dsimp only
  (try go_wp2_with fail)
  first | go_end0 | refine bodyPost_ret (results_none rfl _ _ _) rfl ?_
  exact ⟨rfl, O5, hM5, ((((hS1.trans (Stay.of_below hb2)).trans (Stay.of_below hb3)).trans (Stay.of_below hb4)).trans hS5)⟩
set_option maxHeartbeats 4000000 in
set_option maxRecDepth 20000 in
theorem g_param {W : World} (hM : Mem d L size lv s O W) (hs : Small L s) : Calls Tryd.prog 63 #[ptr d] W (Does d L size lv s.i O W (execM L size .param s)) := by
  have hmf := hmf
  go_enter Tryd.func63, Tryd.ntmps63
  go_wp2_with fail
  refine (begin_any hM hs.i kParam hs.opn).mono ?_
  rintro e v1 ⟨rfl, O1, hM1, hS1⟩
  dsimp only
  go_wp2_with fail
  refine (then_lit hM1 [.m .name, .m .typeOf, .m .fin] [.func (.func 37) #[ptr d] #[], .func (.func 64) #[ptr d] #[], .func (.func 41) #[ptr d] #[]] 3 rfl ⟨_, _, rfl, rfl, ⟨_, _, rfl, rfl, ⟨_, _, rfl, rfl, rfl⟩⟩⟩ (by decide) hs.todo).mono ?_
  rintro e v2 ⟨rfl, O2, hM2, hS2⟩
  dsimp only
  (try go_wp2_with fail)
  first | go_end0 | refine bodyPost_ret (results_none rfl _ _ _) rfl ?_
  exact ⟨rfl, O2, hM2, (hS1.trans hS2)⟩
set_option maxHeartbeats 4000000 in
set_option maxRecDepth 20000 in
theorem g_field {W : World} (hM : Mem d L size lv s O W) (hs : Small L s) : Calls Tryd.prog 44 #[ptr d] W (Does d L size lv s.i O W (execM L size .field s)) := by
  have hmf := hmf
  go_enter Tryd.func44, Tryd.ntmps44
  go_wp2_with fail
  refine (begin_any hM hs.i kField hs.opn).mono ?_
  rintro e v1 ⟨rfl, O1, hM1, hS1⟩
  dsimp only
  go_wp2_with fail
  refine (then_lit hM1 [.m .name, .m .typeOf, .m .fin] [.func (.func 37) #[ptr d] #[], .func (.func 64) #[ptr d] #[], .func (.func 41) #[ptr d] #[]] 3 rfl ⟨_, _, rfl, rfl, ⟨_, _, rfl, rfl, ⟨_, _, rfl, rfl, rfl⟩⟩⟩ (by decide) hs.todo).mono ?_
  rintro e v2 ⟨rfl, O2, hM2, hS2⟩
  dsimp only
  (try go_wp2_with fail)
  first | go_end0 | refine bodyPost_ret (results_none rfl _ _ _) rfl ?_
  exact ⟨rfl, O2, hM2, (hS1.trans hS2)⟩
set_option maxHeartbeats 4000000 in
set_option maxRecDepth 20000 in
theorem g_block {W : World} (hM : Mem d L size lv s O W) (hs : Small L s) : Calls Tryd.prog 40 #[ptr d] W (Does d L size lv s.i O W (blockM L size s)) := by
  have hmf := hmf
  go_enter Tryd.func40, Tryd.ntmps40
  go_wp2_with fail
  refine (begin_any hM hs.i kBlock hs.opn).mono ?_
  rintro e v1 ⟨rfl, O1, hM1, hS1⟩
  dsimp only
  go_wp2_with fail
  refine (word_make hM1 [123]).mono ?_
  rintro e v2 ⟨p2, q2, rfl, hp2, hq2, hb2⟩
  dsimp only
  have hM2 := hM1.below hb2
  go_wp2_with fail
  refine (lines_make hM2 65).mono ?_
  rintro e v3 ⟨p3, q3, rfl, hp3, hq3, hb3⟩
  dsimp only
  replace hp2 := hp2.below hb3
  replace hq2 := hq2.below hb3
  have hM3 := hM2.below hb3
  go_wp2_with fail
  refine (word_make hM3 [125]).mono ?_
  rintro e v4 ⟨p4, q4, rfl, hp4, hq4, hb4⟩
  dsimp only
  replace hp2 := hp2.below hb4
  replace hq2 := hq2.below hb4
  replace hp3 := hp3.below hb4
  replace hq3 := hq3.below hb4
  have hM4 := hM3.below hb4
  go_wp2_with fail
  refine (then_lit hM4 [.word [123], .lines .stmt, .word [125], .m .fin] [.func (.func 59) #[] #[ptr p2, ptr q2], .func (.func 67) #[] #[ptr p3, ptr q3], .func (.func 59) #[] #[ptr p4, ptr q4], .func (.func 41) #[ptr d] #[]] 4 rfl ⟨_, _, rfl, ⟨p2, q2, rfl, hp2, hq2⟩, ⟨_, _, rfl, ⟨p3, q3, rfl, hp3, hq3⟩, ⟨_, _, rfl, ⟨p4, q4, rfl, hp4, hq4⟩, ⟨_, _, rfl, rfl, rfl⟩⟩⟩⟩ (by decide) hs.todo).mono ?_
  rintro e v5 ⟨rfl, O5, hM5, hS5⟩
  dsimp only
  (try go_wp2_with fail)
  first | go_end0 | refine bodyPost_ret (results_none rfl _ _ _) rfl ?_
  exact ⟨rfl, O5, hM5, ((((hS1.trans (Stay.of_below hb2)).trans (Stay.of_below hb3)).trans (Stay.of_below hb4)).trans hS5)⟩
set_option maxHeartbeats 4000000 in
set_option maxRecDepth 20000 in
theorem g_ifStmt {W : World} (hM : Mem d L size lv s O W) (hs : Small L s) : Calls Tryd.prog 76 #[ptr d] W (Does d L size lv s.i O W (ifStmt L size s)) := by
  have hmf := hmf
  go_enter Tryd.func76, Tryd.ntmps76
  go_wp2_with fail
  refine (begin_any hM hs.i kIf hs.opn).mono ?_
  rintro e v1 ⟨rfl, O1, hM1, hS1⟩
  dsimp only
  go_wp2_with fail
  refine (word_make hM1 kIf).mono ?_
  rintro e v2 ⟨p2, q2, rfl, hp2, hq2, hb2⟩
  dsimp only
  have hM2 := hM1.below hb2
  go_wp2_with fail
  refine (then_lit hM2 [.word kIf, .m .expr, .m .block, .m .otherwise, .m .fin] [.func (.func 59) #[] #[ptr p2, ptr q2], .func (.func 77) #[ptr d] #[], .func (.func 40) #[ptr d] #[], .func (.func 81) #[ptr d] #[], .func (.func 41) #[ptr d] #[]] 5 rfl ⟨_, _, rfl, ⟨p2, q2, rfl, hp2, hq2⟩, ⟨_, _, rfl, rfl, ⟨_, _, rfl, rfl, ⟨_, _, rfl, rfl, ⟨_, _, rfl, rfl, rfl⟩⟩⟩⟩⟩ (by decide) hs.todo).mono ?_
  rintro e v3 ⟨rfl, O3, hM3, hS3⟩
  dsimp only
  (try go_wp2_with fail)
  first | go_end0 | refine bodyPost_ret (results_none rfl _ _ _) rfl ?_
  exact ⟨rfl, O3, hM3, ((hS1.trans (Stay.of_below hb2)).trans hS3)⟩
set_option maxHeartbeats 4000000 in
set_option maxRecDepth 20000 in
theorem g_expr {W : World} (hM : Mem d L size lv s O W) (hs : Small L s) : Calls Tryd.prog 77 #[ptr d] W (Does d L size lv s.i O W (exprM s)) := by
  have hmf := hmf
  go_enter Tryd.func77, Tryd.ntmps77
  go_wp2_with fail
  refine (then_lit hM [.m .pre, .m .between] [.func (.func 82) #[ptr d] #[], .func (.func 83) #[ptr d] #[]] 2 rfl ⟨_, _, rfl, rfl, ⟨_, _, rfl, rfl, rfl⟩⟩ (by decide) hs.todo).mono ?_
  rintro e v1 ⟨rfl, O1, hM1, hS1⟩
  dsimp only
  (try go_wp2_with fail)
  first | go_end0 | refine bodyPost_ret (results_none rfl _ _ _) rfl ?_
  exact ⟨rfl, O1, hM1, hS1⟩
end
end Go.Proofs.YtnjhmjkonmmomaaDoor.K
end
/- KGram2: The program's reader: rules that look at the next word. -/
section
namespace Go.Proofs.YtnjhmjkonmmomaaDoor.K
open Go.RowKit
open Go.Lib hiding intOf
open Go.Proofs.YtnjhmjkonmmomaaDoor.U Go.Proofs.YtnjhmjkonmmomaaDoor.S Go.Proofs.YtnjhmjkonmmomaaDoor.T

section
variable {d : Nat} {L : List TokP} {size : Nat} {lv : Value} {s : St} {O : Nat → Prop}
/-- The next word's texts and kind, as letters. -/
theorem next_txt {W : World} (hM : Mem d L size lv s O W) (hi : s.i ≤ L.length) : ∃ (tw tf te : Int) (y : ByteArray), (∀ x, isP L size x s.i = (y.toList == x)) ∧ (∀ x, isW L size x s.i = (tw == x)) ∧ (tok L size s.i).t = y.toList ∧
    Calls Tryd.prog 34 #[ptr d] W fun e W' => e = .returned (.agg #[.int .i64 tw, .string y, .int .i64 tf, .int .i64 te]) ∧ Below W.heap.size W W' := by
  have c1 := next_any hM hi
  unfold isP isW
  generalize tok L size s.i = t at c1 ⊢
  obtain ⟨tw, tt, tf, te⟩ := t
  dsimp only [tokV] at c1 ⊢
  have hyl : (⟨tt.toArray⟩ : ByteArray).toList = tt := by rw [ByteArray.toList_eq]
  exact ⟨tw, tf, te, ⟨tt.toArray⟩, fun x => by rw [hyl], fun x => rfl, hyl.symm, c1⟩
theorem Does.below {W W1 W' : World} {r : Res} {e : Ending} {i : Nat} (h : Does d L size lv i O W1 r e W') (hb : Below W.heap.size W W1) : Does d L size lv i O W r e W' := by
  cases r with
  | go s' => obtain ⟨h1, O', h2, h3⟩ := h; exact ⟨h1, O', h2, (Stay.of_below hb).trans h3⟩
  | wrong => obtain ⟨h1, h2⟩ := h; exact ⟨h1, hb.trans (h2.mono hb.size)⟩
  | stuck => trivial
theorem load_rd {d bx : Nat} {W : World} (h : W.cell? ⟨bx, 0, none⟩ = some (ptr d)) : (Instr.loadAt 39 (.pointer (some ⟨bx, 0, none⟩))).run Tryd.prog W = .ok (ptr d) W := by
  simp [go_sem, h]
theorem load_fn {d bx k : Nat} {W : World} (h : W.cell? ⟨bx, 0, none⟩ = some (.func (.func k) #[ptr d] #[])) : (Instr.loadAt 1 (.pointer (some ⟨bx, 0, none⟩))).run Tryd.prog W = .ok (.func (.func k) #[ptr d] #[]) W := by
  simp [go_sem, h]
theorem load_str {bx : Nat} {x : ByteArray} {W : World} (h : W.cell? ⟨bx, 0, none⟩ = some (.string x)) : (Instr.loadAt 9 (.pointer (some ⟨bx, 0, none⟩))).run Tryd.prog W = .ok (.string x) W := by
  simp [go_sem, h]
theorem BoxAt.cell {W : World} {b : Nat} {v : Value} {t : TypeId} (h : BoxAt O W b v t) : W.cell? ⟨b, 0, none⟩ = some v := by
  have := h.2
  simp [World.cell?, this]
theorem Small.at {L : List TokP} {s : St} (h : Small L s) {j : Nat} (hj : j ≤ L.length) : Small L { s with i := j } := ⟨hj, h.len, h.todo, h.opn, h.kids⟩
set_option maxHeartbeats 4000000 in
set_option maxRecDepth 20000 in
theorem g_decl {W : World} (hM : Mem d L size lv s O W) (hs : Small L s) : Calls Tryd.prog 25 #[ptr d] W (Does d L size lv s.i O W (execM L size .decl s)) := by
  obtain ⟨tw, tf, te, y, hP, hW, _, c1⟩ := next_txt hM hs.i
  have hmf := hmf
  have hfl := fun X => fld1 (.int .i64 tw) (.string y) (.int .i64 tf) (.int .i64 te) X
  simp only [execM, hP]
  clear hP hW
  obtain ⟨b0, h0⟩ : ∃ b, (y.toList == [102, 117, 110, 99]) = b := ⟨_, rfl⟩
  cases b0 with
  | true =>
    rw [if_pos (show (y.toList == kFunc) = true from h0)]
    go_enter Tryd.func25, Tryd.ntmps25
    go_wp2_with fail
    refine c1.mono ?_
    rintro e v0 ⟨rfl, hb0⟩
    dsimp only
    have hM0 := hM.below hb0
    go_wp2_with fail
    refine (begin_any hM0 hs.i kFunc hs.opn).mono ?_
    rintro e v1 ⟨rfl, O1, hM1, hS1⟩
    dsimp only
    go_wp2_with fail
    refine (word_make hM1 kFunc).mono ?_
    rintro e v2 ⟨p2, q2, rfl, hp2, hq2, hb2⟩
    dsimp only
    have hM2 := hM1.below hb2
    go_wp2_with fail
    refine (then_lit hM2 [.word kFunc, .m .name, .m .params, .m .result, .m .block, .m .fin] [.func (.func 59) #[] #[ptr p2, ptr q2], .func (.func 37) #[ptr d] #[], .func (.func 38) #[ptr d] #[], .func (.func 39) #[ptr d] #[], .func (.func 40) #[ptr d] #[], .func (.func 41) #[ptr d] #[]] 6 rfl ⟨_, _, rfl, ⟨p2, q2, rfl, hp2, hq2⟩, ⟨_, _, rfl, rfl, ⟨_, _, rfl, rfl, ⟨_, _, rfl, rfl, ⟨_, _, rfl, rfl, ⟨_, _, rfl, rfl, rfl⟩⟩⟩⟩⟩⟩ (by decide) hs.todo).mono ?_
    rintro e v3 ⟨rfl, O3, hM3, hS3⟩
    dsimp only
    (try go_wp2_with fail)
    first | go_end0 | refine bodyPost_ret (results_none rfl _ _ _) rfl ?_
    exact ⟨rfl, O3, hM3, ((((Stay.of_below hb0).trans hS1).trans (Stay.of_below hb2)).trans hS3)⟩
  | false =>
  rw [if_neg (show ¬ (y.toList == kFunc) = true by rw [show (y.toList == kFunc) = false from h0]; decide)]
  obtain ⟨b1, h1⟩ : ∃ b, (y.toList == [118, 97, 114]) = b := ⟨_, rfl⟩
  cases b1 with
  | true =>
    rw [if_pos (show (y.toList == kVar) = true from h1)]
    go_enter Tryd.func25, Tryd.ntmps25
    go_wp2_with fail
    refine c1.mono ?_
    rintro e v0 ⟨rfl, hb0⟩
    dsimp only
    have hM0 := hM.below hb0
    go_wp2_with fail
    refine (g_varDecl hM0 hs).mono ?_
    rintro e v9 ⟨rfl, O9, hM9, hS9⟩
    dsimp only
    (try go_wp2_with fail)
    first | go_end0 | refine bodyPost_ret (results_none rfl _ _ _) rfl ?_
    exact ⟨rfl, O9, hM9, (Stay.of_below hb0).trans hS9⟩
  | false =>
  rw [if_neg (show ¬ (y.toList == kVar) = true by rw [show (y.toList == kVar) = false from h1]; decide)]
  obtain ⟨b2, h2⟩ : ∃ b, (y.toList == [116, 121, 112, 101]) = b := ⟨_, rfl⟩
  cases b2 with
  | true =>
    rw [if_pos (show (y.toList == kType) = true from h2)]
    go_enter Tryd.func25, Tryd.ntmps25
    go_wp2_with fail
    refine c1.mono ?_
    rintro e v0 ⟨rfl, hb0⟩
    dsimp only
    have hM0 := hM.below hb0
    go_wp2_with fail
    refine (begin_any hM0 hs.i kType hs.opn).mono ?_
    rintro e v1 ⟨rfl, O1, hM1, hS1⟩
    dsimp only
    go_wp2_with fail
    refine (word_make hM1 kType).mono ?_
    rintro e v2 ⟨p2, q2, rfl, hp2, hq2, hb2⟩
    dsimp only
    have hM2 := hM1.below hb2
    go_wp2_with fail
    refine (word_make hM2 kStruct).mono ?_
    rintro e v3 ⟨p3, q3, rfl, hp3, hq3, hb3⟩
    dsimp only
    replace hp2 := hp2.below hb3
    replace hq2 := hq2.below hb3
    have hM3 := hM2.below hb3
    go_wp2_with fail
    refine (word_make hM3 [123]).mono ?_
    rintro e v4 ⟨p4, q4, rfl, hp4, hq4, hb4⟩
    dsimp only
    replace hp2 := hp2.below hb4
    replace hq2 := hq2.below hb4
    replace hp3 := hp3.below hb4
    replace hq3 := hq3.below hb4
    have hM4 := hM3.below hb4
    go_wp2_with fail
    refine (lines_make hM4 44).mono ?_
    rintro e v5 ⟨p5, q5, rfl, hp5, hq5, hb5⟩
    dsimp only
    replace hp2 := hp2.below hb5
    replace hq2 := hq2.below hb5
    replace hp3 := hp3.below hb5
    replace hq3 := hq3.below hb5
    replace hp4 := hp4.below hb5
    replace hq4 := hq4.below hb5
    have hM5 := hM4.below hb5
    go_wp2_with fail
    refine (word_make hM5 [125]).mono ?_
    rintro e v6 ⟨p6, q6, rfl, hp6, hq6, hb6⟩
    dsimp only
    replace hp2 := hp2.below hb6
    replace hq2 := hq2.below hb6
    replace hp3 := hp3.below hb6
    replace hq3 := hq3.below hb6
    replace hp4 := hp4.below hb6
    replace hq4 := hq4.below hb6
    replace hp5 := hp5.below hb6
    replace hq5 := hq5.below hb6
    have hM6 := hM5.below hb6
    go_wp2_with fail
    refine (then_lit hM6 [.word kType, .m .name, .word kStruct, .word [123], .lines .field, .word [125], .m .fin] [.func (.func 59) #[] #[ptr p2, ptr q2], .func (.func 37) #[ptr d] #[], .func (.func 59) #[] #[ptr p3, ptr q3], .func (.func 59) #[] #[ptr p4, ptr q4], .func (.func 67) #[] #[ptr p5, ptr q5], .func (.func 59) #[] #[ptr p6, ptr q6], .func (.func 41) #[ptr d] #[]] 7 rfl ⟨_, _, rfl, ⟨p2, q2, rfl, hp2, hq2⟩, ⟨_, _, rfl, rfl, ⟨_, _, rfl, ⟨p3, q3, rfl, hp3, hq3⟩, ⟨_, _, rfl, ⟨p4, q4, rfl, hp4, hq4⟩, ⟨_, _, rfl, ⟨p5, q5, rfl, hp5, hq5⟩, ⟨_, _, rfl, ⟨p6, q6, rfl, hp6, hq6⟩, ⟨_, _, rfl, rfl, rfl⟩⟩⟩⟩⟩⟩⟩ (by decide) hs.todo).mono ?_
    rintro e v7 ⟨rfl, O7, hM7, hS7⟩
    dsimp only
    (try go_wp2_with fail)
    first | go_end0 | refine bodyPost_ret (results_none rfl _ _ _) rfl ?_
    exact ⟨rfl, O7, hM7, ((((((((Stay.of_below hb0).trans hS1).trans (Stay.of_below hb2)).trans (Stay.of_below hb3)).trans (Stay.of_below hb4)).trans (Stay.of_below hb5)).trans (Stay.of_below hb6)).trans hS7)⟩
  | false =>
  rw [if_neg (show ¬ (y.toList == kType) = true by rw [show (y.toList == kType) = false from h2]; decide)]
  go_enter Tryd.func25, Tryd.ntmps25
  go_wp2_with fail
  refine c1.mono ?_
  rintro e v0 ⟨rfl, hb0⟩
  dsimp only
  have hM0 := hM.below hb0
  go_wp2_with fail
  refine (fail_any hM0 hs.i).mono ?_
  rintro e v9 ⟨rfl, hb9⟩
  dsimp only
  exact ⟨rfl, rfl, hb0.trans (hb9.mono hb0.size)⟩
set_option maxHeartbeats 4000000 in
set_option maxRecDepth 20000 in
theorem g_typeOf {W : World} (hM : Mem d L size lv s O W) (hs : Small L s) : Calls Tryd.prog 64 #[ptr d] W (Does d L size lv s.i O W (execM L size .typeOf s)) := by
  obtain ⟨tw, tf, te, y, hP, hW, _, c1⟩ := next_txt hM hs.i
  have hmf := hmf
  have hfl := fun X => fld1 (.int .i64 tw) (.string y) (.int .i64 tf) (.int .i64 te) X
  simp only [execM, hP]
  clear hP hW
  obtain ⟨b0, h0⟩ : ∃ b, (y.toList == [42]) = b := ⟨_, rfl⟩
  cases b0 with
  | true =>
    rw [if_pos (show (y.toList == [42]) = true from h0)]
    go_enter Tryd.func64, Tryd.ntmps64
    go_wp2_with fail
    refine c1.mono ?_
    rintro e v0 ⟨rfl, hb0⟩
    dsimp only
    have hM0 := hM.below hb0
    go_wp2_with fail
    refine (begin_any hM0 hs.i kStar hs.opn).mono ?_
    rintro e v1 ⟨rfl, O1, hM1, hS1⟩
    dsimp only
    go_wp2_with fail
    refine (word_make hM1 [42]).mono ?_
    rintro e v2 ⟨p2, q2, rfl, hp2, hq2, hb2⟩
    dsimp only
    have hM2 := hM1.below hb2
    go_wp2_with fail
    refine (then_lit hM2 [.word [42], .m .typeOf, .m .fin] [.func (.func 59) #[] #[ptr p2, ptr q2], .func (.func 64) #[ptr d] #[], .func (.func 41) #[ptr d] #[]] 3 rfl ⟨_, _, rfl, ⟨p2, q2, rfl, hp2, hq2⟩, ⟨_, _, rfl, rfl, ⟨_, _, rfl, rfl, rfl⟩⟩⟩ (by decide) hs.todo).mono ?_
    rintro e v3 ⟨rfl, O3, hM3, hS3⟩
    dsimp only
    (try go_wp2_with fail)
    first | go_end0 | refine bodyPost_ret (results_none rfl _ _ _) rfl ?_
    exact ⟨rfl, O3, hM3, ((((Stay.of_below hb0).trans hS1).trans (Stay.of_below hb2)).trans hS3)⟩
  | false =>
  rw [if_neg (show ¬ (y.toList == [42]) = true by rw [show (y.toList == [42]) = false from h0]; decide)]
  obtain ⟨b1, h1⟩ : ∃ b, (y.toList == [91]) = b := ⟨_, rfl⟩
  cases b1 with
  | true =>
    rw [if_pos (show (y.toList == [91]) = true from h1)]
    go_enter Tryd.func64, Tryd.ntmps64
    go_wp2_with fail
    refine c1.mono ?_
    rintro e v0 ⟨rfl, hb0⟩
    dsimp only
    have hM0 := hM.below hb0
    go_wp2_with fail
    refine (begin_any hM0 hs.i kSlice hs.opn).mono ?_
    rintro e v1 ⟨rfl, O1, hM1, hS1⟩
    dsimp only
    go_wp2_with fail
    refine (word_make hM1 [91]).mono ?_
    rintro e v2 ⟨p2, q2, rfl, hp2, hq2, hb2⟩
    dsimp only
    have hM2 := hM1.below hb2
    go_wp2_with fail
    refine (word_make hM2 [93]).mono ?_
    rintro e v3 ⟨p3, q3, rfl, hp3, hq3, hb3⟩
    dsimp only
    replace hp2 := hp2.below hb3
    replace hq2 := hq2.below hb3
    have hM3 := hM2.below hb3
    go_wp2_with fail
    refine (then_lit hM3 [.word [91], .word [93], .m .typeOf, .m .fin] [.func (.func 59) #[] #[ptr p2, ptr q2], .func (.func 59) #[] #[ptr p3, ptr q3], .func (.func 64) #[ptr d] #[], .func (.func 41) #[ptr d] #[]] 4 rfl ⟨_, _, rfl, ⟨p2, q2, rfl, hp2, hq2⟩, ⟨_, _, rfl, ⟨p3, q3, rfl, hp3, hq3⟩, ⟨_, _, rfl, rfl, ⟨_, _, rfl, rfl, rfl⟩⟩⟩⟩ (by decide) hs.todo).mono ?_
    rintro e v4 ⟨rfl, O4, hM4, hS4⟩
    dsimp only
    (try go_wp2_with fail)
    first | go_end0 | refine bodyPost_ret (results_none rfl _ _ _) rfl ?_
    exact ⟨rfl, O4, hM4, (((((Stay.of_below hb0).trans hS1).trans (Stay.of_below hb2)).trans (Stay.of_below hb3)).trans hS4)⟩
  | false =>
  rw [if_neg (show ¬ (y.toList == [91]) = true by rw [show (y.toList == [91]) = false from h1]; decide)]
  go_enter Tryd.func64, Tryd.ntmps64
  go_wp2_with fail
  refine c1.mono ?_
  rintro e v0 ⟨rfl, hb0⟩
  dsimp only
  have hM0 := hM.below hb0
  go_wp2_with fail
  refine (begin_any hM0 hs.i kName hs.opn).mono ?_
  rintro e v1 ⟨rfl, O1, hM1, hS1⟩
  dsimp only
  go_wp2_with fail
  refine (then_lit hM1 [.m .name, .m .fin] [.func (.func 37) #[ptr d] #[], .func (.func 41) #[ptr d] #[]] 2 rfl ⟨_, _, rfl, rfl, ⟨_, _, rfl, rfl, rfl⟩⟩ (by decide) hs.todo).mono ?_
  rintro e v2 ⟨rfl, O2, hM2, hS2⟩
  dsimp only
  (try go_wp2_with fail)
  first | go_end0 | refine bodyPost_ret (results_none rfl _ _ _) rfl ?_
  exact ⟨rfl, O2, hM2, (((Stay.of_below hb0).trans hS1).trans hS2)⟩
set_option maxHeartbeats 4000000 in
set_option maxRecDepth 20000 in
theorem g_stmt {W : World} (hM : Mem d L size lv s O W) (hs : Small L s) : Calls Tryd.prog 65 #[ptr d] W (Does d L size lv s.i O W (execM L size .stmt s)) := by
  obtain ⟨tw, tf, te, y, hP, hW, _, c1⟩ := next_txt hM hs.i
  have hmf := hmf
  have hfl := fun X => fld1 (.int .i64 tw) (.string y) (.int .i64 tf) (.int .i64 te) X
  simp only [execM, hP]
  clear hP hW
  obtain ⟨b0, h0⟩ : ∃ b, (y.toList == [118, 97, 114]) = b := ⟨_, rfl⟩
  cases b0 with
  | true =>
    rw [if_pos (show (y.toList == kVar) = true from h0)]
    go_enter Tryd.func65, Tryd.ntmps65
    go_wp2_with fail
    refine c1.mono ?_
    rintro e v0 ⟨rfl, hb0⟩
    dsimp only
    have hM0 := hM.below hb0
    go_wp2_with fail
    refine (g_varDecl hM0 hs).mono ?_
    rintro e v9 ⟨rfl, O9, hM9, hS9⟩
    dsimp only
    (try go_wp2_with fail)
    first | go_end0 | refine bodyPost_ret (results_none rfl _ _ _) rfl ?_
    exact ⟨rfl, O9, hM9, (Stay.of_below hb0).trans hS9⟩
  | false =>
  rw [if_neg (show ¬ (y.toList == kVar) = true by rw [show (y.toList == kVar) = false from h0]; decide)]
  obtain ⟨b1, h1⟩ : ∃ b, (y.toList == [114, 101, 116, 117, 114, 110]) = b := ⟨_, rfl⟩
  cases b1 with
  | true =>
    rw [if_pos (show (y.toList == kReturn) = true from h1)]
    go_enter Tryd.func65, Tryd.ntmps65
    go_wp2_with fail
    refine c1.mono ?_
    rintro e v0 ⟨rfl, hb0⟩
    dsimp only
    have hM0 := hM.below hb0
    go_wp2_with fail
    refine (begin_any hM0 hs.i kReturn hs.opn).mono ?_
    rintro e v1 ⟨rfl, O1, hM1, hS1⟩
    dsimp only
    go_wp2_with fail
    refine (word_make hM1 kReturn).mono ?_
    rintro e v2 ⟨p2, q2, rfl, hp2, hq2, hb2⟩
    dsimp only
    have hM2 := hM1.below hb2
    go_wp2_with fail
    refine (then_lit hM2 [.word kReturn, .m .returned, .m .fin] [.func (.func 59) #[] #[ptr p2, ptr q2], .func (.func 75) #[ptr d] #[], .func (.func 41) #[ptr d] #[]] 3 rfl ⟨_, _, rfl, ⟨p2, q2, rfl, hp2, hq2⟩, ⟨_, _, rfl, rfl, ⟨_, _, rfl, rfl, rfl⟩⟩⟩ (by decide) hs.todo).mono ?_
    rintro e v3 ⟨rfl, O3, hM3, hS3⟩
    dsimp only
    (try go_wp2_with fail)
    first | go_end0 | refine bodyPost_ret (results_none rfl _ _ _) rfl ?_
    exact ⟨rfl, O3, hM3, ((((Stay.of_below hb0).trans hS1).trans (Stay.of_below hb2)).trans hS3)⟩
  | false =>
  rw [if_neg (show ¬ (y.toList == kReturn) = true by rw [show (y.toList == kReturn) = false from h1]; decide)]
  obtain ⟨b2, h2⟩ : ∃ b, (y.toList == [105, 102]) = b := ⟨_, rfl⟩
  cases b2 with
  | true =>
    rw [if_pos (show (y.toList == kIf) = true from h2)]
    go_enter Tryd.func65, Tryd.ntmps65
    go_wp2_with fail
    refine c1.mono ?_
    rintro e v0 ⟨rfl, hb0⟩
    dsimp only
    have hM0 := hM.below hb0
    go_wp2_with fail
    refine (g_ifStmt hM0 hs).mono ?_
    rintro e v9 ⟨rfl, O9, hM9, hS9⟩
    dsimp only
    (try go_wp2_with fail)
    first | go_end0 | refine bodyPost_ret (results_none rfl _ _ _) rfl ?_
    exact ⟨rfl, O9, hM9, (Stay.of_below hb0).trans hS9⟩
  | false =>
  rw [if_neg (show ¬ (y.toList == kIf) = true by rw [show (y.toList == kIf) = false from h2]; decide)]
  obtain ⟨b3, h3⟩ : ∃ b, (y.toList == [102, 111, 114]) = b := ⟨_, rfl⟩
  cases b3 with
  | true =>
    rw [if_pos (show (y.toList == kFor) = true from h3)]
    go_enter Tryd.func65, Tryd.ntmps65
    go_wp2_with fail
    refine c1.mono ?_
    rintro e v0 ⟨rfl, hb0⟩
    dsimp only
    have hM0 := hM.below hb0
    go_wp2_with fail
    refine (begin_any hM0 hs.i kFor hs.opn).mono ?_
    rintro e v1 ⟨rfl, O1, hM1, hS1⟩
    dsimp only
    go_wp2_with fail
    refine (word_make hM1 kFor).mono ?_
    rintro e v2 ⟨p2, q2, rfl, hp2, hq2, hb2⟩
    dsimp only
    have hM2 := hM1.below hb2
    go_wp2_with fail
    refine (then_lit hM2 [.word kFor, .m .expr, .m .block, .m .fin] [.func (.func 59) #[] #[ptr p2, ptr q2], .func (.func 77) #[ptr d] #[], .func (.func 40) #[ptr d] #[], .func (.func 41) #[ptr d] #[]] 4 rfl ⟨_, _, rfl, ⟨p2, q2, rfl, hp2, hq2⟩, ⟨_, _, rfl, rfl, ⟨_, _, rfl, rfl, ⟨_, _, rfl, rfl, rfl⟩⟩⟩⟩ (by decide) hs.todo).mono ?_
    rintro e v3 ⟨rfl, O3, hM3, hS3⟩
    dsimp only
    (try go_wp2_with fail)
    first | go_end0 | refine bodyPost_ret (results_none rfl _ _ _) rfl ?_
    exact ⟨rfl, O3, hM3, ((((Stay.of_below hb0).trans hS1).trans (Stay.of_below hb2)).trans hS3)⟩
  | false =>
  rw [if_neg (show ¬ (y.toList == kFor) = true by rw [show (y.toList == kFor) = false from h3]; decide)]
  obtain ⟨b4, h4⟩ : ∃ b, (y.toList == [123]) = b := ⟨_, rfl⟩
  cases b4 with
  | true =>
    rw [if_pos (show (y.toList == [123]) = true from h4)]
    go_enter Tryd.func65, Tryd.ntmps65
    go_wp2_with fail
    refine c1.mono ?_
    rintro e v0 ⟨rfl, hb0⟩
    dsimp only
    have hM0 := hM.below hb0
    go_wp2_with fail
    refine (g_block hM0 hs).mono ?_
    rintro e v9 ⟨rfl, O9, hM9, hS9⟩
    dsimp only
    (try go_wp2_with fail)
    first | go_end0 | refine bodyPost_ret (results_none rfl _ _ _) rfl ?_
    exact ⟨rfl, O9, hM9, (Stay.of_below hb0).trans hS9⟩
  | false =>
  rw [if_neg (show ¬ (y.toList == [123]) = true by rw [show (y.toList == [123]) = false from h4]; decide)]
  go_enter Tryd.func65, Tryd.ntmps65
  go_wp2_with fail
  refine c1.mono ?_
  rintro e v0 ⟨rfl, hb0⟩
  dsimp only
  have hM0 := hM.below hb0
  go_wp2_with fail
  refine (begin_any hM0 hs.i kExpr hs.opn).mono ?_
  rintro e v1 ⟨rfl, O1, hM1, hS1⟩
  dsimp only
  go_wp2_with fail
  refine (then_lit hM1 [.m .expr, .m .assigned, .m .fin] [.func (.func 77) #[ptr d] #[], .func (.func 78) #[ptr d] #[], .func (.func 41) #[ptr d] #[]] 3 rfl ⟨_, _, rfl, rfl, ⟨_, _, rfl, rfl, ⟨_, _, rfl, rfl, rfl⟩⟩⟩ (by decide) hs.todo).mono ?_
  rintro e v2 ⟨rfl, O2, hM2, hS2⟩
  dsimp only
  (try go_wp2_with fail)
  first | go_end0 | refine bodyPost_ret (results_none rfl _ _ _) rfl ?_
  exact ⟨rfl, O2, hM2, (((Stay.of_below hb0).trans hS1).trans hS2)⟩
set_option maxHeartbeats 4000000 in
set_option maxRecDepth 20000 in
theorem g_operand {W : World} (hM : Mem d L size lv s O W) (hs : Small L s) : Calls Tryd.prog 86 #[ptr d] W (Does d L size lv s.i O W (execM L size .operand s)) := by
  obtain ⟨tw, tf, te, y, hP, hW, _, c1⟩ := next_txt hM hs.i
  have hmf := hmf
  have hfl := fun X => fld0 (.int .i64 tw) (.string y) (.int .i64 tf) (.int .i64 te) X
  simp only [execM, hW]
  clear hP hW
  obtain ⟨b0, h0⟩ : ∃ b, (tw == 1) = b := ⟨_, rfl⟩
  cases b0 with
  | true =>
    rw [if_pos (show (tw == 1) = true from h0)]
    go_enter Tryd.func86, Tryd.ntmps86
    go_wp2_with fail
    refine c1.mono ?_
    rintro e v0 ⟨rfl, hb0⟩
    dsimp only
    have hM0 := hM.below hb0
    go_wp2_with fail
    refine (begin_any hM0 hs.i kNum hs.opn).mono ?_
    rintro e v1 ⟨rfl, O1, hM1, hS1⟩
    dsimp only
    go_wp2_with fail
    refine (then_lit hM1 [.m .text, .m .fin] [.func (.func 85) #[ptr d] #[], .func (.func 41) #[ptr d] #[]] 2 rfl ⟨_, _, rfl, rfl, ⟨_, _, rfl, rfl, rfl⟩⟩ (by decide) hs.todo).mono ?_
    rintro e v2 ⟨rfl, O2, hM2, hS2⟩
    dsimp only
    (try go_wp2_with fail)
    first | go_end0 | refine bodyPost_ret (results_none rfl _ _ _) rfl ?_
    exact ⟨rfl, O2, hM2, (((Stay.of_below hb0).trans hS1).trans hS2)⟩
  | false =>
  rw [if_neg (show ¬ (tw == 1) = true by rw [show (tw == 1) = false from h0]; decide)]
  obtain ⟨b1, h1⟩ : ∃ b, (tw == 2) = b := ⟨_, rfl⟩
  cases b1 with
  | true =>
    rw [if_pos (show (tw == 2) = true from h1)]
    go_enter Tryd.func86, Tryd.ntmps86
    go_wp2_with fail
    refine c1.mono ?_
    rintro e v0 ⟨rfl, hb0⟩
    dsimp only
    have hM0 := hM.below hb0
    go_wp2_with fail
    refine (begin_any hM0 hs.i kStr hs.opn).mono ?_
    rintro e v1 ⟨rfl, O1, hM1, hS1⟩
    dsimp only
    go_wp2_with fail
    refine (then_lit hM1 [.m .text, .m .fin] [.func (.func 85) #[ptr d] #[], .func (.func 41) #[ptr d] #[]] 2 rfl ⟨_, _, rfl, rfl, ⟨_, _, rfl, rfl, rfl⟩⟩ (by decide) hs.todo).mono ?_
    rintro e v2 ⟨rfl, O2, hM2, hS2⟩
    dsimp only
    (try go_wp2_with fail)
    first | go_end0 | refine bodyPost_ret (results_none rfl _ _ _) rfl ?_
    exact ⟨rfl, O2, hM2, (((Stay.of_below hb0).trans hS1).trans hS2)⟩
  | false =>
  rw [if_neg (show ¬ (tw == 2) = true by rw [show (tw == 2) = false from h1]; decide)]
  obtain ⟨b2, h2⟩ : ∃ b, (tw == 0) = b := ⟨_, rfl⟩
  cases b2 with
  | true =>
    rw [if_pos (show (tw == 0) = true from h2)]
    go_enter Tryd.func86, Tryd.ntmps86
    go_wp2_with fail
    refine c1.mono ?_
    rintro e v0 ⟨rfl, hb0⟩
    dsimp only
    have hM0 := hM.below hb0
    go_wp2_with fail
    refine (begin_any hM0 hs.i kId hs.opn).mono ?_
    rintro e v1 ⟨rfl, O1, hM1, hS1⟩
    dsimp only
    go_wp2_with fail
    refine (then_lit hM1 [.m .name, .m .called, .m .fin] [.func (.func 37) #[ptr d] #[], .func (.func 90) #[ptr d] #[], .func (.func 41) #[ptr d] #[]] 3 rfl ⟨_, _, rfl, rfl, ⟨_, _, rfl, rfl, ⟨_, _, rfl, rfl, rfl⟩⟩⟩ (by decide) hs.todo).mono ?_
    rintro e v2 ⟨rfl, O2, hM2, hS2⟩
    dsimp only
    (try go_wp2_with fail)
    first | go_end0 | refine bodyPost_ret (results_none rfl _ _ _) rfl ?_
    exact ⟨rfl, O2, hM2, (((Stay.of_below hb0).trans hS1).trans hS2)⟩
  | false =>
  rw [if_neg (show ¬ (tw == 0) = true by rw [show (tw == 0) = false from h2]; decide)]
  go_enter Tryd.func86, Tryd.ntmps86
  go_wp2_with fail
  refine c1.mono ?_
  rintro e v0 ⟨rfl, hb0⟩
  dsimp only
  have hM0 := hM.below hb0
  go_wp2_with fail
  refine (begin_any hM0 hs.i kBr hs.opn).mono ?_
  rintro e v1 ⟨rfl, O1, hM1, hS1⟩
  dsimp only
  go_wp2_with fail
  refine (word_make hM1 [40]).mono ?_
  rintro e v2 ⟨p2, q2, rfl, hp2, hq2, hb2⟩
  dsimp only
  have hM2 := hM1.below hb2
  go_wp2_with fail
  refine (word_make hM2 [41]).mono ?_
  rintro e v3 ⟨p3, q3, rfl, hp3, hq3, hb3⟩
  dsimp only
  replace hp2 := hp2.below hb3
  replace hq2 := hq2.below hb3
  have hM3 := hM2.below hb3
  go_wp2_with fail
  refine (then_lit hM3 [.word [40], .m .expr, .word [41], .m .fin] [.func (.func 59) #[] #[ptr p2, ptr q2], .func (.func 77) #[ptr d] #[], .func (.func 59) #[] #[ptr p3, ptr q3], .func (.func 41) #[ptr d] #[]] 4 rfl ⟨_, _, rfl, ⟨p2, q2, rfl, hp2, hq2⟩, ⟨_, _, rfl, rfl, ⟨_, _, rfl, ⟨p3, q3, rfl, hp3, hq3⟩, ⟨_, _, rfl, rfl, rfl⟩⟩⟩⟩ (by decide) hs.todo).mono ?_
  rintro e v4 ⟨rfl, O4, hM4, hS4⟩
  dsimp only
  (try go_wp2_with fail)
  first | go_end0 | refine bodyPost_ret (results_none rfl _ _ _) rfl ?_
  exact ⟨rfl, O4, hM4, (((((Stay.of_below hb0).trans hS1).trans (Stay.of_below hb2)).trans (Stay.of_below hb3)).trans hS4)⟩
set_option maxHeartbeats 4000000 in
set_option maxRecDepth 20000 in
theorem g_otherwise {W : World} (hM : Mem d L size lv s O W) (hs : Small L s) : Calls Tryd.prog 81 #[ptr d] W (Does d L size lv s.i O W (execM L size .otherwise s)) := by
  have c1 := is_any hM hs.i kElse
  have hmf := hmf
  simp only [execM]
  cases h0 : isP L size kElse s.i with
  | true =>
    rw [h0] at c1
    rw [if_pos rfl]
    go_enter Tryd.func81, Tryd.ntmps81
    go_wp2_with fail
    refine c1.mono ?_
    rintro e v0 ⟨rfl, hb0⟩
    dsimp only
    have hM0 := hM.below hb0
    go_wp2_with fail
    refine (word_make hM0 kElse).mono ?_
    rintro e v1 ⟨p1, q1, rfl, hp1, hq1, hb1⟩
    dsimp only
    have hM1 := hM0.below hb1
    go_wp2_with fail
    refine (then_lit hM1 [.word kElse, .m .ifOrBlock] [.func (.func 59) #[] #[ptr p1, ptr q1], .func (.func 84) #[ptr d] #[]] 2 rfl ⟨_, _, rfl, ⟨p1, q1, rfl, hp1, hq1⟩, ⟨_, _, rfl, rfl, rfl⟩⟩ (by decide) hs.todo).mono ?_
    rintro e v2 ⟨rfl, O2, hM2, hS2⟩
    dsimp only
    (try go_wp2_with fail)
    first | go_end0 | refine bodyPost_ret (results_none rfl _ _ _) rfl ?_
    exact ⟨rfl, O2, hM2, (((Stay.of_below hb0).trans (Stay.of_below hb1)).trans hS2)⟩
  | false =>
    rw [h0] at c1
    rw [if_neg (by decide)]
    go_enter Tryd.func81, Tryd.ntmps81
    go_wp2_with fail
    refine c1.mono ?_
    rintro e v0 ⟨rfl, hb0⟩
    dsimp only
    have hM0 := hM.below hb0
    go_wp2_with fail
    (try go_wp2_with fail)
    first | go_end0 | refine bodyPost_ret (results_none rfl _ _ _) rfl ?_
    exact ⟨rfl, O, hM0, .of_below hb0⟩
set_option maxHeartbeats 4000000 in
set_option maxRecDepth 20000 in
theorem g_ifOrBlock {W : World} (hM : Mem d L size lv s O W) (hs : Small L s) : Calls Tryd.prog 84 #[ptr d] W (Does d L size lv s.i O W (execM L size .ifOrBlock s)) := by
  have c1 := is_any hM hs.i kIf
  have hmf := hmf
  simp only [execM]
  cases h0 : isP L size kIf s.i with
  | true =>
    rw [h0] at c1
    rw [if_pos rfl]
    go_enter Tryd.func84, Tryd.ntmps84
    go_wp2_with fail
    refine c1.mono ?_
    rintro e v0 ⟨rfl, hb0⟩
    dsimp only
    have hM0 := hM.below hb0
    go_wp2_with fail
    refine (g_ifStmt hM0 hs).mono ?_
    rintro e v9 ⟨rfl, O9, hM9, hS9⟩
    dsimp only
    (try go_wp2_with fail)
    first | go_end0 | refine bodyPost_ret (results_none rfl _ _ _) rfl ?_
    exact ⟨rfl, O9, hM9, (Stay.of_below hb0).trans hS9⟩
  | false =>
    rw [h0] at c1
    rw [if_neg (by decide)]
    go_enter Tryd.func84, Tryd.ntmps84
    go_wp2_with fail
    refine c1.mono ?_
    rintro e v0 ⟨rfl, hb0⟩
    dsimp only
    have hM0 := hM.below hb0
    go_wp2_with fail
    refine (g_block hM0 hs).mono ?_
    rintro e v9 ⟨rfl, O9, hM9, hS9⟩
    dsimp only
    (try go_wp2_with fail)
    first | go_end0 | refine bodyPost_ret (results_none rfl _ _ _) rfl ?_
    exact ⟨rfl, O9, hM9, (Stay.of_below hb0).trans hS9⟩
set_option maxHeartbeats 4000000 in
set_option maxRecDepth 20000 in
theorem g_prefix {W : World} (hM : Mem d L size lv s O W) (hs : Small L s) : Calls Tryd.prog 82 #[ptr d] W (Does d L size lv s.i O W (execM L size .pre s)) := by
  obtain ⟨tw, tf, te, y, hP, _, _, c1⟩ := next_txt hM hs.i
  have hmf := hmf
  have hfl := fun X => fld1 (.int .i64 tw) (.string y) (.int .i64 tf) (.int .i64 te) X
  simp only [execM, hP]
  clear hP
  obtain ⟨b0, h0⟩ : ∃ b, (y.toList == [38]) = b := ⟨_, rfl⟩
  cases b0 with
  | true =>
    rw [if_pos (Or.inl h0)]
    go_enter Tryd.func82, Tryd.ntmps82
    go_wp2_with fail
    refine c1.mono ?_
    rintro e v0 ⟨rfl, hb0⟩
    dsimp only
    have hM0 := hM.below hb0
    go_wp2_with fail
    refine (begin_any hM0 hs.i kUnary hs.opn).mono ?_
    rintro e v1 ⟨rfl, O1, hM1, hS1⟩
    dsimp only
    go_wp2_with fail
    refine (then_lit hM1 [.m .text, .m .pre, .m .fin] [.func (.func 85) #[ptr d] #[], .func (.func 82) #[ptr d] #[], .func (.func 41) #[ptr d] #[]] 3 rfl ⟨_, _, rfl, rfl, ⟨_, _, rfl, rfl, ⟨_, _, rfl, rfl, rfl⟩⟩⟩ (by decide) hs.todo).mono ?_
    rintro e v2 ⟨rfl, O2, hM2, hS2⟩
    dsimp only
    (try go_wp2_with fail)
    first | go_end0 | refine bodyPost_ret (results_none rfl _ _ _) rfl ?_
    exact ⟨rfl, O2, hM2, (((Stay.of_below hb0).trans hS1).trans hS2)⟩
  | false =>
  obtain ⟨b1, h1⟩ : ∃ b, (y.toList == [42]) = b := ⟨_, rfl⟩
  cases b1 with
  | true =>
    rw [if_pos (Or.inr (Or.inl h1))]
    go_enter Tryd.func82, Tryd.ntmps82
    go_wp2_with fail
    refine c1.mono ?_
    rintro e v0 ⟨rfl, hb0⟩
    dsimp only
    have hM0 := hM.below hb0
    go_wp2_with fail
    refine (begin_any hM0 hs.i kUnary hs.opn).mono ?_
    rintro e v1 ⟨rfl, O1, hM1, hS1⟩
    dsimp only
    go_wp2_with fail
    refine (then_lit hM1 [.m .text, .m .pre, .m .fin] [.func (.func 85) #[ptr d] #[], .func (.func 82) #[ptr d] #[], .func (.func 41) #[ptr d] #[]] 3 rfl ⟨_, _, rfl, rfl, ⟨_, _, rfl, rfl, ⟨_, _, rfl, rfl, rfl⟩⟩⟩ (by decide) hs.todo).mono ?_
    rintro e v2 ⟨rfl, O2, hM2, hS2⟩
    dsimp only
    (try go_wp2_with fail)
    first | go_end0 | refine bodyPost_ret (results_none rfl _ _ _) rfl ?_
    exact ⟨rfl, O2, hM2, (((Stay.of_below hb0).trans hS1).trans hS2)⟩
  | false =>
  obtain ⟨b2, h2⟩ : ∃ b, (y.toList == [45]) = b := ⟨_, rfl⟩
  cases b2 with
  | true =>
    rw [if_pos (Or.inr (Or.inr (Or.inl h2)))]
    go_enter Tryd.func82, Tryd.ntmps82
    go_wp2_with fail
    refine c1.mono ?_
    rintro e v0 ⟨rfl, hb0⟩
    dsimp only
    have hM0 := hM.below hb0
    go_wp2_with fail
    refine (begin_any hM0 hs.i kUnary hs.opn).mono ?_
    rintro e v1 ⟨rfl, O1, hM1, hS1⟩
    dsimp only
    go_wp2_with fail
    refine (then_lit hM1 [.m .text, .m .pre, .m .fin] [.func (.func 85) #[ptr d] #[], .func (.func 82) #[ptr d] #[], .func (.func 41) #[ptr d] #[]] 3 rfl ⟨_, _, rfl, rfl, ⟨_, _, rfl, rfl, ⟨_, _, rfl, rfl, rfl⟩⟩⟩ (by decide) hs.todo).mono ?_
    rintro e v2 ⟨rfl, O2, hM2, hS2⟩
    dsimp only
    (try go_wp2_with fail)
    first | go_end0 | refine bodyPost_ret (results_none rfl _ _ _) rfl ?_
    exact ⟨rfl, O2, hM2, (((Stay.of_below hb0).trans hS1).trans hS2)⟩
  | false =>
  obtain ⟨b3, h3⟩ : ∃ b, (y.toList == [33]) = b := ⟨_, rfl⟩
  cases b3 with
  | true =>
    rw [if_pos (Or.inr (Or.inr (Or.inr h3)))]
    go_enter Tryd.func82, Tryd.ntmps82
    go_wp2_with fail
    refine c1.mono ?_
    rintro e v0 ⟨rfl, hb0⟩
    dsimp only
    have hM0 := hM.below hb0
    go_wp2_with fail
    refine (begin_any hM0 hs.i kUnary hs.opn).mono ?_
    rintro e v1 ⟨rfl, O1, hM1, hS1⟩
    dsimp only
    go_wp2_with fail
    refine (then_lit hM1 [.m .text, .m .pre, .m .fin] [.func (.func 85) #[ptr d] #[], .func (.func 82) #[ptr d] #[], .func (.func 41) #[ptr d] #[]] 3 rfl ⟨_, _, rfl, rfl, ⟨_, _, rfl, rfl, ⟨_, _, rfl, rfl, rfl⟩⟩⟩ (by decide) hs.todo).mono ?_
    rintro e v2 ⟨rfl, O2, hM2, hS2⟩
    dsimp only
    (try go_wp2_with fail)
    first | go_end0 | refine bodyPost_ret (results_none rfl _ _ _) rfl ?_
    exact ⟨rfl, O2, hM2, (((Stay.of_below hb0).trans hS1).trans hS2)⟩
  | false =>
  rw [if_neg (by rintro (h | h | h | h); rw [h0] at h; cases h; rw [h1] at h; cases h; rw [h2] at h; cases h; rw [h3] at h; cases h)]
  go_enter Tryd.func82, Tryd.ntmps82
  go_wp2_with fail
  refine c1.mono ?_
  rintro e v0 ⟨rfl, hb0⟩
  dsimp only
  have hM0 := hM.below hb0
  go_wp2_with fail
  refine (then_lit hM0 [.m .operand, .m .behind] [.func (.func 86) #[ptr d] #[], .func (.func 87) #[ptr d] #[]] 2 rfl ⟨_, _, rfl, rfl, ⟨_, _, rfl, rfl, rfl⟩⟩ (by decide) hs.todo).mono ?_
  rintro e v1 ⟨rfl, O1, hM1, hS1⟩
  dsimp only
  (try go_wp2_with fail)
  first | go_end0 | refine bodyPost_ret (results_none rfl _ _ _) rfl ?_
  exact ⟨rfl, O1, hM1, ((Stay.of_below hb0).trans hS1)⟩
set_option maxHeartbeats 4000000 in
set_option maxRecDepth 20000 in
theorem g_returned {W : World} (hM : Mem d L size lv s O W) (hs : Small L s) : Calls Tryd.prog 75 #[ptr d] W (Does d L size lv s.i O W (execM L size .returned s)) := by
  obtain ⟨tw, tf, te, y, _, hW, _, c1⟩ := next_txt hM hs.i
  have hmf := hmf
  have hfl := fun X => fld0 (.int .i64 tw) (.string y) (.int .i64 tf) (.int .i64 te) X
  simp only [execM, hW]
  clear hW
  obtain ⟨b0, h0⟩ : ∃ b, (tw == 5) = b := ⟨_, rfl⟩
  cases b0 with
  | true =>
    rw [if_neg (by rintro ⟨h, _⟩; rw [h0] at h; cases h)]
    obtain rfl : tw = 5 := by simpa using h0
    clear h0
    go_enter Tryd.func75, Tryd.ntmps75
    go_wp2_with fail
    refine c1.mono ?_
    rintro e v0 ⟨rfl, hb0⟩
    dsimp only
    have hM0 := hM.below hb0
    go_wp2_with fail
    first | go_end0 | refine bodyPost_ret (results_none rfl _ _ _) rfl ?_
    exact ⟨rfl, O, hM0, .of_below hb0⟩
  | false =>
    have h5 : (tw != 5) = true := by simp [bne, h0]
    cases h1 : isP L size [125] s.i with
    | true =>
      rw [if_neg (by rintro ⟨_, h⟩; cases h)]
      clear h0
      go_enter Tryd.func75, Tryd.ntmps75
      go_wp2_with fail
      refine c1.mono ?_
      rintro e v0 ⟨rfl, hb0⟩
      dsimp only
      have hM0 := hM.below hb0
      have c2 := is_any hM0 hs.i [125]
      rw [h1] at c2
      go_wp2_with fail
      refine c2.mono ?_
      rintro e v1 ⟨rfl, hb1⟩
      dsimp only
      have hM1 := hM0.below hb1
      go_wp2_with fail
      first | go_end0 | refine bodyPost_ret (results_none rfl _ _ _) rfl ?_
      exact ⟨rfl, O, hM1, .of_below (hb0.trans (hb1.mono hb0.size))⟩
    | false =>
      rw [if_pos ⟨h0, rfl⟩]
      clear h0
      go_enter Tryd.func75, Tryd.ntmps75
      go_wp2_with fail
      refine c1.mono ?_
      rintro e v0 ⟨rfl, hb0⟩
      dsimp only
      have hM0 := hM.below hb0
      have c2 := is_any hM0 hs.i [125]
      rw [h1] at c2
      go_wp2_with fail
      refine c2.mono ?_
      rintro e v1 ⟨rfl, hb1⟩
      dsimp only
      have hM1 := hM0.below hb1
      go_wp2_with fail
      refine (g_expr hM1 hs).mono ?_
      rintro e v9 ⟨rfl, O9, hM9, hS9⟩
      dsimp only
      (try go_wp2_with fail)
      first | go_end0 | refine bodyPost_ret (results_none rfl _ _ _) rfl ?_
      exact ⟨rfl, O9, hM9, (Stay.of_below (hb0.trans (hb1.mono hb0.size))).trans hS9⟩
end
end Go.Proofs.YtnjhmjkonmmomaaDoor.K
end
