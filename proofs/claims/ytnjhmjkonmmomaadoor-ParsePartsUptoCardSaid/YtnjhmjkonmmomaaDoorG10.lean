/- The texts KStp, KCatch, KRun, KTodo, KMap, KWith, QPlain, KFine, joined. -/
import Derived.Test.YtnjhmjkonmmomaaDoorG8
import Derived.Test.YtnjhmjkonmmomaaDoorG9
import Derived.Defers
import Derived.Recover
import Derived.Laws.Pointers
import Derived.Test.YtnjhmjkonmmomaaDoorG1
/- KStp: The program's reader: any step does what the machine's does. -/
section
namespace Go.Proofs.YtnjhmjkonmmomaaDoor.K
open Go.RowKit
open Go.Lib hiding intOf
open Go.Proofs.YtnjhmjkonmmomaaDoor.U Go.Proofs.YtnjhmjkonmmomaaDoor.S Go.Proofs.YtnjhmjkonmmomaaDoor.T
section
variable {d : Nat} {L : List TokP} {size : Nat} {lv : Value} {s : St} {O : Nat → Prop}
theorem close_some {e : Int} {O O' : List Open} (h : closeO e O = some O') : ∃ o a r p, O = o :: a :: r ∧ o.close e = some p ∧ O' = a.add p o.f :: r := by
  match O, h with
  | o :: a :: r, h =>
    unfold closeO at h
    dsimp only at h
    cases hc : o.close e with
    | none => rw [hc] at h; cases h
    | some p => rw [hc] at h; cases h; exact ⟨o, a, r, p, rfl, hc, rfl⟩
theorem mth_any {W : World} (hM : Mem d L size lv s O W) (hs : Small L s) (hG : PTab O W) (hk1 : ∀ o ∈ s.opn, o.kids.length < 1000000) (ho1 : s.opn.length < 1000000) (ho : s.opn ≠ []) (k : Mth) (hr : execM L size k s ≠ .stuck) :
    Calls Tryd.prog (fnOf k) #[ptr d] W (Does d L size lv s.i O W (execM L size k s)) := by
  have ho' : ∃ o r, s.opn = o :: r := by
    cases h : s.opn with
    | nil => exact absurd h ho
    | cons o r => exact ⟨o, r, rfl⟩
  cases k with
  | decl => exact g_decl hM hs
  | semis => exact g_semis hM hs
  | noMore => exact g_noMore hM hs
  | name => exact g_name hM hs ho'
  | params => exact g_params hM hs
  | result => exact g_result hM hs ho1 hr ho'
  | block => exact g_block hM hs
  | fin =>
    have h1 : execM L size .fin s = finM L size s := rfl
    rw [h1] at hr ⊢
    unfold finM at hr ⊢
    by_cases h0 : s.i = 0
    · rw [if_pos h0] at hr; exact absurd rfl hr
    · rw [if_neg h0] at hr ⊢
      cases h2 : closeO (tok L size (s.i - 1)).e s.opn with
      | none => rw [h2] at hr; exact absurd rfl hr
      | some O' =>
        obtain ⟨o, a, r, p, h3, h4, rfl⟩ := close_some h2
        exact g_fin hM hs o a r h3 (by omega) p h4
  | field => exact g_field hM hs
  | param => exact g_param hM hs
  | typeOf => exact g_typeOf hM hs
  | stmt => exact g_stmt hM hs
  | returned => exact g_returned hM hs
  | expr => exact g_expr hM hs
  | assigned => exact g_assigned hM hs ho'
  | otherwise => exact g_otherwise hM hs
  | pre => exact g_prefix hM hs
  | between => exact g_between hM hs hG hk1 hr
  | ifOrBlock => exact g_ifOrBlock hM hs
  | text =>
    have hi : s.i < L.length := by
      by_cases h : s.i < L.length
      · exact h
      · simp only [execM, if_neg h] at hr; exact absurd rfl hr
    exact g_text hM hs ho' hi
  | behind => exact g_behind hM hs hr
  | operand => exact g_operand hM hs
  | called => exact g_called hM hs ho'
theorem mth_call (k : Mth) (args : Array Value) (w : World) : (callFunc (fnOf k) args).run Tryd.prog w = .ok (.enter (fnOf k) args) w := by cases k <;> rfl
/-- A step as a value, and that its call does what the machine's step does. -/
theorem step_any {W : World} (hM : Mem d L size lv s O W) (hs : Small L s) (hG : PTab O W) (hk1 : ∀ o ∈ s.opn, o.kids.length < 1000000) (ho1 : s.opn.length < 1000000) (ho : s.opn ≠ []) {x : Stp} {v : Value} (hx : StpIn O W d x v) (hr : exec L size x s ≠ .stuck) :
    (∃ f, v = .func (.func f) #[ptr d] #[] ∧ (∀ args w, (callFunc f args).run Tryd.prog w = .ok (.enter f args) w) ∧ Calls Tryd.prog f #[ptr d] W (Does d L size lv s.i O W (exec L size x s))) ∨
    (∃ f b1 b2, v = .func (.func f) #[] #[ptr b1, ptr b2] ∧ (∀ args w, (callFunc f args).run Tryd.prog w = .ok (.enter f args) w) ∧ Calls Tryd.prog f #[ptr b1, ptr b2] W (Does d L size lv s.i O W (exec L size x s))) := by
  cases x with
  | m k => exact .inl ⟨_, hx, mth_call k, mth_any hM hs hG hk1 ho1 ho k hr⟩
  | word t => obtain ⟨b1, b2, rfl, h1, h2⟩ := hx; exact .inr ⟨_, _, _, rfl, fun _ _ => rfl, g_word hM hs t b1 b2 h1 h2⟩
  | lines k => obtain ⟨b1, b2, rfl, h1, h2⟩ := hx; exact .inr ⟨_, _, _, rfl, fun _ _ => rfl, g_lines hM hs k b1 b2 _ rfl h1 h2⟩
  | more k => obtain ⟨b1, b2, rfl, h1, h2⟩ := hx; exact .inr ⟨_, _, _, rfl, fun _ _ => rfl, g_more hM hs k b1 b2 _ rfl h1 h2⟩
  | commas k => obtain ⟨b1, b2, rfl, h1, h2⟩ := hx; exact .inr ⟨_, _, _, rfl, fun _ _ => rfl, g_commas hM hs k b1 b2 _ rfl h1 h2⟩
  | moreC k => obtain ⟨b1, b2, rfl, h1, h2⟩ := hx; exact .inr ⟨_, _, _, rfl, fun _ _ => rfl, g_moreC hM hs k b1 b2 _ rfl h1 h2⟩
/-- The step that is next: as a value, and what is left. -/
theorem MemX.step {W : World} {tv ov : Value} {bs : List (Option Nat)} {vs xs : List Value} {x : Stp} {R : List Stp} (hM : MemX d L size lv s O tv ov bs vs xs W) (hx : s.todo = x :: R) : ∃ v us, vs = us ++ [v] ∧ StpIn O W d x v ∧ StpsIn O W d R us ∧ us.length = R.length := by
  have h := hM.todo
  rw [hx] at h
  obtain ⟨v, us, h1, h2, h3⟩ := h
  exact ⟨v, us, h1, h2, h3, h3.length⟩
end
end Go.Proofs.YtnjhmjkonmmomaaDoor.K
end
/- KCatch: The program's reader: what is done where a reading ends, by a wrong word or by itself. -/
section
namespace Go.Proofs.YtnjhmjkonmmomaaDoor.K
open Go.RowKit
open Go.Lib hiding intOf
open Go.Proofs.YtnjhmjkonmmomaaDoor.U Go.Proofs.YtnjhmjkonmmomaaDoor.S Go.Proofs.YtnjhmjkonmmomaaDoor.T

theorem assert_wrong (z : Int) (w : World) : (Instr.typeAssert (.iface 51 (.int .i64 z)) 20 51 true).run Tryd.prog w = .ok (.tuple #[.int .i64 z, .bool true]) w := by rfl
theorem assert_none (w : World) : (Instr.typeAssert .nilIface 20 51 true).run Tryd.prog w = .ok (.tuple #[.int .i64 0, .bool false]) w := by kernel_rfl
theorem catch_wrong (p q : Addr) (x y z : Int) (older : List PanicEntry) (w : World) (hc : w.cell? p = some (.int .i64 x)) (hz : w.frozen? p = false) (hc' : (w.setCell p (.int .i64 z)).cell? q = some (.int .i64 y)) (hz' : (w.setCell p (.int .i64 z)).frozen? q = false) :
    CallsD Tryd.prog 23 #[.pointer (some p), .pointer (some q)] (.panicking ({ v := .iface 51 (.int .i64 z), recovered := false } :: older)) w fun e u' w' =>
      e = .returned (.tuple #[]) ∧ u' = .panicking ({ v := .iface 51 (.int .i64 z), recovered := true } :: older) ∧ w' = (w.setCell p (.int .i64 z)).setCell q (.int .i64 101) := by
  refine callsD_of_wpS Tryd.func23 rfl fun c₀ cs hu => ?_
  apply wpS_seq
  apply wpS_region
  simp [wpOpsS, go_sem, recoverD, hu, assert_wrong, Tryd.ntmps23, Exit.thenS]
  apply wpS_seq
  apply wpS_region
  simp [wpOpsS, go_sem, Exit.thenS]
  refine wpS_cond (t := true) (by simp [Act.eval, Array.replicate]) ?_
  simp only [if_true]
  apply wpS_region
  simp [wpOpsS, go_sem, hc, hz, hc', hz', bodyPostS, results, Tryd.results23]

theorem catch_idle (p q : Addr) (w : World) :
    CallsD Tryd.prog 23 #[.pointer (some p), .pointer (some q)] .returning w fun e u' w' => e = .returned (.tuple #[]) ∧ u' = .returning ∧ w' = w := by
  refine callsD_of_wpS Tryd.func23 rfl fun c₀ cs hu => ?_
  apply wpS_seq
  apply wpS_region
  simp [wpOpsS, go_sem, recoverD, hu, assert_none, Tryd.ntmps23, Exit.thenS]
  apply wpS_seq
  apply wpS_region
  simp [wpOpsS, go_sem, Exit.thenS]
  refine wpS_cond (t := false) (by simp [Act.eval, Array.replicate]) ?_
  simp only [Bool.false_eq_true, if_false]
  refine wpS_of_wp (wp_skip ?_)
  cases c₀
  simp_all [bodyPostS, results, Tryd.results23]
end Go.Proofs.YtnjhmjkonmmomaaDoor.K
end
/- KRun: How a run of the reader ends, told from any of its states. -/
section
namespace Go.Proofs.YtnjhmjkonmmomaaDoor.K
open Go.Lib Go.Proofs.YtnjhmjkonmmomaaDoor.U Go.Proofs.YtnjhmjkonmmomaaDoor.S Go.Proofs.YtnjhmjkonmmomaaDoor.T

inductive Fate where
  | part (p : Pt)
  | bad (j : Nat)
variable (L : List TokP) (size : Nat)
def Comes (n : Nat) (s : St) : Fate → Prop
  | .part p => ∃ i f, Goes L size n s ⟨i, [], [root.add p f]⟩
  | .bad j => Falls L size n s j
variable {L size}
theorem comes_end {n : Nat} {s : St} {o : Fate} (h : Comes L size n s o) (ht : s.todo = []) : ∃ p f, o = .part p ∧ s.opn = [root.add p f] := by
  have hst : stepS L size s = .stuck := by unfold stepS; rw [ht]
  cases o with
  | part p =>
    obtain ⟨i, f, h⟩ := h
    cases h with
    | refl => exact ⟨p, f, rfl, rfl⟩
    | step h1 _ => rw [hst] at h1; cases h1
  | bad j =>
    obtain ⟨s', h, h2, _⟩ := h
    cases h with
    | refl => rw [hst] at h2; cases h2
    | step h1 _ => rw [hst] at h1; cases h1
theorem comes_step {n : Nat} {s : St} {o : Fate} (h : Comes L size n s o) (ht : s.todo ≠ []) : (stepS L size s = .wrong ∧ o = .bad s.i) ∨ ∃ m s1, n = m + 1 ∧ stepS L size s = .go s1 ∧ Comes L size m s1 o := by
  cases o with
  | part p =>
    obtain ⟨i, f, h⟩ := h
    cases h with
    | refl => exact absurd rfl ht
    | step h1 h2 => exact .inr ⟨_, _, rfl, h1, i, f, h2⟩
  | bad j =>
    obtain ⟨s', h, h2, h3⟩ := h
    cases h with
    | refl => exact .inl ⟨h2, by rw [h3]⟩
    | step h1 h4 => exact .inr ⟨_, _, rfl, h1, s', h4, h2, h3⟩
/-- What the document's reader answers. -/
def fate (L : List TokP) : Fate := match decl L (8 * L.length + 10) with
  | .ok p i => if i + semiN L i < L.length then .bad (i + semiN L i) else .part p
  | .bad i => .bad i
theorem run_fate (hL : ∀ t ∈ L, Fine t) : Comes L size (100 * L.length + 100) begun (fate L) := by
  have h := run_sim size hL (8 * L.length + 10) (Nat.le_refl _)
  unfold fate
  cases h1 : decl L (8 * L.length + 10) with
  | bad i => rw [h1] at h; exact h
  | ok p i =>
    rw [h1] at h
    dsimp only at h ⊢
    by_cases h2 : i + semiN L i < L.length
    · rw [if_pos h2] at h ⊢; exact h
    · rw [if_neg h2] at h ⊢
      obtain ⟨_, f, h3⟩ := h
      exact ⟨_, f, h3⟩
end Go.Proofs.YtnjhmjkonmmomaaDoor.K
end
/- KTodo: The program's reader: the step that is next is taken off the row. -/
section
namespace Go.Proofs.YtnjhmjkonmmomaaDoor.K
open Go.RowKit
open Go.Lib hiding intOf
open Go.Proofs.YtnjhmjkonmmomaaDoor.U Go.Proofs.YtnjhmjkonmmomaaDoor.S Go.Proofs.YtnjhmjkonmmomaaDoor.T
section
variable {d : Nat} {L : List TokP} {size : Nat} {lv : Value} {s : St} {O : Nat → Prop}
theorem todo_pop {W : World} {x : Stp} {R : List Stp} (hM : Mem d L size lv s O W) (hs : s.todo = x :: R) :
    ∃ g c v O', W.cell? ⟨d, 2, none⟩ = some (.slice (some ⟨g, 0, none⟩) (R.length + 1) c) ∧ W.frozen? ⟨d, 2, none⟩ = false ∧ W.cell? ⟨g, R.length, none⟩ = some v ∧ R.length + 1 ≤ c ∧
      StpIn O' (W.setCell ⟨d, 2, none⟩ (.slice (some ⟨g, 0, none⟩) R.length c)) d x v ∧
      Mem d L size lv { s with todo := R } O' (W.setCell ⟨d, 2, none⟩ (.slice (some ⟨g, 0, none⟩) R.length c)) ∧ Stay O O' W (W.setCell ⟨d, 2, none⟩ (.slice (some ⟨g, 0, none⟩) R.length c)) := by
  obtain ⟨tv, ov, bs, vs, xs, hM⟩ := hM
  have hb := hM.blk
  obtain ⟨v, us, rfl, hx, hR, hlen⟩ := MemX.step hM hs
  have hT := hM.todoR
  rw [hs] at hT
  obtain ⟨g, c, rfl, _, hgl⟩ := hT.form (Nat.succ_pos _)
  have hgc : R.length + 1 ≤ c := by
    rcases hT.2 with ⟨_, h⟩ | ⟨_, _, _, h1, _, _, h2, _⟩
    · exact absurd h (Nat.succ_ne_zero _)
    · cases h1; exact h2
  have hcell : W.cell? ⟨g, R.length, none⟩ = some v := by
    rw [hT.cellAt R.length (by rw [List.length_cons]; omega), List.getElem?_append_right (by omega), hlen, Nat.sub_self]
    rfl
  have hgty : Ty W g 1 := owns_ty hT rfl
  obtain ⟨W', hW'⟩ : ∃ W', W.setCell ⟨d, 2, none⟩ (.slice (some ⟨g, 0, none⟩) R.length c) = W' := ⟨_, rfl⟩
  have hset : ∀ k, k ≠ d → W'.heap[k]? = W.heap[k]? := fun k hk => by rw [← hW']; exact Below.heap_setCell _ _ _ _ hk
  have hbl' : W'.heap[d]? = some (.cells #[lv, .int .i64 s.i, .slice (some ⟨g, 0, none⟩) R.length c, ov] 50 (0, 0)) := by rw [← hW']; exact Go.Joins.block_setCell hb _
  have hsz : W'.heap.size = W.heap.size := by rw [← hW']; simp
  have ne : ∀ {k : Nat} {t : TypeId}, Ty W k t → t ≠ 50 → k ≠ d := fun h1 h2 e => by rw [e] at h1; exact h2 (h1.one ⟨_, _, hb⟩)
  have hOd : O d := (hM.own d).2 (.inl rfl)
  have hS : Stay O O W W' := ⟨by rw [← hW']; rfl, by rw [← hW']; rfl, by rw [← hW']; rfl, by omega, fun _ h => .inl h, fun k hk hO => hset k (fun e => hO (e ▸ hOd))⟩
  refine ⟨g, c, v, O, by simp [World.cell?, hb], by simp [World.frozen?, hb], hcell, hgc, ?_, ?_, ?_⟩
  · rw [hW']; exact hx.stay hS
  · rw [hW']
    refine ⟨_, ov, bs, us, xs, hbl', hM.words.stay hS, ?_, hR.stay hS, owns_at hM.opnR (fun k hk => hset k (ne (owns_ty hM.opnR hk) (by decide))), OpensIn.stay hS hM.opn (fun k hk => hset k (ne (opens_ty hM.opn hk) (by decide))), hM.apart, fun k => ?_⟩
    · exact owns_at (owns_take hT (by rw [hlen, Nat.mul_one])) (fun k hk => hset k (fun e => by
        obtain rfl : g = k := by simpa [Value.ownBlock] using hk
        exact ne hgty (by decide) e))
    · exact hM.own k
  · rw [hW']; exact hS
/-- Nothing is to be done any more. -/
theorem todo_none {W : World} (hM : Mem d L size lv s O W) (hs : s.todo = []) : ∃ a c, W.cell? ⟨d, 2, none⟩ = some (.slice a 0 c) := by
  obtain ⟨tv, ov, bs, vs, xs, hM⟩ := hM
  have hb := hM.blk
  have hT := hM.todoR
  rw [hs] at hT
  rcases hT.2 with ⟨rfl, _⟩ | ⟨g, c, cur, rfl, _⟩
  · exact ⟨none, 0, by simp [World.cell?, hb]⟩
  · exact ⟨some ⟨g, 0, none⟩, c, by simp [World.cell?, hb]⟩
end
end Go.Proofs.YtnjhmjkonmmomaaDoor.K
end
/- KMap: Plain: where parts stand hangs on where the words stand alone: with words that stand elsewhere a reader makes the same parts, elsewhere. -/
section
namespace Go.Proofs.YtnjhmjkonmmomaaDoor.K
open Go.Lib Go.Proofs.YtnjhmjkonmmomaaDoor.U Go.Proofs.YtnjhmjkonmmomaaDoor.S Go.Proofs.YtnjhmjkonmmomaaDoor.T

def mapT (F E : Int → Int) (t : TokP) : TokP := ⟨t.w, t.t, F t.f, E t.e⟩
mutual
def mapP (F E : Int → Int) : Pt → Pt
  | .mk k t f e ks => .mk k t (F f) (E e) (mapL F E ks)
def mapL (F E : Int → Int) : List Pt → List Pt
  | [] => []
  | p :: r => mapP F E p :: mapL F E r
end
theorem mapL_map (F E : Int → Int) : ∀ l, mapL F E l = l.map (mapP F E)
  | [] => rfl
  | p :: r => by rw [mapL, mapL_map F E r]; rfl
def via {α β : Type} (h : α → β) : Out α → Out β
  | .ok a i => .ok (h a) i
  | .bad i => .bad i
section
variable {α β γ : Type}
theorem next_via (o : Out α) (g : α → Nat → Out β) (h : β → γ) : via h (o.next g) = o.next (fun a i => via h (g a i)) := by cases o <;> rfl
theorem via_next (o : Out α) (h : α → β) (g : β → Nat → Out γ) : (via h o).next g = o.next (fun a i => g (h a) i) := by cases o <;> rfl
theorem via_ok (h : α → β) (a : α) (i : Nat) : via h (.ok a i) = .ok (h a) i := rfl
theorem via_bad (h : α → β) (i : Nat) : via h (.bad i) = .bad i := rfl
theorem via_ite (c : Prop) [Decidable c] (h : α → β) (a b : Out α) : via h (if c then a else b) = if c then via h a else via h b := by split <;> rfl
end
section
variable (F E : Int → Int) (L : List TokP)
theorem isT_map (x : By) (i : Nat) : isT (L.map (mapT F E)) x i = isT L x i := by
  unfold isT; rw [List.getElem?_map]; cases L[i]? <;> rfl
theorem comesT_map (x : Int) (i : Nat) : comesT (L.map (mapT F E)) x i = comesT L x i := by
  unfold comesT; rw [List.getElem?_map]; cases L[i]? <;> rfl
theorem textT_map (i : Nat) : textT (L.map (mapT F E)) i = textT L i := by
  unfold textT; rw [List.getElem?_map]; cases L[i]? <;> rfl
theorem strongT_map (i : Nat) : strongT (L.map (mapT F E)) i = strongT L i := by
  unfold strongT; rw [List.getElem?_map]; cases L[i]? <;> rfl
theorem mustT_map (x : By) (i : Nat) : mustT (L.map (mapT F E)) x i = mustT L x i := by unfold mustT; rw [isT_map]
theorem nameT_map (i : Nat) : nameT (L.map (mapT F E)) i = nameT L i := by unfold nameT; rw [comesT_map, textT_map]
theorem semiN_map (i : Nat) : semiN (L.map (mapT F E)) i = semiN L i := by
  unfold semiN
  rw [← List.map_drop]
  generalize L.drop i = l
  induction l with
  | nil => rfl
  | cons t r ih =>
    simp only [List.map_cons, List.takeWhile_cons]
    show (if (t.w == 5) = true then _ else _ : List TokP).length = _
    split
    · simp only [List.length_cons]; rw [ih]
    · rfl
variable {F E}
variable (hF : F 0 = 0) (hE : E 0 = 0)
include hF in
theorem fromT_map (i : Nat) : fromT (L.map (mapT F E)) i = F (fromT L i) := by
  unfold fromT; rw [List.getElem?_map]; cases L[i]? with
  | none => exact hF.symm
  | some t => rfl
include hE in
theorem toT_map (i : Nat) : toT (L.map (mapT F E)) i = E (toT L i) := by
  unfold toT
  by_cases h : i = 0
  · rw [if_pos h, if_pos h]; exact hE.symm
  · rw [if_neg h, if_neg h, List.getElem?_map]
    cases L[i - 1]? with
    | none => exact hE.symm
    | some t => rfl
include hE in
theorem part_map (k t : By) (f : Int) (ks : List Pt) (i : Nat) : T.part (L.map (mapT F E)) k t (F f) (mapL F E ks) i = via (mapP F E) (T.part L k t f ks i) := by
  unfold T.part; rw [toT_map L hE, via_ok, mapP]
include hE in
theorem part_map0 (k t : By) (f : Int) (i : Nat) : T.part (L.map (mapT F E)) k t (F f) [] i = via (mapP F E) (T.part L k t f [] i) := part_map L hE k t f [] i
include hE in
theorem part_map1 (k t : By) (f : Int) (a : Pt) (i : Nat) : T.part (L.map (mapT F E)) k t (F f) [mapP F E a] i = via (mapP F E) (T.part L k t f [a] i) := part_map L hE k t f [a] i
include hE in
theorem part_map2 (k t : By) (f : Int) (a b : Pt) (i : Nat) : T.part (L.map (mapT F E)) k t (F f) [mapP F E a, mapP F E b] i = via (mapP F E) (T.part L k t f [a, b] i) := part_map L hE k t f [a, b] i
include hE in
theorem part_map3 (k t : By) (f : Int) (a b c : Pt) (i : Nat) : T.part (L.map (mapT F E)) k t (F f) [mapP F E a, mapP F E b, mapP F E c] i = via (mapP F E) (T.part L k t f [a, b, c] i) := part_map L hE k t f [a, b, c] i
theorem mapL_snoc (F E : Int → Int) (l : List Pt) (p : Pt) : mapL F E l ++ [mapP F E p] = mapL F E (l ++ [p]) := by rw [mapL_map, mapL_map, List.map_append]; rfl
include hF hE in
theorem allP_map (k : By) (l : List Pt) : allP k (mapL F E l) = mapP F E (allP k l) := by
  cases l with
  | nil => rw [mapL, allP, mapP, hF, hE]; rfl
  | cons p r =>
    have hlast : (mapL F E (p :: r)).getLast? = (p :: r).getLast?.map (mapP F E) := by rw [mapL_map, List.getLast?_map]
    obtain ⟨kk, t, f, e, ks⟩ := p
    rw [mapL, mapP] at hlast ⊢
    rw [allP, allP, mapP, hlast]
    cases h : (Pt.mk kk t f e ks :: r).getLast? with
    | none => rw [List.getLast?_eq_none_iff] at h; cases h
    | some q =>
      obtain ⟨a1, a2, a3, a4, a5⟩ := q
      simp only [Option.map_some]
      rw [mapP, mapL, mapP]
include hF hE
theorem typed_map : ∀ (n i : Nat), typed (L.map (mapT F E)) n i = via (mapP F E) (typed L n i)
  | 0, i => rfl
  | n + 1, i => by
    simp only [typed, via_ite, next_via, isT_map, mustT_map, nameT_map, typed_map n, via_next, fromT_map L hF, part_map0 L hE, part_map1 L hE]
theorem param_map (n : Nat) (k : By) (i : Nat) : param (L.map (mapT F E)) n k i = via (mapP F E) (param L n k i) := by
  simp only [param, next_via, nameT_map, typed_map L hF hE, via_next, fromT_map L hF, part_map1 L hE]
theorem params_map (m : Nat) : ∀ (n i : Nat) (acc : List Pt), params (L.map (mapT F E)) m n i (mapL F E acc) = via (mapL F E) (params L m n i acc)
  | 0, i, acc => rfl
  | n + 1, i, acc => by
    simp only [params, via_ite, next_via, isT_map, mustT_map, param_map L hF hE, via_next, mapL_snoc, params_map m n, via_ok]
theorem fields_map (m : Nat) : ∀ (n i : Nat) (acc : List Pt), fields (L.map (mapT F E)) m n i (mapL F E acc) = via (mapL F E) (fields L m n i acc)
  | 0, i, acc => rfl
  | n + 1, i, acc => by
    simp only [fields, via_ite, next_via, isT_map, semiN_map, param_map L hF hE, via_next, mapL_snoc, fields_map m n, via_ok, via_bad]
omit hF hE in
structure MapE (F E : Int → Int) (L : List TokP) (n : Nat) : Prop where
  expr : ∀ than i, expr (L.map (mapT F E)) n than i = via (mapP F E) (expr L n than i)
  exprs : ∀ than f a i, exprs (L.map (mapT F E)) n than (F f) (mapP F E a) i = via (mapP F E) (exprs L n than f a i)
  prefixT : ∀ i, prefixT (L.map (mapT F E)) n i = via (mapP F E) (prefixT L n i)
  tails : ∀ f a i, tails (L.map (mapT F E)) n (F f) (mapP F E a) i = via (mapP F E) (tails L n f a i)
  operand : ∀ i, operand (L.map (mapT F E)) n i = via (mapP F E) (operand L n i)
  args : ∀ i acc, args (L.map (mapT F E)) n i (mapL F E acc) = via (mapL F E) (args L n i acc)
omit hF hE in
theorem map_mk (F E : Int → Int) (k t : By) (f e : Int) (ks : List Pt) : Pt.mk k t (F f) (E e) (mapL F E ks) = mapP F E (.mk k t f e ks) := by rw [mapP]
omit hF hE in
theorem map_mk1 (F E : Int → Int) (k t : By) (f e : Int) (a : Pt) : Pt.mk k t (F f) (E e) [mapP F E a] = mapP F E (.mk k t f e [a]) := map_mk F E k t f e [a]
omit hF hE in
theorem map_mk2 (F E : Int → Int) (k t : By) (f e : Int) (a b : Pt) : Pt.mk k t (F f) (E e) [mapP F E a, mapP F E b] = mapP F E (.mk k t f e [a, b]) := map_mk F E k t f e [a, b]
theorem mapE : ∀ n, MapE F E L n
  | 0 => ⟨fun _ _ => by simp only [expr, via_bad], fun _ _ _ _ => by simp only [exprs, via_bad], fun _ => by simp only [prefixT, via_bad], fun _ _ _ => by simp only [tails, via_bad], fun _ => by simp only [operand, via_bad], fun _ _ => by simp only [args, via_bad]⟩
  | n + 1 => by
    have ih := mapE n
    have a0 : ∀ j, args (L.map (mapT F E)) n j [] = via (mapL F E) (args L n j []) := fun j => ih.args j []
    have hl : (L.map (mapT F E)).length = L.length := List.length_map _
    refine ⟨fun than i => ?_, fun than f a i => ?_, fun i => ?_, fun f a i => ?_, fun i => ?_, fun i acc => ?_⟩
    · simp only [expr, next_via, ih.prefixT, via_next, fromT_map L hF, ih.exprs]
    · simp only [exprs, via_ite, next_via, ih.expr, via_next, textT_map, strongT_map, toT_map L hE, map_mk2, ih.exprs, via_ok, hl]
    · simp only [prefixT, via_ite, next_via, isT_map, ih.prefixT, ih.operand, ih.tails, via_next, fromT_map L hF, part_map1 L hE]
    · simp only [tails, via_ite, next_via, isT_map, mustT_map, nameT_map, ih.expr, via_next, toT_map L hE, map_mk1, map_mk2, ih.tails, via_ok]
    · simp only [operand, via_ite, next_via, isT_map, comesT_map, textT_map, mustT_map, nameT_map, ih.expr, typed_map L hF hE, a0, via_next, fromT_map L hF, part_map L hE, part_map0 L hE, part_map1 L hE, part_map2 L hE, via_ok]
    · simp only [args, via_ite, next_via, isT_map, mustT_map, ih.expr, via_next, mapL_snoc, ih.args, via_ok]
theorem variable_map (n i : Nat) : variable' (L.map (mapT F E)) n i = via (mapP F E) (variable' L n i) := by
  simp only [variable', next_via, mustT_map, nameT_map, typed_map L hF hE, via_next, fromT_map L hF, part_map1 L hE]
omit hF hE in
structure MapS (F E : Int → Int) (L : List TokP) (n : Nat) : Prop where
  block : ∀ i, block (L.map (mapT F E)) n i = via (mapP F E) (block L n i)
  stmts : ∀ i acc, stmts (L.map (mapT F E)) n i (mapL F E acc) = via (mapL F E) (stmts L n i acc)
  branch : ∀ i, branch (L.map (mapT F E)) n i = via (mapP F E) (branch L n i)
  stmt : ∀ i, stmt (L.map (mapT F E)) n i = via (mapP F E) (stmt L n i)
theorem mapS : ∀ n, MapS F E L n
  | 0 => ⟨fun _ => by simp only [block, via_bad], fun _ _ => by simp only [stmts, via_bad], fun _ => by simp only [branch, via_bad], fun _ => by simp only [stmt, via_bad]⟩
  | n + 1 => by
    have ih := mapS n
    have he := mapE L hF hE n
    have s0 : ∀ j, stmts (L.map (mapT F E)) n j [] = via (mapL F E) (stmts L n j []) := fun j => ih.stmts j []
    refine ⟨fun i => ?_, fun i acc => ?_, fun i => ?_, fun i => ?_⟩
    · simp only [block, next_via, mustT_map, semiN_map, s0, via_next, fromT_map L hF, part_map L hE]
    · simp only [stmts, via_ite, next_via, isT_map, semiN_map, ih.stmt, via_next, mapL_snoc, ih.stmts, via_ok, via_bad]
    · simp only [branch, via_ite, next_via, isT_map, mustT_map, he.expr, ih.block, ih.branch, via_next, fromT_map L hF, part_map2 L hE, part_map3 L hE]
    · simp only [stmt, via_ite, next_via, isT_map, comesT_map, variable_map L hF hE, ih.branch, ih.block, he.expr, via_next, fromT_map L hF, part_map0 L hE, part_map1 L hE, part_map2 L hE]
theorem decl_map (n : Nat) : decl (L.map (mapT F E)) n = via (mapP F E) (decl L n) := by
  have hb := mapS L hF hE n
  have p0 : ∀ j, params (L.map (mapT F E)) n n j [] = via (mapL F E) (params L n n j []) := fun j => params_map L hF hE n n j []
  have f0 : ∀ j, fields (L.map (mapT F E)) n n j [] = via (mapL F E) (fields L n n j []) := fun j => fields_map L hF hE n n j []
  have e0 : ∀ m, (.ok [] m : Out (List Pt)) = via (mapL F E) (.ok [] m) := fun m => rfl
  have e1 : ∀ x m, (.ok [mapP F E x] m : Out (List Pt)) = via (mapL F E) (.ok [x] m) := fun x m => rfl
  have hf : func' (L.map (mapT F E)) n 0 = via (mapP F E) (func' L n 0) := by
    simp only [func', next_via, isT_map, mustT_map, nameT_map, p0, typed_map L hF hE, hb.block, fromT_map L hF, via_next]
    congr 1; funext _ j; congr 1; funext s k; congr 1; funext _ m
    rw [show (if isT L [41] m then (.ok [] (m + 1) : Out (List Pt)) else via (mapL F E) (params L n n m [])) = via (mapL F E) (if isT L [41] m then .ok [] (m + 1) else params L n n m []) by split <;> rfl, via_next]
    congr 1; funext ps o
    rw [show (if isT L [123] o then (.ok [] o : Out (List Pt)) else (typed L n o).next fun x q => .ok [mapP F E x] q) = via (mapL F E) (if isT L [123] o then .ok [] o else (typed L n o).next fun x q => .ok [x] q) by
      split
      · rfl
      · rw [next_via]; rfl, via_next]
    congr 1; funext rs q
    congr 1; funext b r
    rw [allP_map hF hE, allP_map hF hE, part_map3 L hE]
  have hr : record (L.map (mapT F E)) n 0 = via (mapP F E) (record L n 0) := by
    simp only [record, next_via, mustT_map, nameT_map, semiN_map, f0, via_next, fromT_map L hF, part_map L hE]
  simp only [decl, isT_map, hf, hr, variable_map L hF hE, via_ite, via_bad]
end
def Fate.map (F E : Int → Int) : Fate → Fate
  | .part p => .part (mapP F E p)
  | .bad j => .bad j
theorem fate_map {F E : Int → Int} (L : List TokP) (hF : F 0 = 0) (hE : E 0 = 0) : fate (L.map (mapT F E)) = (fate L).map F E := by
  unfold fate
  rw [decl_map L hF hE, List.length_map]
  cases decl L (8 * L.length + 10) with
  | bad i => rfl
  | ok p i =>
    simp only [via_ok, semiN_map]
    split <;> rfl
mutual
theorem deep_map (F E : Int → Int) : ∀ p, deep (mapP F E p) = deep p
  | .mk k t f e ks => by rw [mapP, deep, deep, deepL_map F E ks]
theorem deepL_map (F E : Int → Int) : ∀ l, deepL (mapL F E l) = deepL l
  | [] => by rw [mapL]
  | p :: r => by rw [mapL, deepL, deepL, deep_map F E p, deepL_map F E r]
end
end Go.Proofs.YtnjhmjkonmmomaaDoor.K
end
/- KWith: Plain: of words that are told by their number a reader's parts stand in order, and end behind a word that is no Semi. -/
section
namespace Go.Proofs.YtnjhmjkonmmomaaDoor.K
open Go.Lib Go.Proofs.YtnjhmjkonmmomaaDoor.U Go.Proofs.YtnjhmjkonmmomaaDoor.S Go.Proofs.YtnjhmjkonmmomaaDoor.T

def endP : Pt → Int
  | .mk _ _ _ e _ => e
def kindP : Pt → By
  | .mk k _ _ _ _ => k
def lastOf (a : Nat) (p : Pt) : Nat := if endP p = 0 then a else (endP p).toNat
mutual
/-- A part stands behind word a, up to word b. -/
def Wi (L : List TokP) : Pt → Nat → Nat → Prop
  | .mk _ _ f e ks, a, b => (f = 0 ∧ e = 0 ∧ ks = []) ∨ ∃ i j : Nat, f = (i : Int) + 1 ∧ e = (j : Int) ∧ a ≤ i ∧ i < j ∧ j ≤ b ∧ j ≤ L.length ∧ comesT L 5 (j - 1) = false ∧ WiL L ks i j
def WiL (L : List TokP) : List Pt → Nat → Nat → Prop
  | [], _, _ => True
  | p :: r, a, b => Wi L p a b ∧ WiL L r (lastOf a p) b
end
/-- Words are told by their number. -/
def Idx (L : List TokP) : Prop := ∀ (i : Nat) (t : TokP), L[i]? = some t → t.f = (i : Int) + 1 ∧ t.e = (i : Int) + 1
structure Ends (L : List TokP) (i j : Nat) : Prop where
  lt : i < j
  le : j ≤ L.length
  ns : comesT L 5 (j - 1) = false
structure Rd (L : List TokP) (i j : Nat) (p : Pt) : Prop extends Ends L i j where
  wi : Wi L p i j
  nz : 0 < endP p
section
variable {α β : Type} {L : List TokP} {i j a b a' b' : Nat} {p : Pt}
theorem next_ok {o : Out α} {f : α → Nat → Out β} {y : β} {k : Nat} : o.next f = .ok y k ↔ ∃ x i, o = .ok x i ∧ f x i = .ok y k := by
  cases o with
  | ok x i => exact Iff.intro (fun h => ⟨x, i, rfl, h⟩) (by rintro ⟨_, _, h1, h2⟩; cases h1; exact h2)
  | bad i => exact Iff.intro (fun h => by cases h) (by rintro ⟨_, _, h1, _⟩; cases h1)
theorem isT_ends {x : By} (h : isT L x i = true) : Ends L i (i + 1) := by
  refine ⟨Nat.lt_succ_self _, isT_lt h, ?_⟩
  have h1 := isT_lt h
  unfold isT at h
  unfold comesT
  rw [Nat.add_sub_cancel, List.getElem?_eq_getElem h1] at *
  simp only [Bool.and_eq_true, beq_iff_eq, Bool.or_eq_true] at h ⊢
  rcases h.2 with h2 | h2 <;> rw [h2] <;> rfl
theorem comes_ends {w : Int} (h : comesT L w i = true) (hw : w ≠ 5) : Ends L i (i + 1) := by
  refine ⟨Nat.lt_succ_self _, comesT_lt h, ?_⟩
  have h1 := comesT_lt h
  unfold comesT at h ⊢
  rw [Nat.add_sub_cancel, List.getElem?_eq_getElem h1] at *
  simp only [beq_iff_eq] at h ⊢
  rw [h]; simpa using hw
theorem must_ok {x : By} {u : Unit} (h : mustT L x i = .ok u j) : j = i + 1 ∧ isT L x i = true := by
  unfold mustT at h
  split at h
  · rename_i h1; cases h; exact ⟨rfl, h1⟩
  · cases h
theorem name_ok {s : By} (h : nameT L i = .ok s j) : j = i + 1 ∧ comesT L 0 i = true := by
  unfold nameT at h
  split at h
  · rename_i h1; cases h; exact ⟨rfl, h1⟩
  · cases h
theorem must_ends {x : By} {u : Unit} (h : mustT L x i = .ok u j) : Ends L i j := by obtain ⟨rfl, h1⟩ := must_ok h; exact isT_ends h1
theorem name_ends {s : By} (h : nameT L i = .ok s j) : Ends L i j := by obtain ⟨rfl, h1⟩ := name_ok h; exact comes_ends h1 (by decide)
theorem Ends.mono (h : Ends L i j) (hi : a ≤ i) : Ends L a j := ⟨Nat.lt_of_le_of_lt hi h.lt, h.le, h.ns⟩
theorem Wi.mono : ∀ {p : Pt}, Wi L p a b → a' ≤ a → b ≤ b' → Wi L p a' b'
  | .mk k t f e ks, h, ha, hb => by
    unfold Wi at h ⊢
    rcases h with h | ⟨i, j, h1, h2, h3, h4, h5, h6⟩
    · exact .inl h
    · exact .inr ⟨i, j, h1, h2, Nat.le_trans ha h3, h4, Nat.le_trans h5 hb, h6⟩
theorem Wi.last : ∀ {p : Pt}, Wi L p a b → lastOf a p ≤ max a b
  | .mk k t f e ks, h => by
    unfold Wi at h
    rcases h with ⟨h1, h2, h3⟩ | ⟨i, j, h1, h2, h3, h4, h5, h6⟩
    · subst h1 h2
      show (if (0 : Int) = 0 then a else _) ≤ _
      rw [if_pos rfl]; omega
    · subst h2
      show (if (j : Int) = 0 then a else (j : Int).toNat) ≤ _
      split <;> omega
theorem lastOf_mono (h : a' ≤ a) : lastOf a' p ≤ lastOf a p := by unfold lastOf; split <;> omega
theorem WiL.mono : ∀ {l : List Pt} {a a' : Nat}, WiL L l a b → a' ≤ a → b ≤ b' → WiL L l a' b'
  | [], _, _, _, _, _ => by unfold WiL; trivial
  | p :: r, _, _, h, ha, hb => by
    unfold WiL at h ⊢
    exact ⟨h.1.mono ha hb, h.2.mono (lastOf_mono ha) hb⟩
theorem WiL.nil : WiL L [] a b := by unfold WiL; trivial
theorem WiL.snoc {m : Nat} : ∀ {l : List Pt} {a : Nat}, WiL L l a m → Wi L p m b → a ≤ m → m ≤ b → WiL L (l ++ [p]) a b
  | [], a, _, h, ha, _ => by
    show WiL L [p] a b
    unfold WiL
    exact ⟨h.mono ha (Nat.le_refl _), .nil⟩
  | q :: r, a, hl, h, ha, hb => by
    show WiL L (q :: (r ++ [p])) a b
    unfold WiL at hl ⊢
    have h2 := hl.1.last
    exact ⟨hl.1.mono (Nat.le_refl _) hb, hl.2.snoc h (by omega) hb⟩
theorem WiL.one (h : Wi L p a b) : WiL L [p] a b := by unfold WiL; exact ⟨h, .nil⟩
theorem WiL.two {q : Pt} {m : Nat} (h : Wi L p a m) (k : Wi L q m b) (ha : a ≤ m) (hb : m ≤ b) : WiL L [p, q] a b := WiL.snoc (l := [p]) (.one h) k ha hb
section
variable (hI : Idx L)
include hI
theorem from_idx (h : i < L.length) : fromT L i = (i : Int) + 1 := by
  unfold fromT
  rw [List.getElem?_eq_getElem h]
  exact (hI i _ (List.getElem?_eq_getElem h)).1
theorem to_idx (h0 : 0 < j) (h : j ≤ L.length) : toT L j = (j : Int) := by
  unfold toT
  rw [if_neg (by omega), List.getElem?_eq_getElem (by omega)]
  have := (hI (j - 1) _ (List.getElem?_eq_getElem (by omega))).2
  dsimp only
  omega
/-- A part of Kids. -/
theorem rd_mk (k t : By) {f : Int} {ks : List Pt} (hf : f = fromT L i) (h : Ends L i j) (hw : WiL L ks i j) : Rd L i j (.mk k t f (toT L j) ks) := by
  have hlt : i < L.length := Nat.lt_of_lt_of_le h.lt h.le
  have h0 : 0 < j := Nat.lt_of_le_of_lt (Nat.zero_le _) h.lt
  subst hf
  refine ⟨h, ?_, ?_⟩
  · unfold Wi
    exact .inr ⟨i, j, from_idx hI hlt, to_idx hI h0 h.le, Nat.le_refl _, h.lt, Nat.le_refl _, h.le, h.ns, hw⟩
  · show 0 < toT L j
    rw [to_idx hI h0 h.le]; omega
theorem rd_part {k t : By} {f : Int} {ks : List Pt} {m : Nat} (hp : T.part L k t f ks j = .ok p m) (hf : f = fromT L i) (h : Ends L i j) (hw : WiL L ks i j) : Rd L i m p := by
  unfold T.part at hp
  cases hp
  exact rd_mk hI k t hf h hw
theorem typed_rd : ∀ (n i : Nat) {p : Pt} {j : Nat}, typed L n i = .ok p j → Rd L i j p
  | 0, _, _, _, h => by cases h
  | n + 1, i, p, j, h => by
    unfold typed at h
    split at h
    · rename_i h1
      obtain ⟨x, k, h2, h3⟩ := next_ok.1 h
      have hx := typed_rd n _ h2
      exact rd_part hI h3 rfl (hx.toEnds.mono (Nat.le_succ _)) (.one (hx.wi.mono (Nat.le_succ _) (Nat.le_refl _)))
    · split at h
      · rename_i h1
        obtain ⟨u, k, h2, h3⟩ := next_ok.1 h
        obtain ⟨x, m, h4, h5⟩ := next_ok.1 h3
        have hk := (must_ends h2).lt
        have hx := typed_rd n _ h4
        exact rd_part hI h5 rfl (hx.toEnds.mono (by omega)) (.one (hx.wi.mono (by omega) (Nat.le_refl _)))
      · obtain ⟨s, k, h2, h3⟩ := next_ok.1 h
        exact rd_part hI h3 rfl (name_ends h2) .nil
theorem param_rd {n : Nat} {k : By} (h : param L n k i = .ok p j) : Rd L i j p := by
  unfold param at h
  obtain ⟨s, m, h2, h3⟩ := next_ok.1 h
  obtain ⟨x, o, h4, h5⟩ := next_ok.1 h3
  have hx := typed_rd hI n _ h4
  have hm := (name_ends h2).lt
  exact rd_part hI h5 rfl (hx.toEnds.mono (by omega)) (.one (hx.wi.mono (by omega) (Nat.le_refl _)))
theorem params_rd (m : Nat) : ∀ (n i : Nat) (acc : List Pt) {l : List Pt} {j : Nat}, params L m n i acc = .ok l j → Ends L i j ∧ ∀ a, a ≤ i → WiL L acc a i → (∀ q ∈ acc, 0 < endP q) → WiL L l a j ∧ ∀ q ∈ l, 0 < endP q
  | 0, _, _, _, _, h => by cases h
  | n + 1, i, acc, l, j, h => by
    unfold params at h
    obtain ⟨p, k, h2, h3⟩ := next_ok.1 h
    have hp := param_rd hI h2
    have hk := hp.lt
    have hadd : ∀ a, a ≤ i → WiL L acc a i → (∀ q ∈ acc, 0 < endP q) → WiL L (acc ++ [p]) a k ∧ ∀ q ∈ acc ++ [p], 0 < endP q := fun a ha hw hz => ⟨hw.snoc hp.wi ha (Nat.le_of_lt hk), fun q hq => by
      rcases List.mem_append.1 hq with hq | hq
      · exact hz q hq
      · rw [List.mem_singleton.1 hq]; exact hp.nz⟩
    split at h3
    · rename_i h4
      cases h3
      exact ⟨(isT_ends h4).mono (Nat.le_of_lt hk), fun a ha hw hz => ⟨(hadd a ha hw hz).1.mono (Nat.le_refl _) (Nat.le_succ _), (hadd a ha hw hz).2⟩⟩
    · obtain ⟨u, m', h4, h5⟩ := next_ok.1 h3
      have hm := (must_ends h4).lt
      have hr := params_rd m n m' (acc ++ [p]) h5
      exact ⟨hr.1.mono (by omega), fun a ha hw hz => hr.2 a (by omega) ((hadd a ha hw hz).1.mono (Nat.le_refl _) (Nat.le_of_lt hm)) (hadd a ha hw hz).2⟩
theorem fields_rd (m : Nat) : ∀ (n i : Nat) (acc : List Pt) {l : List Pt} {j : Nat}, fields L m n i acc = .ok l j → i ≤ j ∧ ∀ a, a ≤ i → WiL L acc a i → WiL L l a j
  | 0, _, _, _, _, h => by cases h
  | n + 1, i, acc, l, j, h => by
    unfold fields at h
    split at h
    · cases h; exact ⟨Nat.le_refl _, fun a ha hw => hw⟩
    · obtain ⟨p, k, h2, h3⟩ := next_ok.1 h
      have hp := param_rd hI h2
      have hk := hp.lt
      split at h3
      · cases h3
      · have hr := fields_rd m n _ (acc ++ [p]) h3
        exact ⟨by omega, fun a ha hw => hr.2 a (by omega) ((hw.snoc hp.wi ha (Nat.le_of_lt hk)).mono (Nat.le_refl _) (by omega))⟩
omit hI in
structure RdE (L : List TokP) (n : Nat) : Prop where
  expr : ∀ than i p j, expr L n than i = .ok p j → Rd L i j p
  exprs : ∀ than f a i p j i0, exprs L n than f a i = .ok p j → f = fromT L i0 → Rd L i0 i a → Rd L i0 j p
  prefixT : ∀ i p j, prefixT L n i = .ok p j → Rd L i j p
  tails : ∀ f a i p j i0, tails L n f a i = .ok p j → f = fromT L i0 → Rd L i0 i a → Rd L i0 j p
  operand : ∀ i p j, operand L n i = .ok p j → Rd L i j p
  args : ∀ i acc l j, args L n i acc = .ok l j → Ends L i j ∧ ∀ a, a ≤ i → WiL L acc a i → WiL L l a j
theorem rdE : ∀ n, RdE L n
  | 0 => ⟨fun _ _ _ _ h => by simp only [expr] at h; (cases h), fun _ _ _ _ _ _ _ h => by simp only [exprs] at h; (cases h), fun _ _ _ h => by simp only [prefixT] at h; (cases h), fun _ _ _ _ _ _ h => by simp only [tails] at h; (cases h), fun _ _ _ h => by simp only [operand] at h; (cases h), fun _ _ _ _ h => by simp only [args] at h; (cases h)⟩
  | n + 1 => by
    have ih := rdE n
    refine ⟨fun than i p j h => ?_, fun than f a i p j i0 h hf ha => ?_, fun i p j h => ?_, fun f a i p j i0 h hf ha => ?_, fun i p j h => ?_, fun i acc l j h => ?_⟩
    · rw [expr] at h
      obtain ⟨a, k, h2, h3⟩ := next_ok.1 h
      exact ih.exprs _ _ _ _ _ _ i h3 rfl (ih.prefixT _ _ _ h2)
    · rw [exprs] at h
      split at h
      · obtain ⟨b, k, h2, h3⟩ := next_ok.1 h
        have hb := ih.expr _ _ _ _ h2
        have h1 := hb.lt
        have h4 := ha.lt
        refine ih.exprs _ _ _ _ _ _ i0 h3 hf (rd_mk hI _ _ hf (hb.toEnds.mono (by omega)) (.two ha.wi (hb.wi.mono (Nat.le_succ _) (Nat.le_refl _)) (by omega) (by omega)))
      · cases h; exact ha
    · rw [prefixT] at h
      have un : ∀ x : By, ((prefixT L n (i + 1)).next fun e j => T.part L kUnary x (fromT L i) [e] j) = .ok p j → Rd L i j p := fun x h => by
        obtain ⟨e, k, h2, h3⟩ := next_ok.1 h
        have he := ih.prefixT _ _ _ h2
        exact rd_part hI h3 rfl (he.toEnds.mono (Nat.le_succ _)) (.one (he.wi.mono (Nat.le_succ _) (Nat.le_refl _)))
      repeat' split at h
      · exact un _ h
      · exact un _ h
      · exact un _ h
      · exact un _ h
      · obtain ⟨a, k, h2, h3⟩ := next_ok.1 h
        exact ih.tails _ _ _ _ _ i h3 rfl (ih.operand _ _ _ h2)
    · rw [tails] at h
      have h4 := ha.lt
      split at h
      · obtain ⟨s, k, h2, h3⟩ := next_ok.1 h
        have hk := name_ends h2
        have h1 := hk.lt
        exact ih.tails _ _ _ _ _ i0 h3 hf (rd_mk hI _ _ hf (hk.mono (by omega)) (.one (ha.wi.mono (Nat.le_refl _) (by omega))))
      · split at h
        · obtain ⟨e, k, h2, h3⟩ := next_ok.1 h
          obtain ⟨u, m, h5, h6⟩ := next_ok.1 h3
          have he := ih.expr _ _ _ _ h2
          have hm := must_ends h5
          have h1 := hm.lt
          have h7 := he.lt
          exact ih.tails _ _ _ _ _ i0 h6 hf (rd_mk hI _ _ hf (hm.mono (by omega)) (.two ha.wi (he.wi.mono (Nat.le_succ _) (by omega)) (by omega) (by omega)))
        · cases h; exact ha
    · rw [operand] at h
      split at h
      · rename_i h1
        exact rd_part hI h rfl (comes_ends h1 (by decide)) .nil
      · split at h
        · rename_i h1
          exact rd_part hI h rfl (comes_ends h1 (by decide)) .nil
        · split at h
          · obtain ⟨e, k, h2, h3⟩ := next_ok.1 h
            obtain ⟨u, m, h5, h6⟩ := next_ok.1 h3
            cases h6
            have he := ih.expr _ _ _ _ h2
            have hm := must_ends h5
            have h7 := he.lt
            have h8 := hm.lt
            exact ⟨hm.mono (by omega), he.wi.mono (Nat.le_succ _) (by omega), he.nz⟩
          · obtain ⟨s, k, h2, h3⟩ := next_ok.1 h
            have hk := name_ends h2
            have h1 := hk.lt
            split at h3
            · exact rd_part hI h3 rfl hk .nil
            · split at h3
              · obtain ⟨x, m, h5, h6⟩ := next_ok.1 h3
                obtain ⟨u, o, h7, h8⟩ := next_ok.1 h6
                have hx := typed_rd hI n _ h5
                have ho := must_ends h7
                have h9 := hx.lt
                have h10 := ho.lt
                exact rd_part hI h8 rfl (ho.mono (by omega)) (.one (hx.wi.mono (by omega) (by omega)))
              · split at h3
                · obtain ⟨x, m, h5, h6⟩ := next_ok.1 h3
                  obtain ⟨u, o, h7, h8⟩ := next_ok.1 h6
                  obtain ⟨e, q, h9, h10⟩ := next_ok.1 h8
                  obtain ⟨u2, r, h11, h12⟩ := next_ok.1 h10
                  have hx := typed_rd hI n _ h5
                  have ho := (must_ends h7).lt
                  have he := ih.expr _ _ _ _ h9
                  have hr := must_ends h11
                  have e1 := hx.lt
                  have e2 := he.lt
                  have e3 := hr.lt
                  exact rd_part hI h12 rfl (hr.mono (by omega)) (.two (m := m) (hx.wi.mono (by omega) (Nat.le_refl _)) (he.wi.mono (by omega) (by omega)) (by omega) (by omega))
                · split at h3
                  · rename_i h5
                    exact rd_part hI h3 rfl ((isT_ends h5).mono (by omega)) .nil
                  · obtain ⟨l, m, h5, h6⟩ := next_ok.1 h3
                    have hl := ih.args _ _ _ _ h5
                    exact rd_part hI h6 rfl (hl.1.mono (by omega)) (hl.2 i (by omega) .nil)
    · rw [args] at h
      obtain ⟨a, k, h2, h3⟩ := next_ok.1 h
      have ha := ih.expr _ _ _ _ h2
      have hk := ha.lt
      split at h3
      · rename_i h4
        cases h3
        exact ⟨(isT_ends h4).mono (by omega), fun b hb hw => (hw.snoc ha.wi hb (Nat.le_of_lt hk)).mono (Nat.le_refl _) (Nat.le_succ _)⟩
      · obtain ⟨u, m, h4, h5⟩ := next_ok.1 h3
        have hm := (must_ends h4).lt
        have hr := ih.args _ _ _ _ h5
        exact ⟨hr.1.mono (by omega), fun b hb hw => hr.2 b (by omega) ((hw.snoc ha.wi hb (Nat.le_of_lt hk)).mono (Nat.le_refl _) (Nat.le_of_lt hm))⟩
theorem variable_rd {n : Nat} (h : variable' L n i = .ok p j) : Rd L i j p := by
  unfold variable' at h
  obtain ⟨u, k, h2, h3⟩ := next_ok.1 h
  obtain ⟨s, m, h4, h5⟩ := next_ok.1 h3
  obtain ⟨x, o, h6, h7⟩ := next_ok.1 h5
  have e1 := (must_ends h2).lt
  have e2 := (name_ends h4).lt
  have hx := typed_rd hI n _ h6
  have e3 := hx.lt
  exact rd_part hI h7 rfl (hx.toEnds.mono (by omega)) (.one (hx.wi.mono (by omega) (Nat.le_refl _)))
omit hI in
structure RdS (L : List TokP) (n : Nat) : Prop where
  block : ∀ i p j, block L n i = .ok p j → Rd L i j p
  stmts : ∀ i acc l j, stmts L n i acc = .ok l j → i ≤ j ∧ ∀ a, a ≤ i → WiL L acc a i → WiL L l a j
  branch : ∀ i p j, branch L n i = .ok p j → Rd L i j p
  stmt : ∀ i p j, stmt L n i = .ok p j → Rd L i j p
theorem rdS : ∀ n, RdS L n
  | 0 => ⟨fun _ _ _ h => by simp only [block] at h; (cases h), fun _ _ _ _ h => by simp only [stmts] at h; (cases h), fun _ _ _ h => by simp only [branch] at h; (cases h), fun _ _ _ h => by simp only [stmt] at h; (cases h)⟩
  | n + 1 => by
    have ih := rdS n
    have he := rdE hI n
    refine ⟨fun i p j h => ?_, fun i acc l j h => ?_, fun i p j h => ?_, fun i p j h => ?_⟩
    · rw [block] at h
      obtain ⟨u, k, h2, h3⟩ := next_ok.1 h
      obtain ⟨l, m, h4, h5⟩ := next_ok.1 h3
      obtain ⟨u2, o, h6, h7⟩ := next_ok.1 h5
      have e1 := (must_ends h2).lt
      have hl := ih.stmts _ _ _ _ h4
      have e3 := must_ends h6
      have e4 := e3.lt
      have e5 := hl.1
      exact rd_part hI h7 rfl (e3.mono (by omega)) ((hl.2 i (by omega) .nil).mono (Nat.le_refl _) (by omega))
    · rw [stmts] at h
      split at h
      · cases h; exact ⟨Nat.le_refl _, fun a ha hw => hw⟩
      · obtain ⟨p, k, h2, h3⟩ := next_ok.1 h
        have hp := ih.stmt _ _ _ h2
        have hk := hp.lt
        split at h3
        · cases h3
        · have hr := ih.stmts _ _ _ _ h3
          exact ⟨by omega, fun a ha hw => hr.2 a (by omega) ((hw.snoc hp.wi ha (Nat.le_of_lt hk)).mono (Nat.le_refl _) (by omega))⟩
    · rw [branch] at h
      obtain ⟨u, k, h2, h3⟩ := next_ok.1 h
      obtain ⟨e, m, h4, h5⟩ := next_ok.1 h3
      obtain ⟨b, o, h6, h7⟩ := next_ok.1 h5
      have e1 := (must_ends h2).lt
      have h8 := he.expr _ _ _ _ h4
      have h9 := ih.block _ _ _ h6
      have e2 := h8.lt
      have e3 := h9.lt
      have two : ∀ q, o ≤ q → WiL L [e, b] i q := fun q hq => .two (m := m) (h8.wi.mono (by omega) (Nat.le_refl _)) (h9.wi.mono (Nat.le_refl _) hq) (by omega) (by omega)
      have three : ∀ x q, Rd L (o + 1) q x → WiL L [e, b, x] i q := fun x q hx => WiL.snoc (l := [e, b]) (m := o) (two o (Nat.le_refl _)) (hx.wi.mono (Nat.le_succ _) (Nat.le_refl _)) (by omega) (by have := hx.lt; omega)
      split at h7
      · split at h7
        · obtain ⟨x, q, h10, h11⟩ := next_ok.1 h7
          have hx := ih.branch _ _ _ h10
          exact rd_part hI h11 rfl (hx.toEnds.mono (by omega)) (three _ _ hx)
        · obtain ⟨x, q, h10, h11⟩ := next_ok.1 h7
          have hx := ih.block _ _ _ h10
          exact rd_part hI h11 rfl (hx.toEnds.mono (by omega)) (three _ _ hx)
      · exact rd_part hI h7 rfl (h9.toEnds.mono (by omega)) (two o (Nat.le_refl _))
    · rw [stmt] at h
      split at h
      · exact variable_rd hI h
      split at h
      · exact ih.branch _ _ _ h
      split at h
      · exact ih.block _ _ _ h
      split at h
      · obtain ⟨e, k, h2, h3⟩ := next_ok.1 h
        obtain ⟨b, m, h4, h5⟩ := next_ok.1 h3
        have h6 := he.expr _ _ _ _ h2
        have h7 := ih.block _ _ _ h4
        have e1 := h6.lt
        have e2 := h7.lt
        exact rd_part hI h5 rfl (h7.toEnds.mono (by omega)) (.two (m := k) (h6.wi.mono (by omega) (Nat.le_refl _)) h7.wi (by omega) (by omega))
      split at h
      · rename_i h1
        split at h
        · exact rd_part hI h rfl (isT_ends h1) .nil
        · obtain ⟨e, k, h2, h3⟩ := next_ok.1 h
          have h6 := he.expr _ _ _ _ h2
          exact rd_part hI h3 rfl (h6.toEnds.mono (by omega)) (.one (h6.wi.mono (by omega) (Nat.le_refl _)))
      · obtain ⟨a, k, h2, h3⟩ := next_ok.1 h
        have h6 := he.expr _ _ _ _ h2
        have e1 := h6.lt
        have two : ∀ (kd : By), ((expr L n 0 (k + 1)).next fun b m => T.part L kd [] (fromT L i) [a, b] m) = .ok p j → Rd L i j p := fun kd h => by
          obtain ⟨b, m, h4, h5⟩ := next_ok.1 h
          have h7 := he.expr _ _ _ _ h4
          have e2 := h7.lt
          exact rd_part hI h5 rfl (h7.toEnds.mono (by omega)) (.two (m := k) h6.wi (h7.wi.mono (by omega) (Nat.le_refl _)) (by omega) (by omega))
        split at h3
        · exact two _ h3
        · split at h3
          · exact two _ h3
          · exact rd_part hI h3 rfl h6.toEnds (.one h6.wi)
end
end
end Go.Proofs.YtnjhmjkonmmomaaDoor.K
end
/- QPlain: Plain facts about a program's pieces: where a declaration begins, whatever stands ahead of its line, or behind it; what the first word of a line says of it; the words of a text behind whose byte 10 another one stands. It imports nothing of the program. -/
section
namespace Go.Proofs.YtnjhmjkonmmomaaDoor.Q
open Go.Lib Go.Proofs.YtnjhmjkonmmomaaDoor.U Go.Proofs.YtnjhmjkonmmomaaDoor.S

/-! ### One text behind another, with a byte 10 between -/
theorem decodeN_stop (n k b0 b1 b2 b3 c1 c2 c3 : Nat) (hn : 1 ≤ n) (h1 : 1 < n → c1 = b1) (h2 : 2 < n → c2 = b2) (h3 : 3 < n → c3 = b3) (g1 : n = 1 → c1 = 10) (g2 : n = 2 → c2 = 10) (g3 : n = 3 → c3 = 10) :
    decodeN (n + k) b0 c1 c2 c3 = decodeN n b0 b1 b2 b3 := by
  unfold decodeN
  by_cases c0 : b0 < 128
  · simp [c0]
  · rw [if_neg c0, if_neg c0]
    by_cases e1 : n = 1
    · have := g1 e1
      rw [if_neg (by omega), if_neg (by omega), if_neg (by omega), if_neg (by omega), if_neg (by omega), if_neg (by omega)]
    · have := h1 (by omega)
      subst this
      by_cases q1 : b0 / 32 = 6 ∧ (1 < n ∧ c1 / 64 = 2)
      · rw [if_pos q1, if_pos (by omega)]
      · rw [if_neg q1, if_neg (by omega)]
        by_cases e2 : n = 2
        · have := g2 e2
          rw [if_neg (by omega), if_neg (by omega), if_neg (by omega), if_neg (by omega)]
        · have := h2 (by omega)
          subst this
          by_cases q2 : b0 / 16 = 14 ∧ (1 < n ∧ c1 / 64 = 2) ∧ (2 < n ∧ c2 / 64 = 2)
          · rw [if_pos q2, if_pos (by omega)]
          · rw [if_neg q2, if_neg (by omega)]
            by_cases e3 : n = 3
            · have := g3 e3
              rw [if_neg (by omega), if_neg (by omega)]
            · have := h3 (by omega)
              subst this
              by_cases q3 : b0 / 8 = 30 ∧ (1 < n ∧ c1 / 64 = 2) ∧ (2 < n ∧ c2 / 64 = 2) ∧ (3 < n ∧ c3 / 64 = 2)
              · rw [if_pos q3, if_pos (by omega)]
              · rw [if_neg q3, if_neg (by omega)]
theorem mk_app (a b : By) : (⟨(a ++ b).toArray⟩ : ByteArray) = ⟨a.toArray⟩ ++ ⟨b.toArray⟩ := by
  apply ByteArray.ext
  simp [ByteArray.data_append]
theorem mk_size (a : By) : (⟨a.toArray⟩ : ByteArray).size = a.length := by simp [ByteArray.size]
theorem wid_stop (c : UInt8) (r b : By) : wid (c :: r ++ 10 :: b) = wid (c :: r) := by
  unfold wid
  rw [mk_app]
  obtain ⟨A, hA⟩ : ∃ A : ByteArray, (⟨(c :: r).toArray⟩ : ByteArray) = A := ⟨_, rfl⟩
  obtain ⟨B, hB⟩ : ∃ A : ByteArray, (⟨(10 :: b).toArray⟩ : ByteArray) = A := ⟨_, rfl⟩
  have hn : 1 ≤ A.size := by rw [← hA, mk_size]; simp
  have h10 : (B.get! 0).toNat = 10 := by
    rw [← hB]
    show (((10 : UInt8) :: b).toArray[0]!).toNat = 10
    simp
  rw [hA, hB]
  clear hA hB
  have hg : ∀ i, A.size = i → ((A ++ B).get! i).toNat = 10 := fun i hi => by
    have := get!_right A B 0
    rw [Nat.add_zero, hi] at this
    rw [this, h10]
  rw [decode_at, decode_at, size_append, get!_left A B 0 (by omega)]
  simp only [Nat.zero_add, Nat.sub_zero]
  rw [decodeN_stop A.size B.size _ _ _ _ _ _ _ hn (fun h => by rw [get!_left A B 1 h]) (fun h => by rw [get!_left A B 2 h]) (fun h => by rw [get!_left A B 3 h]) (hg 1) (hg 2) (hg 3)]
theorem word_stop2 (r1 : Bool) (c : UInt8) (r b : By) : wordL r1 (c :: r ++ 10 :: b) = wordL r1 (c :: r) := by
  have hn : nameLen (c :: r ++ 10 :: b) = nameLen (c :: r) := by
    rw [List.cons_append]; simp only [nameLen, tw_stop (show nmc 10 = false by decide)]
  have hm : numLen (c :: r ++ 10 :: b) = numLen (c :: r) := by
    unfold numLen; rw [tw_stop (show figu 10 = false by decide)]
  have hq : quoLen (c :: r ++ 10 :: b) = quoLen (c :: r) := by
    rw [List.cons_append]; simp only [quoLen, quoTail_stop]
  have ht : two (c :: r ++ 10 :: b) = two (c :: r) := by
    cases r with
    | nil => simp [two]
    | cons x y => rfl
  have hk : markLen r1 (c :: r ++ 10 :: b) = markLen r1 (c :: r) := by
    unfold markLen
    rw [ht, wid_stop]
  have htk : (c :: r ++ 10 :: b).take (nameLen (c :: r)) = (c :: r).take (nameLen (c :: r)) := List.take_append_of_le_length (name_le _)
  unfold wordL
  rw [hn, hm, hq, hk, htk]
  rfl
theorem scanF_join2 (r1 : Bool) (b : By) : ∀ (n m : Nat) (x : By) (pos : Nat) (ended : Bool), (x ++ 10 :: b).length < n → x.length < m →
    ∃ k, b.length < k ∧ scanF r1 n (x ++ 10 :: b) pos ended = (scanF r1 m x pos ended).map (fixT (pos + x.length)) ++ scanF r1 k b (pos + x.length + 1) false
  | 0, _, _, _, _, h, _ => by omega
  | _ + 1, 0, _, _, _, _, h => by omega
  | n + 1, m + 1, [], pos, ended, hn, hm => by
    refine ⟨n, by simp at hn; omega, ?_⟩
    simp only [List.nil_append, scanF, List.length_nil, Nat.add_zero]
    cases ended
    · simp [S.blank]
    · simp [fixT]
  | n + 1, m + 1, c :: r, pos, ended, hn, hm => by
    have hr : (r ++ 10 :: b).length < n ∧ r.length < m := by simp only [List.cons_append, List.length_cons] at hn hm; exact ⟨by omega, by omega⟩
    have hcl := cmt_le (c :: r)
    have hwb := word_bounds r1 (l := c :: r) (by simp)
    have hw := word_stop2 r1 c r b
    have hc := cmt_stop c r b
    have hfix : ∀ (w : Int) (t : By) (e : Int), fixT (pos + (c :: r).length) ⟨w, t, pos, e⟩ = ⟨w, t, pos, e⟩ := fun w t e => by
      unfold fixT
      rw [if_neg (by simp only [List.length_cons]; omega)]
    have hdrop : ∀ k, 1 ≤ k → k ≤ (c :: r).length → (c :: r ++ 10 :: b).drop k = (c :: r).drop k ++ 10 :: b ∧ ((c :: r).drop k ++ 10 :: b).length < n ∧ ((c :: r).drop k).length < m ∧ pos + k + ((c :: r).drop k).length = pos + (c :: r).length := fun k h1 h2 => by
      refine ⟨List.drop_append_of_le_length h2, ?_, ?_, ?_⟩
      · rw [List.length_append, List.length_drop]; simp only [List.cons_append, List.length_cons, List.length_append] at hn h2 ⊢; omega
      · rw [List.length_drop]; simp only [List.length_cons] at hm h2 ⊢; omega
      · rw [List.length_drop]; omega
    rw [List.cons_append] at hw hc ⊢
    simp only [scanF]
    rw [hw, hc]
    split
    · obtain ⟨k, h1, h2⟩ := scanF_join2 r1 b n m r (pos + 1) false hr.1 hr.2
      refine ⟨k, h1, ?_⟩
      rw [h2, List.map_cons, hfix, List.cons_append]
      simp only [List.length_cons]
      rw [show pos + 1 + r.length = pos + (r.length + 1) by omega]
    · split
      · obtain ⟨k, h1, h2⟩ := scanF_join2 r1 b n m r (pos + 1) ended hr.1 hr.2
        refine ⟨k, h1, ?_⟩
        rw [h2]
        simp only [List.length_cons]
        rw [show pos + 1 + r.length = pos + (r.length + 1) by omega]
      · split
        · rename_i hk
          obtain ⟨d1, d2, d3, d5⟩ := hdrop _ hk hcl
          rw [← List.cons_append, d1]
          obtain ⟨k, h1, h2⟩ := scanF_join2 r1 b n m _ (pos + cmtLen (c :: r)) ended d2 d3
          refine ⟨k, h1, ?_⟩
          rw [h2, d5]
        · obtain ⟨d1, d2, d3, d5⟩ := hdrop _ hwb.1 hwb.2
          rw [← List.cons_append, d1, List.take_append_of_le_length hwb.2]
          obtain ⟨k, h1, h2⟩ := scanF_join2 r1 b n m _ (pos + (wordL r1 (c :: r)).2) (endsP (wordL r1 (c :: r)).1 ((c :: r).take (wordL r1 (c :: r)).2)) d2 d3
          refine ⟨k, h1, ?_⟩
          rw [h2, d5, List.map_cons, hfix, List.cons_append]
theorem scan_join2 (r : Bool) (a b : By) : scanB r (a ++ 10 :: b) = (scanB r a).map (fixT a.length) ++ (scanB r b).map (shiftT (a.length + 1)) := by
  obtain ⟨k, h1, h2⟩ := scanF_join2 r b ((a ++ 10 :: b).length + 1) (a.length + 1) a 0 false (by omega) (by omega)
  unfold scanB
  rw [h2, Nat.zero_add]
  congr 1
  rw [scanF_fuel r k (b.length + 1) b _ _ h1 (by omega)]
  have := scanF_shift r (a.length + 1) (b.length + 1) b 0 false
  rw [Nat.zero_add] at this
  exact this
/-- How many words a text has that is cut behind a byte 10. -/
theorem scan_parts (r : Bool) (a b : By) : (scanB r (a ++ 10 :: b)).length = (scanB r (a ++ [10])).length + (scanB r b).length := by
  rw [scan_join2, scan_join2]
  simp [show scanB r [] = [] from rfl]

/-! ### Where a declaration begins -/
def kw (x : By) : Bool := x == [102, 117, 110, 99] || x == [118, 97, 114] || x == [116, 121, 112, 101]
def declW (l : By) : Bool := kw (l.takeWhile nmc)
def beg (s : By) (i : Nat) : Bool := (decide (i = 0) || decide (s[i - 1]? = some 10)) && declW (s.drop i)
theorem kw_not {c : UInt8} (h : lett c = false) (x : By) : kw (c :: x) = false := by
  unfold kw
  have h1 : ¬ c = 102 := by rintro rfl; simp [lett] at h
  have h2 : ¬ c = 118 := by rintro rfl; simp [lett] at h
  have h3 : ¬ c = 116 := by rintro rfl; simp [lett] at h
  simp [h1, h2, h3]
theorem declW_not {c : UInt8} (h : lett c = false) (x : By) : declW (c :: x) = false := by
  unfold declW
  rw [List.takeWhile_cons]
  split
  · exact kw_not h _
  · rfl
theorem declW_stop (a b : By) : declW (a ++ 10 :: b) = declW a := by unfold declW; rw [tw_stop (show nmc 10 = false by decide)]
theorem declW_nil : declW [] = false := rfl
theorem rises_head {s : By} {a : Nat} {t : TokP} {r : List TokP} (h : Rises s a (t :: r)) : (a : Int) ≤ t.f := by
  cases h with
  | cons h _ _ => rw [h.from_]; have := h.le; omega
theorem lett_blank {c : UInt8} (h : S.blank c = true) : lett c = false := by
  unfold S.blank at h
  simp at h
  rcases h with ((rfl | rfl) | rfl) | rfl <;> decide
/-- What the first word of a line says of whether a declaration begins with it. -/
theorem declW_scan (r : Bool) (l : By) : (scanB r l = [] → declW l = false) ∧ ∀ t u, scanB r l = t :: u → (0 < t.f → declW l = false) ∧ (¬ 0 < t.f → declW l = kw t.t) := by
  cases l with
  | nil => exact ⟨fun _ => rfl, fun t u h => by cases h⟩
  | cons c x =>
    have hri : ∀ p, p ≤ (c :: x).length → Rises (c :: x) p (scanF r (c :: x).length ((c :: x).drop p) p false) := fun p hp =>
      scanF_rises r (c :: x) _ p p false (Nat.le_refl _) hp (gap_nil _ _)
    have hfar : ∀ p, 1 ≤ p → p ≤ (c :: x).length → lett c = false → ∀ L, scanF r (c :: x).length ((c :: x).drop p) p false = L →
        (L = [] → declW (c :: x) = false) ∧ ∀ t u, L = t :: u → (0 < t.f → declW (c :: x) = false) ∧ (¬ 0 < t.f → declW (c :: x) = kw t.t) := fun p h1 h2 h3 L hL => by
      refine ⟨fun _ => declW_not h3 x, fun t u h => ⟨fun _ => declW_not h3 x, fun h4 => ?_⟩⟩
      have := hri p h2
      rw [hL, h] at this
      have := rises_head this
      omega
    have hsc : scanB r (c :: x) = scanF r ((c :: x).length + 1) (c :: x) 0 false := rfl
    simp only [scanF] at hsc
    rw [if_neg (by simp)] at hsc
    by_cases hb : S.blank c = true
    · rw [if_pos hb] at hsc
      rw [hsc]
      exact hfar 1 (Nat.le_refl _) (by simp) (lett_blank hb) _ rfl
    · rw [if_neg hb] at hsc
      by_cases hk : 0 < cmtLen (c :: x)
      · rw [if_pos hk, Nat.zero_add] at hsc
        rw [hsc]
        refine hfar _ hk (cmt_le _) ?_ _ rfl
        match x, hk with
        | [], hk => simp [cmtLen] at hk
        | b :: y, hk =>
          simp only [cmtLen] at hk
          split at hk
          · rename_i h; rw [h.1]; rfl
          · omega
      · rw [if_neg hk] at hsc
        rw [hsc]
        refine ⟨fun h => by (cases h), fun t u h => ?_⟩
        simp only [List.cons.injEq] at h
        obtain ⟨rfl, _⟩ := h
        refine ⟨fun h => by simp at h, fun _ => ?_⟩
        simp only
        have hwb := (word_bounds r (l := c :: x) (by simp)).1
        by_cases hl : lett c = true
        · have hn : nameLen (c :: x) = (x.takeWhile nmc).length + 1 := by simp only [nameLen, hl, if_true]; omega
          have hw : (wordL r (c :: x)).2 = nameLen (c :: x) := by
            unfold wordL
            rw [if_pos (by omega)]
          rw [hw, hn, List.take_succ_cons, tw_take]
          unfold declW
          rw [List.takeWhile_cons, if_pos (by unfold nmc; rw [hl]; rfl)]
        · have hl' : lett c = false := by simpa using hl
          obtain ⟨m, hm⟩ : ∃ m, (wordL r (c :: x)).2 = m + 1 := ⟨(wordL r (c :: x)).2 - 1, by omega⟩
          rw [hm, List.take_succ_cons, kw_not hl', declW_not hl']
end Go.Proofs.YtnjhmjkonmmomaaDoor.Q
end
/- KFine: Plain: a text's words are such as the reader wants; where its part stands; blanks ahead, and lines and a comment behind, change nothing but places. -/
section
namespace Go.Proofs.YtnjhmjkonmmomaaDoor.K
open Go.Lib Go.Proofs.YtnjhmjkonmmomaaDoor.U Go.Proofs.YtnjhmjkonmmomaaDoor.S Go.Proofs.YtnjhmjkonmmomaaDoor.T

theorem sp_key : ∀ x ∈ special, keyB x = true ∨ lett (x.headD 0) = false := by decide
theorem sp_fig : ∀ x ∈ special, figu (x.headD 0) = false ∧ x.headD 0 ≠ 34 ∧ x.headD 0 ≠ 59 ∧ x ≠ [] := by decide
theorem wt_key : ∀ x ∈ weight, lett (x.headD 0) = false ∧ figu (x.headD 0) = false ∧ x.headD 0 ≠ 34 ∧ x.headD 0 ≠ 59 ∧ x ≠ [] := by decide
theorem word_fine (right : Bool) (c : UInt8) (r : By) (f e : Int) : Fine ⟨(wordL right (c :: r)).1, (c :: r).take (wordL right (c :: r)).2, f, e⟩ := by
  have hb := word_bounds right (l := c :: r) (by simp)
  obtain ⟨k, hk⟩ : ∃ k, (wordL right (c :: r)).2 = k + 1 := ⟨(wordL right (c :: r)).2 - 1, by omega⟩
  have hd : ((c :: r).take (wordL right (c :: r)).2).headD 0 = c := by rw [hk]; rfl
  have hw : wordL right (c :: r) = wordL right (c :: r) := rfl
  obtain ⟨x, hx⟩ : ∃ x, (c :: r).take (wordL right (c :: r)).2 = x := ⟨_, rfl⟩
  rw [hx] at hd ⊢
  unfold wordL at hx ⊢
  split at hx
  · rename_i h1
    rw [if_pos h1]
    dsimp only at hx ⊢
    rw [hx]
    have hl : lett c = true := by
      by_cases h : lett c = true
      · exact h
      · have h2 : nameLen (c :: r) = 0 := by simp only [nameLen]; rw [if_neg h]
        omega
    refine ⟨by dsimp only; split <;> decide, fun h => ?_, fun h => ?_⟩
    · rcases sp_key x h with h2 | h2
      · dsimp only; rw [if_pos h2]; exact .inr rfl
      · rw [hd, hl] at h2; cases h2
    · have h2 := (wt_key x h).1
      rw [hd, hl] at h2; cases h2
  · rename_i h1
    rw [if_neg h1]
    split at hx
    · rename_i h2
      rw [if_pos h2]
      have hl : figu c = true := by
        unfold numLen at h2
        by_cases h : figu c = true
        · exact h
        · rw [List.takeWhile_cons, if_neg h] at h2; exact absurd h2 (by decide)
      refine ⟨(by decide : (1 : Int) ≠ -1), fun h => ?_, fun h => ?_⟩
      · have h3 := (sp_fig x h).1; rw [hd, hl] at h3; cases h3
      · have h3 := (wt_key x h).2.1; rw [hd, hl] at h3; cases h3
    · rename_i h2
      rw [if_neg h2]
      split at hx
      · rename_i h3
        rw [if_pos h3]
        have hl : c = 34 := by
          by_cases h : c = 34
          · exact h
          · have h2 : quoLen (c :: r) = 0 := by simp only [quoLen]; rw [if_neg h]
            omega
        refine ⟨(by decide : (2 : Int) ≠ -1), fun h => ?_, fun h => ?_⟩
        · exact absurd (hd.trans hl) (sp_fig x h).2.1
        · exact absurd (hd.trans hl) (wt_key x h).2.2.1
      · rename_i h3
        rw [if_neg h3]
        split at hx
        · rename_i h4
          rw [if_pos h4]
          have hl : c = 59 := by simpa using h4
          refine ⟨(by decide : (5 : Int) ≠ -1), fun h => ?_, fun h => ?_⟩
          · exact absurd (hd.trans hl) (sp_fig x h).2.2.1
          · exact absurd (hd.trans hl) (wt_key x h).2.2.2.1
        · rename_i h4
          rw [if_neg h4]
          exact ⟨(by decide : (4 : Int) ≠ -1), fun _ => .inl rfl, fun _ => rfl⟩
theorem semi_fine (f e : Int) : Fine ⟨5, [], f, e⟩ := ⟨(by decide : (5 : Int) ≠ -1), fun h => absurd rfl (sp_fig [] h).2.2.2, fun h => absurd rfl (wt_key [] h).2.2.2.2⟩
theorem scanF_fine (right : Bool) : ∀ (n : Nat) (l : By) (pos : Nat) (ended : Bool), ∀ t ∈ scanF right n l pos ended, Fine t
  | 0, _, _, _, t, h => by cases h
  | n + 1, [], pos, ended, t, h => by
    simp only [scanF] at h
    split at h
    · rw [List.mem_singleton.1 h]; exact semi_fine _ _
    · cases h
  | n + 1, c :: r, pos, ended, t, h => by
    simp only [scanF] at h
    split at h
    · rcases List.mem_cons.1 h with rfl | h
      · exact semi_fine _ _
      · exact scanF_fine right n _ _ _ t h
    · split at h
      · exact scanF_fine right n _ _ _ t h
      · split at h
        · exact scanF_fine right n _ _ _ t h
        · rcases List.mem_cons.1 h with rfl | h
          · exact word_fine right c r _ _
          · exact scanF_fine right n _ _ _ t h
theorem scan_fine (right : Bool) (l : By) : ∀ t ∈ scanB right l, Fine t := scanF_fine right _ _ _ _

/-! ### A whole declaration -/
def begs (k : By) : Prop := k = kFunc ∨ k = kVar ∨ k = kType
theorem decl_rd {L : List TokP} (hI : Idx L) {n : Nat} {p : Pt} {j : Nat} (h : decl L n = .ok p j) : Rd L 0 j p ∧ begs (kindP p) ∧ begs (textT L 0) := by
  have hk : ∀ {k t : By} {f : Int} {ks : List Pt} {i m : Nat}, T.part L k t f ks i = .ok p m → kindP p = k := by
    intro k t f ks i m h; unfold T.part at h; cases h; rfl
  have ht : ∀ {x : By}, isT L x 0 = true → textT L 0 = x := by
    intro x h
    unfold isT at h; unfold textT
    cases h1 : L[0]? with
    | none => rw [h1] at h; cases h
    | some t => rw [h1] at h; simp at h; exact h.1
  unfold decl at h
  split at h
  · rename_i h0
    unfold func' at h
    obtain ⟨u, k, h2, h3⟩ := next_ok.1 h
    obtain ⟨s, m, h4, h5⟩ := next_ok.1 h3
    obtain ⟨u2, o, h6, h7⟩ := next_ok.1 h5
    obtain ⟨ps, q, h8, h9⟩ := next_ok.1 h7
    obtain ⟨rs, v, h10, h11⟩ := next_ok.1 h9
    obtain ⟨b, w, h12, h13⟩ := next_ok.1 h11
    have e1 := (must_ends h2).lt
    have e2 := (name_ends h4).lt
    have e3 := (must_ends h6).lt
    have hb := (rdS hI n).block _ _ _ h12
    have e6 := hb.lt
    have hp : o ≤ q ∧ WiL L ps 0 q ∧ ∀ x ∈ ps, 0 < endP x := by
      split at h8
      · cases h8; exact ⟨Nat.le_succ _, .nil, fun x hx => by cases hx⟩
      · have := params_rd hI n n o [] h8
        have h1 := this.1.lt
        exact ⟨by omega, this.2 0 (Nat.zero_le _) .nil (fun x hx => by cases hx)⟩
    have hr : q ≤ v ∧ WiL L rs q v ∧ ∀ x ∈ rs, 0 < endP x := by
      split at h10
      · cases h10; exact ⟨Nat.le_refl _, .nil, fun x hx => by cases hx⟩
      · obtain ⟨x, z, h14, h15⟩ := next_ok.1 h10
        cases h15
        have hx := typed_rd hI n _ h14
        exact ⟨Nat.le_of_lt hx.lt, .one hx.wi, fun y hy => by rw [List.mem_singleton.1 hy]; exact hx.nz⟩
    refine ⟨rd_part hI h13 rfl (hb.toEnds.mono (Nat.zero_le _)) ?_, .inl (hk h13), .inl (ht h0)⟩
    have all : ∀ (kd : By) (l : List Pt) (a c : Nat), WiL L l a c → a ≤ c → (∀ x ∈ l, 0 < endP x) → Wi L (allP kd l) a c := by
      intro kd l a c hl hac hz
      have lastW : ∀ (l : List Pt) (a : Nat) (q : Pt), WiL L l a c → l.getLast? = some q → ∃ a', a ≤ a' ∧ Wi L q a' c ∧ ((∀ x ∈ l, 0 < endP x) → 0 < endP q) := by
        intro l
        induction l with
        | nil => intro a q _ h; cases h
        | cons x r ih =>
          intro a q hl h
          unfold WiL at hl
          cases r with
          | nil => cases h; exact ⟨a, Nat.le_refl _, hl.1, fun hz => hz _ List.mem_cons_self⟩
          | cons y r =>
            rw [List.getLast?_cons_cons] at h
            obtain ⟨a', h1, h2, h3⟩ := ih _ _ hl.2 h
            refine ⟨a, Nat.le_refl _, h2.mono (Nat.le_trans ?_ h1) (Nat.le_refl _), fun hz => h3 (fun x hx => hz x (List.mem_cons_of_mem _ hx))⟩
            have hw := hl.1
            obtain ⟨kx, tx, fx, ex, ksx⟩ := x
            unfold Wi at hw
            rcases hw with ⟨_, h5, _⟩ | ⟨i, j, _, h5, h6, h7, _⟩
            · subst h5; show a ≤ if (0 : Int) = 0 then a else _; rw [if_pos rfl]; exact Nat.le_refl _
            · subst h5; show a ≤ if (j : Int) = 0 then a else (j : Int).toNat; split <;> omega
      cases l with
      | nil => unfold allP Wi; exact .inl ⟨rfl, rfl, rfl⟩
      | cons x r =>
        obtain ⟨q, hq⟩ : ∃ q, (x :: r).getLast? = some q := ⟨_, List.getLast?_eq_some_getLast (by simp)⟩
        have hq' : ∃ pre, x :: r = pre ++ [q] := ⟨_, (List.getLast?_eq_some_iff.1 hq).choose_spec⟩
        have hzx := hz x List.mem_cons_self
        obtain ⟨kx, tx, fx, ex, ksx⟩ := x
        obtain ⟨kq, tq, fq, eq, ksq⟩ := q
        have ea : allP kd (Pt.mk kx tx fx ex ksx :: r) = .mk kd [] fx eq (Pt.mk kx tx fx ex ksx :: r) := by simp only [allP]; rw [hq]
        rw [ea]
        have hl' := hl
        unfold WiL at hl'
        have hx := hl'.1
        unfold Wi at hx
        rcases hx with ⟨_, h5, _⟩ | ⟨i, j, h5, h6, h7, h8, h9, h10, h11, h12⟩
        · subst h5; exact absurd hzx (by show ¬ (0 : Int) < 0; decide)
        · obtain ⟨a', g1, g2, g3⟩ := lastW _ _ _ hl hq
          have hzq := g3 hz
          unfold Wi at g2
          rcases g2 with ⟨_, h5, _⟩ | ⟨i2, j2, k5, k6, k7, k8, k9, k10, k11, k12⟩
          · subst h5; exact absurd hzq (by show ¬ (0 : Int) < 0; decide)
          · unfold Wi
            -- the first one begins it, the last one ends it
            have hle : ∀ (l : List Pt) (a : Nat), WiL L l a c → (∀ x ∈ l, 0 < endP x) → ∀ q, l.getLast? = some q → a < (endP q).toNat ∧ WiL L l a (endP q).toNat := by
              intro l
              induction l with
              | nil => intro a _ _ q h; cases h
              | cons x r ih =>
                intro a hl hz q h
                unfold WiL at hl
                have hzx := hz x List.mem_cons_self
                have hw := hl.1
                have hx : ∃ j : Nat, endP x = (j : Int) ∧ a < j ∧ Wi L x a j := by
                  obtain ⟨kx, tx, fx, ex, ksx⟩ := x
                  unfold Wi at hw
                  rcases hw with ⟨_, h5, _⟩ | ⟨i, j, w1, w2, w3, w4, w5, w6⟩
                  · subst h5; exact absurd hzx (by show ¬ (0 : Int) < 0; decide)
                  · refine ⟨j, w2, by omega, ?_⟩
                    unfold Wi
                    exact .inr ⟨i, j, w1, w2, w3, w4, Nat.le_refl _, w6⟩
                obtain ⟨j, e1, e2, e3⟩ := hx
                cases r with
                | nil =>
                  obtain rfl : x = q := by simpa using h
                  rw [e1]
                  exact ⟨by omega, .one (e3.mono (Nat.le_refl _) (by omega))⟩
                | cons y r =>
                  rw [List.getLast?_cons_cons] at h
                  obtain ⟨f1, f2⟩ := ih _ hl.2 (fun x hx => hz x (List.mem_cons_of_mem _ hx)) q h
                  have hlast : lastOf a x = j := by unfold lastOf; rw [e1, if_neg (by omega)]; rfl
                  rw [hlast] at f1 f2
                  refine ⟨by omega, ?_⟩
                  unfold WiL
                  rw [hlast]
                  exact ⟨e3.mono (Nat.le_refl _) (by omega), f2⟩
            obtain ⟨f1, f2⟩ := hle _ _ hl hz _ hq
            have f1 : a < eq.toNat := f1
            have f2 : WiL L _ a eq.toNat := f2
            subst k6
            rw [Int.toNat_natCast] at f2
            refine .inr ⟨i, j2, h5, rfl, h7, ?_, k9, k10, k11, ?_⟩
            · have : WiL L (Pt.mk kx tx fx ex ksx :: r) a j2 := f2
              unfold WiL at this
              have h := this.1
              unfold Wi at h
              rcases h with ⟨_, h6', _⟩ | ⟨i', j', w1, w2, w3, w4, w5, _⟩
              · rw [h6'] at hzx; exact absurd hzx (by show ¬ (0 : Int) < 0; decide)
              · omega
            · unfold WiL at f2 ⊢
              refine ⟨?_, ?_⟩
              · have h := f2.1
                unfold Wi at h ⊢
                rcases h with ⟨_, h6', _⟩ | ⟨i', j', w1, w2, w3, w4, w5, w6⟩
                · rw [h6'] at hzx; exact absurd hzx (by show ¬ (0 : Int) < 0; decide)
                · exact .inr ⟨i', j', w1, w2, by omega, w4, w5, w6⟩
              · have hlast : ∀ a, lastOf a (Pt.mk kx tx fx ex ksx) = j := fun a => by
                  show (if ex = 0 then a else ex.toNat) = j
                  rw [h6, if_neg (by omega)]; rfl
                have h := f2.2
                rw [hlast] at h ⊢
                exact h
    have hP := all kParams ps 0 q hp.2.1 (Nat.zero_le _) hp.2.2
    have hR := all kResult rs q v hr.2.1 hr.1 hr.2.2
    exact WiL.snoc (l := [allP kParams ps, allP kResult rs]) (m := v) (.two (m := q) hP hR (Nat.zero_le _) hr.1) hb.wi (Nat.zero_le _) (by omega)
  · split at h
    · rename_i h0
      have hv := variable_rd hI h
      unfold variable' at h
      obtain ⟨u, k, h2, h3⟩ := next_ok.1 h
      obtain ⟨s, m, h4, h5⟩ := next_ok.1 h3
      obtain ⟨x, o, h6, h7⟩ := next_ok.1 h5
      exact ⟨hv, .inr (.inl (hk h7)), .inr (.inl (ht h0))⟩
    · split at h
      · rename_i h0
        unfold record at h
        obtain ⟨u, k, h2, h3⟩ := next_ok.1 h
        obtain ⟨s, m, h4, h5⟩ := next_ok.1 h3
        obtain ⟨u2, o, h6, h7⟩ := next_ok.1 h5
        obtain ⟨u3, q, h8, h9⟩ := next_ok.1 h7
        obtain ⟨l, v, h10, h11⟩ := next_ok.1 h9
        obtain ⟨u4, w, h12, h13⟩ := next_ok.1 h11
        have hl := fields_rd hI n n _ [] h10
        have hw := must_ends h12
        have e1 := hw.lt
        exact ⟨rd_part hI h13 rfl (hw.mono (Nat.zero_le _)) ((hl.2 0 (Nat.zero_le _) .nil).mono (Nat.le_refl _) (by omega)), .inr (.inr (hk h13)), .inr (.inr (ht h0))⟩
      · cases h
theorem fate_rd {L : List TokP} (hI : Idx L) {p : Pt} (h : fate L = .part p) : ∃ j, Rd L 0 j p ∧ begs (kindP p) ∧ begs (textT L 0) := by
  unfold fate at h
  split at h
  · rename_i q i h1
    split at h
    · cases h
    · cases h; exact ⟨i, decl_rd hI h1⟩
  · cases h
end Go.Proofs.YtnjhmjkonmmomaaDoor.K
end
