/- The program's map of documents, read as a list by name: what a look-up, a store, a removal and all keys are of it. Plain facts; of the program it names no function. -/
import Derived.Test.YtccmicmlkgkheaaDoorDPlain
import Derived.Maps.RangeWalk
import Derived.Sort.KeysCollected
import Derived.Lib.Hide
namespace Go.Proofs.YtccmicmlkgkheaaDoor.D
open Go.RowKit
open Go.Lib Go.Proofs.YtccmicmlkgkheaaDoor.U Go.Proofs.YtccmicmlkgkheaaDoor.L Go.Proofs.YtccmicmlkgkheaaDoor.E

/-! ### How a document reads as a map's element -/
def docElem : Value → Option (DataW Unit × List MemPlace)
  | .agg cs => match cs.toList with
    | [.string n, .int .i64 v, .string t] => some (.agg [.lit (.string n.data.toList), .lit (.int .i64 v), .lit (.string t.data.toList)], [])
    | _ => none
  | _ => none
def docV (d : DocP) : Value := .agg #[.string d.n, .int .i64 d.v, .string d.t]
def docD (d : DocP) : DataW Unit := .agg [.lit (.string d.n.data.toList), .lit (.int .i64 d.v), .lit (.string d.t.data.toList)]
theorem docElem_mk (d : DocP) : docElem (docV d) = some (docD d, []) := rfl
theorem docElem_inv {v : Value} {y : DataW Unit × List MemPlace} (h : docElem v = some y) : ∃ d, v = docV d ∧ y = (docD d, []) := by
  unfold docElem at h
  split at h
  · rename_i cs
    split at h
    · rename_i n v t he
      obtain ⟨cs⟩ := cs
      simp only at he
      subst he
      cases h
      exact ⟨⟨n, v, t⟩, rfl, rfl⟩
    · cases h
  · cases h
theorem data_inj {x y : ByteArray} (h : x.data.toList = y.data.toList) : x = y := by
  obtain ⟨x⟩ := x
  obtain ⟨y⟩ := y
  have e : x = y := Array.toList_inj.1 h
  rw [e]
theorem docD_inj {a b : DocP} (h : docD a = docD b) : a = b := by
  unfold docD at h
  simp only [DataW.agg.injEq, List.cons.injEq, DataW.lit.injEq, Lit.string.injEq, Lit.int.injEq, true_and, and_true] at h
  obtain ⟨h1, h2, h3⟩ := h
  obtain ⟨n, v, t⟩ := a
  obtain ⟨n', v', t'⟩ := b
  simp only at h1 h2 h3
  rw [data_inj h1, h2, data_inj h3]
def kl (n : ByteArray) : Lit := .string n.data.toList
theorem kl_inj {a b : ByteArray} (h : kl a = kl b) : a = b := by
  unfold kl at h
  exact data_inj (by simpa using h)
theorem kl_key (n : ByteArray) : WideAt.IsKeyLit (kl n) := trivial

/-! ### A map's datum that is a list by name -/
structure MapOf (D : DataW Unit) (l : List DocP) : Prop where
  has : ∀ n, Maps.has D (kl n) = (findL l n).isSome
  fnd : ∀ n d z, findL l n = some d → D.atKey (kl n) z = docD d
  tidy : Maps.Tidy D
theorem mapOf_nil : MapOf (.map []) [] := ⟨fun n => rfl, fun n d z h => (by cases h), Maps.tidy_empty⟩
theorem MapOf.miss {D : DataW Unit} {l : List DocP} (h : MapOf D l) {n : ByteArray} (hn : findL l n = none) (z : DataW Unit) : D.atKey (kl n) z = z :=
  Maps.atKey_of_not_has (by rw [h.has, hn]; rfl) z
theorem findL_insL {d : DocP} {n : ByteArray} : ∀ {l : List DocP}, findL l d.n = none → findL (insL d l) n = if d.n = n then some d else findL l n
  | [], _ => by
    simp only [insL, findL, List.find?_cons, List.find?_nil]
    by_cases e : d.n = n
    · simp [e]
    · simp [e]
  | x :: r, h => by
    have hx : x.n ≠ d.n := findL_none h x (by simp)
    have hr : findL r d.n = none := by
      unfold findL at h ⊢
      rw [List.find?_cons] at h
      simp only [hx, decide_false] at h
      exact h
    simp only [insL]
    split
    · simp only [findL, List.find?_cons]
      by_cases e : d.n = n
      · simp [e]
      · simp [e]
    · have ih := findL_insL (n := n) hr
      simp only [findL, List.find?_cons] at ih ⊢
      by_cases e : x.n = n
      · have e2 : d.n ≠ n := fun e3 => hx (e.trans e3.symm)
        simp [e, e2]
      · simp only [e, decide_false]
        exact ih
theorem findL_putL {l : List DocP} {n m : ByteArray} {v : Int} {t : ByteArray} (h : (findL l n).isSome = true) : findL (putL l n v t) m = if n = m then some ⟨n, v, t⟩ else findL l m := by
  induction l with
  | nil => simp [findL] at h
  | cons x r ih =>
    simp only [findL, putL, List.find?_cons, List.map_cons] at ih h ⊢
    by_cases e : x.n = n
    · subst e
      by_cases e2 : x.n = m
      · simp [e2]
      · simp only [e2, decide_false, if_true, if_false]
        by_cases hr : (List.find? (fun d => decide (d.n = x.n)) r).isSome = true
        · have := ih hr
          rw [if_neg e2] at this
          exact this
        · clear ih
          have hno : ∀ d ∈ r, ¬ d.n = x.n := by
            simp only [Bool.not_eq_true, Option.isSome_eq_false_iff, Option.isNone_iff_eq_none, List.find?_eq_none] at hr
            exact fun d hd => by simpa using hr d hd
          have : r.map (fun d => if d.n = x.n then (⟨x.n, v, t⟩ : DocP) else d) = r := by
            conv => rhs; rw [← List.map_id r]
            exact List.map_congr_left (fun d hd => by rw [if_neg (hno d hd)]; rfl)
          rw [this]
    · simp only [e, decide_false, if_false] at h ⊢
      by_cases e2 : x.n = m
      · have e3 : ¬ n = m := fun e4 => e (e2.trans e4.symm)
        simp [e2, e3]
      · simp only [e2, decide_false]
        exact ih h
theorem findL_cutL {l : List DocP} {n m : ByteArray} : findL (cutL l n) m = if n = m then none else findL l m := by
  induction l with
  | nil => simp [findL, cutL]
  | cons x r ih =>
    unfold findL cutL at *
    rw [List.filter_cons]
    by_cases e : x.n = n
    · simp only [e, ne_eq, not_true_eq_false, decide_false, Bool.false_eq_true, if_false]
      rw [List.find?_cons]
      by_cases e2 : n = m
      · rw [if_pos e2] at ih ⊢; exact ih
      · rw [if_neg e2] at ih ⊢
        have e3 : ¬ x.n = m := fun e4 => e2 (e.symm.trans e4)
        simp only [e3, decide_false]
        exact ih
    · have : decide (x.n ≠ n) = true := by simpa using e
      rw [this]
      simp only [if_true, List.find?_cons]
      by_cases e2 : x.n = m
      · have e3 : ¬ n = m := fun e4 => e (e2.trans e4.symm)
        simp [e2, e3]
      · simp only [e2, decide_false]
        exact ih
theorem MapOf.ins {D : DataW Unit} {l : List DocP} (h : MapOf D l) {d : DocP} (hn : findL l d.n = none) : MapOf (D.put (kl d.n) (docD d)) (insL d l) := by
  refine ⟨fun n => ?_, fun n x z hx => ?_, h.tidy.put (kl_key _) _⟩
  · rw [findL_insL hn]
    by_cases e : d.n = n
    · subst e
      rw [if_pos rfl, Maps.has_put_same h.tidy.isMap (kl_key _)]; rfl
    · rw [if_neg e, Maps.has_put_other (fun e2 => e (kl_inj e2).symm), h.has]
  · rw [findL_insL hn] at hx
    by_cases e : d.n = n
    · subst e
      rw [if_pos rfl] at hx
      cases hx
      exact Maps.atKey_put_same h.tidy.isMap (kl_key _) _ _
    · rw [if_neg e] at hx
      rw [Maps.atKey_put_other (fun e2 => e (kl_inj e2).symm)]
      exact h.fnd n x z hx
theorem MapOf.put {D : DataW Unit} {l : List DocP} (h : MapOf D l) {n t : ByteArray} {v : Int} (hn : (findL l n).isSome = true) : MapOf (D.put (kl n) (docD ⟨n, v, t⟩)) (putL l n v t) := by
  refine ⟨fun m => ?_, fun m x z hx => ?_, h.tidy.put (kl_key _) _⟩
  · rw [findL_putL hn]
    by_cases e : n = m
    · subst e
      rw [if_pos rfl, Maps.has_put_same h.tidy.isMap (kl_key _)]; rfl
    · rw [if_neg e, Maps.has_put_other (fun e2 => e (kl_inj e2).symm), h.has]
  · rw [findL_putL hn] at hx
    by_cases e : n = m
    · subst e
      rw [if_pos rfl] at hx
      cases hx
      exact Maps.atKey_put_same h.tidy.isMap (kl_key _) _ _
    · rw [if_neg e] at hx
      rw [Maps.atKey_put_other (fun e2 => e (kl_inj e2).symm)]
      exact h.fnd m x z hx
theorem MapOf.cut {D : DataW Unit} {l : List DocP} (h : MapOf D l) (n : ByteArray) : MapOf (D.del (kl n)) (cutL l n) := by
  refine ⟨fun m => ?_, fun m x z hx => ?_, h.tidy.del _⟩
  · rw [findL_cutL]
    by_cases e : n = m
    · subst e
      rw [if_pos rfl, Maps.has_del_same]; rfl
    · rw [if_neg e, Maps.has_del_other (fun e2 => e (kl_inj e2).symm), h.has]
  · rw [findL_cutL] at hx
    by_cases e : n = m
    · rw [if_pos e] at hx; cases hx
    · rw [if_neg e] at hx
      rw [Maps.atKey_del_other (fun e2 => e (kl_inj e2).symm)]
      exact h.fnd m x z hx

/-! ### All keys, in order -/
theorem less_iff : ∀ x y : List UInt8, Op.bytesLess x y = true ↔ x < y
  | [], [] => by simp [Op.bytesLess]
  | [], b :: y => by simp [Op.bytesLess]
  | a :: x, [] => by simp [Op.bytesLess]
  | a :: x, b :: y => by
    rw [List.cons_lt_cons_iff]
    simp only [Op.bytesLess, Bool.or_eq_true, decide_eq_true_eq, Bool.and_eq_true, beq_iff_eq, less_iff x y]
def namesL (l : List DocP) : List (List UInt8) := l.map fun d => d.n.data.toList
theorem names_nodup {l : List DocP} (h : Inv l) : (namesL l).Nodup := by
  unfold namesL
  refine List.pairwise_map.2 (h.rise.imp fun {a b} hab e => bl_ne hab (data_inj e))
theorem names_le {l : List DocP} (h : Inv l) : (namesL l).Pairwise (fun a b => leB a b = true) := by
  unfold namesL
  refine List.pairwise_map.2 (h.rise.imp fun {a b} hab => ?_)
  unfold bl at hab
  rw [ByteArray.toList_eq, ByteArray.toList_eq, less_iff] at hab
  simp only [leB, decide_eq_true_eq]
  exact List.le_of_lt hab
theorem MapOf.names {D : DataW Unit} {l : List DocP} (h : MapOf D l) (hI : Inv l) (hk : ∃ es, D = .map es ∧ ∀ p ∈ es, ∃ x, p.1 = Lit.string x) : (namesL l).Perm (strKeys D) := by
  obtain ⟨es, rfl, hks⟩ := hk
  obtain ⟨es2, e2, hp⟩ := h.tidy
  cases e2
  refine perm_strKeys hp hks (names_nodup hI) fun x => ?_
  have := h.has ⟨x.toArray⟩
  unfold kl at this
  simp only at this
  rw [this]
  unfold namesL
  rw [List.mem_map]
  constructor
  · rintro ⟨d, hd, rfl⟩
    have := hI.find hd
    have e : (⟨d.n.data.toList.toArray⟩ : ByteArray) = d.n := data_inj (by simp)
    rw [e, this]; rfl
  · intro hs
    obtain ⟨d, hd⟩ := Option.isSome_iff_exists.1 hs
    obtain ⟨h1, h2⟩ := findL_some hd
    exact ⟨d, h1, by rw [h2]⟩
theorem strKeys_length (es : List (Lit × DataW Unit)) : (strKeys (.map es)).length = es.length := by simp [strKeys]
theorem MapOf.size {D : DataW Unit} {l : List DocP} (h : MapOf D l) (hI : Inv l) (hk : ∃ es, D = .map es ∧ ∀ p ∈ es, ∃ x, p.1 = Lit.string x) : Maps.size D = l.length := by
  have := (h.names hI hk).length_eq
  obtain ⟨es, rfl, _⟩ := hk
  rw [strKeys_length] at this
  rw [Maps.size_eq, ← this]
  simp [namesL]
theorem MapOf.sorted {D : DataW Unit} {l : List DocP} (h : MapOf D l) (hI : Inv l) (hk : ∃ es, D = .map es ∧ ∀ p ∈ es, ∃ x, p.1 = Lit.string x) {ss : List (List UInt8)} (hs : ss.Perm (strKeys D)) : ss.mergeSort (fun x y => decide (x ≤ y)) = namesL l := by
  have tr : ∀ a b c : List UInt8, leB a b = true → leB b c = true → leB a c = true := fun a b c h1 h2 => by simp only [leB, decide_eq_true_eq] at *; exact List.le_trans h1 h2
  have to : ∀ a b : List UInt8, (leB a b || leB b a) = true := fun a b => by simp only [leB, Bool.or_eq_true, decide_eq_true_eq]; exact List.le_total a b
  refine List.Perm.eq_of_pairwise (le := fun a b => leB a b = true) (fun a b _ _ h1 h2 => ?_) (List.pairwise_mergeSort tr to ss) (names_le hI) (((List.mergeSort_perm ss leB).trans hs).trans (h.names hI hk).symm)
  simp only [leB, decide_eq_true_eq] at h1 h2
  exact List.le_antisymm h1 h2

/-! ### The sum of all texts, in whatever order -/
def lefT (l : List DocP) (left : Lit → Bool) : Nat := sizeL (l.filter fun d => left (kl d.n))
theorem lefT_all {D : DataW Unit} {l : List DocP} (h : MapOf D l) (hI : Inv l) : lefT l (Maps.has D) = sizeL l := by
  unfold lefT
  rw [List.filter_eq_self.2 fun d hd => by rw [h.has, hI.find hd]; rfl]
theorem lefT_none {l : List DocP} {left : Lit → Bool} (h : ∀ k, left k = false) : lefT l left = 0 := by
  unfold lefT
  rw [List.filter_eq_nil_iff.2 fun d _ => by simp [h]]; rfl
theorem lefT_step {left : Lit → Bool} {d : DocP} (hd : left (kl d.n) = true) : ∀ {l : List DocP}, l.Pairwise (fun a b => bl a.n b.n = true) → d ∈ l → lefT l (fun z => left z && !z.sameKey (kl d.n)) + d.t.size = lefT l left
  | [], _, h => by cases h
  | x :: r, hp, h => by
    obtain ⟨h1, h2⟩ := List.pairwise_cons.1 hp
    have same : ∀ y : DocP, y.n ≠ d.n → (kl y.n).sameKey (kl d.n) = false := fun y hy => Maps.sameKey_ne (fun e => hy (kl_inj e))
    have self : (kl d.n).sameKey (kl d.n) = true := WideAt.sameKey_self (kl_key _)
    rcases List.mem_cons.1 h with rfl | h
    · have e : r.filter (fun y => left (kl y.n) && !(kl y.n).sameKey (kl d.n)) = r.filter fun y => left (kl y.n) :=
        List.filter_congr fun y hy => by rw [same y (bl_ne (h1 y hy)).symm]; simp
      unfold lefT
      simp only [List.filter_cons, hd, self, Bool.not_true, Bool.and_false, Bool.false_eq_true, if_false, if_true, e, sizeL]
      omega
    · have hx : x.n ≠ d.n := bl_ne (h1 d h)
      have ih := lefT_step hd h2 h
      unfold lefT at ih ⊢
      dsimp only at ih ⊢
      simp only [List.filter_cons, same x hx, Bool.not_false, Bool.and_true]
      by_cases hl : left (kl x.n) = true
      · rw [if_pos hl, if_pos hl]
        simp only [sizeL]
        omega
      · rw [if_neg hl, if_neg hl]
        exact ih
theorem sizeL_le : ∀ {l : List DocP}, (∀ d ∈ l, d.t.size ≤ 16384) → sizeL l ≤ l.length * 16384
  | [], _ => by simp [sizeL]
  | d :: r, h => by
    have := sizeL_le (l := r) fun x hx => h x (by simp [hx])
    have := h d (by simp)
    simp only [sizeL, List.length_cons]
    omega
end Go.Proofs.YtccmicmlkgkheaaDoor.D
