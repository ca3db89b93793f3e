/- Plain facts about documents in versions: what a store holds is a list that rises by name; what each act makes of it; that it stays so; that a version never falls. It imports nothing of the program. -/
import Derived.Test.YtccmicmlkgkheaaDoorEPlain
namespace Go.Proofs.YtccmicmlkgkheaaDoor.D
open Go.Lib Go.Proofs.YtccmicmlkgkheaaDoor.U Go.Proofs.YtccmicmlkgkheaaDoor.L Go.Proofs.YtccmicmlkgkheaaDoor.E

/-! ### Names, byte by byte -/
def bl (x y : ByteArray) : Bool := Op.bytesLess x.toList y.toList
theorem less_irr : ∀ x : List UInt8, Op.bytesLess x x = false
  | [] => rfl
  | a :: x => by simp [Op.bytesLess, less_irr x]
theorem less_trans : ∀ x y z : List UInt8, Op.bytesLess x y = true → Op.bytesLess y z = true → Op.bytesLess x z = true
  | _, _, [], _, h => by cases h2 : (‹List UInt8› : List UInt8) <;> simp [Op.bytesLess] at h
  | _, [], _ :: _, h, _ => by simp [Op.bytesLess] at h
  | [], _ :: _, _ :: _, _, _ => rfl
  | a :: x, b :: y, c :: z, h1, h2 => by
    simp only [Op.bytesLess, Bool.or_eq_true, decide_eq_true_eq, Bool.and_eq_true, beq_iff_eq] at h1 h2 ⊢
    rcases h1 with h1 | ⟨rfl, h1⟩
    · rcases h2 with h2 | ⟨rfl, _⟩
      · exact .inl (UInt8.lt_trans h1 h2)
      · exact .inl h1
    · rcases h2 with h2 | ⟨rfl, h2⟩
      · exact .inl h2
      · exact .inr ⟨rfl, less_trans x y z h1 h2⟩
theorem less_or : ∀ x y : List UInt8, Op.bytesLess x y = true ∨ x = y ∨ Op.bytesLess y x = true
  | [], [] => .inr (.inl rfl)
  | [], _ :: _ => .inl rfl
  | _ :: _, [] => .inr (.inr rfl)
  | a :: x, b :: y => by
    simp only [Op.bytesLess, Bool.or_eq_true, decide_eq_true_eq, Bool.and_eq_true, beq_iff_eq, List.cons.injEq]
    rcases Nat.lt_trichotomy a.toNat b.toNat with h | h | h
    · exact .inl (.inl (UInt8.lt_iff_toNat_lt.2 h))
    · have e : a = b := UInt8.toNat_inj.1 h
      subst e
      rcases less_or x y with h2 | h2 | h2
      · exact .inl (.inr ⟨rfl, h2⟩)
      · exact .inr (.inl ⟨rfl, h2⟩)
      · exact .inr (.inr (.inr ⟨rfl, h2⟩))
    · exact .inr (.inr (.inl (UInt8.lt_iff_toNat_lt.2 h)))
theorem toList_inj {x y : ByteArray} (h : x.toList = y.toList) : x = y := by
  rw [ByteArray.toList_eq, ByteArray.toList_eq] at h
  obtain ⟨x⟩ := x
  obtain ⟨y⟩ := y
  have e : x = y := Array.toList_inj.1 h
  rw [e]
theorem bl_irr (x : ByteArray) : bl x x = false := less_irr _
theorem bl_trans {x y z : ByteArray} (h1 : bl x y = true) (h2 : bl y z = true) : bl x z = true := less_trans _ _ _ h1 h2
theorem bl_or (x y : ByteArray) : bl x y = true ∨ x = y ∨ bl y x = true := (less_or x.toList y.toList).imp_right (Or.imp_left toList_inj)
theorem bl_ne {x y : ByteArray} (h : bl x y = true) : x ≠ y := fun e => by rw [e, bl_irr] at h; cases h
theorem bl_asym {x y : ByteArray} (h : bl x y = true) : bl y x = false := by
  cases h2 : bl y x
  · rfl
  · have := bl_trans h h2; rw [bl_irr] at this; cases this

/-! ### A store, as a list -/
structure DocP where
  n : ByteArray
  v : Int
  t : ByteArray
def findL (l : List DocP) (n : ByteArray) : Option DocP := l.find? (fun d => decide (d.n = n))
def insL (d : DocP) : List DocP → List DocP
  | [] => [d]
  | x :: r => if bl d.n x.n = true then d :: x :: r else x :: insL d r
def putL (l : List DocP) (n : ByteArray) (v : Int) (t : ByteArray) : List DocP := l.map fun d => if d.n = n then ⟨n, v, t⟩ else d
def cutL (l : List DocP) (n : ByteArray) : List DocP := l.filter fun d => decide (d.n ≠ n)
def nameOk (s : ByteArray) : Bool := okB s && decide (1 ≤ s.size) && decide (s.size ≤ 40)
def openL (l : List DocP) (d : DocP) : List DocP × Int :=
  if nameOk d.n = false then (l, 1) else if okB d.t = false then (l, 11) else if 16384 < d.t.size ∨ 8 ≤ l.length then (l, 73)
  else if (findL l d.n).isSome = true then (l, 74) else (insL d l, 0)
def changeL (l : List DocP) (n : ByteArray) (v : Int) (es : List EdP) : List DocP × Int :=
  match findL l n with
  | none => (l, 72)
  | some d => if v ≤ d.v then (l, 71) else if (applyL d.t es).2 ≠ 0 then (l, (applyL d.t es).2) else (putL l n v (applyL d.t es).1, 0)
def wholeL (l : List DocP) (n : ByteArray) (v : Int) (t : ByteArray) : List DocP × Int :=
  match findL l n with
  | none => (l, 72)
  | some d => if v ≤ d.v then (l, 71) else if okB t = false then (l, 11) else if 16384 < t.size then (l, 73) else (putL l n v t, 0)
def closeL (l : List DocP) (n : ByteArray) : List DocP × Int := if (findL l n).isSome = true then (cutL l n, 0) else (l, 72)
def sizeL : List DocP → Nat
  | [] => 0
  | d :: r => d.t.size + sizeL r
structure ActP where
  k : Int
  d : DocP
  es : List EdP
def doL (l : List DocP) (a : ActP) : List DocP × Int :=
  if a.k = 1 then openL l a.d else if a.k = 2 then changeL l a.d.n a.d.v a.es else if a.k = 3 then wholeL l a.d.n a.d.v a.d.t else if a.k = 4 then closeL l a.d.n else (l, 0)

/-- What holds of a store behind each act. -/
structure Inv (l : List DocP) : Prop where
  rise : l.Pairwise (fun a b => bl a.n b.n = true)
  few : l.length ≤ 8
  each : ∀ d ∈ l, nameOk d.n = true ∧ okB d.t = true ∧ d.t.size ≤ 16384
theorem inv_nil : Inv [] := ⟨List.Pairwise.nil, by simp, fun d h => by simp at h⟩
theorem findL_some {l : List DocP} {n : ByteArray} {d : DocP} (h : findL l n = some d) : d ∈ l ∧ d.n = n := by
  unfold findL at h
  exact ⟨List.mem_of_find?_eq_some h, by simpa using List.find?_some h⟩
theorem findL_none {l : List DocP} {n : ByteArray} (h : findL l n = none) : ∀ d ∈ l, d.n ≠ n := by
  unfold findL at h
  rw [List.find?_eq_none] at h
  exact fun d hd => by simpa using h d hd
/-- Of one name there is one. -/
theorem Inv.one {l : List DocP} (h : Inv l) {a b : DocP} (ha : a ∈ l) (hb : b ∈ l) (hn : a.n = b.n) : a = b := by
  obtain ⟨i, hi, rfl⟩ := List.getElem_of_mem ha
  obtain ⟨j, hj, rfl⟩ := List.getElem_of_mem hb
  have key := List.pairwise_iff_getElem.1 h.rise
  rcases Nat.lt_trichotomy i j with hij | hij | hij
  · exact absurd hn (bl_ne (key i j hi hj hij))
  · subst hij; rfl
  · exact absurd hn.symm (bl_ne (key j i hj hi hij))
theorem Inv.find {l : List DocP} (h : Inv l) {d : DocP} (hd : d ∈ l) : findL l d.n = some d := by
  cases hf : findL l d.n with
  | none => exact absurd rfl (findL_none hf d hd)
  | some e =>
    obtain ⟨h1, h2⟩ := findL_some hf
    rw [h.one h1 hd h2]
theorem insL_mem {d x : DocP} : ∀ {l : List DocP}, x ∈ insL d l ↔ x = d ∨ x ∈ l
  | [] => by simp [insL]
  | y :: r => by
    simp only [insL]
    split
    · simp
    · simp only [List.mem_cons, insL_mem (l := r)]
      constructor
      · rintro (h | h | h)
        · exact .inr (.inl h)
        · exact .inl h
        · exact .inr (.inr h)
      · rintro (h | h | h)
        · exact .inr (.inl h)
        · exact .inl h
        · exact .inr (.inr h)
theorem insL_length (d : DocP) : ∀ l : List DocP, (insL d l).length = l.length + 1
  | [] => rfl
  | y :: r => by
    simp only [insL]
    split
    · simp
    · simp [insL_length d r]
theorem insL_rise {d : DocP} : ∀ {l : List DocP}, l.Pairwise (fun a b => bl a.n b.n = true) → (∀ x ∈ l, x.n ≠ d.n) → (insL d l).Pairwise (fun a b => bl a.n b.n = true)
  | [], _, _ => by simp [insL]
  | y :: r, h, hne => by
    rw [List.pairwise_cons] at h
    simp only [insL]
    split
    · rename_i hlt
      refine List.pairwise_cons.2 ⟨fun x hx => ?_, List.pairwise_cons.2 h⟩
      rcases List.mem_cons.1 hx with rfl | hx
      · exact hlt
      · exact bl_trans hlt (h.1 x hx)
    · rename_i hnlt
      refine List.pairwise_cons.2 ⟨fun x hx => ?_, insL_rise h.2 (fun x hx => hne x (by simp [hx]))⟩
      rcases insL_mem.1 hx with rfl | hx
      · rcases bl_or x.n y.n with h1 | h1 | h1
        · exact absurd h1 hnlt
        · exact absurd h1.symm (hne y (by simp))
        · exact h1
      · exact h.1 x hx
theorem putL_length (l : List DocP) (n : ByteArray) (v : Int) (t : ByteArray) : (putL l n v t).length = l.length := by simp [putL]
theorem putL_rise {l : List DocP} (n : ByteArray) (v : Int) (t : ByteArray) (h : l.Pairwise (fun a b => bl a.n b.n = true)) : (putL l n v t).Pairwise (fun a b => bl a.n b.n = true) := by
  unfold putL
  rw [List.pairwise_map]
  refine h.imp fun {a b} hab => ?_
  have e : ∀ d : DocP, (if d.n = n then (⟨n, v, t⟩ : DocP) else d).n = d.n := fun d => by split <;> simp [*]
  rw [e, e]; exact hab
theorem putL_mem {l : List DocP} {n : ByteArray} {v : Int} {t : ByteArray} {x : DocP} (h : x ∈ putL l n v t) : (x = ⟨n, v, t⟩ ∧ ∃ d ∈ l, d.n = n) ∨ (x ∈ l ∧ x.n ≠ n) := by
  unfold putL at h
  obtain ⟨d, hd, rfl⟩ := List.mem_map.1 h
  split
  · rename_i hn; exact .inl ⟨rfl, d, hd, hn⟩
  · rename_i hn; exact .inr ⟨hd, hn⟩
theorem Inv.put {l : List DocP} (h : Inv l) {n t : ByteArray} {v : Int} (ht : okB t = true) (hz : t.size ≤ 16384) : Inv (putL l n v t) :=
  ⟨putL_rise n v t h.rise, by rw [putL_length]; exact h.few, fun x hx => by
    rcases putL_mem hx with ⟨rfl, d, hd, rfl⟩ | ⟨hx, _⟩
    · exact ⟨(h.each d hd).1, ht, hz⟩
    · exact h.each x hx⟩
theorem applyL_fit {s r : ByteArray} {es : List EdP} (h : applyL s es = (r, 0)) (hs : s.size ≤ 16384) : okB r = true ∧ r.size ≤ 16384 := by
  unfold applyL at h
  split at h
  · rename_i hok
    obtain ⟨h1, h2⟩ := steps_ok es s r hok h
    exact ⟨h1, by rcases h2 with h2 | h2; · exact h2
                  · rw [h2]; exact hs⟩
  · simp at h
/-- Each act keeps it. -/
theorem Inv.act {l : List DocP} (h : Inv l) (a : ActP) : Inv (doL l a).1 := by
  unfold doL
  split
  · unfold openL
    split
    · exact h
    · rename_i h1
      split
      · exact h
      · rename_i h2
        split
        · exact h
        · rename_i h3
          split
          · exact h
          · rename_i h4
            have hn : findL l a.d.n = none := by cases hf : findL l a.d.n with
              | none => rfl
              | some d => rw [hf] at h4; simp at h4
            refine ⟨insL_rise h.rise (findL_none hn), by rw [insL_length]; omega, fun x hx => ?_⟩
            rcases insL_mem.1 hx with rfl | hx
            · exact ⟨by simpa using h1, by simpa using h2, by omega⟩
            · exact h.each x hx
  · split
    · unfold changeL
      split
      · exact h
      · rename_i d hd
        split
        · exact h
        · split
          · exact h
          · rename_i h2
            obtain ⟨r, hr⟩ : ∃ r, applyL d.t a.es = (r, 0) := ⟨(applyL d.t a.es).1, by
              have : (applyL d.t a.es).2 = 0 := by simpa using h2
              rw [← this]⟩
            have := applyL_fit hr (h.each d (findL_some hd).1).2.2
            rw [hr]
            exact h.put this.1 this.2
    · split
      · unfold wholeL
        split
        · exact h
        · split
          · exact h
          · split
            · exact h
            · rename_i h2
              split
              · exact h
              · exact h.put (by simpa using h2) (by omega)
      · split
        · unfold closeL
          split
          · exact ⟨h.rise.filter _, Nat.le_trans (List.length_filter_le _ _) h.few, fun x hx => h.each x (List.mem_filter.1 hx).1⟩
          · exact h
        · exact h
/-- An act that is refused changes nothing. -/
theorem refused (l : List DocP) (a : ActP) (h : (doL l a).2 ≠ 0) : (doL l a).1 = l := by
  unfold doL openL changeL wholeL closeL at h ⊢
  repeat' split
  all_goals first | rfl | (exfalso; simp_all; done)
/-- Behind an act: what was there, and is, is as it was, or has a greater version; what is no more was closed. -/
theorem rises {l : List DocP} (h : Inv l) (a : ActP) {d : DocP} (hd : d ∈ l) :
    (∃ e, findL (doL l a).1 d.n = some e ∧ (e = d ∨ d.v < e.v)) ∨ (findL (doL l a).1 d.n = none ∧ a.k = 4) := by
  have hinv := h.act a
  have put : ∀ (n t : ByteArray) (v : Int) (x : DocP), findL l n = some x → x.v < v → Inv (putL l n v t) → ∃ e, findL (putL l n v t) d.n = some e ∧ (e = d ∨ d.v < e.v) := by
    intro n t v x hx hv hi
    obtain ⟨hxl, hxn⟩ := findL_some hx
    by_cases hn : d.n = n
    · have hdx : d = x := h.one hd hxl (hn.trans hxn.symm)
      have hm : (⟨n, v, t⟩ : DocP) ∈ putL l n v t := List.mem_map.2 ⟨d, hd, by rw [if_pos hn]⟩
      have := hi.find hm
      simp only at this
      exact ⟨_, by rw [hn]; exact this, .inr (by rw [hdx]; exact hv)⟩
    · have hm : d ∈ putL l n v t := List.mem_map.2 ⟨d, hd, by rw [if_neg hn]⟩
      exact ⟨d, hi.find hm, .inl rfl⟩
  have same : ∀ l', l' = l → ∃ e, findL l' d.n = some e ∧ (e = d ∨ d.v < e.v) := fun l' e => ⟨d, by rw [e]; exact h.find hd, .inl rfl⟩
  by_cases hr : (doL l a).2 ≠ 0
  · exact .inl (same _ (refused l a hr))
  · have hr0 : (doL l a).2 = 0 := by simpa using hr
    clear hr
    unfold doL at hr0 hinv ⊢
    by_cases k1 : a.k = 1
    · rw [if_pos k1] at hr0 hinv ⊢
      left
      unfold openL at hr0 hinv ⊢
      repeat' split at hr0
      all_goals first | (exfalso; simp at hr0; done) | skip
      rename_i h1 h2 h3 h4
      rw [if_neg h1, if_neg h2, if_neg h3, if_neg h4] at hinv ⊢
      exact ⟨d, hinv.find (insL_mem.2 (.inr hd)), .inl rfl⟩
    · rw [if_neg k1] at hr0 hinv ⊢
      by_cases k2 : a.k = 2
      · rw [if_pos k2] at hr0 hinv ⊢
        left
        unfold changeL at hr0 hinv ⊢
        split at hr0
        · simp at hr0
        · rename_i x hx
          simp only [hx] at hinv ⊢
          split at hr0
          · simp at hr0
          · rename_i hv
            rw [if_neg hv] at hinv ⊢
            split at hr0
            · rename_i hc; exact absurd hr0 hc
            · rename_i hc
              rw [if_neg hc] at hinv ⊢
              exact put _ _ _ x hx (by omega) hinv
      · rw [if_neg k2] at hr0 hinv ⊢
        by_cases k3 : a.k = 3
        · rw [if_pos k3] at hr0 hinv ⊢
          left
          unfold wholeL at hr0 hinv ⊢
          split at hr0
          · simp at hr0
          · rename_i x hx
            simp only [hx] at hinv ⊢
            split at hr0
            · simp at hr0
            · rename_i hv
              rw [if_neg hv] at hinv ⊢
              split at hr0
              · simp at hr0
              · rename_i h2
                rw [if_neg h2] at hinv ⊢
                split at hr0
                · simp at hr0
                · rename_i h3
                  rw [if_neg h3] at hinv ⊢
                  exact put _ _ _ x hx (by omega) hinv
        · rw [if_neg k3] at hr0 hinv ⊢
          by_cases k4 : a.k = 4
          · rw [if_pos k4] at hr0 hinv ⊢
            unfold closeL at hr0 hinv ⊢
            split at hr0
            · rename_i hs
              rw [if_pos hs] at hinv ⊢
              by_cases hn : d.n = a.d.n
              · right
                refine ⟨?_, k4⟩
                cases hf : findL (cutL l a.d.n) d.n with
                | none => rfl
                | some e =>
                  obtain ⟨he, hen⟩ := findL_some hf
                  have := (List.mem_filter.1 he).2
                  simp only [decide_eq_true_eq] at this
                  exact absurd (hen.trans hn) this
              · left
                exact ⟨d, hinv.find (List.mem_filter.2 ⟨hd, by simpa using hn⟩), .inl rfl⟩
            · simp at hr0
          · rw [if_neg k4] at hr0 hinv ⊢
            exact .inl (same _ rfl)
end Go.Proofs.YtccmicmlkgkheaaDoor.D
