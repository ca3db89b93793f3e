/- Plain facts about the pieces that the program makes line by line. It imports nothing of the program. -/
import Derived.Test.YtapjomdplibanaaDoorQDecl
import Derived.Test.YtapjomdplibanaaDoorQWhole
namespace Go.Proofs.YtapjomdplibanaaDoor.Q
open Go.Lib hiding intOf
open Go.Proofs.YtapjomdplibanaaDoor.U Go.Proofs.YtapjomdplibanaaDoor.S Go.Proofs.YtapjomdplibanaaDoor.L

def mk0 (s : By) (f e : Nat) : PcP := ⟨f, e, beg s f, false⟩
def heads0 (s : By) : Nat → List Nat → List PcP
  | _, [] => []
  | f, c :: cs => mk0 s f c :: heads0 s c cs
def chain0 (s : By) (e f : Nat) (cs : List Nat) : List PcP := heads0 s f cs ++ [mk0 s (lastD f cs) e]
/-- The pieces that lines up to a place make. -/
def progL (s : By) : Option Nat → List PcP
  | none => []
  | some q => chain0 s q 0 (cuts s 1 (q - 1))
theorem heads0_app (s : By) : ∀ (A B : List Nat) (f : Nat), heads0 s f (A ++ B) = heads0 s f A ++ heads0 s (lastD f A) B
  | [], _, _ => rfl
  | c :: A, B, f => by simp only [List.cons_append, heads0, lastD, heads0_app s A B c]
theorem heads0_len (s : By) : ∀ (A : List Nat) (f : Nat), (heads0 s f A).length = A.length
  | [], _ => rfl
  | c :: A, f => by simp only [heads0, List.length_cons, heads0_len s A c]
theorem cuts_len (s : By) (a n : Nat) : (cuts s a n).length ≤ n := by
  have := List.length_filter_le (beg s) (List.range' a n)
  rw [List.length_range'] at this
  exact this
theorem progL_len (s : By) (q : Nat) : (progL s (some q)).length ≤ q + 1 := by
  have := cuts_len s 1 (q - 1)
  simp only [progL, chain0, List.length_append, heads0_len, List.length_cons, List.length_nil]
  omega
theorem cuts_none {s : By} {p q : Nat} (h : LineAt s p q) : cuts s (p + 1) (q - 1 - p) = [] := by
  refine List.eq_nil_iff_forall_not_mem.2 fun c hc => ?_
  obtain ⟨h1, h2, h3⟩ := cuts_mem hc
  exact h.within (c - 1) (by omega) (by omega) (beg_10 h3 (by omega))
theorem decl_line {s : By} {p q : Nat} (h : LineAt s p q) : declW ((s.drop p).take (q - p)) = beg s p := by
  have hb : beg s p = declW (s.drop p) := by
    unfold beg
    rcases h.ahead with h0 | h0
    · simp [h0]
    · simp [h0]
  rw [hb]
  rcases h.behind with h1 | ⟨h1, h2⟩
  · rw [List.take_of_length_le (by rw [List.length_drop]; omega)]
  · obtain ⟨y, e1, e2⟩ := part_cut s h1 h2
    rw [e2, e1, declW_stop, declW_stop]
theorem prog_new {s : By} {o o' : Option Nat} {p q : Nat} (h : NextL s o (p, q) o') (hd : beg s p = true ∨ p = 0) : progL s o' = progL s o ++ [⟨p, q, beg s p, false⟩] := by
  obtain ⟨hl, ho, rfl⟩ := h
  simp only at hl ho
  rcases ho with ⟨rfl, rfl⟩ | ⟨rfl, h0⟩
  · have := cuts_none hl
    rw [Nat.zero_add, Nat.sub_zero] at this
    simp only [progL, chain0, this, heads0, lastD, List.nil_append]
    rfl
  · have hb : beg s p = true := by
      rcases hd with hd | hd
      · exact hd
      · omega
    have hpq : p < q := by
      rcases hl.behind with h1 | h1
      · have := declW_pos (beg_decl hb)
        rw [List.length_drop] at this
        omega
      · exact h1.1
    have hc : cuts s 1 (q - 1) = cuts s 1 (p - 1) ++ [p] := by
      have := cuts_app s 1 (p - 1) (q - 1 - p + 1)
      rw [show p - 1 + (q - 1 - p + 1) = q - 1 by omega, show 1 + (p - 1) = p by omega, cuts_succ, if_pos hb, cuts_none hl] at this
      exact this
    simp only [progL, chain0, hc, heads0_app, lastD_app, heads0, lastD, List.append_assoc]
    rfl
theorem prog_on {s : By} {o o' : Option Nat} {p q : Nat} (h : NextL s o (p, q) o') (hd : beg s p = false) (h0 : p ≠ 0) : ∃ L x, progL s o = L ++ [x] ∧ progL s o' = L ++ [⟨x.f, q, x.d, x.j⟩] := by
  obtain ⟨hl, ho, rfl⟩ := h
  simp only at hl ho
  rcases ho with ⟨_, h1⟩ | ⟨rfl, _⟩
  · exact absurd h1 h0
  · have hc : cuts s 1 (q - 1) = cuts s 1 (p - 1) := by
      by_cases hpq : p < q
      · have := cuts_app s 1 (p - 1) (q - 1 - p + 1)
        rw [show p - 1 + (q - 1 - p + 1) = q - 1 by omega, show 1 + (p - 1) = p by omega, cuts_succ, if_neg (by rw [hd]; simp), cuts_none hl, List.append_nil] at this
        exact this
      · rw [show q = p by have := hl.pq; omega]
    exact ⟨heads0 s 0 (cuts s 1 (p - 1)), mk0 s (lastD 0 (cuts s 1 (p - 1))) p, rfl, by simp only [progL, chain0, hc]; rfl⟩
theorem heads_beg (s : By) : ∀ (cs : List Nat) (f : Nat), beg s f = true → (∀ c ∈ cs, beg s c = true) → heads s f cs = heads0 s f cs
  | [], _, _, _ => rfl
  | c :: cs, f, hf, h => by
    simp only [heads, heads0]
    rw [heads_beg s cs c (h c (by simp)) (fun x hx => h x (List.mem_cons_of_mem _ hx))]
    congr 1
    unfold made mk0
    rw [hf]; rfl
theorem prog_end (s : By) : ∃ x r, progL s (some s.length) = x :: r ∧ pieces s = ⟨x.f, x.e, x.d, !x.d && hw (s.take x.e)⟩ :: r ∧ x.e ≤ s.length ∧ x.j = false := by
  have hb : ∀ c ∈ cuts s 1 (s.length - 1), beg s c = true := fun c hc => (cuts_mem hc).2.2
  have hlt : ∀ c ∈ cuts s 1 (s.length - 1), c < s.length := fun c hc => by
    obtain ⟨h1, h2, _⟩ := cuts_mem hc
    omega
  have e0 : progL s (some s.length) = chain0 s s.length 0 (cuts s 1 (s.length - 1)) := rfl
  rw [e0]
  unfold pieces chain chain0
  clear e0
  generalize cuts s 1 (s.length - 1) = cs at hb hlt
  cases cs with
  | nil => exact ⟨mk0 s 0 s.length, [], rfl, rfl, Nat.le_refl _, rfl⟩
  | cons c cs =>
    refine ⟨mk0 s 0 c, _, rfl, ?_, Nat.le_of_lt (hlt c (by simp)), rfl⟩
    have hl : beg s (lastD c cs) = true := by
      rcases lastD_mem cs c with h | h
      · rw [h]; exact hb c (by simp)
      · exact hb _ (List.mem_cons_of_mem _ h)
    have hm : made s (lastD c cs) s.length = mk0 s (lastD c cs) s.length := by unfold made mk0; rw [hl]; rfl
    simp only [heads, lastD, List.cons_append]
    rw [heads_beg s cs c (hb c (by simp)) (fun x hx => hb x (List.mem_cons_of_mem _ hx)), hm]
    rfl
theorem pcCs_setE (L : List PcP) (x : PcP) (q : Nat) : (pcCs (L ++ [x])).set (L.length * 4 + 1) (.int .i64 q) = pcCs (L ++ [⟨x.f, q, x.d, x.j⟩]) := by
  rw [pcCs_app, pcCs_app, List.set_append_right _ _ (by rw [pcCs_length]; omega), pcCs_length, show L.length * 4 + 1 - 4 * L.length = 1 by omega]
  rfl
theorem pcCs_setJ (r : List PcP) (x : PcP) (b : Bool) : (pcCs (x :: r)).set 3 (.bool b) = pcCs (⟨x.f, x.e, x.d, b⟩ :: r) := rfl
end Go.Proofs.YtapjomdplibanaaDoor.Q
