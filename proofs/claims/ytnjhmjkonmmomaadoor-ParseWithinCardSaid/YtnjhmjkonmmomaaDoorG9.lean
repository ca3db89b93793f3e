/- The texts KSimO, KSimS, KSimD, KSimT, KBnd, joined. -/
import Derived.Test.YtnjhmjkonmmomaaDoorG8
/- KSimO: The machine does what the document's reader does: operands, and all of an expression. -/
section
namespace Go.Proofs.YtnjhmjkonmmomaaDoor.K
open Go.Lib Go.Proofs.YtnjhmjkonmmomaaDoor.U Go.Proofs.YtnjhmjkonmmomaaDoor.S Go.Proofs.YtnjhmjkonmmomaaDoor.T

section
variable {L : List TokP} (size : Nat) (hL : ∀ t ∈ L, Fine t)
include hL
theorem st_operand {i : Nat} (R : List Stp) (O : List Open) : stepS L size ⟨i, .m .operand :: R, O⟩ =
    if comesT L 1 i then .go ⟨i, .m .text :: .m .fin :: R, ⟨kNum, [], tf L size i, [], 0⟩ :: O⟩
    else if comesT L 2 i then .go ⟨i, .m .text :: .m .fin :: R, ⟨kStr, [], tf L size i, [], 0⟩ :: O⟩
    else if comesT L 0 i then .go ⟨i, .m .name :: .m .called :: .m .fin :: R, ⟨kId, [], tf L size i, [], 0⟩ :: O⟩
    else .go ⟨i, .word [40] :: .m .expr :: .word [41] :: .m .fin :: R, ⟨kBr, [], tf L size i, [], 0⟩ :: O⟩ := by
  show execM L size .operand ⟨i, R, O⟩ = _
  simp only [execM]
  rw [isW_is size hL (by decide), isW_is size hL (by decide), isW_is size hL (by decide)]; rfl
theorem st_called {i : Nat} (R : List Stp) (k t : By) (f kf : Int) (ks : List Pt) (O : List Open) : stepS L size ⟨i, .m .called :: R, ⟨k, t, f, ks, kf⟩ :: O⟩ =
    if isT L [40] i then
      if t = kNew then .go ⟨i + 1, .m .typeOf :: .word [41] :: R, ⟨kNew, [], f, ks, kf⟩ :: O⟩
      else if t = kMake then .go ⟨i + 1, .m .typeOf :: .word [44] :: .m .expr :: .word [41] :: R, ⟨kMake, [], f, ks, kf⟩ :: O⟩
      else .go ⟨i + 1, .commas .expr :: .word [41] :: R, ⟨kCall, t, f, ks, kf⟩ :: O⟩
    else .go ⟨i, R, ⟨k, t, f, ks, kf⟩ :: O⟩ := by
  show execM L size .called ⟨i, R, ⟨k, t, f, ks, kf⟩ :: O⟩ = _
  simp only [execM]
  rw [isP_is size hL (by decide)]; rfl
omit hL in
theorem st_finB {j : Nat} (R : List Stp) (t : By) (f kf : Int) (p : Pt) (ks : List Pt) (a : Open) (O : List Open) (h0 : 0 < j) :
    stepS L size ⟨j, .m .fin :: R, ⟨kBr, t, f, p :: ks, kf⟩ :: a :: O⟩ = .go ⟨j, R, a.add p f :: O⟩ := by
  show finM L size ⟨j, R, ⟨kBr, t, f, p :: ks, kf⟩ :: a :: O⟩ = _
  unfold finM
  dsimp only
  rw [if_neg (by omega)]; rfl
theorem operand_sim {n : Nat} (IH : GoodE L size n) (i : Nat) (hn : 8 * (L.length - i) + 1 ≤ n + 1) (_hi : i ≤ L.length) : Adds L size 80 10 [.m .operand] i (operand L (n + 1) i) := by
  intro T O rest
  have h0 := st_operand size hL (i := i) rest (T :: O)
  simp only [operand]
  cases h1 : comesT L 1 i with
  | true =>
    have hlt := comesT_lt h1
    rw [h1, if_pos rfl] at h0
    rw [if_pos rfl]
    have hx := st_text (L := L) size (.m .fin :: rest) ⟨kNum, [], tf L size i, [], 0⟩ (T :: O) hlt
    have hf := st_fin size rest kNum (textT L i) (tf L size i) 0 [] T O (by decide) (Nat.succ_pos i) hlt
    refine ⟨hlt, Nat.lt_succ_self _, ?_⟩
    rw [tf_from hlt] at h0 hx hf ⊢
    exact .cons h0 (.cons hx (.one hf) (Int.le_refl _)) (by dsimp only; omega)
  | false =>
  rw [h1, if_neg (by decide)] at h0
  rw [if_neg (by decide)]
  cases h2 : comesT L 2 i with
  | true =>
    have hlt := comesT_lt h2
    rw [h2, if_pos rfl] at h0
    rw [if_pos rfl]
    have hx := st_text (L := L) size (.m .fin :: rest) ⟨kStr, [], tf L size i, [], 0⟩ (T :: O) hlt
    have hf := st_fin size rest kStr (textT L i) (tf L size i) 0 [] T O (by decide) (Nat.succ_pos i) hlt
    refine ⟨hlt, Nat.lt_succ_self _, ?_⟩
    rw [tf_from hlt] at h0 hx hf ⊢
    exact .cons h0 (.cons hx (.one hf) (Int.le_refl _)) (by dsimp only; omega)
  | false =>
  rw [h2, if_neg (by decide)] at h0
  rw [if_neg (by decide)]
  cases h3 : isT L [40] i with
  | true =>
    have hlt := isT_lt h3
    have h4 : comesT L 0 i = false := by
      cases h5 : comesT L 0 i with
      | false => rfl
      | true =>
        unfold isT at h3; unfold comesT at h5
        rw [List.getElem?_eq_getElem hlt] at h3 h5
        simp only [Bool.and_eq_true, Bool.or_eq_true, beq_iff_eq] at h3 h5
        rw [h5] at h3
        exact absurd h3.2 (by decide)
    rw [h4, if_neg (by decide)] at h0
    rw [if_pos rfl]
    have hw := st_word size hL (by decide) (.m .expr :: .word [41] :: .m .fin :: rest) (⟨kBr, [], tf L size i, [], 0⟩ :: T :: O) h3
    have he := full_sim size hL (IH.expr 0 (i + 1) (by omega) hlt (Int.le_refl _)) ⟨kBr, [], tf L size i, [], 0⟩ (T :: O) (.word [41] :: .m .fin :: rest) (show ¬ kBr = kBinary by decide)
    cases h5 : expr L n 0 (i + 1) with
    | bad j => rw [h5] at he; exact .cons h0 (.cons hw he (Int.le_refl _)) (by dsimp only; omega)
    | ok e j =>
      rw [h5] at he
      obtain ⟨hj, hij, hr⟩ := he
      simp only [Out.next]
      unfold mustT
      cases h6 : isT L [41] j with
      | false =>
        rw [if_neg (by decide)]
        exact .cons h0 (.cons hw (hr.fl (.now (st_word_bad size hL (by decide) _ _ h6))) (Int.le_refl _)) (by dsimp only; omega)
      | true =>
        have hlt6 := isT_lt h6
        rw [if_pos rfl]
        have hw6 := st_word size hL (by decide) (.m .fin :: rest) (⟨kBr, [], tf L size i, [e], tf L size (i + 1)⟩ :: T :: O) h6
        have hf := st_finB (L := L) size rest [] (tf L size i) (tf L size (i + 1)) e [] T O (Nat.succ_pos j)
        exact ⟨hlt6, by omega, .cons h0 (.cons hw (hr.trans (.cons hw6 (.one hf) (Int.le_refl _))) (Int.le_refl _)) (by dsimp only; omega)⟩
  | false =>
  rw [if_neg (by decide)]
  unfold nameT
  cases h4 : comesT L 0 i with
  | false =>
    rw [h4, if_neg (by decide)] at h0
    rw [if_neg (by decide)]
    exact .cons h0 (.now (st_word_bad size hL (by decide) _ _ h3)) (by dsimp only; omega)
  | true =>
    have hlt := comesT_lt h4
    rw [h4, if_pos rfl] at h0
    rw [if_pos rfl]
    simp only [Out.next]
    have hm := st_name size hL (.m .called :: .m .fin :: rest) ⟨kId, [], tf L size i, [], 0⟩ (T :: O) h4
    have hc := st_called size hL (i := i + 1) (.m .fin :: rest) kId (textT L i) (tf L size i) 0 [] (T :: O)
    cases h5 : isT L [40] (i + 1) with
    | false =>
      rw [h5, if_neg (by decide)] at hc
      rw [if_pos rfl]
      have hf := st_fin size rest kId (textT L i) (tf L size i) 0 [] T O (by decide) (Nat.succ_pos i) hlt
      refine ⟨hlt, Nat.lt_succ_self _, ?_⟩
      rw [tf_from hlt] at h0 hm hc hf ⊢
      exact .cons h0 (.cons hm (.cons hc (.one hf) (Int.le_refl _)) (Int.le_refl _)) (by dsimp only; omega)
    | true =>
      have hlt5 := isT_lt h5
      rw [h5, if_pos rfl] at hc
      rw [if_neg (by decide)]
      by_cases h6 : textT L i = kNew
      · rw [if_pos h6] at hc ⊢
        have hp := typed_sim size hL n (i + 1 + 1) (by omega) hlt5 ⟨kNew, [], tf L size i, [], 0⟩ (T :: O) (.word [41] :: .m .fin :: rest)
        cases h7 : typed L n (i + 1 + 1) with
        | bad j => rw [h7] at hp; exact .cons h0 (.cons hm (.cons hc hp (Int.le_refl _)) (Int.le_refl _)) (by dsimp only; omega)
        | ok x j =>
          rw [h7] at hp
          obtain ⟨hj, hij, hr⟩ := hp
          simp only
          unfold mustT
          cases h8 : isT L [41] j with
          | false =>
            rw [if_neg (by decide)]
            exact .cons h0 (.cons hm (.cons hc (hr.fl (.now (st_word_bad size hL (by decide) _ _ h8))) (Int.le_refl _)) (Int.le_refl _)) (by dsimp only; omega)
          | true =>
            have hlt8 := isT_lt h8
            rw [if_pos rfl]
            have hw8 := st_word size hL (by decide) (.m .fin :: rest) (⟨kNew, [], tf L size i, [x], tf L size (i + 1 + 1)⟩ :: T :: O) h8
            have hf := st_fin size rest kNew [] (tf L size i) (tf L size (i + 1 + 1)) [x] T O (by decide) (Nat.succ_pos j) hlt8
            refine ⟨hlt8, by omega, ?_⟩
            rw [tf_from hlt] at h0 hm hc hr hw8 hf ⊢
            exact .cons h0 (.cons hm (.cons hc (hr.trans (.cons hw8 (.one hf) (Int.le_refl _))) (Int.le_refl _)) (Int.le_refl _)) (by dsimp only; omega)
      · rw [if_neg h6] at hc ⊢
        by_cases h7 : textT L i = kMake
        · rw [if_pos h7] at hc ⊢
          have hp := typed_sim size hL n (i + 1 + 1) (by omega) hlt5 ⟨kMake, [], tf L size i, [], 0⟩ (T :: O) (.word [44] :: .m .expr :: .word [41] :: .m .fin :: rest)
          cases h8 : typed L n (i + 1 + 1) with
          | bad j => rw [h8] at hp; exact .cons h0 (.cons hm (.cons hc hp (Int.le_refl _)) (Int.le_refl _)) (by dsimp only; omega)
          | ok x j =>
            rw [h8] at hp
            obtain ⟨hj, hij, hr⟩ := hp
            simp only
            unfold mustT
            cases h9 : isT L [44] j with
            | false =>
              rw [if_neg (by decide)]
              exact .cons h0 (.cons hm (.cons hc (hr.fl (.now (st_word_bad size hL (by decide) _ _ h9))) (Int.le_refl _)) (Int.le_refl _)) (by dsimp only; omega)
            | true =>
              have hlt9 := isT_lt h9
              rw [if_pos rfl]
              simp only
              have hw9 := st_word size hL (by decide) (.m .expr :: .word [41] :: .m .fin :: rest) (⟨kMake, [], tf L size i, [x], tf L size (i + 1 + 1)⟩ :: T :: O) h9
              have he := full_sim size hL (IH.expr 0 (j + 1) (by omega) hlt9 (Int.le_refl _)) ⟨kMake, [], tf L size i, [x], tf L size (i + 1 + 1)⟩ (T :: O) (.word [41] :: .m .fin :: rest) (show ¬ kMake = kBinary by decide)
              cases h10 : expr L n 0 (j + 1) with
              | bad k => rw [h10] at he; exact .cons h0 (.cons hm (.cons hc (hr.fl (.cons hw9 he (Int.le_refl _))) (Int.le_refl _)) (Int.le_refl _)) (by dsimp only; omega)
              | ok e k =>
                rw [h10] at he
                obtain ⟨hk, hjk, hr2⟩ := he
                simp only
                cases h11 : isT L [41] k with
                | false =>
                  rw [if_neg (by decide)]
                  exact .cons h0 (.cons hm (.cons hc (hr.fl (.cons hw9 (hr2.fl (.now (st_word_bad size hL (by decide) _ _ h11))) (Int.le_refl _))) (Int.le_refl _)) (Int.le_refl _)) (by dsimp only; omega)
                | true =>
                  have hlt11 := isT_lt h11
                  rw [if_pos rfl]
                  have hw11 := st_word size hL (by decide) (.m .fin :: rest) (⟨kMake, [], tf L size i, [x, e], tf L size (j + 1)⟩ :: T :: O) h11
                  have hf := st_fin size rest kMake [] (tf L size i) (tf L size (j + 1)) [x, e] T O (by decide) (Nat.succ_pos k) hlt11
                  refine ⟨hlt11, by omega, ?_⟩
                  rw [tf_from hlt] at h0 hm hc hr hw9 hr2 hw11 hf ⊢
                  exact .cons h0 (.cons hm (.cons hc (hr.trans (.cons hw9 (hr2.trans (.cons hw11 (.one hf) (Int.le_refl _))) (Int.le_refl _))) (Int.le_refl _)) (Int.le_refl _)) (by dsimp only; omega)
        · rw [if_neg h7] at hc ⊢
          have hco := st_commas size hL (i := i + 1 + 1) .expr (.word [41] :: .m .fin :: rest) (⟨kCall, textT L i, tf L size i, [], 0⟩ :: T :: O)
          cases h8 : isT L [41] (i + 1 + 1) with
          | true =>
            have hlt8 := isT_lt h8
            rw [if_pos rfl]
            rw [h8, if_pos rfl] at hco
            have hw := st_word size hL (by decide) (.m .fin :: rest) (⟨kCall, textT L i, tf L size i, [], 0⟩ :: T :: O) h8
            have hf := st_fin size rest kCall (textT L i) (tf L size i) 0 [] T O (by decide) (Nat.succ_pos (i + 1 + 1)) hlt8
            refine ⟨hlt8, by omega, ?_⟩
            rw [tf_from hlt] at h0 hm hc hco hw hf ⊢
            exact .cons h0 (.cons hm (.cons hc (.cons hco (.cons hw (.one hf) (Int.le_refl _)) (Int.le_refl _)) (Int.le_refl _)) (Int.le_refl _)) (by dsimp only; omega)
          | false =>
            rw [if_neg (by decide)]
            rw [h8, if_neg (by decide)] at hco
            have ha := IH.args (i + 1 + 1) [] (by omega) hlt5 ⟨kCall, textT L i, tf L size i, [], 0⟩ (T :: O) (.m .fin :: rest) rfl (show ¬ kCall = kBinary by decide)
            cases h9 : args L n (i + 1 + 1) [] with
            | bad k => rw [h9] at ha; exact .cons h0 (.cons hm (.cons hc (.cons hco ha (Int.le_refl _)) (Int.le_refl _)) (Int.le_refl _)) (by dsimp only; omega)
            | ok l k =>
              rw [h9] at ha
              obtain ⟨q1, q2, kf, q3⟩ := ha
              have hf := st_fin size rest kCall (textT L i) (tf L size i) kf l T O (by decide) (by omega) q1
              refine ⟨q1, by omega, ?_⟩
              rw [tf_from hlt] at h0 hm hc hco q3 hf ⊢
              exact .cons h0 (.cons hm (.cons hc (.cons hco (q3.trans (.one hf)) (Int.le_refl _)) (Int.le_refl _)) (Int.le_refl _)) (by dsimp only; omega)
theorem goodE : ∀ n, GoodE L size n
  | 0 => ⟨fun _ _ h => by omega, fun _ _ _ _ h => by omega, fun _ h => by omega, fun _ _ _ h => by omega, fun _ h => by omega, fun _ _ h => by omega⟩
  | n + 1 =>
    have IH := goodE n
    ⟨fun than i h hi ht => expr_sim size IH than i h hi ht, fun than f a i h hi h0 ht => exprs_sim size hL IH than f a i h hi h0 ht, fun i h hi => pre_sim size hL IH i h hi,
      fun f a i h hi _ => tails_sim size hL IH f a i h hi, fun i h hi => operand_sim size hL IH i h hi, fun i acc h hi => args_sim size hL IH i acc h hi⟩
end
end Go.Proofs.YtnjhmjkonmmomaaDoor.K
end
/- KSimS: The machine does what the document's reader does: statements. -/
section
namespace Go.Proofs.YtnjhmjkonmmomaaDoor.K
open Go.Lib Go.Proofs.YtnjhmjkonmmomaaDoor.U Go.Proofs.YtnjhmjkonmmomaaDoor.S Go.Proofs.YtnjhmjkonmmomaaDoor.T

section
variable {L : List TokP} (size : Nat)
def StmtsS (L : List TokP) (size : Nat) (k : Mth) (b : Int) (i : Nat) (acc : List Pt) (x : Out (List Pt)) : Prop := ∀ (o : Open) (O : List Open) (rest : List Stp), o.kids = acc → isT L [125] i = false → match x with
  | .ok l j => j ≤ L.length ∧ i < j ∧ isT L [125] j = true ∧ ∃ kf, To L size 0 ⟨i, .m k :: .more k :: .word [125] :: rest, o :: O⟩ ⟨j, .word [125] :: rest, { o with kids := l, kf := kf } :: O⟩
  | .bad j => Fl L size b ⟨i, .m k :: .more k :: .word [125] :: rest, o :: O⟩ j
def BranchS (L : List TokP) (size : Nat) (b : Int) (i : Nat) (x : Out Pt) : Prop := ∀ (T : Open) (O : List Open) (rest : List Stp), isT L kIf i = true → match x with
  | .ok p j => j ≤ L.length ∧ i < j ∧ To L size (-60) ⟨i, .word kIf :: .m .expr :: .m .block :: .m .otherwise :: .m .fin :: rest, ⟨kIf, [], tf L size i, [], 0⟩ :: T :: O⟩ ⟨j, rest, T.add p (tf L size i) :: O⟩
  | .bad j => Fl L size b ⟨i, .word kIf :: .m .expr :: .m .block :: .m .otherwise :: .m .fin :: rest, ⟨kIf, [], tf L size i, [], 0⟩ :: T :: O⟩ j
structure GoodS (L : List TokP) (size n : Nat) : Prop where
  block : ∀ i, 8 * (L.length - i) + 1 ≤ n → i ≤ L.length → Adds L size 60 10 [.m .block] i (block L n i)
  stmts : ∀ i acc, 8 * (L.length - i) + 5 ≤ n → i ≤ L.length → StmtsS L size .stmt 80 i acc (stmts L n i acc)
  branch : ∀ i, 8 * (L.length - i) + 1 ≤ n → i ≤ L.length → BranchS L size 10 i (branch L n i)
  stmt : ∀ i, 8 * (L.length - i) + 4 ≤ n → i ≤ L.length → Adds L size 50 60 [.m .stmt] i (stmt L n i)
theorem semi_le (i : Nat) (h : i ≤ L.length) : i + semiN L i ≤ L.length := by
  unfold semiN
  have h1 : ((L.drop i).takeWhile (fun t => t.w == 5)).length ≤ (L.drop i).length := (List.takeWhile_sublist _).length_le
  rw [List.length_drop] at h1
  omega
theorem semi_zero {i : Nat} (h : comesT L 5 i = false) : semiN L i = 0 := by
  unfold semiN
  by_cases hi : i < L.length
  · unfold comesT at h
    rw [List.getElem?_eq_getElem hi] at h
    rw [List.drop_eq_getElem_cons hi, List.takeWhile_cons]
    dsimp only at h ⊢
    rw [h]; rfl
  · rw [List.drop_of_length_le (by omega)]; rfl
theorem semi_pos {i : Nat} (h : comesT L 5 i = true) : 0 < semiN L i := by
  unfold semiN
  have hi := comesT_lt h
  unfold comesT at h
  rw [List.getElem?_eq_getElem hi] at h
  rw [List.drop_eq_getElem_cons hi, List.takeWhile_cons]
  dsimp only at h ⊢
  rw [h]; simp
variable (hL : ∀ t ∈ L, Fine t)
include hL
theorem st_lines {i : Nat} (k : Mth) (R : List Stp) (O : List Open) : stepS L size ⟨i, .lines k :: R, O⟩ =
    if isT L [125] (i + semiN L i) then .go ⟨i + semiN L i, R, O⟩ else .go ⟨i + semiN L i, .m k :: .more k :: R, O⟩ := by
  show exec L size (.lines k) ⟨i, R, O⟩ = _
  simp only [exec]
  rw [isP_is size hL (by decide)]; rfl
theorem st_more {i : Nat} (k : Mth) (R : List Stp) (O : List Open) : stepS L size ⟨i, .more k :: R, O⟩ = if comesT L 5 i then .go ⟨i, .lines k :: R, O⟩ else .go ⟨i, R, O⟩ := by
  show exec L size (.more k) ⟨i, R, O⟩ = _
  simp only [exec]
  rw [isW_is size hL (by decide)]; rfl
/-- Behind an item: no other one, a wrong word, or the next item. -/
theorem more_or {j : Nat} (k : Mth) (rest : List Stp) (O : List Open) :
    (isT L [125] (j + semiN L j) = true ∧ To L size 2 ⟨j, .more k :: .word [125] :: rest, O⟩ ⟨j + semiN L j, .word [125] :: rest, O⟩) ∨
    (isT L [125] (j + semiN L j) = false ∧ semiN L j = 0 ∧ Fl L size 1 ⟨j, .more k :: .word [125] :: rest, O⟩ j) ∨
    (isT L [125] (j + semiN L j) = false ∧ 0 < semiN L j ∧ To L size (-98) ⟨j, .more k :: .word [125] :: rest, O⟩ ⟨j + semiN L j, .m k :: .more k :: .word [125] :: rest, O⟩) := by
  have hm := st_more size hL (i := j) k (.word [125] :: rest) O
  have hl := st_lines size hL (i := j) k (.word [125] :: rest) O
  cases h1 : comesT L 5 j with
  | false =>
    rw [h1, if_neg (by decide)] at hm
    rw [semi_zero h1, Nat.add_zero]
    cases h2 : isT L [125] j with
    | true => exact .inl ⟨rfl, .last hm (by dsimp only; omega)⟩
    | false => exact .inr (.inl ⟨rfl, rfl, .cons hm (.now (st_word_bad size hL (by decide) _ _ h2)) (by dsimp only; omega)⟩)
  | true =>
    have hp := semi_pos h1
    rw [h1, if_pos rfl] at hm
    cases h2 : isT L [125] (j + semiN L j) with
    | true =>
      rw [h2, if_pos rfl] at hl
      exact .inl ⟨rfl, .cons hm (.one hl) (by dsimp only; omega)⟩
    | false =>
      rw [h2, if_neg (by decide)] at hl
      exact .inr (.inr ⟨rfl, hp, .cons hm (.one hl) (by dsimp only; omega)⟩)
theorem stmts_sim {n : Nat} (IH : GoodS L size n) (i : Nat) (acc : List Pt) (hn : 8 * (L.length - i) + 5 ≤ n + 1) (hi : i ≤ L.length) : StmtsS L size .stmt 80 i acc (stmts L (n + 1) i acc) := by
  rintro o O rest rfl hb
  simp only [stmts, hb, Bool.false_eq_true, if_false]
  have hp := IH.stmt i (by omega) hi o O (.more .stmt :: .word [125] :: rest)
  cases h1 : stmt L n i with
  | bad j => rw [h1] at hp; exact hp.mono (by omega)
  | ok p j =>
    rw [h1] at hp
    obtain ⟨hj, hij, hr⟩ := hp
    simp only [Out.next]
    have hle := semi_le j hj
    rcases more_or size hL (j := j) .stmt rest (o.add p (tf L size i) :: O) with ⟨q1, q2⟩ | ⟨q1, q0, q2⟩ | ⟨q1, q0, q2⟩
    · have hs : ¬ (semiN L j = 0 ∧ isT L [125] j = false) := by
        rintro ⟨a, b⟩; rw [a, Nat.add_zero, b] at q1; cases q1
      rw [if_neg hs]
      obtain ⟨m, hm⟩ : ∃ m, n = m + 1 := ⟨n - 1, by omega⟩
      rw [hm]
      simp only [stmts, q1, if_true]
      exact ⟨hle, by omega, trivial, tf L size i, (hr.trans q2).mono (by omega)⟩
    · rw [q0, Nat.add_zero] at q1
      rw [if_pos ⟨q0, q1⟩]
      exact (hr.fl q2).mono (by omega)
    · rw [if_neg (by omega)]
      have hk := IH.stmts (j + semiN L j) (o.kids ++ [p]) (by omega) hle (o.add p (tf L size i)) O rest rfl q1
      cases h2 : stmts L n (j + semiN L j) (o.kids ++ [p]) with
      | bad k => rw [h2] at hk; exact (hr.fl (q2.fl hk)).mono (by omega)
      | ok l k =>
        rw [h2] at hk
        obtain ⟨r1, r2, r3, kf, r4⟩ := hk
        exact ⟨r1, by omega, r3, kf, (hr.trans (q2.trans r4)).mono (by omega)⟩
theorem block_sim {n : Nat} (IH : GoodS L size n) (i : Nat) (hn : 8 * (L.length - i) + 1 ≤ n + 1) : Adds L size 60 10 [.m .block] i (block L (n + 1) i) := by
  intro T O rest
  have h0 := st_opened size hL (k := .block) (kd := kBlock) (l := [.word [123], .lines .stmt, .word [125], .m .fin]) (fun s => rfl) (i := i) rest (T :: O)
  simp only [block]
  unfold mustT
  cases h1 : isT L [123] i with
  | false => 
    rw [if_neg (by decide)]
    exact .cons h0 (.now (st_word_bad size hL (by decide) _ _ h1)) (by dsimp only; omega)
  | true =>
    have hlt := isT_lt h1
    rw [if_pos rfl]
    simp only [Out.next]
    have hw := st_word size hL (by decide) (.lines .stmt :: .word [125] :: .m .fin :: rest) (⟨kBlock, [], tf L size i, [], 0⟩ :: T :: O) h1
    have hl := st_lines size hL (i := i + 1) .stmt (.word [125] :: .m .fin :: rest) (⟨kBlock, [], tf L size i, [], 0⟩ :: T :: O)
    have hle := semi_le (i + 1) hlt
    obtain ⟨m, hm⟩ : ∃ m, n = m + 1 := ⟨n - 1, by omega⟩
    cases h2 : isT L [125] (i + 1 + semiN L (i + 1)) with
    | true =>
      have hlt2 := isT_lt h2
      rw [h2, if_pos rfl] at hl
      rw [hm]
      simp only [stmts, h2, if_true]
      have hw2 := st_word size hL (by decide) (.m .fin :: rest) (⟨kBlock, [], tf L size i, [], 0⟩ :: T :: O) h2
      have hf := st_fin size rest kBlock [] (tf L size i) 0 [] T O (by decide) (Nat.succ_pos (i + 1 + semiN L (i + 1))) hlt2
      refine ⟨hlt2, by omega, ?_⟩
      rw [tf_from hlt] at h0 hw hl hw2 hf ⊢
      exact .cons h0 (.cons hw (.cons hl (.cons hw2 (.one hf) (Int.le_refl _)) (Int.le_refl _)) (Int.le_refl _)) (by dsimp only; omega)
    | false =>
      rw [h2, if_neg (by decide)] at hl
      have hk := IH.stmts (i + 1 + semiN L (i + 1)) [] (by omega) hle ⟨kBlock, [], tf L size i, [], 0⟩ (T :: O) (.m .fin :: rest) rfl h2
      cases h3 : stmts L n (i + 1 + semiN L (i + 1)) [] with
      | bad k => rw [h3] at hk; exact .cons h0 (.cons hw (.cons hl hk (Int.le_refl _)) (Int.le_refl _)) (by dsimp only; omega)
      | ok l k =>
        rw [h3] at hk
        obtain ⟨r1, r2, r3, kf, r4⟩ := hk
        have hlt3 := isT_lt r3
        simp only
        rw [r3, if_pos rfl]
        have hw2 := st_word size hL (by decide) (.m .fin :: rest) (⟨kBlock, [], tf L size i, l, kf⟩ :: T :: O) r3
        have hf := st_fin size rest kBlock [] (tf L size i) kf l T O (by decide) (Nat.succ_pos k) hlt3
        refine ⟨hlt3, by omega, ?_⟩
        rw [tf_from hlt] at h0 hw hl r4 hw2 hf ⊢
        exact .cons h0 (.cons hw (.cons hl (r4.trans (.cons hw2 (.one hf) (Int.le_refl _))) (Int.le_refl _)) (Int.le_refl _)) (by dsimp only; omega)
theorem st_otherwise {i : Nat} (R : List Stp) (O : List Open) : stepS L size ⟨i, .m .otherwise :: R, O⟩ = if isT L kElse i then .go ⟨i, .word kElse :: .m .ifOrBlock :: R, O⟩ else .go ⟨i, R, O⟩ := by
  show execM L size .otherwise ⟨i, R, O⟩ = _
  simp only [execM]
  rw [isP_is size hL (by decide)]; rfl
theorem st_ifOr {i : Nat} (R : List Stp) (O : List Open) : stepS L size ⟨i, .m .ifOrBlock :: R, O⟩ =
    if isT L kIf i then .go ⟨i, .word kIf :: .m .expr :: .m .block :: .m .otherwise :: .m .fin :: R, ⟨kIf, [], tf L size i, [], 0⟩ :: O⟩ else stepS L size ⟨i, .m .block :: R, O⟩ := by
  show execM L size .ifOrBlock ⟨i, R, O⟩ = _
  simp only [execM]
  rw [isP_is size hL (by decide)]; rfl
theorem branch_sim {n : Nat} (IH : GoodS L size n) (i : Nat) (hn : 8 * (L.length - i) + 1 ≤ n + 1) : BranchS L size 10 i (branch L (n + 1) i) := by
  intro T O rest h1
  have hlt := isT_lt h1
  simp only [branch]
  unfold mustT
  rw [h1, if_pos rfl]
  simp only [Out.next]
  have hw := st_word size hL (by decide) (.m .expr :: .m .block :: .m .otherwise :: .m .fin :: rest) (⟨kIf, [], tf L size i, [], 0⟩ :: T :: O) h1
  have he := full_sim size hL ((goodE size hL n).expr 0 (i + 1) (by omega) hlt (Int.le_refl _)) ⟨kIf, [], tf L size i, [], 0⟩ (T :: O) (.m .block :: .m .otherwise :: .m .fin :: rest) (show ¬ kIf = kBinary by decide)
  cases h2 : expr L n 0 (i + 1) with
  | bad j => rw [h2] at he; exact .cons hw he (by dsimp only; omega)
  | ok e j =>
    rw [h2] at he
    obtain ⟨hj, hij, hr⟩ := he
    simp only
    have hb := IH.block j (by omega) hj (Open.add ⟨kIf, [], tf L size i, [], 0⟩ e (tf L size (i + 1))) (T :: O) (.m .otherwise :: .m .fin :: rest)
    cases h3 : block L n j with
    | bad k => rw [h3] at hb; exact .cons hw (hr.fl hb) (by dsimp only; omega)
    | ok b k =>
      rw [h3] at hb
      obtain ⟨hk, hjk, hr2⟩ := hb
      simp only
      have ho := st_otherwise size hL (i := k) (.m .fin :: rest) (⟨kIf, [], tf L size i, [e, b], tf L size j⟩ :: T :: O)
      cases h4 : isT L kElse k with
      | false =>
        rw [h4, if_neg (by decide)] at ho
        rw [if_neg (by decide)]
        have hf := st_fin size rest kIf [] (tf L size i) (tf L size j) [e, b] T O (by decide) (by omega) hk
        refine ⟨hk, by omega, ?_⟩
        rw [tf_from hlt] at hw hr hr2 ho hf ⊢
        exact .cons hw (hr.trans (hr2.trans (.cons ho (.one hf) (Int.le_refl _)))) (by dsimp only; omega)
      | true =>
        have hlt4 := isT_lt h4
        rw [h4, if_pos rfl] at ho
        rw [if_pos rfl]
        have hw4 := st_word size hL (by decide) (.m .ifOrBlock :: .m .fin :: rest) (⟨kIf, [], tf L size i, [e, b], tf L size j⟩ :: T :: O) h4
        have hio := st_ifOr size hL (i := k + 1) (.m .fin :: rest) (⟨kIf, [], tf L size i, [e, b], tf L size j⟩ :: T :: O)
        cases h5 : isT L kIf (k + 1) with
        | true =>
          rw [h5, if_pos rfl] at hio
          rw [if_pos rfl]
          have hq := IH.branch (k + 1) (by omega) hlt4 ⟨kIf, [], tf L size i, [e, b], tf L size j⟩ (T :: O) (.m .fin :: rest) h5
          cases h6 : branch L n (k + 1) with
          | bad m => rw [h6] at hq; exact .cons hw (hr.fl (hr2.fl (.cons ho (.cons hw4 (.cons hio hq (Int.le_refl _)) (Int.le_refl _)) (Int.le_refl _)))) (by dsimp only; omega)
          | ok x m =>
            rw [h6] at hq
            obtain ⟨q1, q2, q3⟩ := hq
            have hf := st_fin size rest kIf [] (tf L size i) (tf L size (k + 1)) [e, b, x] T O (by decide) (by omega) q1
            refine ⟨q1, by omega, ?_⟩
            rw [tf_from hlt] at hw hr hr2 ho hw4 hio q3 hf ⊢
            exact .cons hw (hr.trans (hr2.trans (.cons ho (.cons hw4 (.cons hio (q3.trans (.one hf)) (Int.le_refl _)) (Int.le_refl _)) (Int.le_refl _)))) (by dsimp only; omega)
        | false =>
          rw [h5, if_neg (by decide)] at hio
          rw [if_neg (by decide)]
          have hq := IH.block (k + 1) (by omega) hlt4 ⟨kIf, [], tf L size i, [e, b], tf L size j⟩ (T :: O) (.m .fin :: rest)
          have same : ∀ s : St, stepS L size ⟨k + 1, .m .block :: .m .fin :: rest, ⟨kIf, [], tf L size i, [e, b], tf L size j⟩ :: T :: O⟩ = .go s → stepS L size ⟨k + 1, .m .ifOrBlock :: .m .fin :: rest, ⟨kIf, [], tf L size i, [e, b], tf L size j⟩ :: T :: O⟩ = .go s := fun s h => hio.trans h
          have h0 := st_opened size hL (k := .block) (kd := kBlock) (l := [.word [123], .lines .stmt, .word [125], .m .fin]) (fun s => rfl) (i := k + 1) (.m .fin :: rest) (⟨kIf, [], tf L size i, [e, b], tf L size j⟩ :: T :: O)
          have hio2 := same _ h0
          cases h6 : block L n (k + 1) with
          | bad m =>
            rw [h6] at hq
            obtain ⟨c, q1, s', q2, q3⟩ := hq
            have hne : stepS L size ⟨k + 1, .m .block :: .m .fin :: rest, ⟨kIf, [], tf L size i, [e, b], tf L size j⟩ :: T :: O⟩ ≠ .wrong := by rw [h0]; exact fun h => nomatch h
            have hq' : Fl L size 10 ⟨k + 1, .m .ifOrBlock :: .m .fin :: rest, ⟨kIf, [], tf L size i, [e, b], tf L size j⟩ :: T :: O⟩ m := by
              cases q2 with
              | refl => exact absurd q3.1 hne
              | step g1 g2 => exact ⟨_, q1, s', .step (same _ g1) g2, q3⟩
            exact .cons hw (hr.fl (hr2.fl (.cons ho (.cons hw4 hq' (Int.le_refl _)) (Int.le_refl _)))) (by dsimp only; omega)
          | ok x m =>
            rw [h6] at hq
            obtain ⟨q1, q2, c, q3, q4⟩ := hq
            have hq' : To L size (-60) ⟨k + 1, .m .ifOrBlock :: .m .fin :: rest, ⟨kIf, [], tf L size i, [e, b], tf L size j⟩ :: T :: O⟩ ⟨m, .m .fin :: rest, Open.add ⟨kIf, [], tf L size i, [e, b], tf L size j⟩ x (tf L size (k + 1)) :: T :: O⟩ := by
              generalize hs2 : (⟨m, .m .fin :: rest, Open.add ⟨kIf, [], tf L size i, [e, b], tf L size j⟩ x (tf L size (k + 1)) :: T :: O⟩ : St) = s2 at q4
              cases q4 with
              | refl => exact absurd (congrArg St.i hs2) (by dsimp only; omega)
              | step g1 g2 => exact ⟨_, by rw [hs2] at q3; exact q3, .step (same _ g1) g2⟩
            have hf := st_fin size rest kIf [] (tf L size i) (tf L size (k + 1)) [e, b, x] T O (by decide) (by omega) q1
            refine ⟨q1, by omega, ?_⟩
            rw [tf_from hlt] at hw hr hr2 ho hw4 hq' hf ⊢
            exact .cons hw (hr.trans (hr2.trans (.cons ho (.cons hw4 (hq'.trans (.one hf)) (Int.le_refl _)) (Int.le_refl _)))) (by dsimp only; omega)
end
end Go.Proofs.YtnjhmjkonmmomaaDoor.K
end
/- KSimD: The machine does what the document's reader does: declarations, and a whole run. -/
section
namespace Go.Proofs.YtnjhmjkonmmomaaDoor.K
open Go.Lib Go.Proofs.YtnjhmjkonmmomaaDoor.U Go.Proofs.YtnjhmjkonmmomaaDoor.S Go.Proofs.YtnjhmjkonmmomaaDoor.T

section
variable {L : List TokP} (size : Nat) (hL : ∀ t ∈ L, Fine t)
include hL
theorem variable_sim (k : Mth) (hk : ∀ (i : Nat) (R : List Stp) (O : List Open), isT L kVar i = true → stepS L size ⟨i, .m k :: R, O⟩ = .go ⟨i, .word kVar :: .m .name :: .m .typeOf :: .m .fin :: R, ⟨kVar, [], tf L size i, [], 0⟩ :: O⟩)
    (n i : Nat) (hn : 2 * (L.length - i) + 1 ≤ n) (h1 : isT L kVar i = true) : Adds L size 50 60 [.m k] i (variable' L n i) := by
  intro T O rest
  have hlt := isT_lt h1
  have h0 := hk i rest (T :: O) h1
  unfold variable' mustT
  rw [h1, if_pos rfl]
  simp only [Out.next]
  have hw := st_word size hL (by decide) (.m .name :: .m .typeOf :: .m .fin :: rest) (⟨kVar, [], tf L size i, [], 0⟩ :: T :: O) h1
  unfold nameT
  cases h4 : comesT L 0 (i + 1) with
  | true =>
    have hlt4 := comesT_lt h4
    rw [if_pos rfl]
    have hm := st_name size hL (.m .typeOf :: .m .fin :: rest) ⟨kVar, [], tf L size i, [], 0⟩ (T :: O) h4
    simp only
    have hr := typed_sim size hL n (i + 1 + 1) (by omega) hlt4 ⟨kVar, textT L (i + 1), tf L size i, [], 0⟩ (T :: O) (.m .fin :: rest)
    cases h2 : typed L n (i + 1 + 1) with
    | ok p j =>
      rw [h2] at hr
      obtain ⟨hj, hij, hr⟩ := hr
      have hf := st_fin size rest kVar (textT L (i + 1)) (tf L size i) (tf L size (i + 1 + 1)) [p] T O (by decide) (by omega) hj
      refine ⟨hj, by omega, ?_⟩
      rw [tf_from hlt] at h0 hw hm hr hf ⊢
      exact .cons h0 (.cons hw (.cons hm (hr.trans (.one hf)) (Int.le_refl _)) (Int.le_refl _)) (by dsimp only; omega)
    | bad j =>
      rw [h2] at hr
      exact .cons h0 (.cons hw (.cons hm hr (Int.le_refl _)) (Int.le_refl _)) (by dsimp only; omega)
  | false =>
    rw [if_neg (by decide)]
    exact .cons h0 (.cons hw (.now (st_name_bad size hL _ _ h4)) (Int.le_refl _)) (by dsimp only; omega)
theorem st_stmt {i : Nat} (R : List Stp) (O : List Open) : stepS L size ⟨i, .m .stmt :: R, O⟩ =
    if isT L kVar i then .go ⟨i, .word kVar :: .m .name :: .m .typeOf :: .m .fin :: R, ⟨kVar, [], tf L size i, [], 0⟩ :: O⟩
    else if isT L kReturn i then .go ⟨i, .word kReturn :: .m .returned :: .m .fin :: R, ⟨kReturn, [], tf L size i, [], 0⟩ :: O⟩
    else if isT L kIf i then .go ⟨i, .word kIf :: .m .expr :: .m .block :: .m .otherwise :: .m .fin :: R, ⟨kIf, [], tf L size i, [], 0⟩ :: O⟩
    else if isT L kFor i then .go ⟨i, .word kFor :: .m .expr :: .m .block :: .m .fin :: R, ⟨kFor, [], tf L size i, [], 0⟩ :: O⟩
    else if isT L [123] i then stepS L size ⟨i, .m .block :: R, O⟩
    else .go ⟨i, .m .expr :: .m .assigned :: .m .fin :: R, ⟨kExpr, [], tf L size i, [], 0⟩ :: O⟩ := by
  show execM L size .stmt ⟨i, R, O⟩ = _
  simp only [execM]
  rw [isP_is size hL (by decide), isP_is size hL (by decide), isP_is size hL (by decide), isP_is size hL (by decide), isP_is size hL (by decide)]; rfl
theorem st_returned {i : Nat} (R : List Stp) (O : List Open) : stepS L size ⟨i, .m .returned :: R, O⟩ = if comesT L 5 i = false ∧ isT L [125] i = false then .go ⟨i, .m .pre :: .m .between :: R, O⟩ else .go ⟨i, R, O⟩ := by
  show execM L size .returned ⟨i, R, O⟩ = _
  simp only [execM]
  rw [isP_is size hL (by decide), isW_is size hL (by decide)]; rfl
theorem st_assigned {i : Nat} (R : List Stp) (k t : By) (f kf : Int) (ks : List Pt) (O : List Open) : stepS L size ⟨i, .m .assigned :: R, ⟨k, t, f, ks, kf⟩ :: O⟩ =
    if isT L [61] i then .go ⟨i + 1, .m .pre :: .m .between :: R, ⟨kAssign, t, f, ks, kf⟩ :: O⟩
    else if isT L [58, 61] i then .go ⟨i + 1, .m .pre :: .m .between :: R, ⟨kDefine, t, f, ks, kf⟩ :: O⟩
    else .go ⟨i, R, ⟨k, t, f, ks, kf⟩ :: O⟩ := by
  show execM L size .assigned ⟨i, R, ⟨k, t, f, ks, kf⟩ :: O⟩ = _
  simp only [execM]
  rw [isP_is size hL (by decide), isP_is size hL (by decide)]; rfl
omit hL in
/-- What makes the same first step does the same. -/
theorem adds_swap {a b : Int} {k k' : Mth} {i : Nat} {o : Out Pt} (h : Adds L size a b [.m k] i o) (he : ∀ R O, stepS L size ⟨i, .m k' :: R, O⟩ = stepS L size ⟨i, .m k :: R, O⟩) : Adds L size a b [.m k'] i o := by
  intro T O rest
  have h1 := h T O rest
  have h2 := he rest (T :: O)
  cases o with
  | ok p j =>
    obtain ⟨q1, q2, c, q3, q4⟩ := h1
    refine ⟨q1, q2, c, q3, ?_⟩
    generalize hs2 : (⟨j, rest, T.add p (tf L size i) :: O⟩ : St) = s2 at q4
    cases q4 with
    | refl => exact absurd (congrArg St.i hs2) (by dsimp only [List.cons_append, List.nil_append]; omega)
    | step g1 g2 => exact .step (h2.trans g1) g2
  | bad j =>
    obtain ⟨c, q1, s', q2, q3⟩ := h1
    cases q2 with
    | refl => exact ⟨c, q1, _, .refl _ _, h2.trans q3.1, q3.2⟩
    | step g1 g2 => exact ⟨_, q1, s', .step (h2.trans g1) g2, q3⟩
theorem ret_sim {n : Nat} (i : Nat) (hn : 8 * (L.length - i) + 4 ≤ n + 1) (h1 : isT L kReturn i = true) (h2 : isT L kVar i = false) : Adds L size 50 60 [.m .stmt] i (if comesT L 5 (i + 1) ∨ isT L [125] (i + 1) then T.part L kReturn [] (fromT L i) [] (i + 1) else (expr L n 0 (i + 1)).next fun e j => T.part L kReturn [] (fromT L i) [e] j) := by
  intro T O rest
  have hlt := isT_lt h1
  have h0 := st_stmt size hL (i := i) rest (T :: O)
  rw [h2, if_neg (by decide), h1, if_pos rfl] at h0
  have hw := st_word size hL (by decide) (.m .returned :: .m .fin :: rest) (⟨kReturn, [], tf L size i, [], 0⟩ :: T :: O) h1
  have hr := st_returned size hL (i := i + 1) (.m .fin :: rest) (⟨kReturn, [], tf L size i, [], 0⟩ :: T :: O)
  by_cases h3 : comesT L 5 (i + 1) = true ∨ isT L [125] (i + 1) = true
  · rw [if_pos h3]
    rw [if_neg (by rintro ⟨a, b⟩; rw [a, b] at h3; rcases h3 with h3 | h3 <;> cases h3)] at hr
    have hf := st_fin size rest kReturn [] (tf L size i) 0 [] T O (by decide) (Nat.succ_pos i) hlt
    refine ⟨hlt, Nat.lt_succ_self _, ?_⟩
    rw [tf_from hlt] at h0 hw hr hf ⊢
    exact .cons h0 (.cons hw (.cons hr (.one hf) (Int.le_refl _)) (Int.le_refl _)) (by dsimp only; omega)
  · rw [if_neg h3]
    rw [if_pos (by
      constructor
      · cases h : comesT L 5 (i + 1) with
        | false => rfl
        | true => exact absurd (.inl h) h3
      · cases h : isT L [125] (i + 1) with
        | false => rfl
        | true => exact absurd (.inr h) h3)] at hr
    have he := whole_sim size hL ((goodE size hL n).expr 0 (i + 1) (by omega) hlt (Int.le_refl _)) ⟨kReturn, [], tf L size i, [], 0⟩ (T :: O) (.m .fin :: rest) (show ¬ kReturn = kBinary by decide)
    cases h4 : expr L n 0 (i + 1) with
    | bad j => rw [h4] at he; exact .cons h0 (.cons hw (.cons hr he (Int.le_refl _)) (Int.le_refl _)) (by dsimp only; omega)
    | ok e j =>
      rw [h4] at he
      obtain ⟨hj, hij, hx⟩ := he
      have hf := st_fin size rest kReturn [] (tf L size i) (tf L size (i + 1)) [e] T O (by decide) (by omega) hj
      refine ⟨hj, by omega, ?_⟩
      rw [tf_from hlt] at h0 hw hr hx hf ⊢
      exact .cons h0 (.cons hw (.cons hr (hx.trans (.one hf)) (Int.le_refl _)) (Int.le_refl _)) (by dsimp only; omega)
theorem stmt_sim {n : Nat} (IH : GoodS L size n) (i : Nat) (hn : 8 * (L.length - i) + 4 ≤ n + 1) (hi : i ≤ L.length) : Adds L size 50 60 [.m .stmt] i (stmt L (n + 1) i) := by
  simp only [stmt]
  by_cases h1 : isT L kVar i = true
  · rw [if_pos h1]
    exact variable_sim size hL .stmt (fun i R O h => by rw [st_stmt size hL, h, if_pos rfl]) n i (by omega) h1
  rw [if_neg h1]
  have h1f : isT L kVar i = false := by simpa using h1
  by_cases h2 : isT L kIf i = true
  · rw [if_pos h2]
    have hlt := isT_lt h2
    intro T O rest
    have h0 := st_stmt size hL (i := i) rest (T :: O)
    rw [h1f, if_neg (by decide), not_both h2 (by decide), if_neg (by decide), h2, if_pos rfl] at h0
    have hb := IH.branch i (by omega) hi T O rest h2
    cases h3 : branch L n i with
    | bad j => rw [h3] at hb; exact .cons h0 hb (by dsimp only; omega)
    | ok p j =>
      rw [h3] at hb
      obtain ⟨q1, q2, q3⟩ := hb
      exact ⟨q1, q2, .cons h0 q3 (by dsimp only; omega)⟩
  rw [if_neg h2]
  have h2f : isT L kIf i = false := by simpa using h2
  by_cases h3 : isT L [123] i = true
  · rw [if_pos h3]
    have hb := adds_swap size (k' := .stmt) (IH.block i (by omega) hi) (fun R O => by
      rw [st_stmt size hL, h1f, if_neg (by decide), not_both h3 (by decide), if_neg (by decide), h2f, if_neg (by decide), not_both h3 (by decide), if_neg (by decide), h3, if_pos rfl])
    intro T O rest
    have hb2 := hb T O rest
    cases h4 : block L n i with
    | bad j => rw [h4] at hb2; exact hb2.mono (by omega)
    | ok p j =>
      rw [h4] at hb2
      exact ⟨hb2.1, hb2.2.1, hb2.2.2.mono (by omega)⟩
  rw [if_neg h3]
  have h3f : isT L [123] i = false := by simpa using h3
  by_cases h4 : isT L kFor i = true
  · rw [if_pos h4]
    have hlt := isT_lt h4
    intro T O rest
    have h0 := st_stmt size hL (i := i) rest (T :: O)
    rw [h1f, if_neg (by decide), not_both h4 (by decide), if_neg (by decide), h2f, if_neg (by decide), h4, if_pos rfl] at h0
    have hw := st_word size hL (by decide) (.m .expr :: .m .block :: .m .fin :: rest) (⟨kFor, [], tf L size i, [], 0⟩ :: T :: O) h4
    have he := full_sim size hL ((goodE size hL n).expr 0 (i + 1) (by omega) hlt (Int.le_refl _)) ⟨kFor, [], tf L size i, [], 0⟩ (T :: O) (.m .block :: .m .fin :: rest) (show ¬ kFor = kBinary by decide)
    cases h5 : expr L n 0 (i + 1) with
    | bad j => rw [h5] at he; exact .cons h0 (.cons hw he (Int.le_refl _)) (by dsimp only; omega)
    | ok e j =>
      rw [h5] at he
      obtain ⟨hj, hij, hr⟩ := he
      simp only [Out.next]
      have hb := IH.block j (by omega) hj (Open.add ⟨kFor, [], tf L size i, [], 0⟩ e (tf L size (i + 1))) (T :: O) (.m .fin :: rest)
      cases h6 : block L n j with
      | bad k => rw [h6] at hb; exact .cons h0 (.cons hw (hr.fl hb) (Int.le_refl _)) (by dsimp only; omega)
      | ok b k =>
        rw [h6] at hb
        obtain ⟨hk, hjk, hr2⟩ := hb
        have hf := st_fin size rest kFor [] (tf L size i) (tf L size j) [e, b] T O (by decide) (by omega) hk
        refine ⟨hk, by omega, ?_⟩
        rw [tf_from hlt] at h0 hw hr hr2 hf ⊢
        exact .cons h0 (.cons hw (hr.trans (hr2.trans (.one hf))) (Int.le_refl _)) (by dsimp only; omega)
  rw [if_neg h4]
  have h4f : isT L kFor i = false := by simpa using h4
  by_cases h5 : isT L kReturn i = true
  · rw [if_pos h5]; exact ret_sim size hL i hn h5 h1f
  rw [if_neg h5]
  have h5f : isT L kReturn i = false := by simpa using h5
  intro T O rest
  have h0 := st_stmt size hL (i := i) rest (T :: O)
  rw [h1f, if_neg (by decide), h5f, if_neg (by decide), h2f, if_neg (by decide), h4f, if_neg (by decide), h3f, if_neg (by decide)] at h0
  have he := full_sim size hL ((goodE size hL n).expr 0 i (by omega) hi (Int.le_refl _)) ⟨kExpr, [], tf L size i, [], 0⟩ (T :: O) (.m .assigned :: .m .fin :: rest) (show ¬ kExpr = kBinary by decide)
  cases h6 : expr L n 0 i with
  | bad j => rw [h6] at he; exact .cons h0 he (by dsimp only; omega)
  | ok a j =>
    rw [h6] at he
    obtain ⟨hj, hij, hr⟩ := he
    simp only [Out.next]
    have hlt : i < L.length := by omega
    have ha := st_assigned size hL (i := j) (.m .fin :: rest) kExpr [] (tf L size i) (tf L size i) [a] (T :: O)
    cases h7 : isT L [61] j with
    | true =>
      have hlt7 := isT_lt h7
      rw [h7, if_pos rfl] at ha
      rw [if_pos rfl]
      have he2 := whole_sim size hL ((goodE size hL n).expr 0 (j + 1) (by omega) hlt7 (Int.le_refl _)) ⟨kAssign, [], tf L size i, [a], tf L size i⟩ (T :: O) (.m .fin :: rest) (show ¬ kAssign = kBinary by decide)
      cases h8 : expr L n 0 (j + 1) with
      | bad k => rw [h8] at he2; exact .cons h0 (hr.fl (.cons ha he2 (Int.le_refl _))) (by dsimp only; omega)
      | ok b k =>
        rw [h8] at he2
        obtain ⟨hk, hjk, hr2⟩ := he2
        have hf := st_fin size rest kAssign [] (tf L size i) (tf L size (j + 1)) [a, b] T O (by decide) (by omega) hk
        refine ⟨hk, by omega, ?_⟩
        rw [tf_from hlt] at h0 hr ha hr2 hf ⊢
        exact .cons h0 (hr.trans (.cons ha (hr2.trans (.one hf)) (Int.le_refl _))) (by dsimp only; omega)
    | false =>
      rw [h7, if_neg (by decide)] at ha
      rw [if_neg (by decide)]
      cases h8 : isT L [58, 61] j with
      | true =>
        have hlt8 := isT_lt h8
        rw [h8, if_pos rfl] at ha
        rw [if_pos rfl]
        have he2 := whole_sim size hL ((goodE size hL n).expr 0 (j + 1) (by omega) hlt8 (Int.le_refl _)) ⟨kDefine, [], tf L size i, [a], tf L size i⟩ (T :: O) (.m .fin :: rest) (show ¬ kDefine = kBinary by decide)
        cases h9 : expr L n 0 (j + 1) with
        | bad k => rw [h9] at he2; exact .cons h0 (hr.fl (.cons ha he2 (Int.le_refl _))) (by dsimp only; omega)
        | ok b k =>
          rw [h9] at he2
          obtain ⟨hk, hjk, hr2⟩ := he2
          have hf := st_fin size rest kDefine [] (tf L size i) (tf L size (j + 1)) [a, b] T O (by decide) (by omega) hk
          refine ⟨hk, by omega, ?_⟩
          rw [tf_from hlt] at h0 hr ha hr2 hf ⊢
          exact .cons h0 (hr.trans (.cons ha (hr2.trans (.one hf)) (Int.le_refl _))) (by dsimp only; omega)
      | false =>
        rw [h8, if_neg (by decide)] at ha
        rw [if_neg (by decide)]
        have hf := st_fin size rest kExpr [] (tf L size i) (tf L size i) [a] T O (by decide) (by omega) hj
        refine ⟨hj, by omega, ?_⟩
        rw [tf_from hlt] at h0 hr ha hf ⊢
        exact .cons h0 (hr.trans (.cons ha (.one hf) (Int.le_refl _))) (by dsimp only; omega)
theorem goodS : ∀ n, GoodS L size n
  | 0 => ⟨fun _ h => by omega, fun _ _ h => by omega, fun _ h => by omega, fun _ h => by omega⟩
  | n + 1 =>
    have IH := goodS n
    ⟨fun i h _ => block_sim size hL IH i h, fun i acc h hi => stmts_sim size hL IH i acc h hi, fun i h _ => branch_sim size hL IH i h, fun i h hi => stmt_sim size hL IH i h hi⟩
end
end Go.Proofs.YtnjhmjkonmmomaaDoor.K
end
/- KSimT: The machine does what the document's reader does: declarations, and a whole run. -/
section
namespace Go.Proofs.YtnjhmjkonmmomaaDoor.K
open Go.Lib Go.Proofs.YtnjhmjkonmmomaaDoor.U Go.Proofs.YtnjhmjkonmmomaaDoor.S Go.Proofs.YtnjhmjkonmmomaaDoor.T

section
variable {L : List TokP} (size : Nat) (hL : ∀ t ∈ L, Fine t)
theorem all_span (k : By) : ∀ l : List Pt, (.mk k [] (spanF l) (spanE l) l : Pt) = allP k l
  | [] => rfl
  | .mk a b c d e :: r => by
    unfold allP spanF spanE
    first
      | (dsimp only; done)
      | (dsimp only
         rcases (Pt.mk a b c d e :: r).getLast? with _ | ⟨_, _, _, _, _⟩ <;> rfl)
theorem st_finP {j : Nat} (R : List Stp) (kd : By) (f kf : Int) (ks : List Pt) (a : Open) (O : List Open) (h1 : kd = kParams ∨ kd = kResult) (h0 : 0 < j) :
    stepS L size ⟨j, .m .fin :: R, ⟨kd, [], f, ks, kf⟩ :: a :: O⟩ = .go ⟨j, R, a.add (allP kd ks) f :: O⟩ := by
  show finM L size ⟨j, R, ⟨kd, [], f, ks, kf⟩ :: a :: O⟩ = _
  have h2 : ¬ kd = kBr := by rcases h1 with h1 | h1 <;> rw [h1] <;> decide
  unfold finM
  dsimp only
  rw [if_neg (by omega)]
  simp only [closeO, Open.close, h2, h1, if_false, if_true, all_span]; rfl
include hL
/-- Params, behind the bracket: up to the other one. -/
theorem params_sim (m : Nat) : ∀ (n i : Nat) (o : Open) (O : List Open) (rest : List Stp), 2 * (L.length - i) + 1 ≤ m → L.length - i + 1 ≤ n → i ≤ L.length → match params L m n i o.kids with
    | .ok l j => j ≤ L.length ∧ i < j ∧ ∃ kf, To L size 0 ⟨i, .m .param :: .moreC .param :: .word [41] :: rest, o :: O⟩ ⟨j, rest, { o with kids := l, kf := kf } :: O⟩
    | .bad j => Fl L size 50 ⟨i, .m .param :: .moreC .param :: .word [41] :: rest, o :: O⟩ j
  | 0, i, o, O, rest, _, hn, _ => by omega
  | n + 1, i, o, O, rest, hm, hn, hi => by
    simp only [params]
    have hp := param_sim size hL .param kParam (fun _ => rfl) (by decide) m i hm o O (.moreC .param :: .word [41] :: rest)
    cases h1 : param L m kParam i with
    | bad j => rw [h1] at hp; exact hp.mono (by omega)
    | ok p j =>
      rw [h1] at hp
      obtain ⟨hj, hij, hr⟩ := hp
      simp only [Out.next]
      have hc := st_moreC size hL (i := j) .param (.word [41] :: rest) (o.add p (tf L size i) :: O)
      cases h2 : isT L [41] j with
      | true =>
        have hlt := isT_lt h2
        rw [if_pos rfl]
        rw [not_both h2 (by decide), if_neg (by decide)] at hc
        have hw := st_word size hL (by decide) rest (o.add p (tf L size i) :: O) h2
        exact ⟨hlt, by omega, tf L size i, (hr.trans (.cons hc (.one hw) (Int.le_refl _))).mono (by dsimp only; omega)⟩
      | false =>
        rw [if_neg (by decide)]
        unfold mustT
        cases h3 : isT L [44] j with
        | false =>
          rw [if_neg (by decide)]
          rw [h3, if_neg (by decide)] at hc
          exact (hr.fl (.cons hc (.now (st_word_bad size hL (by decide) _ _ h2)) (Int.le_refl _))).mono (by dsimp only; omega)
        | true =>
          have hlt := isT_lt h3
          rw [if_pos rfl]
          rw [h3, if_pos rfl] at hc
          simp only
          have hw := st_word size hL (by decide) (.m .param :: .moreC .param :: .word [41] :: rest) (o.add p (tf L size i) :: O) h3
          have hq := params_sim m n (j + 1) (o.add p (tf L size i)) O rest (by omega) (by omega) hlt
          rw [show (o.add p (tf L size i)).kids = o.kids ++ [p] from rfl] at hq
          cases h4 : params L m n (j + 1) (o.kids ++ [p]) with
          | bad k => rw [h4] at hq; exact (hr.fl (.cons hc (.cons hw hq (Int.le_refl _)) (Int.le_refl _))).mono (by dsimp only; omega)
          | ok l k =>
            rw [h4] at hq
            obtain ⟨q1, q2, kf, q3⟩ := hq
            exact ⟨q1, by omega, kf, (hr.trans (.cons hc (.cons hw q3 (Int.le_refl _)) (Int.le_refl _))).mono (by dsimp only; omega)⟩
/-- Fields, behind the brace, no other brace. -/
theorem fields_sim (m : Nat) : ∀ (n i : Nat) (o : Open) (O : List Open) (rest : List Stp), 2 * (L.length - i) + 1 ≤ m → L.length - i + 2 ≤ n → i ≤ L.length → isT L [125] i = false → match fields L m n i o.kids with
    | .ok l j => j ≤ L.length ∧ i < j ∧ isT L [125] j = true ∧ ∃ kf, To L size 0 ⟨i, .m .field :: .more .field :: .word [125] :: rest, o :: O⟩ ⟨j, .word [125] :: rest, { o with kids := l, kf := kf } :: O⟩
    | .bad j => Fl L size 50 ⟨i, .m .field :: .more .field :: .word [125] :: rest, o :: O⟩ j
  | 0, i, o, O, rest, _, hn, _, _ => by omega
  | n + 1, i, o, O, rest, hm, hn, hi, hb => by
    simp only [fields, hb, Bool.false_eq_true, if_false]
    have hp := param_sim size hL .field kField (fun _ => rfl) (by decide) m i hm o O (.more .field :: .word [125] :: rest)
    cases h1 : param L m kField i with
    | bad j => rw [h1] at hp; exact hp.mono (by omega)
    | ok p j =>
      rw [h1] at hp
      obtain ⟨hj, hij, hr⟩ := hp
      simp only [Out.next]
      have hle := semi_le j hj
      rcases more_or size hL (j := j) .field rest (o.add p (tf L size i) :: O) with ⟨q1, q2⟩ | ⟨q1, q0, q2⟩ | ⟨q1, q0, q2⟩
      · have hs : ¬ (semiN L j = 0 ∧ isT L [125] j = false) := by
          rintro ⟨a, b⟩; rw [a, Nat.add_zero, b] at q1; cases q1
        rw [if_neg hs]
        obtain ⟨m', hm'⟩ : ∃ m, n = m + 1 := ⟨n - 1, by omega⟩
        rw [hm']
        simp only [fields, q1, if_true]
        exact ⟨hle, by omega, trivial, tf L size i, (hr.trans q2).mono (by omega)⟩
      · rw [q0, Nat.add_zero] at q1
        rw [if_pos ⟨q0, q1⟩]
        exact (hr.fl q2).mono (by omega)
      · rw [if_neg (by omega)]
        have hk := fields_sim m n (j + semiN L j) (o.add p (tf L size i)) O rest (by omega) (by omega) hle q1
        rw [show (o.add p (tf L size i)).kids = o.kids ++ [p] from rfl] at hk
        cases h2 : fields L m n (j + semiN L j) (o.kids ++ [p]) with
        | bad k => rw [h2] at hk; exact (hr.fl (q2.fl hk)).mono (by omega)
        | ok l k =>
          rw [h2] at hk
          obtain ⟨r1, r2, r3, kf, r4⟩ := hk
          exact ⟨r1, by omega, r3, kf, (hr.trans (q2.trans r4)).mono (by omega)⟩
theorem record_sim (n i : Nat) (hn : 8 * L.length + 10 ≤ n) (h1 : isT L kType i = true) (T : Open) (O : List Open) (rest : List Stp) : match record L n i with
    | .ok p j => j ≤ L.length ∧ i < j ∧ To L size (-50) ⟨i, .word kType :: .m .name :: .word kStruct :: .word [123] :: .lines .field :: .word [125] :: .m .fin :: rest, ⟨kType, [], tf L size i, [], 0⟩ :: T :: O⟩ ⟨j, rest, T.add p (tf L size i) :: O⟩
    | .bad j => Fl L size 60 ⟨i, .word kType :: .m .name :: .word kStruct :: .word [123] :: .lines .field :: .word [125] :: .m .fin :: rest, ⟨kType, [], tf L size i, [], 0⟩ :: T :: O⟩ j := by
  have hlt := isT_lt h1
  unfold record mustT
  rw [h1, if_pos rfl]
  simp only [Out.next]
  have hw := st_word size hL (by decide) (.m .name :: .word kStruct :: .word [123] :: .lines .field :: .word [125] :: .m .fin :: rest) (⟨kType, [], tf L size i, [], 0⟩ :: T :: O) h1
  unfold nameT
  cases h2 : comesT L 0 (i + 1) with
  | false =>
    rw [if_neg (by decide)]
    exact .cons hw (.now (st_name_bad size hL _ _ h2)) (by dsimp only; omega)
  | true =>
  have hlt2 := comesT_lt h2
  rw [if_pos rfl]
  simp only
  have hm := st_name size hL (.word kStruct :: .word [123] :: .lines .field :: .word [125] :: .m .fin :: rest) ⟨kType, [], tf L size i, [], 0⟩ (T :: O) h2
  cases h3 : isT L kStruct (i + 1 + 1) with
  | false =>
    rw [if_neg (by decide)]
    exact .cons hw (.cons hm (.now (st_word_bad size hL (by decide) _ _ h3)) (Int.le_refl _)) (by dsimp only; omega)
  | true =>
  have hlt3 := isT_lt h3
  rw [if_pos rfl]
  simp only
  have hw3 := st_word size hL (by decide) (.word [123] :: .lines .field :: .word [125] :: .m .fin :: rest) (⟨kType, textT L (i + 1), tf L size i, [], 0⟩ :: T :: O) h3
  cases h4 : isT L [123] (i + 1 + 1 + 1) with
  | false =>
    rw [if_neg (by decide)]
    exact .cons hw (.cons hm (.cons hw3 (.now (st_word_bad size hL (by decide) _ _ h4)) (Int.le_refl _)) (Int.le_refl _)) (by dsimp only; omega)
  | true =>
  have hlt4 := isT_lt h4
  rw [if_pos rfl]
  simp only
  have hw4 := st_word size hL (by decide) (.lines .field :: .word [125] :: .m .fin :: rest) (⟨kType, textT L (i + 1), tf L size i, [], 0⟩ :: T :: O) h4
  obtain ⟨u, hu⟩ : ∃ u, i + 1 + 1 + 1 + 1 = u := ⟨_, rfl⟩
  rw [hu] at hw4 ⊢
  have hl := st_lines size hL (i := u) .field (.word [125] :: .m .fin :: rest) (⟨kType, textT L (i + 1), tf L size i, [], 0⟩ :: T :: O)
  have hle : u + semiN L u ≤ L.length := semi_le u (by omega)
  obtain ⟨m, hm'⟩ : ∃ m, n = m + 1 := ⟨n - 1, by omega⟩
  cases h5 : isT L [125] (u + semiN L u) with
  | true =>
    have hlt5 := isT_lt h5
    rw [h5, if_pos rfl] at hl
    rw [show fields L n n (u + semiN L u) [] = .ok [] (u + semiN L u) by rw [hm']; simp only [fields, h5, if_true]]
    simp only
    rw [h5, if_pos rfl]
    have hw5 := st_word size hL (by decide) (.m .fin :: rest) (⟨kType, textT L (i + 1), tf L size i, [], 0⟩ :: T :: O) h5
    have hf := st_fin size rest kType (textT L (i + 1)) (tf L size i) 0 [] T O (by decide) (Nat.succ_pos _) hlt5
    refine ⟨hlt5, by omega, ?_⟩
    rw [tf_from hlt] at hw hm hw3 hw4 hl hw5 hf ⊢
    exact .cons hw (.cons hm (.cons hw3 (.cons hw4 (.cons hl (.cons hw5 (.one hf) (Int.le_refl _)) (Int.le_refl _)) (Int.le_refl _)) (Int.le_refl _)) (Int.le_refl _)) (by dsimp only; omega)
  | false =>
    rw [h5, if_neg (by decide)] at hl
    have hk := fields_sim size hL n n (u + semiN L u) ⟨kType, textT L (i + 1), tf L size i, [], 0⟩ (T :: O) (.m .fin :: rest) (by omega) (by omega) hle h5
    dsimp only at hk
    cases h6 : fields L n n (u + semiN L u) [] with
    | bad k => rw [h6] at hk; exact .cons hw (.cons hm (.cons hw3 (.cons hw4 (.cons hl hk (Int.le_refl _)) (Int.le_refl _)) (Int.le_refl _)) (Int.le_refl _)) (by dsimp only; omega)
    | ok l k =>
      rw [h6] at hk
      obtain ⟨r1, r2, r3, kf, r4⟩ := hk
      have hlt6 := isT_lt r3
      simp only
      rw [r3, if_pos rfl]
      have hw5 := st_word size hL (by decide) (.m .fin :: rest) (⟨kType, textT L (i + 1), tf L size i, l, kf⟩ :: T :: O) r3
      have hf := st_fin size rest kType (textT L (i + 1)) (tf L size i) kf l T O (by decide) (Nat.succ_pos _) hlt6
      refine ⟨hlt6, by omega, ?_⟩
      rw [tf_from hlt] at hw hm hw3 hw4 hl r4 hw5 hf ⊢
      exact .cons hw (.cons hm (.cons hw3 (.cons hw4 (.cons hl (r4.trans (.cons hw5 (.one hf) (Int.le_refl _))) (Int.le_refl _)) (Int.le_refl _)) (Int.le_refl _)) (Int.le_refl _)) (by dsimp only; omega)
theorem st_result {i : Nat} (R : List Stp) (a : Open) (O : List Open) (h0 : 0 < i) : stepS L size ⟨i, .m .result :: R, a :: O⟩ =
    if isT L [123] i then .go ⟨i, R, a.add (.mk kResult [] 0 0 []) (tf L size i) :: O⟩ else .go ⟨i, .m .typeOf :: .m .fin :: R, ⟨kResult, [], tf L size i, [], 0⟩ :: a :: O⟩ := by
  show execM L size .result ⟨i, R, a :: O⟩ = _
  simp only [execM]
  rw [isP_is size hL (by decide), if_neg (show ¬ i = 0 by omega)]; rfl
/-- The result, or none. -/
theorem result_sim (n i : Nat) (hn : 2 * L.length + 1 ≤ n) (h0 : 0 < i) (hi : i ≤ L.length) (T : Open) (O : List Open) (rest : List Stp) : match (if isT L [123] i then Out.ok [] i else (typed L n i).next fun x q => .ok [x] q : Out (List Pt)) with
    | .ok rs j => j ≤ L.length ∧ i ≤ j ∧ To L size 2 ⟨i, .m .result :: rest, T :: O⟩ ⟨j, rest, T.add (allP kResult rs) (tf L size i) :: O⟩
    | .bad j => Fl L size 20 ⟨i, .m .result :: rest, T :: O⟩ j := by
  have hr := st_result size hL (i := i) rest T O h0
  cases h1 : isT L [123] i with
  | true =>
    rw [h1, if_pos rfl] at hr
    rw [if_pos rfl]
    exact ⟨hi, Nat.le_refl _, .last hr (by dsimp only; omega)⟩
  | false =>
    rw [h1, if_neg (by decide)] at hr
    rw [if_neg (by decide)]
    have hp := typed_sim size hL n i (by omega) hi ⟨kResult, [], tf L size i, [], 0⟩ (T :: O) (.m .fin :: rest)
    cases h2 : typed L n i with
    | bad j => rw [h2] at hp; exact .cons hr hp (by dsimp only; omega)
    | ok x j =>
      rw [h2] at hp
      obtain ⟨hj, hij, hx⟩ := hp
      have hf := st_finP (L := L) size rest kResult (tf L size i) (tf L size i) [x] T O (.inr rfl) (by omega : 0 < j)
      exact ⟨hj, by omega, .cons hr (hx.trans (.one hf)) (by dsimp only; omega)⟩
theorem func_sim (n i : Nat) (hn : 8 * L.length + 10 ≤ n) (h1 : isT L kFunc i = true) (T : Open) (O : List Open) (rest : List Stp) : match func' L n i with
    | .ok p j => j ≤ L.length ∧ i < j ∧ To L size (-50) ⟨i, .word kFunc :: .m .name :: .m .params :: .m .result :: .m .block :: .m .fin :: rest, ⟨kFunc, [], tf L size i, [], 0⟩ :: T :: O⟩ ⟨j, rest, T.add p (tf L size i) :: O⟩
    | .bad j => Fl L size 60 ⟨i, .word kFunc :: .m .name :: .m .params :: .m .result :: .m .block :: .m .fin :: rest, ⟨kFunc, [], tf L size i, [], 0⟩ :: T :: O⟩ j := by
  have hlt := isT_lt h1
  unfold func' mustT
  rw [h1, if_pos rfl]
  simp only [Out.next]
  have hw := st_word size hL (by decide) (.m .name :: .m .params :: .m .result :: .m .block :: .m .fin :: rest) (⟨kFunc, [], tf L size i, [], 0⟩ :: T :: O) h1
  unfold nameT
  cases h2 : comesT L 0 (i + 1) with
  | false =>
    rw [if_neg (by decide)]
    exact .cons hw (.now (st_name_bad size hL _ _ h2)) (by dsimp only; omega)
  | true =>
  have hlt2 := comesT_lt h2
  rw [if_pos rfl]
  simp only
  have hm := st_name size hL (.m .params :: .m .result :: .m .block :: .m .fin :: rest) ⟨kFunc, [], tf L size i, [], 0⟩ (T :: O) h2
  have ho := st_opened size hL (k := .params) (kd := kParams) (l := [.word [40], .commas .param, .word [41], .m .fin]) (fun s => rfl) (i := i + 1 + 1) (.m .result :: .m .block :: .m .fin :: rest) (⟨kFunc, textT L (i + 1), tf L size i, [], 0⟩ :: T :: O)
  cases h3 : isT L [40] (i + 1 + 1) with
  | false =>
    rw [if_neg (by decide)]
    exact .cons hw (.cons hm (.cons ho (.now (st_word_bad size hL (by decide) _ _ h3)) (Int.le_refl _)) (Int.le_refl _)) (by dsimp only; omega)
  | true =>
  have hlt3 := isT_lt h3
  rw [if_pos rfl]
  simp only
  have hw3 := st_word size hL (by decide) (.commas .param :: .word [41] :: .m .fin :: .m .result :: .m .block :: .m .fin :: rest) (⟨kParams, [], tf L size (i + 1 + 1), [], 0⟩ :: ⟨kFunc, textT L (i + 1), tf L size i, [], 0⟩ :: T :: O) h3
  obtain ⟨u, hu⟩ : ∃ u, i + 1 + 1 + 1 = u := ⟨_, rfl⟩
  rw [hu] at hw3 ⊢
  have hc := st_commas size hL (i := u) .param (.word [41] :: .m .fin :: .m .result :: .m .block :: .m .fin :: rest) (⟨kParams, [], tf L size (i + 1 + 1), [], 0⟩ :: ⟨kFunc, textT L (i + 1), tf L size i, [], 0⟩ :: T :: O)
  -- the params
  have hps : match (if isT L [41] u then Out.ok [] (u + 1) else params L n n u [] : Out (List Pt)) with
      | .ok ps j => j ≤ L.length ∧ u < j ∧ To L size 2 ⟨u, .commas .param :: .word [41] :: .m .fin :: .m .result :: .m .block :: .m .fin :: rest, ⟨kParams, [], tf L size (i + 1 + 1), [], 0⟩ :: ⟨kFunc, textT L (i + 1), tf L size i, [], 0⟩ :: T :: O⟩ ⟨j, .m .result :: .m .block :: .m .fin :: rest, ⟨kFunc, textT L (i + 1), tf L size i, [allP kParams ps], tf L size (i + 1 + 1)⟩ :: T :: O⟩
      | .bad j => Fl L size 51 ⟨u, .commas .param :: .word [41] :: .m .fin :: .m .result :: .m .block :: .m .fin :: rest, ⟨kParams, [], tf L size (i + 1 + 1), [], 0⟩ :: ⟨kFunc, textT L (i + 1), tf L size i, [], 0⟩ :: T :: O⟩ j := by
    cases h4 : isT L [41] u with
    | true =>
      have hlt4 := isT_lt h4
      rw [h4, if_pos rfl] at hc
      rw [if_pos rfl]
      have hw4 := st_word size hL (by decide) (.m .fin :: .m .result :: .m .block :: .m .fin :: rest) (⟨kParams, [], tf L size (i + 1 + 1), [], 0⟩ :: ⟨kFunc, textT L (i + 1), tf L size i, [], 0⟩ :: T :: O) h4
      have hf := st_finP (L := L) size (.m .result :: .m .block :: .m .fin :: rest) kParams (tf L size (i + 1 + 1)) 0 [] ⟨kFunc, textT L (i + 1), tf L size i, [], 0⟩ (T :: O) (.inl rfl) (Nat.succ_pos u)
      exact ⟨hlt4, by omega, .cons hc (.cons hw4 (.one hf) (Int.le_refl _)) (by dsimp only; omega)⟩
    | false =>
      rw [h4, if_neg (by decide)] at hc
      rw [if_neg (by decide)]
      have hk := params_sim size hL n n u ⟨kParams, [], tf L size (i + 1 + 1), [], 0⟩ (⟨kFunc, textT L (i + 1), tf L size i, [], 0⟩ :: T :: O) (.m .fin :: .m .result :: .m .block :: .m .fin :: rest) (by omega) (by omega) (by omega)
      dsimp only at hk
      cases h5 : params L n n u [] with
      | bad j => rw [h5] at hk; exact .cons hc hk (by dsimp only; omega)
      | ok ps j =>
        rw [h5] at hk
        obtain ⟨q1, q2, kf, q3⟩ := hk
        have hf := st_finP (L := L) size (.m .result :: .m .block :: .m .fin :: rest) kParams (tf L size (i + 1 + 1)) kf ps ⟨kFunc, textT L (i + 1), tf L size i, [], 0⟩ (T :: O) (.inl rfl) (by omega : 0 < j)
        exact ⟨q1, by omega, .cons hc (q3.trans (.one hf)) (by dsimp only; omega)⟩
  cases h4 : (if isT L [41] u then Out.ok [] (u + 1) else params L n n u [] : Out (List Pt)) with
  | bad j => rw [h4] at hps; exact .cons hw (.cons hm (.cons ho (.cons hw3 hps (Int.le_refl _)) (Int.le_refl _)) (Int.le_refl _)) (by dsimp only; omega)
  | ok ps o =>
    rw [h4] at hps
    obtain ⟨p1, p2, p3⟩ := hps
    simp only
    have hrs := result_sim size hL n o (by omega) (by omega) p1 ⟨kFunc, textT L (i + 1), tf L size i, [allP kParams ps], tf L size (i + 1 + 1)⟩ (T :: O) (.m .block :: .m .fin :: rest)
    have fin : ∀ (rs : List Pt) (q : Nat), q ≤ L.length → o ≤ q → To L size 2 ⟨o, .m .result :: .m .block :: .m .fin :: rest, ⟨kFunc, textT L (i + 1), tf L size i, [allP kParams ps], tf L size (i + 1 + 1)⟩ :: T :: O⟩ ⟨q, .m .block :: .m .fin :: rest, Open.add ⟨kFunc, textT L (i + 1), tf L size i, [allP kParams ps], tf L size (i + 1 + 1)⟩ (allP kResult rs) (tf L size o) :: T :: O⟩ →
        match (block L n q).next fun b r => Go.Proofs.YtnjhmjkonmmomaaDoor.T.part L kFunc (textT L (i + 1)) (fromT L i) [allP kParams ps, allP kResult rs, b] r with
        | .ok p j => j ≤ L.length ∧ i < j ∧ To L size (-50) ⟨i, .word kFunc :: .m .name :: .m .params :: .m .result :: .m .block :: .m .fin :: rest, ⟨kFunc, [], tf L size i, [], 0⟩ :: T :: O⟩ ⟨j, rest, T.add p (tf L size i) :: O⟩
        | .bad j => Fl L size 60 ⟨i, .word kFunc :: .m .name :: .m .params :: .m .result :: .m .block :: .m .fin :: rest, ⟨kFunc, [], tf L size i, [], 0⟩ :: T :: O⟩ j := by
      intro rs q r1 r2 r3
      have hb := (goodS size hL n).block q (by omega) r1 (Open.add ⟨kFunc, textT L (i + 1), tf L size i, [allP kParams ps], tf L size (i + 1 + 1)⟩ (allP kResult rs) (tf L size o)) (T :: O) (.m .fin :: rest)
      cases h6 : block L n q with
      | bad j => rw [h6] at hb; exact .cons hw (.cons hm (.cons ho (.cons hw3 (p3.fl (r3.fl hb)) (Int.le_refl _)) (Int.le_refl _)) (Int.le_refl _)) (by dsimp only; omega)
      | ok b j =>
        rw [h6] at hb
        obtain ⟨b1, b2, b3⟩ := hb
        have hf := st_fin size rest kFunc (textT L (i + 1)) (tf L size i) (tf L size q) [allP kParams ps, allP kResult rs, b] T O (by decide) (by omega) b1
        refine ⟨b1, by omega, ?_⟩
        rw [tf_from hlt] at hw hm ho hw3 p3 r3 b3 hf ⊢
        exact .cons hw (.cons hm (.cons ho (.cons hw3 (p3.trans (r3.trans (b3.trans (.one hf)))) (Int.le_refl _)) (Int.le_refl _)) (Int.le_refl _)) (by dsimp only; omega)
    cases h5 : isT L [123] o with
    | true =>
      rw [h5, if_pos rfl] at hrs
      rw [if_pos rfl]
      exact fin [] o hrs.1 hrs.2.1 hrs.2.2
    | false =>
      rw [h5, if_neg (by decide)] at hrs
      rw [if_neg (by decide)]
      cases h6 : typed L n o with
      | bad j => rw [h6] at hrs; exact .cons hw (.cons hm (.cons ho (.cons hw3 (p3.fl hrs) (Int.le_refl _)) (Int.le_refl _)) (Int.le_refl _)) (by dsimp only; omega)
      | ok x q => rw [h6] at hrs; exact fin [x] q hrs.1 hrs.2.1 hrs.2.2
theorem st_decl {i : Nat} (R : List Stp) (O : List Open) : stepS L size ⟨i, .m .decl :: R, O⟩ =
    if isT L kFunc i then .go ⟨i, .word kFunc :: .m .name :: .m .params :: .m .result :: .m .block :: .m .fin :: R, ⟨kFunc, [], tf L size i, [], 0⟩ :: O⟩
    else if isT L kVar i then .go ⟨i, .word kVar :: .m .name :: .m .typeOf :: .m .fin :: R, ⟨kVar, [], tf L size i, [], 0⟩ :: O⟩
    else if isT L kType i then .go ⟨i, .word kType :: .m .name :: .word kStruct :: .word [123] :: .lines .field :: .word [125] :: .m .fin :: R, ⟨kType, [], tf L size i, [], 0⟩ :: O⟩
    else .wrong := by
  show execM L size .decl ⟨i, R, O⟩ = _
  simp only [execM]
  rw [isP_is size hL (by decide), isP_is size hL (by decide), isP_is size hL (by decide)]; rfl
theorem decl_sim (n : Nat) (hn : 8 * L.length + 10 ≤ n) (T : Open) (O : List Open) (rest : List Stp) : match decl L n with
    | .ok p j => j ≤ L.length ∧ 0 < j ∧ To L size 0 ⟨0, .m .decl :: rest, T :: O⟩ ⟨j, rest, T.add p (tf L size 0) :: O⟩
    | .bad j => Fl L size 70 ⟨0, .m .decl :: rest, T :: O⟩ j := by
  have h0 := st_decl size hL (i := 0) rest (T :: O)
  unfold decl
  by_cases h1 : isT L kFunc 0 = true
  · rw [if_pos h1]
    rw [h1, if_pos rfl] at h0
    have hf := func_sim size hL n 0 hn h1 T O rest
    cases h2 : func' L n 0 with
    | bad j => rw [h2] at hf; exact .cons h0 hf (by dsimp only; omega)
    | ok p j => rw [h2] at hf; exact ⟨hf.1, hf.2.1, .cons h0 hf.2.2 (by dsimp only; omega)⟩
  rw [if_neg h1]
  have h1f : isT L kFunc 0 = false := by simpa using h1
  by_cases h2 : isT L kVar 0 = true
  · rw [if_pos h2]
    have hv := variable_sim size hL .decl (fun i R O h => by rw [st_decl size hL, h, not_both h (by decide), if_neg (by decide), if_pos rfl]) n 0 (by omega) h2 T O rest
    cases h3 : variable' L n 0 with
    | bad j => rw [h3] at hv; exact hv.mono (by omega)
    | ok p j => rw [h3] at hv; exact ⟨hv.1, hv.2.1, hv.2.2.mono (by omega)⟩
  rw [if_neg h2]
  have h2f : isT L kVar 0 = false := by simpa using h2
  by_cases h3 : isT L kType 0 = true
  · rw [if_pos h3]
    rw [h1f, if_neg (by decide), h2f, if_neg (by decide), h3, if_pos rfl] at h0
    have hf := record_sim size hL n 0 hn h3 T O rest
    cases h4 : record L n 0 with
    | bad j => rw [h4] at hf; exact .cons h0 hf (by dsimp only; omega)
    | ok p j => rw [h4] at hf; exact ⟨hf.1, hf.2.1, .cons h0 hf.2.2 (by dsimp only; omega)⟩
  rw [if_neg h3]
  have h3f : isT L kType 0 = false := by simpa using h3
  rw [h1f, if_neg (by decide), h2f, if_neg (by decide), h3f, if_neg (by decide)] at h0
  exact (Fl.now h0).mono (by omega)
def root : Open := ⟨[], [], 0, [], 0⟩
def begun : St := ⟨0, [.m .decl, .m .semis, .m .noMore], [root]⟩
omit hL in
/-- No word is taken behind the last one. -/
def Okay (L : List TokP) (s : St) : Prop := s.i ≤ L.length ∧ ∀ x, .word x ∈ s.todo → x ∈ special
omit hL in
theorem okay_push {i j : Nat} {todo l : List Stp} {O O' : List Open} (h : Okay L ⟨i, todo, O⟩) (hj : j ≤ L.length) (hl : ∀ x, .word x ∈ l → x ∈ special) : Okay L ⟨j, l ++ todo, O'⟩ := by
  refine ⟨hj, fun x hx => ?_⟩
  rcases List.mem_append.1 hx with hx | hx
  · exact hl x hx
  · exact h.2 x hx
omit hL in
theorem okay_opt {i j : Nat} {todo l : List Stp} {O : List Open} {o : Option (List Open)} {s : St} (h : Okay L ⟨i, todo, O⟩) (hj : j ≤ L.length) (hl : ∀ x, .word x ∈ l → x ∈ special) (hs : ofOpt j (l ++ todo) o = .go s) : Okay L s := by
  cases o with
  | none => cases hs
  | some O' => cases hs; exact okay_push h hj hl
theorem okay_step {s s1 : St} (h : Okay L s) (hs : stepS L size s = .go s1) : Okay L s1 := by
  obtain ⟨i, todo, O⟩ := s
  cases todo with
  | nil => cases hs
  | cons x R =>
    have hi : i ≤ L.length := h.1
    have h0 : Okay L ⟨i, R, O⟩ := ⟨hi, fun x hx => h.2 x (List.mem_cons_of_mem _ hx)⟩
    have hle := semi_le i hi
    have hsp : ∀ {l : List By}, (∀ y ∈ l, y ∈ special) → ∀ {y : By}, y ∈ l → y ∈ special := fun h _ hy => h _ hy
    have hs : exec L size x ⟨i, R, O⟩ = .go s1 := hs
    cases x with
    | word x =>
      have hx := h.2 x List.mem_cons_self
      simp only [exec] at hs
      rw [isP_is size hL hx] at hs
      split at hs
      · rename_i h1; cases hs; exact okay_push (l := []) h0 (isT_lt h1) (by simp)
      · cases hs
    | lines k =>
      simp only [exec] at hs
      split at hs
      · cases hs; exact okay_push (l := []) h0 hle (by simp)
      · cases hs; exact okay_push (l := [.m k, .more k]) h0 hle (by simp)
    | more k =>
      simp only [exec] at hs
      split at hs
      · cases hs; exact okay_push h0 hi (by simp)
      · cases hs; exact h0
    | commas k =>
      simp only [exec] at hs
      split at hs
      · cases hs; exact h0
      · cases hs; exact okay_push h0 hi (by simp)
    | moreC k =>
      simp only [exec] at hs
      split at hs
      · cases hs; exact okay_push h0 hi (by simp; decide)
      · cases hs; exact h0
    | m k =>
      have hs : execM L size k ⟨i, R, O⟩ = .go s1 := hs
      have hop : ∀ {kd : By} {l : List Stp}, (∀ x, .word x ∈ l → x ∈ special) → opened L size kd ⟨i, R, O⟩ l = .go s1 → Okay L s1 := fun hl h => by cases h; exact okay_push h0 hi hl
      have hpu : ∀ {l : List Stp}, (∀ x, .word x ∈ l → x ∈ special) → pushed ⟨i, R, O⟩ l = .go s1 → Okay L s1 := fun hl h => by cases h; exact okay_push h0 hi hl
      have hvar : varDecl L size ⟨i, R, O⟩ = .go s1 → Okay L s1 := hop (by simp; decide)
      have hif : ifStmt L size ⟨i, R, O⟩ = .go s1 → Okay L s1 := hop (by simp; decide)
      have hbl : blockM L size ⟨i, R, O⟩ = .go s1 → Okay L s1 := hop (by simp; decide)
      have hex : exprM ⟨i, R, O⟩ = .go s1 → Okay L s1 := hpu (by simp)
      cases k with
      | decl => simp only [execM] at hs; repeat' split at hs
                · exact hop (by simp; decide) hs
                · exact hvar hs
                · exact hop (by simp; decide) hs
                · cases hs
      | semis => cases hs; exact okay_push (l := []) h0 hle (by simp)
      | noMore => simp only [execM] at hs; split at hs; cases hs; exact h0; cases hs
      | name =>
        simp only [execM] at hs
        rw [isW_is size hL (by decide)] at hs
        split at hs
        · rename_i h1; exact okay_opt (l := []) h0 (comesT_lt h1) (by simp) hs
        · cases hs
      | params => exact hop (by simp; decide) hs
      | result =>
        simp only [execM] at hs; repeat' split at hs
        · cases hs
        · cases hs; exact okay_push (l := []) h0 hi (by simp)
        · cases hs; exact okay_push (l := []) h0 hi (by simp)
        · exact hop (by simp) hs
      | block => exact hbl hs
      | fin =>
        simp only [execM, finM] at hs
        split at hs
        · cases hs
        · exact okay_opt (l := []) h0 hi (by simp) hs
      | field => exact hop (by simp) hs
      | param => exact hop (by simp) hs
      | typeOf =>
        simp only [execM] at hs; repeat' split at hs
        · exact hop (by simp; decide) hs
        · exact hop (by simp; decide) hs
        · exact hop (by simp) hs
      | stmt =>
        simp only [execM] at hs; repeat' split at hs
        · exact hvar hs
        · exact hop (by simp; decide) hs
        · exact hif hs
        · exact hop (by simp; decide) hs
        · exact hbl hs
        · exact hop (by simp) hs
      | returned =>
        simp only [execM] at hs; split at hs
        · exact hex hs
        · cases hs; exact h0
      | expr => exact hex hs
      | assigned =>
        simp only [execM] at hs
        rw [isP_is size hL (by decide), isP_is size hL (by decide)] at hs
        repeat' split at hs
        · rename_i h1; exact okay_opt (l := [.m .pre, .m .between]) h0 (isT_lt h1) (by simp) hs
        · rename_i h1; exact okay_opt (l := [.m .pre, .m .between]) h0 (isT_lt h1) (by simp) hs
        · cases hs; exact h0
      | otherwise =>
        simp only [execM] at hs; split at hs
        · exact hpu (by simp; decide) hs
        · cases hs; exact h0
      | pre =>
        simp only [execM] at hs; split at hs
        · exact hop (by simp) hs
        · exact hpu (by simp) hs
      | between =>
        simp only [execM, betweenM] at hs
        repeat' split at hs
        · cases hs
        · cases hs
        · exact okay_opt (l := [.m .text, .m .pre, .m .between]) h0 hi (by simp) hs
        · cases hs; exact okay_push (l := []) h0 hi (by simp)
      | ifOrBlock =>
        simp only [execM] at hs; split at hs
        · exact hif hs
        · exact hbl hs
      | text =>
        simp only [execM] at hs
        split at hs
        · rename_i h1; exact okay_opt (l := []) h0 h1 (by simp) hs
        · cases hs
      | behind =>
        simp only [execM] at hs; repeat' split at hs
        · exact okay_opt (l := [.word [46], .m .name, .m .fin, .m .behind]) h0 hi (by simp; decide) hs
        · exact okay_opt (l := [.word [91], .m .expr, .word [93], .m .fin, .m .behind]) h0 hi (by simp; decide) hs
        · cases hs; exact h0
      | operand =>
        simp only [execM] at hs; repeat' split at hs
        · exact hop (by simp) hs
        · exact hop (by simp) hs
        · exact hop (by simp) hs
        · exact hop (by simp; decide) hs
      | called =>
        simp only [execM] at hs
        rw [isP_is size hL (by decide)] at hs
        split at hs
        · rename_i h1
          have hlt := isT_lt h1
          split at hs
          · cases hs
          · repeat' split at hs
            · cases hs; exact okay_push (l := [.m .typeOf, .word [41]]) h0 hlt (by simp; decide)
            · cases hs; exact okay_push (l := [.m .typeOf, .word [44], .m .expr, .word [41]]) h0 hlt (by simp; decide)
            · cases hs; exact okay_push (l := [.commas .expr, .word [41]]) h0 hlt (by simp; decide)
        · cases hs; exact h0
theorem okay_goes {n : Nat} {s s1 : St} (h : Goes L size n s s1) (h0 : Okay L s) : Okay L s1 := by
  induction h with
  | refl n s => exact h0
  | step h1 _ ih => exact ih (okay_step size hL h0 h1)
omit hL in
theorem okay_begun : Okay L begun := ⟨Nat.zero_le _, by simp [begun]⟩
/-- A whole run: the part, or where a word is wrong. -/
theorem run_sim (n : Nat) (hn : 8 * L.length + 10 ≤ n) : match decl L n with
    | .ok p i => if i + semiN L i < L.length then Falls L size (100 * L.length + 100) begun (i + semiN L i)
        else i + semiN L i = L.length ∧ ∃ f, Goes L size (100 * L.length + 100) begun ⟨L.length, [], [root.add p f]⟩
    | .bad i => Falls L size (100 * L.length + 100) begun i := by
  have hd := decl_sim size hL n hn root [] [.m .semis, .m .noMore]
  have falls : ∀ {j : Nat} {c : Int}, Fl L size c begun j → c ≤ 80 → j ≤ L.length → Falls L size (100 * L.length + 100) begun j := by
    rintro j c ⟨m, h1, s', h2, h3⟩ hc hj
    have h4 : (begun.i : Int) = 0 := rfl
    exact ⟨s', h2.mono (by omega), h3⟩
  cases h1 : decl L n with
  | bad j =>
    rw [h1] at hd
    obtain ⟨m, g1, s', g2, g3, g4⟩ := hd
    have h4 : ((⟨0, [.m .decl, .m .semis, .m .noMore], [root]⟩ : St).i : Int) = 0 := rfl
    have hj : j ≤ L.length := by rw [← g4]; exact (okay_goes size hL g2 okay_begun).1
    exact falls (c := 70) ⟨m, g1, s', g2, g3, g4⟩ (by omega) hj
  | ok p i =>
    rw [h1] at hd
    obtain ⟨hj, hij, ht⟩ := hd
    have hle := semi_le i hj
    have hs : stepS L size ⟨i, [.m .semis, .m .noMore], root.add p (tf L size 0) :: []⟩ = .go ⟨i + semiN L i, [.m .noMore], [root.add p (tf L size 0)]⟩ := rfl
    have hm : stepS L size ⟨i + semiN L i, [.m .noMore], [root.add p (tf L size 0)]⟩ = if decide (L.length ≤ i + semiN L i) then .go ⟨i + semiN L i, [], [root.add p (tf L size 0)]⟩ else .wrong := by
      show execM L size .noMore ⟨i + semiN L i, [], [root.add p (tf L size 0)]⟩ = _
      simp only [execM]
      rw [isW_end size hL]
    simp only
    by_cases h2 : i + semiN L i < L.length
    · rw [if_pos h2]
      rw [decide_eq_false (by omega), if_neg (by decide)] at hm
      exact falls (c := 1) ((ht.fl (.cons hs (.now hm) (Int.le_refl _))).mono (by dsimp only; omega)) (by omega) (by omega)
    · rw [if_neg h2]
      have he : i + semiN L i = L.length := by omega
      rw [decide_eq_true (by omega), if_pos rfl, he] at hm
      rw [he] at hs
      refine ⟨he, tf L size 0, ?_⟩
      obtain ⟨m, g1, g2⟩ := (ht.trans (.cons hs (.one hm) (Int.le_refl _)) : To L size _ _ _)
      dsimp only at g1
      exact g2.mono (by omega)
end
end Go.Proofs.YtnjhmjkonmmomaaDoor.K
end
/- KBnd: How many things stand in the reader's lists: at most so many for each step. -/
section
namespace Go.Proofs.YtnjhmjkonmmomaaDoor.K
open Go.Lib Go.Proofs.YtnjhmjkonmmomaaDoor.U Go.Proofs.YtnjhmjkonmmomaaDoor.S Go.Proofs.YtnjhmjkonmmomaaDoor.T

/-- Behind n steps. -/
structure Sz (n : Nat) (s : St) : Prop where
  todo : s.todo.length ≤ 6 * n + 3
  opn : s.opn.length ≤ n + 1
  some' : s.opn ≠ []
  kids : ∀ o ∈ s.opn, o.kids.length ≤ n
theorem sz_begun : Sz 0 begun := ⟨by simp [begun], by simp [begun], by simp [begun], fun o ho => by
  simp only [begun, List.mem_singleton] at ho
  subst ho
  simp [root]⟩
section
variable {n i j : Nat} {R l : List Stp} {O O' : List Open} {s1 : St}
theorem sz_push {k : Nat} (_h : Sz n ⟨i, R, O⟩) (hl : l.length ≤ 7) (h1 : O'.length ≤ n + 2) (h2 : O' ≠ []) (h3 : ∀ o ∈ O', o.kids.length ≤ n + 1) (hk : R.length + 1 ≤ 6 * n + 3) : Sz (n + 1) ⟨k, l ++ R, O'⟩ :=
  ⟨by rw [show (⟨k, l ++ R, O'⟩ : St).todo = l ++ R from rfl, List.length_append]; omega, h1, h2, h3⟩
theorem sz_same {k : Nat} (h : Sz n ⟨i, R, O⟩) (hl : l.length ≤ 7) (hk : R.length + 1 ≤ 6 * n + 3) : Sz (n + 1) ⟨k, l ++ R, O⟩ :=
  sz_push h hl (by have := h.opn; show O.length ≤ _; exact Nat.le_succ_of_le this) h.some' (fun o ho => Nat.le_succ_of_le (h.kids o ho)) hk
theorem sz_open {k : Nat} {o : Open} (h : Sz n ⟨i, R, O⟩) (ho : o.kids.length ≤ 1) (hl : l.length ≤ 7) (hk : R.length + 1 ≤ 6 * n + 3) : Sz (n + 1) ⟨k, l ++ R, o :: O⟩ :=
  sz_push h hl (by have : O.length ≤ n + 1 := h.opn; rw [List.length_cons]; omega) (by simp) (fun q hq => by
    rcases List.mem_cons.1 hq with rfl | hq
    · omega
    · exact Nat.le_succ_of_le (h.kids q hq)) hk
theorem text_kids {t : By} (h : textO t O = some O') : O'.length = O.length ∧ O' ≠ [] ∧ ∀ q ∈ O', ∃ o ∈ O, q.kids = o.kids := by
  cases O with
  | nil => cases h
  | cons o r =>
    cases h
    refine ⟨rfl, by simp, fun q hq => ?_⟩
    rcases List.mem_cons.1 hq with rfl | hq
    · exact ⟨o, List.mem_cons_self, rfl⟩
    · exact ⟨q, List.mem_cons_of_mem _ hq, rfl⟩
theorem kind_kids {t : By} (h : kindO t O = some O') : O'.length = O.length ∧ O' ≠ [] ∧ ∀ q ∈ O', ∃ o ∈ O, q.kids = o.kids := by
  cases O with
  | nil => cases h
  | cons o r =>
    cases h
    refine ⟨rfl, by simp, fun q hq => ?_⟩
    rcases List.mem_cons.1 hq with rfl | hq
    · exact ⟨o, List.mem_cons_self, rfl⟩
    · exact ⟨q, List.mem_cons_of_mem _ hq, rfl⟩
theorem close_kids {e : Int} (h : closeO e O = some O') (hk : ∀ o ∈ O, o.kids.length ≤ n) : O'.length ≤ O.length ∧ O' ≠ [] ∧ ∀ q ∈ O', q.kids.length ≤ n + 1 := by
  match O, h with
  | o :: a :: r, h =>
    unfold closeO at h
    dsimp only at h
    cases hc : o.close e with
    | none => rw [hc] at h; cases h
    | some p =>
      rw [hc] at h
      cases h
      refine ⟨by simp, by simp, fun q hq => ?_⟩
      rcases List.mem_cons.1 hq with rfl | hq
      · have h1 := hk a (List.mem_cons_of_mem _ List.mem_cons_self)
        show (a.kids ++ [p]).length ≤ _
        rw [List.length_append]; exact Nat.succ_le_succ h1
      · exact Nat.le_succ_of_le (hk q (List.mem_cons_of_mem _ (List.mem_cons_of_mem _ hq)))
theorem settle_kids {e s : Int} : ∀ (r : List Open) (o : Open), settle e s o r = some O' → o.kids.length ≤ n + 1 → (∀ q ∈ r, q.kids.length ≤ n) → O'.length ≤ r.length + 1 ∧ O' ≠ [] ∧ ∀ q ∈ O', q.kids.length ≤ n + 1
  | [], o, h, h1, _ => by
    unfold settle at h
    split at h
    · cases h
    · cases h
      exact ⟨Nat.le_refl _, by simp, fun q hq => by rw [List.mem_singleton.1 hq]; exact h1⟩
  | a :: r, o, h, h1, h2 => by
    unfold settle at h
    split at h
    · have h3 := settle_kids r _ h (by
        show (a.kids ++ [_]).length ≤ _
        rw [List.length_append]; exact Nat.succ_le_succ (h2 a List.mem_cons_self)) (fun q hq => h2 q (List.mem_cons_of_mem _ hq))
      exact ⟨Nat.le_trans h3.1 (by simp), h3.2⟩
    · cases h
      refine ⟨by simp, by simp, fun q hq => ?_⟩
      rcases List.mem_cons.1 hq with rfl | hq
      · exact h1
      · exact Nat.le_succ_of_le (h2 q hq)
theorem wrap_kids {k : By} (h : wrapO k O = some O') (hk : ∀ o ∈ O, o.kids.length ≤ n) (hn : 1 ≤ n) : O'.length = O.length + 1 ∧ O' ≠ [] ∧ ∀ q ∈ O', q.kids.length ≤ n := by
  cases O with
  | nil => cases h
  | cons a r =>
    unfold wrapO at h
    dsimp only at h
    cases hc : a.kids.getLast? with
    | none => rw [hc] at h; cases h
    | some p =>
      rw [hc] at h
      cases h
      refine ⟨by simp, by simp, fun q hq => ?_⟩
      rcases List.mem_cons.1 hq with rfl | hq
      · exact hn
      · rcases List.mem_cons.1 hq with rfl | hq
        · show a.kids.dropLast.length ≤ n
          rw [List.length_dropLast]; exact Nat.le_trans (Nat.sub_le _ _) (hk a List.mem_cons_self)
        · exact hk q (List.mem_cons_of_mem _ hq)
theorem sz_opt {k : Nat} {o : Option (List Open)} (hs : ofOpt k (l ++ R) o = .go s1) (hl : l.length ≤ 7) (hk : R.length + 1 ≤ 6 * n + 3) (ho : ∀ O', o = some O' → O'.length ≤ n + 2 ∧ O' ≠ [] ∧ ∀ q ∈ O', q.kids.length ≤ n + 1) : Sz (n + 1) s1 := by
  cases o with
  | none => cases hs
  | some O' =>
    cases hs
    obtain ⟨h1, h2, h3⟩ := ho O' rfl
    exact ⟨by rw [show (⟨k, l ++ R, O'⟩ : St).todo = l ++ R from rfl, List.length_append]; omega, h1, h2, h3⟩
end
variable {L : List TokP} {size : Nat}
theorem sz_step {n : Nat} {s s1 : St} (h : Sz n s) (hs : stepS L size s = .go s1) : Sz (n + 1) s1 := by
  obtain ⟨i, todo, O⟩ := s
  cases todo with
  | nil => cases hs
  | cons x R =>
    have h0 : Sz n ⟨i, R, O⟩ := ⟨Nat.le_trans (Nat.le_succ _) h.todo, h.opn, h.some', h.kids⟩
    have hk : R.length + 1 ≤ 6 * n + 3 := h.todo
    have hsame : ∀ k, Sz (n + 1) ⟨k, R, O⟩ := fun k => sz_same (l := []) h0 (by simp) hk
    have hop : ∀ {kd : By} {l : List Stp}, l.length ≤ 7 → opened L size kd ⟨i, R, O⟩ l = .go s1 → Sz (n + 1) s1 := fun hl h => by cases h; exact sz_open h0 (by simp) hl hk
    have hpu : ∀ {l : List Stp}, l.length ≤ 7 → pushed ⟨i, R, O⟩ l = .go s1 → Sz (n + 1) s1 := fun hl h => by cases h; exact sz_same h0 hl hk
    have hvar : varDecl L size ⟨i, R, O⟩ = .go s1 → Sz (n + 1) s1 := hop (by simp)
    have hif : ifStmt L size ⟨i, R, O⟩ = .go s1 → Sz (n + 1) s1 := hop (by simp)
    have hbl : blockM L size ⟨i, R, O⟩ = .go s1 → Sz (n + 1) s1 := hop (by simp)
    have hex : exprM ⟨i, R, O⟩ = .go s1 → Sz (n + 1) s1 := hpu (by simp)
    have htx : ∀ {t : By} {l : List Stp}, l.length ≤ 7 → ofOpt (i + 1) (l ++ R) (textO t O) = .go s1 → Sz (n + 1) s1 := fun hl h => sz_opt h hl hk (fun O' hO => by
      obtain ⟨h1, h2, h3⟩ := text_kids hO
      exact ⟨by rw [h1]; exact Nat.le_succ_of_le h0.opn, h2, fun q hq => by obtain ⟨o, ho, e⟩ := h3 q hq; rw [e]; exact Nat.le_succ_of_le (h0.kids o ho)⟩)
    have hkd : ∀ {t : By} {l : List Stp}, l.length ≤ 7 → ofOpt (i + 1) (l ++ R) (kindO t O) = .go s1 → Sz (n + 1) s1 := fun hl h => sz_opt h hl hk (fun O' hO => by
      obtain ⟨h1, h2, h3⟩ := kind_kids hO
      exact ⟨by rw [h1]; exact Nat.le_succ_of_le h0.opn, h2, fun q hq => by obtain ⟨o, ho, e⟩ := h3 q hq; rw [e]; exact Nat.le_succ_of_le (h0.kids o ho)⟩)
    have hwr : ∀ {t : By} {l : List Stp}, l.length ≤ 7 → ofOpt i (l ++ R) (wrapO t O) = .go s1 → Sz (n + 1) s1 := fun hl h => sz_opt h hl hk (fun O' hO => by
      obtain ⟨h1, h2, h3⟩ := wrap_kids (n := n + 1) hO (fun o ho => Nat.le_succ_of_le (h0.kids o ho)) (by omega)
      exact ⟨by rw [h1]; exact Nat.succ_le_succ h0.opn, h2, h3⟩)
    change exec L size x ⟨i, R, O⟩ = .go s1 at hs
    cases x with
    | word t => simp only [exec] at hs; split at hs <;> cases hs; exact hsame _
    | lines m => simp only [exec] at hs; split at hs <;> cases hs; exact hsame _; exact sz_same (l := [.m m, .more m]) h0 (by simp) hk
    | more m => simp only [exec] at hs; split at hs; exact hpu (by simp) hs; cases hs; exact hsame _
    | commas m => simp only [exec] at hs; split at hs; cases hs; exact hsame _; exact hpu (by simp) hs
    | moreC m => simp only [exec] at hs; split at hs; exact hpu (by simp) hs; cases hs; exact hsame _
    | m k =>
      change execM L size k ⟨i, R, O⟩ = .go s1 at hs
      cases k with
      | decl => simp only [execM] at hs; (repeat' split at hs); exact hop (by simp) hs; exact hvar hs; exact hop (by simp) hs; cases hs
      | semis => simp only [execM] at hs; cases hs; exact hsame _
      | noMore => simp only [execM] at hs; split at hs <;> cases hs; exact hsame _
      | name => simp only [execM] at hs; split at hs; exact htx (l := []) (by simp) hs; cases hs
      | params => exact hop (by simp) hs
      | result =>
        simp only [execM] at hs
        split at hs
        · split at hs
          · cases hs
          · cases O with
            | nil => exact absurd rfl h0.some'
            | cons a r =>
              cases hs
              exact sz_push (l := []) h0 (by simp) (Nat.le_succ_of_le h0.opn) (by simp) (fun q hq => by
                rcases List.mem_cons.1 hq with rfl | hq
                · show (a.kids ++ [_]).length ≤ _
                  rw [List.length_append]; exact Nat.succ_le_succ (h0.kids a List.mem_cons_self)
                · exact Nat.le_succ_of_le (h0.kids q (List.mem_cons_of_mem _ hq))) hk
        · exact hop (by simp) hs
      | block => exact hbl hs
      | fin =>
        simp only [execM, finM] at hs
        split at hs
        · cases hs
        · exact sz_opt (l := []) hs (by simp) hk (fun O' hO => by
            obtain ⟨h1, h2, h3⟩ := close_kids hO h0.kids
            exact ⟨Nat.le_trans h1 (Nat.le_succ_of_le h0.opn), h2, h3⟩)
      | field => exact hop (by simp) hs
      | param => exact hop (by simp) hs
      | typeOf => simp only [execM] at hs; (repeat' split at hs); all_goals exact hop (by simp) hs
      | stmt => simp only [execM] at hs; (repeat' split at hs); exact hvar hs; exact hop (by simp) hs; exact hif hs; exact hop (by simp) hs; exact hbl hs; exact hop (by simp) hs
      | returned => simp only [execM] at hs; split at hs; exact hex hs; cases hs; exact hsame _
      | expr => exact hex hs
      | assigned => simp only [execM] at hs; (repeat' split at hs); exact hkd (l := [.m .pre, .m .between]) (by simp) hs; exact hkd (l := [.m .pre, .m .between]) (by simp) hs; cases hs; exact hsame _
      | otherwise => simp only [execM] at hs; split at hs; exact hpu (by simp) hs; cases hs; exact hsame _
      | pre => simp only [execM] at hs; split at hs; exact hop (by simp) hs; exact hpu (by simp) hs
      | between =>
        simp only [execM, betweenM] at hs
        split at hs
        · cases hs
        · split at hs
          · cases hs
          · rename_i O2 h2
            have h4 : O2.length ≤ n + 1 ∧ O2 ≠ [] ∧ ∀ q ∈ O2, q.kids.length ≤ n + 1 := by
              cases O with
              | nil => exact absurd rfl h0.some'
              | cons o r =>
                have h5 := settle_kids (n := n) r o h2 (Nat.le_succ_of_le (h0.kids o List.mem_cons_self)) (fun q hq => h0.kids q (List.mem_cons_of_mem _ hq))
                exact ⟨Nat.le_trans h5.1 h0.opn, h5.2⟩
            split at hs
            · exact sz_opt hs (by simp) hk (fun O' hO => by
                obtain ⟨h1, h3, h5⟩ := wrap_kids (n := n + 1) hO h4.2.2 (by omega)
                exact ⟨by rw [h1]; exact Nat.succ_le_succ h4.1, h3, h5⟩)
            · cases hs
              exact sz_push (l := []) h0 (by simp) (Nat.le_succ_of_le h4.1) h4.2.1 h4.2.2 hk
      | ifOrBlock => simp only [execM] at hs; split at hs; exact hif hs; exact hbl hs
      | text => simp only [execM] at hs; split at hs; exact htx (l := []) (by simp) hs; cases hs
      | behind => simp only [execM] at hs; (repeat' split at hs); exact hwr (l := [.word [46], .m .name, .m .fin, .m .behind]) (by simp) hs; exact hwr (l := [.word [91], .m .expr, .word [93], .m .fin, .m .behind]) (by simp) hs; cases hs; exact hsame _
      | operand => simp only [execM] at hs; (repeat' split at hs); all_goals exact hop (by simp) hs
      | called =>
        simp only [execM] at hs
        split at hs
        · cases O with
          | nil => exact absurd rfl h0.some'
          | cons o r =>
            have hb : ∀ (q : Open), q.kids = o.kids → ∀ k (l : List Stp), l.length ≤ 7 → Sz (n + 1) ⟨k, l ++ R, q :: r⟩ := fun q hq k l hl => sz_push h0 hl (Nat.le_succ_of_le h0.opn) (by simp) (fun z hz => by
              rcases List.mem_cons.1 hz with rfl | hz
              · rw [hq]; exact Nat.le_succ_of_le (h0.kids o List.mem_cons_self)
              · exact Nat.le_succ_of_le (h0.kids z (List.mem_cons_of_mem _ hz))) hk
            dsimp only at hs
            repeat' split at hs
            · cases hs; exact hb { o with k := kNew, t := [] } rfl _ [.m .typeOf, .word [41]] (by simp)
            · cases hs; exact hb { o with k := kMake, t := [] } rfl _ [.m .typeOf, .word [44], .m .expr, .word [41]] (by simp)
            · cases hs; exact hb { o with k := kCall } rfl _ [.commas .expr, .word [41]] (by simp)
        · cases hs; exact hsame _
theorem sz_goes {n m : Nat} {s s1 : St} (h : Goes L size n s s1) (h0 : Sz m s) : ∃ k, Sz k s1 ∧ k ≤ m + n := by
  induction h generalizing m with
  | refl n s => exact ⟨m, h0, by omega⟩
  | step h1 _ ih =>
    obtain ⟨k, h2, h3⟩ := ih (sz_step h0 h1)
    exact ⟨k, h2, by omega⟩
end Go.Proofs.YtnjhmjkonmmomaaDoor.K
end
