/- The texts KText, KNn, KLeave, KRead, PPlain, PSmall, PSpan, joined. -/
import Derived.Test.YtnjhmjkonmmomaaDoorG10
import Derived.Test.YtnjhmjkonmmomaaDoorG3
import Derived.Deep.LoopGhost
/- KText: Plain: what a text is as a declaration: its part stands within it; blanks ahead of it, and lines and a comment behind, change nothing but places. -/
section
namespace Go.Proofs.YtnjhmjkonmmomaaDoor.K
open Go.Lib Go.Proofs.YtnjhmjkonmmomaaDoor.U Go.Proofs.YtnjhmjkonmmomaaDoor.S Go.Proofs.YtnjhmjkonmmomaaDoor.T

def fromP : Pt → Int
  | .mk _ _ f _ _ => f
def textP : Pt → By
  | .mk _ t _ _ _ => t
def wt (t : TokP) : Int × By := (t.w, t.t)
def FF (L : List TokP) (x : Int) : Int := if x ≤ 0 then 0 else match L[x.toNat - 1]? with
  | some t => t.f
  | none => 0
def EE (L : List TokP) (x : Int) : Int := if x ≤ 0 then 0 else match L[x.toNat - 1]? with
  | some t => t.e
  | none => 0
def idxT (L : List TokP) : List TokP := L.mapIdx fun i t => ⟨t.w, t.t, (i : Int) + 1, (i : Int) + 1⟩
theorem idx_idx (L : List TokP) : Idx (idxT L) := by
  intro i t h
  unfold idxT at h
  rw [List.getElem?_mapIdx] at h
  cases h1 : L[i]? with
  | none => rw [h1] at h; cases h
  | some u => rw [h1] at h; cases h; exact ⟨rfl, rfl⟩
theorem idx_len (L : List TokP) : (idxT L).length = L.length := List.length_mapIdx
theorem ff_at {L : List TokP} {i : Nat} {t : TokP} (h : L[i]? = some t) : FF L ((i : Int) + 1) = t.f ∧ EE L ((i : Int) + 1) = t.e := by
  have h1 : ((i : Int) + 1).toNat - 1 = i := by omega
  unfold FF EE
  rw [if_neg (by omega), if_neg (by omega), h1, h]
  exact ⟨rfl, rfl⟩
theorem idx_map {L L' : List TokP} (h : L'.map wt = L.map wt) : (idxT L).map (mapT (FF L') (EE L')) = L' := by
  refine List.ext_getElem? fun i => ?_
  have h1 := congrArg (fun l : List (Int × By) => l[i]?) h
  rw [List.getElem?_map, List.getElem?_map] at h1
  unfold idxT
  rw [List.getElem?_map, List.getElem?_mapIdx]
  cases h2 : L[i]? with
  | none => rw [h2] at h1; cases h3 : L'[i]? with
    | none => rfl
    | some u => rw [h3] at h1; cases h1
  | some t => rw [h2] at h1; cases h3 : L'[i]? with
    | none => rw [h3] at h1; cases h1
    | some u =>
      rw [h3] at h1
      obtain ⟨h4, h5⟩ := ff_at h3
      simp only [Option.map_some, mapT, Option.some.injEq]
      simp only [Option.map_some, Option.some.injEq, wt, Prod.mk.injEq] at h1
      rw [h4, h5, ← h1.1, ← h1.2]
theorem fate_idx {L L' : List TokP} (h : L'.map wt = L.map wt) : fate L' = (fate (idxT L)).map (FF L') (EE L') := by
  rw [← fate_map (idxT L) (F := FF L') (E := EE L') rfl rfl, idx_map h]

/-! ### Within -/
mutual
def withinB : Pt → Int → Int → Bool
  | .mk _ _ f e ks, a, b => if f < a ∨ b < e ∨ e < f then false else withinL ks f e
def withinL : List Pt → Int → Int → Bool
  | [], _, _ => true
  | p :: r, a, b => if fromP p = 0 ∧ endP p = 0 then withinL r a b else withinB p a b && withinL r (endP p) b
end
structure Ups (F E : Int → Int) (n : Nat) (lo hi : Int) : Prop where
  ff : ∀ x y : Nat, 1 ≤ x → x ≤ y → y ≤ n → F x ≤ F y
  fe : ∀ x y : Nat, 1 ≤ x → x ≤ y → y ≤ n → F x ≤ E y
  ef : ∀ x y : Nat, 1 ≤ x → x < y → y ≤ n → E x ≤ F y
  ee : ∀ x y : Nat, 1 ≤ x → x ≤ y → y ≤ n → E x ≤ E y
  lo : ∀ x : Nat, 1 ≤ x → x ≤ n → lo ≤ F x
  hi : ∀ x : Nat, 1 ≤ x → x ≤ n → E x ≤ hi
  pos : ∀ x : Nat, 1 ≤ x → x ≤ n → 0 < E x
section
variable {F E : Int → Int} {L : List TokP} {lo hi : Int} (U : Ups F E L.length lo hi) (hF : F 0 = 0) (hE : E 0 = 0)
include U hF hE
mutual
theorem within_map : ∀ (p : Pt) (a b : Nat) (u v : Int), Wi L p a b → 0 < endP p → (∀ x : Nat, a < x → x ≤ L.length → u ≤ F x) → (∀ x : Nat, 1 ≤ x → x ≤ b → x ≤ L.length → E x ≤ v) → withinB (mapP F E p) u v = true
  | .mk k t f e ks, a, b, u, v, hw, hz, h1, h2 => by
    have _ := hF
    have _ := hE
    unfold Wi at hw
    rcases hw with ⟨_, h, _⟩ | ⟨i, j, rfl, rfl, hai, hij, hjb, hjl, hns, hk⟩
    · subst h; exact absurd hz (by show ¬ (0 : Int) < 0; decide)
    · rw [mapP]
      unfold withinB
      have e1 : u ≤ F (((i + 1 : Nat)) : Int) := h1 (i + 1) (by omega) (by omega)
      have e2 := h2 j (by omega) hjb hjl
      have e3 : F (((i + 1 : Nat)) : Int) ≤ E (j : Int) := U.fe (i + 1) j (by omega) (by omega) hjl
      rw [show ((i : Int) + 1) = ((i + 1 : Nat) : Int) by omega, if_neg (by omega)]
      exact within_mapL ks i j _ _ hk (fun x hx hl => U.ff (i + 1) x (by omega) (by omega) hl) (fun x hx hxj hl => U.ee x j hx hxj hjl)
theorem within_mapL : ∀ (l : List Pt) (a b : Nat) (u v : Int), WiL L l a b → (∀ x : Nat, a < x → x ≤ L.length → u ≤ F x) → (∀ x : Nat, 1 ≤ x → x ≤ b → x ≤ L.length → E x ≤ v) → withinL (mapL F E l) u v = true
  | [], _, _, _, _, _, _, _ => by rw [mapL, withinL]
  | p :: r, a, b, u, v, hw, h1, h2 => by
    unfold WiL at hw
    rw [mapL, withinL]
    obtain ⟨hp, hr⟩ := hw
    have hmp : fromP (mapP F E p) = F (fromP p) ∧ endP (mapP F E p) = E (endP p) := by cases p; rw [mapP]; exact ⟨rfl, rfl⟩
    rw [hmp.1, hmp.2]
    have hcase : (fromP p = 0 ∧ endP p = 0) ∨ ∃ j : Nat, endP p = (j : Int) ∧ 1 ≤ j ∧ j ≤ L.length := by
      obtain ⟨k, t, f, e, ks⟩ := p
      unfold Wi at hp
      rcases hp with ⟨h3, h4, _⟩ | ⟨i, j, _, h4, _, h6, _, h8, _⟩
      · exact .inl ⟨h3, h4⟩
      · exact .inr ⟨j, h4, by omega, h8⟩
    rcases hcase with ⟨h3, h4⟩ | ⟨j, h3, h4, h5⟩
    · rw [h3, h4, hF, hE, if_pos ⟨rfl, rfl⟩]
      have hl : lastOf a p = a := by unfold lastOf; rw [if_pos h4]
      rw [hl] at hr
      exact within_mapL r a b u v hr h1 h2
    · have hpos := U.pos j h4 h5
      have hl : lastOf a p = j := by unfold lastOf; rw [h3, if_neg (by omega)]; rfl
      rw [hl] at hr
      rw [h3, if_neg (fun h => by have := h.2; omega)]
      have g1 := within_map p a b u v hp (by rw [h3]; omega) h1 h2
      rw [g1, Bool.true_and]
      exact within_mapL r j b _ v hr (fun x hx hxl => U.ef j x h4 hx hxl) h2
end
end
/-! ### Where words stand -/
theorem rises_at {s : By} : ∀ {L : List TokP} {a : Nat}, Rises s a L → ∀ (i : Nat) (t : TokP), L[i]? = some t → (a : Int) ≤ t.f ∧ t.f ≤ t.e ∧ t.e ≤ (s.length : Int) ∧ ((t.w = 5 ∧ t.t = []) ∨ (t.t ≠ [] ∧ t.f < t.e ∧ t.f < (s.length : Int)))
  | [], _, _, i, t, h => by cases h
  | u :: r, a, hr, i, t, h => by
    cases hr with
    | cons hk hl hr =>
      rename_i f e
      cases i with
      | zero =>
        cases h
        have h1 := hk.from_; have h2 := hk.to; have h3 := hk.le; have h4 := hk.fe; have h5 := hk.end_
        refine ⟨by omega, by omega, by omega, ?_⟩
        rcases hk.text with h6 | h6
        · exact .inl ⟨h6.1, h6.2.1⟩
        · refine .inr ⟨h6.1, ?_, ?_⟩
          · have : f < e := by
              by_cases h7 : f < e
              · exact h7
              · have : e - f = 0 := by omega
                rw [this] at h6; exact absurd h6.2 (by rw [List.take_zero]; exact h6.1)
            omega
          · have : f < s.length := by
              by_cases h7 : f < s.length
              · exact h7
              · rw [List.drop_of_length_le (by omega)] at h6; exact absurd h6.2 (by rw [List.take_nil]; exact h6.1)
            omega
      | succ i =>
        have h1 := rises_at hr i t h
        have h3 := hk.le; have h4 := hk.fe
        exact ⟨by omega, h1.2⟩
theorem rises_two {s : By} : ∀ {L : List TokP} {a : Nat}, Rises s a L → ∀ (i j : Nat) (t u : TokP), i < j → L[i]? = some t → L[j]? = some u → t.e ≤ u.f
  | [], _, _, i, _, t, _, _, h, _ => by cases h
  | w :: r, a, hr, i, j, t, u, hij, h, k => by
    cases hr with
    | cons hk hl hr =>
      rename_i f e
      obtain ⟨j, rfl⟩ : ∃ m, j = m + 1 := ⟨j - 1, by omega⟩
      cases i with
      | zero =>
        cases h
        have h1 := rises_at hr j u k
        have h2 := hk.to
        omega
      | succ i => exact rises_two hr i j t u (by omega) h k
theorem ups_rises {s : By} {L : List TokP} (h : Rises s 0 L) (h0 : textT L 0 ≠ []) (k : Nat) {L' : List TokP} (hL' : L' = L.map (shiftT k)) : Ups (FF L') (EE L') L'.length k ((k : Int) + s.length) := by
  subst hL'
  rw [List.length_map]
  have at' : ∀ x : Nat, 1 ≤ x → x ≤ L.length → ∃ t : TokP, L[x - 1]? = some t ∧ FF (L.map (shiftT k)) x = t.f + k ∧ EE (L.map (shiftT k)) x = t.e + k := by
    intro x h1 h2
    have h3 : L[x - 1]? = some L[x - 1] := List.getElem?_eq_getElem (by omega)
    refine ⟨_, h3, ?_⟩
    have h4 : (L.map (shiftT k))[x - 1]? = some (shiftT k L[x - 1]) := by rw [List.getElem?_map, h3]; rfl
    have h5 := ff_at h4
    rw [show (((x - 1 : Nat) : Int) + 1) = (x : Int) by omega] at h5
    exact h5
  have two : ∀ x y : Nat, 1 ≤ x → x ≤ y → y ≤ L.length → ∃ t u : TokP, FF (L.map (shiftT k)) x = t.f + k ∧ EE (L.map (shiftT k)) x = t.e + k ∧ FF (L.map (shiftT k)) y = u.f + k ∧ EE (L.map (shiftT k)) y = u.e + k ∧ t.f ≤ t.e ∧ u.f ≤ u.e ∧ 0 ≤ t.f ∧ u.e ≤ (s.length : Int) ∧ (x < y → t.e ≤ u.f) ∧ (x = y → t = u) := by
    intro x y h1 h2 h3
    obtain ⟨t, t1, t2, t3⟩ := at' x h1 (by omega)
    obtain ⟨u, u1, u2, u3⟩ := at' y (by omega) h3
    have a1 := rises_at h _ _ t1
    have a2 := rises_at h _ _ u1
    refine ⟨t, u, t2, t3, u2, u3, a1.2.1, a2.2.1, by have := a1.1; omega, a2.2.2.1, fun hxy => rises_two h _ _ _ _ (by omega) t1 u1, fun hxy => ?_⟩
    subst hxy
    rw [t1] at u1; cases u1; rfl
  have cases' : ∀ x y : Nat, 1 ≤ x → x ≤ y → y ≤ L.length → FF (L.map (shiftT k)) x ≤ FF (L.map (shiftT k)) y ∧ FF (L.map (shiftT k)) x ≤ EE (L.map (shiftT k)) y ∧ (x < y → EE (L.map (shiftT k)) x ≤ FF (L.map (shiftT k)) y) ∧ EE (L.map (shiftT k)) x ≤ EE (L.map (shiftT k)) y ∧ (k : Int) ≤ FF (L.map (shiftT k)) x ∧ EE (L.map (shiftT k)) y ≤ (k : Int) + s.length := by
    intro x y h1 h2 h3
    obtain ⟨t, u, e1, e2, e3, e4, e5, e6, e7, e8, e9, e10⟩ := two x y h1 h2 h3
    rw [e1, e2, e3, e4]
    rcases Nat.lt_or_ge x y with hlt | hge
    · have := e9 hlt; refine ⟨by omega, by omega, fun _ => by omega, by omega, by omega, by omega⟩
    · obtain rfl := e10 (by omega); refine ⟨by omega, by omega, fun h => by omega, by omega, by omega, by omega⟩
  refine ⟨fun x y a b c => (cases' x y a b c).1, fun x y a b c => (cases' x y a b c).2.1, fun x y a b c => (cases' x y a (by omega) c).2.2.1 b, fun x y a b c => (cases' x y a b c).2.2.2.1, fun x a b => (cases' x x a (Nat.le_refl _) b).2.2.2.2.1, fun x a b => (cases' x x a (Nat.le_refl _) b).2.2.2.2.2, fun x a b => ?_⟩
  have h1 := (cases' 1 x (Nat.le_refl _) a b).2.2.2.1
  obtain ⟨t, t1, t2, t3⟩ := at' 1 (Nat.le_refl _) (by omega)
  have a1 := rises_at h _ _ t1
  rcases a1.2.2.2 with ⟨_, h5⟩ | ⟨_, h5, _⟩
  · refine absurd ?_ h0
    unfold textT
    rw [show (0 : Nat) = 1 - 1 from rfl, t1]; exact h5
  · omega

/-! ### What a text is -/
def zeroP : Pt := .mk [] [] 0 0 []
def declP (L : List TokP) (size : Nat) : Pt × Int × Int := match fate L with
  | .bad j => (zeroP, (tok L size j).f, 101)
  | .part p => if 40 < deep p then (zeroP, 0, 22) else (p, 0, 0)
theorem begs_ne {x : By} (h : begs x) : x ≠ [] := by rcases h with rfl | rfl | rfl <;> decide
theorem text_idx (L : List TokP) : textT (idxT L) 0 = textT L 0 := by
  unfold textT idxT; rw [List.getElem?_mapIdx]; cases L[0]? <;> rfl
theorem shift_wt (k : Nat) (L : List TokP) : (L.map (shiftT k)).map wt = L.map wt := by rw [List.map_map]; rfl
theorem fix_wt (n : Nat) (L : List TokP) : (L.map (fixT n)).map wt = L.map wt := by
  rw [List.map_map]; congr 1; funext t; simp only [Function.comp, fixT]; split <;> rfl
theorem map_p (F E : Int → Int) (p : Pt) : fromP (mapP F E p) = F (fromP p) ∧ endP (mapP F E p) = E (endP p) ∧ kindP (mapP F E p) = kindP p ∧ textP (mapP F E p) = textP p := by
  cases p; rw [mapP]; exact ⟨rfl, rfl, rfl, rfl⟩
theorem tok_bound {s : By} {L : List TokP} (h : Rises s 0 L) (j : Nat) : 0 ≤ (tok L s.length j).f ∧ (tok L s.length j).f ≤ (s.length : Int) := by
  unfold tok
  cases h1 : L[j]? with
  | none => exact ⟨by simp, by simp⟩
  | some t =>
    have := rises_at h j t h1
    exact ⟨by simpa using this.1, by have h2 := this.2.1; have h3 := this.2.2.1; show t.f ≤ _; omega⟩
theorem tok_shift (L : List TokP) (size k j : Nat) : (tok (L.map (shiftT k)) (size + k) j).f = (tok L size j).f + k := by
  unfold tok
  rw [List.getElem?_map]
  cases L[j]? with
  | none => simp
  | some t => rfl
/-- WITHIN. -/
theorem within_decl (right : Bool) (s : By) : ∀ p at' e, declP (scanB right s) s.length = (p, at', e) →
    (e ≠ 0 → p = zeroP ∧ 0 ≤ at' ∧ at' ≤ (s.length : Int) ∧ (e = 101 ∨ e = 22)) ∧ (e = 0 → withinB p 0 s.length = true ∧ deep p ≤ 40 ∧ begs (kindP p)) := by
  intro p at' e h
  have hr := scan_rises right s
  generalize scanB right s = L at h hr
  have hf := fate_idx (L := L) (L' := L) rfl
  unfold declP at h
  rw [hf] at h
  cases hi : fate (idxT L) with
  | bad j =>
    rw [hi] at h
    cases h
    exact ⟨fun _ => ⟨rfl, (tok_bound hr j).1, (tok_bound hr j).2, .inl rfl⟩, fun h => by cases h⟩
  | part q =>
    rw [hi] at h
    simp only [Fate.map] at h
    rw [deep_map] at h
    obtain ⟨j, hq, hk, ht⟩ := fate_rd (idx_idx L) hi
    by_cases hd : 40 < deep q
    · rw [if_pos hd] at h
      cases h
      exact ⟨fun _ => ⟨rfl, Int.le_refl _, by omega, .inr rfl⟩, fun h => by cases h⟩
    · rw [if_neg hd] at h
      cases h
      refine ⟨fun h => absurd rfl h, fun _ => ⟨?_, by rw [deep_map]; omega, by rw [(map_p _ _ q).2.2.1]; exact hk⟩⟩
      rw [text_idx] at ht
      have U := ups_rises hr (begs_ne ht) 0 (L' := L) (by
        have : shiftT 0 = id := by funext t; simp [shiftT]
        rw [this, List.map_id])
      have hln := idx_len L
      rw [← hln] at U
      refine within_map U rfl rfl q 0 j _ _ hq.wi hq.nz (fun x hx hl => ?_) (fun x hx hb hl => ?_)
      · have := U.lo x hx hl; simpa using this
      · have := U.hi x hx hl; simpa using this
mutual
theorem map_good {L : List TokP} {F E E' : Int → Int} (h0 : E 0 = E' 0) (h : ∀ x : Nat, 1 ≤ x → x ≤ L.length → comesT L 5 (x - 1) = false → E x = E' x) : ∀ (p : Pt) (a b : Nat), Wi L p a b → mapP F E p = mapP F E' p
  | .mk k t f e ks, a, b, hw => by
    rw [mapP, mapP]
    unfold Wi at hw
    rcases hw with ⟨_, rfl, rfl⟩ | ⟨i, j, _, rfl, _, h4, _, h6, h7, h8⟩
    · rw [h0, mapL, mapL]
    · rw [h j (by omega) h6 h7, map_goodL h0 h ks i j h8]
theorem map_goodL {L : List TokP} {F E E' : Int → Int} (h0 : E 0 = E' 0) (h : ∀ x : Nat, 1 ≤ x → x ≤ L.length → comesT L 5 (x - 1) = false → E x = E' x) : ∀ (l : List Pt) (a b : Nat), WiL L l a b → mapL F E l = mapL F E' l
  | [], _, _, _ => by rw [mapL, mapL]
  | p :: r, a, b, hw => by
    unfold WiL at hw
    rw [mapL, mapL, map_good h0 h p a b hw.1, map_goodL h0 h r _ b hw.2]
end
def behindB : By := [10, 10, 32, 47, 47, 32, 120]
theorem behind_scan (right : Bool) (s : By) : scanB right (s ++ behindB) = (scanB right s).map (fixT s.length) := by
  have h := Q.scan_join2 right s [10, 32, 47, 47, 32, 120]
  have h2 : scanB right [10, 32, 47, 47, 32, 120] = [] := by cases right <;> decide
  rw [h2, List.map_nil, List.append_nil] at h
  exact h
theorem scanF_blanks (right : Bool) : ∀ (k n : Nat) (l : By) (pos : Nat), (List.replicate k (32 : UInt8) ++ l).length < n → l.length < n → scanF right n (List.replicate k 32 ++ l) pos false = scanF right n l (pos + k) false
  | 0, n, l, pos, _, _ => rfl
  | k + 1, 0, l, pos, h, _ => by omega
  | k + 1, n + 1, l, pos, h, hl => by
    have e : List.replicate (k + 1) (32 : UInt8) ++ l = 32 :: (List.replicate k 32 ++ l) := rfl
    rw [e] at h ⊢
    have h1 : scanF right (n + 1) (32 :: (List.replicate k 32 ++ l)) pos false = scanF right n (List.replicate k 32 ++ l) (pos + 1) false := by
      simp only [scanF]
      rw [if_neg (by decide), if_pos (by decide)]
    have h2 : (List.replicate k (32 : UInt8) ++ l).length < n := by simp only [List.length_cons] at h; omega
    have h3 : l.length < n := by rw [List.length_append] at h2; omega
    rw [h1, scanF_blanks right k n l (pos + 1) h2 h3, scanF_fuel right n (n + 1) l _ _ h3 hl, show pos + 1 + k = pos + (k + 1) by omega]
theorem blanks_scan (right : Bool) (k : Nat) (s : By) : scanB right (List.replicate k 32 ++ s) = (scanB right s).map (shiftT k) := by
  unfold scanB
  rw [scanF_blanks right k _ s 0 (Nat.lt_succ_self _) (by rw [List.length_append]; omega), scanF_fuel right _ (s.length + 1) s _ _ (by rw [List.length_append]; omega) (Nat.lt_succ_self _), scanF_shift]
/-- BLANKS DON'T MATTER. -/
theorem blanks_decl (right : Bool) (s : By) (k : Nat) : ∀ p at' e q tq f r tq2 g, declP (scanB right s) s.length = (p, at', e) → declP (scanB right (List.replicate k 32 ++ s)) (List.replicate k 32 ++ s).length = (q, tq, f) → declP (scanB right (s ++ behindB)) (s ++ behindB).length = (r, tq2, g) →
    (e ≠ 0 → e = f ∧ (e = 101 → tq = at' + k) ∧ g = e) ∧
    (e = 0 → f = 0 ∧ g = 0 ∧ p = r ∧ withinB q k ((k : Int) + s.length) = true ∧ kindP q = kindP p ∧ textP q = textP p ∧ fromP q = fromP p + k ∧ endP q = endP p + k ∧ 0 < endP p ∧ deep q = deep p) := by
  intro p at' e q tq f r tq2 g h1 h2 h3
  have hr := scan_rises right s
  rw [blanks_scan] at h2
  rw [behind_scan] at h3
  rw [List.length_append, List.length_replicate, Nat.add_comm] at h2
  generalize scanB right s = L at h1 h2 h3 hr
  have f1 := fate_idx (L := L) (L' := L) rfl
  have f2 := fate_idx (L := L) (L' := L.map (shiftT k)) (shift_wt k L)
  have f3 := fate_idx (L := L) (L' := L.map (fixT s.length)) (fix_wt s.length L)
  unfold declP at h1 h2 h3
  rw [f1] at h1
  rw [f2] at h2
  rw [f3] at h3
  cases hi : fate (idxT L) with
  | bad j =>
    rw [hi] at h1 h2 h3
    cases h1; cases h2; cases h3
    exact ⟨fun _ => ⟨rfl, fun _ => tok_shift L s.length k j, rfl⟩, fun h => by cases h⟩
  | part z =>
    rw [hi] at h1 h2 h3
    simp only [Fate.map] at h1 h2 h3
    rw [deep_map] at h1 h2 h3
    obtain ⟨j, hq, hk, ht⟩ := fate_rd (idx_idx L) hi
    by_cases hd : 40 < deep z
    · rw [if_pos hd] at h1 h2 h3
      cases h1; cases h2; cases h3
      exact ⟨fun _ => ⟨rfl, fun h => absurd h (by decide), rfl⟩, (fun h => (by cases h))⟩
    · rw [if_neg hd] at h1 h2 h3
      cases h1; cases h2; cases h3
      refine ⟨fun h => absurd rfl h, fun _ => ?_⟩
      rw [text_idx] at ht
      have hln := idx_len L
      have U := ups_rises hr (begs_ne ht) k (L' := L.map (shiftT k)) rfl
      have U0 := ups_rises hr (begs_ne ht) 0 (L' := L) (by
        have : shiftT 0 = id := by funext t; simp [shiftT]
        rw [this, List.map_id])
      rw [List.length_map, ← hln] at U
      obtain ⟨a1, a2, a3, a4⟩ := map_p (FF L) (EE L) z
      obtain ⟨b1, b2, b3, b4⟩ := map_p (FF (L.map (shiftT k))) (EE (L.map (shiftT k))) z
      have hz : ∃ i j : Nat, fromP z = (i : Int) + 1 ∧ endP z = (j : Int) + 1 ∧ i < L.length ∧ j < L.length := by
        have h := hq.wi
        have hnz := hq.nz
        obtain ⟨kk, tt, ff, ee, ks⟩ := z
        unfold Wi at h
        rcases h with ⟨_, h, _⟩ | ⟨i, j, c1, c2, c3, c4, c5, c6, _⟩
        · subst h; exact absurd hnz (by show ¬ (0 : Int) < 0; decide)
        · exact ⟨i, j - 1, c1, by show ee = _; omega, by omega, by omega⟩
      obtain ⟨i, m, z1, z2, z3, z4⟩ := hz
      have g1 := ff_at (List.getElem?_eq_getElem z3)
      have g2 := ff_at (List.getElem?_eq_getElem z4)
      have s1 : (L.map (shiftT k))[i]? = some (shiftT k L[i]) := by rw [List.getElem?_map, List.getElem?_eq_getElem z3]; rfl
      have s2 : (L.map (shiftT k))[m]? = some (shiftT k L[m]) := by rw [List.getElem?_map, List.getElem?_eq_getElem z4]; rfl
      have g3 := ff_at s1
      have g4 := ff_at s2
      refine ⟨rfl, rfl, ?_, ?_, ?_, ?_, ?_, ?_, ?_, ?_⟩
      · have hFF : FF (L.map (fixT s.length)) = FF L := by
          funext x
          unfold FF
          split
          · rfl
          · rw [List.getElem?_map]
            cases L[x.toNat - 1]? with
            | none => rfl
            | some t => simp only [Option.map_some, fixT]; split <;> rfl
        rw [hFF]
        refine map_good (L := idxT L) (F := FF L) (E := EE L) (E' := EE (L.map (fixT s.length))) rfl (fun x hx hl hns => ?_) z 0 j hq.wi
        rw [hln] at hl
        have hx1 : L[x - 1]? = some L[x - 1] := List.getElem?_eq_getElem (by omega)
        have e1 := (ff_at hx1).2
        have hx2 : (L.map (fixT s.length))[x - 1]? = some (fixT s.length L[x - 1]) := by rw [List.getElem?_map, hx1]; rfl
        have e2 := (ff_at hx2).2
        rw [show (((x - 1 : Nat) : Int) + 1) = (x : Int) by omega] at e1 e2
        rw [e1, e2]
        have h5 := rises_at hr _ _ hx1
        unfold comesT idxT at hns
        rw [List.getElem?_mapIdx, hx1] at hns
        simp only [Option.map_some, beq_eq_false_iff_ne] at hns
        rcases h5.2.2.2 with ⟨h6, _⟩ | ⟨_, _, h6⟩
        · exact absurd h6 hns
        · unfold fixT; rw [if_neg (by omega)]
      · refine within_map U rfl rfl z 0 j _ _ hq.wi hq.nz (fun x hx hl => U.lo x hx hl) (fun x hx hb hl => U.hi x hx hl)
      · rw [b3, a3]
      · rw [b4, a4]
      · rw [b1, a1, z1, g1.1, g3.1]; rfl
      · rw [b2, a2, z2, g2.2, g4.2]; rfl
      · rw [a2, z2]; exact U0.pos (m + 1) (by omega) (by omega)
      · rw [deep_map, deep_map]
end Go.Proofs.YtnjhmjkonmmomaaDoor.K
end
/- KNn: Plain: no part that is read has an empty kind. -/
section
namespace Go.Proofs.YtnjhmjkonmmomaaDoor.K
open Go.Lib Go.Proofs.YtnjhmjkonmmomaaDoor.U Go.Proofs.YtnjhmjkonmmomaaDoor.S Go.Proofs.YtnjhmjkonmmomaaDoor.T

mutual
def Nn : Pt → Prop
  | .mk k _ _ _ ks => k ≠ [] ∧ NnL ks
def NnL : List Pt → Prop
  | [] => True
  | p :: r => Nn p ∧ NnL r
end
theorem NnL.nil : NnL [] := by unfold NnL; trivial
theorem NnL.cons {p : Pt} {r : List Pt} (h : Nn p) (k : NnL r) : NnL (p :: r) := by unfold NnL; exact ⟨h, k⟩
theorem NnL.snoc : ∀ {l : List Pt} {p : Pt}, NnL l → Nn p → NnL (l ++ [p])
  | [], _, _, h => .cons h .nil
  | q :: r, _, hl, h => by
    unfold NnL at hl
    exact .cons hl.1 (NnL.snoc hl.2 h)
theorem nn_mk {k t : By} {f e : Int} {ks : List Pt} (hk : k ≠ []) (h : NnL ks) : Nn (.mk k t f e ks) := by unfold Nn; exact ⟨hk, h⟩
section
variable {L : List TokP}
theorem nn_part {k t : By} {f : Int} {ks : List Pt} {j m : Nat} {p : Pt} (h : T.part L k t f ks j = .ok p m) (hk : k ≠ []) (hs : NnL ks) : Nn p := by
  unfold T.part at h; cases h; exact nn_mk hk hs
theorem typed_nn : ∀ (n i : Nat) {p : Pt} {j : Nat}, typed L n i = .ok p j → Nn p
  | 0, _, _, _, h => by cases h
  | n + 1, i, p, j, h => by
    unfold typed at h
    split at h
    · obtain ⟨x, k, h2, h3⟩ := next_ok.1 h
      exact nn_part h3 (by decide) (.cons (typed_nn n _ h2) .nil)
    · split at h
      · obtain ⟨u, k, h2, h3⟩ := next_ok.1 h
        obtain ⟨x, m, h4, h5⟩ := next_ok.1 h3
        exact nn_part h5 (by decide) (.cons (typed_nn n _ h4) .nil)
      · obtain ⟨s, k, h2, h3⟩ := next_ok.1 h
        exact nn_part h3 (by decide) .nil
theorem param_nn {n i j : Nat} {k : By} {p : Pt} (hk : k ≠ []) (h : param L n k i = .ok p j) : Nn p := by
  unfold param at h
  obtain ⟨s, m, h2, h3⟩ := next_ok.1 h
  obtain ⟨x, o, h4, h5⟩ := next_ok.1 h3
  exact nn_part h5 hk (.cons (typed_nn n _ h4) .nil)
theorem params_nn (m : Nat) : ∀ (n i : Nat) (acc : List Pt) {l : List Pt} {j : Nat}, params L m n i acc = .ok l j → NnL acc → NnL l
  | 0, _, _, _, _, h, _ => by cases h
  | n + 1, i, acc, l, j, h, ha => by
    unfold params at h
    obtain ⟨p, k, h2, h3⟩ := next_ok.1 h
    have hp := param_nn (by decide) h2
    split at h3
    · cases h3; exact ha.snoc hp
    · obtain ⟨u, m', h4, h5⟩ := next_ok.1 h3
      exact params_nn m n m' _ h5 (ha.snoc hp)
theorem fields_nn (m : Nat) : ∀ (n i : Nat) (acc : List Pt) {l : List Pt} {j : Nat}, fields L m n i acc = .ok l j → NnL acc → NnL l
  | 0, _, _, _, _, h, _ => by cases h
  | n + 1, i, acc, l, j, h, ha => by
    unfold fields at h
    split at h
    · cases h; exact ha
    · obtain ⟨p, k, h2, h3⟩ := next_ok.1 h
      have hp := param_nn (by decide) h2
      split at h3
      · cases h3
      · exact fields_nn m n _ _ h3 (ha.snoc hp)
structure NnE (L : List TokP) (n : Nat) : Prop where
  expr : ∀ than i p j, expr L n than i = .ok p j → Nn p
  exprs : ∀ than f a i p j, exprs L n than f a i = .ok p j → Nn a → Nn p
  prefixT : ∀ i p j, prefixT L n i = .ok p j → Nn p
  tails : ∀ f a i p j, tails L n f a i = .ok p j → Nn a → Nn p
  operand : ∀ i p j, operand L n i = .ok p j → Nn p
  args : ∀ i acc l j, args L n i acc = .ok l j → NnL acc → NnL l
theorem nnE : ∀ n, NnE L n
  | 0 => ⟨fun _ _ _ _ h => by simp only [expr] at h; (cases h), fun _ _ _ _ _ _ h => by simp only [exprs] at h; (cases h), fun _ _ _ h => by simp only [prefixT] at h; (cases h), fun _ _ _ _ _ h => by simp only [tails] at h; (cases h), fun _ _ _ h => by simp only [operand] at h; (cases h), fun _ _ _ _ h => by simp only [args] at h; (cases h)⟩
  | n + 1 => by
    have ih := nnE n
    refine ⟨fun than i p j h => ?_, fun than f a i p j h ha => ?_, fun i p j h => ?_, fun f a i p j h ha => ?_, fun i p j h => ?_, fun i acc l j h hacc => ?_⟩
    · rw [expr] at h
      obtain ⟨a, k, h2, h3⟩ := next_ok.1 h
      exact ih.exprs _ _ _ _ _ _ h3 (ih.prefixT _ _ _ h2)
    · rw [exprs] at h
      split at h
      · obtain ⟨b, k, h2, h3⟩ := next_ok.1 h
        exact ih.exprs _ _ _ _ _ _ h3 (nn_mk (by decide) (.cons ha (.cons (ih.expr _ _ _ _ h2) .nil)))
      · cases h; exact ha
    · rw [prefixT] at h
      have un : ∀ x : By, ((prefixT L n (i + 1)).next fun e j => T.part L kUnary x (fromT L i) [e] j) = .ok p j → Nn p := fun x h => by
        obtain ⟨e, k, h2, h3⟩ := next_ok.1 h
        exact nn_part h3 (by decide) (.cons (ih.prefixT _ _ _ h2) .nil)
      repeat' split at h
      · exact un _ h
      · exact un _ h
      · exact un _ h
      · exact un _ h
      · obtain ⟨a, k, h2, h3⟩ := next_ok.1 h
        exact ih.tails _ _ _ _ _ h3 (ih.operand _ _ _ h2)
    · rw [tails] at h
      split at h
      · obtain ⟨s, k, h2, h3⟩ := next_ok.1 h
        exact ih.tails _ _ _ _ _ h3 (nn_mk (by decide) (.cons ha .nil))
      · split at h
        · obtain ⟨e, k, h2, h3⟩ := next_ok.1 h
          obtain ⟨u, m, h5, h6⟩ := next_ok.1 h3
          exact ih.tails _ _ _ _ _ h6 (nn_mk (by decide) (.cons ha (.cons (ih.expr _ _ _ _ h2) .nil)))
        · cases h; exact ha
    · rw [operand] at h
      split at h
      · exact nn_part h (by decide) .nil
      · split at h
        · exact nn_part h (by decide) .nil
        · split at h
          · obtain ⟨e, k, h2, h3⟩ := next_ok.1 h
            obtain ⟨u, m, h5, h6⟩ := next_ok.1 h3
            cases h6
            exact ih.expr _ _ _ _ h2
          · obtain ⟨s, k, h2, h3⟩ := next_ok.1 h
            split at h3
            · exact nn_part h3 (by decide) .nil
            · split at h3
              · obtain ⟨x, m, h5, h6⟩ := next_ok.1 h3
                obtain ⟨u, o, h7, h8⟩ := next_ok.1 h6
                exact nn_part h8 (by decide) (.cons (typed_nn n _ h5) .nil)
              · split at h3
                · obtain ⟨x, m, h5, h6⟩ := next_ok.1 h3
                  obtain ⟨u, o, h7, h8⟩ := next_ok.1 h6
                  obtain ⟨e, q, h9, h10⟩ := next_ok.1 h8
                  obtain ⟨u2, r, h11, h12⟩ := next_ok.1 h10
                  exact nn_part h12 (by decide) (.cons (typed_nn n _ h5) (.cons (ih.expr _ _ _ _ h9) .nil))
                · split at h3
                  · exact nn_part h3 (by decide) .nil
                  · obtain ⟨l, m, h5, h6⟩ := next_ok.1 h3
                    exact nn_part h6 (by decide) (ih.args _ _ _ _ h5 .nil)
    · rw [args] at h
      obtain ⟨a, k, h2, h3⟩ := next_ok.1 h
      have ha := hacc.snoc (ih.expr _ _ _ _ h2)
      split at h3
      · cases h3; exact ha
      · obtain ⟨u, m, h4, h5⟩ := next_ok.1 h3
        exact ih.args _ _ _ _ h5 ha
theorem variable_nn {n i j : Nat} {p : Pt} (h : variable' L n i = .ok p j) : Nn p := by
  unfold variable' at h
  obtain ⟨u, k, h2, h3⟩ := next_ok.1 h
  obtain ⟨s, m, h4, h5⟩ := next_ok.1 h3
  obtain ⟨x, o, h6, h7⟩ := next_ok.1 h5
  exact nn_part h7 (by decide) (.cons (typed_nn n _ h6) .nil)
structure NnS (L : List TokP) (n : Nat) : Prop where
  block : ∀ i p j, block L n i = .ok p j → Nn p
  stmts : ∀ i acc l j, stmts L n i acc = .ok l j → NnL acc → NnL l
  branch : ∀ i p j, branch L n i = .ok p j → Nn p
  stmt : ∀ i p j, stmt L n i = .ok p j → Nn p
theorem nnS : ∀ n, NnS L n
  | 0 => ⟨fun _ _ _ h => by simp only [block] at h; (cases h), fun _ _ _ _ h => by simp only [stmts] at h; (cases h), fun _ _ _ h => by simp only [branch] at h; (cases h), fun _ _ _ h => by simp only [stmt] at h; (cases h)⟩
  | n + 1 => by
    have ih := nnS n
    have he := nnE (L := L) n
    refine ⟨fun i p j h => ?_, fun i acc l j h ha => ?_, fun i p j h => ?_, fun i p j h => ?_⟩
    · rw [block] at h
      obtain ⟨u, k, h2, h3⟩ := next_ok.1 h
      obtain ⟨l, m, h4, h5⟩ := next_ok.1 h3
      obtain ⟨u2, o, h6, h7⟩ := next_ok.1 h5
      exact nn_part h7 (by decide) (ih.stmts _ _ _ _ h4 .nil)
    · rw [stmts] at h
      split at h
      · cases h; exact ha
      · obtain ⟨p, k, h2, h3⟩ := next_ok.1 h
        split at h3
        · cases h3
        · exact ih.stmts _ _ _ _ h3 (ha.snoc (ih.stmt _ _ _ h2))
    · rw [branch] at h
      obtain ⟨u, k, h2, h3⟩ := next_ok.1 h
      obtain ⟨e, m, h4, h5⟩ := next_ok.1 h3
      obtain ⟨b, o, h6, h7⟩ := next_ok.1 h5
      have h8 := he.expr _ _ _ _ h4
      have h9 := ih.block _ _ _ h6
      split at h7
      · split at h7
        · obtain ⟨x, q, h10, h11⟩ := next_ok.1 h7
          exact nn_part h11 (by decide) (.cons h8 (.cons h9 (.cons (ih.branch _ _ _ h10) .nil)))
        · obtain ⟨x, q, h10, h11⟩ := next_ok.1 h7
          exact nn_part h11 (by decide) (.cons h8 (.cons h9 (.cons (ih.block _ _ _ h10) .nil)))
      · exact nn_part h7 (by decide) (.cons h8 (.cons h9 .nil))
    · rw [stmt] at h
      split at h
      · exact variable_nn h
      split at h
      · exact ih.branch _ _ _ h
      split at h
      · exact ih.block _ _ _ h
      split at h
      · obtain ⟨e, k, h2, h3⟩ := next_ok.1 h
        obtain ⟨b, m, h4, h5⟩ := next_ok.1 h3
        exact nn_part h5 (by decide) (.cons (he.expr _ _ _ _ h2) (.cons (ih.block _ _ _ h4) .nil))
      split at h
      · split at h
        · exact nn_part h (by decide) .nil
        · obtain ⟨e, k, h2, h3⟩ := next_ok.1 h
          exact nn_part h3 (by decide) (.cons (he.expr _ _ _ _ h2) .nil)
      · obtain ⟨a, k, h2, h3⟩ := next_ok.1 h
        have h6 := he.expr _ _ _ _ h2
        have two : ∀ (kd : By), kd ≠ [] → ((expr L n 0 (k + 1)).next fun b m => T.part L kd [] (fromT L i) [a, b] m) = .ok p j → Nn p := fun kd hk h => by
          obtain ⟨b, m, h4, h5⟩ := next_ok.1 h
          exact nn_part h5 hk (.cons h6 (.cons (he.expr _ _ _ _ h4) .nil))
        split at h3
        · exact two _ (by decide) h3
        · split at h3
          · exact two _ (by decide) h3
          · exact nn_part h3 (by decide) (.cons h6 .nil)
theorem all_nn {k : By} {l : List Pt} (hk : k ≠ []) (h : NnL l) : Nn (allP k l) := by
  cases l with
  | nil => unfold allP; exact nn_mk hk h
  | cons p r => obtain ⟨kk, t, f, e, ks⟩ := p; simp only [allP]; exact nn_mk hk h
theorem fate_nn {p : Pt} (h : fate L = .part p) : Nn p := by
  have hd : ∃ n i, decl L n = .ok p i := by
    unfold fate at h
    split at h
    · rename_i q i h1
      split at h
      · cases h
      · cases h; exact ⟨_, i, h1⟩
    · cases h
  obtain ⟨n, i, h⟩ := hd
  unfold decl at h
  split at h
  · unfold func' at h
    obtain ⟨u, k, h2, h3⟩ := next_ok.1 h
    obtain ⟨s, m, h4, h5⟩ := next_ok.1 h3
    obtain ⟨u2, o, h6, h7⟩ := next_ok.1 h5
    obtain ⟨ps, q, h8, h9⟩ := next_ok.1 h7
    obtain ⟨rs, v, h10, h11⟩ := next_ok.1 h9
    obtain ⟨b, w, h12, h13⟩ := next_ok.1 h11
    have hp : NnL ps := by
      split at h8
      · cases h8; exact .nil
      · exact params_nn n n o [] h8 .nil
    have hr : NnL rs := by
      split at h10
      · cases h10; exact .nil
      · obtain ⟨x, z, h14, h15⟩ := next_ok.1 h10
        cases h15
        exact .cons (typed_nn n _ h14) .nil
    exact nn_part h13 (by decide) (.cons (all_nn (by decide) hp) (.cons (all_nn (by decide) hr) (.cons ((nnS n).block _ _ _ h12) .nil)))
  · split at h
    · exact variable_nn h
    · split at h
      · unfold record at h
        obtain ⟨u, k, h2, h3⟩ := next_ok.1 h
        obtain ⟨s, m, h4, h5⟩ := next_ok.1 h3
        obtain ⟨u2, o, h6, h7⟩ := next_ok.1 h5
        obtain ⟨u3, q, h8, h9⟩ := next_ok.1 h7
        obtain ⟨l, v, h10, h11⟩ := next_ok.1 h9
        obtain ⟨u4, w, h12, h13⟩ := next_ok.1 h11
        exact nn_part h13 (by decide) (fields_nn n n _ [] h10 .nil)
      · cases h
end
end Go.Proofs.YtnjhmjkonmmomaaDoor.K
end
/- KLeave: A part's rows leave out a block in which no text stands but empty ones. -/
section
namespace Go.Proofs.YtnjhmjkonmmomaaDoor.K
open Go.RowKit
open Go.Lib hiding intOf
open Go.Proofs.YtnjhmjkonmmomaaDoor.U Go.Proofs.YtnjhmjkonmmomaaDoor.S Go.Proofs.YtnjhmjkonmmomaaDoor.T
section
variable {W : World} {R X : Nat → Prop} (hX : ∀ g off k, X g → k ≠ [] → W.cell? ⟨g, off, none⟩ ≠ some (.string (bstr k)))
include hX
mutual
theorem kids_leave : ∀ (p : Pt) (lv : Value), Nn p → KidsIn W R p lv → KidsIn W (fun g => R g ∧ ¬ X g) p lv
  | .mk k t f e ks, lv, hn, h => by
    unfold Nn at hn
    obtain ⟨a, cap, h1, h0, h2⟩ := h
    refine ⟨a, cap, h1, h0, ?_⟩
    rcases h2 with h2 | ⟨g, off, xs, h3, h4, h5, h6⟩
    · exact .inl h2
    · by_cases hk : ks = []
      · exact .inl hk
      · refine .inr ⟨g, off, xs, h3, ⟨h4, fun hx => ?_⟩, h5, parts_leave ks xs hn.2 h6⟩
        cases ks with
        | nil => exact hk rfl
        | cons p r =>
          obtain ⟨lv', rest, rfl, _, _⟩ := h6
          obtain ⟨k', t', f', e', ks'⟩ := p
          have h7 := hn.2
          unfold NnL Nn at h7
          exact hX g off k' hx h7.1.1 (h5 0 _ rfl)
theorem parts_leave : ∀ (l : List Pt) (xs : List Value), NnL l → PartsIn W R l xs → PartsIn W (fun g => R g ∧ ¬ X g) l xs
  | [], _, _, h => h
  | p :: r, xs, hn, h => by
    have _hX := hX
    unfold NnL at hn
    obtain ⟨lv, rest, h1, h2, h3⟩ := h
    exact ⟨lv, rest, h1, kids_leave p lv hn.1 h2, parts_leave r rest hn.2 h3⟩
end
end
end Go.Proofs.YtnjhmjkonmmomaaDoor.K
end
/- KRead: The program's reader: a whole reading. -/
section
namespace Go.Proofs.YtnjhmjkonmmomaaDoor.K
open Go.RowKit
open Go.Lib hiding intOf
open Go.Proofs.YtnjhmjkonmmomaaDoor.U Go.Proofs.YtnjhmjkonmmomaaDoor.S Go.Proofs.YtnjhmjkonmmomaaDoor.T
section
variable {d : Nat} {L : List TokP} {size : Nat} {lv : Value} {s : St} {O : Nat → Prop}
theorem stay_set {O' : Nat → Prop} {W X : World} {b j : Nat} {v : Value} (h : Stay O O' W X) (hb : W.heap.size ≤ b) : Stay O O' W (X.setCell ⟨b, j, none⟩ v) :=
  ⟨h.os, h.tape, h.output, by simp; exact h.size, h.own, fun k hk hO => (Below.heap_setCell _ _ _ _ (by show k ≠ b; omega)).trans (h.block k hk hO)⟩
def noPart : Value := .agg #[.string ⟨#[]⟩, .string ⟨#[]⟩, .int .i64 0, .int .i64 0, .slice none 0 0]
/-- What a reading answers. -/
def Told (L : List TokP) (size : Nat) (O : Nat → Prop) (W : World) : Fate → Ending → World → Prop
  | .part p, e, W' => ∃ plv O', e = .returned (.tuple #[.agg (five p plv).toArray, .int .i64 0, .int .i64 0]) ∧ KidsIn W' (Fr O' W') p plv ∧ Stay O O' W W'
  | .bad j, e, W' => ∃ O', e = .returned (.tuple #[noPart, .int .i64 (tok L size j).f, .int .i64 101]) ∧ Stay O O' W W'
theorem blank_block {W : World} {B : Nat} {t : TypeId} (h : W.heap[B]? = some (.cells #[.string ⟨#[]⟩, .string ⟨#[]⟩, .int .i64 0, .int .i64 0, .slice none 0 0] t (0, 0))) (off : Nat) (k : By) (hk : k ≠ []) : W.cell? ⟨B, off, none⟩ ≠ some (.string (bstr k)) := by
  have hs : (⟨#[]⟩ : ByteArray) ≠ bstr k := fun e => hk (by
    have := congrArg (fun b : ByteArray => b.data.toList) e
    simpa [bstr] using this.symm)
  intro h1
  unfold World.cell? at h1
  rw [h] at h1
  rcases off with _ | _ | _ | _ | _ | n
  · simp at h1; exact hs h1
  · simp at h1; exact hs h1
  · simp at h1
  · simp at h1
  · simp at h1
  · simp at h1
theorem int_block {W : World} {B : Nat} {t : TypeId} {ik : IntKind} {z : Int} (h : W.heap[B]? = some (.cells #[.int ik z] t (0, 0))) (off : Nat) (k : By) : W.cell? ⟨B, off, none⟩ ≠ some (.string (bstr k)) := by
  intro h1
  unfold World.cell? at h1
  rw [h] at h1
  rcases off with _ | n
  · simp at h1
  · simp at h1
set_option maxHeartbeats 4000000 in
set_option maxRecDepth 20000 in
theorem read_any {W : World} (hM : Mem d L size lv ⟨0, [], [root]⟩ O W) (hL : ∀ t ∈ L, Fine t) (hl : L.length ≤ 1600) (hG : PTab O W) :
    Calls Tryd.prog 21 #[ptr d] W (Told L size O W (fate L)) := by
  have hmf := hmf
  have HR := Lib.hid (run_fate (size := size) hL)
  have HN := Lib.hid (fun p (h : fate L = .part p) => fate_nn h)
  obtain ⟨fa, hfa⟩ : ∃ fa, fate L = fa := ⟨_, rfl⟩
  rw [hfa] at HR HN ⊢
  clear hfa
  go_enter_defers Tryd.func21, Tryd.ntmps21
  go_wp2_with fail
  obtain ⟨V, hV⟩ : ∃ V, ((W.alloc (.cells #[.string ⟨#[]⟩, .string ⟨#[]⟩, .int .i64 0, .int .i64 0, .slice none 0 0] 24)).alloc (.cells #[.int .i64 0] 3)).alloc (.cells #[.int .i64 0] 31) = V := ⟨_, rfl⟩
  have hVb : Below W.heap.size W V := by rw [← hV]; exact (((Below.refl _ _).alloc (Nat.le_refl _) _).alloc (by simp) _).alloc (by simp; omega) _
  have hVs : V.heap.size = W.heap.size + 1 + 1 + 1 := by rw [← hV]; simp
  have hp2 : V.heap[W.heap.size + 1 + 1]? = some (.cells #[.int .i64 0] 31 (0, 0)) := by
    rw [← hV]
    have h := heap_new ((W.alloc (.cells #[.string ⟨#[]⟩, .string ⟨#[]⟩, .int .i64 0, .int .i64 0, .slice none 0 0] 24)).alloc (.cells #[.int .i64 0] 3)) (.cells #[.int .i64 0] 31)
    simp only [World.size_alloc] at h
    exact h
  have hp1 : V.heap[W.heap.size + 1]? = some (.cells #[.int .i64 0] 3 (0, 0)) := by
    rw [← hV, Below.heap_alloc _ _ _ (by simp)]
    have h := heap_new (W.alloc (.cells #[.string ⟨#[]⟩, .string ⟨#[]⟩, .int .i64 0, .int .i64 0, .slice none 0 0] 24)) (.cells #[.int .i64 0] 3)
    simp only [World.size_alloc] at h
    exact h
  have hp0 : V.heap[W.heap.size]? = some (.cells #[.string ⟨#[]⟩, .string ⟨#[]⟩, .int .i64 0, .int .i64 0, .slice none 0 0] 24 (0, 0)) := by
    rw [← hV, Below.heap_alloc _ _ _ (by simp; omega), Below.heap_alloc _ _ _ (by simp)]
    exact heap_new _ _
  rw [hV]
  have hMV := hM.below hVb
  have ct := then_lit hMV [.m .decl, .m .semis, .m .noMore] [.func (.func 25) #[ptr d] #[], .func (.func 26) #[ptr d] #[], .func (.func 27) #[ptr d] #[]] 3 rfl ⟨_, _, rfl, rfl, ⟨_, _, rfl, rfl, ⟨_, _, rfl, rfl, rfl⟩⟩⟩ (by decide) (Nat.zero_le _)
  rw [hVs] at ct
  have hnO : ∀ k, W.heap.size ≤ k → ¬ O k := fun k hk hO => by have := hM.lt k hO; omega
  have HF0 := Lib.hid (show Fr O V W.heap.size from ⟨by omega, hnO _ (Nat.le_refl _), _, hp0, rfl⟩)
  have HF1 := Lib.hid (show Fr O V (W.heap.size + 1) from ⟨by omega, hnO _ (by omega), _, hp1, rfl⟩)
  have HF2 := Lib.hid (show Fr O V (W.heap.size + 1 + 1) from ⟨by omega, hnO _ (by omega), _, hp2, rfl⟩)
  have HGV := Lib.hid (hG.stay (Stay.of_below hVb))
  have HV := Lib.hid hVb
  have HP := Lib.hid (And.intro hp0 (And.intro hp1 hp2))
  clear hV hVb hVs hp0 hp1 hp2 hnO hMV hM hG
  refine ct.mono ?_
  rintro e w1 ⟨rfl, O1, hM1, hS1⟩
  dsimp only
  have HM1 := Lib.hid hM1
  have HS1 := Lib.hid hS1
  have HG1 := Lib.hid (HGV.out.stay hS1)
  have HL := Lib.hid hL
  have Hl := Lib.hid hl
  clear ct hM1 hS1 HGV hL hl
  go_wp2_with fail
  go_loopg [] (100 * L.length + 100) (fun k wr => ∃ (m : Nat) (s : St) (O2 : Nat → Prop), Hid (Comes L size k s fa) ∧ Hid (Sz m s) ∧ Hid (m + k ≤ 100 * L.length + 100) ∧ Hid (Okay L s) ∧ Hid (Mem d L size lv s O2 wr) ∧ Hid (Stay O O2 V wr) ∧ Hid (PTab O2 wr))
  case atStart => exact ⟨0, begun, O1, HR, Lib.hid sz_begun, Lib.hid (by omega), Lib.hid okay_begun, HM1, HS1, HG1⟩
  case round =>
    obtain ⟨m, s, O2, HC, HZ, HB, HOk, HM2, HS2, HG2⟩ := hrel
    clear HM1 HS1 HG1
    by_cases ht : s.todo = []
    · obtain ⟨sa, sc, k2⟩ := todo_none HM2.out ht
      have HT := Lib.hid ht
      obtain ⟨p, f, rfl, hop⟩ := comes_end HC.out ht
      obtain ⟨tv, ov, bs, vs, xs, hX⟩ := id HM2.out
      obtain ⟨tg, tc, tkv, ks, us1, bs1, hTop⟩ := top_of hX hop
      have cT := top_any hX hTop (Nat.zero_le _) (Below.refl _ _)
      have HTop := Lib.hid hTop
      clear ht hX hTop hop
      go_wp2_with fail
      refine cT.mono ?_
      rintro e w2 ⟨rfl, m2, rfl⟩
      dsimp only
      have hTop := HTop.out.drewN m2
      have HS3 : Hid (Stay O O2 V (wr.drewN m2)) := Lib.hid (HS2.out.trans (Stay.of_below (drewB' wr m2)))
      have k4 := hTop.cell 4 _ rfl
      obtain ⟨plv, hplv⟩ : ∃ plv, ks = five p plv ∧ KidsIn (wr.drewN m2) (Fr O2 (wr.drewN m2)) p plv := by
        obtain ⟨plv, rest, h1, h2, h3⟩ := hTop.parts
        obtain rfl : rest = [] := h3
        exact ⟨plv, by rw [h1, List.append_nil], h2⟩
      have hown := hTop.own
      clear cT HTop
      generalize wr.drewN m2 = W2 at k4 hTop HS3 hplv hown ⊢
      obtain ⟨rfl, hkid⟩ := hplv
      obtain ⟨pa, pn, pc, rfl⟩ := kids_form hkid
      obtain ⟨q0, q1, q2, q3, h5⟩ := five_form p (.slice pa pn pc)
      have hlen1 : (root.add p f).kids.length = 0 + 1 := rfl
      rw [hlen1] at hown
      obtain ⟨kg, kc, rfl, _, hkl⟩ := hown.form (Nat.succ_pos _)
      have c0 : W2.cell? ⟨kg, 0, none⟩ = some (.string q0) := by rw [hown.cellAt 0 (by decide), h5]; rfl
      have c1 : W2.cell? ⟨kg, 1, none⟩ = some (.string q1) := by rw [hown.cellAt 1 (by decide), h5]; rfl
      have c2 : W2.cell? ⟨kg, 2, none⟩ = some (.int .i64 q2) := by rw [hown.cellAt 2 (by decide), h5]; rfl
      have c3 : W2.cell? ⟨kg, 3, none⟩ = some (.int .i64 q3) := by rw [hown.cellAt 3 (by decide), h5]; rfl
      have c4 : W2.cell? ⟨kg, 4, none⟩ = some (.slice pa pn pc) := by rw [hown.cellAt 4 (by decide), h5]; rfl
      replace k4 : W2.cell? ⟨tg, 4, none⟩ = some (.slice (some ⟨kg, 0, none⟩) (0 + 1) kc) := k4
      have b0 := (HS3.out.at HF0.out).trans HP.out.1
      have b1 := (HS3.out.at HF1.out).trans HP.out.2.1
      have b2 := (HS3.out.at HF2.out).trans HP.out.2.2
      obtain ⟨B, hB⟩ : ∃ B, W.heap.size = B := ⟨_, rfl⟩
      have HBe := Lib.hid hB
      rw [hB] at b0 b1 b2 ⊢
      clear hB
      have z0 : W2.cell? ⟨B, 0, none⟩ = some (.string ⟨#[]⟩) := by simp [World.cell?, b0]
      have z1 : W2.cell? ⟨B, 1, none⟩ = some (.string ⟨#[]⟩) := by simp [World.cell?, b0]
      have z2 : W2.cell? ⟨B, 2, none⟩ = some (.int .i64 0) := by simp [World.cell?, b0]
      have z3 : W2.cell? ⟨B, 3, none⟩ = some (.int .i64 0) := by simp [World.cell?, b0]
      have z4 : W2.cell? ⟨B, 4, none⟩ = some (.slice none 0 0) := by simp [World.cell?, b0]
      have fz : ∀ j, W2.frozen? ⟨B, j, none⟩ = false := fun j => by simp [World.frozen?, b0]
      have z5 : W2.cell? ⟨B + 1, 0, none⟩ = some (.int .i64 0) := by simp [World.cell?, b1]
      have z6 : W2.cell? ⟨B + 1 + 1, 0, none⟩ = some (.int .i64 0) := by simp [World.cell?, b2]
      have fz1 : W2.frozen? ⟨B + 1, 0, none⟩ = false := by simp [World.frozen?, b1]
      have fz2 : W2.frozen? ⟨B + 1 + 1, 0, none⟩ = false := by simp [World.frozen?, b2]
      have HK := Lib.hid hkid
      have H5 := Lib.hid h5
      clear hTop hown hkid h5 hkl hlen1
      go_wp2_with fail
      refine leaves_cons (f := 23) (args := #[.pointer (some ⟨B + 1, 0, none⟩), .pointer (some ⟨B + 1 + 1, 0, none⟩)]) (by simp) (by simp [go_sem]) ?_
      refine (catch_idle _ _ _).mono ?_
      rintro e u' w'' ⟨rfl, rfl, rfl⟩
      have hOB : ∀ k, B ≤ k → W.heap.size ≤ k := fun k hk => by have := HBe.out; omega
      have s0 := Go.Joins.block_setCell b0 (i := 0) (.string q0)
      have s1 : ((W2.setCell ⟨B, 0, none⟩ (.string q0)).setCell ⟨B, 1, none⟩ (.string q1)).heap[B]? = some (.cells #[.string q0, .string q1, .int .i64 0, .int .i64 0, .slice none 0 0] 24 (0, 0)) := Go.Joins.block_setCell s0 (.string q1)
      have s2 : (((W2.setCell ⟨B, 0, none⟩ (.string q0)).setCell ⟨B, 1, none⟩ (.string q1)).setCell ⟨B, 2, none⟩ (.int .i64 q2)).heap[B]? = some (.cells #[.string q0, .string q1, .int .i64 q2, .int .i64 0, .slice none 0 0] 24 (0, 0)) := Go.Joins.block_setCell s1 (.int .i64 q2)
      have s3 : ((((W2.setCell ⟨B, 0, none⟩ (.string q0)).setCell ⟨B, 1, none⟩ (.string q1)).setCell ⟨B, 2, none⟩ (.int .i64 q2)).setCell ⟨B, 3, none⟩ (.int .i64 q3)).heap[B]? = some (.cells #[.string q0, .string q1, .int .i64 q2, .int .i64 q3, .slice none 0 0] 24 (0, 0)) := Go.Joins.block_setCell s2 (.int .i64 q3)
      have s4 : (((((W2.setCell ⟨B, 0, none⟩ (.string q0)).setCell ⟨B, 1, none⟩ (.string q1)).setCell ⟨B, 2, none⟩ (.int .i64 q2)).setCell ⟨B, 3, none⟩ (.int .i64 q3)).setCell ⟨B, 4, none⟩ (.slice pa pn pc)).heap[B]? = some (.cells #[.string q0, .string q1, .int .i64 q2, .int .i64 q3, .slice pa pn pc] 24 (0, 0)) := Go.Joins.block_setCell s3 (.slice pa pn pc)
      have oth : ∀ k, k ≠ B → (((((W2.setCell ⟨B, 0, none⟩ (.string q0)).setCell ⟨B, 1, none⟩ (.string q1)).setCell ⟨B, 2, none⟩ (.int .i64 q2)).setCell ⟨B, 3, none⟩ (.int .i64 q3)).setCell ⟨B, 4, none⟩ (.slice pa pn pc)).heap[k]? = W2.heap[k]? := fun k hk =>
        (Below.heap_setCell _ _ _ _ hk).trans ((Below.heap_setCell _ _ _ _ hk).trans ((Below.heap_setCell _ _ _ _ hk).trans ((Below.heap_setCell _ _ _ _ hk).trans (Below.heap_setCell _ _ _ _ hk))))
      have hS4 : Stay O O2 W (((((W2.setCell ⟨B, 0, none⟩ (.string q0)).setCell ⟨B, 1, none⟩ (.string q1)).setCell ⟨B, 2, none⟩ (.int .i64 q2)).setCell ⟨B, 3, none⟩ (.int .i64 q3)).setCell ⟨B, 4, none⟩ (.slice pa pn pc)) :=
        stay_set (stay_set (stay_set (stay_set (stay_set ((Stay.of_below HV.out).trans HS3.out) (hOB _ (Nat.le_refl _))) (hOB _ (Nat.le_refl _))) (hOB _ (Nat.le_refl _))) (hOB _ (Nat.le_refl _))) (hOB _ (Nat.le_refl _))
      have hz4 : (((((W2.setCell ⟨B, 0, none⟩ (.string q0)).setCell ⟨B, 1, none⟩ (.string q1)).setCell ⟨B, 2, none⟩ (.int .i64 q2)).setCell ⟨B, 3, none⟩ (.int .i64 q3)).setCell ⟨B, 4, none⟩ (.slice pa pn pc)).heap.size = W2.heap.size := by simp
      generalize ((((W2.setCell ⟨B, 0, none⟩ (.string q0)).setCell ⟨B, 1, none⟩ (.string q1)).setCell ⟨B, 2, none⟩ (.int .i64 q2)).setCell ⟨B, 3, none⟩ (.int .i64 q3)).setCell ⟨B, 4, none⟩ (.slice pa pn pc) = W5 at s4 oth hS4 hz4 ⊢
      obtain ⟨Wf, hWf⟩ : ∃ X, (W5.setCell ⟨B + 1, 0, none⟩ (.int .i64 0)).setCell ⟨B + 1 + 1, 0, none⟩ (.int .i64 0) = X := ⟨_, rfl⟩
      have oth2 : ∀ k, k ≠ B → k ≠ B + 1 → k ≠ B + 1 + 1 → Wf.heap[k]? = W2.heap[k]? := fun k h1 h2 h3 => by rw [← hWf]; exact (Below.heap_setCell _ _ _ _ h3).trans ((Below.heap_setCell _ _ _ _ h2).trans (oth k h1))
      have f0 : Wf.heap[B]? = some (.cells #[.string q0, .string q1, .int .i64 q2, .int .i64 q3, .slice pa pn pc] 24 (0, 0)) := by rw [← hWf]; exact (Below.heap_setCell _ _ _ _ (by show B ≠ B + 1 + 1; omega)).trans ((Below.heap_setCell _ _ _ _ (by show B ≠ B + 1; omega)).trans s4)
      have e1 : W5.heap[B + 1]? = some (.cells #[.int .i64 0] 3 (0, 0)) := (oth _ (by omega)).trans b1
      have e2 : W5.heap[B + 1 + 1]? = some (.cells #[.int .i64 0] 31 (0, 0)) := (oth _ (by omega)).trans b2
      have g1 := Go.Joins.block_setCell e1 (i := 0) (.int .i64 0)
      have g2 : (W5.setCell ⟨B + 1, 0, none⟩ (.int .i64 0)).heap[B + 1 + 1]? = _ := (Below.heap_setCell _ _ _ _ (by show B + 1 + 1 ≠ B + 1; omega)).trans e2
      have f1 : Wf.heap[B + 1]? = some (.cells #[.int .i64 0] 3 (0, 0)) := by rw [← hWf]; exact (Below.heap_setCell _ _ _ _ (by show B + 1 ≠ B + 1 + 1; omega)).trans g1
      have f2 : Wf.heap[B + 1 + 1]? = some (.cells #[.int .i64 0] 31 (0, 0)) := by rw [← hWf]; exact Go.Joins.block_setCell g2 (.int .i64 0)
      have hSf : Stay O O2 W Wf := by rw [← hWf]; exact stay_set (stay_set hS4 (hOB _ (by show B ≤ B + 1; omega))) (hOB _ (by show B ≤ B + 1 + 1; omega))
      have hzf : W2.heap.size ≤ Wf.heap.size := by rw [← hWf]; simp; omega
      have hkf : KidsIn Wf (Fr O2 Wf) p (.slice pa pn pc) := by
        have hl := kids_leave (W := W2) (R := Fr O2 W2) (X := fun g => g = B ∨ g = B + 1 ∨ g = B + 1 + 1) (fun g off k hg hk => by
          rcases hg with rfl | rfl | rfl
          · exact blank_block b0 off k hk
          · exact int_block b1 off k
          · exact int_block b2 off k) p _ (HN.out p rfl) HK.out
        refine KidsIn.later (fun g hg _ => oth2 g (fun e => hg.2 (.inl e)) (fun e => hg.2 (.inr (.inl e))) (fun e => hg.2 (.inr (.inr e)))) (fun g hg => ?_) p _ hl
        have ho := oth2 g (fun e => hg.2 (.inl e)) (fun e => hg.2 (.inr (.inl e))) (fun e => hg.2 (.inr (.inr e)))
        exact ⟨Nat.lt_of_lt_of_le hg.1.1 hzf, hg.1.2.1, by rw [ho]; exact hg.1.2.2⟩
      rw [hWf]
      have hT : Told L size O W (Fate.part p) (.returned (.tuple #[.agg #[.string q0, .string q1, .int .i64 q2, .int .i64 q3, .slice pa pn pc], .int .i64 0, .int .i64 0])) Wf := ⟨_, O2, by rw [H5.out], hkf, hSf⟩
      have y0 : Wf.cell? ⟨B, 0, none⟩ = some (.string q0) := by simp [World.cell?, f0]
      have y1 : Wf.cell? ⟨B, 1, none⟩ = some (.string q1) := by simp [World.cell?, f0]
      have y2 : Wf.cell? ⟨B, 2, none⟩ = some (.int .i64 q2) := by simp [World.cell?, f0]
      have y3 : Wf.cell? ⟨B, 3, none⟩ = some (.int .i64 q3) := by simp [World.cell?, f0]
      have y4 : Wf.cell? ⟨B, 4, none⟩ = some (.slice pa pn pc) := by simp [World.cell?, f0]
      have y5 : Wf.cell? ⟨B + 1, 0, none⟩ = some (.int .i64 0) := by simp [World.cell?, f1]
      have y6 : Wf.cell? ⟨B + 1 + 1, 0, none⟩ = some (.int .i64 0) := by simp [World.cell?, f2]
      clear f0 f1 f2 b0 b1 b2 s0 s1 s2 s3 s4 oth oth2 e1 e2 g1 g2 hS4 hz4 hSf hkf hzf c0 c1 c2 c3 c4 k4 z0 z1 z2 z3 z4 z5 z6 fz fz1 fz2 hOB
      simp [Leaves, Go.settle, results, Tryd.results21, go_sem, y0, y1, y2, y3, y4, y5, y6]
      exact hT
    · obtain ⟨x, R, hx⟩ : ∃ x R, s.todo = x :: R := by
        cases h : s.todo with
        | nil => exact absurd h ht
        | cons x R => exact ⟨x, R, rfl⟩
      obtain ⟨g, c, v, O3, k2, k2z, kv, hgc, hv, hM3, hS3⟩ := todo_pop HM2.out hx
      obtain ⟨w3, hw3⟩ : ∃ w3, wr.setCell ⟨d, 2, none⟩ (.slice (some ⟨g, 0, none⟩) R.length c) = w3 := ⟨_, rfl⟩
      rw [hw3] at hv hM3 hS3
      have hexec : stepS L size s = exec L size x { s with todo := R } := by unfold stepS; rw [hx]
      have hZ := HZ.out
      have hB := HB.out
      have hRl : R.length + 1 ≤ 6 * m + 3 := by have := hZ.todo; rw [hx] at this; exact this
      have hm : m ≤ 160100 := by have := Hl.out; omega
      have hstep := comes_step HC.out (by rw [hx]; simp)
      have hne : exec L size x { s with todo := R } ≠ .stuck := by
        rw [← hexec]
        rcases hstep with ⟨h, _⟩ | ⟨_, _, _, h, _⟩ <;> rw [h] <;> simp
      have hsm : Small L { s with todo := R } := ⟨HOk.out.1, by have := Hl.out; omega, by have := Hl.out; show R.length ≤ _; omega, by have := hZ.opn; have := Hl.out; show s.opn.length ≤ _; omega, fun o ho => by have := hZ.kids o ho; have := Hl.out; omega⟩
      have hst := step_any hM3 hsm (HG2.out.stay hS3) (fun o ho => by have := hZ.kids o ho; have := Hl.out; omega) (by have := hZ.opn; have := Hl.out; show s.opn.length < _; omega) hZ.some' hv hne
      rw [← hexec] at hst
      have hRb : R.length ≤ 1000000 := by have := Hl.out; omega
      obtain ⟨rl, hrl⟩ : ∃ rl, R.length = rl := ⟨_, rfl⟩
      rw [hrl] at k2 kv hgc hw3 hRb
      obtain ⟨n1, hn1⟩ : ∃ n1, n1 = rl + 1 := ⟨_, rfl⟩
      rw [← hn1] at k2 hgc
      have HW3 := Lib.hid hw3
      have HStep := Lib.hid hstep
      have HZ' := Lib.hid hZ
      have HS3 := Lib.hid hS3
      rcases hst with ⟨f, rfl, hcf, hcl⟩ | ⟨f, b1, b2, rfl, hcf, hcl⟩
      · skip
        have HCl := Lib.hid hcl
        clear hS3 hstep hZ hB hne hsm hexec hRl hm hx ht hM3 hv hw3 hcl
        go_wp2_with fail
        rw [HW3.out]
        refine HCl.out.mono ?_
        rintro e w4 hD
        rcases HStep.out with ⟨h1, rfl⟩ | ⟨k1, s1, hk1, h1, hcm⟩
        · rw [h1] at hD
          obtain ⟨rfl, hb4⟩ := hD
          have Hb4 := Lib.hid hb4
          clear hb4 h1
          dsimp only
          go_wp2_with fail
          have hS5 := ((HS2.out.trans HS3.out).trans (Stay.of_below Hb4.out))
          have b0 := (hS5.at HF0.out).trans HP.out.1
          have b1 := (hS5.at HF1.out).trans HP.out.2.1
          have b2 := (hS5.at HF2.out).trans HP.out.2.2
          obtain ⟨B, hBq⟩ : ∃ B, W.heap.size = B := ⟨_, rfl⟩
          rw [hBq] at b0 b1 b2 ⊢
          obtain ⟨z, hzz⟩ : ∃ z, (tok L size s.i).f = z := ⟨_, rfl⟩
          rw [hzz]
          refine leaves_cons (f := 23) (args := #[.pointer (some ⟨B + 1, 0, none⟩), .pointer (some ⟨B + 1 + 1, 0, none⟩)]) (by simp) (by simp [go_sem]) ?_
          have b1' := Go.Joins.block_setCell b1 (i := 0) (.int .i64 z)
          have b2' : (w4.setCell ⟨B + 1, 0, none⟩ (.int .i64 z)).heap[B + 1 + 1]? = _ := (Below.heap_setCell _ _ _ _ (by show B + 1 + 1 ≠ B + 1; omega)).trans b2
          refine (catch_wrong ⟨B + 1, 0, none⟩ ⟨B + 1 + 1, 0, none⟩ 0 0 z [] w4 (by simp [World.cell?, b1]) (by simp [World.frozen?, b1]) (by simp [World.cell?, b2']) (by simp [World.frozen?, b2'])).mono ?_
          rintro e u' w'' ⟨rfl, rfl, rfl⟩
          have hSf : Stay O O3 W ((w4.setCell ⟨B + 1, 0, none⟩ (.int .i64 z)).setCell ⟨B + 1 + 1, 0, none⟩ (.int .i64 101)) := stay_set (stay_set ((Stay.of_below HV.out).trans hS5) (by omega)) (by omega)
          have b0' : (w4.setCell ⟨B + 1, 0, none⟩ (.int .i64 z)).heap[B]? = _ := (Below.heap_setCell _ _ _ _ (by show B ≠ B + 1; omega)).trans b0
          obtain ⟨Wf, hWf⟩ : ∃ X, (w4.setCell ⟨B + 1, 0, none⟩ (.int .i64 z)).setCell ⟨B + 1 + 1, 0, none⟩ (.int .i64 101) = X := ⟨_, rfl⟩
          have f0 : Wf.heap[B]? = some (.cells #[.string ⟨#[]⟩, .string ⟨#[]⟩, .int .i64 0, .int .i64 0, .slice none 0 0] 24 (0, 0)) := by rw [← hWf]; exact (Below.heap_setCell _ _ _ _ (by show B ≠ B + 1 + 1; omega)).trans b0'
          have f1 : Wf.heap[B + 1]? = some (.cells #[.int .i64 z] 3 (0, 0)) := by rw [← hWf]; exact (Below.heap_setCell _ _ _ _ (by show B + 1 ≠ B + 1 + 1; omega)).trans b1'
          have f2 : Wf.heap[B + 1 + 1]? = some (.cells #[.int .i64 101] 31 (0, 0)) := by rw [← hWf]; exact Go.Joins.block_setCell b2' (.int .i64 101)
          rw [hWf] at hSf ⊢
          have hT : Told L size O W (Fate.bad s.i) (.returned (.tuple #[noPart, .int .i64 z, .int .i64 101])) Wf := ⟨O3, by rw [hzz], hSf⟩
          have y0 : Wf.cell? ⟨B, 0, none⟩ = some (.string ⟨#[]⟩) := by simp [World.cell?, f0]
          have y1 : Wf.cell? ⟨B, 1, none⟩ = some (.string ⟨#[]⟩) := by simp [World.cell?, f0]
          have y2 : Wf.cell? ⟨B, 2, none⟩ = some (.int .i64 0) := by simp [World.cell?, f0]
          have y3 : Wf.cell? ⟨B, 3, none⟩ = some (.int .i64 0) := by simp [World.cell?, f0]
          have y4 : Wf.cell? ⟨B, 4, none⟩ = some (.slice none 0 0) := by simp [World.cell?, f0]
          have y5 : Wf.cell? ⟨B + 1, 0, none⟩ = some (.int .i64 z) := by simp [World.cell?, f1]
          have y6 : Wf.cell? ⟨B + 1 + 1, 0, none⟩ = some (.int .i64 101) := by simp [World.cell?, f2]
          clear f0 f1 f2 b0 b1 b2 b0' b1' b2' hSf hS5
          simp [Leaves, Go.settle, results, Tryd.results21, go_sem, y0, y1, y2, y3, y4, y5, y6]
          exact hT
        · rw [h1] at hD
          obtain ⟨rfl, O4, hM4, hS4⟩ := hD
          have hz1 := sz_step HZ.out h1
          have hok1 := okay_step size HL.out HOk.out h1
          have HM4 := Lib.hid hM4
          have HS4 := Lib.hid ((HS2.out.trans HS3.out).trans hS4)
          have HG4 := Lib.hid ((HG2.out.stay HS3.out).stay hS4)
          have HZ4 := Lib.hid hz1
          have HO4 := Lib.hid hok1
          have HC4 := Lib.hid hcm
          have HK1 := Lib.hid hk1
          clear hM4 hS4 hz1 hok1 hcm h1 hk1
          dsimp only
          go_wp2_with fail
          go_roundg k1
          case rel => exact ⟨m + 1, s1, O4, HC4, HZ4, Lib.hid (by have := HB.out; have := HK1.out; omega), HO4, HM4, HS4, HG4⟩
          case measure => have := HK1.out; omega
      · skip
        have HCl := Lib.hid hcl
        clear hS3 hstep hZ hB hne hsm hexec hRl hm hx ht hM3 hv hw3 hcl
        go_wp2_with fail
        rw [HW3.out]
        refine HCl.out.mono ?_
        rintro e w4 hD
        rcases HStep.out with ⟨h1, rfl⟩ | ⟨k1, s1, hk1, h1, hcm⟩
        · rw [h1] at hD
          obtain ⟨rfl, hb4⟩ := hD
          have Hb4 := Lib.hid hb4
          clear hb4 h1
          dsimp only
          go_wp2_with fail
          have hS5 := ((HS2.out.trans HS3.out).trans (Stay.of_below Hb4.out))
          have b0 := (hS5.at HF0.out).trans HP.out.1
          have b1 := (hS5.at HF1.out).trans HP.out.2.1
          have b2 := (hS5.at HF2.out).trans HP.out.2.2
          obtain ⟨B, hBq⟩ : ∃ B, W.heap.size = B := ⟨_, rfl⟩
          rw [hBq] at b0 b1 b2 ⊢
          obtain ⟨z, hzz⟩ : ∃ z, (tok L size s.i).f = z := ⟨_, rfl⟩
          rw [hzz]
          refine leaves_cons (f := 23) (args := #[.pointer (some ⟨B + 1, 0, none⟩), .pointer (some ⟨B + 1 + 1, 0, none⟩)]) (by simp) (by simp [go_sem]) ?_
          have b1' := Go.Joins.block_setCell b1 (i := 0) (.int .i64 z)
          have b2' : (w4.setCell ⟨B + 1, 0, none⟩ (.int .i64 z)).heap[B + 1 + 1]? = _ := (Below.heap_setCell _ _ _ _ (by show B + 1 + 1 ≠ B + 1; omega)).trans b2
          refine (catch_wrong ⟨B + 1, 0, none⟩ ⟨B + 1 + 1, 0, none⟩ 0 0 z [] w4 (by simp [World.cell?, b1]) (by simp [World.frozen?, b1]) (by simp [World.cell?, b2']) (by simp [World.frozen?, b2'])).mono ?_
          rintro e u' w'' ⟨rfl, rfl, rfl⟩
          have hSf : Stay O O3 W ((w4.setCell ⟨B + 1, 0, none⟩ (.int .i64 z)).setCell ⟨B + 1 + 1, 0, none⟩ (.int .i64 101)) := stay_set (stay_set ((Stay.of_below HV.out).trans hS5) (by omega)) (by omega)
          have b0' : (w4.setCell ⟨B + 1, 0, none⟩ (.int .i64 z)).heap[B]? = _ := (Below.heap_setCell _ _ _ _ (by show B ≠ B + 1; omega)).trans b0
          obtain ⟨Wf, hWf⟩ : ∃ X, (w4.setCell ⟨B + 1, 0, none⟩ (.int .i64 z)).setCell ⟨B + 1 + 1, 0, none⟩ (.int .i64 101) = X := ⟨_, rfl⟩
          have f0 : Wf.heap[B]? = some (.cells #[.string ⟨#[]⟩, .string ⟨#[]⟩, .int .i64 0, .int .i64 0, .slice none 0 0] 24 (0, 0)) := by rw [← hWf]; exact (Below.heap_setCell _ _ _ _ (by show B ≠ B + 1 + 1; omega)).trans b0'
          have f1 : Wf.heap[B + 1]? = some (.cells #[.int .i64 z] 3 (0, 0)) := by rw [← hWf]; exact (Below.heap_setCell _ _ _ _ (by show B + 1 ≠ B + 1 + 1; omega)).trans b1'
          have f2 : Wf.heap[B + 1 + 1]? = some (.cells #[.int .i64 101] 31 (0, 0)) := by rw [← hWf]; exact Go.Joins.block_setCell b2' (.int .i64 101)
          rw [hWf] at hSf ⊢
          have hT : Told L size O W (Fate.bad s.i) (.returned (.tuple #[noPart, .int .i64 z, .int .i64 101])) Wf := ⟨O3, by rw [hzz], hSf⟩
          have y0 : Wf.cell? ⟨B, 0, none⟩ = some (.string ⟨#[]⟩) := by simp [World.cell?, f0]
          have y1 : Wf.cell? ⟨B, 1, none⟩ = some (.string ⟨#[]⟩) := by simp [World.cell?, f0]
          have y2 : Wf.cell? ⟨B, 2, none⟩ = some (.int .i64 0) := by simp [World.cell?, f0]
          have y3 : Wf.cell? ⟨B, 3, none⟩ = some (.int .i64 0) := by simp [World.cell?, f0]
          have y4 : Wf.cell? ⟨B, 4, none⟩ = some (.slice none 0 0) := by simp [World.cell?, f0]
          have y5 : Wf.cell? ⟨B + 1, 0, none⟩ = some (.int .i64 z) := by simp [World.cell?, f1]
          have y6 : Wf.cell? ⟨B + 1 + 1, 0, none⟩ = some (.int .i64 101) := by simp [World.cell?, f2]
          clear f0 f1 f2 b0 b1 b2 b0' b1' b2' hSf hS5
          simp [Leaves, Go.settle, results, Tryd.results21, go_sem, y0, y1, y2, y3, y4, y5, y6]
          exact hT
        · rw [h1] at hD
          obtain ⟨rfl, O4, hM4, hS4⟩ := hD
          have hz1 := sz_step HZ.out h1
          have hok1 := okay_step size HL.out HOk.out h1
          have HM4 := Lib.hid hM4
          have HS4 := Lib.hid ((HS2.out.trans HS3.out).trans hS4)
          have HG4 := Lib.hid ((HG2.out.stay HS3.out).stay hS4)
          have HZ4 := Lib.hid hz1
          have HO4 := Lib.hid hok1
          have HC4 := Lib.hid hcm
          have HK1 := Lib.hid hk1
          clear hM4 hS4 hz1 hok1 hcm h1 hk1
          dsimp only
          go_wp2_with fail
          go_roundg k1
          case rel => exact ⟨m + 1, s1, O4, HC4, HZ4, Lib.hid (by have := HB.out; have := HK1.out; omega), HO4, HM4, HS4, HG4⟩
          case measure => have := HK1.out; omega
end
end Go.Proofs.YtnjhmjkonmmomaaDoor.K
end
/- PPlain: Plain facts for the program's scanner: how many bytes stand ahead of the first scalar that is not of a sort, counted byte by byte. -/
section
namespace Go.Proofs.YtnjhmjkonmmomaaDoor.S
open Go.RowKit
open Go.Lib hiding intOf
open Go.Proofs.YtnjhmjkonmmomaaDoor.U Go.Proofs.YtnjhmjkonmmomaaDoor.L

theorem decodeN_high (n b0 b1 b2 b3 : Nat) (h0 : 128 ≤ b0) : 128 ≤ (decodeN n b0 b1 b2 b3).1 ∧ (1 < (decodeN n b0 b1 b2 b3).2 → 1 < n ∧ 128 ≤ b1) ∧ (2 < (decodeN n b0 b1 b2 b3).2 → 2 < n ∧ 128 ≤ b2) ∧ (3 < (decodeN n b0 b1 b2 b3).2 → 3 < n ∧ 128 ≤ b3) ∧ (decodeN n b0 b1 b2 b3).2 ≤ 4 := by
  unfold decodeN
  repeat' split
  all_goals (simp only; omega)
theorem item_low {s : ByteArray} {i : Nat} (h : i < s.size) (hc : s[i].toNat < 128) : Utf8.decode s i = (s[i].toNat, 1) := by
  rw [decode_at, Utf8W.get!_of_lt s i h, decodeN_low _ _ _ _ _ hc]
theorem item_high {s : ByteArray} {i : Nat} (h : i < s.size) (hc : 128 ≤ s[i].toNat) : 128 ≤ (Utf8.decode s i).1 ∧ ∀ j (hj : j < s.size), i ≤ j → j < i + (Utf8.decode s i).2 → 128 ≤ s[j].toNat := by
  have hd := decodeN_high (s.size - i) (s.get! i).toNat (s.get! (i + 1)).toNat (s.get! (i + 2)).toNat (s.get! (i + 3)).toNat (by rw [Utf8W.get!_of_lt s i h]; exact hc)
  rw [← decode_at] at hd
  obtain ⟨h1, h2, h3, h4, h5⟩ := hd
  refine ⟨h1, fun j hj hij hlt => ?_⟩
  have hg := fun (k : Nat) (hk : k < s.size) => Utf8W.get!_of_lt s k hk
  rcases (show j = i ∨ j = i + 1 ∨ j = i + 2 ∨ j = i + 3 by omega) with rfl | rfl | rfl | rfl
  · exact hc
  · have := (h2 (by omega)).2; rwa [hg _ hj] at this
  · have := (h3 (by omega)).2; rwa [hg _ hj] at this
  · have := (h4 (by omega)).2; rwa [hg _ hj] at this
/-- A sort of scalars, and the bytes that it has. -/
structure SortP (P : Nat → Bool) (q : UInt8 → Bool) : Prop where
  low : ∀ c : UInt8, c.toNat < 128 → P c.toNat = q c
  high : ∃ d, (∀ r, 128 ≤ r → P r = d) ∧ ∀ c : UInt8, 128 ≤ c.toNat → q c = d
theorem whileAt_skip {q : UInt8 → Bool} {s : ByteArray} {i : Nat} : ∀ k, i + k ≤ s.size → (∀ j (hj : j < s.size), i ≤ j → j < i + k → q s[j] = true) → whileAt q s (i + k) = whileAt q s i
  | 0, _, _ => rfl
  | k + 1, h, hp => by
    rw [show i + (k + 1) = (i + k) + 1 by omega, whileAt_on (by omega) (hp (i + k) (by omega) (by omega) (by omega))]
    exact whileAt_skip k (by omega) (fun j hj h1 h2 => hp j hj h1 (by omega))
theorem span_on {P : Nat → Bool} {q : UInt8 → Bool} (hS : SortP P q) {s : ByteArray} {i : Nat} (h : i < s.size) (hp : P (Utf8.decode s i).1 = true) : whileAt q s (i + (Utf8.decode s i).2) = whileAt q s i := by
  by_cases hc : s[i].toNat < 128
  · have e := item_low h hc
    rw [e] at hp ⊢
    rw [hS.low _ hc] at hp
    exact whileAt_on h hp
  · obtain ⟨d, h1, h2⟩ := hS.high
    obtain ⟨h3, h4⟩ := item_high h (by omega)
    rw [h1 _ h3] at hp
    have hw := width_le s i h
    exact whileAt_skip _ hw (fun j hj g1 g2 => by rw [h2 _ (h4 j hj g1 g2)]; exact hp)
theorem span_off {P : Nat → Bool} {q : UInt8 → Bool} (hS : SortP P q) {s : ByteArray} {i : Nat} (h : i < s.size) (hp : P (Utf8.decode s i).1 = false) : whileAt q s i = i := by
  by_cases hc : s[i].toNat < 128
  · have e := item_low h hc
    rw [e, hS.low _ hc] at hp
    exact whileAt_off h hp
  · obtain ⟨d, h1, h2⟩ := hS.high
    rw [h1 _ (item_high h (by omega)).1] at hp
    exact whileAt_off h (by rw [h2 _ (by omega)]; exact hp)
/-! ### The four sorts -/
def rLett (r : Nat) : Bool := decide ((97 ≤ r ∧ r ≤ 122) ∨ (65 ≤ r ∧ r ≤ 90) ∨ r = 95)
def rFig (r : Nat) : Bool := decide (48 ≤ r ∧ r ≤ 57)
def rName (r : Nat) : Bool := rLett r || rFig r
def rQuo (r : Nat) : Bool := decide (r ≠ 34 ∧ r ≠ 10)
def rLine (r : Nat) : Bool := decide (r ≠ 10)
def inQuo (c : UInt8) : Bool := decide (c ≠ 34 ∧ c ≠ 10)
theorem lett_r (c : UInt8) : rLett c.toNat = lett c := by
  unfold lett rLett
  have : decide (c = 95) = decide (c.toNat = 95) := by
    rw [decide_eq_decide]
    exact ⟨fun h => by rw [h]; rfl, fun h => UInt8.toNat_inj.1 h⟩
  rw [this]
  simp [UInt8.le_iff_toNat_le, Bool.or_assoc]
theorem fig_r (c : UInt8) : rFig c.toNat = figu c := by unfold figu rFig; simp [UInt8.le_iff_toNat_le]
theorem name_r (c : UInt8) : rName c.toNat = nmc c := by unfold rName nmc; rw [lett_r, fig_r]
theorem ne_r (c d : UInt8) : (c.toNat ≠ d.toNat) ↔ c ≠ d := ⟨fun h e => h (by rw [e]), fun h e => h (UInt8.toNat_inj.1 e)⟩
theorem line_r (c : UInt8) : rLine c.toNat = not10 c := by
  unfold rLine not10
  rw [decide_eq_decide]
  exact ne_r c 10
theorem quo_r (c : UInt8) : rQuo c.toNat = inQuo c := by
  unfold rQuo inQuo
  rw [decide_eq_decide]
  exact and_congr (ne_r c 34) (ne_r c 10)
theorem sort_of {P : Nat → Bool} {q : UInt8 → Bool} (h : ∀ c : UInt8, P c.toNat = q c) (d : Bool) (hd : ∀ r, 128 ≤ r → P r = d) : SortP P q :=
  ⟨fun c _ => h c, d, hd, fun c hc => by rw [← h c]; exact hd _ hc⟩
theorem sortName : SortP rName nmc := sort_of name_r false (fun r h => by unfold rName rLett rFig; simp; omega)
theorem sortFig : SortP rFig figu := sort_of fig_r false (fun r h => by unfold rFig; simp; omega)
theorem sortLine : SortP rLine not10 := sort_of line_r true (fun r h => by unfold rLine; simp; omega)
theorem sortQuo : SortP rQuo inQuo := sort_of quo_r true (fun r h => by unfold rQuo; simp; omega)
/-! ### What the program's parts make of a rest -/
theorem pre_two (l : By) : Lib.hasPrefix l [47, 47] = (match l with | a :: b :: _ => a == 47 && b == 47 | _ => false) := by
  unfold Lib.hasPrefix
  match l with
  | [] => rfl
  | [a] => simp [List.isPrefixOf]
  | a :: b :: r => simp [List.isPrefixOf, Bool.beq_comm]
theorem cmt_pre (s : ByteArray) : (Lib.hasPrefix s.toList [47, 47] = true ∧ 0 < cmtLen s.toList ∧ whileAt not10 s 0 = cmtLen s.toList) ∨ (Lib.hasPrefix s.toList [47, 47] = false ∧ cmtLen s.toList = 0) := by
  unfold whileAt
  rw [pre_two, List.drop_zero, Nat.zero_add]
  generalize s.toList = l
  match l with
  | [] => exact .inr ⟨rfl, rfl⟩
  | [a] => exact .inr ⟨rfl, rfl⟩
  | a :: b :: r =>
    by_cases h : a = 47 ∧ b = 47
    · obtain ⟨rfl, rfl⟩ := h
      refine .inl ⟨rfl, ?_, ?_⟩
      · simp only [cmtLen, and_self, if_true]; omega
      · have e : not10 47 = true := by decide
        have : (fun c : UInt8 => decide (c ≠ 10)) = not10 := rfl
        simp only [cmtLen, and_self, if_true, List.takeWhile_cons, e, List.length_cons, this]; omega
    · refine .inr ⟨?_, ?_⟩
      · simp only
        rw [Bool.and_eq_false_iff]
        by_cases h1 : a = 47
        · exact .inr (by simpa using fun h2 => h ⟨h1, h2⟩)
        · exact .inl (by simpa using h1)
      · simp only [cmtLen]; rw [if_neg h]
theorem quoTail_is : ∀ r : By, quoTail r = (if r[(r.takeWhile inQuo).length]? = some 34 then some ((r.takeWhile inQuo).length + 1) else none)
  | [] => by simp [quoTail]
  | c :: r => by
    have ih := quoTail_is r
    by_cases h10 : c = 10
    · subst h10; simp [quoTail, inQuo]
    · by_cases h34 : c = 34
      · subst h34; simp [quoTail, inQuo]
      · have hq : inQuo c = true := by simp [inQuo, h10, h34]
        simp only [quoTail, if_neg h10, if_neg h34, List.takeWhile_cons, hq, if_true, List.length_cons, List.getElem?_cons_succ, ih]
        split <;> simp
theorem quo_ends {s : ByteArray} (h0 : 0 < s.size) (hc : s[0] = 34) {k : Nat} (hk : whileAt inQuo (s.extract 1 s.size) 0 = k) :
    (1 + k = s.size ∧ quoLen s.toList = 0) ∨ ∃ h : 1 + k < s.size, (s[1 + k] = 34 ∧ quoLen s.toList = 1 + k + 1) ∨ (s[1 + k] ≠ 34 ∧ quoLen s.toList = 0) := by
  have hl := tl_drop s h0
  rw [List.drop_zero] at hl
  unfold whileAt at hk
  rw [Nat.zero_add, List.drop_zero, ext_drop] at hk
  have hle := tw_le inQuo (s.toList.drop 1)
  rw [hk, List.length_drop, tl_len] at hle
  have hql : quoLen s.toList = (match quoTail (s.toList.drop 1) with | none => 0 | some n => n + 1) := by
    rw [show quoLen s.toList = quoLen (34 :: s.toList.drop (0 + 1)) from congrArg quoLen (hl.trans (by rw [hc]))]
    simp only [quoLen, if_true]; rfl
  rw [quoTail_is, hk, List.getElem?_drop] at hql
  by_cases he : 1 + k = s.size
  · left
    refine ⟨he, ?_⟩
    rw [List.getElem?_eq_none (by rw [tl_len]; omega)] at hql
    simpa using hql
  · right
    have hlt : 1 + k < s.size := by omega
    refine ⟨hlt, ?_⟩
    rw [tl_get s hlt] at hql
    by_cases h34 : s[1 + k] = 34
    · left
      rw [h34, if_pos rfl] at hql
      refine ⟨h34, ?_⟩
      simp only at hql; omega
    · right
      refine ⟨h34, ?_⟩
      rw [if_neg (by intro e; exact h34 (Option.some.inj e))] at hql
      simpa using hql
theorem two_min (s : ByteArray) (h0 : 0 < s.size) {m : Nat} (hm : m = if 2 ≤ s.size then 2 else s.size) {t : By} (ht : (s.extract 0 m).toList = t) :
    two s.toList = ((t == [58, 61]) || (t == [61, 61]) || (t == [33, 61]) || (t == [60, 61]) || (t == [62, 61]) || (t == [38, 38]) || (t == [124, 124])) := by
  subst ht
  by_cases h2 : 2 ≤ s.size
  · rw [if_pos h2] at hm
    subst hm
    obtain ⟨t, h1, h3⟩ := two_or s h2
    rw [h1]; exact h3
  · rw [if_neg h2] at hm
    have hz : m = 1 := by omega
    subst hz
    rw [two_short s (by omega), ext_take]
    have hl := tl_len s
    match hh : s.toList with
    | [] => rw [hh] at hl; simp at hl; omega
    | [a] => simp
    | a :: b :: r => rw [hh] at hl; simp at hl; omega
theorem word_name {right : Bool} {s : ByteArray} (h0 : 0 < s.size) (hc : lett s[0] = true) : wordL right s.toList = (if keyB (s.extract 0 (whileAt nmc s 0)).toList then 3 else 0, whileAt nmc s 0) ∧ 0 < whileAt nmc s 0 ∧ whileAt nmc s 0 ≤ s.size := by
  have hn : nameLen s.toList = whileAt nmc s 0 := by
    unfold whileAt
    rw [Nat.zero_add, List.drop_zero]
    have hl := tl_drop s h0
    rw [List.drop_zero] at hl
    rw [hl]
    have : nmc s[0] = true := by unfold nmc; rw [hc]; rfl
    simp only [nameLen, hc, if_true, List.takeWhile_cons, this, List.length_cons]; omega
  have hle := name_le s.toList
  rw [hn, tl_len] at hle
  have hp : 0 < whileAt nmc s 0 := by
    rw [← hn]
    have hl := tl_drop s h0
    rw [List.drop_zero] at hl
    rw [hl]
    simp only [nameLen, hc, if_true]; omega
  refine ⟨?_, hp, hle⟩
  unfold wordL
  rw [hn, if_pos hp, ext_take]
theorem name_no {s : ByteArray} (h0 : 0 < s.size) (hc : lett s[0] = false) : nameLen s.toList = 0 := by
  have hl := tl_drop s h0
  rw [List.drop_zero] at hl
  rw [hl]
  simp [nameLen, hc]
theorem num_is (s : ByteArray) : numLen s.toList = whileAt figu s 0 := by
  unfold numLen whileAt
  rw [Nat.zero_add, List.drop_zero]
theorem num_no {s : ByteArray} (h0 : 0 < s.size) (hc : figu s[0] = false) : numLen s.toList = 0 := by
  rw [num_is, whileAt_off h0 hc]
theorem word_num {right : Bool} {s : ByteArray} (h0 : 0 < s.size) (hc : lett s[0] = false) (hf : figu s[0] = true) : wordL right s.toList = (1, whileAt figu s 0) ∧ 0 < whileAt figu s 0 ∧ whileAt figu s 0 ≤ s.size := by
  have hp : 0 < whileAt figu s 0 := by
    rw [← whileAt_on h0 hf]
    unfold whileAt; omega
  have hle : numLen s.toList ≤ s.toList.length := tw_le _ _
  rw [num_is, tl_len] at hle
  refine ⟨?_, hp, hle⟩
  unfold wordL
  rw [name_no h0 hc, if_neg (by omega), num_is, if_pos hp]
theorem quo_no {s : ByteArray} (h0 : 0 < s.size) (hc : s[0] ≠ 34) : quoLen s.toList = 0 := by
  have hl := tl_drop s h0
  rw [List.drop_zero] at hl
  rw [hl]
  simp [quoLen, hc]
theorem word_quo {right : Bool} {s : ByteArray} (h0 : 0 < s.size) (hc : lett s[0] = false) (hf : figu s[0] = false) (hq : 0 < quoLen s.toList) : wordL right s.toList = (2, quoLen s.toList) := by
  unfold wordL
  rw [name_no h0 hc, if_neg (by omega), num_no h0 hf, if_neg (by omega), if_pos hq]
theorem word_semi {right : Bool} {s : ByteArray} (h0 : 0 < s.size) (hc : s[0] = 59) : wordL right s.toList = (5, 1) := by
  have hl := tl_drop s h0
  rw [List.drop_zero] at hl
  unfold wordL
  rw [name_no h0 (by rw [hc]; decide), if_neg (by omega), num_no h0 (by rw [hc]; decide), if_neg (by omega), quo_no h0 (by rw [hc]; decide), if_neg (by omega), if_pos (by rw [hl, hc]; rfl)]
theorem word_mark {right : Bool} {s : ByteArray} (h0 : 0 < s.size) (hc : lett s[0] = false) (hf : figu s[0] = false) (hq : quoLen s.toList = 0) (h59 : s[0] ≠ 59) : wordL right s.toList = (4, markLen right s.toList) := by
  have hl := tl_drop s h0
  rw [List.drop_zero] at hl
  unfold wordL
  rw [name_no h0 hc, if_neg (by omega), num_no h0 hf, if_neg (by omega), hq, if_neg (by omega), if_neg (by rw [hl]; simpa using h59)]
end Go.Proofs.YtnjhmjkonmmomaaDoor.S
end
/- PSmall: Contracts of package scan's Key, Ends, sortOf and its sorts of scalars. -/
section
namespace Go.Proofs.YtnjhmjkonmmomaaDoor.S
open Go.RowKit
open Go.Lib hiding intOf
open Go.Proofs.YtnjhmjkonmmomaaDoor.U Go.Proofs.YtnjhmjkonmmomaaDoor.L

set_option maxRecDepth 20000 in
theorem line_any (r : Nat) (w : World) : Calls Tryd.prog 50 #[.int .i32 r] w fun e w' => e = .returned (.bool (rLine r)) ∧ w = w' := by
  obtain ⟨R, hR⟩ : ∃ R, rLine r = R := ⟨_, rfl⟩
  have HR := Lib.hid hR
  rw [hR]
  clear hR
  go_enter Tryd.func50, Tryd.ntmps50
  go_wp2_with fail
  all_goals (go_ret; exact ⟨retB (by rw [← HR.out, Bool.eq_iff_iff]; simp [rLine]; omega), rfl⟩)
set_option maxRecDepth 20000 in
theorem inQuo_any (r : Nat) (w : World) : Calls Tryd.prog 72 #[.int .i32 r] w fun e w' => e = .returned (.bool (rQuo r)) ∧ w = w' := by
  obtain ⟨R, hR⟩ : ∃ R, rQuo r = R := ⟨_, rfl⟩
  have HR := Lib.hid hR
  rw [hR]
  clear hR
  go_enter Tryd.func72, Tryd.ntmps72
  go_wp2_with fail
  all_goals (go_ret; exact ⟨retB (by rw [← HR.out, Bool.eq_iff_iff]; simp [rQuo]; omega), rfl⟩)
set_option maxRecDepth 20000 in
theorem fig_any (r : Nat) (w : World) : Calls Tryd.prog 54 #[.int .i32 r] w fun e w' => e = .returned (.bool (rFig r)) ∧ w = w' := by
  obtain ⟨R, hR⟩ : ∃ R, rFig r = R := ⟨_, rfl⟩
  have HR := Lib.hid hR
  rw [hR]
  clear hR
  go_enter Tryd.func54, Tryd.ntmps54
  go_wp2_with fail
  all_goals (go_ret; exact ⟨retB (by rw [← HR.out, Bool.eq_iff_iff]; simp [rFig]; omega), rfl⟩)
set_option maxRecDepth 20000 in
theorem lett_any (r : Nat) (w : World) : Calls Tryd.prog 51 #[.int .i32 r] w fun e w' => e = .returned (.bool (rLett r)) ∧ w = w' := by
  obtain ⟨R, hR⟩ : ∃ R, rLett r = R := ⟨_, rfl⟩
  have HR := Lib.hid hR
  rw [hR]
  clear hR
  go_enter Tryd.func51, Tryd.ntmps51
  go_wp2_with fail
  all_goals (go_ret; exact ⟨retB (by rw [← HR.out, Bool.eq_iff_iff]; simp [rLett]; omega), rfl⟩)
def rBlank (r : Nat) : Bool := decide (r = 32 ∨ r = 9 ∨ r = 13)
set_option maxRecDepth 20000 in
theorem blank_any (r : Nat) (w : World) : Calls Tryd.prog 47 #[.int .i32 r] w fun e w' => e = .returned (.bool (rBlank r)) ∧ w = w' := by
  obtain ⟨R, hR⟩ : ∃ R, rBlank r = R := ⟨_, rfl⟩
  have HR := Lib.hid hR
  rw [hR]
  clear hR
  go_enter Tryd.func47, Tryd.ntmps47
  go_wp2_with fail
  all_goals (go_ret; exact ⟨retB (by rw [← HR.out, Bool.eq_iff_iff]; simp [rBlank]; omega), rfl⟩)
set_option maxRecDepth 20000 in
theorem inName_any (r : Nat) (w : World) : Calls Tryd.prog 52 #[.int .i32 r] w fun e w' => e = .returned (.bool (rName r)) ∧ w = w' := by
  have c1 := lett_any r w
  have c2 := fun X => fig_any r X
  unfold rName
  cases ha : rLett r
  · rw [ha] at c1
    clear ha
    go_enter Tryd.func52, Tryd.ntmps52
    go_wp2_with fail
    refine c1.mono ?_
    rintro e w2 ⟨rfl, rfl⟩
    go_wp2_with fail
    refine (c2 w).mono ?_
    rintro e w2 ⟨rfl, rfl⟩
    go_wp2_with fail
    go_ret
    exact ⟨rfl, rfl⟩
  · rw [ha] at c1
    clear ha
    go_enter Tryd.func52, Tryd.ntmps52
    go_wp2_with fail
    refine c1.mono ?_
    rintro e w2 ⟨rfl, rfl⟩
    go_wp2_with fail
    go_ret
    exact ⟨rfl, rfl⟩
set_option maxRecDepth 20000 in
theorem pkey_any (s : ByteArray) (w : World) : Calls Tryd.prog 71 #[.string s] w fun e w' => e = .returned (.bool (keyB s.toList)) ∧ w = w' := by
  obtain ⟨R, hR⟩ : ∃ R, keyB s.toList = R := ⟨_, rfl⟩
  have HR := Lib.hid hR
  rw [hR]
  clear hR
  go_enter Tryd.func71, Tryd.ntmps71
  go_wp2_with fail
  all_goals (go_ret; exact ⟨retB (by first | (exfalso; simp_all; done) | (rw [← HR.out]; simp only [keyB, *]; rfl)), rfl⟩)
set_option maxHeartbeats 4000000 in
set_option maxRecDepth 20000 in
theorem pends_any (k f e' : Int) (t : ByteArray) (w : World) : Calls Tryd.prog 57 #[.agg #[.int .i64 k, .string t, .int .i64 f, .int .i64 e']] w fun e w' => e = .returned (.bool (endsP k t.toList)) ∧ Below w.heap.size w w' := by
  obtain ⟨R, hR⟩ : ∃ R, endsP k t.toList = R := ⟨_, rfl⟩
  rw [hR]
  unfold endsP at hR
  have HR := Lib.hid hR
  clear hR
  go_enter Tryd.func57, Tryd.ntmps57
  go_wp2_with fail
  all_goals (go_ret; refine ⟨retB (by first | (exfalso; simp_all; done) | (exfalso; omega) | (rw [← HR.out]; simp [*]; done) | (rw [← HR.out]; simp_all; done) | (rw [← HR.out]; simp; omega)), (Below.refl _ _).alloc (Nat.le_refl _) _⟩)
set_option maxRecDepth 20000 in
theorem sortOf_any (s : ByteArray) (w : World) : Calls Tryd.prog 53 #[.string s] w fun e w' => e = .returned (.int .i64 (if keyB s.toList then 3 else 0)) ∧ w = w' := by
  have c1 := pkey_any s w
  cases hb : keyB s.toList
  · rw [hb] at c1
    clear hb
    go_enter Tryd.func53, Tryd.ntmps53
    go_wp2_with fail
    refine c1.mono ?_
    rintro e w2 ⟨rfl, rfl⟩
    go_wp2_with fail
    go_ret
    exact ⟨rfl, rfl⟩
  · rw [hb] at c1
    clear hb
    go_enter Tryd.func53, Tryd.ntmps53
    go_wp2_with fail
    refine c1.mono ?_
    rintro e w2 ⟨rfl, rfl⟩
    go_wp2_with fail
    go_ret
    exact ⟨rfl, rfl⟩
end Go.Proofs.YtnjhmjkonmmomaaDoor.S
end
/- PSpan: Contracts of package scan's span, quoteLength. -/
section
namespace Go.Proofs.YtnjhmjkonmmomaaDoor.S
open Go.RowKit
open Go.Lib hiding intOf
open Go.Proofs.YtnjhmjkonmmomaaDoor.U Go.Proofs.YtnjhmjkonmmomaaDoor.L

set_option maxHeartbeats 1000000 in
set_option maxRecDepth 20000 in
theorem span_any {P : Nat → Bool} {q : UInt8 → Bool} (hS : SortP P q) (k : Nat) (s : ByteArray) (w : World) (hs : s.size ≤ 1099511627776)
    (c : ∀ (r : Nat) (X : World), Calls Tryd.prog k #[.int .i32 r] X fun e w' => e = .returned (.bool (P r)) ∧ X = w')
    (he : ∀ args X, (callFunc k args).run Tryd.prog X = .ok (.enter k args) X) :
    Calls Tryd.prog 49 #[.string s, .func (.func k) #[] #[]] w fun e w' => e = .returned (.int .i64 (whileAt q s 0 : Nat)) ∧ Below w.heap.size w w' := by
  obtain ⟨R, hR⟩ : ∃ R, whileAt q s 0 = R := ⟨_, rfl⟩
  have HR := Lib.hid hR
  have HC := Lib.hid c
  rw [hR]
  clear hR c
  go_enter Tryd.func49, Tryd.ntmps49
  go_wp2_with fail
  go_loopw [] (fun w' => ∃ pos : Nat, w' = w.iter s pos ∧ Hid (whileAt q s pos = R) ∧ pos ≤ s.size) (fun w' => s.size - w'.iterPos w.heap.size)
  case atStart => exact ⟨0, rfl, HR, by omega⟩
  case round =>
    obtain ⟨pos, rfl, HO, hp⟩ := hrel
    by_cases hlt : pos < s.size
    · have hnx : ∀ ty, (Instr.next (.pointer (some ⟨w.heap.size, 0, none⟩)) true ty).run Tryd.prog (w.iter s pos) = _ := fun ty => run_next_any w s pos ty hlt
      have hw1 := width_pos s pos hlt
      have hw2 := width_le s pos hlt
      have H1 := Lib.hid (fun h => span_on hS (s := s) hlt h)
      have H2 := Lib.hid (fun h => span_off hS (s := s) hlt h)
      have c1 := HC.out (Utf8.decode s pos).1 (w.iter s (pos + (Utf8.decode s pos).2))
      cases hb : P (Utf8.decode s pos).1
      · have HE := Lib.hid (H2.out hb)
        rw [hb] at c1
        clear hb H1 H2
        go_wp2_with fail
        refine c1.mono ?_
        rintro e w2 ⟨rfl, rfl⟩
        clear c1
        go_wp2_with fail
        go_ret
        exact ⟨by rw [← HO.out, HE.out]; rfl, (Below.refl _ _).alloc (Nat.le_refl _) _⟩
      · have HN := Lib.hid ((H1.out hb).trans HO.out)
        rw [hb] at c1
        clear hb H1 H2
        go_wp2_with fail
        refine c1.mono ?_
        rintro e w2 ⟨rfl, rfl⟩
        clear c1
        go_wp2_with fail
        go_roundw
        case rel => exact ⟨pos + (Utf8.decode s pos).2, rfl, HN, by omega⟩
        case measure => simp; omega
    · have hnx : ∀ ty, (Instr.next (.pointer (some ⟨w.heap.size, 0, none⟩)) true ty).run Tryd.prog (w.iter s pos) = _ := fun ty => run_next_end w s pos ty hlt
      have HE := Lib.hid (whileAt_end q (s := s) (i := pos) (by omega))
      obtain rfl : pos = s.size := by omega
      go_wp2_with fail
      go_ret
      exact ⟨by rw [← HO.out, HE.out]; rfl, (Below.refl _ _).alloc (Nat.le_refl _) _⟩
theorem spanQuo (s : ByteArray) (w : World) (hs : s.size ≤ 1099511627776) : Calls Tryd.prog 49 #[.string s, .func (.func 72) #[] #[]] w fun e w' => e = .returned (.int .i64 (whileAt inQuo s 0 : Nat)) ∧ Below w.heap.size w w' :=
  span_any sortQuo _ s w hs (fun r X => inQuo_any r X) (fun _ _ => by kernel_rfl)
theorem spanLine (s : ByteArray) (w : World) (hs : s.size ≤ 1099511627776) : Calls Tryd.prog 49 #[.string s, .func (.func 50) #[] #[]] w fun e w' => e = .returned (.int .i64 (whileAt not10 s 0 : Nat)) ∧ Below w.heap.size w w' :=
  span_any sortLine _ s w hs (fun r X => line_any r X) (fun _ _ => by kernel_rfl)
theorem spanName (s : ByteArray) (w : World) (hs : s.size ≤ 1099511627776) : Calls Tryd.prog 49 #[.string s, .func (.func 52) #[] #[]] w fun e w' => e = .returned (.int .i64 (whileAt nmc s 0 : Nat)) ∧ Below w.heap.size w w' :=
  span_any sortName _ s w hs (fun r X => inName_any r X) (fun _ _ => by kernel_rfl)
theorem spanFig (s : ByteArray) (w : World) (hs : s.size ≤ 1099511627776) : Calls Tryd.prog 49 #[.string s, .func (.func 54) #[] #[]] w fun e w' => e = .returned (.int .i64 (whileAt figu s 0 : Nat)) ∧ Below w.heap.size w w' :=
  span_any sortFig _ s w hs (fun r X => fig_any r X) (fun _ _ => by kernel_rfl)
set_option maxHeartbeats 1000000 in
set_option maxRecDepth 20000 in
theorem pquote_any (s : ByteArray) (w : World) (hs : s.size ≤ 1099511627776) (h0 : 0 < s.size) (hc : s[0] = 34) : Calls Tryd.prog 55 #[.string s] w fun e w' => e = .returned (.int .i64 (quoLen s.toList : Nat)) ∧ Below w.heap.size w w' := by
  have c1 := spanQuo (s.extract 1 s.size) w (by rw [size_extract s 1 s.size (by omega) (Nat.le_refl _)]; omega)
  obtain ⟨k, hk⟩ : ∃ k, whileAt inQuo (s.extract 1 s.size) 0 = k := ⟨_, rfl⟩
  rw [hk] at c1
  obtain ⟨R, hR⟩ : ∃ R, quoLen s.toList = R := ⟨_, rfl⟩
  rcases quo_ends h0 hc hk with ⟨h1, h2⟩ | ⟨h1, h2⟩
  · rw [hR] at h2 ⊢
    subst h2
    have hb : ((1 + (k : Int)) == (s.size : Int)) = true := by simp; omega
    clear hk hR hc
    go_enter Tryd.func55, Tryd.ntmps55
    go_wp2_with fail
    refine c1.mono ?_
    rintro e w2 ⟨rfl, hb2⟩
    clear c1
    go_wp2_with fail
    go_ret
    exact ⟨rfl, hb2⟩
  · have hb : ((1 + (k : Int)) == (s.size : Int)) = false := by simp; omega
    rcases h2 with ⟨h2, h3⟩ | ⟨h2, h3⟩
    · rw [h3] at hR
      subst hR
      obtain ⟨z, hz⟩ : ∃ z, s[1 + k] = z := ⟨_, rfl⟩
      have e34 : ((z.toNat : Int) == 34) = true := by rw [← hz, h2]; rfl
      rw [h3]
      clear hk hc h2 h3
      go_enter Tryd.func55, Tryd.ntmps55
      go_wp2_with fail
      refine c1.mono ?_
      rintro e w2 ⟨rfl, hb2⟩
      clear c1
      go_wp2_with fail
      go_ret
      exact ⟨by go_num, hb2⟩
    · rw [hR] at h3
      subst h3
      obtain ⟨z, hz⟩ : ∃ z, s[1 + k] = z := ⟨_, rfl⟩
      have e34 : ((z.toNat : Int) == 34) = false := by
        have h := u8_eq z 34
        rw [decide_eq_false (by rw [← hz]; exact h2)] at h
        exact h
      rw [hR]
      clear hk hc h2 hR
      go_enter Tryd.func55, Tryd.ntmps55
      go_wp2_with fail
      refine c1.mono ?_
      rintro e w2 ⟨rfl, hb2⟩
      clear c1
      go_wp2_with fail
      go_ret
      exact ⟨rfl, hb2⟩
end Go.Proofs.YtnjhmjkonmmomaaDoor.S
end
