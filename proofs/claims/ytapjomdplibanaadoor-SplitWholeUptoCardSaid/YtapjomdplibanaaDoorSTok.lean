/- Words in memory: a row of four cells each. -/
import Derived.Test.YtapjomdplibanaaDoorSRef4
import Derived.Deep.QuietTactic
import Derived.BigQuiet
namespace Go.Proofs.YtapjomdplibanaaDoor.S
open Go.RowKit
open Go.Lib hiding intOf
open Go.Proofs.YtapjomdplibanaaDoor.U Go.Proofs.YtapjomdplibanaaDoor.L

def tokC (t : TokP) : List Value := [.int .i64 t.w, .string ⟨t.t.toArray⟩, .int .i64 t.f, .int .i64 t.e]
def tokCs : List TokP → List Value
  | [] => []
  | t :: r => tokC t ++ tokCs r
theorem tokCs_length : ∀ l : List TokP, (tokCs l).length = 4 * l.length
  | [] => rfl
  | d :: r => by simp only [tokCs, List.length_append, tokCs_length r, List.length_cons, tokC, List.length_nil]; omega
theorem tokCs_app : ∀ (a b : List TokP), tokCs (a ++ b) = tokCs a ++ tokCs b
  | [], b => rfl
  | d :: r, b => by simp only [List.cons_append, tokCs, tokCs_app r b, List.append_assoc]
theorem tokCs_at : ∀ (l : List TokP) (i j : Nat) (hi : i < l.length), j < 4 → (tokCs l)[i * 4 + j]? = (tokC l[i])[j]?
  | [], i, j, hi, _ => by simp at hi
  | d :: r, 0, j, hi, hj => by simp only [tokCs, Nat.zero_mul, Nat.zero_add, List.getElem_cons_zero]; rw [List.getElem?_append_left (by simp [tokC]; omega)]
  | d :: r, i + 1, j, hi, hj => by
    simp only [tokCs, List.getElem_cons_succ]
    rw [List.getElem?_append_right (by simp [tokC]; omega), show (i + 1) * 4 + j - (tokC d).length = i * 4 + j by simp [tokC]; omega]
    exact tokCs_at r i j (by simpa using hi) hj
def ToksAt (W : World) (g off : Nat) (l : List TokP) : Prop := ∀ j u, (tokCs l)[j]? = some u → W.cell? ⟨g, off + j, none⟩ = some u
theorem tok_at {W : World} {l : List TokP} {g off : Nat} (i : Nat) (hc : ToksAt W g off l) (hi : i < l.length) :
    W.cell? ⟨g, off + i * 4, none⟩ = some (.int .i64 l[i].w) ∧ W.cell? ⟨g, off + i * 4 + 1, none⟩ = some (.string ⟨l[i].t.toArray⟩) ∧ W.cell? ⟨g, off + i * 4 + 2, none⟩ = some (.int .i64 l[i].f) ∧ W.cell? ⟨g, off + i * 4 + 3, none⟩ = some (.int .i64 l[i].e) := by
  refine ⟨hc (i * 4) _ ?_, hc (i * 4 + 1) _ (by rw [tokCs_at l i 1 hi (by omega)]; rfl), hc (i * 4 + 2) _ (by rw [tokCs_at l i 2 hi (by omega)]; rfl), hc (i * 4 + 3) _ (by rw [tokCs_at l i 3 hi (by omega)]; rfl)⟩
  have := tokCs_at l i 0 hi (by omega)
  rw [Nat.add_zero] at this; rw [this]; rfl
/-- A list of words, whose block stands at B or later. -/
def ToksIn (B : Nat) (W : World) (l : List TokP) (v : Value) : Prop := ∃ a cap, v = .slice a l.length cap ∧ l.length ≤ cap ∧ (l = [] ∨ ∃ g off, a = some ⟨g, off, none⟩ ∧ B ≤ g ∧ g < W.heap.size ∧ ToksAt W g off l)
theorem row_some {w : World} {B n size : Nat} {e : TypeId} {v : Value} {xs : List Value} (h : w.ownsRow B e size v n xs) (hn : 0 < n) : ∃ g c, v = .slice (some ⟨g, 0, none⟩) n c ∧ n ≤ c ∧ B ≤ g ∧ g < w.heap.size := by
  rcases h.2 with ⟨_, h0⟩ | ⟨g, cap, cur, rfl, _, _, hc, _⟩
  · have := h.1; omega
  · have := h.lt g rfl
    exact ⟨g, cap, rfl, hc, this.1, this.2⟩
theorem toks_at {w : World} {B n c g : Nat} {l : List TokP} (h : w.ownsRow B 55 4 (.slice (some ⟨g, 0, none⟩) n c) n (tokCs l)) (hn : l.length = n) : ToksAt w g 0 l := fun j u hj => by
  have hj2 := (List.getElem?_eq_some_iff.1 hj).1
  rw [tokCs_length] at hj2
  rw [Nat.zero_add, h.cellAt j (by omega)]
  exact hj
theorem toks_row {w : World} {B B' n : Nat} {l : List TokP} {v : Value} (h : w.ownsRow B' 55 4 v n (tokCs l)) (hn : l.length = n) (hB : B ≤ B') : ToksIn B w l v := by
  rcases Nat.eq_zero_or_pos n with h0 | h0
  · have hl : l = [] := List.length_eq_zero_iff.1 (hn.trans h0)
    rcases h.2 with ⟨rfl, _⟩ | ⟨g, cap, cur, rfl, _⟩
    · exact ⟨none, 0, by rw [hl]; rfl, by rw [hl]; simp, .inl hl⟩
    · exact ⟨_, cap, by rw [hn], by rw [hl]; simp, .inl hl⟩
  · obtain ⟨g, c, rfl, hc, hg, _⟩ := row_some h h0
    exact ⟨_, c, by rw [hn], by omega, .inr ⟨g, 0, rfl, by omega, (h.lt g rfl).2, toks_at h hn⟩⟩
theorem plain_toks : ∀ (l : List TokP), ∀ u ∈ tokCs l, u.oneCell' = true
  | [], u, h => by simp [tokCs] at h
  | d :: r, u, h => by
    simp only [tokCs, List.mem_append] at h
    rcases h with h | h
    · simp only [tokC, List.mem_cons, List.not_mem_nil, or_false] at h
      rcases h with rfl | rfl | rfl | rfl <;> rfl
    · exact plain_toks r u h
theorem owns_len {w : World} {B n size : Nat} {e : TypeId} {v : Value} {xs : List Value} (h : w.ownsRow B e size v n xs) : ∃ a c, v = .slice a n c := by
  rcases h.2 with ⟨rfl, h0⟩ | ⟨g, cap, cur, rfl, _⟩
  · exact ⟨none, 0, by subst h0; rfl⟩
  · exact ⟨_, cap, rfl⟩
theorem below_grown {Z n size : Nat} {w2 W w' : World} {e : TypeId} {v : Value} {xs : List Value} {o : Obj} (hL : Below Z w2 W) (hR : W.ownsRow Z e size v n xs) (hg : (W.alloc o).grownBy w' v.ownBlock) (hz : Z ≤ W.heap.size) : Below Z w2 w' := by
  refine ⟨hg.os.trans hL.os, hg.tape.trans hL.tape, hg.output.trans hL.output, ?_, fun k hk => ?_⟩
  · have h1 := hg.size
    have h2 := hL.size
    rw [World.size_alloc] at h1; omega
  · exact ((hg.block k (by rw [World.size_alloc]; omega) (fun e => by have := (hR.lt k e.symm).1; omega)).trans (Below.heap_alloc _ _ _ (by omega))).trans (hL.block k hk)
theorem owns_later {B n size : Nat} {e : TypeId} {v : Value} {xs : List Value} {W W' : World} (h : W.ownsRow B e size v n xs) (hb : Below W.heap.size W W') : W'.ownsRow B e size v n xs := by
  have hg : W.grownBy W' none := ⟨hb.os, hb.tape, hb.output, hb.size, fun j hj _ => hb.block j hj⟩
  exact h.kept hg (by cases v.ownBlock <;> simp)
theorem infoTok : (Tryd.prog.info? 55).map (fun i => (i.zero, i.size, i.bytes)) = some (some (.agg #[.int .i64 0, .string ⟨#[]⟩, .int .i64 0, .int .i64 0]), 4, 40) := by kernel_rfl
theorem one_tok {w : World} {q : Nat} {d : TokP} {t : TypeId} (h : w.heap[q]? = some (.cells #[.int .i64 d.w, .string ⟨d.t.toArray⟩, .int .i64 d.f, .int .i64 d.e] t (0, 0))) :
    ∀ k u, (tokCs [d])[k]? = some u → w.cell? ((⟨q, 0, none⟩ : Addr).add k) = some u := fun k u hk => by
  obtain ⟨c0, c1, c2, c3⟩ := tk_cells h
  rw [Addr.add_lit, Nat.zero_add]
  have hk2 := (List.getElem?_eq_some_iff.1 hk).1
  rw [tokCs_length] at hk2
  simp only [tokCs, tokC, List.append_nil] at hk
  match k, hk2 with
  | 0, _ => simp at hk; subst hk; exact c0
  | 1, _ => simp at hk; subst hk; exact c1
  | 2, _ => simp at hk; subst hk; exact c2
  | 3, _ => simp at hk; subst hk; exact c3
theorem new_tok (W : World) (d : TokP) : ∀ k u, (tokCs [d])[k]? = some u → (W.alloc (.cells #[.int .i64 d.w, .string ⟨d.t.toArray⟩, .int .i64 d.f, .int .i64 d.e] 55)).cell? ((⟨W.heap.size, 0, none⟩ : Addr).add k) = some u := one_tok (heap_alloc_new W _)

theorem new_tokS (W : World) (a f e : Int) (x : ByteArray) : ∀ k u, (tokCs [⟨a, x.toList, f, e⟩])[k]? = some u → (W.alloc (.cells #[.int .i64 a, .string x, .int .i64 f, .int .i64 e] 55)).cell? ((⟨W.heap.size, 0, none⟩ : Addr).add k) = some u := by
  have h := new_tok W ⟨a, x.toList, f, e⟩
  rwa [tl_mk] at h

/-! ### Where the scanner stands -/
def endL (l : List TokP) : Bool := match l.getLast? with | none => false | some t => endsP t.w t.t
theorem endL_snoc (l : List TokP) (t : TokP) : endL (l ++ [t]) = endsP t.w t.t := by unfold endL; simp
def scanAt (right : Bool) (s : ByteArray) (i : Nat) (b : Bool) : List TokP := scanF right (s.size + 1) (s.toList.drop i) i b
/-- What is out, what is to come, and that what is to come is a right text, where all is. -/
structure ScSt (right : Bool) (s : ByteArray) (i : Nat) (O : List TokP) : Prop where
  all : scanB right s.toList = O ++ scanAt right s i (endL O)
  ok : right = true → okB (s.extract i s.size) = true
  few : O.length ≤ i
theorem scSt_start (right : Bool) (s : ByteArray) (h : right = true → okB s = true) : ScSt right s 0 [] :=
  ⟨by unfold scanB scanAt; rw [tl_len]; rfl, fun h1 => by rw [ByteArray.extract_zero_size]; exact h h1, Nat.le_refl _⟩
theorem scanAt_end (right : Bool) (s : ByteArray) (b : Bool) : scanAt right s s.size b = if b then [⟨5, [], s.size, s.size⟩] else [] := by
  unfold scanAt
  rw [tl_end s (Nat.le_refl _)]
  rfl
theorem scanAt_step (right : Bool) (s : ByteArray) {i : Nat} (h : i < s.size) (b : Bool) :
    scanAt right s i b = if s[i] = 10 ∧ b = true then ⟨5, [], i, ((i + 1 : Nat) : Int)⟩ :: scanAt right s (i + 1) false
      else if blank s[i] = true then scanAt right s (i + 1) b
      else if 0 < cmtLen (s.toList.drop i) then scanAt right s (i + cmtLen (s.toList.drop i)) b
      else ⟨(wordL right (s.toList.drop i)).1, (s.toList.drop i).take (wordL right (s.toList.drop i)).2, i, ((i + (wordL right (s.toList.drop i)).2 : Nat) : Int)⟩ ::
        scanAt right s (i + (wordL right (s.toList.drop i)).2) (endsP (wordL right (s.toList.drop i)).1 ((s.toList.drop i).take (wordL right (s.toList.drop i)).2)) := by
  have hl := tl_drop s h
  have hn : ∀ (m : Nat) (x : Bool), i < m → scanF right s.size (s.toList.drop m) m x = scanAt right s m x := fun m x hm => by
    unfold scanAt
    have : (s.toList.drop m).length < s.size := by rw [List.length_drop, tl_len]; omega
    exact scanF_fuel right _ _ _ _ _ this (by omega)
  have hw := (word_bounds right (l := s.toList.drop i) (by rw [hl]; simp)).1
  rw [← hn (i + 1) _ (by omega), ← hn (i + 1) _ (by omega), ← hn (i + (wordL right (s.toList.drop i)).2) _ (by omega)]
  have hd : ∀ k, s.toList.drop (i + k) = (s.toList.drop i).drop k := fun k => by rw [List.drop_drop]
  by_cases hc : 0 < cmtLen (s.toList.drop i)
  · rw [← hn (i + cmtLen (s.toList.drop i)) _ (by omega)]
    simp only [hd (cmtLen _), hd (wordL _ _).2]
    unfold scanAt
    rw [hl]
    rfl
  · rw [if_neg hc, hd (wordL _ _).2]
    unfold scanAt
    rw [hl] at hc ⊢
    simp only [scanF]
    rw [if_neg hc]
theorem ext_ext (s : ByteArray) {i k : Nat} (_h : i + k ≤ s.size) : (s.extract i s.size).extract k (s.extract i s.size).size = s.extract (i + k) s.size := by
  apply ByteArray.ext
  apply Array.toList_inj.1
  rw [← ByteArray.toList_eq, ← ByteArray.toList_eq, ext_drop, ext_drop, ext_drop, List.drop_drop]
theorem ok_on {right : Bool} {s : ByteArray} {i k : Nat} (hok : right = true → okB (s.extract i s.size) = true) (h : i + k ≤ s.size) (hb : right = true → Bnd (s.extract i s.size) k) : right = true → okB (s.extract (i + k) s.size) = true := fun hr => by
  rw [← ext_ext s h]
  exact suf_ok (hok hr) (hb hr)
theorem bnd_size {s : ByteArray} (hok : okB s = true) : Bnd s s.size := (bnd_iff hok (Nat.le_refl _)).2 (by rw [ByteArray.extract_zero_size]; exact hok)
theorem cmt_bnd {s : ByteArray} (hok : okB s = true) (h : 0 < cmtLen s.toList) : Bnd s (cmtLen s.toList) := by
  have hle := cmt_le s.toList
  rw [tl_len] at hle
  have key : cmtLen s.toList < s.size → s.toList[cmtLen s.toList]? = some 10 := fun hlt => by
    match hs : s.toList, h with
    | a :: b :: r, h =>
      rw [hs] at hlt
      simp only [cmtLen] at h hlt ⊢
      split at h
      · rename_i hab
        rw [if_pos hab] at hlt ⊢
        have hz : s.size = r.length + 2 := by rw [← tl_len, hs]; rfl
        have hr : (r.takeWhile (fun c => decide (c ≠ 10))).length < r.length := by omega
        rw [show 2 + (r.takeWhile (fun c => decide (c ≠ 10))).length = (r.takeWhile (fun c => decide (c ≠ 10))).length + 2 by omega]
        simp only [List.getElem?_cons_succ]
        clear h hlt hab hs hle hz hok
        induction r with
        | nil => simp at hr
        | cons c u ih =>
          by_cases hc : c = 10
          · subst hc; simp
          · rw [List.takeWhile_cons, if_pos (by simpa using hc)] at hr ⊢
            simp only [List.length_cons, List.getElem?_cons_succ] at hr ⊢
            exact ih (by omega)
      · omega
  by_cases hlt : cmtLen s.toList < s.size
  · exact (bnd_byte hok (key hlt) (by decide)).1
  · rw [show cmtLen s.toList = s.size by omega]
    exact bnd_size hok
theorem first_ext (s : ByteArray) {i : Nat} (h : i < s.size) : (s.extract i s.size).toList[0]? = some s[i] := by
  rw [ext_drop, tl_drop s h]; rfl
/-- A Semi at a byte 10. -/
theorem scSt_10 {right : Bool} {s : ByteArray} {i : Nat} {O : List TokP} (h : ScSt right s i O) (hi : i < s.size) (hc : s[i] = 10) (hb : endL O = true) : ScSt right s (i + 1) (O ++ [⟨5, [], i, ((i + 1 : Nat) : Int)⟩]) := by
  refine ⟨?_, ok_on h.ok (by omega) (fun hr => (bnd_byte (h.ok hr) (first_ext s hi) (by rw [hc]; decide)).2), by have := h.few; simp; omega⟩
  rw [h.all, hb, scanAt_step right s hi, if_pos ⟨hc, rfl⟩, endL_snoc]
  simp [endsP]
theorem scSt_blank {right : Bool} {s : ByteArray} {i : Nat} {O : List TokP} (h : ScSt right s i O) (hi : i < s.size) (hc : ¬ (s[i] = 10 ∧ endL O = true)) (hb : blank s[i] = true) : ScSt right s (i + 1) O := by
  refine ⟨?_, ok_on h.ok (by omega) (fun hr => (bnd_byte (h.ok hr) (first_ext s hi) ?_).2), by have := h.few; omega⟩
  · rw [h.all, scanAt_step right s hi, if_neg hc, if_pos hb]
  · unfold blank at hb
    simp at hb
    rcases hb with ((hb | hb) | hb) | hb <;> (rw [hb]; decide)
theorem scSt_cmt {right : Bool} {s : ByteArray} {i : Nat} {O : List TokP} (h : ScSt right s i O) (hi : i < s.size) (hb : blank s[i] = false) (hk : 0 < cmtLen (s.extract i s.size).toList) : ScSt right s (i + cmtLen (s.extract i s.size).toList) O := by
  have hle := cmt_le (s.extract i s.size).toList
  rw [ext_drop, List.length_drop, tl_len] at hle
  refine ⟨?_, ok_on h.ok (by rw [ext_drop]; omega) (fun hr => cmt_bnd (h.ok hr) hk), by have := h.few; omega⟩
  rw [ext_drop] at hk ⊢
  rw [h.all, scanAt_step right s hi, if_neg (fun e => by rw [e.1] at hb; cases hb), if_neg (by rw [hb]; simp), if_pos hk]
theorem scSt_word {right : Bool} {s : ByteArray} {i : Nat} {O : List TokP} (h : ScSt right s i O) (hi : i < s.size) (hb : blank s[i] = false) (hk : cmtLen (s.extract i s.size).toList = 0) {w : Int} {k : Nat} (hw : wordL right (s.extract i s.size).toList = (w, k)) :
    i + k ≤ s.size ∧ 1 ≤ k ∧ ScSt right s (i + k) (O ++ [⟨w, (s.extract i (i + k)).toList, i, ((i + k : Nat) : Int)⟩]) := by
  have hbd := word_bounds right (l := (s.extract i s.size).toList) (by rw [ext_drop, tl_drop s hi]; simp)
  rw [hw, ext_drop, List.length_drop, tl_len] at hbd
  have he : (s.extract i (i + k)).toList = (s.toList.drop i).take k := by rw [ext_list, show i + k - i = k by omega]
  refine ⟨by omega, hbd.1, ?_, ok_on h.ok (by omega) (fun hr => ?_), by have := h.few; simp; omega⟩
  · rw [ext_drop] at hk hw
    rw [h.all, scanAt_step right s hi, if_neg (fun e => by rw [e.1] at hb; cases hb), if_neg (by rw [hb]; simp), if_neg (by omega), hw, endL_snoc, he]
    simp
  · subst hr
    have hz : 0 < (s.extract i s.size).size := by rw [size_extract s i s.size (by omega) (Nat.le_refl _)]; omega
    have := word_bnd (h.ok rfl) hz
    rwa [hw] at this
end Go.Proofs.YtapjomdplibanaaDoor.S
