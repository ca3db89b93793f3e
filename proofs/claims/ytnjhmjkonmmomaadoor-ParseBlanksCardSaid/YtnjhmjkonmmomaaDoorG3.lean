/- The texts STok, SPart, TRep, KMem, KNext, KThen, joined. -/
import Derived.Test.YtnjhmjkonmmomaaDoorG2
import Derived.Deep.QuietTactic
import Derived.BigQuiet
import Derived.Test.YtnjhmjkonmmomaaDoorG1
import Derived.Maps.AppendAt
import Derived.Laws.AppendOwn
import Derived.Lib.SmallJoins
import Derived.RangeFuncOwn
import Derived.Deep.AppendLies
import Derived.Deep.RegionHeld3
import Derived.Deep.RegionWith
import Derived.BigRegion
import Derived.Deep.DeepCutAuto
import Derived.Defers
import Derived.Recover
import Derived.Laws.Pointers
import Derived.Laws.Rows
import Derived.RangeFuncNested
import Derived.RangeFuncBound
import Derived.RangeFuncCalls
import Derived.RangeFuncLeaves
import Derived.WalkKit
import Derived.OwnWalkIn
import Derived.TacticsInMore
import Derived.LoopNIn
import Derived.LoopIn
/- STok: Words in memory: a row of four cells each. -/
section
namespace Go.Proofs.YtnjhmjkonmmomaaDoor.S
open Go.RowKit
open Go.Lib hiding intOf
open Go.Proofs.YtnjhmjkonmmomaaDoor.U Go.Proofs.YtnjhmjkonmmomaaDoor.L

def tokC (t : TokP) : List Value := [.int .i64 t.w, .string ⟨t.t.toArray⟩, .int .i64 t.f, .int .i64 t.e]
def tokCs : List TokP → List Value
  | [] => []
  | t :: r => tokC t ++ tokCs r
theorem tokCs_length : ∀ l : List TokP, (tokCs l).length = 4 * l.length
  | [] => rfl
  | d :: r => by simp only [tokCs, List.length_append, tokCs_length r, List.length_cons, tokC, List.length_nil]; omega
theorem tokCs_app : ∀ (a b : List TokP), tokCs (a ++ b) = tokCs a ++ tokCs b
  | [], b => rfl
  | d :: r, b => by simp only [List.cons_append, tokCs, tokCs_app r b, List.append_assoc]
theorem tokCs_at : ∀ (l : List TokP) (i j : Nat) (hi : i < l.length), j < 4 → (tokCs l)[i * 4 + j]? = (tokC l[i])[j]?
  | [], i, j, hi, _ => by simp at hi
  | d :: r, 0, j, hi, hj => by simp only [tokCs, Nat.zero_mul, Nat.zero_add, List.getElem_cons_zero]; rw [List.getElem?_append_left (by simp [tokC]; omega)]
  | d :: r, i + 1, j, hi, hj => by
    simp only [tokCs, List.getElem_cons_succ]
    rw [List.getElem?_append_right (by simp [tokC]; omega), show (i + 1) * 4 + j - (tokC d).length = i * 4 + j by simp [tokC]; omega]
    exact tokCs_at r i j (by simpa using hi) hj
def ToksAt (W : World) (g off : Nat) (l : List TokP) : Prop := ∀ j u, (tokCs l)[j]? = some u → W.cell? ⟨g, off + j, none⟩ = some u
theorem tok_at {W : World} {l : List TokP} {g off : Nat} (i : Nat) (hc : ToksAt W g off l) (hi : i < l.length) :
    W.cell? ⟨g, off + i * 4, none⟩ = some (.int .i64 l[i].w) ∧ W.cell? ⟨g, off + i * 4 + 1, none⟩ = some (.string ⟨l[i].t.toArray⟩) ∧ W.cell? ⟨g, off + i * 4 + 2, none⟩ = some (.int .i64 l[i].f) ∧ W.cell? ⟨g, off + i * 4 + 3, none⟩ = some (.int .i64 l[i].e) := by
  refine ⟨hc (i * 4) _ ?_, hc (i * 4 + 1) _ (by rw [tokCs_at l i 1 hi (by omega)]; rfl), hc (i * 4 + 2) _ (by rw [tokCs_at l i 2 hi (by omega)]; rfl), hc (i * 4 + 3) _ (by rw [tokCs_at l i 3 hi (by omega)]; rfl)⟩
  have := tokCs_at l i 0 hi (by omega)
  rw [Nat.add_zero] at this; rw [this]; rfl
/-- A list of words, whose block stands at B or later. -/
def ToksIn (B : Nat) (W : World) (l : List TokP) (v : Value) : Prop := ∃ a cap, v = .slice a l.length cap ∧ l.length ≤ cap ∧ (l = [] ∨ ∃ g off, a = some ⟨g, off, none⟩ ∧ B ≤ g ∧ g < W.heap.size ∧ ToksAt W g off l)
theorem row_some {w : World} {B n size : Nat} {e : TypeId} {v : Value} {xs : List Value} (h : w.ownsRow B e size v n xs) (hn : 0 < n) : ∃ g c, v = .slice (some ⟨g, 0, none⟩) n c ∧ n ≤ c ∧ B ≤ g ∧ g < w.heap.size := by
  rcases h.2 with ⟨_, h0⟩ | ⟨g, cap, cur, rfl, _, _, hc, _⟩
  · have := h.1; omega
  · have := h.lt g rfl
    exact ⟨g, cap, rfl, hc, this.1, this.2⟩
theorem toks_at {w : World} {B n c g : Nat} {l : List TokP} (h : w.ownsRow B 44 4 (.slice (some ⟨g, 0, none⟩) n c) n (tokCs l)) (hn : l.length = n) : ToksAt w g 0 l := fun j u hj => by
  have hj2 := (List.getElem?_eq_some_iff.1 hj).1
  rw [tokCs_length] at hj2
  rw [Nat.zero_add, h.cellAt j (by omega)]
  exact hj
theorem toks_row {w : World} {B B' n : Nat} {l : List TokP} {v : Value} (h : w.ownsRow B' 44 4 v n (tokCs l)) (hn : l.length = n) (hB : B ≤ B') : ToksIn B w l v := by
  rcases Nat.eq_zero_or_pos n with h0 | h0
  · have hl : l = [] := List.length_eq_zero_iff.1 (hn.trans h0)
    rcases h.2 with ⟨rfl, _⟩ | ⟨g, cap, cur, rfl, _⟩
    · exact ⟨none, 0, by rw [hl]; rfl, by rw [hl]; simp, .inl hl⟩
    · exact ⟨_, cap, by rw [hn], by rw [hl]; simp, .inl hl⟩
  · obtain ⟨g, c, rfl, hc, hg, _⟩ := row_some h h0
    exact ⟨_, c, by rw [hn], by omega, .inr ⟨g, 0, rfl, by omega, (h.lt g rfl).2, toks_at h hn⟩⟩
theorem plain_toks : ∀ (l : List TokP), ∀ u ∈ tokCs l, u.oneCell' = true
  | [], u, h => by simp [tokCs] at h
  | d :: r, u, h => by
    simp only [tokCs, List.mem_append] at h
    rcases h with h | h
    · simp only [tokC, List.mem_cons, List.not_mem_nil, or_false] at h
      rcases h with rfl | rfl | rfl | rfl <;> rfl
    · exact plain_toks r u h
theorem owns_len {w : World} {B n size : Nat} {e : TypeId} {v : Value} {xs : List Value} (h : w.ownsRow B e size v n xs) : ∃ a c, v = .slice a n c := by
  rcases h.2 with ⟨rfl, h0⟩ | ⟨g, cap, cur, rfl, _⟩
  · exact ⟨none, 0, by subst h0; rfl⟩
  · exact ⟨_, cap, rfl⟩
theorem below_grown {Z n size : Nat} {w2 W w' : World} {e : TypeId} {v : Value} {xs : List Value} {o : Obj} (hL : Below Z w2 W) (hR : W.ownsRow Z e size v n xs) (hg : (W.alloc o).grownBy w' v.ownBlock) (hz : Z ≤ W.heap.size) : Below Z w2 w' := by
  refine ⟨hg.os.trans hL.os, hg.tape.trans hL.tape, hg.output.trans hL.output, ?_, fun k hk => ?_⟩
  · have h1 := hg.size
    have h2 := hL.size
    rw [World.size_alloc] at h1; omega
  · exact ((hg.block k (by rw [World.size_alloc]; omega) (fun e => by have := (hR.lt k e.symm).1; omega)).trans (Below.heap_alloc _ _ _ (by omega))).trans (hL.block k hk)
theorem owns_later {B n size : Nat} {e : TypeId} {v : Value} {xs : List Value} {W W' : World} (h : W.ownsRow B e size v n xs) (hb : Below W.heap.size W W') : W'.ownsRow B e size v n xs := by
  have hg : W.grownBy W' none := ⟨hb.os, hb.tape, hb.output, hb.size, fun j hj _ => hb.block j hj⟩
  exact h.kept hg (by cases v.ownBlock <;> simp)
theorem infoTok : (Tryd.prog.info? 44).map (fun i => (i.zero, i.size, i.bytes)) = some (some (.agg #[.int .i64 0, .string ⟨#[]⟩, .int .i64 0, .int .i64 0]), 4, 40) := by kernel_rfl
theorem one_tok {w : World} {q : Nat} {d : TokP} {t : TypeId} (h : w.heap[q]? = some (.cells #[.int .i64 d.w, .string ⟨d.t.toArray⟩, .int .i64 d.f, .int .i64 d.e] t (0, 0))) :
    ∀ k u, (tokCs [d])[k]? = some u → w.cell? ((⟨q, 0, none⟩ : Addr).add k) = some u := fun k u hk => by
  obtain ⟨c0, c1, c2, c3⟩ := tk_cells h
  rw [Addr.add_lit, Nat.zero_add]
  have hk2 := (List.getElem?_eq_some_iff.1 hk).1
  rw [tokCs_length] at hk2
  simp only [tokCs, tokC, List.append_nil] at hk
  match k, hk2 with
  | 0, _ => simp at hk; subst hk; exact c0
  | 1, _ => simp at hk; subst hk; exact c1
  | 2, _ => simp at hk; subst hk; exact c2
  | 3, _ => simp at hk; subst hk; exact c3
theorem new_tok (W : World) (d : TokP) : ∀ k u, (tokCs [d])[k]? = some u → (W.alloc (.cells #[.int .i64 d.w, .string ⟨d.t.toArray⟩, .int .i64 d.f, .int .i64 d.e] 44)).cell? ((⟨W.heap.size, 0, none⟩ : Addr).add k) = some u := one_tok (heap_alloc_new W _)

theorem new_tokS (W : World) (a f e : Int) (x : ByteArray) : ∀ k u, (tokCs [⟨a, x.toList, f, e⟩])[k]? = some u → (W.alloc (.cells #[.int .i64 a, .string x, .int .i64 f, .int .i64 e] 44)).cell? ((⟨W.heap.size, 0, none⟩ : Addr).add k) = some u := by
  have h := new_tok W ⟨a, x.toList, f, e⟩
  rwa [tl_mk] at h

/-! ### Where the scanner stands -/
def endL (l : List TokP) : Bool := match l.getLast? with | none => false | some t => endsP t.w t.t
theorem endL_snoc (l : List TokP) (t : TokP) : endL (l ++ [t]) = endsP t.w t.t := by unfold endL; simp
def scanAt (right : Bool) (s : ByteArray) (i : Nat) (b : Bool) : List TokP := scanF right (s.size + 1) (s.toList.drop i) i b
/-- What is out, what is to come, and that what is to come is a right text, where all is. -/
structure ScSt (right : Bool) (s : ByteArray) (i : Nat) (O : List TokP) : Prop where
  all : scanB right s.toList = O ++ scanAt right s i (endL O)
  ok : right = true → okB (s.extract i s.size) = true
  few : O.length ≤ i
theorem scSt_start (right : Bool) (s : ByteArray) (h : right = true → okB s = true) : ScSt right s 0 [] :=
  ⟨by unfold scanB scanAt; rw [tl_len]; rfl, fun h1 => by rw [ByteArray.extract_zero_size]; exact h h1, Nat.le_refl _⟩
theorem scanAt_end (right : Bool) (s : ByteArray) (b : Bool) : scanAt right s s.size b = if b then [⟨5, [], s.size, s.size⟩] else [] := by
  unfold scanAt
  rw [tl_end s (Nat.le_refl _)]
  rfl
theorem scanAt_step (right : Bool) (s : ByteArray) {i : Nat} (h : i < s.size) (b : Bool) :
    scanAt right s i b = if s[i] = 10 ∧ b = true then ⟨5, [], i, ((i + 1 : Nat) : Int)⟩ :: scanAt right s (i + 1) false
      else if blank s[i] = true then scanAt right s (i + 1) b
      else if 0 < cmtLen (s.toList.drop i) then scanAt right s (i + cmtLen (s.toList.drop i)) b
      else ⟨(wordL right (s.toList.drop i)).1, (s.toList.drop i).take (wordL right (s.toList.drop i)).2, i, ((i + (wordL right (s.toList.drop i)).2 : Nat) : Int)⟩ ::
        scanAt right s (i + (wordL right (s.toList.drop i)).2) (endsP (wordL right (s.toList.drop i)).1 ((s.toList.drop i).take (wordL right (s.toList.drop i)).2)) := by
  have hl := tl_drop s h
  have hn : ∀ (m : Nat) (x : Bool), i < m → scanF right s.size (s.toList.drop m) m x = scanAt right s m x := fun m x hm => by
    unfold scanAt
    have : (s.toList.drop m).length < s.size := by rw [List.length_drop, tl_len]; omega
    exact scanF_fuel right _ _ _ _ _ this (by omega)
  have hw := (word_bounds right (l := s.toList.drop i) (by rw [hl]; simp)).1
  rw [← hn (i + 1) _ (by omega), ← hn (i + 1) _ (by omega), ← hn (i + (wordL right (s.toList.drop i)).2) _ (by omega)]
  have hd : ∀ k, s.toList.drop (i + k) = (s.toList.drop i).drop k := fun k => by rw [List.drop_drop]
  by_cases hc : 0 < cmtLen (s.toList.drop i)
  · rw [← hn (i + cmtLen (s.toList.drop i)) _ (by omega)]
    simp only [hd (cmtLen _), hd (wordL _ _).2]
    unfold scanAt
    rw [hl]
    rfl
  · rw [if_neg hc, hd (wordL _ _).2]
    unfold scanAt
    rw [hl] at hc ⊢
    simp only [scanF]
    rw [if_neg hc]
theorem ext_ext (s : ByteArray) {i k : Nat} (_h : i + k ≤ s.size) : (s.extract i s.size).extract k (s.extract i s.size).size = s.extract (i + k) s.size := by
  apply ByteArray.ext
  apply Array.toList_inj.1
  rw [← ByteArray.toList_eq, ← ByteArray.toList_eq, ext_drop, ext_drop, ext_drop, List.drop_drop]
theorem ok_on {right : Bool} {s : ByteArray} {i k : Nat} (hok : right = true → okB (s.extract i s.size) = true) (h : i + k ≤ s.size) (hb : right = true → Bnd (s.extract i s.size) k) : right = true → okB (s.extract (i + k) s.size) = true := fun hr => by
  rw [← ext_ext s h]
  exact suf_ok (hok hr) (hb hr)
theorem bnd_size {s : ByteArray} (hok : okB s = true) : Bnd s s.size := (bnd_iff hok (Nat.le_refl _)).2 (by rw [ByteArray.extract_zero_size]; exact hok)
theorem cmt_bnd {s : ByteArray} (hok : okB s = true) (h : 0 < cmtLen s.toList) : Bnd s (cmtLen s.toList) := by
  have hle := cmt_le s.toList
  rw [tl_len] at hle
  have key : cmtLen s.toList < s.size → s.toList[cmtLen s.toList]? = some 10 := fun hlt => by
    match hs : s.toList, h with
    | a :: b :: r, h =>
      rw [hs] at hlt
      simp only [cmtLen] at h hlt ⊢
      split at h
      · rename_i hab
        rw [if_pos hab] at hlt ⊢
        have hz : s.size = r.length + 2 := by rw [← tl_len, hs]; rfl
        have hr : (r.takeWhile (fun c => decide (c ≠ 10))).length < r.length := by omega
        rw [show 2 + (r.takeWhile (fun c => decide (c ≠ 10))).length = (r.takeWhile (fun c => decide (c ≠ 10))).length + 2 by omega]
        simp only [List.getElem?_cons_succ]
        clear h hlt hab hs hle hz hok
        induction r with
        | nil => simp at hr
        | cons c u ih =>
          by_cases hc : c = 10
          · subst hc; simp
          · rw [List.takeWhile_cons, if_pos (by simpa using hc)] at hr ⊢
            simp only [List.length_cons, List.getElem?_cons_succ] at hr ⊢
            exact ih (by omega)
      · omega
  by_cases hlt : cmtLen s.toList < s.size
  · exact (bnd_byte hok (key hlt) (by decide)).1
  · rw [show cmtLen s.toList = s.size by omega]
    exact bnd_size hok
theorem first_ext (s : ByteArray) {i : Nat} (h : i < s.size) : (s.extract i s.size).toList[0]? = some s[i] := by
  rw [ext_drop, tl_drop s h]; rfl
/-- A Semi at a byte 10. -/
theorem scSt_10 {right : Bool} {s : ByteArray} {i : Nat} {O : List TokP} (h : ScSt right s i O) (hi : i < s.size) (hc : s[i] = 10) (hb : endL O = true) : ScSt right s (i + 1) (O ++ [⟨5, [], i, ((i + 1 : Nat) : Int)⟩]) := by
  refine ⟨?_, ok_on h.ok (by omega) (fun hr => (bnd_byte (h.ok hr) (first_ext s hi) (by rw [hc]; decide)).2), by have := h.few; simp; omega⟩
  rw [h.all, hb, scanAt_step right s hi, if_pos ⟨hc, rfl⟩, endL_snoc]
  simp [endsP]
theorem scSt_blank {right : Bool} {s : ByteArray} {i : Nat} {O : List TokP} (h : ScSt right s i O) (hi : i < s.size) (hc : ¬ (s[i] = 10 ∧ endL O = true)) (hb : blank s[i] = true) : ScSt right s (i + 1) O := by
  refine ⟨?_, ok_on h.ok (by omega) (fun hr => (bnd_byte (h.ok hr) (first_ext s hi) ?_).2), by have := h.few; omega⟩
  · rw [h.all, scanAt_step right s hi, if_neg hc, if_pos hb]
  · unfold blank at hb
    simp at hb
    rcases hb with ((hb | hb) | hb) | hb <;> (rw [hb]; decide)
theorem scSt_cmt {right : Bool} {s : ByteArray} {i : Nat} {O : List TokP} (h : ScSt right s i O) (hi : i < s.size) (hb : blank s[i] = false) (hk : 0 < cmtLen (s.extract i s.size).toList) : ScSt right s (i + cmtLen (s.extract i s.size).toList) O := by
  have hle := cmt_le (s.extract i s.size).toList
  rw [ext_drop, List.length_drop, tl_len] at hle
  refine ⟨?_, ok_on h.ok (by rw [ext_drop]; omega) (fun hr => cmt_bnd (h.ok hr) hk), by have := h.few; omega⟩
  rw [ext_drop] at hk ⊢
  rw [h.all, scanAt_step right s hi, if_neg (fun e => by rw [e.1] at hb; cases hb), if_neg (by rw [hb]; simp), if_pos hk]
theorem scSt_word {right : Bool} {s : ByteArray} {i : Nat} {O : List TokP} (h : ScSt right s i O) (hi : i < s.size) (hb : blank s[i] = false) (hk : cmtLen (s.extract i s.size).toList = 0) {w : Int} {k : Nat} (hw : wordL right (s.extract i s.size).toList = (w, k)) :
    i + k ≤ s.size ∧ 1 ≤ k ∧ ScSt right s (i + k) (O ++ [⟨w, (s.extract i (i + k)).toList, i, ((i + k : Nat) : Int)⟩]) := by
  have hbd := word_bounds right (l := (s.extract i s.size).toList) (by rw [ext_drop, tl_drop s hi]; simp)
  rw [hw, ext_drop, List.length_drop, tl_len] at hbd
  have he : (s.extract i (i + k)).toList = (s.toList.drop i).take k := by rw [ext_list, show i + k - i = k by omega]
  refine ⟨by omega, hbd.1, ?_, ok_on h.ok (by omega) (fun hr => ?_), by have := h.few; simp; omega⟩
  · rw [ext_drop] at hk hw
    rw [h.all, scanAt_step right s hi, if_neg (fun e => by rw [e.1] at hb; cases hb), if_neg (by rw [hb]; simp), if_neg (by omega), hw, endL_snoc, he]
    simp
  · subst hr
    have hz : 0 < (s.extract i s.size).size := by rw [size_extract s i s.size (by omega) (Nat.le_refl _)]; omega
    have := word_bnd (h.ok rfl) hz
    rwa [hw] at this
end Go.Proofs.YtnjhmjkonmmomaaDoor.S
end
/- SPart: Parts of layer 8's texts that name nothing of its law and of the document's Brief and Same: for later seats. -/
section
namespace Go.Proofs.YtnjhmjkonmmomaaDoor.S
open Go.RowKit
open Go.Lib hiding intOf
open Go.Proofs.YtnjhmjkonmmomaaDoor.U Go.Proofs.YtnjhmjkonmmomaaDoor.L

theorem take_snoc {α : Type} (l : List α) {i : Nat} (h : i < l.length) : l.take (i + 1) = l.take i ++ [l[i]] := by
  rw [List.take_add_one, List.getElem?_eq_getElem h]; rfl
theorem cat_list (a b : ByteArray) : (a ++ b).toList = a.toList ++ b.toList := by
  rw [ByteArray.toList_eq, ByteArray.toList_eq, ByteArray.toList_eq, ByteArray.data_append, Array.toList_append]
theorem drewB {B : Nat} {a w : World} (h : Below B a w) (n : Nat) : Below B a (w.drewN n) := ⟨h.os, h.tape, h.output, h.size, h.block⟩
theorem tl_arr (l : By) : (⟨l.toArray⟩ : ByteArray).toList = l := by rw [ByteArray.toList_eq]
theorem scanF_len (right : Bool) : ∀ (n : Nat) (l : By) (pos : Nat) (e : Bool), (scanF right n l pos e).length ≤ l.length + 1
  | 0, _, _, _ => by simp [scanF]
  | n + 1, [], pos, e => by simp only [scanF]; split <;> simp
  | n + 1, c :: r, pos, e => by
    have hc := cmt_le (c :: r)
    have hw := word_bounds right (l := c :: r) (by simp)
    simp only [scanF]
    split
    · have := scanF_len right n r (pos + 1) false
      simp only [List.length_cons]; omega
    · split
      · have := scanF_len right n r (pos + 1) e
        simp only [List.length_cons]; omega
      · split
        · have := scanF_len right n ((c :: r).drop (cmtLen (c :: r))) (pos + cmtLen (c :: r)) e
          rw [List.length_drop] at this; omega
        · have := scanF_len right n ((c :: r).drop (wordL right (c :: r)).2) (pos + (wordL right (c :: r)).2) (endsP (wordL right (c :: r)).1 ((c :: r).take (wordL right (c :: r)).2))
          rw [List.length_drop] at this
          rw [List.length_cons]; omega
theorem scan_len (right : Bool) (s : ByteArray) : (scanB right s.toList).length ≤ s.size + 1 := by
  have := scanF_len right (s.toList.length + 1) s.toList 0 false
  unfold scanB
  rwa [tl_len] at this ⊢
end Go.Proofs.YtnjhmjkonmmomaaDoor.S
end
/- TRep: Parts in memory: five cells each, Kids in a row. -/
section
namespace Go.Proofs.YtnjhmjkonmmomaaDoor.T
open Go.RowKit
open Go.Lib hiding intOf
open Go.Proofs.YtnjhmjkonmmomaaDoor.U Go.Proofs.YtnjhmjkonmmomaaDoor.S Go.Proofs.YtnjhmjkonmmomaaDoor.L

def bstr (x : By) : ByteArray := ⟨x.toArray⟩
/-- A part's value, its Kids at lv. -/
def five : Pt → Value → List Value
  | .mk k t f e _, lv => [.string (bstr k), .string (bstr t), .int .i64 f, .int .i64 e, lv]
def CellsAt (W : World) (g off : Nat) (xs : List Value) : Prop := ∀ j u, xs[j]? = some u → W.cell? ⟨g, off + j, none⟩ = some u
mutual
/-- A part's Kids lie at lv, in blocks of R. -/
def KidsIn (W : World) (R : Nat → Prop) : Pt → Value → Prop
  | .mk _ _ _ _ ks, lv => ∃ a cap, lv = .slice a ks.length cap ∧ ks.length ≤ cap ∧ (ks = [] ∨ ∃ g off xs, a = some ⟨g, off, none⟩ ∧ R g ∧ CellsAt W g off xs ∧ PartsIn W R ks xs)
def PartsIn (W : World) (R : Nat → Prop) : List Pt → List Value → Prop
  | [], xs => xs = []
  | p :: r, xs => ∃ lv rest, xs = five p lv ++ rest ∧ KidsIn W R p lv ∧ PartsIn W R r rest
end
/-- What lies in rows of R stands. -/
def Still (R : Nat → Prop) (W W' : World) : Prop := ∀ g, R g → g < W.heap.size → W'.heap[g]? = W.heap[g]?
theorem CellsAt.later {W W' : World} {R : Nat → Prop} {g off : Nat} {xs : List Value} (h : CellsAt W g off xs) (hR : R g) (hs : Still R W W') : CellsAt W' g off xs := by
  intro j u hj
  have h1 := h j u hj
  have hlt : g < W.heap.size := World.block_lt_of_cell? W _ h1
  have h2 := hs g hR hlt
  unfold World.cell? at h1 ⊢
  rw [h2]; exact h1
mutual
theorem KidsIn.later {W W' : World} {R R' : Nat → Prop} (hs : Still R W W') (hR : ∀ g, R g → R' g) : ∀ (p : Pt) (lv : Value), KidsIn W R p lv → KidsIn W' R' p lv
  | .mk k t f e ks, lv, h => by
    obtain ⟨a, cap, h1, h0, h2⟩ := h
    refine ⟨a, cap, h1, h0, ?_⟩
    rcases h2 with h2 | ⟨g, off, xs, h3, h4, h5, h6⟩
    · exact .inl h2
    · exact .inr ⟨g, off, xs, h3, hR g h4, h5.later h4 hs, PartsIn.later hs hR ks xs h6⟩
theorem PartsIn.later {W W' : World} {R R' : Nat → Prop} (hs : Still R W W') (hR : ∀ g, R g → R' g) : ∀ (l : List Pt) (xs : List Value), PartsIn W R l xs → PartsIn W' R' l xs
  | [], _, h => h
  | p :: r, xs, h => by
    obtain ⟨lv, rest, h1, h2, h3⟩ := h
    exact ⟨lv, rest, h1, KidsIn.later hs hR p lv h2, PartsIn.later hs hR r rest h3⟩
end
theorem five_length (p : Pt) (lv : Value) : (five p lv).length = 5 := by cases p; rfl
theorem PartsIn.length {W : World} {R : Nat → Prop} : ∀ {l : List Pt} {xs : List Value}, PartsIn W R l xs → xs.length = 5 * l.length
  | [], xs, h => by have h : xs = [] := h; subst h; rfl
  | p :: r, xs, h => by
    obtain ⟨lv, rest, rfl, _, h3⟩ := h
    have := PartsIn.length h3
    rw [List.length_append, five_length, this]; simp; omega
theorem PartsIn.snoc {W : World} {R : Nat → Prop} : ∀ {l : List Pt} {xs : List Value} {p : Pt} {lv : Value}, PartsIn W R l xs → KidsIn W R p lv → PartsIn W R (l ++ [p]) (xs ++ five p lv)
  | [], xs, p, lv, h, hv => by
    have h : xs = [] := h
    subst h
    exact ⟨lv, [], by simp, hv, rfl⟩
  | u :: r, xs, p, lv, h, hv => by
    obtain ⟨lv', rest, rfl, h2, h3⟩ := h
    exact ⟨lv', rest ++ five p lv, by simp, h2, PartsIn.snoc h3 hv⟩
end Go.Proofs.YtnjhmjkonmmomaaDoor.T
end
/- KMem: The program's reader in memory: what is still to be read, and the parts about it, in rows of its own. -/
section
namespace Go.Proofs.YtnjhmjkonmmomaaDoor.K
open Go.RowKit
open Go.Lib hiding intOf
open Go.Proofs.YtnjhmjkonmmomaaDoor.U Go.Proofs.YtnjhmjkonmmomaaDoor.S Go.Proofs.YtnjhmjkonmmomaaDoor.T

abbrev ptr (b : Nat) : Value := .pointer (some ⟨b, 0, none⟩)
def fnOf : Mth → Nat
  | .decl => 25
  | .semis => 26
  | .noMore => 27
  | .name => 37
  | .params => 38
  | .result => 39
  | .block => 40
  | .fin => 41
  | .field => 44
  | .param => 63
  | .typeOf => 64
  | .stmt => 65
  | .returned => 75
  | .expr => 77
  | .assigned => 78
  | .otherwise => 81
  | .pre => 82
  | .between => 83
  | .ifOrBlock => 84
  | .text => 85
  | .behind => 87
  | .operand => 86
  | .called => 90
/-- A method of the reader, as a value. -/
def mval (d : Nat) (k : Mth) : Value := .func (.func (fnOf k)) #[ptr d] #[]
def clos (f b1 b2 : Nat) : Value := .func (.func f) #[] #[ptr b1, ptr b2]
/-- A block that nobody writes. -/
def Fr (O : Nat → Prop) (W : World) (k : Nat) : Prop := k < W.heap.size ∧ ¬ O k ∧ ∃ o : Obj, W.heap[k]? = some o ∧ o.isCells = true
def BoxAt (O : Nat → Prop) (W : World) (b : Nat) (v : Value) (t : TypeId) : Prop := Fr O W b ∧ W.heap[b]? = some (.cells #[v] t (0, 0))
def Clos (O : Nat → Prop) (W : World) (d f : Nat) (u : Value) (t : TypeId) (v : Value) : Prop := ∃ b1 b2, v = clos f b1 b2 ∧ BoxAt O W b1 (ptr d) 39 ∧ BoxAt O W b2 u t
/-- A value that reads what is to be read. -/
def StpIn (O : Nat → Prop) (W : World) (d : Nat) : Stp → Value → Prop
  | .m k, v => v = mval d k
  | .word x, v => Clos O W d 59 (.string (bstr x)) 9 v
  | .lines k, v => Clos O W d 67 (mval d k) 1 v
  | .more k, v => Clos O W d 79 (mval d k) 1 v
  | .commas k, v => Clos O W d 73 (mval d k) 1 v
  | .moreC k, v => Clos O W d 80 (mval d k) 1 v
/-- The next one last. -/
def StpsIn (O : Nat → Prop) (W : World) (d : Nat) : List Stp → List Value → Prop
  | [], vs => vs = []
  | s :: r, vs => ∃ v us, vs = us ++ [v] ∧ StpIn O W d s v ∧ StpsIn O W d r us
def six (o : Open) (kv : Value) : List Value := [.string (bstr o.k), .string (bstr o.t), .int .i64 o.f, .int .i64 0, kv, .int .i64 o.kf]
/-- The parts about what is read, the innermost one last; bs: the blocks of their Kids. -/
def OpensIn (O : Nat → Prop) (W : World) : List Open → List Value → List (Option Nat) → Prop
  | [], xs, bs => xs = [] ∧ bs = []
  | o :: r, xs, bs => ∃ kv ks us bs', xs = us ++ six o kv ∧ bs = kv.ownBlock :: bs' ∧ W.ownsRow 0 24 5 kv o.kids.length ks ∧ PartsIn W (Fr O W) o.kids ks ∧ OpensIn O W r us bs'
/-- No block twice. -/
def Apart : List (Option Nat) → Prop
  | [] => True
  | b :: r => (∀ g, b = some g → some g ∉ r) ∧ Apart r
def endT (size : Nat) : TokP := ⟨-1, [], size, size⟩
def WordsIn (O : Nat → Prop) (W : World) (L : List TokP) (size : Nat) (lv : Value) : Prop := ∃ g off cap, lv = .slice (some ⟨g, off, none⟩) (L.length + 1) cap ∧ Fr O W g ∧ ToksAt W g off (L ++ [endT size])
structure MemX (d : Nat) (L : List TokP) (size : Nat) (lv : Value) (s : St) (O : Nat → Prop) (tv ov : Value) (bs : List (Option Nat)) (vs xs : List Value) (W : World) : Prop where
  blk : W.heap[d]? = some (.cells #[lv, .int .i64 s.i, tv, ov] 50 (0, 0))
  words : WordsIn O W L size lv
  todoR : W.ownsRow 0 1 1 tv s.todo.length vs
  todo : StpsIn O W d s.todo vs
  opnR : W.ownsRow 0 55 6 ov s.opn.length xs
  opn : OpensIn O W s.opn xs bs
  apart : Apart bs
  own : ∀ k, O k ↔ k = d ∨ tv.ownBlock = some k ∨ ov.ownBlock = some k ∨ some k ∈ bs
/-- The reader in memory, O the blocks that it writes. -/
def Mem (d : Nat) (L : List TokP) (size : Nat) (lv : Value) (s : St) (O : Nat → Prop) (W : World) : Prop := ∃ tv ov bs vs xs, MemX d L size lv s O tv ov bs vs xs W
/-- From one world to a later one: what nobody writes is as it was. -/
structure Stay (O O' : Nat → Prop) (W W' : World) : Prop where
  os : W'.os = W.os
  tape : W'.tape = W.tape
  output : W'.output = W.output
  size : W.heap.size ≤ W'.heap.size
  own : ∀ k, O' k → O k ∨ W.heap.size ≤ k
  block : ∀ k, k < W.heap.size → ¬ O k → W'.heap[k]? = W.heap[k]?
section
variable {O O' O'' : Nat → Prop} {W W' W'' : World} {d : Nat}
theorem Stay.refl (O : Nat → Prop) (W : World) : Stay O O W W := ⟨rfl, rfl, rfl, Nat.le_refl _, fun _ h => .inl h, fun _ _ _ => rfl⟩
theorem Stay.trans (h : Stay O O' W W') (k : Stay O' O'' W' W'') : Stay O O'' W W'' where
  os := k.os.trans h.os
  tape := k.tape.trans h.tape
  output := k.output.trans h.output
  size := Nat.le_trans h.size k.size
  own := fun x hx => (k.own x hx).elim (fun h1 => h.own x h1) (fun h1 => .inr (Nat.le_trans h.size h1))
  block := fun x hx hO => (k.block x (Nat.lt_of_lt_of_le hx h.size) (fun h1 => (h.own x h1).elim hO (fun h2 => absurd h2 (by omega)))).trans (h.block x hx hO)
theorem Stay.of_below (h : Below W.heap.size W W') : Stay O O W W' := ⟨h.os, h.tape, h.output, h.size, fun _ h => .inl h, fun k hk _ => h.block k hk⟩
theorem Stay.at (h : Stay O O' W W') {k : Nat} (hk : Fr O W k) : W'.heap[k]? = W.heap[k]? := h.block k hk.1 hk.2.1
theorem Stay.fr (h : Stay O O' W W') {k : Nat} (hk : Fr O W k) : Fr O' W' k := ⟨Nat.lt_of_lt_of_le hk.1 h.size, fun h1 => (h.own k h1).elim hk.2.1 (fun h2 => absurd h2 (by have := hk.1; omega)), by rw [h.at hk]; exact hk.2.2⟩
theorem BoxAt.stay {b : Nat} {v : Value} {t : TypeId} (hb : BoxAt O W b v t) (h : Stay O O' W W') : BoxAt O' W' b v t := ⟨h.fr hb.1, (h.at hb.1).trans hb.2⟩
theorem Clos.stay {f : Nat} {u v : Value} {t : TypeId} (hc : Clos O W d f u t v) (h : Stay O O' W W') : Clos O' W' d f u t v := by
  obtain ⟨b1, b2, h1, h2, h3⟩ := hc
  exact ⟨b1, b2, h1, h2.stay h, h3.stay h⟩
theorem StpIn.stay {s : Stp} {v : Value} (hs : StpIn O W d s v) (h : Stay O O' W W') : StpIn O' W' d s v := by
  cases s with
  | m k => exact hs
  | word x => exact Clos.stay hs h
  | lines k => exact Clos.stay hs h
  | more k => exact Clos.stay hs h
  | commas k => exact Clos.stay hs h
  | moreC k => exact Clos.stay hs h
theorem StpsIn.stay (h : Stay O O' W W') : ∀ {l : List Stp} {vs : List Value}, StpsIn O W d l vs → StpsIn O' W' d l vs
  | [], _, hs => hs
  | _ :: _, _, ⟨v, us, h1, h2, h3⟩ => ⟨v, us, h1, h2.stay h, StpsIn.stay h h3⟩
theorem StpsIn.length : ∀ {l : List Stp} {vs : List Value}, StpsIn O W d l vs → vs.length = l.length
  | [], _, hs => by rw [show _ = [] from hs]; rfl
  | _ :: _, _, ⟨v, us, h1, h2, h3⟩ => by rw [h1, List.length_append, StpsIn.length h3]; rfl
theorem WordsIn.stay {L : List TokP} {size : Nat} {lv : Value} (hw : WordsIn O W L size lv) (h : Stay O O' W W') : WordsIn O' W' L size lv := by
  obtain ⟨g, off, cap, h1, h2, h3⟩ := hw
  refine ⟨g, off, cap, h1, h.fr h2, fun j u hj => ?_⟩
  have h4 := h3 j u hj
  unfold World.cell? at h4 ⊢
  rw [h.at h2]; exact h4
theorem parts_stay (h : Stay O O' W W') {l : List Pt} {ks : List Value} (hp : PartsIn W (Fr O W) l ks) : PartsIn W' (Fr O' W') l ks :=
  PartsIn.later (R := Fr O W) (R' := Fr O' W') (fun _ hg _ => h.at hg) (fun _ hg => h.fr hg) l ks hp
theorem OpensIn.stay (h : Stay O O' W W') : ∀ {l : List Open} {xs : List Value} {bs : List (Option Nat)}, OpensIn O W l xs bs → (∀ g, some g ∈ bs → W'.heap[g]? = W.heap[g]?) → OpensIn O' W' l xs bs
  | [], _, _, hs, _ => hs
  | o :: r, _, _, ⟨kv, ks, us, bs', h1, h2, h3, h4, h5⟩, hb => by
    subst h2
    exact ⟨kv, ks, us, bs', h1, rfl, owns_same' h3 (fun k hk => hb k (by rw [hk]; exact List.mem_cons_self)), parts_stay h h4, OpensIn.stay h h5 (fun g hg => hb g (List.mem_cons_of_mem _ hg))⟩
where
  owns_same' {w w' : World} {B n size : Nat} {e : TypeId} {v : Value} {xs : List Value} (h : w.ownsRow B e size v n xs) (hs : ∀ k, v.ownBlock = some k → w'.heap[k]? = w.heap[k]?) : w'.ownsRow B e size v n xs := by
    refine ⟨h.1, ?_⟩
    rcases h.2 with h | ⟨g, cap, cur, rfl, h2, h3, h4⟩
    · exact .inl h
    · exact .inr ⟨g, cap, cur, rfl, h2, (hs g rfl).trans h3, h4⟩
end
section
variable {O : Nat → Prop} {W W' : World} {d : Nat} {L : List TokP} {size : Nat} {lv : Value} {s : St}
theorem MemX.lt {tv ov : Value} {bs : List (Option Nat)} {vs xs : List Value} (h : MemX d L size lv s O tv ov bs vs xs W) : ∀ k, O k → k < W.heap.size := by
  intro k hk
  rcases (h.own k).1 hk with rfl | h1 | h1 | h1
  · exact (Array.getElem?_eq_some_iff.1 h.blk).1
  · exact (h.todoR.lt k h1).2
  · exact (h.opnR.lt k h1).2
  · have go : ∀ {l : List Open} {xs : List Value} {bs : List (Option Nat)}, OpensIn O W l xs bs → some k ∈ bs → k < W.heap.size := by
      intro l
      induction l with
      | nil => rintro xs bs ⟨_, rfl⟩ h; cases h
      | cons o r ih =>
        rintro xs bs ⟨kv, ks, us, bs', _, rfl, h3, _, h5⟩ h
        rcases List.mem_cons.1 h with h | h
        · exact (h3.lt k h.symm).2
        · exact ih h5 h
    exact go h.opn h1
/-- What is of cells is as it was. -/
structure Calm (O : Nat → Prop) (W W' : World) : Prop where
  size : W.heap.size ≤ W'.heap.size
  own : ∀ k, O k → W'.heap[k]? = W.heap[k]?
  fr : ∀ k, Fr O W k → W'.heap[k]? = W.heap[k]?
theorem Calm.up (h : Calm O W W') {k : Nat} (hk : Fr O W k) : Fr O W' k := ⟨Nat.lt_of_lt_of_le hk.1 h.size, hk.2.1, by rw [h.fr k hk]; exact hk.2.2⟩
theorem Clos.calm {f : Nat} {u v : Value} {t : TypeId} (hc : Clos O W d f u t v) (h : Calm O W W') : Clos O W' d f u t v := by
  obtain ⟨b1, b2, h1, h2, h3⟩ := hc
  exact ⟨b1, b2, h1, ⟨h.up h2.1, (h.fr _ h2.1).trans h2.2⟩, ⟨h.up h3.1, (h.fr _ h3.1).trans h3.2⟩⟩
theorem StpIn.calm {s : Stp} {v : Value} (hs : StpIn O W d s v) (h : Calm O W W') : StpIn O W' d s v := by
  cases s with
  | m k => exact hs
  | word x => exact Clos.calm hs h
  | lines k => exact Clos.calm hs h
  | more k => exact Clos.calm hs h
  | commas k => exact Clos.calm hs h
  | moreC k => exact Clos.calm hs h
theorem StpsIn.calm (h : Calm O W W') : ∀ {l : List Stp} {vs : List Value}, StpsIn O W d l vs → StpsIn O W' d l vs
  | [], _, hs => hs
  | _ :: _, _, ⟨v, us, h1, h2, h3⟩ => ⟨v, us, h1, h2.calm h, StpsIn.calm h h3⟩
theorem owns_at {w w' : World} {B n size : Nat} {e : TypeId} {v : Value} {xs : List Value} (h : w.ownsRow B e size v n xs) (hs : ∀ k, v.ownBlock = some k → w'.heap[k]? = w.heap[k]?) : w'.ownsRow B e size v n xs := by
  refine ⟨h.1, ?_⟩
  rcases h.2 with h | ⟨g, cap, cur, rfl, h2, h3, h4⟩
  · exact .inl h
  · exact .inr ⟨g, cap, cur, rfl, h2, (hs g rfl).trans h3, h4⟩
theorem OpensIn.calm (h : Calm O W W') : ∀ {l : List Open} {xs : List Value} {bs : List (Option Nat)}, OpensIn O W l xs bs → (∀ g, some g ∈ bs → W'.heap[g]? = W.heap[g]?) → OpensIn O W' l xs bs
  | [], _, _, hs, _ => hs
  | o :: r, _, _, ⟨kv, ks, us, bs', h1, h2, h3, h4, h5⟩, hb => by
    subst h2
    exact ⟨kv, ks, us, bs', h1, rfl, owns_at h3 (fun k hk => hb k (by rw [hk]; exact List.mem_cons_self)), PartsIn.later (R := Fr O W) (R' := Fr O W') (fun g hg _ => h.fr g hg) (fun g hg => h.up hg) _ _ h4, OpensIn.calm h h5 (fun g hg => hb g (List.mem_cons_of_mem _ hg))⟩
theorem Mem.calm (hM : Mem d L size lv s O W) (h : Calm O W W') : Mem d L size lv s O W' := by
  obtain ⟨tv, ov, bs, vs, xs, hM⟩ := hM
  have hd := h.own d ((hM.own d).2 (.inl rfl))
  refine ⟨tv, ov, bs, vs, xs, hd.trans hM.blk, ?_, owns_at hM.todoR (fun k hk => h.own k ((hM.own k).2 (.inr (.inl hk)))), hM.todo.calm h, owns_at hM.opnR (fun k hk => h.own k ((hM.own k).2 (.inr (.inr (.inl hk))))),
    OpensIn.calm h hM.opn (fun g hg => h.own g ((hM.own g).2 (.inr (.inr (.inr hg))))), hM.apart, hM.own⟩
  obtain ⟨g, off, cap, h1, h2, h3⟩ := hM.words
  refine ⟨g, off, cap, h1, h.up h2, fun j u hj => ?_⟩
  have h4 := h3 j u hj
  unfold World.cell? at h4 ⊢
  rw [h.fr g h2]; exact h4
/-- Nothing of the reader's is written. -/
theorem Mem.below (h : Mem d L size lv s O W) (hb : Below W.heap.size W W') : Mem d L size lv s O W' := by
  obtain ⟨tv, ov, bs, vs, xs, h⟩ := h
  have hs : Stay O O W W' := .of_below hb
  exact ⟨tv, ov, bs, vs, xs, (hb.block d (Array.getElem?_eq_some_iff.1 h.blk).1).trans h.blk, h.words.stay hs, owns_later h.todoR hb, h.todo.stay hs, owns_later h.opnR hb,
    OpensIn.stay hs h.opn (fun g hg => hb.block g (h.lt g ((h.own g).2 (.inr (.inr (.inr hg)))))), h.apart, h.own⟩
theorem Mem.lt (h : Mem d L size lv s O W) : ∀ k, O k → k < W.heap.size := by
  obtain ⟨tv, ov, bs, vs, xs, h⟩ := h; exact h.lt
theorem Mem.dlt (h : Mem d L size lv s O W) : d < W.heap.size := by
  obtain ⟨tv, ov, bs, vs, xs, h⟩ := h; exact (Array.getElem?_eq_some_iff.1 h.blk).1
/-- The next word's cells. -/
theorem Mem.word (h : Mem d L size lv s O W) (hi : s.i ≤ L.length) : ∃ g off cap n, n = L.length + 1 ∧ g < W.heap.size ∧ W.cell? ⟨d, 0, none⟩ = some (.slice (some ⟨g, off, none⟩) n cap) ∧ W.cell? ⟨d, 1, none⟩ = some (.int .i64 s.i) ∧
    W.cell? ⟨g, off + s.i * 4, none⟩ = some (.int .i64 (tok L size s.i).w) ∧ W.cell? ⟨g, off + s.i * 4 + 1, none⟩ = some (.string ⟨(tok L size s.i).t.toArray⟩) ∧ W.cell? ⟨g, off + s.i * 4 + 2, none⟩ = some (.int .i64 (tok L size s.i).f) ∧ W.cell? ⟨g, off + s.i * 4 + 3, none⟩ = some (.int .i64 (tok L size s.i).e) := by
  obtain ⟨tv, ov, bs, vs, xs, h⟩ := h
  obtain ⟨g, off, cap, rfl, h2, h3⟩ := h.words
  have hl : s.i < (L ++ [endT size]).length := by simp; omega
  have ht : (L ++ [endT size])[s.i] = tok L size s.i := by
    by_cases h1 : s.i < L.length
    · rw [tok_in size h1, List.getElem_append_left h1]
    · rw [tok_out size h1, List.getElem_append_right (by omega)]; simp [endT]
  have h4 := tok_at s.i h3 hl
  rw [ht] at h4
  have hb := h.blk
  exact ⟨g, off, cap, L.length + 1, rfl, h2.1, by simp [World.cell?, hb], by simp [World.cell?, hb], h4.1, h4.2.1, h4.2.2.1, h4.2.2.2⟩
end
end Go.Proofs.YtnjhmjkonmmomaaDoor.K
end
/- KNext: The program's reader: the next word; whether it is a mark; a word that is wrong. -/
section
namespace Go.Proofs.YtnjhmjkonmmomaaDoor.K
open Go.RowKit
open Go.Lib hiding intOf
open Go.Proofs.YtnjhmjkonmmomaaDoor.U Go.Proofs.YtnjhmjkonmmomaaDoor.S Go.Proofs.YtnjhmjkonmmomaaDoor.T

def tokV (t : TokP) : Value := .agg #[.int .i64 t.w, .string ⟨t.t.toArray⟩, .int .i64 t.f, .int .i64 t.e]
theorem heap_new (W : World) (o : Obj) : (W.alloc o).heap[W.heap.size]? = some o := heap_alloc_new W o
theorem fld0 (a b c e : Value) (W : World) : (Instr.field 44 (.agg #[a, b, c, e]) 0).run Tryd.prog W = .ok a W := by kernel_rfl
theorem fld1 (a b c e : Value) (W : World) : (Instr.field 44 (.agg #[a, b, c, e]) 1).run Tryd.prog W = .ok b W := by kernel_rfl
theorem fld2 (a b c e : Value) (W : World) : (Instr.field 44 (.agg #[a, b, c, e]) 2).run Tryd.prog W = .ok c W := by kernel_rfl
section
variable {d : Nat} {L : List TokP} {size : Nat} {lv : Value} {s : St} {O : Nat → Prop}
set_option maxHeartbeats 4000000 in
set_option maxRecDepth 20000 in
theorem next_any {W : World} (hM : Mem d L size lv s O W) (hi : s.i ≤ L.length) :
    Calls Tryd.prog 34 #[ptr d] W fun e W' => e = .returned (tokV (tok L size s.i)) ∧ Below W.heap.size W W' := by
  obtain ⟨g, off, cap, n, hn, hg, c0, c1, k0, k1, k2, k3⟩ := hM.word hi
  have hd := hM.dlt
  generalize tok L size s.i = t at k0 k1 k2 k3 ⊢
  obtain ⟨tw, tt, tf, te⟩ := t
  obtain ⟨y, hy⟩ : ∃ y : ByteArray, (⟨tt.toArray⟩ : ByteArray) = y := ⟨_, rfl⟩
  dsimp only [tokV] at k0 k1 k2 k3 ⊢
  rw [hy] at k1 ⊢
  obtain ⟨i, hi'⟩ : ∃ i, s.i = i := ⟨_, rfl⟩
  rw [hi'] at c1 k0 k1 k2 k3
  have hlt : i < n := by omega
  have hin0 : (0 : Int) ≤ (i : Int) := by omega
  have hin1 : (i : Int) < (n : Int) := by omega
  clear hy hM hi hi' hn
  go_enter Tryd.func34, Tryd.ntmps34
  go_upto_region 1 with fail
  go_region
  go_wp2_with fail
  have hp : ((W.alloc (.cells #[.int .i64 tw, .string y, .int .i64 tf, .int .i64 te] 44)).drew).heap[W.heap.size]? = some (.cells #[.int .i64 tw, .string y, .int .i64 tf, .int .i64 te] 44 (0, 0)) := heap_new W _
  refine bodyPost_ret (v := .agg #[.int .i64 tw, .string y, .int .i64 tf, .int .i64 te]) (results_cell_row rfl _ _ W.heap.size 44 #[.int .i64 tw, .string y, .int .i64 tf, .int .i64 te] (0, 0) _ (by rfl) hp Tryd.underlying44 rfl (by kernel_rfl)) rfl ?_
  exact ⟨rfl, ((Below.refl _ _).alloc (Nat.le_refl _) _).drew⟩
set_option maxHeartbeats 4000000 in
set_option maxRecDepth 20000 in
theorem is_any {W : World} (hM : Mem d L size lv s O W) (hi : s.i ≤ L.length) (x : By) :
    Calls Tryd.prog 61 #[ptr d, .string (bstr x)] W fun e W' => e = .returned (.bool (isP L size x s.i)) ∧ Below W.heap.size W W' := by
  have c1 := next_any hM hi
  unfold isP
  generalize tok L size s.i = t at c1 ⊢
  obtain ⟨tw, tt, tf, te⟩ := t
  dsimp only [tokV] at c1 ⊢
  obtain ⟨y, hy⟩ : ∃ y : ByteArray, (⟨tt.toArray⟩ : ByteArray) = y := ⟨_, rfl⟩
  obtain ⟨z, hz⟩ : ∃ y : ByteArray, bstr x = y := ⟨_, rfl⟩
  have hyl : tt = y.toList := by rw [← hy, ByteArray.toList_eq]
  have hzl : x = z.toList := by rw [← hz, ByteArray.toList_eq]; rfl
  rw [hy] at c1
  rw [hz, hyl, hzl]
  clear hy hz hyl hzl hM hi
  obtain ⟨b, hb⟩ : ∃ b, (y.toList == z.toList) = b := ⟨_, rfl⟩
  rw [hb]
  have hf := fun W => fld1 (.int .i64 tw) (.string y) (.int .i64 tf) (.int .i64 te) W
  go_enter Tryd.func61, Tryd.ntmps61
  go_wp2_with fail
  refine c1.mono ?_
  rintro e w1 ⟨rfl, hb1⟩
  go_wp2_with fail
  go_ret
  exact ⟨by first | rfl | rw [hb], hb1⟩
/-- The panic that tells where a wrong word stands. -/
def Panics (L : List TokP) (size : Nat) (i : Nat) (W : World) (e : Ending) (W' : World) : Prop := e = .panicked [{ v := .iface 51 (.int .i64 (tok L size i).f), recovered := false }] ∧ Below W.heap.size W W'
set_option maxHeartbeats 4000000 in
set_option maxRecDepth 20000 in
theorem fail_any {W : World} (hM : Mem d L size lv s O W) (hi : s.i ≤ L.length) : Calls Tryd.prog 45 #[ptr d] W (Panics L size s.i W) := by
  have c1 := next_any hM hi
  unfold Panics
  generalize tok L size s.i = t at c1 ⊢
  obtain ⟨tw, tt, tf, te⟩ := t
  dsimp only [tokV] at c1 ⊢
  clear hM hi
  have hf := fun W => fld2 (.int .i64 tw) (.string ⟨tt.toArray⟩) (.int .i64 tf) (.int .i64 te) W
  go_enter Tryd.func45, Tryd.ntmps45
  go_wp2_with fail
  refine c1.mono ?_
  rintro e w1 ⟨rfl, hb1⟩
  go_wp2_with fail
  exact ⟨rfl, rfl, hb1⟩
set_option maxHeartbeats 4000000 in
set_option maxRecDepth 20000 in
/-- A pointer to the innermost part. -/
theorem top_raw {W : World} (g n k c : Nat) (hn : n = k + 1) (hk : k ≤ 1099511627776) (c3 : W.cell? ⟨d, 3, none⟩ = some (.slice (some ⟨g, 0, none⟩) n c)) :
    Calls Tryd.prog 28 #[ptr d] W fun e W' => e = .returned (.pointer (some ⟨g, k * 6, none⟩)) ∧ ∃ m, W' = W.drewN m := by
  have hk0 : (0 : Int) ≤ (k : Int) := by omega
  have hkn : (k : Int) < (n : Int) := by omega
  have hk2 : k < n := by omega
  have hi1 : IntKind.i64.wrap ((n : Int) - 1) = (k : Int) := (IntWalk.i64_in _ (by omega)).trans (by omega)
  clear hn
  go_enter Tryd.func28, Tryd.ntmps28
  go_upto_region 1 with fail
  go_quiet (fail)
  go_wp2_with fail
  go_ret
  exact ⟨rfl, _, rfl⟩
end
end Go.Proofs.YtnjhmjkonmmomaaDoor.K
end
/- KThen: The program's reader: what is to be read next, laid one behind the other. -/
section
namespace Go.Proofs.YtnjhmjkonmmomaaDoor.K
open Go.RowKit
open Go.Lib hiding intOf
open Go.Proofs.YtnjhmjkonmmomaaDoor.U Go.Proofs.YtnjhmjkonmmomaaDoor.S Go.Proofs.YtnjhmjkonmmomaaDoor.T

/-- An iterator that goes through states: in state s it hands over an x with R s x s'; it ends in one of S; the blocks of K are read between two rounds. -/
def Steps {σ α : Type} (P : Program) (gf : Nat) (lb : Array Value) (encs : α → Array Value) (K : Nat → Prop) (R : σ → α → σ → Prop) (s0 : σ) (S : σ → Prop) (w : World) : Prop :=
  ∀ (l : Nat) (J : σ → World → Prop) (W : World), (∀ k, K k → W.heap[k]? = w.heap[k]?) →
    (∀ s x s' W1, R s x s' → J s W1 → YieldAt Fence.wide 2 P l (encs x) W1 fun e W2 => e = .returned (.bool true) ∧ J s' W2 ∧ ∀ k, K k → W2.heap[k]? = W1.heap[k]?) → J s0 W →
    CallsIn Fence.wide 3 P gf (#[.func (.yield l) #[] #[]] ++ lb) W fun e W2 => (∃ v, e = .returned v) ∧ ∃ s, S s ∧ J s W2
/-- A round that goes on. -/
def goesOn (K : Nat → Prop) (J : World → Prop) (W : World) : Exit → Act → World → Prop
  | .normal, _, W2 => KeepsOthers W W2 ∧ (∀ k, K k → W2.heap[k]? = W.heap[k]?) ∧ J W2
  | .ret, _, _ => False
  | .exit _, _, _ => False
  | .goto _, _, _ => False
  | .panic _, _, _ => False
  | .outgrown, _, _ => False
theorem wp_steps {σ α : Type} {P : Program} {g : Operand} {ps : Array Tmp} {assign body : Code} {Q : Exit → Act → World → Prop} {a : Act} {w w0 : World} {gf : Nat} {lb : Array Value} {encs : α → Array Value} {K : Nat → Prop} {R : σ → α → σ → Prop} {s0 : σ} {S : σ → Prop}
    (hg : a.eval g = .func (.func gf) #[] lb) (eg : ∀ args w, (callFunc gf args).run P w = .ok (.enter gf args) w) (hseq : Steps P gf lb encs K R s0 S w0) (hb0 : ∀ k, K k → w.heap[k]? = w0.heap[k]?) (hn0 : ∀ k, K k → k < w.heap.size) (hps : ∀ x, (encs x).size = ps.size)
    (I : σ → World → Prop) (hI : OwnFrom w.heap.size I) (h0 : I s0 w) (a1 : α → Act)
    (hassign : ∀ (l : Nat) (x : α) (W : World) (K : Act → World → Prop), K (a1 x) W → assign.wpIn (Fence.wide.inRound l) 2 P (Exit.then K (fun _ _ _ => False)) { tmps := (ps.zip (encs x)).foldl (fun t (p, v) => t.setIfInBounds p v) a.tmps, defers := [] } W)
    (hbody : ∀ (l : Nat) (s : σ) (x : α) (s' : σ) (W : World), R s x s' → I s W → body.wpIn (Fence.wide.inRound l) 2 P (goesOn K (I s') W) (a1 x) W)
    (hdone : ∀ (D : Nat) (s : σ) (W : World), w.heap.size ≤ D → S s → I s W → W.heap[D]? = some (.deferred (some [])) → Q .normal { a with defers := { target := .collected D, args := #[] } :: a.defers } W) :
    (Code.rangeFunc g ps assign body).wp P Q a w := by
  refine (wpIn_wide (n := 4)).1 (wpIn_rangeFunc fun fn hfn => ?_)
  obtain ⟨D, hD⟩ : ∃ D, w.heap.size = D := ⟨_, rfl⟩
  obtain ⟨rec, hrec⟩ : ∃ rec : LoopState → Loop, rec = fun st => { state := st, pending := none, fn, tmps := a.tmps, params := ps, assign, body, defers := D } := ⟨_, rfl⟩
  obtain ⟨W1, hW1⟩ : ∃ W1, (w.alloc (.deferred (some []))).alloc (.loop (rec .ready)) = W1 := ⟨_, rfl⟩
  have hK1 : W1.heap[D]? = some (.deferred (some [])) := by
    rw [← hW1, ← hD]; exact (Below.heap_alloc _ _ _ (by simp)).trans (World.alloc_heap_new w _)
  have hL1 : W1.heap[D + 1]? = some (.loop (rec .ready)) := by
    have h := World.alloc_heap_new (w.alloc (.deferred (some []))) (.loop (rec .ready))
    rw [World.size_alloc, hD, hW1] at h
    exact h
  have hI1 : I s0 W1 := by rw [← hW1]; exact hI.alloc _ (hI.alloc _ h0)
  have hb1 : ∀ k, K k → W1.heap[k]? = w0.heap[k]? := fun k hk => by
    have hlt := hn0 k hk
    rw [← hW1]; exact (Below.heap_alloc _ _ _ (by simp; omega)).trans ((Below.heap_alloc _ _ _ (by omega)).trans (hb0 k hk))
  have henter := run_enterLoop_outer (P := P) (w := w) fn a.tmps ps assign body
  rw [hD] at henter
  refine ⟨D + 1, [{ target := .collected D, args := #[] }], W1, { target := .fn (.func gf) lb, args := #[.func (.yield (D + 1)) #[] #[]] }, W1, gf, #[.func (.yield (D + 1)) #[] #[]] ++ lb, W1, ?_, ?_, fun _ _ => trivial, ?_, fun h => by (simp [Fence.wide] at h), ?_⟩
  · rw [Fence.wide_round, ← hW1, hrec]
    exact henter
  · simp only [resolve, hg]
    simp [go_sem]
  · simp [invoke, go_sem, eg]
  · rw [hD] at hI hn0
    refine (hseq (D + 1) (fun s W => I s W ∧ W.heap[D + 1]? = some (.loop (rec .ready)) ∧ W.heap[D]? = some (.deferred (some []))) W1 hb1 ?_ ⟨hI1, hL1, hK1⟩).mono ?_
    · rintro s x s' W hR ⟨hi, hl, hk⟩
      have hlt : D + 1 < W.heap.size := (Array.getElem?_eq_some_iff.1 hl).1
      obtain ⟨W2, hW2⟩ : ∃ W2, W.putObj (D + 1) (.loop (rec .busy)) = W2 := ⟨_, rfl⟩
      have hl2 : W2.heap[D + 1]? = some (.loop (rec .busy)) := by rw [← hW2]; exact World.putObj_heap_same hlt
      have hk2 : W2.heap[D]? = some (.deferred (some [])) := by rw [← hW2]; exact (World.putObj_heap_other (by omega)).trans hk
      have hi2 : I s W2 := by rw [← hW2]; exact hI.putObj _ hi (by omega) hl rfl
      have hb2 : ∀ k, K k → W2.heap[k]? = W.heap[k]? := fun k hk => by have := hn0 k hk; rw [← hW2]; exact World.putObj_heap_other (by omega)
      have hbegin : (Instr.beginRound (D + 1)).run P W = .ok () W2 := by
        have h := run_beginRound (P := P) hl (by rw [hrec])
        rw [← hW2, h, hrec]
      have hy := run_yield (P := P) (args := encs x) hl (by rw [hrec]; exact hps x)
      rw [hrec] at hy
      refine ⟨fn, _, assign, body, hy, roundIn_of_wpIn hfn (hassign _ x W _ ⟨_, hbegin, wpIn_mono (hbody _ s x s' W2 hR hi2) ?_⟩)⟩
      rintro e a3 W3 hp
      cases e with
      | normal =>
        obtain ⟨hko, hb3, hi3⟩ := hp
        have hl3 := hko.same _ _ hl2 rfl
        have hk3 := hko.same _ _ hk2 rfl
        have hlt3 : D + 1 < W3.heap.size := (Array.getElem?_eq_some_iff.1 hl3).1
        have hend := run_endRound (P := P) none hl3
        have hb4 : ∀ k, K k → (W3.putObj (D + 1) (.loop (rec .ready))).heap[k]? = W3.heap[k]? := fun k hk => by have := hn0 k hk; exact World.putObj_heap_other (by omega)
        refine ⟨_, W3.putObj (D + 1) (.loop (rec .ready)), ?_, rfl, ⟨hI.putObj _ hi3 (by omega) hl3 rfl, World.putObj_heap_same hlt3, (World.putObj_heap_other (by omega)).trans hk3⟩, fun k hk => (hb4 k hk).trans ((hb3 k hk).trans (hb2 k hk))⟩
        rw [hrec] at hend ⊢
        exact hend
      | ret => exact hp.elim
      | exit id => exact hp.elim
      | goto t => exact hp.elim
      | panic ch => exact hp.elim
      | outgrown => exact hp.elim
    · rintro e W2 ⟨⟨v, rfl⟩, s, hS, hi, hl, hk⟩
      have hend := run_endLoop (P := P) hl (by rw [hrec]; simp)
      have hp : (rec .ready).pending = none := by rw [hrec]
      rw [hp] at hend
      exact ⟨none, _, hend, hdone D s _ (by omega) hS (hI.putObj _ hi (by omega) hl rfl) ((World.putObj_heap_other (by omega)).trans hk)⟩
/-- A list of values, from its end. -/
def BackL (s : List Value) (x : Int × Value) (s' : List Value) : Prop := s = s' ++ [x.2] ∧ x.1 = (s'.length : Int)
def encB (x : Int × Value) : Array Value := #[.int .i64 x.1, x.2]
attribute [local go_sem] Oper.semAt_some
set_option maxHeartbeats 4000000 in
set_option maxRecDepth 20000 in
theorem back_steps (vs : List Value) (k g : Nat) (w : World) (hk : w.heap[k]? = some (.cells #[.slice (some ⟨g, 0, none⟩) vs.length vs.length] 48 (0, 0))) (hg : w.heap[g]? = some (.cells vs.toArray 1 (0, 0))) (hs : vs.length ≤ 1000) :
    Steps Tryd.prog 58 #[ptr k] encB (fun b => b = k ∨ b = g) BackL vs (fun s => s = []) w := by
  intro l J W hW hY h0
  have hk0 : W.heap[k]? = some (.cells #[.slice (some ⟨g, 0, none⟩) vs.length vs.length] 48 (0, 0)) := (hW k (.inl rfl)).trans hk
  have hg0 : W.heap[g]? = some (.cells vs.toArray 1 (0, 0)) := (hW g (.inr rfl)).trans hg
  have HY := Lib.hid hY
  have HK0 := Lib.hid hk0
  have HG0 := Lib.hid hg0
  clear hY hW hk hg
  obtain ⟨n, hn⟩ : ∃ n, vs.length = n := ⟨_, rfl⟩
  have HN := Lib.hid hn
  rw [hn] at hk0 hs HK0
  have hc0 : W.cell? ⟨k, 0, none⟩ = some (.slice (some ⟨g, 0, none⟩) n n) := by simp [World.cell?, hk0]
  clear hk0 hg0 hn
  refine callsIn_of_wp Tryd.func58 rfl trivial ?_ rfl
  simp only [Tryd.ntmps58, List.size_toArray, List.length_cons, List.length_nil, Nat.reduceAdd, Nat.reduceSub, Array.replicate_succ, Array.replicate_zero, List.push_toArray, List.append_toArray, List.nil_append, List.cons_append]
  have e0 : IntKind.i64.wrap ((n : Int) - 1) = (n : Int) - 1 := IntWalk.i64_in _ (by omega)
  gi_wp2
  gi_loopw [3] (fun iv wr => ∃ (i : Nat), iv = .int .i64 ((i : Int) - 1) ∧ i ≤ n ∧ Hid (J (vs.take i) wr) ∧ Hid (wr.heap[k]? = some (.cells #[.slice (some ⟨g, 0, none⟩) n n] 48 (0, 0))) ∧ Hid (wr.heap[g]? = some (.cells vs.toArray 1 (0, 0)))) (fun iv _ => (intOf iv + 1).toNat)
  case atStart => exact ⟨n, by first | rfl | rw [e0], Nat.le_refl _, Lib.hid (by rw [List.take_of_length_le (by rw [HN.out]; exact Nat.le_refl _)]; exact h0), HK0, HG0⟩
  case round =>
    obtain ⟨i, rfl, hi, HJ, HK, HG⟩ := hrel
    have hc : wr.cell? ⟨k, 0, none⟩ = some (.slice (some ⟨g, 0, none⟩) n n) := by simp [World.cell?, HK.out]
    clear hc0
    by_cases h1 : i = 0
    · subst h1
      have hd : decide ((0 : Int) ≤ ((0 : Nat) : Int) - 1) = false := by decide
      gi_wp2
      go_end0
      exact ⟨⟨_, rfl⟩, [], rfl, HJ.out⟩
    · obtain ⟨j, rfl⟩ : ∃ j, i = j + 1 := ⟨i - 1, by omega⟩
      have hjl : j < vs.length := by rw [HN.out]; omega
      obtain ⟨v, hv⟩ : ∃ v, vs[j] = v := ⟨_, rfl⟩
      have hcj : wr.cell? ⟨g, j, none⟩ = some v := by
        have h := HG.out
        simp [World.cell?, h, hjl, hv]
      have e1 : ((j + 1 : Nat) : Int) - 1 = (j : Int) := by omega
      rw [e1]
      obtain ⟨fn, tmps, assign, body, hy, hR⟩ := HY.out (vs.take (j + 1)) ((j : Int), v) (vs.take j) wr ⟨by rw [List.take_add_one, List.getElem?_eq_getElem hjl, hv]; rfl, by rw [List.length_take]; dsimp only; omega⟩ HJ.out
      dsimp only [encB] at hy
      have hj0 : (0 : Int) ≤ (j : Int) := by omega
      have hjn : (j : Int) < (n : Int) := by omega
      have hjn' : j < n := by omega
      have e2 : IntKind.i64.wrap ((j : Int) - 1) = (j : Int) - 1 := IntWalk.i64_in _ (by omega)
      clear hv hjl e1
      gi_wp2
      refine hR.mono ?_
      rintro e W3 ⟨rfl, hJ3, hk3⟩
      have HJ3 := Lib.hid hJ3
      have HK3 : Hid (W3.heap[k]? = some (.cells #[.slice (some ⟨g, 0, none⟩) n n] 48 (0, 0))) := Lib.hid ((hk3 k (.inl rfl)).trans HK.out)
      have HG3 : Hid (W3.heap[g]? = some (.cells vs.toArray 1 (0, 0))) := Lib.hid ((hk3 g (.inr rfl)).trans HG.out)
      clear hJ3 hk3
      gi_wp2
      go_roundw
      case rel => exact ⟨j, by first | rfl | rw [e2], by omega, HJ3, HK3, HG3⟩
      case measure => simp [intOf]

/-! ### A drawn region in a round -/
theorem oper_round {l n : Nat} {P : Program} {o : Oper} {a : Act} {w : World} {K : Act → World → Prop} {Q : Exit → Act → World → Prop} (hd : ∀ c, o.op ≠ .defer c) (_hq : ¬ LetsOut Q) (h : o.wp P a w K Q) : o.wpIn (Fence.wide.inRound l) n P a w K Q := by
  refine ⟨fun _ _ => trivial, ?_⟩
  rw [Fence.inRound_round, Oper.semAt_some l _ _ hd]
  unfold Oper.wp at h
  generalize (execOp a.eval o).run P w = r at h
  cases r with
  | ok x w' =>
    cases x with
    | value v => exact h
    | skip => exact h
    | defer d => exact h
    | enter f args => exact ⟨fun h => by simp [Fence.wide, Fence.inRound] at h, CallsIn.mono (CallsIn.inRound l (callsIn_wide.2 h)) (fun e w'' he => by cases e <;> exact he)⟩
    | row r x => exact ⟨fun h => by simp [Fence.wide, Fence.inRound] at h, fun c cs _ => let ⟨v, w', q, st⟩ := h c cs; ⟨v, w', q, stepsIn_wide.2 st⟩⟩
    | _ => exact h.elim
  | halt x w' => cases x <;> first | exact h | exact h.elim
theorem any_round {l n : Nat} {P : Program} {ops : Array Oper} {Q : Exit → Act → World → Prop} {md : Region.Mode} (hd : ∀ o ∈ ops, ∀ c, o.op ≠ .defer c) (hq : ¬ LetsOut Q) :
    ∀ (fuel : Nat) (listed : Array Bool) (a : Act) (w : World), wpAny P md ops Q fuel listed a w → wpAnyIn (Fence.wide.inRound l) n P md ops Q fuel listed a w
  | 0, _, _, _, h => h
  | fuel + 1, listed, a, w, h => by
    refine ⟨h.1, fun i hi => ?_⟩
    have h2 := h.2 i hi
    unfold wpOp at h2
    unfold wpOpIn
    cases ho : ops[i]? with
    | none => rw [ho] at h2; exact any_round hd hq fuel _ a w h2
    | some o =>
      rw [ho] at h2
      have hm : o ∈ ops := Array.mem_of_getElem? ho
      dsimp only at h2 ⊢
      split at h2
      · rename_i hw
        rw [if_pos hw]
        rcases h2 with h2 | h2
        · exact Oper.wpIn_mono (fun a' w' h' => any_round hd hq fuel _ a' w' h') (oper_round (hd o hm) hq h2)
        · exact absurd h2.2 hq
      · rename_i hw
        rw [if_neg hw]
        exact ⟨fun _ _ => trivial, any_round hd hq fuel _ _ w h2⟩
theorem region_round {l n id : Nat} {P : Program} {ops : Array Oper} {Q : Exit → Act → World → Prop} {a : Act} {w : World} (hm : P.follows .mixedOrders = true) (hd : ∀ o ∈ ops, ∀ c, o.op ≠ .defer c) (hq : ¬ LetsOut Q)
    (h : wpAny P .any ops Q ops.size (Array.replicate ops.size false) a w.drew) : (Code.region id ops true).wpIn (Fence.wide.inRound l) n P Q a w :=
  wpIn_region_draw fun t => by
    simp only [Region.schedule, hm, Bool.true_or, if_true]
    exact wpAnyIn_sound ops.size t _ a _ (any_round hd hq _ _ _ _ h)

theorem yields_load {P : Program} {ops : Array Oper} {S : World → Prop} {o : Oper} {v : Value} {a : Act} (t : TypeId) (x : Operand) (ho : o.op = .load t x) (hw : Region.wanted o (yielded ops a.tmps) = true) (h : ∀ X, S X → (Instr.loadAt t (a.eval x)).run P X = .ok v X) : YieldsIf P ops S o v a :=
  .inl ⟨hw, fun X hX => by unfold execOp; rw [ho]; simp only [Sem.run_bind, h X hX, Result.andThen_ok, Sem.run_pure]⟩
theorem wanted_step {c : Prop} [Decidable c] {A B : Prop} (hc : c) (hA : A) : if c then A else B := by rw [if_pos hc]; exact hA
theorem load_one {d bx : Nat} {W : World} (h : W.cell? ⟨bx, 0, none⟩ = some (ptr d)) : (Instr.loadAt 39 (.pointer (some ⟨bx, 0, none⟩))).run Tryd.prog W = .ok (ptr d) W := by
  simp [go_sem, h]
theorem infoF : (Tryd.prog.info? 1).map (fun i => (i.zero, i.size, i.bytes)) = some (some Value.nilFunc, 1, 8) := by kernel_rfl
section
variable {d : Nat} {L : List TokP} {size : Nat} {lv : Value} {s : St} {O : Nat → Prop}
/-- What a block is a row of. -/
def Ty (W : World) (k : Nat) (t : TypeId) : Prop := ∃ cs fr, W.heap[k]? = some (.cells cs t fr)
theorem Ty.one {W : World} {k : Nat} {t u : TypeId} (h : Ty W k t) (h' : Ty W k u) : t = u := by
  obtain ⟨_, _, h⟩ := h
  obtain ⟨_, _, h'⟩ := h'
  rw [h] at h'
  injection h' with h'
  injection h'
theorem owns_ty {W : World} {B n size k : Nat} {e : TypeId} {v : Value} {xs : List Value} (h : W.ownsRow B e size v n xs) (hk : v.ownBlock = some k) : Ty W k e := by
  rcases h.2 with ⟨rfl, _⟩ | ⟨g, cap, cur, rfl, _, h3, _⟩
  · cases hk
  · obtain rfl : g = k := by simpa [Value.ownBlock] using hk
    exact ⟨_, _, h3⟩
theorem opens_ty {W : World} {k : Nat} : ∀ {l : List Open} {xs : List Value} {bs : List (Option Nat)}, OpensIn O W l xs bs → some k ∈ bs → Ty W k 24
  | [], _, _, ⟨_, h⟩, hk => by rw [h] at hk; cases hk
  | o :: r, _, _, ⟨kv, ks, us, bs', _, h2, h3, _, h5⟩, hk => by
    rw [h2] at hk
    rcases List.mem_cons.1 hk with hk | hk
    · exact owns_ty h3 hk.symm
    · exact opens_ty h5 hk
theorem MemX.ty {W : World} {tv ov : Value} {bs : List (Option Nat)} {vs xs : List Value} (h : MemX d L size lv s O tv ov bs vs xs W) {k : Nat} (hk : O k) : Ty W k 50 ∨ Ty W k 1 ∨ Ty W k 55 ∨ Ty W k 24 := by
  rcases (h.own k).1 hk with rfl | h1 | h1 | h1
  · exact .inl ⟨_, _, h.blk⟩
  · exact .inr (.inl (owns_ty h.todoR h1))
  · exact .inr (.inr (.inl (owns_ty h.opnR h1)))
  · exact .inr (.inr (.inr (opens_ty h.opn h1)))
theorem Mem.ty {W : World} (h : Mem d L size lv s O W) {k : Nat} (hk : O k) : Ty W k 50 ∨ Ty W k 1 ∨ Ty W k 55 ∨ Ty W k 24 := by
  obtain ⟨tv, ov, bs, vs, xs, h⟩ := h; exact h.ty hk
theorem Mem.not_own {W : World} (h : Mem d L size lv s O W) {k : Nat} {t : TypeId} (ht : Ty W k t) (h1 : t ≠ 50) (h2 : t ≠ 1) (h3 : t ≠ 55) (h4 : t ≠ 24) : ¬ O k := by
  intro hk
  rcases h.ty hk with h | h | h | h
  · exact h1 (ht.one h)
  · exact h2 (ht.one h)
  · exact h3 (ht.one h)
  · exact h4 (ht.one h)
theorem Mem.own_cells {W : World} (h : Mem d L size lv s O W) {k : Nat} (hk : O k) : ∃ o : Obj, W.heap[k]? = some o ∧ o.isCells = true := by
  rcases h.ty hk with ⟨cs, fr, h⟩ | ⟨cs, fr, h⟩ | ⟨cs, fr, h⟩ | ⟨cs, fr, h⟩ <;> exact ⟨_, h, rfl⟩
theorem Stay.others {O' : Nat → Prop} {W W' : World} (h : Stay O O' W W') (hM : Mem d L size lv s O W) : KeepsOthers W W' := by
  refine ⟨h.size, fun k o hk hc => ?_⟩
  have hlt : k < W.heap.size := (Array.getElem?_eq_some_iff.1 hk).1
  rw [h.block k hlt (fun hO => by
    obtain ⟨o', h1, h2⟩ := hM.own_cells hO
    rw [hk] at h1; cases h1; rw [hc] at h2; cases h2)]
  exact hk
/-- One more is to be read next. -/
theorem push_mem {W Wd w5 : World} {tv ov : Value} {bs : List (Option Nat)} {us xs : List Value} {x : Stp} {v : Value} {o : Obj} {g5 c5 m : Nat} (hM : MemX d L size lv s O tv ov bs us xs W) (hm : s.todo.length = m) (hx : StpIn O W d x v) (hd : Below W.heap.size W Wd)
    (hown : w5.ownsRow 0 1 1 (.slice (some ⟨g5, 0, none⟩) (m + 1) c5) (m + 1) (us ++ [v])) (hgrow : (Wd.alloc o).grownBy w5 tv.ownBlock) (hat : tv.ownBlock = some g5 ∨ W.heap.size ≤ g5) :
    w5.cell? ⟨d, 2, none⟩ = some tv ∧ w5.frozen? ⟨d, 2, none⟩ = false ∧ ∃ O', Mem d L size lv { s with todo := x :: s.todo } O' (w5.setCell ⟨d, 2, none⟩ (.slice (some ⟨g5, 0, none⟩) (m + 1) c5)) ∧ Stay O O' W (w5.setCell ⟨d, 2, none⟩ (.slice (some ⟨g5, 0, none⟩) (m + 1) c5)) := by
  have hdl : d < W.heap.size := (Array.getElem?_eq_some_iff.1 hM.blk).1
  have htd : tv.ownBlock ≠ some d := fun e => by have h1 := owns_ty hM.todoR e; have h2 : Ty W d _ := ⟨_, _, hM.blk⟩; exact absurd (h1.one h2) (by decide)
  have h5 : ∀ k, k < W.heap.size → tv.ownBlock ≠ some k → w5.heap[k]? = W.heap[k]? := fun k hk hne =>
    (hgrow.block k (by rw [World.size_alloc]; have := hd.size; omega) (fun e => hne e.symm)).trans ((Below.heap_alloc Wd o k (by have := hd.size; omega)).trans (hd.block k hk))
  have hb5 := (h5 d hdl htd).trans hM.blk
  refine ⟨by simp [World.cell?, hb5], by simp [World.frozen?, hb5], fun k => k = d ∨ g5 = k ∨ ov.ownBlock = some k ∨ some k ∈ bs, ?_⟩
  have hset : ∀ k, k ≠ d → (w5.setCell ⟨d, 2, none⟩ (.slice (some ⟨g5, 0, none⟩) (m + 1) c5)).heap[k]? = w5.heap[k]? := fun k hk => Below.heap_setCell _ _ _ _ hk
  have hz5 : W.heap.size ≤ w5.heap.size := by have h1 := hgrow.size; have h2 := hd.size; rw [World.size_alloc] at h1; omega
  have hS : Stay O (fun k => k = d ∨ g5 = k ∨ ov.ownBlock = some k ∨ some k ∈ bs) W (w5.setCell ⟨d, 2, none⟩ (.slice (some ⟨g5, 0, none⟩) (m + 1) c5)) := by
    refine ⟨hgrow.os.trans hd.os, hgrow.tape.trans hd.tape, hgrow.output.trans hd.output, by simpa using hz5, ?_, ?_⟩
    · rintro k (rfl | rfl | h1 | h1)
      · exact .inl ((hM.own _).2 (.inl rfl))
      · exact hat.elim (fun h => .inl ((hM.own _).2 (.inr (.inl h)))) .inr
      · exact .inl ((hM.own _).2 (.inr (.inr (.inl h1))))
      · exact .inl ((hM.own _).2 (.inr (.inr (.inr h1))))
    · intro k hk hO
      have hkd : k ≠ d := fun e => hO ((hM.own k).2 (.inl e))
      rw [hset k hkd]
      exact h5 k hk (fun e => hO ((hM.own k).2 (.inr (.inl e))))
  refine ⟨⟨_, ov, bs, us ++ [v], xs, Go.Joins.block_setCell hb5 _, hM.words.stay hS, ?_, ⟨v, us, rfl, hx.stay hS, hM.todo.stay hS⟩, ?_, ?_, hM.apart, ?_⟩, hS⟩
  · show World.ownsRow _ 0 _ 1 _ (s.todo.length + 1) _
    rw [hm]
    refine owns_at hown (fun k hk => ?_)
    have h1 : g5 = k := by simpa [Value.ownBlock] using hk
    refine hset k (fun e => ?_)
    have h2 : Ty w5 k 1 := owns_ty hown hk
    rw [e] at h2
    exact absurd (h2.one ⟨_, _, hb5⟩) (by decide)
  · refine owns_at hM.opnR (fun k hk => ?_)
    have h1 := owns_ty hM.opnR hk
    have hkd : k ≠ d := fun e => by rw [e] at h1; exact absurd (h1.one ⟨_, _, hM.blk⟩) (by decide)
    exact (hset k hkd).trans (h5 k (hM.opnR.lt k hk).2 (fun e => absurd (h1.one (owns_ty hM.todoR e)) (by decide)))
  · refine OpensIn.stay hS hM.opn (fun k hk => ?_)
    have h1 := opens_ty hM.opn hk
    have hkd : k ≠ d := fun e => by rw [e] at h1; exact absurd (h1.one ⟨_, _, hM.blk⟩) (by decide)
    exact (hset k hkd).trans (h5 k (hM.lt k ((hM.own k).2 (.inr (.inr (.inr hk))))) (fun e => absurd (h1.one (owns_ty hM.todoR e)) (by decide)))
  · intro k
    simp [Value.ownBlock]
/-- Values that read what is to be read, one behind the other. -/
def ArgsIn (O : Nat → Prop) (W : World) (d : Nat) : List Stp → List Value → Prop
  | [], vs => vs = []
  | x :: l, vs => ∃ v us, vs = v :: us ∧ StpIn O W d x v ∧ ArgsIn O W d l us
theorem ArgsIn.get {W : World} : ∀ {l : List Stp} {vs : List Value}, ArgsIn O W d l vs → vs.length = l.length ∧ ∀ (i : Nat) (v : Value), vs[i]? = some v → ∃ x : Stp, l[i]? = some x ∧ StpIn O W d x v
  | [], _, h => by rw [show _ = [] from h]; exact ⟨rfl, fun i v h => by simp at h⟩
  | x :: l, _, ⟨v, us, h1, h2, h3⟩ => by
    obtain ⟨h4, h5⟩ := ArgsIn.get h3
    subst h1
    refine ⟨by simp [h4], fun i u hi => ?_⟩
    cases i with
    | zero => exact ⟨x, rfl, by simp at hi; rw [← hi]; exact h2⟩
    | succ i => simpa using h5 i u (by simpa using hi)
theorem stp_func {W : World} {x : Stp} {v : Value} (h : StpIn O W d x v) : ∃ f a c, v = .func f a c := by
  cases x with
  | m k => exact ⟨_, _, _, h⟩
  | word x => obtain ⟨_, _, rfl, _⟩ := h; exact ⟨_, _, _, rfl⟩
  | lines k => obtain ⟨_, _, rfl, _⟩ := h; exact ⟨_, _, _, rfl⟩
  | more k => obtain ⟨_, _, rfl, _⟩ := h; exact ⟨_, _, _, rfl⟩
  | commas k => obtain ⟨_, _, rfl, _⟩ := h; exact ⟨_, _, _, rfl⟩
  | moreC k => obtain ⟨_, _, rfl, _⟩ := h; exact ⟨_, _, _, rfl⟩
theorem stp_one {W : World} {x : Stp} {v : Value} (h : StpIn O W d x v) : v.oneCell' = true := by
  cases x with
  | m k => rw [show v = mval d k from h]; rfl
  | word x => obtain ⟨_, _, rfl, _⟩ := h; rfl
  | lines k => obtain ⟨_, _, rfl, _⟩ := h; rfl
  | more k => obtain ⟨_, _, rfl, _⟩ := h; rfl
  | commas k => obtain ⟨_, _, rfl, _⟩ := h; rfl
  | moreC k => obtain ⟨_, _, rfl, _⟩ := h; rfl
/-- Between two rounds. -/
def ThenI (d : Nat) (L : List TokP) (size : Nat) (lv : Value) (s : St) (O : Nat → Prop) (l : List Stp) (bx : Nat) (W0 : World) (b : List Value) (W : World) : Prop :=
  ∃ O', Mem d L size lv { s with todo := l.drop b.length ++ s.todo } O' W ∧ Stay O O' W0 W ∧ W.heap[bx]? = some (.cells #[ptr d] 39 (0, 0))
theorem then_own {l : List Stp} {bx B : Nat} {W0 : World} (hB : W0.heap.size ≤ B) : OwnFrom B (ThenI d L size lv s O l bx W0) := by
  rintro b W W' row ⟨O', hM, hS, hbx⟩ hg hr
  have same : ∀ k (o : Obj), W.heap[k]? = some o → o.isCells = true → W'.heap[k]? = W.heap[k]? := fun k o hk hc =>
    hg.block k (Array.getElem?_eq_some_iff.1 hk).1 (fun e => by obtain ⟨_, o', h1, h2⟩ := hr k e.symm; rw [hk] at h1; cases h1; rw [hc] at h2; cases h2)
  have hC : Calm O' W W' := ⟨hg.size, fun k hk => by obtain ⟨o, h1, h2⟩ := hM.own_cells hk; exact same k o h1 h2, fun k hk => by obtain ⟨o, h1, h2⟩ := hk.2.2; exact same k o h1 h2⟩
  refine ⟨O', hM.calm hC, ⟨hg.os.trans hS.os, hg.tape.trans hS.tape, hg.output.trans hS.output, Nat.le_trans hS.size hg.size, hS.own, fun k hk hO => (hg.block k (Nat.lt_of_lt_of_le hk hS.size) (fun e => ?_)).trans (hS.block k hk hO)⟩, (same bx _ hbx rfl).trans hbx⟩
  have := (hr k e.symm).1
  omega
theorem then_own2 {l : List Stp} {bx B k : Nat} {W0 : World} {cs : Array Value} {t : TypeId} {vs : List Value} (hB : W0.heap.size ≤ B) : OwnFrom B (fun b W' => ThenI d L size lv s O l bx W0 b W' ∧ W'.heap[k]? = some (.cells cs t (0, 0)) ∧ ∃ t, vs = b ++ t) := by
  rintro b W W' row ⟨h1, h2, h3⟩ hg hr
  refine ⟨then_own hB b W W' row h1 hg hr, (hg.block k (Array.getElem?_eq_some_iff.1 h2).1 (fun e => ?_)).trans h2, h3⟩
  obtain ⟨_, o', h4, h5⟩ := hr k e.symm
  rw [h2] at h4; cases h4; cases h5
set_option maxHeartbeats 8000000 in
set_option maxRecDepth 20000 in
theorem then_any {W : World} (hM : Mem d L size lv s O W) (l : List Stp) (vs : List Value) (g : Nat) (hg : Fr O W g) (hc : W.heap[g]? = some (.cells vs.toArray 1 (0, 0))) (ha : ArgsIn O W d l vs) (hl : vs.length ≤ 1000) (ht : s.todo.length ≤ 1000000) :
    Calls Tryd.prog 24 #[ptr d, .slice (some ⟨g, 0, none⟩) vs.length vs.length] W fun e W' => e = .returned (.tuple #[]) ∧ ∃ O', Mem d L size lv { s with todo := l ++ s.todo } O' W' ∧ Stay O O' W W' := by
  obtain ⟨bx, hbx⟩ : ∃ d, W.heap.size = d := ⟨_, rfl⟩
  have HA := Lib.hid ha.get
  refine (callsIn_wide (n := 4)).1 ?_
  refine callsIn_of_wp_marks Tryd.func24 rfl trivial ?_ rfl
  simp only [Tryd.ntmps24, List.size_toArray, List.length_cons, List.length_nil, Nat.reduceAdd, Nat.reduceSub, Array.replicate_succ, Array.replicate_zero, List.push_toArray, List.append_toArray, List.nil_append, List.cons_append]
  refine wpIn_wide.2 ?_
  have c1 : ∀ X : World, Calls Tryd.prog 33 #[.slice (some ⟨g, 0, none⟩) vs.length vs.length] X fun e w' => e = .returned (.func (.func 58) #[] #[ptr X.heap.size]) ∧ w' = X.alloc (.cells #[.slice (some ⟨g, 0, none⟩) vs.length vs.length] 48) := by
    intro X
    go_enter Tryd.func33, Tryd.ntmps33
    go_wp2_with fail
    go_ret
    exact ⟨rfl, rfl⟩
  go_wp2_with (go_at_call 33; refine (c1 _).mono ?_; rintro e w' ⟨rfl, rfl⟩)
  clear c1
  obtain ⟨W0, hW0⟩ : ∃ W0, (W.alloc (.cells #[ptr d] 39)).alloc (.cells #[.slice (some ⟨g, 0, none⟩) vs.length vs.length] 48) = W0 := ⟨_, rfl⟩
  have hz0 : W0.heap.size = bx + 2 := by rw [← hW0]; simp [hbx]
  have hB0 : Below W.heap.size W W0 := by rw [← hW0]; exact ((Below.refl _ _).alloc (Nat.le_refl _) _).alloc (by simp) _
  have hx0 : W0.heap[bx]? = some (.cells #[ptr d] 39 (0, 0)) := by
    rw [← hW0, Below.heap_alloc _ _ _ (by simp; omega), ← hbx]; exact heap_new _ _
  have hx1 : W0.heap[bx + 1]? = some (.cells #[.slice (some ⟨g, 0, none⟩) vs.length vs.length] 48 (0, 0)) := by
    rw [← hW0]
    have h := heap_new (W.alloc (.cells #[ptr d] 39)) (.cells #[.slice (some ⟨g, 0, none⟩) vs.length vs.length] 48)
    rw [World.size_alloc, hbx] at h
    exact h
  have hg0 := (hB0.block g hg.1).trans hc
  have hI0 : ThenI d L size lv s O l bx W vs W0 := ⟨O, by rw [List.drop_of_length_le (by rw [HA.out.1]; exact Nat.le_refl _)]; exact hM.below hB0, .of_below hB0, hx0⟩
  have hgl := hg.1
  have hgO := hg.2.1
  have HG := Lib.hid hc
  rw [hbx] at hgl
  rw [hW0]
  clear hW0 hc
  refine wp_steps (gf := 58) (lb := #[ptr (bx + 1)]) (K := fun b => b = bx + 1 ∨ b = g) rfl (enters_of Tryd.func58 (by kernel_rfl) rfl) (back_steps vs (bx + 1) g W0 hx1 hg0 hl) (fun _ _ => rfl) (by rintro k (rfl | rfl) <;> omega) (fun _ => rfl) (fun b W' => ThenI d L size lv s O l bx W b W' ∧ W'.heap[bx + 1]? = some (.cells #[.slice (some ⟨g, 0, none⟩) vs.length vs.length] 48 (0, 0)) ∧ ∃ t, vs = b ++ t) (then_own2 (by omega)) ⟨hI0, hx1, [], by simp⟩
    (fun x => { tmps := #[ptr d, .slice (some ⟨g, 0, none⟩) vs.length vs.length, ptr bx, undef, undef, x.2, .slice (some ⟨g, 0, none⟩) vs.length vs.length, .func (.func 58) #[] #[ptr (bx + 1)], .int .i64 x.1, x.2, undef, undef, undef, undef, undef, undef, undef, undef, undef, undef], defers := [] }) ?assign ?body ?done
  case assign =>
    intro l x W K hK
    dsimp only [encB]
    gi_wp2
    exact hK
  case body =>
    rintro lo b ⟨i, v⟩ b' W1 ⟨hb, hi⟩ ⟨⟨O', hM1, hS1, hbx1⟩, hkx, hpre⟩
    dsimp only at hb hi ⊢
    obtain ⟨tv, ov, bs, us, xs, hX⟩ := hM1
    obtain ⟨x, hx, hxs⟩ : ∃ x, l.drop b'.length = x :: l.drop b.length ∧ StpIn O' W1 d x v := by
      have hsuf : ∃ t, vs = b ++ t := hpre
      obtain ⟨t, ht⟩ := hsuf
      have hv : vs[b'.length]? = some v := by rw [ht, hb]; simp
      obtain ⟨x, h1, h2⟩ := HA.out.2 _ _ hv
      have hlt : b'.length < l.length := by
        rcases Nat.lt_or_ge b'.length l.length with h | h
        · exact h
        · rw [List.getElem?_eq_none h] at h1; cases h1
      refine ⟨x, ?_, h2.stay hS1⟩
      rw [List.drop_eq_getElem_cons hlt]
      rw [List.getElem?_eq_getElem hlt] at h1
      rw [Option.some.inj h1, hb]; simp
    obtain ⟨m, hm⟩ : ∃ m, (l.drop b.length ++ s.todo).length = m := ⟨_, rfl⟩
    have hm6 : m ≤ 1001000 := by
      have h1 := HA.out.1
      rw [← hm, List.length_append, List.length_drop]; omega
    have hTa := hX.todoR
    rw [show (St.todo { s with todo := l.drop b.length ++ s.todo }).length = m from hm] at hTa
    obtain ⟨ta, tc, rfl⟩ := owns_len hTa
    obtain ⟨iF, hi0, hz0, hz1, hz2⟩ := info_parts infoF
    have hblk := hX.blk
    have hdl : d < W1.heap.size := (Array.getElem?_eq_some_iff.1 hblk).1
    have hbl : bx < W1.heap.size := (Array.getElem?_eq_some_iff.1 hbx1).1
    obtain ⟨Wd, hWd⟩ : ∃ Wd, W1.drew = Wd := ⟨_, rfl⟩
    have hbd : Below W1.heap.size W1 Wd := by rw [← hWd]; exact (Below.refl _ _).drew
    have HC2 : Hid (Wd.cell? ⟨d, 2, none⟩ = some (.slice ta m tc)) := Lib.hid ((hbd.cell (p := ⟨d, 2, none⟩) hdl).trans (by simp [World.cell?, hblk]))
    have hsd : Wd.heap.size = W1.heap.size := by rw [← hWd]; rfl
    have HC2a : Hid ((Wd.alloc (.cells #[v] 1)).cell? ⟨d, 2, none⟩ = some (.slice ta m tc)) := Lib.hid (by
      have h1 : (Wd.alloc (.cells #[v] 1)).heap[d]? = Wd.heap[d]? := Below.heap_alloc _ _ _ (by omega)
      have h2 := HC2.out
      simp only [World.cell?] at h2 ⊢
      rw [h1]; exact h2)
    have hSd : Wd.cell? ⟨bx, 0, none⟩ = some (ptr d) := (hbd.cell (p := ⟨bx, 0, none⟩) hbl).trans (by simp [World.cell?, hbx1])
    have HSa : Hid ((Wd.alloc (.cells #[v] 1)).cell? ⟨bx, 0, none⟩ = some (ptr d)) := Lib.hid (by
      have h1 : (Wd.alloc (.cells #[v] 1)).heap[bx]? = Wd.heap[bx]? := Below.heap_alloc _ _ _ (by omega)
      have h2 := hSd
      simp only [World.cell?] at h2 ⊢
      rw [h1]; exact h2)
    have HTa : Hid ((Wd.alloc (.cells #[v] 1)).ownsRow 0 1 1 (.slice ta m tc) m us) := Lib.hid ((owns_later hTa hbd).alloc _)
    have HV1 := Lib.hid (stp_one hxs)
    have HE : Hid (∀ (g5 c5 : Nat) (w5 : World), w5.ownsRow 0 1 1 (.slice (some ⟨g5, 0, none⟩) (m + 1) c5) (m + 1) (us ++ [v]) → (Wd.alloc (.cells #[v] 1)).grownBy w5 (Value.slice ta m tc).ownBlock → ((Value.slice ta m tc).ownBlock = some g5 ∨ g5 = (Wd.alloc (.cells #[v] 1)).heap.size) →
        w5.cell? ⟨bx, 0, none⟩ = some (ptr d) ∧ w5.cell? ⟨d, 2, none⟩ = some (.slice ta m tc) ∧ w5.frozen? ⟨d, 2, none⟩ = false ∧ (w5.setCell ⟨d, 2, none⟩ (.slice (some ⟨g5, 0, none⟩) (m + 1) c5)).cell? ⟨bx, 0, none⟩ = some (ptr d) ∧
        KeepsOthers W1 (w5.setCell ⟨d, 2, none⟩ (.slice (some ⟨g5, 0, none⟩) (m + 1) c5)) ∧ (∀ k, (k = bx + 1 ∨ k = g) → (w5.setCell ⟨d, 2, none⟩ (.slice (some ⟨g5, 0, none⟩) (m + 1) c5)).heap[k]? = W1.heap[k]?) ∧ (ThenI d L size lv s O l bx W b' (w5.setCell ⟨d, 2, none⟩ (.slice (some ⟨g5, 0, none⟩) (m + 1) c5)) ∧ (w5.setCell ⟨d, 2, none⟩ (.slice (some ⟨g5, 0, none⟩) (m + 1) c5)).heap[bx + 1]? = some (.cells #[.slice (some ⟨g, 0, none⟩) vs.length vs.length] 48 (0, 0)) ∧ ∃ t, vs = b' ++ t)) := Lib.hid (by
      intro g5 c5 w5 hown hgrow hat
      have hat' : (Value.slice ta m tc).ownBlock = some g5 ∨ W1.heap.size ≤ g5 := hat.imp id (fun h => by rw [h, World.size_alloc]; omega)
      obtain ⟨p1, p2, O2, p3, p4⟩ := push_mem hX hm hxs hbd hown hgrow hat'
      have hMX : Mem d L size lv { s with todo := l.drop b.length ++ s.todo } O' W1 := ⟨_, _, _, _, _, hX⟩
      have hnb : ∀ k t, Ty W1 k t → t ≠ 50 → t ≠ 1 → t ≠ 55 → t ≠ 24 → (w5.setCell ⟨d, 2, none⟩ (.slice (some ⟨g5, 0, none⟩) (m + 1) c5)).heap[k]? = W1.heap[k]? := fun k t ht a b c e => by
        obtain ⟨cs, fr, h⟩ := ht
        exact p4.block k (Array.getElem?_eq_some_iff.1 h).1 (hMX.not_own ⟨cs, fr, h⟩ a b c e)
      have q1 := hnb bx _ ⟨_, _, hbx1⟩ (by decide) (by decide) (by decide) (by decide)
      have q2 : (w5.setCell ⟨d, 2, none⟩ (.slice (some ⟨g5, 0, none⟩) (m + 1) c5)).cell? ⟨bx, 0, none⟩ = some (ptr d) := by simp [World.cell?, q1, hbx1]
      have hbd' : bx ≠ d := fun e => by rw [e, hblk] at hbx1; cases hbx1
      refine ⟨?_, p1, p2, q2, p4.others hMX, ?_, ⟨O2, ?_, hS1.trans p4, q1.trans hbx1⟩, (hnb (bx + 1) _ ⟨_, _, hkx⟩ (by decide) (by decide) (by decide) (by decide)).trans hkx, by obtain ⟨t, ht⟩ := hpre; exact ⟨v :: t, by rw [ht, hb]; simp⟩⟩
      · rw [World.cell?_of_block (w := w5.setCell ⟨d, 2, none⟩ (.slice (some ⟨g5, 0, none⟩) (m + 1) c5)) (Below.heap_setCell _ _ _ _ hbd').symm] 
        exact q2
      · rintro k (rfl | rfl)
        · exact hnb (bx + 1) _ ⟨_, _, hkx⟩ (by decide) (by decide) (by decide) (by decide)
        · exact p4.block k (Nat.lt_of_lt_of_le (by omega) hS1.size) (fun h => (hS1.own k h).elim hgO (fun h => by omega))
      · rw [hx]; exact p3)
    obtain ⟨vf, va, vc, rfl⟩ := stp_func hxs
    clear hsd hX hb hi hpre hbd hblk hdl hbl hx hxs hTa hm hS1 hbx1
    gi_wp2_with fail
    refine region_round (by kernel_rfl) (by simp) (by rintro ⟨_, _, h⟩; exact h) ?_
    rw [hWd]
    refine wpAny_of_held (S := fun X => X.cell? ⟨bx, 0, none⟩ = some (ptr d)) _ _ _ _ ?_
    have hHeld := hSd
    -- BEGIN ROUND
    refine wpAnyH_take (i := 0) (oi := ({ dst := some 10, op := Op.load 39 (Operand.tmp 2), type := 39, pos := "reader.go:56", after := #[], guard := none } : Oper)) (v := ptr d) rfl (by kernel_rfl) (by kernel_rfl) (by kernel_rfl) (fun _ _ _ h => h) (yields_load 39 (.tmp 2) rfl (by rfl) (fun X hX => load_one hX)) hHeld ?_
    (try simp only [Act.put, List.setIfInBounds_toArray, List.set_cons_zero, List.set_cons_succ])
    refine wpAnyH_take (i := 1) (oi := ({ dst := some 11, op := Op.load 39 (Operand.tmp 2), type := 39, pos := "reader.go:56", after := #[], guard := none } : Oper)) (v := ptr d) rfl (by kernel_rfl) (by kernel_rfl) (by kernel_rfl) (fun _ _ _ h => h) (yields_load 39 (.tmp 2) rfl (by rfl) (fun X hX => load_one hX)) hHeld ?_
    (try simp only [Act.put, List.setIfInBounds_toArray, List.set_cons_zero, List.set_cons_succ])
    refine wpAnyH_take (i := 5) (oi := ({ dst := some 15, op := Op.move (Operand.tmp 5), type := 1, pos := "reader.go:56", after := #[], guard := none } : Oper)) (v := .func vf va vc) rfl (by kernel_rfl) (by kernel_rfl) (by kernel_rfl) (fun _ _ _ h => h) (Or.inl ⟨by rfl, fun X hX => rfl⟩) hHeld ?_
    (try simp only [Act.put, List.setIfInBounds_toArray, List.set_cons_zero, List.set_cons_succ])
    refine wpAnyH_take (i := 2) (oi := ({ dst := some 12, op := Op.nilCheck (Operand.tmp 11), type := 0, pos := "reader.go:56", after := #[{ on := 1, ground := Ground.data }], guard := none } : Oper)) (v := ptr d) rfl (by kernel_rfl) (by kernel_rfl) (by kernel_rfl) (fun _ _ _ h => h) (Or.inl ⟨by rfl, fun X hX => rfl⟩) hHeld ?_
    (try simp only [Act.put, List.setIfInBounds_toArray, List.set_cons_zero, List.set_cons_succ])
    refine wpAnyH_take (i := 3) (oi := ({ dst := some 13, op := Op.fieldAddr 50 (Operand.tmp 12) 2, type := 0, pos := "reader.go:56", after := #[{ on := 2, ground := Ground.data }], guard := none } : Oper)) (v := .pointer (some ⟨d, 2, none⟩)) rfl (by kernel_rfl) (by kernel_rfl) (by kernel_rfl) (fun _ _ _ h => h) (Or.inl ⟨by rfl, fun X hX => rfl⟩) hHeld ?_
    (try simp only [Act.put, List.setIfInBounds_toArray, List.set_cons_zero, List.set_cons_succ])
    refine wpAnyH_ready (rs := [4, 6]) (by kernel_rfl) (by simp) ?_
    refine AllReadyH.cons (o := ({ dst := some 14, op := Op.load 48 (Operand.tmp 13), type := 48, pos := "reader.go:56", after := #[{ on := 3, ground := Ground.data }], guard := none } : Oper)) rfl (fun K hK => ?_) (AllReadyH.cons (o := ({ dst := some 16, op := Op.buildSlice 48 1 #[(0, Operand.tmp 15)], type := 48, pos := "reader.go:56", after := #[{ on := 5, ground := Ground.data }], guard := none } : Oper)) rfl (fun K hK => ?_) AllReadyH.nil)
    · refine wanted_step (by kernel_rfl) ?_
      have q2 := HC2.out
      go_simp
      refine hK.out _ _ hHeld (fun hHeld2 => ?_)
      (try simp only [Act.put, List.setIfInBounds_toArray, List.set_cons_zero, List.set_cons_succ])
      clear hK K q2
      refine wpAnyH_ready (rs := [6]) (by kernel_rfl) (by simp) ?_
      refine AllReadyH.cons (o := ({ dst := some 16, op := Op.buildSlice 48 1 #[(0, Operand.tmp 15)], type := 48, pos := "reader.go:56", after := #[{ on := 5, ground := Ground.data }], guard := none } : Oper)) rfl (fun K hK => ?_) AllReadyH.nil
      refine wanted_step (by kernel_rfl) ?_
      go_simp
      refine hK.out _ _ HSa.out (fun hHeld3 => ?_)
      (try simp only [Act.put, List.setIfInBounds_toArray, List.set_cons_zero, List.set_cons_succ])
      clear hK K
      refine wpAnyH_ready (rs := [7]) (by kernel_rfl) (by simp) ?_
      refine AllReadyH.cons (o := ({ dst := some 17, op := Op.call { callee := Callee.builtin Builtin.append, args := #[Operand.tmp 14, Operand.tmp 16], argTypes := #[48, 48] }, type := 48, pos := "reader.go:56", after := #[{ on := 4, ground := Ground.data }, { on := 6, ground := Ground.data }], guard := none } : Oper)) rfl (fun K hK => ?_) AllReadyH.nil
      refine wanted_step (by kernel_rfl) ?_
      refine wp_append_lies _ (.tmp 14) (.tmp 16) 48 rfl 0 1 iF Value.nilFunc 1 8 Tryd.underlying48 hi0 hz0 hz1 hz2 rfl (by decide) (.slice ta m tc) m us rfl HTa.out ⟨Wd.heap.size, 0, none⟩ 1 1 [.func vf va vc] rfl rfl (cell_one_new Wd (.func vf va vc) 1) (by simpa using HV1.out) (by decide) (by unfold maxLen; omega) (by omega) (Nat.zero_le _) _ rfl ?_
      intro g5 c5 w5 hown hgrow hat hlt5
      have he := HE.out g5 c5 w5 hown hgrow hat
      refine hK.out _ _ he.1 (fun hHeld4 => ?_)
      (try simp only [Act.put, List.setIfInBounds_toArray, List.set_cons_zero, List.set_cons_succ])
      clear hK K
      refine wpAnyH_take (i := 8) (oi := ({ dst := some 18, op := Op.nilCheck (Operand.tmp 10), type := 0, pos := "reader.go:56", after := #[{ on := 0, ground := Ground.data }, { on := 0, ground := Ground.phase }, { on := 1, ground := Ground.phase }, { on := 2, ground := Ground.phase }, { on := 3, ground := Ground.phase }, { on := 4, ground := Ground.phase }, { on := 5, ground := Ground.phase }, { on := 6, ground := Ground.phase }, { on := 7, ground := Ground.phase }], guard := none } : Oper)) (v := ptr d) rfl (by kernel_rfl) (by kernel_rfl) (by kernel_rfl) (fun _ _ _ h => h) (Or.inl ⟨by rfl, fun X hX => rfl⟩) hHeld4 ?_
      (try simp only [Act.put, List.setIfInBounds_toArray, List.set_cons_zero, List.set_cons_succ])
      refine wpAnyH_take (i := 9) (oi := ({ dst := some 19, op := Op.fieldAddr 50 (Operand.tmp 18) 2, type := 0, pos := "reader.go:56", after := #[{ on := 8, ground := Ground.data }, { on := 0, ground := Ground.phase }, { on := 1, ground := Ground.phase }, { on := 2, ground := Ground.phase }, { on := 3, ground := Ground.phase }, { on := 4, ground := Ground.phase }, { on := 5, ground := Ground.phase }, { on := 6, ground := Ground.phase }, { on := 7, ground := Ground.phase }], guard := none } : Oper)) (v := .pointer (some ⟨d, 2, none⟩)) rfl (by kernel_rfl) (by kernel_rfl) (by kernel_rfl) (fun _ _ _ h => h) (Or.inl ⟨by rfl, fun X hX => rfl⟩) hHeld4 ?_
      (try simp only [Act.put, List.setIfInBounds_toArray, List.set_cons_zero, List.set_cons_succ])
      have q2 := he.2.1
      have f2 := he.2.2.1
      refine wpAnyH_ready (rs := [10]) (by kernel_rfl) (by simp) ?_
      refine AllReadyH.cons (o := ({ dst := none, op := Op.store 48 (Operand.tmp 19) (Operand.tmp 17), type := 0, pos := "reader.go:56", after := #[{ on := 9, ground := Ground.data }, { on := 7, ground := Ground.data }, { on := 7, ground := Ground.chain }, { on := 0, ground := Ground.phase }, { on := 1, ground := Ground.phase }, { on := 2, ground := Ground.phase }, { on := 3, ground := Ground.phase }, { on := 4, ground := Ground.phase }, { on := 5, ground := Ground.phase }, { on := 6, ground := Ground.phase }, { on := 7, ground := Ground.phase }], guard := none } : Oper)) rfl (fun K hK => ?_) AllReadyH.nil
      refine wanted_step (by kernel_rfl) ?_
      go_simp
      refine hK.out _ _ he.2.2.2.1 (fun _ => ?_)
      (try simp only [Act.put, List.setIfInBounds_toArray, List.set_cons_zero, List.set_cons_succ])
      clear hK K
      refine wpAnyH_done (by kernel_rfl) ?_ _
      exact he.2.2.2.2
    · refine wanted_step (by kernel_rfl) ?_
      go_simp
      refine hK.out _ _ HSa.out (fun hHeld2 => ?_)
      (try simp only [Act.put, List.setIfInBounds_toArray, List.set_cons_zero, List.set_cons_succ])
      clear hK K
      refine wpAnyH_ready (rs := [4]) (by kernel_rfl) (by simp) ?_
      refine AllReadyH.cons (o := ({ dst := some 14, op := Op.load 48 (Operand.tmp 13), type := 48, pos := "reader.go:56", after := #[{ on := 3, ground := Ground.data }], guard := none } : Oper)) rfl (fun K hK => ?_) AllReadyH.nil
      refine wanted_step (by kernel_rfl) ?_
      have q2 := HC2a.out
      go_simp
      refine hK.out _ _ HSa.out (fun hHeld3 => ?_)
      (try simp only [Act.put, List.setIfInBounds_toArray, List.set_cons_zero, List.set_cons_succ])
      clear hK K q2
      refine wpAnyH_ready (rs := [7]) (by kernel_rfl) (by simp) ?_
      refine AllReadyH.cons (o := ({ dst := some 17, op := Op.call { callee := Callee.builtin Builtin.append, args := #[Operand.tmp 14, Operand.tmp 16], argTypes := #[48, 48] }, type := 48, pos := "reader.go:56", after := #[{ on := 4, ground := Ground.data }, { on := 6, ground := Ground.data }], guard := none } : Oper)) rfl (fun K hK => ?_) AllReadyH.nil
      refine wanted_step (by kernel_rfl) ?_
      refine wp_append_lies _ (.tmp 14) (.tmp 16) 48 rfl 0 1 iF Value.nilFunc 1 8 Tryd.underlying48 hi0 hz0 hz1 hz2 rfl (by decide) (.slice ta m tc) m us rfl HTa.out ⟨Wd.heap.size, 0, none⟩ 1 1 [.func vf va vc] rfl rfl (cell_one_new Wd (.func vf va vc) 1) (by simpa using HV1.out) (by decide) (by unfold maxLen; omega) (by omega) (Nat.zero_le _) _ rfl ?_
      intro g5 c5 w5 hown hgrow hat hlt5
      have he := HE.out g5 c5 w5 hown hgrow hat
      refine hK.out _ _ he.1 (fun hHeld4 => ?_)
      (try simp only [Act.put, List.setIfInBounds_toArray, List.set_cons_zero, List.set_cons_succ])
      clear hK K
      refine wpAnyH_take (i := 8) (oi := ({ dst := some 18, op := Op.nilCheck (Operand.tmp 10), type := 0, pos := "reader.go:56", after := #[{ on := 0, ground := Ground.data }, { on := 0, ground := Ground.phase }, { on := 1, ground := Ground.phase }, { on := 2, ground := Ground.phase }, { on := 3, ground := Ground.phase }, { on := 4, ground := Ground.phase }, { on := 5, ground := Ground.phase }, { on := 6, ground := Ground.phase }, { on := 7, ground := Ground.phase }], guard := none } : Oper)) (v := ptr d) rfl (by kernel_rfl) (by kernel_rfl) (by kernel_rfl) (fun _ _ _ h => h) (Or.inl ⟨by rfl, fun X hX => rfl⟩) hHeld4 ?_
      (try simp only [Act.put, List.setIfInBounds_toArray, List.set_cons_zero, List.set_cons_succ])
      refine wpAnyH_take (i := 9) (oi := ({ dst := some 19, op := Op.fieldAddr 50 (Operand.tmp 18) 2, type := 0, pos := "reader.go:56", after := #[{ on := 8, ground := Ground.data }, { on := 0, ground := Ground.phase }, { on := 1, ground := Ground.phase }, { on := 2, ground := Ground.phase }, { on := 3, ground := Ground.phase }, { on := 4, ground := Ground.phase }, { on := 5, ground := Ground.phase }, { on := 6, ground := Ground.phase }, { on := 7, ground := Ground.phase }], guard := none } : Oper)) (v := .pointer (some ⟨d, 2, none⟩)) rfl (by kernel_rfl) (by kernel_rfl) (by kernel_rfl) (fun _ _ _ h => h) (Or.inl ⟨by rfl, fun X hX => rfl⟩) hHeld4 ?_
      (try simp only [Act.put, List.setIfInBounds_toArray, List.set_cons_zero, List.set_cons_succ])
      have q2 := he.2.1
      have f2 := he.2.2.1
      refine wpAnyH_ready (rs := [10]) (by kernel_rfl) (by simp) ?_
      refine AllReadyH.cons (o := ({ dst := none, op := Op.store 48 (Operand.tmp 19) (Operand.tmp 17), type := 0, pos := "reader.go:56", after := #[{ on := 9, ground := Ground.data }, { on := 7, ground := Ground.data }, { on := 7, ground := Ground.chain }, { on := 0, ground := Ground.phase }, { on := 1, ground := Ground.phase }, { on := 2, ground := Ground.phase }, { on := 3, ground := Ground.phase }, { on := 4, ground := Ground.phase }, { on := 5, ground := Ground.phase }, { on := 6, ground := Ground.phase }, { on := 7, ground := Ground.phase }], guard := none } : Oper)) rfl (fun K hK => ?_) AllReadyH.nil
      refine wanted_step (by kernel_rfl) ?_
      go_simp
      refine hK.out _ _ he.2.2.2.1 (fun _ => ?_)
      (try simp only [Act.put, List.setIfInBounds_toArray, List.set_cons_zero, List.set_cons_succ])
      clear hK K
      refine wpAnyH_done (by kernel_rfl) ?_ _
      exact he.2.2.2.2
    -- END ROUND
  case done =>
    rintro D b W1 hD rfl ⟨⟨O', hM1, hS1, hbx1⟩, hkx, hpre⟩ hK
    have h := (then_own (d := d) (L := L) (size := size) (lv := lv) (s := s) (O := O) (l := l) (bx := bx) (B := W.heap.size) (Nat.le_refl _)).putObj (s := ([] : List Value)) (.deferred none) ⟨O', hM1, hS1, hbx1⟩ (by omega) hK rfl
    refine ⟨by simp, .inl ⟨_, _, rfl, run_takeDeferred hK, ?_⟩⟩
    obtain ⟨O2, h1, h2, _⟩ := h
    exact ⟨_, results_none rfl _ _ _, rfl, O2, h1, h2⟩
end
end Go.Proofs.YtnjhmjkonmmomaaDoor.K
end
