/- Documents in memory: lists of them, the document's own store; the contracts of its find, and of Name. -/
import Derived.Test.YtccmicmlkgkheaaDoorDPlain
import Derived.Test.YtccmicmlkgkheaaDoorERef1
namespace Go.Proofs.YtccmicmlkgkheaaDoor.D
open Go.RowKit
open Go.Lib hiding intOf
open Go.Proofs.YtccmicmlkgkheaaDoor.U Go.Proofs.YtccmicmlkgkheaaDoor.L Go.Proofs.YtccmicmlkgkheaaDoor.E

/-- The blocks below a bound are as they were, but some. -/
structure Keep (B : Nat) (X : Nat → Prop) (w w' : World) : Prop where
  os : w'.os = w.os
  tape : w'.tape = w.tape
  output : w'.output = w.output
  size : w.heap.size ≤ w'.heap.size
  block : ∀ k, k < B → ¬ X k → w'.heap[k]? = w.heap[k]?
theorem Keep.refl (B : Nat) (X : Nat → Prop) (w : World) : Keep B X w w := ⟨rfl, rfl, rfl, Nat.le_refl _, fun _ _ _ => rfl⟩
theorem Keep.of {B : Nat} {X : Nat → Prop} {w w' : World} (h : Below w.heap.size w w') (hB : B ≤ w.heap.size) : Keep B X w w' := ⟨h.os, h.tape, h.output, h.size, fun k hk _ => h.block k (by omega)⟩
theorem Keep.trans {B : Nat} {X : Nat → Prop} {a b c : World} (h : Keep B X a b) (h2 : Keep B X b c) : Keep B X a c :=
  ⟨h2.os.trans h.os, h2.tape.trans h.tape, h2.output.trans h.output, Nat.le_trans h.size h2.size, fun k hk hX => (h2.block k hk hX).trans (h.block k hk hX)⟩
theorem Keep.weak {B B' : Nat} {X Y : Nat → Prop} {a b : World} (h : Keep B X a b) (hB : B' ≤ B) (hs : ∀ k, k < B' → X k → Y k) : Keep B' Y a b := ⟨h.os, h.tape, h.output, h.size, fun k hk hY => h.block k (by omega) (fun hX => hY (hs k hk hX))⟩
theorem Keep.set {B : Nat} {X : Nat → Prop} {a b : World} (h : Keep B X a b) {p : Addr} (hp : X p.block ∨ B ≤ p.block) (v : Value) : Keep B X a (b.setCell p v) :=
  h.trans ⟨rfl, rfl, rfl, by simp, fun k hk hX => Below.heap_setCell _ _ _ _ (fun e => by
    rcases hp with hp | hp
    · exact hX (by rw [e]; exact hp)
    · omega)⟩

/-- Documents, one behind the other. -/
def docC (d : DocP) : List Value := [.string d.n, .int .i64 d.v, .string d.t]
def docCs : List DocP → List Value
  | [] => []
  | d :: r => docC d ++ docCs r
theorem docCs_length : ∀ l : List DocP, (docCs l).length = 3 * l.length
  | [] => rfl
  | d :: r => by simp only [docCs, List.length_append, docCs_length r, List.length_cons, docC, List.length_nil]; omega
theorem docCs_app : ∀ (a b : List DocP), docCs (a ++ b) = docCs a ++ docCs b
  | [], b => rfl
  | d :: r, b => by simp only [List.cons_append, docCs, docCs_app r b, List.append_assoc]
theorem docCs_at : ∀ (l : List DocP) (i j : Nat) (hi : i < l.length), j < 3 → (docCs l)[i * 3 + j]? = (docC l[i])[j]?
  | [], i, j, hi, _ => by simp at hi
  | d :: r, 0, j, hi, hj => by simp only [docCs, Nat.zero_mul, Nat.zero_add, List.getElem_cons_zero]; rw [List.getElem?_append_left (by simp [docC]; omega)]
  | d :: r, i + 1, j, hi, hj => by
    simp only [docCs, List.getElem_cons_succ]
    rw [List.getElem?_append_right (by simp [docC]; omega), show (i + 1) * 3 + j - (docC d).length = i * 3 + j by simp [docC]; omega]
    exact docCs_at r i j (by simpa using hi) hj
def DocsAt (W : World) (g off : Nat) (l : List DocP) : Prop := ∀ j u, (docCs l)[j]? = some u → W.cell? ⟨g, off + j, none⟩ = some u
/-- The document at a place: its cells. -/
theorem doc_at {W : World} {l : List DocP} {g off : Nat} (i : Nat) (hc : DocsAt W g off l) (hi : i < l.length) :
    W.cell? ⟨g, off + i * 3, none⟩ = some (.string l[i].n) ∧ W.cell? ⟨g, off + i * 3 + 1, none⟩ = some (.int .i64 l[i].v) ∧ W.cell? ⟨g, off + i * 3 + 2, none⟩ = some (.string l[i].t) := by
  refine ⟨hc (i * 3) _ ?_, hc (i * 3 + 1) _ (by rw [docCs_at l i 1 hi (by omega)]; rfl), hc (i * 3 + 2) _ (by rw [docCs_at l i 2 hi (by omega)]; rfl)⟩
  have := docCs_at l i 0 hi (by omega)
  rw [Nat.add_zero] at this; rw [this]; rfl
/-- A list of documents, whose block stands at B or later. -/
def DocsIn (B : Nat) (W : World) (l : List DocP) (v : Value) : Prop := ∃ a cap, v = .slice a l.length cap ∧ l.length ≤ cap ∧ (l = [] ∨ ∃ g off, a = some ⟨g, off, none⟩ ∧ B ≤ g ∧ g < W.heap.size ∧ DocsAt W g off l)
theorem DocsIn.keep {B C : Nat} {X : Nat → Prop} {W W' : World} {l : List DocP} {v : Value} (h : DocsIn B W l v) (hk : Keep C X W W') (hC : W.heap.size ≤ C) (hX : ∀ k, B ≤ k → ¬ X k) : DocsIn B W' l v := by
  obtain ⟨a, cap, h1, h2, h3⟩ := h
  refine ⟨a, cap, h1, h2, h3.imp id fun ⟨g, off, e, hB, hg, hc⟩ => ⟨g, off, e, hB, by have := hk.size; omega, fun j u hj => ?_⟩⟩
  rw [← hc j u hj]
  unfold World.cell?
  rw [hk.block g (by omega) (hX g hB)]
theorem DocsIn.later {B : Nat} {W W' : World} {l : List DocP} {v : Value} (h : DocsIn B W l v) (hb : Below W.heap.size W W') : DocsIn B W' l v :=
  h.keep (Keep.of (X := fun _ => False) hb (Nat.le_refl _)) (Nat.le_refl _) (fun _ _ h => h)
/-- The document's own store. -/
structure Sto (B q : Nat) (l : List DocP) (v : Value) (W : World) : Prop where
  blk : W.heap[q]? = some (.cells #[v] 28 (0, 0))
  row : DocsIn B W l v
  low : q < B
theorem Sto.lt {B q : Nat} {l : List DocP} {v : Value} {W : World} (h : Sto B q l v W) : q < W.heap.size := (Array.getElem?_eq_some_iff.1 h.blk).1
theorem Sto.c0 {B q : Nat} {l : List DocP} {v : Value} {W : World} (h : Sto B q l v W) : W.cell? ⟨q, 0, none⟩ = some v := by unfold World.cell?; rw [h.blk]; rfl
theorem Sto.f0 {B q : Nat} {l : List DocP} {v : Value} {W : World} (h : Sto B q l v W) : W.frozen? ⟨q, 0, none⟩ = false := by unfold World.frozen?; rw [h.blk]; simp
theorem Sto.keep {B C q : Nat} {X : Nat → Prop} {l : List DocP} {v : Value} {W W' : World} (h : Sto B q l v W) (hk : Keep C X W W') (hC : W.heap.size ≤ C) (hX : ∀ k, B ≤ k → ¬ X k) (hq : ¬ X q) : Sto B q l v W' :=
  ⟨(hk.block q (by have := h.lt; omega) hq).trans h.blk, h.row.keep hk hC hX, h.low⟩
theorem Sto.later {B q : Nat} {l : List DocP} {v : Value} {W W' : World} (h : Sto B q l v W) (hb : Below W.heap.size W W') : Sto B q l v W' :=
  h.keep (Keep.of (X := fun _ => False) hb (Nat.le_refl _)) (Nat.le_refl _) (fun _ _ h => h) (fun h => h)

/-- Where a name stands. -/
def fndD : List DocP → ByteArray → Nat → Int
  | [], _, _ => -1
  | d :: r, n, i => if d.n = n then (i : Int) else fndD r n (i + 1)
theorem fndD_or (n : ByteArray) : ∀ (l : List DocP) (i : Nat), (findL l n = none ∧ fndD l n i = -1) ∨ (∃ (j : Nat) (h : j < l.length), fndD l n i = ((i + j : Nat) : Int) ∧ findL l n = some l[j] ∧ l[j].n = n ∧ ∀ k (hk : k < j), l[k].n ≠ n)
  | [], i => .inl ⟨rfl, rfl⟩
  | d :: r, i => by
    simp only [fndD, findL, List.find?_cons]
    by_cases h : d.n = n
    · exact .inr ⟨0, by simp, by rw [if_pos h]; simp, by simp [h], by simpa using h, fun k hk => by omega⟩
    · rw [if_neg h]
      simp only [h, decide_false]
      rcases fndD_or n r (i + 1) with ⟨h1, h2⟩ | ⟨j, hj, h1, h2, h3, h4⟩
      · exact .inl ⟨h1, h2⟩
      · refine .inr ⟨j + 1, by simp; omega, by rw [h1]; congr 1; omega, by have h5 := h2; unfold findL at h5; simpa using h5, by simpa using h3, fun k hk => ?_⟩
        cases k with
        | zero => simpa using h
        | succ k => simpa using h4 k (by omega)
theorem fndD_at {l : List DocP} {n : ByteArray} {i : Nat} (h : i < l.length) : fndD (l.drop i) n i = if l[i].n = n then (i : Int) else fndD (l.drop (i + 1)) n (i + 1) := by
  rw [List.drop_eq_getElem_cons h]; rfl
theorem fndD_end {l : List DocP} {n : ByteArray} {i : Nat} (h : l.length ≤ i) : fndD (l.drop i) n i = -1 := by
  rw [List.drop_of_length_le h]; rfl

theorem bytes_ne {a b : ByteArray} (h : a ≠ b) : (a.toList == b.toList) = false := by
  refine beq_eq_false_iff_ne.2 fun e => h (toList_inj e)
set_option maxHeartbeats 2000000 in
set_option maxRecDepth 20000 in
theorem find_any (B q : Nat) (l : List DocP) (v : Value) (n : ByteArray) (w : World) (h : Sto B q l v w) (hl : l.length ≤ 1000000) :
    Calls Tryd.prog 32 #[.pointer (some ⟨q, 0, none⟩), .string n] w fun e w' => e = .returned (.int .i64 (fndD l n 0)) ∧ w' = w := by
  have h0 := h.c0
  obtain ⟨a, cap, rfl, hcap, hc⟩ := h.row
  have HC := Lib.hid hc
  obtain ⟨R, hR⟩ : ∃ R, fndD l n 0 = R := ⟨_, rfl⟩
  have HR : Hid (fndD (l.drop 0) n 0 = R) := Lib.hid hR
  obtain ⟨m, hm⟩ : ∃ m, l.length = m := ⟨_, rfl⟩
  have HM := Lib.hid hm
  rw [hm] at hl h0
  rw [hR]
  clear h hc hR hm hcap
  go_enter Tryd.func32, Tryd.ntmps32
  go_wp2_with fail
  go_loop [5] (fun iv => ∃ i : Nat, iv = .int .i64 i ∧ i ≤ m ∧ Hid (fndD (l.drop i) n i = R)) (fun iv => m - (intOf iv).toNat)
  case atStart => exact ⟨0, rfl, Nat.zero_le _, HR⟩
  case round =>
    obtain ⟨i, rfl, hi, HI⟩ := hrel
    clear HR
    by_cases hlt : i < m
    · have hil : i < l.length := by rw [HM.out]; exact hlt
      obtain ⟨g, off, rfl, _, _, hat⟩ := HC.out.resolve_left (fun h => by rw [h] at hil; exact Nat.not_lt_zero _ hil)
      obtain ⟨p0, p1, p2⟩ := doc_at i hat hil
      have hst := fndD_at (n := n) hil
      rw [HI.out] at hst
      clear hat p1 p2
      by_cases he : l[i].n = n
      · rw [if_pos he] at hst
        have HS := Lib.hid hst
        rw [he] at p0
        clear he hst
        go_wp2_with fail
        go_ret
        exact ⟨by rw [HS.out]; rfl, rfl⟩
      · rw [if_neg he] at hst
        have HS := Lib.hid hst.symm
        have hne := bytes_ne he
        generalize l[i].n = x at p0 hne
        clear he hst
        go_wp2_with fail
        go_round
        case rel => exact ⟨i + 1, by go_num, by omega, HS⟩
        case measure => simp [intOf]; omega
    · have hst := fndD_end (l := l) (n := n) (i := i) (by rw [HM.out]; omega)
      have HS := Lib.hid (HI.out.symm.trans hst)
      clear hst
      go_wp2_with fail
      go_ret
      exact ⟨by rw [HS.out]; rfl, rfl⟩
set_option maxRecDepth 20000 in
theorem name_any (s : ByteArray) (w : World) (hs : s.size ≤ 1000000) :
    Calls Tryd.prog 30 #[.string s] w fun e w' => e = .returned (.bool (nameOk s)) ∧ Below w.heap.size w w' := by
  have cR := ref_right s w hs
  obtain ⟨R, hR⟩ : ∃ R, nameOk s = R := ⟨_, rfl⟩
  have HR := Lib.hid hR
  rw [hR]
  clear hR
  have hc : (okB s = false ∧ R = false) ∨ (okB s = true ∧ decide ((1 : Int) ≤ (s.size : Int)) = false ∧ R = false) ∨ (okB s = true ∧ decide ((1 : Int) ≤ (s.size : Int)) = true ∧ decide ((s.size : Int) ≤ 40) = false ∧ R = false) ∨ (okB s = true ∧ decide ((1 : Int) ≤ (s.size : Int)) = true ∧ decide ((s.size : Int) ≤ 40) = true ∧ R = true) := by
    have h := HR.out
    unfold nameOk at h
    cases hk : okB s
    · rw [hk] at h
      exact .inl ⟨rfl, by simpa using h.symm⟩
    · rw [hk] at h
      right
      by_cases h1 : 1 ≤ s.size
      · right
        by_cases h2 : s.size ≤ 40
        · exact .inr ⟨rfl, by simp; omega, by simp; omega, by rw [← h]; simp [h1, h2]⟩
        · exact .inl ⟨rfl, by simp; omega, by simp; omega, by rw [← h]; simp [h2]⟩
      · exact .inl ⟨rfl, by simp; omega, by rw [← h]; simp [h1]⟩
  clear HR
  rcases hc with ⟨h1, rfl⟩ | ⟨h1, h2, rfl⟩ | ⟨h1, h2, h3, rfl⟩ | ⟨h1, h2, h3, rfl⟩
  all_goals
    rw [h1] at cR
    clear h1
    go_enter Tryd.func30, Tryd.ntmps30
    go_wp2_with fail
    refine cR.mono ?_
    rintro e w1 ⟨rfl, hb1⟩
    go_wp2_with fail
    go_ret
    exact ⟨rfl, hb1⟩
end Go.Proofs.YtccmicmlkgkheaaDoor.D
