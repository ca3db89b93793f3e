/- Edits compared; Apply, Between, Move, where their answers are known; the live question that each statement of layer 6 asks is answered as it is fixed. -/
import Derived.Test.YtlmefchcljfjlaaDoorERef3
import Derived.Test.YtlmefchcljfjlaaDoorERef4
namespace Go.Proofs.YtlmefchcljfjlaaDoor.E
open Go.RowKit
open Go.Lib hiding intOf
open Go.Proofs.YtlmefchcljfjlaaDoor.U Go.Proofs.YtlmefchcljfjlaaDoor.L

def edB (e f : EdP) : Bool := (e.fl == f.fl && e.fu == f.fu) && (e.tl == f.tl && e.tu == f.tu) && decide (e.t = f.t)
theorem edB_self (e : EdP) : edB e e = true := by unfold edB; simp
theorem edit_eq (d : Nat) (e f : EdP) (W : World) : (Op.equalIn (d + 1 + 1 + 1) 32 (.agg #[.int .i64 e.fl, .int .i64 e.fu, .int .i64 e.tl, .int .i64 e.tu, .string e.t]) (.agg #[.int .i64 f.fl, .int .i64 f.fu, .int .i64 f.tl, .int .i64 f.tu, .string f.t])).run Tryd.prog W = .ok (edB e f) W := by
  rw [run_equalIn_agg _ _ _ _ _ (by kernel_rfl) (by kernel_rfl)]
  have h1 := fun W => place_eq d e.fl e.fu f.fl f.fu W
  have h2 := fun W => place_eq d e.tl e.tu f.tl f.tu W
  unfold edB
  generalize (e.fl == f.fl && e.fu == f.fu) = x1 at h1 ⊢
  generalize (e.tl == f.tl && e.tu == f.tu) = x2 at h2 ⊢
  cases x1 <;> cases x2 <;> simp [Op.eqFields, go_sem, h1, h2]
  by_cases ht : e.t = f.t
  · simp [ht]
  · have hne := bytes_ne ht
    simp only [ht, decide_false]
    simpa using hne
theorem eql_edit (e f : EdP) (W : World) : (binOp .eql 32 (.agg #[.int .i64 e.fl, .int .i64 e.fu, .int .i64 e.tl, .int .i64 e.tu, .string e.t]) (.agg #[.int .i64 f.fl, .int .i64 f.fu, .int .i64 f.tl, .int .i64 f.tu, .string f.t])).run Tryd.prog W = .ok (.bool (edB e f)) W := by
  rw [run_eql_struct, show (10000 : Nat) = 9997 + 1 + 1 + 1 from rfl, edit_eq]; rfl

/-- Apply, where its answer is known. -/
theorem apply_is (l : List EdP) (s r : ByteArray) (c : Int) (v : Value) (w : World) (hs : s.size ≤ 1099511627776) (hl : l.length ≤ 1099511627776) (ht : ∀ e ∈ l, e.t.size ≤ 1099511627776) (hv : EdsIn w l v) (hT : Tabs w) (h : applyL s l = (r, c)) :
    Calls Tryd.prog 10 #[.string s, v] w fun e w' => e = .returned (.tuple #[.string r, .int .i64 c]) ∧ Below w.heap.size w w' := by
  have := apply_any l s v w hs hl ht hv hT
  rw [h] at this
  exact this
theorem betw_is {a b : ByteArray} {n k : Nat} {x : EdP} (w : World) (ha : a.size ≤ 1099511627776) (hb : b.size ≤ 1099511627776) (hT : Tabs w) (hok : okB a = true) (hok2 : okB b = true) (h : BetwE a b n k x) :
    Calls Tryd.prog 12 #[.string a, .string b] w fun e w' => e = .returned (.tuple #[.agg #[.int .i64 x.fl, .int .i64 x.fu, .int .i64 x.tl, .int .i64 x.tu, .string x.t], .int .i64 0]) ∧ Below w.heap.size w w' := by
  refine (between_any a b w ha hb hT).mono ?_
  rintro e w' ⟨hb', ⟨_, _, n', k', y, hy, rfl⟩ | ⟨hq, _⟩⟩
  · rw [h.one hy]; exact ⟨rfl, hb'⟩
  · rcases hq with hq | hq
    · rw [hok] at hq; cases hq
    · rw [hok2] at hq; cases hq
theorem betw_no {a b : ByteArray} (w : World) (ha : a.size ≤ 1099511627776) (hb : b.size ≤ 1099511627776) (hT : Tabs w) (hq : okB a = false ∨ okB b = false) :
    Calls Tryd.prog 12 #[.string a, .string b] w fun e w' => e = .returned (.tuple #[.agg #[.int .i64 0, .int .i64 0, .int .i64 0, .int .i64 0, .string ⟨#[]⟩], .int .i64 11]) ∧ Below w.heap.size w w' := by
  refine (between_any a b w ha hb hT).mono ?_
  rintro e w' ⟨hb', ⟨h1, h2, _⟩ | ⟨_, rfl⟩⟩
  · rcases hq with hq | hq
    · rw [hq] at h1; cases h1
    · rw [hq] at h2; cases h2
  · exact ⟨rfl, hb'⟩
theorem move_is (s : ByteArray) (e : EdP) (x a c : Int) (w : World) (hs : s.size ≤ 1099511627776) (ht : e.t.size ≤ 1099511627776) (hT : Tabs w) (h : moveL s e x = (a, c)) :
    Calls Tryd.prog 14 #[.string s, .agg #[.int .i64 e.fl, .int .i64 e.fu, .int .i64 e.tl, .int .i64 e.tu, .string e.t], .int .i64 x] w fun e w' => e = .returned (.tuple #[.int .i64 a, .int .i64 c]) ∧ Below w.heap.size w w' := by
  have := move_any s e x w hs ht hT
  rw [h] at this
  exact this

def tS : ByteArray := ⟨#[97, 98, 10, 99, 100]⟩
def tX : ByteArray := ⟨#[97, 88, 99, 100]⟩
def eX : EdP := ⟨0, 1, 1, 0, ⟨#[88]⟩⟩
def eM : EdP := ⟨0, 0, 0, 0, ⟨#[45]⟩⟩
def eB : EdP := ⟨0, 1, 0, 0, ⟨#[]⟩⟩
theorem s_ok : okB tS = true := by kernel_rfl
theorem x_ok : okB tX = true := by kernel_rfl
theorem al1 : applyL tS [eX, eM] = (⟨#[45, 97, 88, 99, 100]⟩, 0) := by kernel_rfl
theorem al2 : applyL ⟨#[97]⟩ [eB] = (⟨#[]⟩, 61) := by kernel_rfl
theorem al3 : moveL tS eX 4 = (3, 0) := by kernel_rfl
theorem al4 : BetwE tS tX 1 2 eX := by
  have h := beg_cut (b := tX) s_ok
  have hn : (cutB tS (fwdN tS tX (min tS.size tX.size) : Nat)).size = 1 := by kernel_rfl
  rw [hn] at h
  have hk : bwdN tS tX (min tS.size tX.size - 1) = 2 := by kernel_rfl
  have hf := fin_at (e := 2) h.la h.lb (by rw [hk]; exact noFin_top _ _) (by rw [hk]; exact Nat.le_refl _) (by kernel_rfl)
  exact ⟨⟨h, hf⟩, by kernel_rfl, by kernel_rfl, by kernel_rfl⟩

set_option maxHeartbeats 4000000 in
set_option maxRecDepth 100000 in
theorem alive_any (w : World) (hT : Tabs w) : Calls Tryd.prog 9 #[] w (True' w) := by
  obtain ⟨W1, hW1⟩ : ∃ W, w.alloc (.cells #[.int .i64 0, .int .i64 1, .int .i64 1, .int .i64 0, .string ⟨#[88]⟩] 32) = W := ⟨_, rfl⟩
  have hb1 : Below w.heap.size w W1 := by rw [← hW1]; exact (Below.refl _ _).alloc (Nat.le_refl _) _
  have HX1 := Lib.hid (show W1.heap[w.heap.size]? = some (.cells #[.int .i64 0, .int .i64 1, .int .i64 1, .int .i64 0, .string ⟨#[88]⟩] 32 (0, 0)) by rw [← hW1]; exact heap_alloc_new _ _)
  obtain ⟨p0, p1, p2, p3, p4⟩ := five_cells HX1.out
  obtain ⟨W2, hW2⟩ : ∃ W, W1.alloc (.cells #[.int .i64 0, .int .i64 1, .int .i64 1, .int .i64 0, .string ⟨#[88]⟩, .int .i64 0, .int .i64 0, .int .i64 0, .int .i64 0, .string ⟨#[45]⟩] 32) = W := ⟨_, rfl⟩
  have hb2 : Below W1.heap.size W1 W2 := by rw [← hW2]; exact (Below.refl _ _).alloc (Nat.le_refl _) _
  have hx2 : W2.heap[W1.heap.size]? = some (.cells #[.int .i64 0, .int .i64 1, .int .i64 1, .int .i64 0, .string ⟨#[88]⟩, .int .i64 0, .int .i64 0, .int .i64 0, .int .i64 0, .string ⟨#[45]⟩] 32 (0, 0)) := by rw [← hW2]; exact heap_alloc_new _ _
  have HT := Lib.hid (tabs_later hT hb1)
  have HB1 := Lib.hid hb1
  have HB2 := Lib.hid hb2
  have cA := apply_is [eX, eM] tS _ 0 (.slice (some ⟨W1.heap.size, 0, none⟩) 2 2) W2 (by decide) (by decide) (by decide) (eds_cells (l := [eX, eM]) hx2 rfl) (tabs_later HT.out hb2) al1
  unfold tS at cA
  clear hT hb1 hb2 hx2
  go_enter Tryd.func9, Tryd.ntmps9
  go_wp2_with fail
  refine cA.mono ?_
  rintro e w3 ⟨rfl, hb3⟩
  have HB3 := Lib.hid (next HB2.out hb3)
  have cB := betw_is w3 (by decide) (by decide) (tabs_later HT.out HB3.out) s_ok x_ok al4
  unfold tS tX eX at cB
  simp only at cB
  clear hb3 cA hW1 hW2 p0 p1 p2 p3 p4
  go_wp2_with fail
  refine cB.mono ?_
  rintro e w4 ⟨rfl, hb4⟩
  have HB4 := Lib.hid (next HB3.out hb4)
  clear hb4 cB
  go_upto_region 4 with fail
  obtain ⟨q5, hq5⟩ : ∃ q, w4.heap.size = q := ⟨_, rfl⟩
  obtain ⟨W5, hW5⟩ : ∃ W5, w4.alloc (.cells #[.int .i64 0, .int .i64 1, .int .i64 1, .int .i64 0, .string ⟨#[88]⟩] 32) = W5 := ⟨_, rfl⟩
  have HX5 := Lib.hid (show W5.heap[q5]? = some (.cells #[.int .i64 0, .int .i64 1, .int .i64 1, .int .i64 0, .string ⟨#[88]⟩] 32 (0, 0)) by rw [← hW5, ← hq5]; exact heap_alloc_new _ _)
  have HB5 := Lib.hid (next HB4.out (show Below w4.heap.size w4 W5 by rw [← hW5]; exact (Below.refl _ _).alloc (Nat.le_refl _) _))
  rw [hW5, hq5]
  obtain ⟨W6, hW6⟩ : ∃ W, W5.alloc (.cells #[.int .i64 0, .int .i64 1, .int .i64 0, .int .i64 0, .string ⟨#[]⟩] 32) = W := ⟨_, rfl⟩
  have hb6 : Below W5.heap.size W5 W6 := by rw [← hW6]; exact (Below.refl _ _).alloc (Nat.le_refl _) _
  have hx6 : W6.heap[W5.heap.size]? = some (.cells #[.int .i64 0, .int .i64 1, .int .i64 0, .int .i64 0, .string ⟨#[]⟩] 32 (0, 0)) := by rw [← hW6]; exact heap_alloc_new _ _
  have HB6 := Lib.hid hb6
  have HB16 := Lib.hid (next HB5.out hb6)
  have cA := apply_is [eB] ⟨#[97]⟩ _ 61 (.slice (some ⟨W5.heap.size, 0, none⟩) 1 1) W6 (by decide) (by decide) (by decide) (eds_cells (l := [eB]) hx6 rfl) (tabs_later HT.out HB16.out) al2
  clear hW5 hq5 hb6 hx6
  go_wp2_with fail
  refine cA.mono ?_
  rintro e w7 ⟨rfl, hb7⟩
  have HB7 := Lib.hid (next HB6.out hb7)
  have HB17 := Lib.hid (next HB5.out HB7.out)
  obtain ⟨p0, p1, p2, p3, p4⟩ := ed_cells HX1.out HB17.out
  have cM := move_is tS eX 4 3 0 w7 (by decide) (by decide) (tabs_later HT.out HB17.out) al3
  unfold tS eX at cM
  simp only at cM
  clear hb7 cA hW6
  go_wp2_with fail
  refine cM.mono ?_
  rintro e w8 ⟨rfl, hb8⟩
  have HB8 := Lib.hid (next HB7.out hb8)
  have HB18 := Lib.hid (next HB17.out hb8)
  clear p0 p1 p2 p3 p4
  obtain ⟨p0, p1, p2, p3, p4⟩ := ed_cells HX1.out HB18.out
  obtain ⟨r0, r1, r2, r3, r4⟩ := ed_cells HX5.out HB8.out
  have heq := fun W => eql_edit eX eX W
  rw [edB_self] at heq
  unfold eX at heq
  simp only at heq
  clear hb8 cM
  go_wp2_with fail
  go_ret
  exact ⟨by first | rfl | simp, next HB1.out HB18.out⟩
end Go.Proofs.YtlmefchcljfjlaaDoor.E
