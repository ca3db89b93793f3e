/- The contract of a list. -/
import Derived.Test.YtfjdeacpdcnjpaaGreatDoorVRead8
import Derived.Test.YtfjdeacpdcnjpaaGreatDoorVLen
namespace Go.Proofs.YtfjdeacpdcnjpaaGreatDoor.V
open Go.RowKit
open Go.Lib

/-- The value that is gathered in block b (the reader d in the variable p): its parts so far. -/
def LI (d b p : Nat) (so : Int) (kv : Value) (Bl : Nat) (vs : List Val) (W : World) : Prop :=
  (d < Bl ∧ b < Bl ∧ p < Bl ∧ Bl ≤ W.heap.size ∧ d ≠ b ∧ d ≠ p) ∧ W.cell? ⟨p, 0, none⟩ = some (.pointer (some ⟨d, 0, none⟩)) ∧
  ∃ lv xs, W.heap[b]? = some (.cells (six so false 0 [] lv kv).toArray 34 (0, 0)) ∧ W.ownsRow Bl 34 6 lv vs.length xs ∧ ListIn W (fun g => Bl ≤ g ∧ lv.ownBlock ≠ some g ∧ ¬ False) vs xs

theorem cell_of_same {W W' : World} {p : Addr} (h : W'.heap[p.block]? = W.heap[p.block]?) : W'.cell? p = W.cell? p := by unfold World.cell?; rw [h]
theorem ownsRow_same {W W' : World} {Bl e size n : Nat} {v : Value} {xs : List Value} (h : W.ownsRow Bl e size v n xs) (hs : ∀ g, v.ownBlock = some g → W'.heap[g]? = W.heap[g]?) : W'.ownsRow Bl e size v n xs := by
  refine ⟨h.1, ?_⟩
  rcases h.2 with h2 | ⟨g, cap, cur, rfl, hg, hgg, rest⟩
  · exact .inl h2
  · exact .inr ⟨g, cap, cur, rfl, hg, (hs g rfl).trans hgg, rest⟩
theorem LI.mut {d b p : Nat} {so : Int} {kv : Value} {Bl : Nat} {vs : List Val} {W W' : World} (h : LI d b p so kv Bl vs W) (hm : Mut W.heap.size d W W') : LI d b p so kv Bl vs W' := by
  obtain ⟨⟨h1, h2, h3, h4, h5, h6⟩, h7, lv, xs, h8, h9, h10⟩ := h
  refine ⟨⟨h1, h2, h3, Nat.le_trans h4 hm.size, h5, h6⟩, ?_, lv, xs, (hm.block b (by omega) (Ne.symm h5)).trans h8, ?_, ?_⟩
  · rw [cell_of_same (p := ⟨p, 0, none⟩) (hm.block p (by omega) (Ne.symm h6))]; exact h7
  · refine ownsRow_same h9 fun g hg => ?_
    have := World.ownsRowF.lt (World.ownsRowF_of h9) g hg
    exact hm.block g this.2 (by omega)
  · refine ListIn.later (fun g hg hlt => hm.block g hlt (by omega)) (fun g hg => hg) vs xs h10

def resMap {α β : Type} (f : α → β) : Res α → Res β
  | .ok a r => .ok (f a) r
  | .bad => .bad
  | .deep => .deep
/-- One part more. -/
def stepL (o : Nat) (f : Nat) (vs : List Val) (l : List UInt8) : Res (List Val) := resMap (fun v => vs ++ [v]) (value f o l)

theorem items_loop (o : Nat) : ∀ (f : Nat) (l : List UInt8) (acc : List Val), items f o l acc = loopG (stepL o) 93 f l acc
  | 0, l, acc => by simp only [items, loopG]
  | f + 1, l, acc => by
    simp only [items, loopG, stepL]
    cases h : value f o l with
    | bad => rfl
    | deep => rfl
    | ok v r =>
      simp only [resMap]
      match r with
      | [] => rfl
      | c :: r' =>
        by_cases h1 : c = 93
        · subst h1; simp
        · by_cases h2 : c = 44
          · subst h2; simp; exact items_loop o f r' _
          · simp [h1, h2]

/-- The value contract, as far as the fuel F. -/
def ValC (F : Nat) : Prop := ∀ f, f < F → ∀ (d B0 : Nat) (s : ByteArray) (l : List UInt8) (o : Nat) (w : World), RdL d s l o w → Env B0 w → B0 ≤ d → s.size ≤ 274877906944 → o ≤ 20 → 2 * l.length + 1 ≤ f → f ≤ 1099511627776 →
  Calls Tryz.prog 29 #[.pointer (some ⟨d, 0, none⟩)] w (ReadsV d s o (value f o l) w)

theorem list_part (F f d b p Bl B0 : Nat) (s : ByteArray) (l : List UInt8) (o : Nat) (vs : List Val) (so : Int) (kv : Value) (W : World) (IH : ValC F) (hf : f < F) (hf2 : f ≤ 1099511627776)
    (hr : RdL d s l o W) (hE : Env B0 W) (hd : B0 ≤ d) (hs : s.size ≤ 274877906944) (ho : o ≤ 20) (hl : 2 * l.length + 1 ≤ f) (hn : vs.length ≤ 1099511627776) (hI : LI d b p so kv Bl vs W) :
    Calls Tryz.prog 64 #[.pointer (some ⟨p, 0, none⟩), .pointer (some ⟨b, 0, none⟩)] W (ReadsX d s o (LI d b p so kv Bl) Bl (fun k => k = b) (stepL o f vs l) W) := by
  have hI' := hI
  obtain ⟨⟨h1, h2, h3, h4, h5, h6⟩, h7, lv, xs, h8, h9, h10⟩ := hI
  have cV := IH f hf d B0 s l o W hr hE hd hs ho hl hf2
  have cP := part_any d b Bl vs.length s o so lv kv xs vs _ W h8 h9 rfl (fun _ => False) (fun _ h => h.elim) h10 h1 h2 h5 h4 hn cV
  have hrow := fun g (hg : lv.ownBlock = some g) => World.ownsRowF.lt (World.ownsRowF_of h9) g hg
  have HROW := Lib.hid hrow
  have H8 := Lib.hid h8
  clear cV h8 h9 h10 hrow hr hE
  go_enter Tryz.func64, Tryz.ntmps64
  go_wp2_with fail
  refine cP.mono ?_
  intro e W1 hP
  have key : ∃ v, e = .returned v ∧ ReadsX d s o (LI d b p so kv Bl) Bl (fun k => k = b) (stepL o f vs l) W (.returned v) W1 := by
    unfold stepL
    cases hv : value f o l with
    | bad =>
      rw [hv] at hP
      obtain ⟨rfl, hr1, hm1⟩ := hP
      exact ⟨_, rfl, MutX.of_mut (hm1.mono h4), rfl, hr1⟩
    | deep =>
      rw [hv] at hP
      obtain ⟨rfl, hr1, hm1⟩ := hP
      exact ⟨_, rfl, MutX.of_mut (hm1.mono h4), rfl, hr1⟩
    | ok v rest =>
      rw [hv] at hP
      obtain ⟨rfl, hr1, hm1, lv', xs', k1, k2, k3, k4⟩ := hP
      have hz := hm1.size
      refine ⟨_, rfl, ⟨hm1.os, hm1.tape, hm1.output, hm1.size, fun k hk hkd hX => hm1.block k (by omega) hkd (fun h => ?_)⟩, rfl, ⟨⟨h1, h2, h3, by omega, h5, h6⟩, ?_, lv', xs', k1, by rw [List.length_append]; exact k2, k3⟩, hr1⟩
      · rcases h with h | h
        · exact hX h
        · have := HROW.out k h; omega
      · rw [cell_of_same (p := ⟨p, 0, none⟩) (hm1.block p (by omega) (Ne.symm h6) (fun h => ?_))]
        · exact h7
        · rcases h with h | h
          · subst h
            have h8 := H8.out
            unfold World.cell? at h7
            rw [h8] at h7
            simp [six] at h7
          · have := HROW.out p h; omega
  obtain ⟨v, rfl, hX⟩ := key
  clear hP cP
  go_wp2_with fail
  go_ret
  exact hX

/-- A list behind its first bracket; the blanks behind it are not taken. -/
def listP (f o : Nat) (l : List UInt8) : Res Val := resMap Val.arr (partsG (stepL (o + 1)) 93 f o l [])

/-- What was gathered, as a value in memory. -/
theorem valIn_of {A : Nat → Prop} {so : Int} {Bl B : Nat} {vs : List Val} {W : World} {ks : List (List UInt8)} {lv kv : Value} {xs : List Value} (hB : B ≤ Bl)
    (h9 : W.ownsRow Bl 34 6 lv vs.length xs) (h10 : ListIn W (fun g => Bl ≤ g ∧ lv.ownBlock ≠ some g ∧ ¬ A g) vs xs) (hk : KeysIn W (fun g => B ≤ g) ks kv) (on : Bool) (n : Int) (t : List UInt8) :
    ValIn W (fun g => B ≤ g) (.mk so on n t vs ks) lv kv := by
  refine ⟨?_, hk⟩
  have h10' := ListIn.later (W' := W) (R' := fun g => B ≤ g) (fun _ _ _ => rfl) (fun g hg => by omega) vs xs h10
  rcases h9.2 with ⟨rfl, h0⟩ | ⟨g, cap, cur, rfl, hg, hgg, hle, hcap, hsz, htake⟩
  · exact ⟨none, 0, by rw [h0], .inl (List.eq_nil_of_length_eq_zero h0)⟩
  · refine ⟨_, cap, rfl, .inr ⟨g, 0, xs, rfl, by omega, ?_, h10'⟩⟩
    intro j u hj
    have h := World.ownsRowF.cells (World.ownsRowF_of h9) (g := g) rfl j u hj
    rw [show (⟨g, 0, none⟩ : Addr).add j = ⟨g, 0 + j, none⟩ from by unfold Addr.add; split <;> simp_all] at h
    exact h
theorem keysIn_nil (W : World) (R : Nat → Prop) : KeysIn W R [] (.slice none 0 0) := ⟨none, 0, rfl, .inl rfl⟩

theorem slice_form {W : World} {Bl e size n : Nat} {v : Value} {xs : List Value} (h : W.ownsRow Bl e size v n xs) : ∃ a cap, v = .slice a n cap := by
  rcases h.2 with ⟨rfl, rfl⟩ | ⟨g, cap, cur, rfl, _⟩
  · exact ⟨_, _, rfl⟩
  · exact ⟨_, _, rfl⟩

theorem three (w : World) (o1 o2 o3 : Obj) : (((w.alloc o1).alloc o2).alloc o3).heap[w.heap.size]? = some o1 ∧ (((w.alloc o1).alloc o2).alloc o3).heap[w.heap.size + 1]? = some o2 ∧ (((w.alloc o1).alloc o2).alloc o3).heap[w.heap.size + 1 + 1]? = some o3 ∧
    Below w.heap.size w (((w.alloc o1).alloc o2).alloc o3) ∧ (((w.alloc o1).alloc o2).alloc o3).heap.size = w.heap.size + 3 := by
  have s1 : (w.alloc o1).heap.size = w.heap.size + 1 := by simp
  have s2 : ((w.alloc o1).alloc o2).heap.size = w.heap.size + 1 + 1 := by simp
  refine ⟨?_, ?_, ?_, (((Below.refl _ _).alloc (Nat.le_refl _) _).alloc (by omega) _).alloc (by omega) _, by simp⟩
  · rw [Below.heap_alloc _ _ _ (by omega), Below.heap_alloc _ _ _ (by omega)]; exact heap_alloc_new w o1
  · rw [Below.heap_alloc _ _ _ (by omega), ← s1]; exact heap_alloc_new _ o2
  · rw [← s2]; exact heap_alloc_new _ o3
theorem resMap_len {α β : Type} {f : α → β} {r : Res α} {b : β} {l : List UInt8} (h : resMap f r = .ok b l) : ∃ a, r = .ok a l ∧ b = f a := by
  cases r with
  | ok a r => simp only [resMap, Res.ok.injEq] at h; obtain ⟨rfl, rfl⟩ := h; exact ⟨a, rfl, rfl⟩
  | bad => cases h
  | deep => cases h

/-- Six stores into one block: all others stand. -/
theorem far6 (W : World) (q k : Nat) (x0 x1 x2 x3 x4 x5 : Value) (h : k ≠ q) : ((((((W.setCell ⟨q, 0, none⟩ x0).setCell ⟨q, 1, none⟩ x1).setCell ⟨q, 2, none⟩ x2).setCell ⟨q, 3, none⟩ x3).setCell ⟨q, 4, none⟩ x4).setCell ⟨q, 5, none⟩ x5).heap[k]? = W.heap[k]? := by
  rw [Below.heap_setCell _ _ _ _ h, Below.heap_setCell _ _ _ _ h, Below.heap_setCell _ _ _ _ h, Below.heap_setCell _ _ _ _ h, Below.heap_setCell _ _ _ _ h, Below.heap_setCell _ _ _ _ h]
theorem rdl6 {d : Nat} {s : ByteArray} {l : List UInt8} {o : Int} {W : World} (q : Nat) (x0 x1 x2 x3 x4 x5 : Value) (h : RdL d s l o W) (hq : d ≠ q) : RdL d s l o ((((((W.setCell ⟨q, 0, none⟩ x0).setCell ⟨q, 1, none⟩ x1).setCell ⟨q, 2, none⟩ x2).setCell ⟨q, 3, none⟩ x3).setCell ⟨q, 4, none⟩ x4).setCell ⟨q, 5, none⟩ x5) :=
  rdl_set (rdl_set (rdl_set (rdl_set (rdl_set (rdl_set h _ hq _) _ hq _) _ hq _) _ hq _) _ hq _) _ hq _
theorem mut6 {B d : Nat} {w W : World} (q : Nat) (x0 x1 x2 x3 x4 x5 : Value) (h : Mut B d w W) (hq : B ≤ q) : Mut B d w ((((((W.setCell ⟨q, 0, none⟩ x0).setCell ⟨q, 1, none⟩ x1).setCell ⟨q, 2, none⟩ x2).setCell ⟨q, 3, none⟩ x3).setCell ⟨q, 4, none⟩ x4).setCell ⟨q, 5, none⟩ x5) :=
  Mut.setNew (Mut.setNew (Mut.setNew (Mut.setNew (Mut.setNew (Mut.setNew h _ hq _) _ hq _) _ hq _) _ hq _) _ hq _) _ hq _
/-- The cells of a block that is known whole. -/
theorem cells_six {W : World} {q : Nat} {c0 c1 c2 c3 c4 c5 : Value} {t : TypeId} (h : W.heap[q]? = some (.cells #[c0, c1, c2, c3, c4, c5] t (0, 0))) :
    (W.cell? ⟨q, 0, none⟩ = some c0 ∧ W.cell? ⟨q, 1, none⟩ = some c1 ∧ W.cell? ⟨q, 2, none⟩ = some c2 ∧ W.cell? ⟨q, 3, none⟩ = some c3 ∧ W.cell? ⟨q, 4, none⟩ = some c4 ∧ W.cell? ⟨q, 5, none⟩ = some c5) ∧ ∀ i, W.frozen? ⟨q, i, none⟩ = false := by
  refine ⟨⟨?_, ?_, ?_, ?_, ?_, ?_⟩, fun i => by unfold World.frozen?; rw [h]; simp⟩ <;> (unfold World.cell?; rw [h]; rfl)

/-- How the call ends behind the brackets of a list, or of a record. -/
theorem readsV_bad {d : Nat} {s : ByteArray} {o : Int} {r : Res Val} {w W1 : World} {q : Nat} {l1 : List UInt8} {x0 x1 x2 x3 x4 x5 : Value} (hr : r = .bad) (hm : Mut w.heap.size d w W1) (hr1 : RdL d s l1 o W1) (hq : w.heap.size ≤ q) (hdq : d ≠ q) :
    ReadsV d s o r w (.returned (.tuple #[.agg (six 0 false 0 [] (.slice none 0 0) (.slice none 0 0)).toArray, .int .i64 21])) ((((((W1.setCell ⟨q, 0, none⟩ x0).setCell ⟨q, 1, none⟩ x1).setCell ⟨q, 2, none⟩ x2).setCell ⟨q, 3, none⟩ x3).setCell ⟨q, 4, none⟩ x4).setCell ⟨q, 5, none⟩ x5) := by
  subst hr; exact ⟨mut6 q _ _ _ _ _ _ hm hq, rfl, l1, rdl6 q _ _ _ _ _ _ hr1 hdq⟩
theorem readsV_deep {d : Nat} {s : ByteArray} {o : Int} {r : Res Val} {w W1 : World} {q : Nat} {l1 : List UInt8} {x0 x1 x2 x3 x4 x5 : Value} (hr : r = .deep) (hm : Mut w.heap.size d w W1) (hr1 : RdL d s l1 o W1) (hq : w.heap.size ≤ q) (hdq : d ≠ q) :
    ReadsV d s o r w (.returned (.tuple #[.agg (six 0 false 0 [] (.slice none 0 0) (.slice none 0 0)).toArray, .int .i64 22])) ((((((W1.setCell ⟨q, 0, none⟩ x0).setCell ⟨q, 1, none⟩ x1).setCell ⟨q, 2, none⟩ x2).setCell ⟨q, 3, none⟩ x3).setCell ⟨q, 4, none⟩ x4).setCell ⟨q, 5, none⟩ x5) := by
  subst hr; exact ⟨mut6 q _ _ _ _ _ _ hm hq, rfl, l1, rdl6 q _ _ _ _ _ _ hr1 hdq⟩
theorem readsV_ok {d Bl : Nat} {s : ByteArray} {o : Int} {r : Res Val} {w W1 : World} {q : Nat} {rest : List UInt8} {x0 x1 x2 x3 x4 x5 : Value} {so n : Int} {on : Bool} {t : List UInt8} {vl : List Val} {vk : List (List UInt8)} {lv kv : Value} (hr : r = .ok (.mk so on n t vl vk) rest) (hm : Mut w.heap.size d w W1) (hr1 : RdL d s rest o W1)
    (hv : ValIn W1 (fun g => Bl ≤ g) (.mk so on n t vl vk) lv kv) (hq : w.heap.size ≤ q) (hqB : q < Bl) (hdq : d ≠ q) :
    ReadsV d s o r w (.returned (.tuple #[.agg (six so on n t lv kv).toArray, .int .i64 0])) ((((((W1.setCell ⟨q, 0, none⟩ x0).setCell ⟨q, 1, none⟩ x1).setCell ⟨q, 2, none⟩ x2).setCell ⟨q, 3, none⟩ x3).setCell ⟨q, 4, none⟩ x4).setCell ⟨q, 5, none⟩ x5) := by
  subst hr
  exact ⟨mut6 q _ _ _ _ _ _ hm hq, lv, kv, rfl, ValIn.later (fun g hg _ => far6 W1 q g _ _ _ _ _ _ (by omega)) (fun g hg => by omega) _ _ _ hv, rdl6 q _ _ _ _ _ _ hr1 hdq⟩

set_option maxHeartbeats 2000000 in
theorem list_any (F f d B0 : Nat) (s : ByteArray) (l : List UInt8) (o : Nat) (w : World) (IH : ValC F) (hf : f ≤ F) (hf2 : f ≤ 1099511627776)
    (hr : RdL d s l o w) (hE : Env B0 w) (hd : B0 ≤ d) (hs : s.size ≤ 274877906944) (ho : o ≤ 20) (hl : 2 * l.length + 2 ≤ f) :
    Calls Tryz.prog 51 #[.pointer (some ⟨d, 0, none⟩)] w (ReadsV d s o (listP f o l) w) := by
  have hmf : ∀ (fn : Fn) (first cap : Array Value) (w : World), (Instr.makeFunc fn first cap).run Tryz.prog w = .ok (.func fn first cap) w := fun _ _ _ _ => rfl
  have hdlt := hr.lt
  have hz0 := hE.size
  go_enter Tryz.func51, Tryz.ntmps51
  go_wp2_with fail
  obtain ⟨t1, t2, t3, tb, tz⟩ := three w (.cells #[.pointer (some ⟨d, 0, none⟩)] 83) (.cells #[.int .i64 0, .bool false, .int .i64 0, .string ⟨#[]⟩, .slice none 0 0, .slice none 0 0] 34) (.cells #[.int .i64 4, .bool false, .int .i64 0, .string ⟨#[]⟩, .slice none 0 0, .slice none 0 0] 34)
  generalize ((w.alloc (.cells #[.pointer (some ⟨d, 0, none⟩)] 83)).alloc (.cells #[.int .i64 0, .bool false, .int .i64 0, .string ⟨#[]⟩, .slice none 0 0, .slice none 0 0] 34)).alloc (.cells #[.int .i64 4, .bool false, .int .i64 0, .string ⟨#[]⟩, .slice none 0 0, .slice none 0 0] 34) = W0 at *
  have cP := parts_any (stepL (o + 1)) 93 (LI d (w.heap.size + 1 + 1) w.heap.size 4 (.slice none 0 0)) (fun k => k = w.heap.size + 1 + 1) 64 #[.pointer (some ⟨w.heap.size, 0, none⟩), .pointer (some ⟨w.heap.size + 1 + 1, 0, none⟩)] d B0 f s l o [] W0
    (hr.below tb) (hE.later (tb.mono hz0)) hd (by omega) ho (by rintro k rfl; omega) hl
    (fun f st l st' r h => by obtain ⟨v, h2, _⟩ := resMap_len h; exact value_len _ _ _ _ _ h2) List.length rfl (fun f st l st' r h => by obtain ⟨v, _, rfl⟩ := resMap_len h; simp)
    (fun W hm => ⟨⟨by have := hm.size; omega, by have := hm.size; omega, by have := hm.size; omega, Nat.le_refl _, by omega, by omega⟩,
      by rw [cell_of_same (p := ⟨w.heap.size, 0, none⟩) (hm.block w.heap.size (by omega) (by omega))]; unfold World.cell?; rw [t1]; rfl,
      .slice none 0 0, [], (hm.block _ (by omega) (by omega)).trans t3, World.ownsRow_nil _ _ _ _, rfl⟩)
    (fun Bl st W W' _ h hm => h.mut hm)
    (enters_of Tryz.func64 (by kernel_rfl) rfl)
    (fun Bl f' st l' W ho' hc hl' _ _ hEW hI hrW => list_part F f' d (w.heap.size + 1 + 1) w.heap.size Bl B0 s l' (o + 1) st 4 (.slice none 0 0) W IH (by omega) (by omega) hrW hEW hd hs (by omega) hl' (by omega) hI)
  have HCP := Lib.hid cP
  clear cP
  cases hp : partsG (stepL (o + 1)) 93 f o l [] with
  | bad =>
    have hres : listP f o l = .bad := by unfold listP; rw [hp]; rfl
    have HRes := Lib.hid hres
    have cQ := HCP.out
    rw [hp] at cQ
    clear hres HCP hp
    refine cQ.mono ?_
    rintro e W1 ⟨hm, rfl, l1, hr1⟩
    have hb := (hm.block (w.heap.size + 1) (by omega) (by omega) (by omega)).trans t2
    obtain ⟨⟨k0, k1, k2, k3, k4, k5⟩, kf⟩ := cells_six hb
    have hmw : Mut w.heap.size d w W1 := (Mut.of_below tb).trans (hm.mut (by omega) (by rintro k rfl; omega))
    clear cQ hm t1 t2 t3 hb
    go_wp2_with fail
    refine bodyPost_ret (v := .tuple #[.agg (six 0 false 0 [] (.slice none 0 0) (.slice none 0 0)).toArray, .int .i64 21]) (by simp [results, Tryz.results51, go_sem, six, strCell, k0, k1, k2, k3, k4, k5]) rfl ?_
    exact readsV_bad HRes.out hmw hr1 (by omega) (by omega)
  | deep =>
    have hres : listP f o l = .deep := by unfold listP; rw [hp]; rfl
    have HRes := Lib.hid hres
    have cQ := HCP.out
    rw [hp] at cQ
    clear hres HCP hp
    refine cQ.mono ?_
    rintro e W1 ⟨hm, rfl, l1, hr1⟩
    have hb := (hm.block (w.heap.size + 1) (by omega) (by omega) (by omega)).trans t2
    obtain ⟨⟨k0, k1, k2, k3, k4, k5⟩, kf⟩ := cells_six hb
    have hmw : Mut w.heap.size d w W1 := (Mut.of_below tb).trans (hm.mut (by omega) (by rintro k rfl; omega))
    clear cQ hm t1 t2 t3 hb
    go_wp2_with fail
    refine bodyPost_ret (v := .tuple #[.agg (six 0 false 0 [] (.slice none 0 0) (.slice none 0 0)).toArray, .int .i64 22]) (by simp [results, Tryz.results51, go_sem, six, strCell, k0, k1, k2, k3, k4, k5]) rfl ?_
    exact readsV_deep HRes.out hmw hr1 (by omega) (by omega)
  | ok vs rest =>
    have hres : listP f o l = .ok (.mk 4 false 0 [] vs []) rest := by unfold listP; rw [hp]; rfl
    have HRes := Lib.hid hres
    have cQ := HCP.out
    rw [hp] at cQ
    clear hres HCP hp
    refine cQ.mono ?_
    rintro e W1 ⟨hm, rfl, ⟨Bl, ⟨i1, i2, i3, i4, i5, i6⟩, i7, lv, xs, i8, i9, i10⟩, hr1⟩
    have hb := (hm.block (w.heap.size + 1) (by omega) (by omega) (by omega)).trans t2
    obtain ⟨⟨k0, k1, k2, k3, k4, k5⟩, kf⟩ := cells_six hb
    have HV := Lib.hid (valIn_of (so := 4) (Nat.le_refl _) i9 i10 (keysIn_nil W1 _) false 0 [])
    obtain ⟨la, lc, rfl⟩ := slice_form i9
    obtain ⟨⟨j0, j1, j2, j3, j4, j5⟩, jf⟩ := cells_six i8
    replace j3 : W1.cell? ⟨w.heap.size + 1 + 1, 3, none⟩ = some (.string ⟨#[]⟩) := j3
    have hmw : Mut w.heap.size d w W1 := (Mut.of_below tb).trans (hm.mut (by omega) (by rintro k rfl; omega))
    have hne : ¬ w.heap.size + 1 + 1 = w.heap.size + 1 := by omega
    clear cQ hm t1 t2 t3 hb i7 i8 i9 i10 jf
    go_wp2_with fail
    refine bodyPost_ret (v := .tuple #[.agg (six 4 false 0 [] (.slice la vs.length lc) (.slice none 0 0)).toArray, .int .i64 0]) (by simp [results, Tryz.results51, go_sem, six, strCell, k0, k1, k2, k3, k4, k5]) rfl ?_
    exact readsV_ok HRes.out hmw hr1 HV.out (by omega) (by omega) (by omega)
end Go.Proofs.YtfjdeacpdcnjpaaGreatDoor.V
