/- The contract of a record. -/
import Derived.Test.YtfjdeacpdcnjpaaGreatDoorVRead9
import Derived.Test.YtfjdeacpdcnjpaaGreatDoorVFirst
namespace Go.Proofs.YtfjdeacpdcnjpaaGreatDoor.V
open Go.RowKit
open Go.Lib

/-- One key, and its value, more. -/
def stepR (o : Nat) (f : Nat) (st : List (List UInt8) × List Val) (l : List UInt8) : Res (List (List UInt8) × List Val) :=
  match key l with
  | none => .bad
  | some (k, r0) => if k ∈ st.1 then .bad else resMap (fun v => (st.1 ++ [k], st.2 ++ [v])) (value f o r0)

theorem fields_loop (o : Nat) : ∀ (f : Nat) (l : List UInt8) (ks : List (List UInt8)) (vs : List Val), fields f o l ks vs = loopG (stepR o) 125 f l (ks, vs)
  | 0, l, ks, vs => by simp only [fields, loopG]
  | f + 1, l, ks, vs => by
    simp only [fields, loopG, stepR]
    cases hk : key l with
    | none => rfl
    | some p =>
      obtain ⟨k, r0⟩ := p
      simp only
      by_cases h0 : k ∈ ks
      · rw [if_pos h0, if_pos h0]
      · rw [if_neg h0, if_neg h0]
        cases h : value f o r0 with
        | bad => rfl
        | deep => rfl
        | ok v r =>
          simp only [resMap]
          match r with
          | [] => rfl
          | c :: r' =>
            by_cases h1 : c = 125
            · subst h1; simp
            · by_cases h2 : c = 44
              · subst h2; simp; exact fields_loop o f r' _ _
              · simp [h1, h2]

/-- The record that is gathered in block b: the reader d in the variable p, the map m in the variable q. -/
def RI (d b p q m : Nat) (Bl : Nat) (st : List (List UInt8) × List Val) (W : World) : Prop :=
  (d < Bl ∧ b < Bl ∧ p < Bl ∧ q < Bl ∧ m < Bl ∧ Bl ≤ W.heap.size ∧ d ≠ b ∧ d ≠ p ∧ d ≠ q ∧ d ≠ m ∧ p ≠ b ∧ q ≠ b ∧ m ≠ b ∧ p ≠ m ∧ q ≠ m) ∧ W.cell? ⟨p, 0, none⟩ = some (.pointer (some ⟨d, 0, none⟩)) ∧ W.cell? ⟨q, 0, none⟩ = some (.map (some m)) ∧ Seen m st.1 W ∧
  ∃ lv kv xs, W.heap[b]? = some (.cells (six 5 false 0 [] lv kv).toArray 34 (0, 0)) ∧ W.ownsRow Bl 34 6 lv st.2.length xs ∧ ListIn W (fun g => Bl ≤ g ∧ lv.ownBlock ≠ some g ∧ ¬ kv.ownBlock = some g) st.2 xs ∧
    W.ownsRow Bl 9 1 kv st.1.length (st.1.map strCell) ∧ ∀ g, kv.ownBlock = some g → lv.ownBlock ≠ some g

theorem infoS : (Tryz.prog.info? 9).map (fun i => (i.zero, i.size, i.bytes)) = some (some (.string ⟨#[]⟩), 1, 16) := by kernel_rfl

theorem row_lt {W : World} {Bl e size n : Nat} {v : Value} {xs : List Value} (h : W.ownsRow Bl e size v n xs) (g : Nat) (hg : v.ownBlock = some g) : Bl ≤ g ∧ g < W.heap.size := World.ownsRowF.lt (World.ownsRowF_of h) g hg

theorem RI.mut {d b p q m Bl : Nat} {st : List (List UInt8) × List Val} {W W' : World} (h : RI d b p q m Bl st W) (hm : Mut W.heap.size d W W') : RI d b p q m Bl st W' := by
  obtain ⟨⟨h1, h2, h3, h4, h5, h6, h7, h8, h9, h10, h11⟩, c1, c2, hs, lv, kv, xs, k1, k2, k3, k4, k5⟩ := h
  have row : ∀ {e size n : Nat} {v : Value} {ys : List Value}, W.ownsRow Bl e size v n ys → W'.ownsRow Bl e size v n ys := fun hh => ownsRow_same hh fun g hg => by
    have := row_lt hh g hg
    exact hm.block g this.2 (by omega)
  refine ⟨⟨h1, h2, h3, h4, h5, Nat.le_trans h6 hm.size, h7, h8, h9, h10, h11⟩, ?_, ?_, hs.same (hm.block m hs.lt (Ne.symm h10)), lv, kv, xs, (hm.block b (by omega) (Ne.symm h7)).trans k1, row k2, ?_, row k4, k5⟩
  · rw [cell_of_same (p := ⟨p, 0, none⟩) (hm.block p (by omega) (Ne.symm h8))]; exact c1
  · rw [cell_of_same (p := ⟨q, 0, none⟩) (hm.block q (by omega) (Ne.symm h9))]; exact c2
  · exact ListIn.later (fun g hg hlt => hm.block g hlt (by omega)) (fun g hg => hg) _ xs k3

set_option maxHeartbeats 2000000 in
set_option maxRecDepth 100000 in
theorem record_part (F f d b p q m Bl B0 : Nat) (s : ByteArray) (l : List UInt8) (o : Nat) (st : List (List UInt8) × List Val) (W : World) (IH : ValC F) (hf : f < F) (hf2 : f ≤ 1099511627776)
    (hr : RdL d s l o W) (hE : Env B0 W) (hd : B0 ≤ d) (hbm : B0 ≤ b ∧ B0 ≤ m) (hs : s.size ≤ 274877906944) (ho : o ≤ 20) (hl : 2 * l.length + 1 ≤ f) (hn : st.1.length ≤ 1099511627776) (hn2 : st.2.length ≤ 1099511627776) (hI : RI d b p q m Bl st W) :
    Calls Tryz.prog 66 #[.pointer (some ⟨p, 0, none⟩), .pointer (some ⟨q, 0, none⟩), .pointer (some ⟨b, 0, none⟩)] W (ReadsX d s o (RI d b p q m Bl) Bl (fun k => k = b ∨ k = m) (stepR o f st l) W) := by
  have hI' := hI
  obtain ⟨⟨h1, h2, h3, h4, h5, h6, h7, h8, h9, h10, h11, h12, h13, h14, h15⟩, c1, c2, hseen, lv, kv, xs, k1, k2, k3, k4, k5⟩ := hI
  have cK := key_any d s l o B0 W hr hE hd (by omega)
  unfold stepR
  cases hk : key l with
  | none =>
    rw [hk] at cK
    clear hr hE hI' hseen k1 k2 k3 k4 k5 c2 IH hk
    go_enter Tryz.func66, Tryz.ntmps66
    go_wp2_with fail
    refine cK.mono ?_; rintro e w1 ⟨mm, l1, rfl, hr1, hm1⟩
    go_wp2_with fail
    go_ret
    exact ⟨MutX.of_mut (hm1.mono h6), rfl, l1, hr1⟩
  | some pr =>
    obtain ⟨k, r0⟩ := pr
    rw [hk] at cK
    have hklen : k.length ≤ 1099511627776 := by
      have := key_tlen hk
      have := hr.len
      omega
    by_cases hold : k ∈ st.1
    · simp only [if_pos hold]
      have HOLD := Lib.hid hold
      clear hr hE k1 k2 k3 k4 k5 IH hk hI' hold
      go_enter Tryz.func66, Tryz.ntmps66
      go_wp2_with fail
      refine cK.mono ?_; rintro e w1 ⟨rfl, hr1, hm1⟩
      have hz1 := hm1.size
      have c2' : w1.cell? ⟨q, 0, none⟩ = some (.map (some m)) := by rw [cell_of_same (p := ⟨q, 0, none⟩) (hm1.block q (by omega) (Ne.symm h9))]; exact c2
      have cF := first_old m st.1 k w1 (hseen.same (hm1.block m hseen.lt (Ne.symm h10))) hklen hn HOLD.out
      clear cK c1 c2 hseen
      go_wp2_with fail
      refine cF.mono ?_; rintro e w2 ⟨rfl, ht⟩
      go_wp2_with fail
      go_ret
      have ht : w1.grownBy w2 (some m) := ht
      refine ⟨(MutX.of_mut (hm1.mono h6)).trans ⟨ht.os, ht.tape, ht.output, ht.size, fun j hj hjd hX => ht.block j (by omega) (fun h => hX (.inr (by simpa using h)))⟩, rfl, r0, ?_⟩
      obtain ⟨a, g1, g2, g3⟩ := hr1
      exact ⟨a, g1, g2, (ht.block d (g3.lt) (by simpa using h10)).trans g3⟩
    · simp only [if_neg hold]
      obtain ⟨i0, hi0, hz0, hz1, hz2⟩ := info_parts infoS
      have HNEW := Lib.hid hold
      have H1 := Lib.hid k1
      have H2 := Lib.hid k2
      have H3 := Lib.hid k3
      have H4 := Lib.hid k4
      have H5 := Lib.hid k5
      have HI' := Lib.hid hI'
      clear hI' hold
      go_enter Tryz.func66, Tryz.ntmps66
      go_wp2_with fail
      refine cK.mono ?_; rintro e w1 ⟨rfl, hr1, hm1⟩
      have zw1 := hm1.size
      have c2' : w1.cell? ⟨q, 0, none⟩ = some (.map (some m)) := by rw [cell_of_same (p := ⟨q, 0, none⟩) (hm1.block q (by omega) (Ne.symm h9))]; exact c2
      have cF := first_new m st.1 k w1 (hseen.same (hm1.block m hseen.lt (Ne.symm h10))) hklen hn HNEW.out
      clear cK c2
      go_wp2_with fail
      refine cF.mono ?_; rintro e w2 ⟨rfl, hseen2, ht⟩
      have ht : w1.grownBy w2 (some m) := ht
      have zw2 := ht.size
      have hb2 : w2.heap[b]? = some (.cells (six 5 false 0 [] lv kv).toArray 34 (0, 0)) := (ht.block b (by omega) (by simpa using Ne.symm h13)).trans ((hm1.block b (by omega) (Ne.symm h7)).trans H1.out)
      obtain ⟨⟨j0, j1, j2, j3, j4, j5⟩, jf⟩ := cells_six hb2
      have j5f := jf 5
      clear cF c2' hseen j0 j1 j2 j3 j4 jf k1 k2 k3 k4 k5
      have hown2 : w2.ownsRow Bl 9 1 kv st.1.length (st.1.map strCell) := ownsRow_same H4.out fun g hg => by
        have hg2 := row_lt H4.out g hg
        exact (ht.block g (by omega) (by simp; omega)).trans (hm1.block g hg2.2 (by omega))
      obtain ⟨ka, kc, rfl⟩ := slice_form hown2
      go_wp2_with (at_builtin; refine wpList_append_lies _ rfl (.tmp 22) (.tmp 24) 24 rfl Bl 9 i0 (.string ⟨#[]⟩) 1 16 Tryz.underlying24 hi0 hz0 hz1 hz2 rfl (by decide) (.slice ka st.1.length kc) st.1.length (st.1.map strCell) rfl (hown2.alloc _) ⟨w2.heap.size, 0, none⟩ 1 1 [.string ⟨k.toArray⟩] rfl rfl (World.news_of_block (cs := #[.string ⟨k.toArray⟩]) (t := 9) (fr := (0, 0)) (heap_alloc_new w2 _)) (by simp [Value.oneCell']) (by omega) (by unfold maxLen; omega) (by omega) (by simp; omega) (w2.heap.size + 1) (by simp) ?_)
      intro gk capk w3 hown3 hgrow3 hat3 hlt3
      have hkvb : (Value.slice ka st.1.length kc).ownBlock ≠ some b := fun h => by have := row_lt H4.out b h; omega
      have hb3 : w3.heap[b]? = some (.cells (six 5 false 0 [] lv (.slice ka st.1.length kc)).toArray 34 (0, 0)) := (hgrow3.block b (by simp; omega) (fun h => hkvb h.symm)).trans ((Below.heap_alloc w2 _ b (by omega)).trans hb2)
      obtain ⟨⟨_, _, _, _, _, l5⟩, lf⟩ := cells_six hb3
      have l5f := lf 5
      clear lf j5 j5f
      have far3 : ∀ j, j < W.heap.size → j ≠ d → j ≠ m → (Value.slice ka st.1.length kc).ownBlock ≠ some j → w3.heap[j]? = W.heap[j]? := fun j hj hjd hjm hjk =>
        (hgrow3.block j (by simp; omega) (fun h => hjk h.symm)).trans ((Below.heap_alloc w2 _ j (by omega)).trans ((ht.block j (by omega) (by simpa using hjm)).trans (hm1.block j hj hjd)))
      have hkv : ∀ j, (Value.slice ka st.1.length kc).ownBlock = some j → Bl ≤ j ∧ j < W.heap.size := fun j hj => row_lt H4.out j hj
      have cp3 : w3.cell? ⟨p, 0, none⟩ = some (.pointer (some ⟨d, 0, none⟩)) := by
        rw [cell_of_same (p := ⟨p, 0, none⟩) (far3 p (by omega) (by omega) (by omega) (fun h => by have := hkv p h; omega))]; exact c1
      have FAR3 := Lib.hid far3
      have HKV := Lib.hid hkv
      clear far3 hkv hkvb c1
      go_wp2_with fail
      have hgB : Bl ≤ gk := (row_lt hown3 gk rfl).1
      have hgb : gk ≠ b := by omega
      have hgd : gk ≠ d := by omega
      have z3 := hgrow3.size
      simp at z3
      have far4 : ∀ j, j ≠ b → (w3.setCell ⟨b, 5, none⟩ (.slice (some ⟨gk, 0, none⟩) (st.1.length + 1) capk)).heap[j]? = w3.heap[j]? := fun j hj => Below.heap_setCell _ _ _ _ hj
      have hb4 : (w3.setCell ⟨b, 5, none⟩ (.slice (some ⟨gk, 0, none⟩) (st.1.length + 1) capk)).heap[b]? = some (.cells (six 5 false 0 [] lv (.slice (some ⟨gk, 0, none⟩) (st.1.length + 1) capk)).toArray 34 (0, 0)) := Go.Joins.block_setCell (cs := #[.int .i64 5, .bool false, .int .i64 0, .string ⟨#[]⟩, lv, .slice ka st.1.length kc]) hb3 _
      have z4 : (w3.setCell ⟨b, 5, none⟩ (.slice (some ⟨gk, 0, none⟩) (st.1.length + 1) capk)).heap.size = w3.heap.size := sc_size _ _ _
      have o4 : (w3.setCell ⟨b, 5, none⟩ (.slice (some ⟨gk, 0, none⟩) (st.1.length + 1) capk)).os = w3.os := rfl
      have t4 : (w3.setCell ⟨b, 5, none⟩ (.slice (some ⟨gk, 0, none⟩) (st.1.length + 1) capk)).tape = w3.tape := rfl
      have p4 : (w3.setCell ⟨b, 5, none⟩ (.slice (some ⟨gk, 0, none⟩) (st.1.length + 1) capk)).output = w3.output := rfl
      generalize w3.setCell ⟨b, 5, none⟩ (.slice (some ⟨gk, 0, none⟩) (st.1.length + 1) capk) = w4 at *
      have far : ∀ j, j < W.heap.size → j ≠ d → j ≠ m → (Value.slice ka st.1.length kc).ownBlock ≠ some j → j ≠ b → w4.heap[j]? = W.heap[j]? := fun j hj hjd hjm hjk hjb => (far4 j hjb).trans (FAR3.out j hj hjd hjm hjk)
      have hlv : ∀ j, lv.ownBlock = some j → Bl ≤ j ∧ j < W.heap.size := fun j hj => row_lt H2.out j hj
      have hkl : ∀ j, lv.ownBlock = some j → (Value.slice ka st.1.length kc).ownBlock ≠ some j := fun j hj h => H5.out j h hj
      have hgl : lv.ownBlock ≠ some gk := fun h => by
        rcases hat3 with h2 | h2
        · exact hkl gk h h2
        · have := hlv gk h; omega
      have hr4 : RdL d s r0 o w4 := by
        obtain ⟨a, g1, g2, g3⟩ := hr1
        refine ⟨a, g1, g2, (far4 d h7).trans ((hgrow3.block d (by simp; have := g3.lt; omega) (fun h => by have := HKV.out d h.symm; omega)).trans ((Below.heap_alloc w2 _ d (by have := g3.lt; omega)).trans ((ht.block d g3.lt (by simpa using h10)).trans g3)))⟩
      have hmx : MutX W.heap.size d (fun j => j = m ∨ j = b ∨ (Value.slice ka st.1.length kc).ownBlock = some j) W w4 := ⟨o4.trans (hgrow3.os.trans (ht.os.trans hm1.os)), t4.trans (hgrow3.tape.trans (ht.tape.trans hm1.tape)), p4.trans (hgrow3.output.trans (ht.output.trans hm1.output)), by omega, fun j hj hjd hX => far j hj hjd (fun h => hX (.inl h)) (fun h => hX (.inr (.inr h))) (fun h => hX (.inr (.inl h)))⟩
      have hE4 : Env B0 w4 := by
        have h0 := hE.size
        refine hE.later ((hmx.mut (B' := B0) h0 (fun j hj => ?_)).below hd)
        rcases hj with rfl | rfl | hj
        · exact hbm.2
        · exact hbm.1
        · have := HKV.out j hj; omega
      have hown4 : w4.ownsRow Bl 34 6 lv st.2.length xs := ownsRow_same H2.out fun g hg => by
        have := hlv g hg
        exact far g this.2 (by omega) (by omega) (hkl g hg) (by omega)
      have hin4 : ListIn w4 (fun g => Bl ≤ g ∧ lv.ownBlock ≠ some g ∧ ¬ some gk = some g) st.2 xs := by
        refine ListIn.later (R := fun g => (Bl ≤ g ∧ lv.ownBlock ≠ some g ∧ ¬ (Value.slice ka st.1.length kc).ownBlock = some g) ∧ g < W.heap.size) (fun g hg hlt => far g hg.2 (by omega) (by omega) hg.1.2.2 (by omega)) (fun g hg => ⟨hg.1.1, hg.1.2.1, fun h => ?_⟩) _ xs (ListIn.bound _ xs H3.out)
        have h : gk = g := by simpa using h
        subst h
        rcases hat3 with h2 | h2
        · exact hg.1.2.2 h2
        · omega
      have cV := IH f hf d B0 s r0 o w4 hr4 hE4 hd hs ho (by have := key_len hk; omega) hf2
      have cP := part_any d b Bl st.2.length s o 5 lv (.slice (some ⟨gk, 0, none⟩) (st.1.length + 1) capk) xs st.2 _ w4 hb4 hown4 rfl (fun g => some gk = some g) (fun g hg => (Option.some.inj hg) ▸ (by omega)) hin4 h1 h2 h7 (by omega) hn2 cV
      refine cP.mono ?_
      intro e W1 hP
      have key : ∃ v, e = .returned v ∧ ReadsX d s o (RI d b p q m Bl) Bl (fun k => k = b ∨ k = m) (resMap (fun v => (st.1 ++ [k], st.2 ++ [v])) (value f o r0)) W (.returned v) W1 := by
        have hfr : ∀ W1 : World, W1.os = w4.os → W1.tape = w4.tape → W1.output = w4.output → w4.heap.size ≤ W1.heap.size → (∀ j, j < Bl → j ≠ d → j ≠ b → W1.heap[j]? = w4.heap[j]?) → MutX Bl d (fun k => k = b ∨ k = m) W W1 := fun W1 g1 g2 g3 g4 g5 =>
          ⟨g1.trans hmx.os, g2.trans hmx.tape, g3.trans hmx.output, by omega, fun j hj hjd hX => (g5 j hj hjd (fun h => hX (.inl h))).trans (far j (by omega) hjd (fun h => hX (.inr h)) (fun h => by have := HKV.out j h; omega) (fun h => hX (.inl h)))⟩
        cases hv : value f o r0 with
        | bad =>
          rw [hv] at hP
          obtain ⟨rfl, hrb, hmb⟩ := hP
          exact ⟨_, rfl, hfr W1 hmb.os hmb.tape hmb.output hmb.size (fun j hj hjd _ => hmb.block j (by omega) hjd), rfl, hrb⟩
        | deep =>
          rw [hv] at hP
          obtain ⟨rfl, hrb, hmb⟩ := hP
          exact ⟨_, rfl, hfr W1 hmb.os hmb.tape hmb.output hmb.size (fun j hj hjd _ => hmb.block j (by omega) hjd), rfl, hrb⟩
        | ok v rest =>
          rw [hv] at hP
          obtain ⟨rfl, hrb, hmb, lv', xs', n1, n2, n3, n4⟩ := hP
          have hz5 := hmb.size
          have far5 : ∀ j, j < w4.heap.size → j ≠ d → j ≠ b → lv.ownBlock ≠ some j → W1.heap[j]? = w4.heap[j]? := fun j hj hjd hjb hjl => hmb.block j hj hjd (fun h => h.elim hjb hjl)
          refine ⟨_, rfl, hfr W1 hmb.os hmb.tape hmb.output hmb.size (fun j hj hjd hjb => far5 j (by omega) hjd hjb (fun h => by have := hlv j h; omega)), rfl, ?_, hrb⟩
          obtain ⟨_, e1, e2, _⟩ := HI'.out
          refine ⟨⟨h1, h2, h3, h4, h5, by omega, h7, h8, h9, h10, h11, h12, h13, h14, h15⟩, ?_, ?_, ?_, lv', .slice (some ⟨gk, 0, none⟩) (st.1.length + 1) capk, xs', n1, ?_, n3, ?_, ?_⟩
          · rw [cell_of_same (p := ⟨p, 0, none⟩) ((far5 p (by omega) (by omega) h11 (fun h => by have := hlv p h; omega)).trans (far p (by omega) (by omega) h14 (fun h => by have := HKV.out p h; omega) h11))]; exact e1
          · rw [cell_of_same (p := ⟨q, 0, none⟩) ((far5 q (by omega) (by omega) h12 (fun h => by have := hlv q h; omega)).trans (far q (by omega) (by omega) h15 (fun h => by have := HKV.out q h; omega) h12))]; exact e2
          · have hml := hseen2.lt
            refine hseen2.same ((far5 m (by omega) (Ne.symm h10) h13 (fun h => by have := hlv m h; omega)).trans ((far4 m h13).trans ((hgrow3.block m (by simp; omega) (fun h => by have := HKV.out m h.symm; omega)).trans (Below.heap_alloc w2 _ m hml))))
          · rw [List.length_append]; exact n2
          · have hown5 : W1.ownsRow Bl 9 1 (.slice (some ⟨gk, 0, none⟩) (st.1.length + 1) capk) (st.1.length + 1) (st.1.map strCell ++ [.string ⟨k.toArray⟩]) := ownsRow_same hown3 fun g hg => by
              have hg : gk = g := by simpa [Value.ownBlock] using hg
              subst hg
              exact (far5 gk (by omega) hgd hgb hgl).trans (far4 gk hgb)
            rw [List.length_append, List.map_append]; exact hown5
          · intro g hg h
            have hg : gk = g := by simpa [Value.ownBlock] using hg
            subst hg
            rcases n4 with h6' | h6'
            · rw [h6'] at h; exact hgl h
            · have := h6' gk h; omega
      obtain ⟨v, rfl, hX⟩ := key
      clear hP cP
      go_wp2_with fail
      go_ret
      exact hX
end Go.Proofs.YtfjdeacpdcnjpaaGreatDoor.V
