/- DocsPlay's walk. -/
import Derived.Test.YtccmicmlkgkheaaDoorDTwo2
namespace Go.Proofs.YtccmicmlkgkheaaDoor.D
open Go.RowKit
open Go.Lib hiding intOf
open Go.Proofs.YtccmicmlkgkheaaDoor.U Go.Proofs.YtccmicmlkgkheaaDoor.L Go.Proofs.YtccmicmlkgkheaaDoor.E

/-- What is left of a region, as the end of another one: so that the walk by 'go_region_held3' ends there, and what follows is taken by hand. -/
def Rest (P : Program) (md : Region.Mode) (ops : Array Oper) (Q : Exit → Act → World → Prop) (S : World → Prop) (fuel : Nat) (listed : Array Bool) (a : Act) (w : World) : Prop := wpAnyH P md ops Q S fuel listed a w
theorem rest_eq {P : Program} {md : Region.Mode} {o : Oper} {os : List Oper} {Q : Exit → Act → World → Prop} {S : World → Prop} {fuel : Nat} {listed : Array Bool} {a : Act} {w : World} :
    wpAnyH P md (List.toArray (o :: os)) Q S fuel listed a w = wpAnyH P md #[] (NoPanic (fun _ a w => Rest P md (List.toArray (o :: os)) Q S fuel listed a w)) S 0 #[] a w :=
  propext ⟨fun h => ⟨by rfl, h⟩, fun h => h.2⟩

theorem take_at {P : Program} {md : Region.Mode} {ops : Array Oper} {Q : Exit → Act → World → Prop} {S : World → Prop} {i : Nat} {oi : Oper} {d : Option Tmp} {v : Value} {fuel : Nat} {listed : Array Bool} {a : Act} {w : World} (hi : ops[i]? = some oi) (hd : oi.dst = d)
    (hs : Region.noSelect ops = true) (hf : Region.free md ops listed i = true) (hr : (Region.ready md ops listed).contains i = true)
    (hQ : ∀ c a w, Q (.panic c) (a.put d v) w → Q (.panic c) a w) (hy : YieldsIf P ops S oi v a) (hS : S w)
    (h : wpAnyH P md ops Q S fuel (listed.setIfInBounds i true) (a.put d v) w) : wpAnyH P md ops Q S (fuel + 1) listed a w := by
  subst hd
  exact wpAnyH_take hi hs hf hr hQ hy hS h

def DocsAny (l : List DocP) (v : Value) (X : World) : Prop := ∃ B, DocsIn B X l v
set_option maxHeartbeats 8000000 in
set_option maxRecDepth 100000 in
theorem play_any (acts : List ActP) (v : Value) (w : World) (hv : ActsIn w acts v) (hfit : ∀ a ∈ acts, ActFit 281474976710656 a) (hlen : acts.length ≤ 281474976710656) (hT : Tabs w) :
    Calls Tryd.prog 3 #[v] w (True' w) := by
  have cN := snew_any w
  have hAl := fun X (hk : Keep w.heap.size (fun _ => False) w X) => alive_any X (tabs_keep hT hk (Nat.le_refl _))
  obtain ⟨a0, c0, rfl, hE⟩ := hv
  have HE := Lib.hid hE
  have HF := Lib.hid hfit
  obtain ⟨n, hn⟩ : ∃ n, acts.length = n := ⟨_, rfl⟩
  have HN := Lib.hid hn
  rw [hn] at hlen ⊢
  have HT := Lib.hid hT
  have HAL := Lib.hid hAl
  clear hE hfit hn hT hAl
  go_enter Tryd.func3, Tryd.ntmps3
  go_wp2_with fail
  refine cN.mono ?_
  rintro e w1 ⟨rfl, hP, hb1⟩
  have hTwo := two_start hP hb1 HT.out
  obtain ⟨W2, hW2⟩ : ∃ W, w1.alloc (.cells #[.slice none 0 0] 28) = W := ⟨_, rfl⟩
  rw [hW2] at hTwo
  have HTW := Lib.hid hTwo
  clear hP hb1 cN hTwo
  go_wp2_with fail
  clear hW2
  obtain ⟨p, hp⟩ : ∃ p, w.heap.size = p := ⟨_, rfl⟩
  obtain ⟨q, hq⟩ : ∃ q, w1.heap.size = q := ⟨_, rfl⟩
  rw [hp, hq] at HTW ⊢
  clear hp hq
  go_loopw [5] (fun iv wr => ∃ (i : Nat) (l : List DocP), iv = .int .i64 i ∧ i ≤ n ∧ i ≤ 60 ∧ Hid (Two p q w l wr)) (fun iv _ => n - (intOf iv).toNat)
  case atStart => exact ⟨0, [], rfl, Nat.zero_le _, by omega, HTW⟩
  case round =>
    obtain ⟨i, l, rfl, hi, hi60, HW⟩ := hrel
    clear HTW
    have hal : Calls Tryd.prog 15 #[] wr (True' wr) := HAL.out wr HW.out.low
    by_cases hlt : i < n
    · have d1 : decide ((i : Int) < (n : Int)) = true := by simpa using hlt
      by_cases h60 : i < 60
      · have d2 : decide ((i : Int) < 60) = true := by simp; omega
        clear hal
        have hil : i < acts.length := by rw [HN.out]; exact hlt
        obtain ⟨g, off, rfl, hg, hat⟩ := HE.out.resolve_left (fun h => by rw [h] at hil; exact Nat.not_lt_zero _ hil)
        obtain ⟨ev, hev, y0, y1, y2, y3, y4⟩ := act_low hat hg HW.out.low i hil
        have hfa := HF.out acts[i] (List.getElem_mem hil)
        generalize acts[i] = a at hev y0 y1 y2 y3 y4 hfa
        obtain ⟨m, ea, ec, rfl⟩ : ∃ m ea ec, ev = .slice ea m ec := by obtain ⟨ea, ec, h, _⟩ := hev; exact ⟨_, ea, ec, h⟩
        obtain ⟨W1, hW1⟩ : ∃ W, wr.alloc (.cells #[.int .i64 a.k, .string a.d.n, .int .i64 a.d.v, .string a.d.t, .slice ea m ec] 33) = W := ⟨_, rfl⟩
        have hx1 : W1.heap[wr.heap.size]? = some (.cells #[.int .i64 a.k, .string a.d.n, .int .i64 a.d.v, .string a.d.t, .slice ea m ec] 33 (0, 0)) := by rw [← hW1]; exact heap_alloc_new _ _
        have hb1 : Below wr.heap.size wr W1 := by rw [← hW1]; exact (Below.refl _ _).alloc (Nat.le_refl _) _
        have HW1 := Lib.hid (HW.out.later hb1)
        have c1 := fits_any a (.slice ea m ec) W1 hfa (hev.to HW1.out.low HW1.out.low.size)
        obtain ⟨z0, z1, z2, z3, z4⟩ := five_cells hx1
        have hlt1 : wr.heap.size < W1.heap.size := (Array.getElem?_eq_some_iff.1 hx1).1
        obtain ⟨R, hR⟩ : ∃ R, fitsA a = R := ⟨_, rfl⟩
        rw [hR] at c1
        have HR := Lib.hid hR
        have HEV := Lib.hid hev
        have HX1 := Lib.hid hx1
        clear hat hev hfa hR hx1 hb1
        go_wp2_with fail
        refine c1.mono ?_
        rintro e w2 ⟨rfl, hb2⟩
        have HW2 := Lib.hid (HW1.out.later hb2)
        clear c1
        cases R
        · clear hb2 z0 z1 z2 z3 z4
          go_wp2_with fail
          go_roundw
          case rel => exact ⟨i + 1, l, by go_num, by omega, by omega, HW2⟩
          case measure => simp [intOf]; omega
        · have hft := fitsA_true HR.out
          have hfit : ActFit 1000000 a := ⟨by omega, by omega, fun e he => by have := sumT_mem he; omega, by omega⟩
          have c2 := do_any p q w l a (.slice ea m ec) w2 HW2.out hfit HEV.out
          have hx2 := bx_block HX1.out hb2
          obtain ⟨z0, z1, z2, z3, z4⟩ := five_cells hx2
          obtain ⟨l', hl'⟩ : ∃ l', (doL l a).1 = l' := ⟨_, rfl⟩
          rw [hl'] at c2
          have HX2 := Lib.hid hx2
          clear hft hl' hb2 y0 y1 y2 y3 y4 hx2
          go_wp2_with fail
          refine c2.mono ?_
          rintro e w3 ⟨rfl, T3, hk3⟩
          have hlts := HW.out.lts
          have hx3 := hk3 _ _ _ _ (by omega) (by omega) HX2.out
          clear z0 z1 z2 z3 z4
          obtain ⟨_, z1, _, _, _⟩ := five_cells hx3
          have hzz : wr.heap.size < w3.heap.size := (Array.getElem?_eq_some_iff.1 hx3).1
          have c3 := two_get T3 hfit.n
          have hnm := fun h => getL_name (l := l') (n := a.d.n) h
          generalize getL l' a.d.n = x at c3 hnm
          generalize (findL l' a.d.n).isSome = b at c3 hnm
          have HT3 := Lib.hid T3
          clear c2 T3 hk3 hlts hx3 hfit
          go_wp2_with fail
          refine c3.mono ?_
          rintro e w4 ⟨rfl, hb4⟩
          obtain ⟨W5, hW5⟩ : ∃ W, w4.alloc (.cells #[.string x.n, .int .i64 x.v, .string x.t] 30) = W := ⟨_, rfl⟩
          have hx5 : W5.heap[w4.heap.size]? = some (.cells #[.string x.n, .int .i64 x.v, .string x.t] 30 (0, 0)) := by rw [← hW5]; exact heap_alloc_new _ _
          have hb5 : Below w4.heap.size w4 W5 := by rw [← hW5]; exact (Below.refl _ _).alloc (Nat.le_refl _) _
          have hb35 := next hb4 hb5
          replace z1 := (hb35.cell (p := ⟨wr.heap.size, 1, none⟩) hzz).trans z1
          have T5 := HT3.out.later hb35
          obtain ⟨y, B, hm5⟩ := T5.mid
          obtain ⟨vm, hvm⟩ := hm5.sto
          have hm0 := hvm.c0
          have hxn : W5.cell? ⟨w4.heap.size, 0, none⟩ = some (.string x.n) := by unfold World.cell?; rw [hx5]; rfl
          have HW5 := Lib.hid T5
          obtain ⟨z, hz⟩ : ∃ z, sizeL l' = z := ⟨_, rfl⟩
          have hq5 : q < W5.heap.size := hvm.lt
          have hd5 : w4.heap.size < W5.heap.size := (Array.getElem?_eq_some_iff.1 hx5).1
          have ha5 : wr.heap.size < W5.heap.size := by have := hb35.size; omega
          have nxt : ∀ X X', (X.cell? ⟨w4.heap.size, 0, none⟩ = some (.string x.n) ∧ X.cell? ⟨wr.heap.size, 1, none⟩ = some (.string a.d.n) ∧ X.cell? ⟨q, 0, none⟩ = some vm ∧ Below W5.heap.size W5 X) → Below X.heap.size X X' → (X'.cell? ⟨w4.heap.size, 0, none⟩ = some (.string x.n) ∧ X'.cell? ⟨wr.heap.size, 1, none⟩ = some (.string a.d.n) ∧ X'.cell? ⟨q, 0, none⟩ = some vm ∧ Below W5.heap.size W5 X') := fun X X' h hb => by
            obtain ⟨h1, h2, h3, h4⟩ := h
            have hz := h4.size
            exact ⟨(hb.cell (p := ⟨w4.heap.size, 0, none⟩) (show w4.heap.size < X.heap.size by omega)).trans h1, (hb.cell (p := ⟨wr.heap.size, 1, none⟩) (show wr.heap.size < X.heap.size by omega)).trans h2, (hb.cell (p := ⟨q, 0, none⟩) (show q < X.heap.size by omega)).trans h3, next h4 hb⟩
          have cAll : ∀ X, (X.cell? ⟨w4.heap.size, 0, none⟩ = some (.string x.n) ∧ X.cell? ⟨wr.heap.size, 1, none⟩ = some (.string a.d.n) ∧ X.cell? ⟨q, 0, none⟩ = some vm ∧ Below W5.heap.size W5 X) → Calls Tryd.prog 12 #[.pointer (some ⟨p, 0, none⟩)] X fun e w' => ∃ v, e = .returned v ∧ DocsAny l' v w' ∧ (w'.cell? ⟨w4.heap.size, 0, none⟩ = some (.string x.n) ∧ w'.cell? ⟨wr.heap.size, 1, none⟩ = some (.string a.d.n) ∧ w'.cell? ⟨q, 0, none⟩ = some vm ∧ Below W5.heap.size W5 w') := fun X hS => by
            refine (two_all (T5.later hS.2.2.2)).mono ?_
            rintro e w' ⟨⟨v, rfl, hv⟩, hb⟩
            exact ⟨v, rfl, ⟨_, hv⟩, nxt X w' hS hb⟩
          have cSame : ∀ v X, DocsAny l' v X → (X.cell? ⟨w4.heap.size, 0, none⟩ = some (.string x.n) ∧ X.cell? ⟨wr.heap.size, 1, none⟩ = some (.string a.d.n) ∧ X.cell? ⟨q, 0, none⟩ = some vm ∧ Below W5.heap.size W5 X) → Calls Tryd.prog 11 #[v, vm] X fun e w' => e = .returned (.bool true) ∧ (w'.cell? ⟨w4.heap.size, 0, none⟩ = some (.string x.n) ∧ w'.cell? ⟨wr.heap.size, 1, none⟩ = some (.string a.d.n) ∧ w'.cell? ⟨q, 0, none⟩ = some vm ∧ Below W5.heap.size W5 w') := fun v X hv hS => by
            obtain ⟨B', hv⟩ := hv
            have hf := T5.inv.few
            refine (same_any B' B l' l' v vm X hv (hvm.row.later hS.2.2.2) (by omega) (by omega)).mono ?_
            rintro e w' ⟨rfl, hb⟩
            exact ⟨by rw [sameD_iff.2 rfl], nxt X w' hS hb⟩
          have cSize : ∀ X, (X.cell? ⟨w4.heap.size, 0, none⟩ = some (.string x.n) ∧ X.cell? ⟨wr.heap.size, 1, none⟩ = some (.string a.d.n) ∧ X.cell? ⟨q, 0, none⟩ = some vm ∧ Below W5.heap.size W5 X) → Calls Tryd.prog 13 #[.pointer (some ⟨p, 0, none⟩)] X fun e w' => e = .returned (.int .i64 (z : Nat)) ∧ (w'.cell? ⟨w4.heap.size, 0, none⟩ = some (.string x.n) ∧ w'.cell? ⟨wr.heap.size, 1, none⟩ = some (.string a.d.n) ∧ w'.cell? ⟨q, 0, none⟩ = some vm ∧ Below W5.heap.size W5 w') := fun X hS => by
            refine (two_size (T5.later hS.2.2.2)).mono ?_
            rintro e w' ⟨rfl, hb⟩
            exact ⟨by rw [hz], nxt X w' hS hb⟩
          have cRef : ∀ X, (X.cell? ⟨w4.heap.size, 0, none⟩ = some (.string x.n) ∧ X.cell? ⟨wr.heap.size, 1, none⟩ = some (.string a.d.n) ∧ X.cell? ⟨q, 0, none⟩ = some vm ∧ Below W5.heap.size W5 X) → Calls Tryd.prog 14 #[.pointer (some ⟨q, 0, none⟩)] X fun e w' => e = .returned (.int .i64 (z : Nat)) ∧ (w'.cell? ⟨w4.heap.size, 0, none⟩ = some (.string x.n) ∧ w'.cell? ⟨wr.heap.size, 1, none⟩ = some (.string a.d.n) ∧ w'.cell? ⟨q, 0, none⟩ = some vm ∧ Below W5.heap.size W5 w') := fun X hS => by
            refine (refSize_any B q l' vm X (hvm.later hS.2.2.2) T5.inv).mono ?_
            rintro e w' ⟨rfl, rfl⟩
            exact ⟨by rw [hz], hS⟩
          have hS5 : (W5.drew.cell? ⟨w4.heap.size, 0, none⟩ = some (.string x.n) ∧ W5.drew.cell? ⟨wr.heap.size, 1, none⟩ = some (.string a.d.n) ∧ W5.drew.cell? ⟨q, 0, none⟩ = some vm ∧ Below W5.heap.size W5 W5.drew) := ⟨hxn, z1, hm0, (Below.refl _ _).drew⟩
          have hxb2 : (b = false) ∨ (b = true ∧ x.n = a.d.n) := by
            cases b
            · exact .inl rfl
            · exact .inr ⟨rfl, hnm rfl⟩
          clear nxt T5 hvm hx5 hb5 hb35 hb4 hz c3 hxn hm0 hq5 hd5 ha5 hnm hm5 hzz
          rcases hxb2 with rfl | ⟨rfl, hn2⟩
          · go_upto_region 13 with fail
            try rw [hW5]
            clear hW5
            go_region_held3 (fun X => X.cell? ⟨w4.heap.size, 0, none⟩ = some (.string x.n) ∧ X.cell? ⟨wr.heap.size, 1, none⟩ = some (.string a.d.n) ∧ X.cell? ⟨q, 0, none⟩ = some vm ∧ Below W5.heap.size W5 X) (with_reducible (repeat (first | assumption))) (first
              | (go_at_call 12; (with_reducible refine (cAll _ ?_).mono ?_); assumption; rintro e w6 ⟨vl, rfl, hv6, hS6⟩)
              | (go_at_call 11; (with_reducible refine (cSame _ _ ?_ ?_).mono ?_); assumption; assumption; rintro e w7 ⟨rfl, hS7⟩)
              | (go_at_call 13; (with_reducible refine (cSize _ ?_).mono ?_); assumption; rintro e w8 ⟨rfl, hS8⟩)
              | (go_at_call 14; (with_reducible refine (cRef _ ?_).mono ?_); assumption; rintro e w9 ⟨rfl, hS9⟩; simp only [rest_eq] at *))
            unfold Rest
            refine take_at (i := 17) (oi := _) (d := some 63) (v := ?_) rfl rfl (by kernel_rfl) (by kernel_rfl) (by kernel_rfl) (fun _ _ _ h => h) (Or.inl ⟨by rfl, ?_⟩) (by assumption) ?_
            rotate_left
            · intro w hSw; (try dsimp only at hSw); go_simp
              all_goals with_reducible rfl
            simp only [Act.put, List.setIfInBounds_toArray, List.set_cons_zero, List.set_cons_succ]
            refine take_at (i := 18) (oi := _) (d := some 64) (v := ?_) rfl rfl (by kernel_rfl) (by kernel_rfl) (by kernel_rfl) (fun _ _ _ h => h) (Or.inl ⟨by rfl, ?_⟩) (by assumption) ?_
            rotate_left
            · intro w hSw; (try dsimp only at hSw); go_simp
              all_goals with_reducible rfl
            simp only [Act.put, List.setIfInBounds_toArray, List.set_cons_zero, List.set_cons_succ]
            refine take_at (i := 19) (oi := _) (d := some 65) (v := ?_) rfl rfl (by kernel_rfl) (by kernel_rfl) (by kernel_rfl) (fun _ _ _ h => h) (Or.inl ⟨by rfl, ?_⟩) (by assumption) ?_
            rotate_left
            · intro w hSw; (try dsimp only at hSw); go_simp
              all_goals with_reducible rfl
            simp only [Act.put, List.setIfInBounds_toArray, List.set_cons_zero, List.set_cons_succ]
            refine take_at (i := 20) (oi := _) (d := some 66) (v := ?_) rfl rfl (by kernel_rfl) (by kernel_rfl) (by kernel_rfl) (fun _ _ _ h => h) (Or.inl ⟨by rfl, ?_⟩) (by assumption) ?_
            rotate_left
            · intro w hSw; (try dsimp only at hSw); go_simp
              all_goals with_reducible rfl
            simp only [Act.put, List.setIfInBounds_toArray, List.set_cons_zero, List.set_cons_succ]
            refine take_at (i := 21) (oi := _) (d := some 67) (v := ?_) rfl rfl (by kernel_rfl) (by kernel_rfl) (by kernel_rfl) (fun _ _ _ h => h) (Or.inl ⟨by rfl, ?_⟩) (by assumption) ?_
            rotate_left
            · intro w hSw; (try dsimp only at hSw); go_simp
              all_goals with_reducible rfl
            simp only [Act.put, List.setIfInBounds_toArray, List.set_cons_zero, List.set_cons_succ]
            refine take_at (i := 22) (oi := _) (d := some 68) (v := undef) rfl rfl (by kernel_rfl) (by kernel_rfl) (by kernel_rfl) (fun _ _ _ h => h) (Or.inr ⟨by rfl, rfl⟩) (by assumption) ?_
            simp only [Act.put, List.setIfInBounds_toArray, List.set_cons_zero, List.set_cons_succ]
            refine take_at (i := 23) (oi := _) (d := some 69) (v := undef) rfl rfl (by kernel_rfl) (by kernel_rfl) (by kernel_rfl) (fun _ _ _ h => h) (Or.inr ⟨by rfl, rfl⟩) (by assumption) ?_
            simp only [Act.put, List.setIfInBounds_toArray, List.set_cons_zero, List.set_cons_succ]
            refine take_at (i := 24) (oi := _) (d := some 70) (v := undef) rfl rfl (by kernel_rfl) (by kernel_rfl) (by kernel_rfl) (fun _ _ _ h => h) (Or.inr ⟨by rfl, rfl⟩) (by assumption) ?_
            simp only [Act.put, List.setIfInBounds_toArray, List.set_cons_zero, List.set_cons_succ]
            refine take_at (i := 25) (oi := _) (d := some 71) (v := undef) rfl rfl (by kernel_rfl) (by kernel_rfl) (by kernel_rfl) (fun _ _ _ h => h) (Or.inr ⟨by rfl, rfl⟩) (by assumption) ?_
            simp only [Act.put, List.setIfInBounds_toArray, List.set_cons_zero, List.set_cons_succ]
            refine take_at (i := 26) (oi := _) (d := some 72) (v := undef) rfl rfl (by kernel_rfl) (by kernel_rfl) (by kernel_rfl) (fun _ _ _ h => h) (Or.inr ⟨by rfl, rfl⟩) (by assumption) ?_
            simp only [Act.put, List.setIfInBounds_toArray, List.set_cons_zero, List.set_cons_succ]
            refine take_at (i := 27) (oi := _) (d := some 73) (v := undef) rfl rfl (by kernel_rfl) (by kernel_rfl) (by kernel_rfl) (fun _ _ _ h => h) (Or.inr ⟨by rfl, rfl⟩) (by assumption) ?_
            simp only [Act.put, List.setIfInBounds_toArray, List.set_cons_zero, List.set_cons_succ]
            refine take_at (i := 28) (oi := _) (d := some 74) (v := ?_) rfl rfl (by kernel_rfl) (by kernel_rfl) (by kernel_rfl) (fun _ _ _ h => h) (Or.inl ⟨by rfl, ?_⟩) (by assumption) ?_
            rotate_left
            · intro w hSw; (try dsimp only at hSw); go_simp
              all_goals with_reducible rfl
            simp only [Act.put, List.setIfInBounds_toArray, List.set_cons_zero, List.set_cons_succ]
            refine take_at (i := 29) (oi := _) (d := some 75) (v := ?_) rfl rfl (by kernel_rfl) (by kernel_rfl) (by kernel_rfl) (fun _ _ _ h => h) (Or.inl ⟨by rfl, ?_⟩) (by assumption) ?_
            rotate_left
            · intro w hSw; (try dsimp only at hSw); go_simp
              all_goals with_reducible rfl
            simp only [Act.put, List.setIfInBounds_toArray, List.set_cons_zero, List.set_cons_succ]
            refine wpAnyH_done (by kernel_rfl) ?_ _
            refine NoPanic.normal ?_
            all_goals
              have HS := Lib.hid hS9
              clear hv6 hS6 hS7 hS8 hS9 hS5 cAll cSame cSize cRef
              go_wp2_with fail
              go_roundw
              case rel => exact ⟨i + 1, l', by go_num, by omega, by omega, Lib.hid (HW5.out.later HS.out.2.2.2)⟩
              case measure => simp [intOf]; omega
          · generalize x.n = xn at cAll cSame cSize cRef hS5 hn2 hW5 ⊢
            subst hn2
            go_upto_region 13 with fail
            try rw [hW5]
            clear hW5
            first | (go_region_held3 (fun X => X.cell? ⟨w4.heap.size, 0, none⟩ = some (.string a.d.n) ∧ X.cell? ⟨wr.heap.size, 1, none⟩ = some (.string a.d.n) ∧ X.cell? ⟨q, 0, none⟩ = some vm ∧ Below W5.heap.size W5 X) (with_reducible (repeat (first | assumption))) (first
              | (go_at_call 12; (with_reducible refine (cAll _ ?_).mono ?_); assumption; rintro e w6 ⟨vl, rfl, hv6, hS6⟩)
              | (go_at_call 11; (with_reducible refine (cSame _ _ ?_ ?_).mono ?_); assumption; assumption; rintro e w7 ⟨rfl, hS7⟩)
              | (go_at_call 13; (with_reducible refine (cSize _ ?_).mono ?_); assumption; rintro e w8 ⟨rfl, hS8⟩)
              | (go_at_call 14; (with_reducible refine (cRef _ ?_).mono ?_); assumption; rintro e w9 ⟨rfl, hS9⟩))) | fail
            have HS := Lib.hid hS9
            clear hv6 hS6 hS7 hS8 hS9 hS5 cAll cSame cSize cRef
            go_wp2_with fail
            go_roundw
            case rel => exact ⟨i + 1, l', by go_num, by omega, by omega, Lib.hid (HW5.out.later HS.out.2.2.2)⟩
            case measure => simp [intOf]; omega
      · have d2 : decide ((i : Int) < 60) = false := by simp; omega
        have HWB := Lib.hid HW.out.below
        go_wp2_with fail
        refine hal.mono ?_
        rintro e w5 ⟨rfl, hb5⟩
        have hbb := next HWB.out hb5
        go_wp2_with fail
        go_ret
        exact ⟨rfl, hbb⟩
    · obtain rfl : i = n := by omega
      have d1 : decide ((i : Int) < (i : Int)) = false := by simp
      have HWB := Lib.hid HW.out.below
      go_wp2_with fail
      refine hal.mono ?_
      rintro e w5 ⟨rfl, hb5⟩
      have hbb := next HWB.out hb5
      go_wp2_with fail
      go_ret
      exact ⟨rfl, hbb⟩
end Go.Proofs.YtccmicmlkgkheaaDoor.D
