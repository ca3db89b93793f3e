/- The contract of a value that can't have parts. -/
import Derived.Test.YtfjdeacpdcnjpaaGreatDoorVRead5
namespace Go.Proofs.YtfjdeacpdcnjpaaGreatDoor.V
open Go.RowKit
open Go.Lib

/-- A value as the program holds it, its lists as they are. -/
def vagg (sort : Int) (on : Bool) (n : Int) (t : List UInt8) (l k : Value) : Value := .agg #[.int .i64 sort, .bool on, .int .i64 n, .string ⟨t.toArray⟩, l, k]

/-- A value without parts that is read: it, and what is left. -/
def ReadsP (d : Nat) (s : ByteArray) (o : Int) (r : Option (Val × List UInt8)) (w : World) (e : Ending) (w' : World) : Prop :=
  match r with
  | some (.mk so on n t [] [], l) => e = .returned (.tuple #[vagg so on n t (.slice none 0 0) (.slice none 0 0), .bool true]) ∧ RdL d s l o w' ∧ Mut w.heap.size d w w'
  | some _ => False
  | none => ∃ (so n : Int) (t l : List UInt8), e = .returned (.tuple #[vagg so false n t (.slice none 0 0) (.slice none 0 0), .bool false]) ∧ RdL d s l o w' ∧ Mut w.heap.size d w w'
theorem readsP_some {d : Nat} {s : ByteArray} {o : Int} {r : Option (Val × List UInt8)} {w w' : World} {so n : Int} {on : Bool} {t l : List UInt8} (h : r = some (.mk so on n t [] [], l)) (h1 : RdL d s l o w') (h2 : Mut w.heap.size d w w') :
    ReadsP d s o r w (.returned (.tuple #[vagg so on n t (.slice none 0 0) (.slice none 0 0), .bool true])) w' := by subst h; exact ⟨rfl, h1, h2⟩
theorem readsP_none {d : Nat} {s : ByteArray} {o : Int} {r : Option (Val × List UInt8)} {w w' : World} {so n : Int} {t l : List UInt8} (h : r = none) (h1 : RdL d s l o w') (h2 : Mut w.heap.size d w w') :
    ReadsP d s o r w (.returned (.tuple #[vagg so false n t (.slice none 0 0) (.slice none 0 0), .bool false])) w' := by subst h; exact ⟨so, n, t, l, rfl, h1, h2⟩

theorem plain_null {l : List UInt8} (h : Lib.hasPrefix l [110, 117, 108, 108] = true) : plain l = some (.null, l.drop 4) := by simp only [plain]; rw [if_pos (by exact h)]
theorem plain_false {l : List UInt8} (h : Lib.hasPrefix l [110, 117, 108, 108] = false) (h2 : Lib.hasPrefix l [102, 97, 108, 115, 101] = true) : plain l = some (.bool false, l.drop 5) := by
  simp only [plain]; rw [if_neg (by unfold Lib.hasPrefix at h; rw [h]; simp), if_pos (by exact h2)]
theorem plain_true {l : List UInt8} (h : Lib.hasPrefix l [110, 117, 108, 108] = false) (h2 : Lib.hasPrefix l [102, 97, 108, 115, 101] = false) (h3 : Lib.hasPrefix l [116, 114, 117, 101] = true) : plain l = some (.bool true, l.drop 4) := by
  simp only [plain]; rw [if_neg (by unfold Lib.hasPrefix at h; rw [h]; simp), if_neg (by unfold Lib.hasPrefix at h2; rw [h2]; simp), if_pos (by exact h3)]
theorem plain_str {l r : List UInt8} (h : l = 34 :: r) : plain l = (quotedA r).map fun p => (.str p.1, p.2) := by
  subst h
  simp only [plain]; rw [if_neg (by simp [List.isPrefixOf]), if_neg (by simp [List.isPrefixOf]), if_neg (by simp [List.isPrefixOf])]
theorem plain_num {l : List UInt8} (h : Lib.hasPrefix l [110, 117, 108, 108] = false) (h2 : Lib.hasPrefix l [102, 97, 108, 115, 101] = false) (h3 : Lib.hasPrefix l [116, 114, 117, 101] = false) (h4 : Lib.hasPrefix l [34] = false) :
    plain l = (number l).map fun p => (.num p.1, p.2) := by
  simp only [plain]; rw [if_neg (by unfold Lib.hasPrefix at h; rw [h]; simp), if_neg (by unfold Lib.hasPrefix at h2; rw [h2]; simp), if_neg (by unfold Lib.hasPrefix at h3; rw [h3]; simp)]
  split
  · simp [Lib.hasPrefix] at h4
  · rfl

theorem rdl_set {d : Nat} {s : ByteArray} {l : List UInt8} {o : Int} {w : World} (h : RdL d s l o w) (p : Addr) (hp : d ≠ p.block) (v : Value) : RdL d s l o (w.setCell p v) := by
  obtain ⟨a, h1, h2, h3⟩ := h; exact ⟨a, h1, h2, h3.setOther p hp v⟩

/-- A block that stands as it stood. -/
theorem cells_mut {d b : Nat} {W w1 : World} (hm : Mut W.heap.size d W w1) (hb : b < W.heap.size) (hne : b ≠ d) :
    (∀ o, w1.cell? ⟨b, o, none⟩ = W.cell? ⟨b, o, none⟩) ∧ (∀ o, w1.frozen? ⟨b, o, none⟩ = W.frozen? ⟨b, o, none⟩) := by
  have h := hm.block b hb hne
  exact ⟨fun o => by unfold World.cell?; rw [h], fun o => by unfold World.frozen?; rw [h]⟩

set_option maxHeartbeats 1000000 in
theorem plain_any (d : Nat) (s : ByteArray) (l : List UInt8) (o : Int) (B : Nat) (w : World) (hr : RdL d s l o w) (hE : Env B w) (hd : B ≤ d) (hs : s.size ≤ 1099511627776) :
    Calls Tryz.prog 53 #[.pointer (some ⟨d, 0, none⟩)] w (ReadsP d s o (plain l) w) := by
  have hmut : ∀ W, Mut w.heap.size d w W → Env B W := fun W hm => hE.mut hd hm
  have hdlt := hr.lt
  have hr0 : ∀ ob, RdL d s l o (w.alloc ob) := fun ob => hr.below ((Below.refl _ _).alloc (Nat.le_refl _) _)
  have hm0 : ∀ ob, Mut w.heap.size d w (w.alloc ob) := fun ob => (Mut.refl _ _ _).alloc (Nat.le_refl _) _
  have hne : d ≠ w.heap.size := by omega
  have RS : ∀ (l' : List UInt8) (W : World) (x0 x1 x2 x3 x4 x5 : Value), RdL d s l' o W → RdL d s l' o ((((((W.setCell ⟨w.heap.size, 0, none⟩ x0).setCell ⟨w.heap.size, 1, none⟩ x1).setCell ⟨w.heap.size, 2, none⟩ x2).setCell ⟨w.heap.size, 3, none⟩ x3).setCell ⟨w.heap.size, 4, none⟩ x4).setCell ⟨w.heap.size, 5, none⟩ x5) := fun l' W x0 x1 x2 x3 x4 x5 h =>
    rdl_set (rdl_set (rdl_set (rdl_set (rdl_set (rdl_set h _ hne _) _ hne _) _ hne _) _ hne _) _ hne _) _ hne _
  have MS : ∀ (W : World) (x0 x1 x2 x3 x4 x5 : Value), Mut w.heap.size d w W → Mut w.heap.size d w ((((((W.setCell ⟨w.heap.size, 0, none⟩ x0).setCell ⟨w.heap.size, 1, none⟩ x1).setCell ⟨w.heap.size, 2, none⟩ x2).setCell ⟨w.heap.size, 3, none⟩ x3).setCell ⟨w.heap.size, 4, none⟩ x4).setCell ⟨w.heap.size, 5, none⟩ x5) := fun W x0 x1 x2 x3 x4 x5 h =>
    Mut.setNew (Mut.setNew (Mut.setNew (Mut.setNew (Mut.setNew (Mut.setNew h _ (Nat.le_refl _) _) _ (Nat.le_refl _) _) _ (Nat.le_refl _) _) _ (Nat.le_refl _) _) _ (Nat.le_refl _) _) _ (Nat.le_refl _) _
  have hz0 : ∀ ob, w.heap.size ≤ (w.alloc ob).heap.size := fun ob => by simp
  cases hp1 : Lib.hasPrefix l [110, 117, 108, 108] with
  | true =>
    have HRes := Lib.hid (plain_null hp1)
    have c1 : ∀ W, RdL d s l o W → _ := fun W h => take_yes d s ⟨#[110, 117, 108, 108]⟩ l o W h hs hp1
    clear hr hE hp1
    go_enter Tryz.func53, Tryz.ntmps53
    go_wp2_with fail
    refine (c1 _ (hr0 _)).mono ?_; rintro e w1 ⟨rfl, hr1, hm1⟩
    obtain ⟨hc, hf⟩ := cells_mut hm1 (b := w.heap.size) (by simp) (by omega)
    go_wp2_with fail
    refine bodyPost_ret (v := .tuple #[vagg 0 false 0 [] (.slice none 0 0) (.slice none 0 0), .bool true]) (by simp [results, Tryz.results53, go_sem, hc]; rfl) rfl ?_
    exact readsP_some HRes.out (RS _ _ _ _ _ _ _ _ hr1) (MS _ _ _ _ _ _ _ ((hm0 _).trans (hm1.mono (hz0 _))))
  | false =>
    have c1 : ∀ W, RdL d s l o W → _ := fun W h => take_no d s ⟨#[110, 117, 108, 108]⟩ l o W h hp1
    cases hp2 : Lib.hasPrefix l [102, 97, 108, 115, 101] with
    | true =>
      have HRes := Lib.hid (plain_false hp1 hp2)
      have c2 : ∀ W, RdL d s l o W → _ := fun W h => take_yes d s ⟨#[102, 97, 108, 115, 101]⟩ l o W h hs hp2
      clear hr hE hp1 hp2
      go_enter Tryz.func53, Tryz.ntmps53
      go_wp2_with fail
      refine (c1 _ (hr0 _)).mono ?_; rintro e w1 ⟨rfl, hr1, hm1⟩
      go_wp2_with fail
      refine (c2 _ hr1).mono ?_; rintro e w2 ⟨rfl, hr2, hm2⟩
      replace hm2 := hm1.trans (hm2.mono hm1.size)
      obtain ⟨hc, hf⟩ := cells_mut hm2 (b := w.heap.size) (by simp) (by omega)
      clear c1 c2
      go_wp2_with fail
      refine bodyPost_ret (v := .tuple #[vagg 1 false 0 [] (.slice none 0 0) (.slice none 0 0), .bool true]) (by simp [results, Tryz.results53, go_sem, hc]; rfl) rfl ?_
      exact readsP_some HRes.out (RS _ _ _ _ _ _ _ _ hr2) (MS _ _ _ _ _ _ _ ((hm0 _).trans (hm2.mono (hz0 _))))
    | false =>
      have c2 : ∀ W, RdL d s l o W → _ := fun W h => take_no d s ⟨#[102, 97, 108, 115, 101]⟩ l o W h hp2
      cases hp3 : Lib.hasPrefix l [116, 114, 117, 101] with
      | true =>
        have HRes := Lib.hid (plain_true hp1 hp2 hp3)
        have c3 : ∀ W, RdL d s l o W → _ := fun W h => take_yes d s ⟨#[116, 114, 117, 101]⟩ l o W h hs hp3
        clear hr hE hp1 hp2 hp3
        go_enter Tryz.func53, Tryz.ntmps53
        go_wp2_with fail
        refine (c1 _ (hr0 _)).mono ?_; rintro e w1 ⟨rfl, hr1, hm1⟩
        go_wp2_with fail
        refine (c2 _ hr1).mono ?_; rintro e w2 ⟨rfl, hr2, hm2⟩
        replace hm2 := hm1.trans (hm2.mono hm1.size)
        go_wp2_with fail
        refine (c3 _ hr2).mono ?_; rintro e w3 ⟨rfl, hr3, hm3⟩
        replace hm3 := hm2.trans (hm3.mono hm2.size)
        obtain ⟨hc, hf⟩ := cells_mut hm3 (b := w.heap.size) (by simp) (by omega)
        clear c1 c2 c3
        go_wp2_with fail
        refine bodyPost_ret (v := .tuple #[vagg 1 true 0 [] (.slice none 0 0) (.slice none 0 0), .bool true]) (by simp [results, Tryz.results53, go_sem, hc]; rfl) rfl ?_
        exact readsP_some HRes.out (RS _ _ _ _ _ _ _ _ hr3) (MS _ _ _ _ _ _ _ ((hm0 _).trans (hm3.mono (hz0 _))))
      | false =>
        have c3 : ∀ W, RdL d s l o W → _ := fun W h => take_no d s ⟨#[116, 114, 117, 101]⟩ l o W h hp3
        cases hp4 : Lib.hasPrefix l [34] with
        | true =>
          obtain ⟨r, hlr⟩ : ∃ r, l = 34 :: r := ⟨_, prefix_one hp4⟩
          have hres := plain_str hlr
          have c4 : ∀ W, RdL d s l o W → Calls Tryz.prog 50 #[.pointer (some ⟨d, 0, none⟩), .string ⟨#[34]⟩] W fun e w' => e = .returned (.bool true) ∧ RdL d s r o w' ∧ Mut W.heap.size d W w' := fun W h => (take_yes d s ⟨#[34]⟩ l o W h hs hp4).mono fun e w' ⟨he, h1, h2⟩ => ⟨he, by rw [hlr] at h1; exact h1, h2⟩
          have c5 : ∀ W, RdL d s r o W → Env B W → _ := fun W h hE => quoted_any d s r o B W h hE hd hs
          cases hq : quotedA r with
          | none =>
            rw [hq] at c5 hres
            have HRes := Lib.hid hres
            clear hr hE hp1 hp2 hp3 hp4 hlr hres hq
            go_enter Tryz.func53, Tryz.ntmps53
            go_wp2_with fail
            refine (c1 _ (hr0 _)).mono ?_; rintro e w1 ⟨rfl, hr1, hm1⟩
            go_wp2_with fail
            refine (c2 _ hr1).mono ?_; rintro e w2 ⟨rfl, hr2, hm2⟩
            replace hm2 := hm1.trans (hm2.mono hm1.size)
            go_wp2_with fail
            refine (c3 _ hr2).mono ?_; rintro e w3 ⟨rfl, hr3, hm3⟩
            replace hm3 := hm2.trans (hm3.mono hm2.size)
            go_wp2_with fail
            refine (c4 _ hr3).mono ?_; rintro e w4 ⟨rfl, hr4, hm4⟩
            replace hm4 := hm3.trans (hm4.mono hm3.size)
            go_wp2_with fail
            refine (c5 _ hr4 (hmut _ ((hm0 _).trans (hm4.mono (hz0 _))))).mono ?_; rintro e w5 ⟨m, l5, rfl, hr5, hm5⟩
            replace hm5 := hm4.trans (hm5.mono hm4.size)
            obtain ⟨hc, hf⟩ := cells_mut hm5 (b := w.heap.size) (by simp) (by omega)
            clear c1 c2 c3 c4 c5
            go_wp2_with fail
            refine bodyPost_ret (v := .tuple #[vagg 3 false 0 m.data.toList (.slice none 0 0) (.slice none 0 0), .bool false]) (by simp [results, Tryz.results53, go_sem, hc]; rfl) rfl ?_
            exact readsP_none HRes.out (RS _ _ _ _ _ _ _ _ hr5) (MS _ _ _ _ _ _ _ ((hm0 _).trans (hm5.mono (hz0 _))))
          | some p =>
            obtain ⟨t, r'⟩ := p
            rw [hq] at c5 hres
            have HRes := Lib.hid hres
            clear hr hE hp1 hp2 hp3 hp4 hlr hres hq
            go_enter Tryz.func53, Tryz.ntmps53
            go_wp2_with fail
            refine (c1 _ (hr0 _)).mono ?_; rintro e w1 ⟨rfl, hr1, hm1⟩
            go_wp2_with fail
            refine (c2 _ hr1).mono ?_; rintro e w2 ⟨rfl, hr2, hm2⟩
            replace hm2 := hm1.trans (hm2.mono hm1.size)
            go_wp2_with fail
            refine (c3 _ hr2).mono ?_; rintro e w3 ⟨rfl, hr3, hm3⟩
            replace hm3 := hm2.trans (hm3.mono hm2.size)
            go_wp2_with fail
            refine (c4 _ hr3).mono ?_; rintro e w4 ⟨rfl, hr4, hm4⟩
            replace hm4 := hm3.trans (hm4.mono hm3.size)
            go_wp2_with fail
            refine (c5 _ hr4 (hmut _ ((hm0 _).trans (hm4.mono (hz0 _))))).mono ?_; rintro e w5 ⟨rfl, hr5, hm5⟩
            replace hm5 := hm4.trans (hm5.mono hm4.size)
            obtain ⟨hc, hf⟩ := cells_mut hm5 (b := w.heap.size) (by simp) (by omega)
            clear c1 c2 c3 c4 c5
            go_wp2_with fail
            refine bodyPost_ret (v := .tuple #[vagg 3 false 0 t (.slice none 0 0) (.slice none 0 0), .bool true]) (by simp [results, Tryz.results53, go_sem, hc]; rfl) rfl ?_
            exact readsP_some HRes.out (RS _ _ _ _ _ _ _ _ hr5) (MS _ _ _ _ _ _ _ ((hm0 _).trans (hm5.mono (hz0 _))))
        | false =>
          have hres := plain_num hp1 hp2 hp3 hp4
          have c4 : ∀ W, RdL d s l o W → _ := fun W h => take_no d s ⟨#[34]⟩ l o W h hp4
          have c5 : ∀ W, RdL d s l o W → Env B W → _ := fun W h hE => number_any d s l o B W h hE hd hs
          cases hq : number l with
          | none =>
            rw [hq] at c5 hres
            have HRes := Lib.hid hres
            clear hr hE hp1 hp2 hp3 hp4 hres hq
            go_enter Tryz.func53, Tryz.ntmps53
            go_wp2_with fail
            refine (c1 _ (hr0 _)).mono ?_; rintro e w1 ⟨rfl, hr1, hm1⟩
            go_wp2_with fail
            refine (c2 _ hr1).mono ?_; rintro e w2 ⟨rfl, hr2, hm2⟩
            replace hm2 := hm1.trans (hm2.mono hm1.size)
            go_wp2_with fail
            refine (c3 _ hr2).mono ?_; rintro e w3 ⟨rfl, hr3, hm3⟩
            replace hm3 := hm2.trans (hm3.mono hm2.size)
            go_wp2_with fail
            refine (c4 _ hr3).mono ?_; rintro e w4 ⟨rfl, hr4, hm4⟩
            replace hm4 := hm3.trans (hm4.mono hm3.size)
            go_wp2_with fail
            refine (c5 _ hr4 (hmut _ ((hm0 _).trans (hm4.mono (hz0 _))))).mono ?_; rintro e w5 ⟨m, l5, rfl, hr5, hm5⟩
            replace hm5 := hm4.trans (hm5.mono hm4.size)
            obtain ⟨hc, hf⟩ := cells_mut hm5 (b := w.heap.size) (by simp) (by omega)
            clear c1 c2 c3 c4 c5
            go_wp2_with fail
            refine bodyPost_ret (v := .tuple #[vagg 2 false m [] (.slice none 0 0) (.slice none 0 0), .bool false]) (by simp [results, Tryz.results53, go_sem, hc]; rfl) rfl ?_
            exact readsP_none HRes.out (RS _ _ _ _ _ _ _ _ hr5) (MS _ _ _ _ _ _ _ ((hm0 _).trans (hm5.mono (hz0 _))))
          | some p =>
            obtain ⟨n, r'⟩ := p
            rw [hq] at c5 hres
            have HRes := Lib.hid hres
            clear hr hE hp1 hp2 hp3 hp4 hres hq
            go_enter Tryz.func53, Tryz.ntmps53
            go_wp2_with fail
            refine (c1 _ (hr0 _)).mono ?_; rintro e w1 ⟨rfl, hr1, hm1⟩
            go_wp2_with fail
            refine (c2 _ hr1).mono ?_; rintro e w2 ⟨rfl, hr2, hm2⟩
            replace hm2 := hm1.trans (hm2.mono hm1.size)
            go_wp2_with fail
            refine (c3 _ hr2).mono ?_; rintro e w3 ⟨rfl, hr3, hm3⟩
            replace hm3 := hm2.trans (hm3.mono hm2.size)
            go_wp2_with fail
            refine (c4 _ hr3).mono ?_; rintro e w4 ⟨rfl, hr4, hm4⟩
            replace hm4 := hm3.trans (hm4.mono hm3.size)
            go_wp2_with fail
            refine (c5 _ hr4 (hmut _ ((hm0 _).trans (hm4.mono (hz0 _))))).mono ?_; rintro e w5 ⟨rfl, hr5, hm5⟩
            replace hm5 := hm4.trans (hm5.mono hm4.size)
            obtain ⟨hc, hf⟩ := cells_mut hm5 (b := w.heap.size) (by simp) (by omega)
            clear c1 c2 c3 c4 c5
            go_wp2_with fail
            refine bodyPost_ret (v := .tuple #[vagg 2 false n [] (.slice none 0 0) (.slice none 0 0), .bool true]) (by simp [results, Tryz.results53, go_sem, hc]; rfl) rfl ?_
            exact readsP_some HRes.out (RS _ _ _ _ _ _ _ _ hr5) (MS _ _ _ _ _ _ _ ((hm0 _).trans (hm5.mono (hz0 _))))
end Go.Proofs.YtfjdeacpdcnjpaaGreatDoor.V
