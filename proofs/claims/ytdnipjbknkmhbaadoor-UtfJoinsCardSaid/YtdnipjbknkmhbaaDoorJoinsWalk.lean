/- The walk of the statement 'joined' of layer 1: it answers true at every two texts and every unit. -/
import Derived.Test.YtdnipjbknkmhbaaDoorBackBase
namespace Go.Proofs.YtdnipjbknkmhbaaDoor.U
open Go.RowKit
open Go.Lib hiding intOf

theorem i64_and255 (n : Int) : bits .and .i64 n 255 = n % 256 := by
  have h255 : (BitVec.ofInt 64 255).toNat = 2 ^ 8 - 1 := by decide
  have key : (BitVec.ofInt 64 n &&& BitVec.ofInt 64 255).toNat = (n % ((2 ^ 64 : Nat) : Int)).toNat % 2 ^ 8 := by
    rw [BitVec.toNat_and, BitVec.toNat_ofInt, h255, Nat.and_two_pow_sub_one_eq_mod]
  show IntKind.i64.wrap ((BitVec.ofInt 64 n &&& BitVec.ofInt 64 255).toNat : Nat) = n % 256
  rw [key, IntKind.wrap_i64]
  omega

theorem units_two (a b : ByteArray) (w : World) (n : Int) (hs : a.size + b.size ≤ 1099511627776) (hT : Tabs w) (hn : unitsL [a, b] 0 = (n, 0)) :
    Calls Tryd.prog 17 #[.slice (some ⟨w.heap.size, 0, none⟩) 2 2] (w.alloc (.cells #[.string a, .string b] 9)) fun e w' => e = .returned (.tuple #[.int .i64 n, .int .i64 0]) ∧ Below w.heap.size w w' := by
  have hb : Below w.heap.size w (w.alloc (.cells #[.string a, .string b] 9)) := (Below.refl _ _).alloc (Nat.le_refl _) _
  refine (units_any w.heap.size 0 2 [a, b] _ (by rw [World.size_alloc]; omega) ?_ (by simp) (by simp only [bytes]; omega) (tabs_later hT hb)).mono ?_
  · intro i hi
    match i, hi with
    | 0, _ => rw [World.cell?_alloc_at _ _ _ _ rfl]; rfl
    | 1, _ => rw [World.cell?_alloc_at _ _ _ _ rfl]; rfl
  · rintro e w' ⟨he, hb2⟩
    rw [hn] at he
    exact ⟨he, hb.trans (hb2.mono hb.size)⟩

theorem joins_facts (a b : ByteArray) (u : Nat) (ha : okB a = true) (hb : okB b = true) :
    unitsL [a] 0 = (((sumU (items a) : Nat) : Int), 0) ∧ unitsL [a ++ b] 0 = (((sumU (items a) + sumU (items b) : Nat) : Int), 0) ∧ unitsL [a, b] 0 = (((sumU (items a) + sumU (items b) : Nat) : Int), 0) ∧
    ((∃ x : Int, 0 ≤ x ∧ x ≤ b.size ∧ offB b u = (x, 0) ∧ offB (a ++ b) ((sumU (items a) : Nat) + (u : Int)) = (x + a.size, 0)) ∨ (offB b u = (0, 12) ∧ offB (a ++ b) ((sumU (items a) : Nat) + (u : Int)) = (0, 12))) := by
  have hab := okB_append a b ha hb
  have hit := items_append a b ha
  refine ⟨?_, ?_, ?_, ?_⟩
  · simp only [unitsL]; rw [if_pos ha]; simp
  · simp only [unitsL]; rw [if_pos hab, hit, sumU_append]; simp
  · simp only [unitsL]; rw [if_pos ha, if_pos hb]; simp
  · unfold offB
    rw [if_pos hb, if_pos hab, hit]
    have h1 := off_append (items a) (items b) 0 0 u
    have e1 : ((0 + sumU (items a) + u : Nat) : Int) = ((sumU (items a) : Nat) : Int) + (u : Int) := by omega
    rw [e1] at h1
    rw [h1, sumW_items a]
    have h2 := off_moved (items b) 0 0 a.size (sumU (items a)) u
    have e2 : (u : Int) + ((sumU (items a) : Nat) : Int) = ((sumU (items a) : Nat) : Int) + (u : Int) := by omega
    rw [e2] at h2
    rcases h2 with ⟨x, k1, k2⟩ | h2
    · have k3 := off_there (items b) 0 0 u x (itemsF_wide b _ _) k1
      rw [sumW_items] at k3
      exact .inl ⟨x, by omega, by omega, k1, k2⟩
    · exact .inr h2

set_option maxRecDepth 100000 in
theorem joins_long1 (a b : ByteArray) (unit : Int) (w : World) (h : 200 < a.size) (hT : Tabs w) :
    Calls Tryd.prog 6 #[.string a, .string b, .int .i64 unit] w (True' w) := by
  have cA := alive_any w hT
  have hz : (200 : Int) < (a.size : Int) := by omega
  clear hT
  go_enter Tryd.func6, Tryd.ntmps6
  go_wp2_with (go_at_call 7; refine cA.mono ?_; rintro e w1 ⟨rfl, hb⟩)
  go_ret
  exact ⟨rfl, hb⟩
set_option maxRecDepth 100000 in
theorem joins_long2 (a b : ByteArray) (unit : Int) (w : World) (ha : a.size ≤ 200) (h : 200 < b.size) (hT : Tabs w) :
    Calls Tryd.prog 6 #[.string a, .string b, .int .i64 unit] w (True' w) := by
  have cA := alive_any w hT
  have hz : (200 : Int) < (b.size : Int) := by omega
  have hz1 : ¬ (200 : Int) < (a.size : Int) := by omega
  clear hT
  go_enter Tryd.func6, Tryd.ntmps6
  go_wp2_with (go_at_call 7; refine cA.mono ?_; rintro e w1 ⟨rfl, hb⟩)
  go_ret
  exact ⟨rfl, hb⟩
set_option maxRecDepth 100000 in
theorem joins_wrong1 (a b : ByteArray) (unit : Int) (w : World) (ha : a.size ≤ 200) (hb : b.size ≤ 200) (hok : okB a = false) (hT : Tabs w) :
    Calls Tryd.prog 6 #[.string a, .string b, .int .i64 unit] w (True' w) := by
  have cR := right_any a w (by omega) hT
  rw [hok] at cR
  have cA : ∀ W, Below w.heap.size w W → _ := fun W hb => chain hb (alive_any W (tabs_later hT hb))
  have hz : ¬ (200 : Int) < (b.size : Int) := by omega
  have hz1 : ¬ (200 : Int) < (a.size : Int) := by omega
  clear hT
  go_enter Tryd.func6, Tryd.ntmps6
  go_wp2_with fail
  refine cR.mono ?_
  rintro e w1 ⟨rfl, hb1⟩
  go_wp2_with fail
  refine (cA w1 hb1).mono ?_
  rintro e w2 ⟨rfl, hb2⟩
  go_wp2
  go_ret
  exact ⟨rfl, hb2⟩
set_option maxRecDepth 100000 in
theorem joins_wrong2 (a b : ByteArray) (unit : Int) (w : World) (ha : a.size ≤ 200) (hb : b.size ≤ 200) (hoka : okB a = true) (hok : okB b = false) (hT : Tabs w) :
    Calls Tryd.prog 6 #[.string a, .string b, .int .i64 unit] w (True' w) := by
  have cR := right_any a w (by omega) hT
  rw [hoka] at cR
  have cS : ∀ W, Below w.heap.size w W → _ := fun W hb => chain hb (right_any b W (by omega) (tabs_later hT hb))
  rw [hok] at cS
  have cA : ∀ W, Below w.heap.size w W → _ := fun W hb => chain hb (alive_any W (tabs_later hT hb))
  have hz : ¬ (200 : Int) < (b.size : Int) := by omega
  have hz1 : ¬ (200 : Int) < (a.size : Int) := by omega
  clear hT
  go_enter Tryd.func6, Tryd.ntmps6
  go_wp2_with fail
  refine cR.mono ?_
  rintro e w1 ⟨rfl, hb1⟩
  go_wp2_with fail
  refine (cS w1 hb1).mono ?_
  rintro e w2 ⟨rfl, hb2⟩
  go_wp2_with fail
  refine (cA w2 hb2).mono ?_
  rintro e w3 ⟨rfl, hb3⟩
  go_wp2
  go_ret
  exact ⟨rfl, hb3⟩

set_option maxRecDepth 100000 in
set_option maxHeartbeats 2000000 in
theorem joins_right (a b : ByteArray) (unit : Int) (w : World) (ha : a.size ≤ 200) (hb : b.size ≤ 200) (hoka : okB a = true) (hokb : okB b = true) (hT : Tabs w) :
    Calls Tryd.prog 6 #[.string a, .string b, .int .i64 unit] w (True' w) := by
  obtain ⟨u, hu, hu2⟩ : ∃ u : Nat, bits .and .i64 unit 255 = (u : Int) ∧ u ≤ 255 := ⟨(unit % 256).toNat, by rw [i64_and255]; omega, by omega⟩
  obtain ⟨f1, f2, f3, f4⟩ := joins_facts a b u hoka hokb
  have hA := sumU_items a
  have hB := sumU_items b
  obtain ⟨A, hAe⟩ : ∃ A, sumU (items a) = A := ⟨_, rfl⟩
  obtain ⟨B, hBe⟩ : ∃ B, sumU (items b) = B := ⟨_, rfl⟩
  rw [hAe] at f1 f2 f3 f4 hA
  rw [hBe] at f2 f3 hB
  clear hAe hBe
  have hsz : (a ++ b).size = a.size + b.size := size_append a b
  have cR := right_any a w (by omega) hT
  rw [hoka] at cR
  have cS : ∀ W, Below w.heap.size w W → _ := fun W hb => chain hb (right_any b W (by omega) (tabs_later hT hb))
  rw [hokb] at cS
  have cU1 : ∀ W, Below w.heap.size w W → _ := fun W hb => chainN hb (units_one a W A (by omega) (tabs_later hT hb) f1)
  have cU2 : ∀ W, Below w.heap.size w W → _ := fun W hb => chainN hb (units_one (a ++ b) W ((A + B : Nat) : Int) (by omega) (tabs_later hT hb) f2)
  have cU3 : ∀ W, Below w.heap.size w W → _ := fun W hb => chainN hb (units_two a b W ((A + B : Nat) : Int) (by omega) (tabs_later hT hb) f3)
  have cA : ∀ W, Below w.heap.size w W → _ := fun W hb => chain hb (alive_any W (tabs_later hT hb))
  have hz : ¬ (200 : Int) < (b.size : Int) := by omega
  have hz1 : ¬ (200 : Int) < (a.size : Int) := by omega
  clear hoka hokb
  rcases f4 with ⟨x, hx0, hx1, g1, g2⟩ | ⟨g1, g2⟩
  · have cO1 : ∀ W, Below w.heap.size w W → _ := fun W hb => chain hb (offset_is b u x 0 W (by omega) (tabs_later hT hb) g1)
    have cO2 : ∀ W, Below w.heap.size w W → _ := fun W hb => chain hb (offset_is (a ++ b) ((A : Int) + (u : Int)) (x + a.size) 0 W (by omega) (tabs_later hT hb) g2)
    clear hT f1 f2 f3 g1 g2 hsz
    go_enter Tryd.func6, Tryd.ntmps6
    go_wp2_with fail
    refine cR.mono ?_
    rintro e w1 ⟨rfl, hb1⟩
    go_wp2_with fail
    refine (cS w1 hb1).mono ?_
    rintro e w2 ⟨rfl, hb2⟩
    go_wp2_with fail
    refine (cU1 w2 hb2).mono ?_
    rintro e w3 ⟨rfl, hb3⟩
    go_wp2_with fail
    refine (cU2 w3 hb3).mono ?_
    rintro e w4 ⟨rfl, hb4⟩
    go_wp2_with fail
    refine (cU3 w4 hb4).mono ?_
    rintro e w5 ⟨rfl, hb5⟩
    go_wp2_with fail
    refine (cO1 w5 hb5).mono ?_
    rintro e w6 ⟨rfl, hb6⟩
    go_wp2_with fail
    refine (cO2 w6 hb6).mono ?_
    rintro e w7 ⟨rfl, hb7⟩
    go_wp2_with fail
    refine (cA w7 hb7).mono ?_
    rintro e w8 ⟨rfl, hb8⟩
    go_wp2
    go_ret
    exact ⟨rfl, hb8⟩
  · have cO1 : ∀ W, Below w.heap.size w W → _ := fun W hb => chain hb (offset_is b u 0 12 W (by omega) (tabs_later hT hb) g1)
    have cO2 : ∀ W, Below w.heap.size w W → _ := fun W hb => chain hb (offset_is (a ++ b) ((A : Int) + (u : Int)) 0 12 W (by omega) (tabs_later hT hb) g2)
    clear hT f1 f2 f3 g1 g2 hsz
    go_enter Tryd.func6, Tryd.ntmps6
    go_wp2_with fail
    refine cR.mono ?_
    rintro e w1 ⟨rfl, hb1⟩
    go_wp2_with fail
    refine (cS w1 hb1).mono ?_
    rintro e w2 ⟨rfl, hb2⟩
    go_wp2_with fail
    refine (cU1 w2 hb2).mono ?_
    rintro e w3 ⟨rfl, hb3⟩
    go_wp2_with fail
    refine (cU2 w3 hb3).mono ?_
    rintro e w4 ⟨rfl, hb4⟩
    go_wp2_with fail
    refine (cU3 w4 hb4).mono ?_
    rintro e w5 ⟨rfl, hb5⟩
    go_wp2_with fail
    refine (cO1 w5 hb5).mono ?_
    rintro e w6 ⟨rfl, hb6⟩
    go_wp2_with fail
    refine (cO2 w6 hb6).mono ?_
    rintro e w7 ⟨rfl, hb7⟩
    go_wp2_with fail
    refine (cA w7 hb7).mono ?_
    rintro e w8 ⟨rfl, hb8⟩
    go_wp2
    go_ret
    exact ⟨rfl, hb8⟩
theorem joins_walk (a b : ByteArray) (unit : Int) (w : World) (hT : Tabs w) :
    Calls Tryd.prog 6 #[.string a, .string b, .int .i64 unit] w (True' w) := by
  by_cases h1 : 200 < a.size
  · exact joins_long1 a b unit w h1 hT
  · by_cases h2 : 200 < b.size
    · exact joins_long2 a b unit w (by omega) h2 hT
    · cases hoka : okB a
      · exact joins_wrong1 a b unit w (by omega) (by omega) hoka hT
      · cases hokb : okB b
        · exact joins_wrong2 a b unit w (by omega) (by omega) hoka hokb hT
        · exact joins_right a b unit w (by omega) (by omega) hoka hokb hT
end Go.Proofs.YtdnipjbknkmhbaaDoor.U
