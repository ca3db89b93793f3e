/- The contracts of slices.Clone at keys and at values. -/
import Derived.Test.YtfjdeacpdcnjpaaDoorVSameTop
import Derived.Test.YtfjdeacpdcnjpaaDoorVRead8
namespace Go.Proofs.YtfjdeacpdcnjpaaDoor.V
open Go.RowKit
open Go.Lib

theorem ListIn.one {W : World} {R : Nat → Prop} : ∀ {l : List Val} {xs : List Value}, ListIn W R l xs → ∀ u ∈ xs, u.oneCell' = true
  | [], xs, h, u, hu => by
    have h : xs = [] := h
    subst h; cases hu
  | .mk so on n t l' ks :: r, xs, h, u, hu => by
    obtain ⟨lv, kv, rest, rfl, hv, hr⟩ := h
    obtain ⟨⟨a1, c1, rfl, _⟩, ⟨a2, c2, rfl, _⟩⟩ := hv
    rcases List.mem_append.1 hu with h1 | h1
    · simp only [six', six, strCell, List.mem_cons, List.not_mem_nil, or_false] at h1
      rcases h1 with rfl | rfl | rfl | rfl | rfl | rfl <;> rfl
    · exact ListIn.one hr u h1

set_option maxHeartbeats 2000000 in
theorem clone_values (l : List Val) (a1 : Option Addr) (c1 : Nat) (R : Nat → Prop) (w : World) (hl : l = [] ∨ ∃ g off xs, a1 = some ⟨g, off, none⟩ ∧ R g ∧ CellsAt w g off xs ∧ ListIn w R l xs) (hlb : l.length ≤ 1099511627776) :
    Calls Tryd.prog 43 #[.slice a1 l.length c1] w fun e w' => ∃ v' xs, e = .returned v' ∧ ListIn w R l xs ∧ w'.ownsRow w.heap.size 34 6 v' l.length xs ∧ Below w.heap.size w w' := by
  have q32 : ∀ (w : World) (a : Option Addr) (n c n' c' : Nat), (binOp .eql 32 (.slice a n c) (.slice none n' c')).run Tryd.prog w = .ok (.bool a.isNone) w := fun w a n c n' c' => Lib.run_eql_slice_nil w _ _ a n c n' c' Tryd.underlying32
  have u32 : ∀ w, Sem.run Tryd.prog (underlying 32) w = .ok (TypeDesc.slice 34) w := run_underlying Tryd.underlying32
  obtain ⟨i0, hi0, hz0, hz1, hz2⟩ := info_parts infoV
  cases a1 with
  | none =>
    have hl0 : l = [] := by
      rcases hl with h | ⟨g, off, xs, h, _⟩
      · exact h
      · cases h
    subst hl0
    clear hl
    simp only [List.length_nil]
    go_enter Tryd.func43, Tryd.ntmps43
    go_wp2_with fail
    go_ret
    exact ⟨.slice none 0 0, [], rfl, rfl, World.ownsRow_nil _ _ _ _, Below.refl _ _⟩
  | some p =>
    obtain ⟨xs, hL, hcell⟩ : ∃ xs, ListIn w R l xs ∧ ∀ j u, xs[j]? = some u → w.cell? (p.add j) = some u := by
      rcases hl with h | ⟨g, off, xs, h, _, hc, hL⟩
      · subst h; exact ⟨[], rfl, fun j u h => by simp at h⟩
      · cases h
        refine ⟨xs, hL, fun j u hj => ?_⟩
        rw [Addr.add_lit]
        exact hc j u hj
    have HCELL := Lib.hid hcell
    have HLI := Lib.hid hL
    have HONE := Lib.hid hL.one
    have HLEN := Lib.hid hL.length
    clear hl hcell hL
    generalize l.length = n at hlb HLEN ⊢
    go_enter Tryd.func43, Tryd.ntmps43
    go_wp2_with (at_builtin; refine wpList_append_own _ rfl _ _ 32 rfl w.heap.size 34 i0 _ 6 88 Tryd.underlying32 hi0 hz0 hz1 hz2 rfl (by decide) _ _ _ rfl (World.ownsRow_made w #[] 0 (Nat.le_refl _) (Nat.zero_le _) rfl) p n c1 xs rfl ?qc1 ?qc2 ?qc3 ?qc4 ?qc5 ?qc6 ?_)
    case qc1 => rw [HLEN.out]; omega
    case qc2 => exact fun j u hj => Lib.cell?_alloc_some _ (HCELL.out j u hj)
    case qc3 => exact HONE.out
    case qc4 => unfold maxLen; omega
    case qc5 => omega
    case qc6 => simp
    intro v' w1 hown hgrow hnil
    go_wp2
    go_ret
    exact ⟨v', xs, rfl, HLI.out, by simpa using hown, ((Below.refl _ w).alloc (Nat.le_refl _) _).grown hgrow (by simp) (by intro k hk; simp [Value.ownBlock] at hk; omega)⟩

/-- slices.Clone at keys: a row of the call's own. -/
theorem clone_keys (ks : List (List UInt8)) (kv : Value) (R : Nat → Prop) (w : World) (h : KeysIn w R ks kv) (hb : ks.length ≤ 1099511627776) :
    Calls Tryd.prog 42 #[kv] w fun e w' => ∃ v', e = .returned v' ∧ w'.ownsRow w.heap.size 9 1 v' ks.length (ks.map strCell) ∧ Below w.heap.size w w' := by
  obtain ⟨a, c, rfl, h1⟩ := h
  cases a with
  | none =>
    have hk0 : ks = [] := by
      rcases h1 with h | ⟨g, off, h, _⟩
      · exact h
      · cases h
    subst hk0
    exact (Tryd.slices_Clone_string_nil 0 c w).mono fun e w' ⟨h1, h2⟩ => ⟨.slice none 0 0, h1, World.ownsRow_nil _ _ _ _, by rw [h2]; exact Below.refl _ _⟩
  | some p =>
    rcases h1 with h1 | ⟨g, off, h2, _, hc⟩
    · subst h1
      exact (Tryd.slices_Clone_string_zero p c w).mono fun e w' ⟨v', h1, h2, _, h3⟩ => ⟨v', h1, h2, h3⟩
    · cases h2
      refine (Tryd.slices_Clone_string g off ks.length c (ks.map fun k => ⟨k.toArray⟩) w (by simp) (by omega) ?_).mono fun e w' ⟨v', h1, h2, _, h3⟩ => ⟨v', h1, ?_, h3⟩
      · intro j hj
        exact hc j _ (by simp at hj; simp [hj, strCell])
      · rw [List.take_of_length_le (by simp), List.map_map] at h2
        exact h2
end Go.Proofs.YtfjdeacpdcnjpaaDoor.V
