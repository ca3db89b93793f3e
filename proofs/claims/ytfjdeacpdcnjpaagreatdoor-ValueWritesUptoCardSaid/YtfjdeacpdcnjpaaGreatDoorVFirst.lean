/- The contract of the call that counts a key: the map counts each key once. -/
import Derived.Test.YtfjdeacpdcnjpaaGreatDoorVRead7
import Derived.Maps.OwnOps
import Derived.Maps.Views
namespace Go.Proofs.YtfjdeacpdcnjpaaGreatDoor.V
open Go.RowKit Go.WideMaps Go.Maps
open Go.Lib

theorem lawS : Keyed Tryz.prog 9 := string_keyed Tryz.underlying9
theorem zeroI (w : World) : (zeroValue 3).run Tryz.prog w = .ok (.int .i64 0) w := by kernel_rfl

/-- The map in block m has seen just these keys. -/
def Seen (m : Nat) (ks : List (List UInt8)) (w : World) : Prop :=
  ∃ D : DataW Unit, w.ownsMap Tryz.prog 9 (plainElem Tryz.prog 3) m ks.length D ∧ IsMap D ∧
    ∀ k, D.atKey (.string k) (.lit (.int .i64 0)) = .lit (.int .i64 (if k ∈ ks then 1 else 0))
theorem Seen.made (w : World) : Seen w.heap.size [] (w.alloc (.map #[] 0)) := ⟨.map [], World.ownsMap_made _ _ _ _, ⟨_, rfl⟩, fun k => by simp; rfl⟩
theorem Seen.same {m : Nat} {ks : List (List UInt8)} {w w' : World} (h : Seen m ks w) (hs : w'.heap[m]? = w.heap[m]?) : Seen m ks w' := by
  obtain ⟨D, ⟨es, clock, hb, rest⟩, h2⟩ := h
  exact ⟨D, ⟨es, clock, hs.trans hb, rest⟩, h2⟩
theorem Seen.lt {m : Nat} {ks : List (List UInt8)} {w : World} (h : Seen m ks w) : m < w.heap.size := by obtain ⟨D, h, _⟩ := h; exact h.lt

/-- What a call leaves that turns block m alone. -/
def Turns (m : Nat) (w w' : World) : Prop := w.grownBy w' (some m)

set_option maxHeartbeats 1000000 in
theorem first_new (m : Nat) (ks : List (List UInt8)) (k : List UInt8) (w : World) (h : Seen m ks w) (hk : k.length ≤ 1099511627776) (hks : ks.length ≤ 1099511627776) (hnew : ¬ k ∈ ks) :
    Calls Tryz.prog 58 #[.map (some m), .string ⟨k.toArray⟩] w fun e w' => e = .returned (.bool true) ∧ Seen m (ks ++ [k]) w' ∧ Turns m w w' := by
  obtain ⟨D, hown, hD, hat⟩ := h
  have hkey : keyOf Tryz.prog 9 (.string ⟨k.toArray⟩) = some (.string k) := by
    have := keyOf_string_mk (s := ⟨k.toArray⟩) Tryz.underlying9 (by unfold maxLen; rw [size_mk]; omega)
    simpa using this
  obtain ⟨c, hrun, hc, _⟩ := hown.lookup_int lawS Tryz.underlying88 Tryz.underlying3 (zeroI _) hkey
  have hc0 : c = 0 := by
    rw [hat k, if_neg hnew] at hc
    simpa using hc.symm
  subst hc0
  have HAT := Lib.hid hat
  clear hat hc
  go_enter Tryz.func58, Tryz.ntmps58
  go_wp2_with (at_mapUpdate; refine wpList_mapUpdate_own _ rfl _ _ _ 88 rfl 9 3 lawS Tryz.underlying88 _ m ks.length _ rfl hown (by unfold maxLen; omega) _ _ _ rfl rfl hkey _ [] (plainElem_int Tryz.underlying3 (by decide)) ?_)
  intro w1 hown1 hgrow1
  have hD1 : IsMap (D.put (Lit.string k) (DataW.lit (Lit.int IntKind.i64 1))) := hD.put _ _
  have hat1 : ∀ k', (D.put (Lit.string k) (DataW.lit (Lit.int IntKind.i64 1))).atKey (.string k') (.lit (.int .i64 0)) = .lit (.int .i64 (if k' ∈ ks ++ [k] then 1 else 0)) := fun k' => by
    by_cases h : k' = k
    · subst h; rw [atKey_put_same hD (lawS.key hkey)]; simp
    · rw [atKey_put_other (by simpa using h), HAT.out k']; simp [h]
  obtain ⟨c2, hrun2, hc2, _⟩ := hown1.lookup_int lawS Tryz.underlying88 Tryz.underlying3 (zeroI _) hkey
  have hc21 : c2 = 1 := by
    rw [hat1 k] at hc2
    simpa using hc2.symm
  subst hc21
  have HAT1 := Lib.hid hat1
  clear hat1 hc2 hrun HAT
  go_wp2_with fail
  go_ret
  exact ⟨rfl, ⟨_, by rw [List.length_append]; exact hown1, hD1, HAT1.out⟩, hgrow1⟩

set_option maxHeartbeats 1000000 in
theorem first_old (m : Nat) (ks : List (List UInt8)) (k : List UInt8) (w : World) (h : Seen m ks w) (hk : k.length ≤ 1099511627776) (hks : ks.length ≤ 1099511627776) (hold : k ∈ ks) :
    Calls Tryz.prog 58 #[.map (some m), .string ⟨k.toArray⟩] w fun e w' => e = .returned (.bool false) ∧ Turns m w w' := by
  obtain ⟨D, hown, hD, hat⟩ := h
  have hkey : keyOf Tryz.prog 9 (.string ⟨k.toArray⟩) = some (.string k) := by
    have := keyOf_string_mk (s := ⟨k.toArray⟩) Tryz.underlying9 (by unfold maxLen; rw [size_mk]; omega)
    simpa using this
  obtain ⟨c, hrun, hc, _⟩ := hown.lookup_int lawS Tryz.underlying88 Tryz.underlying3 (zeroI _) hkey
  have hc0 : c = 1 := by
    rw [hat k, if_pos hold] at hc
    simpa using hc.symm
  subst hc0
  clear hat hc
  go_enter Tryz.func58, Tryz.ntmps58
  go_wp2_with (at_mapUpdate; refine wpList_mapUpdate_own _ rfl _ _ _ 88 rfl 9 3 lawS Tryz.underlying88 _ m ks.length _ rfl hown (by unfold maxLen; omega) _ _ _ rfl rfl hkey _ [] (plainElem_int Tryz.underlying3 (by decide)) ?_)
  intro w1 hown1 hgrow1
  obtain ⟨c2, hrun2, hc2, _⟩ := hown1.lookup_int lawS Tryz.underlying88 Tryz.underlying3 (zeroI _) hkey
  have hc21 : c2 = 2 := by
    rw [atKey_put_same hD (lawS.key hkey)] at hc2
    simpa using hc2.symm
  subst hc21
  clear hc2 hrun
  go_wp2_with fail
  go_ret
  exact ⟨rfl, hgrow1⟩
end Go.Proofs.YtfjdeacpdcnjpaaGreatDoor.V
