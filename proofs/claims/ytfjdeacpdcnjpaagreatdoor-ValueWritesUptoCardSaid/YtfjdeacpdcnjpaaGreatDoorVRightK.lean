/- The contract of rightKeys. -/
import Derived.Test.YtfjdeacpdcnjpaaGreatDoorVRight
namespace Go.Proofs.YtfjdeacpdcnjpaaGreatDoor.V
open Go.RowKit Go.WideMaps Go.Maps
open Go.Lib

/-- A right text. -/
def okP (t : List UInt8) : Bool := U.okB ⟨t.toArray⟩
def keysP : List (List UInt8) → List (List UInt8) → Bool
  | [], _ => true
  | k :: r, seen => okP k && !decide (k ∈ seen) && keysP r (seen ++ [k])

theorem key_at {W : World} {R : Nat → Prop} {ks : List (List UInt8)} {kv : Value} (h : KeysIn W R ks kv) (i : Nat) (hi : i < ks.length) :
    ∃ g off cap, kv = .slice (some ⟨g, off, none⟩) ks.length cap ∧ W.cell? ⟨g, off + i, none⟩ = some (.string ⟨(ks[i]).toArray⟩) := by
  obtain ⟨a, cap, rfl, h1⟩ := h
  rcases h1 with h1 | ⟨g, off, rfl, _, hc⟩
  · subst h1; exact absurd hi (Nat.not_lt_zero _)
  · exact ⟨g, off, cap, rfl, hc i _ (by simp [hi, strCell])⟩
theorem keysP_drop {ks seen : List (List UInt8)} {k : Nat} (hk : k < ks.length) : keysP (ks.drop k) seen = (okP ks[k] && !decide (ks[k] ∈ seen) && keysP (ks.drop (k + 1)) (seen ++ [ks[k]])) := by
  rw [List.drop_eq_getElem_cons hk]; simp only [keysP]
theorem sum_mem {k : List UInt8} : ∀ {ks : List (List UInt8)}, k ∈ ks → k.length ≤ (ks.map fun k => k.length + 1).sum
  | [], h => absurd h (List.not_mem_nil)
  | x :: r, h => by
    rcases List.mem_cons.1 h with h | h
    · subst h; simp; omega
    · have := sum_mem h; simp; omega

set_option maxHeartbeats 2000000 in
theorem keys_any (ks : List (List UInt8)) (kv : Value) (R : Nat → Prop) (w : World) (h : KeysIn w R ks kv) (hw : (ks.map fun k => k.length + 1).sum ≤ 1099511627776) (hE : EnvW w) :
    Calls Tryz.prog 44 #[kv] w fun e w' => e = .returned (.bool (keysP ks [])) ∧ Below w.heap.size w w' := by
  have hkl : ks.length ≤ 1099511627776 := Nat.le_trans (wt_keys ks) hw
  have HW := Lib.hid (fun k (hk : k ∈ ks) => Nat.le_trans (sum_mem hk) hw)
  have HK := Lib.hid h
  have HE := Lib.hid hE
  obtain ⟨a, cap, rfl, _⟩ := h
  obtain ⟨R1, hR1⟩ : ∃ r, keysP ks [] = r := ⟨_, rfl⟩
  rw [hR1]
  have HR := Lib.hid (show keysP (ks.drop 0) (ks.take 0) = R1 from hR1)
  obtain ⟨ln, hln⟩ : ∃ k, ks.length = k := ⟨_, rfl⟩
  have HLN := Lib.hid hln
  rw [hln] at hkl ⊢
  clear hR1 hw hE hln
  have hmm := @run_makeMap Tryz.prog
  go_enter Tryz.func44, Tryz.ntmps44
  go_wp2_with fail
  have HB0 := Lib.hid ((Below.refl w.heap.size w).alloc (Nat.le_refl _) (.map #[] 0))
  have HS0 := Lib.hid (Seen.made w)
  generalize w.alloc (.map #[] 0) = w0 at HB0 HS0 ⊢
  clear hmm
  go_loopw [9] (fun iv wr => ∃ i : Nat, iv = .int .i64 i ∧ i ≤ ln ∧ Hid (keysP (ks.drop i) (ks.take i) = R1) ∧ Hid (Below w.heap.size w wr) ∧ Hid (Seen w.heap.size (ks.take i) wr)) (fun iv _ => ln - (Go.RowKit.intOf iv).toNat)
  case atStart => exact ⟨0, rfl, by omega, HR, HB0, HS0⟩
  case round =>
    obtain ⟨i, rfl, hi, HI, HB, HS⟩ := hrel
    by_cases hlt : i < ln
    · have hll : i < ks.length := by rw [HLN.out]; exact hlt
      have hsm : Same R w wr := fun b _ hb => HB.out.block b hb
      obtain ⟨g, off, cap', he, k0⟩ := key_at (HK.out.later hsm (fun _ h => h)) i hll
      obtain ⟨rfl, rfl⟩ : a = some ⟨g, off, none⟩ ∧ cap' = cap := by cases he; exact ⟨rfl, rfl⟩
      have hdr := keysP_drop (seen := ks.take i) hll
      rw [HI.out] at hdr
      have hsz : (ks[i]).length ≤ 1099511627776 := HW.out _ (List.getElem_mem hll)
      have htk : ks.take i ++ [ks[i]] = ks.take (i + 1) := by rw [List.take_add_one]; simp [hll]
      rw [htk] at hdr
      have hnew := fun W hS => first_new w.heap.size (ks.take i) ks[i] W hS hsz (by rw [List.length_take]; omega)
      have hold := fun W hS => first_old w.heap.size (ks.take i) ks[i] W hS hsz (by rw [List.length_take]; omega)
      rw [htk] at hnew
      generalize ks[i] = key at k0 hdr hnew hold hsz htk
      have cR := right_any ⟨key.toArray⟩ wr (by rw [size_mk]; exact hsz) (HE.out.later (HB.out.mono (Nat.le_refl _)))
      obtain ⟨b1, hb1⟩ : ∃ b, U.okB ⟨key.toArray⟩ = b := ⟨_, rfl⟩
      rw [hb1] at cR
      simp only [okP, hb1] at hdr
      have HDR := Lib.hid hdr
      have HNEW := Lib.hid hnew
      have HOLD := Lib.hid hold
      clear hdr he hb1 hsm hnew hold htk
      go_wp2_with fail
      refine cR.mono ?_
      rintro e w1 ⟨rfl, hb1⟩
      have HS1 := Lib.hid (HS.out.same (hb1.block _ HS.out.lt))
      have HB1 := Lib.hid (HB.out.trans (hb1.mono HB.out.size))
      clear cR hb1
      cases b1 with
      | false =>
        go_wp2_with fail
        go_ret
        exact ⟨by rw [HDR.out]; rfl, HB1.out⟩
      | true =>
        by_cases hin : key ∈ ks.take i
        · have cF := HOLD.out w1 HS1.out hin
          go_wp2_with fail
          refine cF.mono ?_
          rintro e w2 ⟨rfl, hg⟩
          have HB2 := Lib.hid (HB1.out.grown hg HB1.out.size (by rintro k ⟨⟩; exact Nat.le_refl _))
          clear cF hg
          go_wp2_with fail
          go_ret
          exact ⟨by rw [HDR.out]; simp [hin], HB2.out⟩
        · have cF := HNEW.out w1 HS1.out hin
          go_wp2_with fail
          refine cF.mono ?_
          rintro e w2 ⟨rfl, hS2, hg⟩
          have HB2 := Lib.hid (HB1.out.grown hg HB1.out.size (by rintro k ⟨⟩; exact Nat.le_refl _))
          have HS2 := Lib.hid hS2
          clear cF hg hS2
          go_wp2_with fail
          go_roundw
          case rel => exact ⟨i + 1, by go_num, by omega, Lib.hid (by rw [HDR.out]; simp [hin]), HB2, HS2⟩
          case measure => simp [Go.RowKit.intOf]; omega
    · go_wp2_with fail
      go_ret
      refine ⟨?_, HB.out⟩
      obtain rfl : i = ln := by omega
      have h := HI.out
      rw [← HLN.out, List.drop_length] at h
      rw [← h]; rfl
end Go.Proofs.YtfjdeacpdcnjpaaGreatDoor.V
