/- How deep a value is nested: the plain function, what parts lie where, and the contract. -/
import Derived.Test.YtfjdeacpdcnjpaaGreatDoorVRead9
namespace Go.Proofs.YtfjdeacpdcnjpaaGreatDoor.V
open Go.RowKit
open Go.Lib

/-- What holds of each value if it holds whenever it holds of its parts. -/
theorem Val.ind {C : Val → Prop} (h : ∀ so on n t l ks, (∀ v ∈ l, C v) → C (.mk so on n t l ks)) : ∀ v, C v
  | .mk so on n t l ks => h so on n t l ks (go l)
where
  go : ∀ (l : List Val), ∀ v ∈ l, C v
    | [], v, hv => absurd hv (List.not_mem_nil)
    | x :: r, v, hv => by
      rcases List.mem_cons.1 hv with h1 | h1
      · rw [h1]; exact Val.ind h x
      · exact go r v h1

mutual
def nestP : Val → Nat → Bool
  | .mk so _ _ _ l _, m => if m = 0 then !(so == 4 || so == 5 || !l.isEmpty) else nestL l (m - 1)
def nestL : List Val → Nat → Bool
  | [], _ => true
  | v :: r, m => nestP v m && nestL r m
end

/-- A value as it is handed to a call. -/
def arg (v : Val) (lv kv : Value) : Value := .agg (six' v lv kv).toArray

/-- The part at a place: its cells. -/
theorem part_at {W : World} {R : Nat → Prop} : ∀ {l : List Val} {xs : List Value} {g off : Nat} (k : Nat), ListIn W R l xs → CellsAt W g off xs → (hk : k < l.length) →
    ∃ so on n t l' ks a1 c1 a2 c2, l[k] = .mk so on n t l' ks ∧ ValIn W R (.mk so on n t l' ks) (.slice a1 l'.length c1) (.slice a2 ks.length c2) ∧
      W.cell? ⟨g, off + k * 6, none⟩ = some (.int .i64 so) ∧ W.cell? ⟨g, off + k * 6 + 1, none⟩ = some (.bool on) ∧ W.cell? ⟨g, off + k * 6 + 2, none⟩ = some (.int .i64 n) ∧ W.cell? ⟨g, off + k * 6 + 3, none⟩ = some (.string ⟨t.toArray⟩) ∧
      W.cell? ⟨g, off + k * 6 + 4, none⟩ = some (.slice a1 l'.length c1) ∧ W.cell? ⟨g, off + k * 6 + 5, none⟩ = some (.slice a2 ks.length c2)
  | [], _, _, _, k, _, _, hk => absurd hk (Nat.not_lt_zero _)
  | .mk so on n t l' ks :: r, xs, g, off, 0, h, hc, _ => by
    obtain ⟨lv, kv, rest, rfl, hv, _⟩ := h
    have hv' := hv
    obtain ⟨⟨a1, c1, rfl, _⟩, ⟨a2, c2, rfl, _⟩⟩ := hv'
    refine ⟨so, on, n, t, l', ks, a1, c1, a2, c2, rfl, hv, ?_, ?_, ?_, ?_, ?_, ?_⟩
    · exact hc 0 _ rfl
    · exact hc 1 _ rfl
    · exact hc 2 _ rfl
    · exact hc 3 _ rfl
    · exact hc 4 _ rfl
    · exact hc 5 _ rfl
  | v :: r, xs, g, off, k + 1, h, hc, hk => by
    obtain ⟨lv, kv, rest, rfl, _, hr⟩ := h
    have hc' : CellsAt W g (off + 6) rest := fun j u hj => by
      have := hc (6 + j) u (by rw [List.getElem?_append_right (by rw [six_length]; omega), six_length]; simpa using hj)
      rwa [show off + 6 + j = off + (6 + j) by omega]
    have := part_at k hr hc' (by simpa using hk)
    simpa [show off + 6 + k * 6 = off + (k + 1) * 6 by omega] using this

theorem nestL_drop {l : List Val} {m k : Nat} (hk : k < l.length) : nestL (l.drop k) m = (nestP l[k] m && nestL (l.drop (k + 1)) m) := by
  rw [List.drop_eq_getElem_cons hk]; simp only [nestL]

mutual
/-- How much a value weighs. -/
def wt : Val → Nat
  | .mk _ _ _ t l ks => 1 + t.length + (ks.map fun k => k.length + 1).sum + wtL l
def wtL : List Val → Nat
  | [] => 0
  | v :: r => wt v + wtL r
end
theorem wtL_mem {v : Val} : ∀ {l : List Val}, v ∈ l → wt v ≤ wtL l
  | [], h => absurd h (List.not_mem_nil)
  | x :: r, h => by
    rcases List.mem_cons.1 h with h | h
    · subst h; simp only [wtL]; omega
    · have := wtL_mem h; simp only [wtL]; omega
theorem wtL_length : ∀ (l : List Val), l.length ≤ wtL l
  | [] => Nat.le_refl _
  | v :: r => by
    have h1 := wtL_length r
    have h2 : 1 ≤ wt v := by cases v; simp only [wt]; omega
    simp only [wtL, List.length_cons]; omega
theorem wt_keys : ∀ (ks : List (List UInt8)), ks.length ≤ (ks.map fun k => k.length + 1).sum
  | [] => Nat.le_refl _
  | k :: r => by have := wt_keys r; simp only [List.map_cons, List.sum_cons, List.length_cons]; omega

/-- The contract of nestedWithin at a value. -/
def NestC (v : Val) : Prop := ∀ (lv kv : Value) (R : Nat → Prop) (m : Nat) (w : World), ValIn w R v lv kv → m ≤ 1099511627776 → wt v ≤ 1099511627776 →
  Calls Tryz.prog 21 #[arg v lv kv, .int .i64 m] w fun e w' => e = .returned (.bool (nestP v m)) ∧ Below w.heap.size w w'

set_option maxHeartbeats 2000000 in
theorem nest_any : ∀ v, NestC v := Val.ind fun so on n t l ks IH lv kv R m w hv hm hw => by
  have hv' := hv
  obtain ⟨⟨a1, c1, rfl, hl⟩, ⟨a2, c2, rfl, _⟩⟩ := hv'
  by_cases h0 : m = 0
  · subst h0
    clear IH hv
    have hb0 : Below w.heap.size w (w.alloc (Obj.cells #[Value.int IntKind.i64 so, Value.bool on, Value.int IntKind.i64 n, Value.string { data := t.toArray }, Value.slice a1 l.length c1, Value.slice a2 ks.length c2] 34)) := (Below.refl _ _).alloc (Nat.le_refl _) _
    have HB0 := Lib.hid hb0
    clear hb0
    simp only [arg, six', six, strCell]
    by_cases h4 : so = 4
    · subst h4
      go_enter Tryz.func21, Tryz.ntmps21
      go_wp2_with fail
      go_ret
      exact ⟨by simp [nestP], HB0.out⟩
    · by_cases h5 : so = 5
      · subst h5
        go_enter Tryz.func21, Tryz.ntmps21
        go_wp2_with fail
        go_ret
        exact ⟨by simp [nestP], HB0.out⟩
      · have q4 : (so == 4) = false := by simpa using h4
        have q5 : (so == 5) = false := by simpa using h5
        cases l with
        | nil =>
          clear hl hw
          simp only [List.length_nil] at HB0 ⊢
          go_enter Tryz.func21, Tryz.ntmps21
          go_wp2_with fail
          go_loopw [28] (fun iv w' => iv = .int .i64 0 ∧ Hid (Below w.heap.size w w')) (fun iv _ => 0)
          case atStart => exact ⟨rfl, HB0⟩
          case round =>
            obtain ⟨rfl, HB⟩ := hrel
            go_wp2_with fail
            go_ret
            exact ⟨by simp [nestP, h4, h5], HB.out⟩
        | cons x r =>
          have hlz : (0 : Int) < ((x :: r).length : Int) := by simp
          have HX := Lib.hid (show (!(x :: r).isEmpty) = true from rfl)
          generalize hl' : (x :: r).length = k at hlz HB0 ⊢
          clear hl'
          go_enter Tryz.func21, Tryz.ntmps21
          go_wp2_with fail
          go_ret
          exact ⟨by simp [nestP], HB0.out⟩
  · have hres : nestP (.mk so on n t l ks) m = nestL l (m - 1) := by simp only [nestP, if_neg h0]
    obtain ⟨m, rfl⟩ : ∃ k, m = k + 1 := ⟨m - 1, by omega⟩
    rw [hres, Nat.add_sub_cancel]
    clear hres h0
    have hwl : wtL l ≤ 1099511627776 := by simp only [wt] at hw; omega
    have HWM := Lib.hid (fun v (h : v ∈ l) => Nat.le_trans (wtL_mem h) hwl)
    have hlb : l.length ≤ 1099511627776 := Nat.le_trans (wtL_length l) hwl
    clear hw hwl
    have HL := Lib.hid hl
    have HIH := Lib.hid IH
    clear hl hv IH
    obtain ⟨R1, hR1⟩ : ∃ r, nestL l m = r := ⟨_, rfl⟩
    rw [hR1]
    have HR := Lib.hid (show nestL (l.drop 0) m = R1 from hR1)
    clear hR1
    obtain ⟨ln, hln⟩ : ∃ k, l.length = k := ⟨_, rfl⟩
    have HLN := Lib.hid hln
    simp only [arg, six', six, strCell, hln]
    rw [hln] at hlb
    clear hln
    have q0 : (((m + 1 : Nat) : Int) == 0) = false := by simp; omega
    go_enter Tryz.func21, Tryz.ntmps21
    go_wp2_with fail
    have hb0 : Below w.heap.size w (w.alloc (Obj.cells #[Value.int IntKind.i64 so, Value.bool on, Value.int IntKind.i64 n, Value.string { data := t.toArray }, Value.slice a1 ln c1, Value.slice a2 ks.length c2] 34)) := (Below.refl _ _).alloc (Nat.le_refl _) _
    have HB0 := Lib.hid hb0
    generalize w.alloc (Obj.cells #[Value.int IntKind.i64 so, Value.bool on, Value.int IntKind.i64 n, Value.string { data := t.toArray }, Value.slice a1 ln c1, Value.slice a2 ks.length c2] 34) = w0 at HB0 ⊢
    clear hb0
    go_loopw [28] (fun iv w' => ∃ i : Nat, iv = .int .i64 i ∧ i ≤ ln ∧ Hid (nestL (l.drop i) m = R1) ∧ Hid (Below w.heap.size w w')) (fun iv _ => ln - (Go.RowKit.intOf iv).toNat)
    case atStart => exact ⟨0, rfl, by omega, HR, HB0⟩
    case round =>
      obtain ⟨i, rfl, hi, HI, HB⟩ := hrel
      by_cases hlt : i < ln
      · have hll : i < l.length := by rw [HLN.out]; exact hlt
        obtain ⟨g, off, xs, rfl, hg, hc, hL⟩ := HL.out.resolve_left (fun h => by rw [h] at hll; exact Nat.not_lt_zero _ hll)
        have hsm : Same R w wr := fun b _ hb => HB.out.block b hb
        obtain ⟨so', on', n', t', l', ks', a1', c1', a2', c2', he, hv', k0, k1, k2, k3, k4, k5⟩ := part_at i (ListIn.later hsm (fun _ h => h) l xs hL) (hc.later hg hsm) hll
        have hdr := nestL_drop (m := m) hll
        rw [HI.out, he] at hdr
        have cP := fun W' (hb' : Below wr.heap.size wr W') => (HIH.out l[i] (List.getElem_mem hll)) (.slice a1' l'.length c1') (.slice a2' ks'.length c2') R m W' (by rw [he]; exact ValIn.later (fun b _ hb => hb'.block b hb) (fun _ h => h) _ _ _ hv') (by omega) (HWM.out _ (List.getElem_mem hll))
        rw [he] at cP
        obtain ⟨b1, hb1⟩ : ∃ b, nestP (.mk so' on' n' t' l' ks') m = b := ⟨_, rfl⟩
        rw [hb1] at hdr
        simp only [hb1, arg, six', six, strCell] at cP
        have HDR := Lib.hid hdr
        clear hdr he hv' hb1 hsm hL hc
        go_wp2_with fail
        refine (cP _ ((Below.refl _ _).alloc (Nat.le_refl _) _)).mono ?_
        rintro e w2 ⟨rfl, hb2⟩
        have HB2 := Lib.hid (HB.out.trans ((((Below.refl wr.heap.size wr).alloc (Nat.le_refl _) _).trans (hb2.mono (by simp))).mono HB.out.size))
        clear cP hb2
        cases b1 with
        | false =>
          go_wp2_with fail
          go_ret
          exact ⟨by rw [HDR.out]; rfl, HB2.out⟩
        | true =>
          go_wp2_with fail
          go_roundw
          case rel => exact ⟨i + 1, by go_num, by omega, Lib.hid (by rw [HDR.out, Bool.true_and]), HB2⟩
          case measure => simp [Go.RowKit.intOf]; omega
      · go_wp2_with fail
        go_ret
        refine ⟨?_, HB.out⟩
        obtain rfl : i = ln := by omega
        have h := HI.out
        rw [← HLN.out, List.drop_length] at h
        rw [← h]; rfl
end Go.Proofs.YtfjdeacpdcnjpaaGreatDoor.V
