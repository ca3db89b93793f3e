/- Contracts of the reader's numbers, and of what stands behind a backslash. -/
import Derived.Test.YtfjdeacpdcnjpaaGreatDoorVEnv
import Derived.Test.YtfjdeacpdcnjpaaGreatDoorVRead1
import Derived.Test.YtfjdeacpdcnjpaaGreatDoorVHex
import Derived.Deep.RegionHeld3
namespace Go.Proofs.YtfjdeacpdcnjpaaGreatDoor.V
open Go.RowKit
open Go.Lib

theorem hexL_some (t : ByteArray) (n : Nat) (h4 : t.size = 4) (h : hexL 0 t.data.toList = some n) (w : World) :
    Calls Tryz.prog 102 #[.string t, .int .i64 16, .int .i64 16] w fun e w' => e = .returned (.tuple #[.int .u64 n, .nilIface]) ∧ Below w.heap.size w w' := by
  have c := inner_hex t h4 w
  rw [h] at c
  have c : Calls Tryz.prog 103 #[.string t, .int .i64 16, .int .i64 16] w fun e w' => e = .returned (.tuple #[.int .u64 n, .nilIface]) ∧ w' = Lib.bytesWorld w 5 t := c
  clear h h4
  go_enter Tryz.func102, Tryz.ntmps102
  go_wp2_with (go_at_call 103; refine c.mono ?_; rintro e w1 ⟨rfl, rfl⟩)
  go_ret2
  exact ⟨rfl, Lib.bytesWorld_below _ _ _⟩
theorem hexL_none (t : ByteArray) (h4 : t.size = 4) (h : hexL 0 t.data.toList = none) (w : World) (hE : EnvW w) :
    Calls Tryz.prog 102 #[.string t, .int .i64 16, .int .i64 16] w fun e w' => ∃ te pe, e = .returned (.tuple #[.int .u64 0, .iface te pe]) ∧ Below w.heap.size w w' := by
  have c := inner_hex t h4 w
  rw [h] at c
  have c : Calls Tryz.prog 103 #[.string t, .int .i64 16, .int .i64 16] w fun e w' => e = .returned (.tuple #[.int .u64 0, .iface 130 (.int .i64 2)]) ∧ w' = Lib.bytesWorld w 5 t := c
  obtain ⟨te, pe, hes⟩ := hE.es
  have hes' := ((Lib.bytesWorld_below w 5 t).cell (p := ⟨_, 0, none⟩) (Lib.lt_of_cell hes)).trans hes
  have c2 := Tryz.strconv_toError_syntax ⟨#[80, 97, 114, 115, 101, 85, 105, 110, 116]⟩ t 16 16 _ _ (by omega) hes' (.inr ⟨te, pe, rfl⟩)
  have hbb := Lib.bytesWorld_below w 5 t
  generalize Lib.bytesWorld w 5 t = w1 at c c2 hbb
  clear h h4 hes hes'
  go_enter Tryz.func102, Tryz.ntmps102
  go_wp2_with (first | (go_at_call 103; refine c.mono ?_; rintro e w1 ⟨rfl, rfl⟩) | (go_at_call 87; refine c2.mono ?_; rintro e w2 ⟨N, rfl, hN, hN2, hb⟩; clear hN hN2))
  go_ret2
  exact ⟨_, _, rfl, hbb.trans (hb.mono hbb.size)⟩

theorem drop4 (s : ByteArray) (a : Nat) (x y z u : UInt8) (r : List UInt8) (h : s.data.toList.drop a = x :: y :: z :: u :: r) : (s.extract a (a + 4)).data.toList = [x, y, z, u] ∧ s.data.toList.drop (a + 4) = r := by
  constructor
  · rw [extract_take, h]; rfl
  · rw [← List.drop_drop, h]; rfl

theorem wrap32_small (n : Nat) (h : n < 65536) : wrap32 (n : Int) = n := by unfold wrap32; omega

/-- The reader's block stands as it stood, in a world that has grown from w. -/
def Was (d : Nat) (s : ByteArray) (a o : Int) (w W : World) : Prop := Rd d s a o W ∧ Below w.heap.size w W
theorem Was.later {d : Nat} {s : ByteArray} {a o : Int} {w W w' : World} (h : Was d s a o w W) (hb : Below W.heap.size W w') : Was d s a o w w' := ⟨h.1.below hb, h.2.trans (hb.mono h.2.size)⟩
theorem Was.start {d : Nat} {s : ByteArray} {a o : Int} {w : World} (h : Rd d s a o w) (n : Nat) : Was d s a o w (w.drewN n) := ⟨h.drewN n, rfl, rfl, rfl, Nat.le_refl _, fun _ _ => rfl⟩
theorem Was.all {d : Nat} {s : ByteArray} {a o : Int} {w W : World} (h : Was d s a o w W) : W.cell? ⟨d, 0, none⟩ = some (.string s) ∧ W.cell? ⟨d, 1, none⟩ = some (.int .i64 a) ∧ Was d s a o w W := ⟨h.1.c0, h.1.c1, h⟩

set_option maxHeartbeats 1000000 in
set_option maxRecDepth 100000 in
theorem unit_some (d : Nat) (s : ByteArray) (x y z u : UInt8) (r : List UInt8) (n : Nat) (o : Int) (w : World) (hr : RdL d s (x :: y :: z :: u :: r) o w) (hs : s.size ≤ 1099511627776) (h : hex4 x y z u = some n) :
    Calls Tryz.prog 93 #[.pointer (some ⟨d, 0, none⟩)] w fun e w' => e = .returned (.tuple #[.int .i32 n, .bool true]) ∧ RdL d s r o w' ∧ Mut w.heap.size d w w' := by
  have hlen := hr.len
  obtain ⟨at', ha, hl, hr⟩ := hr
  have hn : at' + 4 ≤ s.size := by
    have h := congrArg List.length hl
    rw [List.length_drop, ← Lib.size_eq] at h; simp at h; omega
  obtain ⟨h1, h2⟩ := drop4 s at' x y z u r hl
  have hsz : (s.extract at' (at' + 4)).size = 4 := by rw [Lib.size_eq, h1]; rfl
  have hx : hexL 0 (s.extract at' (at' + 4)).data.toList = some n := by rw [h1, ← hex4_hexL]; exact h
  have hn65 : n < 65536 := by
    have hh := h
    unfold hex4 at hh
    cases ha : hexv x with
    | none => rw [ha] at hh; cases hh
    | some p =>
      cases hb : hexv y with
      | none => rw [ha, hb] at hh; cases hh
      | some q =>
        cases hc : hexv z with
        | none => rw [ha, hb, hc] at hh; cases hh
        | some p2 =>
          cases hd : hexv u with
          | none => rw [ha, hb, hc, hd] at hh; cases hh
          | some q2 =>
            rw [ha, hb, hc, hd] at hh
            have := hexv_lt _ _ ha; have := hexv_lt _ _ hb; have := hexv_lt _ _ hc; have := hexv_lt _ _ hd
            have hh : ((p * 16 + q) * 16 + p2) * 16 + q2 = n := by simpa using hh
            omega
  have hcon : ∀ W, (W.cell? ⟨d, 0, none⟩ = some (.string s) ∧ W.cell? ⟨d, 1, none⟩ = some (.int .i64 at') ∧ Was d s at' o w W) → Calls Tryz.prog 102 #[.string (s.extract at' (at' + 4)), .int .i64 16, .int .i64 16] W fun e w' => e = .returned (.tuple #[.int .u64 n, .nilIface]) ∧ (w'.cell? ⟨d, 0, none⟩ = some (.string s) ∧ w'.cell? ⟨d, 1, none⟩ = some (.int .i64 at') ∧ Was d s at' o w w') := fun W hW => (hexL_some _ n hsz hx W).mono fun e w' ⟨he, hb⟩ => ⟨he, (hW.2.2.later hb).all⟩
  have H2 := Lib.hid h2
  have c0 := hr.c0
  have c1 := hr.c1
  have q0 : (0 : Int) ≤ at' := by omega
  have q1 : (at' : Int) + 4 ≤ s.size := by omega
  have q2 : ¬ ((s.size : Int) - at' < 4) := by omega
  have q3 : IntKind.i64.wrap ((at' : Int) + 4) = (at' : Int) + 4 := IntWalk.i64_in _ (by omega)
  have q4 : (0 : Int) ≤ (at' : Int) + 4 := by omega
  have q5 : (at' : Int) ≤ (at' : Int) + 4 := by omega
  have q6 : ((at' : Int) + 4).toNat = at' + 4 := by omega
  have HN := Lib.hid hn65
  clear h hl h1 h2 hsz hx hn65
  go_enter Tryz.func93, Tryz.ntmps93
  go_wp2
  go_quiet (fail)
  go_wp2
  have hS : ((w.drewN nq).drew.cell? ⟨d, 0, none⟩ = some (.string s) ∧ (w.drewN nq).drew.cell? ⟨d, 1, none⟩ = some (.int .i64 at') ∧ Was d s at' o w (w.drewN nq).drew) := (Was.start hr (nq + 1)).all
  go_region_held3 (fun W => W.cell? ⟨d, 0, none⟩ = some (.string s) ∧ W.cell? ⟨d, 1, none⟩ = some (.int .i64 at') ∧ Was d s at' o w W) (first | assumption) (first | (go_at_call 102; refine (hcon _ ?_).mono ?_; assumption; rintro e w5 ⟨rfl, hS5⟩))
  obtain ⟨_, _, hW⟩ := hS5
  clear hS hcon
  have c1 := hW.1.c1
  have f1 := hW.1.f1
  go_wp2
  go_ret2
  refine ⟨?_, ?_, ?_⟩
  · show Ending.returned (.tuple #[.int .i32 (wrap32 n), .bool true]) = _
    rw [wrap32_small n HN.out]
  · exact RdL.of (at' + 4) _ (by omega) hn H2.out (hW.1.set1 _)
  · exact (Mut.of_below hW.2).setCell 1 _

theorem take4 (s : ByteArray) (a : Nat) (l : List UInt8) (h : s.data.toList.drop a = l) (h4 : 4 ≤ l.length) : ∃ x y z u r, l = x :: y :: z :: u :: r := by
  match l, h4 with
  | x :: y :: z :: u :: r, _ => exact ⟨x, y, z, u, r, rfl⟩

set_option maxHeartbeats 1000000 in
set_option maxRecDepth 100000 in
theorem unit_short (d : Nat) (s : ByteArray) (l : List UInt8) (o : Int) (w : World) (hr : RdL d s l o w) (h : l.length < 4) :
    Calls Tryz.prog 93 #[.pointer (some ⟨d, 0, none⟩)] w fun e w' => e = .returned (.tuple #[.int .i32 0, .bool false]) ∧ RdL d s l o w' ∧ Mut w.heap.size d w w' := by
  obtain ⟨at', ha, hl, hr⟩ := hr
  have hn : s.size < at' + 4 := by
    have h2 := congrArg List.length hl
    rw [List.length_drop, ← Lib.size_eq] at h2; omega
  have H2 := Lib.hid hl
  have c0 := hr.c0
  have c1 := hr.c1
  have q0 : (0 : Int) ≤ at' := by omega
  have q1 : (at' : Int) ≤ s.size := by omega
  have q2 : ((s.size : Int) - at' < 4) := by omega
  clear h hl
  go_enter Tryz.func93, Tryz.ntmps93
  go_wp2
  go_quiet (fail)
  go_wp2
  go_ret2
  exact ⟨rfl, RdL.of at' _ rfl ha H2.out (hr.drewN nq), (Mut.refl _ _ _).drewN nq⟩

set_option maxHeartbeats 1000000 in
set_option maxRecDepth 100000 in
theorem unit_wrong (d : Nat) (s : ByteArray) (x y z u : UInt8) (r : List UInt8) (o : Int) (B : Nat) (w : World) (hr : RdL d s (x :: y :: z :: u :: r) o w) (hE : Env B w) (hs : s.size ≤ 1099511627776) (h : hex4 x y z u = none) :
    Calls Tryz.prog 93 #[.pointer (some ⟨d, 0, none⟩)] w fun e w' => e = .returned (.tuple #[.int .i32 0, .bool false]) ∧ RdL d s (x :: y :: z :: u :: r) o w' ∧ Mut w.heap.size d w w' := by
  obtain ⟨at', ha, hl, hr⟩ := hr
  have hn : at' + 4 ≤ s.size := by
    have h := congrArg List.length hl
    rw [List.length_drop, ← Lib.size_eq] at h; simp at h; omega
  obtain ⟨h1, _⟩ := drop4 s at' x y z u r hl
  have hsz : (s.extract at' (at' + 4)).size = 4 := by rw [Lib.size_eq, h1]; rfl
  have hx : hexL 0 (s.extract at' (at' + 4)).data.toList = none := by rw [h1, ← hex4_hexL]; exact h
  have hcon : ∀ W, (W.cell? ⟨d, 0, none⟩ = some (.string s) ∧ W.cell? ⟨d, 1, none⟩ = some (.int .i64 at') ∧ Was d s at' o w W) → Calls Tryz.prog 102 #[.string (s.extract at' (at' + 4)), .int .i64 16, .int .i64 16] W fun e w' => ∃ te pe, e = .returned (.tuple #[.int .u64 0, .iface te pe]) ∧ (w'.cell? ⟨d, 0, none⟩ = some (.string s) ∧ w'.cell? ⟨d, 1, none⟩ = some (.int .i64 at') ∧ Was d s at' o w w') := fun W hW => (hexL_none _ hsz hx W (hE.now.later hW.2.2.2)).mono fun e w' ⟨te, pe, he, hb⟩ => ⟨te, pe, he, (hW.2.2.later hb).all⟩
  have H2 := Lib.hid hl
  have c0 := hr.c0
  have c1 := hr.c1
  have q0 : (0 : Int) ≤ at' := by omega
  have q1 : (at' : Int) + 4 ≤ s.size := by omega
  have q2 : ¬ ((s.size : Int) - at' < 4) := by omega
  have q3 : IntKind.i64.wrap ((at' : Int) + 4) = (at' : Int) + 4 := IntWalk.i64_in _ (by omega)
  have q4 : (0 : Int) ≤ (at' : Int) + 4 := by omega
  have q5 : (at' : Int) ≤ (at' : Int) + 4 := by omega
  have q6 : ((at' : Int) + 4).toNat = at' + 4 := by omega
  clear h hl h1 hsz hx
  go_enter Tryz.func93, Tryz.ntmps93
  go_wp2
  go_quiet (fail)
  go_wp2
  have hS : ((w.drewN nq).drew.cell? ⟨d, 0, none⟩ = some (.string s) ∧ (w.drewN nq).drew.cell? ⟨d, 1, none⟩ = some (.int .i64 at') ∧ Was d s at' o w (w.drewN nq).drew) := (Was.start hr (nq + 1)).all
  go_region_held3 (fun W => W.cell? ⟨d, 0, none⟩ = some (.string s) ∧ W.cell? ⟨d, 1, none⟩ = some (.int .i64 at') ∧ Was d s at' o w W) (first | assumption) (first | (go_at_call 102; refine (hcon _ ?_).mono ?_; assumption; rintro e w5 ⟨te, pe, rfl, hS5⟩))
  obtain ⟨_, _, hW⟩ := hS5
  clear hS hcon
  go_wp2
  go_ret2
  exact ⟨rfl, RdL.of at' _ rfl ha H2.out hW.1, Mut.of_below hW.2⟩

/-- What is read of four figures. -/
theorem unit_none (d : Nat) (s : ByteArray) (l : List UInt8) (o : Int) (B : Nat) (w : World) (hr : RdL d s l o w) (hE : Env B w) (hs : s.size ≤ 1099511627776) (h : unit l = none) :
    Calls Tryz.prog 93 #[.pointer (some ⟨d, 0, none⟩)] w fun e w' => e = .returned (.tuple #[.int .i32 0, .bool false]) ∧ RdL d s l o w' ∧ Mut w.heap.size d w w' := by
  match l, hr, h with
  | [], hr, _ => exact unit_short d s [] o w hr (by simp)
  | [_], hr, _ => exact unit_short d s _ o w hr (by simp)
  | [_, _], hr, _ => exact unit_short d s _ o w hr (by simp)
  | [_, _, _], hr, _ => exact unit_short d s _ o w hr (by simp)
  | x :: y :: z :: u :: r, hr, h => exact unit_wrong d s x y z u r o B w hr hE hs (by simpa [unit] using h)
theorem unit_ok (d : Nat) (s : ByteArray) (l r : List UInt8) (n : Nat) (o : Int) (w : World) (hr : RdL d s l o w) (hs : s.size ≤ 1099511627776) (h : unit l = some (n, r)) :
    Calls Tryz.prog 93 #[.pointer (some ⟨d, 0, none⟩)] w fun e w' => e = .returned (.tuple #[.int .i32 n, .bool true]) ∧ RdL d s r o w' ∧ Mut w.heap.size d w w' := by
  match l, hr, h with
  | [], hr, h => cases h
  | [_], hr, h => cases h
  | [_, _], hr, h => cases h
  | [_, _, _], hr, h => cases h
  | x :: y :: z :: u :: r', hr, h =>
    have h2 : hex4 x y z u = some n ∧ r' = r := by
      simp only [unit, Option.map_eq_some_iff, Prod.mk.injEq] at h
      obtain ⟨m, h3, rfl, h4⟩ := h
      exact ⟨h3, h4⟩
    obtain ⟨h2, rfl⟩ := h2
    exact unit_some d s x y z u r' n o w hr hs h2
end Go.Proofs.YtfjdeacpdcnjpaaGreatDoor.V
