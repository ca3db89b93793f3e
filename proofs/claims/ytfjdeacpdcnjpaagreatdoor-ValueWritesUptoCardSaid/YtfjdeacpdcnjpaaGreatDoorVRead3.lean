/- Contracts of the scalars that are written behind a backslash. -/
import Derived.Test.YtfjdeacpdcnjpaaGreatDoorVRead2
namespace Go.Proofs.YtfjdeacpdcnjpaaGreatDoor.V
open Go.RowKit
open Go.Lib

/-- A scalar that is read: it, and what is left. -/
def ReadsS (d : Nat) (s : ByteArray) (o : Int) (r : Option (Nat × List UInt8)) (w : World) (e : Ending) (w' : World) : Prop :=
  match r with
  | some (n, l) => e = .returned (.tuple #[.int .i32 n, .bool true]) ∧ RdL d s l o w' ∧ Mut w.heap.size d w w'
  | none => ∃ (m : Int) (l : List UInt8), e = .returned (.tuple #[.int .i32 m, .bool false]) ∧ RdL d s l o w' ∧ Mut w.heap.size d w w'
theorem readsS_some {d : Nat} {s : ByteArray} {o : Int} {r : Option (Nat × List UInt8)} {w w' : World} {n : Nat} {l : List UInt8} {k : Int} (h : r = some (n, l)) (hk : k = n) (h1 : RdL d s l o w') (h2 : Mut w.heap.size d w w') :
    ReadsS d s o r w (.returned (.tuple #[.int .i32 k, .bool true])) w' := by subst h; subst hk; exact ⟨rfl, h1, h2⟩
theorem readsS_none {d : Nat} {s : ByteArray} {o : Int} {r : Option (Nat × List UInt8)} {w w' : World} {m : Int} {l : List UInt8} (h : r = none) (h1 : RdL d s l o w') (h2 : Mut w.heap.size d w w') :
    ReadsS d s o r w (.returned (.tuple #[.int .i32 m, .bool false])) w' := by subst h; exact ⟨m, l, rfl, h1, h2⟩

theorem scalarE_none {l : List UInt8} (h : unit l = none) : scalarE l = none := by simp only [scalarE, h]
theorem scalarE_one {l r : List UInt8} {a : Nat} (h : unit l = some (a, r)) (ha : a < 55296 ∨ 57344 ≤ a) : scalarE l = some (a, r) := by simp only [scalarE, h, if_pos ha]
theorem scalarE_late {l r : List UInt8} {a : Nat} (h : unit l = some (a, r)) (h1 : 56320 ≤ a) (h2 : a < 57344) : scalarE l = none := by
  simp only [scalarE, h]; rw [if_neg (by omega), if_pos h1]
theorem scalarE_bare {l r : List UInt8} {a : Nat} (h : unit l = some (a, r)) (h1 : 55296 ≤ a) (h2 : a < 56320) (hr : Lib.hasPrefix r [92, 117] = false) : scalarE l = none := by
  simp only [scalarE, h]; rw [if_neg (by omega), if_neg (by omega)]
  split
  · simp [Lib.hasPrefix] at hr
  · rfl
theorem scalarE_two {l r r' : List UInt8} {a : Nat} (h : unit l = some (a, r)) (h1 : 55296 ≤ a) (h2 : a < 56320) (hr : r = 92 :: 117 :: r') :
    scalarE l = match unit r' with
        | none => none
        | some (b, r'') => if b < 56320 ∨ 57344 ≤ b then none else some (65536 + (a - 55296) * 1024 + (b - 56320), r'') := by
  simp only [scalarE, h]; rw [if_neg (by omega), if_neg (by omega), hr]; rfl
theorem prefix_two {r : List UInt8} (h : Lib.hasPrefix r [92, 117] = true) : r = 92 :: 117 :: r.drop 2 := by
  obtain ⟨t, rfl⟩ := List.isPrefixOf_iff_prefix.1 h
  rfl
theorem hex4_lt {x y z u : UInt8} {n : Nat} (h : hex4 x y z u = some n) : n ≤ 65535 := by
  unfold hex4 at h
  split at h
  · rename_i p q p2 q2 ha hb hc hd
    have := hexv_lt _ _ ha; have := hexv_lt _ _ hb; have := hexv_lt _ _ hc; have := hexv_lt _ _ hd
    have h : ((p * 16 + q) * 16 + p2) * 16 + q2 = n := by simpa using h
    omega
  · cases h
theorem unit_lt {l r : List UInt8} {n : Nat} (h : unit l = some (n, r)) : n ≤ 65535 := by
  match l, h with
  | x :: y :: z :: u :: r', h =>
    simp only [unit, Option.map_eq_some_iff, Prod.mk.injEq] at h
    obtain ⟨m, h3, rfl, _⟩ := h
    exact hex4_lt h3

set_option maxHeartbeats 1000000 in
set_option maxRecDepth 100000 in
theorem scalar_any (d : Nat) (s : ByteArray) (l : List UInt8) (o : Int) (B : Nat) (w : World) (hr : RdL d s l o w) (hE : Env B w) (hd : B ≤ d) (hs : s.size ≤ 1099511627776) :
    Calls Tryz.prog 84 #[.pointer (some ⟨d, 0, none⟩)] w (ReadsS d s o (scalarE l) w) := by
  cases h1 : unit l with
  | none =>
    have hres := Lib.hid (scalarE_none h1)
    have c1 := unit_none d s l o B w hr hE hs h1
    clear h1 hr hE
    go_enter Tryz.func84, Tryz.ntmps84
    go_wp2_with (go_at_call 93; refine c1.mono ?_; rintro e w1 ⟨rfl, hr1, hm1⟩)
    go_ret2
    exact readsS_none hres.out hr1 hm1
  | some p =>
    obtain ⟨a, r⟩ := p
    have c1 := unit_ok d s l r a o w hr hs h1
    have H65 := Lib.hid (unit_lt h1)
    by_cases ha1 : a < 55296
    · have hres := Lib.hid (scalarE_one h1 (.inl ha1))
      have i1 : decide ((a : Int) < 55296) = true := by simp; omega
      clear h1 hr hE ha1
      go_enter Tryz.func84, Tryz.ntmps84
      go_wp2_with (go_at_call 93; refine c1.mono ?_; rintro e w1 ⟨rfl, hr1, hm1⟩)
      go_ret2
      exact readsS_some hres.out rfl hr1 hm1
    · by_cases ha2 : 57344 ≤ a
      · have hres := Lib.hid (scalarE_one h1 (.inr ha2))
        have i1 : decide ((a : Int) < 55296) = false := by simp; omega
        have i2 : decide (57344 ≤ (a : Int)) = true := by simp; omega
        clear h1 hr hE ha1 ha2
        go_enter Tryz.func84, Tryz.ntmps84
        go_wp2_with (go_at_call 93; refine c1.mono ?_; rintro e w1 ⟨rfl, hr1, hm1⟩)
        go_ret2
        exact readsS_some hres.out rfl hr1 hm1
      · have i1 : decide ((a : Int) < 55296) = false := by simp; omega
        have i2 : decide (57344 ≤ (a : Int)) = false := by simp; omega
        by_cases ha3 : 56320 ≤ a
        · have hres := Lib.hid (scalarE_late h1 ha3 (by omega))
          have i3 : decide (56320 ≤ (a : Int)) = true := by simp; omega
          clear h1 hr hE ha1 ha2 ha3
          go_enter Tryz.func84, Tryz.ntmps84
          go_wp2_with (go_at_call 93; refine c1.mono ?_; rintro e w1 ⟨rfl, hr1, hm1⟩)
          go_ret2
          exact readsS_none hres.out hr1 hm1
        · have i3 : decide (56320 ≤ (a : Int)) = false := by simp; omega
          cases hp : Lib.hasPrefix r [92, 117] with
          | false =>
            have hres := Lib.hid (scalarE_bare h1 (by omega) (by omega) hp)
            have c2 : ∀ W, RdL d s r o W → Calls Tryz.prog 50 #[.pointer (some ⟨d, 0, none⟩), .string ⟨#[92, 117]⟩] W _ := fun W h => take_no d s ⟨#[92, 117]⟩ r o W h hp
            have HP := Lib.hid hp
            clear h1 hr hE ha1 ha2 ha3 hp
            go_enter Tryz.func84, Tryz.ntmps84
            go_wp2_with (first | (go_at_call 93; refine c1.mono ?_; rintro e w1 ⟨rfl, hr1, hm1⟩) | (go_at_call 50; refine (c2 _ hr1).mono ?_; rintro e w2 ⟨rfl, hr2, hm2⟩))
            go_ret2
            exact readsS_none hres.out hr2 (hm1.trans (hm2.mono hm1.size))
          | true =>
            obtain ⟨r', hr'⟩ : ∃ r', r = 92 :: 117 :: r' := ⟨_, prefix_two hp⟩
            have hres := scalarE_two h1 (by omega) (by omega) hr'
            have c2 : ∀ W, RdL d s r o W → Calls Tryz.prog 50 #[.pointer (some ⟨d, 0, none⟩), .string ⟨#[92, 117]⟩] W fun e w' => e = .returned (.bool true) ∧ RdL d s r' o w' ∧ Mut W.heap.size d W w' := fun W h => (take_yes d s ⟨#[92, 117]⟩ r o W h hs hp).mono fun e w' ⟨he, h1, h2⟩ => ⟨he, by rw [hr'] at h1; exact h1, h2⟩
            clear hp hr'
            cases h2 : unit r' with
            | none =>
              rw [h2] at hres
              replace hres := Lib.hid hres
              have c3 : ∀ W, RdL d s r' o W → Env B W → _ := fun W h hE => unit_none d s r' o B W h hE hs h2
              have hmut : ∀ W, Mut w.heap.size d w W → Env B W := fun W hm => hE.mut hd hm
              clear h1 hr hE ha1 ha2 ha3 h2
              go_enter Tryz.func84, Tryz.ntmps84
              go_wp2_with fail
              refine c1.mono ?_; rintro e w1 ⟨rfl, hr1, hm1⟩
              go_wp2_with fail
              refine (c2 _ hr1).mono ?_; rintro e w2 ⟨rfl, hr2, hm2⟩
              replace hm2 := hm1.trans (hm2.mono hm1.size)
              go_wp2_with fail
              refine (c3 _ hr2 (hmut _ hm2)).mono ?_; rintro e w3 ⟨rfl, hr3, hm3⟩
              go_wp2_with fail
              go_ret2
              exact readsS_none hres.out hr3 (hm2.trans (hm3.mono hm2.size))
            | some q =>
              obtain ⟨b, r''⟩ := q
              rw [h2] at hres
              have c3 : ∀ W, RdL d s r' o W → Calls Tryz.prog 93 #[.pointer (some ⟨d, 0, none⟩)] W fun e w' => e = .returned (.tuple #[.int .i32 b, .bool true]) ∧ RdL d s r'' o w' ∧ Mut W.heap.size d W w' := fun W h => unit_ok d s r' r'' b o W h hs h2
              have hb65 := unit_lt h2
              by_cases hb1 : b < 56320
              · replace hres := Lib.hid (hres.trans (if_pos (.inl hb1)))
                have k1 : decide ((b : Int) < 56320) = true := by simp; omega
                clear h1 hr hE ha1 ha2 ha3 h2 hb65 hb1
                go_enter Tryz.func84, Tryz.ntmps84
                go_wp2_with fail
                refine c1.mono ?_; rintro e w1 ⟨rfl, hr1, hm1⟩
                go_wp2_with fail
                refine (c2 _ hr1).mono ?_; rintro e w2 ⟨rfl, hr2, hm2⟩
                replace hm2 := hm1.trans (hm2.mono hm1.size)
                go_wp2_with fail
                clear i1 i2 i3 c1 c2
                refine (c3 _ hr2).mono ?_; rintro e w3 ⟨rfl, hr3, hm3⟩
                go_wp2_with fail
                go_ret2
                exact readsS_none hres.out hr3 (hm2.trans (hm3.mono hm2.size))
              · have k1 : decide ((b : Int) < 56320) = false := by simp; omega
                by_cases hb2 : 57344 ≤ b
                · replace hres := Lib.hid (hres.trans (if_pos (.inr hb2)))
                  have k2 : decide (57344 ≤ (b : Int)) = true := by simp; omega
                  clear h1 hr hE ha1 ha2 ha3 h2 hb65 hb1 hb2
                  go_enter Tryz.func84, Tryz.ntmps84
                  go_wp2_with fail
                  refine c1.mono ?_; rintro e w1 ⟨rfl, hr1, hm1⟩
                  go_wp2_with fail
                  refine (c2 _ hr1).mono ?_; rintro e w2 ⟨rfl, hr2, hm2⟩
                  replace hm2 := hm1.trans (hm2.mono hm1.size)
                  go_wp2_with fail
                  clear i1 i2 i3 c1 c2
                  refine (c3 _ hr2).mono ?_; rintro e w3 ⟨rfl, hr3, hm3⟩
                  go_wp2_with fail
                  go_ret2
                  exact readsS_none hres.out hr3 (hm2.trans (hm3.mono hm2.size))
                · replace hres := Lib.hid (hres.trans (if_neg (by omega)))
                  have k2 : decide (57344 ≤ (b : Int)) = false := by simp; omega
                  have HA := Lib.hid (And.intro (show 55296 ≤ a ∧ a < 56320 by omega) (show 56320 ≤ b ∧ b < 57344 by omega))
                  clear h1 hr hE ha1 ha2 ha3 h2 hb65 hb1 hb2
                  go_enter Tryz.func84, Tryz.ntmps84
                  go_wp2_with fail
                  refine c1.mono ?_; rintro e w1 ⟨rfl, hr1, hm1⟩
                  go_wp2_with fail
                  refine (c2 _ hr1).mono ?_; rintro e w2 ⟨rfl, hr2, hm2⟩
                  replace hm2 := hm1.trans (hm2.mono hm1.size)
                  go_wp2_with fail
                  clear i1 i2 i3 c1 c2
                  refine (c3 _ hr2).mono ?_; rintro e w3 ⟨rfl, hr3, hm3⟩
                  go_wp2_with fail
                  go_ret2
                  refine readsS_some hres.out ?_ hr3 (hm2.trans (hm3.mono hm2.size))
                  obtain ⟨⟨g1, g2⟩, g3, g4⟩ := HA.out
                  unfold wrap32; omega

/-! ### What stands behind a backslash -/
theorem letters_fin : ∀ n : Fin 256, (escLetter (UInt8.ofNat n.val) = none ∧ Lib.indexByte [34, 92, 47, 98, 102, 110, 114, 116] (UInt8.ofNat n.val) = -1) ∨
    (∃ i : Fin 8, Lib.indexByte [34, 92, 47, 98, 102, 110, 114, 116] (UInt8.ofNat n.val) = i.val ∧ escLetter (UInt8.ofNat n.val) = some (([34, 92, 47, 8, 12, 10, 13, 9] : List Nat).getD i.val 0)) := by decide +kernel
theorem letters (c : UInt8) : (escLetter c = none ∧ Lib.indexByte [34, 92, 47, 98, 102, 110, 114, 116] c = -1) ∨
    (∃ i : Fin 8, Lib.indexByte [34, 92, 47, 98, 102, 110, 114, 116] c = i.val ∧ escLetter c = some (([34, 92, 47, 8, 12, 10, 13, 9] : List Nat).getD i.val 0)) := by
  have h := letters_fin ⟨c.toNat, c.toNat_lt⟩
  simpa using h

theorem escape_u {c : UInt8} {r : List UInt8} (h : c = 117) : escape (c :: r) = scalarE r := by simp [escape, h]
theorem escape_no {c : UInt8} {r : List UInt8} (h : c ≠ 117) (h2 : escLetter c = none) : escape (c :: r) = none := by simp [escape, h, h2]
theorem escape_yes {c : UInt8} {r : List UInt8} {n : Nat} (h : c ≠ 117) (h2 : escLetter c = some n) : escape (c :: r) = some (n, r) := by simp [escape, h, h2]

set_option maxHeartbeats 2000000 in
theorem escape_any (d : Nat) (s : ByteArray) (l : List UInt8) (o : Int) (B : Nat) (w : World) (hr : RdL d s l o w) (hE : Env B w) (hd : B ≤ d) (hs : s.size ≤ 1099511627776) :
    Calls Tryz.prog 76 #[.pointer (some ⟨d, 0, none⟩)] w (ReadsS d s o (escape l) w) := by
  match l, hr with
  | [], hr =>
    have hres : Hid (escape [] = none) := rfl
    have c1 := take_no d s ⟨#[117]⟩ [] o w hr rfl
    clear hr hE
    go_enter Tryz.func76, Tryz.ntmps76
    go_wp2_with fail
    refine c1.mono ?_; rintro e w1 ⟨rfl, hr1, hm1⟩
    have hr1' := hr1
    obtain ⟨a, ha, hl, hr1⟩ := hr1
    obtain rfl : a = s.size := by
      have := congrArg List.length hl
      rw [List.length_drop, ← Lib.size_eq] at this; simp at this; omega
    have c2 := ended_yes d s o w1 hr1
    clear hl ha
    go_wp2_with fail
    refine c2.mono ?_; rintro e w2 ⟨rfl, nq, rfl⟩
    go_wp2_with fail
    go_ret2
    exact readsS_none hres.out (hr1'.below ⟨rfl, rfl, rfl, Nat.le_refl _, fun _ _ => rfl⟩) (hm1.drewN nq)
  | c :: r, hr =>
    by_cases hc : c = 117
    · have hres := Lib.hid (escape_u (r := r) hc)
      have c1 := take_yes d s ⟨#[117]⟩ (c :: r) o w hr hs (by rw [hc]; simp [Lib.hasPrefix])
      have c2 : ∀ W, RdL d s r o W → Env B W → _ := fun W h hE => scalar_any d s r o B W h hE hd hs
      have hmut : ∀ W, Mut w.heap.size d w W → Env B W := fun W hm => hE.mut hd hm
      clear hr hE hc
      go_enter Tryz.func76, Tryz.ntmps76
      go_wp2_with fail
      refine c1.mono ?_; rintro e w1 ⟨rfl, hr1, hm1⟩
      go_wp2_with fail
      refine (c2 _ hr1 (hmut _ hm1)).mono ?_; intro e w2 hR
      rcases hq : scalarE r with _ | ⟨n, l'⟩
      · rw [hq] at hR
        obtain ⟨m, l', rfl, hr2, hm2⟩ := hR
        have HQ := Lib.hid hq
        clear hq
        go_wp2_with fail
        go_ret2
        exact readsS_none (hres.out.trans HQ.out) hr2 (hm1.trans (hm2.mono hm1.size))
      · rw [hq] at hR
        obtain ⟨rfl, hr2, hm2⟩ := hR
        have HQ := Lib.hid hq
        clear hq
        go_wp2_with fail
        go_ret2
        exact readsS_some (hres.out.trans HQ.out) rfl hr2 (hm1.trans (hm2.mono hm1.size))
    · have c1 := take_no d s ⟨#[117]⟩ (c :: r) o w hr (by simp [Lib.hasPrefix, List.isPrefixOf]; exact fun h => hc h.symm)
      have hmono : ∀ W, Mut w.heap.size d w W → w.heap.size ≤ W.heap.size := fun W h => h.size
      have after : ∀ W, RdL d s (c :: r) o W → ∃ (a : Nat) (ha : a < s.size), Rd d s a o W ∧ s[a] = c ∧ s.data.toList.drop (a + 1) = r := fun W h => by
        obtain ⟨a, ha, hl, hR⟩ := h
        have hlt : a < s.size := by
          have := congrArg List.length hl
          rw [List.length_drop, ← Lib.size_eq] at this; simp at this; omega
        refine ⟨a, hlt, hR, ?_, ?_⟩
        · have := drop_get s a 0 (by omega)
          rw [hl] at this; simpa using this.symm
        · rw [← List.drop_drop, hl]; rfl
      rcases letters c with ⟨h1, h2⟩ | ⟨i, h2, h1⟩
      · have hres := Lib.hid (escape_no (r := r) hc h1)
        have cI : ∀ W, Calls Tryz.prog 61 #[.string ⟨#[34, 92, 47, 98, 102, 110, 114, 116]⟩, .int .u8 c.toNat] W fun e w' => e = .returned (.int .i64 (-1)) ∧ w' = W := fun W => by
          have h := Tryz.strings_IndexByte ⟨#[34, 92, 47, 98, 102, 110, 114, 116]⟩ c.toNat W
          rw [u8_round] at h
          rw [show Lib.indexByte (⟨#[34, 92, 47, 98, 102, 110, 114, 116]⟩ : ByteArray).data.toList c = -1 from h2] at h; exact h
        clear hr hE hc h1 h2
        go_enter Tryz.func76, Tryz.ntmps76
        go_wp2_with fail
        refine c1.mono ?_; rintro e w1 ⟨rfl, hr1, hm1⟩
        obtain ⟨a, ha, hR, hsc, hdr⟩ := after w1 hr1
        subst hsc
        have c2 := ended_no d s a o w1 hR ha
        have HDR := Lib.hid hdr
        clear hdr after
        go_wp2_with fail
        refine c2.mono ?_; rintro e w2 ⟨rfl, nq, hw2⟩
        have hR2 : Rd d s a o w2 := by rw [hw2]; exact hR.drewN nq
        have hr2 : RdL d s (s[a] :: r) o w2 := by rw [hw2]; exact hr1.below ⟨rfl, rfl, rfl, Nat.le_refl _, fun _ _ => rfl⟩
        have hm2 : Mut w.heap.size d w w2 := by rw [hw2]; exact hm1.drewN nq
        have q0 := hR2.c0
        have q1 := hR2.c1
        have b0 : (0 : Int) ≤ (a : Int) := by omega
        have b1 : (a : Int) < (s.size : Int) := by omega
        clear hw2 hr1 hm1 hR
        go_wp2_with fail
        go_quiet ((go_at_call 61; exact Calls.quiet_of_same (cI _)))
        go_wp2_with fail
        go_ret2
        exact readsS_none hres.out (hr2.below ⟨rfl, rfl, rfl, Nat.le_refl _, fun _ _ => rfl⟩) (hm2.drewN _)
      · have hres := Lib.hid (escape_yes (r := r) hc h1)
        have cI : ∀ W, Calls Tryz.prog 61 #[.string ⟨#[34, 92, 47, 98, 102, 110, 114, 116]⟩, .int .u8 c.toNat] W fun e w' => e = .returned (.int .i64 i.val) ∧ w' = W := fun W => by
          have h := Tryz.strings_IndexByte ⟨#[34, 92, 47, 98, 102, 110, 114, 116]⟩ c.toNat W
          rw [u8_round] at h
          rw [show Lib.indexByte (⟨#[34, 92, 47, 98, 102, 110, 114, 116]⟩ : ByteArray).data.toList c = i.val from h2] at h; exact h
        clear hr hE hc h1 h2
        have h8 := i.isLt
        obtain ⟨i, hi⟩ := i
        match i, hi, h8 with
        | 0, _, _ =>
          go_enter Tryz.func76, Tryz.ntmps76
          go_wp2_with fail
          refine c1.mono ?_; rintro e w1 ⟨rfl, hr1, hm1⟩
          obtain ⟨a, ha, hR, hsc, hdr⟩ := after w1 hr1
          subst hsc
          have c2 := ended_no d s a o w1 hR ha
          have HDR := Lib.hid hdr
          clear hdr after
          go_wp2_with fail
          refine c2.mono ?_; rintro e w2 ⟨rfl, nq, hw2⟩
          have hR2 : Rd d s a o w2 := by rw [hw2]; exact hR.drewN nq
          have hm2 : Mut w.heap.size d w w2 := by rw [hw2]; exact hm1.drewN nq
          have q0 := hR2.c0
          have q1 := hR2.c1
          have q2 := hR2.f1
          have b0 : (0 : Int) ≤ (a : Int) := by omega
          have b1 : (a : Int) < (s.size : Int) := by omega
          clear hw2 hr1 hm1 hR
          go_wp2_with fail
          go_quiet ((go_at_call 61; exact Calls.quiet_of_same (cI _)))
          go_wp2_with fail
          go_ret2
          exact readsS_some hres.out (by unfold wrap32; decide +kernel) (RdL.of (a + 1) _ (by omega) (by omega) HDR.out ((hR2.drewN _).set1 _)) ((hm2.drewN _).setCell 1 _)
        | 1, _, _ =>
          go_enter Tryz.func76, Tryz.ntmps76
          go_wp2_with fail
          refine c1.mono ?_; rintro e w1 ⟨rfl, hr1, hm1⟩
          obtain ⟨a, ha, hR, hsc, hdr⟩ := after w1 hr1
          subst hsc
          have c2 := ended_no d s a o w1 hR ha
          have HDR := Lib.hid hdr
          clear hdr after
          go_wp2_with fail
          refine c2.mono ?_; rintro e w2 ⟨rfl, nq, hw2⟩
          have hR2 : Rd d s a o w2 := by rw [hw2]; exact hR.drewN nq
          have hm2 : Mut w.heap.size d w w2 := by rw [hw2]; exact hm1.drewN nq
          have q0 := hR2.c0
          have q1 := hR2.c1
          have q2 := hR2.f1
          have b0 : (0 : Int) ≤ (a : Int) := by omega
          have b1 : (a : Int) < (s.size : Int) := by omega
          clear hw2 hr1 hm1 hR
          go_wp2_with fail
          go_quiet ((go_at_call 61; exact Calls.quiet_of_same (cI _)))
          go_wp2_with fail
          go_ret2
          exact readsS_some hres.out (by unfold wrap32; decide +kernel) (RdL.of (a + 1) _ (by omega) (by omega) HDR.out ((hR2.drewN _).set1 _)) ((hm2.drewN _).setCell 1 _)
        | 2, _, _ =>
          go_enter Tryz.func76, Tryz.ntmps76
          go_wp2_with fail
          refine c1.mono ?_; rintro e w1 ⟨rfl, hr1, hm1⟩
          obtain ⟨a, ha, hR, hsc, hdr⟩ := after w1 hr1
          subst hsc
          have c2 := ended_no d s a o w1 hR ha
          have HDR := Lib.hid hdr
          clear hdr after
          go_wp2_with fail
          refine c2.mono ?_; rintro e w2 ⟨rfl, nq, hw2⟩
          have hR2 : Rd d s a o w2 := by rw [hw2]; exact hR.drewN nq
          have hm2 : Mut w.heap.size d w w2 := by rw [hw2]; exact hm1.drewN nq
          have q0 := hR2.c0
          have q1 := hR2.c1
          have q2 := hR2.f1
          have b0 : (0 : Int) ≤ (a : Int) := by omega
          have b1 : (a : Int) < (s.size : Int) := by omega
          clear hw2 hr1 hm1 hR
          go_wp2_with fail
          go_quiet ((go_at_call 61; exact Calls.quiet_of_same (cI _)))
          go_wp2_with fail
          go_ret2
          exact readsS_some hres.out (by unfold wrap32; decide +kernel) (RdL.of (a + 1) _ (by omega) (by omega) HDR.out ((hR2.drewN _).set1 _)) ((hm2.drewN _).setCell 1 _)
        | 3, _, _ =>
          go_enter Tryz.func76, Tryz.ntmps76
          go_wp2_with fail
          refine c1.mono ?_; rintro e w1 ⟨rfl, hr1, hm1⟩
          obtain ⟨a, ha, hR, hsc, hdr⟩ := after w1 hr1
          subst hsc
          have c2 := ended_no d s a o w1 hR ha
          have HDR := Lib.hid hdr
          clear hdr after
          go_wp2_with fail
          refine c2.mono ?_; rintro e w2 ⟨rfl, nq, hw2⟩
          have hR2 : Rd d s a o w2 := by rw [hw2]; exact hR.drewN nq
          have hm2 : Mut w.heap.size d w w2 := by rw [hw2]; exact hm1.drewN nq
          have q0 := hR2.c0
          have q1 := hR2.c1
          have q2 := hR2.f1
          have b0 : (0 : Int) ≤ (a : Int) := by omega
          have b1 : (a : Int) < (s.size : Int) := by omega
          clear hw2 hr1 hm1 hR
          go_wp2_with fail
          go_quiet ((go_at_call 61; exact Calls.quiet_of_same (cI _)))
          go_wp2_with fail
          go_ret2
          exact readsS_some hres.out (by unfold wrap32; decide +kernel) (RdL.of (a + 1) _ (by omega) (by omega) HDR.out ((hR2.drewN _).set1 _)) ((hm2.drewN _).setCell 1 _)
        | 4, _, _ =>
          go_enter Tryz.func76, Tryz.ntmps76
          go_wp2_with fail
          refine c1.mono ?_; rintro e w1 ⟨rfl, hr1, hm1⟩
          obtain ⟨a, ha, hR, hsc, hdr⟩ := after w1 hr1
          subst hsc
          have c2 := ended_no d s a o w1 hR ha
          have HDR := Lib.hid hdr
          clear hdr after
          go_wp2_with fail
          refine c2.mono ?_; rintro e w2 ⟨rfl, nq, hw2⟩
          have hR2 : Rd d s a o w2 := by rw [hw2]; exact hR.drewN nq
          have hm2 : Mut w.heap.size d w w2 := by rw [hw2]; exact hm1.drewN nq
          have q0 := hR2.c0
          have q1 := hR2.c1
          have q2 := hR2.f1
          have b0 : (0 : Int) ≤ (a : Int) := by omega
          have b1 : (a : Int) < (s.size : Int) := by omega
          clear hw2 hr1 hm1 hR
          go_wp2_with fail
          go_quiet ((go_at_call 61; exact Calls.quiet_of_same (cI _)))
          go_wp2_with fail
          go_ret2
          exact readsS_some hres.out (by unfold wrap32; decide +kernel) (RdL.of (a + 1) _ (by omega) (by omega) HDR.out ((hR2.drewN _).set1 _)) ((hm2.drewN _).setCell 1 _)
        | 5, _, _ =>
          go_enter Tryz.func76, Tryz.ntmps76
          go_wp2_with fail
          refine c1.mono ?_; rintro e w1 ⟨rfl, hr1, hm1⟩
          obtain ⟨a, ha, hR, hsc, hdr⟩ := after w1 hr1
          subst hsc
          have c2 := ended_no d s a o w1 hR ha
          have HDR := Lib.hid hdr
          clear hdr after
          go_wp2_with fail
          refine c2.mono ?_; rintro e w2 ⟨rfl, nq, hw2⟩
          have hR2 : Rd d s a o w2 := by rw [hw2]; exact hR.drewN nq
          have hm2 : Mut w.heap.size d w w2 := by rw [hw2]; exact hm1.drewN nq
          have q0 := hR2.c0
          have q1 := hR2.c1
          have q2 := hR2.f1
          have b0 : (0 : Int) ≤ (a : Int) := by omega
          have b1 : (a : Int) < (s.size : Int) := by omega
          clear hw2 hr1 hm1 hR
          go_wp2_with fail
          go_quiet ((go_at_call 61; exact Calls.quiet_of_same (cI _)))
          go_wp2_with fail
          go_ret2
          exact readsS_some hres.out (by unfold wrap32; decide +kernel) (RdL.of (a + 1) _ (by omega) (by omega) HDR.out ((hR2.drewN _).set1 _)) ((hm2.drewN _).setCell 1 _)
        | 6, _, _ =>
          go_enter Tryz.func76, Tryz.ntmps76
          go_wp2_with fail
          refine c1.mono ?_; rintro e w1 ⟨rfl, hr1, hm1⟩
          obtain ⟨a, ha, hR, hsc, hdr⟩ := after w1 hr1
          subst hsc
          have c2 := ended_no d s a o w1 hR ha
          have HDR := Lib.hid hdr
          clear hdr after
          go_wp2_with fail
          refine c2.mono ?_; rintro e w2 ⟨rfl, nq, hw2⟩
          have hR2 : Rd d s a o w2 := by rw [hw2]; exact hR.drewN nq
          have hm2 : Mut w.heap.size d w w2 := by rw [hw2]; exact hm1.drewN nq
          have q0 := hR2.c0
          have q1 := hR2.c1
          have q2 := hR2.f1
          have b0 : (0 : Int) ≤ (a : Int) := by omega
          have b1 : (a : Int) < (s.size : Int) := by omega
          clear hw2 hr1 hm1 hR
          go_wp2_with fail
          go_quiet ((go_at_call 61; exact Calls.quiet_of_same (cI _)))
          go_wp2_with fail
          go_ret2
          exact readsS_some hres.out (by unfold wrap32; decide +kernel) (RdL.of (a + 1) _ (by omega) (by omega) HDR.out ((hR2.drewN _).set1 _)) ((hm2.drewN _).setCell 1 _)
        | 7, _, _ =>
          go_enter Tryz.func76, Tryz.ntmps76
          go_wp2_with fail
          refine c1.mono ?_; rintro e w1 ⟨rfl, hr1, hm1⟩
          obtain ⟨a, ha, hR, hsc, hdr⟩ := after w1 hr1
          subst hsc
          have c2 := ended_no d s a o w1 hR ha
          have HDR := Lib.hid hdr
          clear hdr after
          go_wp2_with fail
          refine c2.mono ?_; rintro e w2 ⟨rfl, nq, hw2⟩
          have hR2 : Rd d s a o w2 := by rw [hw2]; exact hR.drewN nq
          have hm2 : Mut w.heap.size d w w2 := by rw [hw2]; exact hm1.drewN nq
          have q0 := hR2.c0
          have q1 := hR2.c1
          have q2 := hR2.f1
          have b0 : (0 : Int) ≤ (a : Int) := by omega
          have b1 : (a : Int) < (s.size : Int) := by omega
          clear hw2 hr1 hm1 hR
          go_wp2_with fail
          go_quiet ((go_at_call 61; exact Calls.quiet_of_same (cI _)))
          go_wp2_with fail
          go_ret2
          exact readsS_some hres.out (by unfold wrap32; decide +kernel) (RdL.of (a + 1) _ (by omega) (by omega) HDR.out ((hR2.drewN _).set1 _)) ((hm2.drewN _).setCell 1 _)
end Go.Proofs.YtfjdeacpdcnjpaaGreatDoor.V
