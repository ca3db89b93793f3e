/- Law ScanJoins under Prg. -/
import Derived.Test.YtnpmlnjkjijdpaaDoorSLOrder
import Derived.Deep.DeepCutAuto
namespace Go.Proofs.YtnpmlnjkjijdpaaDoor.S
open Go.RowKit
open Go.Lib hiding intOf
open Go.Proofs.YtnpmlnjkjijdpaaDoor.U Go.Proofs.YtnpmlnjkjijdpaaDoor.L

theorem neq_self (k f e : Int) (x : ByteArray) (W : World) : (binOp .neq 30 (.agg #[.int .i64 k, .string x, .int .i64 f, .int .i64 e]) (.agg #[.int .i64 k, .string x, .int .i64 f, .int .i64 e])).run Tryd.prog W = .ok (.bool false) W := by
  rw [run_neq_struct, show (10000 : Nat) = 9998 + 1 + 1 from rfl, tok_eq]; simp
theorem rises_all {s : By} : ∀ {l : List TokP} {a : Nat}, Rises s a l → ∀ t ∈ l, ∃ f e : Nat, t.f = f ∧ t.e = e ∧ f ≤ e ∧ e ≤ s.length
  | _, _, .nil _, _, h => by cases h
  | _, _, .cons h _ hr, t, ht => by
    rcases List.mem_cons.1 ht with rfl | ht
    · exact ⟨_, _, h.from_, h.to, h.fe, h.end_⟩
    · exact rises_all hr t ht
/-- The bytes of two texts up to a place are low. -/
def LowTo (a b : ByteArray) (i : Nat) : Prop := (∀ j (h : j < a.size), j < i → a[j].toNat < 128) ∧ (∀ j (h : j < b.size), a.size + j < i → b[j].toNat < 128)
theorem low_all {a : ByteArray} (h : ∀ j (h : j < a.size), a[j].toNat < 128) : Low a.toList := fun c hc => by
  obtain ⟨j, hj, rfl⟩ := List.getElem_of_mem hc
  have hz : j < a.size := by rw [← tl_len]; exact hj
  have h1 := h j hz
  have h2 := tl_get a hz
  rw [List.getElem?_eq_getElem hj] at h2
  rw [Option.some.inj h2]; exact h1
theorem lowTo_a {a b : ByteArray} {i : Nat} (h : LowTo a b i) (hi : i < a.size) (hc : a[i].toNat < 128) : LowTo a b (i + 1) :=
  ⟨fun j hj h1 => by
    by_cases e : j < i
    · exact h.1 j hj e
    · obtain rfl : j = i := by omega
      exact hc, fun j _ h1 => by omega⟩
theorem lowTo_b {a b : ByteArray} {i : Nat} (h : LowTo a b i) (hi : a.size ≤ i) (hb : i - a.size < b.size) (hc : b[i - a.size].toNat < 128) : LowTo a b (i + 1) :=
  ⟨fun j hj h1 => h.1 j hj (by omega), fun j hj h1 => by
    by_cases e : a.size + j < i
    · exact h.2 j hj e
    · obtain rfl : j = i - a.size := by omega
      exact hc⟩
set_option maxHeartbeats 8000000 in
set_option maxRecDepth 20000 in
theorem joins_short (P : Prg) (a b : ByteArray) (w : World) (ha : a.size ≤ 250) (hb : b.size ≤ 250) (hT : Tabs w) : Calls Tryd.prog 7 #[.string a, .string b] w fun e w' => e = .returned (.bool true) ∧ Below w.heap.size w w' := by
  have CA := Lib.hid (fun X (hX : Below w.heap.size w X) => alive_any P X (hT.later hX))
  have HX := Lib.hid (fun W (hW : Below w.heap.size w W) => P.scan a W (by omega) (hT.later hW))
  have HY := Lib.hid (fun W (hW : Below w.heap.size w W) => P.scan b W (by omega) (hT.later hW))
  have hzs : (a ++ ⟨#[10]⟩ ++ b).size ≤ 1000 := by rw [ByteArray.size_append, ByteArray.size_append]; show a.size + 1 + b.size ≤ _; omega
  have HZ := Lib.hid (fun W (hW : Below w.heap.size w W) => P.scan (a ++ ⟨#[10]⟩ ++ b) W (by omega) (hT.later hW))
  go_enter Tryd.func7, Tryd.ntmps7
  go_wp2_with fail
  go_loop [5] (fun iv => ∃ i : Nat, iv = .int .i64 i ∧ i ≤ a.size + b.size ∧ Hid (LowTo a b i)) (fun iv => a.size + b.size - (intOf iv).toNat)
  case atStart => exact ⟨0, rfl, Nat.zero_le _, Lib.hid ⟨fun _ _ h => by omega, fun _ _ h => by omega⟩⟩
  case round =>
    obtain ⟨i, rfl, hi, HL⟩ := hrel
    by_cases hlt : i < a.size + b.size
    · by_cases hia : i < a.size
      · have hst := lowTo_a HL.out hia
        obtain ⟨z, hz⟩ : ∃ z, a[i] = z := ⟨_, rfl⟩
        rw [hz] at hst
        by_cases h128 : z.toNat < 128
        · have HN := Lib.hid (hst h128)
          clear hst
          go_wp2_with fail
          go_round
          case rel => exact ⟨i + 1, by go_num, by omega, HN⟩
          case measure => simp [intOf]; omega
        · clear hst
          go_wp2_with fail
          refine (CA.out w (Below.refl _ _)).mono ?_
          rintro e w5 ⟨rfl, hb5⟩
          go_wp2_with fail
          go_ret
          exact ⟨rfl, hb5⟩
      · have hib : i - a.size < b.size := by omega
        have hst := lowTo_b HL.out (by omega) hib
        obtain ⟨j, hj⟩ : ∃ j, i = a.size + j := ⟨i - a.size, by omega⟩
        subst hj
        have hjj : a.size + j - a.size = j := by omega
        simp only [hjj] at hib hst
        obtain ⟨z, hz⟩ : ∃ z, b[j] = z := ⟨_, rfl⟩
        rw [hz] at hst
        clear hjj
        by_cases h128 : z.toNat < 128
        · have HN := Lib.hid (hst h128)
          clear hst
          go_wp2_with fail
          go_round
          case rel => exact ⟨a.size + j + 1, by go_num, by omega, HN⟩
          case measure => simp [intOf]; omega
        · clear hst
          go_wp2_with fail
          refine (CA.out w (Below.refl _ _)).mono ?_
          rintro e w5 ⟨rfl, hb5⟩
          go_wp2_with fail
          go_ret
          exact ⟨rfl, hb5⟩
    · obtain rfl : i = a.size + b.size := by omega
      have hla : Low a.toList := low_all (fun j hj => HL.out.1 j hj (by omega))
      have hlb : Low b.toList := low_all (fun j hj => HL.out.2 j hj (by omega))
      have hcat : (a ++ ⟨#[10]⟩ ++ b).toList = a.toList ++ 10 :: b.toList := by rw [cat_list, cat_list]; simp [ByteArray.toList_eq]
      have hj := scan_join (okB (a ++ ⟨#[10]⟩ ++ b)) (okB a) (okB b) a.toList b.toList hla hlb
      rw [← hcat, tl_len] at hj
      have hra := rises_all (scan_rises (okB a) a.toList)
      have hrb := rises_all (scan_rises (okB b) b.toList)
      have hlx := scan_len (okB a) a
      have hly := scan_len (okB b) b
      obtain ⟨X, hX⟩ : ∃ X, scanB (okB a) a.toList = X := ⟨_, rfl⟩
      obtain ⟨Y, hY⟩ : ∃ X, scanB (okB b) b.toList = X := ⟨_, rfl⟩
      obtain ⟨S, hS⟩ : ∃ X, a ++ ⟨#[10]⟩ ++ b = X := ⟨_, rfl⟩
      have HX1 := HX.out w (Below.refl _ _)
      have HY1 := HY.out
      have HZ1 := HZ.out
      rw [hX] at hj hra hlx HX1
      simp only [hY] at hj hrb hly HY1
      simp only [hS] at hj HZ1
      obtain ⟨Z, hZ⟩ : ∃ X, scanB (okB S) S.toList = X := ⟨_, rfl⟩
      simp only [hZ] at hj HZ1
      have HS := Lib.hid hS
      clear hX hY hZ hS hla hlb hcat hlt hzs HX HY HZ HL hi
      obtain ⟨m, hm⟩ : ∃ m, X.length = m := ⟨_, rfl⟩
      obtain ⟨n, hn⟩ : ∃ m, Y.length = m := ⟨_, rfl⟩
      have hmn : Z.length = m + n := by rw [hj, List.length_append, List.length_map, List.length_map, hm, hn]
      have HJ := Lib.hid hj
      have HM := Lib.hid hm
      have HN := Lib.hid hn
      have HMN := Lib.hid hmn
      have HRA := Lib.hid hra
      have HRB := Lib.hid hrb
      rw [hm] at hlx
      rw [hn] at hly
      clear hj hra hrb
      have HZ2 := Lib.hid HZ1
      have HY2 := Lib.hid HY1
      clear HZ1 HY1
      go_wp2_with fail
      refine HX1.mono ?_
      rintro e w1 ⟨x, rfl, hx, hb1⟩
      obtain ⟨xa, xc, rfl, _, hxc⟩ := hx
      rw [hm]
      have HXC := Lib.hid hxc
      have HB1 := Lib.hid hb1
      clear hm HX1 hxc hb1
      go_wp2_with fail
      refine (HY2.out w1 HB1.out).mono ?_
      rintro e w2 ⟨y, rfl, hy, hb2⟩
      obtain ⟨ya, yc, rfl, _, hyc⟩ := hy
      rw [hn]
      have HYC := Lib.hid hyc
      have HB2 := Lib.hid hb2
      clear hn HY2 hyc hb2
      go_wp2_with fail
      rw [HS.out]
      refine (HZ2.out w2 (HB1.out.trans (HB2.out.mono HB1.out.size))).mono ?_
      rintro e w3 ⟨z, rfl, hz, hb3⟩
      obtain ⟨za, zc, rfl, _, hzc⟩ := hz
      rw [hmn]
      have HZC := Lib.hid hzc
      have HB3 := Lib.hid hb3
      clear hmn HZ2 hzc hb3
      go_wp2_with fail
      go_loopw [9] (fun iv wr => ∃ i : Nat, iv = .int .i64 i ∧ i ≤ m + n ∧ Hid (Below w3.heap.size w3 wr)) (fun iv _ => m + n - (intOf iv).toNat)
      case atStart => exact ⟨0, rfl, Nat.zero_le _, Lib.hid (Below.refl _ _)⟩
      case round =>
        obtain ⟨i, rfl, hi, HL⟩ := hrel
        by_cases hlt : i < m + n
        · have hiz : i < Z.length := by rw [HMN.out]; exact hlt
          obtain ⟨zg, zo, rfl, _, hzg, hzat⟩ := HZC.out.resolve_left (fun h => by rw [h] at hiz; exact Nat.not_lt_zero _ hiz)
          have hzw : zg < wr.heap.size := by have := HL.out.size; omega
          have HB23 := Lib.hid (HB3.out.trans (HL.out.mono HB3.out.size))
          have HB123 := Lib.hid (HB2.out.trans (HB23.out.mono HB2.out.size))
          obtain ⟨r0, r1, r2, r3⟩ := tok_at i (fun j u hj => (HL.out.cell (p := ⟨zg, zo + j, none⟩) hzg).trans (hzat j u hj)) hiz
          clear hzat
          by_cases him : i < m
          · have hix : i < X.length := by rw [HM.out]; exact him
            obtain ⟨xg, xo, rfl, _, hxg, hxat⟩ := HXC.out.resolve_left (fun h => by rw [h] at hix; exact Nat.not_lt_zero _ hix)
            have hxw : xg < wr.heap.size := by have := HB123.out.size; omega
            obtain ⟨p0, p1, p2, p3⟩ := tok_at i (fun j u hj => (HB123.out.cell (p := ⟨xg, xo + j, none⟩) hxg).trans (hxat j u hj)) hix
            obtain ⟨f, e, hf, he, hfe, hea⟩ := HRA.out X[i] (List.getElem_mem hix)
            rw [tl_len] at hea
            have hzi : Z[i] = fixT a.size X[i] := by
              have h1 : Z[i]? = (X.map (fixT a.size) ++ Y.map (shiftT (a.size + 1)))[i]? := by rw [← HJ.out]
              rw [List.getElem?_eq_getElem hiz, List.getElem?_append_left (by rw [List.length_map]; exact hix), List.getElem?_map, List.getElem?_eq_getElem hix] at h1
              exact Option.some.inj h1
            rw [hzi] at r0 r1 r2 r3
            generalize X[i] = t at p0 p1 p2 p3 r0 r1 r2 r3 hf he
            obtain ⟨tw, tt, tf, te⟩ := t
            simp only at hf he
            subst hf he
            unfold fixT at r0 r1 r2 r3
            clear hxat hzi
            by_cases hfa : f = a.size
            · subst hfa
              simp only [if_true] at r0 r1 r2 r3
              have hq := neq_self tw a.size (e + 1) ⟨tt.toArray⟩
              go_wp2_with fail
              go_quiet (fail)
              go_wp2_with fail
              go_roundw
              case rel => exact ⟨i + 1, by go_num, by omega, Lib.hid (drewB (HL.out.alloc HL.out.size _) _)⟩
              case measure => simp [intOf]; omega
            · have hfa2 : ¬ (f : Int) = (a.size : Int) := by omega
              simp only [if_neg hfa2] at r0 r1 r2 r3
              have hq := neq_self tw f e ⟨tt.toArray⟩
              go_wp2_with fail
              go_quiet (fail)
              go_wp2_with fail
              go_roundw
              case rel => exact ⟨i + 1, by go_num, by omega, Lib.hid (drewB (HL.out.alloc HL.out.size _) _)⟩
              case measure => simp [intOf]; omega
          · obtain ⟨j, hj⟩ : ∃ j, i = m + j := ⟨i - m, by omega⟩
            subst hj
            have hiy : j < Y.length := by rw [HN.out]; omega
            obtain ⟨yg, yo, rfl, _, hyg, hyat⟩ := HYC.out.resolve_left (fun h => by rw [h] at hiy; exact Nat.not_lt_zero _ hiy)
            have hyw : yg < wr.heap.size := by have := HB23.out.size; omega
            obtain ⟨p0, p1, p2, p3⟩ := tok_at j (fun j u hj => (HB23.out.cell (p := ⟨yg, yo + j, none⟩) hyg).trans (hyat j u hj)) hiy
            obtain ⟨f, e, hf, he, hfe, hea⟩ := HRB.out Y[j] (List.getElem_mem hiy)
            rw [tl_len] at hea
            have hzi : Z[m + j] = shiftT (a.size + 1) Y[j] := by
              have h1 : Z[m + j]? = (X.map (fixT a.size) ++ Y.map (shiftT (a.size + 1)))[m + j]? := by rw [← HJ.out]
              rw [List.getElem?_eq_getElem hiz, List.getElem?_append_right (by rw [List.length_map, HM.out]; omega), List.length_map, HM.out, Nat.add_sub_cancel_left, List.getElem?_map, List.getElem?_eq_getElem hiy] at h1
              exact Option.some.inj h1
            rw [hzi] at r0 r1 r2 r3
            generalize Y[j] = t at p0 p1 p2 p3 r0 r1 r2 r3 hf he
            obtain ⟨tw, tt, tf, te⟩ := t
            simp only at hf he
            subst hf he
            simp only [shiftT] at r0 r1 r2 r3
            rw [show (f : Int) + ((a.size + 1 : Nat) : Int) = f + a.size + 1 by omega] at r2
            rw [show (e : Int) + ((a.size + 1 : Nat) : Int) = e + a.size + 1 by omega] at r3
            have hq := neq_self tw (f + a.size + 1) (e + a.size + 1) ⟨tt.toArray⟩
            clear hyat hzi
            go_wp2_with fail
            go_quiet (fail)
            go_wp2_with fail
            go_roundw
            case rel => exact ⟨m + j + 1, by go_num, by omega, Lib.hid (drewB (HL.out.alloc HL.out.size _) _)⟩
            case measure => simp [intOf]; omega
        · obtain rfl : i = m + n := by omega
          go_wp2_with fail
          refine (CA.out wr (by
            have h1 := HB1.out.trans (HB2.out.mono HB1.out.size)
            have h2 := h1.trans (HB3.out.mono h1.size)
            exact h2.trans (HL.out.mono h2.size))).mono ?_
          rintro e w5 ⟨rfl, hb5⟩
          have HB5 := Lib.hid (HL.out.trans (hb5.mono HL.out.size))
          clear hb5
          go_wp2_with fail
          go_ret
          exact ⟨rfl, by
            have h1 := HB1.out.trans (HB2.out.mono HB1.out.size)
            have h2 := h1.trans (HB3.out.mono h1.size)
            exact h2.trans (HB5.out.mono h2.size)⟩
set_option maxHeartbeats 8000000 in
set_option maxRecDepth 20000 in
theorem joins_any (P : Prg) (a b : ByteArray) (w : World) (hT : Tabs w) : Calls Tryd.prog 7 #[.string a, .string b] w fun e w' => e = .returned (.bool true) ∧ Below w.heap.size w w' := by
  by_cases ha : a.size ≤ 250
  · by_cases hb : b.size ≤ 250
    · exact joins_short P a b w ha hb hT
    · have cA := fun X hX => alive_any P X (hT.later hX)
      go_enter Tryd.func7, Tryd.ntmps7
      go_wp2_with fail
      refine (cA w (Below.refl _ _)).mono ?_
      rintro e w3 ⟨rfl, hb3⟩
      go_wp2_with fail
      go_ret
      exact ⟨rfl, hb3⟩
  · have cA := fun X hX => alive_any P X (hT.later hX)
    go_enter Tryd.func7, Tryd.ntmps7
    go_wp2_with fail
    refine (cA w (Below.refl _ _)).mono ?_
    rintro e w3 ⟨rfl, hb3⟩
    go_wp2_with fail
    go_ret
    exact ⟨rfl, hb3⟩
end Go.Proofs.YtnpmlnjkjijdpaaDoor.S
