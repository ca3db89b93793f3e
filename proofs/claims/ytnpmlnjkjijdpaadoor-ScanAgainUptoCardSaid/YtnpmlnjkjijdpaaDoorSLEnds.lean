/- Law ScanEnds under Prg. -/
import Derived.Test.YtnpmlnjkjijdpaaDoorSLWords
import Derived.Deep.RegionHeld3
import Derived.Deep.RegionWith
import Derived.BigRegion
import Derived.Deep.DeepCutAuto
namespace Go.Proofs.YtnpmlnjkjijdpaaDoor.S
open Go.RowKit
open Go.Lib hiding intOf
open Go.Proofs.YtnpmlnjkjijdpaaDoor.U Go.Proofs.YtnpmlnjkjijdpaaDoor.L

def szs : List TokP → Nat
  | [] => 0
  | t :: r => t.t.length + szs r
theorem szs_app : ∀ a b : List TokP, szs (a ++ b) = szs a + szs b
  | [], b => by simp [szs]
  | t :: r, b => by simp only [List.cons_append, szs, szs_app r b]; omega
theorem szs_step (l : List TokP) {i : Nat} (h : i < l.length) : szs (l.take (i + 1)) = szs (l.take i) + l[i].t.length := by
  rw [take_snoc l h, szs_app]; simp [szs]
theorem szs_mem : ∀ (l : List TokP) {t : TokP}, t ∈ l → t.t.length ≤ szs l
  | u :: r, t, h => by
    rcases List.mem_cons.1 h with rfl | h
    · simp only [szs]; omega
    · have := szs_mem r h; simp only [szs]; omega
theorem szs_le {N : Nat} : ∀ (l : List TokP), (∀ t ∈ l, t.t.length ≤ N) → szs l ≤ l.length * N
  | [], _ => by simp [szs]
  | t :: r, h => by
    have h1 := h t (by simp)
    have h2 := szs_le r (fun u hu => h u (by simp [hu]))
    simp only [szs, List.length_cons, Nat.add_mul, Nat.one_mul]; omega
set_option maxHeartbeats 8000000 in
set_option maxRecDepth 20000 in
theorem ends_law (P : Prg) (B : Nat) (l : List TokP) (v : Value) (w : World) (h : ToksIn B w l v) (hl : l.length ≤ 281474976710656) (ht : ∀ t ∈ l, t.t.length ≤ 281474976710656) (hT : Tabs w) :
    Calls Tryd.prog 4 #[v] w fun e w' => e = .returned (.bool true) ∧ Below w.heap.size w w' := by
  have HV := Lib.hid h
  obtain ⟨oa, cap, rfl, hcap, hc⟩ := h
  obtain ⟨m, hm⟩ : ∃ m, l.length = m := ⟨_, rfl⟩
  have HM := Lib.hid hm
  have HC := Lib.hid hc
  have HT := Lib.hid ht
  rw [hm] at hl HV hcap ⊢
  have CA := Lib.hid (fun X (hX : Below w.heap.size w X) => alive_any P X (hT.later hX))
  have CE := Lib.hid (fun k f e' t X (hx : t.size ≤ 1000000) => P.ends k f e' t X hx)
  have CF := Lib.hid (fun k f e' t X => ends_any k f e' t X)
  have CB := Lib.hid P.brief
  clear hc hm ht
  go_enter Tryd.func4, Tryd.ntmps4
  go_wp2_with fail
  go_loop [3, 4] (fun nv iv => ∃ (i n : Nat), nv = .int .i64 n ∧ iv = .int .i64 i ∧ i ≤ m ∧ i ≤ 201 ∧ n ≤ i * 281474976710656 ∧ Hid (n = szs (l.take i))) (fun _ iv => m - (intOf iv).toNat)
  case atStart => exact ⟨0, 0, rfl, rfl, Nat.zero_le _, Nat.zero_le _, Nat.zero_le _, Lib.hid rfl⟩
  case round =>
    obtain ⟨i, n, rfl, rfl, hi, hi2, hn, HN⟩ := hrel
    by_cases hlt : i < m
    · have hil : i < l.length := by rw [HM.out]; exact hlt
      by_cases h201 : i ≤ 200
      · obtain ⟨g, off, rfl, hBg, hgw, hat⟩ := HC.out.resolve_left (fun h => by rw [h] at hil; exact Nat.not_lt_zero _ hil)
        obtain ⟨p0, p1, p2, p3⟩ := tok_at i hat hil
        have hst := szs_step l hil
        have htl := HT.out l[i] (List.getElem_mem hil)
        generalize l[i] = t at p0 p1 p2 p3 hst htl
        obtain ⟨x, hx⟩ : ∃ x : ByteArray, (⟨t.t.toArray⟩ : ByteArray) = x := ⟨_, rfl⟩
        have hxz : x.size = t.t.length := by rw [← tl_len, ← hx, tl_arr]
        rw [hx] at p1
        rw [← hxz, ← HN.out] at hst
        rw [← hxz] at htl
        have HST := Lib.hid hst.symm
        clear hat hst hx hxz
        go_wp2_with fail
        go_round
        case rel => exact ⟨i + 1, n + x.size, by go_num, by go_num, by omega, by omega, by omega, HST⟩
        case measure => simp [intOf]; omega
      · have hm2 : ¬ m ≤ 200 := by omega
        go_wp2_with fail
        refine (CA.out w (Below.refl _ _)).mono ?_
        rintro e w5 ⟨rfl, hb5⟩
        go_wp2_with fail
        go_ret
        exact ⟨rfl, hb5⟩
    · obtain rfl : i = m := by omega
      by_cases h201 : i ≤ 200
      · by_cases h500 : n ≤ 500
        · have hsz : szs l = n := by rw [HN.out, ← HM.out, List.take_length]
          have HB : Hid ((briefL l).length ≤ 1000000000) := Lib.hid (by
            refine Nat.le_trans (brief_len (N := 500) l (fun t ht => by have := szs_mem l ht; omega)) ?_
            rw [HM.out]; omega)
          have HT5 := Lib.hid (fun t (ht : t ∈ l) => show t.t.length ≤ 500 by have := szs_mem l ht; omega)
          clear hsz
          go_wp2_with fail
          go_loopw [5] (fun kv wr => ∃ k : Nat, kv = .int .i64 k ∧ k ≤ i ∧ Hid (Below w.heap.size w wr)) (fun kv _ => i - (intOf kv).toNat)
          case atStart => exact ⟨0, rfl, Nat.zero_le _, Lib.hid (Below.refl _ _)⟩
          case round =>
            obtain ⟨k, rfl, hk, HL⟩ := hrel
            by_cases hlk : k < i
            · have hil : k < l.length := by rw [HM.out]; exact hlk
              obtain ⟨g, off, rfl, hBg, hgw, hat⟩ := HC.out.resolve_left (fun h => by rw [h] at hil; exact Nat.not_lt_zero _ hil)
              obtain ⟨p0, p1, p2, p3⟩ := tok_at k (fun j u hj => (HL.out.cell (p := ⟨g, off + j, none⟩) hgw).trans (hat j u hj)) hil
              have htl := HT5.out l[k] (List.getElem_mem hil)
              have HPC := Lib.hid (fun W (hW : Below w.heap.size w W) => tok_at k (fun j u hj => (hW.cell (p := ⟨g, off + j, none⟩) hgw).trans (hat j u hj)) hil)
              generalize l[k] = t at p0 p1 p2 p3 htl HPC
              obtain ⟨x, hx⟩ : ∃ x : ByteArray, (⟨t.t.toArray⟩ : ByteArray) = x := ⟨_, rfl⟩
              have hxz : x.size = t.t.length := by rw [← tl_len, ← hx, tl_arr]
              rw [hx] at p1 HPC
              have c1 := fun X => CE.out t.w t.f t.e x X (by omega)
              obtain ⟨b, hb⟩ : ∃ b, endsP t.w x.toList = b := ⟨_, rfl⟩
              have c2 := fun X => CF.out t.w t.f t.e x X
              simp only [hb] at c1 c2
              have hcells : ∀ X, Below wr.heap.size wr X → (X.cell? ⟨g, off + k * 4, none⟩ = some (.int .i64 t.w) ∧ X.cell? ⟨g, off + k * 4 + 1, none⟩ = some (.string x) ∧ X.cell? ⟨g, off + k * 4 + 2, none⟩ = some (.int .i64 t.f) ∧ X.cell? ⟨g, off + k * 4 + 3, none⟩ = some (.int .i64 t.e) ∧ Below wr.heap.size wr X) := fun X hX => by
                obtain ⟨g0, g1, g2, g3⟩ := HPC.out X (HL.out.trans (hX.mono HL.out.size))
                exact ⟨g0, g1, g2, g3, hX⟩
              have CE2 : ∀ X, (X.cell? ⟨g, off + k * 4, none⟩ = some (.int .i64 t.w) ∧ X.cell? ⟨g, off + k * 4 + 1, none⟩ = some (.string x) ∧ X.cell? ⟨g, off + k * 4 + 2, none⟩ = some (.int .i64 t.f) ∧ X.cell? ⟨g, off + k * 4 + 3, none⟩ = some (.int .i64 t.e) ∧ Below wr.heap.size wr X) → Calls Tryd.prog 16 #[.agg #[.int .i64 t.w, .string x, .int .i64 t.f, .int .i64 t.e]] X fun e w' => e = .returned (.bool b) ∧ (w'.cell? ⟨g, off + k * 4, none⟩ = some (.int .i64 t.w) ∧ w'.cell? ⟨g, off + k * 4 + 1, none⟩ = some (.string x) ∧ w'.cell? ⟨g, off + k * 4 + 2, none⟩ = some (.int .i64 t.f) ∧ w'.cell? ⟨g, off + k * 4 + 3, none⟩ = some (.int .i64 t.e) ∧ Below wr.heap.size wr w') := fun X hX =>
                (c1 X).mono fun e w' ⟨h1, h2⟩ => ⟨h1, hcells _ (hX.2.2.2.2.trans (h2.mono hX.2.2.2.2.size))⟩
              have CF2 : ∀ X, (X.cell? ⟨g, off + k * 4, none⟩ = some (.int .i64 t.w) ∧ X.cell? ⟨g, off + k * 4 + 1, none⟩ = some (.string x) ∧ X.cell? ⟨g, off + k * 4 + 2, none⟩ = some (.int .i64 t.f) ∧ X.cell? ⟨g, off + k * 4 + 3, none⟩ = some (.int .i64 t.e) ∧ Below wr.heap.size wr X) → Calls Tryd.prog 17 #[.agg #[.int .i64 t.w, .string x, .int .i64 t.f, .int .i64 t.e]] X fun e w' => e = .returned (.bool b) ∧ (w'.cell? ⟨g, off + k * 4, none⟩ = some (.int .i64 t.w) ∧ w'.cell? ⟨g, off + k * 4 + 1, none⟩ = some (.string x) ∧ w'.cell? ⟨g, off + k * 4 + 2, none⟩ = some (.int .i64 t.f) ∧ w'.cell? ⟨g, off + k * 4 + 3, none⟩ = some (.int .i64 t.e) ∧ Below wr.heap.size wr w') := fun X hX =>
                (c2 X).mono fun e w' ⟨h1, h2⟩ => ⟨h1, hcells _ (hX.2.2.2.2.trans (h2.mono hX.2.2.2.2.size))⟩
              have hS0 := hcells wr.drew (Below.refl _ _).drew
              clear hat hx hxz htl hb c1 c2 hcells
              go_upto_region 11 with fail
              go_region_held3 (fun X => X.cell? ⟨g, off + k * 4, none⟩ = some (.int .i64 t.w) ∧ X.cell? ⟨g, off + k * 4 + 1, none⟩ = some (.string x) ∧ X.cell? ⟨g, off + k * 4 + 2, none⟩ = some (.int .i64 t.f) ∧ X.cell? ⟨g, off + k * 4 + 3, none⟩ = some (.int .i64 t.e) ∧ Below wr.heap.size wr X) (with_reducible (repeat (first | assumption))) (first
                | (go_at_call 16; (with_reducible refine (CE2 _ ?_).mono ?_); assumption; rintro e w3 ⟨rfl, hS3⟩)
                | (go_at_call 17; (with_reducible refine (CF2 _ ?_).mono ?_); assumption; rintro e w4 ⟨rfl, hS4⟩))
              have HL3 := Lib.hid (HL.out.trans (hS4.2.2.2.2.mono HL.out.size))
              clear CE2 CF2 hS0 hS3 hS4 p0 p1 p2 p3 HPC
              cases b
              · go_wp2_with fail
                go_roundw
                case rel => exact ⟨k + 1, by go_num, by omega, HL3⟩
                case measure => simp [intOf]; omega
              · go_wp2_with fail
                go_roundw
                case rel => exact ⟨k + 1, by go_num, by omega, HL3⟩
                case measure => simp [intOf]; omega
            · obtain rfl : k = i := by omega
              obtain ⟨z, hz⟩ : ∃ z, (⟨(briefL l).toArray⟩ : ByteArray) = z := ⟨_, rfl⟩
              go_wp2_with fail
              refine (CA.out wr HL.out).mono ?_
              rintro e w2 ⟨rfl, hb2⟩
              have HL2 := Lib.hid (HL.out.trans (hb2.mono HL.out.size))
              have hv2 := HV.out.later HL2.out
              have cB := CB.out _ l _ w2 hv2 (by rw [HM.out]; omega) HB.out
              rw [hz] at cB
              clear hb2 hv2
              go_wp2_with fail
              refine cB.mono ?_
              rintro e w3 ⟨rfl, hb3⟩
              have HL3 := Lib.hid (HL2.out.trans (hb3.mono HL2.out.size))
              have cB2 := refBrief_any _ l _ w3 (HV.out.later HL3.out) (by rw [HM.out]; omega) HB.out
              rw [hz] at cB2
              clear cB hb3 hz
              go_wp2_with fail
              refine cB2.mono ?_
              rintro e w4 ⟨rfl, rfl⟩
              clear cB2
              go_wp2_with fail
              go_ret
              exact ⟨rfl, HL3.out⟩
        · go_wp2_with fail
          refine (CA.out w (Below.refl _ _)).mono ?_
          rintro e w5 ⟨rfl, hb5⟩
          go_wp2_with fail
          go_ret
          exact ⟨rfl, hb5⟩
      · go_wp2_with fail
        refine (CA.out w (Below.refl _ _)).mono ?_
        rintro e w5 ⟨rfl, hb5⟩
        go_wp2_with fail
        go_ret
        exact ⟨rfl, hb5⟩
end Go.Proofs.YtnpmlnjkjijdpaaDoor.S
