/- The texts KWrap, joined. -/
import Derived.Test.YtnjhmjkonmmomaaDoorG6
/- KWrap: The program's reader: a part is begun about the last Kid. -/
section
namespace Go.Proofs.YtnjhmjkonmmomaaDoor.K
open Go.RowKit
open Go.Lib hiding intOf
open Go.Proofs.YtnjhmjkonmmomaaDoor.U Go.Proofs.YtnjhmjkonmmomaaDoor.S Go.Proofs.YtnjhmjkonmmomaaDoor.T

section
variable {d : Nat} {L : List TokP} {size : Nat} {lv : Value} {s : St} {O : Nat → Prop}
theorem parts_split {W : World} {Q : Nat → Prop} : ∀ {l : List Pt} {xs : List Value} {p : Pt}, PartsIn W Q (l ++ [p]) xs → ∃ ys plv, xs = ys ++ five p plv ∧ PartsIn W Q l ys ∧ KidsIn W Q p plv
  | [], xs, p, ⟨pv, rest, h1, h2, h3⟩ => ⟨[], pv, by rw [h1, show rest = [] from h3]; simp, rfl, h2⟩
  | q :: r, xs, p, ⟨qv, rest, h1, h2, h3⟩ => by
    obtain ⟨ys, plv, h4, h5, h6⟩ := parts_split h3
    exact ⟨five q qv ++ ys, plv, by rw [h1, h4, List.append_assoc], ⟨qv, ys, rfl, h2, h5⟩, h6⟩
/-- The last Kid is taken off. -/
theorem drop_kid {W : World} {tv ov : Value} {bs bs1 : List (Option Nat)} {us xs us1 ks : List Value} {a : Open} {r : List Open} {g c m qc : Nat} {qa : Option Addr} {l : List Pt} {p : Pt} (hM : MemX d L size lv s O tv ov bs us xs W) (hs : s.opn = a :: r) (hT : TopAt d O a r ov bs xs W g c (.slice qa (m + 1) qc) ks us1 bs1) (hk : a.kids = l ++ [p]) (hm : l.length = m) :
    ∃ gk ys plv, qa = some ⟨gk, 0, none⟩ ∧ ks = ys ++ five p plv ∧ KidsIn W (Fr O W) p plv ∧ m ≤ qc ∧ (∀ j, j < 5 → W.cell? ⟨gk, m * 5 + j, none⟩ = (five p plv)[j]?) ∧ gk < W.heap.size ∧ gk ≠ g ∧
      MemX d L size lv { s with opn := { a with kids := l } :: r } O tv ov bs us (us1 ++ six { a with kids := l } (.slice qa m qc)) (W.setCell ⟨g, r.length * 6 + 4, none⟩ (.slice qa m qc)) ∧ Stay O O W (W.setCell ⟨g, r.length * 6 + 4, none⟩ (.slice qa m qc)) := by
  have hp := hT.parts
  rw [hk] at hp
  obtain ⟨ys, plv, h1, h2, h3⟩ := parts_split hp
  have hown := hT.own
  rw [hk, List.length_append, hm] at hown
  obtain ⟨gk, kc, he, _, hgl⟩ := hown.form (Nat.succ_pos m)
  cases he
  have hlen : ys.length = m * 5 := by have := hown.1; rw [h1, List.length_append, five_length] at this; simp at this; omega
  have hcap : m ≤ qc := by
    rcases hown.2 with ⟨h, _⟩ | ⟨_, _, _, h, _, _, h4, _⟩
    · cases h
    · cases h; omega
  have hcell : ∀ j, j < 5 → W.cell? ⟨gk, m * 5 + j, none⟩ = (five p plv)[j]? := fun j hj => by
    have h := hown.cellAt (m * 5 + j) (by show _ < (m + 1) * 5; omega)
    rw [h, h1, List.getElem?_append_right (by omega), show m * 5 + j - ys.length = j by omega]
  have hne : gk ≠ g := fun e => by
    have h4 := owns_ty hown (k := gk) rfl
    rw [e] at h4
    exact absurd (h4.one hT.ty) (by decide)
  rw [h1] at hown
  have hdrop := owns_take hown hlen
  obtain ⟨q1, q2⟩ := put_top hM hs hT 4 (by decide) (.slice (some ⟨gk, 0, none⟩) m qc) (o' := { a with kids := l }) (kv' := .slice (some ⟨gk, 0, none⟩) m qc) (ks' := ys) rfl (by show W.ownsRow 0 _ 5 _ l.length _; rw [hm]; exact hdrop) h2 rfl
  exact ⟨gk, ys, plv, rfl, h1, h3, hcap, hcell, hgl, hne, q1, q2⟩
theorem top_blk {W : World} {tv ov kv : Value} {bs bs1 : List (Option Nat)} {us xs us1 ks : List Value} {a : Open} {r : List Open} {g c : Nat} (hM : MemX d L size lv s O tv ov bs us xs W) (hs : s.opn = a :: r) (hT : TopAt d O a r ov bs xs W g c kv ks us1 bs1) : ∃ cs, W.heap[g]? = some (.cells cs 55 (0, 0)) := by
  have hR := hM.opnR
  rw [hs, hT.hov] at hR
  rcases hR.2 with ⟨h, _⟩ | ⟨_, _, cur, h, _, h3, _⟩
  · cases h
  · cases h; exact ⟨cur, h3⟩
set_option maxHeartbeats 16000000 in
set_option maxRecDepth 20000 in
theorem g_wrap {W : World} (hM : Mem d L size lv s O W) (hs : Small L s) (k : By) (a : Open) (r : List Open) (ho : s.opn = a :: r) (l : List Pt) (p : Pt) (hk : a.kids = l ++ [p]) :
    Calls Tryd.prog 89 #[ptr d, .string (bstr k)] W fun e W' => e = .returned (.tuple #[]) ∧ ∃ O', Mem d L size lv { s with opn := ⟨k, [], a.kf, [p], 0⟩ :: { a with kids := l } :: r } O' W' ∧ Stay O O' W W' := by
  obtain ⟨tv, ov, bs, us, xs, hX⟩ := id hM
  obtain ⟨g, c, kv, ks, us1, bs1, hT⟩ := top_of hX ho
  obtain ⟨qa, qc, rfl⟩ := owns_len hT.own
  obtain ⟨m, hm⟩ : ∃ m, l.length = m := ⟨_, rfl⟩
  have hkl : a.kids.length = m + 1 := by rw [hk, List.length_append, hm]; rfl
  have hml : m + 1 ≤ 1000000 := by rw [← hkl]; exact hs.kids a (by rw [ho]; exact List.mem_cons_self)
  have hrl : r.length ≤ 1000000 := by have := hs.opn; rw [ho, List.length_cons] at this; omega
  rw [hkl] at hT
  obtain ⟨gk, ys, plv, rfl, hks, hki, hcap, hcell, hgl, hgk, hXV, hSV⟩ := drop_kid hX ho hT hk hm
  obtain ⟨pa, pn, pc, rfl⟩ := kids_form hki
  obtain ⟨q0, q1, q2, q3, hfive⟩ := five_form p (.slice pa pn pc)
  obtain ⟨cs, hgb⟩ := top_blk hX ho hT
  have cT := top_any hX hT hrl (Below.refl _ _)
  have k4 := hT.cell 4 _ rfl
  have k5 := hT.cell 5 _ rfl
  have f4 := hT.frozen (r.length * 6 + 4)
  have e0 : W.cell? ⟨gk, m * 5, none⟩ = some (.string q0) := by rw [show m * 5 = m * 5 + 0 from rfl, hcell 0 (by omega), hfive]; rfl
  have e1 : W.cell? ⟨gk, m * 5 + 1, none⟩ = some (.string q1) := by rw [hcell 1 (by omega), hfive]; rfl
  have e2 : W.cell? ⟨gk, m * 5 + 2, none⟩ = some (.int .i64 q2) := by rw [hcell 2 (by omega), hfive]; rfl
  have e3 : W.cell? ⟨gk, m * 5 + 3, none⟩ = some (.int .i64 q3) := by rw [hcell 3 (by omega), hfive]; rfl
  have e4 : W.cell? ⟨gk, m * 5 + 4, none⟩ = some (.slice pa pn pc) := by rw [hcell 4 (by omega), hfive]; rfl
  obtain ⟨N, hN⟩ : ∃ N, m + 1 = N := ⟨_, rfl⟩
  rw [hN] at k4
  have hm0 : (0 : Int) ≤ (m : Int) := by omega
  have hmN : (m : Int) < (N : Int) := by omega
  have hmN' : m < N := by omega
  have hmc : (m : Int) ≤ (qc : Int) := by omega
  have hi1 : IntKind.i64.wrap ((N : Int) - 1) = (m : Int) := (IntWalk.i64_in _ (by omega)).trans (by omega)
  obtain ⟨V, hV⟩ : ∃ V, W.setCell ⟨g, r.length * 6 + 4, none⟩ (.slice (some ⟨gk, 0, none⟩) m qc) = V := ⟨_, rfl⟩
  rw [hV] at hXV hSV
  have hVs : V.heap.size = W.heap.size := by rw [← hV]; simp
  have HBoth : Hid (∀ X, Below W.heap.size W X → Below W.heap.size V (X.setCell ⟨g, r.length * 6 + 4, none⟩ (.slice (some ⟨gk, 0, none⟩) m qc))) := Lib.hid (fun X hX => by rw [← hV]; exact below_both _ hX hT.lt hgb)
  have hglt := hT.lt
  have k5V : V.cell? ⟨g, r.length * 6 + 5, none⟩ = some (.int .i64 a.kf) := by
    obtain ⟨g2, c2, kv2, ks2, us2, bs2, hT2⟩ := top_of hXV (o := { a with kids := l }) (r := r) rfl
    have h2 := hT2.hov
    rw [hT.hov] at h2
    simp only [Value.slice.injEq, Option.some.injEq, Addr.mk.injEq, and_true, true_and] at h2
    rw [h2.1]
    exact hT2.cell 5 _ rfl
  have HXV := Lib.hid hXV
  have HSV := Lib.hid hSV
  have HKI := Lib.hid hki
  have H5 := Lib.hid hfive
  have HVs := Lib.hid hVs
  have HM := Lib.hid hm
  have HK5 := Lib.hid k5V
  have HOV := Lib.hid hT.hov
  have HTy := Lib.hid hT.ty
  clear hX hT hXV hSV hki hfive hVs hV hgb hcell hks hkl hk hm k5 hN k5V hgl
  go_enter Tryd.func89, Tryd.ntmps89
  go_wp2_with fail
  refine cT.mono ?_
  rintro e v0 ⟨rfl, m0, rfl⟩
  dsimp only
  replace k4 : (W.drewN m0).cell? _ = _ := k4
  replace f4 : (W.drewN m0).frozen? _ = _ := f4
  replace e0 : (W.drewN m0).cell? _ = _ := e0
  replace e1 : (W.drewN m0).cell? _ = _ := e1
  replace e2 : (W.drewN m0).cell? _ = _ := e2
  replace e3 : (W.drewN m0).cell? _ = _ := e3
  replace e4 : (W.drewN m0).cell? _ = _ := e4
  have HB1 := Lib.hid (drewB' W m0)
  generalize W.drewN m0 = W1 at HB1 k4 f4 e0 e1 e2 e3 e4 ⊢
  clear cT
  have hg1 : g < W1.heap.size := Nat.lt_of_lt_of_le hglt HB1.out.size
  go_upto_region 4 with fail
  clear k4 f4 e0 e1 e2 e3 e4 hi1 hm0 hmN hmN' hmc
  have hB1s := HBoth.out W1 HB1.out
  obtain ⟨W2, hW2⟩ : ∃ W2, W1.setCell ⟨g, r.length * 6 + 4, none⟩ (.slice (some ⟨gk, 0, none⟩) m qc) = W2 := ⟨_, rfl⟩
  rw [hW2] at hB1s ⊢
  have hz2 : W2.heap.size = W1.heap.size := by rw [← hW2]; simp
  rw [← hz2]
  obtain ⟨bp, hbp⟩ : ∃ bp, W2.heap.size = bp := ⟨_, rfl⟩
  obtain ⟨W3, hW3⟩ : ∃ W3, W2.alloc (.cells #[.string q0, .string q1, .int .i64 q2, .int .i64 q3, .slice pa pn pc] 24) = W3 := ⟨_, rfl⟩
  have hb3 : W3.heap[bp]? = some (.cells #[.string q0, .string q1, .int .i64 q2, .int .i64 q3, .slice pa pn pc] 24 (0, 0)) := by rw [← hW3, ← hbp]; exact heap_new _ _
  have hB3 : Below W.heap.size V W3 := by rw [← hW3]; exact hB1s.alloc (by have := hB1s.size; rw [HVs.out] at this; exact this) _
  rw [hbp, hW3]
  obtain ⟨Wd, hWd⟩ : ∃ Wd, W3.drew = Wd := ⟨_, rfl⟩
  have hbd : Wd.heap[bp]? = some (.cells #[.string q0, .string q1, .int .i64 q2, .int .i64 q3, .slice pa pn pc] 24 (0, 0)) := by rw [← hWd]; exact hb3
  have hBd : Below W.heap.size V Wd := by rw [← hWd]; exact hB3.drew
  have hBV : Below V.heap.size V Wd := by rw [HVs.out]; exact hBd
  have hbl : bp < Wd.heap.size := (Array.getElem?_eq_some_iff.1 hbd).1
  obtain ⟨kf, hkf⟩ : ∃ kf, a.kf = kf := ⟨_, rfl⟩
  obtain ⟨kk, hkk⟩ : ∃ kk, bstr k = kk := ⟨_, rfl⟩
  have hba1 : Below Wd.heap.size Wd (Wd.alloc (.cells #[.string q0, .string q1, .int .i64 q2, .int .i64 q3, .slice pa pn pc] 24)) := (Below.refl _ _).alloc (Nat.le_refl _) _
  have hba2 : Below Wd.heap.size Wd ((Wd.alloc (.cells #[.string q0, .string q1, .int .i64 q2, .int .i64 q3, .slice pa pn pc] 24)).alloc (.cells #[.string kk, .string ⟨#[]⟩, .int .i64 kf, .int .i64 0, .slice (some ⟨Wd.heap.size, 0, none⟩) 1 1, .int .i64 0] 55)) := hba1.alloc hba1.size _
  have hBA2 : Below V.heap.size V ((Wd.alloc (.cells #[.string q0, .string q1, .int .i64 q2, .int .i64 q3, .slice pa pn pc] 24)).alloc (.cells #[.string kk, .string ⟨#[]⟩, .int .i64 kf, .int .i64 0, .slice (some ⟨Wd.heap.size, 0, none⟩) 1 1, .int .i64 0] 55)) := hBV.trans (hba2.mono hBV.size)
  have hd3 : V.cell? ⟨d, 3, none⟩ = some ov := by have h := HXV.out.blk; simp [World.cell?, h]
  have hdl : d < V.heap.size := (Array.getElem?_eq_some_iff.1 HXV.out.blk).1
  have hgl : g < V.heap.size := by rw [HVs.out]; exact hglt
  have hR := HXV.out.opnR
  obtain ⟨n, hn⟩ : ∃ n, r.length + 1 = n := ⟨_, rfl⟩
  have hnl : n ≤ 1000001 := by omega
  have hov := HOV.out
  rw [hn] at hov
  replace hR : V.ownsRow 0 55 6 (.slice (some ⟨g, 0, none⟩) n c) n (us1 ++ six { a with kids := l } (.slice (some ⟨gk, 0, none⟩) m qc)) := by
    rw [hov] at hR
    rw [show (({ s with opn := { a with kids := l } :: r } : St).opn).length = n from hn] at hR
    exact hR
  rw [hov] at hd3
  have cell3 : ∀ X, Below V.heap.size V X → X.cell? ⟨d, 3, none⟩ = some (.slice (some ⟨g, 0, none⟩) n c) := fun X hX => (hX.cell (p := ⟨d, 3, none⟩) hdl).trans hd3
  have HC3_0 := Lib.hid (cell3 _ hBV)
  have HC3_1 := Lib.hid (cell3 _ (hBV.trans (hba1.mono hBV.size)))
  have HC3_2 := Lib.hid (cell3 _ hBA2)
  have HC9_0 : Hid (Wd.cell? ⟨g, r.length * 6 + 5, none⟩ = some (.int .i64 a.kf)) := Lib.hid ((hBV.cell (p := ⟨g, r.length * 6 + 5, none⟩) hgl).trans HK5.out)
  have HC9_1 : Hid ((Wd.alloc (.cells #[.string q0, .string q1, .int .i64 q2, .int .i64 q3, .slice pa pn pc] 24)).cell? ⟨g, r.length * 6 + 5, none⟩ = some (.int .i64 a.kf)) := Lib.hid (((hBV.trans (hba1.mono hBV.size)).cell (p := ⟨g, r.length * 6 + 5, none⟩) hgl).trans HK5.out)
  have HS0 := Lib.hid hbd
  have HS1 := Lib.hid ((hba1.block bp hbl).trans hbd)
  have HS2 := Lib.hid ((hba2.block bp hbl).trans hbd)
  rw [hkf] at HC9_0 HC9_1
  rw [hkk]
  have HRow := Lib.hid (owns_later hR hBA2)
  obtain ⟨iB, hi0, hz0, hz1, hzz⟩ := info_parts infoB
  have HKf := Lib.hid hkf
  have HNew : Hid (∀ j u, (six ⟨k, [], kf, [p], 0⟩ (.slice (some ⟨Wd.heap.size, 0, none⟩) 1 1))[j]? = some u → ((Wd.alloc (.cells #[.string q0, .string q1, .int .i64 q2, .int .i64 q3, .slice pa pn pc] 24)).alloc (.cells #[.string kk, .string ⟨#[]⟩, .int .i64 kf, .int .i64 0, .slice (some ⟨Wd.heap.size, 0, none⟩) 1 1, .int .i64 0] 55)).cell? ((⟨Wd.heap.size + 1, 0, none⟩ : Addr).add j) = some u) := Lib.hid (by
    have h := news_six (Wd.alloc (.cells #[.string q0, .string q1, .int .i64 q2, .int .i64 q3, .slice pa pn pc] 24)) ⟨k, [], kf, [p], 0⟩ (.slice (some ⟨Wd.heap.size, 0, none⟩) 1 1)
    rw [World.size_alloc] at h
    rw [show bstr (⟨k, [], kf, [p], 0⟩ : Open).k = kk from hkk] at h
    exact h)
  have HE : Hid (∀ (g5 c5 : Nat) (w5 : World), w5.ownsRow 0 55 6 (.slice (some ⟨g5, 0, none⟩) (n + 1) c5) (n + 1) ((us1 ++ six { a with kids := l } (.slice (some ⟨gk, 0, none⟩) m qc)) ++ six ⟨k, [], kf, [p], 0⟩ (.slice (some ⟨Wd.heap.size, 0, none⟩) 1 1)) → ((Wd.alloc (.cells #[.string q0, .string q1, .int .i64 q2, .int .i64 q3, .slice pa pn pc] 24)).alloc (.cells #[.string kk, .string ⟨#[]⟩, .int .i64 kf, .int .i64 0, .slice (some ⟨Wd.heap.size, 0, none⟩) 1 1, .int .i64 0] 55)).grownBy w5 (Value.slice (some ⟨g, 0, none⟩) n c).ownBlock → ((Value.slice (some ⟨g, 0, none⟩) n c).ownBlock = some g5 ∨ g5 = ((Wd.alloc (.cells #[.string q0, .string q1, .int .i64 q2, .int .i64 q3, .slice pa pn pc] 24)).alloc (.cells #[.string kk, .string ⟨#[]⟩, .int .i64 kf, .int .i64 0, .slice (some ⟨Wd.heap.size, 0, none⟩) 1 1, .int .i64 0] 55)).heap.size) →
      w5.heap[bp]? = some (.cells #[.string q0, .string q1, .int .i64 q2, .int .i64 q3, .slice pa pn pc] 24 (0, 0)) ∧ (w5.setCell ⟨d, 3, none⟩ (.slice (some ⟨g5, 0, none⟩) (n + 1) c5)).heap[bp]? = some (.cells #[.string q0, .string q1, .int .i64 q2, .int .i64 q3, .slice pa pn pc] 24 (0, 0)) ∧ w5.cell? ⟨d, 3, none⟩ = some (.slice (some ⟨g, 0, none⟩) n c) ∧ w5.frozen? ⟨d, 3, none⟩ = false ∧ ∃ O', Mem d L size lv { s with opn := ⟨k, [], kf, [p], 0⟩ :: { a with kids := l } :: r } O' (w5.setCell ⟨d, 3, none⟩ (.slice (some ⟨g5, 0, none⟩) (n + 1) c5)) ∧ Stay O O' W (w5.setCell ⟨d, 3, none⟩ (.slice (some ⟨g5, 0, none⟩) (n + 1) c5))) := Lib.hid (by
    intro g5 c5 w5 hown hgrow hat
    have hkv : ((Wd.alloc (.cells #[.string q0, .string q1, .int .i64 q2, .int .i64 q3, .slice pa pn pc] 24)).alloc (.cells #[.string kk, .string ⟨#[]⟩, .int .i64 kf, .int .i64 0, .slice (some ⟨Wd.heap.size, 0, none⟩) 1 1, .int .i64 0] 55)).ownsRow 0 24 5 (.slice (some ⟨Wd.heap.size, 0, none⟩) 1 1) 1 (five p (.slice pa pn pc)) := by
      rw [H5.out]
      exact (World.ownsRow_lit Wd #[.string q0, .string q1, .int .i64 q2, .int .i64 q3, .slice pa pn pc] 1 (Nat.zero_le _) (by decide) (by rfl)).alloc _
    have hX := HXV.out
    rw [hov] at hX
    obtain ⟨h1, h2, O', h3, h4⟩ := push_open hX (m := n) hn hBA2 hown hgrow hat (kv := .slice (some ⟨Wd.heap.size, 0, none⟩) 1 1) (ks := five p (.slice pa pn pc)) hkv ⟨.slice pa pn pc, [], by simp, KidsIn.later (R := Fr O W) (R' := Fr O V) (fun k hk _ => HSV.out.at hk) (fun k hk => HSV.out.fr hk) p _ HKI.out, rfl⟩ (fun k hk => by
      obtain rfl : Wd.heap.size = k := Option.some.inj hk
      exact hBV.size)
    have hgb : g ≠ bp := fun e => by
      have h6 := hB1s.size
      rw [HVs.out] at h6
      omega
    have h5 : w5.heap[bp]? = some (.cells #[.string q0, .string q1, .int .i64 q2, .int .i64 q3, .slice pa pn pc] 24 (0, 0)) := (hgrow.block bp (Nat.lt_of_lt_of_le hbl hba2.size) (fun e => hgb (Option.some.inj e).symm)).trans HS2.out
    have hdb : bp ≠ d := by have h6 := hB1s.size; omega
    exact ⟨h5, (Below.heap_setCell _ _ _ _ hdb).trans h5, h1, h2, O', h3, HSV.out.trans h4⟩)
  clear hkf hR cell3 hBA2 hba1 hba2 hBV hBd hbd hbl hov hd3 hdl hgl hB1s hB3 hb3 hz2 hW2
  refine wp_region_held_drew (S := fun X : World => X.heap[bp]? = some (.cells #[.string q0, .string q1, .int .i64 q2, .int .i64 q3, .slice pa pn pc] 24 (0, 0))) (by kernel_rfl) (by rw [hWd]; exact HS0.out) (fun hHeld => ?_)
  rw [hWd] at hHeld ⊢
  refine wpAnyH_take (i := 0) (oi := ({ dst := some 35, op := Op.move (Operand.tmp 0), type := 39, pos := "reader.go:123", after := #[], guard := none } : Oper)) (v := ptr d) rfl (by kernel_rfl) (by kernel_rfl) (by kernel_rfl) (fun _ _ _ h => h) (Or.inl ⟨by rfl, fun X hX => rfl⟩) hHeld ?_
  (try simp only [Act.put, List.setIfInBounds_toArray, List.set_cons_zero, List.set_cons_succ])
  refine wpAnyH_take (i := 1) (oi := ({ dst := some 36, op := Op.move (Operand.tmp 0), type := 39, pos := "reader.go:123", after := #[], guard := none } : Oper)) (v := ptr d) rfl (by kernel_rfl) (by kernel_rfl) (by kernel_rfl) (fun _ _ _ h => h) (Or.inl ⟨by rfl, fun X hX => rfl⟩) hHeld ?_
  (try simp only [Act.put, List.setIfInBounds_toArray, List.set_cons_zero, List.set_cons_succ])
  refine wpAnyH_take (i := 2) (oi := ({ dst := some 37, op := Op.nilCheck (Operand.tmp 36), type := 0, pos := "reader.go:123", after := #[{ on := 1, ground := Ground.data }], guard := none } : Oper)) (v := ptr d) rfl (by kernel_rfl) (by kernel_rfl) (by kernel_rfl) (fun _ _ _ h => h) (Or.inl ⟨by rfl, fun X hX => rfl⟩) hHeld ?_
  (try simp only [Act.put, List.setIfInBounds_toArray, List.set_cons_zero, List.set_cons_succ])
  refine wpAnyH_take (i := 3) (oi := ({ dst := some 38, op := Op.fieldAddr 50 (Operand.tmp 37) 3, type := 0, pos := "reader.go:123", after := #[{ on := 2, ground := Ground.data }], guard := none } : Oper)) (v := .pointer (some ⟨d, 3, none⟩)) rfl (by kernel_rfl) (by kernel_rfl) (by kernel_rfl) (fun _ _ _ h => h) (Or.inl ⟨by rfl, fun X hX => rfl⟩) hHeld ?_
  (try simp only [Act.put, List.setIfInBounds_toArray, List.set_cons_zero, List.set_cons_succ])
  refine wpAnyH_take (i := 5) (oi := ({ dst := some 40, op := Op.move (Operand.tmp 1), type := 9, pos := "reader.go:123", after := #[], guard := none } : Oper)) (v := .string kk) rfl (by kernel_rfl) (by kernel_rfl) (by kernel_rfl) (fun _ _ _ h => h) (Or.inl ⟨by rfl, fun X hX => rfl⟩) hHeld ?_
  (try simp only [Act.put, List.setIfInBounds_toArray, List.set_cons_zero, List.set_cons_succ])
  refine wpAnyH_take (i := 6) (oi := ({ dst := some 41, op := Op.move (Operand.tmp 4), type := 56, pos := "reader.go:123", after := #[], guard := none } : Oper)) (v := .pointer (some ⟨g, r.length * 6, none⟩)) rfl (by kernel_rfl) (by kernel_rfl) (by kernel_rfl) (fun _ _ _ h => h) (Or.inl ⟨by rfl, fun X hX => rfl⟩) hHeld ?_
  (try simp only [Act.put, List.setIfInBounds_toArray, List.set_cons_zero, List.set_cons_succ])
  refine wpAnyH_take (i := 7) (oi := ({ dst := some 42, op := Op.nilCheck (Operand.tmp 41), type := 0, pos := "reader.go:123", after := #[{ on := 6, ground := Ground.data }], guard := none } : Oper)) (v := .pointer (some ⟨g, r.length * 6, none⟩)) rfl (by kernel_rfl) (by kernel_rfl) (by kernel_rfl) (fun _ _ _ h => h) (Or.inl ⟨by rfl, fun X hX => rfl⟩) hHeld ?_
  (try simp only [Act.put, List.setIfInBounds_toArray, List.set_cons_zero, List.set_cons_succ])
  refine wpAnyH_take (i := 8) (oi := ({ dst := some 43, op := Op.fieldAddr 55 (Operand.tmp 42) 1, type := 0, pos := "reader.go:123", after := #[{ on := 7, ground := Ground.data }], guard := none } : Oper)) (v := .pointer (some ⟨g, r.length * 6 + 5, none⟩)) rfl (by kernel_rfl) (by kernel_rfl) (by kernel_rfl) (fun _ _ _ h => h) (Or.inl ⟨by rfl, fun X hX => rfl⟩) hHeld ?_
  (try simp only [Act.put, List.setIfInBounds_toArray, List.set_cons_zero, List.set_cons_succ])
  refine wpAnyH_take (i := 10) (oi := ({ dst := some 45, op := Op.load 24 (Operand.tmp 6), type := 24, pos := "reader.go:123", after := #[], guard := none } : Oper)) (v := .agg #[.string q0, .string q1, .int .i64 q2, .int .i64 q3, .slice pa pn pc]) rfl (by kernel_rfl) (by kernel_rfl) (by kernel_rfl) (fun _ _ _ h => h) (yields_load 24 (.tmp 6) rfl (by rfl) (fun X hX => load_five hX)) hHeld ?_
  (try simp only [Act.put, List.setIfInBounds_toArray, List.set_cons_zero, List.set_cons_succ])
  refine wpAnyH_ready (rs := [4, 9, 11]) (by kernel_rfl) (by simp) ?_
  refine (AllReadyH.cons (o := ({ dst := some 39, op := Op.load 47 (Operand.tmp 38), type := 47, pos := "reader.go:123", after := #[{ on := 3, ground := Ground.data }], guard := none } : Oper)) rfl (fun K hK => ?_) (AllReadyH.cons (o := ({ dst := some 44, op := Op.load 3 (Operand.tmp 43), type := 3, pos := "reader.go:123", after := #[{ on := 8, ground := Ground.data }], guard := none } : Oper)) rfl (fun K hK => ?_) (AllReadyH.cons (o := ({ dst := some 46, op := Op.buildSlice 22 1 #[(0, Operand.tmp 45)], type := 22, pos := "reader.go:123", after := #[{ on := 10, ground := Ground.data }], guard := none } : Oper)) rfl (fun K hK => ?_) AllReadyH.nil)))
  · refine wanted_step (by kernel_rfl) ?_
    have q4 := HC3_0.out
    go_simp
    refine hK.out _ _ (HS0.out) (fun hHeld => ?_)
    (try simp only [Act.put, List.setIfInBounds_toArray, List.set_cons_zero, List.set_cons_succ])
    clear hK K
    clear q4
    refine wpAnyH_ready (rs := [9, 11]) (by kernel_rfl) (by simp) ?_
    refine (AllReadyH.cons (o := ({ dst := some 44, op := Op.load 3 (Operand.tmp 43), type := 3, pos := "reader.go:123", after := #[{ on := 8, ground := Ground.data }], guard := none } : Oper)) rfl (fun K hK => ?_) (AllReadyH.cons (o := ({ dst := some 46, op := Op.buildSlice 22 1 #[(0, Operand.tmp 45)], type := 22, pos := "reader.go:123", after := #[{ on := 10, ground := Ground.data }], guard := none } : Oper)) rfl (fun K hK => ?_) AllReadyH.nil))
    · refine wanted_step (by kernel_rfl) ?_
      have q4 := HC9_0.out
      go_simp
      refine hK.out _ _ (HS0.out) (fun hHeld => ?_)
      (try simp only [Act.put, List.setIfInBounds_toArray, List.set_cons_zero, List.set_cons_succ])
      clear hK K
      clear q4
      refine wpAnyH_ready (rs := [11]) (by kernel_rfl) (by simp) ?_
      refine (AllReadyH.cons (o := ({ dst := some 46, op := Op.buildSlice 22 1 #[(0, Operand.tmp 45)], type := 22, pos := "reader.go:123", after := #[{ on := 10, ground := Ground.data }], guard := none } : Oper)) rfl (fun K hK => ?_) AllReadyH.nil)
      refine wanted_step (by kernel_rfl) ?_
      go_simp
      refine hK.out _ _ (HS1.out) (fun hHeld => ?_)
      (try simp only [Act.put, List.setIfInBounds_toArray, List.set_cons_zero, List.set_cons_succ])
      clear hK K
      refine wpAnyH_take (i := 12) (oi := ({ dst := some 47, op := Op.build 24 #[(0, Operand.tmp 40), (2, Operand.tmp 44), (4, Operand.tmp 46)], type := 24, pos := "reader.go:123", after := #[{ on := 5, ground := Ground.data }, { on := 9, ground := Ground.data }, { on := 11, ground := Ground.data }], guard := none } : Oper)) (v := .agg #[.string kk, .string ⟨#[]⟩, .int .i64 kf, .int .i64 0, .slice (some ⟨Wd.heap.size, 0, none⟩) 1 1]) rfl (by kernel_rfl) (by kernel_rfl) (by kernel_rfl) (fun _ _ _ h => h) (Or.inl ⟨by rfl, fun X hX => by kernel_rfl⟩) hHeld ?_
      (try simp only [Act.put, List.setIfInBounds_toArray, List.set_cons_zero, List.set_cons_succ])
      refine wpAnyH_take (i := 13) (oi := ({ dst := some 48, op := Op.build 55 #[(0, Operand.tmp 47)], type := 55, pos := "reader.go:123", after := #[{ on := 12, ground := Ground.data }], guard := none } : Oper)) (v := .agg #[.string kk, .string ⟨#[]⟩, .int .i64 kf, .int .i64 0, .slice (some ⟨Wd.heap.size, 0, none⟩) 1 1, .int .i64 0]) rfl (by kernel_rfl) (by kernel_rfl) (by kernel_rfl) (fun _ _ _ h => h) (Or.inl ⟨by rfl, fun X hX => by kernel_rfl⟩) hHeld ?_
      (try simp only [Act.put, List.setIfInBounds_toArray, List.set_cons_zero, List.set_cons_succ])
      refine wpAnyH_ready (rs := [14]) (by kernel_rfl) (by simp) ?_
      refine (AllReadyH.cons (o := ({ dst := some 49, op := Op.buildSlice 47 1 #[(0, Operand.tmp 48)], type := 47, pos := "reader.go:123", after := #[{ on := 13, ground := Ground.data }], guard := none } : Oper)) rfl (fun K hK => ?_) AllReadyH.nil)
      refine wanted_step (by kernel_rfl) ?_
      go_simp
      refine hK.out _ _ (HS2.out) (fun hHeld => ?_)
      (try simp only [Act.put, List.setIfInBounds_toArray, List.set_cons_zero, List.set_cons_succ])
      clear hK K
      refine wpAnyH_ready (rs := [15]) (by kernel_rfl) (by simp) ?_
      refine (AllReadyH.cons (o := ({ dst := some 50, op := Op.call { callee := Callee.builtin Builtin.append, args := #[Operand.tmp 39, Operand.tmp 49], argTypes := #[47, 47] }, type := 47, pos := "reader.go:123", after := #[{ on := 4, ground := Ground.data }, { on := 14, ground := Ground.data }], guard := none } : Oper)) rfl (fun K hK => ?_) AllReadyH.nil)
      refine wanted_step (by kernel_rfl) ?_
      refine wp_append_lies _ (.tmp 39) (.tmp 49) 47 rfl 0 55 iB (.agg #[.string ⟨#[]⟩, .string ⟨#[]⟩, .int .i64 0, .int .i64 0, .slice none 0 0, .int .i64 0]) 6 80 Tryd.underlying47 hi0 hz0 hz1 hzz rfl (by decide) (.slice (some ⟨g, 0, none⟩) n c) n _ rfl HRow.out ⟨Wd.heap.size + 1, 0, none⟩ 1 1 (six ⟨k, [], kf, [p], 0⟩ (.slice (some ⟨Wd.heap.size, 0, none⟩) 1 1)) rfl rfl HNew.out (six_one _ _ ⟨_, _, _, rfl⟩) (by decide) (by unfold maxLen; omega) (by omega) (Nat.zero_le _) _ rfl ?_
      intro g5 c5 w5 hown hgrow hat hlt5
      obtain ⟨hs5, hs6, q3, f3, hfin⟩ := HE.out g5 c5 w5 hown hgrow hat
      have HFin := Lib.hid hfin
      clear hfin hown hgrow hat
      refine hK.out _ _ (hs5) (fun hHeld => ?_)
      (try simp only [Act.put, List.setIfInBounds_toArray, List.set_cons_zero, List.set_cons_succ])
      clear hK K
      refine wpAnyH_take (i := 16) (oi := ({ dst := some 51, op := Op.nilCheck (Operand.tmp 35), type := 0, pos := "reader.go:123", after := #[{ on := 0, ground := Ground.data }, { on := 0, ground := Ground.phase }, { on := 1, ground := Ground.phase }, { on := 2, ground := Ground.phase }, { on := 3, ground := Ground.phase }, { on := 4, ground := Ground.phase }, { on := 5, ground := Ground.phase }, { on := 6, ground := Ground.phase }, { on := 7, ground := Ground.phase }, { on := 8, ground := Ground.phase }, { on := 9, ground := Ground.phase }, { on := 10, ground := Ground.phase }, { on := 11, ground := Ground.phase }, { on := 12, ground := Ground.phase }, { on := 13, ground := Ground.phase }, { on := 14, ground := Ground.phase }, { on := 15, ground := Ground.phase }], guard := none } : Oper)) (v := ptr d) rfl (by kernel_rfl) (by kernel_rfl) (by kernel_rfl) (fun _ _ _ h => h) (Or.inl ⟨by rfl, fun X hX => rfl⟩) hHeld ?_
      (try simp only [Act.put, List.setIfInBounds_toArray, List.set_cons_zero, List.set_cons_succ])
      refine wpAnyH_take (i := 17) (oi := ({ dst := some 52, op := Op.fieldAddr 50 (Operand.tmp 51) 3, type := 0, pos := "reader.go:123", after := #[{ on := 16, ground := Ground.data }, { on := 0, ground := Ground.phase }, { on := 1, ground := Ground.phase }, { on := 2, ground := Ground.phase }, { on := 3, ground := Ground.phase }, { on := 4, ground := Ground.phase }, { on := 5, ground := Ground.phase }, { on := 6, ground := Ground.phase }, { on := 7, ground := Ground.phase }, { on := 8, ground := Ground.phase }, { on := 9, ground := Ground.phase }, { on := 10, ground := Ground.phase }, { on := 11, ground := Ground.phase }, { on := 12, ground := Ground.phase }, { on := 13, ground := Ground.phase }, { on := 14, ground := Ground.phase }, { on := 15, ground := Ground.phase }], guard := none } : Oper)) (v := .pointer (some ⟨d, 3, none⟩)) rfl (by kernel_rfl) (by kernel_rfl) (by kernel_rfl) (fun _ _ _ h => h) (Or.inl ⟨by rfl, fun X hX => rfl⟩) hHeld ?_
      (try simp only [Act.put, List.setIfInBounds_toArray, List.set_cons_zero, List.set_cons_succ])
      refine wpAnyH_ready (rs := [18]) (by kernel_rfl) (by simp) ?_
      refine (AllReadyH.cons (o := ({ dst := none, op := Op.store 47 (Operand.tmp 52) (Operand.tmp 50), type := 0, pos := "reader.go:123", after := #[{ on := 17, ground := Ground.data }, { on := 15, ground := Ground.data }, { on := 15, ground := Ground.chain }, { on := 0, ground := Ground.phase }, { on := 1, ground := Ground.phase }, { on := 2, ground := Ground.phase }, { on := 3, ground := Ground.phase }, { on := 4, ground := Ground.phase }, { on := 5, ground := Ground.phase }, { on := 6, ground := Ground.phase }, { on := 7, ground := Ground.phase }, { on := 8, ground := Ground.phase }, { on := 9, ground := Ground.phase }, { on := 10, ground := Ground.phase }, { on := 11, ground := Ground.phase }, { on := 12, ground := Ground.phase }, { on := 13, ground := Ground.phase }, { on := 14, ground := Ground.phase }, { on := 15, ground := Ground.phase }], guard := none } : Oper)) rfl (fun K hK => ?_) AllReadyH.nil)
      refine wanted_step (by kernel_rfl) ?_
      go_simp
      refine hK.out _ _ (hs6) (fun hHeld => ?_)
      (try simp only [Act.put, List.setIfInBounds_toArray, List.set_cons_zero, List.set_cons_succ])
      clear hK K
      refine wpAnyH_done (by kernel_rfl) ?_ _
      have hF := HFin.out
      rw [← HKf.out] at hF
      exact bodyPost_end (results_none rfl _ _ _) rfl ⟨rfl, hF⟩
    · refine wanted_step (by kernel_rfl) ?_
      go_simp
      refine hK.out _ _ (HS1.out) (fun hHeld => ?_)
      (try simp only [Act.put, List.setIfInBounds_toArray, List.set_cons_zero, List.set_cons_succ])
      clear hK K
      refine wpAnyH_ready (rs := [9]) (by kernel_rfl) (by simp) ?_
      refine (AllReadyH.cons (o := ({ dst := some 44, op := Op.load 3 (Operand.tmp 43), type := 3, pos := "reader.go:123", after := #[{ on := 8, ground := Ground.data }], guard := none } : Oper)) rfl (fun K hK => ?_) AllReadyH.nil)
      refine wanted_step (by kernel_rfl) ?_
      have q4 := HC9_1.out
      go_simp
      refine hK.out _ _ (HS1.out) (fun hHeld => ?_)
      (try simp only [Act.put, List.setIfInBounds_toArray, List.set_cons_zero, List.set_cons_succ])
      clear hK K
      clear q4
      refine wpAnyH_take (i := 12) (oi := ({ dst := some 47, op := Op.build 24 #[(0, Operand.tmp 40), (2, Operand.tmp 44), (4, Operand.tmp 46)], type := 24, pos := "reader.go:123", after := #[{ on := 5, ground := Ground.data }, { on := 9, ground := Ground.data }, { on := 11, ground := Ground.data }], guard := none } : Oper)) (v := .agg #[.string kk, .string ⟨#[]⟩, .int .i64 kf, .int .i64 0, .slice (some ⟨Wd.heap.size, 0, none⟩) 1 1]) rfl (by kernel_rfl) (by kernel_rfl) (by kernel_rfl) (fun _ _ _ h => h) (Or.inl ⟨by rfl, fun X hX => by kernel_rfl⟩) hHeld ?_
      (try simp only [Act.put, List.setIfInBounds_toArray, List.set_cons_zero, List.set_cons_succ])
      refine wpAnyH_take (i := 13) (oi := ({ dst := some 48, op := Op.build 55 #[(0, Operand.tmp 47)], type := 55, pos := "reader.go:123", after := #[{ on := 12, ground := Ground.data }], guard := none } : Oper)) (v := .agg #[.string kk, .string ⟨#[]⟩, .int .i64 kf, .int .i64 0, .slice (some ⟨Wd.heap.size, 0, none⟩) 1 1, .int .i64 0]) rfl (by kernel_rfl) (by kernel_rfl) (by kernel_rfl) (fun _ _ _ h => h) (Or.inl ⟨by rfl, fun X hX => by kernel_rfl⟩) hHeld ?_
      (try simp only [Act.put, List.setIfInBounds_toArray, List.set_cons_zero, List.set_cons_succ])
      refine wpAnyH_ready (rs := [14]) (by kernel_rfl) (by simp) ?_
      refine (AllReadyH.cons (o := ({ dst := some 49, op := Op.buildSlice 47 1 #[(0, Operand.tmp 48)], type := 47, pos := "reader.go:123", after := #[{ on := 13, ground := Ground.data }], guard := none } : Oper)) rfl (fun K hK => ?_) AllReadyH.nil)
      refine wanted_step (by kernel_rfl) ?_
      go_simp
      refine hK.out _ _ (HS2.out) (fun hHeld => ?_)
      (try simp only [Act.put, List.setIfInBounds_toArray, List.set_cons_zero, List.set_cons_succ])
      clear hK K
      refine wpAnyH_ready (rs := [15]) (by kernel_rfl) (by simp) ?_
      refine (AllReadyH.cons (o := ({ dst := some 50, op := Op.call { callee := Callee.builtin Builtin.append, args := #[Operand.tmp 39, Operand.tmp 49], argTypes := #[47, 47] }, type := 47, pos := "reader.go:123", after := #[{ on := 4, ground := Ground.data }, { on := 14, ground := Ground.data }], guard := none } : Oper)) rfl (fun K hK => ?_) AllReadyH.nil)
      refine wanted_step (by kernel_rfl) ?_
      refine wp_append_lies _ (.tmp 39) (.tmp 49) 47 rfl 0 55 iB (.agg #[.string ⟨#[]⟩, .string ⟨#[]⟩, .int .i64 0, .int .i64 0, .slice none 0 0, .int .i64 0]) 6 80 Tryd.underlying47 hi0 hz0 hz1 hzz rfl (by decide) (.slice (some ⟨g, 0, none⟩) n c) n _ rfl HRow.out ⟨Wd.heap.size + 1, 0, none⟩ 1 1 (six ⟨k, [], kf, [p], 0⟩ (.slice (some ⟨Wd.heap.size, 0, none⟩) 1 1)) rfl rfl HNew.out (six_one _ _ ⟨_, _, _, rfl⟩) (by decide) (by unfold maxLen; omega) (by omega) (Nat.zero_le _) _ rfl ?_
      intro g5 c5 w5 hown hgrow hat hlt5
      obtain ⟨hs5, hs6, q3, f3, hfin⟩ := HE.out g5 c5 w5 hown hgrow hat
      have HFin := Lib.hid hfin
      clear hfin hown hgrow hat
      refine hK.out _ _ (hs5) (fun hHeld => ?_)
      (try simp only [Act.put, List.setIfInBounds_toArray, List.set_cons_zero, List.set_cons_succ])
      clear hK K
      refine wpAnyH_take (i := 16) (oi := ({ dst := some 51, op := Op.nilCheck (Operand.tmp 35), type := 0, pos := "reader.go:123", after := #[{ on := 0, ground := Ground.data }, { on := 0, ground := Ground.phase }, { on := 1, ground := Ground.phase }, { on := 2, ground := Ground.phase }, { on := 3, ground := Ground.phase }, { on := 4, ground := Ground.phase }, { on := 5, ground := Ground.phase }, { on := 6, ground := Ground.phase }, { on := 7, ground := Ground.phase }, { on := 8, ground := Ground.phase }, { on := 9, ground := Ground.phase }, { on := 10, ground := Ground.phase }, { on := 11, ground := Ground.phase }, { on := 12, ground := Ground.phase }, { on := 13, ground := Ground.phase }, { on := 14, ground := Ground.phase }, { on := 15, ground := Ground.phase }], guard := none } : Oper)) (v := ptr d) rfl (by kernel_rfl) (by kernel_rfl) (by kernel_rfl) (fun _ _ _ h => h) (Or.inl ⟨by rfl, fun X hX => rfl⟩) hHeld ?_
      (try simp only [Act.put, List.setIfInBounds_toArray, List.set_cons_zero, List.set_cons_succ])
      refine wpAnyH_take (i := 17) (oi := ({ dst := some 52, op := Op.fieldAddr 50 (Operand.tmp 51) 3, type := 0, pos := "reader.go:123", after := #[{ on := 16, ground := Ground.data }, { on := 0, ground := Ground.phase }, { on := 1, ground := Ground.phase }, { on := 2, ground := Ground.phase }, { on := 3, ground := Ground.phase }, { on := 4, ground := Ground.phase }, { on := 5, ground := Ground.phase }, { on := 6, ground := Ground.phase }, { on := 7, ground := Ground.phase }, { on := 8, ground := Ground.phase }, { on := 9, ground := Ground.phase }, { on := 10, ground := Ground.phase }, { on := 11, ground := Ground.phase }, { on := 12, ground := Ground.phase }, { on := 13, ground := Ground.phase }, { on := 14, ground := Ground.phase }, { on := 15, ground := Ground.phase }], guard := none } : Oper)) (v := .pointer (some ⟨d, 3, none⟩)) rfl (by kernel_rfl) (by kernel_rfl) (by kernel_rfl) (fun _ _ _ h => h) (Or.inl ⟨by rfl, fun X hX => rfl⟩) hHeld ?_
      (try simp only [Act.put, List.setIfInBounds_toArray, List.set_cons_zero, List.set_cons_succ])
      refine wpAnyH_ready (rs := [18]) (by kernel_rfl) (by simp) ?_
      refine (AllReadyH.cons (o := ({ dst := none, op := Op.store 47 (Operand.tmp 52) (Operand.tmp 50), type := 0, pos := "reader.go:123", after := #[{ on := 17, ground := Ground.data }, { on := 15, ground := Ground.data }, { on := 15, ground := Ground.chain }, { on := 0, ground := Ground.phase }, { on := 1, ground := Ground.phase }, { on := 2, ground := Ground.phase }, { on := 3, ground := Ground.phase }, { on := 4, ground := Ground.phase }, { on := 5, ground := Ground.phase }, { on := 6, ground := Ground.phase }, { on := 7, ground := Ground.phase }, { on := 8, ground := Ground.phase }, { on := 9, ground := Ground.phase }, { on := 10, ground := Ground.phase }, { on := 11, ground := Ground.phase }, { on := 12, ground := Ground.phase }, { on := 13, ground := Ground.phase }, { on := 14, ground := Ground.phase }, { on := 15, ground := Ground.phase }], guard := none } : Oper)) rfl (fun K hK => ?_) AllReadyH.nil)
      refine wanted_step (by kernel_rfl) ?_
      go_simp
      refine hK.out _ _ (hs6) (fun hHeld => ?_)
      (try simp only [Act.put, List.setIfInBounds_toArray, List.set_cons_zero, List.set_cons_succ])
      clear hK K
      refine wpAnyH_done (by kernel_rfl) ?_ _
      have hF := HFin.out
      rw [← HKf.out] at hF
      exact bodyPost_end (results_none rfl _ _ _) rfl ⟨rfl, hF⟩
  · refine wanted_step (by kernel_rfl) ?_
    have q4 := HC9_0.out
    go_simp
    refine hK.out _ _ (HS0.out) (fun hHeld => ?_)
    (try simp only [Act.put, List.setIfInBounds_toArray, List.set_cons_zero, List.set_cons_succ])
    clear hK K
    clear q4
    refine wpAnyH_ready (rs := [4, 11]) (by kernel_rfl) (by simp) ?_
    refine (AllReadyH.cons (o := ({ dst := some 39, op := Op.load 47 (Operand.tmp 38), type := 47, pos := "reader.go:123", after := #[{ on := 3, ground := Ground.data }], guard := none } : Oper)) rfl (fun K hK => ?_) (AllReadyH.cons (o := ({ dst := some 46, op := Op.buildSlice 22 1 #[(0, Operand.tmp 45)], type := 22, pos := "reader.go:123", after := #[{ on := 10, ground := Ground.data }], guard := none } : Oper)) rfl (fun K hK => ?_) AllReadyH.nil))
    · refine wanted_step (by kernel_rfl) ?_
      have q4 := HC3_0.out
      go_simp
      refine hK.out _ _ (HS0.out) (fun hHeld => ?_)
      (try simp only [Act.put, List.setIfInBounds_toArray, List.set_cons_zero, List.set_cons_succ])
      clear hK K
      clear q4
      refine wpAnyH_ready (rs := [11]) (by kernel_rfl) (by simp) ?_
      refine (AllReadyH.cons (o := ({ dst := some 46, op := Op.buildSlice 22 1 #[(0, Operand.tmp 45)], type := 22, pos := "reader.go:123", after := #[{ on := 10, ground := Ground.data }], guard := none } : Oper)) rfl (fun K hK => ?_) AllReadyH.nil)
      refine wanted_step (by kernel_rfl) ?_
      go_simp
      refine hK.out _ _ (HS1.out) (fun hHeld => ?_)
      (try simp only [Act.put, List.setIfInBounds_toArray, List.set_cons_zero, List.set_cons_succ])
      clear hK K
      refine wpAnyH_take (i := 12) (oi := ({ dst := some 47, op := Op.build 24 #[(0, Operand.tmp 40), (2, Operand.tmp 44), (4, Operand.tmp 46)], type := 24, pos := "reader.go:123", after := #[{ on := 5, ground := Ground.data }, { on := 9, ground := Ground.data }, { on := 11, ground := Ground.data }], guard := none } : Oper)) (v := .agg #[.string kk, .string ⟨#[]⟩, .int .i64 kf, .int .i64 0, .slice (some ⟨Wd.heap.size, 0, none⟩) 1 1]) rfl (by kernel_rfl) (by kernel_rfl) (by kernel_rfl) (fun _ _ _ h => h) (Or.inl ⟨by rfl, fun X hX => by kernel_rfl⟩) hHeld ?_
      (try simp only [Act.put, List.setIfInBounds_toArray, List.set_cons_zero, List.set_cons_succ])
      refine wpAnyH_take (i := 13) (oi := ({ dst := some 48, op := Op.build 55 #[(0, Operand.tmp 47)], type := 55, pos := "reader.go:123", after := #[{ on := 12, ground := Ground.data }], guard := none } : Oper)) (v := .agg #[.string kk, .string ⟨#[]⟩, .int .i64 kf, .int .i64 0, .slice (some ⟨Wd.heap.size, 0, none⟩) 1 1, .int .i64 0]) rfl (by kernel_rfl) (by kernel_rfl) (by kernel_rfl) (fun _ _ _ h => h) (Or.inl ⟨by rfl, fun X hX => by kernel_rfl⟩) hHeld ?_
      (try simp only [Act.put, List.setIfInBounds_toArray, List.set_cons_zero, List.set_cons_succ])
      refine wpAnyH_ready (rs := [14]) (by kernel_rfl) (by simp) ?_
      refine (AllReadyH.cons (o := ({ dst := some 49, op := Op.buildSlice 47 1 #[(0, Operand.tmp 48)], type := 47, pos := "reader.go:123", after := #[{ on := 13, ground := Ground.data }], guard := none } : Oper)) rfl (fun K hK => ?_) AllReadyH.nil)
      refine wanted_step (by kernel_rfl) ?_
      go_simp
      refine hK.out _ _ (HS2.out) (fun hHeld => ?_)
      (try simp only [Act.put, List.setIfInBounds_toArray, List.set_cons_zero, List.set_cons_succ])
      clear hK K
      refine wpAnyH_ready (rs := [15]) (by kernel_rfl) (by simp) ?_
      refine (AllReadyH.cons (o := ({ dst := some 50, op := Op.call { callee := Callee.builtin Builtin.append, args := #[Operand.tmp 39, Operand.tmp 49], argTypes := #[47, 47] }, type := 47, pos := "reader.go:123", after := #[{ on := 4, ground := Ground.data }, { on := 14, ground := Ground.data }], guard := none } : Oper)) rfl (fun K hK => ?_) AllReadyH.nil)
      refine wanted_step (by kernel_rfl) ?_
      refine wp_append_lies _ (.tmp 39) (.tmp 49) 47 rfl 0 55 iB (.agg #[.string ⟨#[]⟩, .string ⟨#[]⟩, .int .i64 0, .int .i64 0, .slice none 0 0, .int .i64 0]) 6 80 Tryd.underlying47 hi0 hz0 hz1 hzz rfl (by decide) (.slice (some ⟨g, 0, none⟩) n c) n _ rfl HRow.out ⟨Wd.heap.size + 1, 0, none⟩ 1 1 (six ⟨k, [], kf, [p], 0⟩ (.slice (some ⟨Wd.heap.size, 0, none⟩) 1 1)) rfl rfl HNew.out (six_one _ _ ⟨_, _, _, rfl⟩) (by decide) (by unfold maxLen; omega) (by omega) (Nat.zero_le _) _ rfl ?_
      intro g5 c5 w5 hown hgrow hat hlt5
      obtain ⟨hs5, hs6, q3, f3, hfin⟩ := HE.out g5 c5 w5 hown hgrow hat
      have HFin := Lib.hid hfin
      clear hfin hown hgrow hat
      refine hK.out _ _ (hs5) (fun hHeld => ?_)
      (try simp only [Act.put, List.setIfInBounds_toArray, List.set_cons_zero, List.set_cons_succ])
      clear hK K
      refine wpAnyH_take (i := 16) (oi := ({ dst := some 51, op := Op.nilCheck (Operand.tmp 35), type := 0, pos := "reader.go:123", after := #[{ on := 0, ground := Ground.data }, { on := 0, ground := Ground.phase }, { on := 1, ground := Ground.phase }, { on := 2, ground := Ground.phase }, { on := 3, ground := Ground.phase }, { on := 4, ground := Ground.phase }, { on := 5, ground := Ground.phase }, { on := 6, ground := Ground.phase }, { on := 7, ground := Ground.phase }, { on := 8, ground := Ground.phase }, { on := 9, ground := Ground.phase }, { on := 10, ground := Ground.phase }, { on := 11, ground := Ground.phase }, { on := 12, ground := Ground.phase }, { on := 13, ground := Ground.phase }, { on := 14, ground := Ground.phase }, { on := 15, ground := Ground.phase }], guard := none } : Oper)) (v := ptr d) rfl (by kernel_rfl) (by kernel_rfl) (by kernel_rfl) (fun _ _ _ h => h) (Or.inl ⟨by rfl, fun X hX => rfl⟩) hHeld ?_
      (try simp only [Act.put, List.setIfInBounds_toArray, List.set_cons_zero, List.set_cons_succ])
      refine wpAnyH_take (i := 17) (oi := ({ dst := some 52, op := Op.fieldAddr 50 (Operand.tmp 51) 3, type := 0, pos := "reader.go:123", after := #[{ on := 16, ground := Ground.data }, { on := 0, ground := Ground.phase }, { on := 1, ground := Ground.phase }, { on := 2, ground := Ground.phase }, { on := 3, ground := Ground.phase }, { on := 4, ground := Ground.phase }, { on := 5, ground := Ground.phase }, { on := 6, ground := Ground.phase }, { on := 7, ground := Ground.phase }, { on := 8, ground := Ground.phase }, { on := 9, ground := Ground.phase }, { on := 10, ground := Ground.phase }, { on := 11, ground := Ground.phase }, { on := 12, ground := Ground.phase }, { on := 13, ground := Ground.phase }, { on := 14, ground := Ground.phase }, { on := 15, ground := Ground.phase }], guard := none } : Oper)) (v := .pointer (some ⟨d, 3, none⟩)) rfl (by kernel_rfl) (by kernel_rfl) (by kernel_rfl) (fun _ _ _ h => h) (Or.inl ⟨by rfl, fun X hX => rfl⟩) hHeld ?_
      (try simp only [Act.put, List.setIfInBounds_toArray, List.set_cons_zero, List.set_cons_succ])
      refine wpAnyH_ready (rs := [18]) (by kernel_rfl) (by simp) ?_
      refine (AllReadyH.cons (o := ({ dst := none, op := Op.store 47 (Operand.tmp 52) (Operand.tmp 50), type := 0, pos := "reader.go:123", after := #[{ on := 17, ground := Ground.data }, { on := 15, ground := Ground.data }, { on := 15, ground := Ground.chain }, { on := 0, ground := Ground.phase }, { on := 1, ground := Ground.phase }, { on := 2, ground := Ground.phase }, { on := 3, ground := Ground.phase }, { on := 4, ground := Ground.phase }, { on := 5, ground := Ground.phase }, { on := 6, ground := Ground.phase }, { on := 7, ground := Ground.phase }, { on := 8, ground := Ground.phase }, { on := 9, ground := Ground.phase }, { on := 10, ground := Ground.phase }, { on := 11, ground := Ground.phase }, { on := 12, ground := Ground.phase }, { on := 13, ground := Ground.phase }, { on := 14, ground := Ground.phase }, { on := 15, ground := Ground.phase }], guard := none } : Oper)) rfl (fun K hK => ?_) AllReadyH.nil)
      refine wanted_step (by kernel_rfl) ?_
      go_simp
      refine hK.out _ _ (hs6) (fun hHeld => ?_)
      (try simp only [Act.put, List.setIfInBounds_toArray, List.set_cons_zero, List.set_cons_succ])
      clear hK K
      refine wpAnyH_done (by kernel_rfl) ?_ _
      have hF := HFin.out
      rw [← HKf.out] at hF
      exact bodyPost_end (results_none rfl _ _ _) rfl ⟨rfl, hF⟩
    · refine wanted_step (by kernel_rfl) ?_
      go_simp
      refine hK.out _ _ (HS1.out) (fun hHeld => ?_)
      (try simp only [Act.put, List.setIfInBounds_toArray, List.set_cons_zero, List.set_cons_succ])
      clear hK K
      refine wpAnyH_take (i := 12) (oi := ({ dst := some 47, op := Op.build 24 #[(0, Operand.tmp 40), (2, Operand.tmp 44), (4, Operand.tmp 46)], type := 24, pos := "reader.go:123", after := #[{ on := 5, ground := Ground.data }, { on := 9, ground := Ground.data }, { on := 11, ground := Ground.data }], guard := none } : Oper)) (v := .agg #[.string kk, .string ⟨#[]⟩, .int .i64 kf, .int .i64 0, .slice (some ⟨Wd.heap.size, 0, none⟩) 1 1]) rfl (by kernel_rfl) (by kernel_rfl) (by kernel_rfl) (fun _ _ _ h => h) (Or.inl ⟨by rfl, fun X hX => by kernel_rfl⟩) hHeld ?_
      (try simp only [Act.put, List.setIfInBounds_toArray, List.set_cons_zero, List.set_cons_succ])
      refine wpAnyH_take (i := 13) (oi := ({ dst := some 48, op := Op.build 55 #[(0, Operand.tmp 47)], type := 55, pos := "reader.go:123", after := #[{ on := 12, ground := Ground.data }], guard := none } : Oper)) (v := .agg #[.string kk, .string ⟨#[]⟩, .int .i64 kf, .int .i64 0, .slice (some ⟨Wd.heap.size, 0, none⟩) 1 1, .int .i64 0]) rfl (by kernel_rfl) (by kernel_rfl) (by kernel_rfl) (fun _ _ _ h => h) (Or.inl ⟨by rfl, fun X hX => by kernel_rfl⟩) hHeld ?_
      (try simp only [Act.put, List.setIfInBounds_toArray, List.set_cons_zero, List.set_cons_succ])
      refine wpAnyH_ready (rs := [4, 14]) (by kernel_rfl) (by simp) ?_
      refine (AllReadyH.cons (o := ({ dst := some 39, op := Op.load 47 (Operand.tmp 38), type := 47, pos := "reader.go:123", after := #[{ on := 3, ground := Ground.data }], guard := none } : Oper)) rfl (fun K hK => ?_) (AllReadyH.cons (o := ({ dst := some 49, op := Op.buildSlice 47 1 #[(0, Operand.tmp 48)], type := 47, pos := "reader.go:123", after := #[{ on := 13, ground := Ground.data }], guard := none } : Oper)) rfl (fun K hK => ?_) AllReadyH.nil))
      · refine wanted_step (by kernel_rfl) ?_
        have q4 := HC3_1.out
        go_simp
        refine hK.out _ _ (HS1.out) (fun hHeld => ?_)
        (try simp only [Act.put, List.setIfInBounds_toArray, List.set_cons_zero, List.set_cons_succ])
        clear hK K
        clear q4
        refine wpAnyH_ready (rs := [14]) (by kernel_rfl) (by simp) ?_
        refine (AllReadyH.cons (o := ({ dst := some 49, op := Op.buildSlice 47 1 #[(0, Operand.tmp 48)], type := 47, pos := "reader.go:123", after := #[{ on := 13, ground := Ground.data }], guard := none } : Oper)) rfl (fun K hK => ?_) AllReadyH.nil)
        refine wanted_step (by kernel_rfl) ?_
        go_simp
        refine hK.out _ _ (HS2.out) (fun hHeld => ?_)
        (try simp only [Act.put, List.setIfInBounds_toArray, List.set_cons_zero, List.set_cons_succ])
        clear hK K
        refine wpAnyH_ready (rs := [15]) (by kernel_rfl) (by simp) ?_
        refine (AllReadyH.cons (o := ({ dst := some 50, op := Op.call { callee := Callee.builtin Builtin.append, args := #[Operand.tmp 39, Operand.tmp 49], argTypes := #[47, 47] }, type := 47, pos := "reader.go:123", after := #[{ on := 4, ground := Ground.data }, { on := 14, ground := Ground.data }], guard := none } : Oper)) rfl (fun K hK => ?_) AllReadyH.nil)
        refine wanted_step (by kernel_rfl) ?_
        refine wp_append_lies _ (.tmp 39) (.tmp 49) 47 rfl 0 55 iB (.agg #[.string ⟨#[]⟩, .string ⟨#[]⟩, .int .i64 0, .int .i64 0, .slice none 0 0, .int .i64 0]) 6 80 Tryd.underlying47 hi0 hz0 hz1 hzz rfl (by decide) (.slice (some ⟨g, 0, none⟩) n c) n _ rfl HRow.out ⟨Wd.heap.size + 1, 0, none⟩ 1 1 (six ⟨k, [], kf, [p], 0⟩ (.slice (some ⟨Wd.heap.size, 0, none⟩) 1 1)) rfl rfl HNew.out (six_one _ _ ⟨_, _, _, rfl⟩) (by decide) (by unfold maxLen; omega) (by omega) (Nat.zero_le _) _ rfl ?_
        intro g5 c5 w5 hown hgrow hat hlt5
        obtain ⟨hs5, hs6, q3, f3, hfin⟩ := HE.out g5 c5 w5 hown hgrow hat
        have HFin := Lib.hid hfin
        clear hfin hown hgrow hat
        refine hK.out _ _ (hs5) (fun hHeld => ?_)
        (try simp only [Act.put, List.setIfInBounds_toArray, List.set_cons_zero, List.set_cons_succ])
        clear hK K
        refine wpAnyH_take (i := 16) (oi := ({ dst := some 51, op := Op.nilCheck (Operand.tmp 35), type := 0, pos := "reader.go:123", after := #[{ on := 0, ground := Ground.data }, { on := 0, ground := Ground.phase }, { on := 1, ground := Ground.phase }, { on := 2, ground := Ground.phase }, { on := 3, ground := Ground.phase }, { on := 4, ground := Ground.phase }, { on := 5, ground := Ground.phase }, { on := 6, ground := Ground.phase }, { on := 7, ground := Ground.phase }, { on := 8, ground := Ground.phase }, { on := 9, ground := Ground.phase }, { on := 10, ground := Ground.phase }, { on := 11, ground := Ground.phase }, { on := 12, ground := Ground.phase }, { on := 13, ground := Ground.phase }, { on := 14, ground := Ground.phase }, { on := 15, ground := Ground.phase }], guard := none } : Oper)) (v := ptr d) rfl (by kernel_rfl) (by kernel_rfl) (by kernel_rfl) (fun _ _ _ h => h) (Or.inl ⟨by rfl, fun X hX => rfl⟩) hHeld ?_
        (try simp only [Act.put, List.setIfInBounds_toArray, List.set_cons_zero, List.set_cons_succ])
        refine wpAnyH_take (i := 17) (oi := ({ dst := some 52, op := Op.fieldAddr 50 (Operand.tmp 51) 3, type := 0, pos := "reader.go:123", after := #[{ on := 16, ground := Ground.data }, { on := 0, ground := Ground.phase }, { on := 1, ground := Ground.phase }, { on := 2, ground := Ground.phase }, { on := 3, ground := Ground.phase }, { on := 4, ground := Ground.phase }, { on := 5, ground := Ground.phase }, { on := 6, ground := Ground.phase }, { on := 7, ground := Ground.phase }, { on := 8, ground := Ground.phase }, { on := 9, ground := Ground.phase }, { on := 10, ground := Ground.phase }, { on := 11, ground := Ground.phase }, { on := 12, ground := Ground.phase }, { on := 13, ground := Ground.phase }, { on := 14, ground := Ground.phase }, { on := 15, ground := Ground.phase }], guard := none } : Oper)) (v := .pointer (some ⟨d, 3, none⟩)) rfl (by kernel_rfl) (by kernel_rfl) (by kernel_rfl) (fun _ _ _ h => h) (Or.inl ⟨by rfl, fun X hX => rfl⟩) hHeld ?_
        (try simp only [Act.put, List.setIfInBounds_toArray, List.set_cons_zero, List.set_cons_succ])
        refine wpAnyH_ready (rs := [18]) (by kernel_rfl) (by simp) ?_
        refine (AllReadyH.cons (o := ({ dst := none, op := Op.store 47 (Operand.tmp 52) (Operand.tmp 50), type := 0, pos := "reader.go:123", after := #[{ on := 17, ground := Ground.data }, { on := 15, ground := Ground.data }, { on := 15, ground := Ground.chain }, { on := 0, ground := Ground.phase }, { on := 1, ground := Ground.phase }, { on := 2, ground := Ground.phase }, { on := 3, ground := Ground.phase }, { on := 4, ground := Ground.phase }, { on := 5, ground := Ground.phase }, { on := 6, ground := Ground.phase }, { on := 7, ground := Ground.phase }, { on := 8, ground := Ground.phase }, { on := 9, ground := Ground.phase }, { on := 10, ground := Ground.phase }, { on := 11, ground := Ground.phase }, { on := 12, ground := Ground.phase }, { on := 13, ground := Ground.phase }, { on := 14, ground := Ground.phase }, { on := 15, ground := Ground.phase }], guard := none } : Oper)) rfl (fun K hK => ?_) AllReadyH.nil)
        refine wanted_step (by kernel_rfl) ?_
        go_simp
        refine hK.out _ _ (hs6) (fun hHeld => ?_)
        (try simp only [Act.put, List.setIfInBounds_toArray, List.set_cons_zero, List.set_cons_succ])
        clear hK K
        refine wpAnyH_done (by kernel_rfl) ?_ _
        have hF := HFin.out
        rw [← HKf.out] at hF
        exact bodyPost_end (results_none rfl _ _ _) rfl ⟨rfl, hF⟩
      · refine wanted_step (by kernel_rfl) ?_
        go_simp
        refine hK.out _ _ (HS2.out) (fun hHeld => ?_)
        (try simp only [Act.put, List.setIfInBounds_toArray, List.set_cons_zero, List.set_cons_succ])
        clear hK K
        refine wpAnyH_ready (rs := [4]) (by kernel_rfl) (by simp) ?_
        refine (AllReadyH.cons (o := ({ dst := some 39, op := Op.load 47 (Operand.tmp 38), type := 47, pos := "reader.go:123", after := #[{ on := 3, ground := Ground.data }], guard := none } : Oper)) rfl (fun K hK => ?_) AllReadyH.nil)
        refine wanted_step (by kernel_rfl) ?_
        have q4 := HC3_2.out
        go_simp
        refine hK.out _ _ (HS2.out) (fun hHeld => ?_)
        (try simp only [Act.put, List.setIfInBounds_toArray, List.set_cons_zero, List.set_cons_succ])
        clear hK K
        clear q4
        refine wpAnyH_ready (rs := [15]) (by kernel_rfl) (by simp) ?_
        refine (AllReadyH.cons (o := ({ dst := some 50, op := Op.call { callee := Callee.builtin Builtin.append, args := #[Operand.tmp 39, Operand.tmp 49], argTypes := #[47, 47] }, type := 47, pos := "reader.go:123", after := #[{ on := 4, ground := Ground.data }, { on := 14, ground := Ground.data }], guard := none } : Oper)) rfl (fun K hK => ?_) AllReadyH.nil)
        refine wanted_step (by kernel_rfl) ?_
        refine wp_append_lies _ (.tmp 39) (.tmp 49) 47 rfl 0 55 iB (.agg #[.string ⟨#[]⟩, .string ⟨#[]⟩, .int .i64 0, .int .i64 0, .slice none 0 0, .int .i64 0]) 6 80 Tryd.underlying47 hi0 hz0 hz1 hzz rfl (by decide) (.slice (some ⟨g, 0, none⟩) n c) n _ rfl HRow.out ⟨Wd.heap.size + 1, 0, none⟩ 1 1 (six ⟨k, [], kf, [p], 0⟩ (.slice (some ⟨Wd.heap.size, 0, none⟩) 1 1)) rfl rfl HNew.out (six_one _ _ ⟨_, _, _, rfl⟩) (by decide) (by unfold maxLen; omega) (by omega) (Nat.zero_le _) _ rfl ?_
        intro g5 c5 w5 hown hgrow hat hlt5
        obtain ⟨hs5, hs6, q3, f3, hfin⟩ := HE.out g5 c5 w5 hown hgrow hat
        have HFin := Lib.hid hfin
        clear hfin hown hgrow hat
        refine hK.out _ _ (hs5) (fun hHeld => ?_)
        (try simp only [Act.put, List.setIfInBounds_toArray, List.set_cons_zero, List.set_cons_succ])
        clear hK K
        refine wpAnyH_take (i := 16) (oi := ({ dst := some 51, op := Op.nilCheck (Operand.tmp 35), type := 0, pos := "reader.go:123", after := #[{ on := 0, ground := Ground.data }, { on := 0, ground := Ground.phase }, { on := 1, ground := Ground.phase }, { on := 2, ground := Ground.phase }, { on := 3, ground := Ground.phase }, { on := 4, ground := Ground.phase }, { on := 5, ground := Ground.phase }, { on := 6, ground := Ground.phase }, { on := 7, ground := Ground.phase }, { on := 8, ground := Ground.phase }, { on := 9, ground := Ground.phase }, { on := 10, ground := Ground.phase }, { on := 11, ground := Ground.phase }, { on := 12, ground := Ground.phase }, { on := 13, ground := Ground.phase }, { on := 14, ground := Ground.phase }, { on := 15, ground := Ground.phase }], guard := none } : Oper)) (v := ptr d) rfl (by kernel_rfl) (by kernel_rfl) (by kernel_rfl) (fun _ _ _ h => h) (Or.inl ⟨by rfl, fun X hX => rfl⟩) hHeld ?_
        (try simp only [Act.put, List.setIfInBounds_toArray, List.set_cons_zero, List.set_cons_succ])
        refine wpAnyH_take (i := 17) (oi := ({ dst := some 52, op := Op.fieldAddr 50 (Operand.tmp 51) 3, type := 0, pos := "reader.go:123", after := #[{ on := 16, ground := Ground.data }, { on := 0, ground := Ground.phase }, { on := 1, ground := Ground.phase }, { on := 2, ground := Ground.phase }, { on := 3, ground := Ground.phase }, { on := 4, ground := Ground.phase }, { on := 5, ground := Ground.phase }, { on := 6, ground := Ground.phase }, { on := 7, ground := Ground.phase }, { on := 8, ground := Ground.phase }, { on := 9, ground := Ground.phase }, { on := 10, ground := Ground.phase }, { on := 11, ground := Ground.phase }, { on := 12, ground := Ground.phase }, { on := 13, ground := Ground.phase }, { on := 14, ground := Ground.phase }, { on := 15, ground := Ground.phase }], guard := none } : Oper)) (v := .pointer (some ⟨d, 3, none⟩)) rfl (by kernel_rfl) (by kernel_rfl) (by kernel_rfl) (fun _ _ _ h => h) (Or.inl ⟨by rfl, fun X hX => rfl⟩) hHeld ?_
        (try simp only [Act.put, List.setIfInBounds_toArray, List.set_cons_zero, List.set_cons_succ])
        refine wpAnyH_ready (rs := [18]) (by kernel_rfl) (by simp) ?_
        refine (AllReadyH.cons (o := ({ dst := none, op := Op.store 47 (Operand.tmp 52) (Operand.tmp 50), type := 0, pos := "reader.go:123", after := #[{ on := 17, ground := Ground.data }, { on := 15, ground := Ground.data }, { on := 15, ground := Ground.chain }, { on := 0, ground := Ground.phase }, { on := 1, ground := Ground.phase }, { on := 2, ground := Ground.phase }, { on := 3, ground := Ground.phase }, { on := 4, ground := Ground.phase }, { on := 5, ground := Ground.phase }, { on := 6, ground := Ground.phase }, { on := 7, ground := Ground.phase }, { on := 8, ground := Ground.phase }, { on := 9, ground := Ground.phase }, { on := 10, ground := Ground.phase }, { on := 11, ground := Ground.phase }, { on := 12, ground := Ground.phase }, { on := 13, ground := Ground.phase }, { on := 14, ground := Ground.phase }, { on := 15, ground := Ground.phase }], guard := none } : Oper)) rfl (fun K hK => ?_) AllReadyH.nil)
        refine wanted_step (by kernel_rfl) ?_
        go_simp
        refine hK.out _ _ (hs6) (fun hHeld => ?_)
        (try simp only [Act.put, List.setIfInBounds_toArray, List.set_cons_zero, List.set_cons_succ])
        clear hK K
        refine wpAnyH_done (by kernel_rfl) ?_ _
        have hF := HFin.out
        rw [← HKf.out] at hF
        exact bodyPost_end (results_none rfl _ _ _) rfl ⟨rfl, hF⟩
  · refine wanted_step (by kernel_rfl) ?_
    go_simp
    refine hK.out _ _ (HS1.out) (fun hHeld => ?_)
    (try simp only [Act.put, List.setIfInBounds_toArray, List.set_cons_zero, List.set_cons_succ])
    clear hK K
    refine wpAnyH_ready (rs := [4, 9]) (by kernel_rfl) (by simp) ?_
    refine (AllReadyH.cons (o := ({ dst := some 39, op := Op.load 47 (Operand.tmp 38), type := 47, pos := "reader.go:123", after := #[{ on := 3, ground := Ground.data }], guard := none } : Oper)) rfl (fun K hK => ?_) (AllReadyH.cons (o := ({ dst := some 44, op := Op.load 3 (Operand.tmp 43), type := 3, pos := "reader.go:123", after := #[{ on := 8, ground := Ground.data }], guard := none } : Oper)) rfl (fun K hK => ?_) AllReadyH.nil))
    · refine wanted_step (by kernel_rfl) ?_
      have q4 := HC3_1.out
      go_simp
      refine hK.out _ _ (HS1.out) (fun hHeld => ?_)
      (try simp only [Act.put, List.setIfInBounds_toArray, List.set_cons_zero, List.set_cons_succ])
      clear hK K
      clear q4
      refine wpAnyH_ready (rs := [9]) (by kernel_rfl) (by simp) ?_
      refine (AllReadyH.cons (o := ({ dst := some 44, op := Op.load 3 (Operand.tmp 43), type := 3, pos := "reader.go:123", after := #[{ on := 8, ground := Ground.data }], guard := none } : Oper)) rfl (fun K hK => ?_) AllReadyH.nil)
      refine wanted_step (by kernel_rfl) ?_
      have q4 := HC9_1.out
      go_simp
      refine hK.out _ _ (HS1.out) (fun hHeld => ?_)
      (try simp only [Act.put, List.setIfInBounds_toArray, List.set_cons_zero, List.set_cons_succ])
      clear hK K
      clear q4
      refine wpAnyH_take (i := 12) (oi := ({ dst := some 47, op := Op.build 24 #[(0, Operand.tmp 40), (2, Operand.tmp 44), (4, Operand.tmp 46)], type := 24, pos := "reader.go:123", after := #[{ on := 5, ground := Ground.data }, { on := 9, ground := Ground.data }, { on := 11, ground := Ground.data }], guard := none } : Oper)) (v := .agg #[.string kk, .string ⟨#[]⟩, .int .i64 kf, .int .i64 0, .slice (some ⟨Wd.heap.size, 0, none⟩) 1 1]) rfl (by kernel_rfl) (by kernel_rfl) (by kernel_rfl) (fun _ _ _ h => h) (Or.inl ⟨by rfl, fun X hX => by kernel_rfl⟩) hHeld ?_
      (try simp only [Act.put, List.setIfInBounds_toArray, List.set_cons_zero, List.set_cons_succ])
      refine wpAnyH_take (i := 13) (oi := ({ dst := some 48, op := Op.build 55 #[(0, Operand.tmp 47)], type := 55, pos := "reader.go:123", after := #[{ on := 12, ground := Ground.data }], guard := none } : Oper)) (v := .agg #[.string kk, .string ⟨#[]⟩, .int .i64 kf, .int .i64 0, .slice (some ⟨Wd.heap.size, 0, none⟩) 1 1, .int .i64 0]) rfl (by kernel_rfl) (by kernel_rfl) (by kernel_rfl) (fun _ _ _ h => h) (Or.inl ⟨by rfl, fun X hX => by kernel_rfl⟩) hHeld ?_
      (try simp only [Act.put, List.setIfInBounds_toArray, List.set_cons_zero, List.set_cons_succ])
      refine wpAnyH_ready (rs := [14]) (by kernel_rfl) (by simp) ?_
      refine (AllReadyH.cons (o := ({ dst := some 49, op := Op.buildSlice 47 1 #[(0, Operand.tmp 48)], type := 47, pos := "reader.go:123", after := #[{ on := 13, ground := Ground.data }], guard := none } : Oper)) rfl (fun K hK => ?_) AllReadyH.nil)
      refine wanted_step (by kernel_rfl) ?_
      go_simp
      refine hK.out _ _ (HS2.out) (fun hHeld => ?_)
      (try simp only [Act.put, List.setIfInBounds_toArray, List.set_cons_zero, List.set_cons_succ])
      clear hK K
      refine wpAnyH_ready (rs := [15]) (by kernel_rfl) (by simp) ?_
      refine (AllReadyH.cons (o := ({ dst := some 50, op := Op.call { callee := Callee.builtin Builtin.append, args := #[Operand.tmp 39, Operand.tmp 49], argTypes := #[47, 47] }, type := 47, pos := "reader.go:123", after := #[{ on := 4, ground := Ground.data }, { on := 14, ground := Ground.data }], guard := none } : Oper)) rfl (fun K hK => ?_) AllReadyH.nil)
      refine wanted_step (by kernel_rfl) ?_
      refine wp_append_lies _ (.tmp 39) (.tmp 49) 47 rfl 0 55 iB (.agg #[.string ⟨#[]⟩, .string ⟨#[]⟩, .int .i64 0, .int .i64 0, .slice none 0 0, .int .i64 0]) 6 80 Tryd.underlying47 hi0 hz0 hz1 hzz rfl (by decide) (.slice (some ⟨g, 0, none⟩) n c) n _ rfl HRow.out ⟨Wd.heap.size + 1, 0, none⟩ 1 1 (six ⟨k, [], kf, [p], 0⟩ (.slice (some ⟨Wd.heap.size, 0, none⟩) 1 1)) rfl rfl HNew.out (six_one _ _ ⟨_, _, _, rfl⟩) (by decide) (by unfold maxLen; omega) (by omega) (Nat.zero_le _) _ rfl ?_
      intro g5 c5 w5 hown hgrow hat hlt5
      obtain ⟨hs5, hs6, q3, f3, hfin⟩ := HE.out g5 c5 w5 hown hgrow hat
      have HFin := Lib.hid hfin
      clear hfin hown hgrow hat
      refine hK.out _ _ (hs5) (fun hHeld => ?_)
      (try simp only [Act.put, List.setIfInBounds_toArray, List.set_cons_zero, List.set_cons_succ])
      clear hK K
      refine wpAnyH_take (i := 16) (oi := ({ dst := some 51, op := Op.nilCheck (Operand.tmp 35), type := 0, pos := "reader.go:123", after := #[{ on := 0, ground := Ground.data }, { on := 0, ground := Ground.phase }, { on := 1, ground := Ground.phase }, { on := 2, ground := Ground.phase }, { on := 3, ground := Ground.phase }, { on := 4, ground := Ground.phase }, { on := 5, ground := Ground.phase }, { on := 6, ground := Ground.phase }, { on := 7, ground := Ground.phase }, { on := 8, ground := Ground.phase }, { on := 9, ground := Ground.phase }, { on := 10, ground := Ground.phase }, { on := 11, ground := Ground.phase }, { on := 12, ground := Ground.phase }, { on := 13, ground := Ground.phase }, { on := 14, ground := Ground.phase }, { on := 15, ground := Ground.phase }], guard := none } : Oper)) (v := ptr d) rfl (by kernel_rfl) (by kernel_rfl) (by kernel_rfl) (fun _ _ _ h => h) (Or.inl ⟨by rfl, fun X hX => rfl⟩) hHeld ?_
      (try simp only [Act.put, List.setIfInBounds_toArray, List.set_cons_zero, List.set_cons_succ])
      refine wpAnyH_take (i := 17) (oi := ({ dst := some 52, op := Op.fieldAddr 50 (Operand.tmp 51) 3, type := 0, pos := "reader.go:123", after := #[{ on := 16, ground := Ground.data }, { on := 0, ground := Ground.phase }, { on := 1, ground := Ground.phase }, { on := 2, ground := Ground.phase }, { on := 3, ground := Ground.phase }, { on := 4, ground := Ground.phase }, { on := 5, ground := Ground.phase }, { on := 6, ground := Ground.phase }, { on := 7, ground := Ground.phase }, { on := 8, ground := Ground.phase }, { on := 9, ground := Ground.phase }, { on := 10, ground := Ground.phase }, { on := 11, ground := Ground.phase }, { on := 12, ground := Ground.phase }, { on := 13, ground := Ground.phase }, { on := 14, ground := Ground.phase }, { on := 15, ground := Ground.phase }], guard := none } : Oper)) (v := .pointer (some ⟨d, 3, none⟩)) rfl (by kernel_rfl) (by kernel_rfl) (by kernel_rfl) (fun _ _ _ h => h) (Or.inl ⟨by rfl, fun X hX => rfl⟩) hHeld ?_
      (try simp only [Act.put, List.setIfInBounds_toArray, List.set_cons_zero, List.set_cons_succ])
      refine wpAnyH_ready (rs := [18]) (by kernel_rfl) (by simp) ?_
      refine (AllReadyH.cons (o := ({ dst := none, op := Op.store 47 (Operand.tmp 52) (Operand.tmp 50), type := 0, pos := "reader.go:123", after := #[{ on := 17, ground := Ground.data }, { on := 15, ground := Ground.data }, { on := 15, ground := Ground.chain }, { on := 0, ground := Ground.phase }, { on := 1, ground := Ground.phase }, { on := 2, ground := Ground.phase }, { on := 3, ground := Ground.phase }, { on := 4, ground := Ground.phase }, { on := 5, ground := Ground.phase }, { on := 6, ground := Ground.phase }, { on := 7, ground := Ground.phase }, { on := 8, ground := Ground.phase }, { on := 9, ground := Ground.phase }, { on := 10, ground := Ground.phase }, { on := 11, ground := Ground.phase }, { on := 12, ground := Ground.phase }, { on := 13, ground := Ground.phase }, { on := 14, ground := Ground.phase }, { on := 15, ground := Ground.phase }], guard := none } : Oper)) rfl (fun K hK => ?_) AllReadyH.nil)
      refine wanted_step (by kernel_rfl) ?_
      go_simp
      refine hK.out _ _ (hs6) (fun hHeld => ?_)
      (try simp only [Act.put, List.setIfInBounds_toArray, List.set_cons_zero, List.set_cons_succ])
      clear hK K
      refine wpAnyH_done (by kernel_rfl) ?_ _
      have hF := HFin.out
      rw [← HKf.out] at hF
      exact bodyPost_end (results_none rfl _ _ _) rfl ⟨rfl, hF⟩
    · refine wanted_step (by kernel_rfl) ?_
      have q4 := HC9_1.out
      go_simp
      refine hK.out _ _ (HS1.out) (fun hHeld => ?_)
      (try simp only [Act.put, List.setIfInBounds_toArray, List.set_cons_zero, List.set_cons_succ])
      clear hK K
      clear q4
      refine wpAnyH_take (i := 12) (oi := ({ dst := some 47, op := Op.build 24 #[(0, Operand.tmp 40), (2, Operand.tmp 44), (4, Operand.tmp 46)], type := 24, pos := "reader.go:123", after := #[{ on := 5, ground := Ground.data }, { on := 9, ground := Ground.data }, { on := 11, ground := Ground.data }], guard := none } : Oper)) (v := .agg #[.string kk, .string ⟨#[]⟩, .int .i64 kf, .int .i64 0, .slice (some ⟨Wd.heap.size, 0, none⟩) 1 1]) rfl (by kernel_rfl) (by kernel_rfl) (by kernel_rfl) (fun _ _ _ h => h) (Or.inl ⟨by rfl, fun X hX => by kernel_rfl⟩) hHeld ?_
      (try simp only [Act.put, List.setIfInBounds_toArray, List.set_cons_zero, List.set_cons_succ])
      refine wpAnyH_take (i := 13) (oi := ({ dst := some 48, op := Op.build 55 #[(0, Operand.tmp 47)], type := 55, pos := "reader.go:123", after := #[{ on := 12, ground := Ground.data }], guard := none } : Oper)) (v := .agg #[.string kk, .string ⟨#[]⟩, .int .i64 kf, .int .i64 0, .slice (some ⟨Wd.heap.size, 0, none⟩) 1 1, .int .i64 0]) rfl (by kernel_rfl) (by kernel_rfl) (by kernel_rfl) (fun _ _ _ h => h) (Or.inl ⟨by rfl, fun X hX => by kernel_rfl⟩) hHeld ?_
      (try simp only [Act.put, List.setIfInBounds_toArray, List.set_cons_zero, List.set_cons_succ])
      refine wpAnyH_ready (rs := [4, 14]) (by kernel_rfl) (by simp) ?_
      refine (AllReadyH.cons (o := ({ dst := some 39, op := Op.load 47 (Operand.tmp 38), type := 47, pos := "reader.go:123", after := #[{ on := 3, ground := Ground.data }], guard := none } : Oper)) rfl (fun K hK => ?_) (AllReadyH.cons (o := ({ dst := some 49, op := Op.buildSlice 47 1 #[(0, Operand.tmp 48)], type := 47, pos := "reader.go:123", after := #[{ on := 13, ground := Ground.data }], guard := none } : Oper)) rfl (fun K hK => ?_) AllReadyH.nil))
      · refine wanted_step (by kernel_rfl) ?_
        have q4 := HC3_1.out
        go_simp
        refine hK.out _ _ (HS1.out) (fun hHeld => ?_)
        (try simp only [Act.put, List.setIfInBounds_toArray, List.set_cons_zero, List.set_cons_succ])
        clear hK K
        clear q4
        refine wpAnyH_ready (rs := [14]) (by kernel_rfl) (by simp) ?_
        refine (AllReadyH.cons (o := ({ dst := some 49, op := Op.buildSlice 47 1 #[(0, Operand.tmp 48)], type := 47, pos := "reader.go:123", after := #[{ on := 13, ground := Ground.data }], guard := none } : Oper)) rfl (fun K hK => ?_) AllReadyH.nil)
        refine wanted_step (by kernel_rfl) ?_
        go_simp
        refine hK.out _ _ (HS2.out) (fun hHeld => ?_)
        (try simp only [Act.put, List.setIfInBounds_toArray, List.set_cons_zero, List.set_cons_succ])
        clear hK K
        refine wpAnyH_ready (rs := [15]) (by kernel_rfl) (by simp) ?_
        refine (AllReadyH.cons (o := ({ dst := some 50, op := Op.call { callee := Callee.builtin Builtin.append, args := #[Operand.tmp 39, Operand.tmp 49], argTypes := #[47, 47] }, type := 47, pos := "reader.go:123", after := #[{ on := 4, ground := Ground.data }, { on := 14, ground := Ground.data }], guard := none } : Oper)) rfl (fun K hK => ?_) AllReadyH.nil)
        refine wanted_step (by kernel_rfl) ?_
        refine wp_append_lies _ (.tmp 39) (.tmp 49) 47 rfl 0 55 iB (.agg #[.string ⟨#[]⟩, .string ⟨#[]⟩, .int .i64 0, .int .i64 0, .slice none 0 0, .int .i64 0]) 6 80 Tryd.underlying47 hi0 hz0 hz1 hzz rfl (by decide) (.slice (some ⟨g, 0, none⟩) n c) n _ rfl HRow.out ⟨Wd.heap.size + 1, 0, none⟩ 1 1 (six ⟨k, [], kf, [p], 0⟩ (.slice (some ⟨Wd.heap.size, 0, none⟩) 1 1)) rfl rfl HNew.out (six_one _ _ ⟨_, _, _, rfl⟩) (by decide) (by unfold maxLen; omega) (by omega) (Nat.zero_le _) _ rfl ?_
        intro g5 c5 w5 hown hgrow hat hlt5
        obtain ⟨hs5, hs6, q3, f3, hfin⟩ := HE.out g5 c5 w5 hown hgrow hat
        have HFin := Lib.hid hfin
        clear hfin hown hgrow hat
        refine hK.out _ _ (hs5) (fun hHeld => ?_)
        (try simp only [Act.put, List.setIfInBounds_toArray, List.set_cons_zero, List.set_cons_succ])
        clear hK K
        refine wpAnyH_take (i := 16) (oi := ({ dst := some 51, op := Op.nilCheck (Operand.tmp 35), type := 0, pos := "reader.go:123", after := #[{ on := 0, ground := Ground.data }, { on := 0, ground := Ground.phase }, { on := 1, ground := Ground.phase }, { on := 2, ground := Ground.phase }, { on := 3, ground := Ground.phase }, { on := 4, ground := Ground.phase }, { on := 5, ground := Ground.phase }, { on := 6, ground := Ground.phase }, { on := 7, ground := Ground.phase }, { on := 8, ground := Ground.phase }, { on := 9, ground := Ground.phase }, { on := 10, ground := Ground.phase }, { on := 11, ground := Ground.phase }, { on := 12, ground := Ground.phase }, { on := 13, ground := Ground.phase }, { on := 14, ground := Ground.phase }, { on := 15, ground := Ground.phase }], guard := none } : Oper)) (v := ptr d) rfl (by kernel_rfl) (by kernel_rfl) (by kernel_rfl) (fun _ _ _ h => h) (Or.inl ⟨by rfl, fun X hX => rfl⟩) hHeld ?_
        (try simp only [Act.put, List.setIfInBounds_toArray, List.set_cons_zero, List.set_cons_succ])
        refine wpAnyH_take (i := 17) (oi := ({ dst := some 52, op := Op.fieldAddr 50 (Operand.tmp 51) 3, type := 0, pos := "reader.go:123", after := #[{ on := 16, ground := Ground.data }, { on := 0, ground := Ground.phase }, { on := 1, ground := Ground.phase }, { on := 2, ground := Ground.phase }, { on := 3, ground := Ground.phase }, { on := 4, ground := Ground.phase }, { on := 5, ground := Ground.phase }, { on := 6, ground := Ground.phase }, { on := 7, ground := Ground.phase }, { on := 8, ground := Ground.phase }, { on := 9, ground := Ground.phase }, { on := 10, ground := Ground.phase }, { on := 11, ground := Ground.phase }, { on := 12, ground := Ground.phase }, { on := 13, ground := Ground.phase }, { on := 14, ground := Ground.phase }, { on := 15, ground := Ground.phase }], guard := none } : Oper)) (v := .pointer (some ⟨d, 3, none⟩)) rfl (by kernel_rfl) (by kernel_rfl) (by kernel_rfl) (fun _ _ _ h => h) (Or.inl ⟨by rfl, fun X hX => rfl⟩) hHeld ?_
        (try simp only [Act.put, List.setIfInBounds_toArray, List.set_cons_zero, List.set_cons_succ])
        refine wpAnyH_ready (rs := [18]) (by kernel_rfl) (by simp) ?_
        refine (AllReadyH.cons (o := ({ dst := none, op := Op.store 47 (Operand.tmp 52) (Operand.tmp 50), type := 0, pos := "reader.go:123", after := #[{ on := 17, ground := Ground.data }, { on := 15, ground := Ground.data }, { on := 15, ground := Ground.chain }, { on := 0, ground := Ground.phase }, { on := 1, ground := Ground.phase }, { on := 2, ground := Ground.phase }, { on := 3, ground := Ground.phase }, { on := 4, ground := Ground.phase }, { on := 5, ground := Ground.phase }, { on := 6, ground := Ground.phase }, { on := 7, ground := Ground.phase }, { on := 8, ground := Ground.phase }, { on := 9, ground := Ground.phase }, { on := 10, ground := Ground.phase }, { on := 11, ground := Ground.phase }, { on := 12, ground := Ground.phase }, { on := 13, ground := Ground.phase }, { on := 14, ground := Ground.phase }, { on := 15, ground := Ground.phase }], guard := none } : Oper)) rfl (fun K hK => ?_) AllReadyH.nil)
        refine wanted_step (by kernel_rfl) ?_
        go_simp
        refine hK.out _ _ (hs6) (fun hHeld => ?_)
        (try simp only [Act.put, List.setIfInBounds_toArray, List.set_cons_zero, List.set_cons_succ])
        clear hK K
        refine wpAnyH_done (by kernel_rfl) ?_ _
        have hF := HFin.out
        rw [← HKf.out] at hF
        exact bodyPost_end (results_none rfl _ _ _) rfl ⟨rfl, hF⟩
      · refine wanted_step (by kernel_rfl) ?_
        go_simp
        refine hK.out _ _ (HS2.out) (fun hHeld => ?_)
        (try simp only [Act.put, List.setIfInBounds_toArray, List.set_cons_zero, List.set_cons_succ])
        clear hK K
        refine wpAnyH_ready (rs := [4]) (by kernel_rfl) (by simp) ?_
        refine (AllReadyH.cons (o := ({ dst := some 39, op := Op.load 47 (Operand.tmp 38), type := 47, pos := "reader.go:123", after := #[{ on := 3, ground := Ground.data }], guard := none } : Oper)) rfl (fun K hK => ?_) AllReadyH.nil)
        refine wanted_step (by kernel_rfl) ?_
        have q4 := HC3_2.out
        go_simp
        refine hK.out _ _ (HS2.out) (fun hHeld => ?_)
        (try simp only [Act.put, List.setIfInBounds_toArray, List.set_cons_zero, List.set_cons_succ])
        clear hK K
        clear q4
        refine wpAnyH_ready (rs := [15]) (by kernel_rfl) (by simp) ?_
        refine (AllReadyH.cons (o := ({ dst := some 50, op := Op.call { callee := Callee.builtin Builtin.append, args := #[Operand.tmp 39, Operand.tmp 49], argTypes := #[47, 47] }, type := 47, pos := "reader.go:123", after := #[{ on := 4, ground := Ground.data }, { on := 14, ground := Ground.data }], guard := none } : Oper)) rfl (fun K hK => ?_) AllReadyH.nil)
        refine wanted_step (by kernel_rfl) ?_
        refine wp_append_lies _ (.tmp 39) (.tmp 49) 47 rfl 0 55 iB (.agg #[.string ⟨#[]⟩, .string ⟨#[]⟩, .int .i64 0, .int .i64 0, .slice none 0 0, .int .i64 0]) 6 80 Tryd.underlying47 hi0 hz0 hz1 hzz rfl (by decide) (.slice (some ⟨g, 0, none⟩) n c) n _ rfl HRow.out ⟨Wd.heap.size + 1, 0, none⟩ 1 1 (six ⟨k, [], kf, [p], 0⟩ (.slice (some ⟨Wd.heap.size, 0, none⟩) 1 1)) rfl rfl HNew.out (six_one _ _ ⟨_, _, _, rfl⟩) (by decide) (by unfold maxLen; omega) (by omega) (Nat.zero_le _) _ rfl ?_
        intro g5 c5 w5 hown hgrow hat hlt5
        obtain ⟨hs5, hs6, q3, f3, hfin⟩ := HE.out g5 c5 w5 hown hgrow hat
        have HFin := Lib.hid hfin
        clear hfin hown hgrow hat
        refine hK.out _ _ (hs5) (fun hHeld => ?_)
        (try simp only [Act.put, List.setIfInBounds_toArray, List.set_cons_zero, List.set_cons_succ])
        clear hK K
        refine wpAnyH_take (i := 16) (oi := ({ dst := some 51, op := Op.nilCheck (Operand.tmp 35), type := 0, pos := "reader.go:123", after := #[{ on := 0, ground := Ground.data }, { on := 0, ground := Ground.phase }, { on := 1, ground := Ground.phase }, { on := 2, ground := Ground.phase }, { on := 3, ground := Ground.phase }, { on := 4, ground := Ground.phase }, { on := 5, ground := Ground.phase }, { on := 6, ground := Ground.phase }, { on := 7, ground := Ground.phase }, { on := 8, ground := Ground.phase }, { on := 9, ground := Ground.phase }, { on := 10, ground := Ground.phase }, { on := 11, ground := Ground.phase }, { on := 12, ground := Ground.phase }, { on := 13, ground := Ground.phase }, { on := 14, ground := Ground.phase }, { on := 15, ground := Ground.phase }], guard := none } : Oper)) (v := ptr d) rfl (by kernel_rfl) (by kernel_rfl) (by kernel_rfl) (fun _ _ _ h => h) (Or.inl ⟨by rfl, fun X hX => rfl⟩) hHeld ?_
        (try simp only [Act.put, List.setIfInBounds_toArray, List.set_cons_zero, List.set_cons_succ])
        refine wpAnyH_take (i := 17) (oi := ({ dst := some 52, op := Op.fieldAddr 50 (Operand.tmp 51) 3, type := 0, pos := "reader.go:123", after := #[{ on := 16, ground := Ground.data }, { on := 0, ground := Ground.phase }, { on := 1, ground := Ground.phase }, { on := 2, ground := Ground.phase }, { on := 3, ground := Ground.phase }, { on := 4, ground := Ground.phase }, { on := 5, ground := Ground.phase }, { on := 6, ground := Ground.phase }, { on := 7, ground := Ground.phase }, { on := 8, ground := Ground.phase }, { on := 9, ground := Ground.phase }, { on := 10, ground := Ground.phase }, { on := 11, ground := Ground.phase }, { on := 12, ground := Ground.phase }, { on := 13, ground := Ground.phase }, { on := 14, ground := Ground.phase }, { on := 15, ground := Ground.phase }], guard := none } : Oper)) (v := .pointer (some ⟨d, 3, none⟩)) rfl (by kernel_rfl) (by kernel_rfl) (by kernel_rfl) (fun _ _ _ h => h) (Or.inl ⟨by rfl, fun X hX => rfl⟩) hHeld ?_
        (try simp only [Act.put, List.setIfInBounds_toArray, List.set_cons_zero, List.set_cons_succ])
        refine wpAnyH_ready (rs := [18]) (by kernel_rfl) (by simp) ?_
        refine (AllReadyH.cons (o := ({ dst := none, op := Op.store 47 (Operand.tmp 52) (Operand.tmp 50), type := 0, pos := "reader.go:123", after := #[{ on := 17, ground := Ground.data }, { on := 15, ground := Ground.data }, { on := 15, ground := Ground.chain }, { on := 0, ground := Ground.phase }, { on := 1, ground := Ground.phase }, { on := 2, ground := Ground.phase }, { on := 3, ground := Ground.phase }, { on := 4, ground := Ground.phase }, { on := 5, ground := Ground.phase }, { on := 6, ground := Ground.phase }, { on := 7, ground := Ground.phase }, { on := 8, ground := Ground.phase }, { on := 9, ground := Ground.phase }, { on := 10, ground := Ground.phase }, { on := 11, ground := Ground.phase }, { on := 12, ground := Ground.phase }, { on := 13, ground := Ground.phase }, { on := 14, ground := Ground.phase }, { on := 15, ground := Ground.phase }], guard := none } : Oper)) rfl (fun K hK => ?_) AllReadyH.nil)
        refine wanted_step (by kernel_rfl) ?_
        go_simp
        refine hK.out _ _ (hs6) (fun hHeld => ?_)
        (try simp only [Act.put, List.setIfInBounds_toArray, List.set_cons_zero, List.set_cons_succ])
        clear hK K
        refine wpAnyH_done (by kernel_rfl) ?_ _
        have hF := HFin.out
        rw [← HKf.out] at hF
        exact bodyPost_end (results_none rfl _ _ _) rfl ⟨rfl, hF⟩
end
end Go.Proofs.YtnjhmjkonmmomaaDoor.K
end
