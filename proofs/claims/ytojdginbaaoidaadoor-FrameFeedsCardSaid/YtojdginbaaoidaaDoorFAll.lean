/- The contract of the document's answer for frames: all that bytes hold. -/
import Derived.Test.YtojdginbaaoidaaDoorFBegins
namespace Go.Proofs.YtojdginbaaoidaaDoor.F
open Go.RowKit
open Go.Lib

def AllP (l : List UInt8) (w : World) (e : Ending) (w' : World) : Prop :=
  Below w.heap.size w w' ∧ ∃ x, e = .returned (.tuple #[x, .int .i64 (goL l).lost, .int .i64 (goL l).left.length]) ∧ w'.ownsRow w.heap.size 9 1 x (goL l).out.length ((goL l).out.map strV)

set_option maxHeartbeats 8000000 in
theorem all_any (s : ByteArray) (w : World) (hs : s.size ≤ 1099511627776) :
    Calls Tryd.prog 14 #[.string s] w (AllP s.data.toList w) := by
  obtain ⟨j0, hj0, hy0, hy1, hy2⟩ := info_parts infoS
  obtain ⟨L, hL⟩ : ∃ L, s.data.toList = L := ⟨_, rfl⟩
  have hsL : s = ⟨L.toArray⟩ := by rw [← hL]
  have hLl : L.length ≤ 1099511627776 := by rw [← hL]; simpa using hs
  subst hsL
  clear hL hs
  have hre : (⟨L.toArray⟩ : ByteArray).data.toList = L := rfl
  rw [hre]
  clear hre
  have HG0 := Lib.hid (show goL L = ⟨[] ++ (goL L).out, 0 + (goL L).lost, (goL L).left⟩ by simp)
  go_enter Tryd.func14, Tryd.ntmps14
  go_wp2_with fail
  go_loopw [0, 5, 6] (fun sv xv kv wr => ∃ (l : List UInt8) (acc : List (List UInt8)) (k : Nat), sv = .string ⟨l.toArray⟩ ∧ kv = .int .i64 k ∧ l.length + k ≤ 1099511627776 ∧ l.length + acc.length ≤ 1099511627776 ∧ Hid (goL L = ⟨acc ++ (goL l).out, k + (goL l).lost, (goL l).left⟩) ∧ Hid (wr.ownsRow w.heap.size 9 1 xv acc.length (acc.map strV)) ∧ Hid (Below w.heap.size w wr)) (fun sv _ _ _ => strLen sv)
  case atStart => exact ⟨L, [], 0, rfl, rfl, by omega, by simpa using hLl, HG0, Lib.hid (World.ownsRow_nil _ _ _ _), Lib.hid (Below.refl _ _)⟩
  case round =>
    obtain ⟨l, acc, k, rfl, rfl, hlk, hla, HG, HX, HW⟩ := hrel
    have hsz : (⟨l.toArray⟩ : ByteArray).size = l.length := rfl
    have hz := HW.out.size
    by_cases hl : 0 < l.length
    · have cB : ∀ W, Calls Tryd.prog 24 #[.string ⟨l.toArray⟩] W fun e w' => e = .returned (.tuple #[.int .i64 (begL l).1, .string ⟨(begL l).2.1.toArray⟩, .int .i64 (begL l).2.2]) ∧ ∃ k, w' = W.drewN k := fun W => begins_any ⟨l.toArray⟩ W (by show l.length ≤ _; omega)
      have hst := step_le l
      have hsf : ∀ q : Nat, q ≤ l.length → ∀ W, (Instr.slice 9 (.string ⟨l.toArray⟩) (some (.int .i64 q)) none none).run Tryd.prog W = .ok (.string ⟨(l.drop q).toArray⟩) W := fun q h => slice_from ⟨l.toArray⟩ q h
      have HSF := Lib.hid hsf
      clear hsf
      by_cases h0 : step l = 0
      · have hbg : begL l = (0, [], 0) := begL_zero (step_zero.1 h0)
        simp only [hbg] at cB
        have hgo := goL_pass h0
        have HG2 : Hid (goL L = ⟨acc ++ (goL (l.drop 1)).out, (k + 1) + (goL (l.drop 1)).lost, (goL (l.drop 1)).left⟩) := Lib.hid (by
          rw [HG.out, hgo]
          simp only [Told.mk.injEq, true_and, and_true]
          omega)
        have hs1 : ∀ W, (Instr.slice 9 (.string ⟨l.toArray⟩) (some (.int .i64 1)) none none).run Tryd.prog W = .ok (.string ⟨(l.drop 1).toArray⟩) W := HSF.out 1 (by omega)
        have hd1 : (l.drop 1).length = l.length - 1 := by simp
        generalize hld : l.drop 1 = l1 at HG2 hs1 hd1
        clear hld hgo hbg h0 HG hst
        go_wp2_with fail
        refine (cB _).mono ?_
        rintro e w2 ⟨rfl, q, rfl⟩
        clear cB
        go_wp2_with fail
        go_roundw
        case rel => exact ⟨l1, acc, k + 1, rfl, by go_num, by omega, by omega, HG2, Lib.hid (owns_same HX.out (fun _ _ => rfl)), Lib.hid (HW.out.trans ((below_drewN (Below.refl _ _) q).mono hz))⟩
        case measure =>
          show l1.length < l.length
          omega
      · by_cases h2 : step l = 2
        · obtain ⟨body, r, hbl, hfr, hrd⟩ := frame_of h2
          have hgo := goL_frame r hbl
          rw [← hfr] at hgo
          have hbg : begL l = (2, body, (headL body.length).length + body.length) := by
            unfold begL
            rw [if_pos h2, hrd]
            simp only [Prod.mk.injEq, true_and, and_true]
            rw [hfr, List.drop_left, List.take_left]
          simp only [hbg] at cB
          have hh := headL_pos body.length
          have hle : (headL body.length).length + body.length + r.length = l.length := by rw [hfr]; simp only [List.length_append]; omega
          have hdr : l.drop ((headL body.length).length + body.length) = r := by rw [hfr, ← List.drop_drop, List.drop_left, List.drop_left]
          obtain ⟨nn, hnn⟩ : ∃ nn, (headL body.length).length + body.length = nn := ⟨_, rfl⟩
          rw [hnn] at cB hle hdr
          have hn0 : 0 < nn := by omega
          have hs1 := HSF.out nn (by omega)
          rw [hdr] at hs1
          have HG2 : Hid (goL L = ⟨(acc ++ [body]) ++ (goL r).out, k + (goL r).lost, (goL r).left⟩) := Lib.hid (by
            rw [HG.out, hgo]
            simp)
          clear hgo hbg h0 h2 HG hst hfr hrd hbl hh hnn hdr
          go_wp2_with fail
          refine (cB _).mono ?_
          rintro e w2 ⟨rfl, q, rfl⟩
          obtain ⟨w3, hw3⟩ : ∃ w3, wr.drewN q = w3 := ⟨_, rfl⟩
          have hX3 : w3.ownsRow w.heap.size 9 1 u5 acc.length (acc.map strV) := by rw [← hw3]; exact owns_same HX.out (fun _ _ => rfl)
          have HW3 := Lib.hid (show Below w.heap.size w w3 by rw [← hw3]; exact HW.out.trans ((below_drewN (Below.refl _ _) q).mono hz))
          rw [hw3]
          have hz3 := HW3.out.size
          have HX3 := Lib.hid hX3
          clear cB hw3
          go_wp2_with (at_builtin; refine wpList_append_own _ rfl _ _ 22 rfl w.heap.size 9 j0 (.string ⟨#[]⟩) 1 16 Tryd.underlying22 hj0 hy0 hy1 hy2 rfl (by decide) _ _ _ rfl (hX3.alloc _) ⟨w3.heap.size, 0, none⟩ 1 1 [.string ⟨body.toArray⟩] rfl rfl ?c1 ?c2 ?c3 ?c4 ?c5 ?_)
          case c1 =>
            intro j u hj
            cases j with
            | zero =>
              simp only [List.getElem?_cons_zero, Option.some.injEq] at hj
              subst hj
              rw [Addr.add_lit]
              unfold World.cell?
              simp only [heap_alloc_new]
              rfl
            | succ j => simp at hj
          case c2 => intro u hu; simp only [List.mem_singleton] at hu; subst hu; rfl
          case c3 => unfold maxLen; omega
          case c4 => omega
          case c5 => simp; omega
          intro xv w4 hown4 hg4 _
          have HO4 := Lib.hid hown4
          have HG4 := Lib.hid hg4
          clear hown4 hg4 hX3
          go_wp2_with fail
          go_roundw
          case rel =>
            refine ⟨r, acc ++ [body], k, rfl, rfl, by omega, by rw [List.length_append, List.length_singleton]; omega, HG2, Lib.hid ?_, Lib.hid ?_⟩
            · have := HO4.out
              rw [List.length_append, List.map_append]
              exact this
            · have h1 : Below w.heap.size w3 (w3.alloc (.cells #[.string ⟨body.toArray⟩] 9)) := (Below.refl _ _).alloc hz3 _
              refine HW3.out.trans (h1.trans ⟨HG4.out.os, HG4.out.tape, HG4.out.output, HG4.out.size, fun q hq => HG4.out.block q (by simp; omega) (fun e => by have := (HX3.out.lt q e.symm).1; omega)⟩)
          case measure =>
            show r.length < l.length
            omega
        · have h1 : step l = 1 := by omega
          have hbg : begL l = (1, [], 0) := by
            unfold begL
            rw [if_neg h2, h1]
          simp only [hbg] at cB
          have hgo := goL_wait h1
          have HG2 : Hid (goL L = ⟨acc, k, l⟩) := Lib.hid (by rw [HG.out, hgo]; simp)
          clear hgo hbg h0 h1 h2 HG hst
          go_wp2_with fail
          refine (cB _).mono ?_
          rintro e w2 ⟨rfl, q, rfl⟩
          clear cB
          go_wp2_with fail
          go_ret3
          refine ⟨HW.out.trans ((below_drewN (Below.refl _ _) q).mono hz), u5, ?_, ?_⟩
          · rw [HG2.out]; rfl
          · rw [HG2.out]; exact owns_same HX.out (fun _ _ => rfl)
    · have hl0 : l = [] := List.eq_nil_of_length_eq_zero (by omega)
      subst hl0
      have HG2 : Hid (goL L = ⟨acc, k, []⟩) := Lib.hid (by rw [HG.out, goL_wait step_nil]; simp)
      clear HG
      go_wp2_with fail
      go_ret3
      refine ⟨HW.out, u5, ?_, ?_⟩
      · rw [HG2.out]; rfl
      · rw [HG2.out]; exact HX.out
end Go.Proofs.YtojdginbaaoidaaDoor.F
