/- The contract of Feed. -/
import Derived.Test.YtojdginbaaoidaaDoorFDec
import Derived.Laws.IdiomStrings
namespace Go.Proofs.YtojdginbaaoidaaDoor.F
open Go.RowKit
open Go.Lib

def lenV : Value → Nat | .slice _ n _ => n | _ => 0
def strV (l : List UInt8) : Value := .string ⟨l.toArray⟩
theorem infoS : (Tryd.prog.info? 9).map (fun i => (i.zero, i.size, i.bytes)) = some (some (.string ⟨#[]⟩), 1, 16) := by kernel_rfl

/-- So the table stands since a world of B blocks. -/
def Env (B : Nat) (w : World) : Prop := ∃ w0 : World, w0.heap.size = B ∧ EnvF w0 ∧ Below B w0 w
theorem Env.now {B : Nat} {w : World} (h : Env B w) : EnvF w := by obtain ⟨w0, rfl, h, hb⟩ := h; exact h.later hb
theorem Env.later {B : Nat} {w w' : World} (h : Env B w) (hb : Below B w w') : Env B w' := by obtain ⟨w0, h0, h, hb0⟩ := h; exact ⟨w0, h0, h, hb0.trans hb⟩
theorem Env.size {B : Nat} {w : World} (h : Env B w) : B ≤ w.heap.size := by obtain ⟨w0, h0, _, hb⟩ := h; have := hb.size; omega
theorem Env.mut {B M d : Nat} {w w' : World} (h : Env B w) (hd : B ≤ d) (hm : Mut M d w w') (hM : B ≤ M) : Env B w' := h.later ((hm.mono hM).below hd)
theorem Env.start {w : World} (h : EnvF w) : Env w.heap.size w := ⟨w, rfl, h, Below.refl _ _⟩

/-- Where the rest lies that is not yet looked at. -/
structure Rest (v : Value) (L : List UInt8) (i : Nat) (ao : Option Addr) (c : Nat) : Prop where
  le : i ≤ L.length
  cap : L.length - i ≤ c
  at' : L ≠ [] → ∃ g cp o, v = .slice (some ⟨g, 0, none⟩) L.length cp ∧ ao = some ⟨g, o, none⟩ ∧ (i < L.length → o = i)
theorem Rest.lies {v : Value} {L : List UInt8} {i : Nat} {ao : Option Addr} {c B : Nat} {w : World} (h : Rest v L i ao c) (ho : w.ownsRow B 5 1 v L.length (Lib.byteCells L)) : LiesAt w ao (L.drop i) := by
  by_cases hi : i < L.length
  · obtain ⟨g, cp, o, rfl, rfl, h3⟩ := h.at' (by intro e; rw [e] at hi; exact Nat.not_lt_zero _ hi)
    obtain rfl := h3 hi
    have := (row_lies ho).drop o
    rw [Nat.zero_add] at this
    exact .inr ⟨g, o, rfl, this⟩
  · exact .inl (List.drop_eq_nil_of_le (by omega))

theorem goL_out : ∀ (b : List UInt8), (goL b).out.length ≤ b.length := by
  intro b
  have h := (goL_all _ b (Nat.le_refl _)).1
  have : ∀ l : List (List UInt8), l.length ≤ (encL l).length := by
    intro l
    induction l with
    | nil => exact Nat.zero_le _
    | cons x r ih => have := headL_pos x.length; simp only [encL, List.length_append, List.length_cons]; omega
  have := this (goL b).out
  omega

/-- How Feed ends. -/
def Feeds (d : Nat) (v : Value) (L : List UInt8) (lost : Nat) (w : World) (e : Ending) (w' : World) : Prop :=
  ∃ x v', e = .returned x ∧ w'.ownsRow w.heap.size 9 1 x (goL L).out.length ((goL L).out.map strV) ∧ Blk d v' ((lost + (goL L).lost : Nat) : Int) w' ∧ Row d v' (goL L).left w' ∧
    (w'.os = w.os ∧ w'.tape = w.tape ∧ w'.output = w.output ∧ w.heap.size ≤ w'.heap.size ∧ ∀ k, k < w.heap.size → k ≠ d → some k ≠ v.ownBlock → w'.heap[k]? = w.heap[k]?)

set_option maxHeartbeats 4000000 in
theorem feed_any (d B : Nat) (v : Value) (l : List UInt8) (s : ByteArray) (lost : Nat) (w : World) (hb : Blk d v lost w) (hr : Row d v l w) (hE : Env B w) (hBd : B ≤ d) (hls : l.length + s.size ≤ 1099511627776) (hlost : lost ≤ 1099511627776) :
    Calls Tryd.prog 13 #[.pointer (some ⟨d, 0, none⟩), .string s] w (Feeds d v (l ++ s.data.toList) lost w) := by
  obtain ⟨va, vc, rfl⟩ := owns_len hr
  obtain ⟨i0, hi0, hz0, hz1, hz2⟩ := info_parts infoB
  obtain ⟨j0, hj0, hy0, hy1, hy2⟩ := info_parts infoS
  obtain ⟨L, hL⟩ : ∃ L, l ++ s.data.toList = L := ⟨_, rfl⟩
  have hLl : L.length = l.length + s.size := by rw [← hL]; simp
  have hLL : L.length ≤ 1099511627776 := by omega
  have hLb : Lib.byteCells l ++ strCells s = Lib.byteCells L := by rw [← hL, Lib.byteCells_append]; rfl
  have hdlt := hb.lt
  rw [hL]
  have h0 := hb.c0
  have H := Lib.hid hb
  have HROW := Lib.hid hr
  have HE := Lib.hid hE
  have HLb := Lib.hid hLb
  have HLl := Lib.hid hLl
  clear hb hE hL hLb hLl
  go_enter Tryd.func13, Tryd.ntmps13
  go_wp2_with (at_builtin; refine wpList_append_own_string _ rfl _ _ 29 9 rfl (d + 1) 5 i0 Tryd.underlying29 Tryd.underlying9 hi0 hz0 hz1 hz2 _ l.length (Lib.byteCells l) rfl hr s rfl ?q1 ?q2 ?q3 ?_)
  case q1 => unfold maxLen; omega
  case q2 => omega
  case q3 => omega
  intro v1 w1 hown hg _
  obtain ⟨va1, vc1, rfl⟩ := owns_len hown
  have hne : (Value.slice va l.length vc).ownBlock ≠ some d := by
    intro e
    have := hr.lt d e
    omega
  have hB : Blk d (.slice va l.length vc) lost w1 := H.out.same (hg.block d hdlt (fun e => hne e.symm))
  have k0 := hB.c0
  have k1 := hB.f0
  have HB := Lib.hid hB
  have HG := Lib.hid hg
  rw [HLb.out, ← HLl.out] at hown
  rw [← HLl.out] at *
  have HO := Lib.hid hown
  clear hB hg hown hr HLb
  go_wp2_with fail
  obtain ⟨w2, hw2⟩ : ∃ w2, w1.setCell ⟨d, 0, none⟩ (.slice va1 L.length vc1) = w2 := ⟨_, rfl⟩
  rw [hw2]
  have hB2 : Blk d (.slice va1 L.length vc1) lost w2 := by rw [← hw2]; exact HB.out.set0 _
  have hne1 : (Value.slice va1 L.length vc1).ownBlock ≠ some d := by
    intro e
    have := HO.out.lt d e
    omega
  have hsc : ∀ k, k ≠ d → w2.heap[k]? = w1.heap[k]? := fun k hk => by rw [← hw2]; exact Below.heap_setCell _ _ _ _ hk
  have hR2 : Row d (.slice va1 L.length vc1) L w2 := owns_same HO.out (fun k hk => hsc k (fun e => hne1 (by rw [hk, e])))
  have hz2 : w1.heap.size = w2.heap.size := by rw [← hw2]; simp
  have hz1 := HG.out.size
  have hF : w2.os = w.os ∧ w2.tape = w.tape ∧ w2.output = w.output ∧ w.heap.size ≤ w2.heap.size ∧ ∀ k, k < w.heap.size → k ≠ d → some k ≠ (Value.slice va l.length vc).ownBlock → w2.heap[k]? = w.heap[k]? := by
    refine ⟨?_, ?_, ?_, by omega, fun k hk hd hr => (hsc k hd).trans (HG.out.block k hk hr)⟩
    · rw [← hw2]; exact HG.out.os
    · rw [← hw2]; exact HG.out.tape
    · rw [← hw2]; exact HG.out.output
  have hdl : d < w.heap.size := H.out.lt
  have hE2 : Env B w2 := HE.out.later ⟨hF.1, hF.2.1, hF.2.2.1, hF.2.2.2.1, fun k hk => hF.2.2.2.2 k (by omega) (by omega) (fun e => by have := HROW.out.lt k e.symm; omega)⟩
  have HF := Lib.hid hF
  have HB2 := Lib.hid hB2
  have HR2 := Lib.hid hR2
  have HE2 := Lib.hid hE2
  have HT := Lib.hid (show goL (L.drop 0) = goL L from rfl)
  have hrest : Rest (.slice va1 L.length vc1) L 0 va1 vc1 := by
    refine ⟨Nat.zero_le _, ?_, fun hL => ?_⟩
    · rcases hR2.2 with ⟨h, h2⟩ | ⟨g, cap, cur, h, _, _, h3, _⟩
      · rw [h2]; omega
      · cases h; omega
    · rcases hR2.2 with ⟨h, h2⟩ | ⟨g, cap, cur, h, _, _, h3, _⟩
      · exact absurd (List.eq_nil_of_length_eq_zero h2) hL
      · cases h
        exact ⟨g, _, 0, rfl, rfl, fun _ => rfl⟩
  have HREST := Lib.hid hrest
  have hd2 := hB2.lt
  clear hB2 hR2 hE2 hF hrest hsc hw2 HB HG HO HE H k0 k1 h0
  go_loopw [5, 6] (fun rv xv wr => ∃ (i n : Nat) (acc : List (List UInt8)) (k : Nat) (ao : Option Addr) (c : Nat), rv = .slice ao n c ∧ n = L.length - i ∧ k ≤ i ∧ acc.length ≤ i ∧ Hid (Rest (.slice va1 L.length vc1) L i ao c) ∧
      Hid (goL L = ⟨acc ++ (goL (L.drop i)).out, k + (goL (L.drop i)).lost, (goL (L.drop i)).left⟩) ∧ Hid (wr.ownsRow w2.heap.size 9 1 xv acc.length (acc.map strV)) ∧ Hid (Mut w2.heap.size d w2 wr) ∧ Hid (Blk d (.slice va1 L.length vc1) ((lost + k : Nat) : Int) wr))
    (fun rv _ _ => lenV rv)
  case atStart => exact ⟨0, L.length, [], 0, va1, vc1, rfl, by omega, by omega, Nat.zero_le _, HREST, Lib.hid (by rw [HT.out]; simp), Lib.hid (World.ownsRow_nil _ _ _ _), Lib.hid (Mut.refl _ _ _), HB2⟩
  case round =>
    obtain ⟨i, n, acc, k, ao, c, rfl, rfl, hk, hacc, HRE, HGO, HX, HM, HBL⟩ := hrel
    have hi := HRE.out.le
    have hrow : Row d (.slice va1 L.length vc1) L wr := owns_same HR2.out (fun k hk => HM.out.block k (HR2.out.lt k hk).2 (fun e => hne1 (by rw [hk, e])))
    have hEr : Env B wr := HE2.out.mut hBd HM.out (by omega)
    have cR := readHead_any ao c (L.drop i) wr (HRE.out.lies hrow) (by rw [List.length_drop]; omega) (by rw [List.length_drop]; exact HRE.out.cap) hEr.now
    have hln : (L.drop i).length = L.length - i := by simp
    rw [hln] at cR
    have hzr := HM.out.size
    have HROWR := Lib.hid hrow
    have HER := Lib.hid hEr
    have hst := step_le (L.drop i)
    by_cases h0 : step (L.drop i) = 0
    · have hf := step_zero.1 h0
      have hpos := step_pos (b := L.drop i) (by omega)
      rw [hln] at hpos
      have hgo := goL_pass h0
      rw [List.drop_drop] at hgo
      rw [hf] at cR
      generalize (readL (L.drop i)).1 = r1 at cR
      generalize (readL (L.drop i)).2.1 = r2 at cR
      have HGO2 : Hid (goL L = ⟨acc ++ (goL (L.drop (i + 1))).out, (k + 1) + (goL (L.drop (i + 1))).lost, (goL (L.drop (i + 1))).left⟩) := Lib.hid (by
        rw [HGO.out, hgo]
        simp only [Told.mk.injEq, true_and, and_true]
        omega)
      clear hgo hf h0 hrow hEr HGO
      obtain ⟨g, cp, o, hve, rfl, ho⟩ := HRE.out.at' (by intro e; rw [e] at hpos; simp at hpos)
      have HO := Lib.hid ho
      have HVE := Lib.hid hve
      clear ho hve
      go_wp2_with fail
      refine cR.mono ?_
      rintro e w3 ⟨rfl, hw3⟩
      have hB3 := HBL.out.below hw3
      have q1 := hB3.c1
      have q2 := hB3.f1
      have HB3 := Lib.hid hB3
      have HW3 := Lib.hid hw3
      have hz3 := hw3.size
      clear cR hw3 hB3
      go_wp2_with fail
      go_roundw
      case rel =>
        refine ⟨i + 1, L.length - i - 1, acc, k + 1, _, c - 1, rfl, by omega, by omega, by omega, Lib.hid ?_, HGO2, Lib.hid ?_, Lib.hid ?_, Lib.hid ?_⟩
        · refine ⟨by omega, by have := HRE.out.cap; omega, fun _ => ?_⟩
          by_cases hc : c = 1
          · exact ⟨g, cp, o, HVE.out, by rw [if_pos hc], fun h => by have := HRE.out.cap; omega⟩
          · exact ⟨g, cp, o + 1, HVE.out, by rw [if_neg hc], fun _ => by have := HO.out (by omega); omega⟩
        · refine owns_same HX.out (fun j hj => ?_)
          have hj2 := HX.out.lt j hj
          exact (Below.heap_setCell _ _ _ _ (by simp only; omega)).trans (HW3.out.block j hj2.2)
        · exact (HM.out.trans ((Mut.of_below HW3.out).mono hzr)).setCell 1 _
        · have := HB3.out.set1 ((lost : Int) + k + 1)
          have e : ((lost + (k + 1) : Nat) : Int) = (lost : Int) + k + 1 := by omega
          rw [e]
          exact this
      case measure => simp [lenV]; omega
    · have hne0 := h0
      by_cases h2 : step (L.drop i) = 2
      · have hst2 := step_two.1 h2
        obtain ⟨body, r, hbl, hfr, hrd⟩ := frame_of h2
        have hgo := goL_frame r hbl
        rw [← hfr] at hgo
        have hh := headL_pos body.length
        have hle : (headL body.length).length + body.length + r.length = L.length - i := by rw [← hln, hfr]; simp only [List.length_append]; omega
        have hr2 : r = L.drop (i + ((headL body.length).length + body.length)) := by
          rw [← List.drop_drop, hfr, ← List.drop_drop, List.drop_left, List.drop_left]
        have hbd : body = (L.drop (i + (headL body.length).length)).take body.length := by
          rw [← List.drop_drop, hfr, List.drop_left, List.take_left]
        rw [hrd] at cR
        simp only at cR
        rw [hr2] at hgo
        generalize (headL body.length).length = hz at cR hh hle hbd hgo
        have HBD := Lib.hid hbd
        have HGO2 : Hid (goL L = ⟨(acc ++ [body]) ++ (goL (L.drop (i + (hz + body.length)))).out, k + (goL (L.drop (i + (hz + body.length)))).lost, (goL (L.drop (i + (hz + body.length)))).left⟩) := Lib.hid (by
          rw [HGO.out, hgo]
          simp)
        obtain ⟨xa, xc, rfl⟩ := owns_len HX.out
        clear hgo h0 h2 hrow hEr HGO hst2 hrd hr2 hbd hfr hbl hst hne0
        obtain ⟨g, cp, o, hve, rfl, ho⟩ := HRE.out.at' (by intro e; rw [e] at hle; simp at hle; omega)
        obtain rfl := ho (by omega)
        have HVE := Lib.hid hve
        have hcl := row_lies (hve ▸ HROWR.out)
        clear ho hve
        have hc := HRE.out.cap
        go_wp2_with fail
        refine cR.mono ?_
        rintro e w3 ⟨rfl, hw3⟩
        have hcv : ∀ oo cx, (body ≠ [] → oo = o + hz) → (convert 29 9 (.slice (some ⟨g, oo, none⟩) body.length cx)).run Tryd.prog w3 = .ok (.string ⟨body.toArray⟩) w3 := fun oo cx hoo =>
          run_convert_bytes_back w3 _ _ 5 ⟨g, oo, none⟩ cx body Tryd.underlying29 Tryd.underlying5 Tryd.underlying9 (fun j hj => by
            rw [Addr.add_lit, hoo (by intro e; rw [e] at hj; exact Nat.not_lt_zero _ hj)]
            have hj2 : o + hz + j < L.length := by omega
            have h1 := (hcl.later (hw3.block g (hcl.lt (by intro e; rw [e] at hj2; exact Nat.not_lt_zero _ hj2)))) (o + hz + j) hj2
            rw [Nat.zero_add] at h1
            rw [h1]
            congr 3
            have h2 : body[j] = ((L.drop (o + hz)).take body.length)[j]'(by rw [← HBD.out]; exact hj) := by congr 1
            rw [h2]
            simp)
        have HCV := Lib.hid hcv
        have HW3 := Lib.hid hw3
        have hz3 := hw3.size
        have hX3 : w3.ownsRow w2.heap.size 9 1 (.slice xa acc.length xc) acc.length (acc.map strV) := owns_same HX.out (fun j hj => hw3.block j (HX.out.lt j hj).2)
        have HX3 := Lib.hid hX3
        clear cR hw3 hcv hcl
        by_cases hch : c = hz
        · subst hch
          obtain rfl : body = [] := List.eq_nil_of_length_eq_zero (by omega)
          have hcv0 : (convert 29 9 (.slice (some ⟨g, o, none⟩) 0 0)).run Tryd.prog w3 = .ok (.string ⟨#[]⟩) w3 := HCV.out o 0 (fun h => absurd rfl h)
          go_wp2_with (at_builtin; refine wpList_append_own _ rfl _ _ 22 rfl w2.heap.size 9 j0 (.string ⟨#[]⟩) 1 16 Tryd.underlying22 hj0 hy0 hy1 hy2 rfl (by decide) _ _ _ rfl (hX3.alloc _) ⟨w3.heap.size, 0, none⟩ 1 1 [.string ⟨#[]⟩] rfl rfl ?c1 ?c2 ?c3 ?c4 ?c5 ?_)
          case c1 =>
            intro j u hj
            cases j with
            | zero =>
              simp only [List.getElem?_cons_zero, Option.some.injEq] at hj
              subst hj
              rw [Addr.add_lit]
              unfold World.cell?
              simp only [heap_alloc_new]
              rfl
            | succ j => simp at hj
          case c2 => intro u hu; simp only [List.mem_singleton] at hu; subst hu; rfl
          case c3 => unfold maxLen; omega
          case c4 => omega
          case c5 => simp; omega
          intro xv w4 hown4 hg4 _
          obtain ⟨xb, xd, rfl⟩ := owns_len hown4
          have HO4 := Lib.hid hown4
          have HG4 := Lib.hid hg4
          have hz4 := hg4.size
          simp only [World.size_alloc] at hz4
          clear hown4 hg4 hX3
          go_wp2_with fail
          go_roundw
          case rel =>
            refine ⟨o + (c + 0), _, acc ++ [[]], k, _, _, rfl, by omega, by omega, by rw [List.length_append, List.length_singleton]; omega, Lib.hid ?_, HGO2, Lib.hid ?_, Lib.hid ?_, Lib.hid ?_⟩
            · refine ⟨by omega, by omega, fun _ => ?_⟩
              exact ⟨g, cp, o, HVE.out, by first | rfl | simp, fun h => by omega⟩
            · have := HO4.out
              rw [List.length_append, List.map_append]
              exact this
            · exact (HM.out.trans (((Mut.of_below HW3.out).mono hzr).trans (((Mut.refl w2.heap.size d w3).alloc (by omega) _)))).grown HG4.out (by simp; omega) (fun k hk => .inl (HX3.out.lt k hk).1)
            · have h1 : Blk d (.slice va1 L.length vc1) ((lost + k : Nat) : Int) w3 := HBL.out.below HW3.out
              have h2 : d < w3.heap.size := h1.lt
              refine h1.same (((HG4.out).block d (by simp; omega) (fun e => ?_)).trans (Below.heap_alloc w3 _ d h2))
              have := (HX3.out.lt d e.symm).1
              omega
          case measure => simp [lenV]; omega
        · go_wp2_with fail
          rw [HCV.out _ _ (fun _ => rfl)]
          go_wp2_with (at_builtin; refine wpList_append_own _ rfl _ _ 22 rfl w2.heap.size 9 j0 (.string ⟨#[]⟩) 1 16 Tryd.underlying22 hj0 hy0 hy1 hy2 rfl (by decide) _ _ _ rfl (hX3.alloc _) ⟨w3.heap.size, 0, none⟩ 1 1 [.string ⟨body.toArray⟩] rfl rfl ?c1 ?c2 ?c3 ?c4 ?c5 ?_)
          case c1 =>
            intro j u hj
            cases j with
            | zero =>
              simp only [List.getElem?_cons_zero, Option.some.injEq] at hj
              subst hj
              rw [Addr.add_lit]
              unfold World.cell?
              simp only [heap_alloc_new]
              rfl
            | succ j => simp at hj
          case c2 => intro u hu; simp only [List.mem_singleton] at hu; subst hu; rfl
          case c3 => unfold maxLen; omega
          case c4 => omega
          case c5 => simp; omega
          intro xv w4 hown4 hg4 _
          obtain ⟨xb, xd, rfl⟩ := owns_len hown4
          have HO4 := Lib.hid hown4
          have HG4 := Lib.hid hg4
          have hz4 := hg4.size
          simp only [World.size_alloc] at hz4
          clear hown4 hg4 hX3
          go_wp2_with fail
          go_roundw
          case rel =>
            refine ⟨o + (hz + body.length), _, acc ++ [body], k, _, _, rfl, by omega, by omega, by rw [List.length_append, List.length_singleton]; omega, Lib.hid ?_, HGO2, Lib.hid ?_, Lib.hid ?_, Lib.hid ?_⟩
            · refine ⟨by omega, by omega, fun _ => ?_⟩
              by_cases hc2 : c = hz + body.length
              · exact ⟨g, cp, o, HVE.out, by first | rw [if_pos hc2] | simp [hc2], fun h => by omega⟩
              · exact ⟨g, cp, o + (hz + body.length), HVE.out, by first | rw [if_neg hc2] | simp [hc2], fun _ => by omega⟩
            · have := HO4.out
              rw [List.length_append, List.map_append]
              exact this
            · exact (HM.out.trans (((Mut.of_below HW3.out).mono hzr).trans (((Mut.refl w2.heap.size d w3).alloc (by omega) _)))).grown HG4.out (by simp; omega) (fun k hk => .inl (HX3.out.lt k hk).1)
            · have h1 : Blk d (.slice va1 L.length vc1) ((lost + k : Nat) : Int) w3 := HBL.out.below HW3.out
              have h2 : d < w3.heap.size := h1.lt
              refine h1.same (((HG4.out).block d (by simp; omega) (fun e => ?_)).trans (Below.heap_alloc w3 _ d h2))
              have := (HX3.out.lt d e.symm).1
              omega
          case measure => simp [lenV]; omega
      · have h1 : step (L.drop i) = 1 := by omega
        have hgo := goL_wait h1
        rw [hgo] at HGO
        have HGO2 : Hid (goL L = ⟨acc, k, L.drop i⟩) := Lib.hid (by rw [HGO.out]; simp)
        have hfl := fit_le (L.drop i)
        have hf : (readL (L.drop i)).2.2 = 1 ∨ ((readL (L.drop i)).2.2 = 2 ∧ L.length - i < (readL (L.drop i)).1 + (readL (L.drop i)).2.1 ∧ (readL (L.drop i)).1 ≤ 25 ∧ (readL (L.drop i)).2.1 ≤ 65536) := by
          have h3 : (readL (L.drop i)).2.2 ≠ 0 := fun e => h0 (step_zero.2 e)
          by_cases h4 : (readL (L.drop i)).2.2 = 1
          · exact .inl h4
          · right
            have h5 : (readL (L.drop i)).2.2 = 2 := by omega
            obtain ⟨m, r, hm, _, hrd⟩ := whole_of h5
            have h6 : ¬ ((readL (L.drop i)).1 + (readL (L.drop i)).2.1 ≤ (L.drop i).length) := fun h => h2 (step_two.2 ⟨h5, h⟩)
            rw [hln] at h6
            have h7 := dec_long hm
            have h8 := headL_length m
            refine ⟨h5, by omega, ?_, ?_⟩
            · rw [hrd]; simp only; omega
            · rw [hrd]; exact hm
        have hcl : ∀ g o, 0 < i → ao = some ⟨g, o, none⟩ → CellsAt wr g o (L.drop i) := by
          intro g o h3 h4 j hj
          have hj2 : i < L.length := by rw [hln] at hj; omega
          obtain ⟨g', cp, o', hve, h5, ho⟩ := HRE.out.at' (by intro e; rw [e] at hj2; simp at hj2)
          rw [h4] at h5
          cases h5
          obtain rfl := ho hj2
          have := (row_lies (hve ▸ HROWR.out)).drop o
          rw [Nat.zero_add] at this
          exact this j hj
        have hao : 0 < i → ∃ g o, ao = some ⟨g, o, none⟩ := by
          intro h3
          obtain ⟨g', cp, o', _, h5, _⟩ := HRE.out.at' (by intro e; rw [e] at hi; simp at hi; omega)
          exact ⟨g', o', h5⟩
        have HCL := Lib.hid hcl
        have HAO := Lib.hid hao
        have hfin : ∀ w4 v', Blk d v' ((lost + k : Nat) : Int) w4 → Row d v' (L.drop i) w4 → Mut wr.heap.size d wr w4 → Feeds d (.slice va l.length vc) L lost w (.returned u6) w4 := by
          intro w4 v' h3 h4 h5
          have h6 := HM.out.trans (h5.mono hzr)
          have h7 := HF.out
          have h8 : w4.ownsRow w.heap.size 9 1 u6 acc.length (acc.map strV) := owns_base (owns_same HX.out (fun j hj => h5.block j (HX.out.lt j hj).2 (fun e => by have := (HX.out.lt j hj).1; omega))) h7.2.2.2.1
          refine ⟨u6, v', rfl, ?_, ?_, ?_, h6.os.trans h7.1, h6.tape.trans h7.2.1, h6.output.trans h7.2.2.1, Nat.le_trans h7.2.2.2.1 h6.size, fun j hj hd hr => (h6.block j (by omega) hd).trans (h7.2.2.2.2 j hj hd hr)⟩
          · rw [HGO2.out]; exact h8
          · rw [HGO2.out]; exact h3
          · rw [HGO2.out]; exact h4
        have HFIN := Lib.hid hfin
        clear hfin hao hcl hgo h1 h0 h2 hst hrow hEr HGO hfl hne0
        generalize (readL (L.drop i)).1 = r1 at cR hf
        generalize (readL (L.drop i)).2.1 = r2 at cR hf
        generalize (readL (L.drop i)).2.2 = f at cR hf
        by_cases hi0' : i = 0
        · subst hi0'
          have hB4 : ∀ w4, Below wr.heap.size wr w4 → Calls Tryd.prog 23 #[.pointer (some ⟨d, 0, none⟩), .slice ao L.length c] w4 fun e w' => e = .returned (.tuple #[]) ∧ w' = w4 := fun w4 h => keep_all d L.length va1 ao vc1 c _ w4 (HBL.out.below h)
          go_wp2_with fail
          refine cR.mono ?_
          rintro e w3 ⟨rfl, hw3⟩
          have hcK := hB4 w3 hw3
          have HW3 := Lib.hid hw3
          clear cR hw3 hB4
          rcases hf with rfl | ⟨rfl, hf1, hf2, hf3⟩
          all_goals
            go_wp2_with fail
            refine hcK.mono ?_
            rintro e w4 ⟨rfl, rfl⟩
            go_wp2_with fail
            go_ret
            refine HFIN.out _ _ (HBL.out.below HW3.out) ?_ (Mut.of_below HW3.out)
            exact owns_same HROWR.out (fun j hj => HW3.out.block j (HROWR.out.lt j hj).2)
        · obtain ⟨g, o, rfl⟩ := HAO.out (by omega)
          have hcells := HCL.out g o (by omega) rfl
          have hB4 : ∀ w4, Below wr.heap.size wr w4 → Calls Tryd.prog 23 #[.pointer (some ⟨d, 0, none⟩), .slice (some ⟨g, o, none⟩) (L.length - i) c] w4 fun e w' => e = .returned (.tuple #[]) ∧ ∃ v, Blk d v ((lost + k : Nat) : Int) w' ∧ w'.ownsRow w4.heap.size 5 1 v (L.drop i).length (Lib.byteCells (L.drop i)) ∧ Mut w4.heap.size d w4 w' := fun w4 h => by
            rw [← hln]
            refine keep_some d L.length va1 vc1 g o c (L.drop i) _ w4 (HBL.out.below h) (by rw [hln]; omega) (by rw [hln]; omega) ?_
            by_cases hnil : L.drop i = []
            · intro j hj; rw [hnil] at hj; exact absurd hj (Nat.not_lt_zero _)
            · exact hcells.later (h.block g (hcells.lt hnil))
          clear hcells
          go_wp2_with fail
          refine cR.mono ?_
          rintro e w3 ⟨rfl, hw3⟩
          have hcK := hB4 w3 hw3
          have HW3 := Lib.hid hw3
          clear cR hw3 hB4
          rcases hf with rfl | ⟨rfl, hf1, hf2, hf3⟩
          all_goals
            go_wp2_with fail
            refine hcK.mono ?_
            rintro e w4 ⟨rfl, v', hb4, hr4, hm4⟩
            have HB4 := Lib.hid hb4
            have HR4 := Lib.hid hr4
            have HM4 := Lib.hid hm4
            clear hcK hb4 hr4 hm4
            go_wp2_with fail
            go_ret
            have hz3 := HW3.out.size
            refine HFIN.out _ _ HB4.out (owns_base HR4.out (by omega)) ((Mut.of_below HW3.out).trans (HM4.out.mono hz3))
end Go.Proofs.YtojdginbaaoidaaDoor.F
