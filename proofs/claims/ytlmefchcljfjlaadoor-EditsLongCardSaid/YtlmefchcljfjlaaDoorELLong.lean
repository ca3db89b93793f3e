/- The walk of the statement 'no longer than may be' of layer 6. -/
import Derived.Test.YtlmefchcljfjlaaDoorELParts
import Derived.Laws.OwnMore
import Derived.OwnWalk
namespace Go.Proofs.YtlmefchcljfjlaaDoor.E
open Go.RowKit
open Go.Lib hiding intOf
open Go.Proofs.YtlmefchcljfjlaaDoor.U Go.Proofs.YtlmefchcljfjlaaDoor.L

/-- A text of n letters a. -/
structure AsN (s : ByteArray) (n : Nat) : Prop where
  size : s.size = n
  byte : ∀ i, i < n → (s.get! i).toNat = 97
theorem AsN.decode {s : ByteArray} {n pos : Nat} (h : AsN s n) (hp : pos < n) : Utf8.decode s pos = (97, 1) := by
  rw [decode_at, h.byte pos hp, decodeN_low _ _ _ _ _ (by omega)]
theorem AsN.itemsF {s : ByteArray} {n : Nat} (h : AsN s n) : ∀ f pos, n - pos ≤ f → itemsF s f pos = List.replicate (n - pos) (97, 1)
  | 0, pos, hf => by rw [show n - pos = 0 by omega]; rfl
  | f + 1, pos, hf => by
    by_cases hp : pos < n
    · rw [itemsF_step s f pos (by rw [h.size]; exact hp), h.decode hp, h.itemsF f (pos + 1) (by omega), show n - pos = (n - (pos + 1)) + 1 by omega, List.replicate_succ]
    · rw [itemsF_end s _ pos (by rw [h.size]; exact hp), show n - pos = 0 by omega]; rfl
theorem AsN.items {s : ByteArray} {n : Nat} (h : AsN s n) : items s = List.replicate n (97, 1) := by
  unfold U.items; rw [h.itemsF s.size 0 (by rw [h.size]; omega)]; rfl
theorem okL_rep : ∀ n, okL (List.replicate n (97, 1)) = true
  | 0 => rfl
  | n + 1 => by rw [List.replicate_succ]; simp only [okL]; rw [if_neg (by omega)]; exact okL_rep n
theorem AsN.ok {s : ByteArray} {n : Nat} (h : AsN s n) : okB s = true := by unfold okB; rw [h.items]; exact okL_rep n
theorem AsN.ends {s : ByteArray} {n : Nat} (h : AsN s n) : ends s = [] := by
  unfold L.ends endsTo
  rw [List.filter_eq_nil_iff]
  intro i hi
  rw [List.mem_range, h.size] at hi
  unfold nlAt
  rw [h.byte i hi]; simp
theorem off_rep : ∀ (m pos ahead u : Nat), ahead ≤ u → u ≤ ahead + m → off (List.replicate m (97, 1)) pos ahead (u : Int) = (((pos + (u - ahead) : Nat) : Int), 0)
  | 0, pos, ahead, u, h1, h2 => by
    obtain rfl : u = ahead := by omega
    rw [off_hit _ _ _ _ rfl]; simp
  | m + 1, pos, ahead, u, h1, h2 => by
    by_cases he : ahead = u
    · subst he; rw [off_hit _ _ _ _ rfl]; simp
    · rw [List.replicate_succ]
      simp only [off]
      rw [if_neg (by omega)]
      have : uw 97 = 1 := by unfold uw; rw [if_neg (by omega)]
      rw [this, off_rep m (pos + 1) (ahead + 1) u (by omega) (by omega)]
      congr 2; omega
theorem AsN.off {s : ByteArray} {n k : Nat} (h : AsN s n) (hk : k ≤ n) : offL s 0 (k : Int) = ((k : Int), 0) := by
  have hln : ln s 0 = s := by
    unfold ln; rw [h.ends]
    have e : en [] s.size 0 = s.size := en_last [] s.size
    rw [nx_zero, e]; exact hd_all s
  have hob : offB s (k : Int) = ((k : Int), 0) := by
    unfold offB; rw [if_pos h.ok, h.items, off_rep n 0 0 k (by omega) (by omega)]; simp
  unfold offL
  rw [h.ends]
  rw [if_pos (by simp)]
  simp [hln, hob, nx_zero]
theorem AsN.tl {s : ByteArray} {n k : Nat} (h : AsN s n) (hk : k ≤ n) : AsN (tl s k) (n - k) :=
  ⟨by rw [tl_size (by rw [h.size]; exact hk), h.size], fun i hi => by rw [tl_get (by rw [h.size]; exact hk) (by rw [h.size]; exact hi)]; exact h.byte _ (by omega)⟩
theorem AsN.hd {s : ByteArray} {n k : Nat} (h : AsN s n) (hk : k ≤ n) : AsN (hd s k) k :=
  ⟨hd_size (by rw [h.size]; exact hk), fun i hi => by rw [hd_get (by rw [h.size]; exact hk) hi]; exact h.byte _ (by omega)⟩
theorem app_nil (s : ByteArray) : s ++ (⟨#[]⟩ : ByteArray) = s := by apply ByteArray.ext; simp [ByteArray.data_append]
theorem nil_app (s : ByteArray) : (⟨#[]⟩ : ByteArray) ++ s = s := by apply ByteArray.ext; simp [ByteArray.data_append]
theorem put_start (s t : ByteArray) : put s 0 0 t = t ++ E.tl s 0 := by unfold put; rw [hd_zero, nil_app]
/-- A text put ahead of one of letters a. -/
theorem AsN.ahead {s t : ByteArray} {n : Nat} (h : AsN s n) (ht : okB t = true) : step s ⟨0, 0, 0, 0, t⟩ = if 16384 < t.size + n then (⟨#[]⟩, 73) else (t ++ s, 0) := by
  have ho : offL s 0 0 = (0, 0) := h.off (Nat.zero_le _)
  have hp : put s 0 0 t = t ++ s := by rw [put_start, tl_zero]
  unfold step
  simp only [ht, ho, Bool.true_eq_false, if_false, ne_eq, not_true_eq_false, or_self, Int.toNat_zero, hp, size_append, h.size]
  rw [if_neg (by omega)]
theorem AsN.long1 {s : ByteArray} {n : Nat} (h : AsN s n) (hn : n = 16384) : applyL s [⟨0, 0, 0, 0, ⟨#[]⟩⟩] = (s, 0) := by
  rw [applyL_one h.ok, h.ahead okB_nil, if_neg (by simp [ByteArray.size]; omega), nil_app]
theorem AsN.long2 {s : ByteArray} {n : Nat} (h : AsN s n) (hn : n = 16384) : applyL s [⟨0, 0, 0, 0, ⟨#[98]⟩⟩] = (⟨#[]⟩, 73) := by
  rw [applyL_one h.ok, h.ahead (by kernel_rfl), if_pos (by simp [ByteArray.size]; omega)]
theorem AsN.long3 {s : ByteArray} {n k : Nat} (h : AsN s n) (hn : n = 16384) (hk : k ≤ 255) : applyL s [⟨0, 0, 0, (k : Int), ⟨#[]⟩⟩, ⟨0, 0, 0, 0, E.hd s k⟩] = (s, 0) := by
  have h0 : offL s 0 0 = (0, 0) := h.off (Nat.zero_le _)
  have h1 := h.off (k := k) (by omega)
  have hp : put s 0 k ⟨#[]⟩ = E.tl s k := by unfold put; rw [hd_zero, nil_app, nil_app]
  have hs : step s ⟨0, 0, 0, (k : Int), ⟨#[]⟩⟩ = (E.tl s k, 0) := by
    unfold step
    simp only [okB_nil, h0, h1, Bool.true_eq_false, if_false, ne_eq, not_true_eq_false, or_self, Int.toNat_zero, Int.toNat_natCast, hp]
    rw [if_neg (by omega), if_neg (by rw [(h.tl (k := k) (by omega)).size]; omega)]
  have h2 := (h.tl (k := k) (by omega)).ahead (t := E.hd s k) (h.hd (k := k) (by omega)).ok
  rw [if_neg (by rw [(h.hd (k := k) (by omega)).size]; omega), cut_app s k (by rw [h.size]; omega)] at h2
  unfold applyL
  rw [if_pos h.ok, steps_on (by rw [hs]), hs]
  simp only [steps, h2, if_true]
theorem mem1 {t : ByteArray} {a b c d : Int} (h : t.size ≤ 1000) : ∀ e ∈ [EdP.mk a b c d t], e.t.size ≤ 1099511627776 := fun e he => by
  rw [List.mem_singleton.1 he]
  simp only; omega
theorem mem2 {t u : ByteArray} {a b c d a' b' c' d' : Int} (h : t.size ≤ 1000) (h2 : u.size ≤ 1000) : ∀ e ∈ [EdP.mk a b c d t, EdP.mk a' b' c' d' u], e.t.size ≤ 1099511627776 := fun e he => by
  rcases List.mem_cons.1 he with rfl | he
  · simp only; omega
  · rw [List.mem_singleton.1 he]; simp only; omega
theorem and255 (x : Int) : ∃ k : Nat, k ≤ 255 ∧ bits .and .i64 x 255 = (k : Int) := by
  have hle : (BitVec.ofInt 64 x &&& BitVec.ofInt 64 255).toNat ≤ 255 := by
    rw [BitVec.toNat_and]; exact Nat.le_trans Nat.and_le_right (by decide)
  refine ⟨(BitVec.ofInt 64 x &&& BitVec.ofInt 64 255).toNat, hle, ?_⟩
  show IntKind.i64.wrap ((BitVec.ofInt 64 x &&& BitVec.ofInt 64 255).toNat : Int) = _
  rw [IntKind.wrap_i64]
  omega
/-- So many letters a, and noughts behind them, as cells. -/
def cellsTo (n i : Nat) : List Value := List.replicate i (.int .u8 97) ++ List.replicate (n - i) (.int .u8 0)
theorem cellsTo_set {n i : Nat} (h : i < n) : (cellsTo n i).set i (.int .u8 97) = cellsTo n (i + 1) := by
  unfold cellsTo
  rw [List.set_append, List.length_replicate, if_neg (by omega), Nat.sub_self, show n - i = (n - (i + 1)) + 1 by omega, List.replicate_succ, List.set_cons_zero, List.replicate_succ', List.append_assoc]; rfl
theorem cellsTo_at {n j : Nat} (h : j < n) : (cellsTo n n)[j]? = some (.int .u8 97) := by
  unfold cellsTo
  rw [List.getElem?_append_left (by simpa using h), List.getElem?_replicate, if_pos h]
def aN (n : Nat) : ByteArray := ⟨(List.replicate n (97 : UInt8)).toArray⟩
theorem aN_as (n : Nat) : AsN (aN n) n := by
  have hz : (aN n).size = n := by show (List.replicate n (97 : UInt8)).length = n; simp
  refine ⟨hz, fun i hi => ?_⟩
  rw [Utf8W.get!_of_lt _ i (by omega)]
  simp [aN, ByteArray.getElem_eq_getElem_data]
theorem conv_a {w : World} {g n : Nat} (h : ∀ j, j < n → w.cell? ⟨g, j, none⟩ = some (.int .u8 97)) : (convert 42 9 (.slice (some ⟨g, 0, none⟩) n n)).run Tryd.prog w = .ok (.string (aN n)) w := by
  have := run_convert_bytes_back (P := Tryd.prog) w 42 9 5 ⟨g, 0, none⟩ n (List.replicate n (97 : UInt8)) Tryd.underlying42 Tryd.underlying5 Tryd.underlying9 (fun j hj => by
    rw [Addr.add_lit, Nat.zero_add, h j (by simpa using hj)]; simp)
  rw [List.length_replicate] at this
  exact this

theorem infoB : (Tryd.prog.info? 5).map (fun i => (i.zero, i.size, i.bytes)) = some (some (.int .u8 0), 1, 1) := by kernel_rfl
set_option maxHeartbeats 4000000 in
set_option maxRecDepth 100000 in
theorem llong_walk (x : Int) (w : World) (hT : Tabs w) :
    Calls Tryd.prog 7 #[.int .i64 x] w (True' w) := by
  obtain ⟨i0, hi0, hz0, hz1, hz2⟩ := info_parts infoB
  obtain ⟨k, hk, hkx⟩ := and255 x
  have HT := Lib.hid hT
  clear hT
  go_enter Tryd.func7, Tryd.ntmps7
  generalize hbig : (16384 : Int) = big
  obtain ⟨nn, hnn⟩ : ∃ nn : Nat, big = nn := ⟨16384, by omega⟩
  subst hnn
  have HNN := Lib.hid (show nn = 16384 by omega)
  have hn3 : nn ≤ 1000000 := by omega
  have hn4 : 1000 ≤ nn := by omega
  clear hbig
  go_wp2_with (at_make; refine wpList_make_full _ rfl _ _ 42 rfl w.heap.size 5 i0 (.int .u8 0) 1 Tryd.underlying42 hi0 hz0 hz1 .i64 .i64 _ _ nn rfl rfl rfl rfl (by rw [hz2]; omega) (by unfold maxLen; omega) (Nat.le_refl _) ?_)
  intro w3 hown3 hg3
  have hrow : w3.ownsRow w.heap.size 5 1 (.slice (some ⟨w.heap.size, 0, none⟩) nn nn) nn (cellsTo nn 0) := by
    have e : (madeCells #[Value.int .u8 0] nn).toList = cellsTo nn 0 := by rw [toList_madeCells_one]; rfl
    rw [← e]; exact hown3
  have HR0 := Lib.hid hrow
  have HB0 : Hid (Below w.heap.size w w3) := Lib.hid ⟨hg3.os, hg3.tape, hg3.output, hg3.size, fun k hk => hg3.block k hk (by simp)⟩
  clear hown3 hg3 hrow
  go_wp2_with fail
  clear hkx
  obtain ⟨g, hg⟩ : ∃ g, w.heap.size = g := ⟨_, rfl⟩
  have HGZ : Hid (w.heap.size ≤ g) := Lib.hid (Nat.le_of_eq hg)
  rw [hg] at HR0 ⊢
  clear hg
  go_loopw [5] (fun iv wr => ∃ i : Nat, iv = .int .i64 i ∧ i ≤ nn ∧ Hid (wr.ownsRow g 5 1 (.slice (some ⟨g, 0, none⟩) nn nn) nn (cellsTo nn i)) ∧ Hid (Below w.heap.size w wr)) (fun iv _ => nn - (intOf iv).toNat)
  case atStart => exact ⟨0, rfl, Nat.zero_le _, HR0, HB0⟩
  case round =>
    obtain ⟨i, rfl, hi, HR, HL⟩ := hrel
    clear HR0 HB0
    by_cases hlt : i < nn
    · have hst := HR.out.stored i (.int .u8 97)
      rw [cellsTo_set hlt] at hst
      have HS := Lib.hid hst.1
      have hlen : (cellsTo nn i).length = nn := by unfold cellsTo; simp; omega
      obtain ⟨old, hc⟩ : ∃ old, wr.cell? ⟨g, i, none⟩ = some old := ⟨(cellsTo nn i)[i]'(by omega), by rw [HR.out.cellAt i (by omega), List.getElem?_eq_getElem (by omega)]⟩
      have hf := HR.out.frozenAt i
      clear hst hlen
      go_wp2_with fail
      go_roundw
      case rel => exact ⟨i + 1, by go_num, by omega, HS, Lib.hid (HL.out.setCell (p := ⟨g, i, none⟩) HGZ.out _)⟩
      case measure => simp [intOf]; omega
    · obtain rfl : i = nn := by omega
      have hcv := conv_a (g := g) (n := i) (w := wr) (fun j hj => by rw [HR.out.cellAt j (by omega)]; exact cellsTo_at hj)
      have hAS := aN_as i
      generalize aN i = S at hcv hAS
      have hsz := hAS.size
      have hl1 := hAS.long1 HNN.out
      have hl2 := hAS.long2 HNN.out
      have hl3 := hAS.long3 (k := k) HNN.out hk
      obtain ⟨U, hU⟩ : ∃ U, S.extract 0 k = U := ⟨_, rfl⟩
      have hUz : U.size ≤ 255 := by rw [← hU, size_extract S 0 k (by omega) (by omega)]; omega
      have hk2 : k ≤ S.size := by omega
      have hS1 : S.size ≤ 1099511627776 := by omega
      rw [show E.hd S k = U from hU] at hl3
      have HL1 := Lib.hid hl1
      have HL2 := Lib.hid hl2
      have HL3 := Lib.hid hl3
      clear hl1 hl2 hl3 hAS
      obtain ⟨W1, hW1⟩ : ∃ W, wr.alloc (.cells #[.int .i64 0, .int .i64 0, .int .i64 0, .int .i64 0, .string ⟨#[]⟩] 32) = W := ⟨_, rfl⟩
      have hx1 : W1.heap[wr.heap.size]? = some (.cells #[.int .i64 0, .int .i64 0, .int .i64 0, .int .i64 0, .string ⟨#[]⟩] 32 (0, 0)) := by rw [← hW1]; exact heap_alloc_new _ _
      have hb1 : Below w.heap.size w W1 := by rw [← hW1]; exact HL.out.alloc HL.out.size _
      have HB1 := Lib.hid hb1
      have cA := apply_is [⟨0, 0, 0, 0, ⟨#[]⟩⟩] S S 0 (.slice (some ⟨wr.heap.size, 0, none⟩) 1 1) W1 hS1 (by simp) (mem1 (t := ⟨#[]⟩) (Nat.zero_le _)) (eds_cells (l := [⟨0, 0, 0, 0, ⟨#[]⟩⟩]) hx1 rfl) (tabs_later HT.out hb1) HL1.out
      clear hx1 hb1
      go_wp2_with fail
      refine cA.mono ?_
      rintro e w2 ⟨rfl, hb2⟩
      have HB2 := Lib.hid (next HB1.out hb2)
      clear hb2 cA hW1
      obtain ⟨W3, hW3⟩ : ∃ W, w2.alloc (.cells #[.int .i64 0, .int .i64 0, .int .i64 0, .int .i64 0, .string ⟨#[98]⟩] 32) = W := ⟨_, rfl⟩
      have hx3 : W3.heap[w2.heap.size]? = some (.cells #[.int .i64 0, .int .i64 0, .int .i64 0, .int .i64 0, .string ⟨#[98]⟩] 32 (0, 0)) := by rw [← hW3]; exact heap_alloc_new _ _
      have hb3 : Below w.heap.size w W3 := by rw [← hW3]; exact HB2.out.alloc HB2.out.size _
      have HB3 := Lib.hid hb3
      have cA := apply_is [⟨0, 0, 0, 0, ⟨#[98]⟩⟩] S ⟨#[]⟩ 73 (.slice (some ⟨w2.heap.size, 0, none⟩) 1 1) W3 hS1 (by simp) (mem1 (t := ⟨#[98]⟩) (show 1 ≤ 1000 by omega)) (eds_cells (l := [⟨0, 0, 0, 0, ⟨#[98]⟩⟩]) hx3 rfl) (tabs_later HT.out hb3) HL2.out
      clear hx3 hb3
      go_wp2_with fail
      refine cA.mono ?_
      rintro e w4 ⟨rfl, hb4⟩
      have HB4 := Lib.hid (next HB3.out hb4)
      clear hb4 cA hW3
      obtain ⟨W5, hW5⟩ : ∃ W, w4.alloc (.cells #[.int .i64 0, .int .i64 0, .int .i64 0, .int .i64 k, .string ⟨#[]⟩, .int .i64 0, .int .i64 0, .int .i64 0, .int .i64 0, .string U] 32) = W := ⟨_, rfl⟩
      have hx5 : W5.heap[w4.heap.size]? = some (.cells #[.int .i64 0, .int .i64 0, .int .i64 0, .int .i64 k, .string ⟨#[]⟩, .int .i64 0, .int .i64 0, .int .i64 0, .int .i64 0, .string U] 32 (0, 0)) := by rw [← hW5]; exact heap_alloc_new _ _
      have hb5 : Below w.heap.size w W5 := by rw [← hW5]; exact HB4.out.alloc HB4.out.size _
      have HB5 := Lib.hid hb5
      have cA := apply_is [⟨0, 0, 0, (k : Int), ⟨#[]⟩⟩, ⟨0, 0, 0, 0, U⟩] S S 0 (.slice (some ⟨w4.heap.size, 0, none⟩) 2 2) W5 hS1 (by simp) (mem2 (t := ⟨#[]⟩) (u := U) (Nat.zero_le _) (by omega)) (eds_cells (l := [⟨0, 0, 0, (k : Int), ⟨#[]⟩⟩, ⟨0, 0, 0, 0, U⟩]) hx5 rfl) (tabs_later HT.out hb5) HL3.out
      clear hx5 hb5
      go_wp2_with fail
      refine cA.mono ?_
      rintro e w6 ⟨rfl, hb6⟩
      have HB6 := Lib.hid (next HB5.out hb6)
      have cC := alive_any w6 (tabs_later HT.out HB6.out)
      clear hb6 cA hW5
      go_wp2_with fail
      refine cC.mono ?_
      rintro e w7 ⟨rfl, hb7⟩
      have HB7 := Lib.hid (next HB6.out hb7)
      clear hb7 cC
      go_wp2_with fail
      go_ret
      exact ⟨by first | rfl | simp, HB7.out⟩
end Go.Proofs.YtlmefchcljfjlaaDoor.E
