/- Pieces in memory: a row of four cells each. -/
import Derived.Test.YtapjomdplibanaaDoorPScan
import Derived.Test.YtapjomdplibanaaDoorQPieces
import Derived.RangeFuncBox
namespace Go.Proofs.YtapjomdplibanaaDoor.Q
open Go.RowKit
open Go.Lib hiding intOf
open Go.Proofs.YtapjomdplibanaaDoor.U Go.Proofs.YtapjomdplibanaaDoor.S Go.Proofs.YtapjomdplibanaaDoor.L

def pcC (p : PcP) : List Value := [.int .i64 p.f, .int .i64 p.e, .bool p.d, .bool p.j]
def pcCs : List PcP → List Value
  | [] => []
  | p :: r => pcC p ++ pcCs r
theorem pcCs_length : ∀ l : List PcP, (pcCs l).length = 4 * l.length
  | [] => rfl
  | d :: r => by simp only [pcCs, List.length_append, pcCs_length r, List.length_cons, pcC, List.length_nil]; omega
theorem pcCs_app : ∀ (a b : List PcP), pcCs (a ++ b) = pcCs a ++ pcCs b
  | [], b => rfl
  | d :: r, b => by simp only [List.cons_append, pcCs, pcCs_app r b, List.append_assoc]
theorem pcCs_at : ∀ (l : List PcP) (i j : Nat) (hi : i < l.length), j < 4 → (pcCs l)[i * 4 + j]? = (pcC l[i])[j]?
  | [], i, j, hi, _ => by simp at hi
  | d :: r, 0, j, hi, hj => by simp only [pcCs, Nat.zero_mul, Nat.zero_add, List.getElem_cons_zero]; rw [List.getElem?_append_left (by simp [pcC]; omega)]
  | d :: r, i + 1, j, hi, hj => by
    simp only [pcCs, List.getElem_cons_succ]
    rw [List.getElem?_append_right (by simp [pcC]; omega), show (i + 1) * 4 + j - (pcC d).length = i * 4 + j by simp [pcC]; omega]
    exact pcCs_at r i j (by simpa using hi) hj
def PcsAt (W : World) (g off : Nat) (l : List PcP) : Prop := ∀ j u, (pcCs l)[j]? = some u → W.cell? ⟨g, off + j, none⟩ = some u
theorem pc_at {W : World} {l : List PcP} {g off : Nat} (i : Nat) (hc : PcsAt W g off l) (hi : i < l.length) :
    W.cell? ⟨g, off + i * 4, none⟩ = some (.int .i64 l[i].f) ∧ W.cell? ⟨g, off + i * 4 + 1, none⟩ = some (.int .i64 l[i].e) ∧ W.cell? ⟨g, off + i * 4 + 2, none⟩ = some (.bool l[i].d) ∧ W.cell? ⟨g, off + i * 4 + 3, none⟩ = some (.bool l[i].j) := by
  refine ⟨hc (i * 4) _ ?_, hc (i * 4 + 1) _ (by rw [pcCs_at l i 1 hi (by omega)]; rfl), hc (i * 4 + 2) _ (by rw [pcCs_at l i 2 hi (by omega)]; rfl), hc (i * 4 + 3) _ (by rw [pcCs_at l i 3 hi (by omega)]; rfl)⟩
  have := pcCs_at l i 0 hi (by omega)
  rw [Nat.add_zero] at this; rw [this]; rfl
/-- A list of pieces, whose block stands at B or later. -/
def PcsIn (B : Nat) (W : World) (l : List PcP) (v : Value) : Prop := ∃ a cap, v = .slice a l.length cap ∧ l.length ≤ cap ∧ (l = [] ∨ ∃ g off, a = some ⟨g, off, none⟩ ∧ B ≤ g ∧ g < W.heap.size ∧ PcsAt W g off l)
theorem PcsIn.later {B : Nat} {W W' : World} {l : List PcP} {v : Value} (h : PcsIn B W l v) (hb : Below W.heap.size W W') : PcsIn B W' l v := by
  obtain ⟨a, cap, h1, h2, h3⟩ := h
  refine ⟨a, cap, h1, h2, ?_⟩
  rcases h3 with h3 | ⟨g, off, h4, h5, h6, h7⟩
  · exact .inl h3
  · exact .inr ⟨g, off, h4, h5, Nat.lt_of_lt_of_le h6 hb.size, fun j u hj => (hb.cell (p := ⟨g, off + j, none⟩) h6).trans (h7 j u hj)⟩
theorem pcs_at {w : World} {B n c g : Nat} {l : List PcP} {t : TypeId} (h : w.ownsRow B t 4 (.slice (some ⟨g, 0, none⟩) n c) n (pcCs l)) (hn : l.length = n) : PcsAt w g 0 l := fun j u hj => by
  have hj2 := (List.getElem?_eq_some_iff.1 hj).1
  rw [pcCs_length] at hj2
  rw [Nat.zero_add, h.cellAt j (by omega)]
  exact hj
theorem pcs_row {w : World} {B B' n : Nat} {l : List PcP} {v : Value} {t : TypeId} (h : w.ownsRow B' t 4 v n (pcCs l)) (hn : l.length = n) (hB : B ≤ B') : PcsIn B w l v := by
  rcases Nat.eq_zero_or_pos n with h0 | h0
  · have hl : l = [] := List.length_eq_zero_iff.1 (hn.trans h0)
    rcases h.2 with ⟨rfl, _⟩ | ⟨g, cap, cur, rfl, _⟩
    · exact ⟨none, 0, by rw [hl]; rfl, by rw [hl]; simp, .inl hl⟩
    · exact ⟨_, cap, by rw [hn], by rw [hl]; simp, .inl hl⟩
  · obtain ⟨g, c, rfl, hc, hg, _⟩ := row_some h h0
    exact ⟨_, c, by rw [hn], by omega, .inr ⟨g, 0, rfl, by omega, (h.lt g rfl).2, pcs_at h hn⟩⟩
theorem plain_pcs : ∀ (l : List PcP), ∀ u ∈ pcCs l, u.oneCell' = true
  | [], u, h => by simp [pcCs] at h
  | d :: r, u, h => by
    simp only [pcCs, List.mem_append] at h
    rcases h with h | h
    · simp only [pcC, List.mem_cons, List.not_mem_nil, or_false] at h
      rcases h with rfl | rfl | rfl | rfl <;> rfl
    · exact plain_pcs r u h
theorem infoP : (Tryd.prog.info? 36).map (fun i => (i.zero, i.size, i.bytes)) = some (some (.agg #[.int .i64 0, .int .i64 0, .bool false, .bool false]), 4, 24) := by kernel_rfl
theorem infoR : (Tryd.prog.info? 42).map (fun i => (i.zero, i.size, i.bytes)) = some (some (.agg #[.int .i64 0, .int .i64 0, .bool false, .bool false]), 4, 24) := by kernel_rfl
theorem one_pc {w : World} {q : Nat} {p : PcP} {t : TypeId} (h : w.heap[q]? = some (.cells #[.int .i64 p.f, .int .i64 p.e, .bool p.d, .bool p.j] t (0, 0))) :
    ∀ k u, (pcCs [p])[k]? = some u → w.cell? ((⟨q, 0, none⟩ : Addr).add k) = some u := fun k u hk => by
  rw [Addr.add_lit, Nat.zero_add]
  have hk2 := (List.getElem?_eq_some_iff.1 hk).1
  rw [pcCs_length] at hk2
  simp only [pcCs, pcC, List.append_nil] at hk
  match k, hk2 with
  | 0, _ => simp at hk; subst hk; simp [World.cell?, h]
  | 1, _ => simp at hk; subst hk; simp [World.cell?, h]
  | 2, _ => simp at hk; subst hk; simp [World.cell?, h]
  | 3, _ => simp at hk; subst hk; simp [World.cell?, h]
theorem new_pc (W : World) (f e : Nat) (d j : Bool) (t : TypeId) : ∀ k u, (pcCs [⟨f, e, d, j⟩])[k]? = some u → (W.alloc (.cells #[.int .i64 f, .int .i64 e, .bool d, .bool j] t)).cell? ((⟨W.heap.size, 0, none⟩ : Addr).add k) = some u := one_pc (p := ⟨f, e, d, j⟩) (World.alloc_heap_new W _)
end Go.Proofs.YtapjomdplibanaaDoor.Q
