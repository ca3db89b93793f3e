/- Texts of so many letters a, and how the law of the greatest length goes on from them; DocsLong's walk. -/
import Derived.Test.YtccmicmlkgkheaaDoorDNil
import Derived.Laws.OwnMore
import Derived.OwnWalk
namespace Go.Proofs.YtccmicmlkgkheaaDoor.D
open Go.RowKit
open Go.Lib hiding intOf
open Go.Proofs.YtccmicmlkgkheaaDoor.U Go.Proofs.YtccmicmlkgkheaaDoor.L Go.Proofs.YtccmicmlkgkheaaDoor.E

/-- A text of n letters a. -/
structure AsN (s : ByteArray) (n : Nat) : Prop where
  size : s.size = n
  byte : ∀ i, i < n → (s.get! i).toNat = 97
theorem AsN.decode {s : ByteArray} {n pos : Nat} (h : AsN s n) (hp : pos < n) : Utf8.decode s pos = (97, 1) := by
  rw [decode_at, h.byte pos hp, decodeN_low _ _ _ _ _ (by omega)]
theorem AsN.itemsF {s : ByteArray} {n : Nat} (h : AsN s n) : ∀ f pos, n - pos ≤ f → itemsF s f pos = List.replicate (n - pos) (97, 1)
  | 0, pos, hf => by rw [show n - pos = 0 by omega]; rfl
  | f + 1, pos, hf => by
    by_cases hp : pos < n
    · rw [itemsF_step s f pos (by rw [h.size]; exact hp), h.decode hp, h.itemsF f (pos + 1) (by omega), show n - pos = (n - (pos + 1)) + 1 by omega, List.replicate_succ]
    · rw [itemsF_end s _ pos (by rw [h.size]; exact hp), show n - pos = 0 by omega]; rfl
theorem AsN.items {s : ByteArray} {n : Nat} (h : AsN s n) : items s = List.replicate n (97, 1) := by
  unfold U.items; rw [h.itemsF s.size 0 (by rw [h.size]; omega)]; rfl
theorem okL_rep : ∀ n, okL (List.replicate n (97, 1)) = true
  | 0 => rfl
  | n + 1 => by rw [List.replicate_succ]; simp only [okL]; rw [if_neg (by omega)]; exact okL_rep n
theorem AsN.ok {s : ByteArray} {n : Nat} (h : AsN s n) : okB s = true := by unfold okB; rw [h.items]; exact okL_rep n
/-- So many letters a, and noughts behind them, as cells. -/
def cellsTo (n i : Nat) : List Value := List.replicate i (.int .u8 97) ++ List.replicate (n - i) (.int .u8 0)
theorem cellsTo_set {n i : Nat} (h : i < n) : (cellsTo n i).set i (.int .u8 97) = cellsTo n (i + 1) := by
  unfold cellsTo
  rw [List.set_append, List.length_replicate, if_neg (by omega), Nat.sub_self, show n - i = (n - (i + 1)) + 1 by omega, List.replicate_succ, List.set_cons_zero, List.replicate_succ', List.append_assoc]; rfl
theorem cellsTo_at {n j : Nat} (h : j < n) : (cellsTo n n)[j]? = some (.int .u8 97) := by
  unfold cellsTo
  rw [List.getElem?_append_left (by simpa using h), List.getElem?_replicate, if_pos h]
def aN (n : Nat) : ByteArray := ⟨(List.replicate n (97 : UInt8)).toArray⟩
theorem aN_as (n : Nat) : AsN (aN n) n := by
  have hz : (aN n).size = n := by show (List.replicate n (97 : UInt8)).length = n; simp
  refine ⟨hz, fun i hi => ?_⟩
  rw [Utf8W.get!_of_lt _ i (by omega)]
  simp [aN, ByteArray.getElem_eq_getElem_data]
theorem conv_a {w : World} {g o n : Nat} (h : ∀ j, j < n → w.cell? ⟨g, o + j, none⟩ = some (.int .u8 97)) : (convert 48 9 (.slice (some ⟨g, o, none⟩) n n)).run Tryd.prog w = .ok (.string (aN n)) w := by
  have := run_convert_bytes_back (P := Tryd.prog) w 48 9 5 ⟨g, o, none⟩ n (List.replicate n (97 : UInt8)) Tryd.underlying48 Tryd.underlying5 Tryd.underlying9 (fun j hj => by
    rw [Addr.add_lit, h j (by simpa using hj)]; simp)
  rw [List.length_replicate] at this
  exact this

theorem infoB : (Tryd.prog.info? 5).map (fun i => (i.zero, i.size, i.bytes)) = some (some (.int .u8 0), 1, 1) := by kernel_rfl

set_option maxRecDepth 20000 in
theorem slice_one (g n : Nat) (hn : 1 ≤ n) : ∀ W, (Instr.slice 48 (.slice (some ⟨g, 0, none⟩) (n + 1) (n + 1)) (some (.int .i64 1)) none none).run Tryd.prog W = .ok (.slice (some ⟨g, 1, none⟩) n n) W := fun W => by
  have hs : (sizeOf (Tryd.prog.elem 48)).run Tryd.prog W = .ok 1 W := by
    rw [show Tryd.prog.elem 48 = 5 by kernel_rfl]
    obtain ⟨i0, hi0, _, hz1, _⟩ := info_parts infoB
    rw [run_sizeOf (w := W) hi0]
    have : Tryd.prog.cellsOf 5 = 1 := by kernel_rfl
    rw [this]
  rw [run_slice_l (P := Tryd.prog) (w := W) 48 _ (n + 1) (n + 1) Tryd.underlying48 .i64 1 (by omega) (by omega), hs]
  simp [Result.andThen, sliced, Addr.add_lit]
  omega
/-- The name of one letter. -/
def nm (i : Nat) : ByteArray := (⟨#[97, 98, 99, 100, 101, 102, 103]⟩ : ByteArray).extract i (i + 1)
theorem nm_ok : ∀ i, i < 7 → nameOk (nm i) = true ∧ (nm i).size ≤ 1000000
  | 0, _ => ⟨by kernel_rfl, by decide⟩
  | 1, _ => ⟨by kernel_rfl, by decide⟩
  | 2, _ => ⟨by kernel_rfl, by decide⟩
  | 3, _ => ⟨by kernel_rfl, by decide⟩
  | 4, _ => ⟨by kernel_rfl, by decide⟩
  | 5, _ => ⟨by kernel_rfl, by decide⟩
  | 6, _ => ⟨by kernel_rfl, by decide⟩
  | i + 7, h => by omega
theorem nm_at : ∀ k, k < 7 → (nm k).data[0]? = some (UInt8.ofNat (97 + k)) := by
  intro k hk
  match k, hk with
  | 0, _ => rfl
  | 1, _ => rfl
  | 2, _ => rfl
  | 3, _ => rfl
  | 4, _ => rfl
  | 5, _ => rfl
  | 6, _ => rfl
theorem nm_ne : ∀ i j, i < 7 → j < 7 → i ≠ j → nm i ≠ nm j := by
  intro i j hi hj hne h
  have h0 := congrArg (fun s : ByteArray => s.data[0]?) h
  simp only [nm_at i hi, nm_at j hj, Option.some.injEq] at h0
  have h1 := congrArg UInt8.toNat h0
  simp only [UInt8.toNat_ofNat'] at h1
  omega
theorem nm_x : ∀ i, i < 7 → nm i ≠ ⟨#[120]⟩ := by
  intro i hi h
  have h0 : (nm i).data[0]? = some (UInt8.ofNat 120) := by rw [h]; rfl
  rw [nm_at i hi] at h0
  have h1 := congrArg UInt8.toNat (Option.some.inj h0)
  simp only [UInt8.toNat_ofNat'] at h1
  omega
theorem sizeL_ins (d : DocP) : ∀ l : List DocP, sizeL (insL d l) = d.t.size + sizeL l
  | [] => by simp [insL, sizeL]
  | x :: r => by
    simp only [insL]
    split
    · simp [sizeL]
    · simp only [sizeL, sizeL_ins d r]; omega
/-- What the law's second loop keeps. -/
structure LongL (i : Nat) (l : List DocP) : Prop where
  inv : Inv l
  len : l.length = i + 1
  free : ∀ j, i ≤ j → j < 7 → findL l (nm j) = none
  size : sizeL l = 16384
theorem LongL.start {U : ByteArray} (h : AsN U 16384) : openL [] ⟨⟨#[120]⟩, 0, U⟩ = ([⟨⟨#[120]⟩, 0, U⟩], 0) ∧ LongL 0 [⟨⟨#[120]⟩, 0, U⟩] := by
  have h1 : nameOk ⟨#[120]⟩ = true := by kernel_rfl
  have ho : openL [] ⟨⟨#[120]⟩, 0, U⟩ = ([⟨⟨#[120]⟩, 0, U⟩], 0) := by
    unfold openL
    simp only [h1, h.ok, h.size]
    rw [if_neg (by simp), if_neg (by simp), if_neg (by simp), if_neg (by simp [findL])]
    rfl
  refine ⟨ho, ?_, rfl, fun j _ hj => ?_, by simp [sizeL, h.size]⟩
  · have := inv_nil.act ⟨1, ⟨⟨#[120]⟩, 0, U⟩, []⟩
    have e : doL [] ⟨1, ⟨⟨#[120]⟩, 0, U⟩, []⟩ = openL [] ⟨⟨#[120]⟩, 0, U⟩ := rfl
    rw [e, ho] at this
    exact this
  · unfold findL
    rw [List.find?_cons, List.find?_nil]
    have : decide ((⟨#[120]⟩ : ByteArray) = nm j) = false := by simpa using fun e => nm_x j hj e.symm
    rw [this]
theorem LongL.step {i : Nat} {l : List DocP} (h : LongL i l) (hi : i < 7) (v : Int) : openL l ⟨nm i, v, ⟨#[]⟩⟩ = (insL ⟨nm i, v, ⟨#[]⟩⟩ l, 0) ∧ LongL (i + 1) (insL ⟨nm i, v, ⟨#[]⟩⟩ l) := by
  have hf := h.free i (Nat.le_refl _) hi
  have hl := h.len
  have ho : openL l ⟨nm i, v, ⟨#[]⟩⟩ = (insL ⟨nm i, v, ⟨#[]⟩⟩ l, 0) := by
    unfold openL
    simp only [(nm_ok i hi).1, show okB ⟨#[]⟩ = true by kernel_rfl, hf]
    rw [if_neg (by simp), if_neg (by simp), if_neg (by simp [ByteArray.size]; omega), if_neg (by simp)]
  refine ⟨ho, ?_, by rw [insL_length, hl], fun j hj hj7 => ?_, by rw [sizeL_ins, h.size]; simp [ByteArray.size]⟩
  · have := h.inv.act ⟨1, ⟨nm i, v, ⟨#[]⟩⟩, []⟩
    have e : doL l ⟨1, ⟨nm i, v, ⟨#[]⟩⟩, []⟩ = openL l ⟨nm i, v, ⟨#[]⟩⟩ := rfl
    rw [e, ho] at this
    exact this
  · rw [findL_insL (d := ⟨nm i, v, ⟨#[]⟩⟩) hf, if_neg (nm_ne i j hi hj7 (by omega))]
    exact h.free j (by omega) hj7
theorem LongL.full {l : List DocP} (h : LongL 7 l) : openL l ⟨⟨#[121]⟩, 0, ⟨#[]⟩⟩ = (l, 73) := by
  have hl := h.len
  unfold openL
  simp only [show nameOk ⟨#[121]⟩ = true by kernel_rfl, show okB ⟨#[]⟩ = true by kernel_rfl]
  rw [if_neg (by simp), if_neg (by simp), if_pos (.inr (by omega))]
theorem long_1 {T : ByteArray} (h : AsN T 16385) (l : List DocP) : openL l ⟨⟨#[120]⟩, 0, T⟩ = (l, 73) := by
  unfold openL
  simp only [show nameOk ⟨#[120]⟩ = true by kernel_rfl, h.ok, h.size]
  rw [if_neg (by simp), if_neg (by simp), if_pos (.inl (by omega))]
theorem long_2 {T U : ByteArray} (h : AsN T 16385) : wholeL [⟨⟨#[120]⟩, 0, U⟩] ⟨#[120]⟩ 1 T = ([⟨⟨#[120]⟩, 0, U⟩], 73) := by
  unfold wholeL findL
  simp [h.ok, h.size]
end Go.Proofs.YtccmicmlkgkheaaDoor.D
