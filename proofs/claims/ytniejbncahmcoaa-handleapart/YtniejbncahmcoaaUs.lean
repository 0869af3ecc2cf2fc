/-
  Slices of words, read as lists. No conditions.
-/
import Derived.Test.YtniejbncahmcoaaInts
import Derived.Test.YtniejbncahmcoaaBv
namespace Go.Proofs.Ytniejbncahmcoaa
open Go Go.ChangeShapes Go.WideShapes Go.RowKit

/-- The i-th word. -/
def uN (l : List (BitVec 64)) (i : Nat) : BitVec 64 := l.getD i 0#64

/-- The value v is a slice of words that reads, in w, as l. -/
def Us (w : World) (v : Value) (l : List (BitVec 64)) : Prop :=
  ∃ a0 cap, v = .slice a0 l.length cap ∧ l.length ≤ cap ∧ (0 < l.length → ∃ b off, a0 = some ⟨b, off, none⟩ ∧ b < w.heap.size ∧
    ∀ i, i < l.length → w.cell? ⟨b, off + i, none⟩ = some (.int .u64 (U (uN l i))))

theorem Us.ext {w w' : World} {v : Value} {l : List (BitVec 64)} (h : Us w v l) (hb : Below w.heap.size w w') : Us w' v l := by
  obtain ⟨a0, cap, e, hc, hr⟩ := h
  refine ⟨a0, cap, e, hc, fun hl => ?_⟩
  obtain ⟨b, off, ea, hlt, hcell⟩ := hr hl
  refine ⟨b, off, ea, Nat.lt_of_lt_of_le hlt hb.size, fun i hi => ?_⟩
  rw [hb.cell (p := ⟨b, off + i, none⟩) hlt]
  exact hcell i hi
theorem Us.at {w : World} {a0 : Option Addr} {n cap : Nat} {l : List (BitVec 64)} (h : Us w (.slice a0 n cap) l) (hl : 0 < l.length) : ∃ b off, a0 = some ⟨b, off, none⟩ ∧ b < w.heap.size ∧
    ∀ i, i < l.length → w.cell? ⟨b, off + i, none⟩ = some (.int .u64 (U (uN l i))) := by
  obtain ⟨a, c, e, _, hr⟩ := h
  simp at e
  obtain ⟨rfl, rfl, rfl⟩ := e
  exact hr hl
theorem Us.over {w : World} {v : Value} {l : List (BitVec 64)} (h : Us w v l) (s : Sub w) : Us (Ytniejbncahmcoaa.over w s) v l := h.ext (over_below w s)

section
variable {H : Type} {enc : TypeId × Value → H} {P : Program} {w : World} {base : Nat} {held : Bool}
/-- The list of a function's values. -/
theorem getD_range {α : Type} (f : Nat → α) (n i : Nat) (d : α) (h : i < n) : ((List.range n).map f).getD i d = f i := by
  rw [List.getD_eq_getElem?_getD, List.getElem?_map, List.getElem?_range h]; rfl

theorem us_of_trod {r : Reach} {b0 : Nat} {t e : TypeId} {v : Value} {d : DataW H} {p : List MemPlace} (ht : P.underlying t = some (.slice e)) (he : P.underlying e = some (.int .u64)) (hc : P.cellsOf e = 1)
    (hv : Value.okWide P w r b0 t v) (h : DataW.Trod enc P w base (fun _ => true) held t v d p) : ∃ l, Us w v l := by
  obtain ⟨a0, len, cap, rfl⟩ := okWide_slice ht hv
  obtain ⟨fuel, hf⟩ := h
  rcases open_ints ht he hc hf with ⟨hcs, _⟩ | ⟨a, len', cap', zs, hcs, _, hl, _, hz, _, hcell, hwz⟩
  · simp [Value.cells] at hcs
    obtain ⟨rfl, rfl, rfl⟩ := hcs
    exact ⟨[], none, 0, rfl, Nat.le_refl _, fun h => absurd h (Nat.not_lt_zero _)⟩
  · simp [Value.cells] at hcs
    obtain ⟨rfl, rfl, rfl⟩ := hcs
    simp at hz
    refine ⟨(List.range len).map (fun i => BitVec.ofNat 64 (zs.getD i 0).toNat), some a, cap, by simp, by simpa using hl, fun hpos => ?_⟩
    simp at hpos
    have h0 := hcell 0 (by omega)
    have ha : a.add 0 = a := by unfold Addr.add; simp
    rw [ha] at h0
    have hsp := spot_none' h0
    refine ⟨a.block, a.off, by rw [← hsp], World.block_lt_of_cell? w a h0, fun i hi => ?_⟩
    simp at hi
    have h1 := hcell i (by omega)
    rw [hsp, add_at'] at h1
    rw [h1]
    unfold uN
    rw [getD_range _ _ _ _ hi]
    have hw := bounds_u64 (hwz (zs.getD i 0) (by
      rw [List.getD_eq_getElem?_getD, List.getElem?_eq_getElem (by omega)]
      exact List.getElem_mem _))
    rw [U_toNat, BitVec.toNat_ofNat]
    congr 2
    omega

end
end Go.Proofs.Ytniejbncahmcoaa
