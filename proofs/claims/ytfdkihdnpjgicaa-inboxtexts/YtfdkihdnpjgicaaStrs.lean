/-
  Slices of texts, read as lists. No conditions.
-/
import Derived.Test.YtfdkihdnpjgicaaInts
import Derived.SliceStrings
namespace Go.Proofs.Ytfdkihdnpjgicaa
open Go Go.ChangeShapes Go.WideShapes Go.RowKit

/-- The i-th text. -/
def sN (l : List ByteArray) (i : Nat) : ByteArray := l.getD i ByteArray.empty
theorem sN_get (l : List ByteArray) (k : Nat) (hk : k < l.length) : l[k] = sN l k := by
  unfold sN
  rw [List.getD_eq_getElem?_getD, List.getElem?_eq_getElem hk]
  rfl
/-- The value v is a slice of texts that reads, in w, as l. -/
def Ss (w : World) (v : Value) (l : List ByteArray) : Prop :=
  ∃ a0 cap, v = .slice a0 l.length cap ∧ l.length ≤ cap ∧ (0 < l.length → ∃ b off, a0 = some ⟨b, off, none⟩ ∧ b < w.heap.size ∧ ∀ i, i < l.length → w.cell? ⟨b, off + i, none⟩ = some (.string (sN l i)))
theorem Ss.at {w : World} {a0 : Option Addr} {n cap : Nat} {l : List ByteArray} (h : Ss w (.slice a0 n cap) l) (hl : 0 < l.length) : ∃ b off, a0 = some ⟨b, off, none⟩ ∧ b < w.heap.size ∧
    ∀ i, i < l.length → w.cell? ⟨b, off + i, none⟩ = some (.string (sN l i)) := by
  obtain ⟨a, c, e, _, hr⟩ := h
  simp at e
  obtain ⟨rfl, rfl, rfl⟩ := e
  exact hr hl

section
variable {H : Type} {enc : TypeId × Value → H} {P : Program} {w : World} {base : Nat} {held : Bool}
theorem ss_of_trod {r : Reach} {b0 : Nat} {t e : TypeId} {v : Value} {d : DataW H} {p : List MemPlace} (ht : P.underlying t = some (.slice e)) (he : P.underlying e = some .string) (hc : P.cellsOf e = 1)
    (hv : Value.okWide P w r b0 t v) (h : DataW.Trod enc P w base (fun _ => true) held t v d p) : ∃ l, Ss w v l := by
  obtain ⟨a0, len, cap, rfl⟩ := okWide_slice ht hv
  obtain ⟨fuel, hf⟩ := h
  rcases open_strings ht he hc hf with ⟨hcs, _⟩ | ⟨a, len', cap', zs, hcs, _, hl, _, hz, _, hcell, _⟩
  · simp [Value.cells] at hcs
    obtain ⟨rfl, rfl, rfl⟩ := hcs
    exact ⟨[], none, 0, rfl, Nat.le_refl _, fun h => absurd h (Nat.not_lt_zero _)⟩
  · simp [Value.cells] at hcs
    obtain ⟨rfl, rfl, rfl⟩ := hcs
    simp at hz
    have hlen : (zs.take len).length = len := by rw [List.length_take]; omega
    have hget : ∀ i, i < len → sN (zs.take len) i = zs.getD i ByteArray.empty := fun i hi => by
      unfold sN
      rw [List.getD_eq_getElem?_getD, List.getD_eq_getElem?_getD, List.getElem?_take, if_pos hi]
    refine ⟨zs.take len, some a, cap, by rw [hlen], by rw [hlen]; exact hl, fun hpos => ?_⟩
    rw [hlen] at hpos ⊢
    have h0 := hcell 0 (by omega)
    have ha : a.add 0 = a := by unfold Addr.add; simp
    rw [ha] at h0
    have hsp := spot_none' h0
    refine ⟨a.block, a.off, by rw [← hsp], World.block_lt_of_cell? w a h0, fun i hi => ?_⟩
    have h1 := hcell i (by omega)
    rw [hsp, add_at'] at h1
    rw [hget i hi]
    exact h1
end
end Go.Proofs.Ytfdkihdnpjgicaa
