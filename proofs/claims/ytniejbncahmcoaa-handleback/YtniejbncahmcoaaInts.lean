/-
  Slices of ints, read as lists. No conditions.
-/
import Derived.Test.YtniejbncahmcoaaFr
import Derived.ProofKit
import Derived.OpenShut
import Derived.Deep.Slices
namespace Go.Proofs.Ytniejbncahmcoaa
open Go Go.ChangeShapes Go.WideShapes Go.RowKit

/-- The i-th int. -/
def iN (l : List Int) (i : Nat) : Int := l.getD i 0
/-- The value v is a slice of ints that reads, in w, as l. -/
def Is (w : World) (v : Value) (l : List Int) : Prop :=
  ∃ a0 cap, v = .slice a0 l.length cap ∧ l.length ≤ cap ∧ (0 < l.length → ∃ b off, a0 = some ⟨b, off, none⟩ ∧ b < w.heap.size ∧ ∀ i, i < l.length → w.cell? ⟨b, off + i, none⟩ = some (.int .i64 (iN l i)))
theorem Is.ext {w w' : World} {v : Value} {l : List Int} (h : Is w v l) (hb : Below w.heap.size w w') : Is w' v l := by
  obtain ⟨a0, cap, e, hc, hr⟩ := h
  refine ⟨a0, cap, e, hc, fun hl => ?_⟩
  obtain ⟨b, off, ea, hlt, hcell⟩ := hr hl
  refine ⟨b, off, ea, Nat.lt_of_lt_of_le hlt hb.size, fun i hi => ?_⟩
  rw [hb.cell (p := ⟨b, off + i, none⟩) hlt]
  exact hcell i hi
theorem Is.at {w : World} {a0 : Option Addr} {n cap : Nat} {l : List Int} (h : Is w (.slice a0 n cap) l) (hl : 0 < l.length) : ∃ b off, a0 = some ⟨b, off, none⟩ ∧ b < w.heap.size ∧
    ∀ i, i < l.length → w.cell? ⟨b, off + i, none⟩ = some (.int .i64 (iN l i)) := by
  obtain ⟨a, c, e, _, hr⟩ := h
  simp at e
  obtain ⟨rfl, rfl, rfl⟩ := e
  exact hr hl
/-- A row that was just made. -/
theorem is_new (w : World) (l : List Int) (t : TypeId) : Is (w.alloc (.cells (l.map fun x => Value.int .i64 x).toArray t)) (.slice (some ⟨w.heap.size, 0, none⟩) l.length l.length) l := by
  refine ⟨_, _, rfl, Nat.le_refl _, fun _ => ⟨_, _, rfl, by simp, fun i hi => ?_⟩⟩
  have hb : (w.alloc (.cells (l.map fun x => Value.int .i64 x).toArray t)).heap[w.heap.size]? = some (.cells (l.map fun x => Value.int .i64 x).toArray t (0, 0)) := by
    show (w.heap.push _)[w.heap.size]? = _
    simp
  refine cell_at hb ?_
  rw [Nat.zero_add, List.getElem?_toArray, List.getElem?_map]
  unfold iN
  rw [List.getD_eq_getElem?_getD, List.getElem?_eq_getElem hi]
  rfl

/-- The sum of the first k. -/
def sumTo (l : List Int) : Nat → Int
  | 0 => 0
  | k + 1 => sumTo l k + iN l k
/-- The first k sizes fit. -/
def FitTo' (l : List Int) (k : Nat) : Prop := ∀ i, i < k → 0 ≤ iN l i ∧ iN l i ≤ 16777216 - sumTo l i
theorem FitTo'.zero (l : List Int) : FitTo' l 0 := fun _ h => absurd h (Nat.not_lt_zero _)
theorem FitTo'.succ {l : List Int} {k : Nat} (h : FitTo' l k) (h0 : 0 ≤ iN l k) (h1 : iN l k ≤ 16777216 - sumTo l k) : FitTo' l (k + 1) := fun i hi => by
  by_cases e : i = k
  · subst e; exact ⟨h0, h1⟩
  · exact h i (by omega)
theorem FitTo'.sum {l : List Int} : ∀ {k : Nat}, FitTo' l k → 0 ≤ sumTo l k ∧ sumTo l k ≤ 16777216
  | 0, _ => by unfold sumTo; omega
  | k + 1, h => by
    have ih := FitTo'.sum (k := k) fun i hi => h i (by omega)
    have := h k (by omega)
    unfold sumTo
    omega
/-- The sizes are a memory's. -/
def SizesOk (l : List Int) : Prop := l.length ≤ 65 ∧ FitTo' l l.length

section
variable {H : Type} {enc : TypeId × Value → H} {P : Program} {w : World} {base : Nat} {held : Bool}
theorem spot_none' {w : World} {a : Addr} {v : Value} (h : w.cell? a = some v) : a = ⟨a.block, a.off, none⟩ := by
  obtain ⟨b, o, s⟩ := a
  cases s with
  | none => rfl
  | some x =>
    unfold World.cell? at h
    split at h <;> simp at h
theorem add_at' (b o n : Nat) : (⟨b, o, none⟩ : Addr).add n = ⟨b, o + n, none⟩ := by
  unfold Addr.add
  by_cases h : n = 0
  · rw [if_pos h, h]; rfl
  · rw [if_neg h]
theorem is_of_trod {r : Reach} {b0 : Nat} {t e : TypeId} {v : Value} {d : DataW H} {p : List MemPlace} (ht : P.underlying t = some (.slice e)) (he : P.underlying e = some (.int .i64)) (hc : P.cellsOf e = 1)
    (hv : Value.okWide P w r b0 t v) (h : DataW.Trod enc P w base (fun _ => true) held t v d p) : ∃ l, Is w v l ∧ ∀ i, i < l.length → -9223372036854775808 ≤ iN l i ∧ iN l i ≤ 9223372036854775807 := by
  obtain ⟨a0, len, cap, rfl⟩ := okWide_slice ht hv
  obtain ⟨fuel, hf⟩ := h
  rcases open_ints ht he hc hf with ⟨hcs, _⟩ | ⟨a, len', cap', zs, hcs, _, hl, _, hz, _, hcell, hwz⟩
  · simp [Value.cells] at hcs
    obtain ⟨rfl, rfl, rfl⟩ := hcs
    exact ⟨[], ⟨none, 0, rfl, Nat.le_refl _, fun h => absurd h (Nat.not_lt_zero _)⟩, fun i hi => absurd hi (Nat.not_lt_zero _)⟩
  · simp [Value.cells] at hcs
    obtain ⟨rfl, rfl, rfl⟩ := hcs
    simp at hz
    have hlen : (zs.take len).length = len := by rw [List.length_take]; omega
    have hget : ∀ i, i < len → iN (zs.take len) i = zs.getD i 0 := fun i hi => by
      unfold iN
      rw [List.getD_eq_getElem?_getD, List.getD_eq_getElem?_getD, List.getElem?_take, if_pos hi]
    refine ⟨zs.take len, ⟨some a, cap, by rw [hlen], by rw [hlen]; exact hl, fun hpos => ?_⟩, fun i hi => ?_⟩
    · rw [hlen] at hpos ⊢
      have h0 := hcell 0 (by omega)
      have ha : a.add 0 = a := by unfold Addr.add; simp
      rw [ha] at h0
      have hsp := spot_none' h0
      refine ⟨a.block, a.off, by rw [← hsp], World.block_lt_of_cell? w a h0, fun i hi => ?_⟩
      have h1 := hcell i (by omega)
      rw [hsp, add_at'] at h1
      rw [hget i hi]
      exact h1
    · rw [hlen] at hi
      rw [hget i hi]
      exact bounds_i64 (hwz (zs.getD i 0) (by
        rw [List.getD_eq_getElem?_getD, List.getElem?_eq_getElem (by omega)]
        exact List.getElem_mem _))
end
end Go.Proofs.Ytniejbncahmcoaa
