/-
  Arguments that are arrays of integers, by value, read cell by cell. No conditions.
-/
import Derived.Test.YtniejbncahmcoaaUs
namespace Go.Proofs.Ytniejbncahmcoaa
open Go Go.ChangeShapes Go.WideShapes Go.RowKit

section
variable {H : Type} {enc : TypeId × Value → H} {P : Program} {w : World} {base : Nat} {held : Bool}
/-- An array of n integers of one kind, by value. -/
theorem arr_of_trod {r : Reach} {b0 : Nat} {t e : TypeId} {k : IntKind} {v : Value} {d : DataW H} {p : List MemPlace} (n : Nat) (ht : P.underlying t = some (.array n e)) (he : P.underlying e = some (.int k)) (hc : P.cellsOf t = n) (hce : P.cellsOf e = 1)
    (hv : Value.okWide P w r b0 t v) (h : DataW.Trod enc P w base (fun _ => true) held t v d p) : ∃ x : Nat → Int, v = .agg ((List.range n).map fun j => Value.int k (x j)).toArray ∧ ∀ j, j < n → (Lit.int k (x j)).wf = true := by
  obtain ⟨cs, rfl, hsz⟩ : ∃ cs, v = .agg cs ∧ cs.size = P.cellsOf t := by
    simp only [Value.okWide, ht] at hv
    obtain ⟨cs, h1, h2, _⟩ := hv
    exact ⟨cs, h1, h2⟩
  obtain ⟨fuel, hf⟩ := h
  rw [hc] at hsz
  obtain ⟨xs, m, _, ex, hlen, hl, hel⟩ := DataW.trod_array ht hf
  have each : ∀ j, ∃ y : Int, j < n → cs[j]? = some (.int k y) ∧ (Lit.int k y).wf = true := fun j => by
    by_cases hj : j < n
    · have h1 := hel j hj
      rw [List.getElem?_eq_getElem (by omega)] at h1
      obtain ⟨y, hy, _, hw⟩ := DataW.trod_int he h1
      refine ⟨y, fun _ => ⟨?_, hw⟩⟩
      rw [hce, Nat.mul_one] at hy
      have h2 : (((Value.agg cs).cells.toList.drop j).take 1)[0]? = some (.int k y) := by rw [hy]; rfl
      rw [List.getElem?_take, if_pos (by decide), List.getElem?_drop] at h2
      simpa [Value.cells] using h2
    · exact ⟨0, fun h => absurd h hj⟩
  obtain ⟨x, hx⟩ := Classical.axiomOfChoice each
  refine ⟨x, ?_, fun j hj => (hx j hj).2⟩
  congr 1
  apply Array.ext
  · simp [hsz]
  · intro i h1 h2
    have h3 := (hx i (by omega)).1
    rw [Array.getElem?_eq_getElem h1] at h3
    simpa using h3
end
end Go.Proofs.Ytniejbncahmcoaa
