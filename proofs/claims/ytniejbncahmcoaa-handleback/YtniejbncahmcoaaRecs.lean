/-
  Arguments that are slices of structs of integers, however deep, read cell by cell. No conditions.
-/
import Derived.Test.YtniejbncahmcoaaUs
namespace Go.Proofs.Ytniejbncahmcoaa
open Go Go.ChangeShapes Go.WideShapes Go.RowKit

/-- The kind of the j-th cell of a type that is made of integers. -/
def kindAt (P : Program) : Nat → TypeId → Nat → Option IntKind
  | 0, _, _ => none
  | f + 1, t, j => match P.underlying t with
    | some (.int k) => if j = 0 then some k else none
    | some (.struct fs) => match fs.toList.find? fun x => decide (x.offset ≤ j) && decide (j < x.offset + P.cellsOf x.type) with
      | some x => kindAt P f x.type (j - x.offset)
      | none => none
    | _ => none

section
variable {H : Type} {enc : TypeId × Value → H} {P : Program} {w : World} {base : Nat} {spare : Nat → Bool} {held : Bool}
theorem cell_kind : ∀ (f : Nat) {t : TypeId} {j : Nat} {k : IntKind} {fuel : Nat} {cs : List Value} {x : DataW H × List MemPlace}, kindAt P f t j = some k → DataW.trod enc P w base spare held fuel t cs = some x →
    ∃ n, cs[j]? = some (.int k n) ∧ (Lit.int k n).wf = true
  | 0, t, j, k, fuel, cs, x, hk, h => by cases hk
  | f + 1, t, j, k, fuel, cs, x, hk, h => by
    unfold kindAt at hk
    split at hk
    · rename_i k' hu
      split at hk
      · rename_i hj
        obtain rfl : k' = k := by simpa using hk
        subst hj
        obtain ⟨n, rfl, _, hw⟩ := DataW.trod_int hu h
        exact ⟨n, rfl, hw⟩
      · cases hk
    · rename_i fs hu
      split at hk
      · rename_i y hy
        have hp := List.find?_some hy
        simp only [Bool.and_eq_true, decide_eq_true_eq] at hp
        obtain ⟨i, hi, hie⟩ := List.getElem_of_mem (List.mem_of_find?_eq_some hy)
        obtain ⟨xs, n', _, _, _, hxl, hfs⟩ := DataW.trod_struct hu h
        have hi' : i < fs.size := by simpa using hi
        have hf := hfs i y (by rw [← Array.getElem?_toList, List.getElem?_eq_getElem hi, hie])
        rw [List.getElem?_eq_getElem (by omega)] at hf
        obtain ⟨n, hn, hw⟩ := cell_kind f hk hf
        refine ⟨n, ?_, hw⟩
        rw [List.getElem?_take] at hn
        split at hn
        · rw [List.getElem?_drop, show y.offset + (j - y.offset) = j by omega] at hn
          exact hn
        · cases hn
      · cases hk
    · cases hk
end

/-- The value v is a slice of n records of c integers, of these kinds; x i j: the j-th of the i-th. -/
def Rs (c : Nat) (kd : Nat → IntKind) (w : World) (v : Value) (n : Nat) (x : Nat → Nat → Int) : Prop :=
  ∃ a0 cap, v = .slice a0 n cap ∧ n ≤ cap ∧ (0 < n → ∃ b off, a0 = some ⟨b, off, none⟩ ∧ b < w.heap.size ∧
    ∀ i, i < n → ∀ j, j < c → w.cell? ⟨b, off + i * c + j, none⟩ = some (.int (kd j) (x i j)) ∧ (Lit.int (kd j) (x i j)).wf = true)
theorem Rs.ext {c : Nat} {kd : Nat → IntKind} {w w' : World} {v : Value} {n : Nat} {x : Nat → Nat → Int} (h : Rs c kd w v n x) (hb : Below w.heap.size w w') : Rs c kd w' v n x := by
  obtain ⟨a0, cap, e, hc, hr⟩ := h
  refine ⟨a0, cap, e, hc, fun hl => ?_⟩
  obtain ⟨b, off, ea, hlt, hcell⟩ := hr hl
  refine ⟨b, off, ea, Nat.lt_of_lt_of_le hlt hb.size, fun i hi j hj => ?_⟩
  rw [hb.cell (p := ⟨b, off + i * c + j, none⟩) hlt]
  exact hcell i hi j hj
theorem Rs.at {c : Nat} {kd : Nat → IntKind} {w : World} {a0 : Option Addr} {m cap n : Nat} {x : Nat → Nat → Int} (h : Rs c kd w (.slice a0 m cap) n x) (hl : 0 < n) : ∃ b off, a0 = some ⟨b, off, none⟩ ∧ b < w.heap.size ∧
    ∀ i, i < n → ∀ j, j < c → w.cell? ⟨b, off + i * c + j, none⟩ = some (.int (kd j) (x i j)) ∧ (Lit.int (kd j) (x i j)).wf = true := by
  obtain ⟨a, c', e, _, hr⟩ := h
  simp at e
  obtain ⟨rfl, rfl, rfl⟩ := e
  exact hr hl

section
variable {H : Type} {enc : TypeId × Value → H} {P : Program} {w : World} {base : Nat} {held : Bool}
theorem rs_of_trod {r : Reach} {b0 : Nat} {t e : TypeId} {v : Value} {d : DataW H} {p : List MemPlace} (c : Nat) (kd : Nat → IntKind) (ht : P.underlying t = some (.slice e)) (hc : P.cellsOf e = c) (hpos : 0 < c)
    (hk : ((List.range c).all fun j => decide (kindAt P 6 e j = some (kd j))) = true)
    (hv : Value.okWide P w r b0 t v) (h : DataW.Trod enc P w base (fun _ => true) held t v d p) : ∃ n x, Rs c kd w v n x := by
  obtain ⟨a0, len, cap, rfl⟩ := okWide_slice ht hv
  obtain ⟨fuel, hf⟩ := h
  have hk' : ∀ j, j < c → kindAt P 6 e j = some (kd j) := fun j hj => of_decide_eq_true (List.all_eq_true.1 hk j (List.mem_range.2 hj))
  rcases Deep.open_slice ht hf with ⟨hcs, _⟩ | ⟨a, len', cap', m, n, D, Pl, hcs, _, hl, _, hmm, _, hi⟩
  · simp [Value.cells] at hcs
    obtain ⟨rfl, rfl, rfl⟩ := hcs
    exact ⟨0, fun _ _ => 0, none, 0, rfl, Nat.le_refl _, fun h => absurd h (Nat.not_lt_zero _)⟩
  · simp [Value.cells] at hcs
    obtain ⟨rfl, rfl, rfl⟩ := hcs
    simp at hmm
    have each : ∀ i j, ∃ y : Int, i < len → j < c → w.cell? ((a.add (i * c)).add j) = some (.int (kd j) y) ∧ (Lit.int (kd j) y).wf = true := fun i j => by
      by_cases hlt : i < len ∧ j < c
      · obtain ⟨cs', hcc, htr⟩ := hi i (by omega)
        rw [hc] at hcc
        obtain ⟨_, hcl, hat⟩ := World.cells?_some hcc
        obtain ⟨y, hy, hw⟩ := cell_kind 6 (hk' j hlt.2) htr
        refine ⟨y, fun _ _ => ⟨?_, hw⟩⟩
        have h1 := hat j (by omega)
        rw [h1, hy]
      · exact ⟨0, fun h1 h2 => absurd ⟨h1, h2⟩ hlt⟩
    obtain ⟨x, hg⟩ := Classical.axiomOfChoice fun i => Classical.axiomOfChoice (each i)
    by_cases hp : 0 < len
    · have h0 := (hg 0 0 hp hpos).1
      have ha : (a.add (0 * c)).add 0 = a := by unfold Addr.add; simp
      rw [ha] at h0
      have hsp := spot_none' h0
      refine ⟨len, x, some a, cap, rfl, hl, fun _ => ⟨a.block, a.off, by rw [← hsp], World.block_lt_of_cell? w a h0, fun i hi' j hj => ?_⟩⟩
      have h1 := hg i j hi' hj
      rw [hsp, add_at', add_at'] at h1
      exact h1
    · obtain rfl : len = 0 := by omega
      exact ⟨0, fun _ _ => 0, some a, cap, rfl, hl, fun h => absurd h (Nat.not_lt_zero _)⟩
/-- A struct of integers, by value. -/
theorem agg_of_trod {r : Reach} {b0 : Nat} {t : TypeId} {fs : Array Field} {v : Value} {d : DataW H} {p : List MemPlace} (c : Nat) (kd : Nat → IntKind) (ht : P.underlying t = some (.struct fs)) (hc : P.cellsOf t = c)
    (hk : ((List.range c).all fun j => decide (kindAt P 6 t j = some (kd j))) = true)
    (hv : Value.okWide P w r b0 t v) (h : DataW.Trod enc P w base (fun _ => true) held t v d p) : ∃ x : Nat → Int, v = .agg ((List.range c).map fun j => Value.int (kd j) (x j)).toArray ∧ ∀ j, j < c → (Lit.int (kd j) (x j)).wf = true := by
  obtain ⟨cs, rfl, hsz⟩ := okWide_struct ht hv
  obtain ⟨fuel, hf⟩ := h
  rw [hc] at hsz
  have hk' : ∀ j, j < c → kindAt P 6 t j = some (kd j) := fun j hj => of_decide_eq_true (List.all_eq_true.1 hk j (List.mem_range.2 hj))
  have each : ∀ j, ∃ y : Int, j < c → cs[j]? = some (.int (kd j) y) ∧ (Lit.int (kd j) y).wf = true := fun j => by
    by_cases hj : j < c
    · obtain ⟨y, hy, hw⟩ := cell_kind 6 (hk' j hj) hf
      exact ⟨y, fun _ => ⟨by simpa [Value.cells] using hy, hw⟩⟩
    · exact ⟨0, fun h => absurd h hj⟩
  obtain ⟨x, hx⟩ := Classical.axiomOfChoice each
  refine ⟨x, ?_, fun j hj => (hx j hj).2⟩
  congr 1
  apply Array.ext
  · simp [hsz]
  · intro i h1 h2
    have h3 := (hx i (by omega)).1
    rw [Array.getElem?_eq_getElem h1] at h3
    simpa using h3
end
end Go.Proofs.Ytniejbncahmcoaa
