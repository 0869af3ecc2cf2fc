/-
  Arguments that are slices of what holds slices, read leaf by leaf. No conditions.
-/
import Derived.Test.YthepcnffadjeaaaRecs
import Derived.ChangeArms
namespace Go.Proofs.Ythepcnffadjeaaa
open Go Go.ChangeShapes Go.WideShapes Go.RowKit

/-- The type of the j-th cell, where that is a leaf of one cell. -/
def leafAt (P : Program) : Nat → TypeId → Nat → Option TypeId
  | 0, _, _ => none
  | f + 1, t, j => match P.underlying t with
    | some (.int _) => if j = 0 then some t else none
    | some .bool => if j = 0 then some t else none
    | some .string => if j = 0 then some t else none
    | some (.slice _) => if j = 0 then some t else none
    | some (.struct fs) => match fs.toList.find? fun x => decide (x.offset ≤ j) && decide (j < x.offset + P.cellsOf x.type) with
      | some x => leafAt P f x.type (j - x.offset)
      | none => none
    | _ => none

section
variable {H : Type} {enc : TypeId × Value → H} {P : Program} {w : World} {base : Nat} {held : Bool}
theorem leaf_trod : ∀ (f : Nat) {t e : TypeId} {j : Nat} {fuel : Nat} {cs : List Value} {x : DataW H × List MemPlace}, leafAt P f t j = some e → DataW.trod enc P w base (fun _ => true) held fuel t cs = some x →
    ∃ v fuel' y, cs[j]? = some v ∧ DataW.trod enc P w base (fun _ => true) held fuel' e [v] = some y
  | 0, t, e, j, fuel, cs, x, hk, h => by cases hk
  | f + 1, t, e, j, fuel, cs, x, hk, h => by
    unfold leafAt at hk
    split at hk
    · rename_i k' hu
      split at hk
      · rename_i hj
        obtain rfl : t = e := by simpa using hk
        subst hj
        obtain ⟨n, rfl, _, hw⟩ := DataW.trod_int hu h
        exact ⟨_, fuel, x, rfl, h⟩
      · cases hk
    · rename_i hu
      split at hk
      · rename_i hj
        obtain rfl : t = e := by simpa using hk
        subst hj
        obtain ⟨b, rfl, _⟩ := DataW.trod_bool hu h
        exact ⟨_, fuel, x, rfl, h⟩
      · cases hk
    · rename_i hu
      split at hk
      · rename_i hj
        obtain rfl : t = e := by simpa using hk
        subst hj
        obtain ⟨s, rfl, _⟩ := DataW.trod_string hu h
        exact ⟨_, fuel, x, rfl, h⟩
      · cases hk
    · rename_i e' hu
      split at hk
      · rename_i hj
        obtain rfl : t = e := by simpa using hk
        subst hj
        rcases Deep.open_slice hu h with ⟨rfl, _⟩ | ⟨a, len', cap', m, n, D, Pl, rfl, _⟩
        · exact ⟨_, fuel, x, rfl, h⟩
        · exact ⟨_, fuel, x, rfl, h⟩
      · cases hk
    · rename_i fs hu
      split at hk
      · rename_i y hy
        have hp := List.find?_some hy
        simp only [Bool.and_eq_true, decide_eq_true_eq] at hp
        obtain ⟨i, hi, hie⟩ := List.getElem_of_mem (List.mem_of_find?_eq_some hy)
        obtain ⟨xs, n', _, _, _, hxl, hfs⟩ := DataW.trod_struct hu h
        have hi' : i < fs.size := by simpa using hi
        have hf := hfs i y (by rw [← Array.getElem?_toList, List.getElem?_eq_getElem hi, hie])
        rw [List.getElem?_eq_getElem (by omega)] at hf
        obtain ⟨n, fuel', z, hn, hw⟩ := leaf_trod f hk hf
        refine ⟨n, fuel', z, ?_, hw⟩
        rw [List.getElem?_take] at hn
        split at hn
        · rw [List.getElem?_drop, show y.offset + (j - y.offset) = j by omega] at hn
          exact hn
        · cases hn
      · cases hk
    · cases hk

/-- The value v is a slice of n records of c leaves; x i j: the j-th of the i-th; its type T j reads there. -/
def Nv (enc : TypeId × Value → H) (P : Program) (base : Nat) (held : Bool) (c : Nat) (T : Nat → TypeId) (w : World) (v : Value) (n : Nat) (x : Nat → Nat → Value) : Prop :=
  ∃ a0 cap, v = .slice a0 n cap ∧ n ≤ cap ∧ (0 < n → ∃ b off, a0 = some ⟨b, off, none⟩ ∧ b < w.heap.size ∧
    ∀ i, i < n → ∀ j, j < c → w.cell? ⟨b, off + i * c + j, none⟩ = some (x i j) ∧ ∃ fuel y, DataW.trod enc P w base (fun _ => true) held fuel (T j) [x i j] = some y)
/-- A slice, of which one cell is known. -/
theorem nv_of_trod1 {t e : TypeId} {v : Value} {fuel : Nat} {y : DataW H × List MemPlace} (c : Nat) (T : Nat → TypeId) (ht : P.underlying t = some (.slice e)) (hc : P.cellsOf e = c) (hpos : 0 < c)
    (hk : ((List.range c).all fun j => decide (leafAt P 6 e j = some (T j))) = true) (hf : DataW.trod enc P w base (fun _ => true) held fuel t [v] = some y) : ∃ n x, Nv enc P base held c T w v n x := by
  have hk' : ∀ j, j < c → leafAt P 6 e j = some (T j) := fun j hj => of_decide_eq_true (List.all_eq_true.1 hk j (List.mem_range.2 hj))
  rcases Deep.open_slice ht hf with ⟨hcs, _⟩ | ⟨a, len, cap, m, n, D, Pl, hcs, _, hl, _, hmm, _, hi⟩
  · simp at hcs
    subst hcs
    exact ⟨0, fun _ _ => .bool false, none, 0, rfl, Nat.le_refl _, fun h => absurd h (Nat.not_lt_zero _)⟩
  · simp at hcs
    subst hcs
    simp at hmm
    have each : ∀ i j, ∃ u : Value, i < len → j < c → w.cell? ((a.add (i * c)).add j) = some u ∧ ∃ fuel y, DataW.trod enc P w base (fun _ => true) held fuel (T j) [u] = some y := fun i j => by
      by_cases hlt : i < len ∧ j < c
      · obtain ⟨cs', hcc, htr⟩ := hi i (by omega)
        rw [hc] at hcc
        obtain ⟨_, hcl, hat⟩ := World.cells?_some hcc
        obtain ⟨u, fuel', z, hy, hw⟩ := leaf_trod 6 (hk' j hlt.2) htr
        refine ⟨u, fun _ _ => ⟨?_, fuel', z, hw⟩⟩
        have h1 := hat j (by omega)
        rw [h1, hy]
      · exact ⟨.bool false, fun h1 h2 => absurd ⟨h1, h2⟩ hlt⟩
    obtain ⟨x, hg⟩ := Classical.axiomOfChoice fun i => Classical.axiomOfChoice (each i)
    by_cases hp : 0 < len
    · have h0 := (hg 0 0 hp hpos).1
      have ha : (a.add (0 * c)).add 0 = a := by unfold Addr.add; simp
      rw [ha] at h0
      have hsp := spot_none' h0
      refine ⟨len, x, some a, cap, rfl, hl, fun _ => ⟨a.block, a.off, by rw [← hsp], World.block_lt_of_cell? w a h0, fun i hi' j hj => ?_⟩⟩
      have h1 := hg i j hi' hj
      rw [hsp, add_at', add_at'] at h1
      exact h1
    · obtain rfl : len = 0 := by omega
      exact ⟨0, fun _ _ => .bool false, some a, cap, rfl, hl, fun h => absurd h (Nat.not_lt_zero _)⟩
theorem nv_of_trod {r : Reach} {b0 : Nat} {t e : TypeId} {v : Value} {d : DataW H} {p : List MemPlace} (c : Nat) (T : Nat → TypeId) (ht : P.underlying t = some (.slice e)) (hc : P.cellsOf e = c) (hpos : 0 < c)
    (hk : ((List.range c).all fun j => decide (leafAt P 6 e j = some (T j))) = true)
    (hv : Value.okWide P w r b0 t v) (h : DataW.Trod enc P w base (fun _ => true) held t v d p) : ∃ n x, Nv enc P base held c T w v n x := by
  obtain ⟨a0, len, cap, rfl⟩ := okWide_slice ht hv
  obtain ⟨fuel, hf⟩ := h
  exact nv_of_trod1 c T ht hc hpos hk (by simpa [Value.cells] using hf)
/-- A leaf that is an integer, a bool. -/
theorem leaf_int {t : TypeId} {k : IntKind} {u : Value} {fuel : Nat} {y : DataW H × List MemPlace} (ht : P.underlying t = some (.int k)) (h : DataW.trod enc P w base (fun _ => true) held fuel t [u] = some y) : ∃ n, u = .int k n ∧ (Lit.int k n).wf = true := by
  obtain ⟨n, hn, _, hw⟩ := DataW.trod_int ht h
  simp at hn
  exact ⟨n, hn, hw⟩
theorem leaf_bool {t : TypeId} {u : Value} {fuel : Nat} {y : DataW H × List MemPlace} (ht : P.underlying t = some .bool) (h : DataW.trod enc P w base (fun _ => true) held fuel t [u] = some y) : ∃ b, u = .bool b := by
  obtain ⟨b, hn, _⟩ := DataW.trod_bool ht h
  simp at hn
  exact ⟨b, hn⟩
/-- A slice of records of integers, of which all leaves are integers. -/
theorem rs_of_nv {c : Nat} {T : Nat → TypeId} {kd : Nat → IntKind} {v : Value} {n : Nat} {x : Nat → Nat → Value} (hT : ∀ j, j < c → P.underlying (T j) = some (.int (kd j))) (h : Nv enc P base held c T w v n x) : ∃ z, Rs c kd w v n z := by
  obtain ⟨a0, cap, e, hc, hr⟩ := h
  by_cases hp : 0 < n
  · obtain ⟨b, off, ea, hb, hcell⟩ := hr hp
    have each : ∀ i j, ∃ z : Int, i < n → j < c → x i j = .int (kd j) z ∧ (Lit.int (kd j) z).wf = true := fun i j => by
      by_cases hlt : i < n ∧ j < c
      · obtain ⟨_, fuel, y, hy⟩ := hcell i hlt.1 j hlt.2
        obtain ⟨z, hz, hw⟩ := leaf_int (hT j hlt.2) hy
        exact ⟨z, fun _ _ => ⟨hz, hw⟩⟩
      · exact ⟨0, fun h1 h2 => absurd ⟨h1, h2⟩ hlt⟩
    obtain ⟨z, hz⟩ := Classical.axiomOfChoice fun i => Classical.axiomOfChoice (each i)
    refine ⟨z, a0, cap, e, hc, fun _ => ⟨b, off, ea, hb, fun i hi j hj => ?_⟩⟩
    rw [(hcell i hi j hj).1, (hz i j hi hj).1]
    exact ⟨rfl, (hz i j hi hj).2⟩
  · exact ⟨fun _ _ => 0, a0, cap, e, hc, fun h => absurd h hp⟩
end
end Go.Proofs.Ythepcnffadjeaaa
