/-
  A region that draws its order, where more than one that writes, makes or calls may come up: one walk for each order of these. Conditions: those of each theorem.
-/
import Derived.Test.YtegcdiepedgodaaMix
namespace Go.Proofs.Ytegcdiepedgodaa
open Go Go.RowKit

section
variable {P : Program} {ops : Array Oper} {Q : Exit → Act → World → Prop} {S : World → Prop}
/-- Whatever comes up next, but for those of ex, it is well. -/
def Ways (P : Program) (ops : Array Oper) (Q : Exit → Act → World → Prop) (S : World → Prop) (ex : List Nat) (listed : Array Bool) (f : Nat) (a : Act) (w : World) : Prop :=
  Closed ops listed → S w → (ex = [] → wpAnyX P ops Q [] f S listed a w) ∧
    (0 < f → ∀ j ∈ Region.ready .any ops listed, j ∉ ex → wpOp P ops Q j (fun a' w' => S w' ∧ wpAnyX P ops Q [] (f - 1) S (listed.setIfInBounds j true) a' w') a w)

theorem op_of_list {K : Act → World → Prop} {K' : Act → World → Prop} {i : Nat} {o : Oper} {a : Act} {w : World} (ho : ops[i]? = some o) (hk : ∀ a w, S w → K a w → K' a w)
    (h : wpList P ops (mixQ Q S K) (pickL ops.toList [i]) a w) : wpOp P ops Q i K' a w := by
  rw [pick_at ho] at h
  simp only [pickL, List.map_nil, wpList] at h
  unfold wpOp
  simp only [ho]
  split
  · rename_i hw
    rw [if_pos hw] at h
    rcases h with h | ⟨h5, h6⟩
    · exact .inl (op_mix (Q' := mixQ Q S K) (fun e a w he hh => by cases e <;> first | exact hh | exact absurd rfl he) (fun a w hh => hk a w hh.1 hh.2) h)
    · obtain ⟨a6, w6, h7⟩ := h6
      exact .inr ⟨h5, a6, w6, h7⟩
  · rename_i hw
    rw [if_neg hw] at h
    exact hk _ _ h.1 h.2

theorem ways_end {listed : Array Bool} {f : Nat} {a : Act} {w : World} (hB : (Region.ready .any ops listed).isEmpty = true) (h : Q .normal a w) : Ways P ops (calm Q) S [] listed f a w := fun _ _ => by
  have hr := List.isEmpty_iff.1 hB
  exact ⟨fun _ => x_done (Q := calm Q) hr h _, fun _ j hj => by rw [hr] at hj; cases hj⟩
theorem ways_reads {listed : Array Bool} {f : Nat} {a : Act} {w : World} (is : List Nat) (hB : (Region.noSelect ops && (takeB ops [] is listed).isSome && decide (is.length ≤ f)) = true)
    (h : wpQuiet P ops S (fun a' => Ways P ops (calm Q) S [] ((takeB ops [] is listed).getD listed) (f - is.length) a' w) (pickL ops.toList is) a) : Ways P ops (calm Q) S [] listed f a w := fun hcl hS => by
  simp only [Bool.and_eq_true, decide_eq_true_eq] at hB
  obtain ⟨⟨hs, h1⟩, h2⟩ := hB
  obtain ⟨listed', ht⟩ := Option.isSome_iff_exists.1 h1
  have main : wpAnyX P ops (calm Q) [] f S listed a w := by
    rw [show f = is.length + (f - is.length) by omega]
    refine x_take hs (fun _ _ _ _ _ h => h) hS _ listed' (fun a' hcl' ha => ?_) is listed a hcl ht h
    have := (ha : Ways P ops (calm Q) S [] ((takeB ops [] is listed).getD listed) (f - is.length) a' w)
    rw [ht] at this
    exact (this hcl' hS).1 rfl
  refine ⟨fun _ => main, fun h0 j hj _ => ?_⟩
  obtain ⟨f', rfl⟩ : ∃ f', f = f' + 1 := ⟨f - 1, by omega⟩
  have := main.2 j hj
  simp only [List.contains_nil, Bool.false_eq_true, if_false] at this
  exact this
theorem ways_act {listed : Array Bool} {f : Nat} {a : Act} {w : World} {ex : List Nat} (i : Nat) (hB : (decide ((Region.ready .any ops listed).filter (fun j => !ex.contains j) = [i]) && (ops[i]?).isSome && decide (0 < f)) = true)
    (h : wpList P ops (mixQ (calm Q) S (Ways P ops (calm Q) S [] (listed.setIfInBounds i true) (f - 1))) (pickL ops.toList [i]) a w) : Ways P ops (calm Q) S ex listed f a w := fun hcl hS => by
  simp only [Bool.and_eq_true, decide_eq_true_eq] at hB
  obtain ⟨⟨h1, h2⟩, h3⟩ := hB
  obtain ⟨o, ho⟩ := Option.isSome_iff_exists.1 h2
  obtain ⟨f', rfl⟩ : ∃ f', f = f' + 1 := ⟨f - 1, by omega⟩
  have hi : i ∈ Region.ready .any ops listed := by
    have : i ∈ (Region.ready .any ops listed).filter (fun j => !ex.contains j) := by rw [h1]; simp
    exact (List.mem_filter.1 this).1
  have main : ∀ j ∈ Region.ready .any ops listed, j ∉ ex → wpOp P ops (calm Q) j (fun a' w' => S w' ∧ wpAnyX P ops (calm Q) [] f' S (listed.setIfInBounds j true) a' w') a w := fun j hj hne => by
    have : j ∈ (Region.ready .any ops listed).filter (fun j => !ex.contains j) := List.mem_filter.2 ⟨hj, by simpa using hne⟩
    rw [h1] at this
    obtain rfl : j = i := by simpa using this
    exact op_of_list ho (fun a' w' hS' hk => ⟨hS', (hk (hcl.set hi) hS').1 rfl⟩) h
  refine ⟨fun he => ⟨fun h0 => (by rw [h0] at hi; cases hi), fun j hj => ?_⟩, fun _ => main⟩
  simp only [List.contains_nil, Bool.false_eq_true, if_false]
  exact main j hj (by rw [he]; simp)
theorem ways_fork {listed : Array Bool} {f : Nat} {a : Act} {w : World} {ex : List Nat} (i : Nat) (hB : ((Region.ready .any ops listed).contains i && (ops[i]?).isSome && decide (0 < f)) = true)
    (h : wpList P ops (mixQ (calm Q) S (Ways P ops (calm Q) S [] (listed.setIfInBounds i true) (f - 1))) (pickL ops.toList [i]) a w) (h' : Ways P ops (calm Q) S (i :: ex) listed f a w) : Ways P ops (calm Q) S ex listed f a w := fun hcl hS => by
  simp only [Bool.and_eq_true, decide_eq_true_eq] at hB
  obtain ⟨⟨h1, h2⟩, h3⟩ := hB
  obtain ⟨o, ho⟩ := Option.isSome_iff_exists.1 h2
  have hi : i ∈ Region.ready .any ops listed := by simpa using h1
  obtain ⟨f', rfl⟩ : ∃ f', f = f' + 1 := ⟨f - 1, by omega⟩
  have hq := h' hcl hS
  have main : ∀ j ∈ Region.ready .any ops listed, j ∉ ex → wpOp P ops (calm Q) j (fun a' w' => S w' ∧ wpAnyX P ops (calm Q) [] f' S (listed.setIfInBounds j true) a' w') a w := fun j hj hne => by
    by_cases e : j = i
    · subst e
      exact op_of_list ho (fun a' w' hS' hk => ⟨hS', (hk (hcl.set hi) hS').1 rfl⟩) h
    · exact hq.2 (by omega) j hj (by simp [e, hne])
  refine ⟨fun he => ⟨fun h0 => (by rw [h0] at hi; cases hi), fun j hj => ?_⟩, fun _ => main⟩
  simp only [List.contains_nil, Bool.false_eq_true, if_false]
  exact main j hj (by rw [he]; simp)

/-- The region, by its ways. -/
theorem wp_region_ways {id : Nat} {a : Act} {w : World} {l : List Oper} (S : World → Prop) (hm : P.follows .mixedOrders = true)
    (hS : S w.drew) (h : Ways P l.toArray (calm Q) S [] (Array.replicate l.toArray.size false) l.toArray.size a w.drew) : (Code.region id l.toArray true).wp P Q a w :=
  Code.wp_mono calm_out (wp_region_any hm (any_of_x (late := []) _ S _ _ _ ((h (Closed.none _) hS).1 rfl)))
end
end Go.Proofs.Ytegcdiepedgodaa
