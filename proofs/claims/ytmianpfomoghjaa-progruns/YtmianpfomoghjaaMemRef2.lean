/-
  What the reference's Bump comes to. Conditions: those of each theorem.
-/
import Derived.Test.YtmianpfomoghjaaMemRef1
import Derived.Test.YtmianpfomoghjaaMemBump
namespace Go.Proofs.Ytmianpfomoghjaa
open Go Go.RowKit

/-- A row of one cell each that is owned, cell by cell. -/
theorem own_row {w : World} {base : Nat} {e : TypeId} {v : Value} {n : Nat} {xs : List Value} (h : w.ownsRow base e 1 v n xs) (hn : 0 < n) :
    ∃ g cap, v = .slice (some ⟨g, 0, none⟩) n cap ∧ base ≤ g ∧ g < w.heap.size ∧ (∀ i, i < n → w.cell? ⟨g, i, none⟩ = xs[i]?) ∧ (∀ i, w.frozen? ⟨g, i, none⟩ = false) := by
  rcases h.2 with ⟨_, h2⟩ | ⟨g, cap, cur, rfl, hg, hh, hc, hm, hs, ht⟩
  · omega
  · refine ⟨g, cap, rfl, hg, heap_lt hh, fun i hi => ?_, fun i => free_at hh⟩
    have h3 : (cur.toList.take (n * 1))[i]? = xs[i]? := by rw [ht]
    rw [List.getElem?_take, if_pos (by omega), Array.getElem?_toList] at h3
    rw [← h3]
    simp [World.cell?, hh]
/-- What lies at an address, cell by cell, as append reads it. -/
theorem news_of {w : World} {b n : Nat} {x : Nat → Value} (h : ∀ i, i < n → w.cell? ⟨b, i, none⟩ = some (x i)) : ∀ j u, ((List.range n).map x)[j]? = some u → w.cell? ((⟨b, 0, none⟩ : Addr).add j) = some u := by
  intro j u hj
  rw [List.getElem?_map] at hj
  by_cases hlt : j < n
  · rw [List.getElem?_range hlt] at hj
    simp at hj
    subst hj
    rw [add_at', Nat.zero_add]
    exact h j hlt
  · rw [List.getElem?_eq_none (by simpa using hlt)] at hj
    cases hj
theorem range_get {α : Type} (x : Nat → α) (n i : Nat) (h : i < n) : ((List.range n).map x)[i]? = some (x i) := by
  rw [List.getElem?_map, List.getElem?_range h]; rfl
/-- A slice literal without elements. -/
theorem own_empty (w : World) (base : Nat) (e : TypeId) (h : base ≤ w.heap.size) : (w.alloc (.cells #[] e)).ownsRow base e 1 (.slice (some ⟨w.heap.size, 0, none⟩) 0 0) 0 [] := by
  refine ⟨rfl, .inr ⟨w.heap.size, 0, #[], rfl, h, ?_, Nat.le_refl _, Nat.zero_le _, rfl, rfl⟩⟩
  show (w.heap.push _)[w.heap.size]? = _
  simp

theorem own_empty' (w : World) (base : Nat) (e : TypeId) (g : Nat) (hg : g = w.heap.size) (h : base ≤ w.heap.size) : (w.alloc (.cells #[] e)).ownsRow base e 1 (.slice (some ⟨g, 0, none⟩) 0 0) 0 [] := by
  subst hg
  exact own_empty w base e h
theorem ints_of (k : IntKind) (x : Nat → Int) (n : Nat) : ∀ u ∈ (List.range n).map fun i => Value.int k (x i), u.oneCell' = true := by
  intro u hu
  obtain ⟨i, _, rfl⟩ := List.mem_map.1 hu
  rfl
theorem heap_new (w : World) (o : Obj) (b : Nat) (hb : b = w.heap.size) : (w.alloc o).heap[b]? = some o := by
  subst hb
  show (w.heap.push o)[w.heap.size]? = _
  simp
theorem cell_set_same {w : World} {b o : Nat} {x y : Value} (h : w.cell? ⟨b, o, none⟩ = some y) : (w.setCell ⟨b, o, none⟩ x).cell? ⟨b, o, none⟩ = some x := by
  unfold World.cell? at h ⊢
  simp only [World.setCell, Array.getElem?_modify]
  split at h
  · rename_i c t f hh
    simp only [hh, if_true, Option.map_some]
    simp at h ⊢
    obtain ⟨h1, _⟩ := Array.getElem?_eq_some_iff.1 h
    simp [h1]
  · cases h
theorem cell_set_far {w : World} {b b' o o' : Nat} (x : Value) (h : b' ≠ b) : (w.setCell ⟨b, o, none⟩ x).cell? ⟨b', o', none⟩ = w.cell? ⟨b', o', none⟩ :=
  World.cell?_of_block (w := w) (a := ⟨b', o', none⟩) (set_other x h)
theorem cell_set_off {w : World} {b b' o o' : Nat} (x : Value) (h : o' ≠ o) : (w.setCell ⟨b, o, none⟩ x).cell? ⟨b', o', none⟩ = w.cell? ⟨b', o', none⟩ := by
  by_cases e : b' = b
  · subst e
    unfold World.cell?
    simp only [World.setCell, Array.getElem?_modify, if_true]
    cases w.heap[b']? with
    | none => rfl
    | some ob =>
      cases ob <;> simp
      rename_i c t f
      rw [Array.getElem?_setIfInBounds_ne (Ne.symm h)]
  · exact cell_set_far x e
theorem froz_set {w : World} {p a : Addr} {x : Value} : (w.setCell p x).frozen? a = w.frozen? a := by
  unfold World.frozen?
  simp only [World.setCell, Array.getElem?_modify]
  by_cases e : p.block = a.block
  · rw [if_pos e]
    cases w.heap[a.block]? with
    | none => rfl
    | some ob => cases ob <;> rfl
  · rw [if_neg e]
/-- What three boxes hold, still. -/
structure Box3 (s : Nat) (x y z : Value) (w : World) : Prop where
  k0 : w.cell? ⟨s, 0, none⟩ = some x
  k1 : w.cell? ⟨s, 1, none⟩ = some y
  k2 : w.cell? ⟨s, 2, none⟩ = some z
  kz : ∀ o, w.frozen? ⟨s, o, none⟩ = false
  r0 : w.cell? ⟨s + 1, 0, none⟩ = some (.slice none 0 0)
  r1 : w.cell? ⟨s + 1, 1, none⟩ = some (.slice none 0 0)
  r2 : w.cell? ⟨s + 1, 2, none⟩ = some (.int .i64 0)
  rz : ∀ o, w.frozen? ⟨s + 1, o, none⟩ = false
  p0 : w.cell? ⟨s + 1 + 1, 0, none⟩ = some (.int .i64 0)
  p1 : w.cell? ⟨s + 1 + 1, 1, none⟩ = some (.int .u64 0)
  pz : ∀ o, w.frozen? ⟨s + 1 + 1, o, none⟩ = false
theorem box3 {u w w' : World} {x y z : Value} {t t' t'' : TypeId} (hu : Ext u w) (hg : ((((w.alloc (.cells #[x, y, z] t)).alloc (.cells #[.slice none 0 0, .slice none 0 0, .int .i64 0] t)).alloc (.cells #[.int .i64 0, .int .u64 0] t')).alloc (.cells #[] t'')).grownBy w' (some (w.heap.size + 3))) :
    Ext u w' ∧ Box3 w.heap.size x y z w' := by
  have hF : Fr (w.heap.size + 3) (w.heap.size + 4) ((((w.alloc (.cells #[x, y, z] t)).alloc (.cells #[.slice none 0 0, .slice none 0 0, .int .i64 0] t)).alloc (.cells #[.int .i64 0, .int .u64 0] t')).alloc (.cells #[] t'')) w' :=
    (Fr.refl _ _ _).grown hg (fun k hk => by simp at hk; omega)
  refine ⟨hF.below (ext_alloc _ (ext_alloc _ (ext_alloc _ (ext_alloc _ hu)))) (by have := hu.size; omega), ?_⟩
  have h0 : w'.heap[w.heap.size]? = some (.cells #[x, y, z] t (0, 0)) := by
    rw [hF.block _ (by simp <;> omega) (.inl (by omega)), Below.heap_alloc _ _ _ (by simp <;> omega), Below.heap_alloc _ _ _ (by simp <;> omega), Below.heap_alloc _ _ _ (by simp)]
    exact heap_new _ _ _ rfl
  have h1 : w'.heap[w.heap.size + 1]? = some (.cells #[.slice none 0 0, .slice none 0 0, .int .i64 0] t (0, 0)) := by
    rw [hF.block _ (by simp <;> omega) (.inl (by omega)), Below.heap_alloc _ _ _ (by simp <;> omega), Below.heap_alloc _ _ _ (by simp)]
    exact heap_new _ _ _ (by simp)
  have h2 : w'.heap[w.heap.size + 1 + 1]? = some (.cells #[.int .i64 0, .int .u64 0] t' (0, 0)) := by
    rw [hF.block _ (by simp) (.inl (by omega)), Below.heap_alloc _ _ _ (by simp)]
    exact heap_new _ _ _ (by simp)
  exact ⟨cell_at h0 rfl, cell_at h0 rfl, cell_at h0 rfl, fun o => free_at h0, cell_at h1 rfl, cell_at h1 rfl, cell_at h1 rfl, fun o => free_at h1, cell_at h2 rfl, cell_at h2 rfl, fun o => free_at h2⟩

/-- The boxes of the results, as they were made. -/
structure ResB (s : Nat) (w : World) : Prop where
  r0 : w.cell? ⟨s + 1, 0, none⟩ = some (.slice none 0 0)
  r1 : w.cell? ⟨s + 1, 1, none⟩ = some (.slice none 0 0)
  r2 : w.cell? ⟨s + 1, 2, none⟩ = some (.int .i64 0)
  rz : ∀ o, w.frozen? ⟨s + 1, o, none⟩ = false
  p0 : w.cell? ⟨s + 1 + 1, 0, none⟩ = some (.int .i64 0)
  p1 : w.cell? ⟨s + 1 + 1, 1, none⟩ = some (.int .u64 0)
  pz : ∀ o, w.frozen? ⟨s + 1 + 1, o, none⟩ = false
theorem ResB.ext {s : Nat} {w w' : World} (h : ResB s w) (hb : Ext w w') : ResB s w' :=
  ⟨ext_cell hb h.r0, ext_cell hb h.r1, ext_cell hb h.r2, fun o => by rw [hb.frozen (p := ⟨s + 1, o, none⟩) (cell_lt h.r0)]; exact h.rz o,
   ext_cell hb h.p0, ext_cell hb h.p1, fun o => by rw [hb.frozen (p := ⟨s + 1 + 1, o, none⟩) (cell_lt h.p0)]; exact h.pz o⟩

section
variable {b0 : Nat → Prop} {R : RL} {M : MS} {w : World}

theorem RefIn.bump {Z : World} (h : RefIn b0 R M w) (hb : Ext w Z) (r g c : Nat) (hg : b0 g) (hlt : g < Z.heap.size) (hc : ∀ i, i < M.n → Z.cell? ⟨g, i, none⟩ = some (.int .u64 (U ((M.bump r).ep i)))) :
    RefIn b0 { R with be := g, ea := some ⟨g, 0, none⟩, ec := c } (M.bump r) Z :=
  have h' := h.ext hb
  ⟨h.few, h.small, h'.top, h'.wA, fun _ => ⟨rfl, hg, hlt⟩, h'.wR, hc, h'.xA, h'.xR⟩

theorem Try.infoU64r : (Try.prog.info? 35).map (fun i => (i.zero, i.size, i.bytes)) = some (some (.int .u64 0), 1, 8) := by kernel_rfl

/-- What it comes to. -/
def RetRef (b0 : Nat → Prop) (M' : MS) (rest : Array Value) (w : World) (e : Ending) (w' : World) : Prop :=
  ∃ R' : RL, e = .returned (.tuple (#[refV R' M'] ++ rest)) ∧ RefIn b0 R' M' w' ∧ Ext w w'

end
end Go.Proofs.Ytmianpfomoghjaa
