/-
  Lists of lists of accesses, and lists of calls, as arguments. Conditions: those of each theorem.
-/
import Derived.Test.YthepcnffadjeaaaNest
import Derived.Test.YthepcnffadjeaaaThreadM
namespace Go.Proofs.Ythepcnffadjeaaa
open Go Go.RowKit

/-- The i-th list. -/
def lN (ls : List (List Acc)) (i : Nat) : List Acc := ls.getD i []
/-- The value v is a slice of slices of accesses that reads, in w, as ls. -/
def Lss (w : World) (v : Value) (ls : List (List Acc)) : Prop :=
  ∃ a0 cap, v = .slice a0 ls.length cap ∧ ls.length ≤ cap ∧ (0 < ls.length → ∃ b o, a0 = some ⟨b, o, none⟩ ∧ b < w.heap.size ∧ ∀ i, i < ls.length → ∃ u, w.cell? ⟨b, o + i, none⟩ = some u ∧ AsB (fun _ => False) w u (lN ls i))
theorem Lss.at {w : World} {a0 : Option Addr} {m cap : Nat} {ls : List (List Acc)} (h : Lss w (.slice a0 m cap) ls) (hl : 0 < ls.length) : ∃ b o, a0 = some ⟨b, o, none⟩ ∧ b < w.heap.size ∧ ∀ i, i < ls.length → ∃ u, w.cell? ⟨b, o + i, none⟩ = some u ∧ AsB (fun _ => False) w u (lN ls i) := by
  obtain ⟨a, c', e, _, hr⟩ := h
  simp at e
  obtain ⟨rfl, rfl, rfl⟩ := e
  exact hr hl
section
variable {H : Type} {enc : TypeId × Value → H} {base : Nat} {held : Bool} {w : World}
/-- A leaf that is a slice of accesses. -/
theorem leaf_accs {u : Value} {fuel : Nat} {y : DataW H × List MemPlace} (h : DataW.trod enc Try.prog w base (fun _ => true) held fuel 40 [u] = some y) : ∃ l, AsB (fun _ => False) w u l := by
  obtain ⟨n, x, hN⟩ := nv_of_trod1 4 (fun j => if j < 2 then 3 else 43) Try.underlying40 (by kernel_rfl : Try.prog.cellsOf 70 = 4) (by decide) (by kernel_rfl) h
  obtain ⟨z, hz⟩ := rs_of_nv (kd := accKd) (fun j hj => by
    rcases (show j = 0 ∨ j = 1 ∨ j = 2 ∨ j = 3 by omega) with rfl | rfl | rfl | rfl
    · exact Try.underlying3
    · exact Try.underlying3
    · exact Try.underlying43
    · exact Try.underlying43) hN
  exact ⟨_, asB_of (as_of_rs hz)⟩
theorem lss_of_nv {v : Value} {n : Nat} {x : Nat → Nat → Value} (h : Nv enc Try.prog base held 1 (fun _ => 40) w v n x) : ∃ ls, Lss w v ls := by
  obtain ⟨a0, cap, e, hc, hr⟩ := h
  by_cases hp : 0 < n
  · obtain ⟨b, off, ea, hb, hcell⟩ := hr hp
    have each : ∀ i, ∃ l : List Acc, i < n → AsB (fun _ => False) w (x i 0) l := fun i => by
      by_cases hlt : i < n
      · obtain ⟨_, fuel, y, hy⟩ := hcell i hlt 0 (by omega)
        obtain ⟨l, hl⟩ := leaf_accs hy
        exact ⟨l, fun _ => hl⟩
      · exact ⟨[], fun h => absurd h hlt⟩
    obtain ⟨f, hf⟩ := Classical.axiomOfChoice each
    refine ⟨(List.range n).map f, a0, cap, by simpa using e, by simpa using hc, fun _ => ⟨b, off, ea, hb, fun i hi => ?_⟩⟩
    have hi' : i < n := by simpa using hi
    have h1 := (hcell i hi' 0 (by omega)).1
    rw [Nat.mul_one, Nat.add_zero] at h1
    refine ⟨_, h1, ?_⟩
    rw [show lN ((List.range n).map f) i = f i by unfold lN; exact getD_range f n i _ hi']
    exact hf i hi'
  · obtain rfl : n = 0 := by omega
    exact ⟨[], a0, cap, e, hc, fun h => absurd h (Nat.not_lt_zero _)⟩
end
theorem lN_get (ls : List (List Acc)) (k : Nat) (hk : k < ls.length) : ls[k] = lN ls k := by
  unfold lN
  rw [List.getD_eq_getElem?_getD, List.getElem?_eq_getElem hk]
  rfl
theorem lss_put (ls : List (List Acc)) (k : Nat) (hk : k < ls.length) : ls.take k ++ [lN ls k] = ls.take (k + 1) := by
  rw [List.take_succ_eq_append_getElem hk, lN_get ls k hk]
theorem lss_take (ls : List (List Acc)) (k : Nat) (hk : k < ls.length) : ls.drop k = lN ls k :: ls.drop (k + 1) := by
  rw [List.drop_eq_getElem_cons hk, lN_get ls k hk]

end Go.Proofs.Ythepcnffadjeaaa
