/-
  What the reference's Do comes to, where the access may not be done; what it sees. Conditions: those of each theorem.
-/
import Derived.Test.YthepcnffadjeaaaMemRef2
namespace Go.Proofs.Ythepcnffadjeaaa
open Go Go.RowKit

/-- What the reference's Do sees of its boxes. -/
structure DB (s : Nat) (wa : Option Addr) (R : RL) (M : MS) (r op at_ : Int) (e a b : BitVec 64) (X : World) : Prop where
  m0 : X.cell? ⟨s, 0, none⟩ = some (.slice wa M.n R.wc)
  m1 : X.cell? ⟨s, 1, none⟩ = some (.slice R.ea M.n R.ec)
  m2 : X.cell? ⟨s, 2, none⟩ = some (.int .i64 M.ct)
  mz : ∀ o, X.frozen? ⟨s, o, none⟩ = false
  c0 : X.cell? ⟨s + 1, 0, none⟩ = some (.int .i64 r)
  c1 : X.cell? ⟨s + 1, 1, none⟩ = some (.int .u64 (U e))
  a0 : X.cell? ⟨s + 1 + 1, 0, none⟩ = some (.int .i64 op)
  a1 : X.cell? ⟨s + 1 + 1, 1, none⟩ = some (.int .i64 at_)
  a2 : X.cell? ⟨s + 1 + 1, 2, none⟩ = some (.int .u64 (U a))
  a3 : X.cell? ⟨s + 1 + 1, 3, none⟩ = some (.int .u64 (U b))
  t0 : X.cell? ⟨s + 1 + 1 + 1, 0, none⟩ = some (.slice none 0 0)
  t1 : X.cell? ⟨s + 1 + 1 + 1, 1, none⟩ = some (.slice none 0 0)
  t2 : X.cell? ⟨s + 1 + 1 + 1, 2, none⟩ = some (.int .i64 0)
  tz : ∀ o, X.frozen? ⟨s + 1 + 1 + 1, o, none⟩ = false
  l0 : s < X.heap.size
  l1 : s + 1 < X.heap.size
  l2 : s + 1 + 1 < X.heap.size
  l3 : s + 1 + 1 + 1 < X.heap.size

section
variable {b0 : Nat → Prop} {R : RL} {M : MS} {w : World}
theorem DB.fr {s lo hi : Nat} {wa : Option Addr} {r op at_ : Int} {e a b : BitVec 64} {X Y : World} (h : DB s wa R M r op at_ e a b X) (hf : Fr lo hi X Y) (hl : s + 4 ≤ lo) : DB s wa R M r op at_ e a b Y := by
  have k : ∀ b o, b < X.heap.size → b < s + 4 → Y.cell? ⟨b, o, none⟩ = X.cell? ⟨b, o, none⟩ := fun b o h1 h2 => hf.cell h1 (.inl (by omega))
  have z : ∀ b o, b < X.heap.size → b < s + 4 → Y.frozen? ⟨b, o, none⟩ = X.frozen? ⟨b, o, none⟩ := fun b o h1 h2 => hf.frozen h1 (.inl (by omega))
  have g := hf.size
  exact ⟨by rw [k _ _ h.l0 (by omega)]; exact h.m0, by rw [k _ _ h.l0 (by omega)]; exact h.m1, by rw [k _ _ h.l0 (by omega)]; exact h.m2, fun o => by rw [z _ _ h.l0 (by omega)]; exact h.mz o,
    by rw [k _ _ h.l1 (by omega)]; exact h.c0, by rw [k _ _ h.l1 (by omega)]; exact h.c1,
    by rw [k _ _ h.l2 (by omega)]; exact h.a0, by rw [k _ _ h.l2 (by omega)]; exact h.a1, by rw [k _ _ h.l2 (by omega)]; exact h.a2, by rw [k _ _ h.l2 (by omega)]; exact h.a3,
    by rw [k _ _ h.l3 (by omega)]; exact h.t0, by rw [k _ _ h.l3 (by omega)]; exact h.t1, by rw [k _ _ h.l3 (by omega)]; exact h.t2, fun o => by rw [z _ _ h.l3 (by omega)]; exact h.tz o,
    Nat.lt_of_lt_of_le h.l0 g, Nat.lt_of_lt_of_le h.l1 g, Nat.lt_of_lt_of_le h.l2 g, Nat.lt_of_lt_of_le h.l3 g⟩
theorem DB.ext {s : Nat} {wa : Option Addr} {r op at_ : Int} {e a b : BitVec 64} {X Y : World} (h : DB s wa R M r op at_ e a b X) (hb : Ext X Y) : DB s wa R M r op at_ e a b Y := h.fr (lo := s + 4) (hi := s + 4) (.of_ext hb) (Nat.le_refl _)
theorem db_new (w : World) (wa : Option Addr) (r op at_ : Int) (e a b : BitVec 64) (t t' t'' : TypeId) : DB w.heap.size wa R M r op at_ e a b
    ((((w.alloc (.cells #[.slice wa M.n R.wc, .slice R.ea M.n R.ec, .int .i64 M.ct] t)).alloc (.cells #[.int .i64 r, .int .u64 (U e)] t')).alloc (.cells #[.int .i64 op, .int .i64 at_, .int .u64 (U a), .int .u64 (U b)] t'')).alloc (.cells #[.slice none 0 0, .slice none 0 0, .int .i64 0] t)) := by
  have h0 : ((((w.alloc (.cells #[.slice wa M.n R.wc, .slice R.ea M.n R.ec, .int .i64 M.ct] t)).alloc (.cells #[.int .i64 r, .int .u64 (U e)] t')).alloc (.cells #[.int .i64 op, .int .i64 at_, .int .u64 (U a), .int .u64 (U b)] t'')).alloc (.cells #[.slice none 0 0, .slice none 0 0, .int .i64 0] t)).heap[w.heap.size]? = some (.cells #[.slice wa M.n R.wc, .slice R.ea M.n R.ec, .int .i64 M.ct] t (0, 0)) := by
    rw [Below.heap_alloc _ _ _ (by simp <;> omega), Below.heap_alloc _ _ _ (by simp <;> omega), Below.heap_alloc _ _ _ (by simp)]
    exact heap_new _ _ _ rfl
  have h1 : ((((w.alloc (.cells #[.slice wa M.n R.wc, .slice R.ea M.n R.ec, .int .i64 M.ct] t)).alloc (.cells #[.int .i64 r, .int .u64 (U e)] t')).alloc (.cells #[.int .i64 op, .int .i64 at_, .int .u64 (U a), .int .u64 (U b)] t'')).alloc (.cells #[.slice none 0 0, .slice none 0 0, .int .i64 0] t)).heap[w.heap.size + 1]? = some (.cells #[.int .i64 r, .int .u64 (U e)] t' (0, 0)) := by
    rw [Below.heap_alloc _ _ _ (by simp <;> omega), Below.heap_alloc _ _ _ (by simp)]
    exact heap_new _ _ _ (by simp)
  have h2 : ((((w.alloc (.cells #[.slice wa M.n R.wc, .slice R.ea M.n R.ec, .int .i64 M.ct] t)).alloc (.cells #[.int .i64 r, .int .u64 (U e)] t')).alloc (.cells #[.int .i64 op, .int .i64 at_, .int .u64 (U a), .int .u64 (U b)] t'')).alloc (.cells #[.slice none 0 0, .slice none 0 0, .int .i64 0] t)).heap[w.heap.size + 1 + 1]? = some (.cells #[.int .i64 op, .int .i64 at_, .int .u64 (U a), .int .u64 (U b)] t'' (0, 0)) := by
    rw [Below.heap_alloc _ _ _ (by simp)]
    exact heap_new _ _ _ (by simp)
  have h3 : ((((w.alloc (.cells #[.slice wa M.n R.wc, .slice R.ea M.n R.ec, .int .i64 M.ct] t)).alloc (.cells #[.int .i64 r, .int .u64 (U e)] t')).alloc (.cells #[.int .i64 op, .int .i64 at_, .int .u64 (U a), .int .u64 (U b)] t'')).alloc (.cells #[.slice none 0 0, .slice none 0 0, .int .i64 0] t)).heap[w.heap.size + 1 + 1 + 1]? = some (.cells #[.slice none 0 0, .slice none 0 0, .int .i64 0] t (0, 0)) := heap_new _ _ _ (by simp)
  exact ⟨cell_at h0 rfl, cell_at h0 rfl, cell_at h0 rfl, fun o => free_at h0, cell_at h1 rfl, cell_at h1 rfl, cell_at h2 rfl, cell_at h2 rfl, cell_at h2 rfl, cell_at h2 rfl,
    cell_at h3 rfl, cell_at h3 rfl, cell_at h3 rfl, fun o => free_at h3, heap_lt h0, heap_lt h1, heap_lt h2, heap_lt h3⟩

/-- The result is stored: three cells of its box. -/
theorem rdo_end {u X : World} {s : Nat} {x y z : Value} (hb : Ext u X) (hs : u.heap.size ≤ s) : Ext u (((X.setCell ⟨s + 1 + 1 + 1, 0, none⟩ x).setCell ⟨s + 1 + 1 + 1, 1, none⟩ y).setCell ⟨s + 1 + 1 + 1, 2, none⟩ z) :=
  ext_set _ (by show u.heap.size ≤ s + 1 + 1 + 1; omega) (ext_set _ (by show u.heap.size ≤ s + 1 + 1 + 1; omega) (ext_set _ (by show u.heap.size ≤ s + 1 + 1 + 1; omega) hb))
end
end Go.Proofs.Ythepcnffadjeaaa
