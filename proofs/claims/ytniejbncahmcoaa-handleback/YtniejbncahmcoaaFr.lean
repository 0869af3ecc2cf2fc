/-
  Worlds in which nothing has turned but blocks from lo up to hi, and newer ones. No conditions.
-/
import Derived.Test.YtniejbncahmcoaaLib
namespace Go.Proofs.Ytniejbncahmcoaa
open Go Go.RowKit

/-- Nothing that w holds has turned, but in the blocks from lo on and ahead of hi. -/
structure Fr (lo hi : Nat) (w w' : World) : Prop where
  os : w'.os = w.os
  tape : w'.tape = w.tape
  output : w'.output = w.output
  size : w.heap.size ≤ w'.heap.size
  block : ∀ k, k < w.heap.size → (k < lo ∨ hi ≤ k) → w'.heap[k]? = w.heap[k]?

theorem Fr.refl (lo hi : Nat) (w : World) : Fr lo hi w w := ⟨rfl, rfl, rfl, Nat.le_refl _, fun _ _ _ => rfl⟩
theorem Fr.trans {lo hi : Nat} {a b c : World} (h : Fr lo hi a b) (k : Fr lo hi b c) : Fr lo hi a c :=
  ⟨k.os.trans h.os, k.tape.trans h.tape, k.output.trans h.output, Nat.le_trans h.size k.size, fun i hi' ho => (k.block i (Nat.lt_of_lt_of_le hi' h.size) ho).trans (h.block i hi' ho)⟩
theorem Fr.of_ext {lo hi : Nat} {w w' : World} (h : Ext w w') : Fr lo hi w w' := ⟨h.os, h.tape, h.output, h.size, fun k hk _ => h.block k hk⟩
theorem Fr.ext {lo hi : Nat} {a w w' : World} (h : Fr lo hi a w) (k : Ext w w') : Fr lo hi a w' := h.trans (.of_ext k)
theorem Fr.wide {lo hi lo' hi' : Nat} {w w' : World} (h : Fr lo hi w w') (h1 : lo' ≤ lo) (h2 : hi ≤ hi') : Fr lo' hi' w w' :=
  ⟨h.os, h.tape, h.output, h.size, fun k hk ho => h.block k hk (by omega)⟩
/-- Where w stood ahead of lo. -/
theorem Fr.below {lo hi : Nat} {u w w' : World} (h : Fr lo hi w w') (hu : Ext u w) (hlo : u.heap.size ≤ lo) : Ext u w' :=
  ⟨h.os.trans hu.os, h.tape.trans hu.tape, h.output.trans hu.output, Nat.le_trans hu.size h.size, fun k hk => (h.block k (Nat.lt_of_lt_of_le hk hu.size) (by omega)).trans (hu.block k hk)⟩
theorem Fr.cell {lo hi : Nat} {w w' : World} (h : Fr lo hi w w') {b o : Nat} (hb : b < w.heap.size) (hn : b < lo ∨ hi ≤ b) : w'.cell? ⟨b, o, none⟩ = w.cell? ⟨b, o, none⟩ :=
  World.cell?_of_block (w := w) (a := ⟨b, o, none⟩) (h.block b hb hn)
theorem Fr.frozen {lo hi : Nat} {w w' : World} (h : Fr lo hi w w') {b o : Nat} (hb : b < w.heap.size) (hn : b < lo ∨ hi ≤ b) : w'.frozen? ⟨b, o, none⟩ = w.frozen? ⟨b, o, none⟩ :=
  World.frozen?_of_block (w := w) (a := ⟨b, o, none⟩) (h.block b hb hn)
theorem Fr.alloc {lo hi : Nat} {a w : World} (o : Obj) (h : Fr lo hi a w) : Fr lo hi a (w.alloc o) := h.ext (ext_alloc o (ext_refl w))
theorem Fr.drew {lo hi : Nat} {a w : World} (h : Fr lo hi a w) : Fr lo hi a w.drew := h.ext (ext_drew (ext_refl w))
theorem Fr.over {lo hi : Nat} {a w : World} (s : Sub w) (h : Fr lo hi a w) : Fr lo hi a (over w s) := h.ext (over_below w s)
theorem Fr.set {lo hi : Nat} {a w : World} {p : Addr} (x : Value) (h : Fr lo hi a w) (h1 : lo ≤ p.block) (h2 : p.block < hi) : Fr lo hi a (w.setCell p x) :=
  h.trans ⟨rfl, rfl, rfl, by simp [World.setCell], fun k _ ho => Below.heap_setCell _ _ _ _ (by omega)⟩
/-- A store into a block that a did not have. -/
theorem Fr.setNew {lo hi : Nat} {a w : World} {p : Addr} (x : Value) (h : Fr lo hi a w) (hp : a.heap.size ≤ p.block) : Fr lo hi a (w.setCell p x) :=
  ⟨h.os, h.tape, h.output, by simpa [World.setCell] using h.size, fun k hk ho => (Below.heap_setCell _ _ _ _ (by omega)).trans (h.block k hk ho)⟩

/-- Behind an append, or a make. -/
theorem Fr.grown {lo hi : Nat} {a w w' : World} {row : Option Nat} (h : Fr lo hi a w) (hg : w.grownBy w' row) (hr : ∀ k, row = some k → (lo ≤ k ∧ k < hi) ∨ a.heap.size ≤ k) : Fr lo hi a w' :=
  ⟨hg.os.trans h.os, hg.tape.trans h.tape, hg.output.trans h.output, Nat.le_trans h.size hg.size, fun k hk ho => (hg.block k (Nat.lt_of_lt_of_le hk h.size) (fun e => by have := hr k e.symm; omega)).trans (h.block k hk ho)⟩

/-- These worlds, under a name that the walk sees through. -/
def Off (lo hi : Nat) (w : World) : Type := { w' : World // Fr lo hi w w' }
def off (lo hi : Nat) (w : World) (s : Off lo hi w) : World := s.1
theorem off_nonempty (lo hi : Nat) (w : World) : Nonempty (Off lo hi w) := ⟨⟨w, .refl lo hi w⟩⟩
attribute [instance] off_nonempty
theorem off_fr (lo hi : Nat) (w : World) (s : Off lo hi w) : Fr lo hi w (off lo hi w s) := s.2
theorem off_of {lo hi : Nat} {w w' : World} (h : Fr lo hi w w') : ∃ s, w' = off lo hi w s := ⟨⟨w', h⟩, rfl⟩
attribute [irreducible] off
theorem off_cell_lt (lo hi : Nat) (w : World) (s : Off lo hi w) (b o : Nat) (h : b < w.heap.size) (hn : b < lo) : (off lo hi w s).cell? ⟨b, o, none⟩ = w.cell? ⟨b, o, none⟩ := (off_fr lo hi w s).cell h (.inl hn)
theorem off_cell_ge (lo hi : Nat) (w : World) (s : Off lo hi w) (b o : Nat) (h : b < w.heap.size) (hn : hi ≤ b) : (off lo hi w s).cell? ⟨b, o, none⟩ = w.cell? ⟨b, o, none⟩ := (off_fr lo hi w s).cell h (.inr hn)
theorem off_lt (lo hi : Nat) (w : World) (s : Off lo hi w) (n : Nat) (h : n < w.heap.size) : (n < (off lo hi w s).heap.size) = True := by
  have := (off_fr lo hi w s).size
  simp; omega
attribute [go_sem] off_cell_lt off_cell_ge off_lt

/-- The worlds in which one block alone has turned. -/
def off1 (b0 : Nat) (w : World) (s : Off b0 (b0 + 1) w) : World := s.1
theorem off1_fr (b0 : Nat) (w : World) (s : Off b0 (b0 + 1) w) : Fr b0 (b0 + 1) w (off1 b0 w s) := s.2
theorem off1_of {b0 : Nat} {w w' : World} (h : Fr b0 (b0 + 1) w w') : ∃ s, w' = off1 b0 w s := ⟨⟨w', h⟩, rfl⟩
attribute [irreducible] off1
theorem off1_cell (b0 : Nat) (w : World) (s : Off b0 (b0 + 1) w) (b o : Nat) (h : b < w.heap.size) (hn : b ≠ b0) : (off1 b0 w s).cell? ⟨b, o, none⟩ = w.cell? ⟨b, o, none⟩ := (off1_fr b0 w s).cell h (by omega)
theorem off1_lt (b0 : Nat) (w : World) (s : Off b0 (b0 + 1) w) (n : Nat) (h : n < w.heap.size) : (n < (off1 b0 w s).heap.size) = True := by
  have := (off1_fr b0 w s).size
  simp; omega
attribute [go_sem] off1_cell off1_lt

/-- A block's content, by its cells. -/
theorem hp_lt {w : World} {b : Nat} {o : Obj} (h : w.heap[b]? = some o) : b < w.heap.size := (Array.getElem?_eq_some_iff.1 h).1
theorem hp_at (w : World) (o : Obj) (b : Nat) (hb : b = w.heap.size) : (w.alloc o).heap[b]? = some o := by
  subst hb
  show (w.heap.push _)[w.heap.size]? = _
  simp
theorem cell_at {w : World} {b o : Nat} {c : Array Value} {t : TypeId} {f : Nat × Nat} {v : Value} (h : w.heap[b]? = some (.cells c t f)) (hc : c[o]? = some v) : w.cell? ⟨b, o, none⟩ = some v := by
  simp [World.cell?, h, hc]
theorem free_at {w : World} {b o : Nat} {c : Array Value} {t : TypeId} (h : w.heap[b]? = some (.cells c t (0, 0))) : w.frozen? ⟨b, o, none⟩ = false := by
  simp [World.frozen?, h]
theorem set_same {w : World} {b o : Nat} {c : Array Value} {t : TypeId} {f : Nat × Nat} (x : Value) (h : w.heap[b]? = some (.cells c t f)) : (w.setCell ⟨b, o, none⟩ x).heap[b]? = some (.cells (c.setIfInBounds o x) t f) := by
  simp [World.setCell, Array.getElem?_modify, h]
theorem set_other {w : World} {b o k : Nat} (x : Value) (h : k ≠ b) : (w.setCell ⟨b, o, none⟩ x).heap[k]? = w.heap[k]? := Below.heap_setCell w ⟨b, o, none⟩ x k h
theorem set_size (w : World) (p : Addr) (x : Value) : (w.setCell p x).heap.size = w.heap.size := by simp [World.setCell]
/-- Blocks of different types are different. -/
theorem block_ne {w : World} {b b' : Nat} {c c' : Array Value} {t t' : TypeId} {f f' : Nat × Nat} (h : w.heap[b]? = some (.cells c t f)) (h' : w.heap[b']? = some (.cells c' t' f')) (hn : t ≠ t') : b ≠ b' := by
  intro e
  subst e
  rw [h] at h'
  simp at h'
  exact hn h'.2.1

end Go.Proofs.Ytniejbncahmcoaa
