/-
  A box of package inbox, in a world: its one cell is a channel, and the channel's block holds its things. No conditions.
-/
import Derived.Test.YthepcnffadjeaaaLib
import Derived.Test.YthepcnffadjeaaaFr
import Derived.Conc.LoneSelect
import Derived.Conc.LoneSelectN
namespace Go.Proofs.Ythepcnffadjeaaa
open Go Go.RowKit Go.Conc

/-- The box at block p, whose channel is block c, has room for n things, and holds q, the first one first. -/
structure BoxAt (p c n : Nat) (q : List Value) (w : World) : Prop where
  cell : w.cell? ⟨p, 0, none⟩ = some (.chan (some c))
  chan : ∃ s r, w.heap[c]? = some (.chan n q.toArray false s r false)

section
variable {p c n : Nat} {q : List Value} {w w' : World}
theorem BoxAt.ltc (h : BoxAt p c n q w) : c < w.heap.size := by
  obtain ⟨s, r, hc⟩ := h.chan
  exact (Array.getElem?_eq_some_iff.1 hc).1
theorem BoxAt.ltp (h : BoxAt p c n q w) : p < w.heap.size := cell_lt h.cell
theorem BoxAt.ne (h : BoxAt p c n q w) : p ≠ c := by
  obtain ⟨s, r, hc⟩ := h.chan
  intro e
  subst e
  have := h.cell
  simp [World.cell?, hc] at this
theorem BoxAt.ext (h : BoxAt p c n q w) (k : Ext w w') : BoxAt p c n q w' :=
  ⟨ext_cell k h.cell, by obtain ⟨s, r, hc⟩ := h.chan; exact ⟨s, r, (k.block c h.ltc).trans hc⟩⟩
/-- Kept where another block alone has turned. -/
theorem BoxAt.fr {lo hi : Nat} (h : BoxAt p c n q w) (k : Fr lo hi w w') (hp : p < lo ∨ hi ≤ p) (hc : c < lo ∨ hi ≤ c) : BoxAt p c n q w' :=
  ⟨(k.cell h.ltp hp).trans h.cell, by obtain ⟨s, r, hc'⟩ := h.chan; exact ⟨s, r, (k.block c h.ltc hc).trans hc'⟩⟩
/-- The channel's block alone is turned. -/
theorem BoxAt.set (h : BoxAt p c n q w) (q' : List Value) (s r : Nat) : BoxAt p c n q' (w.setChan c n q'.toArray false s r false) :=
  ⟨(World.cell?_of_block (w := w) (a := ⟨p, 0, none⟩) (by simp only [World.setChan]; rw [Array.getElem?_setIfInBounds_ne h.ne.symm])).trans h.cell, s, r, heap_setChan w c n q'.toArray false s r false h.ltc⟩
theorem fr_setChan (w : World) (c n : Nat) (b : Array Value) (s r : Nat) : Fr c (c + 1) w (w.setChan c n b false s r false) :=
  ⟨rfl, rfl, rfl, by simp [World.setChan], fun k _ ho => by simp only [World.setChan]; rw [Array.getElem?_setIfInBounds_ne (by omega)]⟩
end

/-- What a Put or a Take comes to: v is returned; the box holds q'; nothing has turned but its channel. -/
structure RetQ (p c n : Nat) (q' : List Value) (v : Value) (w : World) (e : Ending) (w' : World) : Prop where
  e : e = .returned v
  box : BoxAt p c n q' w'
  fr : Fr c (c + 1) w w'
  size : w'.heap.size = w.heap.size

/-- What New comes to: a new box without things. -/
structure RetB (n : Nat) (w : World) (e : Ending) (w' : World) : Prop where
  e : e = .returned (.tuple #[.pointer (some ⟨w.heap.size + 1, 0, none⟩), .int .i64 0])
  box : BoxAt (w.heap.size + 1) w.heap.size n [] w'
  ext : Ext w w'
  size : w'.heap.size = w.heap.size + 2

theorem RetB.mk' (n : Nat) (w : World) (t : TypeId) : RetB n w (.returned (.tuple #[.pointer (some ⟨w.heap.size + 1, 0, none⟩), .int .i64 0])) ((w.alloc (.chan n #[] false 0 0 false)).alloc (.cells #[.chan (some w.heap.size)] t)) := by
  refine ⟨rfl, ⟨?_, 0, 0, ?_⟩, ext_alloc _ (ext_alloc _ (ext_refl w)), by simp⟩
  · have := heap_alloc_new (w.alloc (.chan n #[] false 0 0 false)) (.cells #[.chan (some w.heap.size)] t)
    simp only [World.size_alloc] at this
    exact cell_at this rfl
  · exact ((ext_alloc (.cells #[.chan (some w.heap.size)] t) (ext_refl (w.alloc (.chan n #[] false 0 0 false)))).block w.heap.size (by simp)).trans (heap_alloc_new w _)

/-- What New comes to, with the number of the new block. -/
structure RetL (lo n : Nat) (w : World) (e : Ending) (w' : World) : Prop where
  e : e = .returned (.tuple #[.pointer (some ⟨lo + 1, 0, none⟩), .int .i64 0])
  box : BoxAt (lo + 1) lo n [] w'
  ext : Ext w w'
  size : w'.heap.size = lo + 2

end Go.Proofs.Ythepcnffadjeaaa
