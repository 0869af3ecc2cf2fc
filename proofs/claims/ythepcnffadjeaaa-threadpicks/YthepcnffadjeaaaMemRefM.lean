/-
  The reference's memory, a value, as it stands in the program's memory. No conditions.
-/
import Derived.Test.YthepcnffadjeaaaMemNewY
namespace Go.Proofs.Ythepcnffadjeaaa
open Go Go.RowKit

/-- Where a reference's memory stands: its rows of rows, of epochs, the words' rows. -/
structure RL where
  bw : Nat
  be : Nat
  wa : Option Addr
  ea : Option Addr
  wc : Nat
  ec : Nat
  xb : Nat → Nat
  xc : Nat → Nat
/-- It stands in w, in blocks of which b0 holds. -/
structure RefIn (b0 : Nat → Prop) (R : RL) (M : MS) (w : World) : Prop where
  few : M.n ≤ 65
  small : ∀ i, i < M.n → M.sz i ≤ 16777216
  top : ∀ b, w.heap.size ≤ b → b0 b
  wA : 0 < M.n → R.wa = some ⟨R.bw, 0, none⟩ ∧ b0 R.bw ∧ R.bw < w.heap.size
  eA : 0 < M.n → R.ea = some ⟨R.be, 0, none⟩ ∧ b0 R.be ∧ R.be < w.heap.size
  wR : ∀ i, i < M.n → w.cell? ⟨R.bw, i, none⟩ = some (.slice (some ⟨R.xb i, 0, none⟩) (M.sz i) (R.xc i))
  eR : ∀ i, i < M.n → w.cell? ⟨R.be, i, none⟩ = some (.int .u64 (U (M.ep i)))
  xA : ∀ i, i < M.n → b0 (R.xb i) ∧ R.xb i < w.heap.size
  xR : ∀ i j, i < M.n → j < M.sz i → w.cell? ⟨R.xb i, j, none⟩ = some (.int .u64 (U (M.wd i j)))
/-- The value. -/
def refV (R : RL) (M : MS) : Value := .agg #[.slice R.wa M.n R.wc, .slice R.ea M.n R.ec, .int .i64 M.ct]

section
variable {b0 : Nat → Prop} {R : RL} {M : MS} {w w' : World}
theorem RefIn.keep (h : RefIn b0 R M w) (hs : w.heap.size ≤ w'.heap.size) (hc : ∀ b o, b0 b → b < w.heap.size → w'.cell? ⟨b, o, none⟩ = w.cell? ⟨b, o, none⟩) : RefIn b0 R M w' where
  few := h.few
  small := h.small
  top := fun b hb => h.top b (Nat.le_trans hs hb)
  wA := fun hn => ⟨(h.wA hn).1, (h.wA hn).2.1, Nat.lt_of_lt_of_le (h.wA hn).2.2 hs⟩
  eA := fun hn => ⟨(h.eA hn).1, (h.eA hn).2.1, Nat.lt_of_lt_of_le (h.eA hn).2.2 hs⟩
  wR := fun i hi => by rw [hc _ _ (h.wA (by omega)).2.1 (h.wA (by omega)).2.2]; exact h.wR i hi
  eR := fun i hi => by rw [hc _ _ (h.eA (by omega)).2.1 (h.eA (by omega)).2.2]; exact h.eR i hi
  xA := fun i hi => ⟨(h.xA i hi).1, Nat.lt_of_lt_of_le (h.xA i hi).2 hs⟩
  xR := fun i j hi hj => by rw [hc _ _ (h.xA i hi).1 (h.xA i hi).2]; exact h.xR i j hi hj
theorem RefIn.ext (h : RefIn b0 R M w) (hb : Ext w w') : RefIn b0 R M w' := h.keep hb.size fun b o _ hlt => hb.cell (p := ⟨b, o, none⟩) hlt
theorem RefIn.over (h : RefIn b0 R M w) (s : Sub w) : RefIn b0 R M (over w s) := h.ext (over_below w s)
theorem RefIn.alloc (h : RefIn b0 R M w) (o : Obj) : RefIn b0 R M (w.alloc o) := h.ext (ext_alloc o (ext_refl w))
theorem RefIn.fr {lo hi : Nat} (h : RefIn b0 R M w) (hf : Fr lo hi w w') (hh : ∀ b, b0 b → b < lo ∨ hi ≤ b) : RefIn b0 R M w' := h.keep hf.size fun b _ h1 hlt => hf.cell hlt (hh b h1)
/-- A store into a block of which b0 doesn't hold. -/
theorem RefIn.setOut {p : Addr} (h : RefIn b0 R M w) (x : Value) (hp : ¬ b0 p.block) : RefIn b0 R M (w.setCell p x) :=
  h.keep (by rw [set_size]; exact Nat.le_refl _) fun b o h1 _ => World.cell?_of_block (w := w) (a := ⟨b, o, none⟩) (Below.heap_setCell _ _ _ _ (fun e => hp (by rw [← e]; exact h1)))
/-- A block that is made now is none of it. -/
theorem RefIn.avoid (h : RefIn b0 R M w) (o : Obj) : RefIn (fun b => b0 b ∧ b ≠ w.heap.size) R M (w.alloc o) :=
  have h' := h.alloc o
  ⟨h.few, h.small, fun b hb => ⟨h'.top b hb, by simp at hb; omega⟩, fun hn => ⟨(h.wA hn).1, ⟨(h.wA hn).2.1, Nat.ne_of_lt (h.wA hn).2.2⟩, (h'.wA hn).2.2⟩, fun hn => ⟨(h.eA hn).1, ⟨(h.eA hn).2.1, Nat.ne_of_lt (h.eA hn).2.2⟩, (h'.eA hn).2.2⟩,
   h'.wR, h'.eR, fun i hi => ⟨⟨(h.xA i hi).1, Nat.ne_of_lt (h.xA i hi).2⟩, (h'.xA i hi).2⟩, h'.xR⟩
end
end Go.Proofs.Ythepcnffadjeaaa
