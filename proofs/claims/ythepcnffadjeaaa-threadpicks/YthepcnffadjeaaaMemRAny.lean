/-
  What Do of the document's own memory comes to, whatever the access; boxes of a struct. Conditions: those of each theorem.
-/
import Derived.Test.YthepcnffadjeaaaMemRNewW
import Derived.Test.YthepcnffadjeaaaMemRef7
import Derived.Test.YthepcnffadjeaaaMemAny
namespace Go.Proofs.Ythepcnffadjeaaa
open Go Go.RowKit

/-- The reference's value in its box. -/
structure BoxV (s : Nat) (R : RL) (M : MS) (w : World) : Prop where
  k0 : w.cell? ⟨s, 0, none⟩ = some (.slice R.wa M.n R.wc)
  k1 : w.cell? ⟨s, 1, none⟩ = some (.slice R.ea M.n R.ec)
  k2 : w.cell? ⟨s, 2, none⟩ = some (.int .i64 M.ct)
  kz : ∀ o, w.frozen? ⟨s, o, none⟩ = false
theorem BoxV.fr {s lo hi : Nat} {R : RL} {M : MS} {w w' : World} (h : BoxV s R M w) (hf : Fr lo hi w w') (hh : s < lo ∨ hi ≤ s) : BoxV s R M w' :=
  ⟨by rw [hf.cell (cell_lt h.k0) hh]; exact h.k0, by rw [hf.cell (cell_lt h.k0) hh]; exact h.k1, by rw [hf.cell (cell_lt h.k0) hh]; exact h.k2, fun o => by rw [hf.frozen (cell_lt h.k0) hh]; exact h.kz o⟩
theorem BoxV.ext {s : Nat} {R : RL} {M : MS} {w w' : World} (h : BoxV s R M w) (hb : Ext w w') : BoxV s R M w' := h.fr (lo := 0) (hi := 0) (.of_ext hb) (.inr (Nat.zero_le _))

theorem rdo_any {b0 : Nat → Prop} {R : RL} {M M' : MS} {w : World} (h : RefIn b0 R M w) (r : Int) (e : BitVec 64) (c : Acc) (v : BitVec 64) (ok : Bool) (hd : DoSpec M r e c M' v ok) :
    Calls Try.prog 38 #[refV R M, .agg #[.int .i64 r, .int .u64 (U e)], .agg #[.int .i64 c.op, .int .i64 c.at_, .int .u64 (U c.a), .int .u64 (U c.b)]] w (RetRef b0 M' #[.int .u64 (U v), .bool ok] w) := by
  rcases hd with ⟨hd, rfl, rfl, rfl⟩ | ⟨hd, rfl, rfl, rfl⟩
  · exact rdo_yes h r c.op c.at_ e c.a c.b hd
  · rw [U_0]
    exact rdo_no h r c.op c.at_ e c.a c.b hd
/-- A new box. -/
theorem box_new (w : World) (R : RL) (M : MS) (t : Nat) : Hid (BoxV w.heap.size R M (w.alloc (.cells #[.slice R.wa M.n R.wc, .slice R.ea M.n R.ec, .int .i64 M.ct] t))) := by
  have h0 := heap_new w (.cells #[.slice R.wa M.n R.wc, .slice R.ea M.n R.ec, .int .i64 M.ct] t) _ rfl
  exact Lib.hid ⟨cell_at h0 rfl, cell_at h0 rfl, cell_at h0 rfl, fun o => free_at h0⟩
/-- The box is written anew. -/
theorem box_put {s : Nat} {R R' : RL} {M M' : MS} {w : World} (h : BoxV s R M w) :
    BoxV s R' M' (((w.setCell ⟨s, 0, none⟩ (.slice R'.wa M'.n R'.wc)).setCell ⟨s, 1, none⟩ (.slice R'.ea M'.n R'.ec)).setCell ⟨s, 2, none⟩ (.int .i64 M'.ct)) :=
  ⟨by rw [cell_set_off _ (by decide), cell_set_off _ (by decide)]; exact cell_set_same h.k0,
   by rw [cell_set_off _ (by decide)]; exact cell_set_same (by rw [cell_set_off _ (by decide)]; exact h.k1),
   cell_set_same (by rw [cell_set_off _ (by decide), cell_set_off _ (by decide)]; exact h.k2), fun o => by rw [froz_set, froz_set, froz_set]; exact h.kz o⟩

theorem RefIn.mono {b0 b1 : Nat → Prop} {R : RL} {M : MS} {w : World} (h : RefIn b1 R M w) (hb : ∀ b, b1 b → b0 b) : RefIn b0 R M w :=
  ⟨h.few, h.small, fun b h1 => hb b (h.top b h1), fun hn => ⟨(h.wA hn).1, hb _ (h.wA hn).2.1, (h.wA hn).2.2⟩, fun hn => ⟨(h.eA hn).1, hb _ (h.eA hn).2.1, (h.eA hn).2.2⟩, h.wR, h.eR, fun i hi => ⟨hb _ (h.xA i hi).1, (h.xA i hi).2⟩, h.xR⟩
/-- Two cells of a box. -/
structure BoxD (s : Nat) (x y : Value) (w : World) : Prop where
  c0 : w.cell? ⟨s, 0, none⟩ = some x
  c1 : w.cell? ⟨s, 1, none⟩ = some y
  cz : ∀ o, w.frozen? ⟨s, o, none⟩ = false
theorem BoxD.new (w : World) (x y : Value) (t : Nat) : BoxD w.heap.size x y (w.alloc (.cells #[x, y] t)) := by
  have h0 := heap_new w (.cells #[x, y] t) _ rfl
  exact ⟨cell_at h0 rfl, cell_at h0 rfl, fun o => free_at h0⟩
theorem BoxD.ext {s : Nat} {x y : Value} {w w' : World} (h : BoxD s x y w) (hb : Ext w w') : BoxD s x y w' :=
  ⟨ext_cell hb h.c0, ext_cell hb h.c1, fun o => by rw [hb.frozen (p := ⟨s, o, none⟩) (cell_lt h.c0)]; exact h.cz o⟩
theorem RefIn.avoid' {b0 c : Nat → Prop} {R : RL} {M : MS} {w : World} (h : RefIn c R M w) (hc : Hid (∀ b, c b → b0 b)) (o : Obj) : ∃ c', Hid (∀ b, c' b → b0 b) ∧ Hid (∀ b, ¬ c b → ¬ c' b) ∧ ¬ c' w.heap.size ∧ RefIn c' R M (w.alloc o) :=
  ⟨_, Lib.hid fun b hb => hc.out b hb.1, Lib.hid fun _ hn hb => hn hb.1, fun hb => hb.2 rfl, h.avoid o⟩
/-- Three cells of a box. -/
structure BoxA (s : Nat) (x y z : Value) (w : World) : Prop where
  k0 : w.cell? ⟨s, 0, none⟩ = some x
  k1 : w.cell? ⟨s, 1, none⟩ = some y
  k2 : w.cell? ⟨s, 2, none⟩ = some z
  kz : ∀ o, w.frozen? ⟨s, o, none⟩ = false
theorem BoxA.new (w : World) (x y z : Value) (t : Nat) : BoxA w.heap.size x y z (w.alloc (.cells #[x, y, z] t)) := by
  have h0 := heap_new w (.cells #[x, y, z] t) _ rfl
  exact ⟨cell_at h0 rfl, cell_at h0 rfl, cell_at h0 rfl, fun o => free_at h0⟩
theorem BoxA.ext {s : Nat} {x y z : Value} {w w' : World} (h : BoxA s x y z w) (hb : Ext w w') : BoxA s x y z w' :=
  ⟨ext_cell hb h.k0, ext_cell hb h.k1, ext_cell hb h.k2, fun o => by rw [hb.frozen (p := ⟨s, o, none⟩) (cell_lt h.k0)]; exact h.kz o⟩
theorem boxA_put {s : Nat} {x y z : Value} {w : World} (h : BoxA s x y z w) (R' : RL) (M' : MS) :
    BoxV s R' M' (((w.setCell ⟨s, 0, none⟩ (.slice R'.wa M'.n R'.wc)).setCell ⟨s, 1, none⟩ (.slice R'.ea M'.n R'.ec)).setCell ⟨s, 2, none⟩ (.int .i64 M'.ct)) :=
  ⟨by rw [cell_set_off _ (by decide), cell_set_off _ (by decide)]; exact cell_set_same h.k0,
   by rw [cell_set_off _ (by decide)]; exact cell_set_same (by rw [cell_set_off _ (by decide)]; exact h.k1),
   cell_set_same (by rw [cell_set_off _ (by decide), cell_set_off _ (by decide)]; exact h.k2), fun o => by rw [froz_set, froz_set, froz_set]; exact h.kz o⟩
theorem cell_set_block {w : World} {p : Addr} {s o : Nat} (v : Value) (hp : s ≠ p.block) : (w.setCell p v).cell? ⟨s, o, none⟩ = w.cell? ⟨s, o, none⟩ :=
  World.cell?_of_block (w := w) (a := ⟨s, o, none⟩) (Below.heap_setCell _ _ _ _ hp)
theorem BoxD.far {s : Nat} {x y : Value} {w : World} {p : Addr} (h : BoxD s x y w) (v : Value) (hp : s ≠ p.block) : BoxD s x y (w.setCell p v) :=
  ⟨by rw [cell_set_block _ hp]; exact h.c0, by rw [cell_set_block _ hp]; exact h.c1, fun o => by rw [froz_set]; exact h.cz o⟩
theorem BoxV.far {s : Nat} {R : RL} {M : MS} {w : World} {p : Addr} (h : BoxV s R M w) (v : Value) (hp : s ≠ p.block) : BoxV s R M (w.setCell p v) :=
  ⟨by rw [cell_set_block _ hp]; exact h.k0, by rw [cell_set_block _ hp]; exact h.k1, by rw [cell_set_block _ hp]; exact h.k2, fun o => by rw [froz_set]; exact h.kz o⟩
theorem boxD_put {s : Nat} {x y : Value} {w : World} (h : BoxD s x y w) (x' y' : Value) : BoxD s x' y' ((w.setCell ⟨s, 0, none⟩ x').setCell ⟨s, 1, none⟩ y') :=
  ⟨by rw [cell_set_off _ (by decide)]; exact cell_set_same h.c0, cell_set_same (by rw [cell_set_off _ (by decide)]; exact h.c1), fun o => by rw [froz_set, froz_set]; exact h.cz o⟩
end Go.Proofs.Ythepcnffadjeaaa
