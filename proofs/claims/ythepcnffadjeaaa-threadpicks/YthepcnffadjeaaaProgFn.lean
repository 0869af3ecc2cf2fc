/-
  Function values against nil; whether a value is a list of words. Conditions: those of each theorem.
-/
import Derived.Test.YthepcnffadjeaaaMemAny
import Derived.Laws.EntriesVeiled
namespace Go.Proofs.Ythepcnffadjeaaa
open Go Go.RowKit

section
variable {P : Program} {t : TypeId} {a b : Array TypeId} {c : Bool} (w : World) (h : P.underlying t = some (.func a b c))
include h
theorem equalIn_nil (d : Nat) : (Op.equalIn (d + 1) t .nilFunc .nilFunc).run P w = .ok true w := by
  simp [Op.equalIn, run_underlying h]
theorem equalIn_fn (d : Nat) (f : Fn) (x y : Array Value) : (Op.equalIn (d + 1) t (.func f x y) .nilFunc).run P w = .ok false w := by
  simp [Op.equalIn, run_underlying h]
theorem eql_nil : (binOp .eql t .nilFunc .nilFunc).run P w = .ok (.bool true) w := by
  simp only [binOp]
  simp [show Op.equal t .nilFunc .nilFunc = Op.equalIn (9999 + 1) t .nilFunc .nilFunc from rfl, equalIn_nil w h 9999]
theorem neq_nil : (binOp .neq t .nilFunc .nilFunc).run P w = .ok (.bool false) w := by
  simp only [binOp]
  simp [show Op.equal t .nilFunc .nilFunc = Op.equalIn (9999 + 1) t .nilFunc .nilFunc from rfl, equalIn_nil w h 9999]
theorem eql_fn (f : Fn) (x y : Array Value) : (binOp .eql t (.func f x y) .nilFunc).run P w = .ok (.bool false) w := by
  simp only [binOp]
  simp [show Op.equal t (.func f x y) .nilFunc = Op.equalIn (9999 + 1) t (.func f x y) .nilFunc from rfl, equalIn_fn w h 9999]
theorem neq_fn (f : Fn) (x y : Array Value) : (binOp .neq t (.func f x y) .nilFunc).run P w = .ok (.bool true) w := by
  simp only [binOp]
  simp [show Op.equal t (.func f x y) .nilFunc = Op.equalIn (9999 + 1) t (.func f x y) .nilFunc from rfl, equalIn_fn w h 9999]
end

theorem assert_yes (v : Value) (w : World) : (Instr.typeAssert (.iface 114 v) 20 114 true).run Try.prog w = .ok (.tuple #[v, .bool true]) w := by
  have h : Try.prog.underlying 114 = some (.pointer 31) := by kernel_rfl
  simp [Instr.typeAssert, run_underlying h, go_sem, Result.andThen]
theorem assert_no (t : TypeId) (v : Value) (w : World) (ht : (t == 114) = false) : (Instr.typeAssert (.iface t v) 20 114 true).run Try.prog w = .ok (.tuple #[.pointer none, .bool false]) w := by
  have h : Try.prog.underlying 114 = some (.pointer 31) := by kernel_rfl
  have h' : t ≠ 114 := by simpa using ht
  simp [Instr.typeAssert, run_underlying h, go_sem, Result.andThen, h']

theorem fnUs : Try.prog.underlying 84 = some (.func #[43] #[87] false) := by kernel_rfl

/-- Seven cells are laid anew. -/
def put7 (b : Nat) (x0 x1 x2 x3 x4 x5 x6 : Value) (w : World) : World :=
  (((((((w.setCell ⟨b, 0, none⟩ x0).setCell ⟨b, 1, none⟩ x1).setCell ⟨b, 2, none⟩ x2).setCell ⟨b, 3, none⟩ x3).setCell ⟨b, 4, none⟩ x4).setCell ⟨b, 5, none⟩ x5).setCell ⟨b, 6, none⟩ x6)
theorem put7_ext {u w : World} {b : Nat} (x0 x1 x2 x3 x4 x5 x6 : Value) (h : Ext u w) (hb : u.heap.size ≤ b) : Ext u (put7 b x0 x1 x2 x3 x4 x5 x6 w) :=
  ext_set _ hb (ext_set _ hb (ext_set _ hb (ext_set _ hb (ext_set _ hb (ext_set _ hb (ext_set _ hb h))))))
theorem put7_block {w : World} {b : Nat} {c0 c1 c2 c3 c4 c5 c6 : Value} {t : TypeId} {f : Nat × Nat} (x0 x1 x2 x3 x4 x5 x6 : Value) (h : w.heap[b]? = some (.cells #[c0, c1, c2, c3, c4, c5, c6] t f)) :
    (put7 b x0 x1 x2 x3 x4 x5 x6 w).heap[b]? = some (.cells #[x0, x1, x2, x3, x4, x5, x6] t f) := by
  have h0 := set_same (o := 0) x0 h
  have h1 := set_same (o := 1) x1 h0
  have h2 := set_same (o := 2) x2 h1
  have h3 := set_same (o := 3) x3 h2
  have h4 := set_same (o := 4) x4 h3
  have h5 := set_same (o := 5) x5 h4
  have h6 := set_same (o := 6) x6 h5
  unfold put7
  rw [h6]
  simp
theorem put7_other {w : World} {b k : Nat} (x0 x1 x2 x3 x4 x5 x6 : Value) (h : k ≠ b) : (put7 b x0 x1 x2 x3 x4 x5 x6 w).heap[k]? = w.heap[k]? := by
  unfold put7
  rw [set_other _ h, set_other _ h, set_other _ h, set_other _ h, set_other _ h, set_other _ h, set_other _ h]
theorem put7_size {w : World} {b : Nat} (x0 x1 x2 x3 x4 x5 x6 : Value) : (put7 b x0 x1 x2 x3 x4 x5 x6 w).heap.size = w.heap.size := by
  unfold put7
  rw [set_size, set_size, set_size, set_size, set_size, set_size, set_size]

theorem put7_fr {w : World} {b : Nat} (x0 x1 x2 x3 x4 x5 x6 : Value) : Fr 0 (b + 1) w (put7 b x0 x1 x2 x3 x4 x5 x6 w) := by
  have h := Nat.lt_succ_self b
  have z := Nat.zero_le b
  exact (((((((Fr.refl 0 (b + 1) w).set (p := ⟨b, 0, none⟩) x0 z h).set (p := ⟨b, 1, none⟩) x1 z h).set (p := ⟨b, 2, none⟩) x2 z h).set (p := ⟨b, 3, none⟩) x3 z h).set (p := ⟨b, 4, none⟩) x4 z h).set (p := ⟨b, 5, none⟩) x5 z h).set (p := ⟨b, 6, none⟩) x6 z h
theorem heap_at (w : World) (o : Obj) (b : Nat) (hb : b = w.heap.size) : (w.alloc o).heap[b]? = some o := by
  subst hb
  exact heap_alloc_new w o
/-- Seven cells, one by one. -/
structure Sev (b : Nat) (x0 x1 x2 x3 x4 x5 x6 : Value) (w : World) : Prop where
  c0 : w.cell? ⟨b, 0, none⟩ = some x0
  c1 : w.cell? ⟨b, 1, none⟩ = some x1
  c2 : w.cell? ⟨b, 2, none⟩ = some x2
  c3 : w.cell? ⟨b, 3, none⟩ = some x3
  c4 : w.cell? ⟨b, 4, none⟩ = some x4
  c5 : w.cell? ⟨b, 5, none⟩ = some x5
  c6 : w.cell? ⟨b, 6, none⟩ = some x6
  cz : ∀ o, w.frozen? ⟨b, o, none⟩ = false
  lt : b < w.heap.size
theorem sev_of {w : World} {b : Nat} {x0 x1 x2 x3 x4 x5 x6 : Value} {t : TypeId} (h : w.heap[b]? = some (.cells #[x0, x1, x2, x3, x4, x5, x6] t (0, 0))) : Sev b x0 x1 x2 x3 x4 x5 x6 w :=
  ⟨cell_at h rfl, cell_at h rfl, cell_at h rfl, cell_at h rfl, cell_at h rfl, cell_at h rfl, cell_at h rfl, fun _ => free_at h, (Array.getElem?_eq_some_iff.1 h).1⟩

end Go.Proofs.Ythepcnffadjeaaa
