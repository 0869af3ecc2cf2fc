/-
  A slice of accesses as an argument. No conditions.
-/
import Derived.Test.YthepcnffadjeaaaRecs
namespace Go.Proofs.Ythepcnffadjeaaa
open Go Go.ChangeShapes Go.WideShapes Go.RowKit

/-- An access. -/
structure Acc where
  op : Int
  at_ : Int
  a : BitVec 64
  b : BitVec 64
/-- The value v is a slice of n accesses, f i the i-th. -/
def As (w : World) (v : Value) (n : Nat) (f : Nat → Acc) : Prop :=
  ∃ a0 cap, v = .slice a0 n cap ∧ n ≤ cap ∧ (0 < n → ∃ b o, a0 = some ⟨b, o, none⟩ ∧ b < w.heap.size ∧ ∀ i, i < n →
    w.cell? ⟨b, o + i * 4, none⟩ = some (.int .i64 (f i).op) ∧ w.cell? ⟨b, o + i * 4 + 1, none⟩ = some (.int .i64 (f i).at_) ∧
    w.cell? ⟨b, o + i * 4 + 2, none⟩ = some (.int .u64 (U (f i).a)) ∧ w.cell? ⟨b, o + i * 4 + 3, none⟩ = some (.int .u64 (U (f i).b)))
theorem As.at {w : World} {a0 : Option Addr} {m cap n : Nat} {f : Nat → Acc} (h : As w (.slice a0 m cap) n f) (hl : 0 < n) : ∃ b o, a0 = some ⟨b, o, none⟩ ∧ b < w.heap.size ∧ ∀ i, i < n →
    w.cell? ⟨b, o + i * 4, none⟩ = some (.int .i64 (f i).op) ∧ w.cell? ⟨b, o + i * 4 + 1, none⟩ = some (.int .i64 (f i).at_) ∧
    w.cell? ⟨b, o + i * 4 + 2, none⟩ = some (.int .u64 (U (f i).a)) ∧ w.cell? ⟨b, o + i * 4 + 3, none⟩ = some (.int .u64 (U (f i).b)) := by
  obtain ⟨a, c', e, _, hr⟩ := h
  simp at e
  obtain ⟨rfl, rfl, rfl⟩ := e
  exact hr hl
def accKd (j : Nat) : IntKind := if j < 2 then .i64 else .u64
/-- A number of 64 bits, as a word. -/
def toW (x : Int) : BitVec 64 := BitVec.ofNat 64 x.toNat
theorem U_toW {x : Int} (h : (Lit.int .u64 x).wf = true) : U (toW x) = x := by
  have hb := bounds_u64 h
  unfold toW
  rw [U_toNat, BitVec.toNat_ofNat]
  omega
theorem as_of_rs {w : World} {v : Value} {n : Nat} {x : Nat → Nat → Int} (h : Rs 4 accKd w v n x) : As w v n (fun i => ⟨x i 0, x i 1, toW (x i 2), toW (x i 3)⟩) := by
  obtain ⟨a0, cap, e, hc, hr⟩ := h
  refine ⟨a0, cap, e, hc, fun hl => ?_⟩
  obtain ⟨b, o, ea, hlt, hcell⟩ := hr hl
  refine ⟨b, o, ea, hlt, fun i hi => ?_⟩
  have c0 := hcell i hi 0 (by omega)
  have c1 := hcell i hi 1 (by omega)
  have c2 := hcell i hi 2 (by omega)
  have c3 := hcell i hi 3 (by omega)
  exact ⟨c0.1, c1.1, by simp only [U_toW c2.2]; exact c2.1, by simp only [U_toW c3.2]; exact c3.1⟩
/-- An access, by value. -/
theorem acc_of_trod {H : Type} {enc : TypeId × Value → H} {P : Program} {w : World} {base : Nat} {held : Bool} {r : Reach} {b0 : Nat} {t : TypeId} {fs : Array Field} {v : Value} {d : DataW H} {p : List MemPlace}
    (ht : P.underlying t = some (.struct fs)) (hc : P.cellsOf t = 4) (hk : ((List.range 4).all fun j => decide (kindAt P 6 t j = some (accKd j))) = true)
    (hv : Value.okWide P w r b0 t v) (h : DataW.Trod enc P w base (fun _ => true) held t v d p) : ∃ (op at_ : Int) (a b : BitVec 64), v = .agg #[.int .i64 op, .int .i64 at_, .int .u64 (U a), .int .u64 (U b)] := by
  obtain ⟨x, rfl, hw⟩ := agg_of_trod 4 accKd ht hc hk hv h
  refine ⟨x 0, x 1, toW (x 2), toW (x 3), ?_⟩
  rw [U_toW (hw 2 (by omega)), U_toW (hw 3 (by omega))]
  rfl
end Go.Proofs.Ythepcnffadjeaaa
