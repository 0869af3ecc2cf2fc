/-
  Seven cells stored into a block at some place; one of two guards of a word that stays, and its step. Conditions: those of each theorem.
-/
import Derived.Test.YtpidmbclgfnekaaGas
import Derived.Deep.Cut
namespace Go.Proofs.Ytpidmbclgfnekaa
open Go Go.RowKit

def put7o (b o : Nat) (x0 x1 x2 x3 x4 x5 x6 : Value) (w : World) : World :=
  ((((((w.setCell ⟨b, o, none⟩ x0).setCell ⟨b, o + 1, none⟩ x1).setCell ⟨b, o + 2, none⟩ x2).setCell ⟨b, o + 3, none⟩ x3).setCell ⟨b, o + 4, none⟩ x4).setCell ⟨b, o + 5, none⟩ x5).setCell ⟨b, o + 6, none⟩ x6
theorem put7o_other {w : World} {b o k : Nat} (x0 x1 x2 x3 x4 x5 x6 : Value) (h : k ≠ b) : (put7o b o x0 x1 x2 x3 x4 x5 x6 w).heap[k]? = w.heap[k]? := by
  unfold put7o
  rw [set_other _ h, set_other _ h, set_other _ h, set_other _ h, set_other _ h, set_other _ h, set_other _ h]
theorem put7o_size {w : World} {b o : Nat} (x0 x1 x2 x3 x4 x5 x6 : Value) : (put7o b o x0 x1 x2 x3 x4 x5 x6 w).heap.size = w.heap.size := by
  unfold put7o
  rw [set_size, set_size, set_size, set_size, set_size, set_size, set_size]
theorem put7o_ext {u w : World} {b o : Nat} (x0 x1 x2 x3 x4 x5 x6 : Value) (h : Ext u w) (hb : u.heap.size ≤ b) : Ext u (put7o b o x0 x1 x2 x3 x4 x5 x6 w) :=
  ext_set _ hb (ext_set _ hb (ext_set _ hb (ext_set _ hb (ext_set _ hb (ext_set _ hb (ext_set _ hb h))))))
theorem put7o_mem {lo hi : Nat} {L : Lay} {M : MS} {w : World} {b o : Nat} (x0 x1 x2 x3 x4 x5 x6 : Value) (h : MemIn lo hi L M w) (hb : hi ≤ b) : MemIn lo hi L M (put7o b o x0 x1 x2 x3 x4 x5 x6 w) :=
  ((((((h.setFar _ (.inr hb)).setFar _ (.inr hb)).setFar _ (.inr hb)).setFar _ (.inr hb)).setFar _ (.inr hb)).setFar _ (.inr hb)).setFar _ (.inr hb)
theorem put7o_block {w : World} {b o : Nat} {c : Array Value} {t : TypeId} {f : Nat × Nat} (x0 x1 x2 x3 x4 x5 x6 : Value) (h : w.heap[b]? = some (.cells c t f)) :
    (put7o b o x0 x1 x2 x3 x4 x5 x6 w).heap[b]? = some (.cells (((((((c.setIfInBounds o x0).setIfInBounds (o + 1) x1).setIfInBounds (o + 2) x2).setIfInBounds (o + 3) x3).setIfInBounds (o + 4) x4).setIfInBounds (o + 5) x5).setIfInBounds (o + 6) x6) t f) :=
  set_same _ (set_same _ (set_same _ (set_same _ (set_same _ (set_same _ (set_same _ h))))))
theorem put14a {w : World} {b : Nat} {c0 c1 c2 c3 c4 c5 c6 c7 c8 c9 c10 c11 c12 c13 : Value} {t : TypeId} {f : Nat × Nat} (x0 x1 x2 x3 x4 x5 x6 : Value) (h : w.heap[b]? = some (.cells #[c0, c1, c2, c3, c4, c5, c6, c7, c8, c9, c10, c11, c12, c13] t f)) : (put7o b 0 x0 x1 x2 x3 x4 x5 x6 w).heap[b]? = some (.cells #[x0, x1, x2, x3, x4, x5, x6, c7, c8, c9, c10, c11, c12, c13] t f) := by
  rw [put7o_block _ _ _ _ _ _ _ h]
  simp only [List.setIfInBounds_toArray, List.set_cons_zero, List.set_cons_succ]
theorem put14b {w : World} {b : Nat} {c0 c1 c2 c3 c4 c5 c6 c7 c8 c9 c10 c11 c12 c13 : Value} {t : TypeId} {f : Nat × Nat} (x0 x1 x2 x3 x4 x5 x6 : Value) (h : w.heap[b]? = some (.cells #[c0, c1, c2, c3, c4, c5, c6, c7, c8, c9, c10, c11, c12, c13] t f)) : (put7o b 7 x0 x1 x2 x3 x4 x5 x6 w).heap[b]? = some (.cells #[c0, c1, c2, c3, c4, c5, c6, x0, x1, x2, x3, x4, x5, x6] t f) := by
  rw [put7o_block _ _ _ _ _ _ _ h]
  simp only [List.setIfInBounds_toArray, List.set_cons_zero, List.set_cons_succ]
theorem HIn.put7o {p : Pl} {lo hi : Nat} {L : Lay} {B : Nat} {w0 : World} {M : MS} {wr : World} (h : HIn p lo hi L B w0 M wr) {b o : Nat} (x0 x1 x2 x3 x4 x5 x6 : Value) (hb : hi ≤ b) (hw : w0.heap.size ≤ b) (hB : B ≠ b) : HIn p lo hi L B w0 M (put7o b o x0 x1 x2 x3 x4 x5 x6 wr) :=
  ⟨put7o_mem _ _ _ _ _ _ _ h.m hb, h.mg, put7o_ext _ _ _ _ _ _ _ h.ex hw, (put7o_other _ _ _ _ _ _ _ hB).trans h.pb⟩

/-- A word stays: the states that there are. -/
def GS.of (W : BitVec 64) : GS → Prop
  | .ld => True
  | .st x => x = W
  | .rl x => x = W
  | .dn x => x = W
def pgU (y : Int) (a : Acc) (fn : Value) : Value := .agg #[.int .u64 y, .int .i64 a.op, .int .i64 a.at_, .int .u64 (U a.a), .int .u64 (U a.b), fn, .pointer none]
/-- A guard of the word W at a place, in the midst. -/
structure GOne (p : Pl) (t s at_ : Int) (sh : Nat) (W : BitVec 64) (lo hi bg : Nat) (N : Nat) (g : GS) (F : Nat → Prop) (y : Int) (a : Acc) (fn : Value) (M : MS) (wr : World) : Prop where
  pt : PT kU (gdT p t s at_ sh N g) F (.agg #[.int .u64 y, .int .i64 a.op, .int .i64 a.at_, .int .u64 (U a.a), .int .u64 (U a.b), fn, .pointer none]) wr
  bn : Bnd F wr
  of : ∀ j, F j → (j < lo ∨ hi ≤ j) ∧ j ≠ bg
  fn : fn = .nilFunc ∨ ∃ g caps, fn = .func (.func g) #[] caps
  ok : GOk sh (hzW p M (3 * t + s).toNat) g
  gw : g.of W
  z : W >>> sh = 0#64 → hzW p M (3 * t + s).toNat = 0#64
  n : g.mu W 0 + 1 ≤ N
section
variable {p : Pl} {t s at_ : Int} {sh : Nat} {W : BitVec 64} {lo hi bg N : Nat} {g : GS} {F : Nat → Prop} {y : Int} {a : Acc} {fn : Value} {M M' : MS} {wr wr' : World}
theorem GOne.ext (h : GOne p t s at_ sh W lo hi bg N g F y a fn M wr) (hx : Ext wr wr') : GOne p t s at_ sh W lo hi bg N g F y a fn M wr' :=
  ⟨h.pt.agr (Agr.of_ext hx h.bn), h.bn.ext hx.size, h.of, h.fn, h.ok, h.gw, h.z, h.n⟩
theorem GOne.fr (h : GOne p t s at_ sh W lo hi bg N g F y a fn M wr) (hx : Fr lo hi wr wr') (hz : hzW p M' (3 * t + s).toNat = hzW p M (3 * t + s).toNat) : GOne p t s at_ sh W lo hi bg N g F y a fn M' wr' :=
  ⟨h.pt.agr (Agr.of_fr hx h.bn fun j hj => (h.of j hj).1), h.bn.ext hx.size, h.of, h.fn, by rw [hz]; exact h.ok, h.gw, fun e => hz.trans (h.z e), h.n⟩
theorem GOne.put7 (h : GOne p t s at_ sh W lo hi bg N g F y a fn M wr) {b : Nat} (x0 x1 x2 x3 x4 x5 x6 : Value) (hn : ¬ F b) : GOne p t s at_ sh W lo hi bg N g F y a fn M (put7 b x0 x1 x2 x3 x4 x5 x6 wr) :=
  ⟨h.pt.agr (Agr.of_put7 _ _ _ _ _ _ _ hn), h.bn.ext (by rw [put7_size]; exact Nat.le_refl _), h.of, h.fn, h.ok, h.gw, h.z, h.n⟩
theorem GOne.put7o (h : GOne p t s at_ sh W lo hi bg N g F y a fn M wr) {o : Nat} (x0 x1 x2 x3 x4 x5 x6 : Value) : GOne p t s at_ sh W lo hi bg N g F y a fn M (put7o bg o x0 x1 x2 x3 x4 x5 x6 wr) :=
  ⟨h.pt.agr fun j hj => put7o_other _ _ _ _ _ _ _ (h.of j hj).2, h.bn.ext (by rw [put7o_size]; exact Nat.le_refl _), h.of, h.fn, h.ok, h.gw, h.z, h.n⟩
end
theorem of_aft {W : BitVec 64} {sh : Nat} {g : GS} (h : g.of W) : (g.aft sh W).of W := by
  have hg : (gnx sh W).of W := by unfold gnx; split <;> rfl
  cases g with
  | ld => exact hg
  | st x => exact h
  | rl x =>
    show (if W = x then GS.dn x else gnx sh W).of W
    split
    · exact h
    · exact hg
  | dn x => exact h
/-- What a step of it comes to, whichever its state: the memory, the state, and what stands for it. -/
def RetG (p : Pl) (t s at_ : Int) (sh : Nat) (W : BitVec 64) (lo hi : Nat) (L : Lay) (M : MS) (g : GS) (F : Nat → Prop) (w : World) (e : Ending) (w' : World) : Prop :=
  ∃ (v' : Value) (F' : Nat → Prop) (M' : MS) (N' : Nat) (g' : GS) (b : Bool), e = .returned (.tuple #[v', .bool b]) ∧ PT kU (gdT p t s at_ sh N' g') F' v' w' ∧ Bnd F' w' ∧ (∀ j, F' j → F j ∨ w.heap.size ≤ j) ∧ MemIn lo hi L M' w' ∧ Fr lo hi w w' ∧
    (Mg p M' ∧ M'.wd 0 at_.toNat = W ∧ (∀ i : Nat, (i : Int) < 3 * p.t → i ≠ (3 * t + s).toNat → hzW p M' i = hzW p M i)) ∧
    (GOk sh (hzW p M' (3 * t + s).toNat) g' ∧ g'.of W ∧ (W >>> sh = 0#64 → hzW p M' (3 * t + s).toNat = 0#64) ∧ g'.mu W 0 + 1 ≤ N') ∧ (g'.mu W 0 + 1 ≤ g.mu W 0 ∨ g'.mu W 0 = 0)
end Go.Proofs.Ytpidmbclgfnekaa

/-
  A thread of the law FreeMany as it stands in memory: its block, and what a pick of it leaves as it was. No conditions but those of each theorem.
-/
namespace Go.Proofs.Ytpidmbclgfnekaa
open Go Go.RowKit

/-- Nothing that w holds has turned, but the memory's blocks, the block B, and the block g of a row. -/
structure FrP (lo hi B : Nat) (g : Option Nat) (w w' : World) : Prop where
  os : w'.os = w.os
  tape : w'.tape = w.tape
  output : w'.output = w.output
  size : w.heap.size ≤ w'.heap.size
  block : ∀ k, k < w.heap.size → (k < lo ∨ hi ≤ k) → k ≠ B → g ≠ some k → w'.heap[k]? = w.heap[k]?
section
variable {lo hi B : Nat} {g : Option Nat} {a w w' : World}
theorem FrP.refl (lo hi B : Nat) (g : Option Nat) (w : World) : FrP lo hi B g w w := ⟨rfl, rfl, rfl, Nat.le_refl _, fun _ _ _ _ _ => rfl⟩
theorem FrP.fr (h : FrP lo hi B g a w) (k : Fr lo hi w w') : FrP lo hi B g a w' :=
  ⟨k.os.trans h.os, k.tape.trans h.tape, k.output.trans h.output, Nat.le_trans h.size k.size, fun j hj ho hB hg => (k.block j (Nat.lt_of_lt_of_le hj h.size) ho).trans (h.block j hj ho hB hg)⟩
theorem FrP.ext (h : FrP lo hi B g a w) (k : Ext w w') : FrP lo hi B g a w' := h.fr (.of_ext k)
theorem FrP.set (h : FrP lo hi B g a w) (o : Nat) (x : Value) : FrP lo hi B g a (w.setCell ⟨B, o, none⟩ x) :=
  ⟨h.os, h.tape, h.output, by rw [set_size]; exact h.size, fun j hj ho hB hg => (set_other _ hB).trans (h.block j hj ho hB hg)⟩
theorem FrP.put7o (h : FrP lo hi B g a w) (o : Nat) (x0 x1 x2 x3 x4 x5 x6 : Value) : FrP lo hi B g a (put7o B o x0 x1 x2 x3 x4 x5 x6 w) :=
  ((((((h.set _ _).set _ _).set _ _).set _ _).set _ _).set _ _).set _ _
theorem FrP.setNew (h : FrP lo hi B g a w) {b : Nat} (o : Nat) (x : Value) (hb : a.heap.size ≤ b) : FrP lo hi B g a (w.setCell ⟨b, o, none⟩ x) :=
  ⟨h.os, h.tape, h.output, by rw [set_size]; exact h.size, fun j hj ho hB hg => (set_other _ (by omega)).trans (h.block j hj ho hB hg)⟩
theorem FrP.put7 (h : FrP lo hi B g a w) {b : Nat} (x0 x1 x2 x3 x4 x5 x6 : Value) (hb : a.heap.size ≤ b) : FrP lo hi B g a (put7 b x0 x1 x2 x3 x4 x5 x6 w) :=
  ((((((h.setNew _ _ hb).setNew _ _ hb).setNew _ _ hb).setNew _ _ hb).setNew _ _ hb).setNew _ _ hb).setNew _ _ hb
theorem FrP.grown (h : FrP lo hi B g a w) (k : w.grownBy w' g) : FrP lo hi B g a w' :=
  ⟨k.os.trans h.os, k.tape.trans h.tape, k.output.trans h.output, Nat.le_trans h.size k.size, fun j hj ho hB hg => (k.block j (Nat.lt_of_lt_of_le hj h.size) (fun e => hg e.symm)).trans (h.block j hj ho hB hg)⟩
end
/-- A thread's block. -/
def Th12 (B : Nat) (c0 c1 c2 c3 c4 c5 c6 c7 c8 c9 c10 c11 : Value) (w : World) : Prop := w.heap[B]? = some (.cells #[c0, c1, c2, c3, c4, c5, c6, c7, c8, c9, c10, c11] 42)
structure Th12c (B : Nat) (c0 c1 c2 c3 c4 c5 c6 c7 c8 c9 c10 c11 : Value) (w : World) : Prop where
  c0 : w.cell? ⟨B, 0, none⟩ = some c0
  c1 : w.cell? ⟨B, 1, none⟩ = some c1
  c2 : w.cell? ⟨B, 2, none⟩ = some c2
  c3 : w.cell? ⟨B, 3, none⟩ = some c3
  c4 : w.cell? ⟨B, 4, none⟩ = some c4
  c5 : w.cell? ⟨B, 5, none⟩ = some c5
  c6 : w.cell? ⟨B, 6, none⟩ = some c6
  c7 : w.cell? ⟨B, 7, none⟩ = some c7
  c8 : w.cell? ⟨B, 8, none⟩ = some c8
  c9 : w.cell? ⟨B, 9, none⟩ = some c9
  c10 : w.cell? ⟨B, 10, none⟩ = some c10
  c11 : w.cell? ⟨B, 11, none⟩ = some c11
  z : ∀ o, w.frozen? ⟨B, o, none⟩ = false
  lt : B < w.heap.size
section
variable {B : Nat} {c0 c1 c2 c3 c4 c5 c6 c7 c8 c9 c10 c11 : Value} {w w' : World}
theorem Th12.cs (h : Th12 B c0 c1 c2 c3 c4 c5 c6 c7 c8 c9 c10 c11 w) : Th12c B c0 c1 c2 c3 c4 c5 c6 c7 c8 c9 c10 c11 w :=
  ⟨cell_at h rfl, cell_at h rfl, cell_at h rfl, cell_at h rfl, cell_at h rfl, cell_at h rfl, cell_at h rfl, cell_at h rfl, cell_at h rfl, cell_at h rfl, cell_at h rfl, cell_at h rfl, fun _ => free_at h, heap_lt h⟩
theorem Th12.lt (h : Th12 B c0 c1 c2 c3 c4 c5 c6 c7 c8 c9 c10 c11 w) : B < w.heap.size := heap_lt h
theorem Th12.ext (h : Th12 B c0 c1 c2 c3 c4 c5 c6 c7 c8 c9 c10 c11 w) (hx : Ext w w') : Th12 B c0 c1 c2 c3 c4 c5 c6 c7 c8 c9 c10 c11 w' := (hx.block _ (heap_lt h)).trans h
theorem Th12.fr {lo hi : Nat} (h : Th12 B c0 c1 c2 c3 c4 c5 c6 c7 c8 c9 c10 c11 w) (hx : Fr lo hi w w') (hb : hi ≤ B) : Th12 B c0 c1 c2 c3 c4 c5 c6 c7 c8 c9 c10 c11 w' := (hx.block _ (heap_lt h) (.inr hb)).trans h
theorem Th12.put7 (h : Th12 B c0 c1 c2 c3 c4 c5 c6 c7 c8 c9 c10 c11 w) {b : Nat} (x0 x1 x2 x3 x4 x5 x6 : Value) (hb : B ≠ b) : Th12 B c0 c1 c2 c3 c4 c5 c6 c7 c8 c9 c10 c11 (put7 b x0 x1 x2 x3 x4 x5 x6 w) := (put7_other _ _ _ _ _ _ _ hb).trans h
theorem Th12.s1 (h : Th12 B c0 c1 c2 c3 c4 c5 c6 c7 c8 c9 c10 c11 w) (x : Value) : Th12 B c0 x c2 c3 c4 c5 c6 c7 c8 c9 c10 c11 (w.setCell ⟨B, 1, none⟩ x) := by
  refine (set_same (o := 1) x h).trans ?_
  simp only [List.setIfInBounds_toArray, List.set_cons_zero, List.set_cons_succ]
theorem Th12.s2 (h : Th12 B c0 c1 c2 c3 c4 c5 c6 c7 c8 c9 c10 c11 w) (x : Value) : Th12 B c0 c1 x c3 c4 c5 c6 c7 c8 c9 c10 c11 (w.setCell ⟨B, 2, none⟩ x) := by
  refine (set_same (o := 2) x h).trans ?_
  simp only [List.setIfInBounds_toArray, List.set_cons_zero, List.set_cons_succ]
theorem Th12.s3 (h : Th12 B c0 c1 c2 c3 c4 c5 c6 c7 c8 c9 c10 c11 w) (x : Value) : Th12 B c0 c1 c2 x c4 c5 c6 c7 c8 c9 c10 c11 (w.setCell ⟨B, 3, none⟩ x) := by
  refine (set_same (o := 3) x h).trans ?_
  simp only [List.setIfInBounds_toArray, List.set_cons_zero, List.set_cons_succ]
theorem Th12.s11 (h : Th12 B c0 c1 c2 c3 c4 c5 c6 c7 c8 c9 c10 c11 w) (x : Value) : Th12 B c0 c1 c2 c3 c4 c5 c6 c7 c8 c9 c10 x (w.setCell ⟨B, 11, none⟩ x) := by
  refine (set_same (o := 11) x h).trans ?_
  simp only [List.setIfInBounds_toArray, List.set_cons_zero, List.set_cons_succ]
theorem Th12.sP (h : Th12 B c0 c1 c2 c3 c4 c5 c6 c7 c8 c9 c10 c11 w) (x0 x1 x2 x3 x4 x5 x6 : Value) : Th12 B c0 c1 c2 c3 x0 x1 x2 x3 x4 x5 x6 c11 (put7o B 4 x0 x1 x2 x3 x4 x5 x6 w) := by
  refine (put7o_block (o := 4) _ _ _ _ _ _ _ h).trans ?_
  simp only [List.setIfInBounds_toArray, List.set_cons_zero, List.set_cons_succ]
theorem Th12.grown {g : Option Nat} (h : Th12 B c0 c1 c2 c3 c4 c5 c6 c7 c8 c9 c10 c11 w) (hg : w.grownBy w' g) (hn : g ≠ some B) : Th12 B c0 c1 c2 c3 c4 c5 c6 c7 c8 c9 c10 c11 w' := (hg.block _ (heap_lt h) fun e => hn e.symm).trans h
end
/-- In the midst of a pick: the memory, the plan's box BP, and what has not turned since the pick's begin. -/
structure KIn (p : Pl) (lo hi : Nat) (L : Lay) (BP B : Nat) (g : Option Nat) (w0 : World) (M : MS) (wr : World) : Prop where
  m : MemIn lo hi L M wr
  mg : Mg p M
  fr : FrP lo hi B g w0 wr
  pb : PBox BP p wr
section
variable {p : Pl} {lo hi : Nat} {L : Lay} {BP B : Nat} {g : Option Nat} {w0 : World} {M M' : MS} {wr wr' : World}
theorem KIn.ext (h : KIn p lo hi L BP B g w0 M wr) (hx : Ext wr wr') : KIn p lo hi L BP B g w0 M wr' := ⟨h.m.ext hx, h.mg, h.fr.ext hx, h.pb.ext hx⟩
theorem KIn.ran (h : KIn p lo hi L BP B g w0 M wr) (hm : MemIn lo hi L M' wr') (hf : Fr lo hi wr wr') (hG : Mg p M') (hb : hi ≤ BP) : KIn p lo hi L BP B g w0 M' wr' :=
  ⟨hm, hG, h.fr.fr hf, (hf.block _ (heap_lt h.pb) (.inr hb)).trans h.pb⟩
theorem KIn.set (h : KIn p lo hi L BP B g w0 M wr) (o : Nat) (x : Value) (hB : hi ≤ B) (hn : BP ≠ B) : KIn p lo hi L BP B g w0 M (wr.setCell ⟨B, o, none⟩ x) :=
  ⟨h.m.setFar _ (.inr hB), h.mg, h.fr.set o x, (set_other _ hn).trans h.pb⟩
theorem KIn.grown (h : KIn p lo hi L BP B g w0 M wr) (hg : wr.grownBy wr' g) (h1 : ∀ j, g = some j → hi ≤ j ∧ j ≠ BP) : KIn p lo hi L BP B g w0 M wr' :=
  ⟨h.m.keep hg.size fun k _ hk => hg.block k (Nat.lt_of_lt_of_le hk h.m.top) fun e => by have := (h1 k e.symm).1; omega, h.mg, h.fr.grown hg, (hg.block _ (heap_lt h.pb) fun e => (h1 _ e.symm).2 rfl).trans h.pb⟩
theorem KIn.put7o (h : KIn p lo hi L BP B g w0 M wr) (o : Nat) (x0 x1 x2 x3 x4 x5 x6 : Value) (hB : hi ≤ B) (hn : BP ≠ B) : KIn p lo hi L BP B g w0 M (put7o B o x0 x1 x2 x3 x4 x5 x6 wr) :=
  ⟨put7o_mem _ _ _ _ _ _ _ h.m hB, h.mg, h.fr.put7o o _ _ _ _ _ _ _, (put7o_other _ _ _ _ _ _ _ hn).trans h.pb⟩
theorem KIn.put7 (h : KIn p lo hi L BP B g w0 M wr) {b : Nat} (x0 x1 x2 x3 x4 x5 x6 : Value) (hb : hi ≤ b) (hw : w0.heap.size ≤ b) (hn : BP ≠ b) : KIn p lo hi L BP B g w0 M (put7 b x0 x1 x2 x3 x4 x5 x6 wr) :=
  ⟨put7_mem _ _ _ _ _ _ _ h.m hb, h.mg, h.fr.put7 _ _ _ _ _ _ _ hw, (put7_other _ _ _ _ _ _ _ hn).trans h.pb⟩
end
/-- The row of a thread is left alone by a store into another block. -/
theorem IR.put7 {base : Nat} {v : Value} {l : List Int} {w : World} (h : IR base v l w) {b : Nat} (x0 x1 x2 x3 x4 x5 x6 : Value) (hn : v.ownBlock ≠ Option.some b) : IR base v l (put7 b x0 x1 x2 x3 x4 x5 x6 w) :=
  h.keep fun _ hg => put7_other _ _ _ _ _ _ _ fun e => hn (e ▸ hg)
theorem IR.setB {base : Nat} {v : Value} {l : List Int} {w : World} (h : IR base v l w) {b : Nat} (o : Nat) (x : Value) (hn : v.ownBlock ≠ Option.some b) : IR base v l (w.setCell ⟨b, o, none⟩ x) :=
  h.keep fun _ hg => set_other _ fun e => hn (e ▸ hg)
theorem IR.put7o {base : Nat} {v : Value} {l : List Int} {w : World} (h : IR base v l w) {b : Nat} (o : Nat) (x0 x1 x2 x3 x4 x5 x6 : Value) (hn : v.ownBlock ≠ Option.some b) : IR base v l (put7o b o x0 x1 x2 x3 x4 x5 x6 w) :=
  h.keep fun _ hg => put7o_other _ _ _ _ _ _ _ fun e => hn (e ▸ hg)
/-- A thread in its block: what it is to do, what it has, its program (where it is at one). -/
structure TIn (p : Pl) (lo hi base B : Nat) (t : TS) (F : Nat → Prop) (vp vm : Value) (y : Int) (a : Acc) (fn : Value) (w : World) : Prop where
  blk : Th12 B vp (.int .i64 (t.at_ : Int)) (.bool t.busy) (.bool t.pop) (.int .i64 y) (.int .i64 a.op) (.int .i64 a.at_) (.int .u64 (U a.a)) (.int .u64 (U a.b)) fn (.pointer none) vm w
  row : IR base vm t.mine w
  nb : vm.ownBlock ≠ Option.some B
  hfn : fn = .nilFunc ∨ ∃ g caps, fn = .func (.func g) #[] caps
  pt : t.busy = true → PT kI (trT p t.N t.s) F (.agg #[.int .i64 y, .int .i64 a.op, .int .i64 a.at_, .int .u64 (U a.a), .int .u64 (U a.b), fn, .pointer none]) w
  bn : Bnd F w
  of : ∀ j, F j → (j < lo ∨ hi ≤ j) ∧ j ≠ B ∧ vm.ownBlock ≠ some j
/-- A program of numbers, by blocks that no pick of another thread turns. -/
structure QI9 (lo hi B : Nat) (g : Option Nat) (tr : Tr Int) (F : Nat → Prop) (vq : Value) (wr : World) : Prop where
  pt : PT kI tr F vq wr
  bn : Bnd F wr
  of : ∀ j, F j → (j < lo ∨ hi ≤ j) ∧ j ≠ B ∧ g ≠ some j
theorem QI9.ext {lo hi B : Nat} {g : Option Nat} {tr : Tr Int} {F : Nat → Prop} {vq : Value} {wr wr' : World} (h : QI9 lo hi B g tr F vq wr) (hx : Ext wr wr') : QI9 lo hi B g tr F vq wr' := ⟨h.pt.agr (Agr.of_ext hx h.bn), h.bn.ext hx.size, h.of⟩
theorem step_QI9 {p : Pl} {lo hi B N N' : Nat} {g : Option Nat} {L : Lay} {M M' : MS} {s s' : PS} {F : Nat → Prop} {vq : Value} {wr : World} (h : QI9 lo hi B g (trT p N s) F vq wr) (hM : MemIn lo hi L M wr) (hS : StepT p M N s M' N' s') :
    Calls Try.prog 19 #[vq, .pointer (some ⟨L.bm, 0, none⟩), .agg #[.int .i64 0, .int .u64 (U 1#64)]] wr (RetS kI lo hi L M' (trT p N' s') F wr) := by
  obtain ⟨a, f, h1, h2, rfl, h4⟩ := hS
  have hp := h.pt
  rw [h1] at hp
  rw [← h4]
  exact stepA_I a f F vq 0 1#64 wr hp h.bn (fun j hj => (h.of j hj).1) hM h2 _ (Lib.hid rfl)
theorem ov_pop (p : Pl) (N : Nat) {s : PS} (h : s.isPop) : ansT kI (trT p N s) = .int .i64 0 ∧ ovT (trT p N s) = false := by
  cases s <;> first | exact ⟨rfl, rfl⟩ | exact h.elim
theorem ov_push (p : Pl) (N : Nat) {n : Int} (hn : p.nxF n ≠ -1) {s : PS} (h : s.isPush n) : ansT kI (trT p N s) = .int .i64 0 ∧ ovT (trT p N s) = false := by
  cases s with
  | ql m =>
    unfold PS.isPush at h
    subst h
    have e : trT p N (.ql m) = (getT p.headF).bind (push1T p m (pushT p m N)) := by
      show pushT p m (N + 1) = _
      rw [pushT, if_neg hn]
    rw [e]
    exact ⟨rfl, rfl⟩
  | qs m x => exact ⟨rfl, rfl⟩
  | qw m x => exact ⟨rfl, rfl⟩
  | pl => exact h.elim
  | pn x => exact h.elim
  | ps x z => exact h.elim
  | dn r => exact h.elim
theorem popped_go {t : TS} {N' : Nat} {s' : PS} (h : s'.isPop) : t.popped N' s' = { t with s := s', N := N' } := by
  cases s' <;> first | rfl | exact h.elim
theorem pushed_go {t : TS} {rest : List Int} {N' : Nat} {n : Int} {s' : PS} (h : s'.isPush n) : t.pushed rest N' s' = { t with s := s', N := N' } := by
  cases s' <;> first | rfl | exact h.elim
theorem TIn.ext {p : Pl} {lo hi base B : Nat} {t : TS} {F : Nat → Prop} {vp vm : Value} {y : Int} {a : Acc} {fn : Value} {w w' : World} (h : TIn p lo hi base B t F vp vm y a fn w) (hx : Ext w w') : TIn p lo hi base B t F vp vm y a fn w' :=
  ⟨h.blk.ext hx, h.row.ext hx, h.nb, h.hfn, fun hb => (h.pt hb).agr (Agr.of_ext hx h.bn), h.bn.ext hx.size, h.of⟩
/-- What a pick comes to: all threads and the list go on; this one's block, its row and its program; fewer picks are left to it, or it is through. -/
def RetPk (p : Pl) (lo hi base B K : Nat) (L : Lay) (M : MS) (T : Nat) (us vs : List TS) (t : TS) (F : Nat → Prop) (vp vm : Value) (w : World) (e : Ending) (w' : World) : Prop :=
  ∃ (M' : MS) (l' : List Int) (T' : Nat) (t' : TS) (F' : Nat → Prop) (vm' : Value) (y' : Int) (a' : Acc) (fn' : Value), e = .returned (.bool true) ∧ MemIn lo hi L M' w' ∧ GIn p M' l' T' (us ++ t' :: vs) ∧ T' ≤ T + 1 ∧ TIn p lo hi base B t' F' vp vm' y' a' fn' w' ∧
    (∀ j, F' j → F j ∨ w.heap.size ≤ j) ∧ FrP lo hi B vm.ownBlock w w' ∧ (vm'.ownBlock = vm.ownBlock ∨ ∃ g, vm'.ownBlock = some g ∧ w.heap.size ≤ g) ∧
    (t'.mu M' < t.mu M ∨ (t' = t ∧ M' = M ∧ t.busy = false ∧ t.at_ = t.ps.length)) ∧ (t'.busy = true → K ≤ t'.N) ∧ t'.ps = t.ps
end Go.Proofs.Ytpidmbclgfnekaa

/-
  A pick of a thread of the law FreeMany: it is through. Conditions: those of each theorem.
-/
namespace Go.Proofs.Ytpidmbclgfnekaa
open Go Go.RowKit

set_option maxRecDepth 8000 in
set_option maxHeartbeats 1000000 in
theorem pick_through {p : Pl} {lo hi base B K : Nat} {L : Lay} {M : MS} {l : List Int} {T : Nat} {us vs : List TS} {t : TS} {F : Nat → Prop} {vp vm : Value} {y : Int} {a : Acc} {fn : Value} {w : World} (_ : p.ok) (hps : Bs w vp t.ps) (h : TIn p lo hi base B t F vp vm y a fn w) (hM : MemIn lo hi L M w) (hG : GIn p M l T (us ++ t :: vs)) (_ : T < 8796093022207) (_ : hi ≤ B) (_ : B < base) (_ : base ≤ w.heap.size) (hb : t.busy = false) (hl : t.at_ = t.ps.length) : Calls Try.prog 8 #[.pointer (some ⟨B, 0, none⟩), plV p, .pointer (some ⟨L.bm, 0, none⟩)] w (RetPk p lo hi base B K L M T us vs t F vp vm w) := by
  have HM := Lib.hid hM
  have HTI := Lib.hid h
  have HG := Lib.hid hG
  have ⟨c0, c1, c2, c3, c4, c5, c6, c7, c8, c9, c10, c11, cz, cl⟩ := h.blk.cs
  rw [hb] at c2
  rw [hl] at c1
  obtain ⟨pa, pc, hvp, _, _⟩ := id hps
  subst hvp
  clear hM hG h hps
  go_enter Try.func8, Try.ntmps8
  go_wp2
  refine wp_region_over (by kernel_rfl) (by kernel_rfl) ?_
  repeat (go_big_quiet_step (fail))
  refine wpQuiet_nil ?_
  intro _ hw'
  obtain ⟨s1, hw''⟩ := hw'
  subst hw''
  have hx : Ext w (over (w.alloc (.cells #[.int .i64 p.n, .int .i64 p.t, .int .i64 p.r, .int .i64 p.d, .int .i64 p.b, .int .i64 p.g] 23)) s1) := ext_trans (ext_alloc _ (ext_refl w)) (over_below _ s1)
  replace hx := Lib.hid hx
  clear c0 c1 c2 c3 c4 c5 c6 c7 c8 c9 c10 c11 cz cl
  go_wp2
  go_ret
  exact ⟨M, l, T, t, F, vm, y, a, fn, rfl, HM.out.ext hx.out, HG.out, Nat.le_succ _, HTI.out.ext hx.out, fun j h => .inl h, (FrP.refl _ _ _ _ w).ext hx.out, .inl rfl, .inr ⟨rfl, rfl, hb, hl⟩, fun hf => (by rw [hb] at hf; cases hf), rfl⟩
end Go.Proofs.Ytpidmbclgfnekaa

/-
  A pick of a thread of the law FreeMany: it has nothing to push. Conditions: those of each theorem.
-/
namespace Go.Proofs.Ytpidmbclgfnekaa
open Go Go.RowKit

set_option maxRecDepth 8000 in
set_option maxHeartbeats 2000000 in
theorem pick_skip {p : Pl} {lo hi base B K : Nat} {L : Lay} {M : MS} {l : List Int} {T : Nat} {us vs : List TS} {t : TS} {F : Nat → Prop} {vp vm : Value} {y : Int} {a : Acc} {fn : Value} {w : World} (hp : p.ok) (hps : Bs w vp t.ps) (h : TIn p lo hi base B t F vp vm y a fn w) (hM : MemIn lo hi L M w) (hG : GIn p M l T (us ++ t :: vs)) (_ : T < 8796093022207) (hB : hi ≤ B) (_ : B < base) (_ : base ≤ w.heap.size) (hK8 : (t.at_ : Int) ≤ 1000000) (hb : t.busy = false) (hl : t.at_ < t.ps.length) (hpv : bN t.ps t.at_ = false) (hmn : t.mine = []) : Calls Try.prog 8 #[.pointer (some ⟨B, 0, none⟩), plV p, .pointer (some ⟨L.bm, 0, none⟩)] w (RetPk p lo hi base B K L M T us vs t F vp vm w) := by
  have HGN := Lib.hid (g_skipped hG hb hl)
  have HMU := Lib.hid (TS.mu_skipped (M := M) hb hl)
  have hlen : t.mine.length = 0 := by rw [hmn]; rfl
  have HFN := Lib.hid h.hfn
  replace hmn := Lib.hid hmn
  replace hlen := Lib.hid hlen
  have HMI := Lib.hid hM.mIn
  have hgl0 : ∀ j, vm.ownBlock = some j → base ≤ j ∧ j < w.heap.size := fun j hj => by obtain ⟨h1, cur, h2⟩ := h.row.own hj; exact ⟨h1, heap_lt h2⟩
  have HTI := Lib.hid h
  have HG := Lib.hid hG
  have HP := Lib.hid hp
  have hbo : (Value.bool t.busy) = .bool false := by rw [hb]
  have hE := ext_alloc (.cells #[.int .i64 p.n, .int .i64 p.t, .int .i64 p.r, .int .i64 p.d, .int .i64 p.b, .int .i64 p.g] 23) (ext_refl w)
  have HI : Hid (KIn p lo hi L w.heap.size B vm.ownBlock w M (w.alloc (.cells #[.int .i64 p.n, .int .i64 p.t, .int .i64 p.r, .int .i64 p.d, .int .i64 p.b, .int .i64 p.g] 23))) := Lib.hid ⟨hM.ext hE, hG.fl.mg, (FrP.refl lo hi B vm.ownBlock w).ext hE, heap_at w _ _ rfl⟩
  have HT0 := h.blk.ext hE
  rw [hb] at HT0
  have HT := Lib.hid HT0
  have HR := Lib.hid (h.row.ext hE)
  have HPS := Lib.hid (hps.ext hE)
  have hwl : w.heap.size < (w.alloc (.cells #[.int .i64 p.n, .int .i64 p.t, .int .i64 p.r, .int .i64 p.d, .int .i64 p.b, .int .i64 p.g] 23)).heap.size := by simp
  have hBl : B < w.heap.size := h.blk.lt
  have hnbv := Lib.hid h.nb
  obtain ⟨pa, pc, hvp, _, _⟩ := id hps
  obtain ⟨ra, rc, hvm⟩ := h.row.slice
  have hml : (t.mine.length : Int) ≤ 1048576 := by
    have h1 := nodup_le (by have := hp.1; omega) (List.nodup_append.1 (by have h2 := hG.nd; rw [flat_mid] at h2; exact (List.nodup_append.1 (List.nodup_append.1 h2).2.1).2.1)).1 (hG.ok t (by simp)).rg
    have := hp.1
    omega
  subst hvp hvm
  clear HT0 hE hG hM hp hps
  go_enter Try.func8, Try.ntmps8
  have dd2 : w.cell? ⟨B, 2, none⟩ = some (.bool false) := by rw [← hb]; exact h.blk.cs.c2
  have hBw : B ≠ w.heap.size := by omega
  have hBw2 : w.heap.size ≠ B := by omega
  clear h
  go_upto_region 1 with (fail)
  generalize w.alloc (.cells #[.int .i64 p.n, .int .i64 p.t, .int .i64 p.r, .int .i64 p.d, .int .i64 p.b, .int .i64 p.g] 23) = W at HI HT HR HPS hwl ⊢
  have ⟨c0, c1, c2, c3, c4, c5, c6, c7, c8, c9, c10, c11, cz, cl⟩ := HT.out.cs
  have hltI : (t.at_ : Int) < (t.ps.length : Int) := by omega
  have dlt : decide ((t.ps.length : Int) ≤ (t.at_ : Int)) = false := by simp; omega
  go_wp2
  refine wp_region_over (by kernel_rfl) (by kernel_rfl) ?_
  repeat (go_big_quiet_step (fail))
  refine wpQuiet_nil ?_
  intro _ hw'
  obtain ⟨s1, hw''⟩ := hw'
  subst hw''
  have hxo := over_below W s1
  replace HI := Lib.hid (HI.out.ext hxo)
  replace HT := Lib.hid (HT.out.ext hxo)
  replace HR := Lib.hid (HR.out.ext hxo)
  replace HPS := Lib.hid (HPS.out.ext hxo)
  replace hwl := Nat.lt_of_lt_of_le hwl hxo.size
  clear hxo c0 c1 c2 c3 c4 c5 c6 c7 c8 c9 c10 c11 cz cl
  generalize over W s1 = W at HI HT HR HPS hwl ⊢
  have ⟨c0, c1, c2, c3, c4, c5, c6, c7, c8, c9, c10, c11, cz, cl⟩ := HT.out.cs
  obtain ⟨bb, ofs, rfl, hbl, hps0⟩ := HPS.out.at hl
  rw [hpv] at hps0
  go_wp2
  refine wp_region_mix (fun w' => ∃ s, w' = over W s) [(0, [0, 1, 2, 3, 4, 5, 6, 7, 8, 9, 10, 11, 12]), (2, [13])] (by kernel_rfl) (by kernel_rfl) (over_of (ext_drew (ext_refl W))) ?_
  simp only [pieces, pickL, List.map_cons, List.map_nil, List.getD_cons_zero, List.getD_cons_succ]
  refine mix_reads ?_
  repeat (go_big_quiet_step (fail))
  refine wpQuiet_nil (mix_late ?_)
  have hxd := ext_drew (ext_refl W)
  have HY := Lib.hid (And.intro ((HT.out.s3 (.bool false)).ext (ext_drew (ext_refl _))) (And.intro ((HI.out.set 3 (.bool false) hB hBw2).ext (ext_drew (ext_refl _))) ((HR.out.setB 3 (.bool false) hnbv.out).ext (ext_drew (ext_refl _)))))
  have ⟨d0, d1, d2, d3, d4, d5, d6, d7, d8, d9, d10, d11, dz, dl⟩ := (HT.out.ext hxd).cs
  clear hxd HT HI HR HPS hps0 hbl c0 c1 c2 c3 c4 c5 c6 c7 c8 c9 c10 c11 cz cl
  go_wp2
  refine lateQ_mk (fun _ => True) trivial (mix_end ?_)
  obtain ⟨hT9, hI9, hR9⟩ := HY.out
  clear HY d0 d1 d2 d3 d4 d5 d6 d7 d8 d9 d10 d11 dz dl
  generalize (World.drew (World.setCell _ (⟨B, 3, none⟩ : Addr) _)) = V at hT9 hI9 hR9 ⊢
  have HY := Lib.hid (And.intro (hT9.s1 (.int .i64 ((t.at_ : Int) + 1))) (And.intro (hI9.set 1 (.int .i64 ((t.at_ : Int) + 1)) hB hBw2) (hR9.setB 1 (.int .i64 ((t.at_ : Int) + 1)) hnbv.out)))
  have ⟨d0, d1, d2, d3, d4, d5, d6, d7, d8, d9, d10, d11, dz, dl⟩ := hT9.cs
  clear hT9 hI9 hR9
  go_upto_region 6 with (fail)
  obtain ⟨hT9, hI9, hR9⟩ := HY.out
  clear HY d0 d1 d2 d3 d4 d5 d6 d7 d8 d9 d10 d11 dz dl
  generalize (World.setCell _ (⟨B, 1, none⟩ : Addr) _) = V1 at hT9 hI9 hR9 ⊢
  have ⟨c0, c1, c2, c3, c4, c5, c6, c7, c8, c9, c10, c11, cz, cl⟩ := hT9.cs
  rw [hlen.out] at c11
  replace hT9 := Lib.hid hT9
  replace hI9 := Lib.hid hI9
  replace hR9 := Lib.hid hR9
  go_wp2
  go_ret
  refine ⟨M, l, T, t.skipped, noF, _, y, a, fn, rfl, hI9.out.m, HGN.out, Nat.le_succ _, ?_, fun j hj => hj.elim, hI9.out.fr, .inl rfl, .inl HMU.out, fun hf => (by have h9 : t.busy = true := hf; rw [hb] at h9; cases h9), rfl⟩
  refine ⟨?_, hR9.out, hnbv.out, HFN.out, fun hf => (by have h9 : t.busy = true := hf; rw [hb] at h9; cases h9), bnd_no _, fun j hj => hj.elim⟩
  show Th12 B _ _ (.bool t.busy) (.bool false) _ _ _ _ _ _ _ _ _
  rw [hb]
  exact hT9.out
end Go.Proofs.Ytpidmbclgfnekaa
