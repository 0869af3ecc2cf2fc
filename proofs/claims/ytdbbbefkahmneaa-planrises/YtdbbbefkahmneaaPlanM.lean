/-
  A plan, and where its words are, in plain numbers. Conditions: those of each theorem.
-/
import Derived.Test.YtdbbbefkahmneaaTrip
namespace Go.Proofs.Ytdbbbefkahmneaa
open Go Go.RowKit

theorem hp_lt {w : World} {b : Nat} {o : Obj} (h : w.heap[b]? = some o) : b < w.heap.size := (Array.getElem?_eq_some_iff.1 h).1
theorem hp_at (w : World) (o : Obj) (b : Nat) (hb : b = w.heap.size) : (w.alloc o).heap[b]? = some o := by
  subst hb
  show (w.heap.push _)[w.heap.size]? = _
  simp
/-- A plan's numbers. -/
structure Pl where
  n : Int
  t : Int
  r : Int
  d : Int
  b : Int
  g : Int
/-- It is formed. -/
def Pl.ok (p : Pl) : Prop := (1 ≤ p.n ∧ p.n ≤ 1048576) ∧ (1 ≤ p.t ∧ p.t ≤ 16) ∧ (3 * p.t + 1 ≤ p.r ∧ p.r ≤ 1024) ∧ (0 ≤ p.d ∧ p.d ≤ 64) ∧ (1 ≤ p.b ∧ p.b ≤ 256) ∧ (1 ≤ p.g ∧ p.g ≤ 1073741823)
instance (p : Pl) : Decidable p.ok := by unfold Pl.ok; infer_instance
/-- The cells of a domain. -/
def Pl.c (p : Pl) : Int := if 2 < p.b then p.b else 2
theorem Pl.c_le (p : Pl) : 2 ≤ p.c := by unfold Pl.c; split <;> omega
theorem Pl.c_ge (p : Pl) (h : p.b ≤ 256) : p.c ≤ 256 := by unfold Pl.c; split <;> omega
/-- Where a domain's, a thread's, a node's words begin. -/
def Pl.dom (p : Pl) (x : Int) : Int := 1 + x * (1 + p.c)
def Pl.haz (p : Pl) (x : Int) : Int := p.dom p.d + x * 3
def Pl.cnt (p : Pl) (x : Int) : Int := p.haz p.t + x * (1 + p.r)
def Pl.nod (p : Pl) (x : Int) : Int := p.cnt p.t + x * 5
/-- The same, as they are reckoned. -/
def Pl.domW (p : Pl) (x : Int) : Int := wrap64 (1 + wrap64 (x * wrap64 (1 + p.c)))
def Pl.hazW (p : Pl) (x : Int) : Int := wrap64 (p.domW p.d + wrap64 (x * 3))
def Pl.cntW (p : Pl) (x : Int) : Int := wrap64 (p.hazW p.t + wrap64 (x * wrap64 (1 + p.r)))
def Pl.nodW (p : Pl) (x : Int) : Int := wrap64 (p.cntW p.t + wrap64 (x * 5))

theorem mul_in {x y a b : Int} (h0 : 0 ≤ x) (h1 : x ≤ a) (h2 : 0 ≤ y) (h3 : y ≤ b) : 0 ≤ x * y ∧ x * y ≤ a * b :=
  ⟨Int.mul_nonneg h0 h2, Int.mul_le_mul h1 h3 h2 (Int.le_trans h0 h1)⟩
theorem Pl.dom_b {p : Pl} (h : p.ok) {x : Int} (h0 : 0 ≤ x) (h1 : x ≤ p.d) : 0 ≤ x * (1 + p.c) ∧ x * (1 + p.c) ≤ 16448 := by
  have hc := p.c_le
  unfold Pl.ok at h
  have hc' := p.c_ge (by omega)
  have := mul_in (x := x) (y := 1 + p.c) (a := 64) (b := 257) h0 (by omega) (by omega) (by omega)
  omega
theorem Pl.cnt_b {p : Pl} (h : p.ok) {x : Int} (h0 : 0 ≤ x) (h1 : x ≤ p.t) : 0 ≤ x * (1 + p.r) ∧ x * (1 + p.r) ≤ 16400 := by
  unfold Pl.ok at h
  have := mul_in (x := x) (y := 1 + p.r) (a := 16) (b := 1025) h0 (by omega) (by omega) (by omega)
  omega
theorem Pl.domW_eq {p : Pl} (h : p.ok) {x : Int} (h0 : 0 ≤ x) (h1 : x ≤ p.d) : p.domW x = p.dom x := by
  have hb := Pl.dom_b h h0 h1
  have hc := p.c_le
  have hc' := p.c_ge (by unfold Pl.ok at h; omega)
  unfold Pl.domW Pl.dom
  rw [IntWalk.wrap64_in (1 + p.c) (by omega), IntWalk.wrap64_in (x * (1 + p.c)) (by omega), IntWalk.wrap64_in _ (by omega)]
theorem Pl.dom_in {p : Pl} (h : p.ok) {x : Int} (h0 : 0 ≤ x) (h1 : x ≤ p.d) : 1 ≤ p.dom x ∧ p.dom x ≤ 16449 := by
  have hb := Pl.dom_b h h0 h1
  unfold Pl.dom
  omega
theorem Pl.d_in {p : Pl} (h : p.ok) : 0 ≤ p.d ∧ p.d ≤ p.d := by unfold Pl.ok at h; omega
theorem Pl.t_in {p : Pl} (h : p.ok) : 0 ≤ p.t ∧ p.t ≤ p.t := by unfold Pl.ok at h; omega
theorem Pl.hazW_eq {p : Pl} (h : p.ok) {x : Int} (h0 : 0 ≤ x) (h1 : x ≤ p.t) : p.hazW x = p.haz x := by
  have hd := Pl.dom_in h (Pl.d_in h).1 (Pl.d_in h).2
  unfold Pl.hazW Pl.haz
  rw [Pl.domW_eq h (Pl.d_in h).1 (Pl.d_in h).2]
  unfold Pl.ok at h
  rw [IntWalk.wrap64_in (x * 3) (by omega), IntWalk.wrap64_in _ (by omega)]
theorem Pl.haz_in {p : Pl} (h : p.ok) {x : Int} (h0 : 0 ≤ x) (h1 : x ≤ p.t) : 1 ≤ p.haz x ∧ p.haz x ≤ 16497 := by
  have hd := Pl.dom_in h (Pl.d_in h).1 (Pl.d_in h).2
  unfold Pl.haz
  unfold Pl.ok at h
  omega
theorem Pl.cntW_eq {p : Pl} (h : p.ok) {x : Int} (h0 : 0 ≤ x) (h1 : x ≤ p.t) : p.cntW x = p.cnt x := by
  have hd := Pl.haz_in h (Pl.t_in h).1 (Pl.t_in h).2
  have hb := Pl.cnt_b h h0 h1
  unfold Pl.cntW Pl.cnt
  rw [Pl.hazW_eq h (Pl.t_in h).1 (Pl.t_in h).2]
  unfold Pl.ok at h
  rw [IntWalk.wrap64_in (1 + p.r) (by omega), IntWalk.wrap64_in (x * (1 + p.r)) (by omega), IntWalk.wrap64_in _ (by omega)]
theorem Pl.cnt_in {p : Pl} (h : p.ok) {x : Int} (h0 : 0 ≤ x) (h1 : x ≤ p.t) : 1 ≤ p.cnt x ∧ p.cnt x ≤ 32897 := by
  have hd := Pl.haz_in h (Pl.t_in h).1 (Pl.t_in h).2
  have hb := Pl.cnt_b h h0 h1
  unfold Pl.cnt
  omega
theorem Pl.nodW_eq {p : Pl} (h : p.ok) {x : Int} (h0 : 0 ≤ x) (h1 : x ≤ p.n) : p.nodW x = p.nod x := by
  have hd := Pl.cnt_in h (Pl.t_in h).1 (Pl.t_in h).2
  unfold Pl.nodW Pl.nod
  rw [Pl.cntW_eq h (Pl.t_in h).1 (Pl.t_in h).2]
  unfold Pl.ok at h
  rw [IntWalk.wrap64_in (x * 5) (by omega), IntWalk.wrap64_in _ (by omega)]
theorem Pl.nod_in {p : Pl} (h : p.ok) {x : Int} (h0 : 0 ≤ x) (h1 : x ≤ p.n) : 1 ≤ p.nod x ∧ p.nod x ≤ 5275777 := by
  have hd := Pl.cnt_in h (Pl.t_in h).1 (Pl.t_in h).2
  unfold Pl.nod
  unfold Pl.ok at h
  omega

/-! What the calls answer. -/
def Pl.sizeF (p : Pl) : Int := if p.ok then p.nod p.n else 0
def Pl.cellsF (p : Pl) : Int := if p.ok then p.c else 0
def Pl.headF (p : Pl) : Int := if p.ok then 0 else -1
def Pl.kindF (p : Pl) (x : Int) : Int := if p.ok ∧ 0 ≤ x ∧ x < p.d then p.dom x else -1
def Pl.cellF (p : Pl) (x i : Int) : Int := if p.ok ∧ (0 ≤ x ∧ x < p.d) ∧ 0 ≤ i ∧ i < p.c then p.dom x + 1 + i else -1
def Pl.hazF (p : Pl) (x i : Int) : Int := if p.ok ∧ (0 ≤ x ∧ x < p.t) ∧ 0 ≤ i ∧ i < 3 then p.haz x + i else -1
def Pl.cntF (p : Pl) (x : Int) : Int := if p.ok ∧ 0 ≤ x ∧ x < p.t then p.cnt x else -1
def Pl.retF (p : Pl) (x i : Int) : Int := if p.ok ∧ (0 ≤ x ∧ x < p.t) ∧ 0 ≤ i ∧ i < p.r then p.cnt x + 1 + i else -1
def Pl.stF (p : Pl) (x : Int) : Int := if p.ok ∧ 0 ≤ x ∧ x < p.n then p.nod x else -1
def Pl.nxF (p : Pl) (x : Int) : Int := if p.ok ∧ 0 ≤ x ∧ x < p.n then p.nod x + 1 else -1
def Pl.fdF (p : Pl) (x i : Int) : Int := if p.ok ∧ (0 ≤ x ∧ x < p.n) ∧ 0 ≤ i ∧ i < 3 then p.nod x + 2 + i else -1

/-- All bounds are kept. -/
def Bd (l : List T3) : Prop := ∀ i, i < l.length → (tN l i).b ≤ (tN l i).a ∧ (tN l i).a ≤ (tN l i).c
theorem bd_nil : Bd [] := fun _ h => absurd h (Nat.not_lt_zero _)
theorem bd_cons (x : T3) (l : List T3) : Bd (x :: l) ↔ (x.b ≤ x.a ∧ x.a ≤ x.c) ∧ Bd l := by
  constructor
  · intro h
    exact ⟨h 0 (by simp), fun i hi => h (i + 1) (by simpa using hi)⟩
  · intro h i hi
    cases i with
    | zero => exact h.1
    | succ k => exact h.2 k (by simpa using hi)
/-- The bounds of a plan. -/
def Pl.bds (p : Pl) : List T3 := [⟨p.n, 1, 1048576⟩, ⟨p.t, 1, 16⟩, ⟨p.r, wrap64 (wrap64 (3 * p.t) + 1), 1024⟩, ⟨p.d, 0, 64⟩, ⟨p.b, 1, 256⟩, ⟨p.g, 1, 1073741823⟩]
theorem Pl.bds_ok (p : Pl) : Bd p.bds ↔ p.ok := by
  unfold Pl.bds Pl.ok
  simp only [bd_cons, bd_nil, and_true]
  constructor
  · rintro ⟨h1, h2, h3, h4, h5, h6⟩
    rw [IntWalk.wrap64_in (3 * p.t) (by omega), IntWalk.wrap64_in _ (by omega)] at h3
    exact ⟨h1, h2, h3, h4, h5, h6⟩
  · rintro ⟨h1, h2, h3, h4, h5, h6⟩
    rw [IntWalk.wrap64_in (3 * p.t) (by omega), IntWalk.wrap64_in _ (by omega)]
    exact ⟨h1, h2, h3, h4, h5, h6⟩
/-- What place answers. -/
def PlaceSpec (p : Pl) (at_ : Int) (l : List T3) (r : Int) : Prop := (p.ok → Bd l → r = at_) ∧ (¬ (p.ok ∧ Bd l) → r = -1)
end Go.Proofs.Ytdbbbefkahmneaa
