/-
  Slices of structs of three ints, read as lists. No conditions.
-/
import Derived.Test.YtdbbbefkahmneaaFr
import Derived.Test.YtdbbbefkahmneaaApps
import Derived.Deep.Slices
namespace Go.Proofs.Ytdbbbefkahmneaa
open Go Go.RowKit

/-- Three ints. -/
structure T3 where
  a : Int
  b : Int
  c : Int
deriving DecidableEq
/-- The cells of one. -/
def T3.vs (x : T3) : List Value := [.int .i64 x.a, .int .i64 x.b, .int .i64 x.c]
/-- The i-th. -/
def tN (l : List T3) (i : Nat) : T3 := l.getD i ⟨0, 0, 0⟩
theorem tN_at {l : List T3} {i : Nat} (h : i < l.length) : l[i]? = some (tN l i) := by
  unfold tN
  rw [List.getD_eq_getElem?_getD, List.getElem?_eq_getElem h]
  rfl
theorem tN_app {l : List T3} {x : T3} {i : Nat} (h : i < l.length) : tN (l ++ [x]) i = tN l i := by
  unfold tN
  rw [List.getD_eq_getElem?_getD, List.getD_eq_getElem?_getD, List.getElem?_append_left h]
theorem tN_last {l : List T3} {x : T3} : tN (l ++ [x]) l.length = x := by
  unfold tN
  rw [List.getD_eq_getElem?_getD, List.getElem?_append_right (Nat.le_refl _)]
  simp
/-- All cells. -/
def cs3 (l : List T3) : List Value := l.flatMap T3.vs
theorem cs3_len (l : List T3) : (cs3 l).length = l.length * 3 := by
  unfold cs3
  induction l with
  | nil => rfl
  | cons p l ih => rw [List.flatMap_cons, List.length_append, ih]; simp [T3.vs]; omega
theorem cs3_app (l : List T3) (x : T3) : cs3 l ++ x.vs = cs3 (l ++ [x]) := by
  unfold cs3
  rw [List.flatMap_append]
  simp
theorem cs3_get (l : List T3) : ∀ i, i < l.length → ∀ j, j < 3 → (cs3 l)[i * 3 + j]? = (tN l i).vs[j]? := by
  induction l with
  | nil => intro i hi; exact absurd hi (Nat.not_lt_zero _)
  | cons p l ih =>
    intro i hi j hj
    show (List.flatMap T3.vs (p :: l))[i * 3 + j]? = _
    rw [List.flatMap_cons]
    cases i with
    | zero =>
      rw [List.getElem?_append_left (by simp [T3.vs]; omega), Nat.zero_mul, Nat.zero_add]
      rfl
    | succ k =>
      have h := ih k (by simpa using hi) j hj
      rw [show (k + 1) * 3 + j = 3 + (k * 3 + j) by omega, List.getElem?_append_right (by simp [T3.vs])]
      simp only [T3.vs, List.length_cons, List.length_nil, Nat.zero_add, Nat.reduceAdd, Nat.add_sub_cancel_left]
      exact h
theorem ones3 (x : T3) : ∀ u ∈ x.vs, u.oneCell' = true := by
  intro u hu
  simp [T3.vs] at hu
  rcases hu with rfl | rfl | rfl <;> rfl
theorem ones33 (x y : T3) : ∀ u ∈ x.vs ++ y.vs, u.oneCell' = true := by
  intro u hu
  rcases List.mem_append.1 hu with h | h
  · exact ones3 x u h
  · exact ones3 y u h

/-- The value v is a slice of such, that reads, in w, as l. -/
def Ts (w : World) (v : Value) (l : List T3) : Prop :=
  ∃ a0 cap, v = .slice a0 l.length cap ∧ l.length ≤ cap ∧ (0 < l.length → ∃ b off, a0 = some ⟨b, off, none⟩ ∧ b < w.heap.size ∧
    ∀ i, i < l.length → w.cell? ⟨b, off + i * 3, none⟩ = some (.int .i64 (tN l i).a) ∧ w.cell? ⟨b, off + i * 3 + 1, none⟩ = some (.int .i64 (tN l i).b) ∧ w.cell? ⟨b, off + i * 3 + 2, none⟩ = some (.int .i64 (tN l i).c))
theorem Ts.ext {w w' : World} {v : Value} {l : List T3} (h : Ts w v l) (hb : Ext w w') : Ts w' v l := by
  obtain ⟨a0, cap, e, hc, hr⟩ := h
  refine ⟨a0, cap, e, hc, fun hl => ?_⟩
  obtain ⟨b, off, ea, hlt, hcell⟩ := hr hl
  refine ⟨b, off, ea, Nat.lt_of_lt_of_le hlt hb.size, fun i hi => ?_⟩
  obtain ⟨h1, h2, h3⟩ := hcell i hi
  exact ⟨ext_cell hb h1, ext_cell hb h2, ext_cell hb h3⟩
theorem Ts.at {w : World} {a0 : Option Addr} {n cap : Nat} {l : List T3} (h : Ts w (.slice a0 n cap) l) (hl : 0 < l.length) : ∃ b off, a0 = some ⟨b, off, none⟩ ∧ b < w.heap.size ∧
    ∀ i, i < l.length → w.cell? ⟨b, off + i * 3, none⟩ = some (.int .i64 (tN l i).a) ∧ w.cell? ⟨b, off + i * 3 + 1, none⟩ = some (.int .i64 (tN l i).b) ∧ w.cell? ⟨b, off + i * 3 + 2, none⟩ = some (.int .i64 (tN l i).c) := by
  obtain ⟨a, c, e, _, hr⟩ := h
  simp at e
  obtain ⟨rfl, rfl, rfl⟩ := e
  exact hr hl
theorem ts_nil (w : World) : Ts w (.slice none 0 0) [] := ⟨none, 0, rfl, Nat.le_refl _, fun h => absurd h (Nat.not_lt_zero _)⟩
/-- A block that holds these cells. -/
theorem ts_at {w : World} {g cap : Nat} {c : Array Value} {t : TypeId} {f : Nat × Nat} {l : List T3} (hh : w.heap[g]? = some (.cells c t f)) (hc : ∀ j, j < l.length * 3 → c[j]? = (cs3 l)[j]?) (hl : l.length ≤ cap) : Ts w (.slice (some ⟨g, 0, none⟩) l.length cap) l := by
  refine ⟨_, _, rfl, hl, fun _ => ⟨g, 0, rfl, (Array.getElem?_eq_some_iff.1 hh).1, fun i hi => ?_⟩⟩
  have key : ∀ j, j < 3 → w.cell? ⟨g, 0 + i * 3 + j, none⟩ = (tN l i).vs[j]? := fun j hj => by
    rw [← cs3_get l i hi j hj, ← hc (i * 3 + j) (by omega), Nat.zero_add]
    have hlt : i * 3 + j < c.size := by
      have h3 := hc (i * 3 + j) (by omega)
      rw [cs3_get l i hi j hj] at h3
      refine Nat.lt_of_not_le fun hle => ?_
      rw [Array.getElem?_eq_none hle] at h3
      rcases (show j = 0 ∨ j = 1 ∨ j = 2 by omega) with rfl | rfl | rfl <;> simp [T3.vs] at h3
    have he := Array.getElem?_eq_getElem hlt
    rw [he]
    exact cell_at hh he
  exact ⟨by simpa [T3.vs] using key 0 (by omega), by simpa [T3.vs] using key 1 (by omega), by simpa [T3.vs] using key 2 (by omega)⟩
/-- One that was just made. -/
theorem ts_new (w : World) (l : List T3) (t : TypeId) (n : Nat) (c : Array Value) (g : Nat) (hg : g = w.heap.size) (hn : n = l.length) (hc : c = (cs3 l).toArray) : Ts (w.alloc (.cells c t)) (.slice (some ⟨g, 0, none⟩) n n) l := by
  subst hg hn hc
  have hb : (w.alloc (.cells (cs3 l).toArray t)).heap[w.heap.size]? = some (.cells (cs3 l).toArray t (0, 0)) := by
    show (w.heap.push _)[w.heap.size]? = _
    simp
  exact ts_at hb (fun j _ => by simp) (Nat.le_refl _)
theorem ts_own {w : World} {base : Nat} {e : TypeId} {v : Value} {l : List T3} (h : w.ownsRow base e 3 v l.length (cs3 l)) : Ts w v l := by
  rcases h.2 with ⟨rfl, h2⟩ | ⟨g, cap, cur, rfl, hg, hh, hc, hm, hs, ht⟩
  · have : l = [] := List.eq_nil_of_length_eq_zero h2
    subst this
    exact ts_nil w
  · refine ts_at hh (fun j hj => ?_) hc
    rw [← ht, List.getElem?_take, if_pos hj, Array.getElem?_toList]
/-- What an append lays in a block of its own first. -/
theorem news3 (w : World) (x : T3) (t : TypeId) (g : Nat) (hg : g = w.heap.size) : ∀ j u, x.vs[j]? = some u → (w.alloc (.cells #[.int .i64 x.a, .int .i64 x.b, .int .i64 x.c] t)).cell? ((⟨g, 0, none⟩ : Addr).add j) = some u := by
  subst hg
  intro j u hj
  have hlt : j < 3 := by
    have := (List.getElem?_eq_some_iff.1 hj).1
    simpa [T3.vs] using this
  rcases (show j = 0 ∨ j = 1 ∨ j = 2 by omega) with rfl | rfl | rfl <;> simp [T3.vs] at hj <;> subst hj <;> simp [Addr.add]
theorem news33 (w : World) (x y : T3) (t : TypeId) (g : Nat) (hg : g = w.heap.size) : ∀ j u, (x.vs ++ y.vs)[j]? = some u → (w.alloc (.cells #[.int .i64 x.a, .int .i64 x.b, .int .i64 x.c, .int .i64 y.a, .int .i64 y.b, .int .i64 y.c] t)).cell? ((⟨g, 0, none⟩ : Addr).add j) = some u := by
  subst hg
  intro j u hj
  have hlt : j < 6 := by
    have := (List.getElem?_eq_some_iff.1 hj).1
    simpa [T3.vs] using this
  rcases (show j = 0 ∨ j = 1 ∨ j = 2 ∨ j = 3 ∨ j = 4 ∨ j = 5 by omega) with rfl | rfl | rfl | rfl | rfl | rfl <;> simp [T3.vs] at hj <;> subst hj <;> simp [Addr.add]
end Go.Proofs.Ytdbbbefkahmneaa
