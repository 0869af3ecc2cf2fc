/-
  No two words have one place, and each place of the region is a word's. Conditions: those of each theorem.
-/
import Derived.Test.YtdbbbefkahmneaaPlanWl
namespace Go.Proofs.Ytdbbbefkahmneaa
open Go Go.RowKit

theorem blk_lt {a n k o : Int} (h : a < n) (h1 : o < k) (hk : 0 ≤ k) : a * k + o < n * k := by
  have := Int.mul_le_mul_of_nonneg_right (show a + 1 ≤ n by omega) hk
  rw [Int.add_mul] at this
  omega
theorem blk_uniq {a a' k o o' : Int} (h : 0 ≤ o) (h1 : o < k) (h' : 0 ≤ o') (h1' : o' < k) (e : a * k + o = a' * k + o') : a = a' ∧ o = o' := by
  have key : a = a' := by
    rcases Int.lt_trichotomy a a' with hl | hl | hl
    · have := blk_lt hl h1 (by omega); omega
    · exact hl
    · have := blk_lt hl h1' (by omega); omega
  subst key
  exact ⟨rfl, by omega⟩
/-- Which word it is, and where. -/
inductive Loc (p : Pl) : Int → Int → Int → T3 → Int → Prop
  | head : Loc p 0 0 0 ⟨0, 0, 0⟩ 0
  | dom (a o : Int) (x : T3) (h0 : 0 ≤ a) (h1 : a < p.d) (h2 : 0 ≤ o) (h3 : o < 1 + p.c) (hx : x = if o = 0 then ⟨1, a, 0⟩ else ⟨2, a, o - 1⟩) : Loc p 1 a o x (p.dom a + o)
  | haz (a o : Int) (x : T3) (h0 : 0 ≤ a) (h1 : a < p.t) (h2 : 0 ≤ o) (h3 : o < 3) (hx : x = ⟨3, a, o⟩) : Loc p 2 a o x (p.haz a + o)
  | cnt (a o : Int) (x : T3) (h0 : 0 ≤ a) (h1 : a < p.t) (h2 : 0 ≤ o) (h3 : o < 1 + p.r) (hx : x = if o = 0 then ⟨4, a, 0⟩ else ⟨5, a, o - 1⟩) : Loc p 3 a o x (p.cnt a + o)
  | nod (a o : Int) (x : T3) (h0 : 0 ≤ a) (h1 : a < p.n) (h2 : 0 ≤ o) (h3 : o < 5) (hx : x = if o = 0 then ⟨6, a, 0⟩ else if o = 1 then ⟨7, a, 0⟩ else ⟨8, a, o - 2⟩) : Loc p 4 a o x (p.nod a + o)
theorem Loc.cast {p : Pl} {s a o : Int} {x : T3} {m m' : Int} (h : Loc p s a o x m) (e : m = m') : Loc p s a o x m' := e ▸ h
/-- Where a section lies. -/
theorem Loc.range {p : Pl} (hk : p.ok) {s a o : Int} {x : T3} {m : Int} (h : Loc p s a o x m) :
    (s = 0 ∧ m = 0) ∨ (s = 1 ∧ 1 ≤ m ∧ m < p.dom p.d) ∨ (s = 2 ∧ p.dom p.d ≤ m ∧ m < p.haz p.t) ∨ (s = 3 ∧ p.haz p.t ≤ m ∧ m < p.cnt p.t) ∨ (s = 4 ∧ p.cnt p.t ≤ m ∧ m < p.nod p.n) := by
  have hc := p.c_le
  have hr : 1 ≤ p.r := by unfold Pl.ok at hk; omega
  cases h with
  | head => exact .inl ⟨rfl, rfl⟩
  | dom _ _ _ h0 h1 h2 h3 hx =>
    have := blk_lt h1 h3 (by omega)
    have := Int.mul_nonneg h0 (show 0 ≤ 1 + p.c by omega)
    unfold Pl.dom
    omega
  | haz _ _ _ h0 h1 h2 h3 hx => unfold Pl.haz; omega
  | cnt _ _ _ h0 h1 h2 h3 hx =>
    have := blk_lt h1 h3 (by omega)
    have := Int.mul_nonneg h0 (show 0 ≤ 1 + p.r by omega)
    unfold Pl.cnt
    omega
  | nod _ _ _ h0 h1 h2 h3 hx => unfold Pl.nod; omega
theorem Pl.steps {p : Pl} (hk : p.ok) : 1 ≤ p.dom p.d ∧ p.dom p.d ≤ p.haz p.t ∧ p.haz p.t ≤ p.cnt p.t ∧ p.cnt p.t ≤ p.nod p.n := by
  have h1 := Pl.dom_in hk (Pl.d_in hk).1 (Pl.d_in hk).2
  have h2 := (Pl.cnt_b hk (Pl.t_in hk).1 (Pl.t_in hk).2).1
  unfold Pl.nod Pl.cnt Pl.haz at *
  unfold Pl.ok at hk
  omega
/-- One place, one word. -/
theorem Loc.inj {p : Pl} (hk : p.ok) {s s' a a' o o' : Int} {x y : T3} {m m' : Int} (h : Loc p s a o x m) (h' : Loc p s' a' o' y m') (e : m = m') : x = y := by
  have r := h.range hk
  have r' := h'.range hk
  have st := Pl.steps hk
  have es : s = s' := by omega
  subst es
  clear r r' st
  cases h with
  | head =>
    generalize hs : (0 : Int) = s0 at h'
    cases h' with
    | head => rfl
    | dom => omega
    | haz => omega
    | cnt => omega
    | nod => omega
  | dom _ _ _ h0 h1 h2 h3 hx =>
    generalize hs : (1 : Int) = s0 at h'
    cases h' with
    | head => omega
    | dom _ _ _ k0 k1 k2 k3 kx =>
      unfold Pl.dom at e
      obtain ⟨rfl, rfl⟩ := blk_uniq h2 h3 k2 k3 (show a * (1 + p.c) + o = a' * (1 + p.c) + o' by omega)
      rw [hx, kx]
    | haz => omega
    | cnt => omega
    | nod => omega
  | haz _ _ _ h0 h1 h2 h3 hx =>
    generalize hs : (2 : Int) = s0 at h'
    cases h' with
    | head => omega
    | dom => omega
    | haz _ _ _ k0 k1 k2 k3 kx =>
      unfold Pl.haz at e
      obtain ⟨rfl, rfl⟩ := blk_uniq h2 h3 k2 k3 (show a * 3 + o = a' * 3 + o' by omega)
      rw [hx, kx]
    | cnt => omega
    | nod => omega
  | cnt _ _ _ h0 h1 h2 h3 hx =>
    generalize hs : (3 : Int) = s0 at h'
    cases h' with
    | head => omega
    | dom => omega
    | haz => omega
    | cnt _ _ _ k0 k1 k2 k3 kx =>
      unfold Pl.cnt at e
      obtain ⟨rfl, rfl⟩ := blk_uniq h2 h3 k2 k3 (show a * (1 + p.r) + o = a' * (1 + p.r) + o' by omega)
      rw [hx, kx]
    | nod => omega
  | nod _ _ _ h0 h1 h2 h3 hx =>
    generalize hs : (4 : Int) = s0 at h'
    cases h' with
    | head => omega
    | dom => omega
    | haz => omega
    | cnt => omega
    | nod _ _ _ k0 k1 k2 k3 kx =>
      unfold Pl.nod at e
      obtain ⟨rfl, rfl⟩ := blk_uniq h2 h3 k2 k3 (show a * 5 + o = a' * 5 + o' by omega)
      rw [hx, kx]
/-- A word that has a place. -/
theorem loc_of {p : Pl} (hk : p.ok) {x : T3} (hd : Wd x) (h : p.toldF x ≠ -1) : ∃ s a o, Loc p s a o x (p.toldF x) := by
  obtain ⟨A, B, C⟩ := x
  obtain ⟨hA, hB, hC⟩ := hd
  dsimp only at hA hB hC
  rcases (show A = 0 ∨ A = 1 ∨ A = 2 ∨ A = 3 ∨ A = 4 ∨ A = 5 ∨ A = 6 ∨ A = 7 ∨ A = 8 by omega) with rfl | rfl | rfl | rfl | rfl | rfl | rfl | rfl | rfl
  · obtain rfl := hB rfl
    obtain rfl := hC (by omega)
    rw [told_head hk]
    exact ⟨0, 0, 0, .head⟩
  · obtain rfl := hC (by omega)
    by_cases q : 0 ≤ B ∧ B < p.d
    · rw [told_kind hk q.1 q.2]
      exact ⟨1, B, 0, (Loc.dom B 0 _ q.1 q.2 (by omega) (by have := p.c_le; omega) (by rw [if_pos rfl])).cast (by omega)⟩
    · refine absurd ?_ h
      show p.kindF B = -1
      unfold Pl.kindF
      rw [if_neg fun hh => q hh.2]
  · by_cases q : (0 ≤ B ∧ B < p.d) ∧ 0 ≤ C ∧ C < p.c
    · rw [told_cell hk q.1.1 q.1.2 q.2.1 q.2.2]
      exact ⟨1, B, 1 + C, (Loc.dom B (1 + C) _ q.1.1 q.1.2 (by omega) (by omega) (by rw [if_neg (by omega)]; congr 1; omega)).cast (by omega)⟩
    · refine absurd ?_ h
      show p.cellF B C = -1
      unfold Pl.cellF
      rw [if_neg fun hh => q hh.2]
  · by_cases q : (0 ≤ B ∧ B < p.t) ∧ 0 ≤ C ∧ C < 3
    · rw [told_haz hk q.1.1 q.1.2 q.2.1 q.2.2]
      exact ⟨2, B, C, Loc.haz B C _ q.1.1 q.1.2 (by omega) (by omega) rfl⟩
    · refine absurd ?_ h
      show p.hazF B C = -1
      unfold Pl.hazF
      rw [if_neg fun hh => q hh.2]
  · obtain rfl := hC (by omega)
    by_cases q : 0 ≤ B ∧ B < p.t
    · rw [told_cnt hk q.1 q.2]
      exact ⟨3, B, 0, (Loc.cnt B 0 _ q.1 q.2 (by omega) (by unfold Pl.ok at hk; omega) (by rw [if_pos rfl])).cast (by omega)⟩
    · refine absurd ?_ h
      show p.cntF B = -1
      unfold Pl.cntF
      rw [if_neg fun hh => q hh.2]
  · by_cases q : (0 ≤ B ∧ B < p.t) ∧ 0 ≤ C ∧ C < p.r
    · rw [told_ret hk q.1.1 q.1.2 q.2.1 q.2.2]
      exact ⟨3, B, 1 + C, (Loc.cnt B (1 + C) _ q.1.1 q.1.2 (by omega) (by omega) (by rw [if_neg (by omega)]; congr 1; omega)).cast (by omega)⟩
    · refine absurd ?_ h
      show p.retF B C = -1
      unfold Pl.retF
      rw [if_neg fun hh => q hh.2]
  · obtain rfl := hC (by omega)
    by_cases q : 0 ≤ B ∧ B < p.n
    · rw [told_st hk q.1 q.2]
      exact ⟨4, B, 0, (Loc.nod B 0 _ q.1 q.2 (by omega) (by omega) (by rw [if_pos rfl])).cast (by omega)⟩
    · refine absurd ?_ h
      show p.stF B = -1
      unfold Pl.stF
      rw [if_neg fun hh => q hh.2]
  · obtain rfl := hC (by omega)
    by_cases q : 0 ≤ B ∧ B < p.n
    · rw [told_nx hk q.1 q.2]
      exact ⟨4, B, 1, Loc.nod B 1 _ q.1 q.2 (by omega) (by omega) (by rw [if_neg (by omega), if_pos rfl])⟩
    · refine absurd ?_ h
      show p.nxF B = -1
      unfold Pl.nxF
      rw [if_neg fun hh => q hh.2]
  · by_cases q : (0 ≤ B ∧ B < p.n) ∧ 0 ≤ C ∧ C < 3
    · rw [told_fd hk q.1.1 q.1.2 q.2.1 q.2.2]
      exact ⟨4, B, 2 + C, (Loc.nod B (2 + C) _ q.1.1 q.1.2 (by omega) (by omega) (by rw [if_neg (by omega), if_neg (by omega)]; congr 1; omega)).cast (by omega)⟩
    · refine absurd ?_ h
      show p.fdF B C = -1
      unfold Pl.fdF
      rw [if_neg fun hh => q hh.2]
/-- What Place answers. -/
def AtSpec (l : List T3) (x : T3) (r : Int) : Prop := (∃ i, i < l.length ∧ tN l i = x ∧ r = (i : Int) ∧ ∀ j, j < i → tN l j ≠ x) ∨ (r = -1 ∧ ∀ i, i < l.length → tN l i ≠ x)
theorem at_told {p : Pl} (hk : p.ok) {l : List T3} (hl : (l.length : Int) = p.sizeF) (hg : GoodL p l) {x : T3} (hd : Wd x) : AtSpec l x (p.toldF x) := by
  by_cases q : ∃ i, i < l.length ∧ tN l i = x
  · obtain ⟨i, hi, e⟩ := q
    have h1 := (hg i hi).1
    rw [e] at h1
    refine .inl ⟨i, hi, e, h1, fun j hj e' => ?_⟩
    have h2 := (hg j (by omega)).1
    rw [e', h1] at h2
    omega
  · refine .inr ⟨?_, fun i hi e => q ⟨i, hi, e⟩⟩
    by_cases h : p.toldF x = -1
    · exact h
    · refine absurd ?_ q
      obtain ⟨s, a, o, hL⟩ := loc_of hk hd h
      have hr := hL.range hk
      have st := Pl.steps hk
      have hs : p.sizeF = p.nod p.n := by unfold Pl.sizeF; rw [if_pos hk]
      have hm0 : 0 ≤ p.toldF x := by omega
      have hm1 : p.toldF x < (l.length : Int) := by omega
      obtain ⟨i, hi⟩ := Int.eq_ofNat_of_zero_le hm0
      refine ⟨i, by omega, ?_⟩
      have h2 := hg i (by omega)
      obtain ⟨s', a', o', hL'⟩ := loc_of hk h2.2 (by rw [h2.1]; omega)
      exact hL'.inj hk hL (by rw [h2.1, hi])
end Go.Proofs.Ytdbbbefkahmneaa
