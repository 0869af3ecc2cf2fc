/-
  A row of words that the reference makes, each at its place. Conditions: those of each theorem.
-/
import Derived.Test.YtdbbbefkahmneaaPlanTold
namespace Go.Proofs.Ytdbbbefkahmneaa
open Go Go.RowKit

theorem Try.infoWord : (Try.prog.info? 25).map (fun i => (i.zero, i.size, i.bytes)) = some (some (.agg #[.int .i64 0, .int .i64 0, .int .i64 0]), 3, 24) := by kernel_rfl
theorem word_info : ∃ i, Try.prog.info? 25 = some i ∧ i.zero = some (.agg #[.int .i64 0, .int .i64 0, .int .i64 0]) ∧ i.size = 3 ∧ i.bytes = 24 := by
  have h := Try.infoWord
  cases hi : Try.prog.info? 25 with
  | none => rw [hi] at h; cases h
  | some i =>
    rw [hi] at h
    simp at h
    exact ⟨i, rfl, h.1, h.2.1, h.2.2⟩

/-- A word by its numbers: those that its sort hasn't are 0. -/
def Wd (x : T3) : Prop := (0 ≤ x.a ∧ x.a ≤ 8) ∧ (x.a = 0 → x.b = 0) ∧ (x.a = 0 ∨ x.a = 1 ∨ x.a = 4 ∨ x.a = 6 ∨ x.a = 7 → x.c = 0)
/-- Each stands at its place. -/
def GoodL (p : Pl) (l : List T3) : Prop := ∀ i, i < l.length → p.toldF (tN l i) = (i : Int) ∧ Wd (tN l i)
theorem GoodL.app {p : Pl} {l : List T3} {x : T3} (h : GoodL p l) (hx : p.toldF x = (l.length : Int)) (hd : Wd x) : GoodL p (l ++ [x]) := by
  intro i hi
  by_cases e : i < l.length
  · rw [tN_app e]; exact h i e
  · obtain rfl : i = l.length := by simp at hi; omega
    rw [tN_last]
    exact ⟨hx, hd⟩
theorem own_ext3 {w w' : World} {base : Nat} {e : TypeId} {size : Nat} {v : Value} {n : Nat} {xs : List Value} (h : w.ownsRow base e size v n xs) (hb : Ext w w') : w'.ownsRow base e size v n xs := by
  obtain ⟨h1, h2⟩ := h
  refine ⟨h1, ?_⟩
  rcases h2 with h2 | ⟨g, cap, cur, hv, hg, hh, r⟩
  · exact .inl h2
  · exact .inr ⟨g, cap, cur, hv, hg, by rw [hb.block g (hp_lt hh)]; exact hh, r⟩
/-- m words, that the call laid since W. -/
def WL (p : Pl) (W : World) (m : Int) (v : Value) (w : World) : Prop :=
  ∃ l : List T3, w.ownsRow W.heap.size 25 3 v l.length (cs3 l) ∧ Ext W w ∧ (l.length : Int) = m ∧ GoodL p l
theorem WL.keep {p : Pl} {W : World} {m : Int} {v : Value} {w w' : World} (h : WL p W m v w) (hx : Ext w w') : WL p W m v w' := by
  obtain ⟨l, h1, h2, h3, h4⟩ := h
  exact ⟨l, own_ext3 h1 hx, ext_trans h2 hx, h3, h4⟩
theorem WL.ext {p : Pl} {W : World} {m : Int} {v : Value} {w : World} (h : WL p W m v w) : Ext W w := by
  obtain ⟨l, h1, h2, h3, h4⟩ := h
  exact h2
/-- An append of one word. -/
theorem wpList_word {p : Pl} {W u w : World} {ops : Array Oper} {rest : List Oper} {o : Oper} {a : Act} {Q : Exit → Act → World → Prop} (hgd : o.guard = none) (s y : Operand)
    (ho : o.op = .call { callee := .builtin .append, args := #[s, y], argTypes := #[32, 32] }) (v : Value) (m : Int) (x : T3) (hs : a.eval s = v) (hv : WL p W m v u)
    (hw : w = u.alloc (.cells #[.int .i64 x.a, .int .i64 x.b, .int .i64 x.c] 25)) (hy : a.eval y = .slice (some ⟨u.heap.size, 0, none⟩) 1 1) (hx : p.toldF x = m) (hd : Wd x) (hm : m ≤ 10000000)
    (h : ∀ v' w', WL p W (m + 1) v' w' → wpList Try.prog ops Q rest (a.put o.dst v') w') : wpList Try.prog ops Q (o :: rest) a w := by
  subst hw
  obtain ⟨l, h1, h2, h3, h4⟩ := hv
  obtain ⟨iW, hi, hz0, hz1, hz2⟩ := word_info
  have hE : Ext W (u.alloc (.cells #[.int .i64 x.a, .int .i64 x.b, .int .i64 x.c] 25)) := ext_alloc _ h2
  have hO := own_ext3 h1 (ext_alloc (.cells #[.int .i64 x.a, .int .i64 x.b, .int .i64 x.c] 25) (ext_refl u))
  refine wpList_append_own _ hgd s y 32 ho W.heap.size 25 iW _ 3 24 Try.underlying32 hi hz0 hz1 hz2 rfl (by decide) v l.length (cs3 l) hs hO ⟨u.heap.size, 0, none⟩ 1 1 x.vs hy rfl (news3 _ x _ _ rfl) (ones3 x) (by unfold maxLen; omega) (by omega) (by have := hE.size; omega) ?_
  intro v' w' hv' hg' _
  rw [cs3_app] at hv'
  refine h v' w' ⟨l ++ [x], by rw [List.length_append]; exact hv', ext_own hE hO hg', by simp [h3], h4.app (by rw [hx, h3]) hd⟩
/-- Of two. -/
theorem wpList_word2 {p : Pl} {W u w : World} {ops : Array Oper} {rest : List Oper} {o : Oper} {a : Act} {Q : Exit → Act → World → Prop} (hgd : o.guard = none) (s y : Operand)
    (ho : o.op = .call { callee := .builtin .append, args := #[s, y], argTypes := #[32, 32] }) (v : Value) (m : Int) (x x' : T3) (hs : a.eval s = v) (hv : WL p W m v u)
    (hw : w = u.alloc (.cells #[.int .i64 x.a, .int .i64 x.b, .int .i64 x.c, .int .i64 x'.a, .int .i64 x'.b, .int .i64 x'.c] 25)) (hy : a.eval y = .slice (some ⟨u.heap.size, 0, none⟩) 2 2) (hx : p.toldF x = m) (hx' : p.toldF x' = m + 1) (hd : Wd x) (hd' : Wd x') (hm : m ≤ 10000000)
    (h : ∀ v' w', WL p W (m + 2) v' w' → wpList Try.prog ops Q rest (a.put o.dst v') w') : wpList Try.prog ops Q (o :: rest) a w := by
  subst hw
  obtain ⟨l, h1, h2, h3, h4⟩ := hv
  obtain ⟨iW, hi, hz0, hz1, hz2⟩ := word_info
  have hE : Ext W (u.alloc (.cells #[.int .i64 x.a, .int .i64 x.b, .int .i64 x.c, .int .i64 x'.a, .int .i64 x'.b, .int .i64 x'.c] 25)) := ext_alloc _ h2
  have hO := own_ext3 h1 (ext_alloc (.cells #[.int .i64 x.a, .int .i64 x.b, .int .i64 x.c, .int .i64 x'.a, .int .i64 x'.b, .int .i64 x'.c] 25) (ext_refl u))
  refine wpList_append_own _ hgd s y 32 ho W.heap.size 25 iW _ 3 24 Try.underlying32 hi hz0 hz1 hz2 rfl (by decide) v l.length (cs3 l) hs hO ⟨u.heap.size, 0, none⟩ 2 2 (x.vs ++ x'.vs) hy rfl (news33 _ x x' _ _ rfl) (ones33 x x') (by unfold maxLen; omega) (by omega) (by have := hE.size; omega) ?_
  intro v' w' hv' hg' _
  rw [← List.append_assoc, cs3_app, cs3_app] at hv'
  refine h v' w' ⟨l ++ [x] ++ [x'], by rw [List.length_append, List.length_append]; exact hv', ext_own hE hO hg', by simp; omega, (h4.app (by rw [hx, h3]) hd).app (by rw [hx', ← h3]; simp) hd'⟩

/-! The places of the words, one by one. -/
section
variable {p : Pl} (h : p.ok) {x : Int} (h0 : 0 ≤ x)
include h h0
theorem told_kind (h1 : x < p.d) : p.toldF ⟨1, x, 0⟩ = p.dom x := by
  show p.kindF x = _
  unfold Pl.kindF
  rw [if_pos ⟨h, h0, h1⟩]
theorem told_cell (h1 : x < p.d) {i : Int} (h2 : 0 ≤ i) (h3 : i < p.c) : p.toldF ⟨2, x, i⟩ = p.dom x + 1 + i := by
  show p.cellF x i = _
  unfold Pl.cellF
  rw [if_pos ⟨h, ⟨h0, h1⟩, h2, h3⟩]
theorem told_haz (h1 : x < p.t) {i : Int} (h2 : 0 ≤ i) (h3 : i < 3) : p.toldF ⟨3, x, i⟩ = p.haz x + i := by
  show p.hazF x i = _
  unfold Pl.hazF
  rw [if_pos ⟨h, ⟨h0, h1⟩, h2, h3⟩]
theorem told_cnt (h1 : x < p.t) : p.toldF ⟨4, x, 0⟩ = p.cnt x := by
  show p.cntF x = _
  unfold Pl.cntF
  rw [if_pos ⟨h, h0, h1⟩]
theorem told_ret (h1 : x < p.t) {i : Int} (h2 : 0 ≤ i) (h3 : i < p.r) : p.toldF ⟨5, x, i⟩ = p.cnt x + 1 + i := by
  show p.retF x i = _
  unfold Pl.retF
  rw [if_pos ⟨h, ⟨h0, h1⟩, h2, h3⟩]
theorem told_st (h1 : x < p.n) : p.toldF ⟨6, x, 0⟩ = p.nod x := by
  show p.stF x = _
  unfold Pl.stF
  rw [if_pos ⟨h, h0, h1⟩]
theorem told_nx (h1 : x < p.n) : p.toldF ⟨7, x, 0⟩ = p.nod x + 1 := by
  show p.nxF x = _
  unfold Pl.nxF
  rw [if_pos ⟨h, h0, h1⟩]
theorem told_fd (h1 : x < p.n) {i : Int} (h2 : 0 ≤ i) (h3 : i < 3) : p.toldF ⟨8, x, i⟩ = p.nod x + 2 + i := by
  show p.fdF x i = _
  unfold Pl.fdF
  rw [if_pos ⟨h, ⟨h0, h1⟩, h2, h3⟩]
end
theorem told_head {p : Pl} (h : p.ok) : p.toldF ⟨0, 0, 0⟩ = 0 := by
  show p.headF = _
  unfold Pl.headF
  rw [if_pos h]
theorem Pl.dom_succ (p : Pl) (x : Int) : p.dom (x + 1) = p.dom x + 1 + p.c := by unfold Pl.dom; rw [Int.add_mul]; omega
theorem Pl.haz_succ (p : Pl) (x : Int) : p.haz (x + 1) = p.haz x + 3 := by unfold Pl.haz; omega
theorem Pl.cnt_succ (p : Pl) (x : Int) : p.cnt (x + 1) = p.cnt x + 1 + p.r := by unfold Pl.cnt; rw [Int.add_mul]; omega
theorem Pl.nod_succ (p : Pl) (x : Int) : p.nod (x + 1) = p.nod x + 2 + 3 := by unfold Pl.nod; omega
theorem Pl.dom0 (p : Pl) : p.dom 0 = 1 := by unfold Pl.dom; omega
theorem Pl.haz0 (p : Pl) : p.haz 0 = p.dom p.d := by unfold Pl.haz; omega
theorem Pl.cnt0 (p : Pl) : p.cnt 0 = p.haz p.t := by unfold Pl.cnt; omega
theorem Pl.nod0 (p : Pl) : p.nod 0 = p.cnt p.t := by unfold Pl.nod; omega
end Go.Proofs.Ytdbbbefkahmneaa
