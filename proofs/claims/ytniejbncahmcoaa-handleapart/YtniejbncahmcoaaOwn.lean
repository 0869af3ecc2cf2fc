/-
  Rows that a call has made itself, read as lists of fields and of words; and what Pack makes of a layout, bit by bit. No conditions.
-/
import Derived.Test.YtniejbncahmcoaaFs
namespace Go.Proofs.Ytniejbncahmcoaa
open Go Go.RowKit

/-- What a row owns it owns where nothing old has turned. -/
theorem own_ext {w w' : World} {base : Nat} {e : TypeId} {size : Nat} {v : Value} {n : Nat} {xs : List Value} (h : w.ownsRow base e size v n xs) (hb : Ext w w') : w'.ownsRow base e size v n xs := by
  obtain ⟨h1, h2⟩ := h
  refine ⟨h1, ?_⟩
  rcases h2 with h2 | ⟨g, cap, cur, hv, hg, hh, r⟩
  · exact .inl h2
  · have hlt : g < w.heap.size := (Array.getElem?_eq_some_iff.1 hh).1
    exact .inr ⟨g, cap, cur, hv, hg, by rw [hb.block g hlt]; exact hh, r⟩
/-- Rows of different types lie apart. -/
theorem own_apart {w w' : World} {base base' : Nat} {e e' : TypeId} {size size' : Nat} {v v' : Value} {n n' : Nat} {xs xs' : List Value} (h : w.ownsRow base e size v n xs) (h' : w.ownsRow base' e' size' v' n' xs')
    (hne : e ≠ e') (hg : w.grownBy w' v'.ownBlock) : w'.ownsRow base e size v n xs := by
  refine h.kept hg ?_
  rcases h.2 with ⟨rfl, _⟩ | ⟨g, cap, cur, rfl, _, hh, _⟩
  · exact .inl rfl
  · refine .inr fun hb => ?_
    rcases h'.2 with ⟨rfl, _⟩ | ⟨g', cap', cur', rfl, _, hh', _⟩
    · simp [Value.ownBlock] at hb
    · simp [Value.ownBlock] at hb
      subst hb
      rw [hh] at hh'
      simp at hh'
      exact hne hh'.2
theorem ext_grown {w u u' : World} {base : Nat} {e : TypeId} {size : Nat} {v : Value} {n : Nat} {xs : List Value} (h : Ext w u) (ho : u.ownsRow base e size v n xs) (hbase : w.heap.size ≤ base) (hg : u.grownBy u' v.ownBlock) : Ext w u' :=
  h.grown hg h.size fun k hk => Nat.le_trans hbase (ho.lt k hk).1
theorem ext_grown0 {w u u' : World} (h : Ext w u) (hg : u.grownBy u' none) : Ext w u' := h.grown hg h.size fun k hk => by cases hk

/-- The cells of a field, of a word. -/
def F2 (p : Int × Int) : List Value := [.int .i64 p.1, .int .i64 p.2]
def WU (x : BitVec 64) : Value := .int .u64 (U x)

theorem flat_len (l : List (Int × Int)) : (l.flatMap F2).length = l.length * 2 := by
  induction l with
  | nil => rfl
  | cons p l ih => rw [List.flatMap_cons, List.length_append, ih]; simp [F2]; omega
theorem flat_get (l : List (Int × Int)) : ∀ i, i < l.length → (l.flatMap F2)[i * 2]? = some (.int .i64 (fA l i)) ∧ (l.flatMap F2)[i * 2 + 1]? = some (.int .i64 (fB l i)) := by
  induction l with
  | nil => intro i hi; exact absurd hi (Nat.not_lt_zero _)
  | cons p l ih =>
    intro i hi
    rw [List.flatMap_cons]
    cases i with
    | zero => simp [F2, fA, fB]
    | succ k =>
      have h := ih k (by simpa using hi)
      have e1 : (k + 1) * 2 = 2 + k * 2 := by omega
      rw [e1, List.getElem?_append_right (by simp [F2]), show 2 + k * 2 + 1 = 2 + (k * 2 + 1) by omega, List.getElem?_append_right (by simp [F2])]
      simp only [F2, List.length_cons, List.length_nil, Nat.zero_add, Nat.reduceAdd, Nat.add_sub_cancel_left]
      exact h

/-- What an append of one element lays in a block of its own first. -/
theorem news1 (w : World) (x : Value) (t : TypeId) : ∀ j u, [x][j]? = some u → (w.alloc (.cells #[x] t)).cell? ((⟨w.heap.size, 0, none⟩ : Addr).add j) = some u := by
  intro j u hj
  match j, hj with
  | 0, hj => simp at hj; subst hj; simp [Addr.add]
theorem news2 (w : World) (x y : Value) (t : TypeId) : ∀ j u, [x, y][j]? = some u → (w.alloc (.cells #[x, y] t)).cell? ((⟨w.heap.size, 0, none⟩ : Addr).add j) = some u := by
  intro j u hj
  match j, hj with
  | 0, hj => simp at hj; subst hj; simp [Addr.add]
  | 1, hj => simp at hj; subst hj; simp [Addr.add]
theorem ints1 (k : IntKind) (x : Int) : ∀ u ∈ [Value.int k x], u.oneCell' = true := by
  intro u hu; simp at hu; subst hu; rfl
theorem ints2 (k : IntKind) (x y : Int) : ∀ u ∈ [Value.int k x, Value.int k y], u.oneCell' = true := by
  intro u hu; simp at hu; rcases hu with rfl | rfl <;> rfl
theorem flat_snoc (l : List (Int × Int)) (d : Nat) (h : d < l.length) : (l.take d).flatMap F2 ++ [.int .i64 (fA l d), .int .i64 (fB l d)] = (l.take (d + 1)).flatMap F2 := by
  rw [List.take_succ_eq_append_getElem h, List.flatMap_append]
  congr 1
  unfold fA fB F2
  rw [List.getD_eq_getElem?_getD, List.getElem?_eq_getElem h]
  simp
theorem map_snoc (l : List (BitVec 64)) (d : Nat) (h : d < l.length) : (l.take d).map WU ++ [.int .u64 (U (uN l d))] = (l.take (d + 1)).map WU := by
  rw [List.take_succ_eq_append_getElem h, List.map_append]
  congr 1
  unfold uN WU
  rw [List.getD_eq_getElem?_getD, List.getElem?_eq_getElem h]
  simp

theorem us_of_own {w : World} {base : Nat} {e : TypeId} {v : Value} {l : List (BitVec 64)} (h : w.ownsRow base e 1 v l.length (l.map WU)) : Us w v l := by
  obtain ⟨h1, h2⟩ := h
  rcases h2 with ⟨rfl, hn⟩ | ⟨g, cap, cur, rfl, hg, hh, hc, hm, hs, ht⟩
  · have : l = [] := List.eq_nil_of_length_eq_zero hn
    subst this
    exact ⟨none, 0, rfl, Nat.le_refl _, fun h => absurd h (Nat.not_lt_zero _)⟩
  · refine ⟨some ⟨g, 0, none⟩, cap, rfl, hc, fun _ => ⟨g, 0, rfl, (Array.getElem?_eq_some_iff.1 hh).1, fun i hi => ?_⟩⟩
    rw [cell_of_row w g (0 + i) cur e (0, 0) hh, Nat.zero_add]
    have h3 : (cur.toList.take (l.length * 1))[i]? = (l.map WU)[i]? := by rw [ht]
    rw [List.getElem?_take, if_pos (by omega), List.getElem?_map] at h3
    rw [← Array.getElem?_toList, h3, List.getElem?_eq_getElem hi]
    unfold uN WU
    rw [List.getD_eq_getElem?_getD, List.getElem?_eq_getElem hi]
    rfl
theorem fs_of_own {w : World} {base : Nat} {e : TypeId} {v : Value} {l : List (Int × Int)} (h : w.ownsRow base e 2 v l.length (l.flatMap F2)) : Fs w v l := by
  obtain ⟨h1, h2⟩ := h
  rcases h2 with ⟨rfl, hn⟩ | ⟨g, cap, cur, rfl, hg, hh, hc, hm, hs, ht⟩
  · have : l = [] := List.eq_nil_of_length_eq_zero hn
    subst this
    exact ⟨none, 0, rfl, Nat.le_refl _, fun h => absurd h (Nat.not_lt_zero _)⟩
  · refine ⟨some ⟨g, 0, none⟩, cap, rfl, hc, fun _ => ⟨g, 0, rfl, (Array.getElem?_eq_some_iff.1 hh).1, fun i hi => ?_⟩⟩
    have key : ∀ j, j < l.length * 2 → w.cell? ⟨g, 0 + j, none⟩ = (l.flatMap F2)[j]? := fun j hj => by
      rw [cell_of_row w g (0 + j) cur e (0, 0) hh, Nat.zero_add, ← Array.getElem?_toList, ← ht, List.getElem?_take, if_pos hj]
    have := flat_get l i hi
    rw [key (i * 2) (by omega), show 0 + i * 2 + 1 = 0 + (i * 2 + 1) by omega, key (i * 2 + 1) (by omega)]
    exact this

/-! ### What Pack makes, bit by bit -/

/-- The bit i lies in the j-th field. -/
def In (l : List (Int × Int)) (j i : Nat) : Prop := fA l j ≤ i ∧ (i : Int) < fA l j + fB l j

theorem packTo_bit (l : List (Int × Int)) (v : List (BitVec 64)) (i : Nat) (hi : i < 64) : ∀ k, LayTo l k →
    (∀ j, j < k → In l j i → (packTo l v k).getLsbD i = (uN v j).getLsbD (i - (fA l j).toNat)) ∧ ((∀ j, j < k → ¬ In l j i) → (packTo l v k).getLsbD i = false)
  | 0, _ => ⟨fun j hj => absurd hj (Nat.not_lt_zero _), fun _ => by simp [packTo]⟩
  | k + 1, h => by
    have ih := packTo_bit l v i hi k (h.mono (by omega))
    have hk := h k (by omega)
    unfold packTo
    rw [putN_bit _ _ _ _ i hk.1 hi]
    constructor
    · intro j hj hin
      by_cases e : j = k
      · subst e; exact if_pos hin
      · rw [if_neg ?_]
        · exact ih.1 j (by omega) hin
        · intro hin'
          refine hk.2 j (by omega) ?_
          have h1 := (h j hj).1
          have h2 := hk.1
          unfold Meet
          unfold In at hin
          omega
    · intro hno
      have hk' : ¬ (fA l k ≤ i ∧ (i : Int) < fA l k + fB l k) := hno k (by omega)
      rw [if_neg hk']
      exact ih.2 fun j hj => hno j (by omega)

/-- Two layouts of the same fields in some order, with their numbers: the same word. -/
theorem packTo_same (l l' : List (Int × Int)) (v v' : List (BitVec 64)) (n : Nat) (f : Nat → Nat) (g : Nat → Nat) (h : LayTo l n) (h' : LayTo l' n)
    (hf : ∀ j, j < n → f j < n ∧ fA l' j = fA l (f j) ∧ fB l' j = fB l (f j) ∧ uN v' j = uN v (f j)) (hg : ∀ j, j < n → g j < n ∧ f (g j) = j) : packTo l' v' n = packTo l v n := by
  apply bv_eq; intro i hi
  have p := packTo_bit l v i hi n h
  have p' := packTo_bit l' v' i hi n h'
  by_cases c : ∃ j, j < n ∧ In l' j i
  · obtain ⟨j, hj, hin⟩ := c
    obtain ⟨f1, f2, f3, f4⟩ := hf j hj
    rw [p'.1 j hj hin, p.1 (f j) f1 (by unfold In at *; rw [← f2, ← f3]; exact hin), f2, f4]
  · rw [p'.2 fun j hj hin => c ⟨j, hj, hin⟩, p.2 fun j hj hin => ?_]
    obtain ⟨g1, g2⟩ := hg j hj
    obtain ⟨f1, f2, f3, f4⟩ := hf (g j) g1
    refine c ⟨g j, g1, ?_⟩
    unfold In at *
    rw [f2, f3, g2]
    exact hin

theorem fA_rev (l : List (Int × Int)) (j : Nat) (h : j < l.length) : fA l.reverse j = fA l (l.length - 1 - j) ∧ fB l.reverse j = fB l (l.length - 1 - j) := by
  unfold fA fB
  rw [List.getD_eq_getElem?_getD, List.getD_eq_getElem?_getD, List.getElem?_reverse h]
  exact ⟨rfl, rfl⟩
theorem uN_rev (l : List (BitVec 64)) (j : Nat) (h : j < l.length) : uN l.reverse j = uN l (l.length - 1 - j) := by
  unfold uN
  rw [List.getD_eq_getElem?_getD, List.getD_eq_getElem?_getD, List.getElem?_reverse h]
theorem lay_rev (l : List (Int × Int)) (h : LayF l) : LayF l.reverse := by
  intro i hi
  simp at hi
  rw [(fA_rev l i hi).1, (fA_rev l i hi).2]
  refine ⟨(h _ (by omega)).1, fun j hj hm => ?_⟩
  rw [(fA_rev l j (by omega)).1, (fA_rev l j (by omega)).2] at hm
  exact (h (l.length - 1 - j) (by omega)).2 (l.length - 1 - i) (by omega) ⟨hm.2, hm.1⟩
theorem fit_rev (l : List (Int × Int)) (v : List (BitVec 64)) (e : l.length = v.length) (h : FitTo l v l.length) : FitTo l.reverse v.reverse l.reverse.length := by
  intro i hi
  simp at hi
  rw [(fA_rev l i hi).2, uN_rev v i (by omega), e]
  exact h _ (by omega)
theorem packOk_rev (l : List (Int × Int)) (v : List (BitVec 64)) (h : PackOk l v) : PackOk l.reverse v.reverse :=
  ⟨lay_rev l h.1, by simp [h.2.1], fit_rev l v h.2.1 h.2.2⟩
theorem packTo_rev (l : List (Int × Int)) (v : List (BitVec 64)) (h : LayF l) (e : l.length = v.length) : packTo l.reverse v.reverse l.reverse.length = packTo l v l.length := by
  rw [List.length_reverse]
  have h' := lay_rev l h
  unfold LayF at h'
  rw [List.length_reverse] at h'
  refine packTo_same l l.reverse v v.reverse l.length (fun j => l.length - 1 - j) (fun j => l.length - 1 - j) h h' (fun j hj => ⟨by omega, (fA_rev l j hj).1, (fA_rev l j hj).2, ?_⟩) (fun j hj => ⟨by omega, by omega⟩)
  rw [uN_rev v j (by omega), e]
theorem packSpec_rev (l : List (Int × Int)) (v : List (BitVec 64)) (x : BitVec 64) (e : Int) (hl : l.length = v.length) (h : PackSpec l v x e) : PackSpec l.reverse v.reverse x e := by
  constructor
  · intro ok
    have ok' := packOk_rev _ _ ok
    rw [List.reverse_reverse, List.reverse_reverse] at ok'
    rw [packTo_rev l v ok'.1 hl]
    exact h.1 ok'
  · intro no
    exact h.2 fun ok => no (packOk_rev _ _ ok)

end Go.Proofs.Ytniejbncahmcoaa
