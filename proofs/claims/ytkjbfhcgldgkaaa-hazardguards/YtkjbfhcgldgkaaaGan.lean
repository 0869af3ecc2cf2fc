/-
  Rows of ints that a call has made itself, at whatever place of their block: they may be cut at both ends, and grow. No conditions but those of each theorem.
-/
import Derived.Test.YtkjbfhcgldgkaaaGam
import Derived.ArgAppend
import Derived.OwnWalk
namespace Go.Proofs.Ytkjbfhcgldgkaaa
open Go Go.RowKit

/-- v is a row of the ints l, nil or in a block of its own, from base on. -/
def IR (base : Nat) (v : Value) (l : List Int) (w : World) : Prop :=
  (v = .slice none 0 0 ∧ l = []) ∨ ∃ g off cap cur, v = .slice (some ⟨g, off, none⟩) l.length cap ∧ base ≤ g ∧ w.heap[g]? = some (.cells cur 3 (0, 0)) ∧ l.length ≤ cap ∧ off + cap ≤ cur.size ∧ ∀ i, i < l.length → cur[off + i]? = some (.int .i64 (iN l i))
theorem IR.nil (base : Nat) (w : World) : IR base (.slice none 0 0) [] w := .inl ⟨rfl, rfl⟩
theorem IR.slice {base : Nat} {v : Value} {l : List Int} {w : World} (h : IR base v l w) : ∃ a cap, v = .slice a l.length cap := by
  rcases h with ⟨rfl, rfl⟩ | ⟨g, off, cap, cur, rfl, _⟩
  · exact ⟨none, 0, rfl⟩
  · exact ⟨_, cap, rfl⟩
theorem IR.is {base : Nat} {v : Value} {l : List Int} {w : World} (h : IR base v l w) : Is w v l := by
  rcases h with ⟨rfl, rfl⟩ | ⟨g, off, cap, cur, rfl, hb, hh, hc, hs, hr⟩
  · exact ⟨none, 0, rfl, Nat.le_refl _, fun h => absurd h (Nat.not_lt_zero _)⟩
  · exact ⟨_, cap, rfl, hc, fun _ => ⟨g, off, rfl, hp_lt hh, fun i hi => cell_at hh (hr i hi)⟩⟩
theorem IR.keep {base : Nat} {v : Value} {l : List Int} {w w' : World} (h : IR base v l w) (hk : ∀ g, v.ownBlock = some g → w'.heap[g]? = w.heap[g]?) : IR base v l w' := by
  rcases h with ⟨rfl, rfl⟩ | ⟨g, off, cap, cur, rfl, hb, hh, hr⟩
  · exact .inl ⟨rfl, rfl⟩
  · exact .inr ⟨g, off, cap, cur, rfl, hb, (hk g rfl).trans hh, hr⟩
theorem IR.own {base : Nat} {v : Value} {l : List Int} {w : World} (h : IR base v l w) {g : Nat} (hg : v.ownBlock = some g) : base ≤ g ∧ ∃ cur, w.heap[g]? = some (.cells cur 3 (0, 0)) := by
  rcases h with ⟨rfl, rfl⟩ | ⟨g', off, cap, cur, rfl, hb, hh, hr⟩
  · cases hg
  · cases hg
    exact ⟨hb, cur, hh⟩
theorem IR.ext {base : Nat} {v : Value} {l : List Int} {w w' : World} (h : IR base v l w) (hx : Ext w w') : IR base v l w' :=
  h.keep fun g hg => by obtain ⟨_, cur, hh⟩ := h.own hg; exact hx.block g (hp_lt hh)
theorem IR.fr {base lo hi : Nat} {v : Value} {l : List Int} {w w' : World} (h : IR base v l w) (hx : Fr lo hi w w') (hb : hi ≤ base) : IR base v l w' :=
  h.keep fun g hg => by obtain ⟨h1, cur, hh⟩ := h.own hg; exact hx.block g (hp_lt hh) (.inr (by omega))
theorem IR.mono {base base' : Nat} {v : Value} {l : List Int} {w : World} (h : IR base v l w) (hb : base' ≤ base) : IR base' v l w := by
  rcases h with ⟨rfl, rfl⟩ | ⟨g, off, cap, cur, rfl, h1, hh, hr⟩
  · exact .inl ⟨rfl, rfl⟩
  · exact .inr ⟨g, off, cap, cur, rfl, by omega, hh, hr⟩
theorem ir_of_own {base : Nat} {v : Value} {l : List Int} {w : World} (h : w.ownsRow base 3 1 v l.length (l.map fun x => Value.int .i64 x)) : IR base v l w := by
  rcases h.2 with ⟨rfl, h2⟩ | ⟨g, cap, cur, rfl, hg, hh, hc, hm, hs, ht⟩
  · exact .inl ⟨rfl, List.eq_nil_of_length_eq_zero h2⟩
  · refine .inr ⟨g, 0, cap, cur, rfl, hg, hh, hc, by omega, fun i hi => ?_⟩
    have h3 : (cur.toList.take (l.length * 1))[i]? = (l.map fun x => Value.int .i64 x)[i]? := by rw [ht]
    rw [List.getElem?_take, if_pos (by omega), Array.getElem?_toList, List.getElem?_map, List.getElem?_eq_getElem hi] at h3
    rw [Nat.zero_add, h3]
    simp [iN, List.getD_eq_getElem?_getD, hi]
theorem iN_snoc_lt (l : List Int) (y : Int) (i : Nat) (h : i < l.length) : iN (l ++ [y]) i = iN l i := by
  simp [iN, List.getD_eq_getElem?_getD, List.getElem?_append_left h]
theorem iN_snoc_eq (l : List Int) (y : Int) : iN (l ++ [y]) l.length = y := by
  simp [iN, List.getD_eq_getElem?_getD]
theorem Try.infoI64 : (Try.prog.info? 3).map (fun i => (i.zero, i.size, i.bytes)) = some (some (.int .i64 0), 1, 8) := by kernel_rfl
/-- One more at the end. -/
theorem wpList_irow {w : World} {ops : Array Oper} {rest : List Oper} {o : Oper} {a : Act} {Q : Exit → Act → World → Prop} (hgd : o.guard = none) (s x : Operand)
    (ho : o.op = .call { callee := .builtin .append, args := #[s, x], argTypes := #[40, 40] }) (base : Nat) (v : Value) (l : List Int) (hs : a.eval s = v) (hI : IR base v l w)
    (ad : Addr) (y : Int) (hx : a.eval x = .slice (some ad) 1 1) (hc : w.cell? ad = some (.int .i64 y)) (hl : l.length ≤ 2000000) (hb : base ≤ w.heap.size)
    (h : ∀ v' w', IR base v' (l ++ [y]) w' → w.grownBy w' v.ownBlock → (v'.ownBlock = v.ownBlock ∨ ∃ g, v'.ownBlock = some g ∧ w.heap.size ≤ g) → wpList Try.prog ops Q rest (a.put o.dst v') w') : wpList Try.prog ops Q (o :: rest) a w := by
  obtain ⟨iU, hiU, hy0, hy1, hy2⟩ : ∃ i, Try.prog.info? 3 = some i ∧ i.zero = some (.int .i64 0) ∧ i.size = 1 ∧ i.bytes = 8 := by
    have h := Try.infoI64
    cases hi : Try.prog.info? 3 with
    | none => rw [hi] at h; cases h
    | some i =>
      rw [hi] at h
      simp at h
      exact ⟨i, rfl, h.1, h.2.1, h.2.2⟩
  have hnews : ∀ j u, ([.int .i64 y] : List Value)[j]? = some u → w.cell? (ad.add j) = some u := by
    intro j u hj
    match j, hj with
    | 0, hj =>
      simp at hj
      subst hj
      have := spot_none' hc
      rw [this, add_at']
      rw [this] at hc
      exact hc
  have h1 : ∀ u ∈ ([.int .i64 y] : List Value), u.oneCell' = true := by
    intro u hu
    simp at hu
    subst hu
    rfl
  have hmap : (l.map fun x => Value.int .i64 x) ++ [.int .i64 y] = (l ++ [y]).map fun x => Value.int .i64 x := by simp
  rcases hI with ⟨rfl, rfl⟩ | ⟨g, off, cap, cur, rfl, hbg, hh, hlc, hoc, hr⟩
  · refine wpList_append_grows w hgd s x 40 ho 3 iU (.int .i64 0) 1 8 Try.underlying40 hiU hy0 hy1 hy2 rfl (by decide) none 0 0 [] hs (fun _ => ⟨rfl, rfl⟩) rfl (fun b hb => by cases hb) ad 1 1 [.int .i64 y] hx rfl hnews h1 (by omega) (by unfold maxLen; omega) (by omega) ?_
    intro v' w' hown hg
    refine h v' w' ((ir_of_own (l := [y]) hown).mono hb) hg ?_
    cases ho' : v'.ownBlock with
    | none => exact .inl rfl
    | some g => exact .inr ⟨g, rfl, (hown.lt g ho').1⟩
  · have holds : ∀ j u, (l.map fun x => Value.int .i64 x)[j]? = some u → w.cell? ⟨g, off + j, none⟩ = some u := by
      intro j u hj
      have hj' : j < l.length := by
        have := (List.getElem?_eq_some_iff.1 hj).1
        simpa using this
      rw [List.getElem?_map, List.getElem?_eq_getElem hj'] at hj
      simp at hj
      refine cell_at hh ((hr j hj').trans ?_)
      rw [← hj]
      simp [iN, List.getD_eq_getElem?_getD, hj']
    refine wpList_append_arg w hgd s x 40 ho 3 iU (.int .i64 0) 1 8 Try.underlying40 hiU hy0 hy1 hy2 rfl (by decide) g off l.length cap _ hs (by simp) holds ad 1 1 [.int .i64 y] hx rfl hnews h1 ?_ (by unfold maxLen; omega) (by omega) ?_ ?_
    · intro hroom j hj
      have hlt : off + l.length * 1 + j < cur.size := by simp at hj; omega
      refine ⟨?_, free_at hh⟩
      rw [cell_at hh (Array.getElem?_eq_getElem hlt)]
      rfl
    · intro hroom
      have e : w.setCells g (off + l.length * 1) [.int .i64 y] = w.setCell ⟨g, off + l.length, none⟩ (.int .i64 y) := by simp [World.setCells]
      rw [e]
      have hh' := set_same (o := off + l.length) (.int .i64 y) hh
      refine h _ _ (.inr ⟨g, off, cap, _, ?_, hbg, hh', ?_, ?_, fun i hi => ?_⟩) ⟨rfl, rfl, rfl, by rw [set_size]; exact Nat.le_refl _, fun k _ hk => set_other _ (fun e => hk (by rw [e]; rfl))⟩ (.inl rfl)
      · simp
      · simp; omega
      · simpa using hoc
      · simp only [List.length_append, List.length_cons, List.length_nil] at hi
        by_cases hi' : i < l.length
        · rw [iN_snoc_lt l y i hi', Array.getElem?_setIfInBounds_ne (by omega)]
          exact hr i hi'
        · obtain rfl : i = l.length := by omega
          rw [iN_snoc_eq, Array.getElem?_setIfInBounds_self_of_lt (by omega)]
    · intro hfull v' w' hown hg
      refine h v' w' ((ir_of_own (l := l ++ [y]) (by rw [← hmap]; simpa using hown)).mono hb) ⟨hg.os, hg.tape, hg.output, hg.size, fun k hk _ => hg.block k hk (by simp)⟩ ?_
      cases ho' : v'.ownBlock with
      | none => 
        exfalso
        rcases hown.2 with ⟨_, h2⟩ | ⟨g', cap', cur', e', _⟩
        · omega
        · rw [e'] at ho'
          cases ho'
      | some g' => exact .inr ⟨g', rfl, (hown.lt g' ho').1⟩
/-- Without its last one; without its first one. -/
theorem IR.init {base g off n cap : Nat} {l : List Int} {y : Int} {w : World} (h : IR base (.slice (some ⟨g, off, none⟩) n cap) (l ++ [y]) w) : IR base (.slice (some ⟨g, off, none⟩) l.length cap) l w := by
  rcases h with ⟨h, _⟩ | ⟨g', off', cap', cur, e, hb, hh, hc, hs, hr⟩
  · cases h
  · simp at e
    obtain ⟨⟨rfl, rfl⟩, _, rfl⟩ := e
    refine .inr ⟨_, _, _, cur, rfl, hb, hh, by simp at hc; omega, hs, fun i hi => ?_⟩
    rw [hr i (by simp; omega), iN_snoc_lt l y i hi]
theorem IR.tail {base g off n cap : Nat} {l : List Int} {y : Int} {w : World} (h : IR base (.slice (some ⟨g, off, none⟩) n cap) (y :: l) w) (off' : Nat) (ho : off' = off + 1 ∨ (cap = 1 ∧ off' = off)) : IR base (.slice (some ⟨g, off', none⟩) l.length (cap - 1)) l w := by
  rcases h with ⟨h, _⟩ | ⟨g', off1, cap', cur, e, hb, hh, hc, hs, hr⟩
  · cases h
  · simp at e
    obtain ⟨⟨rfl, rfl⟩, _, rfl⟩ := e
    simp only [List.length_cons] at hc hr
    refine .inr ⟨_, off', _, cur, rfl, hb, hh, by omega, by omega, fun i hi => ?_⟩
    have := hr (i + 1) (by omega)
    rcases ho with rfl | ⟨rfl, rfl⟩
    · rw [show off + 1 + i = off + (i + 1) by omega, this]
      simp [iN]
    · omega
theorem IR.some {base : Nat} {v : Value} {l : List Int} {w : World} (h : IR base v l w) (hl : 0 < l.length) : ∃ g off cap, v = .slice (some ⟨g, off, none⟩) l.length cap ∧ g < w.heap.size ∧ base ≤ g ∧ l.length ≤ cap ∧ ∀ i, i < l.length → w.cell? ⟨g, off + i, none⟩ = some (.int .i64 (iN l i)) := by
  rcases h with ⟨rfl, rfl⟩ | ⟨g, off, cap, cur, rfl, hb, hh, hc, hs, hr⟩
  · exact absurd hl (Nat.not_lt_zero _)
  · exact ⟨g, off, cap, rfl, hp_lt hh, hb, hc, fun i hi => cell_at hh (hr i hi)⟩
/-- The frames that an append keeps. -/
theorem grown_ext {w0 w w' : World} {v : Value} {base : Nat} {l : List Int} (h : Ext w0 w) (hI : IR base v l w) (hg : w.grownBy w' v.ownBlock) (hb : w0.heap.size ≤ base) : Ext w0 w' :=
  ⟨hg.os.trans h.os, hg.tape.trans h.tape, hg.output.trans h.output, Nat.le_trans h.size hg.size, fun k hk => (hg.block k (Nat.lt_of_lt_of_le hk h.size) (fun e => by have := (hI.own e.symm).1; omega)).trans (h.block k hk)⟩
theorem grown_at {w w' : World} {v : Value} {base k : Nat} {l : List Int} (hI : IR base v l w) (hg : w.grownBy w' v.ownBlock) (hk : k < w.heap.size) (hb : k < base) : w'.heap[k]? = w.heap[k]? :=
  hg.block k hk (fun e => by have := (hI.own e.symm).1; omega)
end Go.Proofs.Ytkjbfhcgldgkaaa
