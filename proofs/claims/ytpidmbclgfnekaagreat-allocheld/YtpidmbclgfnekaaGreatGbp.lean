/-
  Arguments that are slices of what holds slices, read leaf by leaf. No conditions.
-/
import Derived.Test.YtpidmbclgfnekaaGreatGbo
import Derived.ChangeArms
import Derived.Maps.AppendAt
namespace Go.Proofs.YtpidmbclgfnekaaGreat
open Go Go.ChangeShapes Go.WideShapes Go.RowKit

/-- The type of the j-th cell, where that is a leaf of one cell. -/
def leafAt (P : Program) : Nat → TypeId → Nat → Option TypeId
  | 0, _, _ => none
  | f + 1, t, j => match P.underlying t with
    | some (.int _) => if j = 0 then some t else none
    | some .bool => if j = 0 then some t else none
    | some .string => if j = 0 then some t else none
    | some (.slice _) => if j = 0 then some t else none
    | some (.struct fs) => match fs.toList.find? fun x => decide (x.offset ≤ j) && decide (j < x.offset + P.cellsOf x.type) with
      | some x => leafAt P f x.type (j - x.offset)
      | none => none
    | _ => none

section
variable {H : Type} {enc : TypeId × Value → H} {P : Program} {w : World} {base : Nat} {held : Bool}
theorem leaf_trod : ∀ (f : Nat) {t e : TypeId} {j : Nat} {fuel : Nat} {cs : List Value} {x : DataW H × List MemPlace}, leafAt P f t j = some e → DataW.trod enc P w base (fun _ => true) held fuel t cs = some x →
    ∃ v fuel' y, cs[j]? = some v ∧ DataW.trod enc P w base (fun _ => true) held fuel' e [v] = some y
  | 0, t, e, j, fuel, cs, x, hk, h => by cases hk
  | f + 1, t, e, j, fuel, cs, x, hk, h => by
    unfold leafAt at hk
    split at hk
    · rename_i k' hu
      split at hk
      · rename_i hj
        obtain rfl : t = e := by simpa using hk
        subst hj
        obtain ⟨n, rfl, _, hw⟩ := DataW.trod_int hu h
        exact ⟨_, fuel, x, rfl, h⟩
      · cases hk
    · rename_i hu
      split at hk
      · rename_i hj
        obtain rfl : t = e := by simpa using hk
        subst hj
        obtain ⟨b, rfl, _⟩ := DataW.trod_bool hu h
        exact ⟨_, fuel, x, rfl, h⟩
      · cases hk
    · rename_i hu
      split at hk
      · rename_i hj
        obtain rfl : t = e := by simpa using hk
        subst hj
        obtain ⟨s, rfl, _⟩ := DataW.trod_string hu h
        exact ⟨_, fuel, x, rfl, h⟩
      · cases hk
    · rename_i e' hu
      split at hk
      · rename_i hj
        obtain rfl : t = e := by simpa using hk
        subst hj
        rcases Deep.open_slice hu h with ⟨rfl, _⟩ | ⟨a, len', cap', m, n, D, Pl, rfl, _⟩
        · exact ⟨_, fuel, x, rfl, h⟩
        · exact ⟨_, fuel, x, rfl, h⟩
      · cases hk
    · rename_i fs hu
      split at hk
      · rename_i y hy
        have hp := List.find?_some hy
        simp only [Bool.and_eq_true, decide_eq_true_eq] at hp
        obtain ⟨i, hi, hie⟩ := List.getElem_of_mem (List.mem_of_find?_eq_some hy)
        obtain ⟨xs, n', _, _, _, hxl, hfs⟩ := DataW.trod_struct hu h
        have hi' : i < fs.size := by simpa using hi
        have hf := hfs i y (by rw [← Array.getElem?_toList, List.getElem?_eq_getElem hi, hie])
        rw [List.getElem?_eq_getElem (by omega)] at hf
        obtain ⟨n, fuel', z, hn, hw⟩ := leaf_trod f hk hf
        refine ⟨n, fuel', z, ?_, hw⟩
        rw [List.getElem?_take] at hn
        split at hn
        · rw [List.getElem?_drop, show y.offset + (j - y.offset) = j by omega] at hn
          exact hn
        · cases hn
      · cases hk
    · cases hk

/-- The value v is a slice of n records of c leaves; x i j: the j-th of the i-th; its type T j reads there. -/
def Nv (enc : TypeId × Value → H) (P : Program) (base : Nat) (held : Bool) (c : Nat) (T : Nat → TypeId) (w : World) (v : Value) (n : Nat) (x : Nat → Nat → Value) : Prop :=
  ∃ a0 cap, v = .slice a0 n cap ∧ n ≤ cap ∧ (0 < n → ∃ b off, a0 = some ⟨b, off, none⟩ ∧ b < w.heap.size ∧
    ∀ i, i < n → ∀ j, j < c → w.cell? ⟨b, off + i * c + j, none⟩ = some (x i j) ∧ ∃ fuel y, DataW.trod enc P w base (fun _ => true) held fuel (T j) [x i j] = some y)
/-- A slice, of which one cell is known. -/
theorem nv_of_trod1 {t e : TypeId} {v : Value} {fuel : Nat} {y : DataW H × List MemPlace} (c : Nat) (T : Nat → TypeId) (ht : P.underlying t = some (.slice e)) (hc : P.cellsOf e = c) (hpos : 0 < c)
    (hk : ((List.range c).all fun j => decide (leafAt P 6 e j = some (T j))) = true) (hf : DataW.trod enc P w base (fun _ => true) held fuel t [v] = some y) : ∃ n x, Nv enc P base held c T w v n x := by
  have hk' : ∀ j, j < c → leafAt P 6 e j = some (T j) := fun j hj => of_decide_eq_true (List.all_eq_true.1 hk j (List.mem_range.2 hj))
  rcases Deep.open_slice ht hf with ⟨hcs, _⟩ | ⟨a, len, cap, m, n, D, Pl, hcs, _, hl, _, hmm, _, hi⟩
  · simp at hcs
    subst hcs
    exact ⟨0, fun _ _ => .bool false, none, 0, rfl, Nat.le_refl _, fun h => absurd h (Nat.not_lt_zero _)⟩
  · simp at hcs
    subst hcs
    simp at hmm
    have each : ∀ i j, ∃ u : Value, i < len → j < c → w.cell? ((a.add (i * c)).add j) = some u ∧ ∃ fuel y, DataW.trod enc P w base (fun _ => true) held fuel (T j) [u] = some y := fun i j => by
      by_cases hlt : i < len ∧ j < c
      · obtain ⟨cs', hcc, htr⟩ := hi i (by omega)
        rw [hc] at hcc
        obtain ⟨_, hcl, hat⟩ := World.cells?_some hcc
        obtain ⟨u, fuel', z, hy, hw⟩ := leaf_trod 6 (hk' j hlt.2) htr
        refine ⟨u, fun _ _ => ⟨?_, fuel', z, hw⟩⟩
        have h1 := hat j (by omega)
        rw [h1, hy]
      · exact ⟨.bool false, fun h1 h2 => absurd ⟨h1, h2⟩ hlt⟩
    obtain ⟨x, hg⟩ := Classical.axiomOfChoice fun i => Classical.axiomOfChoice (each i)
    by_cases hp : 0 < len
    · have h0 := (hg 0 0 hp hpos).1
      have ha : (a.add (0 * c)).add 0 = a := by unfold Addr.add; simp
      rw [ha] at h0
      have hsp := spot_none' h0
      refine ⟨len, x, some a, cap, rfl, hl, fun _ => ⟨a.block, a.off, by rw [← hsp], World.block_lt_of_cell? w a h0, fun i hi' j hj => ?_⟩⟩
      have h1 := hg i j hi' hj
      rw [hsp, add_at', add_at'] at h1
      exact h1
    · obtain rfl : len = 0 := by omega
      exact ⟨0, fun _ _ => .bool false, some a, cap, rfl, hl, fun h => absurd h (Nat.not_lt_zero _)⟩
theorem nv_of_trod {r : Reach} {b0 : Nat} {t e : TypeId} {v : Value} {d : DataW H} {p : List MemPlace} (c : Nat) (T : Nat → TypeId) (ht : P.underlying t = some (.slice e)) (hc : P.cellsOf e = c) (hpos : 0 < c)
    (hk : ((List.range c).all fun j => decide (leafAt P 6 e j = some (T j))) = true)
    (hv : Value.okWide P w r b0 t v) (h : DataW.Trod enc P w base (fun _ => true) held t v d p) : ∃ n x, Nv enc P base held c T w v n x := by
  obtain ⟨a0, len, cap, rfl⟩ := okWide_slice ht hv
  obtain ⟨fuel, hf⟩ := h
  exact nv_of_trod1 c T ht hc hpos hk (by simpa [Value.cells] using hf)
/-- A leaf that is an integer, a bool. -/
theorem leaf_int {t : TypeId} {k : IntKind} {u : Value} {fuel : Nat} {y : DataW H × List MemPlace} (ht : P.underlying t = some (.int k)) (h : DataW.trod enc P w base (fun _ => true) held fuel t [u] = some y) : ∃ n, u = .int k n ∧ (Lit.int k n).wf = true := by
  obtain ⟨n, hn, _, hw⟩ := DataW.trod_int ht h
  simp at hn
  exact ⟨n, hn, hw⟩
theorem leaf_bool {t : TypeId} {u : Value} {fuel : Nat} {y : DataW H × List MemPlace} (ht : P.underlying t = some .bool) (h : DataW.trod enc P w base (fun _ => true) held fuel t [u] = some y) : ∃ b, u = .bool b := by
  obtain ⟨b, hn, _⟩ := DataW.trod_bool ht h
  simp at hn
  exact ⟨b, hn⟩
/-- A slice of records of integers, of which all leaves are integers. -/
theorem rs_of_nv {c : Nat} {T : Nat → TypeId} {kd : Nat → IntKind} {v : Value} {n : Nat} {x : Nat → Nat → Value} (hT : ∀ j, j < c → P.underlying (T j) = some (.int (kd j))) (h : Nv enc P base held c T w v n x) : ∃ z, Rs c kd w v n z := by
  obtain ⟨a0, cap, e, hc, hr⟩ := h
  by_cases hp : 0 < n
  · obtain ⟨b, off, ea, hb, hcell⟩ := hr hp
    have each : ∀ i j, ∃ z : Int, i < n → j < c → x i j = .int (kd j) z ∧ (Lit.int (kd j) z).wf = true := fun i j => by
      by_cases hlt : i < n ∧ j < c
      · obtain ⟨_, fuel, y, hy⟩ := hcell i hlt.1 j hlt.2
        obtain ⟨z, hz, hw⟩ := leaf_int (hT j hlt.2) hy
        exact ⟨z, fun _ _ => ⟨hz, hw⟩⟩
      · exact ⟨0, fun h1 h2 => absurd ⟨h1, h2⟩ hlt⟩
    obtain ⟨z, hz⟩ := Classical.axiomOfChoice fun i => Classical.axiomOfChoice (each i)
    refine ⟨z, a0, cap, e, hc, fun _ => ⟨b, off, ea, hb, fun i hi j hj => ?_⟩⟩
    rw [(hcell i hi j hj).1, (hz i j hi hj).1]
    exact ⟨rfl, (hz i j hi hj).2⟩
  · exact ⟨fun _ _ => 0, a0, cap, e, hc, fun h => absurd h hp⟩
end
end Go.Proofs.YtpidmbclgfnekaaGreat

/-
  Slices of bools, read as lists, and the opening of such arguments. No conditions.
-/
namespace Go.Proofs.YtpidmbclgfnekaaGreat
open Go Go.ChangeShapes Go.WideShapes Go.RowKit

/-- A slice of bools. -/
def bN (l : List Bool) (i : Nat) : Bool := l.getD i false
def Bs (w : World) (v : Value) (l : List Bool) : Prop :=
  ∃ a0 cap, v = .slice a0 l.length cap ∧ l.length ≤ cap ∧ (0 < l.length → ∃ b off, a0 = some ⟨b, off, none⟩ ∧ b < w.heap.size ∧ ∀ i, i < l.length → w.cell? ⟨b, off + i, none⟩ = some (.bool (bN l i)))
theorem Bs.ext {w w' : World} {v : Value} {l : List Bool} (h : Bs w v l) (hb : Ext w w') : Bs w' v l := by
  obtain ⟨a0, cap, e, hc, hr⟩ := h
  refine ⟨a0, cap, e, hc, fun hl => ?_⟩
  obtain ⟨b, off, ea, hlt, hcell⟩ := hr hl
  exact ⟨b, off, ea, Nat.lt_of_lt_of_le hlt hb.size, fun i hi => ext_cell hb (hcell i hi)⟩
theorem Bs.at {w : World} {a0 : Option Addr} {n cap : Nat} {l : List Bool} (h : Bs w (.slice a0 n cap) l) {i : Nat} (hi : i < l.length) : ∃ b off, a0 = some ⟨b, off, none⟩ ∧ b < w.heap.size ∧ w.cell? ⟨b, off + i, none⟩ = some (.bool (bN l i)) := by
  obtain ⟨a, c, e, _, hr⟩ := h
  simp at e
  obtain ⟨rfl, rfl, rfl⟩ := e
  obtain ⟨b, off, e, hlt, hc⟩ := hr (by omega)
  exact ⟨b, off, e, hlt, hc i hi⟩
section
variable {H : Type} {enc : TypeId × Value → H} {P : Program} {w : World} {base : Nat} {held : Bool}
theorem bs_of_nv {v : Value} {n : Nat} {x : Nat → Nat → Value} {T : Nat → TypeId} (hT : P.underlying (T 0) = some .bool) (h : Nv enc P base held 1 T w v n x) : ∃ l, Bs w v l := by
  obtain ⟨a0, cap, e, hc, hr⟩ := h
  by_cases hp : 0 < n
  · obtain ⟨b, off, ea, hb, hcell⟩ := hr hp
    have each : ∀ i, ∃ z : Bool, i < n → x i 0 = .bool z := fun i => by
      by_cases hlt : i < n
      · obtain ⟨_, fuel, y, hy⟩ := hcell i hlt 0 (by omega)
        obtain ⟨z, hz⟩ := leaf_bool hT hy
        exact ⟨z, fun _ => hz⟩
      · exact ⟨false, fun h1 => absurd h1 hlt⟩
    obtain ⟨z, hz⟩ := Classical.axiomOfChoice each
    refine ⟨(List.range n).map z, a0, cap, by simpa using e, by simpa using hc, fun _ => ⟨b, off, ea, hb, fun i hi => ?_⟩⟩
    have hi' : i < n := by simpa using hi
    have h1 := (hcell i hi' 0 (by omega)).1
    rw [Nat.mul_one, Nat.add_zero, hz i hi'] at h1
    rw [h1]
    unfold bN
    rw [List.getD_eq_getElem?_getD, List.getElem?_map, List.getElem?_range hi']
    rfl
  · have : n = 0 := by omega
    subst this
    exact ⟨[], a0, cap, e, hc, fun h => absurd h (Nat.not_lt_zero _)⟩
theorem bs_of_trod {r : Reach} {b0 : Nat} {t e : TypeId} {v : Value} {d : DataW H} {p : List MemPlace} (ht : P.underlying t = some (.slice e)) (he : P.underlying e = some .bool) (hc : P.cellsOf e = 1)
    (hk : ((List.range 1).all fun j => decide (leafAt P 6 e j = some e)) = true) (hv : Value.okWide P w r b0 t v) (h : DataW.Trod enc P w base (fun _ => true) held t v d p) : ∃ l, Bs w v l := by
  obtain ⟨n, x, hn⟩ := nv_of_trod 1 (fun _ => e) ht hc (by omega) hk hv h
  exact bs_of_nv he hn
end
end Go.Proofs.YtpidmbclgfnekaaGreat

/-
  Rows of bools that a call has made itself, two beside one another. No conditions but those of each theorem.
-/
namespace Go.Proofs.YtpidmbclgfnekaaGreat
open Go Go.RowKit

def bV (l : List Bool) : List Value := l.map fun x => Value.bool x
theorem bV_len (l : List Bool) : (bV l).length = l.length := by simp [bV]
theorem bV_app (a b : List Bool) : bV a ++ bV b = bV (a ++ b) := by simp [bV]
theorem ones_b (l : List Bool) : ∀ u ∈ bV l, u.oneCell' = true := by
  intro u hu
  obtain ⟨i, _, rfl⟩ := List.mem_map.1 hu
  rfl
theorem Tryz.infoBool : (Tryz.prog.info? 4).map (fun i => (i.zero, i.size, i.bytes)) = some (some (.bool false), 1, 1) := by kernel_rfl
theorem bool_info : ∃ i, Tryz.prog.info? 4 = some i ∧ i.zero = some (.bool false) ∧ i.size = 1 ∧ i.bytes = 1 := by
  have h := Tryz.infoBool
  cases hi : Tryz.prog.info? 4 with
  | none => rw [hi] at h; cases h
  | some i =>
    rw [hi] at h
    simp at h
    exact ⟨i, rfl, h.1, h.2.1, h.2.2⟩
theorem bN_get {l : List Bool} {i : Nat} (h : i < l.length) : (bV l)[i]? = some (.bool (bN l i)) := by
  unfold bV bN
  rw [List.getElem?_map, List.getElem?_eq_getElem h, List.getD_eq_getElem?_getD, List.getElem?_eq_getElem h]
  rfl
/-- Two rows that a call has made since W, apart. -/
structure TwoB (W : World) (la lb : List Bool) (va vb : Value) (wr : World) : Prop where
  oa : wr.ownsRow W.heap.size 4 1 va la.length (bV la)
  ob : wr.ownsRow W.heap.size 4 1 vb lb.length (bV lb)
  ne : ∀ g, va.ownBlock = some g → vb.ownBlock ≠ some g
  ex : Ext W wr
theorem own_keepB {w w' : World} {base : Nat} {e : TypeId} {size : Nat} {v : Value} {n : Nat} {xs : List Value} (h : w.ownsRow base e size v n xs) (hk : ∀ g, v.ownBlock = some g → w'.heap[g]? = w.heap[g]?) : w'.ownsRow base e size v n xs := by
  obtain ⟨h1, h2⟩ := h
  refine ⟨h1, ?_⟩
  rcases h2 with h2 | ⟨g, cap, cur, rfl, hg, hh, r⟩
  · exact .inl h2
  · exact .inr ⟨g, cap, cur, rfl, hg, (hk g rfl).trans hh, r⟩
theorem TwoB.nil (W : World) : TwoB W [] [] (.slice none 0 0) (.slice none 0 0) W :=
  ⟨⟨rfl, .inl ⟨rfl, rfl⟩⟩, ⟨rfl, .inl ⟨rfl, rfl⟩⟩, fun g h => (by cases h), ext_refl W⟩
section
variable {W : World} {la lb : List Bool} {va vb v' : Value} {wr wr' : World}
theorem TwoB.swap (h : TwoB W la lb va vb wr) : TwoB W lb la vb va wr := ⟨h.ob, h.oa, fun g h1 h2 => h.ne g h2 h1, h.ex⟩
theorem TwoB.ext (h : TwoB W la lb va vb wr) (hx : Ext wr wr') : TwoB W la lb va vb wr' :=
  ⟨own_keepB h.oa fun g hg => hx.block g (h.oa.lt g hg).2, own_keepB h.ob fun g hg => hx.block g (h.ob.lt g hg).2, h.ne, ext_trans h.ex hx⟩
/-- The first one is made anew. -/
theorem TwoB.new (h : TwoB W la lb va vb wr) (l : List Bool) (b : Nat) (hb : b = wr.heap.size) (hl : l.length ≤ 1000) : TwoB W l lb (.slice (some ⟨b, 0, none⟩) l.length l.length) vb (wr.alloc (.cells (bV l).toArray 4)) := by
  subst hb
  have hx := ext_alloc (.cells (bV l).toArray 4) (ext_refl wr)
  have h' := h.ext hx
  refine ⟨⟨by rw [bV_len, Nat.mul_one], .inr ⟨wr.heap.size, l.length, (bV l).toArray, rfl, h.ex.size, hp_at _ _ _ rfl, Nat.le_refl _, by unfold maxLen; omega, by simp [bV_len], ?_⟩⟩, h'.ob, fun g hg hgb => ?_, h'.ex⟩
  · rw [Nat.mul_one]
    exact List.take_of_length_le (by rw [bV_len]; exact Nat.le_refl _)
  · have := (h.ob.lt g hgb).2
    simp [Value.ownBlock] at hg
    omega
/-- The first one grows. -/
theorem TwoB.grow (h : TwoB W la lb va vb wr) {l : List Bool} (hv : wr'.ownsRow W.heap.size 4 1 v' l.length (bV l)) (hg : wr.grownBy wr' va.ownBlock) (hn : v'.ownBlock = va.ownBlock ∨ ∃ g, v'.ownBlock = some g ∧ wr.heap.size ≤ g) : TwoB W l lb v' vb wr' := by
  refine ⟨hv, own_keepB h.ob fun g hgb => hg.block g (h.ob.lt g hgb).2 fun e => h.ne g e.symm hgb, fun g hga => ?_, ext_own h.ex h.oa hg⟩
  rcases hn with e | ⟨g', e, hle⟩
  · exact h.ne g (e ▸ hga)
  · intro hgb
    have := (h.ob.lt g hgb).2
    rw [e] at hga
    cases hga
    omega
end
/-- An append to the first one. -/
theorem wpList_growB {W u : World} {ops : Array Oper} {rest : List Oper} {o : Oper} {a : Act} {Q : Exit → Act → World → Prop} (hgd : o.guard = none) (s x : Operand)
    (ho : o.op = .call { callee := .builtin .append, args := #[s, x], argTypes := #[30, 30] }) (la lb news : List Bool) (va vb : Value) (h : TwoB W la lb va vb u) (hs : a.eval s = va)
    (ad : Addr) (m c : Nat) (hx : a.eval x = .slice (some ad) m c) (hm : news.length = m) (hnews : ∀ i, i < m → u.cell? (ad.add i) = some (.bool (bN news i))) (hlen : la.length + m ≤ 2000000)
    (hc : ∀ v' w', TwoB W (la ++ news) lb v' vb w' → wpList Tryz.prog ops Q rest (a.put o.dst v') w') : wpList Tryz.prog ops Q (o :: rest) a u := by
  obtain ⟨iB, hi, hz0, hz1, hz2⟩ := bool_info
  refine wpList_append_own_at u hgd s x 30 ho W.heap.size 4 iB (.bool false) 1 1 Tryz.underlying30 hi hz0 hz1 hz2 rfl (by decide) va la.length (bV la) hs h.oa ad m c (bV news) hx (by rw [bV_len, hm, Nat.mul_one]) (fun j y hj => ?_) (ones_b news) (by unfold maxLen; omega) (by omega) h.ex.size ?_
  · have hjl : j < news.length := by
      have := (List.getElem?_eq_some_iff.1 hj).1
      rwa [bV_len] at this
    rw [bN_get hjl] at hj
    cases hj
    exact hnews j (by omega)
  · intro v' w' hv hg _ hat
    rw [bV_app] at hv
    refine hc v' w' (h.grow (by rw [List.length_append, hm]; exact hv) hg ?_)
    rcases hat with e | e
    · exact .inl e
    · exact .inr ⟨_, e, Nat.le_refl _⟩
/-- A row that a call made is read. -/
theorem bs_of_own {w : World} {base : Nat} {v : Value} {l : List Bool} (h : w.ownsRow base 4 1 v l.length (bV l)) : Bs w v l ∧ ∀ g, v.ownBlock = some g → base ≤ g := by
  refine ⟨?_, fun g hg => (h.lt g hg).1⟩
  rcases h.2 with ⟨rfl, h2⟩ | ⟨g, cap, cur, rfl, hg, hh, hc, hm, hs, ht⟩
  · have : l = [] := List.eq_nil_of_length_eq_zero h2
    subst this
    exact ⟨none, 0, rfl, Nat.le_refl _, fun h => absurd h (Nat.not_lt_zero _)⟩
  · refine ⟨_, cap, rfl, hc, fun _ => ⟨g, 0, rfl, hp_lt hh, fun i hi => ?_⟩⟩
    rw [Nat.zero_add]
    refine cell_at hh ?_
    have h3 : (cur.toList.take (l.length * 1))[i]? = (bV l)[i]? := by rw [ht]
    rw [List.getElem?_take, if_pos (by omega), Array.getElem?_toList, bN_get hi] at h3
    exact h3
end Go.Proofs.YtpidmbclgfnekaaGreat

/-
  What stands, in the midst of a law of free: a memory with its list, and a row of the nodes that the law has popped. Conditions: those of each theorem.
-/
namespace Go.Proofs.YtpidmbclgfnekaaGreat
open Go Go.RowKit

/-- The memory, the list l with its tag T, the row v of the nodes mine, the plan's box; w0: the law's begin. -/
structure FIn (p : Pl) (lo hi : Nat) (L : Lay) (base : Nat) (w0 : World) (M : MS) (l : List Int) (T : Nat) (mine : List Int) (v : Value) (wr : World) : Prop where
  m : MemIn lo hi L M wr
  fl : FL p M l T
  ir : IR base v mine wr
  ex : Ext w0 wr
  pb : PBox w0.heap.size p wr
  ap : (mine ++ l).Nodup
  rg : ∀ n ∈ mine, InR p n
  ln : mine.length + l.length = p.n.toNat
  bs : base ≤ wr.heap.size
section
variable {p : Pl} {lo hi : Nat} {L : Lay} {base : Nat} {w0 : World} {M : MS} {l : List Int} {T : Nat} {mine : List Int} {v : Value} {wr wr' : World}
theorem FIn.ext (h : FIn p lo hi L base w0 M l T mine v wr) (hx : Ext wr wr') : FIn p lo hi L base w0 M l T mine v wr' :=
  ⟨h.m.ext hx, h.fl, h.ir.ext hx, ext_trans h.ex hx, h.pb.ext hx, h.ap, h.rg, h.ln, Nat.le_trans h.bs hx.size⟩
theorem FIn.start (hM : MemIn lo hi L M wr) (hF : FL p M (rfr p.n.toNat 0) 0) (hx : Ext w0 wr) (hb : PBox w0.heap.size p wr) : FIn p lo hi L wr.heap.size w0 M (rfr p.n.toNat 0) 0 [] (.slice none 0 0) wr :=
  ⟨hM, hF, IR.nil _ _, hx, hb, by simpa using rfr_nodup _ _, fun _ h => by simp at h, by simp [rfr_len], Nat.le_refl _⟩
theorem FIn.notin (h : FIn p lo hi L base w0 M l T mine v wr) {n : Int} (hn : n ∈ mine) : n ∉ l := fun hl => (List.nodup_append.1 h.ap).2.2 n hn n hl rfl
/-- Behind a run: the memory, the list, the tag are others. -/
theorem FIn.ran {M' : MS} (h : FIn p lo hi L base w0 M l T mine v wr) (hm : MemIn lo hi L M' wr') (hf : Fr lo hi wr wr') (h1 : w0.heap.size < lo) (h2 : hi ≤ base) :
    MemIn lo hi L M' wr' ∧ IR base v mine wr' ∧ Ext w0 wr' ∧ PBox w0.heap.size p wr' ∧ base ≤ wr'.heap.size :=
  ⟨hm, h.ir.fr hf h2, hf.below h.ex (by omega), (hf.block _ (heap_lt h.pb) (.inl h1)).trans h.pb, Nat.le_trans h.bs hf.size⟩
theorem FIn.none {M' : MS} (h : FIn p lo hi L base w0 M [] T mine v wr) (hm : MemIn lo hi L M' wr') (hf : Fr lo hi wr wr') (hF : FL p M' [] T) (h1 : w0.heap.size < lo) (h2 : hi ≤ base) : FIn p lo hi L base w0 M' [] T mine v wr' := by
  obtain ⟨a, b, c, d, e⟩ := h.ran hm hf h1 h2
  exact ⟨a, hF, b, c, d, h.ap, h.rg, h.ln, e⟩
/-- A node is popped, and put to the row. -/
theorem FIn.pop {M' : MS} {n : Int} {l' : List Int} {v' : Value} {wr'' : World} (h : FIn p lo hi L base w0 M (n :: l') T mine v wr) (hm : MemIn lo hi L M' wr') (hf : Fr lo hi wr wr') (hF : FL p M' l' (T + 1)) (h1 : w0.heap.size < lo) (h2 : hi ≤ base) (h3 : w0.heap.size < base)
    (hv : IR base v' (mine ++ [n]) wr'') (u : World) (hu : Ext wr' u) (hg : u.grownBy wr'' v.ownBlock) : FIn p lo hi L base w0 M' l' (T + 1) (mine ++ [n]) v' wr'' := by
  obtain ⟨a, b, c, d, e⟩ := h.ran hm hf h1 h2
  have b' := b.ext hu
  have d' := d.ext hu
  refine ⟨(a.ext hu).keep hg.size fun k _ hk => grown_at b' hg (Nat.lt_of_lt_of_le (Nat.lt_of_lt_of_le hk a.top) hu.size) (by omega), hF, hv, grown_ext (ext_trans c hu) b' hg (by omega), (grown_at b' hg (heap_lt d') h3).trans d', ?_, ?_, ?_, Nat.le_trans e (Nat.le_trans hu.size hg.size)⟩
  · have := h.ap
    rw [List.append_assoc]
    exact this
  · intro k hk
    rcases List.mem_append.1 hk with hk | hk
    · exact h.rg k hk
    · simp at hk
      subst hk
      exact h.fl.rg k (by simp)
  · have := h.ln
    simp at this ⊢
    omega
/-- The first one of the row is pushed; the last one. -/
theorem FIn.pushFirst {M' : MS} {n : Int} {rest : List Int} {v' : Value} (h : FIn p lo hi L base w0 M l T (n :: rest) v wr) (hm : MemIn lo hi L M' wr') (hf : Fr lo hi wr wr') (hF : FL p M' (n :: l) (T + 1)) (h1 : w0.heap.size < lo) (h2 : hi ≤ base) (hv : IR base v' rest wr') :
    FIn p lo hi L base w0 M' (n :: l) (T + 1) rest v' wr' := by
  obtain ⟨a, b, c, d, e⟩ := h.ran hm hf h1 h2
  refine ⟨a, hF, hv, c, d, ?_, fun k hk => h.rg k (by simp [hk]), ?_, e⟩
  · have := h.ap
    exact (List.perm_middle.nodup_iff).2 this
  · have := h.ln
    simp at this ⊢
    omega
theorem FIn.pushLast {M' : MS} {n : Int} {rest : List Int} {v' : Value} (h : FIn p lo hi L base w0 M l T (rest ++ [n]) v wr) (hm : MemIn lo hi L M' wr') (hf : Fr lo hi wr wr') (hF : FL p M' (n :: l) (T + 1)) (h1 : w0.heap.size < lo) (h2 : hi ≤ base) (hv : IR base v' rest wr') :
    FIn p lo hi L base w0 M' (n :: l) (T + 1) rest v' wr' := by
  obtain ⟨a, b, c, d, e⟩ := h.ran hm hf h1 h2
  refine ⟨a, hF, hv, c, d, ?_, fun k hk => h.rg k (by simp [hk]), ?_, e⟩
  · have := h.ap
    rw [List.append_assoc] at this
    exact this
  · have := h.ln
    simp at this ⊢
    omega
end
end Go.Proofs.YtpidmbclgfnekaaGreat

/-
  What the calls of the reference's Fresh, Pop, Push, Same and Has come to. Conditions: those of each theorem.
-/
namespace Go.Proofs.YtpidmbclgfnekaaGreat
open Go Go.RowKit

def RetI (l : List Int) (w : World) (e : Ending) (w' : World) : Prop := ∃ v, e = .returned v ∧ IR w.heap.size v l w' ∧ Ext w w'
def FrRel (n : Int) (w : World) (vo vi : Value) (wr : World) : Prop := ∃ (k : Nat), vi = .int .i64 (k : Int) ∧ (k : Int) ≤ n ∧ IR w.heap.size vo (rfr k 0) wr ∧ Ext w wr
theorem rfr_snoc : ∀ (k : Nat) (j : Int), rfr k j ++ [j + k] = rfr (k + 1) j
  | 0, j => by simp [rfr]
  | k + 1, j => by
    have := rfr_snoc k (j + 1)
    simp only [rfr, List.cons_append] at this ⊢
    rw [show j + ((k + 1 : Nat) : Int) = j + 1 + k by omega, this]
def SameRel (n : Nat) (w : World) (vi : Value) (wr : World) : Prop := ∃ (k : Nat), vi = .int .i64 (k : Int) ∧ k ≤ n ∧ Ext w wr
set_option maxRecDepth 8000 in
set_option maxHeartbeats 1000000 in
theorem rsame_yes (l : List Int) (va vb : Value) (w : World) (hl : l.length ≤ 2000000) (ha : Is w va l) (hb : Is w vb l) : Calls Tryz.prog 22 #[va, vb] w (Ret (.bool true) w) := by
  have HA := Lib.hid ha
  have HB := Lib.hid hb
  obtain ⟨a0, ca, rfl, _, _⟩ := ha
  obtain ⟨b0, cb, rfl, _, _⟩ := hb
  go_enter Tryz.func22, Tryz.ntmps22
  go_wp2
  go_loopw [5] (fun vi wr => SameRel l.length w vi wr) (fun i _ => (l.length - intOf i).toNat)
  case atStart => exact ⟨0, rfl, Nat.zero_le _, ext_refl w⟩
  case round =>
    obtain ⟨k, rfl, hk, hX⟩ := hrel
    have HX := Lib.hid hX
    clear hX
    by_cases hlt : k < l.length
    · obtain ⟨b1, o1, rfl, hb1, hc1⟩ := (HA.out.ext HX.out).at (by omega)
      obtain ⟨b2, o2, rfl, hb2, hc2⟩ := (HB.out.ext HX.out).at (by omega)
      have d1 := hc1 k hlt
      have d2 := hc2 k hlt
      have hlt' : (k : Int) < l.length := by omega
      have e2 : wrap64 ((k : Int) + 1) = ((k + 1 : Nat) : Int) := by unfold wrap64; omega
      replace e2 := Lib.hid e2
      clear hc1 hc2
      go_wp2
      refine wp_region_over (by kernel_rfl) (by kernel_rfl) ?_
      repeat (go_big_quiet_step (fail))
      refine wpQuiet_nil ?_
      intro _ hw'
      obtain ⟨s1, hw''⟩ := hw'
      subst hw''
      have HX2 := Lib.hid (ext_over s1 HX.out)
      generalize over wr s1 = w2 at HX2 ⊢
      go_wp2
      exact ⟨⟨k + 1, by first | exact congrArg _ e2.out | rfl, by omega, HX2.out⟩, by simp [intOf]; omega⟩
    · have hn : ¬ (k : Int) < l.length := by omega
      go_wp2
      go_ret
      exact Ret.mk HX.out
theorem mem_iN {l : List Int} {n : Int} : n ∈ l ↔ ∃ i, i < l.length ∧ iN l i = n := by
  constructor
  · intro h
    obtain ⟨i, hi, e⟩ := List.getElem_of_mem h
    exact ⟨i, hi, by simp [iN, List.getD_eq_getElem?_getD, hi, e]⟩
  · rintro ⟨i, hi, e⟩
    simp [iN, List.getD_eq_getElem?_getD, hi] at e
    rw [← e]
    exact List.getElem_mem hi
def HasRel (l : List Int) (n : Int) (w : World) (vi : Value) (wr : World) : Prop := ∃ (k : Nat), vi = .int .i64 (k : Int) ∧ k ≤ l.length ∧ (∀ i, i < k → iN l i ≠ n) ∧ wr = w
set_option maxRecDepth 8000 in
set_option maxHeartbeats 1000000 in
theorem rhas_any (l : List Int) (n : Int) (va : Value) (w : World) (r : Bool) (hr : Hid (r = true ↔ n ∈ l)) (hl : l.length ≤ 2000000) (ha : Is w va l) : Calls Tryz.prog 79 #[va, .int .i64 n] w (Ret (.bool r) w) := by
  have HA := Lib.hid ha
  obtain ⟨a0, ca, rfl, _, _⟩ := ha
  go_enter Tryz.func79, Tryz.ntmps79
  go_wp2
  go_loopw [5] (fun vi wr => HasRel l n w vi wr) (fun i _ => (l.length - intOf i).toNat)
  case atStart => exact ⟨0, rfl, Nat.zero_le _, fun i h => absurd h (Nat.not_lt_zero _), rfl⟩
  case round =>
    obtain ⟨k, rfl, hk, hno, rfl⟩ := hrel
    by_cases hlt : k < l.length
    · obtain ⟨b1, o1, rfl, hb1, hc1⟩ := HA.out.at (by omega)
      have d1 := hc1 k hlt
      have hlt' : (k : Int) < l.length := by omega
      clear hc1
      by_cases he : iN l k = n
      · have hrt : r = true := hr.out.2 (mem_iN.2 ⟨k, hlt, he⟩)
        rw [he] at d1
        subst hrt
        go_wp2
        go_ret
        exact Ret.mk (ext_refl _)
      · have HNO : Hid (∀ i, i < k + 1 → iN l i ≠ n) := Lib.hid fun i hi => by
          by_cases hik : i = k
          · subst hik; exact he
          · exact hno i (by omega)
        have he2 : (iN l k == n) = false := by simpa using he
        clear hno
        go_wp2
        exact ⟨⟨k + 1, by go_num, by omega, HNO.out, rfl⟩, by simp [intOf]; omega⟩
    · have hn : ¬ (k : Int) < l.length := by omega
      have hrf : r = false := by
        cases r with
        | false => rfl
        | true =>
          obtain ⟨i, hi, e⟩ := mem_iN.1 (hr.out.1 rfl)
          exact absurd e (hno i (by omega))
      subst hrf
      clear hno
      go_wp2
      go_ret
      exact Ret.mk (ext_refl _)
theorem own_of_row {w : World} {base : Nat} {x : Int} (g : Nat) (hg : g = w.heap.size) (h : base ≤ w.heap.size) : (w.alloc (.cells #[.int .i64 x] 3)).ownsRow base 3 1 (.slice (some ⟨g, 0, none⟩) 1 1) 1 [.int .i64 x] := by
  subst hg
  exact ⟨by simp, .inr ⟨w.heap.size, 1, _, rfl, h, heap_alloc_new w _, Nat.le_refl _, by unfold maxLen; omega, rfl, rfl⟩⟩
theorem infoI : ∃ i, Tryz.prog.info? 3 = some i ∧ i.zero = some (.int .i64 0) ∧ i.size = 1 ∧ i.bytes = 8 := by
  have h := Tryz.infoI64
  cases hi : Tryz.prog.info? 3 with
  | none => rw [hi] at h; cases h
  | some i =>
    rw [hi] at h
    simp at h
    exact ⟨i, rfl, h.1, h.2.1, h.2.2⟩
theorem newsI {w : World} {ad : Addr} {n c : Nat} {l : List Int} (h : Is w (.slice (some ad) n c) l) : ∀ j u, (l.map fun x => Value.int .i64 x)[j]? = some u → w.cell? (ad.add j) = some u := by
  intro j u hj
  have hlt : j < l.length := by
    have := (List.getElem?_eq_some_iff.1 hj).1
    simpa using this
  obtain ⟨b, off, ea, _, hc⟩ := h.at (by omega)
  cases ea
  rw [add_at', hc j hlt]
  rw [List.getElem?_map, List.getElem?_eq_getElem hlt] at hj
  simp at hj
  rw [← hj]
  simp [iN, List.getD_eq_getElem?_getD, hlt]
theorem onesI (l : List Int) : ∀ u ∈ (l.map fun x => Value.int .i64 x), u.oneCell' = true := by
  intro u hu
  obtain ⟨i, _, rfl⟩ := List.mem_map.1 hu
  rfl
def RetPopR (n : Int) (l : List Int) (w : World) (e : Ending) (w' : World) : Prop := ∃ v, e = .returned (.tuple #[.int .i64 n, v]) ∧ IR w.heap.size v l w' ∧ Ext w w'
theorem is_tail {w : World} {b off cap : Nat} {n : Int} {l : List Int} (h : Is w (.slice (some ⟨b, off, none⟩) (l.length + 1) cap) (n :: l)) (off' : Nat) (ho : off' = off + 1 ∨ (cap = 1 ∧ off' = off)) : Is w (.slice (some ⟨b, off', none⟩) l.length (cap - 1)) l := by
  obtain ⟨a0, c, e, hc, hr⟩ := h
  simp at e
  obtain ⟨rfl, rfl⟩ := e
  simp only [List.length_cons] at hc hr
  obtain ⟨b', o', e', hlt, hcell⟩ := hr (by omega)
  cases e'
  refine ⟨_, _, rfl, by omega, fun hp => ⟨b, off', rfl, hlt, fun i hi => ?_⟩⟩
  rcases ho with rfl | ⟨rfl, rfl⟩
  · rw [show off + 1 + i = off + (i + 1) by omega, hcell (i + 1) (by omega)]
    simp [iN]
  · omega
end Go.Proofs.YtpidmbclgfnekaaGreat
