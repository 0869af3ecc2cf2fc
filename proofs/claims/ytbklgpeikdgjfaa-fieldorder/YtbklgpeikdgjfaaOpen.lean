/-
  Arguments that are slices, read as lists: of words, of pairs of numbers (a struct of two ints). Conditions: those of each theorem.
-/
import Derived.Test.YtbklgpeikdgjfaaFs
import Derived.ProofKit
import Derived.OpenShut
import Derived.Deep.Slices
namespace Go.Proofs.Ytbklgpeikdgjfaa
open Go Go.ChangeShapes Go.WideShapes Go.RowKit

section
variable {H : Type} {enc : TypeId × Value → H} {P : Program} {w : World} {base : Nat} {spare : Nat → Bool} {held : Bool}

theorem spot_none {w : World} {a : Addr} {v : Value} (h : w.cell? a = some v) : a = ⟨a.block, a.off, none⟩ := by
  obtain ⟨b, o, s⟩ := a
  cases s with
  | none => rfl
  | some x =>
    unfold World.cell? at h
    split at h <;> simp at h
theorem add_at (b o n : Nat) : (⟨b, o, none⟩ : Addr).add n = ⟨b, o + n, none⟩ := by
  unfold Addr.add
  by_cases h : n = 0
  · rw [if_pos h, h]; rfl
  · rw [if_neg h]

/-- The list of a function's values. -/
theorem getD_range {α : Type} (f : Nat → α) (n i : Nat) (d : α) (h : i < n) : ((List.range n).map f).getD i d = f i := by
  rw [List.getD_eq_getElem?_getD, List.getElem?_map, List.getElem?_range h]; rfl

theorem us_of_trod {r : Reach} {b0 : Nat} {t e : TypeId} {v : Value} {d : DataW H} {p : List MemPlace} (ht : P.underlying t = some (.slice e)) (he : P.underlying e = some (.int .u64)) (hc : P.cellsOf e = 1)
    (hv : Value.okWide P w r b0 t v) (h : DataW.Trod enc P w base (fun _ => true) held t v d p) : ∃ l, Us w v l := by
  obtain ⟨a0, len, cap, rfl⟩ := okWide_slice ht hv
  obtain ⟨fuel, hf⟩ := h
  rcases open_ints ht he hc hf with ⟨hcs, _⟩ | ⟨a, len', cap', zs, hcs, _, hl, _, hz, _, hcell, hwz⟩
  · simp [Value.cells] at hcs
    obtain ⟨rfl, rfl, rfl⟩ := hcs
    exact ⟨[], none, 0, rfl, Nat.le_refl _, fun h => absurd h (Nat.not_lt_zero _)⟩
  · simp [Value.cells] at hcs
    obtain ⟨rfl, rfl, rfl⟩ := hcs
    simp at hz
    refine ⟨(List.range len).map (fun i => BitVec.ofNat 64 (zs.getD i 0).toNat), some a, cap, by simp, by simpa using hl, fun hpos => ?_⟩
    simp at hpos
    have h0 := hcell 0 (by omega)
    have ha : a.add 0 = a := by unfold Addr.add; simp
    rw [ha] at h0
    have hsp := spot_none h0
    refine ⟨a.block, a.off, by rw [← hsp], World.block_lt_of_cell? w a h0, fun i hi => ?_⟩
    simp at hi
    have h1 := hcell i (by omega)
    rw [hsp, add_at] at h1
    rw [h1]
    unfold uN
    rw [getD_range _ _ _ _ hi]
    have hw := bounds_u64 (hwz (zs.getD i 0) (by
      rw [List.getD_eq_getElem?_getD, List.getElem?_eq_getElem (by omega)]
      exact List.getElem_mem _))
    rw [U_toNat, BitVec.toNat_ofNat]
    congr 2
    omega

/-- A slice of structs of two ints. -/
theorem fs_of_trod {r : Reach} {b0 : Nat} {t e : TypeId} {f0 f1 : Field} {v : Value} {d : DataW H} {p : List MemPlace} (ht : P.underlying t = some (.slice e)) (he : P.underlying e = some (.struct #[f0, f1])) (hc : P.cellsOf e = 2)
    (h0 : P.underlying f0.type = some (.int .i64)) (h1 : P.underlying f1.type = some (.int .i64)) (o0 : f0.offset = 0) (o1 : f1.offset = 1) (k0 : P.cellsOf f0.type = 1) (k1 : P.cellsOf f1.type = 1)
    (hv : Value.okWide P w r b0 t v) (h : DataW.Trod enc P w base (fun _ => true) held t v d p) : ∃ l, Fs w v l := by
  obtain ⟨a0, len, cap, rfl⟩ := okWide_slice ht hv
  obtain ⟨fuel, hf⟩ := h
  rcases Deep.open_slice ht hf with ⟨hcs, _⟩ | ⟨a, len', cap', m, n, D, Pl, hcs, _, hl, _, hmm, _, hi⟩
  · simp [Value.cells] at hcs
    obtain ⟨rfl, rfl, rfl⟩ := hcs
    exact ⟨[], none, 0, rfl, Nat.le_refl _, fun h => absurd h (Nat.not_lt_zero _)⟩
  · simp [Value.cells] at hcs
    obtain ⟨rfl, rfl, rfl⟩ := hcs
    simp at hmm
    have two : ∀ i, i < len → ∃ x y : Int, w.cell? ((a.add (i * 2)).add 0) = some (.int .i64 x) ∧ w.cell? ((a.add (i * 2)).add 1) = some (.int .i64 y) := fun i hlt => by
      obtain ⟨cs', hcc, htr⟩ := hi i (by omega)
      rw [hc] at hcc
      obtain ⟨_, hcl, hat⟩ := World.cells?_some hcc
      obtain ⟨xs, n', _, _, _, hxl, hfs⟩ := DataW.trod_struct he htr
      have g0 := hfs 0 f0 rfl
      have g1 := hfs 1 f1 rfl
      rw [o0, k0] at g0
      rw [o1, k1] at g1
      match cs', hcl with
      | [c0, c1], _ =>
        match xs, hxl with
        | [x0, x1], _ =>
          obtain ⟨x, ex, _, _⟩ := DataW.trod_int h0 (show DataW.trod enc P w base (fun _ => true) held n' f0.type [c0] = some x0 from g0)
          obtain ⟨y, ey, _, _⟩ := DataW.trod_int h1 (show DataW.trod enc P w base (fun _ => true) held n' f1.type [c1] = some x1 from g1)
          simp at ex ey
          subst ex ey
          exact ⟨x, y, hat 0 (by omega), hat 1 (by omega)⟩
    by_cases hpos : 0 < len
    · obtain ⟨x, _, hx, _⟩ := two 0 hpos
      have ha : (a.add (0 * 2)).add 0 = a := by unfold Addr.add; simp
      rw [ha] at hx
      have hsp := spot_none hx
      have cell : ∀ i, i < len → ∃ xy : Int × Int, w.cell? ⟨a.block, a.off + i * 2, none⟩ = some (.int .i64 xy.1) ∧ w.cell? ⟨a.block, a.off + i * 2 + 1, none⟩ = some (.int .i64 xy.2) := fun i hlt => by
        obtain ⟨x, y, h1, h2⟩ := two i hlt
        rw [hsp, add_at, add_at] at h1 h2
        exact ⟨(x, y), h1, h2⟩
      have cell' : ∀ i, ∃ xy : Int × Int, i < len → w.cell? ⟨a.block, a.off + i * 2, none⟩ = some (.int .i64 xy.1) ∧ w.cell? ⟨a.block, a.off + i * 2 + 1, none⟩ = some (.int .i64 xy.2) := fun i => by
        by_cases hlt : i < len
        · obtain ⟨xy, h⟩ := cell i hlt; exact ⟨xy, fun _ => h⟩
        · exact ⟨(0, 0), fun h => absurd h hlt⟩
      have hg := fun i => Classical.choose_spec (cell' i)
      refine ⟨(List.range len).map (fun i => Classical.choose (cell' i)), some a, cap, by simp, by simpa using hl, fun _ => ⟨a.block, a.off, by rw [← hsp], World.block_lt_of_cell? w a hx, fun i hlt => ?_⟩⟩
      simp at hlt
      unfold fA fB
      rw [getD_range _ _ _ _ hlt]
      exact hg i hlt
    · obtain rfl : len = 0 := by omega
      exact ⟨[], some a, cap, rfl, Nat.zero_le _, fun h => absurd h (Nat.not_lt_zero _)⟩
/-- An array of three words, by value. -/
theorem arr3_of_trod {r : Reach} {b0 : Nat} {t e : TypeId} {v : Value} {d : DataW H} {p : List MemPlace} (ht : P.underlying t = some (.array 3 e)) (he : P.underlying e = some (.int .u64)) (hc : P.cellsOf t = 3) (hce : P.cellsOf e = 1)
    (hv : Value.okWide P w r b0 t v) (h : DataW.Trod enc P w base (fun _ => true) held t v d p) : ∃ x y z : BitVec 64, v = .agg #[.int .u64 (U x), .int .u64 (U y), .int .u64 (U z)] := by
  simp only [Value.okWide, ht] at hv
  obtain ⟨cs, rfl, hsz, _⟩ := hv
  obtain ⟨fuel, hf⟩ := h
  obtain ⟨xs, m, _, _, _, hxl, hi⟩ := DataW.trod_array ht hf
  rw [hc] at hsz
  have one : ∀ i, i < 3 → ∃ x : BitVec 64, cs[i]? = some (.int .u64 (U x)) := fun i hlt => by
    have h1 := hi i hlt
    rw [hce, List.getElem?_eq_getElem (by omega), Nat.mul_one] at h1
    obtain ⟨n, e1, _, hw⟩ := DataW.trod_int he h1
    have hb := bounds_u64 hw
    obtain ⟨x, rfl⟩ := word_of n hb.1 hb.2
    refine ⟨x, ?_⟩
    have h2 : ((Value.agg cs).cells.toList.drop i)[0]? = some (.int .u64 (U x)) := by
      have := congrArg (fun l : List Value => l[0]?) e1
      simpa [List.getElem?_take] using this
    simpa [Value.cells] using h2
  obtain ⟨x, hx⟩ := one 0 (by omega)
  obtain ⟨y, hy⟩ := one 1 (by omega)
  obtain ⟨z, hz⟩ := one 2 (by omega)
  refine ⟨x, y, z, ?_⟩
  congr 1
  apply Array.ext
  · simpa using hsz
  · intro i h1 h2
    simp at h2
    have h3 : cs[i]? = some cs[i] := Array.getElem?_eq_getElem h1
    rcases (show i = 0 ∨ i = 1 ∨ i = 2 from by omega) with rfl | rfl | rfl
    · rw [hx] at h3; simpa using h3.symm
    · rw [hy] at h3; simpa using h3.symm
    · rw [hz] at h3; simpa using h3.symm
end
end Go.Proofs.Ytbklgpeikdgjfaa
