/-
  What Split answers: plain facts on lists and words. No conditions.
-/
import Derived.Test.YtniejbncahmcoaaOwn
namespace Go.Proofs.Ytniejbncahmcoaa
open Go Go.RowKit

/-- The numbers of the fields in x. -/
def splitL (l : List (Int × Int)) (x : BitVec 64) : List (BitVec 64) := (List.range l.length).map fun i => getN (fA l i) (fB l i) x
/-- What Split answers. -/
def SplitSpec (l : List (Int × Int)) (x : BitVec 64) (r : List (BitVec 64)) (e : Int) : Prop :=
  (¬ LayF l → r = [] ∧ e = 1) ∧ (LayF l → x &&& ~~~ (covTo l l.length) ≠ 0#64 → r = [] ∧ e = 10) ∧ (LayF l → x &&& ~~~ (covTo l l.length) = 0#64 → r = splitL l x ∧ e = 0)
theorem splitSpec_of (l : List (Int × Int)) (x : BitVec 64) : ∃ r e, SplitSpec l x r e := by
  by_cases h : LayF l
  · by_cases h2 : x &&& ~~~ (covTo l l.length) = 0#64
    · exact ⟨splitL l x, 0, fun hn => absurd h hn, fun _ hn => absurd h2 hn, fun _ _ => ⟨rfl, rfl⟩⟩
    · exact ⟨[], 10, fun hn => absurd h hn, fun _ _ => ⟨rfl, rfl⟩, fun _ hn => absurd hn h2⟩
  · exact ⟨[], 1, fun _ => ⟨rfl, rfl⟩, fun hn => absurd hn h, fun hn => absurd hn h⟩

/-- A call that hands back a list of words, in memory of its own, and a number. -/
def RetSp (r : List (BitVec 64)) (x : Int) (w : World) (e : Ending) (w' : World) : Prop := ∃ sv, e = .returned (.tuple #[sv, .int .i64 x]) ∧ Ext w w' ∧ Us w' sv r
theorem RetSp.over {r : List (BitVec 64)} {x : Int} {w : World} {e : Ending} {w' : World} (h : RetSp r x w e w') : ∃ sv, e = .returned (.tuple #[sv, .int .i64 x]) ∧ ∃ s, w' = Ytniejbncahmcoaa.over w s ∧ Hid (Us (Ytniejbncahmcoaa.over w s) sv r) := by
  obtain ⟨sv, he, hx, hu⟩ := h
  obtain ⟨s, rfl⟩ := over_of hx
  exact ⟨sv, he, s, rfl, hu⟩
theorem us_nil (w : World) : Us w (.slice none 0 0) [] := ⟨none, 0, rfl, Nat.le_refl _, fun h => absurd h (Nat.not_lt_zero _)⟩
theorem RetSp.none {r : List (BitVec 64)} {x y : Int} {w w' : World} (hr : r = []) (hx : y = x) (h : Ext w w') : RetSp r x w (.returned (.tuple #[.slice Option.none 0 0, .int .i64 y])) w' := by
  subst hr hx
  exact ⟨_, rfl, h, us_nil w'⟩
theorem RetSp.some {r : List (BitVec 64)} {x y : Int} {sv : Value} {w w' : World} (hx : y = x) (h : Ext w w') (hu : Us w' sv r) : RetSp r x w (.returned (.tuple #[sv, .int .i64 y])) w' := by
  subst hx
  exact ⟨_, rfl, h, hu⟩

theorem splitL_len (l : List (Int × Int)) (x : BitVec 64) : (splitL l x).length = l.length := by simp [splitL]
theorem splitL_at (l : List (Int × Int)) (x : BitVec 64) (k : Nat) (h : k < l.length) : uN (splitL l x) k = getN (fA l k) (fB l k) x := by
  unfold uN splitL
  rw [List.getD_eq_getElem?_getD, List.getElem?_map, List.getElem?_range h]; rfl

/-- A row of zeros of which the first k have been filled. -/
def fillTo (l : List (BitVec 64)) (k : Nat) : List Value := (List.range l.length).map fun i => if i < k then WU (uN l i) else .int .u64 0
theorem fill_zero (l : List (BitVec 64)) : fillTo l 0 = List.replicate l.length (.int .u64 0) := by
  unfold fillTo
  apply List.ext_getElem
  · simp
  · intro i h1 h2; simp
theorem fill_all (l : List (BitVec 64)) : fillTo l l.length = l.map WU := by
  unfold fillTo
  apply List.ext_getElem
  · simp
  · intro i h1 h2
    simp at h1
    simp only [List.getElem_map, List.getElem_range, if_pos h1]
    unfold uN
    rw [List.getD_eq_getElem?_getD, List.getElem?_eq_getElem h1]; rfl
theorem fill_set (l : List (BitVec 64)) (k : Nat) : (fillTo l k).set k (WU (uN l k)) = fillTo l (k + 1) := by
  unfold fillTo
  apply List.ext_getElem
  · simp
  · intro i h1 h2
    rw [List.getElem_set]
    simp only [List.getElem_map, List.getElem_range]
    by_cases e : k = i
    · subst e; rw [if_pos rfl, if_pos (by omega)]
    · rw [if_neg e]
      by_cases e2 : i < k
      · rw [if_pos e2, if_pos (by omega)]
      · rw [if_neg e2, if_neg (by omega)]
theorem fill_len (l : List (BitVec 64)) (k : Nat) : (fillTo l k).length = l.length := by simp [fillTo]

theorem put_zero_is (a b : Int) (x : BitVec 64) (h : Fm a b) : putN a b x 0#64 = x &&& ~~~ (maskN a b) := by
  apply bv_eq; intro i hi
  rw [putN_bit a b _ _ i h hi, BitVec.getLsbD_and, BitVec.getLsbD_not, maskN_bit a b i h hi]
  by_cases e : a ≤ i ∧ (i : Int) < a + b
  · simp [e]
  · simp [e, hi]
theorem clear_succ (l : List (Int × Int)) (x : BitVec 64) (k : Nat) (h : Fm (fA l k) (fB l k)) :
    putN (fA l k) (fB l k) (x &&& ~~~ (covTo l k)) 0#64 = x &&& ~~~ (covTo l (k + 1)) := by
  rw [put_zero_is _ _ _ h]
  show _ = x &&& ~~~ (covTo l k ||| maskN (fA l k) (fB l k))
  rw [BitVec.not_or, BitVec.and_assoc]
theorem clear_zero (l : List (Int × Int)) (x : BitVec 64) : x &&& ~~~ (covTo l 0) = x := by
  show x &&& ~~~ 0#64 = x
  rw [show ~~~ 0#64 = BitVec.allOnes 64 from by decide, BitVec.and_allOnes]

end Go.Proofs.Ytniejbncahmcoaa
