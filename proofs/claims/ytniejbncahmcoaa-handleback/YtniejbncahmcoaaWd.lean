/-
  For packages that make words of fields: a number as a word, a field's number reckoned, a number from 0 to a most, and a block that the call made. No conditions.
-/
import Derived.Test.YtniejbncahmcoaaSpl
import Derived.Test.YtniejbncahmcoaaFr
namespace Go.Proofs.Ytniejbncahmcoaa
open Go Go.RowKit

/-- A number as a word. -/
def bvI (x : Int) : BitVec 64 := BitVec.ofNat 64 x.toNat
theorem U_bvI (x : Int) (h1 : 0 ≤ x) (h2 : x < 18446744073709551616) : U (bvI x) = x := by
  rw [U_toNat]
  unfold bvI
  rw [BitVec.toNat_ofNat]
  omega
theorem bvI_bit (x j : Nat) : (bvI (x : Int)).getLsbD j = (decide (j < 64) && x.testBit j) := by
  unfold bvI
  rw [BitVec.getLsbD_ofNat, Int.toNat_natCast]
/-- A field's number, reckoned. -/
theorem U_getN (a b : Int) (x : BitVec 64) (h : Fm a b) : U (getN a b x) = U x / 2 ^ a.toNat % 2 ^ b.toNat := by
  have e : (getN a b x).toNat = x.toNat / 2 ^ a.toNat % 2 ^ b.toNat := by
    apply Nat.eq_of_testBit_eq
    intro i
    rw [Nat.testBit_mod_two_pow, Nat.testBit_div_two_pow]
    have := getN_bit a b x i h
    rw [BitVec.getLsbD, BitVec.getLsbD] at this
    rw [this, Nat.add_comm]
    congr 1
    obtain ⟨h1, h2, h3, h4⟩ := h
    simp only [decide_eq_decide]
    omega
  rw [U_toNat, U_toNat, e]
  simp

/-- n is from 0 to most. -/
def upF (n most : Int) : Bool := decide (0 ≤ n ∧ n ≤ most)
theorem upF_yes {n most : Int} (h1 : 0 ≤ n) (h2 : n ≤ most) : upF n most = true := decide_eq_true ⟨h1, h2⟩
theorem upF_no {n most : Int} (h : ¬ (0 ≤ n ∧ n ≤ most)) : upF n most = false := decide_eq_false h
attribute [irreducible] upF

/-- A block that the call made. -/
def Made (Y : World) (b : Nat) (c : Array Value) (t : TypeId) (Z : World) : Prop := Z.heap[b]? = some (.cells c t (0, 0)) ∧ Y.heap.size ≤ b
theorem Made.ext {Y Z Z' : World} {b : Nat} {c : Array Value} {t : TypeId} (h : Made Y b c t Z) (hb : Ext Z Z') : Made Y b c t Z' := ⟨by rw [hb.block _ (hp_lt h.1)]; exact h.1, h.2⟩
theorem Made.over {Y Z : World} {b : Nat} {c : Array Value} {t : TypeId} (h : Made Y b c t Z) (s : Sub Z) : Made Y b c t (Ytniejbncahmcoaa.over Z s) := h.ext (over_below Z s)
theorem Made.alloc {Y Z : World} {b : Nat} {c : Array Value} {t : TypeId} (h : Made Y b c t Z) (o : Obj) : Made Y b c t (Z.alloc o) := h.ext (ext_alloc o (ext_refl Z))
theorem Made.mk {Y Z : World} (c : Array Value) (t : TypeId) (h : Ext Y Z) : Made Y Z.heap.size c t (Z.alloc (.cells c t)) := ⟨hp_at _ _ _ rfl, h.size⟩
theorem Made.set {Y Z : World} {b : Nat} {c : Array Value} {t : TypeId} (h : Made Y b c t Z) (i : Nat) (x : Value) : Made Y b (c.setIfInBounds i x) t (Z.setCell ⟨b, i, none⟩ x) := ⟨set_same x h.1, h.2⟩
theorem Made.far {Y Z : World} {b b' : Nat} {c : Array Value} {t : TypeId} (h : Made Y b c t Z) (hne : b ≠ b') (i : Nat) (x : Value) : Made Y b c t (Z.setCell ⟨b', i, none⟩ x) := ⟨by rw [set_other x hne]; exact h.1, h.2⟩
theorem Made.ne {Y Z : World} {b : Nat} {c : Array Value} {t : TypeId} (h : Made Y b c t Z) : b ≠ Z.heap.size := fun e => by
  have := hp_lt h.1
  omega

/-- A call that makes a row of fields, of words. -/
def RetFs (l : List (Int × Int)) (w : World) (e : Ending) (w' : World) : Prop := ∃ sv, e = .returned sv ∧ Ext w w' ∧ Fs w' sv l
theorem RetFs.over {l : List (Int × Int)} {w : World} {e : Ending} {w' : World} (h : RetFs l w e w') : ∃ sv, e = .returned sv ∧ ∃ s, w' = Ytniejbncahmcoaa.over w s ∧ Hid (Fs (Ytniejbncahmcoaa.over w s) sv l) := by
  obtain ⟨sv, he, hx, hu⟩ := h
  obtain ⟨s, rfl⟩ := over_of hx
  exact ⟨sv, he, s, rfl, Lib.hid hu⟩
def RetUs (l : List (BitVec 64)) (w : World) (e : Ending) (w' : World) : Prop := ∃ sv, e = .returned sv ∧ Ext w w' ∧ Us w' sv l
theorem RetUs.over {l : List (BitVec 64)} {w : World} {e : Ending} {w' : World} (h : RetUs l w e w') : ∃ sv, e = .returned sv ∧ ∃ s, w' = Ytniejbncahmcoaa.over w s ∧ Hid (Us (Ytniejbncahmcoaa.over w s) sv l) := by
  obtain ⟨sv, he, hx, hu⟩ := h
  obtain ⟨s, rfl⟩ := over_of hx
  exact ⟨sv, he, s, rfl, Lib.hid hu⟩

end Go.Proofs.Ytniejbncahmcoaa
