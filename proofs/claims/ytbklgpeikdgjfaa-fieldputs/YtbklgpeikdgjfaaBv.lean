/-
  Words of 64 bits as BitVec 64, and the fields of a word: plain mathematics, nothing of the program. No conditions.
-/
import Derived.Laws.Entries
import Derived.Laws.Bits64
namespace Go.Proofs.Ytbklgpeikdgjfaa

/-- The greatest number of a field of b bits. -/
def mostN (b : Int) : BitVec 64 := BitVec.allOnes 64 >>> (64 - b.toNat)
def maskN (a b : Int) : BitVec 64 := mostN b <<< a.toNat
def getN (a b : Int) (w : BitVec 64) : BitVec 64 := (w &&& maskN a b) >>> a.toNat
def putN (a b : Int) (w v : BitVec 64) : BitVec 64 := (w &&& ~~~ (maskN a b)) ||| ((v <<< a.toNat) &&& maskN a b)
/-- A field is formed. -/
def Fm (a b : Int) : Prop := 0 ≤ a ∧ a < 64 ∧ 1 ≤ b ∧ b ≤ 64 - a

theorem bv_eq {x y : BitVec 64} (h : ∀ i, i < 64 → x.getLsbD i = y.getLsbD i) : x = y := BitVec.eq_of_getLsbD_eq h

theorem mostN_bit (b : Int) (i : Nat) (h1 : 0 ≤ b) (h2 : b ≤ 64) : (mostN b).getLsbD i = decide ((i : Int) < b) := by
  unfold mostN
  rw [BitVec.getLsbD_ushiftRight, BitVec.getLsbD_allOnes]
  simp only [decide_eq_decide]; omega

theorem maskN_bit (a b : Int) (i : Nat) (h : Fm a b) (hi : i < 64) : (maskN a b).getLsbD i = decide (a ≤ i ∧ (i : Int) < a + b) := by
  obtain ⟨h1, h2, h3, h4⟩ := h
  unfold maskN
  rw [BitVec.getLsbD_shiftLeft, mostN_bit b _ (by omega) (by omega)]
  by_cases e : i < a.toNat
  · simp [hi, e]; omega
  · simp only [hi, e, decide_true, decide_false, Bool.not_false, Bool.true_and, decide_eq_decide]; omega

theorem getN_bit (a b : Int) (w : BitVec 64) (i : Nat) (h : Fm a b) : (getN a b w).getLsbD i = (decide ((i : Int) < b) && w.getLsbD (a.toNat + i)) := by
  unfold getN
  rw [BitVec.getLsbD_ushiftRight, BitVec.getLsbD_and]
  by_cases e : a.toNat + i < 64
  · rw [maskN_bit a b _ h e]
    obtain ⟨h1, h2, h3, h4⟩ := h
    rw [Bool.and_comm]
    congr 1
    simp only [decide_eq_decide]; omega
  · rw [BitVec.getLsbD_of_ge w _ (by omega)]; simp

theorem putN_bit (a b : Int) (w v : BitVec 64) (i : Nat) (h : Fm a b) (hi : i < 64) :
    (putN a b w v).getLsbD i = if a ≤ i ∧ (i : Int) < a + b then v.getLsbD (i - a.toNat) else w.getLsbD i := by
  unfold putN
  rw [BitVec.getLsbD_or, BitVec.getLsbD_and, BitVec.getLsbD_and, BitVec.getLsbD_not, maskN_bit a b i h hi, BitVec.getLsbD_shiftLeft]
  obtain ⟨h1, h2, h3, h4⟩ := h
  by_cases e : a ≤ i ∧ (i : Int) < a + b
  · have : ¬ i < a.toNat := by omega
    simp [e, hi, this]
  · simp [e, hi]

/-! ### The operations on numbers, as the walk leaves them -/

theorem ofInt_toNat (x : BitVec 64) : BitVec.ofInt 64 (x.toNat : Int) = x := by
  apply BitVec.eq_of_toNat_eq
  rw [BitVec.ofInt_natCast, BitVec.toNat_ofNat]
  exact Nat.mod_eq_of_lt x.isLt

theorem toNat_of_wrap (x : BitVec 64) : IntKind.u64.wrap (x.toNat : Int) = x.toNat := by
  rw [IntKind.wrap_u64]; have := x.isLt; omega

theorem shr_toNat (x : BitVec 64) (n : Nat) : (x.toNat : Int) / 2 ^ n = ((x >>> n).toNat : Int) := by
  rw [BitVec.toNat_ushiftRight, Nat.shiftRight_eq_div_pow]; simp

theorem ones_shr (n : Nat) : (18446744073709551615 : Int) / 2 ^ n = ((BitVec.allOnes 64 >>> n).toNat : Int) := by
  rw [← shr_toNat]; rfl

theorem shl_toNat (x : BitVec 64) (n : Nat) : (x.toNat : Int) * 2 ^ n % 18446744073709551616 = ((x <<< n).toNat : Int) := by
  rw [BitVec.toNat_shiftLeft, Nat.shiftLeft_eq]; simp

/-- A word as the number that the program holds (a name of its own, so that nobody takes it apart). -/
def U (x : BitVec 64) : Int := (x.toNat : Int)
theorem U_inj {x y : BitVec 64} (h : U x = U y) : x = y := BitVec.eq_of_toNat_eq (by unfold U at h; omega)
theorem U_eq (x y : BitVec 64) : (U x = U y) ↔ (x = y) := ⟨U_inj, fun h => by rw [h]⟩
theorem U_nonneg (x : BitVec 64) : 0 ≤ U x := by unfold U; omega
theorem U_lt (x : BitVec 64) : U x < 18446744073709551616 := by have := x.isLt; unfold U; omega
theorem U_le (x y : BitVec 64) : (U x ≤ U y) ↔ (x ≤ y) := by unfold U; rw [BitVec.le_def]; omega

theorem wrap_shl (x : BitVec 64) (n : Nat) : IntKind.u64.wrap (U x * 2 ^ n) = U (x <<< n) := by
  rw [IntKind.wrap_u64]; exact shl_toNat x n
theorem div_shr (x : BitVec 64) (n : Nat) : U x / 2 ^ n = U (x >>> n) := shr_toNat x n
theorem bits_and (x y : BitVec 64) : bits .and .u64 (U x) (U y) = U (x &&& y) := by
  show IntKind.u64.wrap ((BitVec.ofInt 64 (x.toNat : Int) &&& BitVec.ofInt 64 (y.toNat : Int)).toNat : Int) = _
  rw [ofInt_toNat, ofInt_toNat, toNat_of_wrap, U]
theorem bits_or (x y : BitVec 64) : bits .or .u64 (U x) (U y) = U (x ||| y) := by
  show IntKind.u64.wrap ((BitVec.ofInt 64 (x.toNat : Int) ||| BitVec.ofInt 64 (y.toNat : Int)).toNat : Int) = _
  rw [ofInt_toNat, ofInt_toNat, toNat_of_wrap, U]
theorem bits_xor (x y : BitVec 64) : bits .xor .u64 (U x) (U y) = U (x ^^^ y) := by
  show IntKind.u64.wrap ((BitVec.ofInt 64 (x.toNat : Int) ^^^ BitVec.ofInt 64 (y.toNat : Int)).toNat : Int) = _
  rw [ofInt_toNat, ofInt_toNat, toNat_of_wrap, U]
theorem bits_andNot (x y : BitVec 64) : bits .andNot .u64 (U x) (U y) = U (x &&& ~~~ y) := by
  show IntKind.u64.wrap ((BitVec.ofInt 64 (x.toNat : Int) &&& ~~~ BitVec.ofInt 64 (y.toNat : Int)).toNat : Int) = _
  rw [ofInt_toNat, ofInt_toNat, toNat_of_wrap, U]

attribute [go_sem] wrap_shl div_shr bits_and bits_or bits_xor bits_andNot

theorem U_of (x : BitVec 64) (n : Int) (h : (x.toNat : Int) = n) : U x = n := h
theorem U_toNat (x : BitVec 64) : U x = (x.toNat : Int) := rfl
/-- A number of 64 bits without a sign is a word's. -/
theorem word_of (x : Int) (h1 : 0 ≤ x) (h2 : x ≤ 18446744073709551615) : ∃ v : BitVec 64, x = U v := by
  refine ⟨BitVec.ofNat 64 x.toNat, ?_⟩
  unfold U
  rw [BitVec.toNat_ofNat]
  omega

theorem mostN_def (b : Int) : mostN b = BitVec.allOnes 64 >>> (64 - b.toNat) := rfl
theorem maskN_def (a b : Int) : maskN a b = mostN b <<< a.toNat := rfl
theorem getN_def (a b : Int) (w : BitVec 64) : getN a b w = (w &&& maskN a b) >>> a.toNat := rfl
theorem putN_def (a b : Int) (w v : BitVec 64) : putN a b w v = (w &&& ~~~ (maskN a b)) ||| ((v <<< a.toNat) &&& maskN a b) := rfl
theorem U_most8 : U (mostN 8) = 255 := U_of _ _ (by decide)
theorem U_get48 : U (getN 4 8 147#64) = 9 := U_of _ _ (by decide)
theorem U_147 : U 147#64 = 147 := U_of _ _ (by decide)
theorem U_0 : U 0#64 = 0 := U_of _ _ (by decide)
theorem U_ones : U 18446744073709551615#64 = 18446744073709551615 := U_of _ _ (by decide)
attribute [irreducible] U mostN maskN getN putN

end Go.Proofs.Ytbklgpeikdgjfaa
