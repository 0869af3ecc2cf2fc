/-
  Words of 64 bits as BitVec 64, and the fields of a word: plain mathematics, nothing of the program. No conditions.
-/
import Derived.Laws.Entries
import Derived.Laws.Bits64
namespace Go.Proofs.Ytniejbncahmcoaa

/-- The greatest number of a field of b bits. -/
def mostN (b : Int) : BitVec 64 := BitVec.allOnes 64 >>> (64 - b.toNat)
def maskN (a b : Int) : BitVec 64 := mostN b <<< a.toNat
def getN (a b : Int) (w : BitVec 64) : BitVec 64 := (w &&& maskN a b) >>> a.toNat
def putN (a b : Int) (w v : BitVec 64) : BitVec 64 := (w &&& ~~~ (maskN a b)) ||| ((v <<< a.toNat) &&& maskN a b)
/-- A field is formed. -/
def Fm (a b : Int) : Prop := 0 ≤ a ∧ a < 64 ∧ 1 ≤ b ∧ b ≤ 64 - a

theorem bv_eq {x y : BitVec 64} (h : ∀ i, i < 64 → x.getLsbD i = y.getLsbD i) : x = y := BitVec.eq_of_getLsbD_eq h

theorem mostN_bit (b : Int) (i : Nat) (h1 : 0 ≤ b) (h2 : b ≤ 64) : (mostN b).getLsbD i = decide ((i : Int) < b) := by
  unfold mostN
  rw [BitVec.getLsbD_ushiftRight, BitVec.getLsbD_allOnes]
  simp only [decide_eq_decide]; omega

theorem maskN_bit (a b : Int) (i : Nat) (h : Fm a b) (hi : i < 64) : (maskN a b).getLsbD i = decide (a ≤ i ∧ (i : Int) < a + b) := by
  obtain ⟨h1, h2, h3, h4⟩ := h
  unfold maskN
  rw [BitVec.getLsbD_shiftLeft, mostN_bit b _ (by omega) (by omega)]
  by_cases e : i < a.toNat
  · simp [hi, e]; omega
  · simp only [hi, e, decide_true, decide_false, Bool.not_false, Bool.true_and, decide_eq_decide]; omega

theorem getN_bit (a b : Int) (w : BitVec 64) (i : Nat) (h : Fm a b) : (getN a b w).getLsbD i = (decide ((i : Int) < b) && w.getLsbD (a.toNat + i)) := by
  unfold getN
  rw [BitVec.getLsbD_ushiftRight, BitVec.getLsbD_and]
  by_cases e : a.toNat + i < 64
  · rw [maskN_bit a b _ h e]
    obtain ⟨h1, h2, h3, h4⟩ := h
    rw [Bool.and_comm]
    congr 1
    simp only [decide_eq_decide]; omega
  · rw [BitVec.getLsbD_of_ge w _ (by omega)]; simp

theorem putN_bit (a b : Int) (w v : BitVec 64) (i : Nat) (h : Fm a b) (hi : i < 64) :
    (putN a b w v).getLsbD i = if a ≤ i ∧ (i : Int) < a + b then v.getLsbD (i - a.toNat) else w.getLsbD i := by
  unfold putN
  rw [BitVec.getLsbD_or, BitVec.getLsbD_and, BitVec.getLsbD_and, BitVec.getLsbD_not, maskN_bit a b i h hi, BitVec.getLsbD_shiftLeft]
  obtain ⟨h1, h2, h3, h4⟩ := h
  by_cases e : a ≤ i ∧ (i : Int) < a + b
  · have : ¬ i < a.toNat := by omega
    simp [e, hi, this]
  · simp [e, hi]

/-! ### The operations on numbers, as the walk leaves them -/

theorem ofInt_toNat (x : BitVec 64) : BitVec.ofInt 64 (x.toNat : Int) = x := by
  apply BitVec.eq_of_toNat_eq
  rw [BitVec.ofInt_natCast, BitVec.toNat_ofNat]
  exact Nat.mod_eq_of_lt x.isLt

theorem toNat_of_wrap (x : BitVec 64) : IntKind.u64.wrap (x.toNat : Int) = x.toNat := by
  rw [IntKind.wrap_u64]; have := x.isLt; omega

theorem shr_toNat (x : BitVec 64) (n : Nat) : (x.toNat : Int) / 2 ^ n = ((x >>> n).toNat : Int) := by
  rw [BitVec.toNat_ushiftRight, Nat.shiftRight_eq_div_pow]; simp

theorem ones_shr (n : Nat) : (18446744073709551615 : Int) / 2 ^ n = ((BitVec.allOnes 64 >>> n).toNat : Int) := by
  rw [← shr_toNat]; rfl

theorem shl_toNat (x : BitVec 64) (n : Nat) : (x.toNat : Int) * 2 ^ n % 18446744073709551616 = ((x <<< n).toNat : Int) := by
  rw [BitVec.toNat_shiftLeft, Nat.shiftLeft_eq]; simp

/-- A word as the number that the program holds (a name of its own, so that nobody takes it apart). -/
def U (x : BitVec 64) : Int := (x.toNat : Int)
theorem U_inj {x y : BitVec 64} (h : U x = U y) : x = y := BitVec.eq_of_toNat_eq (by unfold U at h; omega)
theorem U_eq (x y : BitVec 64) : (U x = U y) ↔ (x = y) := ⟨U_inj, fun h => by rw [h]⟩
theorem U_nonneg (x : BitVec 64) : 0 ≤ U x := by unfold U; omega
theorem U_lt (x : BitVec 64) : U x < 18446744073709551616 := by have := x.isLt; unfold U; omega
theorem U_le (x y : BitVec 64) : (U x ≤ U y) ↔ (x ≤ y) := by unfold U; rw [BitVec.le_def]; omega

theorem wrap_shl (x : BitVec 64) (n : Nat) : IntKind.u64.wrap (U x * 2 ^ n) = U (x <<< n) := by
  rw [IntKind.wrap_u64]; exact shl_toNat x n
theorem div_shr (x : BitVec 64) (n : Nat) : U x / 2 ^ n = U (x >>> n) := shr_toNat x n
theorem bits_and (x y : BitVec 64) : bits .and .u64 (U x) (U y) = U (x &&& y) := by
  show IntKind.u64.wrap ((BitVec.ofInt 64 (x.toNat : Int) &&& BitVec.ofInt 64 (y.toNat : Int)).toNat : Int) = _
  rw [ofInt_toNat, ofInt_toNat, toNat_of_wrap, U]
theorem bits_or (x y : BitVec 64) : bits .or .u64 (U x) (U y) = U (x ||| y) := by
  show IntKind.u64.wrap ((BitVec.ofInt 64 (x.toNat : Int) ||| BitVec.ofInt 64 (y.toNat : Int)).toNat : Int) = _
  rw [ofInt_toNat, ofInt_toNat, toNat_of_wrap, U]
theorem bits_xor (x y : BitVec 64) : bits .xor .u64 (U x) (U y) = U (x ^^^ y) := by
  show IntKind.u64.wrap ((BitVec.ofInt 64 (x.toNat : Int) ^^^ BitVec.ofInt 64 (y.toNat : Int)).toNat : Int) = _
  rw [ofInt_toNat, ofInt_toNat, toNat_of_wrap, U]
theorem bits_andNot (x y : BitVec 64) : bits .andNot .u64 (U x) (U y) = U (x &&& ~~~ y) := by
  show IntKind.u64.wrap ((BitVec.ofInt 64 (x.toNat : Int) &&& ~~~ BitVec.ofInt 64 (y.toNat : Int)).toNat : Int) = _
  rw [ofInt_toNat, ofInt_toNat, toNat_of_wrap, U]

theorem wrap_pow (n : Nat) : IntKind.u64.wrap (2 ^ n) = U (1#64 <<< n) := by
  have h := wrap_shl 1#64 n
  rw [show U 1#64 = 1 from by decide, Int.one_mul] at h
  exact h
/-- A word's lowest bit, as the program asks for it. -/
theorem bit_one (x : BitVec 64) : (bits .and .u64 (U x) 1 == 1) = x.getLsbD 0 := by
  have h := bits_and x 1#64
  rw [show U 1#64 = 1 from by decide] at h
  rw [h]
  have e : (U (x &&& 1#64) == 1) = decide (x &&& 1#64 = 1#64) := by
    rw [Bool.eq_iff_iff]
    simp only [beq_iff_eq, decide_eq_true_eq]
    exact ⟨fun h => U_inj (by rw [h]; decide), fun h => by rw [h]; decide⟩
  rw [e]
  by_cases hx : x.getLsbD 0 = true
  · rw [hx, decide_eq_true_eq]
    apply bv_eq; intro i hi
    rw [BitVec.getLsbD_and, BitVec.getLsbD_one]
    by_cases h0 : i = 0
    · subst h0; simp [hx]
    · simp [h0]
  · have hx' : x.getLsbD 0 = false := by simpa using hx
    rw [hx', decide_eq_false_iff_not]
    intro h
    have h2 := congrArg (fun y : BitVec 64 => y.getLsbD 0) h
    have h3 : (x &&& 1#64).getLsbD 0 = (1#64).getLsbD 0 := h2
    rw [BitVec.getLsbD_and, hx'] at h3
    exact absurd h3 (by decide)
theorem bit_shr (x : BitVec 64) (n : Nat) : (bits .and .u64 (U (x >>> n)) 1 == 1) = x.getLsbD n := by
  rw [bit_one, BitVec.getLsbD_ushiftRight, Nat.add_zero]
attribute [go_sem] wrap_pow
attribute [go_sem] wrap_shl div_shr bits_and bits_or bits_xor bits_andNot

theorem U_of (x : BitVec 64) (n : Int) (h : (x.toNat : Int) = n) : U x = n := h
theorem U_toNat (x : BitVec 64) : U x = (x.toNat : Int) := rfl
/-- A number of 64 bits without a sign is a word's. -/
theorem word_of (x : Int) (h1 : 0 ≤ x) (h2 : x ≤ 18446744073709551615) : ∃ v : BitVec 64, x = U v := by
  refine ⟨BitVec.ofNat 64 x.toNat, ?_⟩
  unfold U
  rw [BitVec.toNat_ofNat]
  omega

theorem ite_of_iff {α : Type} {p q : Prop} [Decidable p] [Decidable q] (h : p ↔ q) (x y : α) : (if p then x else y) = if q then x else y := by
  by_cases hq : q
  · rw [if_pos hq, if_pos (h.2 hq)]
  · rw [if_neg hq, if_neg (fun hp => hq (h.1 hp))]
/-- What a field's number is, bit by bit. -/
def lowN (a : Nat) (x : BitVec 64) : Nat → BitVec 64
  | 0 => 0#64
  | k + 1 => if x.getLsbD (a + k) = true then lowN a x k ||| (1#64 <<< k) else lowN a x k
theorem one_shl_bit (n i : Nat) (hi : i < 64) : (1#64 <<< n).getLsbD i = decide (i = n) := by
  rw [BitVec.getLsbD_shiftLeft, BitVec.getLsbD_one]
  by_cases e : i = n
  · subst e; simp [hi]
  · simp [hi, e]; omega
theorem lowN_bit (a : Nat) (x : BitVec 64) (i : Nat) (hi : i < 64) : ∀ k, (lowN a x k).getLsbD i = (decide (i < k) && x.getLsbD (a + i))
  | 0 => by simp [lowN]
  | k + 1 => by
    unfold lowN
    have ih := lowN_bit a x i hi k
    by_cases e : i = k
    · subst e
      split
      · rename_i h; rw [BitVec.getLsbD_or, one_shl_bit _ _ hi, h]; simp
      · rename_i h; rw [ih]; simp at h; simp [h]
    · have e2 : decide (i < k + 1) = decide (i < k) := by simp only [decide_eq_decide]; omega
      rw [e2]
      split
      · rw [BitVec.getLsbD_or, one_shl_bit _ _ hi, ih]; simp [e]
      · exact ih
theorem lowN_get (a b : Int) (x : BitVec 64) (h : Fm a b) : lowN a.toNat x b.toNat = getN a b x := by
  apply bv_eq; intro i hi
  rw [lowN_bit _ _ _ hi, getN_bit a b x i h]
  obtain ⟨h1, h2, h3, h4⟩ := h
  congr 1
  simp only [decide_eq_decide]; omega
/-- A word with another number in a field, bit by bit. -/
def putTo (a : Nat) (w v : BitVec 64) : Nat → BitVec 64
  | 0 => w
  | k + 1 => if v.getLsbD k = true then putTo a w v k ||| (1#64 <<< (a + k)) else putTo a w v k &&& ~~~ (1#64 <<< (a + k))
theorem putTo_bit (a : Nat) (w v : BitVec 64) (i : Nat) (hi : i < 64) : ∀ k, (putTo a w v k).getLsbD i = if a ≤ i ∧ i < a + k then v.getLsbD (i - a) else w.getLsbD i
  | 0 => by rw [if_neg (by omega)]; rfl
  | k + 1 => by
    unfold putTo
    have ih := putTo_bit a w v i hi k
    by_cases e : i = a + k
    · have e1 : i - a = k := by omega
      by_cases h : v.getLsbD k = true
      · rw [if_pos h, if_pos (by omega), BitVec.getLsbD_or, one_shl_bit _ _ hi, e1, h]; simp [e]
      · rw [if_neg h, if_pos (by omega), BitVec.getLsbD_and, BitVec.getLsbD_not, one_shl_bit _ _ hi, e1]; simp at h; simp [e, h]
    · have e2 : (a ≤ i ∧ i < a + (k + 1)) ↔ (a ≤ i ∧ i < a + k) := by omega
      rw [ite_of_iff e2 (v.getLsbD (i - a)) (w.getLsbD i), ← ih]
      by_cases h : v.getLsbD k = true
      · rw [if_pos h, BitVec.getLsbD_or, one_shl_bit _ _ hi]; simp [e]
      · rw [if_neg h, BitVec.getLsbD_and, BitVec.getLsbD_not, one_shl_bit _ _ hi]; simp [e, hi]
theorem putTo_put (a b : Int) (w v : BitVec 64) (h : Fm a b) : putTo a.toNat w v b.toNat = putN a b w v := by
  apply bv_eq; intro i hi
  rw [putTo_bit _ _ _ _ hi, putN_bit a b w v i h hi]
  obtain ⟨h1, h2, h3, h4⟩ := h
  exact ite_of_iff (by omega) _ _
theorem get_ones (a b : Int) (h : Fm a b) : getN a b 18446744073709551615#64 = mostN b := by
  apply bv_eq; intro i hi
  rw [getN_bit a b _ _ h, mostN_bit b i (by have := h.2.2.1; omega) (by have := h.1; have := h.2.2.2; omega)]
  by_cases e : (i : Int) < b
  · obtain ⟨h1, h2, h3, h4⟩ := h
    have : (18446744073709551615#64).getLsbD (a.toNat + i) = true := by
      rw [show 18446744073709551615#64 = BitVec.allOnes 64 from by decide, BitVec.getLsbD_allOnes]; simp; omega
    simp [this]
  · simp [e]

theorem mostN_def (b : Int) : mostN b = BitVec.allOnes 64 >>> (64 - b.toNat) := rfl
theorem maskN_def (a b : Int) : maskN a b = mostN b <<< a.toNat := rfl
theorem getN_def (a b : Int) (w : BitVec 64) : getN a b w = (w &&& maskN a b) >>> a.toNat := rfl
theorem putN_def (a b : Int) (w v : BitVec 64) : putN a b w v = (w &&& ~~~ (maskN a b)) ||| ((v <<< a.toNat) &&& maskN a b) := rfl
theorem U_most8 : U (mostN 8) = 255 := U_of _ _ (by decide)
theorem U_get48 : U (getN 4 8 147#64) = 9 := U_of _ _ (by decide)
theorem U_147 : U 147#64 = 147 := U_of _ _ (by decide)
theorem U_0 : U 0#64 = 0 := U_of _ _ (by decide)
theorem U_ones : U 18446744073709551615#64 = 18446744073709551615 := U_of _ _ (by decide)
attribute [irreducible] U mostN maskN getN putN

end Go.Proofs.Ytniejbncahmcoaa
