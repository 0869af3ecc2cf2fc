/-
  A handle, its word and whose word a word is: plain mathematics, nothing of the program. No conditions.
-/
import Derived.Test.YtniejbncahmcoaaWd
namespace Go.Proofs.Ytniejbncahmcoaa
open Go Go.RowKit

/-- A handle: Index, Gen, Tenant. -/
structure Hn where
  i : Int
  g : Int
  t : Int
deriving DecidableEq
/-- It is formed. -/
def Hn.ok (h : Hn) : Prop := 0 ≤ h.i ∧ h.i ≤ 1048575 ∧ 0 ≤ h.g ∧ h.g ≤ 1073741823 ∧ 0 ≤ h.t ∧ h.t ≤ 63
instance (h : Hn) : Decidable h.ok := by unfold Hn.ok; exact inferInstance
/-- The number that a formed one's word is. -/
def Hn.num (h : Hn) : Int := h.i + h.g * 1048576 + h.t * 1125899906842624 + 12105675798371893248
/-- Its word; 0 of one that isn't formed. -/
def Hn.word (h : Hn) : BitVec 64 := if h.ok then BitVec.ofNat 64 h.num.toNat else 0#64
/-- The fields of a word. -/
def hnL : List (Int × Int) := [(0, 20), (20, 30), (50, 6), (58, 6)]
/-- The numbers in them. -/
def Hn.ns (h : Hn) : List (BitVec 64) := [bvI h.i, bvI h.g, bvI h.t, bvI 42]

theorem hnL_lay : LayF hnL := by
  intro i hi
  have h : i < 4 := hi
  have e : i = 0 ∨ i = 1 ∨ i = 2 ∨ i = 3 := by omega
  rcases e with rfl | rfl | rfl | rfl
  · exact ⟨⟨by decide, by decide, by decide, by decide⟩, fun j hj => absurd hj (Nat.not_lt_zero _)⟩
  · refine ⟨⟨by decide, by decide, by decide, by decide⟩, fun j hj => ?_⟩
    obtain rfl : j = 0 := by omega
    unfold Meet
    decide
  · refine ⟨⟨by decide, by decide, by decide, by decide⟩, fun j hj => ?_⟩
    have e : j = 0 ∨ j = 1 := by omega
    unfold Meet
    rcases e with rfl | rfl <;> decide
  · refine ⟨⟨by decide, by decide, by decide, by decide⟩, fun j hj => ?_⟩
    have e : j = 0 ∨ j = 1 ∨ j = 2 := by omega
    unfold Meet
    rcases e with rfl | rfl | rfl <;> decide

theorem hU_word (h : Hn) (k : h.ok) : U h.word = h.num := by
  unfold Hn.word
  rw [if_pos k]
  have k' := k
  unfold Hn.ok at k'
  exact U_bvI h.num (by unfold Hn.num; omega) (by unfold Hn.num; omega)
theorem hword_no (h : Hn) (k : ¬ h.ok) : h.word = 0#64 := by unfold Hn.word; rw [if_neg k]

theorem U_most20 : U (mostN 20) = 1048575 := by rw [mostN_def]; exact U_of _ _ (by decide)
theorem hU_most30 : U (mostN 30) = 1073741823 := by rw [mostN_def]; exact U_of _ _ (by decide)
theorem U_most6 : U (mostN 6) = 63 := by rw [mostN_def]; exact U_of _ _ (by decide)
theorem hn_fit (h : Hn) (k : h.ok) : PackOk hnL h.ns := by
  refine ⟨hnL_lay, rfl, ?_⟩
  intro i hi
  have hi' : i < 4 := hi
  unfold Hn.ok at k
  have e : i = 0 ∨ i = 1 ∨ i = 2 ∨ i = 3 := by omega
  rcases e with rfl | rfl | rfl | rfl
  · show U (bvI h.i) ≤ U (mostN 20)
    rw [U_most20, U_bvI _ (by omega) (by omega)]; omega
  · show U (bvI h.g) ≤ U (mostN 30)
    rw [hU_most30, U_bvI _ (by omega) (by omega)]; omega
  · show U (bvI h.t) ≤ U (mostN 6)
    rw [U_most6, U_bvI _ (by omega) (by omega)]; omega
  · show U (bvI 42) ≤ U (mostN 6)
    rw [U_most6, U_bvI _ (by omega) (by omega)]; omega

/-- What Pack makes of a formed handle's numbers. -/
theorem hn_pack (h : Hn) (k : h.ok) : packTo hnL h.ns 4 = h.word := by
  have k' := k
  unfold Hn.ok at k'
  obtain ⟨g, m, t⟩ := h
  simp only at k'
  obtain ⟨G, rfl⟩ := Int.eq_ofNat_of_zero_le (show 0 ≤ g by omega)
  obtain ⟨M, rfl⟩ := Int.eq_ofNat_of_zero_le (show 0 ≤ m by omega)
  obtain ⟨T, rfl⟩ := Int.eq_ofNat_of_zero_le (show 0 ≤ t by omega)
  apply bv_eq
  intro i hi
  have hp := packTo_bit hnL (Hn.ns ⟨G, M, T⟩) i hi 4 hnL_lay
  unfold Hn.word
  rw [if_pos k, BitVec.getLsbD_ofNat]
  have en : (Hn.num ⟨(G : Int), (M : Int), (T : Int)⟩).toNat = 2 ^ 58 * 42 + (2 ^ 50 * T + (2 ^ 20 * M + G)) := by
    unfold Hn.num; simp only; omega
  rw [en, Nat.testBit_two_pow_mul_add 42 (by omega), decide_eq_true hi, Bool.true_and]
  by_cases c1 : i < 20
  · rw [hp.1 0 (by omega) ⟨by show (0 : Int) ≤ i; omega, by show (i : Int) < 0 + 20; omega⟩, if_pos (by omega), Nat.testBit_two_pow_mul_add T (by omega), if_pos (by omega), Nat.testBit_two_pow_mul_add M (by omega), if_pos c1]
    show (bvI (G : Int)).getLsbD (i - 0) = _
    rw [bvI_bit, decide_eq_true (by omega), Bool.true_and, Nat.sub_zero]
  · by_cases c2 : i < 50
    · rw [hp.1 1 (by omega) ⟨by show (20 : Int) ≤ i; omega, by show (i : Int) < 20 + 30; omega⟩, if_pos (by omega), Nat.testBit_two_pow_mul_add T (by omega), if_pos (by omega), Nat.testBit_two_pow_mul_add M (by omega), if_neg c1]
      show (bvI (M : Int)).getLsbD (i - 20) = _
      rw [bvI_bit, decide_eq_true (by omega), Bool.true_and]
    · by_cases c3 : i < 56
      · rw [hp.1 2 (by omega) ⟨by show (50 : Int) ≤ i; omega, by show (i : Int) < 50 + 6; omega⟩, if_pos (by omega), Nat.testBit_two_pow_mul_add T (by omega), if_neg c2]
        show (bvI (T : Int)).getLsbD (i - 50) = _
        rw [bvI_bit, decide_eq_true (by omega), Bool.true_and]
      · by_cases c4 : i < 58
        · rw [hp.2 ?_, if_pos c4, Nat.testBit_two_pow_mul_add T (by omega), if_neg c2]
          · symm
            apply Nat.testBit_lt_two_pow
            have e1 : 2 ^ 6 ≤ 2 ^ (i - 50) := Nat.pow_le_pow_right (by decide) (by omega)
            omega
          · intro j hj hin
            have e : j = 0 ∨ j = 1 ∨ j = 2 ∨ j = 3 := by omega
            rcases e with rfl | rfl | rfl | rfl
            · have : (i : Int) < 0 + 20 := hin.2; omega
            · have : (i : Int) < 20 + 30 := hin.2; omega
            · have : (i : Int) < 50 + 6 := hin.2; omega
            · have : (58 : Int) ≤ i := hin.1; omega
        · rw [hp.1 3 (by omega) ⟨by show (58 : Int) ≤ i; omega, by show (i : Int) < 58 + 6; omega⟩, if_neg c4]
          show (bvI ((42 : Nat) : Int)).getLsbD (i - 58) = _
          rw [bvI_bit, decide_eq_true (by omega), Bool.true_and]

theorem hU_get0 (x : BitVec 64) : U (getN 0 20 x) = U x % 1048576 := by
  rw [U_getN 0 20 x ⟨by decide, by decide, by decide, by decide⟩]
  show U x / 1 % 1048576 = _
  rw [Int.ediv_one]
theorem hU_get1 (x : BitVec 64) : U (getN 20 30 x) = U x / 1048576 % 1073741824 := U_getN 20 30 x ⟨by decide, by decide, by decide, by decide⟩
theorem hU_get2 (x : BitVec 64) : U (getN 50 6 x) = U x / 1125899906842624 % 64 := U_getN 50 6 x ⟨by decide, by decide, by decide, by decide⟩
theorem hU_get3 (x : BitVec 64) : U (getN 58 6 x) = U x / 288230376151711744 % 64 := U_getN 58 6 x ⟨by decide, by decide, by decide, by decide⟩
theorem hn_split (x : BitVec 64) : splitL hnL x = [getN 0 20 x, getN 20 30 x, getN 50 6 x, getN 58 6 x] := rfl
theorem hn_cov : ~~~ (covTo hnL 4) = 3#64 <<< 56 := by
  show ~~~ ((((0#64 ||| maskN 0 20) ||| maskN 20 30) ||| maskN 50 6) ||| maskN 58 6) = _
  simp only [maskN_def, mostN_def]
  decide
theorem and_shl (x m : BitVec 64) (n : Nat) : (x &&& m <<< n = 0#64) ↔ (x >>> n) &&& m = 0#64 := by
  constructor
  · intro h
    apply bv_eq
    intro i hi
    have h1 : (x &&& m <<< n).getLsbD (n + i) = (0#64).getLsbD (n + i) := by rw [h]
    rw [BitVec.getLsbD_and, BitVec.getLsbD_ushiftRight, BitVec.getLsbD_zero]
    by_cases c : n + i < 64
    · rw [BitVec.getLsbD_and, BitVec.getLsbD_shiftLeft, decide_eq_true c, decide_eq_false (by omega), Bool.not_false, Bool.true_and, Bool.true_and, Nat.add_sub_cancel_left, BitVec.getLsbD_zero] at h1
      exact h1
    · rw [BitVec.getLsbD_of_ge x (n + i) (by omega), Bool.false_and]
  · intro h
    apply bv_eq
    intro i hi
    rw [BitVec.getLsbD_and, BitVec.getLsbD_shiftLeft, BitVec.getLsbD_zero]
    by_cases c : i < n
    · rw [decide_eq_true c, Bool.not_true, Bool.and_false, Bool.false_and, Bool.and_false]
    · have h1 : ((x >>> n) &&& m).getLsbD (i - n) = (0#64).getLsbD (i - n) := by rw [h]
      rw [BitVec.getLsbD_and, BitVec.getLsbD_ushiftRight, show n + (i - n) = i by omega, BitVec.getLsbD_zero] at h1
      rw [decide_eq_true hi, decide_eq_false c, Bool.not_false, Bool.true_and, Bool.true_and]
      exact h1
/-- No bit stands outside of the fields. -/
theorem hn_out (x : BitVec 64) : x &&& ~~~ (covTo hnL 4) = 0#64 ↔ U x / 72057594037927936 % 4 = 0 := by
  rw [hn_cov]
  have e := and_shl x 3#64 56
  rw [e, U_toNat]
  have e2 : ((x >>> 56) &&& 3#64).toNat = x.toNat / 72057594037927936 % 4 := by
    rw [BitVec.toNat_and, BitVec.toNat_ushiftRight, Nat.shiftRight_eq_div_pow]
    exact Nat.and_two_pow_sub_one_eq_mod _ 2
  constructor
  · intro h
    rw [h] at e2
    have e3 : (0 : Nat) = x.toNat / 72057594037927936 % 4 := e2
    omega
  · intro h
    apply BitVec.eq_of_toNat_eq
    rw [e2]
    show _ = 0
    omega

/-- The numbers that stand in a word's fields. -/
def hnN (x : BitVec 64) : Hn := ⟨U x % 1048576, U x / 1048576 % 1073741824, U x / 1125899906842624 % 64⟩
/-- Whether the word is a handle's. -/
def isH (x : BitVec 64) : Prop := U x / 72057594037927936 = 168
instance (x : BitVec 64) : Decidable (isH x) := by unfold isH; exact inferInstance
/-- Of's answer. -/
def ofH (x : BitVec 64) : Hn := if isH x then hnN x else ⟨0, 0, 0⟩
theorem hnN_ok (x : BitVec 64) : (hnN x).ok := by
  unfold hnN Hn.ok
  dsimp only
  omega
theorem isH_num (x : BitVec 64) : isH x ↔ (hnN x).num = U x := by
  have h0 := U_nonneg x
  have h1 := U_lt x
  unfold isH Hn.num hnN
  dsimp only
  omega
theorem isH_parts (x : BitVec 64) : isH x ↔ (U x / 72057594037927936 % 4 = 0 ∧ U x / 288230376151711744 % 64 = 42) := by
  have h0 := U_nonneg x
  have h1 := U_lt x
  unfold isH
  omega
theorem ofH_no (x : BitVec 64) (h : ¬ isH x) : ofH x = ⟨0, 0, 0⟩ := by unfold ofH; rw [if_neg h]
theorem ofH_yes (x : BitVec 64) (h : isH x) : ofH x = hnN x := by unfold ofH; rw [if_pos h]
/-- A formed handle comes again from its word. -/
theorem isH_word (s : Hn) (h : s.ok) : isH s.word ∧ ofH s.word = s := by
  have e : hnN s.word = s := by
    have h' := h
    unfold Hn.ok at h'
    unfold hnN
    rw [hU_word s h]
    obtain ⟨i, g, t⟩ := s
    unfold Hn.num
    simp only at h' ⊢
    have e1 : (i + g * 1048576 + t * 1125899906842624 + 12105675798371893248) % 1048576 = i := by omega
    have e2 : (i + g * 1048576 + t * 1125899906842624 + 12105675798371893248) / 1048576 % 1073741824 = g := by omega
    have e3 : (i + g * 1048576 + t * 1125899906842624 + 12105675798371893248) / 1125899906842624 % 64 = t := by omega
    rw [e1, e2, e3]
  have hw : isH s.word := (isH_num _).2 (by rw [e]; exact (hU_word s h).symm)
  refine ⟨hw, ?_⟩
  unfold ofH
  rw [if_pos hw, e]
theorem hword_inj {s t : Hn} (hs : s.ok) (ht : t.ok) (h : s.word = t.word) : s = t := by
  rw [← (isH_word s hs).2, ← (isH_word t ht).2, h]
/-- A word that is a handle's is that handle's word. -/
theorem word_ofH (x : BitVec 64) (h : isH x) : (ofH x).word = x := by
  rw [ofH_yes x h]
  apply U_inj
  rw [hU_word _ (hnN_ok x)]
  exact (isH_num x).1 h
theorem isH_shr (x : BitVec 64) : isH x ↔ x >>> 56 = 168#64 := by
  unfold isH
  rw [U_toNat]
  constructor
  · intro h
    apply BitVec.eq_of_toNat_eq
    rw [BitVec.toNat_ushiftRight, Nat.shiftRight_eq_div_pow]
    show x.toNat / 72057594037927936 = 168
    omega
  · intro h
    have h1 : (x >>> 56).toNat = 168 := by rw [h]; rfl
    rw [BitVec.toNat_ushiftRight, Nat.shiftRight_eq_div_pow] at h1
    have h2 : x.toNat / 72057594037927936 = 168 := h1
    omega
/-- With one bit turned a handle's word is another handle's just where the bit stands in Index, Gen or Tenant. -/
theorem isH_turn (x : BitVec 64) (h : isH x) (b : Nat) (hb : b < 64) : isH (x ^^^ (1#64 <<< b)) ↔ b < 56 := by
  rw [isH_shr] at h ⊢
  rw [BitVec.ushiftRight_xor_distrib, h]
  constructor
  · intro e
    rcases Nat.lt_or_ge b 56 with c | c
    · exact c
    · exfalso
      have e1 : (168#64 ^^^ (1#64 <<< b) >>> 56).getLsbD (b - 56) = (168#64).getLsbD (b - 56) := by rw [e]
      rw [BitVec.getLsbD_xor, BitVec.getLsbD_ushiftRight, one_shl_bit _ _ (by omega), decide_eq_true (by omega)] at e1
      revert e1
      cases (168#64).getLsbD (b - 56) <;> simp
  · intro c
    apply bv_eq
    intro i hi
    rw [BitVec.getLsbD_xor, BitVec.getLsbD_ushiftRight]
    have z : (1#64 <<< b).getLsbD (56 + i) = false := by
      by_cases d : 56 + i < 64
      · rw [one_shl_bit _ _ d, decide_eq_false (by omega)]
      · exact BitVec.getLsbD_of_ge _ _ (by omega)
    rw [z, Bool.xor_false]
theorem turn_ne (x : BitVec 64) (b : Nat) (hb : b < 64) : x ^^^ (1#64 <<< b) ≠ x := by
  intro e
  have e1 : (x ^^^ (1#64 <<< b)).getLsbD b = x.getLsbD b := by rw [e]
  rw [BitVec.getLsbD_xor, one_shl_bit _ _ hb, decide_eq_true rfl] at e1
  revert e1
  cases x.getLsbD b <;> simp
theorem ofH_turn (s : Hn) (h : s.ok) (b : Nat) (hb : b < 56) : ofH (s.word ^^^ (1#64 <<< b)) ≠ s := by
  intro e
  have hi := (isH_turn s.word (isH_word s h).1 b (by omega)).2 hb
  have e1 := word_ofH _ hi
  rw [e] at e1
  exact turn_ne s.word b (by omega) e1.symm
theorem isH_zero : ¬ isH 0#64 := by unfold isH; rw [U_0]; decide

/-- Whether the word is a handle of that tenant's, of one of so many nodes. -/
def isMine (x : BitVec 64) (t n : Int) : Prop := isH x ∧ (hnN x).t = t ∧ (hnN x).i < n
instance (x : BitVec 64) (t n : Int) : Decidable (isMine x t n) := by unfold isMine; exact inferInstance
/-- Mine's answer. -/
def mineH (x : BitVec 64) (t n : Int) : Hn := if isMine x t n then hnN x else ⟨0, 0, 0⟩
theorem isMine_word (s : Hn) (h : s.ok) (t n : Int) : isMine s.word t n ↔ (t = s.t ∧ n > s.i) := by
  have e := isH_word s h
  have e2 : hnN s.word = s := by rw [← ofH_yes _ e.1]; exact e.2
  unfold isMine
  rw [e2]
  constructor
  · rintro ⟨_, h1, h2⟩
    exact ⟨h1.symm, h2⟩
  · rintro ⟨h1, h2⟩
    exact ⟨e.1, h1.symm, h2⟩

end Go.Proofs.Ytniejbncahmcoaa
