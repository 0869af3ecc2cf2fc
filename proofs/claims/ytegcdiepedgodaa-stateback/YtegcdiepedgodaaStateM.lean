/-
  A state of a node, its word and whose word a word is: plain mathematics, nothing of the program. No conditions.
-/
import Derived.Test.YtegcdiepedgodaaSpl
namespace Go.Proofs.Ytegcdiepedgodaa
open Go Go.RowKit

/-- A state: Gen, Mode, Kind. -/
structure St where
  g : Int
  m : Int
  k : Int
deriving DecidableEq
/-- It is formed. -/
def St.ok (s : St) : Prop := 0 ≤ s.g ∧ s.g ≤ 1073741823 ∧ 0 ≤ s.m ∧ s.m ≤ 3 ∧ 0 ≤ s.k ∧ s.k ≤ 2
instance (s : St) : Decidable s.ok := by unfold St.ok; exact inferInstance
/-- The number that a formed one's word is. -/
def St.num (s : St) : Int := s.g + s.m * 1073741824 + s.k * 4294967296
/-- Its word; 0 of one that isn't formed. -/
def St.word (s : St) : BitVec 64 := if s.ok then BitVec.ofNat 64 s.num.toNat else 0#64
/-- The fields of a word. -/
def stL : List (Int × Int) := [(0, 30), (30, 2), (32, 2)]
/-- The numbers in them. -/
def bvI (x : Int) : BitVec 64 := BitVec.ofNat 64 x.toNat
def St.ns (s : St) : List (BitVec 64) := [bvI s.g, bvI s.m, bvI s.k]

theorem stL_lay : LayF stL := by
  intro i hi
  have h : i < 3 := hi
  have e : i = 0 ∨ i = 1 ∨ i = 2 := by omega
  rcases e with rfl | rfl | rfl
  · exact ⟨⟨by decide, by decide, by decide, by decide⟩, fun j hj => absurd hj (Nat.not_lt_zero _)⟩
  · refine ⟨⟨by decide, by decide, by decide, by decide⟩, fun j hj => ?_⟩
    obtain rfl : j = 0 := by omega
    unfold Meet
    decide
  · refine ⟨⟨by decide, by decide, by decide, by decide⟩, fun j hj => ?_⟩
    have e : j = 0 ∨ j = 1 := by omega
    unfold Meet
    rcases e with rfl | rfl <;> decide

theorem U_bvI (x : Int) (h1 : 0 ≤ x) (h2 : x < 18446744073709551616) : U (bvI x) = x := by
  rw [U_toNat]
  unfold bvI
  rw [BitVec.toNat_ofNat]
  omega
theorem U_word (s : St) (h : s.ok) : U s.word = s.num := by
  unfold St.word
  rw [if_pos h]
  have h' := h
  unfold St.ok at h'
  exact U_bvI s.num (by unfold St.num; omega) (by unfold St.num; omega)
theorem word_no (s : St) (h : ¬ s.ok) : s.word = 0#64 := by unfold St.word; rw [if_neg h]
theorem num_inj {s t : St} (hs : s.ok) (ht : t.ok) (h : s.num = t.num) : s = t := by
  obtain ⟨a, b, c⟩ := s
  obtain ⟨x, y, z⟩ := t
  unfold St.ok at hs ht
  unfold St.num at h
  simp only at hs ht h
  have e1 : a = x := by omega
  have e2 : b = y := by omega
  have e3 : c = z := by omega
  rw [e1, e2, e3]

theorem U_most30 : U (mostN 30) = 1073741823 := by rw [mostN_def]; exact U_of _ _ (by decide)
theorem U_most2 : U (mostN 2) = 3 := by rw [mostN_def]; exact U_of _ _ (by decide)
theorem st_fit (s : St) (h : s.ok) : PackOk stL s.ns := by
  refine ⟨stL_lay, rfl, ?_⟩
  intro i hi
  have hi' : i < 3 := hi
  unfold St.ok at h
  have e : i = 0 ∨ i = 1 ∨ i = 2 := by omega
  rcases e with rfl | rfl | rfl
  · show U (bvI s.g) ≤ U (mostN 30)
    rw [U_most30, U_bvI _ (by omega) (by omega)]; omega
  · show U (bvI s.m) ≤ U (mostN 2)
    rw [U_most2, U_bvI _ (by omega) (by omega)]; omega
  · show U (bvI s.k) ≤ U (mostN 2)
    rw [U_most2, U_bvI _ (by omega) (by omega)]; omega

/-- What Pack makes of a formed state's numbers. -/
theorem st_pack (s : St) (h : s.ok) : packTo stL s.ns 3 = s.word := by
  have h' := h
  unfold St.ok at h'
  obtain ⟨g, m, k⟩ := s
  simp only at h'
  obtain ⟨G, rfl⟩ := Int.eq_ofNat_of_zero_le (show 0 ≤ g by omega)
  obtain ⟨M, rfl⟩ := Int.eq_ofNat_of_zero_le (show 0 ≤ m by omega)
  obtain ⟨K, rfl⟩ := Int.eq_ofNat_of_zero_le (show 0 ≤ k by omega)
  apply bv_eq
  intro i hi
  have hp := packTo_bit stL (St.ns ⟨G, M, K⟩) i hi 3 stL_lay
  unfold St.word
  rw [if_pos h, BitVec.getLsbD_ofNat]
  have en : (St.num ⟨(G : Int), (M : Int), (K : Int)⟩).toNat = 2 ^ 32 * K + (2 ^ 30 * M + G) := by
    unfold St.num; simp only; omega
  rw [en, Nat.testBit_two_pow_mul_add K (by omega), decide_eq_true hi, Bool.true_and]
  have b : ∀ (x j : Nat), (bvI (x : Int)).getLsbD j = (decide (j < 64) && x.testBit j) := fun x j => by
    unfold bvI
    rw [BitVec.getLsbD_ofNat, Int.toNat_natCast]
  by_cases c1 : i < 30
  · rw [hp.1 0 (by omega) ⟨by show (0 : Int) ≤ i; omega, by show (i : Int) < 0 + 30; omega⟩, if_pos (by omega), Nat.testBit_two_pow_mul_add M (by omega), if_pos c1]
    show (bvI (G : Int)).getLsbD (i - 0) = _
    rw [b, decide_eq_true (by omega), Bool.true_and, Nat.sub_zero]
  · by_cases c2 : i < 32
    · rw [hp.1 1 (by omega) ⟨by show (30 : Int) ≤ i; omega, by show (i : Int) < 30 + 2; omega⟩, if_pos (by omega), Nat.testBit_two_pow_mul_add M (by omega), if_neg c1]
      show (bvI (M : Int)).getLsbD (i - 30) = _
      rw [b, decide_eq_true (by omega), Bool.true_and]
    · rw [if_neg c2]
      by_cases c3 : i < 34
      · rw [hp.1 2 (by omega) ⟨by show (32 : Int) ≤ i; omega, by show (i : Int) < 32 + 2; omega⟩]
        show (bvI (K : Int)).getLsbD (i - 32) = _
        rw [b, decide_eq_true (by omega), Bool.true_and]
      · rw [hp.2 ?_]
        · symm
          apply Nat.testBit_lt_two_pow
          have e1 : 2 ^ 2 ≤ 2 ^ (i - 32) := Nat.pow_le_pow_right (by decide) (by omega)
          omega
        · intro j hj hin
          have e : j = 0 ∨ j = 1 ∨ j = 2 := by omega
          rcases e with rfl | rfl | rfl
          · have : (i : Int) < 0 + 30 := hin.2; omega
          · have : (i : Int) < 30 + 2 := hin.2; omega
          · have : (i : Int) < 32 + 2 := hin.2; omega

/-- A field's number, reckoned. -/
theorem U_getN (a b : Int) (x : BitVec 64) (h : Fm a b) : U (getN a b x) = U x / 2 ^ a.toNat % 2 ^ b.toNat := by
  have e : (getN a b x).toNat = x.toNat / 2 ^ a.toNat % 2 ^ b.toNat := by
    apply Nat.eq_of_testBit_eq
    intro i
    rw [Nat.testBit_mod_two_pow, Nat.testBit_div_two_pow]
    have := getN_bit a b x i h
    rw [BitVec.getLsbD, BitVec.getLsbD] at this
    rw [this, Nat.add_comm]
    congr 1
    obtain ⟨h1, h2, h3, h4⟩ := h
    simp only [decide_eq_decide]
    omega
  rw [U_toNat, U_toNat, e]
  simp
theorem U_get0 (x : BitVec 64) : U (getN 0 30 x) = U x % 1073741824 := by
  rw [U_getN 0 30 x ⟨by decide, by decide, by decide, by decide⟩]
  show U x / 1 % 1073741824 = _
  rw [Int.ediv_one]
theorem U_get1 (x : BitVec 64) : U (getN 30 2 x) = U x / 1073741824 % 4 := U_getN 30 2 x ⟨by decide, by decide, by decide, by decide⟩
theorem U_get2 (x : BitVec 64) : U (getN 32 2 x) = U x / 4294967296 % 4 := U_getN 32 2 x ⟨by decide, by decide, by decide, by decide⟩
theorem st_split (x : BitVec 64) : splitL stL x = [getN 0 30 x, getN 30 2 x, getN 32 2 x] := rfl
theorem st_cov : covTo stL 3 = 17179869183#64 := by
  show ((0#64 ||| maskN 0 30) ||| maskN 30 2) ||| maskN 32 2 = _
  simp only [maskN_def, mostN_def]
  decide
/-- No bit stands outside of the fields. -/
theorem st_out (x : BitVec 64) : x &&& ~~~ (covTo stL 3) = 0#64 ↔ U x < 17179869184 := by
  rw [st_cov, U_toNat]
  have e : (x &&& ~~~ 17179869183#64 = 0#64) ↔ x >>> 34 = 0#64 := by
    constructor
    · intro h
      apply bv_eq
      intro i hi
      have h1 : (x &&& ~~~ 17179869183#64).getLsbD (34 + i) = (0#64).getLsbD (34 + i) := by rw [h]
      rw [BitVec.getLsbD_ushiftRight]
      by_cases c : 34 + i < 64
      · rw [BitVec.getLsbD_and, BitVec.getLsbD_not, show 17179869183#64 = BitVec.allOnes 64 >>> 30 from by decide, BitVec.getLsbD_ushiftRight, BitVec.getLsbD_allOnes] at h1
        have c2 : ¬ (30 + (34 + i) < 64) := by omega
        simpa [c, c2] using h1
      · rw [BitVec.getLsbD_of_ge x _ (by omega)]; simp
    · intro h
      apply bv_eq
      intro i hi
      rw [BitVec.getLsbD_and, BitVec.getLsbD_not, show 17179869183#64 = BitVec.allOnes 64 >>> 30 from by decide, BitVec.getLsbD_ushiftRight, BitVec.getLsbD_allOnes]
      by_cases c : 30 + i < 64
      · simp [c]
      · have h1 : (x >>> 34).getLsbD (i - 34) = (0#64).getLsbD (i - 34) := by rw [h]
        rw [BitVec.getLsbD_ushiftRight, show 34 + (i - 34) = i by omega] at h1
        rw [h1]
        simp
  rw [e]
  constructor
  · intro h
    have h1 : (x >>> 34).toNat = 0 := by rw [h]; rfl
    rw [BitVec.toNat_ushiftRight, Nat.shiftRight_eq_div_pow] at h1
    have h2 : x.toNat / 17179869184 = 0 := h1
    omega
  · intro h
    apply BitVec.eq_of_toNat_eq
    rw [BitVec.toNat_ushiftRight, Nat.shiftRight_eq_div_pow]
    show x.toNat / 17179869184 = 0
    omega

/-- The numbers that stand in a word's fields. -/
def stN (x : BitVec 64) : St := ⟨U x % 1073741824, U x / 1073741824 % 4, U x / 4294967296 % 4⟩
/-- Of's answer: the state, and whether the word is one's. -/
def isW (x : BitVec 64) : Prop := U x < 17179869184 ∧ (stN x).ok
instance (x : BitVec 64) : Decidable (isW x) := by unfold isW; exact inferInstance
def ofS (x : BitVec 64) : St := if isW x then stN x else ⟨0, 0, 0⟩
theorem isW_num (x : BitVec 64) : isW x ↔ ((stN x).ok ∧ (stN x).num = U x) := by
  have h0 := U_nonneg x
  have h1 := U_lt x
  unfold isW
  constructor
  · rintro ⟨h, k⟩
    refine ⟨k, ?_⟩
    unfold St.num stN
    simp only
    omega
  · rintro ⟨k, h⟩
    refine ⟨?_, k⟩
    unfold St.ok at k
    unfold St.num at h
    omega
/-- A formed state comes again from its word. -/
theorem isW_word (s : St) (h : s.ok) : isW s.word ∧ ofS s.word = s := by
  have e : stN s.word = s := by
    have h' := h
    unfold St.ok at h'
    unfold stN
    rw [U_word s h]
    obtain ⟨g, m, k⟩ := s
    unfold St.num
    simp only at h' ⊢
    have e1 : (g + m * 1073741824 + k * 4294967296) % 1073741824 = g := by omega
    have e2 : (g + m * 1073741824 + k * 4294967296) / 1073741824 % 4 = m := by omega
    have e3 : (g + m * 1073741824 + k * 4294967296) / 4294967296 % 4 = k := by omega
    rw [e1, e2, e3]
  have hw : isW s.word := (isW_num _).2 (by rw [e]; exact ⟨h, (U_word s h).symm⟩)
  refine ⟨hw, ?_⟩
  unfold ofS
  rw [if_pos hw, e]
theorem word_inj {s t : St} (hs : s.ok) (ht : t.ok) (h : s.word = t.word) : s = t := by
  rw [← (isW_word s hs).2, ← (isW_word t ht).2, h]
/-- Freed. -/
def St.freed (s : St) (most : Int) : St := if most ≤ s.g then ⟨s.g, 3, 0⟩ else ⟨wrap64 (s.g + 1), 0, 0⟩

end Go.Proofs.Ytegcdiepedgodaa
