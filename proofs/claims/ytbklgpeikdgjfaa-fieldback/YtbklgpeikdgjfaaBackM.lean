/-
  What is packed is split again, and what is split is packed again: plain facts on lists and words. No conditions.
-/
import Derived.Test.YtbklgpeikdgjfaaSpl
namespace Go.Proofs.Ytbklgpeikdgjfaa
open Go Go.RowKit

theorem most_small : ∀ b : Fin 65, (2 ^ 64 - 1) >>> (64 - b.val) = 2 ^ b.val - 1 := by decide
theorem mostN_nat (b : Int) (h1 : 0 ≤ b) (h2 : b ≤ 64) : (mostN b).toNat = 2 ^ b.toNat - 1 := by
  rw [mostN_def, BitVec.toNat_ushiftRight, BitVec.toNat_allOnes]
  exact most_small ⟨b.toNat, by omega⟩
theorem fit_bit (b : Int) (x : BitVec 64) (i : Nat) (h1 : 0 ≤ b) (h2 : b ≤ 64) (h : U x ≤ U (mostN b)) (hi : b ≤ i) : x.getLsbD i = false := by
  rw [U_toNat, U_toNat, mostN_nat b h1 h2] at h
  have hp : 0 < 2 ^ b.toNat := Nat.two_pow_pos _
  have hlt : x.toNat < 2 ^ b.toNat := by omega
  have hle : 2 ^ b.toNat ≤ 2 ^ i := Nat.pow_le_pow_right (by decide) (by omega)
  show x.toNat.testBit i = false
  exact Nat.testBit_lt_two_pow (by omega)
theorem get_and (a b : Int) (w : BitVec 64) (h : Fm a b) : getN a b w = (w >>> a.toNat) &&& mostN b := by
  apply bv_eq; intro i hi
  obtain ⟨h1, h2, h3, h4⟩ := h
  rw [getN_bit a b w i ⟨h1, h2, h3, h4⟩, BitVec.getLsbD_and, BitVec.getLsbD_ushiftRight, mostN_bit b i (by omega) (by omega), Bool.and_comm]
theorem get_fits (a b : Int) (w : BitVec 64) (h : Fm a b) : U (getN a b w) ≤ U (mostN b) := by
  rw [get_and a b w h, U_toNat, U_toNat, BitVec.toNat_and]
  have : (w >>> a.toNat).toNat &&& (mostN b).toNat ≤ (mostN b).toNat := Nat.and_le_right
  omega

theorem pack_cov (l : List (Int × Int)) (v : List (BitVec 64)) (h : Lay l) : packTo l v l.length &&& ~~~ (covTo l l.length) = 0#64 := by
  apply bv_eq; intro i hi
  rw [BitVec.getLsbD_and, BitVec.getLsbD_not]
  have p := packTo_bit l v i hi l.length h
  have c := covTo_bit l i hi l.length h
  by_cases e : (covTo l l.length).getLsbD i = true
  · simp [e]
  · rw [p.2 fun j hj hin => e (c.2 ⟨j, hj, hin.1, hin.2⟩)]; simp
theorem split_pack (l : List (Int × Int)) (v : List (BitVec 64)) (ok : PackOk l v) : SplitSpec l (packTo l v l.length) v 0 := by
  obtain ⟨h, hlen, hfit⟩ := ok
  refine ⟨fun hn => absurd h hn, fun _ hn => absurd (pack_cov l v h) hn, fun _ _ => ⟨?_, rfl⟩⟩
  apply List.ext_getElem
  · rw [splitL_len, hlen]
  · intro j h1 h2
    have hj : j < l.length := by omega
    have e1 : v[j] = uN v j := by unfold uN; rw [List.getD_eq_getElem?_getD, List.getElem?_eq_getElem h1]; rfl
    have e2 : (splitL l (packTo l v l.length))[j] = uN (splitL l (packTo l v l.length)) j := by unfold uN; rw [List.getD_eq_getElem?_getD, List.getElem?_eq_getElem h2]; rfl
    rw [e1, e2, splitL_at _ _ _ hj]
    have hf := (h j hj).1
    obtain ⟨f1, f2, f3, f4⟩ := hf
    apply bv_eq; intro i hi
    rw [getN_bit _ _ _ _ ⟨f1, f2, f3, f4⟩]
    by_cases c : (i : Int) < fB l j
    · rw [(packTo_bit l v ((fA l j).toNat + i) (by omega) l.length h).1 j hj ⟨by omega, by omega⟩, show (fA l j).toNat + i - (fA l j).toNat = i by omega]
      simp [c]
    · rw [fit_bit (fB l j) (uN v j) i (by omega) (by omega) (hfit j hj) (by omega)]
      simp [c]
theorem pack_split (l : List (Int × Int)) (w : BitVec 64) (h : Lay l) (hz : w &&& ~~~ (covTo l l.length) = 0#64) : PackSpec l (splitL l w) w 0 := by
  have ok : PackOk l (splitL l w) := ⟨h, by rw [splitL_len], fun j hj => by rw [splitL_at _ _ _ hj]; exact get_fits _ _ _ (h j hj).1⟩
  refine ⟨fun _ => ⟨?_, rfl⟩, fun hn => absurd ok hn⟩
  apply bv_eq; intro i hi
  have p := packTo_bit l (splitL l w) i hi l.length h
  have c := covTo_bit l i hi l.length h
  by_cases e : (covTo l l.length).getLsbD i = true
  · obtain ⟨j, hj, h1, h2⟩ := c.1 e
    rw [p.1 j hj ⟨h1, h2⟩, splitL_at _ _ _ hj, getN_bit _ _ _ _ (h j hj).1]
    obtain ⟨f1, f2, f3, f4⟩ := (h j hj).1
    rw [show (fA l j).toNat + (i - (fA l j).toNat) = i by omega]
    have : ((i - (fA l j).toNat : Nat) : Int) < fB l j := by omega
    simp [this]
  · rw [p.2 fun j hj hin => e (c.2 ⟨j, hj, hin.1, hin.2⟩)]
    have h3 : (w &&& ~~~ (covTo l l.length)).getLsbD i = (0#64).getLsbD i := by rw [hz]
    rw [BitVec.getLsbD_and, BitVec.getLsbD_not] at h3
    rw [Bool.eq_false_iff.2 e] at h3
    cases hw : w.getLsbD i with
    | false => rfl
    | true => rw [hw] at h3; simp [hi] at h3
theorem split_len (l : List (Int × Int)) (x : BitVec 64) (r : List (BitVec 64)) (e : Int) (h : SplitSpec l x r e) : r.length ≤ l.length := by
  by_cases h1 : Lay l
  · by_cases h2 : x &&& ~~~ (covTo l l.length) = 0#64
    · rw [(h.2.2 h1 h2).1, splitL_len]; exact Nat.le_refl _
    · rw [(h.2.1 h1 h2).1]; exact Nat.zero_le _
  · rw [(h.1 h1).1]; exact Nat.zero_le _

end Go.Proofs.Ytbklgpeikdgjfaa
