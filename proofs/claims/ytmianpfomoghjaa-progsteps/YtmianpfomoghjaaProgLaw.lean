/-
  What the laws of prog ask of the memory and of the runs. Conditions: those of each theorem.
-/
import Derived.Test.YtmianpfomoghjaaProgRun
import Derived.Test.YtmianpfomoghjaaProgAwake
namespace Go.Proofs.Ytmianpfomoghjaa
open Go Go.RowKit

theorem ok8 : SizesOk [8] := ⟨by decide, fun i hi => by
  obtain rfl : i = 0 := by simp at hi; omega
  decide⟩
theorem ok1 : SizesOk [1] := ⟨by decide, fun i hi => by
  obtain rfl : i = 0 := by simp at hi; omega
  decide⟩
theorem good_int {lo hi : Nat} {L : Lay} {M : MS} {w : World} (h : MemIn lo hi L M w) (r : Int) (e : BitVec 64) (hg : Good M r e) :
    Calls Try.prog 31 #[.pointer (some ⟨L.bm, 0, none⟩), .agg #[.int .i64 r, .int .u64 (U e)]] w (Ret (.bool true) w) := by
  obtain ⟨q, rfl⟩ := Int.eq_ofNat_of_zero_le hg.1
  exact good_yes h q e (by have := hg.2.1; omega) (Lib.hid hg.2.2)
/-- What stays, whatever is run. -/
structure Mem8 (M : MS) : Prop where
  n : M.n = 1
  s : M.sz 0 = 8
  e : M.ep 0 = 1#64
theorem Mem8.zero : Mem8 (M0 [8] 1) := ⟨rfl, rfl, rfl⟩
theorem Mem8.done {M : MS} (h : Mem8 M) (r op at_ : Int) (a b : BitVec 64) : Mem8 (M.done r op at_ a b) := ⟨h.n, h.s, h.e⟩
theorem Mem8.run {r : Int} {e : BitVec 64} : ∀ {l : List Acc} {k : Nat} {M : MS}, Mem8 M → Mem8 (runF r e l k M).1
  | [], _, _, h => by rw [runF]; exact h
  | _ :: _, 0, _, h => h
  | a :: l, k + 1, M, h => by
    rw [runF]
    split
    · exact Mem8.run (h.done _ _ _ _ _)
    · exact h
theorem run_len {r : Int} {e : BitVec 64} : ∀ {l : List Acc} {k : Nat} {M : MS}, (runF r e l k M).2.1.length + (runF r e l k M).2.2.length = l.length ∧ (runF r e l k M).2.1.length ≤ k
  | [], _, _ => by rw [runF]; simp
  | _ :: _, 0, _ => by rw [runF_zero]; simp
  | a :: l, k + 1, M => by
    rw [runF]
    split
    · have h := run_len (r := r) (e := e) (l := l) (k := k) (M := M.done r a.op a.at_ a.a a.b)
      simp only [List.length_cons]
      omega
    · simp
theorem run_ct {r : Int} {e : BitVec 64} : ∀ {l : List Acc} {k : Nat} {M : MS}, 0 ≤ M.ct → M.ct + l.length < 1000000 → (runF r e l k M).1.ct = M.ct + ((runF r e l k M).2.1.length : Int)
  | [], _, _, _, _ => by rw [runF]; simp
  | _ :: _, 0, _, _, _ => by rw [runF_zero]; simp
  | a :: l, k + 1, M, h0, h1 => by
    rw [runF]
    split
    · have hc : (M.done r a.op a.at_ a.a a.b).ct = M.ct + 1 := by
        show wrap64 (M.ct + 1) = _
        unfold wrap64
        simp only [List.length_cons] at h1
        omega
      have h := run_ct (r := r) (e := e) (l := l) (k := k) (M := M.done r a.op a.at_ a.a a.b) (by rw [hc]; omega) (by rw [hc]; simp only [List.length_cons] at h1; omega)
      rw [h, hc]
      simp only [List.length_cons]
      omega
    · simp
theorem run_none {r : Int} {e : BitVec 64} {l : List Acc} {k : Nat} {M : MS} (h : ¬ Good M r e) : runF r e l k M = (M, [], l) := by
  cases l with
  | nil => rw [runF]
  | cons a l => exact runF_no (fun hd => h hd.1) k

end Go.Proofs.Ytmianpfomoghjaa
