/-
  What the laws of prog ask of the memory and of the runs. Conditions: those of each theorem.
-/
import Derived.Test.YthepcnffadjeaaaProgRun
import Derived.Test.YthepcnffadjeaaaProgAwake
namespace Go.Proofs.Ythepcnffadjeaaa
open Go Go.RowKit

theorem ok8 : SizesOk [8] := ⟨by decide, fun i hi => by
  obtain rfl : i = 0 := by simp at hi; omega
  decide⟩
theorem ok1 : SizesOk [1] := ⟨by decide, fun i hi => by
  obtain rfl : i = 0 := by simp at hi; omega
  decide⟩
theorem good_int {lo hi : Nat} {L : Lay} {M : MS} {w : World} (h : MemIn lo hi L M w) (r : Int) (e : BitVec 64) (hg : Good M r e) :
    Calls Try.prog 52 #[.pointer (some ⟨L.bm, 0, none⟩), .agg #[.int .i64 r, .int .u64 (U e)]] w (Ret (.bool true) w) := by
  obtain ⟨q, rfl⟩ := Int.eq_ofNat_of_zero_le hg.1
  exact good_yes h q e (by have := hg.2.1; omega) (Lib.hid hg.2.2)
/-- What stays, whatever is run. -/
structure Mem8 (M : MS) : Prop where
  n : M.n = 1
  s : M.sz 0 = 8
  e : M.ep 0 = 1#64
theorem Mem8.zero : Mem8 (M0 [8] 1) := ⟨rfl, rfl, rfl⟩
theorem Mem8.done {M : MS} (h : Mem8 M) (r op at_ : Int) (a b : BitVec 64) : Mem8 (M.done r op at_ a b) := ⟨h.n, h.s, h.e⟩
theorem Mem8.run {r : Int} {e : BitVec 64} : ∀ {l : List Acc} {k : Nat} {M : MS}, Mem8 M → Mem8 (runF r e l k M).1
  | [], _, _, h => by rw [runF]; exact h
  | _ :: _, 0, _, h => h
  | a :: l, k + 1, M, h => by
    rw [runF]
    split
    · exact Mem8.run (h.done _ _ _ _ _)
    · exact h
theorem run_len {r : Int} {e : BitVec 64} : ∀ {l : List Acc} {k : Nat} {M : MS}, (runF r e l k M).2.1.length + (runF r e l k M).2.2.length = l.length ∧ (runF r e l k M).2.1.length ≤ k
  | [], _, _ => by rw [runF]; simp
  | _ :: _, 0, _ => by rw [runF_zero]; simp
  | a :: l, k + 1, M => by
    rw [runF]
    split
    · have h := run_len (r := r) (e := e) (l := l) (k := k) (M := M.done r a.op a.at_ a.a a.b)
      simp only [List.length_cons]
      omega
    · simp
theorem run_ct {r : Int} {e : BitVec 64} : ∀ {l : List Acc} {k : Nat} {M : MS}, 0 ≤ M.ct → M.ct + l.length < 1000000 → (runF r e l k M).1.ct = M.ct + ((runF r e l k M).2.1.length : Int)
  | [], _, _, _, _ => by rw [runF]; simp
  | _ :: _, 0, _, _, _ => by rw [runF_zero]; simp
  | a :: l, k + 1, M, h0, h1 => by
    rw [runF]
    split
    · have hc : (M.done r a.op a.at_ a.a a.b).ct = M.ct + 1 := by
        show wrap64 (M.ct + 1) = _
        unfold wrap64
        simp only [List.length_cons] at h1
        omega
      have h := run_ct (r := r) (e := e) (l := l) (k := k) (M := M.done r a.op a.at_ a.a a.b) (by rw [hc]; omega) (by rw [hc]; simp only [List.length_cons] at h1; omega)
      rw [h, hc]
      simp only [List.length_cons]
      omega
    · simp
theorem run_none {r : Int} {e : BitVec 64} {l : List Acc} {k : Nat} {M : MS} (h : ¬ Good M r e) : runF r e l k M = (M, [], l) := by
  cases l with
  | nil => rw [runF]
  | cons a l => exact runF_no (fun hd => h hd.1) k

theorem store_fn {fn : Value} (h : fn = .nilFunc ∨ ∃ g caps, fn = .func (.func g) #[] caps) : ∀ a m w, (store a fn m).run Try.prog w = stored Try.prog w a fn m := by
  intro a m w
  rcases h with rfl | ⟨g, caps, rfl⟩
  · exact run_store Try.prog w a _ m rfl
  · exact run_store Try.prog w a _ m rfl
/-- What a step may come to. -/
def StepSpec (r : Int) (e : BitVec 64) (M : MS) (l : List Acc) (t : List (BitVec 64)) (M' : MS) (l' : List Acc) (t' : List (BitVec 64)) (ok : Bool) : Prop :=
  (ok = true ∧ ∃ a, l = a :: l' ∧ DoOk M r e a.op a.at_ ∧ M' = M.done r a.op a.at_ a.a a.b ∧ t' = t ++ [M.wd r.toNat a.at_.toNat]) ∨ (ok = false ∧ l' = l ∧ t' = t ∧ M' = M ∧ ∀ k, runF r e l k M = (M, [], l))
def RetStepA (D : Nat → Prop) (lo hi : Nat) (L : Lay) (r : Int) (e : BitVec 64) (M : MS) (l : List Acc) (t : List (BitVec 64)) (w : World) (en : Ending) (w' : World) : Prop :=
  ∃ v' ok l' t' M', en = .returned (.tuple #[v', .bool ok]) ∧ PH D l' t' v' w' ∧ MemIn lo hi L M' w' ∧ Fr lo hi w w' ∧ StepSpec r e M l t M' l' t' ok
theorem step_any (D : Nat → Prop) {lo hi : Nat} {L : Lay} {M : MS} (l : List Acc) (t : List (BitVec 64)) (v : Value) (r : Int) (e : BitVec 64) (w : World) (hP : PH D l t v w) (hM : MemIn lo hi L M w)
    (hD : ∀ k, lo ≤ k → k < hi → D k) (hb : ∀ k, D k → k < w.heap.size) :
    Calls Try.prog 36 #[v, .pointer (some ⟨L.bm, 0, none⟩), .agg #[.int .i64 r, .int .u64 (U e)]] w (RetStepA D lo hi L r e M l t w) := by
  cases l with
  | nil => exact (step_over D t v _ r e w hP).mono fun en w' ⟨h1, h2⟩ => ⟨v, false, [], t, M, h1, hP.ext h2, hM.ext h2, .of_ext h2, .inr ⟨rfl, rfl, rfl, rfl, fun k => by rw [runF]⟩⟩
  | cons a l =>
    by_cases hd : DoOk M r e a.op a.at_
    · exact (step_yes D a l t v r e w hP hM hd hD hb).mono fun en w' ⟨v', h1, h2, h3, h4⟩ => ⟨v', true, l, _, _, h1, h2.h, h3, h4, .inl ⟨rfl, a, rfl, hd, rfl, rfl⟩⟩
    · exact (step_no D a l t v r e w hP hM hd).mono fun en w' ⟨h1, h2⟩ => ⟨v, false, a :: l, t, M, h1, hP.ext h2, hM.ext h2, .of_ext h2, .inr ⟨rfl, rfl, rfl, rfl, fun k => runF_no hd k⟩⟩
theorem runF_more {r : Int} {e : BitVec 64} : ∀ {l : List Acc} {k j : Nat} {M : MS}, l.length ≤ k → l.length ≤ j → runF r e l k M = runF r e l j M
  | [], _, _, _, _, _ => by rw [runF, runF]
  | a :: l, 0, _, _, h, _ => by simp at h
  | a :: l, k + 1, 0, _, _, h => by simp at h
  | a :: l, k + 1, j + 1, M, h1, h2 => by
    rw [runF, runF, runF_more (l := l) (k := k) (j := j) (by simpa using h1) (by simpa using h2)]

section
variable {lo hi B : Nat} {v : Value} {wr wr' : World}
theorem BoxP.ext (h : BoxP B v wr) (hx : Ext wr wr') : BoxP B v wr' := by
  obtain ⟨sa, n, c, a, fn, p, e, hf, hb⟩ := h.blk
  exact ⟨sa, n, c, a, fn, p, e, hf, (hx.block _ (heap_lt hb)).trans hb⟩
theorem BoxP.fr (h : BoxP B v wr) (hf : Fr lo hi wr wr') (hB : hi ≤ B) : BoxP B v wr' := by
  obtain ⟨sa, n, c, a, fn, p, e, hfn, hb⟩ := h.blk
  exact ⟨sa, n, c, a, fn, p, e, hfn, (hf.block _ (heap_lt hb) (.inr hB)).trans hb⟩
end
theorem PH.mono {l : List Acc} {D E : Nat → Prop} {t : List (BitVec 64)} {v : Value} {w : World} (hd : ∀ k, D k → E k) (h : PH E l t v w) : PH D l t v w := by
  cases l with
  | nil => obtain ⟨rv, p, e, hu⟩ := h; exact ⟨rv, p, e, hu.mono hd⟩
  | cons a l =>
    obtain ⟨g, caps, p, e, he, hc⟩ := h
    obtain ⟨g', caps', e', he', hc'⟩ := PL.mono (l := a :: l) (t := t) (v := pV (.slice none 0 0) a (.func (.func g) #[] caps) (.pointer none)) hd ⟨g, caps, rfl, he, hc⟩
    unfold pV at e'
    simp at e'
    obtain ⟨rfl, rfl⟩ := e'
    exact ⟨g, caps, p, e, he, hc'⟩

end Go.Proofs.Ythepcnffadjeaaa
