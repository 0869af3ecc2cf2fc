/-
  A list of fields in memory, and what a layout is: plain facts, nothing of the program. No conditions.
-/
import Derived.Test.YtniejbncahmcoaaLib
import Derived.Test.YtniejbncahmcoaaBv
import Derived.Test.YtniejbncahmcoaaUs
namespace Go.Proofs.Ytniejbncahmcoaa
open Go Go.RowKit

/-- At and Bits of the i-th field. -/
def fA (l : List (Int × Int)) (i : Nat) : Int := (l.getD i (0, 0)).1
def fB (l : List (Int × Int)) (i : Nat) : Int := (l.getD i (0, 0)).2

/-- The value v is a slice of fields that reads, in w, as l. -/
def Fs (w : World) (v : Value) (l : List (Int × Int)) : Prop :=
  ∃ a0 cap, v = .slice a0 l.length cap ∧ l.length ≤ cap ∧ (0 < l.length → ∃ b off, a0 = some ⟨b, off, none⟩ ∧ b < w.heap.size ∧
    ∀ i, i < l.length → w.cell? ⟨b, off + i * 2, none⟩ = some (.int .i64 (fA l i)) ∧ w.cell? ⟨b, off + i * 2 + 1, none⟩ = some (.int .i64 (fB l i)))

theorem Fs.ext {w w' : World} {v : Value} {l : List (Int × Int)} (h : Fs w v l) (hb : Below w.heap.size w w') : Fs w' v l := by
  obtain ⟨a0, cap, e, hc, hr⟩ := h
  refine ⟨a0, cap, e, hc, fun hl => ?_⟩
  obtain ⟨b, off, ea, hlt, hcell⟩ := hr hl
  refine ⟨b, off, ea, Nat.lt_of_lt_of_le hlt hb.size, fun i hi => ?_⟩
  rw [hb.cell (p := ⟨b, off + i * 2, none⟩) hlt, hb.cell (p := ⟨b, off + i * 2 + 1, none⟩) hlt]
  exact hcell i hi
theorem Fs.at {w : World} {a0 : Option Addr} {n cap : Nat} {l : List (Int × Int)} (h : Fs w (.slice a0 n cap) l) (hl : 0 < l.length) : ∃ b off, a0 = some ⟨b, off, none⟩ ∧ b < w.heap.size ∧
    ∀ i, i < l.length → w.cell? ⟨b, off + i * 2, none⟩ = some (.int .i64 (fA l i)) ∧ w.cell? ⟨b, off + i * 2 + 1, none⟩ = some (.int .i64 (fB l i)) := by
  obtain ⟨a, c, e, _, hr⟩ := h
  simp at e
  obtain ⟨rfl, rfl, rfl⟩ := e
  exact hr hl
theorem Fs.over {w : World} {v : Value} {l : List (Int × Int)} (h : Fs w v l) (s : Sub w) : Fs (Ytniejbncahmcoaa.over w s) v l := h.ext (over_below w s)

/-- Two fields have a bit together (both formed). -/
def Meet (a b c d : Int) : Prop := a < c + d ∧ c < a + b
/-- The first k fields are a layout. -/
def LayTo (l : List (Int × Int)) (k : Nat) : Prop := ∀ i, i < k → Fm (fA l i) (fB l i) ∧ ∀ j, j < i → ¬ Meet (fA l j) (fB l j) (fA l i) (fB l i)
def LayF (l : List (Int × Int)) : Prop := LayTo l l.length

theorem LayTo.zero (l : List (Int × Int)) : LayTo l 0 := fun _ h => absurd h (Nat.not_lt_zero _)
theorem LayTo.succ {l : List (Int × Int)} {k : Nat} (h : LayTo l k) (hf : Fm (fA l k) (fB l k)) (hm : ∀ j, j < k → ¬ Meet (fA l j) (fB l j) (fA l k) (fB l k)) : LayTo l (k + 1) := fun i hi => by
  by_cases e : i = k
  · subst e; exact ⟨hf, hm⟩
  · exact h i (by omega)
theorem LayTo.mono {l : List (Int × Int)} {k m : Nat} (h : LayTo l k) (hm : m ≤ k) : LayTo l m := fun i hi => h i (by omega)

/-- The bits that the first k fields have. -/
def covTo (l : List (Int × Int)) : Nat → BitVec 64
  | 0 => 0#64
  | k + 1 => covTo l k ||| maskN (fA l k) (fB l k)
theorem covTo_bit (l : List (Int × Int)) (i : Nat) (hi : i < 64) : ∀ k, LayTo l k → ((covTo l k).getLsbD i = true ↔ ∃ j, j < k ∧ fA l j ≤ i ∧ (i : Int) < fA l j + fB l j)
  | 0, _ => by simp [covTo]
  | k + 1, h => by
    unfold covTo
    rw [BitVec.getLsbD_or, maskN_bit _ _ _ (h k (by omega)).1 hi, Bool.or_eq_true, covTo_bit l i hi k (h.mono (by omega)), decide_eq_true_eq]
    constructor
    · rintro (⟨j, h1, h2, h3⟩ | ⟨h2, h3⟩)
      · exact ⟨j, by omega, h2, h3⟩
      · exact ⟨k, by omega, h2, h3⟩
    · rintro ⟨j, h1, h2, h3⟩
      by_cases e : j = k
      · subst e; exact .inr ⟨h2, h3⟩
      · exact .inl ⟨j, by omega, h2, h3⟩
/-- The k-th field has no bit that one of the first k has, just if it meets none. -/
theorem cov_meet (l : List (Int × Int)) (k : Nat) (h : LayTo l k) (hf : Fm (fA l k) (fB l k)) :
    covTo l k &&& maskN (fA l k) (fB l k) = 0#64 ↔ ∀ j, j < k → ¬ Meet (fA l j) (fB l j) (fA l k) (fB l k) := by
  constructor
  · intro e j hj hm
    have hj' := (h j hj).1
    obtain ⟨m1, m2⟩ := hm
    obtain ⟨a1, a2, a3, a4⟩ := hf
    obtain ⟨b1, b2, b3, b4⟩ := hj'
    -- the greater of the two beginnings is a bit of both
    have key : ∀ i : Nat, fA l j ≤ i → (i : Int) < fA l j + fB l j → fA l k ≤ i → (i : Int) < fA l k + fB l k → False := fun i p1 p2 p3 p4 => by
      have hi : i < 64 := by omega
      have h1 : (covTo l k).getLsbD i = true := (covTo_bit l i hi k h).2 ⟨j, hj, p1, p2⟩
      have h2 : (maskN (fA l k) (fB l k)).getLsbD i = true := by rw [maskN_bit _ _ _ ⟨a1, a2, a3, a4⟩ hi]; simp; omega
      have h3 : (covTo l k &&& maskN (fA l k) (fB l k)).getLsbD i = (0#64).getLsbD i := by rw [e]
      rw [BitVec.getLsbD_and, h1, h2] at h3
      simp at h3
    by_cases c : fA l j ≤ fA l k
    · exact key (fA l k).toNat (by omega) (by omega) (by omega) (by omega)
    · exact key (fA l j).toNat (by omega) (by omega) (by omega) (by omega)
  · intro hm
    apply bv_eq; intro i hi
    rw [BitVec.getLsbD_and, maskN_bit _ _ _ hf hi]
    by_cases c : (covTo l k).getLsbD i = true
    · obtain ⟨j, hj, p1, p2⟩ := (covTo_bit l i hi k h).1 c
      have hn := hm j hj
      have : ¬ (fA l k ≤ i ∧ (i : Int) < fA l k + fB l k) := fun ⟨q1, q2⟩ => hn ⟨by omega, by omega⟩
      simp [this]
    · simp [c]
theorem U_ne0 (x : BitVec 64) (h : x ≠ 0#64) : (U x != 0) = true := by
  rw [bne_iff_ne]; intro e; exact h (U_inj (by rw [e, U_0]))
theorem U_eq0 (x : BitVec 64) (h : x = 0#64) : (U x != 0) = false := by rw [h, U_0]; rfl

/-- The word whose first k fields have these numbers. -/
def packTo (l : List (Int × Int)) (v : List (BitVec 64)) : Nat → BitVec 64
  | 0 => 0#64
  | k + 1 => putN (fA l k) (fB l k) (packTo l v k) (uN v k)
/-- The first k numbers fit. -/
def FitTo (l : List (Int × Int)) (v : List (BitVec 64)) (k : Nat) : Prop := ∀ i, i < k → U (uN v i) ≤ U (mostN (fB l i))
theorem FitTo.zero (l : List (Int × Int)) (v : List (BitVec 64)) : FitTo l v 0 := fun _ h => absurd h (Nat.not_lt_zero _)
theorem FitTo.succ {l : List (Int × Int)} {v : List (BitVec 64)} {k : Nat} (h : FitTo l v k) (hf : U (uN v k) ≤ U (mostN (fB l k))) : FitTo l v (k + 1) := fun i hi => by
  by_cases e : i = k
  · subst e; exact hf
  · exact h i (by omega)
def PackOk (l : List (Int × Int)) (v : List (BitVec 64)) : Prop := LayF l ∧ l.length = v.length ∧ FitTo l v l.length
/-- What Pack answers. -/
def PackSpec (l : List (Int × Int)) (v : List (BitVec 64)) (x : BitVec 64) (e : Int) : Prop :=
  (PackOk l v → x = packTo l v l.length ∧ e = 0) ∧ (¬ PackOk l v → x = 0#64 ∧ e = 1)

theorem packSpec_of (l : List (Int × Int)) (v : List (BitVec 64)) : ∃ x e, PackSpec l v x e := by
  by_cases h : PackOk l v
  · exact ⟨packTo l v l.length, 0, fun _ => ⟨rfl, rfl⟩, fun hn => absurd h hn⟩
  · exact ⟨0#64, 1, fun hn => absurd hn h, fun _ => ⟨rfl, rfl⟩⟩
/-- What Pack answers, as two values. -/
theorem PackSpec.no {l : List (Int × Int)} {v : List (BitVec 64)} {x : BitVec 64} {e : Int} (hs : PackSpec l v x e) (h : ¬ PackOk l v) : Hid (Value.int .u64 0 = Value.int .u64 (U x) ∧ Value.int .i64 1 = Value.int .i64 e) :=
  ⟨by rw [(hs.2 h).1, U_0], by rw [(hs.2 h).2]⟩
theorem PackSpec.yes {l : List (Int × Int)} {v : List (BitVec 64)} {x : BitVec 64} {e : Int} (hs : PackSpec l v x e) (h : PackOk l v) : Hid (Value.int .u64 (U (packTo l v l.length)) = Value.int .u64 (U x) ∧ Value.int .i64 0 = Value.int .i64 e) :=
  ⟨by rw [(hs.1 h).1], by rw [(hs.1 h).2]⟩

end Go.Proofs.Ytniejbncahmcoaa
