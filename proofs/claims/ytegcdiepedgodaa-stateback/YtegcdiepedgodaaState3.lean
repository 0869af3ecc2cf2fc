/-
  The calls of a state over three plain numbers, their answers by names that nobody takes apart. Conditions: those of each theorem.
-/
import Derived.Test.YtegcdiepedgodaaStateWordsW
namespace Go.Proofs.Ytegcdiepedgodaa
open Go Go.RowKit

/-- Whether three numbers are a formed state; their word; those of a freed one. -/
def fm3 (g m k : Int) : Bool := decide (St.ok ⟨g, m, k⟩)
def wd3 (g m k : Int) : Int := U (St.word ⟨g, m, k⟩)
def fr3 (g most : Int) : St := St.freed ⟨g, 0, 0⟩ most
theorem fm3_yes {g m k : Int} (h : St.ok ⟨g, m, k⟩) : fm3 g m k = true := decide_eq_true h
theorem fm3_no {g m k : Int} (h : ¬ St.ok ⟨g, m, k⟩) : fm3 g m k = false := decide_eq_false h
theorem fm3_iff (g m k : Int) : fm3 g m k = true ↔ St.ok ⟨g, m, k⟩ := by unfold fm3; simp only [decide_eq_true_eq]
theorem wd3_is (g m k : Int) : wd3 g m k = U (St.word ⟨g, m, k⟩) := rfl
theorem fr3_is (s : St) (most : Int) : fr3 s.g most = s.freed most := rfl
attribute [irreducible] fm3 wd3 fr3
theorem formed3 (g m k : Int) (w : World) : Calls Try.prog 10 #[.agg #[.int .i64 g, .int .i64 m, .int .i64 k]] w (Ret (.bool (fm3 g m k)) w) :=
  sformed_is ⟨g, m, k⟩ w _ (Lib.hid (fm3_iff g m k))
theorem rformed3 (g m k : Int) (w : World) : Calls Try.prog 11 #[.agg #[.int .i64 g, .int .i64 m, .int .i64 k]] w (Ret (.bool (fm3 g m k)) w) :=
  rsformed_any ⟨g, m, k⟩ w _ (Lib.hid (fm3_iff g m k))
theorem word3 (g m k : Int) (w : World) : Calls Try.prog 12 #[.agg #[.int .i64 g, .int .i64 m, .int .i64 k]] w (Ret (.int .u64 (wd3 g m k)) w) := by
  rw [wd3_is]
  exact word_any ⟨g, m, k⟩ w
theorem retire3 (g m k : Int) (w : World) : Calls Try.prog 15 #[.agg #[.int .i64 g, .int .i64 m, .int .i64 k]] w (Ret (.agg #[.int .i64 g, .int .i64 2, .int .i64 k]) w) := retire_any ⟨g, m, k⟩ w
theorem live3 (g m k kind : Int) (w : World) : Calls Try.prog 14 #[.agg #[.int .i64 g, .int .i64 m, .int .i64 k], .int .i64 kind] w (Ret (.agg #[.int .i64 g, .int .i64 1, .int .i64 kind]) w) := live_any ⟨g, m, k⟩ kind w
theorem freed3 (g m k most : Int) (w : World) : Calls Try.prog 16 #[.agg #[.int .i64 g, .int .i64 m, .int .i64 k], .int .i64 most] w (Ret (stV (fr3 g most)) w) := by
  rw [show fr3 g most = St.freed ⟨g, m, k⟩ most from by unfold fr3; rfl]
  exact freed_any ⟨g, m, k⟩ most w

end Go.Proofs.Ytegcdiepedgodaa
