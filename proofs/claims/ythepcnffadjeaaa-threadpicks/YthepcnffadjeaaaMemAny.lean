/-
  What Do of package mem comes to, whatever the access. Conditions: those of each theorem.
-/
import Derived.Test.YthepcnffadjeaaaMemUse
import Derived.Test.YthepcnffadjeaaaMemAcc
namespace Go.Proofs.Ythepcnffadjeaaa
open Go Go.RowKit

/-- What Do may come to, whatever the access. -/
def DoSpec (M : MS) (r : Int) (e : BitVec 64) (c : Acc) (M' : MS) (v : BitVec 64) (ok : Bool) : Prop :=
  (DoOk M r e c.op c.at_ ∧ M' = M.done r c.op c.at_ c.a c.b ∧ v = M.wd r.toNat c.at_.toNat ∧ ok = true) ∨ (¬ DoOk M r e c.op c.at_ ∧ M' = M ∧ v = 0#64 ∧ ok = false)
def RetDo (lo hi : Nat) (L : Lay) (M : MS) (r : Int) (e : BitVec 64) (c : Acc) (w : World) (en : Ending) (w' : World) : Prop :=
  ∃ M' v ok, en = .returned (.tuple #[.int .u64 (U v), .bool ok]) ∧ DoSpec M r e c M' v ok ∧ MemIn lo hi L M' w' ∧ Fr lo hi w w'
theorem do_any {lo hi : Nat} {L : Lay} {M : MS} {w : World} (h : MemIn lo hi L M w) (r : Int) (e : BitVec 64) (c : Acc) :
    Calls Try.prog 46 #[.pointer (some ⟨L.bm, 0, none⟩), .agg #[.int .i64 r, .int .u64 (U e)], .agg #[.int .i64 c.op, .int .i64 c.at_, .int .u64 (U c.a), .int .u64 (U c.b)]] w (RetDo lo hi L M r e c w) := by
  by_cases hd : DoOk M r e c.op c.at_
  · exact (do_yes h r c.op c.at_ e c.a c.b hd).mono fun en w' ⟨h1, h2, h3⟩ => ⟨_, _, true, h1, .inl ⟨hd, rfl, rfl, rfl⟩, h2, h3⟩
  · refine (do_no h r c.op c.at_ e c.a c.b hd).mono fun en w' ⟨h1, h2⟩ => ⟨M, 0#64, false, ?_, .inr ⟨hd, rfl, rfl, rfl⟩, h.ext h2, .of_ext h2⟩
    rw [U_0]; exact h1

end Go.Proofs.Ythepcnffadjeaaa
