/-
  No cell of these rows narrows 'for every input' (looked for: loops, veiled, ifaces, maps, wideKeys, modest, calm, conditions, laid).
  DERIVED. THE GIVEN ROWS OF THIS SEAT. 5 by the template 'for every input the law returns true; each argument reads behind the call as it read before'; 0 by the template 'total and deterministic' (their statements: YthepcnffadjeaaaTotals.lean).
  GIVEN WITH THE SEED: the statements are not yours to turn. If you find one false, say at which input.
  Laid BY PROGRAM, IN A SANDBOX (cutbox-rows.mjs): the forced cells as the released guide's own fill.sh prints them over the translation f80a998160dacdfa… (all of the seat's roots in one cut). By AI agents, Wed Nov 11 2026. No macro, syntax, notation, axiom, sorry.
-/
import Derived.Test.YthepcnffadjeaaaChecked
import GoSem.Claim
import GoSem.ClaimJoined
import GoSem.ClaimMapViews
import Derived.JoinedTies
import Derived.KernelRfl
namespace Go.Proofs.Ythepcnffadjeaaa
/- THE CELL 'sum', in the pinned program and in every row, IS THE sha256 OF THE DUMP (.gsa) THAT YthepcnffadjeaaaProg.lean LOADS. Nothing in Lean hashes anything: it is a label: what it is worth is what the hold of that sum in a sandbox is worth. -/
noncomputable def Try.pinned : Pinned := { name := "ythepcnffadjeaaa", sum := "f80a998160dacdfa73c6452bf8fe18ce39419c2631a6c7c490e860b1658537d7", checked := Try.checked }
namespace Rows
def none {H : Type} : Left H := { results := [], args := [] }

/-- 'cubiclelaw05.ThreadPicks': WHATEVER THE INPUT: true; the input reads as it did. -/
def threadPicksSpec : ChangeSpec := { name := "threadPicks", fn := fun _ => fun
  | [d1, d2] => { results := [.lit (.bool true)], args := [d1, d2] }
  | _ => none }
def threadPicksRow : OpenClaim := { program := "ythepcnffadjeaaa", sum := "f80a998160dacdfa73c6452bf8fe18ce39419c2631a6c7c490e860b1658537d7", func := "cubicle/cubiclelaw05.ThreadPicks", spec := "threadPicks", unfollowed := true, recurses := true, apart := false }
def ThreadPicksSaid : Prop := threadPicksRow.holds Try.pinned (OpenSpec.ofChange threadPicksSpec)

/-- ITS FALSE NEIGHBOUR: 'it returns false'. Refute it at one input. -/
def threadPicksWrong : ChangeSpec := { name := "threadPicks", fn := fun _ => fun
  | [d1, d2] => { results := [.lit (.bool false)], args := [d1, d2] }
  | _ => none }
def ThreadPicksWrongFalsely : Prop := threadPicksRow.holds Try.pinned (OpenSpec.ofChange threadPicksWrong)

/-- 'cubiclelaw05.ThreadOne': WHATEVER THE INPUT: true; the input reads as it did. -/
def threadOneSpec : ChangeSpec := { name := "threadOne", fn := fun _ => fun
  | [d] => { results := [.lit (.bool true)], args := [d] }
  | _ => none }
def threadOneRow : OpenClaim := { program := "ythepcnffadjeaaa", sum := "f80a998160dacdfa73c6452bf8fe18ce39419c2631a6c7c490e860b1658537d7", func := "cubicle/cubiclelaw05.ThreadOne", spec := "threadOne", unfollowed := true, recurses := true, apart := false }
def ThreadOneSaid : Prop := threadOneRow.holds Try.pinned (OpenSpec.ofChange threadOneSpec)

/-- ITS FALSE NEIGHBOUR: 'it returns false'. Refute it at one input. -/
def threadOneWrong : ChangeSpec := { name := "threadOne", fn := fun _ => fun
  | [d] => { results := [.lit (.bool false)], args := [d] }
  | _ => none }
def ThreadOneWrongFalsely : Prop := threadOneRow.holds Try.pinned (OpenSpec.ofChange threadOneWrong)

/-- 'cubiclelaw05.ThreadStale': WHATEVER THE INPUT: true; the input reads as it did. -/
def threadStaleSpec : ChangeSpec := { name := "threadStale", fn := fun _ => fun
  | [d] => { results := [.lit (.bool true)], args := [d] }
  | _ => none }
def threadStaleRow : OpenClaim := { program := "ythepcnffadjeaaa", sum := "f80a998160dacdfa73c6452bf8fe18ce39419c2631a6c7c490e860b1658537d7", func := "cubicle/cubiclelaw05.ThreadStale", spec := "threadStale", unfollowed := true, recurses := true, apart := false }
def ThreadStaleSaid : Prop := threadStaleRow.holds Try.pinned (OpenSpec.ofChange threadStaleSpec)

/-- ITS FALSE NEIGHBOUR: 'it returns false'. Refute it at one input. -/
def threadStaleWrong : ChangeSpec := { name := "threadStale", fn := fun _ => fun
  | [d] => { results := [.lit (.bool false)], args := [d] }
  | _ => none }
def ThreadStaleWrongFalsely : Prop := threadStaleRow.holds Try.pinned (OpenSpec.ofChange threadStaleWrong)

/-- 'cubiclelaw05.ThreadTwo': WHATEVER THE INPUT: true; the input reads as it did. -/
def threadTwoSpec : ChangeSpec := { name := "threadTwo", fn := fun _ => fun
  | [d1, d2, d3] => { results := [.lit (.bool true)], args := [d1, d2, d3] }
  | _ => none }
def threadTwoRow : OpenClaim := { program := "ythepcnffadjeaaa", sum := "f80a998160dacdfa73c6452bf8fe18ce39419c2631a6c7c490e860b1658537d7", func := "cubicle/cubiclelaw05.ThreadTwo", spec := "threadTwo", unfollowed := true, recurses := true, apart := false }
def ThreadTwoSaid : Prop := threadTwoRow.holds Try.pinned (OpenSpec.ofChange threadTwoSpec)

/-- ITS FALSE NEIGHBOUR: 'it returns false'. Refute it at one input. -/
def threadTwoWrong : ChangeSpec := { name := "threadTwo", fn := fun _ => fun
  | [d1, d2, d3] => { results := [.lit (.bool false)], args := [d1, d2, d3] }
  | _ => none }
def ThreadTwoWrongFalsely : Prop := threadTwoRow.holds Try.pinned (OpenSpec.ofChange threadTwoWrong)

/-- 'cubiclelaw05.ThreadFull': WHATEVER THE INPUT: true; the input reads as it did. -/
def threadFullSpec : ChangeSpec := { name := "threadFull", fn := fun _ => fun
  | [d] => { results := [.lit (.bool true)], args := [d] }
  | _ => none }
def threadFullRow : OpenClaim := { program := "ythepcnffadjeaaa", sum := "f80a998160dacdfa73c6452bf8fe18ce39419c2631a6c7c490e860b1658537d7", func := "cubicle/cubiclelaw05.ThreadFull", spec := "threadFull", unfollowed := true, recurses := true, apart := false }
def ThreadFullSaid : Prop := threadFullRow.holds Try.pinned (OpenSpec.ofChange threadFullSpec)

/-- ITS FALSE NEIGHBOUR: 'it returns false'. Refute it at one input. -/
def threadFullWrong : ChangeSpec := { name := "threadFull", fn := fun _ => fun
  | [d] => { results := [.lit (.bool false)], args := [d] }
  | _ => none }
def ThreadFullWrongFalsely : Prop := threadFullRow.holds Try.pinned (OpenSpec.ofChange threadFullWrong)

/- THE SECOND FORM. 'bulk': how many values and letters a reading holds, each counted each time it is reached (what is shared counts as often as it is met; a slice's spare places count too). A statement '..UptoSaid' is the law's where the arguments, and the package variables that the reading takes, are together of bulk at most 1048576: NARROWER than '..Said'. Prove '..Said' where nothing that the law and all that it calls make is longer than what came in: it says more and counts as full. Else prove '..UptoSaid'. A law counts once. -/
mutual
def uptoBulk {H : Type} : DataW H → Nat
  | .lit (.string bytes) => bytes.length + 1
  | .lit _ => 1
  | .nil => 1
  | .ptr d => uptoBulk d + 1
  | .slice elems spare => uptoBulkAll elems + uptoBulkAll spare + 1
  | .agg parts => uptoBulkAll parts + 1
  | .iface _ d => uptoBulk d + 1
  | .map entries => uptoBulkEntries entries + 1
  | .held _ => 1
def uptoBulkAll {H : Type} : List (DataW H) → Nat
  | [] => 0
  | d :: r => uptoBulk d + uptoBulkAll r
def uptoBulkEntries {H : Type} : List (Lit × DataW H) → Nat
  | [] => 0
  | x :: r => uptoBulkEntry x + uptoBulkEntries r
def uptoBulkEntry {H : Type} : Lit × DataW H → Nat
  | (.string bytes, d) => bytes.length + uptoBulk d + 1
  | (_, d) => uptoBulk d + 1
 end
def uptoSmall : (H : Type) → List (DataW H) → Bool := fun _ ds => decide (uptoBulkAll ds ≤ 1048576)
def OpenSpec.upto (s : _root_.Go.ChangeSpec) : _root_.Go.OpenSpec := { _root_.Go.OpenSpec.ofChange s with cond := some uptoSmall }

/-- 'cubiclelaw05.ThreadPicks', WHERE WHAT IT READS IS OF BULK AT MOST 1048576: true; the input reads as it did. -/
def threadPicksUptoRow : OpenClaim := { program := "ythepcnffadjeaaa", sum := "f80a998160dacdfa73c6452bf8fe18ce39419c2631a6c7c490e860b1658537d7", func := "cubicle/cubiclelaw05.ThreadPicks", spec := "threadPicks", unfollowed := true, recurses := true, apart := false, narrowed := true }
def ThreadPicksUptoSaid : Prop := threadPicksUptoRow.holds Try.pinned (OpenSpec.upto threadPicksSpec)

/-- 'cubiclelaw05.ThreadOne', WHERE WHAT IT READS IS OF BULK AT MOST 1048576: true; the input reads as it did. -/
def threadOneUptoRow : OpenClaim := { program := "ythepcnffadjeaaa", sum := "f80a998160dacdfa73c6452bf8fe18ce39419c2631a6c7c490e860b1658537d7", func := "cubicle/cubiclelaw05.ThreadOne", spec := "threadOne", unfollowed := true, recurses := true, apart := false, narrowed := true }
def ThreadOneUptoSaid : Prop := threadOneUptoRow.holds Try.pinned (OpenSpec.upto threadOneSpec)

/-- 'cubiclelaw05.ThreadStale', WHERE WHAT IT READS IS OF BULK AT MOST 1048576: true; the input reads as it did. -/
def threadStaleUptoRow : OpenClaim := { program := "ythepcnffadjeaaa", sum := "f80a998160dacdfa73c6452bf8fe18ce39419c2631a6c7c490e860b1658537d7", func := "cubicle/cubiclelaw05.ThreadStale", spec := "threadStale", unfollowed := true, recurses := true, apart := false, narrowed := true }
def ThreadStaleUptoSaid : Prop := threadStaleUptoRow.holds Try.pinned (OpenSpec.upto threadStaleSpec)

/-- 'cubiclelaw05.ThreadTwo', WHERE WHAT IT READS IS OF BULK AT MOST 1048576: true; the input reads as it did. -/
def threadTwoUptoRow : OpenClaim := { program := "ythepcnffadjeaaa", sum := "f80a998160dacdfa73c6452bf8fe18ce39419c2631a6c7c490e860b1658537d7", func := "cubicle/cubiclelaw05.ThreadTwo", spec := "threadTwo", unfollowed := true, recurses := true, apart := false, narrowed := true }
def ThreadTwoUptoSaid : Prop := threadTwoUptoRow.holds Try.pinned (OpenSpec.upto threadTwoSpec)

/-- 'cubiclelaw05.ThreadFull', WHERE WHAT IT READS IS OF BULK AT MOST 1048576: true; the input reads as it did. -/
def threadFullUptoRow : OpenClaim := { program := "ythepcnffadjeaaa", sum := "f80a998160dacdfa73c6452bf8fe18ce39419c2631a6c7c490e860b1658537d7", func := "cubicle/cubiclelaw05.ThreadFull", spec := "threadFull", unfollowed := true, recurses := true, apart := false, narrowed := true }
def ThreadFullUptoSaid : Prop := threadFullUptoRow.holds Try.pinned (OpenSpec.upto threadFullSpec)

end Rows
end Go.Proofs.Ythepcnffadjeaaa
