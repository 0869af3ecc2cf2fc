/-
  No cell of these rows narrows 'for every input' (looked for: loops, veiled, ifaces, maps, wideKeys, modest, calm, conditions, laid).
  DERIVED. THE GIVEN ROWS OF THIS SEAT. 6 by the template 'for every input the law returns true; each argument reads behind the call as it read before'; 0 by the template 'total and deterministic' (their statements: YtmianpfomoghjaaTotals.lean).
  GIVEN WITH THE SEED: the statements are not yours to turn. If you find one false, say at which input.
  Laid BY PROGRAM, IN A SANDBOX (cutbox-rows.mjs): the forced cells as the released guide's own fill.sh prints them over the translation 10470f3d68cdef73… (all of the seat's roots in one cut). By AI agents, Wed Nov 11 2026. No macro, syntax, notation, axiom, sorry.
-/
import Derived.Test.YtmianpfomoghjaaChecked
import GoSem.Claim
import GoSem.ClaimJoined
import GoSem.ClaimMapViews
import Derived.JoinedTies
import Derived.KernelRfl
namespace Go.Proofs.Ytmianpfomoghjaa
/- THE CELL 'sum', in the pinned program and in every row, IS THE sha256 OF THE DUMP (.gsa) THAT YtmianpfomoghjaaProg.lean LOADS. Nothing in Lean hashes anything: it is a label: what it is worth is what the hold of that sum in a sandbox is worth. -/
noncomputable def Try.pinned : Pinned := { name := "ytmianpfomoghjaa", sum := "10470f3d68cdef73781e210749959e0d2506824cbc94dcd94fe861903fd6caf9", checked := Try.checked }
namespace Rows
def none {H : Type} : Left H := { results := [], args := [] }

/-- 'cubiclelaw03.ProgRuns': WHATEVER THE INPUT: true; the input reads as it did. -/
def progRunsSpec : ChangeSpec := { name := "progRuns", fn := fun _ => fun
  | [d1, d2] => { results := [.lit (.bool true)], args := [d1, d2] }
  | _ => none }
def progRunsRow : OpenClaim := { program := "ytmianpfomoghjaa", sum := "10470f3d68cdef73781e210749959e0d2506824cbc94dcd94fe861903fd6caf9", func := "cubicle/cubiclelaw03.ProgRuns", spec := "progRuns", unfollowed := true, recurses := true, apart := false }
def ProgRunsSaid : Prop := progRunsRow.holds Try.pinned (OpenSpec.ofChange progRunsSpec)

/-- ITS FALSE NEIGHBOUR: 'it returns false'. Refute it at one input. -/
def progRunsWrong : ChangeSpec := { name := "progRuns", fn := fun _ => fun
  | [d1, d2] => { results := [.lit (.bool false)], args := [d1, d2] }
  | _ => none }
def ProgRunsWrongFalsely : Prop := progRunsRow.holds Try.pinned (OpenSpec.ofChange progRunsWrong)

/-- 'cubiclelaw03.ProgJoin': WHATEVER THE INPUT: true; the input reads as it did. -/
def progJoinSpec : ChangeSpec := { name := "progJoin", fn := fun _ => fun
  | [d1, d2] => { results := [.lit (.bool true)], args := [d1, d2] }
  | _ => none }
def progJoinRow : OpenClaim := { program := "ytmianpfomoghjaa", sum := "10470f3d68cdef73781e210749959e0d2506824cbc94dcd94fe861903fd6caf9", func := "cubicle/cubiclelaw03.ProgJoin", spec := "progJoin", unfollowed := true, recurses := true, apart := false }
def ProgJoinSaid : Prop := progJoinRow.holds Try.pinned (OpenSpec.ofChange progJoinSpec)

/-- ITS FALSE NEIGHBOUR: 'it returns false'. Refute it at one input. -/
def progJoinWrong : ChangeSpec := { name := "progJoin", fn := fun _ => fun
  | [d1, d2] => { results := [.lit (.bool false)], args := [d1, d2] }
  | _ => none }
def ProgJoinWrongFalsely : Prop := progJoinRow.holds Try.pinned (OpenSpec.ofChange progJoinWrong)

/-- 'cubiclelaw03.ProgSteps': WHATEVER THE INPUT: true; the input reads as it did. -/
def progStepsSpec : ChangeSpec := { name := "progSteps", fn := fun _ => fun
  | [d1, d2] => { results := [.lit (.bool true)], args := [d1, d2] }
  | _ => none }
def progStepsRow : OpenClaim := { program := "ytmianpfomoghjaa", sum := "10470f3d68cdef73781e210749959e0d2506824cbc94dcd94fe861903fd6caf9", func := "cubicle/cubiclelaw03.ProgSteps", spec := "progSteps", unfollowed := true, recurses := true, apart := false }
def ProgStepsSaid : Prop := progStepsRow.holds Try.pinned (OpenSpec.ofChange progStepsSpec)

/-- ITS FALSE NEIGHBOUR: 'it returns false'. Refute it at one input. -/
def progStepsWrong : ChangeSpec := { name := "progSteps", fn := fun _ => fun
  | [d1, d2] => { results := [.lit (.bool false)], args := [d1, d2] }
  | _ => none }
def ProgStepsWrongFalsely : Prop := progStepsRow.holds Try.pinned (OpenSpec.ofChange progStepsWrong)

/-- 'cubiclelaw03.ProgKinds': WHATEVER THE INPUT: true; the input reads as it did. -/
def progKindsSpec : ChangeSpec := { name := "progKinds", fn := fun _ => fun
  | [d1, d2, d3] => { results := [.lit (.bool true)], args := [d1, d2, d3] }
  | _ => none }
def progKindsRow : OpenClaim := { program := "ytmianpfomoghjaa", sum := "10470f3d68cdef73781e210749959e0d2506824cbc94dcd94fe861903fd6caf9", func := "cubicle/cubiclelaw03.ProgKinds", spec := "progKinds", unfollowed := true, recurses := true, apart := false }
def ProgKindsSaid : Prop := progKindsRow.holds Try.pinned (OpenSpec.ofChange progKindsSpec)

/-- ITS FALSE NEIGHBOUR: 'it returns false'. Refute it at one input. -/
def progKindsWrong : ChangeSpec := { name := "progKinds", fn := fun _ => fun
  | [d1, d2, d3] => { results := [.lit (.bool false)], args := [d1, d2, d3] }
  | _ => none }
def ProgKindsWrongFalsely : Prop := progKindsRow.holds Try.pinned (OpenSpec.ofChange progKindsWrong)

/-- 'cubiclelaw03.ProgHalves': WHATEVER THE INPUT: true; the input reads as it did. -/
def progHalvesSpec : ChangeSpec := { name := "progHalves", fn := fun _ => fun
  | [d1, d2] => { results := [.lit (.bool true)], args := [d1, d2] }
  | _ => none }
def progHalvesRow : OpenClaim := { program := "ytmianpfomoghjaa", sum := "10470f3d68cdef73781e210749959e0d2506824cbc94dcd94fe861903fd6caf9", func := "cubicle/cubiclelaw03.ProgHalves", spec := "progHalves", unfollowed := true, recurses := true, apart := false }
def ProgHalvesSaid : Prop := progHalvesRow.holds Try.pinned (OpenSpec.ofChange progHalvesSpec)

/-- ITS FALSE NEIGHBOUR: 'it returns false'. Refute it at one input. -/
def progHalvesWrong : ChangeSpec := { name := "progHalves", fn := fun _ => fun
  | [d1, d2] => { results := [.lit (.bool false)], args := [d1, d2] }
  | _ => none }
def ProgHalvesWrongFalsely : Prop := progHalvesRow.holds Try.pinned (OpenSpec.ofChange progHalvesWrong)

/-- 'cubiclelaw03.ProgStale': WHATEVER THE INPUT: true; the input reads as it did. -/
def progStaleSpec : ChangeSpec := { name := "progStale", fn := fun _ => fun
  | [d1, d2, d3] => { results := [.lit (.bool true)], args := [d1, d2, d3] }
  | _ => none }
def progStaleRow : OpenClaim := { program := "ytmianpfomoghjaa", sum := "10470f3d68cdef73781e210749959e0d2506824cbc94dcd94fe861903fd6caf9", func := "cubicle/cubiclelaw03.ProgStale", spec := "progStale", unfollowed := true, recurses := true, apart := false }
def ProgStaleSaid : Prop := progStaleRow.holds Try.pinned (OpenSpec.ofChange progStaleSpec)

/-- ITS FALSE NEIGHBOUR: 'it returns false'. Refute it at one input. -/
def progStaleWrong : ChangeSpec := { name := "progStale", fn := fun _ => fun
  | [d1, d2, d3] => { results := [.lit (.bool false)], args := [d1, d2, d3] }
  | _ => none }
def ProgStaleWrongFalsely : Prop := progStaleRow.holds Try.pinned (OpenSpec.ofChange progStaleWrong)

/- THE SECOND FORM. 'bulk': how many values and letters a reading holds, each counted each time it is reached (what is shared counts as often as it is met; a slice's spare places count too). A statement '..UptoSaid' is the law's where the arguments, and the package variables that the reading takes, are together of bulk at most 1048576: NARROWER than '..Said'. Prove '..Said' where nothing that the law and all that it calls make is longer than what came in: it says more and counts as full. Else prove '..UptoSaid'. A law counts once. -/
mutual
def uptoBulk {H : Type} : DataW H → Nat
  | .lit (.string bytes) => bytes.length + 1
  | .lit _ => 1
  | .nil => 1
  | .ptr d => uptoBulk d + 1
  | .slice elems spare => uptoBulkAll elems + uptoBulkAll spare + 1
  | .agg parts => uptoBulkAll parts + 1
  | .iface _ d => uptoBulk d + 1
  | .map entries => uptoBulkEntries entries + 1
  | .held _ => 1
def uptoBulkAll {H : Type} : List (DataW H) → Nat
  | [] => 0
  | d :: r => uptoBulk d + uptoBulkAll r
def uptoBulkEntries {H : Type} : List (Lit × DataW H) → Nat
  | [] => 0
  | x :: r => uptoBulkEntry x + uptoBulkEntries r
def uptoBulkEntry {H : Type} : Lit × DataW H → Nat
  | (.string bytes, d) => bytes.length + uptoBulk d + 1
  | (_, d) => uptoBulk d + 1
 end
def uptoSmall : (H : Type) → List (DataW H) → Bool := fun _ ds => decide (uptoBulkAll ds ≤ 1048576)
def OpenSpec.upto (s : _root_.Go.ChangeSpec) : _root_.Go.OpenSpec := { _root_.Go.OpenSpec.ofChange s with cond := some uptoSmall }

/-- 'cubiclelaw03.ProgRuns', WHERE WHAT IT READS IS OF BULK AT MOST 1048576: true; the input reads as it did. -/
def progRunsUptoRow : OpenClaim := { program := "ytmianpfomoghjaa", sum := "10470f3d68cdef73781e210749959e0d2506824cbc94dcd94fe861903fd6caf9", func := "cubicle/cubiclelaw03.ProgRuns", spec := "progRuns", unfollowed := true, recurses := true, apart := false, narrowed := true }
def ProgRunsUptoSaid : Prop := progRunsUptoRow.holds Try.pinned (OpenSpec.upto progRunsSpec)

/-- 'cubiclelaw03.ProgJoin', WHERE WHAT IT READS IS OF BULK AT MOST 1048576: true; the input reads as it did. -/
def progJoinUptoRow : OpenClaim := { program := "ytmianpfomoghjaa", sum := "10470f3d68cdef73781e210749959e0d2506824cbc94dcd94fe861903fd6caf9", func := "cubicle/cubiclelaw03.ProgJoin", spec := "progJoin", unfollowed := true, recurses := true, apart := false, narrowed := true }
def ProgJoinUptoSaid : Prop := progJoinUptoRow.holds Try.pinned (OpenSpec.upto progJoinSpec)

/-- 'cubiclelaw03.ProgSteps', WHERE WHAT IT READS IS OF BULK AT MOST 1048576: true; the input reads as it did. -/
def progStepsUptoRow : OpenClaim := { program := "ytmianpfomoghjaa", sum := "10470f3d68cdef73781e210749959e0d2506824cbc94dcd94fe861903fd6caf9", func := "cubicle/cubiclelaw03.ProgSteps", spec := "progSteps", unfollowed := true, recurses := true, apart := false, narrowed := true }
def ProgStepsUptoSaid : Prop := progStepsUptoRow.holds Try.pinned (OpenSpec.upto progStepsSpec)

/-- 'cubiclelaw03.ProgKinds', WHERE WHAT IT READS IS OF BULK AT MOST 1048576: true; the input reads as it did. -/
def progKindsUptoRow : OpenClaim := { program := "ytmianpfomoghjaa", sum := "10470f3d68cdef73781e210749959e0d2506824cbc94dcd94fe861903fd6caf9", func := "cubicle/cubiclelaw03.ProgKinds", spec := "progKinds", unfollowed := true, recurses := true, apart := false, narrowed := true }
def ProgKindsUptoSaid : Prop := progKindsUptoRow.holds Try.pinned (OpenSpec.upto progKindsSpec)

/-- 'cubiclelaw03.ProgHalves', WHERE WHAT IT READS IS OF BULK AT MOST 1048576: true; the input reads as it did. -/
def progHalvesUptoRow : OpenClaim := { program := "ytmianpfomoghjaa", sum := "10470f3d68cdef73781e210749959e0d2506824cbc94dcd94fe861903fd6caf9", func := "cubicle/cubiclelaw03.ProgHalves", spec := "progHalves", unfollowed := true, recurses := true, apart := false, narrowed := true }
def ProgHalvesUptoSaid : Prop := progHalvesUptoRow.holds Try.pinned (OpenSpec.upto progHalvesSpec)

/-- 'cubiclelaw03.ProgStale', WHERE WHAT IT READS IS OF BULK AT MOST 1048576: true; the input reads as it did. -/
def progStaleUptoRow : OpenClaim := { program := "ytmianpfomoghjaa", sum := "10470f3d68cdef73781e210749959e0d2506824cbc94dcd94fe861903fd6caf9", func := "cubicle/cubiclelaw03.ProgStale", spec := "progStale", unfollowed := true, recurses := true, apart := false, narrowed := true }
def ProgStaleUptoSaid : Prop := progStaleUptoRow.holds Try.pinned (OpenSpec.upto progStaleSpec)

end Rows
end Go.Proofs.Ytmianpfomoghjaa
