/-
  No cell of these rows narrows 'for every input' (looked for: loops, veiled, ifaces, maps, wideKeys, modest, calm, conditions, laid).
  DERIVED. THE GIVEN ROWS OF THIS SEAT. 6 by the template 'for every input the law returns true; each argument reads behind the call as it read before'; 0 by the template 'total and deterministic' (their statements: YtkjbfhcgldgkaaaTotals.lean).
  GIVEN WITH THE SEED: the statements are not yours to turn. If you find one false, say at which input.
  Laid BY PROGRAM, IN A SANDBOX (cutbox-rows.mjs): the forced cells as the released guide's own fill.sh prints them over the translation 0dee285c39b306b4… (all of the seat's roots in one cut). By AI agents, Wed Nov 11 2026. No macro, syntax, notation, axiom, sorry.
-/
import Derived.Test.YtkjbfhcgldgkaaaChecked
import GoSem.Claim
import GoSem.ClaimJoined
import GoSem.ClaimMapViews
import Derived.JoinedTies
import Derived.KernelRfl
namespace Go.Proofs.Ytkjbfhcgldgkaaa
/- THE CELL 'sum', in the pinned program and in every row, IS THE sha256 OF THE DUMP (.gsa) THAT YtkjbfhcgldgkaaaProg.lean LOADS. Nothing in Lean hashes anything: it is a label: what it is worth is what the hold of that sum in a sandbox is worth. -/
noncomputable def Try.pinned : Pinned := { name := "ytkjbfhcgldgkaaa", sum := "0dee285c39b306b4a44a894a4d0196118f2ea4a8ecbd9ffe61adc24300dcca90", checked := Try.checked }
namespace Rows
def none {H : Type} : Left H := { results := [], args := [] }

/-- 'cubiclelaw09.FreeMany': WHATEVER THE INPUT: true; the input reads as it did. -/
def freeManySpec : ChangeSpec := { name := "freeMany", fn := fun _ => fun
  | [d1, d2, d3] => { results := [.lit (.bool true)], args := [d1, d2, d3] }
  | _ => none }
def freeManyRow : OpenClaim := { program := "ytkjbfhcgldgkaaa", sum := "0dee285c39b306b4a44a894a4d0196118f2ea4a8ecbd9ffe61adc24300dcca90", func := "cubicle/cubiclelaw09.FreeMany", spec := "freeMany", unfollowed := true, recurses := true, apart := false }
def FreeManySaid : Prop := freeManyRow.holds Try.pinned (OpenSpec.ofChange freeManySpec)

/-- ITS FALSE NEIGHBOUR: 'it returns false'. Refute it at one input. -/
def freeManyWrong : ChangeSpec := { name := "freeMany", fn := fun _ => fun
  | [d1, d2, d3] => { results := [.lit (.bool false)], args := [d1, d2, d3] }
  | _ => none }
def FreeManyWrongFalsely : Prop := freeManyRow.holds Try.pinned (OpenSpec.ofChange freeManyWrong)

/-- 'cubiclelaw10.HazardHeld': WHATEVER THE INPUT: true; the input reads as it did. -/
def hazardHeldSpec : ChangeSpec := { name := "hazardHeld", fn := fun _ => fun
  | [d1, d2, d3] => { results := [.lit (.bool true)], args := [d1, d2, d3] }
  | _ => none }
def hazardHeldRow : OpenClaim := { program := "ytkjbfhcgldgkaaa", sum := "0dee285c39b306b4a44a894a4d0196118f2ea4a8ecbd9ffe61adc24300dcca90", func := "cubicle/cubiclelaw10.HazardHeld", spec := "hazardHeld", unfollowed := true, recurses := true, apart := false }
def HazardHeldSaid : Prop := hazardHeldRow.holds Try.pinned (OpenSpec.ofChange hazardHeldSpec)

/-- ITS FALSE NEIGHBOUR: 'it returns false'. Refute it at one input. -/
def hazardHeldWrong : ChangeSpec := { name := "hazardHeld", fn := fun _ => fun
  | [d1, d2, d3] => { results := [.lit (.bool false)], args := [d1, d2, d3] }
  | _ => none }
def HazardHeldWrongFalsely : Prop := hazardHeldRow.holds Try.pinned (OpenSpec.ofChange hazardHeldWrong)

/-- 'cubiclelaw10.HazardGuards': WHATEVER THE INPUT: true; the input reads as it did. -/
def hazardGuardsSpec : ChangeSpec := { name := "hazardGuards", fn := fun _ => fun
  | [d1, d2, d3] => { results := [.lit (.bool true)], args := [d1, d2, d3] }
  | _ => none }
def hazardGuardsRow : OpenClaim := { program := "ytkjbfhcgldgkaaa", sum := "0dee285c39b306b4a44a894a4d0196118f2ea4a8ecbd9ffe61adc24300dcca90", func := "cubicle/cubiclelaw10.HazardGuards", spec := "hazardGuards", unfollowed := true, recurses := true, apart := false }
def HazardGuardsSaid : Prop := hazardGuardsRow.holds Try.pinned (OpenSpec.ofChange hazardGuardsSpec)

/-- ITS FALSE NEIGHBOUR: 'it returns false'. Refute it at one input. -/
def hazardGuardsWrong : ChangeSpec := { name := "hazardGuards", fn := fun _ => fun
  | [d1, d2, d3] => { results := [.lit (.bool false)], args := [d1, d2, d3] }
  | _ => none }
def HazardGuardsWrongFalsely : Prop := hazardGuardsRow.holds Try.pinned (OpenSpec.ofChange hazardGuardsWrong)

/-- 'cubiclelaw10.HazardStays': WHATEVER THE INPUT: true; the input reads as it did. -/
def hazardStaysSpec : ChangeSpec := { name := "hazardStays", fn := fun _ => fun
  | [d] => { results := [.lit (.bool true)], args := [d] }
  | _ => none }
def hazardStaysRow : OpenClaim := { program := "ytkjbfhcgldgkaaa", sum := "0dee285c39b306b4a44a894a4d0196118f2ea4a8ecbd9ffe61adc24300dcca90", func := "cubicle/cubiclelaw10.HazardStays", spec := "hazardStays", unfollowed := true, recurses := true, apart := false }
def HazardStaysSaid : Prop := hazardStaysRow.holds Try.pinned (OpenSpec.ofChange hazardStaysSpec)

/-- ITS FALSE NEIGHBOUR: 'it returns false'. Refute it at one input. -/
def hazardStaysWrong : ChangeSpec := { name := "hazardStays", fn := fun _ => fun
  | [d] => { results := [.lit (.bool false)], args := [d] }
  | _ => none }
def HazardStaysWrongFalsely : Prop := hazardStaysRow.holds Try.pinned (OpenSpec.ofChange hazardStaysWrong)

/-- 'cubiclelaw10.HazardClears': WHATEVER THE INPUT: true; the input reads as it did. -/
def hazardClearsSpec : ChangeSpec := { name := "hazardClears", fn := fun _ => fun
  | [d1, d2, d3] => { results := [.lit (.bool true)], args := [d1, d2, d3] }
  | _ => none }
def hazardClearsRow : OpenClaim := { program := "ytkjbfhcgldgkaaa", sum := "0dee285c39b306b4a44a894a4d0196118f2ea4a8ecbd9ffe61adc24300dcca90", func := "cubicle/cubiclelaw10.HazardClears", spec := "hazardClears", unfollowed := true, recurses := true, apart := false }
def HazardClearsSaid : Prop := hazardClearsRow.holds Try.pinned (OpenSpec.ofChange hazardClearsSpec)

/-- ITS FALSE NEIGHBOUR: 'it returns false'. Refute it at one input. -/
def hazardClearsWrong : ChangeSpec := { name := "hazardClears", fn := fun _ => fun
  | [d1, d2, d3] => { results := [.lit (.bool false)], args := [d1, d2, d3] }
  | _ => none }
def HazardClearsWrongFalsely : Prop := hazardClearsRow.holds Try.pinned (OpenSpec.ofChange hazardClearsWrong)

/-- 'cubiclelaw10.HazardTwo': WHATEVER THE INPUT: true; the input reads as it did. -/
def hazardTwoSpec : ChangeSpec := { name := "hazardTwo", fn := fun _ => fun
  | [d1, d2, d3] => { results := [.lit (.bool true)], args := [d1, d2, d3] }
  | _ => none }
def hazardTwoRow : OpenClaim := { program := "ytkjbfhcgldgkaaa", sum := "0dee285c39b306b4a44a894a4d0196118f2ea4a8ecbd9ffe61adc24300dcca90", func := "cubicle/cubiclelaw10.HazardTwo", spec := "hazardTwo", unfollowed := true, recurses := true, apart := false }
def HazardTwoSaid : Prop := hazardTwoRow.holds Try.pinned (OpenSpec.ofChange hazardTwoSpec)

/-- ITS FALSE NEIGHBOUR: 'it returns false'. Refute it at one input. -/
def hazardTwoWrong : ChangeSpec := { name := "hazardTwo", fn := fun _ => fun
  | [d1, d2, d3] => { results := [.lit (.bool false)], args := [d1, d2, d3] }
  | _ => none }
def HazardTwoWrongFalsely : Prop := hazardTwoRow.holds Try.pinned (OpenSpec.ofChange hazardTwoWrong)

/- THE SECOND FORM. 'bulk': how many values and letters a reading holds, each counted each time it is reached (what is shared counts as often as it is met; a slice's spare places count too). A statement '..UptoSaid' is the law's where the arguments, and the package variables that the reading takes, are together of bulk at most 1048576: NARROWER than '..Said'. Prove '..Said' where nothing that the law and all that it calls make is longer than what came in: it says more and counts as full. Else prove '..UptoSaid'. A law counts once. -/
mutual
def uptoBulk {H : Type} : DataW H → Nat
  | .lit (.string bytes) => bytes.length + 1
  | .lit _ => 1
  | .nil => 1
  | .ptr d => uptoBulk d + 1
  | .slice elems spare => uptoBulkAll elems + uptoBulkAll spare + 1
  | .agg parts => uptoBulkAll parts + 1
  | .iface _ d => uptoBulk d + 1
  | .map entries => uptoBulkEntries entries + 1
  | .held _ => 1
def uptoBulkAll {H : Type} : List (DataW H) → Nat
  | [] => 0
  | d :: r => uptoBulk d + uptoBulkAll r
def uptoBulkEntries {H : Type} : List (Lit × DataW H) → Nat
  | [] => 0
  | x :: r => uptoBulkEntry x + uptoBulkEntries r
def uptoBulkEntry {H : Type} : Lit × DataW H → Nat
  | (.string bytes, d) => bytes.length + uptoBulk d + 1
  | (_, d) => uptoBulk d + 1
 end
def uptoSmall : (H : Type) → List (DataW H) → Bool := fun _ ds => decide (uptoBulkAll ds ≤ 1048576)
def OpenSpec.upto (s : _root_.Go.ChangeSpec) : _root_.Go.OpenSpec := { _root_.Go.OpenSpec.ofChange s with cond := some uptoSmall }

/-- 'cubiclelaw09.FreeMany', WHERE WHAT IT READS IS OF BULK AT MOST 1048576: true; the input reads as it did. -/
def freeManyUptoRow : OpenClaim := { program := "ytkjbfhcgldgkaaa", sum := "0dee285c39b306b4a44a894a4d0196118f2ea4a8ecbd9ffe61adc24300dcca90", func := "cubicle/cubiclelaw09.FreeMany", spec := "freeMany", unfollowed := true, recurses := true, apart := false, narrowed := true }
def FreeManyUptoSaid : Prop := freeManyUptoRow.holds Try.pinned (OpenSpec.upto freeManySpec)

/-- 'cubiclelaw10.HazardHeld', WHERE WHAT IT READS IS OF BULK AT MOST 1048576: true; the input reads as it did. -/
def hazardHeldUptoRow : OpenClaim := { program := "ytkjbfhcgldgkaaa", sum := "0dee285c39b306b4a44a894a4d0196118f2ea4a8ecbd9ffe61adc24300dcca90", func := "cubicle/cubiclelaw10.HazardHeld", spec := "hazardHeld", unfollowed := true, recurses := true, apart := false, narrowed := true }
def HazardHeldUptoSaid : Prop := hazardHeldUptoRow.holds Try.pinned (OpenSpec.upto hazardHeldSpec)

/-- 'cubiclelaw10.HazardGuards', WHERE WHAT IT READS IS OF BULK AT MOST 1048576: true; the input reads as it did. -/
def hazardGuardsUptoRow : OpenClaim := { program := "ytkjbfhcgldgkaaa", sum := "0dee285c39b306b4a44a894a4d0196118f2ea4a8ecbd9ffe61adc24300dcca90", func := "cubicle/cubiclelaw10.HazardGuards", spec := "hazardGuards", unfollowed := true, recurses := true, apart := false, narrowed := true }
def HazardGuardsUptoSaid : Prop := hazardGuardsUptoRow.holds Try.pinned (OpenSpec.upto hazardGuardsSpec)

/-- 'cubiclelaw10.HazardStays', WHERE WHAT IT READS IS OF BULK AT MOST 1048576: true; the input reads as it did. -/
def hazardStaysUptoRow : OpenClaim := { program := "ytkjbfhcgldgkaaa", sum := "0dee285c39b306b4a44a894a4d0196118f2ea4a8ecbd9ffe61adc24300dcca90", func := "cubicle/cubiclelaw10.HazardStays", spec := "hazardStays", unfollowed := true, recurses := true, apart := false, narrowed := true }
def HazardStaysUptoSaid : Prop := hazardStaysUptoRow.holds Try.pinned (OpenSpec.upto hazardStaysSpec)

/-- 'cubiclelaw10.HazardClears', WHERE WHAT IT READS IS OF BULK AT MOST 1048576: true; the input reads as it did. -/
def hazardClearsUptoRow : OpenClaim := { program := "ytkjbfhcgldgkaaa", sum := "0dee285c39b306b4a44a894a4d0196118f2ea4a8ecbd9ffe61adc24300dcca90", func := "cubicle/cubiclelaw10.HazardClears", spec := "hazardClears", unfollowed := true, recurses := true, apart := false, narrowed := true }
def HazardClearsUptoSaid : Prop := hazardClearsUptoRow.holds Try.pinned (OpenSpec.upto hazardClearsSpec)

/-- 'cubiclelaw10.HazardTwo', WHERE WHAT IT READS IS OF BULK AT MOST 1048576: true; the input reads as it did. -/
def hazardTwoUptoRow : OpenClaim := { program := "ytkjbfhcgldgkaaa", sum := "0dee285c39b306b4a44a894a4d0196118f2ea4a8ecbd9ffe61adc24300dcca90", func := "cubicle/cubiclelaw10.HazardTwo", spec := "hazardTwo", unfollowed := true, recurses := true, apart := false, narrowed := true }
def HazardTwoUptoSaid : Prop := hazardTwoUptoRow.holds Try.pinned (OpenSpec.upto hazardTwoSpec)

end Rows
end Go.Proofs.Ytkjbfhcgldgkaaa
