/-
  No cell of these rows narrows 'for every input' (looked for: loops, veiled, ifaces, maps, wideKeys, modest, calm, conditions, laid).
  DERIVED. THE GIVEN ROWS OF THIS SEAT. 5 by the template 'for every input the law returns true; each argument reads behind the call as it read before'; 0 by the template 'total and deterministic' (their statements: YtlapcocljjgjlaaGreatTotals.lean).
  GIVEN WITH THE SEED: the statements are not yours to turn. If you find one false, say at which input.
  Laid BY PROGRAM, IN A SANDBOX (cutbox-rows.mjs): the forced cells as the released guide's own fill.sh prints them over the translation c93dcf069293bf79… (all of the seat's roots in one cut). By AI agents, Wed Nov 11 2026. No macro, syntax, notation, axiom, sorry.
-/
import Derived.Test.YtlapcocljjgjlaaGreatChecked
import GoSem.Claim
import GoSem.ClaimJoined
import GoSem.ClaimMapViews
import Derived.JoinedTies
import Derived.KernelRfl
namespace Go.Proofs.YtlapcocljjgjlaaGreat
/- THE CELL 'sum', in the pinned program and in every row, IS THE sha256 OF THE DUMP (.gsa) THAT YtlapcocljjgjlaaGreatProg.lean LOADS. Nothing in Lean hashes anything: it is a label: what it is worth is what the hold of that sum in a sandbox is worth. -/
noncomputable def Tryz.pinned : Pinned := { name := "ytlapcocljjgjlaagreat", sum := "c93dcf069293bf79a7e28f6d258c77cdb968d94c7a4490321d57d87c50894c12", checked := Tryz.checked }
namespace Rows
def none {H : Type} : Left H := { results := [], args := [] }

/-- 'cubiclelaw11.RetireScans': WHATEVER THE INPUT: true; the input reads as it did. -/
def retireScansSpec : ChangeSpec := { name := "retireScans", fn := fun _ => fun
  | [d1, d2, d3] => { results := [.lit (.bool true)], args := [d1, d2, d3] }
  | _ => none }
def retireScansRow : OpenClaim := { program := "ytlapcocljjgjlaagreat", sum := "c93dcf069293bf79a7e28f6d258c77cdb968d94c7a4490321d57d87c50894c12", func := "cubicle/cubiclelaw11.RetireScans", spec := "retireScans", unfollowed := true, recurses := true, apart := false }
def RetireScansSaid : Prop := retireScansRow.holds Tryz.pinned (OpenSpec.ofChange retireScansSpec)

/-- ITS FALSE NEIGHBOUR: 'it returns false'. Refute it at one input. -/
def retireScansWrong : ChangeSpec := { name := "retireScans", fn := fun _ => fun
  | [d1, d2, d3] => { results := [.lit (.bool false)], args := [d1, d2, d3] }
  | _ => none }
def RetireScansWrongFalsely : Prop := retireScansRow.holds Tryz.pinned (OpenSpec.ofChange retireScansWrong)

/-- 'cubiclelaw11.RetireReclaims': WHATEVER THE INPUT: true; the input reads as it did. -/
def retireReclaimsSpec : ChangeSpec := { name := "retireReclaims", fn := fun _ => fun
  | [d1, d2, d3] => { results := [.lit (.bool true)], args := [d1, d2, d3] }
  | _ => none }
def retireReclaimsRow : OpenClaim := { program := "ytlapcocljjgjlaagreat", sum := "c93dcf069293bf79a7e28f6d258c77cdb968d94c7a4490321d57d87c50894c12", func := "cubicle/cubiclelaw11.RetireReclaims", spec := "retireReclaims", unfollowed := true, recurses := true, apart := false }
def RetireReclaimsSaid : Prop := retireReclaimsRow.holds Tryz.pinned (OpenSpec.ofChange retireReclaimsSpec)

/-- ITS FALSE NEIGHBOUR: 'it returns false'. Refute it at one input. -/
def retireReclaimsWrong : ChangeSpec := { name := "retireReclaims", fn := fun _ => fun
  | [d1, d2, d3] => { results := [.lit (.bool false)], args := [d1, d2, d3] }
  | _ => none }
def RetireReclaimsWrongFalsely : Prop := retireReclaimsRow.holds Tryz.pinned (OpenSpec.ofChange retireReclaimsWrong)

/-- 'cubiclelaw11.RetireMore': WHATEVER THE INPUT: true; the input reads as it did. -/
def retireMoreSpec : ChangeSpec := { name := "retireMore", fn := fun _ => fun
  | [d1, d2] => { results := [.lit (.bool true)], args := [d1, d2] }
  | _ => none }
def retireMoreRow : OpenClaim := { program := "ytlapcocljjgjlaagreat", sum := "c93dcf069293bf79a7e28f6d258c77cdb968d94c7a4490321d57d87c50894c12", func := "cubicle/cubiclelaw11.RetireMore", spec := "retireMore", unfollowed := true, recurses := true, apart := false }
def RetireMoreSaid : Prop := retireMoreRow.holds Tryz.pinned (OpenSpec.ofChange retireMoreSpec)

/-- ITS FALSE NEIGHBOUR: 'it returns false'. Refute it at one input. -/
def retireMoreWrong : ChangeSpec := { name := "retireMore", fn := fun _ => fun
  | [d1, d2] => { results := [.lit (.bool false)], args := [d1, d2] }
  | _ => none }
def RetireMoreWrongFalsely : Prop := retireMoreRow.holds Tryz.pinned (OpenSpec.ofChange retireMoreWrong)

/-- 'cubiclelaw11.RetireTwice': WHATEVER THE INPUT: true; the input reads as it did. -/
def retireTwiceSpec : ChangeSpec := { name := "retireTwice", fn := fun _ => fun
  | [d1, d2, d3] => { results := [.lit (.bool true)], args := [d1, d2, d3] }
  | _ => none }
def retireTwiceRow : OpenClaim := { program := "ytlapcocljjgjlaagreat", sum := "c93dcf069293bf79a7e28f6d258c77cdb968d94c7a4490321d57d87c50894c12", func := "cubicle/cubiclelaw11.RetireTwice", spec := "retireTwice", unfollowed := true, recurses := true, apart := false }
def RetireTwiceSaid : Prop := retireTwiceRow.holds Tryz.pinned (OpenSpec.ofChange retireTwiceSpec)

/-- ITS FALSE NEIGHBOUR: 'it returns false'. Refute it at one input. -/
def retireTwiceWrong : ChangeSpec := { name := "retireTwice", fn := fun _ => fun
  | [d1, d2, d3] => { results := [.lit (.bool false)], args := [d1, d2, d3] }
  | _ => none }
def RetireTwiceWrongFalsely : Prop := retireTwiceRow.holds Tryz.pinned (OpenSpec.ofChange retireTwiceWrong)

/-- 'cubiclelaw11.RetireOthers': WHATEVER THE INPUT: true; the input reads as it did. -/
def retireOthersSpec : ChangeSpec := { name := "retireOthers", fn := fun _ => fun
  | [d1, d2] => { results := [.lit (.bool true)], args := [d1, d2] }
  | _ => none }
def retireOthersRow : OpenClaim := { program := "ytlapcocljjgjlaagreat", sum := "c93dcf069293bf79a7e28f6d258c77cdb968d94c7a4490321d57d87c50894c12", func := "cubicle/cubiclelaw11.RetireOthers", spec := "retireOthers", unfollowed := true, recurses := true, apart := false }
def RetireOthersSaid : Prop := retireOthersRow.holds Tryz.pinned (OpenSpec.ofChange retireOthersSpec)

/-- ITS FALSE NEIGHBOUR: 'it returns false'. Refute it at one input. -/
def retireOthersWrong : ChangeSpec := { name := "retireOthers", fn := fun _ => fun
  | [d1, d2] => { results := [.lit (.bool false)], args := [d1, d2] }
  | _ => none }
def RetireOthersWrongFalsely : Prop := retireOthersRow.holds Tryz.pinned (OpenSpec.ofChange retireOthersWrong)

/- THE SECOND FORM. 'bulk': how many values and letters a reading holds, each counted each time it is reached (what is shared counts as often as it is met; a slice's spare places count too). A statement '..UptoSaid' is the law's where the arguments, and the package variables that the reading takes, are together of bulk at most 1048576: NARROWER than '..Said'. Prove '..Said' where nothing that the law and all that it calls make is longer than what came in: it says more and counts as full. Else prove '..UptoSaid'. A law counts once. -/
mutual
def uptoBulk {H : Type} : DataW H → Nat
  | .lit (.string bytes) => bytes.length + 1
  | .lit _ => 1
  | .nil => 1
  | .ptr d => uptoBulk d + 1
  | .slice elems spare => uptoBulkAll elems + uptoBulkAll spare + 1
  | .agg parts => uptoBulkAll parts + 1
  | .iface _ d => uptoBulk d + 1
  | .map entries => uptoBulkEntries entries + 1
  | .held _ => 1
def uptoBulkAll {H : Type} : List (DataW H) → Nat
  | [] => 0
  | d :: r => uptoBulk d + uptoBulkAll r
def uptoBulkEntries {H : Type} : List (Lit × DataW H) → Nat
  | [] => 0
  | x :: r => uptoBulkEntry x + uptoBulkEntries r
def uptoBulkEntry {H : Type} : Lit × DataW H → Nat
  | (.string bytes, d) => bytes.length + uptoBulk d + 1
  | (_, d) => uptoBulk d + 1
 end
def uptoSmall : (H : Type) → List (DataW H) → Bool := fun _ ds => decide (uptoBulkAll ds ≤ 1048576)
def OpenSpec.upto (s : _root_.Go.ChangeSpec) : _root_.Go.OpenSpec := { _root_.Go.OpenSpec.ofChange s with cond := some uptoSmall }

/-- 'cubiclelaw11.RetireScans', WHERE WHAT IT READS IS OF BULK AT MOST 1048576: true; the input reads as it did. -/
def retireScansUptoRow : OpenClaim := { program := "ytlapcocljjgjlaagreat", sum := "c93dcf069293bf79a7e28f6d258c77cdb968d94c7a4490321d57d87c50894c12", func := "cubicle/cubiclelaw11.RetireScans", spec := "retireScans", unfollowed := true, recurses := true, apart := false, narrowed := true }
def RetireScansUptoSaid : Prop := retireScansUptoRow.holds Tryz.pinned (OpenSpec.upto retireScansSpec)

/-- 'cubiclelaw11.RetireReclaims', WHERE WHAT IT READS IS OF BULK AT MOST 1048576: true; the input reads as it did. -/
def retireReclaimsUptoRow : OpenClaim := { program := "ytlapcocljjgjlaagreat", sum := "c93dcf069293bf79a7e28f6d258c77cdb968d94c7a4490321d57d87c50894c12", func := "cubicle/cubiclelaw11.RetireReclaims", spec := "retireReclaims", unfollowed := true, recurses := true, apart := false, narrowed := true }
def RetireReclaimsUptoSaid : Prop := retireReclaimsUptoRow.holds Tryz.pinned (OpenSpec.upto retireReclaimsSpec)

/-- 'cubiclelaw11.RetireMore', WHERE WHAT IT READS IS OF BULK AT MOST 1048576: true; the input reads as it did. -/
def retireMoreUptoRow : OpenClaim := { program := "ytlapcocljjgjlaagreat", sum := "c93dcf069293bf79a7e28f6d258c77cdb968d94c7a4490321d57d87c50894c12", func := "cubicle/cubiclelaw11.RetireMore", spec := "retireMore", unfollowed := true, recurses := true, apart := false, narrowed := true }
def RetireMoreUptoSaid : Prop := retireMoreUptoRow.holds Tryz.pinned (OpenSpec.upto retireMoreSpec)

/-- 'cubiclelaw11.RetireTwice', WHERE WHAT IT READS IS OF BULK AT MOST 1048576: true; the input reads as it did. -/
def retireTwiceUptoRow : OpenClaim := { program := "ytlapcocljjgjlaagreat", sum := "c93dcf069293bf79a7e28f6d258c77cdb968d94c7a4490321d57d87c50894c12", func := "cubicle/cubiclelaw11.RetireTwice", spec := "retireTwice", unfollowed := true, recurses := true, apart := false, narrowed := true }
def RetireTwiceUptoSaid : Prop := retireTwiceUptoRow.holds Tryz.pinned (OpenSpec.upto retireTwiceSpec)

/-- 'cubiclelaw11.RetireOthers', WHERE WHAT IT READS IS OF BULK AT MOST 1048576: true; the input reads as it did. -/
def retireOthersUptoRow : OpenClaim := { program := "ytlapcocljjgjlaagreat", sum := "c93dcf069293bf79a7e28f6d258c77cdb968d94c7a4490321d57d87c50894c12", func := "cubicle/cubiclelaw11.RetireOthers", spec := "retireOthers", unfollowed := true, recurses := true, apart := false, narrowed := true }
def RetireOthersUptoSaid : Prop := retireOthersUptoRow.holds Tryz.pinned (OpenSpec.upto retireOthersSpec)

end Rows
end Go.Proofs.YtlapcocljjgjlaaGreat
