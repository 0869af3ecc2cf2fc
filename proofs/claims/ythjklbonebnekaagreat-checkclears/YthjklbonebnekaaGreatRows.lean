/-
  No cell of these rows narrows 'for every input' (looked for: loops, veiled, ifaces, maps, wideKeys, modest, calm, conditions, laid).
  DERIVED. THE GIVEN ROWS OF THIS SEAT. 9 by the template 'for every input the law returns true; each argument reads behind the call as it read before'; 0 by the template 'total and deterministic' (their statements: YthjklbonebnekaaGreatTotals.lean).
  GIVEN WITH THE SEED: the statements are not yours to turn. If you find one false, say at which input.
  Laid BY PROGRAM, IN A SANDBOX (cutbox-rows.mjs): the forced cells as the released guide's own fill.sh prints them over the translation 894e1d73500b8699… (all of the seat's roots in one cut). By AI agents, Wed Nov 11 2026. No macro, syntax, notation, axiom, sorry.
-/
import Derived.Test.YthjklbonebnekaaGreatChecked
import GoSem.Claim
import GoSem.ClaimJoined
import GoSem.ClaimMapViews
import Derived.JoinedTies
import Derived.KernelRfl
namespace Go.Proofs.YthjklbonebnekaaGreat
/- THE CELL 'sum', in the pinned program and in every row, IS THE sha256 OF THE DUMP (.gsa) THAT YthjklbonebnekaaGreatProg.lean LOADS. Nothing in Lean hashes anything: it is a label: what it is worth is what the hold of that sum in a sandbox is worth. -/
noncomputable def Tryz.pinned : Pinned := { name := "ythjklbonebnekaagreat", sum := "894e1d73500b869932c012b8e52954ec05ed0d4ab901318e656bda41560bed8a", checked := Tryz.checked }
namespace Rows
def none {H : Type} : Left H := { results := [], args := [] }

/-- 'cubiclelaw12.AllocAlone': WHATEVER THE INPUT: true; the input reads as it did. -/
def allocAloneSpec : ChangeSpec := { name := "allocAlone", fn := fun _ => fun
  | [d1, d2] => { results := [.lit (.bool true)], args := [d1, d2] }
  | _ => none }
def allocAloneRow : OpenClaim := { program := "ythjklbonebnekaagreat", sum := "894e1d73500b869932c012b8e52954ec05ed0d4ab901318e656bda41560bed8a", func := "cubicle/cubiclelaw12.AllocAlone", spec := "allocAlone", unfollowed := true, recurses := true, apart := false }
def AllocAloneSaid : Prop := allocAloneRow.holds Tryz.pinned (OpenSpec.ofChange allocAloneSpec)

/-- ITS FALSE NEIGHBOUR: 'it returns false'. Refute it at one input. -/
def allocAloneWrong : ChangeSpec := { name := "allocAlone", fn := fun _ => fun
  | [d1, d2] => { results := [.lit (.bool false)], args := [d1, d2] }
  | _ => none }
def AllocAloneWrongFalsely : Prop := allocAloneRow.holds Tryz.pinned (OpenSpec.ofChange allocAloneWrong)

/-- 'cubiclelaw12.AllocMany': WHATEVER THE INPUT: true; the input reads as it did. -/
def allocManySpec : ChangeSpec := { name := "allocMany", fn := fun _ => fun
  | [d1, d2, d3] => { results := [.lit (.bool true)], args := [d1, d2, d3] }
  | _ => none }
def allocManyRow : OpenClaim := { program := "ythjklbonebnekaagreat", sum := "894e1d73500b869932c012b8e52954ec05ed0d4ab901318e656bda41560bed8a", func := "cubicle/cubiclelaw12.AllocMany", spec := "allocMany", unfollowed := true, recurses := true, apart := false }
def AllocManySaid : Prop := allocManyRow.holds Tryz.pinned (OpenSpec.ofChange allocManySpec)

/-- ITS FALSE NEIGHBOUR: 'it returns false'. Refute it at one input. -/
def allocManyWrong : ChangeSpec := { name := "allocMany", fn := fun _ => fun
  | [d1, d2, d3] => { results := [.lit (.bool false)], args := [d1, d2, d3] }
  | _ => none }
def AllocManyWrongFalsely : Prop := allocManyRow.holds Tryz.pinned (OpenSpec.ofChange allocManyWrong)

/-- 'cubiclelaw13.CheckAlone': WHATEVER THE INPUT: true; the input reads as it did. -/
def checkAloneSpec : ChangeSpec := { name := "checkAlone", fn := fun _ => fun
  | [d1, d2, d3] => { results := [.lit (.bool true)], args := [d1, d2, d3] }
  | _ => none }
def checkAloneRow : OpenClaim := { program := "ythjklbonebnekaagreat", sum := "894e1d73500b869932c012b8e52954ec05ed0d4ab901318e656bda41560bed8a", func := "cubicle/cubiclelaw13.CheckAlone", spec := "checkAlone", unfollowed := true, recurses := true, apart := false }
def CheckAloneSaid : Prop := checkAloneRow.holds Tryz.pinned (OpenSpec.ofChange checkAloneSpec)

/-- ITS FALSE NEIGHBOUR: 'it returns false'. Refute it at one input. -/
def checkAloneWrong : ChangeSpec := { name := "checkAlone", fn := fun _ => fun
  | [d1, d2, d3] => { results := [.lit (.bool false)], args := [d1, d2, d3] }
  | _ => none }
def CheckAloneWrongFalsely : Prop := checkAloneRow.holds Tryz.pinned (OpenSpec.ofChange checkAloneWrong)

/-- 'cubiclelaw13.CheckForeign': WHATEVER THE INPUT: true; the input reads as it did. -/
def checkForeignSpec : ChangeSpec := { name := "checkForeign", fn := fun _ => fun
  | [d1, d2, d3] => { results := [.lit (.bool true)], args := [d1, d2, d3] }
  | _ => none }
def checkForeignRow : OpenClaim := { program := "ythjklbonebnekaagreat", sum := "894e1d73500b869932c012b8e52954ec05ed0d4ab901318e656bda41560bed8a", func := "cubicle/cubiclelaw13.CheckForeign", spec := "checkForeign", unfollowed := true, recurses := true, apart := false }
def CheckForeignSaid : Prop := checkForeignRow.holds Tryz.pinned (OpenSpec.ofChange checkForeignSpec)

/-- ITS FALSE NEIGHBOUR: 'it returns false'. Refute it at one input. -/
def checkForeignWrong : ChangeSpec := { name := "checkForeign", fn := fun _ => fun
  | [d1, d2, d3] => { results := [.lit (.bool false)], args := [d1, d2, d3] }
  | _ => none }
def CheckForeignWrongFalsely : Prop := checkForeignRow.holds Tryz.pinned (OpenSpec.ofChange checkForeignWrong)

/-- 'cubiclelaw13.CheckFresh': WHATEVER THE INPUT: true; the input reads as it did. -/
def checkFreshSpec : ChangeSpec := { name := "checkFresh", fn := fun _ => fun
  | [d1, d2, d3] => { results := [.lit (.bool true)], args := [d1, d2, d3] }
  | _ => none }
def checkFreshRow : OpenClaim := { program := "ythjklbonebnekaagreat", sum := "894e1d73500b869932c012b8e52954ec05ed0d4ab901318e656bda41560bed8a", func := "cubicle/cubiclelaw13.CheckFresh", spec := "checkFresh", unfollowed := true, recurses := true, apart := false }
def CheckFreshSaid : Prop := checkFreshRow.holds Tryz.pinned (OpenSpec.ofChange checkFreshSpec)

/-- ITS FALSE NEIGHBOUR: 'it returns false'. Refute it at one input. -/
def checkFreshWrong : ChangeSpec := { name := "checkFresh", fn := fun _ => fun
  | [d1, d2, d3] => { results := [.lit (.bool false)], args := [d1, d2, d3] }
  | _ => none }
def CheckFreshWrongFalsely : Prop := checkFreshRow.holds Tryz.pinned (OpenSpec.ofChange checkFreshWrong)

/-- 'cubiclelaw13.CheckGuarded': WHATEVER THE INPUT: true; the input reads as it did. -/
def checkGuardedSpec : ChangeSpec := { name := "checkGuarded", fn := fun _ => fun
  | [d1, d2, d3] => { results := [.lit (.bool true)], args := [d1, d2, d3] }
  | _ => none }
def checkGuardedRow : OpenClaim := { program := "ythjklbonebnekaagreat", sum := "894e1d73500b869932c012b8e52954ec05ed0d4ab901318e656bda41560bed8a", func := "cubicle/cubiclelaw13.CheckGuarded", spec := "checkGuarded", unfollowed := true, recurses := true, apart := false }
def CheckGuardedSaid : Prop := checkGuardedRow.holds Tryz.pinned (OpenSpec.ofChange checkGuardedSpec)

/-- ITS FALSE NEIGHBOUR: 'it returns false'. Refute it at one input. -/
def checkGuardedWrong : ChangeSpec := { name := "checkGuarded", fn := fun _ => fun
  | [d1, d2, d3] => { results := [.lit (.bool false)], args := [d1, d2, d3] }
  | _ => none }
def CheckGuardedWrongFalsely : Prop := checkGuardedRow.holds Tryz.pinned (OpenSpec.ofChange checkGuardedWrong)

/-- 'cubiclelaw13.CheckTwo': WHATEVER THE INPUT: true; the input reads as it did. -/
def checkTwoSpec : ChangeSpec := { name := "checkTwo", fn := fun _ => fun
  | [d1, d2, d3] => { results := [.lit (.bool true)], args := [d1, d2, d3] }
  | _ => none }
def checkTwoRow : OpenClaim := { program := "ythjklbonebnekaagreat", sum := "894e1d73500b869932c012b8e52954ec05ed0d4ab901318e656bda41560bed8a", func := "cubicle/cubiclelaw13.CheckTwo", spec := "checkTwo", unfollowed := true, recurses := true, apart := false }
def CheckTwoSaid : Prop := checkTwoRow.holds Tryz.pinned (OpenSpec.ofChange checkTwoSpec)

/-- ITS FALSE NEIGHBOUR: 'it returns false'. Refute it at one input. -/
def checkTwoWrong : ChangeSpec := { name := "checkTwo", fn := fun _ => fun
  | [d1, d2, d3] => { results := [.lit (.bool false)], args := [d1, d2, d3] }
  | _ => none }
def CheckTwoWrongFalsely : Prop := checkTwoRow.holds Tryz.pinned (OpenSpec.ofChange checkTwoWrong)

/-- 'cubiclelaw13.CheckClears': WHATEVER THE INPUT: true; the input reads as it did. -/
def checkClearsSpec : ChangeSpec := { name := "checkClears", fn := fun _ => fun
  | [d1, d2] => { results := [.lit (.bool true)], args := [d1, d2] }
  | _ => none }
def checkClearsRow : OpenClaim := { program := "ythjklbonebnekaagreat", sum := "894e1d73500b869932c012b8e52954ec05ed0d4ab901318e656bda41560bed8a", func := "cubicle/cubiclelaw13.CheckClears", spec := "checkClears", unfollowed := true, recurses := true, apart := false }
def CheckClearsSaid : Prop := checkClearsRow.holds Tryz.pinned (OpenSpec.ofChange checkClearsSpec)

/-- ITS FALSE NEIGHBOUR: 'it returns false'. Refute it at one input. -/
def checkClearsWrong : ChangeSpec := { name := "checkClears", fn := fun _ => fun
  | [d1, d2] => { results := [.lit (.bool false)], args := [d1, d2] }
  | _ => none }
def CheckClearsWrongFalsely : Prop := checkClearsRow.holds Tryz.pinned (OpenSpec.ofChange checkClearsWrong)

/-- 'cubiclelaw13.CheckRace': WHATEVER THE INPUT: true; the input reads as it did. -/
def checkRaceSpec : ChangeSpec := { name := "checkRace", fn := fun _ => fun
  | [d1, d2, d3] => { results := [.lit (.bool true)], args := [d1, d2, d3] }
  | _ => none }
def checkRaceRow : OpenClaim := { program := "ythjklbonebnekaagreat", sum := "894e1d73500b869932c012b8e52954ec05ed0d4ab901318e656bda41560bed8a", func := "cubicle/cubiclelaw13.CheckRace", spec := "checkRace", unfollowed := true, recurses := true, apart := false }
def CheckRaceSaid : Prop := checkRaceRow.holds Tryz.pinned (OpenSpec.ofChange checkRaceSpec)

/-- ITS FALSE NEIGHBOUR: 'it returns false'. Refute it at one input. -/
def checkRaceWrong : ChangeSpec := { name := "checkRace", fn := fun _ => fun
  | [d1, d2, d3] => { results := [.lit (.bool false)], args := [d1, d2, d3] }
  | _ => none }
def CheckRaceWrongFalsely : Prop := checkRaceRow.holds Tryz.pinned (OpenSpec.ofChange checkRaceWrong)

/- THE SECOND FORM. 'bulk': how many values and letters a reading holds, each counted each time it is reached (what is shared counts as often as it is met; a slice's spare places count too). A statement '..UptoSaid' is the law's where the arguments, and the package variables that the reading takes, are together of bulk at most 1048576: NARROWER than '..Said'. Prove '..Said' where nothing that the law and all that it calls make is longer than what came in: it says more and counts as full. Else prove '..UptoSaid'. A law counts once. -/
mutual
def uptoBulk {H : Type} : DataW H → Nat
  | .lit (.string bytes) => bytes.length + 1
  | .lit _ => 1
  | .nil => 1
  | .ptr d => uptoBulk d + 1
  | .slice elems spare => uptoBulkAll elems + uptoBulkAll spare + 1
  | .agg parts => uptoBulkAll parts + 1
  | .iface _ d => uptoBulk d + 1
  | .map entries => uptoBulkEntries entries + 1
  | .held _ => 1
def uptoBulkAll {H : Type} : List (DataW H) → Nat
  | [] => 0
  | d :: r => uptoBulk d + uptoBulkAll r
def uptoBulkEntries {H : Type} : List (Lit × DataW H) → Nat
  | [] => 0
  | x :: r => uptoBulkEntry x + uptoBulkEntries r
def uptoBulkEntry {H : Type} : Lit × DataW H → Nat
  | (.string bytes, d) => bytes.length + uptoBulk d + 1
  | (_, d) => uptoBulk d + 1
 end
def uptoSmall : (H : Type) → List (DataW H) → Bool := fun _ ds => decide (uptoBulkAll ds ≤ 1048576)
def OpenSpec.upto (s : _root_.Go.ChangeSpec) : _root_.Go.OpenSpec := { _root_.Go.OpenSpec.ofChange s with cond := some uptoSmall }

/-- 'cubiclelaw12.AllocAlone', WHERE WHAT IT READS IS OF BULK AT MOST 1048576: true; the input reads as it did. -/
def allocAloneUptoRow : OpenClaim := { program := "ythjklbonebnekaagreat", sum := "894e1d73500b869932c012b8e52954ec05ed0d4ab901318e656bda41560bed8a", func := "cubicle/cubiclelaw12.AllocAlone", spec := "allocAlone", unfollowed := true, recurses := true, apart := false, narrowed := true }
def AllocAloneUptoSaid : Prop := allocAloneUptoRow.holds Tryz.pinned (OpenSpec.upto allocAloneSpec)

/-- 'cubiclelaw12.AllocMany', WHERE WHAT IT READS IS OF BULK AT MOST 1048576: true; the input reads as it did. -/
def allocManyUptoRow : OpenClaim := { program := "ythjklbonebnekaagreat", sum := "894e1d73500b869932c012b8e52954ec05ed0d4ab901318e656bda41560bed8a", func := "cubicle/cubiclelaw12.AllocMany", spec := "allocMany", unfollowed := true, recurses := true, apart := false, narrowed := true }
def AllocManyUptoSaid : Prop := allocManyUptoRow.holds Tryz.pinned (OpenSpec.upto allocManySpec)

/-- 'cubiclelaw13.CheckAlone', WHERE WHAT IT READS IS OF BULK AT MOST 1048576: true; the input reads as it did. -/
def checkAloneUptoRow : OpenClaim := { program := "ythjklbonebnekaagreat", sum := "894e1d73500b869932c012b8e52954ec05ed0d4ab901318e656bda41560bed8a", func := "cubicle/cubiclelaw13.CheckAlone", spec := "checkAlone", unfollowed := true, recurses := true, apart := false, narrowed := true }
def CheckAloneUptoSaid : Prop := checkAloneUptoRow.holds Tryz.pinned (OpenSpec.upto checkAloneSpec)

/-- 'cubiclelaw13.CheckForeign', WHERE WHAT IT READS IS OF BULK AT MOST 1048576: true; the input reads as it did. -/
def checkForeignUptoRow : OpenClaim := { program := "ythjklbonebnekaagreat", sum := "894e1d73500b869932c012b8e52954ec05ed0d4ab901318e656bda41560bed8a", func := "cubicle/cubiclelaw13.CheckForeign", spec := "checkForeign", unfollowed := true, recurses := true, apart := false, narrowed := true }
def CheckForeignUptoSaid : Prop := checkForeignUptoRow.holds Tryz.pinned (OpenSpec.upto checkForeignSpec)

/-- 'cubiclelaw13.CheckFresh', WHERE WHAT IT READS IS OF BULK AT MOST 1048576: true; the input reads as it did. -/
def checkFreshUptoRow : OpenClaim := { program := "ythjklbonebnekaagreat", sum := "894e1d73500b869932c012b8e52954ec05ed0d4ab901318e656bda41560bed8a", func := "cubicle/cubiclelaw13.CheckFresh", spec := "checkFresh", unfollowed := true, recurses := true, apart := false, narrowed := true }
def CheckFreshUptoSaid : Prop := checkFreshUptoRow.holds Tryz.pinned (OpenSpec.upto checkFreshSpec)

/-- 'cubiclelaw13.CheckGuarded', WHERE WHAT IT READS IS OF BULK AT MOST 1048576: true; the input reads as it did. -/
def checkGuardedUptoRow : OpenClaim := { program := "ythjklbonebnekaagreat", sum := "894e1d73500b869932c012b8e52954ec05ed0d4ab901318e656bda41560bed8a", func := "cubicle/cubiclelaw13.CheckGuarded", spec := "checkGuarded", unfollowed := true, recurses := true, apart := false, narrowed := true }
def CheckGuardedUptoSaid : Prop := checkGuardedUptoRow.holds Tryz.pinned (OpenSpec.upto checkGuardedSpec)

/-- 'cubiclelaw13.CheckTwo', WHERE WHAT IT READS IS OF BULK AT MOST 1048576: true; the input reads as it did. -/
def checkTwoUptoRow : OpenClaim := { program := "ythjklbonebnekaagreat", sum := "894e1d73500b869932c012b8e52954ec05ed0d4ab901318e656bda41560bed8a", func := "cubicle/cubiclelaw13.CheckTwo", spec := "checkTwo", unfollowed := true, recurses := true, apart := false, narrowed := true }
def CheckTwoUptoSaid : Prop := checkTwoUptoRow.holds Tryz.pinned (OpenSpec.upto checkTwoSpec)

/-- 'cubiclelaw13.CheckClears', WHERE WHAT IT READS IS OF BULK AT MOST 1048576: true; the input reads as it did. -/
def checkClearsUptoRow : OpenClaim := { program := "ythjklbonebnekaagreat", sum := "894e1d73500b869932c012b8e52954ec05ed0d4ab901318e656bda41560bed8a", func := "cubicle/cubiclelaw13.CheckClears", spec := "checkClears", unfollowed := true, recurses := true, apart := false, narrowed := true }
def CheckClearsUptoSaid : Prop := checkClearsUptoRow.holds Tryz.pinned (OpenSpec.upto checkClearsSpec)

/-- 'cubiclelaw13.CheckRace', WHERE WHAT IT READS IS OF BULK AT MOST 1048576: true; the input reads as it did. -/
def checkRaceUptoRow : OpenClaim := { program := "ythjklbonebnekaagreat", sum := "894e1d73500b869932c012b8e52954ec05ed0d4ab901318e656bda41560bed8a", func := "cubicle/cubiclelaw13.CheckRace", spec := "checkRace", unfollowed := true, recurses := true, apart := false, narrowed := true }
def CheckRaceUptoSaid : Prop := checkRaceUptoRow.holds Tryz.pinned (OpenSpec.upto checkRaceSpec)

end Rows
end Go.Proofs.YthjklbonebnekaaGreat
