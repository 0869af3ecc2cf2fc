/-
  No cell of these rows narrows 'for every input' (looked for: loops, veiled, ifaces, maps, wideKeys, modest, calm, conditions, laid).
  DERIVED. THE GIVEN ROWS OF THIS SEAT. 4 by the template 'for every input the law returns true; each argument reads behind the call as it read before'; 0 by the template 'total and deterministic' (their statements: YtniejbncahmcoaaTotals.lean).
  GIVEN WITH THE SEED: the statements are not yours to turn. If you find one false, say at which input.
  Laid BY PROGRAM, IN A SANDBOX (cutbox-rows.mjs): the forced cells as the released guide's own fill.sh prints them over the translation abb51ce726cb73c0… (all of the seat's roots in one cut). By AI agents, Wed Nov 11 2026. No macro, syntax, notation, axiom, sorry.
-/
import Derived.Test.YtniejbncahmcoaaChecked
import GoSem.Claim
import GoSem.ClaimJoined
import GoSem.ClaimMapViews
import Derived.JoinedTies
import Derived.KernelRfl
namespace Go.Proofs.Ytniejbncahmcoaa
/- THE CELL 'sum', in the pinned program and in every row, IS THE sha256 OF THE DUMP (.gsa) THAT YtniejbncahmcoaaProg.lean LOADS. Nothing in Lean hashes anything: it is a label: what it is worth is what the hold of that sum in a sandbox is worth. -/
noncomputable def Try.pinned : Pinned := { name := "ytniejbncahmcoaa", sum := "abb51ce726cb73c00db895954f42441034b13dff4ccba551295cf402fc47155a", checked := Try.checked }
namespace Rows
def none {H : Type} : Left H := { results := [], args := [] }

/-- 'cubiclelaw08.HandleWords': WHATEVER THE INPUT: true; the input reads as it did. -/
def handleWordsSpec : ChangeSpec := { name := "handleWords", fn := fun _ => fun
  | [d1, d2] => { results := [.lit (.bool true)], args := [d1, d2] }
  | _ => none }
def handleWordsRow : OpenClaim := { program := "ytniejbncahmcoaa", sum := "abb51ce726cb73c00db895954f42441034b13dff4ccba551295cf402fc47155a", func := "cubicle/cubiclelaw08.HandleWords", spec := "handleWords", apart := false }
def HandleWordsSaid : Prop := handleWordsRow.holds Try.pinned (OpenSpec.ofChange handleWordsSpec)

/-- ITS FALSE NEIGHBOUR: 'it returns false'. Refute it at one input. -/
def handleWordsWrong : ChangeSpec := { name := "handleWords", fn := fun _ => fun
  | [d1, d2] => { results := [.lit (.bool false)], args := [d1, d2] }
  | _ => none }
def HandleWordsWrongFalsely : Prop := handleWordsRow.holds Try.pinned (OpenSpec.ofChange handleWordsWrong)

/-- 'cubiclelaw08.HandleMine': WHATEVER THE INPUT: true; the input reads as it did. -/
def handleMineSpec : ChangeSpec := { name := "handleMine", fn := fun _ => fun
  | [d1, d2, d3] => { results := [.lit (.bool true)], args := [d1, d2, d3] }
  | _ => none }
def handleMineRow : OpenClaim := { program := "ytniejbncahmcoaa", sum := "abb51ce726cb73c00db895954f42441034b13dff4ccba551295cf402fc47155a", func := "cubicle/cubiclelaw08.HandleMine", spec := "handleMine", apart := false }
def HandleMineSaid : Prop := handleMineRow.holds Try.pinned (OpenSpec.ofChange handleMineSpec)

/-- ITS FALSE NEIGHBOUR: 'it returns false'. Refute it at one input. -/
def handleMineWrong : ChangeSpec := { name := "handleMine", fn := fun _ => fun
  | [d1, d2, d3] => { results := [.lit (.bool false)], args := [d1, d2, d3] }
  | _ => none }
def HandleMineWrongFalsely : Prop := handleMineRow.holds Try.pinned (OpenSpec.ofChange handleMineWrong)

/-- 'cubiclelaw08.HandleBack': WHATEVER THE INPUT: true; the input reads as it did. -/
def handleBackSpec : ChangeSpec := { name := "handleBack", fn := fun _ => fun
  | [d1, d2] => { results := [.lit (.bool true)], args := [d1, d2] }
  | _ => none }
def handleBackRow : OpenClaim := { program := "ytniejbncahmcoaa", sum := "abb51ce726cb73c00db895954f42441034b13dff4ccba551295cf402fc47155a", func := "cubicle/cubiclelaw08.HandleBack", spec := "handleBack", apart := false }
def HandleBackSaid : Prop := handleBackRow.holds Try.pinned (OpenSpec.ofChange handleBackSpec)

/-- ITS FALSE NEIGHBOUR: 'it returns false'. Refute it at one input. -/
def handleBackWrong : ChangeSpec := { name := "handleBack", fn := fun _ => fun
  | [d1, d2] => { results := [.lit (.bool false)], args := [d1, d2] }
  | _ => none }
def HandleBackWrongFalsely : Prop := handleBackRow.holds Try.pinned (OpenSpec.ofChange handleBackWrong)

/-- 'cubiclelaw08.HandleApart': WHATEVER THE INPUT: true; the input reads as it did. -/
def handleApartSpec : ChangeSpec := { name := "handleApart", fn := fun _ => fun
  | [d1, d2, d3] => { results := [.lit (.bool true)], args := [d1, d2, d3] }
  | _ => none }
def handleApartRow : OpenClaim := { program := "ytniejbncahmcoaa", sum := "abb51ce726cb73c00db895954f42441034b13dff4ccba551295cf402fc47155a", func := "cubicle/cubiclelaw08.HandleApart", spec := "handleApart", apart := false }
def HandleApartSaid : Prop := handleApartRow.holds Try.pinned (OpenSpec.ofChange handleApartSpec)

/-- ITS FALSE NEIGHBOUR: 'it returns false'. Refute it at one input. -/
def handleApartWrong : ChangeSpec := { name := "handleApart", fn := fun _ => fun
  | [d1, d2, d3] => { results := [.lit (.bool false)], args := [d1, d2, d3] }
  | _ => none }
def HandleApartWrongFalsely : Prop := handleApartRow.holds Try.pinned (OpenSpec.ofChange handleApartWrong)

/- THE SECOND FORM. 'bulk': how many values and letters a reading holds, each counted each time it is reached (what is shared counts as often as it is met; a slice's spare places count too). A statement '..UptoSaid' is the law's where the arguments, and the package variables that the reading takes, are together of bulk at most 1048576: NARROWER than '..Said'. Prove '..Said' where nothing that the law and all that it calls make is longer than what came in: it says more and counts as full. Else prove '..UptoSaid'. A law counts once. -/
mutual
def uptoBulk {H : Type} : DataW H → Nat
  | .lit (.string bytes) => bytes.length + 1
  | .lit _ => 1
  | .nil => 1
  | .ptr d => uptoBulk d + 1
  | .slice elems spare => uptoBulkAll elems + uptoBulkAll spare + 1
  | .agg parts => uptoBulkAll parts + 1
  | .iface _ d => uptoBulk d + 1
  | .map entries => uptoBulkEntries entries + 1
  | .held _ => 1
def uptoBulkAll {H : Type} : List (DataW H) → Nat
  | [] => 0
  | d :: r => uptoBulk d + uptoBulkAll r
def uptoBulkEntries {H : Type} : List (Lit × DataW H) → Nat
  | [] => 0
  | x :: r => uptoBulkEntry x + uptoBulkEntries r
def uptoBulkEntry {H : Type} : Lit × DataW H → Nat
  | (.string bytes, d) => bytes.length + uptoBulk d + 1
  | (_, d) => uptoBulk d + 1
 end
def uptoSmall : (H : Type) → List (DataW H) → Bool := fun _ ds => decide (uptoBulkAll ds ≤ 1048576)
def OpenSpec.upto (s : _root_.Go.ChangeSpec) : _root_.Go.OpenSpec := { _root_.Go.OpenSpec.ofChange s with cond := some uptoSmall }

/-- 'cubiclelaw08.HandleWords', WHERE WHAT IT READS IS OF BULK AT MOST 1048576: true; the input reads as it did. -/
def handleWordsUptoRow : OpenClaim := { program := "ytniejbncahmcoaa", sum := "abb51ce726cb73c00db895954f42441034b13dff4ccba551295cf402fc47155a", func := "cubicle/cubiclelaw08.HandleWords", spec := "handleWords", apart := false, narrowed := true }
def HandleWordsUptoSaid : Prop := handleWordsUptoRow.holds Try.pinned (OpenSpec.upto handleWordsSpec)

/-- 'cubiclelaw08.HandleMine', WHERE WHAT IT READS IS OF BULK AT MOST 1048576: true; the input reads as it did. -/
def handleMineUptoRow : OpenClaim := { program := "ytniejbncahmcoaa", sum := "abb51ce726cb73c00db895954f42441034b13dff4ccba551295cf402fc47155a", func := "cubicle/cubiclelaw08.HandleMine", spec := "handleMine", apart := false, narrowed := true }
def HandleMineUptoSaid : Prop := handleMineUptoRow.holds Try.pinned (OpenSpec.upto handleMineSpec)

/-- 'cubiclelaw08.HandleBack', WHERE WHAT IT READS IS OF BULK AT MOST 1048576: true; the input reads as it did. -/
def handleBackUptoRow : OpenClaim := { program := "ytniejbncahmcoaa", sum := "abb51ce726cb73c00db895954f42441034b13dff4ccba551295cf402fc47155a", func := "cubicle/cubiclelaw08.HandleBack", spec := "handleBack", apart := false, narrowed := true }
def HandleBackUptoSaid : Prop := handleBackUptoRow.holds Try.pinned (OpenSpec.upto handleBackSpec)

/-- 'cubiclelaw08.HandleApart', WHERE WHAT IT READS IS OF BULK AT MOST 1048576: true; the input reads as it did. -/
def handleApartUptoRow : OpenClaim := { program := "ytniejbncahmcoaa", sum := "abb51ce726cb73c00db895954f42441034b13dff4ccba551295cf402fc47155a", func := "cubicle/cubiclelaw08.HandleApart", spec := "handleApart", apart := false, narrowed := true }
def HandleApartUptoSaid : Prop := handleApartUptoRow.holds Try.pinned (OpenSpec.upto handleApartSpec)

end Rows
end Go.Proofs.Ytniejbncahmcoaa
