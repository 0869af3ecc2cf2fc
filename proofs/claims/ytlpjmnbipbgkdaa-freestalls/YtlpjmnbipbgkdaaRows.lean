/-
  No cell of these rows narrows 'for every input' (looked for: loops, veiled, ifaces, maps, wideKeys, modest, calm, conditions, laid).
  DERIVED. THE GIVEN ROWS OF THIS SEAT. 4 by the template 'for every input the law returns true; each argument reads behind the call as it read before'; 0 by the template 'total and deterministic' (their statements: YtlpjmnbipbgkdaaTotals.lean).
  GIVEN WITH THE SEED: the statements are not yours to turn. If you find one false, say at which input.
  Laid BY PROGRAM, IN A SANDBOX (cutbox-rows.mjs): the forced cells as the released guide's own fill.sh prints them over the translation 875809e2ac3675b2… (all of the seat's roots in one cut). By AI agents, Wed Nov 11 2026. No macro, syntax, notation, axiom, sorry.
-/
import Derived.Test.YtlpjmnbipbgkdaaChecked
import GoSem.Claim
import GoSem.ClaimJoined
import GoSem.ClaimMapViews
import Derived.JoinedTies
import Derived.KernelRfl
namespace Go.Proofs.Ytlpjmnbipbgkdaa
/- THE CELL 'sum', in the pinned program and in every row, IS THE sha256 OF THE DUMP (.gsa) THAT YtlpjmnbipbgkdaaProg.lean LOADS. Nothing in Lean hashes anything: it is a label: what it is worth is what the hold of that sum in a sandbox is worth. -/
noncomputable def Try.pinned : Pinned := { name := "ytlpjmnbipbgkdaa", sum := "875809e2ac3675b2f93a6a99ebf5a071c72e1859fc143e3b0c952e3e680296e5", checked := Try.checked }
namespace Rows
def none {H : Type} : Left H := { results := [], args := [] }

/-- 'cubiclelaw09.FreeAlone': WHATEVER THE INPUT: true; the input reads as it did. -/
def freeAloneSpec : ChangeSpec := { name := "freeAlone", fn := fun _ => fun
  | [d1, d2] => { results := [.lit (.bool true)], args := [d1, d2] }
  | _ => none }
def freeAloneRow : OpenClaim := { program := "ytlpjmnbipbgkdaa", sum := "875809e2ac3675b2f93a6a99ebf5a071c72e1859fc143e3b0c952e3e680296e5", func := "cubicle/cubiclelaw09.FreeAlone", spec := "freeAlone", unfollowed := true, recurses := true, apart := false }
def FreeAloneSaid : Prop := freeAloneRow.holds Try.pinned (OpenSpec.ofChange freeAloneSpec)

/-- ITS FALSE NEIGHBOUR: 'it returns false'. Refute it at one input. -/
def freeAloneWrong : ChangeSpec := { name := "freeAlone", fn := fun _ => fun
  | [d1, d2] => { results := [.lit (.bool false)], args := [d1, d2] }
  | _ => none }
def FreeAloneWrongFalsely : Prop := freeAloneRow.holds Try.pinned (OpenSpec.ofChange freeAloneWrong)

/-- 'cubiclelaw09.FreeMany': WHATEVER THE INPUT: true; the input reads as it did. -/
def freeManySpec : ChangeSpec := { name := "freeMany", fn := fun _ => fun
  | [d1, d2, d3] => { results := [.lit (.bool true)], args := [d1, d2, d3] }
  | _ => none }
def freeManyRow : OpenClaim := { program := "ytlpjmnbipbgkdaa", sum := "875809e2ac3675b2f93a6a99ebf5a071c72e1859fc143e3b0c952e3e680296e5", func := "cubicle/cubiclelaw09.FreeMany", spec := "freeMany", unfollowed := true, recurses := true, apart := false }
def FreeManySaid : Prop := freeManyRow.holds Try.pinned (OpenSpec.ofChange freeManySpec)

/-- ITS FALSE NEIGHBOUR: 'it returns false'. Refute it at one input. -/
def freeManyWrong : ChangeSpec := { name := "freeMany", fn := fun _ => fun
  | [d1, d2, d3] => { results := [.lit (.bool false)], args := [d1, d2, d3] }
  | _ => none }
def FreeManyWrongFalsely : Prop := freeManyRow.holds Try.pinned (OpenSpec.ofChange freeManyWrong)

/-- 'cubiclelaw09.FreeTags': WHATEVER THE INPUT: true; the input reads as it did. -/
def freeTagsSpec : ChangeSpec := { name := "freeTags", fn := fun _ => fun
  | [d1, d2] => { results := [.lit (.bool true)], args := [d1, d2] }
  | _ => none }
def freeTagsRow : OpenClaim := { program := "ytlpjmnbipbgkdaa", sum := "875809e2ac3675b2f93a6a99ebf5a071c72e1859fc143e3b0c952e3e680296e5", func := "cubicle/cubiclelaw09.FreeTags", spec := "freeTags", unfollowed := true, recurses := true, apart := false }
def FreeTagsSaid : Prop := freeTagsRow.holds Try.pinned (OpenSpec.ofChange freeTagsSpec)

/-- ITS FALSE NEIGHBOUR: 'it returns false'. Refute it at one input. -/
def freeTagsWrong : ChangeSpec := { name := "freeTags", fn := fun _ => fun
  | [d1, d2] => { results := [.lit (.bool false)], args := [d1, d2] }
  | _ => none }
def FreeTagsWrongFalsely : Prop := freeTagsRow.holds Try.pinned (OpenSpec.ofChange freeTagsWrong)

/-- 'cubiclelaw09.FreeStalls': WHATEVER THE INPUT: true; the input reads as it did. -/
def freeStallsSpec : ChangeSpec := { name := "freeStalls", fn := fun _ => fun
  | [d1, d2, d3] => { results := [.lit (.bool true)], args := [d1, d2, d3] }
  | _ => none }
def freeStallsRow : OpenClaim := { program := "ytlpjmnbipbgkdaa", sum := "875809e2ac3675b2f93a6a99ebf5a071c72e1859fc143e3b0c952e3e680296e5", func := "cubicle/cubiclelaw09.FreeStalls", spec := "freeStalls", unfollowed := true, recurses := true, apart := false }
def FreeStallsSaid : Prop := freeStallsRow.holds Try.pinned (OpenSpec.ofChange freeStallsSpec)

/-- ITS FALSE NEIGHBOUR: 'it returns false'. Refute it at one input. -/
def freeStallsWrong : ChangeSpec := { name := "freeStalls", fn := fun _ => fun
  | [d1, d2, d3] => { results := [.lit (.bool false)], args := [d1, d2, d3] }
  | _ => none }
def FreeStallsWrongFalsely : Prop := freeStallsRow.holds Try.pinned (OpenSpec.ofChange freeStallsWrong)

/- THE SECOND FORM. 'bulk': how many values and letters a reading holds, each counted each time it is reached (what is shared counts as often as it is met; a slice's spare places count too). A statement '..UptoSaid' is the law's where the arguments, and the package variables that the reading takes, are together of bulk at most 1048576: NARROWER than '..Said'. Prove '..Said' where nothing that the law and all that it calls make is longer than what came in: it says more and counts as full. Else prove '..UptoSaid'. A law counts once. -/
mutual
def uptoBulk {H : Type} : DataW H → Nat
  | .lit (.string bytes) => bytes.length + 1
  | .lit _ => 1
  | .nil => 1
  | .ptr d => uptoBulk d + 1
  | .slice elems spare => uptoBulkAll elems + uptoBulkAll spare + 1
  | .agg parts => uptoBulkAll parts + 1
  | .iface _ d => uptoBulk d + 1
  | .map entries => uptoBulkEntries entries + 1
  | .held _ => 1
def uptoBulkAll {H : Type} : List (DataW H) → Nat
  | [] => 0
  | d :: r => uptoBulk d + uptoBulkAll r
def uptoBulkEntries {H : Type} : List (Lit × DataW H) → Nat
  | [] => 0
  | x :: r => uptoBulkEntry x + uptoBulkEntries r
def uptoBulkEntry {H : Type} : Lit × DataW H → Nat
  | (.string bytes, d) => bytes.length + uptoBulk d + 1
  | (_, d) => uptoBulk d + 1
 end
def uptoSmall : (H : Type) → List (DataW H) → Bool := fun _ ds => decide (uptoBulkAll ds ≤ 1048576)
def OpenSpec.upto (s : _root_.Go.ChangeSpec) : _root_.Go.OpenSpec := { _root_.Go.OpenSpec.ofChange s with cond := some uptoSmall }

/-- 'cubiclelaw09.FreeAlone', WHERE WHAT IT READS IS OF BULK AT MOST 1048576: true; the input reads as it did. -/
def freeAloneUptoRow : OpenClaim := { program := "ytlpjmnbipbgkdaa", sum := "875809e2ac3675b2f93a6a99ebf5a071c72e1859fc143e3b0c952e3e680296e5", func := "cubicle/cubiclelaw09.FreeAlone", spec := "freeAlone", unfollowed := true, recurses := true, apart := false, narrowed := true }
def FreeAloneUptoSaid : Prop := freeAloneUptoRow.holds Try.pinned (OpenSpec.upto freeAloneSpec)

/-- 'cubiclelaw09.FreeMany', WHERE WHAT IT READS IS OF BULK AT MOST 1048576: true; the input reads as it did. -/
def freeManyUptoRow : OpenClaim := { program := "ytlpjmnbipbgkdaa", sum := "875809e2ac3675b2f93a6a99ebf5a071c72e1859fc143e3b0c952e3e680296e5", func := "cubicle/cubiclelaw09.FreeMany", spec := "freeMany", unfollowed := true, recurses := true, apart := false, narrowed := true }
def FreeManyUptoSaid : Prop := freeManyUptoRow.holds Try.pinned (OpenSpec.upto freeManySpec)

/-- 'cubiclelaw09.FreeTags', WHERE WHAT IT READS IS OF BULK AT MOST 1048576: true; the input reads as it did. -/
def freeTagsUptoRow : OpenClaim := { program := "ytlpjmnbipbgkdaa", sum := "875809e2ac3675b2f93a6a99ebf5a071c72e1859fc143e3b0c952e3e680296e5", func := "cubicle/cubiclelaw09.FreeTags", spec := "freeTags", unfollowed := true, recurses := true, apart := false, narrowed := true }
def FreeTagsUptoSaid : Prop := freeTagsUptoRow.holds Try.pinned (OpenSpec.upto freeTagsSpec)

/-- 'cubiclelaw09.FreeStalls', WHERE WHAT IT READS IS OF BULK AT MOST 1048576: true; the input reads as it did. -/
def freeStallsUptoRow : OpenClaim := { program := "ytlpjmnbipbgkdaa", sum := "875809e2ac3675b2f93a6a99ebf5a071c72e1859fc143e3b0c952e3e680296e5", func := "cubicle/cubiclelaw09.FreeStalls", spec := "freeStalls", unfollowed := true, recurses := true, apart := false, narrowed := true }
def FreeStallsUptoSaid : Prop := freeStallsUptoRow.holds Try.pinned (OpenSpec.upto freeStallsSpec)

end Rows
end Go.Proofs.Ytlpjmnbipbgkdaa
