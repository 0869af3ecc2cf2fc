/-
  No cell of these rows narrows 'for every input' (looked for: loops, veiled, ifaces, maps, wideKeys, modest, calm, conditions, laid).
  DERIVED. THE GIVEN ROWS OF THIS SEAT. 5 by the template 'for every input the law returns true; each argument reads behind the call as it read before'; 0 by the template 'total and deterministic' (their statements: YtpidmbclgfnekaaGreatTotals.lean).
  GIVEN WITH THE SEED: the statements are not yours to turn. If you find one false, say at which input.
  Laid BY PROGRAM, IN A SANDBOX (cutbox-rows.mjs): the forced cells as the released guide's own fill.sh prints them over the translation 9e175c528d2978f3… (all of the seat's roots in one cut). By AI agents, Wed Nov 11 2026. No macro, syntax, notation, axiom, sorry.
-/
import Derived.Test.YtpidmbclgfnekaaGreatChecked
import GoSem.Claim
import GoSem.ClaimJoined
import GoSem.ClaimMapViews
import Derived.JoinedTies
import Derived.KernelRfl
namespace Go.Proofs.YtpidmbclgfnekaaGreat
/- THE CELL 'sum', in the pinned program and in every row, IS THE sha256 OF THE DUMP (.gsa) THAT YtpidmbclgfnekaaGreatProg.lean LOADS. Nothing in Lean hashes anything: it is a label: what it is worth is what the hold of that sum in a sandbox is worth. -/
noncomputable def Tryz.pinned : Pinned := { name := "ytpidmbclgfnekaagreat", sum := "9e175c528d2978f3d7e47144be04596f94042b6755b881f675f351d569a41417", checked := Tryz.checked }
namespace Rows
def none {H : Type} : Left H := { results := [], args := [] }

/-- 'cubiclelaw12.AllocAlone': WHATEVER THE INPUT: true; the input reads as it did. -/
def allocAloneSpec : ChangeSpec := { name := "allocAlone", fn := fun _ => fun
  | [d1, d2] => { results := [.lit (.bool true)], args := [d1, d2] }
  | _ => none }
def allocAloneRow : OpenClaim := { program := "ytpidmbclgfnekaagreat", sum := "9e175c528d2978f3d7e47144be04596f94042b6755b881f675f351d569a41417", func := "cubicle/cubiclelaw12.AllocAlone", spec := "allocAlone", unfollowed := true, recurses := true, apart := false }
def AllocAloneSaid : Prop := allocAloneRow.holds Tryz.pinned (OpenSpec.ofChange allocAloneSpec)

/-- ITS FALSE NEIGHBOUR: 'it returns false'. Refute it at one input. -/
def allocAloneWrong : ChangeSpec := { name := "allocAlone", fn := fun _ => fun
  | [d1, d2] => { results := [.lit (.bool false)], args := [d1, d2] }
  | _ => none }
def AllocAloneWrongFalsely : Prop := allocAloneRow.holds Tryz.pinned (OpenSpec.ofChange allocAloneWrong)

/-- 'cubiclelaw12.AllocMany': WHATEVER THE INPUT: true; the input reads as it did. -/
def allocManySpec : ChangeSpec := { name := "allocMany", fn := fun _ => fun
  | [d1, d2, d3] => { results := [.lit (.bool true)], args := [d1, d2, d3] }
  | _ => none }
def allocManyRow : OpenClaim := { program := "ytpidmbclgfnekaagreat", sum := "9e175c528d2978f3d7e47144be04596f94042b6755b881f675f351d569a41417", func := "cubicle/cubiclelaw12.AllocMany", spec := "allocMany", unfollowed := true, recurses := true, apart := false }
def AllocManySaid : Prop := allocManyRow.holds Tryz.pinned (OpenSpec.ofChange allocManySpec)

/-- ITS FALSE NEIGHBOUR: 'it returns false'. Refute it at one input. -/
def allocManyWrong : ChangeSpec := { name := "allocMany", fn := fun _ => fun
  | [d1, d2, d3] => { results := [.lit (.bool false)], args := [d1, d2, d3] }
  | _ => none }
def AllocManyWrongFalsely : Prop := allocManyRow.holds Tryz.pinned (OpenSpec.ofChange allocManyWrong)

/-- 'cubiclelaw12.AllocQuota': WHATEVER THE INPUT: true; the input reads as it did. -/
def allocQuotaSpec : ChangeSpec := { name := "allocQuota", fn := fun _ => fun
  | [d1, d2] => { results := [.lit (.bool true)], args := [d1, d2] }
  | _ => none }
def allocQuotaRow : OpenClaim := { program := "ytpidmbclgfnekaagreat", sum := "9e175c528d2978f3d7e47144be04596f94042b6755b881f675f351d569a41417", func := "cubicle/cubiclelaw12.AllocQuota", spec := "allocQuota", unfollowed := true, recurses := true, apart := false }
def AllocQuotaSaid : Prop := allocQuotaRow.holds Tryz.pinned (OpenSpec.ofChange allocQuotaSpec)

/-- ITS FALSE NEIGHBOUR: 'it returns false'. Refute it at one input. -/
def allocQuotaWrong : ChangeSpec := { name := "allocQuota", fn := fun _ => fun
  | [d1, d2] => { results := [.lit (.bool false)], args := [d1, d2] }
  | _ => none }
def AllocQuotaWrongFalsely : Prop := allocQuotaRow.holds Tryz.pinned (OpenSpec.ofChange allocQuotaWrong)

/-- 'cubiclelaw12.AllocHeld': WHATEVER THE INPUT: true; the input reads as it did. -/
def allocHeldSpec : ChangeSpec := { name := "allocHeld", fn := fun _ => fun
  | [d1, d2] => { results := [.lit (.bool true)], args := [d1, d2] }
  | _ => none }
def allocHeldRow : OpenClaim := { program := "ytpidmbclgfnekaagreat", sum := "9e175c528d2978f3d7e47144be04596f94042b6755b881f675f351d569a41417", func := "cubicle/cubiclelaw12.AllocHeld", spec := "allocHeld", unfollowed := true, recurses := true, apart := false }
def AllocHeldSaid : Prop := allocHeldRow.holds Tryz.pinned (OpenSpec.ofChange allocHeldSpec)

/-- ITS FALSE NEIGHBOUR: 'it returns false'. Refute it at one input. -/
def allocHeldWrong : ChangeSpec := { name := "allocHeld", fn := fun _ => fun
  | [d1, d2] => { results := [.lit (.bool false)], args := [d1, d2] }
  | _ => none }
def AllocHeldWrongFalsely : Prop := allocHeldRow.holds Tryz.pinned (OpenSpec.ofChange allocHeldWrong)

/-- 'cubiclelaw12.AllocKinds': WHATEVER THE INPUT: true; the input reads as it did. -/
def allocKindsSpec : ChangeSpec := { name := "allocKinds", fn := fun _ => fun
  | [d1, d2, d3] => { results := [.lit (.bool true)], args := [d1, d2, d3] }
  | _ => none }
def allocKindsRow : OpenClaim := { program := "ytpidmbclgfnekaagreat", sum := "9e175c528d2978f3d7e47144be04596f94042b6755b881f675f351d569a41417", func := "cubicle/cubiclelaw12.AllocKinds", spec := "allocKinds", unfollowed := true, recurses := true, apart := false }
def AllocKindsSaid : Prop := allocKindsRow.holds Tryz.pinned (OpenSpec.ofChange allocKindsSpec)

/-- ITS FALSE NEIGHBOUR: 'it returns false'. Refute it at one input. -/
def allocKindsWrong : ChangeSpec := { name := "allocKinds", fn := fun _ => fun
  | [d1, d2, d3] => { results := [.lit (.bool false)], args := [d1, d2, d3] }
  | _ => none }
def AllocKindsWrongFalsely : Prop := allocKindsRow.holds Tryz.pinned (OpenSpec.ofChange allocKindsWrong)

/- THE SECOND FORM. 'bulk': how many values and letters a reading holds, each counted each time it is reached (what is shared counts as often as it is met; a slice's spare places count too). A statement '..UptoSaid' is the law's where the arguments, and the package variables that the reading takes, are together of bulk at most 1048576: NARROWER than '..Said'. Prove '..Said' where nothing that the law and all that it calls make is longer than what came in: it says more and counts as full. Else prove '..UptoSaid'. A law counts once. -/
mutual
def uptoBulk {H : Type} : DataW H → Nat
  | .lit (.string bytes) => bytes.length + 1
  | .lit _ => 1
  | .nil => 1
  | .ptr d => uptoBulk d + 1
  | .slice elems spare => uptoBulkAll elems + uptoBulkAll spare + 1
  | .agg parts => uptoBulkAll parts + 1
  | .iface _ d => uptoBulk d + 1
  | .map entries => uptoBulkEntries entries + 1
  | .held _ => 1
def uptoBulkAll {H : Type} : List (DataW H) → Nat
  | [] => 0
  | d :: r => uptoBulk d + uptoBulkAll r
def uptoBulkEntries {H : Type} : List (Lit × DataW H) → Nat
  | [] => 0
  | x :: r => uptoBulkEntry x + uptoBulkEntries r
def uptoBulkEntry {H : Type} : Lit × DataW H → Nat
  | (.string bytes, d) => bytes.length + uptoBulk d + 1
  | (_, d) => uptoBulk d + 1
 end
def uptoSmall : (H : Type) → List (DataW H) → Bool := fun _ ds => decide (uptoBulkAll ds ≤ 1048576)
def OpenSpec.upto (s : _root_.Go.ChangeSpec) : _root_.Go.OpenSpec := { _root_.Go.OpenSpec.ofChange s with cond := some uptoSmall }

/-- 'cubiclelaw12.AllocAlone', WHERE WHAT IT READS IS OF BULK AT MOST 1048576: true; the input reads as it did. -/
def allocAloneUptoRow : OpenClaim := { program := "ytpidmbclgfnekaagreat", sum := "9e175c528d2978f3d7e47144be04596f94042b6755b881f675f351d569a41417", func := "cubicle/cubiclelaw12.AllocAlone", spec := "allocAlone", unfollowed := true, recurses := true, apart := false, narrowed := true }
def AllocAloneUptoSaid : Prop := allocAloneUptoRow.holds Tryz.pinned (OpenSpec.upto allocAloneSpec)

/-- 'cubiclelaw12.AllocMany', WHERE WHAT IT READS IS OF BULK AT MOST 1048576: true; the input reads as it did. -/
def allocManyUptoRow : OpenClaim := { program := "ytpidmbclgfnekaagreat", sum := "9e175c528d2978f3d7e47144be04596f94042b6755b881f675f351d569a41417", func := "cubicle/cubiclelaw12.AllocMany", spec := "allocMany", unfollowed := true, recurses := true, apart := false, narrowed := true }
def AllocManyUptoSaid : Prop := allocManyUptoRow.holds Tryz.pinned (OpenSpec.upto allocManySpec)

/-- 'cubiclelaw12.AllocQuota', WHERE WHAT IT READS IS OF BULK AT MOST 1048576: true; the input reads as it did. -/
def allocQuotaUptoRow : OpenClaim := { program := "ytpidmbclgfnekaagreat", sum := "9e175c528d2978f3d7e47144be04596f94042b6755b881f675f351d569a41417", func := "cubicle/cubiclelaw12.AllocQuota", spec := "allocQuota", unfollowed := true, recurses := true, apart := false, narrowed := true }
def AllocQuotaUptoSaid : Prop := allocQuotaUptoRow.holds Tryz.pinned (OpenSpec.upto allocQuotaSpec)

/-- 'cubiclelaw12.AllocHeld', WHERE WHAT IT READS IS OF BULK AT MOST 1048576: true; the input reads as it did. -/
def allocHeldUptoRow : OpenClaim := { program := "ytpidmbclgfnekaagreat", sum := "9e175c528d2978f3d7e47144be04596f94042b6755b881f675f351d569a41417", func := "cubicle/cubiclelaw12.AllocHeld", spec := "allocHeld", unfollowed := true, recurses := true, apart := false, narrowed := true }
def AllocHeldUptoSaid : Prop := allocHeldUptoRow.holds Tryz.pinned (OpenSpec.upto allocHeldSpec)

/-- 'cubiclelaw12.AllocKinds', WHERE WHAT IT READS IS OF BULK AT MOST 1048576: true; the input reads as it did. -/
def allocKindsUptoRow : OpenClaim := { program := "ytpidmbclgfnekaagreat", sum := "9e175c528d2978f3d7e47144be04596f94042b6755b881f675f351d569a41417", func := "cubicle/cubiclelaw12.AllocKinds", spec := "allocKinds", unfollowed := true, recurses := true, apart := false, narrowed := true }
def AllocKindsUptoSaid : Prop := allocKindsUptoRow.holds Tryz.pinned (OpenSpec.upto allocKindsSpec)

end Rows
end Go.Proofs.YtpidmbclgfnekaaGreat
