/-
  What the law's awake comes to; the question whether a value is a list of words. No conditions.
-/
import Derived.Test.YthepcnffadjeaaaProgFn
namespace Go.Proofs.Ythepcnffadjeaaa
open Go Go.RowKit


end Go.Proofs.Ythepcnffadjeaaa
