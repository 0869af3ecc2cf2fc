/-
  A law's row, once for all: whoever shows that the call returns true and turns nothing old has the row's post; the arguments read as they did. Conditions: the row names no variable; its result is one bool; its parameters' types can be read.
-/
import Derived.Test.YthjklbonebnekaaGreatGaa
import Derived.ProofKit
import Derived.OpenShut
import Derived.Lib.SmallJoins
set_option maxRecDepth 8000
set_option maxHeartbeats 4000000
namespace Go.Proofs.YthjklbonebnekaaGreat
open Go Go.ChangeShapes Go.WideShapes Go.ChangeAt Go.RowKit Go.Joins
section
variable {H:Type} {enc:TypeId × Value → H} {P:Program}
theorem trodAll_below (hl:laidOutB P = true) {W W':World} (hb:Below W.heap.size W W') :
  ∀ (ts:List TypeId) (vs:List Value) (ds:List (DataW H)) (ps:List MemPlace),(∀ t ∈ ts,P.readableRec t = true ∧ t < P.types.size) → (∀ x ∈ ps,x.block < W.heap.size) →
   DataW.TrodAll enc P W 0 (fun _ => true) true ts vs ds ps → DataW.TrodAll enc P W' 0 (fun b => decide (b < W.heap.size)) true ts vs ds ps
 | [],vs,ds,ps,_,_,h => by
  obtain ⟨rfl,rfl,rfl⟩:=trodAll_nil h
  exact trodAll_mk0
 | t :: ts,vs,ds,ps,hr,hlt,h => by
  obtain ⟨v,vs',d,ds',p,q,rfl,rfl,rfl,h1,h2⟩:=trodAll_cons h
  exact trodAll_cons_mk (Below.trod hl (hr t (by simp)).1 (hr t (by simp)).2 h1 hb (fun x hx => hlt x (List.mem_append.2 (.inl hx))))
   (trodAll_below hl hb ts vs' ds' q (fun t' ht => hr t' (by simp [ht])) (fun x hx => hlt x (List.mem_append.2 (.inr hx))) h2)
theorem law_post {f:Func} {s:ChangeSpec} {apart:Bool} {tb:TypeId} {W W':World} {args:Array Value} {ds gs:List (DataW H)} {before:List MemPlace}
  (hl:laidOutB P = true) (hr:(f.params.toList.all fun t => P.readableRec t && decide (t < P.types.size)) = true) (hvars:s.vars = []) (hrt:f.resultTypes = #[tb]) (hub:P.underlying tb = some .bool)
  (hW:DataW.Whole enc P f.params.toList s.vars apart W args.toList ds gs before) (hspec:s.fn H (ds ++ gs) = { results:=[.lit (.bool true)],args:=ds })
  (hb:Below W.heap.size W W'):s.post enc P f apart true false false W args (.bool true) W':=by
 have hr':∀ t ∈ f.params.toList,P.readableRec t = true ∧ t < P.types.size:=fun t ht => by simpa using List.all_eq_true.1 hr t ht
 have hlt:=hW.lt
 have hW2:=hW
 obtain ⟨p,q,hA,hV,rfl,_,_⟩:=hW2
 rw [hvars] at hV
 obtain ⟨rfl,rfl⟩:=trodVars_none hV
 refine ⟨ds,[],p ++ [],[],p,[],hW,?_,?_,?_,hb.frame _,fun h => by cases h⟩
 ·rw [hspec,hrt]
  exact trodAll_mk1 (shut_bool hub true)
 ·rw [hspec]
  exact trodAll_below hl hb _ _ _ _ hr' (fun x hx => hlt x (List.mem_append.2 (.inl hx))) hA
 ·rw [hspec,hvars]
  rfl
end
end Go.Proofs.YthjklbonebnekaaGreat

