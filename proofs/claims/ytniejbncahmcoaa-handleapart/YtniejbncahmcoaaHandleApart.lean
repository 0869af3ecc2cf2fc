/-
  HandleApart: for every input the law returns true, and its arguments read as before. No conditions.
-/
import Derived.Test.YtniejbncahmcoaaHandleApartW
import Derived.Test.YtniejbncahmcoaaRecs
import Derived.Test.YtniejbncahmcoaaArrs
import Derived.Test.YtniejbncahmcoaaLaw
namespace Go.Proofs.Ytniejbncahmcoaa
open Go Go.ChangeShapes Go.WideShapes Go.ChangeAt Go.RowKit Go.Joins


theorem Try.own : ownKnob Try.prog.godebug = none := by kernel_rfl
theorem Try.laidOut : laidOutB Try.prog = true := by kernel_rfl
theorem Try.cells23 : Try.prog.cellsOf 23 = 3 := by kernel_rfl
theorem Try.cells35 : Try.prog.cellsOf 35 = 2 := by kernel_rfl
theorem Try.cells3 : Try.prog.cellsOf 3 = 1 := by kernel_rfl

set_option maxRecDepth 100000 in
theorem handleApart_lifted (os : Os) (started : os.Started) (H : Type) (enc : TypeId × Value → H) :
    ReturnsInHanded {} Try.checked os 6 .any (Rows.handleApartSpec.pre6 enc Try.prog Try.f6 Rows.handleApartRow.domain false) (Rows.handleApartSpec.post enc Try.prog Try.f6 false true false false) := by
  refine returnsInHanded_of_change (C := Try.checked) Try.own started (by kernel_rfl) Try.func6
    (ChangeSpec.witness6 (enc := enc) (C := Try.checked) false ⟨#[], #[.agg #[.int .i64 0, .int .i64 0, .int .i64 0], .agg #[.int .i64 0, .int .i64 0, .int .i64 0], .agg #[.int .i64 0, .int .i64 0]], []⟩ 8 (by kernel_rfl) (by kernel_rfl) (by kernel_rfl) (by kernel_rfl)) ?_
  intro W base args ds gs before hval0 hW hcnd _
  have hval : ∀ (j : Nat) t v, Try.f6.params[j]? = some t → args[j]? = some v → Value.okWide Try.prog W .any base t v := hval0
  have hW' := hW
  obtain ⟨p, q, hA0, hV, rfl, hfz, hnd⟩ := hW
  have hA : DataW.TrodAll enc Try.prog W 0 (fun _ => true) true Try.f6.params.toList args.toList ds p := hA0
  rw [Try.params6] at hA hval
  obtain ⟨v0, v1, v2, d0, d1, d2, p0, p1, p2, rfl, rfl, rfl, h0, h1, h2⟩ := trodAll_three hA
  obtain ⟨rfl, rfl⟩ := trodVars_none hV
  obtain ⟨x0, rfl, wx0⟩ := agg_of_trod 3 (fun _ => .i64) Try.underlying23 Try.cells23 (by kernel_rfl) (hval 0 23 v0 rfl rfl) h0
  obtain ⟨s, hs⟩ : ∃ q : Hn, q = ⟨x0 0, x0 1, x0 2⟩ := ⟨_, rfl⟩
  have es : (Value.agg ((List.range 3).map fun j => Value.int IntKind.i64 (x0 j)).toArray) = hnV s := by subst hs; rfl
  rw [es] at hW' ⊢
  obtain ⟨x1, rfl, wx1⟩ := agg_of_trod 3 (fun _ => .i64) Try.underlying23 Try.cells23 (by kernel_rfl) (hval 1 23 v1 rfl rfl) h1
  obtain ⟨g, hg⟩ : ∃ q : Hn, q = ⟨x1 0, x1 1, x1 2⟩ := ⟨_, rfl⟩
  have eg : (Value.agg ((List.range 3).map fun j => Value.int IntKind.i64 (x1 j)).toArray) = hnV g := by subst hg; rfl
  rw [eg] at hW' ⊢
  obtain ⟨x2, rfl, wx2⟩ := arr_of_trod 2 Try.underlying35 Try.underlying3 Try.cells35 Try.cells3 (hval 2 35 v2 rfl rfl) h2
  obtain ⟨t, ht⟩ : ∃ q : Int, q = x2 0 := ⟨_, rfl⟩
  obtain ⟨n, hn⟩ : ∃ q : Int, q = x2 1 := ⟨_, rfl⟩
  have et : (Value.agg ((List.range 2).map fun j => Value.int IntKind.i64 (x2 j)).toArray) = .agg #[.int .i64 t, .int .i64 n] := by subst ht hn; rfl
  rw [et] at hW' ⊢
  clear hA0 hval0
  have walk : Calls Try.prog 6 #[hnV s, hnV g, .agg #[.int .i64 t, .int .i64 n]] W (Ret (.bool true) W) := by
    exact handleApart_any s g t n W
  refine walk.mono fun e W' hr => ?_
  obtain ⟨he, hb⟩ := hr
  subst he
  exact ⟨_, rfl, law_post Try.laidOut (by kernel_rfl) rfl (by kernel_rfl) Try.underlying4 hW' rfl hb⟩

theorem handleApart_holds : Rows.HandleApartSaid :=
  OpenClaim.holds_of_wide 6 Try.f6 rfl rfl rfl rfl rfl rfl rfl ⟨rfl, rfl, rfl, rfl, rfl⟩ rfl rfl rfl rfl rfl (by kernel_rfl) Try.func6 (by kernel_rfl)
    (of_decide_eq_true (by kernel_rfl)) (by unfold Func.isWrapper; first | (rw [if_pos (by decide +kernel)]; kernel_rfl) | (rw [if_neg (by decide +kernel)]; exact ⟨rfl, rfl⟩))
    (fun os started H enc _ => handleApart_lifted os started H enc)

end Go.Proofs.Ytniejbncahmcoaa
