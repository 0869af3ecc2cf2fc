/-
  HazardStays: for every input the law returns true, and its arguments read as before. No conditions.
-/
import Derived.Test.YtkjbfhcgldgkaaaGax
namespace Go.Proofs.Ytkjbfhcgldgkaaa
open Go Go.ChangeShapes Go.WideShapes Go.ChangeAt Go.RowKit Go.Joins


theorem Try.own : ownKnob Try.prog.godebug = none := by kernel_rfl
theorem Try.laidOut : laidOutB Try.prog = true := by kernel_rfl
theorem Try.cells93 : Try.prog.cellsOf 93 = 9 := by kernel_rfl

set_option maxRecDepth 100000 in
theorem hazardStays_lifted (os : Os) (started : os.Started) (H : Type) (enc : TypeId × Value → H) :
    ReturnsInHanded {} Try.checked os 6 .any (Rows.hazardStaysSpec.pre6 enc Try.prog Try.f6 Rows.hazardStaysRow.domain false) (Rows.hazardStaysSpec.post enc Try.prog Try.f6 false true false false) := by
  refine returnsInHanded_of_change (C := Try.checked) Try.own started (by kernel_rfl) Try.func6
    (ChangeSpec.witness6 (enc := enc) (C := Try.checked) false ⟨#[], #[.agg #[.int .i64 0, .int .i64 0, .int .i64 0, .int .i64 0, .int .i64 0, .int .i64 0, .int .i64 0, .int .i64 0, .int .u64 0]], []⟩ 8 (by kernel_rfl) (by kernel_rfl) (by kernel_rfl) (by kernel_rfl)) ?_
  intro W base args ds gs before hval0 hW hcnd _
  have hval : ∀ (j : Nat) t v, Try.f6.params[j]? = some t → args[j]? = some v → Value.okWide Try.prog W .any base t v := hval0
  have hW' := hW
  obtain ⟨p, q, hA0, hV, rfl, hfz, hnd⟩ := hW
  have hA : DataW.TrodAll enc Try.prog W 0 (fun _ => true) true Try.f6.params.toList args.toList ds p := hA0
  rw [Try.params6] at hA hval
  obtain ⟨v0, d0, rfl, rfl, h0⟩ := trodAll_one hA
  obtain ⟨rfl, rfl⟩ := trodVars_none hV
  obtain ⟨x0, rfl, wx0⟩ := agg_of_trod 9 (fun j => if j = 8 then .u64 else .i64) Try.underlying93 Try.cells93 (by kernel_rfl) (hval 0 93 v0 rfl rfl) h0
  obtain ⟨p, hp⟩ : ∃ q : Pl, q = ⟨x0 0, x0 1, x0 2, x0 3, x0 4, x0 5⟩ := ⟨_, rfl⟩
  obtain ⟨t, ht⟩ : ∃ q : Int, q = x0 6 := ⟨_, rfl⟩
  obtain ⟨s, hs⟩ : ∃ q : Int, q = x0 7 := ⟨_, rfl⟩
  have w8 := wx0 8 (by omega)
  obtain ⟨x, hx⟩ := word_of (x0 8) (bounds_u64 w8).1 (bounds_u64 w8).2
  have ep : (Value.agg ((List.range 9).map fun j => Value.int (if j = 8 then IntKind.u64 else IntKind.i64) (x0 j)).toArray) = .agg #[.int .i64 p.n, .int .i64 p.t, .int .i64 p.r, .int .i64 p.d, .int .i64 p.b, .int .i64 p.g, .int .i64 t, .int .i64 s, .int .u64 (U x)] := by rw [hs, ht, hp, ← hx]; rfl
  rw [ep] at hW' ⊢
  clear hA0 hval0
  have walk : Calls Try.prog 6 #[.agg #[.int .i64 p.n, .int .i64 p.t, .int .i64 p.r, .int .i64 p.d, .int .i64 p.b, .int .i64 p.g, .int .i64 t, .int .i64 s, .int .u64 (U x)]] W (Ret (.bool true) W) := by
    exact stays_any p t s x W
  refine walk.mono fun e W' hr => ?_
  obtain ⟨he, hb⟩ := hr
  subst he
  exact ⟨_, rfl, law_post Try.laidOut (by kernel_rfl) rfl (by kernel_rfl) Try.underlying4 hW' rfl hb⟩

theorem hazardStays_holds : Rows.HazardStaysSaid :=
  OpenClaim.holds_of_wide 6 Try.f6 rfl rfl rfl rfl rfl rfl rfl ⟨rfl, rfl, rfl, rfl, rfl⟩ rfl rfl rfl rfl rfl (by kernel_rfl) Try.func6 (by kernel_rfl)
    (of_decide_eq_true (by kernel_rfl)) (by unfold Func.isWrapper; first | (rw [if_pos (by decide +kernel)]; kernel_rfl) | (rw [if_neg (by decide +kernel)]; exact ⟨rfl, rfl⟩))
    (fun os started H enc _ => hazardStays_lifted os started H enc)

end Go.Proofs.Ytkjbfhcgldgkaaa
