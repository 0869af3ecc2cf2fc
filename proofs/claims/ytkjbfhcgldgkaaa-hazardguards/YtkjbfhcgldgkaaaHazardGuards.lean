/-
  HazardGuards: for every input the law returns true, and its arguments read as before. No conditions.
-/
import Derived.Test.YtkjbfhcgldgkaaaGay
namespace Go.Proofs.Ytkjbfhcgldgkaaa
open Go Go.ChangeShapes Go.WideShapes Go.ChangeAt Go.RowKit Go.Joins


theorem Try.own : ownKnob Try.prog.godebug = none := by kernel_rfl
theorem Try.laidOut : laidOutB Try.prog = true := by kernel_rfl
theorem Try.cells23 : Try.prog.cellsOf 23 = 6 := by kernel_rfl
theorem Try.cells82 : Try.prog.cellsOf 82 = 2 := by kernel_rfl

set_option maxRecDepth 100000 in
theorem hazardGuards_lifted (os : Os) (started : os.Started) (H : Type) (enc : TypeId × Value → H) :
    ReturnsInHanded {} Try.checked os 5 .any (Rows.hazardGuardsSpec.pre6 enc Try.prog Try.f5 Rows.hazardGuardsRow.domain false) (Rows.hazardGuardsSpec.post enc Try.prog Try.f5 false true false false) := by
  refine returnsInHanded_of_change (C := Try.checked) Try.own started (by kernel_rfl) Try.func5
    (ChangeSpec.witness6 (enc := enc) (C := Try.checked) false ⟨#[], #[.agg #[.int .i64 0, .int .i64 0, .int .i64 0, .int .i64 0, .int .i64 0, .int .i64 0], .int .u8 0, .slice none 0 0], []⟩ 8 (by kernel_rfl) (by kernel_rfl) (by kernel_rfl) (by kernel_rfl)) ?_
  intro W base args ds gs before hval0 hW hcnd _
  have hval : ∀ (j : Nat) t v, Try.f5.params[j]? = some t → args[j]? = some v → Value.okWide Try.prog W .any base t v := hval0
  have hW' := hW
  obtain ⟨p, q, hA0, hV, rfl, hfz, hnd⟩ := hW
  have hA : DataW.TrodAll enc Try.prog W 0 (fun _ => true) true Try.f5.params.toList args.toList ds p := hA0
  rw [Try.params5] at hA hval
  obtain ⟨v0, v1, v2, d0, d1, d2, p0, p1, p2, rfl, rfl, rfl, h0, h1, h2⟩ := trodAll_three hA
  obtain ⟨rfl, rfl⟩ := trodVars_none hV
  obtain ⟨x0, rfl, wx0⟩ := agg_of_trod 6 (fun _ => .i64) Try.underlying23 Try.cells23 (by kernel_rfl) (hval 0 23 v0 rfl rfl) h0
  obtain ⟨p, hp⟩ : ∃ q : Pl, q = ⟨x0 0, x0 1, x0 2, x0 3, x0 4, x0 5⟩ := ⟨_, rfl⟩
  have ep : (Value.agg ((List.range 6).map fun j => Value.int IntKind.i64 (x0 j)).toArray) = plV p := by subst hp; rfl
  rw [ep] at hW' ⊢
  obtain ⟨a, rfl, rfl, rfl, wa⟩ := open_int Try.underlying5 (hval 1 5 v1 rfl rfl) h1
  have ba := bounds_u8 wa
  obtain ⟨m, x, hx⟩ := rs_of_trod 2 (fun _ => .u8) Try.underlying76 Try.cells82 (by decide) (by kernel_rfl) (hval 2 76 v2 rfl rfl) h2
  clear hA0 hval0
  have walk : Calls Try.prog 5 #[plV p, .int .u8 a, v2] W (Ret (.bool true) W) := by
    obtain ⟨a0, cap, rfl, _, _⟩ := id hx
    by_cases hm : m ≤ 20
    · by_cases hf : FitsP p 0 0 0
      · by_cases hn : 2 ≤ p.n
        · exact guards_yes p a ba.1 hf hn m x _ W hx hm
        · exact guards_one p a a0 m cap hm hf (by omega) W
      · exact guards_nofit p a a0 m cap hm hf W
    · exact guards_long p a a0 m cap (by omega) W
  refine walk.mono fun e W' hr => ?_
  obtain ⟨he, hb⟩ := hr
  subst he
  exact ⟨_, rfl, law_post Try.laidOut (by kernel_rfl) rfl (by kernel_rfl) Try.underlying4 hW' rfl hb⟩

theorem hazardGuards_holds : Rows.HazardGuardsSaid :=
  OpenClaim.holds_of_wide 5 Try.f5 rfl rfl rfl rfl rfl rfl rfl ⟨rfl, rfl, rfl, rfl, rfl⟩ rfl rfl rfl rfl rfl (by kernel_rfl) Try.func5 (by kernel_rfl)
    (of_decide_eq_true (by kernel_rfl)) (by unfold Func.isWrapper; first | (rw [if_pos (by decide +kernel)]; kernel_rfl) | (rw [if_neg (by decide +kernel)]; exact ⟨rfl, rfl⟩))
    (fun os started H enc _ => hazardGuards_lifted os started H enc)

end Go.Proofs.Ytkjbfhcgldgkaaa
