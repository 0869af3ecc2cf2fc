/-
  HazardHeld: for every input the law returns true, and its arguments read as before. No conditions.
-/
import Derived.Test.YtkjbfhcgldgkaaaGaz
namespace Go.Proofs.Ytkjbfhcgldgkaaa
open Go Go.ChangeShapes Go.WideShapes Go.ChangeAt Go.RowKit Go.Joins


theorem Try.own : ownKnob Try.prog.godebug = none := by kernel_rfl
theorem Try.laidOut : laidOutB Try.prog = true := by kernel_rfl
theorem Try.cells23 : Try.prog.cellsOf 23 = 6 := by kernel_rfl
theorem Try.cells52 : Try.prog.cellsOf 52 = 3 := by kernel_rfl

set_option maxRecDepth 100000 in
theorem hazardHeld_lifted (os : Os) (started : os.Started) (H : Type) (enc : TypeId × Value → H) :
    ReturnsInHanded {} Try.checked os 4 .any (Rows.hazardHeldSpec.pre6 enc Try.prog Try.f4 Rows.hazardHeldRow.domain false) (Rows.hazardHeldSpec.post enc Try.prog Try.f4 false true false false) := by
  refine returnsInHanded_of_change (C := Try.checked) Try.own started (by kernel_rfl) Try.func4
    (ChangeSpec.witness6 (enc := enc) (C := Try.checked) false ⟨#[], #[.agg #[.int .i64 0, .int .i64 0, .int .i64 0, .int .i64 0, .int .i64 0, .int .i64 0], .slice none 0 0, .int .i64 0], []⟩ 8 (by kernel_rfl) (by kernel_rfl) (by kernel_rfl) (by kernel_rfl)) ?_
  intro W base args ds gs before hval0 hW hcnd _
  have hval : ∀ (j : Nat) t v, Try.f4.params[j]? = some t → args[j]? = some v → Value.okWide Try.prog W .any base t v := hval0
  have hW' := hW
  obtain ⟨p, q, hA0, hV, rfl, hfz, hnd⟩ := hW
  have hA : DataW.TrodAll enc Try.prog W 0 (fun _ => true) true Try.f4.params.toList args.toList ds p := hA0
  rw [Try.params4] at hA hval
  obtain ⟨v0, v1, v2, d0, d1, d2, p0, p1, p2, rfl, rfl, rfl, h0, h1, h2⟩ := trodAll_three hA
  obtain ⟨rfl, rfl⟩ := trodVars_none hV
  obtain ⟨x0, rfl, wx0⟩ := agg_of_trod 6 (fun _ => .i64) Try.underlying23 Try.cells23 (by kernel_rfl) (hval 0 23 v0 rfl rfl) h0
  obtain ⟨p, hp⟩ : ∃ q : Pl, q = ⟨x0 0, x0 1, x0 2, x0 3, x0 4, x0 5⟩ := ⟨_, rfl⟩
  have ep : (Value.agg ((List.range 6).map fun j => Value.int IntKind.i64 (x0 j)).toArray) = plV p := by subst hp; rfl
  rw [ep] at hW' ⊢
  obtain ⟨m, x, hx⟩ := rs_of_trod 3 (fun _ => .i64) Try.underlying48 Try.cells52 (by decide) (by kernel_rfl) (hval 1 48 v1 rfl rfl) h1
  obtain ⟨n, rfl, rfl, rfl, wn⟩ := open_int Try.underlying3 (hval 2 3 v2 rfl rfl) h2
  have bn := bounds_i64 wn
  clear hA0 hval0
  have walk : Calls Try.prog 4 #[plV p, v1, .int .i64 n] W (Ret (.bool true) W) := by
    obtain ⟨a0, cap, rfl, _, _⟩ := id hx
    by_cases hm : m ≤ 30
    · by_cases hf : FitsP p 0 0 n
      · by_cases hn : 0 ≤ n
        · exact held_yes p n hf hn m x _ W hx hm
        · exact held_neg p n a0 m cap hm hf (by omega) W
      · exact held_nofit p n a0 m cap hm hf W
    · exact held_long p n a0 m cap (by omega) W
  refine walk.mono fun e W' hr => ?_
  obtain ⟨he, hb⟩ := hr
  subst he
  exact ⟨_, rfl, law_post Try.laidOut (by kernel_rfl) rfl (by kernel_rfl) Try.underlying4 hW' rfl hb⟩

theorem hazardHeld_holds : Rows.HazardHeldSaid :=
  OpenClaim.holds_of_wide 4 Try.f4 rfl rfl rfl rfl rfl rfl rfl ⟨rfl, rfl, rfl, rfl, rfl⟩ rfl rfl rfl rfl rfl (by kernel_rfl) Try.func4 (by kernel_rfl)
    (of_decide_eq_true (by kernel_rfl)) (by unfold Func.isWrapper; first | (rw [if_pos (by decide +kernel)]; kernel_rfl) | (rw [if_neg (by decide +kernel)]; exact ⟨rfl, rfl⟩))
    (fun os started H enc _ => hazardHeld_lifted os started H enc)

end Go.Proofs.Ytkjbfhcgldgkaaa
