/-
  ThreadTwo: for every input the law returns true, and its arguments read as before. No conditions.
-/
import Derived.Test.YthepcnffadjeaaaThreadTwoW
import Derived.Test.YthepcnffadjeaaaLaw
namespace Go.Proofs.Ythepcnffadjeaaa
open Go Go.ChangeShapes Go.WideShapes Go.ChangeAt Go.RowKit Go.Joins


theorem Try.own : ownKnob Try.prog.godebug = none := by kernel_rfl
theorem Try.laidOut : laidOutB Try.prog = true := by kernel_rfl
theorem Try.cells5 : Try.prog.cellsOf 5 = 1 := by kernel_rfl
theorem Try.cells4 : Try.prog.cellsOf 4 = 1 := by kernel_rfl

set_option maxRecDepth 100000 in
theorem threadTwo_lifted (os : Os) (started : os.Started) (H : Type) (enc : TypeId × Value → H) :
    ReturnsInHanded {} Try.checked os 6 .any (Rows.threadTwoSpec.pre6 enc Try.prog Try.f6 Rows.threadTwoRow.domain false) (Rows.threadTwoSpec.post enc Try.prog Try.f6 false true false false) := by
  refine returnsInHanded_of_change (C := Try.checked) Try.own started (by kernel_rfl) Try.func6
    (ChangeSpec.witness6 (enc := enc) (C := Try.checked) false ⟨#[], #[.slice none 0 0, .slice none 0 0, .slice none 0 0], []⟩ 8 (by kernel_rfl) (by kernel_rfl) (by kernel_rfl) (by kernel_rfl)) ?_
  intro W base args ds gs before hval0 hW hcnd _
  have hval : ∀ (j : Nat) t v, Try.f6.params[j]? = some t → args[j]? = some v → Value.okWide Try.prog W .any base t v := hval0
  have hW' := hW
  obtain ⟨p, q, hA0, hV, rfl, hfz, hnd⟩ := hW
  have hA : DataW.TrodAll enc Try.prog W 0 (fun _ => true) true Try.f6.params.toList args.toList ds p := hA0
  rw [Try.params6] at hA hval
  obtain ⟨v0, v1, v2, d0, d1, d2, p0, p1, p2, rfl, rfl, rfl, h0, h1, h2⟩ := trodAll_three hA
  obtain ⟨rfl, rfl⟩ := trodVars_none hV
  obtain ⟨n0, x0, hx0⟩ := rs_of_trod 1 (fun _ => .u8) Try.underlying67 Try.cells5 (by decide) (by kernel_rfl) (hval 0 67 v0 rfl rfl) h0
  obtain ⟨a, ha⟩ := bs_of_rs hx0
  obtain ⟨n1, x1, hx1⟩ := rs_of_trod 1 (fun _ => .u8) Try.underlying67 Try.cells5 (by decide) (by kernel_rfl) (hval 1 67 v1 rfl rfl) h1
  obtain ⟨b, hb⟩ := bs_of_rs hx1
  obtain ⟨n2, x2, hx2⟩ := rv_of_trod 1 (fun _ => some none) Try.underlying68 Try.cells4 (by decide) (by kernel_rfl) (hval 2 68 v2 rfl rfl) h2
  obtain ⟨c, hc⟩ := bl_of_rv hx2
  clear hA0 hval0
  have walk : Calls Try.prog 6 #[v0, v1, v2] W (Ret (.bool true) W) := by
    exact threadTwo_any a b c v0 v1 v2 W ha hb hc
  refine walk.mono fun e W' hr => ?_
  obtain ⟨he, hb⟩ := hr
  subst he
  exact ⟨_, rfl, law_post Try.laidOut (by kernel_rfl) rfl (by kernel_rfl) Try.underlying4 hW' rfl hb⟩

theorem threadTwo_holds : Rows.ThreadTwoSaid :=
  OpenClaim.holds_of_wide 6 Try.f6 rfl rfl rfl rfl rfl rfl rfl ⟨rfl, rfl, rfl, rfl, rfl⟩ rfl rfl rfl rfl rfl (by kernel_rfl) Try.func6 (by kernel_rfl)
    (of_decide_eq_true (by kernel_rfl)) (by unfold Func.isWrapper; first | (rw [if_pos (by decide +kernel)]; kernel_rfl) | (rw [if_neg (by decide +kernel)]; exact ⟨rfl, rfl⟩))
    (fun os started H enc _ => threadTwo_lifted os started H enc)

end Go.Proofs.Ythepcnffadjeaaa
