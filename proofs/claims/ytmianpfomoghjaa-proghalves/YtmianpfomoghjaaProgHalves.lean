/-
  ProgHalves: for every input the law returns true, and its arguments read as before. No conditions.
-/
import Derived.Test.YtmianpfomoghjaaProgHalvesW
import Derived.Test.YtmianpfomoghjaaLaw
namespace Go.Proofs.Ytmianpfomoghjaa
open Go Go.ChangeShapes Go.WideShapes Go.ChangeAt Go.RowKit Go.Joins


theorem Try.own : ownKnob Try.prog.godebug = none := by kernel_rfl
theorem Try.laidOut : laidOutB Try.prog = true := by kernel_rfl
theorem Try.cells42 : Try.prog.cellsOf 42 = 4 := by kernel_rfl

set_option maxRecDepth 100000 in
theorem progHalves_lifted (os : Os) (started : os.Started) (H : Type) (enc : TypeId × Value → H) :
    ReturnsInHanded {} Try.checked os 7 .any (Rows.progHalvesSpec.pre6 enc Try.prog Try.f7 Rows.progHalvesRow.domain false) (Rows.progHalvesSpec.post enc Try.prog Try.f7 false true false false) := by
  refine returnsInHanded_of_change (C := Try.checked) Try.own started (by kernel_rfl) Try.func7
    (ChangeSpec.witness6 (enc := enc) (C := Try.checked) false ⟨#[], #[.slice none 0 0, .int .u8 0], []⟩ 8 (by kernel_rfl) (by kernel_rfl) (by kernel_rfl) (by kernel_rfl)) ?_
  intro W base args ds gs before hval0 hW hcnd _
  have hval : ∀ (j : Nat) t v, Try.f7.params[j]? = some t → args[j]? = some v → Value.okWide Try.prog W .any base t v := hval0
  have hW' := hW
  obtain ⟨p, q, hA0, hV, rfl, hfz, hnd⟩ := hW
  have hA : DataW.TrodAll enc Try.prog W 0 (fun _ => true) true Try.f7.params.toList args.toList ds p := hA0
  rw [Try.params7] at hA hval
  obtain ⟨v0, v1, d0, d1, p0, p1, rfl, rfl, rfl, h0, h1⟩ := trodAll_two hA
  obtain ⟨rfl, rfl⟩ := trodVars_none hV
  obtain ⟨n, x0, hx0⟩ := rs_of_trod 4 accKd Try.underlying22 Try.cells42 (by decide) (by kernel_rfl) (hval 0 22 v0 rfl rfl) h0
  obtain ⟨f, hf⟩ : ∃ f, As W v0 n f := ⟨_, as_of_rs hx0⟩
  obtain ⟨m, rfl, rfl, rfl, wm⟩ := open_int Try.underlying5 (hval 1 5 v1 rfl rfl) h1
  have bm := bounds_u8 wm
  clear hA0 hval0
  have walk : Calls Try.prog 7 #[v0, .int .u8 m] W (Ret (.bool true) W) := by
    exact progHalves_any f n v0 m W bm.1 bm.2 hf
  refine walk.mono fun e W' hr => ?_
  obtain ⟨he, hb⟩ := hr
  subst he
  exact ⟨_, rfl, law_post Try.laidOut (by kernel_rfl) rfl (by kernel_rfl) Try.underlying4 hW' rfl hb⟩

theorem progHalves_holds : Rows.ProgHalvesSaid :=
  OpenClaim.holds_of_wide 7 Try.f7 rfl rfl rfl rfl rfl rfl rfl ⟨rfl, rfl, rfl, rfl, rfl⟩ rfl rfl rfl rfl rfl (by kernel_rfl) Try.func7 (by kernel_rfl)
    (of_decide_eq_true (by kernel_rfl)) (by unfold Func.isWrapper; first | (rw [if_pos (by decide +kernel)]; kernel_rfl) | (rw [if_neg (by decide +kernel)]; exact ⟨rfl, rfl⟩))
    (fun os started H enc _ => progHalves_lifted os started H enc)

end Go.Proofs.Ytmianpfomoghjaa
