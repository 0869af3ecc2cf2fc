/-
  RetireScans: for every input the law returns true, and its arguments read as before. No conditions.
-/
import Derived.Test.YtlapcocljjgjlaaGreatGbi
namespace Go.Proofs.YtlapcocljjgjlaaGreat
open Go Go.ChangeShapes Go.WideShapes Go.ChangeAt Go.RowKit Go.Joins


theorem Tryz.own : ownKnob Tryz.prog.godebug = none := by kernel_rfl
theorem Tryz.laidOut : laidOutB Tryz.prog = true := by kernel_rfl
theorem Tryz.cells23 : Tryz.prog.cellsOf 23 = 6 := by kernel_rfl
theorem Tryz.cells3 : Tryz.prog.cellsOf 3 = 1 := by kernel_rfl
theorem Tryz.cells4 : Tryz.prog.cellsOf 4 = 1 := by kernel_rfl

set_option maxRecDepth 100000 in
theorem retireScans_lifted (os : Os) (started : os.Started) (H : Type) (enc : TypeId × Value → H) :
    ReturnsInHanded {} Tryz.checked os 3 .any (Rows.retireScansSpec.pre6 enc Tryz.prog Tryz.f3 Rows.retireScansRow.domain false) (Rows.retireScansSpec.post enc Tryz.prog Tryz.f3 false true false false) := by
  refine returnsInHanded_of_change (C := Tryz.checked) Tryz.own started (by kernel_rfl) Tryz.func3
    (ChangeSpec.witness6 (enc := enc) (C := Tryz.checked) false ⟨#[], #[.agg #[.int .i64 0, .int .i64 0, .int .i64 0, .int .i64 0, .int .i64 0, .int .i64 0], .slice none 0 0, .slice none 0 0], []⟩ 8 (by kernel_rfl) (by kernel_rfl) (by kernel_rfl) (by kernel_rfl)) ?_
  intro W base args ds gs before hval0 hW hcnd _
  have hval : ∀ (j : Nat) t v, Tryz.f3.params[j]? = some t → args[j]? = some v → Value.okWide Tryz.prog W .any base t v := hval0
  have hW' := hW
  obtain ⟨p, q, hA0, hV, rfl, hfz, hnd⟩ := hW
  have hA : DataW.TrodAll enc Tryz.prog W 0 (fun _ => true) true Tryz.f3.params.toList args.toList ds p := hA0
  rw [Tryz.params3] at hA hval
  obtain ⟨v0, v1, v2, d0, d1, d2, p0, p1, p2, rfl, rfl, rfl, h0, h1, h2⟩ := trodAll_three hA
  obtain ⟨rfl, rfl⟩ := trodVars_none hV
  obtain ⟨x0, rfl, wx0⟩ := agg_of_trod 6 (fun _ => .i64) Tryz.underlying23 Tryz.cells23 (by kernel_rfl) (hval 0 23 v0 rfl rfl) h0
  obtain ⟨p, hp⟩ : ∃ q : Pl, q = ⟨x0 0, x0 1, x0 2, x0 3, x0 4, x0 5⟩ := ⟨_, rfl⟩
  have ep : (Value.agg ((List.range 6).map fun j => Value.int IntKind.i64 (x0 j)).toArray) = plV p := by subst hp; rfl
  rw [ep] at hW' ⊢
  obtain ⟨ls, hls, rls⟩ := is_of_trod Tryz.underlying24 Tryz.underlying3 Tryz.cells3 (hval 1 24 v1 rfl rfl) h1
  obtain ⟨hl, hhl⟩ := bs_of_trod Tryz.underlying25 Tryz.underlying4 Tryz.cells4 (by kernel_rfl) (hval 2 25 v2 rfl rfl) h2
  clear hA0 hval0
  have walk : Calls Tryz.prog 3 #[plV p, v1, v2] W (Ret (.bool true) W) := by
    obtain ⟨a0, cap, rfl, _, _⟩ := id hls
    obtain ⟨a02, cap2, rfl, _, _⟩ := id hhl
    by_cases hf : p.few ∧ p.ok
    · by_cases hl1 : ls.length ≤ 40
      · by_cases hl2 : (hl.length : Int) ≤ p.n
        · exact rsc_yes ⟨p.n, p.t, p.r, p.d, p.b, 9⟩ p.g hf rfl ls hl _ _ W hls hhl hl1 hl2
        · exact rsc_wide p a0 a02 _ cap _ cap2 hf (by omega) (by omega) W
      · exact rsc_long p a0 a02 _ cap _ cap2 hf (by omega) W
    · exact rsc_nofew p a0 a02 _ cap _ cap2 hf W
  refine walk.mono fun e W' hr => ?_
  obtain ⟨he, hb⟩ := hr
  subst he
  exact ⟨_, rfl, law_post Tryz.laidOut (by kernel_rfl) rfl (by kernel_rfl) Tryz.underlying4 hW' rfl hb⟩

theorem retireScans_holds : Rows.RetireScansSaid :=
  OpenClaim.holds_of_wide 3 Tryz.f3 rfl rfl rfl rfl rfl rfl rfl ⟨rfl, rfl, rfl, rfl, rfl⟩ rfl rfl rfl rfl rfl (by kernel_rfl) Tryz.func3 (by kernel_rfl)
    (of_decide_eq_true (by kernel_rfl)) (by unfold Func.isWrapper; first | (rw [if_pos (by decide +kernel)]; kernel_rfl) | (rw [if_neg (by decide +kernel)]; exact ⟨rfl, rfl⟩))
    (fun os started H enc _ => retireScans_lifted os started H enc)

end Go.Proofs.YtlapcocljjgjlaaGreat
