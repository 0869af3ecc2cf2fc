/-
  AllocKinds: for every input the law returns true, and its arguments read as before. No conditions.
-/
import Derived.Test.YtpidmbclgfnekaaGreatGbp
namespace Go.Proofs.YtpidmbclgfnekaaGreat
open Go Go.ChangeShapes Go.WideShapes Go.ChangeAt Go.RowKit Go.Joins


theorem Tryz.own : ownKnob Tryz.prog.godebug = none := by kernel_rfl
theorem Tryz.laidOut : laidOutB Tryz.prog = true := by kernel_rfl
theorem Tryz.cells23 : Tryz.prog.cellsOf 23 = 6 := by kernel_rfl

set_option maxRecDepth 100000 in
theorem allocKinds_lifted (os : Os) (started : os.Started) (H : Type) (enc : TypeId × Value → H) :
    ReturnsInHanded {} Tryz.checked os 7 .any (Rows.allocKindsSpec.pre6 enc Tryz.prog Tryz.f7 Rows.allocKindsRow.domain false) (Rows.allocKindsSpec.post enc Tryz.prog Tryz.f7 false true false false) := by
  refine returnsInHanded_of_change (C := Tryz.checked) Tryz.own started (by kernel_rfl) Tryz.func7
    (ChangeSpec.witness6 (enc := enc) (C := Tryz.checked) false ⟨#[], #[.agg #[.int .i64 0, .int .i64 0, .int .i64 0, .int .i64 0, .int .i64 0, .int .i64 0], .int .u8 0, .int .u8 0], []⟩ 8 (by kernel_rfl) (by kernel_rfl) (by kernel_rfl) (by kernel_rfl)) ?_
  intro W base args ds gs before hval0 hW hcnd _
  have hval : ∀ (j : Nat) t v, Tryz.f7.params[j]? = some t → args[j]? = some v → Value.okWide Tryz.prog W .any base t v := hval0
  have hW' := hW
  obtain ⟨p, q, hA0, hV, rfl, hfz, hnd⟩ := hW
  have hA : DataW.TrodAll enc Tryz.prog W 0 (fun _ => true) true Tryz.f7.params.toList args.toList ds p := hA0
  rw [Tryz.params7] at hA hval
  obtain ⟨v0, v1, v2, d0, d1, d2, p0, p1, p2, rfl, rfl, rfl, h0, h1, h2⟩ := trodAll_three hA
  obtain ⟨rfl, rfl⟩ := trodVars_none hV
  obtain ⟨x0, rfl, wx0⟩ := agg_of_trod 6 (fun _ => .i64) Tryz.underlying23 Tryz.cells23 (by kernel_rfl) (hval 0 23 v0 rfl rfl) h0
  obtain ⟨p, hp⟩ : ∃ q : Pl, q = ⟨x0 0, x0 1, x0 2, x0 3, x0 4, x0 5⟩ := ⟨_, rfl⟩
  have ep : (Value.agg ((List.range 6).map fun j => Value.int IntKind.i64 (x0 j)).toArray) = plV p := by subst hp; rfl
  rw [ep] at hW' ⊢
  obtain ⟨kind, rfl, rfl, rfl, wkind⟩ := open_int Tryz.underlying5 (hval 1 5 v1 rfl rfl) h1
  have bkind := bounds_u8 wkind
  obtain ⟨n, rfl, rfl, rfl, wn⟩ := open_int Tryz.underlying5 (hval 2 5 v2 rfl rfl) h2
  have bn := bounds_u8 wn
  clear hA0 hval0
  have walk : Calls Tryz.prog 7 #[plV p, .int .u8 kind, .int .u8 n] W (Ret (.bool true) W) := by
    by_cases hf : p.few ∧ p.ok
    · exact akd_yes p hf kind n bkind.1 (by omega) bn.1 (by omega) W
    · exact akd_nofew p kind n hf W
  refine walk.mono fun e W' hr => ?_
  obtain ⟨he, hb⟩ := hr
  subst he
  exact ⟨_, rfl, law_post Tryz.laidOut (by kernel_rfl) rfl (by kernel_rfl) Tryz.underlying4 hW' rfl hb⟩

theorem allocKinds_holds : Rows.AllocKindsSaid :=
  OpenClaim.holds_of_wide 7 Tryz.f7 rfl rfl rfl rfl rfl rfl rfl ⟨rfl, rfl, rfl, rfl, rfl⟩ rfl rfl rfl rfl rfl (by kernel_rfl) Tryz.func7 (by kernel_rfl)
    (of_decide_eq_true (by kernel_rfl)) (by unfold Func.isWrapper; first | (rw [if_pos (by decide +kernel)]; kernel_rfl) | (rw [if_neg (by decide +kernel)]; exact ⟨rfl, rfl⟩))
    (fun os started H enc _ => allocKinds_lifted os started H enc)

end Go.Proofs.YtpidmbclgfnekaaGreat
