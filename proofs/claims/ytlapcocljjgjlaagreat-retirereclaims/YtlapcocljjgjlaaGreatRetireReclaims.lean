/-
  RetireReclaims: for every input the law returns true, and its arguments read as before. No conditions.
-/
import Derived.Test.YtlapcocljjgjlaaGreatGbf
namespace Go.Proofs.YtlapcocljjgjlaaGreat
open Go Go.ChangeShapes Go.WideShapes Go.ChangeAt Go.RowKit Go.Joins


theorem Tryz.own : ownKnob Tryz.prog.godebug = none := by kernel_rfl
theorem Tryz.laidOut : laidOutB Tryz.prog = true := by kernel_rfl
theorem Tryz.cells23 : Tryz.prog.cellsOf 23 = 6 := by kernel_rfl
theorem Tryz.cells29 : Tryz.prog.cellsOf 29 = 3 := by kernel_rfl

set_option maxRecDepth 100000 in
theorem retireReclaims_lifted (os : Os) (started : os.Started) (H : Type) (enc : TypeId × Value → H) :
    ReturnsInHanded {} Tryz.checked os 4 .any (Rows.retireReclaimsSpec.pre6 enc Tryz.prog Tryz.f4 Rows.retireReclaimsRow.domain false) (Rows.retireReclaimsSpec.post enc Tryz.prog Tryz.f4 false true false false) := by
  refine returnsInHanded_of_change (C := Tryz.checked) Tryz.own started (by kernel_rfl) Tryz.func4
    (ChangeSpec.witness6 (enc := enc) (C := Tryz.checked) false ⟨#[], #[.agg #[.int .i64 0, .int .i64 0, .int .i64 0, .int .i64 0, .int .i64 0, .int .i64 0], .int .i64 0, .agg #[.int .i64 0, .int .i64 0, .int .i64 0]], []⟩ 8 (by kernel_rfl) (by kernel_rfl) (by kernel_rfl) (by kernel_rfl)) ?_
  intro W base args ds gs before hval0 hW hcnd _
  have hval : ∀ (j : Nat) t v, Tryz.f4.params[j]? = some t → args[j]? = some v → Value.okWide Tryz.prog W .any base t v := hval0
  have hW' := hW
  obtain ⟨p, q, hA0, hV, rfl, hfz, hnd⟩ := hW
  have hA : DataW.TrodAll enc Tryz.prog W 0 (fun _ => true) true Tryz.f4.params.toList args.toList ds p := hA0
  rw [Tryz.params4] at hA hval
  obtain ⟨v0, v1, v2, d0, d1, d2, p0, p1, p2, rfl, rfl, rfl, h0, h1, h2⟩ := trodAll_three hA
  obtain ⟨rfl, rfl⟩ := trodVars_none hV
  obtain ⟨x0, rfl, wx0⟩ := agg_of_trod 6 (fun _ => .i64) Tryz.underlying23 Tryz.cells23 (by kernel_rfl) (hval 0 23 v0 rfl rfl) h0
  obtain ⟨p, hp⟩ : ∃ q : Pl, q = ⟨x0 0, x0 1, x0 2, x0 3, x0 4, x0 5⟩ := ⟨_, rfl⟩
  have ep : (Value.agg ((List.range 6).map fun j => Value.int IntKind.i64 (x0 j)).toArray) = plV p := by subst hp; rfl
  rw [ep] at hW' ⊢
  obtain ⟨n, rfl, rfl, rfl, wn⟩ := open_int Tryz.underlying3 (hval 1 3 v1 rfl rfl) h1
  have bn := bounds_i64 wn
  obtain ⟨x2, rfl, wx2⟩ := agg_of_trod 3 (fun _ => .i64) Tryz.underlying29 Tryz.cells29 (by kernel_rfl) (hval 2 29 v2 rfl rfl) h2
  obtain ⟨s, hs⟩ : ∃ q : St, q = ⟨x2 0, x2 1, x2 2⟩ := ⟨_, rfl⟩
  have es : (Value.agg ((List.range 3).map fun j => Value.int IntKind.i64 (x2 j)).toArray) = stV s := by subst hs; rfl
  rw [es] at hW' ⊢
  clear hA0 hval0
  have walk : Calls Tryz.prog 4 #[plV p, .int .i64 n, stV s] W (Ret (.bool true) W) := by
    by_cases hf : p.few ∧ p.ok
    · by_cases h0 : 0 ≤ n
      · by_cases h1 : n < p.n
        · by_cases hs : s.ok
          · by_cases hq : (s.freed p.g).m = 3
            · exact rcl_gone p n s hf h0 h1 hs hq W
            · exact rcl_free p n s hf h0 h1 hs hq W
          · exact rcl_odd p n s hf h0 h1 hs W
        · exact rcl_big p n s hf h0 (by omega) W
      · exact rcl_neg p n s hf (by omega) W
    · exact rcl_nofew p n s hf W
  refine walk.mono fun e W' hr => ?_
  obtain ⟨he, hb⟩ := hr
  subst he
  exact ⟨_, rfl, law_post Tryz.laidOut (by kernel_rfl) rfl (by kernel_rfl) Tryz.underlying4 hW' rfl hb⟩

theorem retireReclaims_holds : Rows.RetireReclaimsSaid :=
  OpenClaim.holds_of_wide 4 Tryz.f4 rfl rfl rfl rfl rfl rfl rfl ⟨rfl, rfl, rfl, rfl, rfl⟩ rfl rfl rfl rfl rfl (by kernel_rfl) Tryz.func4 (by kernel_rfl)
    (of_decide_eq_true (by kernel_rfl)) (by unfold Func.isWrapper; first | (rw [if_pos (by decide +kernel)]; kernel_rfl) | (rw [if_neg (by decide +kernel)]; exact ⟨rfl, rfl⟩))
    (fun os started H enc _ => retireReclaims_lifted os started H enc)

end Go.Proofs.YtlapcocljjgjlaaGreat
