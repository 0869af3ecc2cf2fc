/-
  FreeMany: for every input the law returns true, and its arguments read as before. No conditions.
-/
import Derived.Test.YtpidmbclgfnekaaGaz
namespace Go.Proofs.Ytpidmbclgfnekaa
open Go Go.ChangeShapes Go.WideShapes Go.ChangeAt Go.RowKit Go.Joins


theorem Try.own : ownKnob Try.prog.godebug = none := by kernel_rfl
theorem Try.laidOut : laidOutB Try.prog = true := by kernel_rfl
theorem Try.cells23 : Try.prog.cellsOf 23 = 6 := by kernel_rfl
theorem Try.cells31 : Try.prog.cellsOf 31 = 1 := by kernel_rfl
theorem Try.cells5 : Try.prog.cellsOf 5 = 1 := by kernel_rfl

set_option maxRecDepth 100000 in
theorem freeMany_lifted (os : Os) (started : os.Started) (H : Type) (enc : TypeId × Value → H) :
    ReturnsInHanded {} Try.checked os 3 .any (Rows.freeManySpec.pre6 enc Try.prog Try.f3 Rows.freeManyRow.domain false) (Rows.freeManySpec.post enc Try.prog Try.f3 false true false false) := by
  refine returnsInHanded_of_change (C := Try.checked) Try.own started (by kernel_rfl) Try.func3
    (ChangeSpec.witness6 (enc := enc) (C := Try.checked) false ⟨#[], #[.agg #[.int .i64 0, .int .i64 0, .int .i64 0, .int .i64 0, .int .i64 0, .int .i64 0], .slice none 0 0, .slice none 0 0], []⟩ 8 (by kernel_rfl) (by kernel_rfl) (by kernel_rfl) (by kernel_rfl)) ?_
  intro W base args ds gs before hval0 hW hcnd _
  have hval : ∀ (j : Nat) t v, Try.f3.params[j]? = some t → args[j]? = some v → Value.okWide Try.prog W .any base t v := hval0
  have hW' := hW
  obtain ⟨p, q, hA0, hV, rfl, hfz, hnd⟩ := hW
  have hA : DataW.TrodAll enc Try.prog W 0 (fun _ => true) true Try.f3.params.toList args.toList ds p := hA0
  rw [Try.params3] at hA hval
  obtain ⟨v0, v1, v2, d0, d1, d2, p0, p1, p2, rfl, rfl, rfl, h0, h1, h2⟩ := trodAll_three hA
  obtain ⟨rfl, rfl⟩ := trodVars_none hV
  obtain ⟨x0, rfl, wx0⟩ := agg_of_trod 6 (fun _ => .i64) Try.underlying23 Try.cells23 (by kernel_rfl) (hval 0 23 v0 rfl rfl) h0
  obtain ⟨p, hp⟩ : ∃ q : Pl, q = ⟨x0 0, x0 1, x0 2, x0 3, x0 4, x0 5⟩ := ⟨_, rfl⟩
  have ep : (Value.agg ((List.range 6).map fun j => Value.int IntKind.i64 (x0 j)).toArray) = plV p := by subst hp; rfl
  rw [ep] at hW' ⊢
  obtain ⟨n1, x1, hx1⟩ := nv_of_trod 1 (fun _ => 31) Try.underlying24 Try.cells31 (by decide) (by kernel_rfl) (hval 1 24 v1 rfl rfl) h1
  obtain ⟨cs, hcs⟩ := bss_of_nv hx1
  obtain ⟨m2, y2, hy2⟩ := rs_of_trod 1 (fun _ => .u8) Try.underlying25 Try.cells5 (by decide) (by kernel_rfl) (hval 2 25 v2 rfl rfl) h2
  clear hA0 hval0
  have walk : Calls Try.prog 3 #[plV p, v1, v2] W (Ret (.bool true) W) := by
    obtain ⟨a, c, rfl, _, _⟩ := id hcs
    obtain ⟨a2, c2, rfl, _, _⟩ := id hy2
    by_cases hf : p.few
    · by_cases hk : p.ok
      · by_cases h4 : cs.length ≤ 4
        · by_cases h1 : 1 ≤ cs.length
          · by_cases hm : m2 ≤ 200
            · exact many_yes p hf hk cs m2 y2 _ _ W hcs hy2 h1 h4 hm
            · exact many_long p a a2 _ c m2 c2 hf hk h4 h1 (by omega) W
          · exact many_none p a a2 _ c m2 c2 hf hk (by omega) W
        · exact many_more p a a2 _ c m2 c2 hf hk (by omega) W
      · exact many_noform p a a2 _ c m2 c2 hf hk W
    · exact many_nofew p a a2 _ c m2 c2 hf W
  refine walk.mono fun e W' hr => ?_
  obtain ⟨he, hb⟩ := hr
  subst he
  exact ⟨_, rfl, law_post Try.laidOut (by kernel_rfl) rfl (by kernel_rfl) Try.underlying4 hW' rfl hb⟩

theorem freeMany_holds : Rows.FreeManySaid :=
  OpenClaim.holds_of_wide 3 Try.f3 rfl rfl rfl rfl rfl rfl rfl ⟨rfl, rfl, rfl, rfl, rfl⟩ rfl rfl rfl rfl rfl (by kernel_rfl) Try.func3 (by kernel_rfl)
    (of_decide_eq_true (by kernel_rfl)) (by unfold Func.isWrapper; first | (rw [if_pos (by decide +kernel)]; kernel_rfl) | (rw [if_neg (by decide +kernel)]; exact ⟨rfl, rfl⟩))
    (fun os started H enc _ => freeMany_lifted os started H enc)

end Go.Proofs.Ytpidmbclgfnekaa
