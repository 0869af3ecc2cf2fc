/-
  CheckTwo: for every input the law returns true, and its arguments read as before. No conditions.
-/
import Derived.Test.YthjklbonebnekaaGreatGac
import Derived.Test.YthjklbonebnekaaGreatGbq
import Derived.Test.YthjklbonebnekaaGreatGbr
set_option maxRecDepth 8000
set_option maxHeartbeats 4000000
namespace Go.Proofs.YthjklbonebnekaaGreat
open Go Go.ChangeShapes Go.WideShapes Go.ChangeAt Go.RowKit Go.Joins
theorem Tryz.own:ownKnob Tryz.prog.godebug = none:=by kernel_rfl
theorem Tryz.laidOut:laidOutB Tryz.prog = true:=by kernel_rfl
set_option maxRecDepth 100000 in
theorem checkTwo_lifted (os:Os) (started:os.Started) (H:Type) (enc:TypeId × Value → H) :
  ReturnsInHanded {} Tryz.checked os 9 .any (Rows.checkTwoSpec.pre6 enc Tryz.prog Tryz.f9 Rows.checkTwoRow.domain false) (Rows.checkTwoSpec.post enc Tryz.prog Tryz.f9 false true false false):=by
 refine returnsInHanded_of_change (C:=Tryz.checked) Tryz.own started (by kernel_rfl) Tryz.func9
  (ChangeSpec.witness6 (enc:=enc) (C:=Tryz.checked) false ⟨#[],#[.int .i64 0,.int .u64 0,.int .u64 0],[]⟩ 8 (by kernel_rfl) (by kernel_rfl) (by kernel_rfl) (by kernel_rfl)) ?_
 intro W base args ds gs before hval0 hW hcnd _
 have hval:∀ (j:Nat) t v,Tryz.f9.params[j]? = some t → args[j]? = some v → Value.okWide Tryz.prog W .any base t v:=hval0
 have hW':=hW
 obtain ⟨p,q,hA0,hV,rfl,hfz,hnd⟩:=hW
 have hA:DataW.TrodAll enc Tryz.prog W 0 (fun _ => true) true Tryz.f9.params.toList args.toList ds p:=hA0
 rw [Tryz.params9] at hA hval
 obtain ⟨v0,v1,v2,d0,d1,d2,p0,p1,p2,rfl,rfl,rfl,h0,h1,h2⟩:=trodAll_three hA
 obtain ⟨rfl,rfl⟩:=trodVars_none hV
 obtain ⟨f,rfl,rfl,rfl,wf⟩:=open_int Tryz.underlying3 (hval 0 3 v0 rfl rfl) h0
 have bf:=bounds_i64 wf
 obtain ⟨v,rfl,rfl,rfl,wv⟩:=open_int Tryz.underlying40 (hval 1 40 v1 rfl rfl) h1
 obtain ⟨V',hv⟩:=word_of v (bounds_u64 wv).1 (bounds_u64 wv).2
 obtain ⟨u,rfl,rfl,rfl,wu⟩:=open_int Tryz.underlying40 (hval 2 40 v2 rfl rfl) h2
 obtain ⟨U',hu⟩:=word_of u (bounds_u64 wu).1 (bounds_u64 wu).2
 clear hA0 hval0
 have walk:Calls Tryz.prog 9 #[.int .i64 f,.int .u64 v,.int .u64 u] W (Ret (.bool true) W):=by
  rw [hv,hu]
  by_cases hf:0 ≤ f ∧ f ≤ 2
  ·exact ctwo_yes f V' U' hf.1 hf.2 W
  ·exact ctwo_no f V' U' hf W
 refine walk.mono fun e W' hr => ?_
 obtain ⟨he,hb⟩:=hr
 subst he
 exact ⟨_,rfl,law_post Tryz.laidOut (by kernel_rfl) rfl (by kernel_rfl) Tryz.underlying4 hW' rfl hb⟩
theorem checkTwo_holds:Rows.CheckTwoSaid:=
 OpenClaim.holds_of_wide 9 Tryz.f9 rfl rfl rfl rfl rfl rfl rfl ⟨rfl,rfl,rfl,rfl,rfl⟩ rfl rfl rfl rfl rfl (by kernel_rfl) Tryz.func9 (by kernel_rfl)
  (of_decide_eq_true (by kernel_rfl)) (by unfold Func.isWrapper;first | (rw [if_pos (by decide +kernel)];kernel_rfl) | (rw [if_neg (by decide +kernel)];exact ⟨rfl,rfl⟩))
  (fun os started H enc _ => checkTwo_lifted os started H enc)
end Go.Proofs.YthjklbonebnekaaGreat

