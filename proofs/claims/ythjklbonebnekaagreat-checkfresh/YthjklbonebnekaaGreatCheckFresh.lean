/-
  CheckFresh: for every input the law returns true, and its arguments read as before. No conditions.
-/
import Derived.Test.YthjklbonebnekaaGreatGad
import Derived.Test.YthjklbonebnekaaGreatGbx
import Derived.Test.YthjklbonebnekaaGreatGby
set_option maxRecDepth 8000
set_option maxHeartbeats 4000000
namespace Go.Proofs.YthjklbonebnekaaGreat
open Go Go.ChangeShapes Go.WideShapes Go.ChangeAt Go.RowKit Go.Joins
theorem Tryz.own:ownKnob Tryz.prog.godebug = none:=by kernel_rfl
theorem Tryz.laidOut:laidOutB Tryz.prog = true:=by kernel_rfl
theorem Tryz.cells23:Tryz.prog.cellsOf 23 = 6:=by kernel_rfl
set_option maxRecDepth 100000 in
theorem checkFresh_lifted (os:Os) (started:os.Started) (H:Type) (enc:TypeId × Value → H) :
  ReturnsInHanded {} Tryz.checked os 7 .any (Rows.checkFreshSpec.pre6 enc Tryz.prog Tryz.f7 Rows.checkFreshRow.domain false) (Rows.checkFreshSpec.post enc Tryz.prog Tryz.f7 false true false false):=by
 refine returnsInHanded_of_change (C:=Tryz.checked) Tryz.own started (by kernel_rfl) Tryz.func7
  (ChangeSpec.witness6 (enc:=enc) (C:=Tryz.checked) false ⟨#[],#[.agg #[.int .i64 0,.int .i64 0,.int .i64 0,.int .i64 0,.int .i64 0,.int .i64 0],.int .u8 0,.int .u64 0],[]⟩ 8 (by kernel_rfl) (by kernel_rfl) (by kernel_rfl) (by kernel_rfl)) ?_
 intro W base args ds gs before hval0 hW hcnd _
 have hval:∀ (j:Nat) t v,Tryz.f7.params[j]? = some t → args[j]? = some v → Value.okWide Tryz.prog W .any base t v:=hval0
 have hW':=hW
 obtain ⟨p,q,hA0,hV,rfl,hfz,hnd⟩:=hW
 have hA:DataW.TrodAll enc Tryz.prog W 0 (fun _ => true) true Tryz.f7.params.toList args.toList ds p:=hA0
 rw [Tryz.params7] at hA hval
 obtain ⟨v0,v1,v2,d0,d1,d2,p0,p1,p2,rfl,rfl,rfl,h0,h1,h2⟩:=trodAll_three hA
 obtain ⟨rfl,rfl⟩:=trodVars_none hV
 obtain ⟨x0,rfl,wx0⟩:=agg_of_trod 6 (fun _ => .i64) Tryz.underlying23 Tryz.cells23 (by kernel_rfl) (hval 0 23 v0 rfl rfl) h0
 obtain ⟨p,hp⟩ : ∃ q:Pl,q = ⟨x0 0,x0 1,x0 2,x0 3,x0 4,x0 5⟩:=⟨_,rfl⟩
 have ep:(Value.agg ((List.range 6).map fun j => Value.int IntKind.i64 (x0 j)).toArray) = plV p:=by subst hp;rfl
 rw [ep] at hW' ⊢
 obtain ⟨turns,rfl,rfl,rfl,wturns⟩:=open_int Tryz.underlying5 (hval 1 5 v1 rfl rfl) h1
 have bturns:=bounds_u8 wturns
 obtain ⟨v,rfl,rfl,rfl,wv⟩:=open_int Tryz.underlying40 (hval 2 40 v2 rfl rfl) h2
 obtain ⟨V',hv⟩:=word_of v (bounds_u64 wv).1 (bounds_u64 wv).2
 clear hA0 hval0
 have walk:Calls Tryz.prog 7 #[plV p,.int .u8 turns,.int .u64 v] W (Ret (.bool true) W):=by
  rw [hv]
  by_cases hf:p.few ∧ p.ok
  ·exact cfr_yes p hf turns bturns.1 (by omega) V' W
  ·exact cfr_nofew p turns V' hf W
 refine walk.mono fun e W' hr => ?_
 obtain ⟨he,hb⟩:=hr
 subst he
 exact ⟨_,rfl,law_post Tryz.laidOut (by kernel_rfl) rfl (by kernel_rfl) Tryz.underlying4 hW' rfl hb⟩
theorem checkFresh_holds:Rows.CheckFreshSaid:=
 OpenClaim.holds_of_wide 7 Tryz.f7 rfl rfl rfl rfl rfl rfl rfl ⟨rfl,rfl,rfl,rfl,rfl⟩ rfl rfl rfl rfl rfl (by kernel_rfl) Tryz.func7 (by kernel_rfl)
  (of_decide_eq_true (by kernel_rfl)) (by unfold Func.isWrapper;first | (rw [if_pos (by decide +kernel)];kernel_rfl) | (rw [if_neg (by decide +kernel)];exact ⟨rfl,rfl⟩))
  (fun os started H enc _ => checkFresh_lifted os started H enc)
end Go.Proofs.YthjklbonebnekaaGreat

