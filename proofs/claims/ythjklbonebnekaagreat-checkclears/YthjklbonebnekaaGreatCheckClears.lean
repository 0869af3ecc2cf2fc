/-
  CheckClears: for every input the law returns true, and its arguments read as before. No conditions.
-/
import Derived.Test.YthjklbonebnekaaGreatGad
import Derived.Test.YthjklbonebnekaaGreatGbz
import Derived.Test.YthjklbonebnekaaGreatGca
set_option maxRecDepth 8000
set_option maxHeartbeats 4000000
namespace Go.Proofs.YthjklbonebnekaaGreat
open Go Go.ChangeShapes Go.WideShapes Go.ChangeAt Go.RowKit Go.Joins
theorem Tryz.own:ownKnob Tryz.prog.godebug = none:=by kernel_rfl
theorem Tryz.laidOut:laidOutB Tryz.prog = true:=by kernel_rfl
theorem Tryz.cells23:Tryz.prog.cellsOf 23 = 6:=by kernel_rfl
theorem Tryz.cells91:Tryz.prog.cellsOf 91 = 8:=by kernel_rfl
set_option maxRecDepth 100000 in
theorem checkClears_lifted (os:Os) (started:os.Started) (H:Type) (enc:TypeId × Value → H) :
  ReturnsInHanded {} Tryz.checked os 10 .any (Rows.checkClearsSpec.pre6 enc Tryz.prog Tryz.f10 Rows.checkClearsRow.domain false) (Rows.checkClearsSpec.post enc Tryz.prog Tryz.f10 false true false false):=by
 refine returnsInHanded_of_change (C:=Tryz.checked) Tryz.own started (by kernel_rfl) Tryz.func10
  (ChangeSpec.witness6 (enc:=enc) (C:=Tryz.checked) false ⟨#[],#[.agg #[.int .i64 0,.int .i64 0,.int .i64 0,.int .i64 0,.int .i64 0,.int .i64 0],.slice none 0 0],[]⟩ 8 (by kernel_rfl) (by kernel_rfl) (by kernel_rfl) (by kernel_rfl)) ?_
 intro W base args ds gs before hval0 hW hcnd _
 have hval:∀ (j:Nat) t v,Tryz.f10.params[j]? = some t → args[j]? = some v → Value.okWide Tryz.prog W .any base t v:=hval0
 have hW':=hW
 obtain ⟨p,q,hA0,hV,rfl,hfz,hnd⟩:=hW
 have hA:DataW.TrodAll enc Tryz.prog W 0 (fun _ => true) true Tryz.f10.params.toList args.toList ds p:=hA0
 rw [Tryz.params10] at hA hval
 obtain ⟨v0,v1,d0,d1,p0,p1,rfl,rfl,rfl,h0,h1⟩:=trodAll_two hA
 obtain ⟨rfl,rfl⟩:=trodVars_none hV
 obtain ⟨x0,rfl,wx0⟩:=agg_of_trod 6 (fun _ => .i64) Tryz.underlying23 Tryz.cells23 (by kernel_rfl) (hval 0 23 v0 rfl rfl) h0
 obtain ⟨p,hp⟩ : ∃ q:Pl,q = ⟨x0 0,x0 1,x0 2,x0 3,x0 4,x0 5⟩:=⟨_,rfl⟩
 have ep:(Value.agg ((List.range 6).map fun j => Value.int IntKind.i64 (x0 j)).toArray) = plV p:=by subst hp;rfl
 rw [ep] at hW' ⊢
 obtain ⟨n,xp,hxp⟩:=rs_of_trod 8 pickKd Tryz.underlying80 Tryz.cells91 (by decide) (by kernel_rfl) (hval 1 80 v1 rfl rfl) h1
 have hpk:=pks_of_rs hxp
 clear hA0 hval0
 have walk:Calls Tryz.prog 10 #[plV p,v1] W (Ret (.bool true) W):=by
  obtain ⟨a0,cap,rfl,_,_⟩:=id hpk
  by_cases hf:p.few ∧ p.ok
  ·by_cases hl:n ≤ 60
   ·exact ccl_yes p hf a0 n cap _ W hl (Lib.hid hpk)
   ·exact ccl_long p a0 n cap hf (by omega) W
  ·exact ccl_nofew p a0 n cap hf W
 refine walk.mono fun e W' hr => ?_
 obtain ⟨he,hb⟩:=hr
 subst he
 exact ⟨_,rfl,law_post Tryz.laidOut (by kernel_rfl) rfl (by kernel_rfl) Tryz.underlying4 hW' rfl hb⟩
theorem checkClears_holds:Rows.CheckClearsSaid:=
 OpenClaim.holds_of_wide 10 Tryz.f10 rfl rfl rfl rfl rfl rfl rfl ⟨rfl,rfl,rfl,rfl,rfl⟩ rfl rfl rfl rfl rfl (by kernel_rfl) Tryz.func10 (by kernel_rfl)
  (of_decide_eq_true (by kernel_rfl)) (by unfold Func.isWrapper;first | (rw [if_pos (by decide +kernel)];kernel_rfl) | (rw [if_neg (by decide +kernel)];exact ⟨rfl,rfl⟩))
  (fun os started H enc _ => checkClears_lifted os started H enc)
end Go.Proofs.YthjklbonebnekaaGreat

