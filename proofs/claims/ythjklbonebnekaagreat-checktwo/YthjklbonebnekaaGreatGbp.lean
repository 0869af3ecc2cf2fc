/-
  Awake, few and Made of layer 13's laws. Conditions: those of each theorem.
-/
import Derived.Test.YthjklbonebnekaaGreatGab
import Derived.Test.YthjklbonebnekaaGreatGaq
import Derived.Test.YthjklbonebnekaaGreatGbb
import Derived.Test.YthjklbonebnekaaGreatGbc
import Derived.Test.YthjklbonebnekaaGreatGbf
import Derived.Test.YthjklbonebnekaaGreatGbg
import Derived.Test.YthjklbonebnekaaGreatGbj
import Derived.Test.YthjklbonebnekaaGreatGbl
import Derived.Test.YthjklbonebnekaaGreatGbo
set_option maxRecDepth 8000
set_option maxHeartbeats 4000000
namespace Go.Proofs.YthjklbonebnekaaGreat
open Go Go.RowKit
abbrev s2s:Se:=⟨p2s,0,0⟩
theorem s2ok:s2s.ok:=by
 unfold Se.ok
 exact ⟨p2ok,by decide,by decide,by decide,by decide⟩
theorem r13wake_any (w:World):Calls Tryz.prog 33 #[] w (Ret (.bool true) w):=by
 have HL:=Lib.hid (fun W:World => laidZ_any p2s p2ok W)
 have HS:=Lib.hid (fun W:World => cnew_PT s2s 2 W)
 go_enter Tryz.func33,Tryz.ntmps33
 go_wp2_with (first
  | (go_at_call 42;refine (small_any _).mono ?_;rintro e w' hr;obtain ⟨rfl,sA,rfl⟩:=hr.over;clear hr)
  | (go_at_call 14;refine Hid.out ?_))
 refine Lib.hid ?_
 refine (HL.out _).mono ?_
 rintro e w1 ⟨lo,hi,L,M,rfl,hM,hF,hx,hlo⟩
 have hE:Ext w w1:=by
  refine ext_trans ?_ hx
  repeat (first | exact ext_refl _ | apply ext_over)
 have hlo1:w.heap.size ≤ lo:=Nat.le_trans (by first | exact Nat.le_refl _ | exact over_size _ _) hlo
 have hhi:=hM.top
 have HI:=Lib.hid (CBs.of hM hF.1.mg hE)
 have hA:=NIn.fresh p2ok hF.1 hF.2
 have ef:rfr (Pl.n p2s).toNat 0 = [0,1]:=rfl
 rw [ef] at hA
 obtain ⟨M1,r1,a1⟩:=newN_take p2ok hA (by omega) (kd:=0) (by omega) 0 0
 have r2:=cnw_run (tn:=0) r1
 rw [if_pos rfl] at r2
 have eT:cnewT s2s 2 = cnwT p2s 0 0 2:=by unfold cnewT;rw [if_pos s2ok]
 rw [eT] at HS
 obtain ⟨z,hz⟩ : ∃ z,Hn.word ⟨0,0,0⟩ = z:=⟨_,rfl⟩
 have hzp:0 < U z:=by rw [← hz];exact hn_pos _ (by unfold Hn.ok;decide)
 have r3:Runs (cnwT p2s 0 0 2) M 5 M1 ⟨0,z⟩:=by rw [← hz];exact r2
 have HR1:=Lib.hid r3
 have HG1:=Lib.hid a1.fl.mg
 have hzd:decide (0 < U z) = true:=decide_eq_true hzp
 clear hM hF hx hlo HL hA r1 a1 r2 r3 hz hE eT hzp
 go_wp2_with (go_at_call 42;refine (small_any _).mono ?_;rintro e w2 ⟨rfl,hx⟩;refine Hid.out ?_)
 refine Lib.hid ?_
 replace HI:=Lib.hid (HI.out.ext hx)
 clear hx
 go_wp2_with (go_at_call 48;refine (HS.out _).mono ?_;rintro e w3 ⟨v1,F1,rfl,hx2,hp1,hbn1,hsub1⟩;refine Hid.out ?_)
 refine Lib.hid ?_
 have HOF1:=Lib.hid (fun j (hj:F1 j) => (hsub1 j hj).elim (fun h => h.elim) fun h => (.inr (Nat.le_trans HI.out.m.top h):j < lo ∨ hi ≤ j))
 have HI2:=Lib.hid (HI.out.ext hx2)
 have HP1:=Lib.hid hp1
 have HBN1:=Lib.hid hbn1
 clear hx2 hp1 hbn1 hsub1
 go_wp2_with (go_at_call 18;refine (cap_int HI2.out.m 0 1#64 (by omega) (by rw [HI2.out.mg.n];omega) (Lib.hid HI2.out.mg.e)).mono ?_;rintro e w4 ⟨rfl,hx3⟩;refine Hid.out ?_)
 refine Lib.hid ?_
 have HI3:=Lib.hid (HI2.out.ext hx3)
 replace HP1:=Lib.hid (HP1.out.agr (Agr.of_ext hx3 HBN1.out))
 replace HBN1:=Lib.hid (HBN1.out.ext hx3.size)
 clear hx3
 go_wp2_with (go_at_call 37;refine (runR_any HR1.out 99 (by omega) (by omega) F1 v1 w4 HP1.out HBN1.out HOF1.out HI3.out.m).mono ?_;rintro e w5 ⟨rfl,hm4,hf4⟩;refine Hid.out ?_)
 refine Lib.hid ?_
 have HI4:=Lib.hid (HI3.out.ran hm4 hf4 HG1.out hlo1)
 clear hm4 hf4 HP1 HBN1 HOF1 HI HI2 HI3 HR1 HS HG1
 go_wp2
 go_ret
 exact Ret.mk (ext_trans HI4.out.ex (by repeat (first | exact ext_refl _ | apply ext_alloc)))
end Go.Proofs.YthjklbonebnekaaGreat

