/-
  Awake, few and Made of layer 13's laws. Conditions: those of each theorem.
-/
import Derived.Test.YthjklbonebnekaaGreatGbo
import Derived.Test.YthjklbonebnekaaGreatGbt
import Derived.Test.YthjklbonebnekaaGreatGbv
set_option maxRecDepth 8000
set_option maxHeartbeats 4000000
namespace Go.Proofs.YthjklbonebnekaaGreat
open Go Go.RowKit
abbrev s2s:Se:=⟨p2s,0,0⟩
theorem s2ok:s2s.ok:=by
 unfold Se.ok
 exact ⟨p2ok,by decide,by decide,by decide,by decide⟩
theorem r13wake_any (w:World):Calls Tryz.prog 33 #[] w (Ret (.bool true) w):=by
 have HL:=Lib.hid (fun W:World => laidZ_any p2s p2ok W)
 have HS:=Lib.hid (fun W:World => cnew_PT s2s 2 W)
 go_enter Tryz.func33,Tryz.ntmps33
 go_wp2_with (first
  | (go_at_call 42;refine (small_any _).mono ?_;rintro e w' hr;obtain ⟨rfl,sA,rfl⟩:=hr.over;clear hr)
  | (go_at_call 14;refine Hid.out ?_))
 refine Lib.hid ?_
 refine (HL.out _).mono ?_
 rintro e w1 ⟨lo,hi,L,M,rfl,hM,hF,hx,hlo⟩
 have hE:Ext w w1:=by
  refine ext_trans ?_ hx
  repeat (first | exact ext_refl _ | apply ext_over)
 have hlo1:w.heap.size ≤ lo:=Nat.le_trans (by first | exact Nat.le_refl _ | exact over_size _ _) hlo
 have hhi:=hM.top
 have HI:=Lib.hid (CBs.of hM hF.1.mg hE)
 have hA:=NIn.fresh p2ok hF.1 hF.2
 have ef:rfr (Pl.n p2s).toNat 0 = [0,1]:=rfl
 rw [ef] at hA
 obtain ⟨M1,r1,a1⟩:=newN_take p2ok hA (by omega) (kd:=0) (by omega) 0 0
 have r2:=cnw_run (tn:=0) r1
 rw [if_pos rfl] at r2
 have eT:cnewT s2s 2 = cnwT p2s 0 0 2:=by unfold cnewT;rw [if_pos s2ok]
 rw [eT] at HS
 obtain ⟨z,hz⟩ : ∃ z,Hn.word ⟨0,0,0⟩ = z:=⟨_,rfl⟩
 have hzp:0 < U z:=by rw [← hz];exact hn_pos _ (by unfold Hn.ok;decide)
 have r3:Runs (cnwT p2s 0 0 2) M 5 M1 ⟨0,z⟩:=by rw [← hz];exact r2
 have HR1:=Lib.hid r3
 have HG1:=Lib.hid a1.fl.mg
 have hzd:decide (0 < U z) = true:=decide_eq_true hzp
 clear hM hF hx hlo HL hA r1 a1 r2 r3 hz hE eT hzp
 go_wp2_with (go_at_call 42;refine (small_any _).mono ?_;rintro e w2 ⟨rfl,hx⟩;refine Hid.out ?_)
 refine Lib.hid ?_
 replace HI:=Lib.hid (HI.out.ext hx)
 clear hx
 go_wp2_with (go_at_call 48;refine (HS.out _).mono ?_;rintro e w3 ⟨v1,F1,rfl,hx2,hp1,hbn1,hsub1⟩;refine Hid.out ?_)
 refine Lib.hid ?_
 have HOF1:=Lib.hid (fun j (hj:F1 j) => (hsub1 j hj).elim (fun h => h.elim) fun h => (.inr (Nat.le_trans HI.out.m.top h):j < lo ∨ hi ≤ j))
 have HI2:=Lib.hid (HI.out.ext hx2)
 have HP1:=Lib.hid hp1
 have HBN1:=Lib.hid hbn1
 clear hx2 hp1 hbn1 hsub1
 go_wp2_with (go_at_call 18;refine (cap_int HI2.out.m 0 1#64 (by omega) (by rw [HI2.out.mg.n];omega) (Lib.hid HI2.out.mg.e)).mono ?_;rintro e w4 ⟨rfl,hx3⟩;refine Hid.out ?_)
 refine Lib.hid ?_
 have HI3:=Lib.hid (HI2.out.ext hx3)
 replace HP1:=Lib.hid (HP1.out.agr (Agr.of_ext hx3 HBN1.out))
 replace HBN1:=Lib.hid (HBN1.out.ext hx3.size)
 clear hx3
 go_wp2_with (go_at_call 37;refine (runR_any HR1.out 99 (by omega) (by omega) F1 v1 w4 HP1.out HBN1.out HOF1.out HI3.out.m).mono ?_;rintro e w5 ⟨rfl,hm4,hf4⟩;refine Hid.out ?_)
 refine Lib.hid ?_
 have HI4:=Lib.hid (HI3.out.ran hm4 hf4 HG1.out hlo1)
 clear hm4 hf4 HP1 HBN1 HOF1 HI HI2 HI3 HR1 HS HG1
 go_wp2
 go_ret
 exact Ret.mk (ext_trans HI4.out.ex (by repeat (first | exact ext_refl _ | apply ext_alloc)))
theorem r13few_any (p:Pl) (w:World) (r:Bool) (hr:Hid (r = true ↔ (p.few ∧ p.ok))):Calls Tryz.prog 34 #[plV p] w (Ret (.bool r) w):=by
 by_cases hf:p.few
 ·have HF:=Lib.hid hf
  by_cases hp:p.ok
  ·obtain rfl:r = true:=hr.out.2 ⟨hf,hp⟩
   have HP:=Lib.hid hp
   clear hf hp hr
   go_enter Tryz.func34,Tryz.ntmps34
   go_wp2_with (first
    | (go_at_call 41;refine (few_any p _ true (hid_yes HF.out)).mono ?_;rintro e w' hr;obtain ⟨rfl,s1,rfl⟩:=hr.over;clear hr)
    | (go_at_call 46;refine (rformed_any p _ true (hid_yes HP.out)).mono ?_;rintro e w' hr;obtain ⟨rfl,s2,rfl⟩:=hr.over;clear hr))
   go_ret
   exact Ret.bool (by first | rfl | simp) (by repeat (first | exact ext_refl _ | apply ext_over | apply ext_alloc))
  ·obtain rfl:r = false:=Bool.eq_false_iff.2 fun h => hp (hr.out.1 h).2
   have HP:=Lib.hid hp
   clear hf hp hr
   go_enter Tryz.func34,Tryz.ntmps34
   go_wp2_with (first
    | (go_at_call 41;refine (few_any p _ true (hid_yes HF.out)).mono ?_;rintro e w' hr;obtain ⟨rfl,s1,rfl⟩:=hr.over;clear hr)
    | (go_at_call 46;refine (rformed_any p _ false (hid_no HP.out)).mono ?_;rintro e w' hr;obtain ⟨rfl,s2,rfl⟩:=hr.over;clear hr))
   go_ret
   exact Ret.bool (by first | rfl | simp) (by repeat (first | exact ext_refl _ | apply ext_over | apply ext_alloc))
 ·obtain rfl:r = false:=Bool.eq_false_iff.2 fun h => hf (hr.out.1 h).1
  have HF:=Lib.hid hf
  clear hf hr
  go_enter Tryz.func34,Tryz.ntmps34
  go_wp2_with (go_at_call 41;refine (few_any p _ false (hid_no HF.out)).mono ?_;rintro e w' hr;obtain ⟨rfl,s1,rfl⟩:=hr.over;clear hr)
  go_ret
  exact Ret.bool (by first | rfl | simp) (by repeat (first | exact ext_refl _ | apply ext_over | apply ext_alloc))
def madeT (s:Se) (code fd:Int) (h a b:BitVec 64):Tr Rz:=
 if code = 1 then cnewT s 2 else if code = 2 then dropT s h 2 else if code = 3 then lookT s h fd getT else if code = 4 then lookT s h fd (fun x => wrtT x a) else lookT s h fd (fun x => swpT x a b)
theorem made_PT (s:Se) (code dd fd:Int) (h a b:BitVec 64) (w:World):Calls Tryz.prog 38 #[seV s,.agg #[.int .i64 code,.int .i64 dd,.int .i64 fd,.int .u64 (U h),.int .u64 (U a),.int .u64 (U b)]] w (RetP (PT kR (madeT s code fd h a b)) noF w):=by
 unfold madeT
 by_cases h1:code = 1
 ·subst h1
  rw [if_pos rfl]
  go_enter Tryz.func38,Tryz.ntmps38
  go_wp2_with (go_at_call 48;refine Hid.out ?_)
  refine Lib.hid ?_
  have ⟨hE,hb0,hb1,hb2,hW⟩:=al3 w (.cells #[.int .i64 s.p.n,.int .i64 s.p.t,.int .i64 s.p.r,.int .i64 s.p.d,.int .i64 s.p.b,.int .i64 s.p.g,.int .i64 s.tn,.int .i64 s.th] 82) (.cells #[.int .i64 1,.int .i64 dd,.int .i64 fd,.int .u64 (U h),.int .u64 (U a),.int .u64 (U b)] 89) (.cells #[.int .i64 0,.int .u64 0,.int .i64 0,.int .i64 0,.int .u64 0,.int .u64 0,.nilFunc,.pointer none] 99)
  generalize (((w.alloc (.cells #[.int .i64 s.p.n,.int .i64 s.p.t,.int .i64 s.p.r,.int .i64 s.p.d,.int .i64 s.p.b,.int .i64 s.p.g,.int .i64 s.tn,.int .i64 s.th] 82)).alloc (.cells #[.int .i64 1,.int .i64 dd,.int .i64 fd,.int .u64 (U h),.int .u64 (U a),.int .u64 (U b)] 89)).alloc (.cells #[.int .i64 0,.int .u64 0,.int .i64 0,.int .i64 0,.int .u64 0,.int .u64 0,.nilFunc,.pointer none] 99)) = W at hE hb0 hb1 hb2 hW ⊢
  clear hW
  refine (cnew_PT s 2 W).mono ?_
  rintro e w' hR
  obtain ⟨v',F',rfl,hX,hp,hbn,hsub,hnF,hbq⟩:=hR.tail (G:=noF) (w.heap.size+1+1) hE (heap_lt hb2) (fun h => h) (fun _ h => h.elim)
  have hbx:=hbq.trans hb2
  clear hbq hR
  clear hE hb0 hb1 hb2
  obtain ⟨y0,y1,a2,fn2,rfl,HFN,HX⟩:=tlR hp hX hbx hbn hsub hnF (by omega)
  obtain ⟨c0,c1,c2,c3,c4,c5,c6,c7,cz,ll⟩:=eit_of hbx
  clear hX hbx hp hbn hsub hnF
  rcases HFN.out with rfl | ⟨g',caps',rfl⟩
  all_goals
   go_wp2
   clear c0 c1 c2 c3 c4 c5 c6 c7 cz ll
   obtain ⟨hX,hB,hP⟩:=HX.out
   clear HX
   generalize (World.setCell _ (⟨w.heap.size+1+1,7,none⟩ : Addr) _) = Z at hX hB hP ⊢
   obtain ⟨c0,c1,c2,c3,c4,c5,c6,c7,cz,ll⟩:=eit_of hB
   exact bodyPost_ret (by simp only [results,Tryz.results38,go_sem];simp [go_sem,c0,c1,c2,c3,c4,c5,c6,c7]) rfl ⟨_,F',rfl,hX,hP⟩
 ·rw [if_neg h1]
  have e1:(code == 1) = false:=beq_eq_false_iff_ne.2 h1
  by_cases h2:code = 2
  ·subst h2
   rw [if_pos rfl]
   clear h1
   go_enter Tryz.func38,Tryz.ntmps38
   go_wp2_with (go_at_call 51;refine Hid.out ?_)
   refine Lib.hid ?_
   have ⟨hE,hb0,hb1,hb2,hW⟩:=al3 w (.cells #[.int .i64 s.p.n,.int .i64 s.p.t,.int .i64 s.p.r,.int .i64 s.p.d,.int .i64 s.p.b,.int .i64 s.p.g,.int .i64 s.tn,.int .i64 s.th] 82) (.cells #[.int .i64 2,.int .i64 dd,.int .i64 fd,.int .u64 (U h),.int .u64 (U a),.int .u64 (U b)] 89) (.cells #[.int .i64 0,.int .u64 0,.int .i64 0,.int .i64 0,.int .u64 0,.int .u64 0,.nilFunc,.pointer none] 99)
   generalize (((w.alloc (.cells #[.int .i64 s.p.n,.int .i64 s.p.t,.int .i64 s.p.r,.int .i64 s.p.d,.int .i64 s.p.b,.int .i64 s.p.g,.int .i64 s.tn,.int .i64 s.th] 82)).alloc (.cells #[.int .i64 2,.int .i64 dd,.int .i64 fd,.int .u64 (U h),.int .u64 (U a),.int .u64 (U b)] 89)).alloc (.cells #[.int .i64 0,.int .u64 0,.int .i64 0,.int .i64 0,.int .u64 0,.int .u64 0,.nilFunc,.pointer none] 99)) = W at hE hb0 hb1 hb2 hW ⊢
   clear hW
   refine (drop_PT s h 2 W).mono ?_
   rintro e w' hR
   obtain ⟨v',F',rfl,hX,hp,hbn,hsub,hnF,hbq⟩:=hR.tail (G:=noF) (w.heap.size+1+1) hE (heap_lt hb2) (fun h => h) (fun _ h => h.elim)
   have hbx:=hbq.trans hb2
   clear hbq hR
   clear hE hb0 hb1 hb2
   obtain ⟨y0,y1,a2,fn2,rfl,HFN,HX⟩:=tlR hp hX hbx hbn hsub hnF (by omega)
   obtain ⟨c0,c1,c2,c3,c4,c5,c6,c7,cz,ll⟩:=eit_of hbx
   clear hX hbx hp hbn hsub hnF
   rcases HFN.out with rfl | ⟨g',caps',rfl⟩
   all_goals
    go_wp2
    clear c0 c1 c2 c3 c4 c5 c6 c7 cz ll
    obtain ⟨hX,hB,hP⟩:=HX.out
    clear HX
    generalize (World.setCell _ (⟨w.heap.size+1+1,7,none⟩ : Addr) _) = Z at hX hB hP ⊢
    obtain ⟨c0,c1,c2,c3,c4,c5,c6,c7,cz,ll⟩:=eit_of hB
    exact bodyPost_ret (by simp only [results,Tryz.results38,go_sem];simp [go_sem,c0,c1,c2,c3,c4,c5,c6,c7]) rfl ⟨_,F',rfl,hX,hP⟩
  ·rw [if_neg h2]
   have e2:(code == 2) = false:=beq_eq_false_iff_ne.2 h2
   by_cases h3:code = 3
   ·subst h3
    rw [if_pos rfl]
    clear h1
    clear h2
    go_enter Tryz.func38,Tryz.ntmps38
    go_wp2_with (go_at_call 49;refine Hid.out ?_)
    refine Lib.hid ?_
    have ⟨hE,hb0,hb1,hb2,hW⟩:=al3 w (.cells #[.int .i64 s.p.n,.int .i64 s.p.t,.int .i64 s.p.r,.int .i64 s.p.d,.int .i64 s.p.b,.int .i64 s.p.g,.int .i64 s.tn,.int .i64 s.th] 82) (.cells #[.int .i64 3,.int .i64 dd,.int .i64 fd,.int .u64 (U h),.int .u64 (U a),.int .u64 (U b)] 89) (.cells #[.int .i64 0,.int .u64 0,.int .i64 0,.int .i64 0,.int .u64 0,.int .u64 0,.nilFunc,.pointer none] 99)
    generalize (((w.alloc (.cells #[.int .i64 s.p.n,.int .i64 s.p.t,.int .i64 s.p.r,.int .i64 s.p.d,.int .i64 s.p.b,.int .i64 s.p.g,.int .i64 s.tn,.int .i64 s.th] 82)).alloc (.cells #[.int .i64 3,.int .i64 dd,.int .i64 fd,.int .u64 (U h),.int .u64 (U a),.int .u64 (U b)] 89)).alloc (.cells #[.int .i64 0,.int .u64 0,.int .i64 0,.int .i64 0,.int .u64 0,.int .u64 0,.nilFunc,.pointer none] 99)) = W at hE hb0 hb1 hb2 hW ⊢
    clear hW
    refine (cread_PT s h fd W).mono ?_
    rintro e w' hR
    obtain ⟨v',F',rfl,hX,hp,hbn,hsub,hnF,hbq⟩:=hR.tail (G:=noF) (w.heap.size+1+1) hE (heap_lt hb2) (fun h => h) (fun _ h => h.elim)
    have hbx:=hbq.trans hb2
    clear hbq hR
    clear hE hb0 hb1 hb2
    obtain ⟨y0,y1,a2,fn2,rfl,HFN,HX⟩:=tlR hp hX hbx hbn hsub hnF (by omega)
    obtain ⟨c0,c1,c2,c3,c4,c5,c6,c7,cz,ll⟩:=eit_of hbx
    clear hX hbx hp hbn hsub hnF
    rcases HFN.out with rfl | ⟨g',caps',rfl⟩
    all_goals
     go_wp2
     clear c0 c1 c2 c3 c4 c5 c6 c7 cz ll
     obtain ⟨hX,hB,hP⟩:=HX.out
     clear HX
     generalize (World.setCell _ (⟨w.heap.size+1+1,7,none⟩ : Addr) _) = Z at hX hB hP ⊢
     obtain ⟨c0,c1,c2,c3,c4,c5,c6,c7,cz,ll⟩:=eit_of hB
     exact bodyPost_ret (by simp only [results,Tryz.results38,go_sem];simp [go_sem,c0,c1,c2,c3,c4,c5,c6,c7]) rfl ⟨_,F',rfl,hX,hP⟩
   ·rw [if_neg h3]
    have e3:(code == 3) = false:=beq_eq_false_iff_ne.2 h3
    by_cases h4:code = 4
    ·subst h4
     rw [if_pos rfl]
     clear h1
     clear h2
     clear h3
     go_enter Tryz.func38,Tryz.ntmps38
     go_wp2_with (go_at_call 50;refine Hid.out ?_)
     refine Lib.hid ?_
     have ⟨hE,hb0,hb1,hb2,hW⟩:=al3 w (.cells #[.int .i64 s.p.n,.int .i64 s.p.t,.int .i64 s.p.r,.int .i64 s.p.d,.int .i64 s.p.b,.int .i64 s.p.g,.int .i64 s.tn,.int .i64 s.th] 82) (.cells #[.int .i64 4,.int .i64 dd,.int .i64 fd,.int .u64 (U h),.int .u64 (U a),.int .u64 (U b)] 89) (.cells #[.int .i64 0,.int .u64 0,.int .i64 0,.int .i64 0,.int .u64 0,.int .u64 0,.nilFunc,.pointer none] 99)
     generalize (((w.alloc (.cells #[.int .i64 s.p.n,.int .i64 s.p.t,.int .i64 s.p.r,.int .i64 s.p.d,.int .i64 s.p.b,.int .i64 s.p.g,.int .i64 s.tn,.int .i64 s.th] 82)).alloc (.cells #[.int .i64 4,.int .i64 dd,.int .i64 fd,.int .u64 (U h),.int .u64 (U a),.int .u64 (U b)] 89)).alloc (.cells #[.int .i64 0,.int .u64 0,.int .i64 0,.int .i64 0,.int .u64 0,.int .u64 0,.nilFunc,.pointer none] 99)) = W at hE hb0 hb1 hb2 hW ⊢
     clear hW
     refine (cwrite_PT s h fd a W).mono ?_
     rintro e w' hR
     obtain ⟨v',F',rfl,hX,hp,hbn,hsub,hnF,hbq⟩:=hR.tail (G:=noF) (w.heap.size+1+1) hE (heap_lt hb2) (fun h => h) (fun _ h => h.elim)
     have hbx:=hbq.trans hb2
     clear hbq hR
     clear hE hb0 hb1 hb2
     obtain ⟨y0,y1,a2,fn2,rfl,HFN,HX⟩:=tlR hp hX hbx hbn hsub hnF (by omega)
     obtain ⟨c0,c1,c2,c3,c4,c5,c6,c7,cz,ll⟩:=eit_of hbx
     clear hX hbx hp hbn hsub hnF
     rcases HFN.out with rfl | ⟨g',caps',rfl⟩
     all_goals
      go_wp2
      clear c0 c1 c2 c3 c4 c5 c6 c7 cz ll
      obtain ⟨hX,hB,hP⟩:=HX.out
      clear HX
      generalize (World.setCell _ (⟨w.heap.size+1+1,7,none⟩ : Addr) _) = Z at hX hB hP ⊢
      obtain ⟨c0,c1,c2,c3,c4,c5,c6,c7,cz,ll⟩:=eit_of hB
      exact bodyPost_ret (by simp only [results,Tryz.results38,go_sem];simp [go_sem,c0,c1,c2,c3,c4,c5,c6,c7]) rfl ⟨_,F',rfl,hX,hP⟩
    ·rw [if_neg h4]
     have e4:(code == 4) = false:=beq_eq_false_iff_ne.2 h4
     clear h1 h2 h3 h4
     go_enter Tryz.func38,Tryz.ntmps38
     go_wp2_with (go_at_call 53;refine Hid.out ?_)
     refine Lib.hid ?_
     have ⟨hE,hb0,hb1,hb2,hW⟩:=al3 w (.cells #[.int .i64 s.p.n,.int .i64 s.p.t,.int .i64 s.p.r,.int .i64 s.p.d,.int .i64 s.p.b,.int .i64 s.p.g,.int .i64 s.tn,.int .i64 s.th] 82) (.cells #[.int .i64 code,.int .i64 dd,.int .i64 fd,.int .u64 (U h),.int .u64 (U a),.int .u64 (U b)] 89) (.cells #[.int .i64 0,.int .u64 0,.int .i64 0,.int .i64 0,.int .u64 0,.int .u64 0,.nilFunc,.pointer none] 99)
     generalize (((w.alloc (.cells #[.int .i64 s.p.n,.int .i64 s.p.t,.int .i64 s.p.r,.int .i64 s.p.d,.int .i64 s.p.b,.int .i64 s.p.g,.int .i64 s.tn,.int .i64 s.th] 82)).alloc (.cells #[.int .i64 code,.int .i64 dd,.int .i64 fd,.int .u64 (U h),.int .u64 (U a),.int .u64 (U b)] 89)).alloc (.cells #[.int .i64 0,.int .u64 0,.int .i64 0,.int .i64 0,.int .u64 0,.int .u64 0,.nilFunc,.pointer none] 99)) = W at hE hb0 hb1 hb2 hW ⊢
     clear hW
     refine (cswap_PT s h fd a b W).mono ?_
     rintro e w' hR
     obtain ⟨v',F',rfl,hX,hp,hbn,hsub,hnF,hbq⟩:=hR.tail (G:=noF) (w.heap.size+1+1) hE (heap_lt hb2) (fun h => h) (fun _ h => h.elim)
     have hbx:=hbq.trans hb2
     clear hbq hR
     clear hE hb0 hb1 hb2
     obtain ⟨y0,y1,a2,fn2,rfl,HFN,HX⟩:=tlR hp hX hbx hbn hsub hnF (by omega)
     obtain ⟨c0,c1,c2,c3,c4,c5,c6,c7,cz,ll⟩:=eit_of hbx
     clear hX hbx hp hbn hsub hnF
     rcases HFN.out with rfl | ⟨g',caps',rfl⟩
     all_goals
      go_wp2
      clear c0 c1 c2 c3 c4 c5 c6 c7 cz ll
      obtain ⟨hX,hB,hP⟩:=HX.out
      clear HX
      generalize (World.setCell _ (⟨w.heap.size+1+1,7,none⟩ : Addr) _) = Z at hX hB hP ⊢
      obtain ⟨c0,c1,c2,c3,c4,c5,c6,c7,cz,ll⟩:=eit_of hB
      exact bodyPost_ret (by simp only [results,Tryz.results38,go_sem];simp [go_sem,c0,c1,c2,c3,c4,c5,c6,c7]) rfl ⟨_,F',rfl,hX,hP⟩
end Go.Proofs.YthjklbonebnekaaGreat

