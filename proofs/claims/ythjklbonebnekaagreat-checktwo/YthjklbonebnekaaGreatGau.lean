/-
  What the laws' Laid comes to. Conditions: those of each theorem.
-/
import Derived.Test.YthjklbonebnekaaGreatGaa
import Derived.Test.YthjklbonebnekaaGreatGac
import Derived.Test.YthjklbonebnekaaGreatGal
import Derived.Test.YthjklbonebnekaaGreatGan
import Derived.Test.YthjklbonebnekaaGreatGaq
import Derived.Test.YthjklbonebnekaaGreatGas
import Derived.Test.YthjklbonebnekaaGreatGat
import Derived.ArgAppend
import Derived.OwnWalk
set_option maxRecDepth 8000
set_option maxHeartbeats 4000000
namespace Go.Proofs.YthjklbonebnekaaGreat
open Go Go.RowKit
def Zer (p:Pl) (M:MS):Prop:=∀ j,j ≠ 0 → (∀ m,InR p m → j ≠ nxN p m) → M.wd 0 j = 0#64
def RetLaidZ (p:Pl) (w:World) (e:Ending) (w':World):Prop:=
 ∃ lo hi L M,e = .returned (.pointer (some ⟨L.bm,0,none⟩)) ∧ MemIn lo hi L M w' ∧ (FL p M (rfr p.n.toNat 0) 0 ∧ Zer p M) ∧ Ext w w' ∧ w.heap.size ≤ lo
theorem fresh_keep {p:Pl} (hp:p.ok):∀ (k:Nat) (n:Int) (M M':MS) (s:Nat) (t:Tr Unit),0 ≤ n → n+k = p.n → runT 0 1#64 (k+1) (freshT p k n) M = some (M',s,t) → ∀ j,j ≠ 0 → (∀ m,InR p m → j ≠ nxN p m) → M'.wd 0 j = M.wd 0 j
 | 0,n,M,M',s,t,h0,h1,hr,j,hj0,hj => by
  replace hr:runT 0 1#64 1 (.ask (stA p.headF (putN 0 21 0#64 (nameW 0))) fun _ => .done ()) M = some (M',s,t):=hr
  rw [runT] at hr
  split at hr
  ·simp only [runT,Option.map_some,Option.some.injEq,Prod.mk.injEq] at hr
   obtain ⟨rfl,_,_⟩:=hr
   show (M.done 0 1 p.headF _ _).wd 0 j = _
   rw [wd_store,if_neg]
   rw [head_zero hp]
   exact hj0
  ·simp only [Option.some.injEq,Prod.mk.injEq] at hr
   rw [hr.1]
 | k+1,n,M,M',s,t,h0,h1,hr,j,hj0,hj => by
  replace hr:runT 0 1#64 (k+1+1) (.ask (stA (p.nxF n) (fnxW p n)) fun _ => freshT p k (n+1)) M = some (M',s,t):=hr
  rw [runT] at hr
  split at hr
  ·obtain ⟨x,hx,hy⟩:=Option.map_eq_some_iff.1 hr
   simp only [Prod.mk.injEq] at hy
   obtain ⟨rfl,_,rfl⟩:=hy
   have:=fresh_keep hp k (n+1) _ x.1 x.2.1 x.2.2 (by omega) (by omega) hx j hj0 hj
   rw [this]
   show (M.done 0 1 (p.nxF n) _ _).wd 0 j = _
   rw [wd_store,if_neg]
   exact hj n ⟨h0,by omega⟩
  ·simp only [Option.some.injEq,Prod.mk.injEq] at hr
   rw [hr.1]
theorem size_ok {p:Pl} (hp:p.ok):SizesOk [p.sizeF]:=⟨by simp,fun i hi => by
 obtain rfl:i = 0:=by simp at hi;omega
 have:=size_pos hp
 simp [iN,sumTo]
 omega⟩
theorem laidZ_any (p:Pl) (hp:p.ok) (w:World):Calls Tryz.prog 14 #[plV p] w (RetLaidZ p w):=by
 have hn1:p.n ≤ 1048576:=hp.1.2
 have hn0:1 ≤ p.n:=hp.1.1
 have e1:wrap64 (p.n+1) = p.n+1:=by unfold wrap64;omega
 obtain ⟨M',hrun,hfl⟩:=fresh_FL hp (Mg.zero p)
 have HRUN:=Lib.hid hrun
 have hzz:Zer p M':=by
  intro j hj0 hj
  rw [show (p.n+1).toNat = p.n.toNat+1 by omega] at hrun
  exact fresh_keep hp p.n.toNat 0 _ M' _ _ (by omega) (by omega) hrun j hj0 hj
 have HFL:=Lib.hid (And.intro hfl hzz)
 clear hzz
 have HP:=Lib.hid hp
 clear hrun hfl hp
 go_enter Tryz.func14,Tryz.ntmps14
 go_wp2_with (go_at_call 57;refine Hid.out ?_)
 refine Lib.hid ?_
 have hx0:Ext w (w.alloc (.cells #[.int .i64 p.n,.int .i64 p.t,.int .i64 p.r,.int .i64 p.d,.int .i64 p.b,.int .i64 p.g] 23)):=ext_alloc _ (ext_refl w)
 refine (size_any p _).mono ?_
 rintro e w1 ⟨rfl,hx⟩
 have hb0:PBox w.heap.size p w1:=(hx.block _ (by simp)).trans (heap_at w _ _ rfl)
 have hE:=ext_trans hx0 hx
 clear hx hx0
 have hlt0:=heap_lt hb0
 replace hE:=Lib.hid hE
 replace hb0:=Lib.hid hb0
 go_wp2_with (go_at_call 56;refine Hid.out ?_)
 refine Lib.hid ?_
 replace hE:=hE.out
 replace hb0:=hb0.out
 refine (new_law [p.sizeF] _ 1 (ext_refl w1) rfl rfl (size_ok HP.out)).mono ?_
 rintro e w2 ⟨lo,hi,L,rfl,hM,hx,hlo⟩
 replace hE:=ext_trans hE hx
 replace hb0:=hb0.ext hx
 have hM':MemIn lo hi L (M0 [p.sizeF] 1) w2:=hM
 replace hM:=hM'
 clear hx hM'
 have ⟨c0,c1,c2,c3,c4,c5,lt⟩:=hb0.plc
 have hhi:=hM.top
 have hb0lo:w.heap.size < lo:=by omega
 replace hE:=Lib.hid hE
 replace hb0:=Lib.hid hb0
 replace hM:=Lib.hid hM
 go_wp2
 refine wp_region_ways (fun x => ∃ s,x = off lo hi w2 s) (by kernel_rfl) (off_of ((Fr.refl lo hi w2).drew)) ?_
 refine ways_reads [0,2,3,5,6,7] (by kernel_rfl) ?_
 simp only [pickL,List.map_cons,List.map_nil,List.getD_cons_zero,List.getD_cons_succ]
 repeat (go_big_quiet_step (fail))
 refine wpQuiet_nil ?_
 clear c0 c1 c2 c3 c4 c5 lt
 have HZ:=Lib.hid ((Fr.refl lo hi w2).drew)
 have HM:=Lib.hid (hM.out.drew)
 have HX:=Lib.hid (ext_drew (ext_refl w2))
 have hsx:w2.heap.size ≤ w2.drew.heap.size:=Nat.le_refl _
 have hEw:=Lib.hid (ext_drew hE.out)
 generalize w2.drew = X at HZ HM HX hEw hsx ⊢
 refine ways_fork 13 (by kernel_rfl) ?_ (ways_act 1 (by kernel_rfl) ?_)
 ·simp only [pickL,List.map_cons,List.map_nil,List.getD_cons_zero,List.getD_cons_succ]
  go_wp2
  replace HZ:=Lib.hid (HZ.out.alloc (.cells #[] 132))
  replace HM:=Lib.hid (HM.out.alloc (.cells #[] 132))
  replace HX:=Lib.hid (ext_alloc (.cells #[] 132) HX.out)
  replace hEw:=Lib.hid (ext_alloc (.cells #[] 132) hEw.out)
  have hbx:=Lib.hid (heap_at X (.cells #[] 132) X.heap.size rfl)
  have hlx:w2.heap.size ≤ X.heap.size:=hsx
  replace hsx:w2.heap.size ≤ (X.alloc (.cells #[] 132)).heap.size:=by simp;omega
  refine mixQ_mk (off_of HZ.out) ?_
  generalize X.alloc (.cells #[] 132) = X2 at HZ HM hEw hbx hsx HX ⊢
  generalize X.heap.size = bx at hbx hlx ⊢
  refine ways_act 1 (by kernel_rfl) ?_
  simp only [pickL,List.map_cons,List.map_nil,List.getD_cons_zero,List.getD_cons_succ]
  go_wp2_with (go_at_call 59;refine (fresh_PT p (by omega) hn1 _).mono ?_;rintro e X1 ⟨v1,F1,rfl,hx,hp,hbn,hsub⟩;refine Hid.out ?_)
  refine Lib.hid ?_
  have hof:∀ j,F1 j → j < lo ∨ hi ≤ j:=fun j hj => (hsub j hj).elim (fun h => h.elim) fun h => .inr (by omega)
  have hp1:=Lib.hid hp
  have hbn1:=Lib.hid hbn
  have hof1:=Lib.hid hof
  replace HZ:=Lib.hid (HZ.out.ext hx)
  replace HM:=Lib.hid (HM.out.ext hx)
  replace HX:=Lib.hid (ext_trans HX.out hx)
  replace hEw:=Lib.hid (ext_trans hEw.out hx)
  replace hbx:=Lib.hid ((hx.block _ (heap_lt hbx.out)).trans hbx.out)
  replace hsx:=Nat.le_trans hsx hx.size
  clear hx hp hbn hsub hof
  go_wp2
  refine mixQ_mk (off_of HZ.out) ?_
  refine ways_act 4 (by kernel_rfl) ?_
  simp only [pickL,List.map_cons,List.map_nil,List.getD_cons_zero,List.getD_cons_succ]
  go_wp2_with (go_at_call 18;refine (cap_int HM.out 0 1#64 (by omega) (show (0:Int) < ((1:Nat):Int) by omega) (Lib.hid rfl)).mono ?_;rintro e X3 ⟨rfl,hx⟩;refine Hid.out ?_)
  refine Lib.hid ?_
  replace HZ:=Lib.hid (HZ.out.ext hx)
  replace HM:=Lib.hid (HM.out.ext hx)
  replace HX:=Lib.hid (ext_trans HX.out hx)
  replace hEw:=Lib.hid (ext_trans hEw.out hx)
  replace hp1:=Lib.hid (hp1.out.agr (Agr.of_ext hx hbn1.out))
  replace hbn1:=Lib.hid (hbn1.out.ext hx.size)
  replace hbx:=Lib.hid ((hx.block _ (heap_lt hbx.out)).trans hbx.out)
  replace hsx:=Nat.le_trans hsx hx.size
  clear hx
  go_wp2
  refine mixQ_mk (off_of HZ.out) ?_
  refine ways_act 8 (by kernel_rfl) ?_
  simp only [pickL,List.map_cons,List.map_nil,List.getD_cons_zero,List.getD_cons_succ]
  go_wp2_with (go_at_call 58;refine (run_N (freshT p p.n.toNat 0) F1 _ 0 1#64 (p.n+1) _ _ (by omega) HRUN.out hp1.out hbn1.out hof1.out HM.out).mono ?_;rintro e X4 ⟨rfl,hm,hf⟩;refine Hid.out ?_)
  refine Lib.hid ?_
  replace HZ:=Lib.hid (HZ.out.trans hf)
  replace HM:=Lib.hid hm
  replace hEw:=Lib.hid (hf.below hEw.out (by omega))
  replace hbx:=Lib.hid ((hf.block _ (heap_lt hbx.out) (.inr (by omega))).trans hbx.out)
  replace hsx:=Nat.le_trans hsx hf.size
  clear hf hm hp1 hbn1 hof1 HX
  simp only [ans_N,ovT]
  go_wp2
  refine mixQ_mk (off_of HZ.out) ?_
  refine ways_reads [9,10,11,12] (by kernel_rfl) ?_
  simp only [pickL,List.map_cons,List.map_nil,List.getD_cons_zero,List.getD_cons_succ]
  repeat (go_big_quiet_step (fail))
  refine wpQuiet_nil ?_
  refine ways_act 14 (by kernel_rfl) ?_
  simp only [pickL,List.map_cons,List.map_nil,List.getD_cons_zero,List.getD_cons_succ]
  have lbx:=heap_lt hbx.out
  go_wp2
  refine mixQ_mk (off_of HZ.out) ?_
  refine ways_reads [15,16] (by kernel_rfl) ?_
  simp only [pickL,List.map_cons,List.map_nil,List.getD_cons_zero,List.getD_cons_succ]
  repeat (go_big_quiet_step (fail))
  refine wpQuiet_nil ?_
  refine ways_end (by kernel_rfl) ?_
  go_wp2
  go_ret
  exact ⟨lo,hi,L,M',rfl,HM.out,HFL.out,hEw.out,by omega⟩
 ·simp only [pickL,List.map_cons,List.map_nil,List.getD_cons_zero,List.getD_cons_succ]
  go_wp2_with (go_at_call 59;refine (fresh_PT p (by omega) hn1 _).mono ?_;rintro e X1 ⟨v1,F1,rfl,hx,hp,hbn,hsub⟩;refine Hid.out ?_)
  refine Lib.hid ?_
  have hof:∀ j,F1 j → j < lo ∨ hi ≤ j:=fun j hj => (hsub j hj).elim (fun h => h.elim) fun h => .inr (by omega)
  have hp1:=Lib.hid hp
  have hbn1:=Lib.hid hbn
  have hof1:=Lib.hid hof
  replace HZ:=Lib.hid (HZ.out.ext hx)
  replace HM:=Lib.hid (HM.out.ext hx)
  replace HX:=Lib.hid (ext_trans HX.out hx)
  replace hEw:=Lib.hid (ext_trans hEw.out hx)
  replace hsx:=Nat.le_trans hsx hx.size
  clear hx hp hbn hsub hof
  go_wp2
  refine mixQ_mk (off_of HZ.out) ?_
  refine ways_fork 13 (by kernel_rfl) ?_ (ways_act 4 (by kernel_rfl) ?_)
  ·simp only [pickL,List.map_cons,List.map_nil,List.getD_cons_zero,List.getD_cons_succ]
   go_wp2
   replace HZ:=Lib.hid (HZ.out.alloc (.cells #[] 132))
   replace HM:=Lib.hid (HM.out.alloc (.cells #[] 132))
   replace HX:=Lib.hid (ext_alloc (.cells #[] 132) HX.out)
   replace hEw:=Lib.hid (ext_alloc (.cells #[] 132) hEw.out)
   replace hp1:=Lib.hid (hp1.out.agr (Agr.of_ext (ext_alloc (.cells #[] 132) (ext_refl X1)) hbn1.out))
   replace hbn1:=Lib.hid (hbn1.out.ext (w':=X1.alloc (.cells #[] 132)) (by simp))
   have hbx:=Lib.hid (heap_at X1 (.cells #[] 132) X1.heap.size rfl)
   have hlx:w2.heap.size ≤ X1.heap.size:=hsx
   replace hsx:w2.heap.size ≤ (X1.alloc (.cells #[] 132)).heap.size:=by simp;omega
   refine mixQ_mk (off_of HZ.out) ?_
   generalize X1.alloc (.cells #[] 132) = X2 at HZ HM hEw hbx hsx HX hp1 hbn1 ⊢
   generalize X1.heap.size = bx at hbx hlx ⊢
   refine ways_act 4 (by kernel_rfl) ?_
   simp only [pickL,List.map_cons,List.map_nil,List.getD_cons_zero,List.getD_cons_succ]
   go_wp2_with (go_at_call 18;refine (cap_int HM.out 0 1#64 (by omega) (show (0:Int) < ((1:Nat):Int) by omega) (Lib.hid rfl)).mono ?_;rintro e X3 ⟨rfl,hx⟩;refine Hid.out ?_)
   refine Lib.hid ?_
   replace HZ:=Lib.hid (HZ.out.ext hx)
   replace HM:=Lib.hid (HM.out.ext hx)
   replace HX:=Lib.hid (ext_trans HX.out hx)
   replace hEw:=Lib.hid (ext_trans hEw.out hx)
   replace hp1:=Lib.hid (hp1.out.agr (Agr.of_ext hx hbn1.out))
   replace hbn1:=Lib.hid (hbn1.out.ext hx.size)
   replace hbx:=Lib.hid ((hx.block _ (heap_lt hbx.out)).trans hbx.out)
   replace hsx:=Nat.le_trans hsx hx.size
   clear hx
   go_wp2
   refine mixQ_mk (off_of HZ.out) ?_
   refine ways_act 8 (by kernel_rfl) ?_
   simp only [pickL,List.map_cons,List.map_nil,List.getD_cons_zero,List.getD_cons_succ]
   go_wp2_with (go_at_call 58;refine (run_N (freshT p p.n.toNat 0) F1 _ 0 1#64 (p.n+1) _ _ (by omega) HRUN.out hp1.out hbn1.out hof1.out HM.out).mono ?_;rintro e X4 ⟨rfl,hm,hf⟩;refine Hid.out ?_)
   refine Lib.hid ?_
   replace HZ:=Lib.hid (HZ.out.trans hf)
   replace HM:=Lib.hid hm
   replace hEw:=Lib.hid (hf.below hEw.out (by omega))
   replace hbx:=Lib.hid ((hf.block _ (heap_lt hbx.out) (.inr (by omega))).trans hbx.out)
   replace hsx:=Nat.le_trans hsx hf.size
   clear hf hm hp1 hbn1 hof1 HX
   simp only [ans_N,ovT]
   go_wp2
   refine mixQ_mk (off_of HZ.out) ?_
   refine ways_reads [9,10,11,12] (by kernel_rfl) ?_
   simp only [pickL,List.map_cons,List.map_nil,List.getD_cons_zero,List.getD_cons_succ]
   repeat (go_big_quiet_step (fail))
   refine wpQuiet_nil ?_
   refine ways_act 14 (by kernel_rfl) ?_
   simp only [pickL,List.map_cons,List.map_nil,List.getD_cons_zero,List.getD_cons_succ]
   have lbx:=heap_lt hbx.out
   go_wp2
   refine mixQ_mk (off_of HZ.out) ?_
   refine ways_reads [15,16] (by kernel_rfl) ?_
   simp only [pickL,List.map_cons,List.map_nil,List.getD_cons_zero,List.getD_cons_succ]
   repeat (go_big_quiet_step (fail))
   refine wpQuiet_nil ?_
   refine ways_end (by kernel_rfl) ?_
   go_wp2
   go_ret
   exact ⟨lo,hi,L,M',rfl,HM.out,HFL.out,hEw.out,by omega⟩
  ·simp only [pickL,List.map_cons,List.map_nil,List.getD_cons_zero,List.getD_cons_succ]
   go_wp2_with (go_at_call 18;refine (cap_int HM.out 0 1#64 (by omega) (show (0:Int) < ((1:Nat):Int) by omega) (Lib.hid rfl)).mono ?_;rintro e X3 ⟨rfl,hx⟩;refine Hid.out ?_)
   refine Lib.hid ?_
   replace HZ:=Lib.hid (HZ.out.ext hx)
   replace HM:=Lib.hid (HM.out.ext hx)
   replace HX:=Lib.hid (ext_trans HX.out hx)
   replace hEw:=Lib.hid (ext_trans hEw.out hx)
   replace hp1:=Lib.hid (hp1.out.agr (Agr.of_ext hx hbn1.out))
   replace hbn1:=Lib.hid (hbn1.out.ext hx.size)
   replace hsx:=Nat.le_trans hsx hx.size
   clear hx
   go_wp2
   refine mixQ_mk (off_of HZ.out) ?_
   refine ways_fork 13 (by kernel_rfl) ?_ (ways_act 8 (by kernel_rfl) ?_)
   ·simp only [pickL,List.map_cons,List.map_nil,List.getD_cons_zero,List.getD_cons_succ]
    go_wp2
    replace HZ:=Lib.hid (HZ.out.alloc (.cells #[] 132))
    replace HM:=Lib.hid (HM.out.alloc (.cells #[] 132))
    replace HX:=Lib.hid (ext_alloc (.cells #[] 132) HX.out)
    replace hEw:=Lib.hid (ext_alloc (.cells #[] 132) hEw.out)
    replace hp1:=Lib.hid (hp1.out.agr (Agr.of_ext (ext_alloc (.cells #[] 132) (ext_refl X3)) hbn1.out))
    replace hbn1:=Lib.hid (hbn1.out.ext (w':=X3.alloc (.cells #[] 132)) (by simp))
    have hbx:=Lib.hid (heap_at X3 (.cells #[] 132) X3.heap.size rfl)
    have hlx:w2.heap.size ≤ X3.heap.size:=hsx
    replace hsx:w2.heap.size ≤ (X3.alloc (.cells #[] 132)).heap.size:=by simp;omega
    refine mixQ_mk (off_of HZ.out) ?_
    generalize X3.alloc (.cells #[] 132) = X2 at HZ HM hEw hbx hsx HX hp1 hbn1 ⊢
    generalize X3.heap.size = bx at hbx hlx ⊢
    refine ways_act 8 (by kernel_rfl) ?_
    simp only [pickL,List.map_cons,List.map_nil,List.getD_cons_zero,List.getD_cons_succ]
    go_wp2_with (go_at_call 58;refine (run_N (freshT p p.n.toNat 0) F1 _ 0 1#64 (p.n+1) _ _ (by omega) HRUN.out hp1.out hbn1.out hof1.out HM.out).mono ?_;rintro e X4 ⟨rfl,hm,hf⟩;refine Hid.out ?_)
    refine Lib.hid ?_
    replace HZ:=Lib.hid (HZ.out.trans hf)
    replace HM:=Lib.hid hm
    replace hEw:=Lib.hid (hf.below hEw.out (by omega))
    replace hbx:=Lib.hid ((hf.block _ (heap_lt hbx.out) (.inr (by omega))).trans hbx.out)
    replace hsx:=Nat.le_trans hsx hf.size
    clear hf hm hp1 hbn1 hof1 HX
    simp only [ans_N,ovT]
    go_wp2
    refine mixQ_mk (off_of HZ.out) ?_
    refine ways_reads [9,10,11,12] (by kernel_rfl) ?_
    simp only [pickL,List.map_cons,List.map_nil,List.getD_cons_zero,List.getD_cons_succ]
    repeat (go_big_quiet_step (fail))
    refine wpQuiet_nil ?_
    refine ways_act 14 (by kernel_rfl) ?_
    simp only [pickL,List.map_cons,List.map_nil,List.getD_cons_zero,List.getD_cons_succ]
    have lbx:=heap_lt hbx.out
    go_wp2
    refine mixQ_mk (off_of HZ.out) ?_
    refine ways_reads [15,16] (by kernel_rfl) ?_
    simp only [pickL,List.map_cons,List.map_nil,List.getD_cons_zero,List.getD_cons_succ]
    repeat (go_big_quiet_step (fail))
    refine wpQuiet_nil ?_
    refine ways_end (by kernel_rfl) ?_
    go_wp2
    go_ret
    exact ⟨lo,hi,L,M',rfl,HM.out,HFL.out,hEw.out,by omega⟩
   ·simp only [pickL,List.map_cons,List.map_nil,List.getD_cons_zero,List.getD_cons_succ]
    go_wp2_with (go_at_call 58;refine (run_N (freshT p p.n.toNat 0) F1 _ 0 1#64 (p.n+1) _ _ (by omega) HRUN.out hp1.out hbn1.out hof1.out HM.out).mono ?_;rintro e X4 ⟨rfl,hm,hf⟩;refine Hid.out ?_)
    refine Lib.hid ?_
    replace HZ:=Lib.hid (HZ.out.trans hf)
    replace HM:=Lib.hid hm
    replace hEw:=Lib.hid (hf.below hEw.out (by omega))
    replace hsx:=Nat.le_trans hsx hf.size
    clear hf hm hp1 hbn1 hof1 HX
    simp only [ans_N,ovT]
    go_wp2
    refine mixQ_mk (off_of HZ.out) ?_
    refine ways_reads [9,10,11,12] (by kernel_rfl) ?_
    simp only [pickL,List.map_cons,List.map_nil,List.getD_cons_zero,List.getD_cons_succ]
    repeat (go_big_quiet_step (fail))
    refine wpQuiet_nil ?_
    refine ways_act 13 (by kernel_rfl) ?_
    simp only [pickL,List.map_cons,List.map_nil,List.getD_cons_zero,List.getD_cons_succ]
    go_wp2
    replace HZ:=Lib.hid (HZ.out.alloc (.cells #[] 132))
    replace HM:=Lib.hid (HM.out.alloc (.cells #[] 132))
    replace hEw:=Lib.hid (ext_alloc (.cells #[] 132) hEw.out)
    have hbx:=Lib.hid (heap_at X4 (.cells #[] 132) X4.heap.size rfl)
    have hlx:w2.heap.size ≤ X4.heap.size:=hsx
    replace hsx:w2.heap.size ≤ (X4.alloc (.cells #[] 132)).heap.size:=by simp;omega
    refine mixQ_mk (off_of HZ.out) ?_
    generalize X4.alloc (.cells #[] 132) = X2 at HZ HM hEw hbx hsx ⊢
    generalize X4.heap.size = bx at hbx hlx ⊢
    refine ways_act 14 (by kernel_rfl) ?_
    simp only [pickL,List.map_cons,List.map_nil,List.getD_cons_zero,List.getD_cons_succ]
    have lbx:=heap_lt hbx.out
    go_wp2
    refine mixQ_mk (off_of HZ.out) ?_
    refine ways_reads [15,16] (by kernel_rfl) ?_
    simp only [pickL,List.map_cons,List.map_nil,List.getD_cons_zero,List.getD_cons_succ]
    repeat (go_big_quiet_step (fail))
    refine wpQuiet_nil ?_
    refine ways_end (by kernel_rfl) ?_
    go_wp2
    go_ret
    exact ⟨lo,hi,L,M',rfl,HM.out,HFL.out,hEw.out,by omega⟩
def hzN (p:Pl) (i:Nat):Nat:=(p.dom p.d).toNat+i
def hzW (p:Pl) (M:MS) (i:Nat):BitVec 64:=M.wd 0 (hzN p i)
theorem hazF_eq {p:Pl} (hp:p.ok) {t s:Int} (h0:0 ≤ t) (h1:t < p.t) (h2:0 ≤ s) (h3:s < 3):p.hazF t s = p.dom p.d+(3 * t+s) ∧ (p.hazF t s).toNat = hzN p (3 * t+s).toNat:=by
 have hd:=Pl.dom_in hp (Pl.d_in hp).1 (Pl.d_in hp).2
 have e:p.hazF t s = p.dom p.d+(3 * t+s):=by
  unfold Pl.hazF
  rw [if_pos ⟨hp,⟨h0,h1⟩,h2,h3⟩]
  unfold Pl.haz
  omega
 refine ⟨e,?_⟩
 rw [e]
 unfold hzN
 omega
theorem haz_size {p:Pl} (hp:p.ok) {i:Int} (h0:0 ≤ i) (h1:i < 3 * p.t):1 ≤ p.dom p.d+i ∧ p.dom p.d+i < p.nod 0 ∧ p.nod 0 < p.sizeF:=by
 have hd:=Pl.dom_in hp (Pl.d_in hp).1 (Pl.d_in hp).2
 have h2:=(Pl.cnt_b hp (Pl.t_in hp).1 (Pl.t_in hp).2).1
 unfold Pl.sizeF
 rw [if_pos hp]
 unfold Pl.nod Pl.cnt Pl.haz at *
 unfold Pl.ok at hp
 omega
theorem hz_ne {p:Pl} (hp:p.ok) {i:Nat} (h1:(i:Int) < 3 * p.t):hzN p i ≠ 0 ∧ ∀ m,InR p m → hzN p i ≠ nxN p m:=by
 have h:=haz_size hp (i:=(i:Int)) (by omega) h1
 have hd:=Pl.dom_in hp (Pl.d_in hp).1 (Pl.d_in hp).2
 refine ⟨by unfold hzN;omega,fun m hm => ?_⟩
 have h2:=nx_eq hp hm
 have h3:=nx_in hp hm
 have h4:=hm.1
 unfold Pl.nod at h
 unfold hzN nxN
 omega
theorem hz_inj {p:Pl} {i j:Nat} (e:hzN p i = hzN p j):i = j:=by unfold hzN at e;omega
def Runs {α:Type} (t:Tr α) (M:MS) (k:Nat) (M':MS) (x:α):Prop:=∀ q,runT 0 1#64 (k+q) t M = some (M',k,.done x)
theorem runT_done {α:Type} (x:α) (M:MS) (q:Nat):runT 0 1#64 q (.done x) M = some (M,0,.done x):=by cases q <;> rfl
theorem Runs.done {α:Type} (x:α) (M:MS):Runs (.done x) M 0 M x:=fun _ => runT_done x M _
theorem Runs.ask {α:Type} {a:Acc} {f:BitVec 64 → Tr α} {M M':MS} {k:Nat} {x:α} (h:DoOk M 0 1#64 a.op a.at_) (hr:Runs (f (M.wd 0 a.at_.toNat)) (M.done 0 a.op a.at_ a.a a.b) k M' x):Runs (.ask a f) M (k+1) M' x:=fun q => by
 rw [show k+1+q = (k+q)+1 by omega,runT,if_pos h]
 show Option.map _ (runT 0 1#64 (k+q) (f (M.wd 0 a.at_.toNat)) _) = _
 rw [hr q]
 rfl
theorem runs_of {α:Type}:∀ (n:Nat) (t:Tr α) (M M':MS) (k:Nat) (x:α),runT 0 1#64 n t M = some (M',k,.done x) → Runs t M k M' x
 | 0,t,M,M',k,x,h => by
  rw [runT] at h
  cases h
  exact Runs.done x M
 | n+1,.done r,M,M',k,x,h => by
  rw [runT] at h
  cases h
  exact Runs.done _ M
 | n+1,.more,M,M',k,x,h => by
  rw [runT] at h
  cases h
 | n+1,.ask a f,M,M',k,x,h => by
  rw [runT] at h
  by_cases hd:DoOk M 0 1#64 a.op a.at_
  ·rw [if_pos hd] at h
   obtain ⟨y,h1,h2⟩:=Option.map_eq_some_iff.1 h
   obtain ⟨M1,k1,t1⟩:=y
   simp only [Prod.mk.injEq] at h2
   obtain ⟨rfl,rfl,rfl⟩:=h2
   exact Runs.ask hd (runs_of n _ _ _ _ _ h1)
  ·rw [if_neg hd] at h
   cases h
theorem Runs.bind {α β:Type}:∀ {t:Tr α} {f:α → Tr β} {M M1 M2:MS} {k1 k2:Nat} {x:α} {y:β},Runs t M k1 M1 x → Runs (f x) M1 k2 M2 y → Runs (t.bind f) M (k1+k2) M2 y
 | .done r,f,M,M1,M2,k1,k2,x,y,h1,h2 => by
  have h:=h1 0
  rw [runT_done] at h
  cases h
  rw [Nat.zero_add]
  exact h2
 | .more,f,M,M1,M2,k1,k2,x,y,h1,h2 => by
  have h:=h1 1
  rw [runT] at h
  cases h
 | .ask a g,f,M,M1,M2,k1,k2,x,y,h1,h2 => by
  have h:=h1 1
  rw [runT] at h
  by_cases hd:DoOk M 0 1#64 a.op a.at_
  ·rw [if_pos hd] at h
   obtain ⟨z,hz1,hz2⟩:=Option.map_eq_some_iff.1 h
   obtain ⟨M3,k3,t3⟩:=z
   simp only [Prod.mk.injEq] at hz2
   obtain ⟨rfl,rfl,rfl⟩:=hz2
   have hr:=runs_of _ _ _ _ _ _ hz1
   rw [show k3+1+k2 = (k3+k2)+1 by omega]
   exact Runs.ask hd (Runs.bind hr h2)
  ·rw [if_neg hd] at h
   cases h
theorem Runs.run {α:Type} {t:Tr α} {M M':MS} {k:Nat} {x:α} (h:Runs t M k M' x) {n:Nat} (hn:k ≤ n):runT 0 1#64 n t M = some (M',k,.done x):=by
 have:=h (n - k)
 rwa [show k+(n - k) = n by omega] at this
theorem Runs.get {p:Pl} {M:MS} (hM:Mg p M) {at_:Int} (h0:0 ≤ at_) (h1:at_ < p.sizeF):Runs (getT at_) M 1 (M.done 0 0 at_ 0#64 0#64) (M.wd 0 at_.toNat):=
 Runs.ask (a:=ldA at_) (hM.ok h0 h1 (by show (0:Int) ≤ 0;omega) (by show (0:Int) ≤ 3;omega)) (Runs.done _ _)
theorem Runs.set {p:Pl} {M:MS} (hM:Mg p M) {at_:Int} (x:BitVec 64) (h0:0 ≤ at_) (h1:at_ < p.sizeF):Runs (setT at_ x) M 1 (M.done 0 1 at_ x 0#64) ():=
 Runs.ask (a:=stA at_ x) (hM.ok h0 h1 (by show (0:Int) ≤ 1;omega) (by show (1:Int) ≤ 3;omega)) (Runs.done _ _)
def Only {α:Type} (S:Nat → Prop):Tr α → Prop
 | .done _ => True
 | .more => True
 | .ask a f => (a.op = 0 ∨ S a.at_.toNat) ∧ ∀ x,Only S (f x)
theorem Only.bind {α β:Type} {S:Nat → Prop}:∀ {t:Tr α} {f:α → Tr β},Only S t → (∀ x,Only S (f x)) → Only S (t.bind f)
 | .done r,_,_,h => h r
 | .more,_,_,_ => trivial
 | .ask _ _,_,h1,h2 => ⟨h1.1,fun x => (h1.2 x).bind h2⟩
theorem only_run {α:Type} {S:Nat → Prop}:∀ (n:Nat) {t:Tr α} {M M':MS} {k:Nat} {t':Tr α},Only S t → runT 0 1#64 n t M = some (M',k,t') → ∀ j,¬ S j → M'.wd 0 j = M.wd 0 j
 | 0,t,M,M',k,t',_,h,j,hj => by
  rw [runT] at h
  cases h
  rfl
 | n+1,.done r,M,M',k,t',_,h,j,hj => by
  rw [runT] at h
  cases h
  rfl
 | n+1,.more,M,M',k,t',_,h,j,hj => by
  rw [runT] at h
  cases h
 | n+1,.ask a f,M,M',k,t',ho,h,j,hj => by
  rw [runT] at h
  by_cases hd:DoOk M 0 1#64 a.op a.at_
  ·rw [if_pos hd] at h
   obtain ⟨y,h1,h2⟩:=Option.map_eq_some_iff.1 h
   obtain ⟨M1,k1,t1⟩:=y
   simp only [Prod.mk.injEq] at h2
   obtain ⟨rfl,_,_⟩:=h2
   rw [only_run n (ho.2 _) h1 j hj,wd_done]
   split
   ·rename_i hje
    rcases ho.1 with h0 | h0
    ·rw [h0,hje]
     rfl
    ·exact absurd (hje ▸ h0) hj
   ·rfl
  ·rw [if_neg hd] at h
   cases h
   rfl
theorem Runs.only {α:Type} {S:Nat → Prop} {t:Tr α} {M M':MS} {k:Nat} {x:α} (h:Runs t M k M' x) (ho:Only S t):∀ j,¬ S j → M'.wd 0 j = M.wd 0 j:=fun j hj => only_run _ ho (h 0) j hj
theorem only_get (S:Nat → Prop) (at_:Int):Only S (getT at_):=⟨.inl rfl,fun _ => trivial⟩
theorem only_set {S:Nat → Prop} {at_:Int} {x:BitVec 64} (h:S at_.toNat):Only S (setT at_ x):=⟨.inr h,fun _ => trivial⟩
theorem only_try {S:Nat → Prop} {at_:Int} {x y:BitVec 64} (h:S at_.toNat):Only S (tryT at_ x y):=⟨.inr h,fun _ => trivial⟩
theorem only_sw {p:Pl} (hp:p.ok) {S:Nat → Prop} (h0:S 0) {h x:BitVec 64} {n:Int} {t:Tr Int} (ht:Only S t):Only S (swT p h x n t):=by
 refine Only.bind (only_try (by rw [head_zero hp];exact h0)) fun b => ?_
 cases b with
 | true => exact trivial
 | false => exact ht
theorem only_push {p:Pl} (hp:p.ok) {S:Nat → Prop} (h0:S 0) {n:Int} (hn:S (nxN p n)):∀ N,Only S (pushT p n N)
 | 0 => by
  unfold pushT
  split <;> exact trivial
 | N+1 => by
  unfold pushT
  split
  ·exact trivial
  ·exact (only_get S _).bind fun h => (only_set hn).bind fun _ => only_sw hp h0 (only_push hp h0 hn N)
theorem only_pop {p:Pl} (hp:p.ok) {S:Nat → Prop} (h0:S 0):∀ N,Only S (popT p N)
 | 0 => trivial
 | N+1 => by
  unfold popT
  refine (only_get S _).bind fun h => ?_
  unfold pop1T
  split
  ·exact trivial
  ·exact (only_get S _).bind fun _ => only_sw hp h0 (only_pop hp h0 N)
def sdN (p:Pl) (n:Int):Nat:=(p.stF n).toNat
def fdN (p:Pl) (n o:Int):Nat:=(p.fdF n o).toNat
def cnN (p:Pl) (t:Int):Nat:=(p.cntF t).toNat
def rtN (p:Pl) (t i:Int):Nat:=(p.retF t i).toNat
theorem node_pl {p:Pl} (hp:p.ok) {n:Int} (hn:InR p n):p.stF n = p.nod 0+n * 5 ∧ p.nxF n = p.nod 0+n * 5+1 ∧ (∀ o,0 ≤ o → o < 3 → p.fdF n o = p.nod 0+n * 5+2+o) ∧ 1 ≤ p.nod 0 ∧ p.nod 0+n * 5+5 ≤ p.sizeF:=by
 have h0:=Pl.nod_in hp (x:=0) (by omega) (by have:=hp.1;omega)
 have hs:p.sizeF = p.nod p.n:=by unfold Pl.sizeF;rw [if_pos hp]
 refine ⟨?_,?_,fun o h1 h2 => ?_,h0.1,?_⟩
 ·unfold Pl.stF
  rw [if_pos ⟨hp,hn.1,hn.2⟩]
  unfold Pl.nod
  omega
 ·unfold Pl.nxF
  rw [if_pos ⟨hp,hn.1,hn.2⟩]
  unfold Pl.nod
  omega
 ·unfold Pl.fdF
  rw [if_pos ⟨hp,⟨hn.1,hn.2⟩,h1,h2⟩]
  unfold Pl.nod
  omega
 ·rw [hs]
  unfold Pl.nod
  have:=hn.2
  omega
theorem bq_lt {a n k:Int} (h:a < n) (hk:0 ≤ k):a * k+k ≤ n * k:=by
 have:=Int.mul_le_mul_of_nonneg_right (show a+1 ≤ n by omega) hk
 rw [Int.add_mul] at this
 omega
theorem thr_pl {p:Pl} (hp:p.ok) {t:Int} (h0:0 ≤ t) (h1:t < p.t):p.cntF t = p.cnt t ∧ (∀ i,0 ≤ i → i < p.r → p.retF t i = p.cnt t+1+i) ∧ p.haz p.t ≤ p.cnt t ∧ p.cnt t+1+p.r ≤ p.nod 0 ∧ 1 ≤ p.haz p.t ∧ p.nod 0 < p.sizeF:=by
 have h2:=Pl.haz_in hp (x:=p.t) (by omega) (Int.le_refl _)
 have h3:=bq_lt h1 (show 0 ≤ 1+p.r by unfold Pl.ok at hp;omega)
 have h4:=Int.mul_nonneg h0 (show 0 ≤ 1+p.r by unfold Pl.ok at hp;omega)
 refine ⟨?_,fun i h5 h6 => ?_,?_,?_,h2.1,?_⟩
 ·unfold Pl.cntF
  rw [if_pos ⟨hp,h0,h1⟩]
 ·unfold Pl.retF
  rw [if_pos ⟨hp,⟨h0,h1⟩,h5,h6⟩]
 ·unfold Pl.cnt
  omega
 ·unfold Pl.nod Pl.cnt
  omega
 ·unfold Pl.sizeF
  rw [if_pos hp]
  unfold Pl.nod
  have:=hp.1
  omega
theorem hz_pl {p:Pl} (hp:p.ok) {i:Nat} (h:(i:Int) < 3 * p.t):1 ≤ hzN p i ∧ (hzN p i:Int) < p.haz p.t:=by
 have hd:=Pl.dom_in hp (Pl.d_in hp).1 (Pl.d_in hp).2
 unfold hzN Pl.haz
 omega
theorem FL.of {p:Pl} {M M':MS} {l:List Int} {T:Nat} (h:FL p M l T) (hm:Mg p M') (h0:M'.wd 0 0 = M.wd 0 0) (hn:∀ n,InR p n → M'.wd 0 (nxN p n) = M.wd 0 (nxN p n)):FL p M' l T:=
 ⟨hm,by rw [h0];exact h.hd,by rw [h0];exact h.tg,h.ch.congr fun n hn' => hn n (h.rg n hn'),h.nd,h.rg⟩
structure RTs (p:Pl) (M:MS) (t:Int) (l:List Int):Prop where
 len:(l.length:Int) ≤ p.r
 cn:M.wd 0 (cnN p t) = cntW l.length
 rt:∀ i,i < l.length → M.wd 0 (rtN p t (i:Int)) = nameW (iN l i)
 rg:∀ n ∈ l,InR p n
theorem RTs.of {p:Pl} {M M':MS} {t:Int} {l:List Int} (hp:p.ok) (h0:0 ≤ t) (h1:t < p.t) (h:RTs p M t l) (hw:∀ j:Nat,p.cnt t ≤ j → (j:Int) < p.cnt t+1+p.r → M'.wd 0 j = M.wd 0 j):RTs p M' t l:=by
 obtain ⟨q1,q2,q3,q4,q5,q6⟩:=thr_pl hp h0 h1
 have hr:1 ≤ p.r:=by unfold Pl.ok at hp;omega
 have hl:=h.len
 refine ⟨h.len,?_,fun i hi => ?_,h.rg⟩
 ·rw [hw _ (by unfold cnN;omega) (by unfold cnN;omega)]
  exact h.cn
 ·have:=q2 (i:Int) (by omega) (by omega)
  rw [hw _ (by unfold rtN;omega) (by unfold rtN;omega)]
  exact h.rt i hi
end Go.Proofs.YthjklbonebnekaaGreat

