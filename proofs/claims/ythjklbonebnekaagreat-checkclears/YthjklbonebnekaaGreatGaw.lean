/-
  What the laws' Laid comes to. Conditions: those of each theorem.
-/
import Derived.Test.YthjklbonebnekaaGreatGam
import Derived.Test.YthjklbonebnekaaGreatGar
import Derived.Test.YthjklbonebnekaaGreatGau
import Derived.Test.YthjklbonebnekaaGreatGav
set_option maxRecDepth 8000
set_option maxHeartbeats 4000000
namespace Go.Proofs.YthjklbonebnekaaGreat
open Go Go.RowKit
def Zer (p:Pl) (M:MS):Prop:=∀ j,j ≠ 0 → (∀ m,InR p m → j ≠ nxN p m) → M.wd 0 j = 0#64
def RetLaidZ (p:Pl) (w:World) (e:Ending) (w':World):Prop:=
 ∃ lo hi L M,e = .returned (.pointer (some ⟨L.bm,0,none⟩)) ∧ MemIn lo hi L M w' ∧ (FL p M (rfr p.n.toNat 0) 0 ∧ Zer p M) ∧ Ext w w' ∧ w.heap.size ≤ lo
theorem fresh_keep {p:Pl} (hp:p.ok):∀ (k:Nat) (n:Int) (M M':MS) (s:Nat) (t:Tr Unit),0 ≤ n → n+k = p.n → runT 0 1#64 (k+1) (freshT p k n) M = some (M',s,t) → ∀ j,j ≠ 0 → (∀ m,InR p m → j ≠ nxN p m) → M'.wd 0 j = M.wd 0 j
 | 0,n,M,M',s,t,h0,h1,hr,j,hj0,hj => by
  replace hr:runT 0 1#64 1 (.ask (stA p.headF (putN 0 21 0#64 (nameW 0))) fun _ => .done ()) M = some (M',s,t):=hr
  rw [runT] at hr
  split at hr
  ·simp only [runT,Option.map_some,Option.some.injEq,Prod.mk.injEq] at hr
   obtain ⟨rfl,_,_⟩:=hr
   show (M.done 0 1 p.headF _ _).wd 0 j = _
   rw [wd_store,if_neg]
   rw [head_zero hp]
   exact hj0
  ·simp only [Option.some.injEq,Prod.mk.injEq] at hr
   rw [hr.1]
 | k+1,n,M,M',s,t,h0,h1,hr,j,hj0,hj => by
  replace hr:runT 0 1#64 (k+1+1) (.ask (stA (p.nxF n) (fnxW p n)) fun _ => freshT p k (n+1)) M = some (M',s,t):=hr
  rw [runT] at hr
  split at hr
  ·obtain ⟨x,hx,hy⟩:=Option.map_eq_some_iff.1 hr
   simp only [Prod.mk.injEq] at hy
   obtain ⟨rfl,_,rfl⟩:=hy
   have:=fresh_keep hp k (n+1) _ x.1 x.2.1 x.2.2 (by omega) (by omega) hx j hj0 hj
   rw [this]
   show (M.done 0 1 (p.nxF n) _ _).wd 0 j = _
   rw [wd_store,if_neg]
   exact hj n ⟨h0,by omega⟩
  ·simp only [Option.some.injEq,Prod.mk.injEq] at hr
   rw [hr.1]
theorem size_ok {p:Pl} (hp:p.ok):SizesOk [p.sizeF]:=⟨by simp,fun i hi => by
 obtain rfl:i = 0:=by simp at hi;omega
 have:=size_pos hp
 simp [iN,sumTo]
 omega⟩
theorem laidZ_any (p:Pl) (hp:p.ok) (w:World):Calls Tryz.prog 14 #[plV p] w (RetLaidZ p w):=by
 have hn1:p.n ≤ 1048576:=hp.1.2
 have hn0:1 ≤ p.n:=hp.1.1
 have e1:wrap64 (p.n+1) = p.n+1:=by unfold wrap64;omega
 obtain ⟨M',hrun,hfl⟩:=fresh_FL hp (Mg.zero p)
 have HRUN:=Lib.hid hrun
 have hzz:Zer p M':=by
  intro j hj0 hj
  rw [show (p.n+1).toNat = p.n.toNat+1 by omega] at hrun
  exact fresh_keep hp p.n.toNat 0 _ M' _ _ (by omega) (by omega) hrun j hj0 hj
 have HFL:=Lib.hid (And.intro hfl hzz)
 clear hzz
 have HP:=Lib.hid hp
 clear hrun hfl hp
 go_enter Tryz.func14,Tryz.ntmps14
 go_wp2_with (go_at_call 57;refine Hid.out ?_)
 refine Lib.hid ?_
 have hx0:Ext w (w.alloc (.cells #[.int .i64 p.n,.int .i64 p.t,.int .i64 p.r,.int .i64 p.d,.int .i64 p.b,.int .i64 p.g] 23)):=ext_alloc _ (ext_refl w)
 refine (size_any p _).mono ?_
 rintro e w1 ⟨rfl,hx⟩
 have hb0:PBox w.heap.size p w1:=(hx.block _ (by simp)).trans (heap_at w _ _ rfl)
 have hE:=ext_trans hx0 hx
 clear hx hx0
 have hlt0:=heap_lt hb0
 replace hE:=Lib.hid hE
 replace hb0:=Lib.hid hb0
 go_wp2_with (go_at_call 56;refine Hid.out ?_)
 refine Lib.hid ?_
 replace hE:=hE.out
 replace hb0:=hb0.out
 refine (new_law [p.sizeF] _ 1 (ext_refl w1) rfl rfl (size_ok HP.out)).mono ?_
 rintro e w2 ⟨lo,hi,L,rfl,hM,hx,hlo⟩
 replace hE:=ext_trans hE hx
 replace hb0:=hb0.ext hx
 have hM':MemIn lo hi L (M0 [p.sizeF] 1) w2:=hM
 replace hM:=hM'
 clear hx hM'
 have ⟨c0,c1,c2,c3,c4,c5,lt⟩:=hb0.plc
 have hhi:=hM.top
 have hb0lo:w.heap.size < lo:=by omega
 replace hE:=Lib.hid hE
 replace hb0:=Lib.hid hb0
 replace hM:=Lib.hid hM
 go_wp2
 refine wp_region_ways (fun x => ∃ s,x = off lo hi w2 s) (by kernel_rfl) (off_of ((Fr.refl lo hi w2).drew)) ?_
 refine ways_reads [0,2,3,5,6,7] (by kernel_rfl) ?_
 simp only [pickL,List.map_cons,List.map_nil,List.getD_cons_zero,List.getD_cons_succ]
 repeat (go_big_quiet_step (fail))
 refine wpQuiet_nil ?_
 clear c0 c1 c2 c3 c4 c5 lt
 have HZ:=Lib.hid ((Fr.refl lo hi w2).drew)
 have HM:=Lib.hid (hM.out.drew)
 have HX:=Lib.hid (ext_drew (ext_refl w2))
 have hsx:w2.heap.size ≤ w2.drew.heap.size:=Nat.le_refl _
 have hEw:=Lib.hid (ext_drew hE.out)
 generalize w2.drew = X at HZ HM HX hEw hsx ⊢
 refine ways_fork 13 (by kernel_rfl) ?_ (ways_act 1 (by kernel_rfl) ?_)
 ·simp only [pickL,List.map_cons,List.map_nil,List.getD_cons_zero,List.getD_cons_succ]
  go_wp2
  replace HZ:=Lib.hid (HZ.out.alloc (.cells #[] 132))
  replace HM:=Lib.hid (HM.out.alloc (.cells #[] 132))
  replace HX:=Lib.hid (ext_alloc (.cells #[] 132) HX.out)
  replace hEw:=Lib.hid (ext_alloc (.cells #[] 132) hEw.out)
  have hbx:=Lib.hid (heap_at X (.cells #[] 132) X.heap.size rfl)
  have hlx:w2.heap.size ≤ X.heap.size:=hsx
  replace hsx:w2.heap.size ≤ (X.alloc (.cells #[] 132)).heap.size:=by simp;omega
  refine mixQ_mk (off_of HZ.out) ?_
  generalize X.alloc (.cells #[] 132) = X2 at HZ HM hEw hbx hsx HX ⊢
  generalize X.heap.size = bx at hbx hlx ⊢
  refine ways_act 1 (by kernel_rfl) ?_
  simp only [pickL,List.map_cons,List.map_nil,List.getD_cons_zero,List.getD_cons_succ]
  go_wp2_with (go_at_call 59;refine (fresh_PT p (by omega) hn1 _).mono ?_;rintro e X1 ⟨v1,F1,rfl,hx,hp,hbn,hsub⟩;refine Hid.out ?_)
  refine Lib.hid ?_
  have hof:∀ j,F1 j → j < lo ∨ hi ≤ j:=fun j hj => (hsub j hj).elim (fun h => h.elim) fun h => .inr (by omega)
  have hp1:=Lib.hid hp
  have hbn1:=Lib.hid hbn
  have hof1:=Lib.hid hof
  replace HZ:=Lib.hid (HZ.out.ext hx)
  replace HM:=Lib.hid (HM.out.ext hx)
  replace HX:=Lib.hid (ext_trans HX.out hx)
  replace hEw:=Lib.hid (ext_trans hEw.out hx)
  replace hbx:=Lib.hid ((hx.block _ (heap_lt hbx.out)).trans hbx.out)
  replace hsx:=Nat.le_trans hsx hx.size
  clear hx hp hbn hsub hof
  go_wp2
  refine mixQ_mk (off_of HZ.out) ?_
  refine ways_act 4 (by kernel_rfl) ?_
  simp only [pickL,List.map_cons,List.map_nil,List.getD_cons_zero,List.getD_cons_succ]
  go_wp2_with (go_at_call 18;refine (cap_int HM.out 0 1#64 (by omega) (show (0:Int) < ((1:Nat):Int) by omega) (Lib.hid rfl)).mono ?_;rintro e X3 ⟨rfl,hx⟩;refine Hid.out ?_)
  refine Lib.hid ?_
  replace HZ:=Lib.hid (HZ.out.ext hx)
  replace HM:=Lib.hid (HM.out.ext hx)
  replace HX:=Lib.hid (ext_trans HX.out hx)
  replace hEw:=Lib.hid (ext_trans hEw.out hx)
  replace hp1:=Lib.hid (hp1.out.agr (Agr.of_ext hx hbn1.out))
  replace hbn1:=Lib.hid (hbn1.out.ext hx.size)
  replace hbx:=Lib.hid ((hx.block _ (heap_lt hbx.out)).trans hbx.out)
  replace hsx:=Nat.le_trans hsx hx.size
  clear hx
  go_wp2
  refine mixQ_mk (off_of HZ.out) ?_
  refine ways_act 8 (by kernel_rfl) ?_
  simp only [pickL,List.map_cons,List.map_nil,List.getD_cons_zero,List.getD_cons_succ]
  go_wp2_with (go_at_call 58;refine (run_N (freshT p p.n.toNat 0) F1 _ 0 1#64 (p.n+1) _ _ (by omega) HRUN.out hp1.out hbn1.out hof1.out HM.out).mono ?_;rintro e X4 ⟨rfl,hm,hf⟩;refine Hid.out ?_)
  refine Lib.hid ?_
  replace HZ:=Lib.hid (HZ.out.trans hf)
  replace HM:=Lib.hid hm
  replace hEw:=Lib.hid (hf.below hEw.out (by omega))
  replace hbx:=Lib.hid ((hf.block _ (heap_lt hbx.out) (.inr (by omega))).trans hbx.out)
  replace hsx:=Nat.le_trans hsx hf.size
  clear hf hm hp1 hbn1 hof1 HX
  simp only [ans_N,ovT]
  go_wp2
  refine mixQ_mk (off_of HZ.out) ?_
  refine ways_reads [9,10,11,12] (by kernel_rfl) ?_
  simp only [pickL,List.map_cons,List.map_nil,List.getD_cons_zero,List.getD_cons_succ]
  repeat (go_big_quiet_step (fail))
  refine wpQuiet_nil ?_
  refine ways_act 14 (by kernel_rfl) ?_
  simp only [pickL,List.map_cons,List.map_nil,List.getD_cons_zero,List.getD_cons_succ]
  have lbx:=heap_lt hbx.out
  go_wp2
  refine mixQ_mk (off_of HZ.out) ?_
  refine ways_reads [15,16] (by kernel_rfl) ?_
  simp only [pickL,List.map_cons,List.map_nil,List.getD_cons_zero,List.getD_cons_succ]
  repeat (go_big_quiet_step (fail))
  refine wpQuiet_nil ?_
  refine ways_end (by kernel_rfl) ?_
  go_wp2
  go_ret
  exact ⟨lo,hi,L,M',rfl,HM.out,HFL.out,hEw.out,by omega⟩
 ·simp only [pickL,List.map_cons,List.map_nil,List.getD_cons_zero,List.getD_cons_succ]
  go_wp2_with (go_at_call 59;refine (fresh_PT p (by omega) hn1 _).mono ?_;rintro e X1 ⟨v1,F1,rfl,hx,hp,hbn,hsub⟩;refine Hid.out ?_)
  refine Lib.hid ?_
  have hof:∀ j,F1 j → j < lo ∨ hi ≤ j:=fun j hj => (hsub j hj).elim (fun h => h.elim) fun h => .inr (by omega)
  have hp1:=Lib.hid hp
  have hbn1:=Lib.hid hbn
  have hof1:=Lib.hid hof
  replace HZ:=Lib.hid (HZ.out.ext hx)
  replace HM:=Lib.hid (HM.out.ext hx)
  replace HX:=Lib.hid (ext_trans HX.out hx)
  replace hEw:=Lib.hid (ext_trans hEw.out hx)
  replace hsx:=Nat.le_trans hsx hx.size
  clear hx hp hbn hsub hof
  go_wp2
  refine mixQ_mk (off_of HZ.out) ?_
  refine ways_fork 13 (by kernel_rfl) ?_ (ways_act 4 (by kernel_rfl) ?_)
  ·simp only [pickL,List.map_cons,List.map_nil,List.getD_cons_zero,List.getD_cons_succ]
   go_wp2
   replace HZ:=Lib.hid (HZ.out.alloc (.cells #[] 132))
   replace HM:=Lib.hid (HM.out.alloc (.cells #[] 132))
   replace HX:=Lib.hid (ext_alloc (.cells #[] 132) HX.out)
   replace hEw:=Lib.hid (ext_alloc (.cells #[] 132) hEw.out)
   replace hp1:=Lib.hid (hp1.out.agr (Agr.of_ext (ext_alloc (.cells #[] 132) (ext_refl X1)) hbn1.out))
   replace hbn1:=Lib.hid (hbn1.out.ext (w':=X1.alloc (.cells #[] 132)) (by simp))
   have hbx:=Lib.hid (heap_at X1 (.cells #[] 132) X1.heap.size rfl)
   have hlx:w2.heap.size ≤ X1.heap.size:=hsx
   replace hsx:w2.heap.size ≤ (X1.alloc (.cells #[] 132)).heap.size:=by simp;omega
   refine mixQ_mk (off_of HZ.out) ?_
   generalize X1.alloc (.cells #[] 132) = X2 at HZ HM hEw hbx hsx HX hp1 hbn1 ⊢
   generalize X1.heap.size = bx at hbx hlx ⊢
   refine ways_act 4 (by kernel_rfl) ?_
   simp only [pickL,List.map_cons,List.map_nil,List.getD_cons_zero,List.getD_cons_succ]
   go_wp2_with (go_at_call 18;refine (cap_int HM.out 0 1#64 (by omega) (show (0:Int) < ((1:Nat):Int) by omega) (Lib.hid rfl)).mono ?_;rintro e X3 ⟨rfl,hx⟩;refine Hid.out ?_)
   refine Lib.hid ?_
   replace HZ:=Lib.hid (HZ.out.ext hx)
   replace HM:=Lib.hid (HM.out.ext hx)
   replace HX:=Lib.hid (ext_trans HX.out hx)
   replace hEw:=Lib.hid (ext_trans hEw.out hx)
   replace hp1:=Lib.hid (hp1.out.agr (Agr.of_ext hx hbn1.out))
   replace hbn1:=Lib.hid (hbn1.out.ext hx.size)
   replace hbx:=Lib.hid ((hx.block _ (heap_lt hbx.out)).trans hbx.out)
   replace hsx:=Nat.le_trans hsx hx.size
   clear hx
   go_wp2
   refine mixQ_mk (off_of HZ.out) ?_
   refine ways_act 8 (by kernel_rfl) ?_
   simp only [pickL,List.map_cons,List.map_nil,List.getD_cons_zero,List.getD_cons_succ]
   go_wp2_with (go_at_call 58;refine (run_N (freshT p p.n.toNat 0) F1 _ 0 1#64 (p.n+1) _ _ (by omega) HRUN.out hp1.out hbn1.out hof1.out HM.out).mono ?_;rintro e X4 ⟨rfl,hm,hf⟩;refine Hid.out ?_)
   refine Lib.hid ?_
   replace HZ:=Lib.hid (HZ.out.trans hf)
   replace HM:=Lib.hid hm
   replace hEw:=Lib.hid (hf.below hEw.out (by omega))
   replace hbx:=Lib.hid ((hf.block _ (heap_lt hbx.out) (.inr (by omega))).trans hbx.out)
   replace hsx:=Nat.le_trans hsx hf.size
   clear hf hm hp1 hbn1 hof1 HX
   simp only [ans_N,ovT]
   go_wp2
   refine mixQ_mk (off_of HZ.out) ?_
   refine ways_reads [9,10,11,12] (by kernel_rfl) ?_
   simp only [pickL,List.map_cons,List.map_nil,List.getD_cons_zero,List.getD_cons_succ]
   repeat (go_big_quiet_step (fail))
   refine wpQuiet_nil ?_
   refine ways_act 14 (by kernel_rfl) ?_
   simp only [pickL,List.map_cons,List.map_nil,List.getD_cons_zero,List.getD_cons_succ]
   have lbx:=heap_lt hbx.out
   go_wp2
   refine mixQ_mk (off_of HZ.out) ?_
   refine ways_reads [15,16] (by kernel_rfl) ?_
   simp only [pickL,List.map_cons,List.map_nil,List.getD_cons_zero,List.getD_cons_succ]
   repeat (go_big_quiet_step (fail))
   refine wpQuiet_nil ?_
   refine ways_end (by kernel_rfl) ?_
   go_wp2
   go_ret
   exact ⟨lo,hi,L,M',rfl,HM.out,HFL.out,hEw.out,by omega⟩
  ·simp only [pickL,List.map_cons,List.map_nil,List.getD_cons_zero,List.getD_cons_succ]
   go_wp2_with (go_at_call 18;refine (cap_int HM.out 0 1#64 (by omega) (show (0:Int) < ((1:Nat):Int) by omega) (Lib.hid rfl)).mono ?_;rintro e X3 ⟨rfl,hx⟩;refine Hid.out ?_)
   refine Lib.hid ?_
   replace HZ:=Lib.hid (HZ.out.ext hx)
   replace HM:=Lib.hid (HM.out.ext hx)
   replace HX:=Lib.hid (ext_trans HX.out hx)
   replace hEw:=Lib.hid (ext_trans hEw.out hx)
   replace hp1:=Lib.hid (hp1.out.agr (Agr.of_ext hx hbn1.out))
   replace hbn1:=Lib.hid (hbn1.out.ext hx.size)
   replace hsx:=Nat.le_trans hsx hx.size
   clear hx
   go_wp2
   refine mixQ_mk (off_of HZ.out) ?_
   refine ways_fork 13 (by kernel_rfl) ?_ (ways_act 8 (by kernel_rfl) ?_)
   ·simp only [pickL,List.map_cons,List.map_nil,List.getD_cons_zero,List.getD_cons_succ]
    go_wp2
    replace HZ:=Lib.hid (HZ.out.alloc (.cells #[] 132))
    replace HM:=Lib.hid (HM.out.alloc (.cells #[] 132))
    replace HX:=Lib.hid (ext_alloc (.cells #[] 132) HX.out)
    replace hEw:=Lib.hid (ext_alloc (.cells #[] 132) hEw.out)
    replace hp1:=Lib.hid (hp1.out.agr (Agr.of_ext (ext_alloc (.cells #[] 132) (ext_refl X3)) hbn1.out))
    replace hbn1:=Lib.hid (hbn1.out.ext (w':=X3.alloc (.cells #[] 132)) (by simp))
    have hbx:=Lib.hid (heap_at X3 (.cells #[] 132) X3.heap.size rfl)
    have hlx:w2.heap.size ≤ X3.heap.size:=hsx
    replace hsx:w2.heap.size ≤ (X3.alloc (.cells #[] 132)).heap.size:=by simp;omega
    refine mixQ_mk (off_of HZ.out) ?_
    generalize X3.alloc (.cells #[] 132) = X2 at HZ HM hEw hbx hsx HX hp1 hbn1 ⊢
    generalize X3.heap.size = bx at hbx hlx ⊢
    refine ways_act 8 (by kernel_rfl) ?_
    simp only [pickL,List.map_cons,List.map_nil,List.getD_cons_zero,List.getD_cons_succ]
    go_wp2_with (go_at_call 58;refine (run_N (freshT p p.n.toNat 0) F1 _ 0 1#64 (p.n+1) _ _ (by omega) HRUN.out hp1.out hbn1.out hof1.out HM.out).mono ?_;rintro e X4 ⟨rfl,hm,hf⟩;refine Hid.out ?_)
    refine Lib.hid ?_
    replace HZ:=Lib.hid (HZ.out.trans hf)
    replace HM:=Lib.hid hm
    replace hEw:=Lib.hid (hf.below hEw.out (by omega))
    replace hbx:=Lib.hid ((hf.block _ (heap_lt hbx.out) (.inr (by omega))).trans hbx.out)
    replace hsx:=Nat.le_trans hsx hf.size
    clear hf hm hp1 hbn1 hof1 HX
    simp only [ans_N,ovT]
    go_wp2
    refine mixQ_mk (off_of HZ.out) ?_
    refine ways_reads [9,10,11,12] (by kernel_rfl) ?_
    simp only [pickL,List.map_cons,List.map_nil,List.getD_cons_zero,List.getD_cons_succ]
    repeat (go_big_quiet_step (fail))
    refine wpQuiet_nil ?_
    refine ways_act 14 (by kernel_rfl) ?_
    simp only [pickL,List.map_cons,List.map_nil,List.getD_cons_zero,List.getD_cons_succ]
    have lbx:=heap_lt hbx.out
    go_wp2
    refine mixQ_mk (off_of HZ.out) ?_
    refine ways_reads [15,16] (by kernel_rfl) ?_
    simp only [pickL,List.map_cons,List.map_nil,List.getD_cons_zero,List.getD_cons_succ]
    repeat (go_big_quiet_step (fail))
    refine wpQuiet_nil ?_
    refine ways_end (by kernel_rfl) ?_
    go_wp2
    go_ret
    exact ⟨lo,hi,L,M',rfl,HM.out,HFL.out,hEw.out,by omega⟩
   ·simp only [pickL,List.map_cons,List.map_nil,List.getD_cons_zero,List.getD_cons_succ]
    go_wp2_with (go_at_call 58;refine (run_N (freshT p p.n.toNat 0) F1 _ 0 1#64 (p.n+1) _ _ (by omega) HRUN.out hp1.out hbn1.out hof1.out HM.out).mono ?_;rintro e X4 ⟨rfl,hm,hf⟩;refine Hid.out ?_)
    refine Lib.hid ?_
    replace HZ:=Lib.hid (HZ.out.trans hf)
    replace HM:=Lib.hid hm
    replace hEw:=Lib.hid (hf.below hEw.out (by omega))
    replace hsx:=Nat.le_trans hsx hf.size
    clear hf hm hp1 hbn1 hof1 HX
    simp only [ans_N,ovT]
    go_wp2
    refine mixQ_mk (off_of HZ.out) ?_
    refine ways_reads [9,10,11,12] (by kernel_rfl) ?_
    simp only [pickL,List.map_cons,List.map_nil,List.getD_cons_zero,List.getD_cons_succ]
    repeat (go_big_quiet_step (fail))
    refine wpQuiet_nil ?_
    refine ways_act 13 (by kernel_rfl) ?_
    simp only [pickL,List.map_cons,List.map_nil,List.getD_cons_zero,List.getD_cons_succ]
    go_wp2
    replace HZ:=Lib.hid (HZ.out.alloc (.cells #[] 132))
    replace HM:=Lib.hid (HM.out.alloc (.cells #[] 132))
    replace hEw:=Lib.hid (ext_alloc (.cells #[] 132) hEw.out)
    have hbx:=Lib.hid (heap_at X4 (.cells #[] 132) X4.heap.size rfl)
    have hlx:w2.heap.size ≤ X4.heap.size:=hsx
    replace hsx:w2.heap.size ≤ (X4.alloc (.cells #[] 132)).heap.size:=by simp;omega
    refine mixQ_mk (off_of HZ.out) ?_
    generalize X4.alloc (.cells #[] 132) = X2 at HZ HM hEw hbx hsx ⊢
    generalize X4.heap.size = bx at hbx hlx ⊢
    refine ways_act 14 (by kernel_rfl) ?_
    simp only [pickL,List.map_cons,List.map_nil,List.getD_cons_zero,List.getD_cons_succ]
    have lbx:=heap_lt hbx.out
    go_wp2
    refine mixQ_mk (off_of HZ.out) ?_
    refine ways_reads [15,16] (by kernel_rfl) ?_
    simp only [pickL,List.map_cons,List.map_nil,List.getD_cons_zero,List.getD_cons_succ]
    repeat (go_big_quiet_step (fail))
    refine wpQuiet_nil ?_
    refine ways_end (by kernel_rfl) ?_
    go_wp2
    go_ret
    exact ⟨lo,hi,L,M',rfl,HM.out,HFL.out,hEw.out,by omega⟩
def hzN (p:Pl) (i:Nat):Nat:=(p.dom p.d).toNat+i
def hzW (p:Pl) (M:MS) (i:Nat):BitVec 64:=M.wd 0 (hzN p i)
theorem hazF_eq {p:Pl} (hp:p.ok) {t s:Int} (h0:0 ≤ t) (h1:t < p.t) (h2:0 ≤ s) (h3:s < 3):p.hazF t s = p.dom p.d+(3 * t+s) ∧ (p.hazF t s).toNat = hzN p (3 * t+s).toNat:=by
 have hd:=Pl.dom_in hp (Pl.d_in hp).1 (Pl.d_in hp).2
 have e:p.hazF t s = p.dom p.d+(3 * t+s):=by
  unfold Pl.hazF
  rw [if_pos ⟨hp,⟨h0,h1⟩,h2,h3⟩]
  unfold Pl.haz
  omega
 refine ⟨e,?_⟩
 rw [e]
 unfold hzN
 omega
theorem haz_size {p:Pl} (hp:p.ok) {i:Int} (h0:0 ≤ i) (h1:i < 3 * p.t):1 ≤ p.dom p.d+i ∧ p.dom p.d+i < p.nod 0 ∧ p.nod 0 < p.sizeF:=by
 have hd:=Pl.dom_in hp (Pl.d_in hp).1 (Pl.d_in hp).2
 have h2:=(Pl.cnt_b hp (Pl.t_in hp).1 (Pl.t_in hp).2).1
 unfold Pl.sizeF
 rw [if_pos hp]
 unfold Pl.nod Pl.cnt Pl.haz at *
 unfold Pl.ok at hp
 omega
theorem hz_ne {p:Pl} (hp:p.ok) {i:Nat} (h1:(i:Int) < 3 * p.t):hzN p i ≠ 0 ∧ ∀ m,InR p m → hzN p i ≠ nxN p m:=by
 have h:=haz_size hp (i:=(i:Int)) (by omega) h1
 have hd:=Pl.dom_in hp (Pl.d_in hp).1 (Pl.d_in hp).2
 refine ⟨by unfold hzN;omega,fun m hm => ?_⟩
 have h2:=nx_eq hp hm
 have h3:=nx_in hp hm
 have h4:=hm.1
 unfold Pl.nod at h
 unfold hzN nxN
 omega
theorem hz_inj {p:Pl} {i j:Nat} (e:hzN p i = hzN p j):i = j:=by unfold hzN at e;omega
theorem haz_ok {p:Pl} (hp:p.ok) {M:MS} (hM:Mg p M) {t s op:Int} (h0:0 ≤ t) (h1:t < p.t) (h2:0 ≤ s) (h3:s < 3) (h4:0 ≤ op) (h5:op ≤ 3):DoOk M 0 1#64 op (p.hazF t s):=by
 have h:=haz_size hp (i:=3 * t+s) (by omega) (by omega)
 have e:=(hazF_eq hp h0 h1 h2 h3).1
 exact hM.ok (by omega) (by omega) h4 h5
def heldR (x:Nat → BitVec 64) (m:BitVec 64):Nat → Nat → Bool × Nat
 | 0,i => (false,i)
 | k+1,i => if x i = m then (true,i+1) else heldR x m k (i+1)
theorem heldR_congr {x y:Nat → BitVec 64} {m:BitVec 64}:∀ (k i:Nat),(∀ j,j < i+k → x j = y j) → heldR x m k i = heldR y m k i
 | 0,_,_ => rfl
 | k+1,i,h => by
  rw [heldR,heldR,h i (by omega),heldR_congr k (i+1) fun j hj => h j (by omega)]
theorem heldR_le {x:Nat → BitVec 64} {m:BitVec 64}:∀ (k i:Nat),(heldR x m k i).2 ≤ i+k
 | 0,_ => Nat.le_refl _
 | k+1,i => by
  rw [heldR]
  split
  ·show i+1 ≤ _
   omega
  ·have:=heldR_le (x:=x) (m:=m) k (i+1)
   omega
theorem hld_run {p:Pl} (hp:p.ok) {n:Int} (hn:0 ≤ n):∀ (k i:Nat) (M:MS) (q:Nat),(i:Int)+k+1 = 3 * p.t → Mg p M →
  ∃ M' b c,runT 0 1#64 (k+1+q) (hldT p n k (i:Int)) M = some (M',c,.done b) ∧ (Mg p M' ∧ ∀ j,M'.wd 0 j = M.wd 0 j) ∧ heldR (hzW p M) (nameW n) (k+1) i = (b,i+c)
 | k,i,M,q,h2,hM => by
  have h0:(0:Int) ≤ (i:Int) / 3:=by omega
  have h1:(i:Int) / 3 < p.t:=by omega
  have h3:(0:Int) ≤ (i:Int) % 3:=by omega
  have h4:(i:Int) % 3 < 3:=by omega
  have hok:=haz_ok hp hM h0 h1 h3 h4 (op:=0) (by omega) (by omega)
  have e:=(hazF_eq hp h0 h1 h3 h4).2
  rw [show (3 * ((i:Int) / 3)+(i:Int) % 3).toNat = i by omega] at e
  have hw:=wd_load M (p.hazF ((i:Int) / 3) ((i:Int) % 3)) 0#64 0#64
  have hx:M.wd (0:Int).toNat (ldA (p.hazF ((i:Int) / 3) ((i:Int) % 3))).at_.toNat = hzW p M i:=by
   show M.wd 0 (p.hazF ((i:Int) / 3) ((i:Int) % 3)).toNat = _
   rw [e]
   rfl
  by_cases hy:hzW p M i = nameW n
  ·have hb:nmB (hzW p M i) n = true:=by unfold nmB;simp [hy,hn]
   refine ⟨M.done 0 0 (p.hazF ((i:Int) / 3) ((i:Int) % 3)) 0#64 0#64,true,1,?_,⟨hM.done _ _ _ _ _,hw⟩,by rw [heldR,if_pos hy]⟩
   cases k with
   | zero =>
    show runT 0 1#64 (0+1+q) (.ask (ldA (p.hazF ((i:Int) / 3) ((i:Int) % 3))) fun x => if nmB x n then .done true else .done false) M = _
    rw [show 0+1+q = q+1 by omega,runT,if_pos (show DoOk M 0 1#64 (ldA (p.hazF ((i:Int) / 3) ((i:Int) % 3))).op (ldA (p.hazF ((i:Int) / 3) ((i:Int) % 3))).at_ from hok),hx]
    simp only [hb,if_true]
    cases q <;> rfl
   | succ k =>
    show runT 0 1#64 (k+1+1+q) (.ask (ldA (p.hazF ((i:Int) / 3) ((i:Int) % 3))) fun x => if nmB x n then .done true else hldT p n k (i+1)) M = _
    rw [show k+1+1+q = (k+1+q)+1 by omega,runT,if_pos (show DoOk M 0 1#64 (ldA (p.hazF ((i:Int) / 3) ((i:Int) % 3))).op (ldA (p.hazF ((i:Int) / 3) ((i:Int) % 3))).at_ from hok),hx]
    simp only [hb,if_true]
    rw [show k+1+q = (k+q)+1 by omega]
    rfl
  ·have hb:nmB (hzW p M i) n = false:=by unfold nmB;simp [hy]
   cases k with
   | zero =>
    refine ⟨M.done 0 0 (p.hazF ((i:Int) / 3) ((i:Int) % 3)) 0#64 0#64,false,1,?_,⟨hM.done _ _ _ _ _,hw⟩,by rw [heldR,if_neg hy];rfl⟩
    show runT 0 1#64 (0+1+q) (.ask (ldA (p.hazF ((i:Int) / 3) ((i:Int) % 3))) fun x => if nmB x n then .done true else .done false) M = _
    rw [show 0+1+q = q+1 by omega,runT,if_pos (show DoOk M 0 1#64 (ldA (p.hazF ((i:Int) / 3) ((i:Int) % 3))).op (ldA (p.hazF ((i:Int) / 3) ((i:Int) % 3))).at_ from hok),hx]
    simp only [hb]
    cases q <;> rfl
   | succ k =>
    obtain ⟨M',b,c,r1,r2,r3⟩:=hld_run hp hn k (i+1) (M.done 0 0 (p.hazF ((i:Int) / 3) ((i:Int) % 3)) 0#64 0#64) q (by omega) (hM.done _ _ _ _ _)
    refine ⟨M',b,c+1,?_,⟨r2.1,fun j => (r2.2 j).trans (hw j)⟩,?_⟩
    ·show runT 0 1#64 (k+1+1+q) (.ask (ldA (p.hazF ((i:Int) / 3) ((i:Int) % 3))) fun x => if nmB x n then .done true else hldT p n k (i+1)) M = _
     rw [show k+1+1+q = (k+1+q)+1 by omega,runT,if_pos (show DoOk M 0 1#64 (ldA (p.hazF ((i:Int) / 3) ((i:Int) % 3))).op (ldA (p.hazF ((i:Int) / 3) ((i:Int) % 3))).at_ from hok),hx]
     simp only [hb]
     show Option.map _ (runT 0 1#64 (k+1+q) (hldT p n k ((i:Int)+1)) (M.done 0 0 (p.hazF ((i:Int) / 3) ((i:Int) % 3)) 0#64 0#64)) = _
     rw [show ((i:Int)+1) = ((i+1:Nat):Int) by omega,r1]
     rfl
    ·rw [heldR,if_neg hy,heldR_congr (x:=hzW p M) (y:=hzW p (M.done 0 0 (p.hazF ((i:Int) / 3) ((i:Int) % 3)) 0#64 0#64)) (k+1) (i+1) (fun j _ => (hw _).symm),r3]
     congr 1
     omega
end Go.Proofs.YthjklbonebnekaaGreat

