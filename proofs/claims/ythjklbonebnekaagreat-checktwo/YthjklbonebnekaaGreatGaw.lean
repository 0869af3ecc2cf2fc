/-
  What the call of freed comes to. Conditions: those of each theorem.
-/
import Derived.Test.YthjklbonebnekaaGreatGao
import Derived.Test.YthjklbonebnekaaGreatGas
import Derived.Test.YthjklbonebnekaaGreatGav
set_option maxRecDepth 8000
set_option maxHeartbeats 4000000
namespace Go.Proofs.YthjklbonebnekaaGreat
open Go Go.RowKit
def putS (b:Nat) (y0 y1 y2:Value) (w:World):World:=((w.setCell ⟨b,0,none⟩ y0).setCell ⟨b,1,none⟩ y1).setCell ⟨b,2,none⟩ y2
theorem putS_block {w:World} {b:Nat} {x0 x1 x2:Value} {t:TypeId} (y0 y1 y2:Value) (h:w.heap[b]? = some (.cells #[x0,x1,x2] t (0,0))):(putS b y0 y1 y2 w).heap[b]? = some (.cells #[y0,y1,y2] t (0,0)):=by
 unfold putS
 have h1:=set_same (o:=0) y0 h
 have h2:=set_same (o:=1) y1 h1
 have h3:=set_same (o:=2) y2 h2
 rw [h3]
 rfl
theorem putS_other {w:World} {b k:Nat} (y0 y1 y2:Value) (h:k ≠ b):(putS b y0 y1 y2 w).heap[k]? = w.heap[k]?:=by
 unfold putS
 rw [set_other _ h,set_other _ h,set_other _ h]
theorem putS_ext {u w:World} {b:Nat} (y0 y1 y2:Value) (h:Ext u w) (hb:u.heap.size ≤ b):Ext u (putS b y0 y1 y2 w):=ext_set y2 hb (ext_set y1 hb (ext_set y0 hb h))
theorem frd2_PT (p:Pl) (n:Int) (s:St) (N:Nat) (B1 B2 B3:Nat) (w:World)  (k1:w.heap[B1]? = some (.cells #[.int .i64 s.g,.int .i64 s.m,.int .i64 s.k] 56 (0,0))) (k2:PBox B2 p w) (k3:w.heap[B3]? = some (.cells #[.int .i64 n] 3 (0,0))) :
  Calls Tryz.prog 274 #[.agg #[],.pointer (some ⟨B1,0,none⟩),.pointer (some ⟨B2,0,none⟩),.pointer (some ⟨B3,0,none⟩)] w (RetP (PT kI (frd2T p n s N)) noF w):=by
 by_cases hm:s.m = 3
 ·have eT:frd2T p n s N = .done (-1):=by unfold frd2T;rw [if_pos hm]
  rw [eT]
  clear eT
  have z1:=cell_at (o:=1) k1 rfl
  have z2:=cell_at (o:=2) k1 rfl
  have qk1:=heap_lt k1
  have d1_0:=cell_at (o:=0) k1 rfl
  have e1:=cell_lt d1_0
  have qk2:=heap_lt k2
  have ⟨c0,c1,c2,c3,c4,c5,lt⟩:=PBox.plc k2
  have qk3:=heap_lt k3
  have d3_0:=cell_at (o:=0) k3 rfl
  have e3:=cell_lt d3_0
  replace k1:=Lib.hid k1
  replace k2:=Lib.hid k2
  replace k3:=Lib.hid k3
  go_enter Tryz.func274,Tryz.ntmps274
  go_wp2_with (go_at_call 141;refine Hid.out ?_)
  refine Lib.hid ?_
  have ⟨hE,hb0,hb1,hW⟩:=al2 w (.cells #[] 132) (.cells #[.int .i64 0,.int .i64 0,.int .i64 0,.int .u64 0,.int .u64 0,.nilFunc,.pointer none] 62)
  generalize ((w.alloc (.cells #[] 132)).alloc (.cells #[.int .i64 0,.int .i64 0,.int .i64 0,.int .u64 0,.int .u64 0,.nilFunc,.pointer none] 62)) = W at hE hb0 hb1 hW ⊢
  replace k1:=(hE.block _ (heap_lt k1.out)).trans k1.out
  replace k2:=(hE.block _ (heap_lt k2.out)).trans k2.out
  replace k3:=(hE.block _ (heap_lt k3.out)).trans k3.out
  clear hW
  clear d1_0 e1 c0 c1 c2 c3 c4 c5 lt d3_0 e3
  refine (doneI_PT (-1) W).mono ?_
  rintro e w' hR
  obtain ⟨v',F',rfl,hX,hp,hbn,hsub,hnF,hbq⟩:=hR.tail (G:=noF) (w.heap.size+1) hE (heap_lt hb1) (fun h => h) (fun _ h => h.elim)
  have hbx:=hbq.trans hb1
  clear hbq hR
  clear hE hb0 hb1 k1 k2 k3 z1 z2
  obtain ⟨y,a2,fn2,rfl,HFN,HX⟩:=tlI hp hX hbx hbn hsub hnF (by omega)
  obtain ⟨c0,c1,c2,c3,c4,c5,c6,cz,ll⟩:=sev_of hbx
  clear hX hbx hp hbn hsub hnF
  rcases HFN.out with rfl | ⟨g',caps',rfl⟩
  all_goals
   go_wp2
   clear c0 c1 c2 c3 c4 c5 c6 cz ll
   obtain ⟨hX,hB,hP⟩:=HX.out
   clear HX
   generalize (World.setCell _ (⟨w.heap.size+1,6,none⟩ : Addr) _) = Z at hX hB hP ⊢
   obtain ⟨c0,c1,c2,c3,c4,c5,c6,cz,ll⟩:=sev_of hB
   exact bodyPost_ret (by simp only [results,Tryz.results274,go_sem];simp [go_sem,c0,c1,c2,c3,c4,c5,c6]) rfl ⟨_,F',rfl,hX,hP⟩
 ·have eT:frd2T p n s N = pushT p n N:=by unfold frd2T;rw [if_neg hm]
  rw [eT]
  clear eT
  have z1:=cell_at (o:=1) k1 rfl
  have z2:=cell_at (o:=2) k1 rfl
  have qk1:=heap_lt k1
  have d1_0:=cell_at (o:=0) k1 rfl
  have e1:=cell_lt d1_0
  have qk2:=heap_lt k2
  have ⟨c0,c1,c2,c3,c4,c5,lt⟩:=PBox.plc k2
  have qk3:=heap_lt k3
  have d3_0:=cell_at (o:=0) k3 rfl
  have e3:=cell_lt d3_0
  replace k1:=Lib.hid k1
  replace k2:=Lib.hid k2
  replace k3:=Lib.hid k3
  go_enter Tryz.func274,Tryz.ntmps274
  go_wp2_with (go_at_call 275;refine Hid.out ?_)
  refine Lib.hid ?_
  have ⟨hE,hb0,hb1,hW⟩:=al2 w (.cells #[] 132) (.cells #[.int .i64 0,.int .i64 0,.int .i64 0,.int .u64 0,.int .u64 0,.nilFunc,.pointer none] 62)
  generalize ((w.alloc (.cells #[] 132)).alloc (.cells #[.int .i64 0,.int .i64 0,.int .i64 0,.int .u64 0,.int .u64 0,.nilFunc,.pointer none] 62)) = W at hE hb0 hb1 hW ⊢
  replace k1:=(hE.block _ (heap_lt k1.out)).trans k1.out
  replace k2:=(hE.block _ (heap_lt k2.out)).trans k2.out
  replace k3:=(hE.block _ (heap_lt k3.out)).trans k3.out
  clear hW
  clear d1_0 e1 c0 c1 c2 c3 c4 c5 lt d3_0 e3
  refine (push_PT p n N W).mono ?_
  rintro e w' hR
  obtain ⟨v',F',rfl,hX,hp,hbn,hsub,hnF,hbq⟩:=hR.tail (G:=noF) (w.heap.size+1) hE (heap_lt hb1) (fun h => h) (fun _ h => h.elim)
  have hbx:=hbq.trans hb1
  clear hbq hR
  clear hE hb0 hb1 k1 k2 k3 z1 z2
  obtain ⟨y,a2,fn2,rfl,HFN,HX⟩:=tlI hp hX hbx hbn hsub hnF (by omega)
  obtain ⟨c0,c1,c2,c3,c4,c5,c6,cz,ll⟩:=sev_of hbx
  clear hX hbx hp hbn hsub hnF
  rcases HFN.out with rfl | ⟨g',caps',rfl⟩
  all_goals
   go_wp2
   clear c0 c1 c2 c3 c4 c5 c6 cz ll
   obtain ⟨hX,hB,hP⟩:=HX.out
   clear HX
   generalize (World.setCell _ (⟨w.heap.size+1,6,none⟩ : Addr) _) = Z at hX hB hP ⊢
   obtain ⟨c0,c1,c2,c3,c4,c5,c6,cz,ll⟩:=sev_of hB
   exact bodyPost_ret (by simp only [results,Tryz.results274,go_sem];simp [go_sem,c0,c1,c2,c3,c4,c5,c6]) rfl ⟨_,F',rfl,hX,hP⟩
theorem frd2_CT (p:Pl) (n:Int) (s:St) (N:Nat) (B1 B2 B3:Nat) (w:World)  (k1:w.heap[B1]? = some (.cells #[.int .i64 s.g,.int .i64 s.m,.int .i64 s.k] 56 (0,0))) (k2:PBox B2 p w) (k3:w.heap[B3]? = some (.cells #[.int .i64 n] 3 (0,0))) :
  CT kN kI (fun _ => frd2T p n s N) (fun j => j = B1 ∨ j = B2 ∨ j = B3) (.func (.func 274) #[] #[.pointer (some ⟨B1,0,none⟩),.pointer (some ⟨B2,0,none⟩),.pointer (some ⟨B3,0,none⟩)]) w:=
 ⟨_,_,rfl,enters_of Tryz.func274 (by kernel_rfl) rfl,fun _ w' ha => (frd2_PT p n s N  B1 B2 B3 w'  ((ha B1 (.inl rfl)).trans k1) ((ha B2 (.inr (.inl rfl))).trans k2) ((ha B3 (.inr (.inr rfl))).trans k3)).mono fun _ _ h => h.mono fun _ h => h.elim⟩
theorem frd_PT (p:Pl) (n:Int) (N:Nat) (x:BitVec 64) (w:World)   :
  Calls Tryz.prog 266 #[plV p,.int .i64 n,.int .u64 (U x)] w (RetP (PT kI (frdT p n N x)) noF w):=by
 obtain ⟨s0,hs0⟩ : ∃ s0,ofS x = s0:=⟨_,rfl⟩
 obtain ⟨s1,hs1⟩ : ∃ s1,s0.freed p.g = s1:=⟨_,rfl⟩
 have eT:frdT p n N x = (setT (p.stF n) s1.word).bind fun _ => frd2T p n s1 N:=by unfold frdT;rw [hs0,hs1]
 rw [eT]
 clear eT
 obtain ⟨g0,m0,j0⟩:=s0
 obtain ⟨g1,m1,j1⟩:=s1
 have hO:∀ W,Calls Tryz.prog 101 #[.int .u64 (U x)] W (Ret (.tuple #[.agg #[.int .i64 g0,.int .i64 m0,.int .i64 j0],.bool (decide (isW x))]) W):=fun W => by
  have:=of_any x W
  rw [hs0] at this
  exact this
 have hF:∀ W,Calls Tryz.prog 273 #[.agg #[.int .i64 g0,.int .i64 m0,.int .i64 j0],.int .i64 p.g] W (Ret (.agg #[.int .i64 g1,.int .i64 m1,.int .i64 j1]) W):=fun W => by
  have:=freed_any ⟨g0,m0,j0⟩ p.g W
  rw [hs1] at this
  exact this
 have hD:∀ W,Calls Tryz.prog 22 #[.agg #[.int .i64 g1,.int .i64 m1,.int .i64 j1]] W (Ret (.int .u64 (U (St.word ⟨g1,m1,j1⟩))) W):=fun W => word_any ⟨g1,m1,j1⟩ W
 clear hs0 hs1
 replace hO:=Lib.hid hO
 replace hF:=Lib.hid hF
 replace hD:=Lib.hid hD
 go_enter Tryz.func266,Tryz.ntmps266
 go_wp2_with (go_at_call 101;refine Hid.out ?_)
 refine Lib.hid ?_
 have ⟨hE,hb0,hb1,hb2,hW⟩:=al3 w (.cells #[.int .i64 p.n,.int .i64 p.t,.int .i64 p.r,.int .i64 p.d,.int .i64 p.b,.int .i64 p.g] 23) (.cells #[.int .i64 n] 3) (.cells #[.int .i64 0,.int .i64 0,.int .i64 0,.int .u64 0,.int .u64 0,.nilFunc,.pointer none] 62)
 generalize (((w.alloc (.cells #[.int .i64 p.n,.int .i64 p.t,.int .i64 p.r,.int .i64 p.d,.int .i64 p.b,.int .i64 p.g] 23)).alloc (.cells #[.int .i64 n] 3)).alloc (.cells #[.int .i64 0,.int .i64 0,.int .i64 0,.int .u64 0,.int .u64 0,.nilFunc,.pointer none] 62)) = W at hE hb0 hb1 hb2 hW ⊢
 clear hW
 refine (hO.out W).mono ?_
 rintro e wa ⟨rfl,hx⟩
 replace hE:=ext_trans hE hx
 replace hb0:=(hx.block _ (heap_lt hb0)).trans hb0
 replace hb1:=(hx.block _ (heap_lt hb1)).trans hb1
 replace hb2:=(hx.block _ (heap_lt hb2)).trans hb2
 clear hx
 have ⟨c0,c1,c2,c3,c4,c5,lt⟩:=PBox.plc hb0
 replace hE:=Lib.hid hE
 replace hb0:=Lib.hid hb0
 replace hb1:=Lib.hid hb1
 replace hb2:=Lib.hid hb2
 go_wp2_with (go_at_call 273;refine Hid.out ?_)
 refine Lib.hid ?_
 replace hE:=hE.out
 replace hb0:=hb0.out
 replace hb1:=hb1.out
 replace hb2:=hb2.out
 clear c0 c1 c2 c3 c4 c5 lt
 have hx:Ext wa (wa.alloc (.cells #[.int .i64 g0,.int .i64 m0,.int .i64 j0] 56)):=ext_alloc _ (ext_refl wa)
 have hb3:(wa.alloc (.cells #[.int .i64 g0,.int .i64 m0,.int .i64 j0] 56)).heap[wa.heap.size]? = some (.cells #[.int .i64 g0,.int .i64 m0,.int .i64 j0] 56):=heap_at _ _ _ rfl
 have hszhb3:=hE.size
 have hrbhb3:=heap_lt hb2
 generalize wa.alloc (.cells #[.int .i64 g0,.int .i64 m0,.int .i64 j0] 56) = waA at hx hb3 ⊢
 replace hE:=ext_trans hE hx
 replace hb0:=(hx.block _ (heap_lt hb0)).trans hb0
 replace hb1:=(hx.block _ (heap_lt hb1)).trans hb1
 replace hb2:=(hx.block _ (heap_lt hb2)).trans hb2
 clear hx
 refine (hF.out waA).mono ?_
 rintro e wb ⟨rfl,hx⟩
 replace hE:=ext_trans hE hx
 replace hb0:=(hx.block _ (heap_lt hb0)).trans hb0
 replace hb1:=(hx.block _ (heap_lt hb1)).trans hb1
 replace hb2:=(hx.block _ (heap_lt hb2)).trans hb2
 replace hb3:=(hx.block _ (heap_lt hb3)).trans hb3
 clear hx
 have z0:=cell_at (o:=0) hb3 rfl
 have z1:=cell_at (o:=1) hb3 rfl
 have z2:=cell_at (o:=2) hb3 rfl
 have zz:∀ o,wb.frozen? ⟨wa.heap.size,o,none⟩ = false:=fun _ => free_at hb3
 have zl:=heap_lt hb3
 have hX:=putS_ext (b:=wa.heap.size) (.int .i64 g1) (.int .i64 m1) (.int .i64 j1) hE (by omega)
 have hB:=putS_block (.int .i64 g1) (.int .i64 m1) (.int .i64 j1) hb3
 have hq0:=(putS_other (w:=wb) (b:=wa.heap.size) (k:=w.heap.size) (.int .i64 g1) (.int .i64 m1) (.int .i64 j1) (by omega)).trans hb0
 have hq1:=(putS_other (w:=wb) (b:=wa.heap.size) (k:=w.heap.size+1) (.int .i64 g1) (.int .i64 m1) (.int .i64 j1) (by omega)).trans hb1
 have hq2:=(putS_other (w:=wb) (b:=wa.heap.size) (k:=w.heap.size+1+1) (.int .i64 g1) (.int .i64 m1) (.int .i64 j1) (by omega)).trans hb2
 rw [putS] at hX hB hq0 hq1 hq2
 have HQ:=Lib.hid (And.intro hX (And.intro hB (And.intro hq0 (And.intro hq1 hq2))))
 clear hX hB hq0 hq1 hq2
 replace hE:=Lib.hid hE
 replace hb0:=Lib.hid hb0
 replace hb1:=Lib.hid hb1
 replace hb2:=Lib.hid hb2
 replace hb3:=Lib.hid hb3
 go_upto_region 3 with (fail)
 clear z0 z1 z2 zz zl hE hb0 hb1 hb2 hb3
 obtain ⟨hE,hb3,hb0,hb1,hb2⟩:=HQ.out
 clear HQ
 generalize (World.setCell _ (⟨wa.heap.size,2,none⟩ : Addr) _) = X at hE hb3 hb0 hb1 hb2 ⊢
 have ⟨c0,c1,c2,c3,c4,c5,lt⟩:=PBox.plc hb0
 have d2:=cell_at (o:=0) hb1 rfl
 have d3:=cell_at (o:=0) hb3 rfl
 have d4:=cell_at (o:=1) hb3 rfl
 have d5:=cell_at (o:=2) hb3 rfl
 have e2:=cell_lt d2
 have e3:=cell_lt d3
 replace hE:=Lib.hid hE
 replace hb0:=Lib.hid hb0
 replace hb1:=Lib.hid hb1
 replace hb2:=Lib.hid hb2
 replace hb3:=Lib.hid hb3
 refine wp_region_mix (fun w' => ∃ s,w' = over X s) [(0,[0,1,3,6]),(1,[2]),(1,[4]),(1,[5]),(1,[7]),(2,[8])] (by kernel_rfl) (by kernel_rfl) (over_of (ext_drew (ext_refl X))) ?_
 simp only [pieces,pickL,List.map_cons,List.map_nil,List.getD_cons_zero,List.getD_cons_succ]
 refine mix_reads ?_
 repeat (go_big_quiet_step (fail))
 refine wpQuiet_nil (mix_acts ?_)
 have HX0:=Lib.hid (ext_drew (ext_refl X))
 go_wp2_with (go_at_call 21;refine (state_any p n _).mono ?_;rintro e w1 ⟨rfl,hx⟩;have HX1:=Lib.hid (ext_trans HX0.out hx);clear hx)
 refine mixQ_mk (over_of HX1.out) (mix_acts ?_)
 go_wp2_with (go_at_call 22;refine (hD.out _).mono ?_;rintro e w2 ⟨rfl,hx⟩;have HX2:=Lib.hid (ext_trans HX1.out hx);clear hx)
 refine mixQ_mk (over_of HX2.out) (mix_acts ?_)
 go_wp2_with (go_at_call 120;refine (set_PT (p.stF n) (St.word ⟨g1,m1,j1⟩) _).mono ?_;rintro e w4 ⟨v1,F1,rfl,hx,hp1,hbn1,hsub1⟩;refine Hid.out ?_)
 refine Lib.hid ?_
 replace hE:=hE.out
 replace hb0:=hb0.out
 replace hb1:=hb1.out
 replace hb2:=hb2.out
 replace hb3:=hb3.out
 have hn1:¬ F1 (w.heap.size+1+1):=fun h => (hsub1 _ h).elim (fun h => h) fun h => by have:=heap_lt hb2;have:=HX2.out.size;omega
 have hs1:∀ j,F1 j → noF j ∨ w.heap.size ≤ j:=fun j hj => (hsub1 j hj).imp_right fun h => Nat.le_trans (Nat.le_trans hE.size HX2.out.size) h
 have HX4:=Lib.hid (ext_trans HX2.out hx)
 replace hb0:=(HX4.out.block _ (heap_lt hb0)).trans hb0
 replace hb1:=(HX4.out.block _ (heap_lt hb1)).trans hb1
 replace hb2:=(HX4.out.block _ (heap_lt hb2)).trans hb2
 replace hb3:=(HX4.out.block _ (heap_lt hb3)).trans hb3
 replace hE:=ext_trans hE HX4.out
 clear hx hsub1
 replace hE:=Lib.hid hE
 replace hb0:=Lib.hid hb0
 replace hb1:=Lib.hid hb1
 replace hb2:=Lib.hid hb2
 replace hb3:=Lib.hid hb3
 replace hp1:=Lib.hid hp1
 replace hbn1:=Lib.hid hbn1
 replace hs1:=Lib.hid hs1
 replace hn1:=Lib.hid hn1
 go_wp2
 refine mixQ_mk (over_of HX4.out) (mix_acts ?_)
 go_wp2_with (go_at_call 227;refine Hid.out ?_)
 refine Lib.hid ?_
 replace hE:=hE.out
 replace hb0:=hb0.out
 replace hb1:=hb1.out
 replace hb2:=hb2.out
 replace hb3:=hb3.out
 replace hp1:=hp1.out
 replace hbn1:=hbn1.out
 replace hs1:=hs1.out
 replace hn1:=hn1.out
 have hCT:=frd2_CT p n ⟨g1,m1,j1⟩ N wa.heap.size w.heap.size (w.heap.size+1) w4 hb3 hb0 hb1
 refine (then_NI _ _ F1 _ v1 _ w4 hp1 hCT hbn1 (fun j h => by rcases h with rfl | rfl | rfl;exact heap_lt hb3;exact heap_lt hb0;exact heap_lt hb1)).mono ?_
 rintro e w' hR
 have HXZ:=Lib.hid (ext_trans HX4.out hR.ext)
 obtain ⟨v',F',rfl,hX,hp,hbn,hsub,hnF,hbq⟩:=hR.tail (G:=noF) (w.heap.size+1+1) hE (heap_lt hb2) (fun h => by rcases h with h | h | h | h;exact hn1 h;omega;omega;omega) (fun j h => by rcases h with h | h | h | h;exact hs1 j h;exact .inr (by omega);exact .inr (by omega);exact .inr (by omega))
 have hbx:=hbq.trans hb2
 clear hbq hR
 go_wp2
 refine mixQ_mk (over_of HXZ.out) (mix_late ?_)
 clear hE hb0 hb1 hb2 hb3 hp1 hbn1 hs1 hn1 hCT c0 c1 c2 c3 c4 c5 lt d2 d3 d4 d5 e2 e3 hO hF hD
 obtain ⟨y,a2,fn2,rfl,HFN,HX⟩:=tlI hp hX hbx hbn hsub hnF (by omega)
 obtain ⟨c0,c1,c2,c3,c4,c5,c6,cz,ll⟩:=sev_of hbx
 clear hX hbx hp hbn hsub hnF
 rcases HFN.out with rfl | ⟨g',caps',rfl⟩
 all_goals
  go_wp2
  refine lateQ_mk (fun _ => True) trivial (mix_end ?_)
  clear c0 c1 c2 c3 c4 c5 c6 cz ll
  obtain ⟨hX,hB,hP⟩:=HX.out
  clear HX
  generalize (World.setCell _ (⟨w.heap.size+1+1,6,none⟩ : Addr) _) = Z at hX hB hP ⊢
  obtain ⟨c0,c1,c2,c3,c4,c5,c6,cz,ll⟩:=sev_of hB
  go_wp2
  exact bodyPost_ret (by simp only [results,Tryz.results266,go_sem];simp [go_sem,c0,c1,c2,c3,c4,c5,c6]) rfl ⟨_,F',rfl,hX,hP⟩
theorem rcl2_PT (p:Pl) (n:Int) (N:Nat) (x:BitVec 64) (B1 B2:Nat) (w:World)  (k1:PBox B1 p w) (k2:w.heap[B2]? = some (.cells #[.int .i64 n] 3 (0,0))) :
  Calls Tryz.prog 265 #[.int .u64 (U x),.pointer (some ⟨B1,0,none⟩),.pointer (some ⟨B2,0,none⟩)] w (RetP (PT kI (frdT p n N x)) noF w):=by
 have qk1:=heap_lt k1
 have ⟨c0,c1,c2,c3,c4,c5,lt⟩:=PBox.plc k1
 have qk2:=heap_lt k2
 have d2_0:=cell_at (o:=0) k2 rfl
 have e2:=cell_lt d2_0
 replace k1:=Lib.hid k1
 replace k2:=Lib.hid k2
 go_enter Tryz.func265,Tryz.ntmps265
 go_wp2_with (go_at_call 266;refine Hid.out ?_)
 refine Lib.hid ?_
 have ⟨hE,hb0,hW⟩:=al1 w (.cells #[.int .i64 0,.int .i64 0,.int .i64 0,.int .u64 0,.int .u64 0,.nilFunc,.pointer none] 62)
 generalize (w.alloc (.cells #[.int .i64 0,.int .i64 0,.int .i64 0,.int .u64 0,.int .u64 0,.nilFunc,.pointer none] 62)) = W at hE hb0 hW ⊢
 replace k1:=(hE.block _ (heap_lt k1.out)).trans k1.out
 replace k2:=(hE.block _ (heap_lt k2.out)).trans k2.out
 clear hW
 clear c0 c1 c2 c3 c4 c5 lt d2_0 e2
 refine (frd_PT p n N x W).mono ?_
 rintro e w' hR
 obtain ⟨v',F',rfl,hX,hp,hbn,hsub,hnF,hbq⟩:=hR.tail (G:=noF) (w.heap.size) hE (heap_lt hb0) (fun h => h) (fun _ h => h.elim)
 have hbx:=hbq.trans hb0
 clear hbq hR
 clear hE hb0 k1 k2
 obtain ⟨y,a2,fn2,rfl,HFN,HX⟩:=tlI hp hX hbx hbn hsub hnF (by omega)
 obtain ⟨c0,c1,c2,c3,c4,c5,c6,cz,ll⟩:=sev_of hbx
 clear hX hbx hp hbn hsub hnF
 rcases HFN.out with rfl | ⟨g',caps',rfl⟩
 all_goals
  go_wp2
  clear c0 c1 c2 c3 c4 c5 c6 cz ll
  obtain ⟨hX,hB,hP⟩:=HX.out
  clear HX
  generalize (World.setCell _ (⟨w.heap.size,6,none⟩ : Addr) _) = Z at hX hB hP ⊢
  obtain ⟨c0,c1,c2,c3,c4,c5,c6,cz,ll⟩:=sev_of hB
  exact bodyPost_ret (by simp only [results,Tryz.results265,go_sem];simp [go_sem,c0,c1,c2,c3,c4,c5,c6]) rfl ⟨_,F',rfl,hX,hP⟩
theorem rcl2_CT (p:Pl) (n:Int) (N:Nat) (B1 B2:Nat) (w:World)  (k1:PBox B1 p w) (k2:w.heap[B2]? = some (.cells #[.int .i64 n] 3 (0,0))) :
  CT kU kI (fun x => frdT p n N x) (fun j => j = B1 ∨ j = B2) (.func (.func 265) #[] #[.pointer (some ⟨B1,0,none⟩),.pointer (some ⟨B2,0,none⟩)]) w:=
 ⟨_,_,rfl,enters_of Tryz.func265 (by kernel_rfl) rfl,fun x w' ha => (rcl2_PT p n N x B1 B2 w'  ((ha B1 (.inl rfl)).trans k1) ((ha B2 (.inr rfl)).trans k2)).mono fun _ _ h => h.mono fun _ h => h.elim⟩
theorem rcl1_PT (p:Pl) (n:Int) (N:Nat) (sa:Option Addr) (sn sc:Nat) (B1 B2:Nat) (w:World)  (k1:PBox B1 p w) (k2:w.heap[B2]? = some (.cells #[.int .i64 n] 3 (0,0))) :
  Calls Tryz.prog 264 #[.slice sa sn sc,.pointer (some ⟨B1,0,none⟩),.pointer (some ⟨B2,0,none⟩)] w (RetP (PT kI (rcl1T p n N)) (fun j => j = B1 ∨ j = B2) w):=by
 have qk1:=heap_lt k1
 have ⟨c0,c1,c2,c3,c4,c5,lt⟩:=PBox.plc k1
 have qk2:=heap_lt k2
 have d2_0:=cell_at (o:=0) k2 rfl
 have e2:=cell_lt d2_0
 replace k1:=Lib.hid k1
 replace k2:=Lib.hid k2
 go_enter Tryz.func264,Tryz.ntmps264
 go_wp2_with (go_at_call 21;refine Hid.out ?_)
 refine Lib.hid ?_
 have ⟨hE,hb0,hW⟩:=al1 w (.cells #[.int .i64 0,.int .i64 0,.int .i64 0,.int .u64 0,.int .u64 0,.nilFunc,.pointer none] 62)
 generalize (w.alloc (.cells #[.int .i64 0,.int .i64 0,.int .i64 0,.int .u64 0,.int .u64 0,.nilFunc,.pointer none] 62)) = W at hE hb0 hW ⊢
 replace k1:=(hE.block _ (heap_lt k1.out)).trans k1.out
 replace k2:=(hE.block _ (heap_lt k2.out)).trans k2.out
 clear hW
 clear c0 c1 c2 c3 c4 c5 lt d2_0 e2
 refine (state_any p n W).mono ?_
 rintro e w1 ⟨rfl,hx⟩
 replace hE:=ext_trans hE hx
 replace hb0:=(hx.block _ (heap_lt hb0)).trans hb0
 replace k1:=(hx.block _ (heap_lt k1)).trans k1
 replace k2:=(hx.block _ (heap_lt k2)).trans k2
 clear hx
 replace hE:=Lib.hid hE
 replace hb0:=Lib.hid hb0
 replace k1:=Lib.hid k1
 replace k2:=Lib.hid k2
 go_wp2_with (go_at_call 117;refine Hid.out ?_)
 refine Lib.hid ?_
 replace hE:=hE.out
 replace hb0:=hb0.out
 replace k1:=k1.out
 replace k2:=k2.out
 refine (get_PT (p.stF n) w1).mono ?_
 rintro e w2 ⟨v1,F1,rfl,hx,hp1,hbn1,hsub⟩
 have hn1:¬ F1 (w.heap.size):=fun h => (hsub _ h).elim (fun h => h) fun h => by have:=heap_lt hb0;omega
 have hs1:∀ j,F1 j → noF j ∨ w.heap.size ≤ j:=fun j hj => (hsub j hj).imp_right fun h => Nat.le_trans hE.size h
 replace hE:=ext_trans hE hx
 replace hb0:=(hx.block _ (heap_lt hb0)).trans hb0
 replace k1:=(hx.block _ (heap_lt k1)).trans k1
 replace k2:=(hx.block _ (heap_lt k2)).trans k2
 clear hx hsub
 replace hE:=Lib.hid hE
 replace hb0:=Lib.hid hb0
 replace k1:=Lib.hid k1
 replace k2:=Lib.hid k2
 replace hp1:=Lib.hid hp1
 replace hbn1:=Lib.hid hbn1
 replace hs1:=Lib.hid hs1
 replace hn1:=Lib.hid hn1
 go_wp2_with (go_at_call 139;refine Hid.out ?_)
 refine Lib.hid ?_
 replace hE:=hE.out
 replace hb0:=hb0.out
 replace k1:=k1.out
 replace k2:=k2.out
 replace hp1:=hp1.out
 replace hbn1:=hbn1.out
 replace hs1:=hs1.out
 replace hn1:=hn1.out
 have hCT:=rcl2_CT p n N B1 B2 w2 k1 k2
 refine (then_UI _ _ F1 _ v1 _ w2 hp1 hCT hbn1 (fun j h => by rcases h with rfl | rfl;exact heap_lt k1;exact heap_lt k2)).mono ?_
 rintro e w' hR
 obtain ⟨v',F',rfl,hX,hp,hbn,hsub,hnF,hbq⟩:=hR.tail (G:=(fun j => j = B1 ∨ j = B2)) (w.heap.size) hE (heap_lt hb0) (fun h => by rcases h with h | h | h;exact hn1 h;omega;omega) (fun j h => by rcases h with h | h | h;exact (hs1 j h).imp_left False.elim;exact .inl (.inl h);exact .inl (.inr h))
 have hbx:=hbq.trans hb0
 clear hbq hR
 clear hE hb0 k1 k2 hp1 hbn1 hs1 hn1 hCT
 obtain ⟨y,a2,fn2,rfl,HFN,HX⟩:=tlI hp hX hbx hbn hsub hnF (by omega)
 obtain ⟨c0,c1,c2,c3,c4,c5,c6,cz,ll⟩:=sev_of hbx
 clear hX hbx hp hbn hsub hnF
 rcases HFN.out with rfl | ⟨g',caps',rfl⟩
 all_goals
  go_wp2
  clear c0 c1 c2 c3 c4 c5 c6 cz ll
  obtain ⟨hX,hB,hP⟩:=HX.out
  clear HX
  generalize (World.setCell _ (⟨w.heap.size,6,none⟩ : Addr) _) = Z at hX hB hP ⊢
  obtain ⟨c0,c1,c2,c3,c4,c5,c6,cz,ll⟩:=sev_of hB
  exact bodyPost_ret (by simp only [results,Tryz.results264,go_sem];simp [go_sem,c0,c1,c2,c3,c4,c5,c6]) rfl ⟨_,F',rfl,hX,hP⟩
theorem rcl1_CL (p:Pl) (n:Int) (N:Nat) (B1 B2:Nat) (w:World) (k1:PBox B1 p w) (k2:w.heap[B2]? = some (.cells #[.int .i64 n] 3 (0,0))):CL kI (rcl1T p n N) (fun j => j = B1 ∨ j = B2) (.func (.func 264) #[] #[.pointer (some ⟨B1,0,none⟩),.pointer (some ⟨B2,0,none⟩)]) w:=
 ⟨_,_,rfl,enters_of Tryz.func264 (by kernel_rfl) rfl,fun a m c w' ha => (rcl1_PT p n N a m c B1 B2 w' ((ha B1 (.inl rfl)).trans k1) ((ha B2 (.inr rfl)).trans k2))⟩
theorem rcl_PT (p:Pl) (n:Int) (N:Nat) (w:World)   :
  Calls Tryz.prog 258 #[plV p,.int .i64 n] w (RetP (PT kI (rclT p n N)) noF w):=by
 go_enter Tryz.func258,Tryz.ntmps258
 go_wp2_with (go_at_call 263;refine Hid.out ?_)
 refine Lib.hid ?_
 have ⟨hE,hb0,hb1,hb2,hW⟩:=al3 w (.cells #[.int .i64 p.n,.int .i64 p.t,.int .i64 p.r,.int .i64 p.d,.int .i64 p.b,.int .i64 p.g] 23) (.cells #[.int .i64 n] 3) (.cells #[.int .i64 0,.int .i64 0,.int .i64 0,.int .u64 0,.int .u64 0,.nilFunc,.pointer none] 62)
 generalize (((w.alloc (.cells #[.int .i64 p.n,.int .i64 p.t,.int .i64 p.r,.int .i64 p.d,.int .i64 p.b,.int .i64 p.g] 23)).alloc (.cells #[.int .i64 n] 3)).alloc (.cells #[.int .i64 0,.int .i64 0,.int .i64 0,.int .u64 0,.int .u64 0,.nilFunc,.pointer none] 62)) = W at hE hb0 hb1 hb2 hW ⊢
 clear hW
 refine (wipe_PA p n W).mono ?_
 rintro e w1 ⟨v1,F1,rfl,hx,hp1,hbn1,hsub⟩
 have hn1:¬ F1 (w.heap.size+1+1):=fun h => (hsub _ h).elim (fun h => h) fun h => by have:=heap_lt hb2;omega
 have hs1:∀ j,F1 j → noF j ∨ w.heap.size ≤ j:=fun j hj => (hsub j hj).imp_right fun h => Nat.le_trans hE.size h
 replace hE:=ext_trans hE hx
 replace hb0:=(hx.block _ (heap_lt hb0)).trans hb0
 replace hb1:=(hx.block _ (heap_lt hb1)).trans hb1
 replace hb2:=(hx.block _ (heap_lt hb2)).trans hb2
 clear hx hsub
 replace hE:=Lib.hid hE
 replace hb0:=Lib.hid hb0
 replace hb1:=Lib.hid hb1
 replace hb2:=Lib.hid hb2
 replace hp1:=Lib.hid hp1
 replace hbn1:=Lib.hid hbn1
 replace hs1:=Lib.hid hs1
 replace hn1:=Lib.hid hn1
 go_wp2_with (go_at_call 262;refine Hid.out ?_)
 refine Lib.hid ?_
 replace hE:=hE.out
 replace hb0:=hb0.out
 replace hb1:=hb1.out
 replace hb2:=hb2.out
 replace hp1:=hp1.out
 replace hbn1:=hbn1.out
 replace hs1:=hs1.out
 replace hn1:=hn1.out
 have hCT:=rcl1_CL p n N w.heap.size (w.heap.size+1) w1 hb0 hb1
 have hlw:(wipeL p n).length ≤ 3:=by unfold wipeL;rw [List.length_map];exact wds_len p n
 refine (then_LI _ _ _ F1 _ v1 _ w1 hp1 hCT hbn1 (fun j h => by rcases h with rfl | rfl;exact heap_lt hb0;exact heap_lt hb1) (by simp;omega)).mono ?_
 rintro e w' hR
 obtain ⟨v',F',rfl,hX,hp,hbn,hsub,hnF,hbq⟩:=hR.tail (G:=noF) (w.heap.size+1+1) hE (heap_lt hb2) (fun h => by rcases h with h | h | h;exact hn1 h;omega;omega) (fun j h => by rcases h with h | h | h;exact (hs1 j h).imp_left False.elim;exact .inr (by omega);exact .inr (by omega))
 have hbx:=hbq.trans hb2
 clear hbq hR
 clear hE hb0 hb1 hb2 hp1 hbn1 hs1 hn1 hCT hlw
 obtain ⟨y,a2,fn2,rfl,HFN,HX⟩:=tlI hp hX hbx hbn hsub hnF (by omega)
 obtain ⟨c0,c1,c2,c3,c4,c5,c6,cz,ll⟩:=sev_of hbx
 clear hX hbx hp hbn hsub hnF
 rcases HFN.out with rfl | ⟨g',caps',rfl⟩
 all_goals
  go_wp2
  clear c0 c1 c2 c3 c4 c5 c6 cz ll
  obtain ⟨hX,hB,hP⟩:=HX.out
  clear HX
  generalize (World.setCell _ (⟨w.heap.size+1+1,6,none⟩ : Addr) _) = Z at hX hB hP ⊢
  obtain ⟨c0,c1,c2,c3,c4,c5,c6,cz,ll⟩:=sev_of hB
  exact bodyPost_ret (by simp only [results,Tryz.results258,go_sem];simp [go_sem,c0,c1,c2,c3,c4,c5,c6]) rfl ⟨_,F',rfl,hX,hP⟩
end Go.Proofs.YthjklbonebnekaaGreat

