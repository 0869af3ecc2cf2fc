/-
  What the call of become comes to. Conditions: those of each theorem.
-/
import Derived.Test.YthjklbonebnekaaGreatGan
import Derived.Test.YthjklbonebnekaaGreatGap
import Derived.Test.YthjklbonebnekaaGreatGaq
import Derived.Test.YthjklbonebnekaaGreatGas
import Derived.Test.YthjklbonebnekaaGreatGaz
import Derived.Test.YthjklbonebnekaaGreatGba
import Derived.Test.YthjklbonebnekaaGreatGbd
import Derived.Test.YthjklbonebnekaaGreatGbj
set_option maxRecDepth 8000
set_option maxHeartbeats 4000000
namespace Go.Proofs.YthjklbonebnekaaGreat
open Go Go.RowKit
theorem bec2_PT (s:St) (B1:Nat) (w:World)  (k1:w.heap[B1]? = some (.cells #[.int .i64 s.g,.int .i64 s.m,.int .i64 s.k] 56 (0,0))) :
  Calls Tryz.prog 155 #[.agg #[],.pointer (some ⟨B1,0,none⟩)] w (RetP (PT kS (.done s)) noF w):=by
 have qk1:=heap_lt k1
 have d1_0:=cell_at (o:=0) k1 rfl
 have d1_1:=cell_at (o:=1) k1 rfl
 have d1_2:=cell_at (o:=2) k1 rfl
 have e1:=cell_lt d1_0
 replace k1:=Lib.hid k1
 go_enter Tryz.func155,Tryz.ntmps155
 go_wp2_with (go_at_call 156;refine Hid.out ?_)
 refine Lib.hid ?_
 have ⟨hE,hb0,hb1,hW⟩:=al2 w (.cells #[] 132) (.cells #[.int .i64 0,.int .i64 0,.int .i64 0,.int .i64 0,.int .i64 0,.int .u64 0,.int .u64 0,.nilFunc,.pointer none] 153)
 generalize ((w.alloc (.cells #[] 132)).alloc (.cells #[.int .i64 0,.int .i64 0,.int .i64 0,.int .i64 0,.int .i64 0,.int .u64 0,.int .u64 0,.nilFunc,.pointer none] 153)) = W at hE hb0 hb1 hW ⊢
 replace k1:=(hE.block _ (heap_lt k1.out)).trans k1.out
 clear hW
 clear d1_1 d1_2 d1_0 e1
 refine (doneS_PT s W).mono ?_
 rintro e w' hR
 obtain ⟨v',F',rfl,hX,hp,hbn,hsub,hnF,hbq⟩:=hR.tail (G:=noF) (w.heap.size+1) hE (heap_lt hb1) (fun h => h) (fun _ h => h.elim)
 have hbx:=hbq.trans hb1
 clear hbq hR
 clear hE hb0 hb1 k1
 obtain ⟨y0,y1,y2,a2,fn2,rfl,HFN,HX⟩:=tlS hp hX hbx hbn hsub hnF (by omega)
 obtain ⟨c0,c1,c2,c3,c4,c5,c6,c7,c8,cz,ll⟩:=nin_of hbx
 clear hX hbx hp hbn hsub hnF
 rcases HFN.out with rfl | ⟨g',caps',rfl⟩
 all_goals
  go_wp2
  clear c0 c1 c2 c3 c4 c5 c6 c7 c8 cz ll
  obtain ⟨hX,hB,hP⟩:=HX.out
  clear HX
  generalize (World.setCell _ (⟨w.heap.size+1,8,none⟩ : Addr) _) = Z at hX hB hP ⊢
  obtain ⟨c0,c1,c2,c3,c4,c5,c6,c7,c8,cz,ll⟩:=nin_of hB
  exact bodyPost_ret (by simp only [results,Tryz.results155,go_sem];simp [go_sem,c0,c1,c2,c3,c4,c5,c6,c7,c8]) rfl ⟨_,F',rfl,hX,hP⟩
theorem bec2_CT (s:St) (B1:Nat) (w:World)  (k1:w.heap[B1]? = some (.cells #[.int .i64 s.g,.int .i64 s.m,.int .i64 s.k] 56 (0,0))) :
  CT kN kS (fun _ => .done s) (fun j => j = B1) (.func (.func 155) #[] #[.pointer (some ⟨B1,0,none⟩)]) w:=by
 refine ⟨_,_,rfl,enters_of Tryz.func155 (by kernel_rfl) rfl,fun _ w' ha => ?_⟩
 exact (bec2_PT s  B1 w'  ((ha B1 (rfl)).trans k1)).mono fun _ _ h => h.mono fun j h => h.elim
theorem bec1_PT (p:Pl) (n:Int) (f:St → St) (x:BitVec 64) (F:Nat → Prop) (g:FuncId) (caps:Array Value) (B1 B2 B3:Nat) (w:World) (hA:FS f F (.func (.func g) #[] caps) w) (k1:w.heap[B1]? = some (.cells #[.func (.func g) #[] caps] 149 (0,0))) (k2:PBox B2 p w) (k3:w.heap[B3]? = some (.cells #[.int .i64 n] 3 (0,0))) (hF:Bnd F w) :
  Calls Tryz.prog 153 #[.int .u64 (U x),.pointer (some ⟨B1,0,none⟩),.pointer (some ⟨B2,0,none⟩),.pointer (some ⟨B3,0,none⟩)] w (RetP (PT kS (bec1T p n f x)) noF w):=by
 obtain ⟨s0,hs0⟩ : ∃ s0,ofS x = s0:=⟨_,rfl⟩
 obtain ⟨s1,hs1⟩ : ∃ s1,f s0 = s1:=⟨_,rfl⟩
 have eT:bec1T p n f x = (setT (p.stF n) s1.word).bind fun _ => .done s1:=by unfold bec1T;rw [hs0,hs1]
 rw [eT]
 clear eT
 obtain ⟨g',caps',e,hg,hc⟩:=hA
 cases e
 have hN:=hc s0
 rw [hs1] at hN
 unfold Enters at hg
 clear hc
 obtain ⟨g0,m0,j0⟩:=s0
 obtain ⟨g1,m1,j1⟩:=s1
 have hO:∀ W,Calls Tryz.prog 101 #[.int .u64 (U x)] W (Ret (.tuple #[.agg #[.int .i64 g0,.int .i64 m0,.int .i64 j0],.bool (decide (isW x))]) W):=fun W => by
  have:=of_any x W
  rw [hs0] at this
  exact this
 have hD:∀ W,Calls Tryz.prog 22 #[.agg #[.int .i64 g1,.int .i64 m1,.int .i64 j1]] W (Ret (.int .u64 (U (St.word ⟨g1,m1,j1⟩))) W):=fun W => word_any ⟨g1,m1,j1⟩ W
 clear hs0 hs1
 have qk1:=heap_lt k1
 have d1_0:=cell_at (o:=0) k1 rfl
 have e1:=cell_lt d1_0
 have qk2:=heap_lt k2
 have ⟨c0,c1,c2,c3,c4,c5,lt⟩:=PBox.plc k2
 have qk3:=heap_lt k3
 have d3_0:=cell_at (o:=0) k3 rfl
 have e3:=cell_lt d3_0
 replace k1:=Lib.hid k1
 replace k2:=Lib.hid k2
 replace k3:=Lib.hid k3
 replace hO:=Lib.hid hO
 replace hD:=Lib.hid hD
 replace hN:=Lib.hid hN
 replace hF:=Lib.hid hF
 go_enter Tryz.func153,Tryz.ntmps153
 go_wp2_with (go_at_call 101;refine Hid.out ?_)
 refine Lib.hid ?_
 have ⟨hE,hb0,hW⟩:=al1 w (.cells #[.int .i64 0,.int .i64 0,.int .i64 0,.int .i64 0,.int .i64 0,.int .u64 0,.int .u64 0,.nilFunc,.pointer none] 153)
 generalize (w.alloc (.cells #[.int .i64 0,.int .i64 0,.int .i64 0,.int .i64 0,.int .i64 0,.int .u64 0,.int .u64 0,.nilFunc,.pointer none] 153)) = W at hE hb0 hW ⊢
 replace k1:=(hE.block _ (heap_lt k1.out)).trans k1.out
 replace k2:=(hE.block _ (heap_lt k2.out)).trans k2.out
 replace k3:=(hE.block _ (heap_lt k3.out)).trans k3.out
 clear hW
 clear d1_0 e1 c0 c1 c2 c3 c4 c5 lt d3_0 e3
 refine (hO.out W).mono ?_
 rintro e wa ⟨rfl,hx⟩
 replace hE:=ext_trans hE hx
 replace hb0:=(hx.block _ (heap_lt hb0)).trans hb0
 replace k1:=(hx.block _ (heap_lt k1)).trans k1
 replace k2:=(hx.block _ (heap_lt k2)).trans k2
 replace k3:=(hx.block _ (heap_lt k3)).trans k3
 clear hx
 have d4_0:=cell_at (o:=0) k1 rfl
 have e4:=cell_lt d4_0
 have hsz:=heap_lt hb0
 have HCX:=Lib.hid (hN.out (wa.alloc (.cells #[.int .i64 g0,.int .i64 m0,.int .i64 j0] 56)) (Agr.of_ext (ext_trans hE (ext_alloc _ (ext_refl wa))) hF.out))
 replace hE:=Lib.hid hE
 replace hb0:=Lib.hid hb0
 replace k1:=Lib.hid k1
 replace k2:=Lib.hid k2
 replace k3:=Lib.hid k3
 go_wp2_with (refine HCX.out.mono ?_;rintro e wb ⟨rfl,hx⟩;refine Hid.out ?_)
 refine Lib.hid ?_
 replace hE:=hE.out
 replace hb0:=hb0.out
 replace k1:=k1.out
 replace k2:=k2.out
 replace k3:=k3.out
 clear d4_0 e4
 have hb3:=(hx.block wa.heap.size (by simp)).trans (heap_at wa _ _ rfl)
 replace hx:=ext_trans (ext_alloc _ (ext_refl wa)) hx
 replace hE:=ext_trans hE hx
 replace hb0:=(hx.block _ (heap_lt hb0)).trans hb0
 replace k1:=(hx.block _ (heap_lt k1)).trans k1
 replace k2:=(hx.block _ (heap_lt k2)).trans k2
 replace k3:=(hx.block _ (heap_lt k3)).trans k3
 clear hx HCX
 have hrb:=heap_lt hb0
 have z0:=cell_at (o:=0) hb3 rfl
 have z1:=cell_at (o:=1) hb3 rfl
 have z2:=cell_at (o:=2) hb3 rfl
 have zz:∀ o,wb.frozen? ⟨wa.heap.size,o,none⟩ = false:=fun _ => free_at hb3
 have zl:=heap_lt hb3
 have hX:=put3_ext (b:=wa.heap.size) (.int .i64 g1) (.int .i64 m1) (.int .i64 j1) hE (by omega)
 have hB:=put3_block (.int .i64 g1) (.int .i64 m1) (.int .i64 j1) hb3
 have hq0:=(put3_other (w:=wb) (b:=wa.heap.size) (k:=w.heap.size) (.int .i64 g1) (.int .i64 m1) (.int .i64 j1) (by omega)).trans hb0
 have hq2:=(put3_other (w:=wb) (b:=wa.heap.size) (k:=B2) (.int .i64 g1) (.int .i64 m1) (.int .i64 j1) (by omega)).trans k2
 have hq3:=(put3_other (w:=wb) (b:=wa.heap.size) (k:=B3) (.int .i64 g1) (.int .i64 m1) (.int .i64 j1) (by omega)).trans k3
 rw [put3] at hX hB hq0 hq2 hq3
 have HQ:=Lib.hid (And.intro hX (And.intro hB (And.intro hq0 (And.intro hq2 hq3))))
 clear hX hB hq0 hq2 hq3
 replace hE:=Lib.hid hE
 replace hb0:=Lib.hid hb0
 replace k1:=Lib.hid k1
 replace k2:=Lib.hid k2
 replace k3:=Lib.hid k3
 replace hb3:=Lib.hid hb3
 go_upto_region 3 with (fail)
 clear z0 z1 z2 zz zl hE hb0 hb3 k1 k2 k3
 obtain ⟨hE,hb3,hb0,k2,k3⟩:=HQ.out
 clear HQ
 generalize (World.setCell _ (⟨wa.heap.size,2,none⟩ : Addr) _) = X at hE hb3 hb0 k2 k3 ⊢
 have hsX:=hE.size
 have ⟨c0,c1,c2,c3,c4,c5,lt⟩:=PBox.plc k2
 have d2:=cell_at (o:=0) k3 rfl
 have d3:=cell_at (o:=0) hb3 rfl
 have d4:=cell_at (o:=1) hb3 rfl
 have d5:=cell_at (o:=2) hb3 rfl
 have e2:=cell_lt d2
 have e3:=cell_lt d3
 replace hE:=Lib.hid hE
 replace hb0:=Lib.hid hb0
 replace hb3:=Lib.hid hb3
 replace k2:=Lib.hid k2
 replace k3:=Lib.hid k3
 refine wp_region_mix (fun w' => ∃ s,w' = over X s) [(0,[0,1,3,6]),(1,[2]),(1,[4]),(1,[5]),(1,[7]),(2,[8])] (by kernel_rfl) (by kernel_rfl) (over_of (ext_drew (ext_refl X))) ?_
 simp only [pieces,pickL,List.map_cons,List.map_nil,List.getD_cons_zero,List.getD_cons_succ]
 refine mix_reads ?_
 repeat (go_big_quiet_step (fail))
 refine wpQuiet_nil (mix_acts ?_)
 have HX0:=Lib.hid (ext_drew (ext_refl X))
 go_wp2_with (go_at_call 21;refine (state_any p n _).mono ?_;rintro e w1 ⟨rfl,hx⟩;have HX1:=Lib.hid (ext_trans HX0.out hx);clear hx)
 refine mixQ_mk (over_of HX1.out) (mix_acts ?_)
 go_wp2_with (go_at_call 22;refine (hD.out _).mono ?_;rintro e w2 ⟨rfl,hx⟩;have HX2:=Lib.hid (ext_trans HX1.out hx);clear hx)
 refine mixQ_mk (over_of HX2.out) (mix_acts ?_)
 go_wp2_with (go_at_call 120;refine (set_PT (p.stF n) (St.word ⟨g1,m1,j1⟩) _).mono ?_;rintro e w4 ⟨v1,F1,rfl,hx,hp1,hbn1,hsub1⟩;refine Hid.out ?_)
 refine Lib.hid ?_
 replace hE:=hE.out
 replace hb0:=hb0.out
 replace hb3:=hb3.out
 replace k2:=k2.out
 replace k3:=k3.out
 have hn1:¬ F1 (w.heap.size):=fun h => (hsub1 _ h).elim (fun h => h) fun h => by have:=heap_lt hb0;have:=HX2.out.size;omega
 have hs1:∀ j,F1 j → noF j ∨ w.heap.size ≤ j:=fun j hj => (hsub1 j hj).imp_right fun h => Nat.le_trans (Nat.le_trans hE.size HX2.out.size) h
 have HX4:=Lib.hid (ext_trans HX2.out hx)
 replace hb0:=(HX4.out.block _ (heap_lt hb0)).trans hb0
 replace hb3:=(HX4.out.block _ (heap_lt hb3)).trans hb3
 replace k2:=(HX4.out.block _ (heap_lt k2)).trans k2
 replace k3:=(HX4.out.block _ (heap_lt k3)).trans k3
 replace hE:=ext_trans hE HX4.out
 clear hx hsub1
 replace hE:=Lib.hid hE
 replace hb0:=Lib.hid hb0
 replace hb3:=Lib.hid hb3
 replace k2:=Lib.hid k2
 replace k3:=Lib.hid k3
 replace hp1:=Lib.hid hp1
 replace hbn1:=Lib.hid hbn1
 replace hs1:=Lib.hid hs1
 replace hn1:=Lib.hid hn1
 go_wp2
 refine mixQ_mk (over_of HX4.out) (mix_acts ?_)
 go_wp2_with (go_at_call 154;refine Hid.out ?_)
 refine Lib.hid ?_
 replace hE:=hE.out
 replace hb0:=hb0.out
 replace hb3:=hb3.out
 replace k2:=k2.out
 replace k3:=k3.out
 replace hp1:=hp1.out
 replace hbn1:=hbn1.out
 replace hs1:=hs1.out
 replace hn1:=hn1.out
 have hCT:=bec2_CT ⟨g1,m1,j1⟩ wa.heap.size w4 hb3
 refine (then_NS _ _ F1 _ v1 _ w4 hp1 hCT hbn1 (fun j h => by subst h;exact heap_lt hb3)).mono ?_
 rintro e w' hR
 have HXZ:=Lib.hid (ext_trans HX4.out hR.ext)
 obtain ⟨v',F',rfl,hX,hp,hbn,hsub,hnF,hbq⟩:=hR.tail (G:=noF) (w.heap.size) hE (heap_lt hb0) (fun h => by rcases h with h | h;exact hn1 h;omega) (fun j h => by rcases h with h | h;exact hs1 j h;exact .inr (by omega))
 have hbx:=hbq.trans hb0
 clear hbq hR
 go_wp2
 refine mixQ_mk (over_of HXZ.out) (mix_late ?_)
 clear hE hb0 hb3 k2 k3 hp1 hbn1 hs1 hn1 hCT c0 c1 c2 c3 c4 c5 lt d2 d3 d4 d5 e2 e3 hO hD hN hF hrb
 obtain ⟨y0,y1,y2,a2,fn2,rfl,HFN,HX⟩:=tlS hp hX hbx hbn hsub hnF (by omega)
 obtain ⟨c0,c1,c2,c3,c4,c5,c6,c7,c8,cz,ll⟩:=nin_of hbx
 clear hX hbx hp hbn hsub hnF
 rcases HFN.out with rfl | ⟨g',caps',rfl⟩
 all_goals
  go_wp2
  refine lateQ_mk (fun _ => True) trivial (mix_end ?_)
  clear c0 c1 c2 c3 c4 c5 c6 c7 c8 cz ll
  obtain ⟨hX,hB,hP⟩:=HX.out
  clear HX
  generalize (World.setCell _ (⟨w.heap.size,8,none⟩ : Addr) _) = Z at hX hB hP ⊢
  obtain ⟨c0,c1,c2,c3,c4,c5,c6,c7,c8,cz,ll⟩:=nin_of hB
  go_wp2
  exact bodyPost_ret (by simp only [results,Tryz.results153,go_sem];simp [go_sem,c0,c1,c2,c3,c4,c5,c6,c7,c8]) rfl ⟨_,F',rfl,hX,hP⟩
theorem bec1_CT (p:Pl) (n:Int) (f:St → St) (F:Nat → Prop) (g:FuncId) (caps:Array Value) (B1 B2 B3:Nat) (w:World) (hA:FS f F (.func (.func g) #[] caps) w) (k1:w.heap[B1]? = some (.cells #[.func (.func g) #[] caps] 149 (0,0))) (k2:PBox B2 p w) (k3:w.heap[B3]? = some (.cells #[.int .i64 n] 3 (0,0))) (hF:Bnd F w) :
  CT kU kS (fun x => bec1T p n f x) (fun j => F j ∨ j = B1 ∨ j = B2 ∨ j = B3) (.func (.func 153) #[] #[.pointer (some ⟨B1,0,none⟩),.pointer (some ⟨B2,0,none⟩),.pointer (some ⟨B3,0,none⟩)]) w:=by
 refine ⟨_,_,rfl,enters_of Tryz.func153 (by kernel_rfl) rfl,fun x w' ha => ?_⟩
 have hFw:Agr F w w':=ha.sub fun j h => .inl h
 exact (bec1_PT p n f x F g caps B1 B2 B3 w' (hA.agr hFw) ((ha B1 (.inr (.inl rfl))).trans k1) ((ha B2 (.inr (.inr (.inl rfl)))).trans k2) ((ha B3 (.inr (.inr (.inr rfl)))).trans k3) (hF.agr hFw)).mono fun _ _ h => h.mono fun j h => h.elim
theorem bec_PT (p:Pl) (n:Int) (f:St → St) (F:Nat → Prop) (g:FuncId) (caps:Array Value) (w:World) (hA:FS f F (.func (.func g) #[] caps) w)  (hF:Bnd F w) :
  Calls Tryz.prog 72 #[plV p,.int .i64 n,.func (.func g) #[] caps] w (RetP (PT kS (becT p n f)) F w):=by
 replace hA:=Lib.hid hA
 go_enter Tryz.func72,Tryz.ntmps72
 go_wp2_with (go_at_call 21;refine Hid.out ?_)
 refine Lib.hid ?_
 have ⟨hE,hb0,hb1,hb2,hb3,hW⟩:=al4 w (.cells #[.int .i64 p.n,.int .i64 p.t,.int .i64 p.r,.int .i64 p.d,.int .i64 p.b,.int .i64 p.g] 23) (.cells #[.int .i64 n] 3) (.cells #[.func (.func g) #[] caps] 149) (.cells #[.int .i64 0,.int .i64 0,.int .i64 0,.int .i64 0,.int .i64 0,.int .u64 0,.int .u64 0,.nilFunc,.pointer none] 153)
 generalize ((((w.alloc (.cells #[.int .i64 p.n,.int .i64 p.t,.int .i64 p.r,.int .i64 p.d,.int .i64 p.b,.int .i64 p.g] 23)).alloc (.cells #[.int .i64 n] 3)).alloc (.cells #[.func (.func g) #[] caps] 149)).alloc (.cells #[.int .i64 0,.int .i64 0,.int .i64 0,.int .i64 0,.int .i64 0,.int .u64 0,.int .u64 0,.nilFunc,.pointer none] 153)) = W at hE hb0 hb1 hb2 hb3 hW ⊢
 clear hW
 refine (state_any p n W).mono ?_
 rintro e w1 ⟨rfl,hx⟩
 replace hE:=ext_trans hE hx
 replace hb0:=(hx.block _ (heap_lt hb0)).trans hb0
 replace hb1:=(hx.block _ (heap_lt hb1)).trans hb1
 replace hb2:=(hx.block _ (heap_lt hb2)).trans hb2
 replace hb3:=(hx.block _ (heap_lt hb3)).trans hb3
 clear hx
 replace hE:=Lib.hid hE
 replace hb0:=Lib.hid hb0
 replace hb1:=Lib.hid hb1
 replace hb2:=Lib.hid hb2
 replace hb3:=Lib.hid hb3
 go_wp2_with (go_at_call 117;refine Hid.out ?_)
 refine Lib.hid ?_
 replace hE:=hE.out
 replace hb0:=hb0.out
 replace hb1:=hb1.out
 replace hb2:=hb2.out
 replace hb3:=hb3.out
 refine (get_PT (p.stF n) w1).mono ?_
 rintro e w2 ⟨v1,F1,rfl,hx,hp1,hbn1,hsub⟩
 have hn1:¬ F1 (w.heap.size+1+1+1):=fun h => (hsub _ h).elim (fun h => h) fun h => by have:=heap_lt hb3;omega
 have hs1:∀ j,F1 j → noF j ∨ w.heap.size ≤ j:=fun j hj => (hsub j hj).imp_right fun h => Nat.le_trans hE.size h
 replace hE:=ext_trans hE hx
 replace hb0:=(hx.block _ (heap_lt hb0)).trans hb0
 replace hb1:=(hx.block _ (heap_lt hb1)).trans hb1
 replace hb2:=(hx.block _ (heap_lt hb2)).trans hb2
 replace hb3:=(hx.block _ (heap_lt hb3)).trans hb3
 clear hx hsub
 replace hE:=Lib.hid hE
 replace hb0:=Lib.hid hb0
 replace hb1:=Lib.hid hb1
 replace hb2:=Lib.hid hb2
 replace hb3:=Lib.hid hb3
 replace hp1:=Lib.hid hp1
 replace hbn1:=Lib.hid hbn1
 replace hs1:=Lib.hid hs1
 replace hn1:=Lib.hid hn1
 go_wp2_with (go_at_call 152;refine Hid.out ?_)
 refine Lib.hid ?_
 replace hE:=hE.out
 replace hb0:=hb0.out
 replace hb1:=hb1.out
 replace hb2:=hb2.out
 replace hb3:=hb3.out
 replace hp1:=hp1.out
 replace hbn1:=hbn1.out
 replace hs1:=hs1.out
 replace hn1:=hn1.out
 have hCT:=bec1_CT p n f F g caps (w.heap.size+1+1) w.heap.size (w.heap.size+1) w2 (hA.out.agr (Agr.of_ext hE hF)) hb2 hb0 hb1 (hF.ext hE.size)
 refine (then_US _ _ F1 _ v1 _ w2 hp1 hCT hbn1 (fun j h => by rcases h with h | rfl | rfl | rfl;exact Nat.lt_of_lt_of_le (hF j h) hE.size;exact heap_lt hb2;exact heap_lt hb0;exact heap_lt hb1)).mono ?_
 rintro e w' hR
 obtain ⟨v',F',rfl,hX,hp,hbn,hsub,hnF,hbq⟩:=hR.tail (G:=F) (w.heap.size+1+1+1) hE (heap_lt hb3) (fun h => by rcases h with h | h | h | h | h;exact hn1 h;(have:=hF _ h;omega);omega;omega;omega) (fun j h => by rcases h with h | h | h | h | h;exact (hs1 j h).imp_left False.elim;exact .inl (h);exact .inr (by omega);exact .inr (by omega);exact .inr (by omega))
 have hbx:=hbq.trans hb3
 clear hbq hR
 clear hE hb0 hb1 hb2 hb3 hp1 hbn1 hs1 hn1 hA hCT
 obtain ⟨y0,y1,y2,a2,fn2,rfl,HFN,HX⟩:=tlS hp hX hbx hbn hsub hnF (by omega)
 obtain ⟨c0,c1,c2,c3,c4,c5,c6,c7,c8,cz,ll⟩:=nin_of hbx
 clear hX hbx hp hbn hsub hnF
 rcases HFN.out with rfl | ⟨g',caps',rfl⟩
 all_goals
  go_wp2
  clear c0 c1 c2 c3 c4 c5 c6 c7 c8 cz ll
  obtain ⟨hX,hB,hP⟩:=HX.out
  clear HX
  generalize (World.setCell _ (⟨w.heap.size+1+1+1,8,none⟩ : Addr) _) = Z at hX hB hP ⊢
  obtain ⟨c0,c1,c2,c3,c4,c5,c6,c7,c8,cz,ll⟩:=nin_of hB
  exact bodyPost_ret (by simp only [results,Tryz.results72,go_sem];simp [go_sem,c0,c1,c2,c3,c4,c5,c6,c7,c8]) rfl ⟨_,F',rfl,hX,hP⟩
theorem tw2_PT (tr:Tr Int) (x:Int) (F:Nat → Prop) (g:FuncId) (caps:Array Value) (B1:Nat) (w:World) (hA:AT tr F (.func (.func g) #[] caps) w) (k1:w.heap[B1]? = some (.cells #[.func (.func g) #[] caps] 145 (0,0))) (hF:Bnd F w) :
  Calls Tryz.prog 149 #[.int .i64 x,.pointer (some ⟨B1,0,none⟩)] w (RetP (PT kI (tr)) F w):=by
 obtain ⟨g',caps',e,hg,hc⟩:=hA
 cases e
 unfold Enters at hg
 have HN:=Lib.hid hc
 have d1:=cell_at (o:=0) k1 rfl
 have l1:=cell_lt d1
 have hnF0:¬ F w.heap.size:=fun h => by have:=hF _ h;omega
 replace hnF0:=Lib.hid hnF0
 clear hc k1
 go_enter Tryz.func149,Tryz.ntmps149
 go_wp2_with (refine (HN.out _ (Agr.of_ext (by repeat (first | exact ext_refl _ | apply ext_alloc)) hF)).mono ?_;rintro e w' hR;obtain ⟨v',F',rfl,hX,hp,hbn,hsub,hnF,hbq⟩:=hR.tail (G:=F) w.heap.size (ext_alloc _ (ext_refl w)) (by simp) hnF0.out (fun j h => .inl h);refine Hid.out ?_)
 refine Lib.hid ?_
 have hbx:=hbq.trans (heap_at w _ _ rfl)
 clear hbq hR HN
 obtain ⟨y,a2,fn2,rfl,HFN,HX⟩:=tlI hp hX hbx hbn hsub hnF (by omega)
 obtain ⟨c0,c1,c2,c3,c4,c5,c6,cz,ll⟩:=sev_of hbx
 clear hX hbx hp hbn hsub hnF
 rcases HFN.out with rfl | ⟨g',caps',rfl⟩
 all_goals
  go_wp2
  clear c0 c1 c2 c3 c4 c5 c6 cz ll
  obtain ⟨hX,hB,hP⟩:=HX.out
  clear HX
  generalize (World.setCell _ (⟨w.heap.size,6,none⟩ : Addr) _) = Z at hX hB hP ⊢
  obtain ⟨c0,c1,c2,c3,c4,c5,c6,cz,ll⟩:=sev_of hB
  exact bodyPost_ret (by simp only [results,Tryz.results149,go_sem];simp [go_sem,c0,c1,c2,c3,c4,c5,c6]) rfl ⟨_,F',rfl,hX,hP⟩
theorem tw2_CT (tr:Tr Int) (F:Nat → Prop) (g:FuncId) (caps:Array Value) (B1:Nat) (w:World) (hA:AT tr F (.func (.func g) #[] caps) w) (k1:w.heap[B1]? = some (.cells #[.func (.func g) #[] caps] 145 (0,0))) (hF:Bnd F w) :
  CT kI kI (fun _ => tr) (fun j => F j ∨ j = B1) (.func (.func 149) #[] #[.pointer (some ⟨B1,0,none⟩)]) w:=by
 refine ⟨_,_,rfl,enters_of Tryz.func149 (by kernel_rfl) rfl,fun x w' ha => ?_⟩
 have hFw:Agr F w w':=ha.sub fun j h => .inl h
 exact (tw2_PT tr x F g caps B1 w' (hA.agr hFw) ((ha B1 (.inr rfl)).trans k1) (hF.agr hFw)).mono fun _ _ h => h.mono fun j h => .inl h
theorem tw1_PT (p:Pl) (t:Int) (N:Nat) (tr:Tr Int) (r:Int) (F:Nat → Prop) (g:FuncId) (caps:Array Value) (B1 B2 B3:Nat) (w:World) (hA:AT tr F (.func (.func g) #[] caps) w) (hp:p.ok) (k1:PBox B1 p w) (k2:w.heap[B2]? = some (.cells #[.int .i64 t] 3 (0,0))) (k3:w.heap[B3]? = some (.cells #[.func (.func g) #[] caps] 145 (0,0))) (hF:Bnd F w) :
  Calls Tryz.prog 147 #[.int .i64 r,.pointer (some ⟨B1,0,none⟩),.pointer (some ⟨B2,0,none⟩),.pointer (some ⟨B3,0,none⟩)] w (RetP (PT kI (tw1T p t N tr r)) (fun j => F j ∨ j = B1 ∨ j = B2 ∨ j = B3) w):=by
 by_cases hr:r = -1
 ·subst hr
  have eT:tw1T p t N tr (-1) = (scanT p t N).bind fun _ => tr:=by unfold tw1T;rw [if_pos rfl]
  rw [eT]
  clear eT
  have qk1:=heap_lt k1
  have ⟨c0,c1,c2,c3,c4,c5,lt⟩:=PBox.plc k1
  have qk2:=heap_lt k2
  have d2_0:=cell_at (o:=0) k2 rfl
  have e2:=cell_lt d2_0
  have qk3:=heap_lt k3
  have d3_0:=cell_at (o:=0) k3 rfl
  have e3:=cell_lt d3_0
  replace k1:=Lib.hid k1
  replace k2:=Lib.hid k2
  replace k3:=Lib.hid k3
  replace hA:=Lib.hid hA
  go_enter Tryz.func147,Tryz.ntmps147
  go_wp2_with (go_at_call 148;refine Hid.out ?_)
  refine Lib.hid ?_
  have ⟨hE,hb0,hW⟩:=al1 w (.cells #[.int .i64 0,.int .i64 0,.int .i64 0,.int .u64 0,.int .u64 0,.nilFunc,.pointer none] 62)
  generalize (w.alloc (.cells #[.int .i64 0,.int .i64 0,.int .i64 0,.int .u64 0,.int .u64 0,.nilFunc,.pointer none] 62)) = W at hE hb0 hW ⊢
  replace k1:=(hE.block _ (heap_lt k1.out)).trans k1.out
  replace k2:=(hE.block _ (heap_lt k2.out)).trans k2.out
  replace k3:=(hE.block _ (heap_lt k3.out)).trans k3.out
  clear hW
  clear c0 c1 c2 c3 c4 c5 lt d2_0 e2 d3_0 e3
  refine (scan_PT p t N W hp).mono ?_
  rintro e w1 ⟨v1,F1,rfl,hx,hp1,hbn1,hsub⟩
  have hn1:¬ F1 (w.heap.size):=fun h => (hsub _ h).elim (fun h => h) fun h => by have:=heap_lt hb0;omega
  have hs1:∀ j,F1 j → noF j ∨ w.heap.size ≤ j:=fun j hj => (hsub j hj).imp_right fun h => Nat.le_trans hE.size h
  replace hE:=ext_trans hE hx
  replace hb0:=(hx.block _ (heap_lt hb0)).trans hb0
  replace k1:=(hx.block _ (heap_lt k1)).trans k1
  replace k2:=(hx.block _ (heap_lt k2)).trans k2
  replace k3:=(hx.block _ (heap_lt k3)).trans k3
  clear hx hsub
  replace hE:=Lib.hid hE
  replace hb0:=Lib.hid hb0
  replace k1:=Lib.hid k1
  replace k2:=Lib.hid k2
  replace k3:=Lib.hid k3
  replace hp1:=Lib.hid hp1
  replace hbn1:=Lib.hid hbn1
  replace hs1:=Lib.hid hs1
  replace hn1:=Lib.hid hn1
  go_wp2_with (go_at_call 146;refine Hid.out ?_)
  refine Lib.hid ?_
  replace hE:=hE.out
  replace hb0:=hb0.out
  replace k1:=k1.out
  replace k2:=k2.out
  replace k3:=k3.out
  replace hp1:=hp1.out
  replace hbn1:=hbn1.out
  replace hs1:=hs1.out
  replace hn1:=hn1.out
  have hCT:=tw2_CT tr F g caps B3 w1 (hA.out.agr (Agr.of_ext hE hF)) k3 (hF.ext hE.size)
  refine (then_II _ _ F1 _ v1 _ w1 hp1 hCT hbn1 (fun j h => by rcases h with h | rfl;exact Nat.lt_of_lt_of_le (hF j h) hE.size;exact heap_lt k3)).mono ?_
  rintro e w' hR
  obtain ⟨v',F',rfl,hX,hp,hbn,hsub,hnF,hbq⟩:=hR.tail (G:=(fun j => F j ∨ j = B1 ∨ j = B2 ∨ j = B3)) (w.heap.size) hE (heap_lt hb0) (fun h => by rcases h with h | h | h;exact hn1 h;(have:=hF _ h;omega);omega) (fun j h => by rcases h with h | h | h;exact (hs1 j h).imp_left False.elim;exact .inl (.inl h);exact .inl (.inr (.inr (.inr h))))
  have hbx:=hbq.trans hb0
  clear hbq hR
  clear hE hb0 k1 k2 k3 hp1 hbn1 hs1 hn1 hA hCT
  obtain ⟨y,a2,fn2,rfl,HFN,HX⟩:=tlI hp hX hbx hbn hsub hnF (by omega)
  obtain ⟨c0,c1,c2,c3,c4,c5,c6,cz,ll⟩:=sev_of hbx
  clear hX hbx hp hbn hsub hnF
  rcases HFN.out with rfl | ⟨g',caps',rfl⟩
  all_goals
   go_wp2
   clear c0 c1 c2 c3 c4 c5 c6 cz ll
   obtain ⟨hX,hB,hP⟩:=HX.out
   clear HX
   generalize (World.setCell _ (⟨w.heap.size,6,none⟩ : Addr) _) = Z at hX hB hP ⊢
   obtain ⟨c0,c1,c2,c3,c4,c5,c6,cz,ll⟩:=sev_of hB
   exact bodyPost_ret (by simp only [results,Tryz.results147,go_sem];simp [go_sem,c0,c1,c2,c3,c4,c5,c6]) rfl ⟨_,F',rfl,hX,hP⟩
 ·have eT:tw1T p t N tr r = .done r:=by unfold tw1T;rw [if_neg hr]
  rw [eT]
  clear eT hA
  have qk1:=heap_lt k1
  have ⟨c0,c1,c2,c3,c4,c5,lt⟩:=PBox.plc k1
  have qk2:=heap_lt k2
  have d2_0:=cell_at (o:=0) k2 rfl
  have e2:=cell_lt d2_0
  have qk3:=heap_lt k3
  have d3_0:=cell_at (o:=0) k3 rfl
  have e3:=cell_lt d3_0
  replace k1:=Lib.hid k1
  replace k2:=Lib.hid k2
  replace k3:=Lib.hid k3
  go_enter Tryz.func147,Tryz.ntmps147
  go_wp2_with (go_at_call 141;refine Hid.out ?_)
  refine Lib.hid ?_
  have ⟨hE,hb0,hW⟩:=al1 w (.cells #[.int .i64 0,.int .i64 0,.int .i64 0,.int .u64 0,.int .u64 0,.nilFunc,.pointer none] 62)
  generalize (w.alloc (.cells #[.int .i64 0,.int .i64 0,.int .i64 0,.int .u64 0,.int .u64 0,.nilFunc,.pointer none] 62)) = W at hE hb0 hW ⊢
  replace k1:=(hE.block _ (heap_lt k1.out)).trans k1.out
  replace k2:=(hE.block _ (heap_lt k2.out)).trans k2.out
  replace k3:=(hE.block _ (heap_lt k3.out)).trans k3.out
  clear hW
  clear c0 c1 c2 c3 c4 c5 lt d2_0 e2 d3_0 e3
  refine (doneI_PT r W).mono ?_
  rintro e w' hR
  obtain ⟨v',F',rfl,hX,hp,hbn,hsub,hnF,hbq⟩:=hR.tail (G:=(fun j => F j ∨ j = B1 ∨ j = B2 ∨ j = B3)) (w.heap.size) hE (heap_lt hb0) (fun h => h) (fun _ h => h.elim)
  have hbx:=hbq.trans hb0
  clear hbq hR
  clear hE hb0 k1 k2 k3
  obtain ⟨y,a2,fn2,rfl,HFN,HX⟩:=tlI hp hX hbx hbn hsub hnF (by omega)
  obtain ⟨c0,c1,c2,c3,c4,c5,c6,cz,ll⟩:=sev_of hbx
  clear hX hbx hp hbn hsub hnF
  rcases HFN.out with rfl | ⟨g',caps',rfl⟩
  all_goals
   go_wp2
   clear c0 c1 c2 c3 c4 c5 c6 cz ll
   obtain ⟨hX,hB,hP⟩:=HX.out
   clear HX
   generalize (World.setCell _ (⟨w.heap.size,6,none⟩ : Addr) _) = Z at hX hB hP ⊢
   obtain ⟨c0,c1,c2,c3,c4,c5,c6,cz,ll⟩:=sev_of hB
   exact bodyPost_ret (by simp only [results,Tryz.results147,go_sem];simp [go_sem,c0,c1,c2,c3,c4,c5,c6]) rfl ⟨_,F',rfl,hX,hP⟩
theorem tw1_CT (p:Pl) (t:Int) (N:Nat) (tr:Tr Int) (F:Nat → Prop) (g:FuncId) (caps:Array Value) (B1 B2 B3:Nat) (w:World) (hA:AT tr F (.func (.func g) #[] caps) w) (hp:p.ok) (k1:PBox B1 p w) (k2:w.heap[B2]? = some (.cells #[.int .i64 t] 3 (0,0))) (k3:w.heap[B3]? = some (.cells #[.func (.func g) #[] caps] 145 (0,0))) (hF:Bnd F w) :
  CT kI kI (fun x => tw1T p t N tr x) (fun j => F j ∨ j = B1 ∨ j = B2 ∨ j = B3) (.func (.func 147) #[] #[.pointer (some ⟨B1,0,none⟩),.pointer (some ⟨B2,0,none⟩),.pointer (some ⟨B3,0,none⟩)]) w:=by
 refine ⟨_,_,rfl,enters_of Tryz.func147 (by kernel_rfl) rfl,fun x w' ha => ?_⟩
 have hFw:Agr F w w':=ha.sub fun j h => .inl h
 exact (tw1_PT p t N tr x F g caps B1 B2 B3 w' (hA.agr hFw) hp ((ha B1 (.inr (.inl rfl))).trans k1) ((ha B2 (.inr (.inr (.inl rfl)))).trans k2) ((ha B3 (.inr (.inr (.inr rfl)))).trans k3) (hF.agr hFw)).mono fun _ _ h => h.mono fun j h => h
theorem twc_PT (p:Pl) (t:Int) (N:Nat) (tr:Tr Int) (F:Nat → Prop) (g:FuncId) (caps:Array Value) (w:World) (hA:AT tr F (.func (.func g) #[] caps) w) (hp:p.ok)  (hF:Bnd F w) :
  Calls Tryz.prog 67 #[plV p,.int .i64 t,.func (.func g) #[] caps] w (RetP (PT kI (twcT p t N tr)) F w):=by
 have hA0:=Lib.hid hA
 obtain ⟨g',caps',e,hg,hc⟩:=hA
 cases e
 have HN:=Lib.hid hc
 unfold Enters at hg
 clear hc
 go_enter Tryz.func67,Tryz.ntmps67
 go_upto_region 1 with (fail)
 have ⟨hE,hb0,hb1,hb2,hb3,hW⟩:=al4 w (.cells #[.int .i64 p.n,.int .i64 p.t,.int .i64 p.r,.int .i64 p.d,.int .i64 p.b,.int .i64 p.g] 23) (.cells #[.int .i64 t] 3) (.cells #[.func (.func g) #[] caps] 145) (.cells #[.int .i64 0,.int .i64 0,.int .i64 0,.int .u64 0,.int .u64 0,.nilFunc,.pointer none] 62)
 generalize ((((w.alloc (.cells #[.int .i64 p.n,.int .i64 p.t,.int .i64 p.r,.int .i64 p.d,.int .i64 p.b,.int .i64 p.g] 23)).alloc (.cells #[.int .i64 t] 3)).alloc (.cells #[.func (.func g) #[] caps] 145)).alloc (.cells #[.int .i64 0,.int .i64 0,.int .i64 0,.int .u64 0,.int .u64 0,.nilFunc,.pointer none] 62)) = W at hE hb0 hb1 hb2 hb3 hW ⊢
 have d1_0:=cell_at (o:=0) hb2 rfl
 have e1:=cell_lt d1_0
 have hE0:=hE
 have HCX:=Lib.hid (HN.out W (Agr.of_ext hE hF))
 replace hE:=Lib.hid hE
 replace hb0:=Lib.hid hb0
 replace hb1:=Lib.hid hb1
 replace hb2:=Lib.hid hb2
 replace hb3:=Lib.hid hb3
 go_wp2_with (refine HCX.out.mono ?_;rintro e w1 ⟨v1,F1,rfl,hx,hp1,hbn1,hsub⟩;refine Hid.out ?_)
 refine Lib.hid ?_
 replace hE:=hE.out
 replace hb0:=hb0.out
 replace hb1:=hb1.out
 replace hb2:=hb2.out
 replace hb3:=hb3.out
 clear d1_0 e1
 have hn1:¬ F1 (w.heap.size+1+1+1):=fun h => (hsub _ h).elim (fun h => by have:=hF _ h;omega) fun h => by have:=heap_lt hb3;omega
 have hs1:∀ j,F1 j → F j ∨ w.heap.size ≤ j:=fun j hj => (hsub j hj).imp_right fun h => Nat.le_trans hE.size h
 replace hE:=ext_trans hE hx
 replace hb0:=(hx.block _ (heap_lt hb0)).trans hb0
 replace hb1:=(hx.block _ (heap_lt hb1)).trans hb1
 replace hb2:=(hx.block _ (heap_lt hb2)).trans hb2
 replace hb3:=(hx.block _ (heap_lt hb3)).trans hb3
 clear hx hsub
 replace hE:=Lib.hid hE
 replace hb0:=Lib.hid hb0
 replace hb1:=Lib.hid hb1
 replace hb2:=Lib.hid hb2
 replace hb3:=Lib.hid hb3
 replace hp1:=Lib.hid hp1
 replace hbn1:=Lib.hid hbn1
 replace hs1:=Lib.hid hs1
 replace hn1:=Lib.hid hn1
 go_wp2_with (go_at_call 146;refine Hid.out ?_)
 refine Lib.hid ?_
 replace hE:=hE.out
 replace hb0:=hb0.out
 replace hb1:=hb1.out
 replace hb2:=hb2.out
 replace hb3:=hb3.out
 replace hp1:=hp1.out
 replace hbn1:=hbn1.out
 replace hs1:=hs1.out
 replace hn1:=hn1.out
 have hCT:=tw1_CT p t N tr F g caps w.heap.size (w.heap.size+1) (w.heap.size+1+1) w1 (hA0.out.agr (Agr.of_ext hE hF)) hp hb0 hb1 hb2 (hF.ext hE.size)
 refine (then_II _ _ F1 _ v1 _ w1 hp1 hCT hbn1 (fun j h => by rcases h with h | rfl | rfl | rfl;exact Nat.lt_of_lt_of_le (hF j h) hE.size;exact heap_lt hb0;exact heap_lt hb1;exact heap_lt hb2)).mono ?_
 rintro e w' hR
 obtain ⟨v',F',rfl,hX,hp,hbn,hsub,hnF,hbq⟩:=hR.tail (G:=F) (w.heap.size+1+1+1) hE (heap_lt hb3) (fun h => by rcases h with h | h | h | h | h;exact hn1 h;(have:=hF _ h;omega);omega;omega;omega) (fun j h => by rcases h with h | h | h | h | h;exact hs1 j h;exact .inl (h);exact .inr (by omega);exact .inr (by omega);exact .inr (by omega))
 have hbx:=hbq.trans hb3
 clear hbq hR
 clear hE hb0 hb1 hb2 hb3 hp1 hbn1 hs1 hn1 hCT hE0 HCX HN
 obtain ⟨y,a2,fn2,rfl,HFN,HX⟩:=tlI hp hX hbx hbn hsub hnF (by omega)
 obtain ⟨c0,c1,c2,c3,c4,c5,c6,cz,ll⟩:=sev_of hbx
 clear hX hbx hp hbn hsub hnF
 rcases HFN.out with rfl | ⟨g',caps',rfl⟩
 all_goals
  go_wp2
  clear c0 c1 c2 c3 c4 c5 c6 cz ll
  obtain ⟨hX,hB,hP⟩:=HX.out
  clear HX
  generalize (World.setCell _ (⟨w.heap.size+1+1+1,6,none⟩ : Addr) _) = Z at hX hB hP ⊢
  obtain ⟨c0,c1,c2,c3,c4,c5,c6,cz,ll⟩:=sev_of hB
  exact bodyPost_ret (by simp only [results,Tryz.results67,go_sem];simp [go_sem,c0,c1,c2,c3,c4,c5,c6]) rfl ⟨_,F',rfl,hX,hP⟩
end Go.Proofs.YthjklbonebnekaaGreat

